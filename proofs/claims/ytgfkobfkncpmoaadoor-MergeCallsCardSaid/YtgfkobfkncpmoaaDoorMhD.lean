/- The document's merger in memory; its Left and Split. Conditions: the merger, the argument stand. -/
import Derived.Test.YtgfkobfkncpmoaaDoorMgV
import Derived.Test.YtgfkobfkncpmoaaDoorMgM
namespace Go.Proofs.YtgfkobfkncpmoaaDoor
open Go.RowKit

/-- A run of the document's merger: its slice, its cells. -/
def El (w : World) (B C : Nat) (u : Value) (l : List CT) : Prop := ClA w u l ∧ ∀ b, u.ownBlock = some b → B ≤ b ∧ b < C ∧ ∃ cur, Blk w b 28 cur
/-- The document's merger. -/
structure RM (w : World) (B C rb : Nat) (A : Option Addr) (n c : Nat) (ls : List (List CT)) : Prop where
  lo : B ≤ rb
  len : ls.length = n
  nc : n ≤ c ∧ c ≤ 9223372036854775807
  blk : Blk w rb 147 #[.slice A n c]
  row : 0 < n → ∃ g cur, A = some ⟨g, 0, none⟩ ∧ (B ≤ g ∧ g < C) ∧ Blk w g 39 cur ∧ ∀ (i : Nat) (l : List CT), ls[i]? = some l → ∃ u, cur[i]? = some u ∧ El w B C u l
theorem El.keep {w w' : World} {B C : Nat} {u : Value} {l : List CT} (h : El w B C u l) (hk : ∀ k, B ≤ k → k < w.heap.size → w'.heap[k]? = w.heap[k]?) : El w' B C u l :=
  ⟨h.1.stay9 fun b hb hlt => hk b (h.2 b hb).1 hlt, fun b hb => by
    obtain ⟨h1, hC, cur, h2⟩ := h.2 b hb
    exact ⟨h1, hC, cur, (hk b h1 h2.lt).trans h2⟩⟩
theorem RM.keep {w w' : World} {B C rb n c : Nat} {A : Option Addr} {ls : List (List CT)} (h : RM w B C rb A n c ls) (hk : ∀ k, B ≤ k → k < w.heap.size → w'.heap[k]? = w.heap[k]?) : RM w' B C rb A n c ls :=
  ⟨h.lo, h.len, h.nc, (hk rb h.lo h.blk.lt).trans h.blk, fun h0 => by
    obtain ⟨g, cur, e, h1, h2, h3⟩ := h.row h0
    refine ⟨g, cur, e, h1, (hk g h1.1 h2.lt).trans h2, fun i l hl => ?_⟩
    obtain ⟨u, hu, he⟩ := h3 i l hl
    exact ⟨u, hu, he.keep hk⟩⟩
theorem RM.below {w w' : World} {B C rb n c : Nat} {A : Option Addr} {ls : List (List CT)} (h : RM w B C rb A n c ls) (hb : Below w.heap.size w w') : RM w' B C rb A n c ls := h.keep fun k _ hk => hb.block k hk
theorem RM.at {w : World} {B C rb n c i : Nat} {A : Option Addr} {ls : List (List CT)} {l : List CT} (h : RM w B C rb A n c ls) (hl : ls[i]? = some l) : ∃ g Au cu, A = some ⟨g, 0, none⟩ ∧ B ≤ g ∧ w.cell? ⟨g, i, none⟩ = some (.slice Au l.length cu) ∧ w.frozen? ⟨g, i, none⟩ = false ∧ l.length ≤ cu ∧ El w B C (.slice Au l.length cu) l ∧ (0 < l.length → ∃ b off, Au = some ⟨b, off, none⟩ ∧ HC w b off l ∧ b ≠ g ∧ b ≠ rb) := by
  have hi : i < n := by rw [← h.len]; exact (List.getElem?_eq_some_iff.1 hl).1
  obtain ⟨g, cur, e, h1, h2, h3⟩ := h.row (by omega)
  obtain ⟨u, hu, he⟩ := h3 i l hl
  obtain ⟨Au, cu, rfl, q1, q2, q3⟩ := he.1
  refine ⟨g, Au, cu, e, h1.1, by rw [h2.cell]; exact hu, h2.free i, q1, he, fun h0 => ?_⟩
  obtain ⟨b, off, rfl, hh⟩ := q3 h0
  obtain ⟨_, _, cu2, hc⟩ := he.2 b rfl
  exact ⟨b, off, rfl, hh, x_ne0 hc h2 (by decide), x_ne0 hc h.blk (by decide)⟩
/-- One run is another one. -/
theorem RM.set {w : World} {B C rb g n c i : Nat} {ls : List (List CT)} {l l2 : List CT} {u : Value} (h : RM w B C rb (some ⟨g, 0, none⟩) n c ls) (hl : ls[i]? = some l) (hu : El w B C u l2) : RM (w.setCell ⟨g, i, none⟩ u) B C rb (some ⟨g, 0, none⟩) n c (ls.set i l2) := by
  have hi : i < n := by rw [← h.len]; exact (List.getElem?_eq_some_iff.1 hl).1
  obtain ⟨g', cur, e, h1, h2, h3⟩ := h.row (by omega)
  injection e with e
  injection e with e
  subst e
  have hs : ∀ k, k ≠ g → (w.setCell ⟨g, i, none⟩ u).heap[k]? = w.heap[k]? := fun k q => Below.heap_setCell _ _ _ _ fun e => q e
  have keepE : ∀ {v : Value} {m : List CT}, El w B C v m → El (w.setCell ⟨g, i, none⟩ u) B C v m := fun {v m} he => by
    have hne : ∀ b, v.ownBlock = some b → b ≠ g := fun b hb => by
      obtain ⟨_, _, cu2, hc⟩ := he.2 b hb
      exact x_ne0 hc h2 (by decide)
    refine ⟨he.1.stay9 fun b hb _ => hs b (hne b hb), fun b hb => ?_⟩
    obtain ⟨q1, qC, cu2, hc⟩ := he.2 b hb
    exact ⟨q1, qC, cu2, (hs b (hne b hb)).trans hc⟩
  refine ⟨h.lo, by rw [List.length_set]; exact h.len, h.nc, (hs rb (x_ne0 h.blk h2 (by decide))).trans h.blk, fun _ => ⟨g, _, rfl, h1, h2.set i u, fun j m hm => ?_⟩⟩
  rw [List.getElem?_set] at hm
  have hcs : i < cur.size := by
    obtain ⟨u0, hu0, _⟩ := h3 i l hl
    exact (Array.getElem?_eq_some_iff.1 hu0).1
  by_cases q : i = j
  · subst q
    rw [if_pos rfl, if_pos (by rw [h.len]; exact hi)] at hm
    cases hm
    exact ⟨u, by rw [Array.getElem?_setIfInBounds_self, if_pos hcs], keepE hu⟩
  · rw [if_neg q] at hm
    obtain ⟨u0, hu0, he⟩ := h3 j m hm
    exact ⟨u0, by rw [Array.getElem?_setIfInBounds_ne q]; exact hu0, keepE he⟩
/-- A cell of another's is another one. -/
theorem RM.other {w w' : World} {B C rb n c ob : Nat} {A : Option Addr} {ls : List (List CT)} {d : CT} (h : RM w B C rb A n c ls) (ho : Blk w ob 28 d.e.toArray) (hC : C ≤ ob) (hk : ∀ k, k ≠ ob → w'.heap[k]? = w.heap[k]?) : RM w' B C rb A n c ls :=
  ⟨h.lo, h.len, h.nc, (hk rb (x_ne0 h.blk ho (by decide))).trans h.blk, fun h0 => by
    obtain ⟨g, cur, e, h1, h2, h3⟩ := h.row h0
    refine ⟨g, cur, e, h1, (hk g (x_ne0 h2 ho (by decide))).trans h2, fun i l hl => ?_⟩
    obtain ⟨u, hu, he⟩ := h3 i l hl
    exact ⟨u, hu, he.1.stay9 fun b hb _ => hk b (by have := (he.2 b hb).2.1; omega), fun b hb => by
      obtain ⟨q1, q2, cu2, hc⟩ := he.2 b hb
      exact ⟨q1, q2, cu2, (hk b (by omega)).trans hc⟩⟩⟩
/-- How many cells the document's merger has. -/
def cntL (ls : List (List CT)) : Nat := (ls.map List.length).sum
theorem cntL_snoc {ls : List (List CT)} {i : Nat} {l : List CT} (hl : ls[i]? = some l) : cntL (ls.take (i + 1)) = cntL (ls.take i) + l.length := by
  unfold cntL
  rw [List.take_add_one, hl, List.map_append, List.sum_append]
  simp
theorem cntL_le {ls : List (List CT)} {m : Nat} (h : ∀ l ∈ ls, l.length ≤ m) : ∀ i, cntL (ls.take i) ≤ i * m
  | 0 => Nat.zero_le _
  | i + 1 => by
    have h1 := cntL_le h i
    cases hl : ls[i]? with
    | none =>
      rw [List.take_add_one, hl]
      simp only [Option.toList_none, List.append_nil]
      rw [Nat.add_mul]
      omega
    | some l =>
      rw [cntL_snoc hl, Nat.add_mul]
      have := h l (List.mem_of_getElem? hl)
      omega

set_option maxHeartbeats 4000000 in
set_option maxRecDepth 100000 in
theorem rleft_any {B C rb n c : Nat} {A : Option Addr} {ls : List (List CT)} (w : World) (h : RM w B C rb A n c ls) (hn : n ≤ 1000) (hs : ∀ l ∈ ls, l.length ≤ 1000) :
    Calls Tryd.prog 55 #[.pointer (some ⟨rb, 0, none⟩)] w fun e w' => e = .returned (.int .i64 (cntL ls : Int)) ∧ w' = w := by
  have mixed : Tryd.prog.follows .mixedOrders = true := by kernel_rfl
  have H := hid h
  have HS := hid hs
  have m0 : w.cell? ⟨rb, 0, none⟩ = some (.slice A n c) := h.blk.cell 0
  clear h hs
  go_enter Tryd.func55, Tryd.ntmps55
  go_wp2
  go_loopw [3, 4] (fun vt vi wr => ∃ i : Nat, i ≤ n ∧ vi = .int .i64 i ∧ vt = .int .i64 (cntL (ls.take i) : Nat) ∧ Hid (wr = w)) (fun _ vi _ => n - (intOf vi).toNat)
  case atStart => exact ⟨0, Nat.zero_le _, rfl, rfl, rfl⟩
  case round =>
    obtain ⟨i, hi, rfl, rfl, HW⟩ := hrel
    have hW9 := HW.out
    subst hW9
    by_cases hlt : i < n
    · have hltz : (i : Int) < (n : Int) := by omega
      obtain ⟨l, hl⟩ : ∃ l, ls[i]? = some l := ⟨_, List.getElem?_eq_getElem (by rw [H.out.len]; exact hlt)⟩
      obtain ⟨g, Au, cu, rfl, _, x0, _⟩ := H.out.at hl
      have HC := hid (cntL_snoc hl)
      have h1 := cntL_le HS.out i
      have h2 := HS.out l (List.mem_of_getElem? hl)
      obtain ⟨t, ht⟩ : ∃ t, cntL (ls.take i) = t := ⟨_, rfl⟩
      obtain ⟨k, hk⟩ : ∃ k, l.length = k := ⟨_, rfl⟩
      rw [ht, hk] at HC
      rw [ht] at h1 ⊢
      rw [hk] at h2 x0
      have hw : IntKind.i64.wrap ((t : Int) + (k : Int)) = (t : Int) + (k : Int) := by rw [IntKind.wrap_i64]; omega
      clear ht hk hl
      go_wp2
      go_roundw
      case rel => exact ⟨i + 1, by omega, by go_num, by rw [HC.out]; go_num, trivial⟩
      case measure => simp [intOf]; omega
    · obtain rfl : i = n := by omega
      have HE : Hid (ls.take i = ls) := by show _ = _; rw [← H.out.len, List.take_length]
      go_wp2
      go_ret
      exact ⟨by rw [HE.out]; rfl, rfl⟩

def RSpE (w : World) (at9 : ByteArray) (l : List CT) (e : Ending) (w' : World) : Prop := ∃ va vb, e = .returned (.tuple #[va, vb]) ∧ SpM w w' va vb (l.filter fun c => lowB at9 c) (l.filter fun c => !lowB at9 c)
end Go.Proofs.YtgfkobfkncpmoaaDoor
