/- Several texts in one: MfUa MfUb MfUc. Conditions: as each theorem names them. -/
import Derived.Test.YtofkfafdodhmdaaGreatDoorSW
import Derived.Test.YtofkfafdodhmdaaGreatDoorNB
import Derived.Lib.SmallJoins
import Derived.Test.YtofkfafdodhmdaaGreatDoorMfXa
import Derived.Test.YtofkfafdodhmdaaGreatDoorNH
import Derived.SizedLaws
import Derived.Deep.Matrix
/- A state that came in, opened. Conditions: the reading's own reach. -/
namespace Go.Proofs.YtofkfafdodhmdaaGreatDoor
open Go.ChangeShapes Go.WideShapes Go.ChangeAt Go.RowKit

theorem cellsSt : Tryz.prog.cellsOf 24 = 4 := by kernel_rfl
theorem cellsI1 : Tryz.prog.cellsOf 3 = 1 := by kernel_rfl
theorem cellsLI : Tryz.prog.cellsOf 22 = 1 := by kernel_rfl
theorem array4 {α : Type} {cs : Array α} (h : cs.size = 4) : ∃ c0 c1 c2 c3, cs = #[c0, c1, c2, c3] := by
  obtain ⟨l⟩ := cs
  match l, h with
  | [c0, c1, c2, c3], _ => exact ⟨c0, c1, c2, c3, rfl⟩
theorem int_wf {n : Int} (h : (Lit.int .i64 n).wf = true) : -9223372036854775808 ≤ n ∧ n < 9223372036854775808 := by
  simp [Lit.wf] at h
  have h1 : IntKind.i64.min = -9223372036854775808 := rfl
  have h2 : IntKind.i64.max = 9223372036854775807 := rfl
  omega
section
variable {H : Type} {enc : TypeId × Value → H} {W : World}
set_option maxRecDepth 100000 in
/-- A slice of ints among the words. -/
theorem open_irow {b1 fuel : Nat} {v : Value} {x : DataW H × List MemPlace} (h : DataW.trod enc Tryz.prog W b1 (fun _ => true) true fuel 22 [v] = some x) : ∃ zs, SlI W v zs ∧ ∀ z ∈ zs, -9223372036854775808 ≤ z ∧ z < 9223372036854775808 := by
  rcases open_ints Tryz.underlying22 Tryz.underlying3 cellsI1 h with ⟨hcs, hx⟩ | ⟨a, len, cap, zs, hcs, _, hl, hm, hz, hx, hcell, hwz⟩
  · simp at hcs
    subst hcs
    exact ⟨[], slI_nil W, fun z h => by cases h⟩
  · simp at hcs
    subst hcs
    simp only [if_true] at hz
    have hul : (zs.take len).length = len := by rw [List.length_take]; omega
    refine ⟨zs.take len, ⟨some a, cap, by rw [hul], by rw [hul]; exact hl, by unfold maxLen at hm; omega, fun h0 => ?_, fun h => by cases h⟩, fun z hz2 => int_wf (hwz z (List.mem_of_mem_take hz2))⟩
    rw [hul] at h0
    obtain ⟨b, off, rfl, hc⟩ := ints_at hcell (by omega)
    refine ⟨b, off, rfl, fun i hi => ?_⟩
    rw [hul] at hi
    rw [hc i (by omega)]
    simp only [List.getD_eq_getElem?_getD, List.getElem?_take_of_lt hi]
set_option maxRecDepth 100000 in
/-- Four words that read as a state are one. -/
theorem sta_words {b1 fuel : Nat} {cs : List Value} {x : DataW H × List MemPlace} (hl : cs.length = 4) (hf : DataW.trod enc Tryz.prog W b1 (fun _ => true) true fuel 24 cs = some x) :
    ∃ (s : Sta) (v : Value), cs = [.int .i64 s.g, .int .i64 s.a, .int .i64 s.n, v] ∧ SlI W v s.t := by
  match cs, hl with
  | [c0, c1, c2, c3], _ =>
    obtain ⟨xs, n, _, hx, _, hlen, hg⟩ := DataW.trod_struct Tryz.underlying24 hf
    match xs, hlen with
    | [y0, y1, y2, y3], _ =>
      have h0 := hg 0 _ rfl
      have h1 := hg 1 _ rfl
      have h2 := hg 2 _ rfl
      have h3 := hg 3 _ rfl
      simp [cellsI1, cellsLI] at h0 h1 h2 h3
      obtain ⟨g, e0, z0, w0⟩ := DataW.trod_int Tryz.underlying3 h0
      obtain ⟨a, e1, z1, w1⟩ := DataW.trod_int Tryz.underlying3 h1
      obtain ⟨n, e2, z2, w2⟩ := DataW.trod_int Tryz.underlying3 h2
      obtain ⟨t, ht, _⟩ := open_irow h3
      simp at e0 e1 e2
      subst e0 e1 e2
      exact ⟨⟨g, a, n, t⟩, c3, rfl, ht⟩
set_option maxRecDepth 100000 in
/-- A state that came in. -/
theorem open_sta {r : Reach} {b0 b1 : Nat} {v : Value} {d : DataW H} {p : List MemPlace} (hv : Value.okWide Tryz.prog W r b0 24 v) (h : DataW.Trod enc Tryz.prog W b1 (fun _ => true) true 24 v d p) :
    ∃ (s : Sta) (u : Value), v = staV s.g s.a s.n u ∧ SlI W u s.t := by
  obtain ⟨cs, rfl, hsz⟩ := okWide_struct Tryz.underlying24 hv
  obtain ⟨c0, c1, c2, c3, rfl⟩ := array4 (hsz.trans cellsSt)
  obtain ⟨fuel, hf⟩ := h
  obtain ⟨s, u, e, h1⟩ := sta_words (by simp [Value.cells]) hf
  refine ⟨s, u, ?_, h1⟩
  simp [Value.cells] at e
  obtain ⟨e0, e1, e2, e3⟩ := e
  rw [e0, e1, e2, e3]
end
end Go.Proofs.YtofkfafdodhmdaaGreatDoor

/- States, rows of bytes and ints that came in, opened. Conditions: the reading's own reach. -/
namespace Go.Proofs.YtofkfafdodhmdaaGreatDoor
open Go.ChangeShapes Go.WideShapes Go.ChangeAt Go.RowKit

theorem bind_some9 {α β : Type} {o : Option α} {g : α → Option β} {y : β} (h : o.bind g = some y) : ∃ x, o = some x ∧ g x = some y := by
  cases o with
  | none => cases h
  | some x => exact ⟨x, rfl, h⟩
theorem list_of9 {α : Type} {P : Nat → α → Prop} : ∀ n : Nat, (∀ i, i < n → ∃ c, P i c) → ∃ l : List α, l.length = n ∧ ∀ i (h : i < l.length), P i l[i]
  | 0, _ => ⟨[], rfl, fun i h => absurd h (by simp)⟩
  | n + 1, h => by
    obtain ⟨l, h1, h2⟩ := list_of9 n (fun i hi => h i (by omega))
    obtain ⟨c, hc⟩ := h n (by omega)
    refine ⟨l ++ [c], by simp [h1], fun i hi => ?_⟩
    rcases Nat.lt_or_ge i l.length with h3 | h3
    · rw [List.getElem_append_left h3]; exact h2 i h3
    · have : i = n := by simp at hi; omega
      subst this
      rw [List.getElem_append_right h3]
      simp only [h1, Nat.sub_self, List.getElem_cons_zero]
      exact hc
theorem addr_at9 (b off n : Nat) : (⟨b, off, none⟩ : Addr).add n = ⟨b, off + n, none⟩ := by
  by_cases h : n = 0
  · subst h; rfl
  · simp [Addr.add, h]
section
variable {H : Type} {enc : TypeId × Value → H} {W : World}
set_option maxRecDepth 100000 in
/-- The states that came in. -/
theorem open_stas {r : Reach} {b0 b1 : Nat} {v : Value} {d : DataW H} {p : List MemPlace} (hv : Value.okWide Tryz.prog W r b0 46 v) (h : DataW.Trod enc Tryz.prog W b1 (fun _ => true) true 46 v d p) :
    ∃ ss : List Sta, StArg W v ss := by
  obtain ⟨a0, len, cap, rfl⟩ := okWide_slice Tryz.underlying46 hv
  obtain ⟨fuel, hf⟩ := h
  rcases DataW.trod_slice Tryz.underlying46 hf with ⟨hcs, hx⟩ | ⟨a, len', cap', elems, rest, n, hfu, hcs, hx, hb, hl, hm, he, hi, _, _⟩
  · simp [Value.cells] at hcs
    obtain ⟨rfl, rfl, rfl⟩ := hcs
    exact ⟨[], none, 0, rfl, by simp, fun i h => absurd h (by simp)⟩
  · simp [Value.cells] at hcs
    obtain ⟨rfl, rfl, rfl⟩ := hcs
    rw [cellsSt] at hi
    have hP : ∀ i, i < len → ∃ s : Sta, ∃ u, (∀ j, j < 4 → W.cell? (a.add (i * 4 + j)) = ([.int .i64 s.g, .int .i64 s.a, .int .i64 s.n, u] : List Value)[j]?) ∧ SlI W u s.t := fun i hi' => by
      have h1 := hi i hi'
      have hie : i < elems.length := by omega
      rw [List.getElem?_eq_getElem hie] at h1
      obtain ⟨cs, hcs, htr⟩ := bind_some9 h1
      obtain ⟨_, hlen, hcell⟩ := World.cells?_some hcs
      obtain ⟨s, u, rfl, hu⟩ := sta_words hlen htr
      refine ⟨s, u, fun j hj => ?_, hu⟩
      have := hcell j hj
      rw [Addr.add_add] at this
      exact this
    obtain ⟨l, hlen, hall⟩ := list_of9 len hP
    have hmx : cap ≤ 9223372036854775807 := by unfold maxLen at hm; omega
    refine ⟨l, some a, cap, by rw [hlen], by omega, fun i h0 => ?_⟩
    obtain ⟨b, off, spot⟩ := a
    have hz0 : 0 < l.length := by omega
    have hspot : spot = none := by
      obtain ⟨u0, h00, _⟩ := hall 0 hz0
      have h0' : W.cell? ((⟨b, off, spot⟩ : Addr).add 0) = some (.int .i64 l[0].g) := h00 0 (by omega)
      simpa [Addr.add] using World.cell?_spot h0'
    subst hspot
    obtain ⟨u, h1, h2⟩ := hall i h0
    have hj : ∀ j, j < 4 → W.cell? ⟨b, off + i * 4 + j, none⟩ = ([.int .i64 l[i].g, .int .i64 l[i].a, .int .i64 l[i].n, u] : List Value)[j]? := fun j hj => by
      have := h1 j hj
      rw [addr_at9, ← Nat.add_assoc] at this
      exact this
    exact ⟨b, off, u, rfl, ⟨hj 0 (by omega), hj 1 (by omega), hj 2 (by omega), hj 3 (by omega), h2⟩⟩
set_option maxRecDepth 100000 in
/-- Ints that came in. -/
theorem open_ilist {r : Reach} {b0 b1 : Nat} {v : Value} {d : DataW H} {p : List MemPlace} (hv : Value.okWide Tryz.prog W r b0 22 v) (h : DataW.Trod enc Tryz.prog W b1 (fun _ => true) true 22 v d p) :
    ∃ zs, SlI W v zs ∧ ∀ z ∈ zs, -9223372036854775808 ≤ z ∧ z < 9223372036854775808 := by
  obtain ⟨a0, len, cap, rfl⟩ := okWide_slice Tryz.underlying22 hv
  obtain ⟨fuel, hf⟩ := h
  exact open_irow hf
end
end Go.Proofs.YtofkfafdodhmdaaGreatDoor

/- Rows of bytes that came in, opened. Conditions: the reading's own reach. -/
namespace Go.Proofs.YtofkfafdodhmdaaGreatDoor
open Go.ChangeShapes Go.WideShapes Go.ChangeAt Go.RowKit

theorem bytes59 : Tryz.prog.bytesOf 5 = 1 := by kernel_rfl
theorem cellsB9 : Tryz.prog.cellsOf 25 = 1 := by kernel_rfl
theorem weightsAll_mem9 {H : Type} {P : Program} {e : TypeId} {d : DataW H} {n : Nat} : ∀ {l : List (DataW H)}, d ∈ l → n ∈ d.weights P e → n ∈ DataW.weightsAll P e l
  | x :: l, hd, hn => by
    simp only [DataW.weightsAll, List.mem_append]
    rcases List.mem_cons.1 hd with rfl | hd
    · exact .inl hn
    · exact .inr (weightsAll_mem9 hd hn)

section
variable {H : Type} {enc : TypeId × Value → H} {W : World}
set_option maxRecDepth 100000 in
theorem open_lsb {r : Reach} {b0 b1 : Nat} {v : Value} {d : DataW H} {p : List MemPlace} (hv : Value.okWide Tryz.prog W r b0 47 v) (h : DataW.Trod enc Tryz.prog W b1 (fun _ => true) true 47 v d p)
    (hw : ∀ n ∈ d.weights Tryz.prog 47, n ≤ reachBytes) : ∃ ls, LsA W v ls ∧ ∀ x ∈ ls, x.length ≤ 9223372036850000000 := by
  obtain ⟨a0, len, cap, rfl⟩ := okWide_slice Tryz.underlying47 hv
  obtain ⟨fuel, hf⟩ := h
  rcases Go.Deep.open_int_rows Tryz.underlying47 Tryz.underlying25 Tryz.underlying5 cellsB9 cells5 hf with ⟨hcs, hx⟩ | ⟨a, len', cap', A, L, C, Z, hcs, _, hl, hm, hx, hr⟩
  · simp [Value.cells] at hcs
    obtain ⟨rfl, rfl, rfl⟩ := hcs
    exact ⟨[], lsa_nil W, fun x h => by cases h⟩
  · simp [Value.cells] at hcs
    obtain ⟨rfl, rfl, rfl⟩ := hcs
    have hd := (Prod.mk.inj hx).1
    refine ⟨(List.range len).map fun i => u8s ((Z i).take (L i)), ⟨some a, cap, by simp, by simpa using hl, by unfold maxLen at hm; omega, (fun h => by cases h), fun h0 => ?_⟩, fun x hxm => ?_⟩
    · have h0' : 0 < len := by simpa using h0
      obtain ⟨b, off, spot⟩ := a
      have hspot : spot = none := by simpa [Addr.add] using World.cell?_spot (hr 0 (by omega)).1
      subst hspot
      refine ⟨b, off, rfl, fun i l hl' => ?_⟩
      have hi : i < len := by
        rcases Nat.lt_or_ge i len with h1 | h1
        · exact h1
        · rw [List.getElem?_eq_none (by simp; omega)] at hl'; cases hl'
      have el : l = u8s ((Z i).take (L i)) := by
        rw [List.getElem?_map, List.getElem?_range hi] at hl'
        exact (Option.some.inj hl').symm
      subst el
      obtain ⟨q1, q2, q3, q4, q5, q6, q7⟩ := hr i (by omega)
      refine ⟨_, by rw [← Go.WideShapes.add_plain]; exact q1, ?_⟩
      cases hA : A i with
      | none =>
        have hc0 := q6 hA
        have hz : Z i = [] := List.eq_nil_of_length_eq_zero (by omega)
        have hL0 : L i = 0 := by omega
        rw [hz, hL0, hc0]
        exact sla_nil W
      | some a' =>
        have := sla_ints a' (L i) (C i) (Z i) W q2 (by unfold maxLen at q3; omega) q4 (fun j hj => (q7 a' hA).2 j (by omega)) q5
        exact this
    · obtain ⟨i, hi, rfl⟩ := List.mem_map.1 hxm
      have hi' : i < len := List.mem_range.1 hi
      obtain ⟨q1, q2, q3, q4, q5, q6, q7⟩ := hr i (by omega)
      have hzl : (u8s ((Z i).take (L i))).length ≤ (Z i).length := by unfold u8s; rw [List.length_map, List.length_take]; omega
      cases hA : A i with
      | none => have := q6 hA; omega
      | some a' =>
        have hmem : (Z i).length ∈ (Go.Deep.intRow .u8 (A i) (L i) (Z i) : DataW H).weights Tryz.prog 25 := by
          rw [hA]
          simp only [Go.Deep.intRow, DataW.weights, Tryz.underlying25, bytes59, Nat.mul_one]
          refine List.mem_cons.2 (.inl ?_)
          simp only [lits, List.length_map, List.length_take, List.length_drop]
          omega
        have hb : (Z i).length ≤ reachBytes := by
          apply hw
          rw [hd]
          simp only [DataW.weights, Tryz.underlying47]
          refine List.mem_cons_of_mem _ (List.mem_append_left _ ?_)
          exact weightsAll_mem9 (List.mem_map.2 ⟨i, hi, rfl⟩) hmem
        have := reachBytes_lt
        omega
end
end Go.Proofs.YtofkfafdodhmdaaGreatDoor
