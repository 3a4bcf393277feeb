/- Several texts in one: SLf StSa. Conditions: as each theorem names them. -/
import Derived.Test.YtofkfafdodhmdaaGreatDoorNH
import Derived.Test.YtofkfafdodhmdaaGreatDoorStJ
import Derived.Test.YtofkfafdodhmdaaGreatDoorNN
/- Weigh at lists of byte slices. Conditions: as each theorem names them. -/
namespace Go.Proofs.YtofkfafdodhmdaaGreatDoor
open Go.RowKit

/-- What a list weighs: its rows' bytes, and one for each. -/
def wgt : List (List UInt8) → Nat
  | [] => 0
  | x :: t => 1 + x.length + wgt t
theorem wgt_app (a b : List (List UInt8)) : wgt (a ++ b) = wgt a + wgt b := by
  induction a with
  | nil => simp [wgt]
  | cons x t ih => simp only [List.cons_append, wgt, ih]; omega
theorem wgt_mem {ls : List (List UInt8)} : ∀ {x : List UInt8}, x ∈ ls → x.length + 1 ≤ wgt ls := by
  induction ls with
  | nil => intro x h; cases h
  | cons y t ih => intro x h; rcases List.mem_cons.1 h with rfl | h
                   · simp only [wgt]; omega
                   · have := ih h; simp only [wgt]; omega
theorem wgt_len (ls : List (List UInt8)) : ls.length ≤ wgt ls := by
  induction ls with
  | nil => simp
  | cons y t ih => simp only [wgt, List.length_cons]; omega
theorem wgt_take (ls : List (List UInt8)) (k : Nat) (x : List UInt8) (h : ls[k]? = some x) : wgt (ls.take (k + 1)) = wgt (ls.take k) + (1 + x.length) := by
  have hk : k < ls.length := by
    rcases Nat.lt_or_ge k ls.length with h1 | h1
    · exact h1
    · rw [List.getElem?_eq_none h1] at h; cases h
  rw [List.take_succ_eq_append_getElem hk, wgt_app]
  rw [List.getElem?_eq_getElem hk] at h
  rw [Option.some.inj h]
  simp [wgt]

set_option maxRecDepth 100000 in
set_option maxHeartbeats 2000000 in
/-- Weigh of a list: more than the limit just if the list weighs more. -/
theorem weigh_any (v : Value) (ls : List (List UInt8)) (lim : Nat) (hlim : lim ≤ 1000000) (hrow : ∀ x ∈ ls, x.length ≤ 9223372036850000000) (w : World) (h : LsA w v ls) :
    Calls Tryz.prog 19 #[v, .int .i64 lim] w fun e w' => (∃ z : Int, e = .returned (.int .i64 z) ∧ Hid (decide ((lim : Int) < z) = decide (lim < wgt ls))) ∧ w' = w := by
  obtain ⟨A, c, rfl, h2, h3, h4, h5⟩ := h
  have HW := hid h5
  obtain ⟨n, hn⟩ : ∃ n, ls.length = n := ⟨_, rfl⟩
  rw [hn]
  have HN := hid hn
  have HL := hid (wgt_len ls)
  have HR := hid hrow
  clear h2 h3 h4 h5 hn hrow
  by_cases hbig : lim < n
  · have hlz : Hid (decide ((lim : Int) < (lim : Int) + 1) = decide (lim < wgt ls)) := by
      unfold Hid
      rw [decide_eq_true (by omega), decide_eq_true (by have := HL.out; have := HN.out; omega)]
    go_enter Tryz.func19, Tryz.ntmps19
    go_wp2
    go_ret
    exact ⟨⟨_, rfl, hlz⟩, rfl⟩
  · have hg : ¬ ((lim : Int) < (n : Int)) := by omega
    go_enter Tryz.func19, Tryz.ntmps19
    go_wp2
    go_loopw [5, 6] (fun vz vi wr => ∃ (k : Nat) (z : Int), k ≤ n ∧ vi = .int .i64 k ∧ vz = .int .i64 z ∧ 0 ≤ z ∧ Hid (z = (wgt (ls.take k) : Nat) ∧ (z ≤ lim ∨ ls.take k = ls ∨ (lim : Int) < z)) ∧ z ≤ 9223372036854000000 ∧ wr = w) (fun _ vi _ => n - (intOf vi).toNat)
    case atStart => exact ⟨0, 0, Nat.zero_le _, rfl, rfl, by omega, ⟨by simp [wgt], .inl (by omega)⟩, by omega, rfl⟩
    case round =>
      obtain ⟨k, z, hk, rfl, rfl, z0, HZ, zm, rfl⟩ := hrel
      by_cases hlt : k < n
      · by_cases hz : z ≤ lim
        · have hkl : k < ls.length := by rw [HN.out]; exact hlt
          obtain ⟨b, off, rfl, hh⟩ := HW.out (by omega)
          obtain ⟨u, hu, hS⟩ := hh k ls[k] (List.getElem?_eq_getElem hkl)
          obtain ⟨A', c', rfl, _⟩ := hS
          obtain ⟨q, hq⟩ : ∃ q, (ls[k]).length = q := ⟨_, rfl⟩
          rw [hq] at hu
          have hqb : q ≤ 9223372036850000000 := by rw [← hq]; exact HR.out _ (List.getElem_mem hkl)
          have HT : Hid (z + (1 + (q : Int)) = (wgt (ls.take (k + 1)) : Nat)) := by
            unfold Hid
            rw [wgt_take ls k ls[k] (List.getElem?_eq_getElem hkl), hq]
            have := HZ.out.1
            omega
          clear hq
          go_wp2
          go_roundw
          case rel =>
            refine ⟨k + 1, z + (1 + q), by omega, by go_num, rfl, by omega, ⟨HT.out, ?_⟩, by omega, trivial⟩
            by_cases h : z + (1 + (q : Int)) ≤ lim
            · exact .inl h
            · exact .inr (.inr (by omega))
          case measure => simp [intOf]; omega
        · go_wp2
          go_ret
          refine ⟨⟨z, rfl, ?_⟩, rfl⟩
          unfold Hid
          have h1 := HZ.out.1
          have h2 : wgt (ls.take k) ≤ wgt ls := by
            have := wgt_app (ls.take k) (ls.drop k)
            rw [List.take_append_drop] at this
            omega
          omega
      · go_wp2
        go_ret
        refine ⟨⟨z, rfl, ?_⟩, rfl⟩
        unfold Hid
        have h1 := HZ.out.1
        rw [List.take_of_length_le (by have := HN.out; omega)] at h1
        rw [h1]
        exact decide_eq_decide.2 (by omega)

/-- What weighing the list tells, in the walk's words. -/
def WeighLe (w : World) (v : Value) (lim : Int) : Prop :=
  ∀ W, Below w.heap.size w W → Calls Tryz.prog 19 #[v, .int .i64 lim] W fun e w' => ∃ z : Int, e = .returned (.int .i64 z) ∧ z ≤ lim ∧ Below W.heap.size W w'
def WeighGt (w : World) (v : Value) (lim : Int) : Prop :=
  ∀ W, Below w.heap.size w W → Calls Tryz.prog 19 #[v, .int .i64 lim] W fun e w' => ∃ z : Int, e = .returned (.int .i64 z) ∧ lim < z ∧ Below W.heap.size W w'
theorem weigh_le (v : Value) (ls : List (List UInt8)) (lim : Nat) (hlim : lim ≤ 1000000) (hrow : ∀ x ∈ ls, x.length ≤ 9223372036850000000) (w : World) (h : LsA w v ls) (hg : wgt ls ≤ lim) : WeighLe w v lim :=
  fun W hW => (weigh_any v ls lim hlim hrow W (h.below hW)).mono fun e w' ⟨⟨z, he, hz⟩, hw⟩ => ⟨z, he, by
    have := hz.out
    rw [decide_eq_false (by omega : ¬ lim < wgt ls)] at this
    have := of_decide_eq_false this
    omega, by rw [hw]; exact Below.refl _ _⟩
theorem weigh_gt (v : Value) (ls : List (List UInt8)) (lim : Nat) (hlim : lim ≤ 1000000) (hrow : ∀ x ∈ ls, x.length ≤ 9223372036850000000) (w : World) (h : LsA w v ls) (hg : lim < wgt ls) : WeighGt w v lim :=
  fun W hW => (weigh_any v ls lim hlim hrow W (h.below hW)).mono fun e w' ⟨⟨z, he, hz⟩, hw⟩ => ⟨z, he, by
    have := hz.out
    rw [decide_eq_true hg] at this
    exact of_decide_eq_true this, by rw [hw]; exact Below.refl _ _⟩
end Go.Proofs.YtofkfafdodhmdaaGreatDoor

/- joistref00.SameTexts at two slices of the same texts. Conditions: the slices hold them, a million at most. -/
namespace Go.Proofs.YtofkfafdodhmdaaGreatDoor
open Go.RowKit

/-- The slice holds the texts. -/
def STx (w : World) (v : Value) (l : List ByteArray) : Prop := ∃ A c, v = .slice A l.length c ∧ ∀ i (h : i < l.length), ∃ b o, A = some ⟨b, o, none⟩ ∧ w.cell? ⟨b, o + i, none⟩ = some (.string l[i])
theorem STx.below {w w' : World} {v : Value} {l : List ByteArray} (h : STx w v l) (hb : Below w.heap.size w w') : STx w' v l := by
  obtain ⟨A, c, e, hh⟩ := h
  refine ⟨A, c, e, fun i hi => ?_⟩
  obtain ⟨b, o, e2, h⟩ := hh i hi
  exact ⟨b, o, e2, (hb.cell (p := ⟨b, o + i, none⟩) (cell_lt h)).trans h⟩
/-- The slice's texts stand where its block is as it was. -/
theorem STx.chg {w w' : World} {v : Value} {l : List ByteArray} {S : Nat → Prop} (h : STx w v l) (hc : Chg S w w') (hs : ∀ g, v.ownBlock = some g → ¬ S g) : STx w' v l := by
  obtain ⟨A, c, e, hh⟩ := h
  refine ⟨A, c, e, fun i hi => ?_⟩
  obtain ⟨b, o, e2, h⟩ := hh i hi
  refine ⟨b, o, e2, (World.cell?_of_block (hc.block b (cell_lt h) (hs b ?_))).trans h⟩
  rw [e, e2]; rfl
theorem srow_stx {w : World} {B : Nat} {v : Value} {l : List ByteArray} (h : SRowS w B v l) : STx w v l := by
  rcases h.2 with ⟨e, e0⟩ | ⟨g, cap, cur, e, _⟩
  · exact ⟨none, 0, by rw [e, e0], fun i hi => by omega⟩
  · subst e
    refine ⟨_, cap, rfl, fun i hi => ⟨g, 0, rfl, ?_⟩⟩
    rw [Nat.zero_add]
    exact (own_cells h (by rw [List.getElem?_map, List.getElem?_eq_getElem hi]; rfl)).1

set_option maxRecDepth 100000 in
set_option maxHeartbeats 4000000 in
theorem samet_ok (v1 v2 : Value) (l : List ByteArray) (hl : l.length ≤ 1000000) (w : World) (h1 : STx w v1 l) (h2 : STx w v2 l) : Calls Tryz.prog 32 #[v1, v2] w fun e w' => e = .returned (.bool true) ∧ Below w.heap.size w w' := by
  obtain ⟨A1, c1, rfl, g1⟩ := h1
  obtain ⟨A2, c2, rfl, g2⟩ := h2
  have G1 := hid g1
  have G2 := hid g2
  obtain ⟨n, hn⟩ : ∃ n, l.length = n := ⟨_, rfl⟩
  have HN := hid hn
  rw [hn] at hl ⊢
  clear g1 g2 hn
  go_enter Tryz.func32, Tryz.ntmps32
  go_wp2
  go_loopw [5] (fun vi wr => ∃ k : Nat, vi = .int .i64 (k : Int) ∧ k ≤ n ∧ Below w.heap.size w wr) (fun vi _ => n - (intOf vi).toNat)
  case atStart => exact ⟨0, rfl, Nat.zero_le _, Below.refl _ _⟩
  case round =>
    obtain ⟨k, rfl, hk, hb⟩ := hrel
    by_cases hkn : k < n
    · have hkl : k < l.length := by rw [HN.out]; exact hkn
      obtain ⟨b1, o1, rfl, x1⟩ := G1.out k hkl
      obtain ⟨b2, o2, rfl, x2⟩ := G2.out k hkl
      obtain ⟨x, hx⟩ : ∃ x, l[k] = x := ⟨_, rfl⟩
      rw [hx] at x1 x2
      have y1 : wr.cell? ⟨b1, o1 + k, none⟩ = some (.string x) := (hb.cell (p := ⟨b1, o1 + k, none⟩) (cell_lt x1)).trans x1
      have y2 : wr.cell? ⟨b2, o2 + k, none⟩ = some (.string x) := (hb.cell (p := ⟨b2, o2 + k, none⟩) (cell_lt x2)).trans x2
      have HB := hid hb
      clear hx x1 x2 hb hkl
      go_upto_region 6 with (fail)
      go_region
      all_goals
        go_wp2
        go_roundw
        case rel => exact ⟨k + 1, by go_num, by omega, by first | exact HB.out | exact HB.out.drew⟩
        case measure => simp [intOf]; omega
    · obtain rfl : k = n := by omega
      go_wp2
      go_ret
      exact ⟨rfl, hb⟩
end Go.Proofs.YtofkfafdodhmdaaGreatDoor
