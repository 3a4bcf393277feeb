/- Lists of slices of bytes that came in, opened; Weigh at any list. Conditions: the lists hold their rows. -/
import Derived.Test.YtadehoibjpmhhaaDoorSW
import Derived.Deep.Matrix
namespace Go.Proofs.YtadehoibjpmhhaaDoor
open Go.ChangeShapes Go.WideShapes Go.ChangeAt Go.RowKit

/-- The value is a slice of slices that hold ls. -/
def LsA (w : World) (v : Value) (ls : List (List UInt8)) : Prop := ∃ A c, v = .slice A ls.length c ∧ ls.length ≤ c ∧ c ≤ 9223372036854775807 ∧ (A = none → c = 0) ∧
  (0 < ls.length → ∃ b off, A = some ⟨b, off, none⟩ ∧ ∀ i l, ls[i]? = some l → ∃ u, w.cell? ⟨b, off + i, none⟩ = some u ∧ SlA w u l)
theorem LsA.below {w w' : World} {v : Value} {ls : List (List UInt8)} (h : LsA w v ls) (hb : Below w.heap.size w w') : LsA w' v ls := by
  obtain ⟨A, c, h1, h2, h3, h4, h5⟩ := h
  refine ⟨A, c, h1, h2, h3, h4, fun h0 => ?_⟩
  obtain ⟨b, off, e, hh⟩ := h5 h0
  refine ⟨b, off, e, fun i l hl => ?_⟩
  obtain ⟨u, hu, hS⟩ := hh i l hl
  exact ⟨u, (hb.cell (p := ⟨b, off + i, none⟩) (cell_lt hu)).trans hu, hS.below hb⟩
theorem lsa_nil (w : World) : LsA w (.slice none 0 0) [] := ⟨none, 0, rfl, by simp, by omega, fun _ => rfl, fun h => absurd h (by simp)⟩
theorem cells29 : Tryd.prog.cellsOf 29 = 1 := by kernel_rfl

section
variable {H : Type} {enc : TypeId × Value → H} {W : World}
set_option maxRecDepth 100000 in
/-- A slice of slices of bytes that came in. -/
theorem open_lsa {r : Reach} {b0 b1 : Nat} {v : Value} {d : DataW H} {p : List MemPlace} (hv : Value.okWide Tryd.prog W r b0 41 v) (h : DataW.Trod enc Tryd.prog W b1 (fun _ => true) true 41 v d p) : ∃ ls, LsA W v ls := by
  obtain ⟨a0, len, cap, rfl⟩ := okWide_slice Tryd.underlying41 hv
  obtain ⟨fuel, hf⟩ := h
  rcases Go.Deep.open_int_rows Tryd.underlying41 Tryd.underlying29 Tryd.underlying5 cells29 cells5 hf with ⟨hcs, hx⟩ | ⟨a, len', cap', A, L, C, Z, hcs, _, hl, hm, _, hr⟩
  · simp [Value.cells] at hcs
    obtain ⟨rfl, rfl, rfl⟩ := hcs
    exact ⟨[], lsa_nil W⟩
  · simp [Value.cells] at hcs
    obtain ⟨rfl, rfl, rfl⟩ := hcs
    refine ⟨(List.range len).map fun i => u8s ((Z i).take (L i)), some a, cap, by simp, by simpa using hl, by unfold maxLen at hm; omega, (fun h => by cases h), fun h0 => ?_⟩
    have h0' : 0 < len := by simpa using h0
    obtain ⟨b, off, spot⟩ := a
    have hspot : spot = none := by simpa [Addr.add] using World.cell?_spot (hr 0 (by omega)).1
    subst hspot
    refine ⟨b, off, rfl, fun i l hl' => ?_⟩
    have hi : i < len := by
      rcases Nat.lt_or_ge i len with h1 | h1
      · exact h1
      · rw [List.getElem?_eq_none (by simp; omega)] at hl'; cases hl'
    have el : l = u8s ((Z i).take (L i)) := by
      rw [List.getElem?_map, List.getElem?_range hi] at hl'
      exact (Option.some.inj hl').symm
    subst el
    obtain ⟨q1, q2, q3, q4, q5, q6, q7⟩ := hr i (by omega)
    refine ⟨_, by rw [← Go.WideShapes.add_plain]; exact q1, ?_⟩
    cases hA : A i with
    | none =>
      have hc0 := q6 hA
      have hz : Z i = [] := List.eq_nil_of_length_eq_zero (by omega)
      have hL0 : L i = 0 := by omega
      rw [hz, hL0, hc0]
      exact sla_nil W
    | some a' =>
      have := sla_ints a' (L i) (C i) (Z i) W q2 (by unfold maxLen at q3; omega) q4 (fun j hj => (q7 a' hA).2 j (by omega)) q5
      exact this
end

/-- What a list weighs: its rows' bytes, and one for each. -/
def wgt : List (List UInt8) → Nat
  | [] => 0
  | x :: t => 1 + x.length + wgt t
theorem wgt_app (a b : List (List UInt8)) : wgt (a ++ b) = wgt a + wgt b := by
  induction a with
  | nil => simp [wgt]
  | cons x t ih => simp only [List.cons_append, wgt, ih]; omega
theorem wgt_mem {ls : List (List UInt8)} : ∀ {x : List UInt8}, x ∈ ls → x.length + 1 ≤ wgt ls := by
  induction ls with
  | nil => intro x h; cases h
  | cons y t ih => intro x h; rcases List.mem_cons.1 h with rfl | h
                   · simp only [wgt]; omega
                   · have := ih h; simp only [wgt]; omega
theorem wgt_len (ls : List (List UInt8)) : ls.length ≤ wgt ls := by
  induction ls with
  | nil => simp
  | cons y t ih => simp only [wgt, List.length_cons]; omega
theorem wgt_take (ls : List (List UInt8)) (k : Nat) (x : List UInt8) (h : ls[k]? = some x) : wgt (ls.take (k + 1)) = wgt (ls.take k) + (1 + x.length) := by
  have hk : k < ls.length := by
    rcases Nat.lt_or_ge k ls.length with h1 | h1
    · exact h1
    · rw [List.getElem?_eq_none h1] at h; cases h
  rw [List.take_succ_eq_append_getElem hk, wgt_app]
  rw [List.getElem?_eq_getElem hk] at h
  rw [Option.some.inj h]
  simp [wgt]

set_option maxRecDepth 100000 in
set_option maxHeartbeats 2000000 in
/-- Weigh of a list: more than the limit just if the list weighs more. -/
theorem weigh_any (v : Value) (ls : List (List UInt8)) (lim : Nat) (hlim : lim ≤ 1000000) (hrow : ∀ x ∈ ls, x.length ≤ 9223372036850000000) (w : World) (h : LsA w v ls) :
    Calls Tryd.prog 34 #[v, .int .i64 lim] w fun e w' => (∃ z : Int, e = .returned (.int .i64 z) ∧ Hid (decide ((lim : Int) < z) = decide (lim < wgt ls))) ∧ w' = w := by
  obtain ⟨A, c, rfl, h2, h3, h4, h5⟩ := h
  have HW := hid h5
  obtain ⟨n, hn⟩ : ∃ n, ls.length = n := ⟨_, rfl⟩
  rw [hn]
  have HN := hid hn
  have HL := hid (wgt_len ls)
  have HR := hid hrow
  clear h2 h3 h4 h5 hn hrow
  by_cases hbig : lim < n
  · have hlz : Hid (decide ((lim : Int) < (lim : Int) + 1) = decide (lim < wgt ls)) := by
      unfold Hid
      rw [decide_eq_true (by omega), decide_eq_true (by have := HL.out; have := HN.out; omega)]
    go_enter Tryd.func34, Tryd.ntmps34
    go_wp2
    go_ret
    exact ⟨⟨_, rfl, hlz⟩, rfl⟩
  · have hg : ¬ ((lim : Int) < (n : Int)) := by omega
    go_enter Tryd.func34, Tryd.ntmps34
    go_wp2
    go_loopw [5, 6] (fun vz vi wr => ∃ (k : Nat) (z : Int), k ≤ n ∧ vi = .int .i64 k ∧ vz = .int .i64 z ∧ 0 ≤ z ∧ Hid (z = (wgt (ls.take k) : Nat) ∧ (z ≤ lim ∨ ls.take k = ls ∨ (lim : Int) < z)) ∧ z ≤ 9223372036854000000 ∧ wr = w) (fun _ vi _ => n - (intOf vi).toNat)
    case atStart => exact ⟨0, 0, Nat.zero_le _, rfl, rfl, by omega, ⟨by simp [wgt], .inl (by omega)⟩, by omega, rfl⟩
    case round =>
      obtain ⟨k, z, hk, rfl, rfl, z0, HZ, zm, rfl⟩ := hrel
      by_cases hlt : k < n
      · by_cases hz : z ≤ lim
        · have hkl : k < ls.length := by rw [HN.out]; exact hlt
          obtain ⟨b, off, rfl, hh⟩ := HW.out (by omega)
          obtain ⟨u, hu, hS⟩ := hh k ls[k] (List.getElem?_eq_getElem hkl)
          obtain ⟨A', c', rfl, _⟩ := hS
          obtain ⟨q, hq⟩ : ∃ q, (ls[k]).length = q := ⟨_, rfl⟩
          rw [hq] at hu
          have hqb : q ≤ 9223372036850000000 := by rw [← hq]; exact HR.out _ (List.getElem_mem hkl)
          have HT : Hid (z + (1 + (q : Int)) = (wgt (ls.take (k + 1)) : Nat)) := by
            unfold Hid
            rw [wgt_take ls k ls[k] (List.getElem?_eq_getElem hkl), hq]
            have := HZ.out.1
            omega
          clear hq
          go_wp2
          go_roundw
          case rel =>
            refine ⟨k + 1, z + (1 + q), by omega, by go_num, rfl, by omega, ⟨HT.out, ?_⟩, by omega, trivial⟩
            by_cases h : z + (1 + (q : Int)) ≤ lim
            · exact .inl h
            · exact .inr (.inr (by omega))
          case measure => simp [intOf]; omega
        · go_wp2
          go_ret
          refine ⟨⟨z, rfl, ?_⟩, rfl⟩
          unfold Hid
          have h1 := HZ.out.1
          have h2 : wgt (ls.take k) ≤ wgt ls := by
            have := wgt_app (ls.take k) (ls.drop k)
            rw [List.take_append_drop] at this
            omega
          omega
      · go_wp2
        go_ret
        refine ⟨⟨z, rfl, ?_⟩, rfl⟩
        unfold Hid
        have h1 := HZ.out.1
        rw [List.take_of_length_le (by have := HN.out; omega)] at h1
        rw [h1]
        exact decide_eq_decide.2 (by omega)
end Go.Proofs.YtadehoibjpmhhaaDoor
