/- What layer 13's laws don't look at: long. Conditions: the filter's texts and the cells stand. -/
import Derived.Test.YtgfkobfkncpmoaaDoorFtE
import Derived.Test.YtgfkobfkncpmoaaDoorLM
namespace Go.Proofs.YtgfkobfkncpmoaaDoor
open Go.RowKit

/-- Is a filter longer than is looked at? -/
def lrB (f : FT) : Bool := decide (20 < f.fams.length) || decide (100 < f.fr.size) || decide (100 < f.tq.size) || f.fams.any fun x => decide (100 < x.size)
theorem lr_ok {f : FT} (h : lrB f = false) : f.fams.length ≤ 20 ∧ f.fr.size ≤ 100 ∧ f.tq.size ≤ 100 ∧ ∀ x ∈ f.fams, x.size ≤ 100 := by
  unfold lrB at h
  simp only [Bool.or_eq_false_iff, decide_eq_false_iff_not, List.any_eq_false, decide_eq_true_eq] at h
  obtain ⟨⟨⟨h1, h2⟩, h3⟩, h4⟩ := h
  exact ⟨by omega, by omega, by omega, fun x hx => by have := h4 x hx; omega⟩
theorem any_take13 {l : List ByteArray} {k : Nat} (h : k < l.length) : ((l.take (k + 1)).any fun x => decide (100 < x.size)) = (((l.take k).any fun x => decide (100 < x.size)) || decide (100 < l[k].size)) := by
  rw [List.take_succ_eq_append_getElem h, List.any_append]
  simp
theorem any_has13 {l : List ByteArray} {k : Nat} (h : k < l.length) (hx : 100 < l[k].size) : (l.any fun x => decide (100 < x.size)) = true := List.any_eq_true.2 ⟨l[k], List.getElem_mem h, decide_eq_true hx⟩
set_option maxRecDepth 100000 in
set_option maxHeartbeats 16000000 in
theorem longreq13_any (u : Value) (f : FT) (w : World) (h : TxA w u f.fams) :
    Calls Tryd.prog 132 #[.agg #[.int .i64 0, .string ⟨#[]⟩, .string ⟨#[]⟩, .slice none 0 0, .string ⟨#[]⟩, .string ⟨#[]⟩, .int .i64 0, .int .i64 0, .string ⟨#[]⟩, u, .string f.fr, .string f.tq, .int .i64 f.si, .int .i64 f.un, .int .i64 f.ve, .int .i64 f.ro]] w fun e w' => e = .returned (.bool (lrB f)) ∧ Below w.heap.size w w' := by
  have HR : Hid (lrB f = (decide (20 < f.fams.length) || decide (100 < f.fr.size) || decide (100 < f.tq.size) || f.fams.any fun x => decide (100 < x.size))) := rfl
  obtain ⟨A, c, rfl, k1, k2, hh⟩ := h
  have HH := hid hh
  obtain ⟨m, hm⟩ : ∃ m, f.fams.length = m := ⟨_, rfl⟩
  have HM := hid hm
  obtain ⟨R, hR⟩ : ∃ R, lrB f = R := ⟨_, rfl⟩
  rw [hR, hm] at HR
  rw [hR]
  rw [hm] at k1 ⊢
  obtain ⟨fr, hfr⟩ : ∃ x, f.fr = x := ⟨_, rfl⟩
  obtain ⟨tq, htq⟩ : ∃ x, f.tq = x := ⟨_, rfl⟩
  rw [hfr, htq] at HR ⊢
  obtain ⟨za, hza⟩ : ∃ z, (f.fams.any fun x => decide (100 < x.size)) = z := ⟨_, rfl⟩
  have HZ := hid hza
  rw [hza] at HR
  clear hza hR hm hh hfr htq
  have hb0 := below_new w (.cells #[.int .i64 0, .string ⟨#[]⟩, .string ⟨#[]⟩, .slice none 0 0, .string ⟨#[]⟩, .string ⟨#[]⟩, .int .i64 0, .int .i64 0, .string ⟨#[]⟩, .slice A m c, .string fr, .string tq, .int .i64 f.si, .int .i64 f.un, .int .i64 f.ve, .int .i64 f.ro] 155)
  have HB0 := hid hb0
  clear hb0
  go_enter Tryd.func132, Tryd.ntmps132
  by_cases g1 : (20 : Int) < (m : Int)
  · have d1 : 20 < m := by omega
    go_wp2
    go_ret
    exact ⟨by rw [HR.out, decide_eq_true d1]; rfl, HB0.out⟩
  · have d1 : ¬ 20 < m := by omega
    by_cases g2 : (100 : Int) < (fr.size : Int)
    · have d2 : 100 < fr.size := by omega
      go_wp2
      go_ret
      exact ⟨by rw [HR.out, decide_eq_true d2, decide_eq_false d1]; rfl, HB0.out⟩
    · have d2 : ¬ 100 < fr.size := by omega
      by_cases g3 : (100 : Int) < (tq.size : Int)
      · have d3 : 100 < tq.size := by omega
        go_wp2
        go_ret
        exact ⟨by rw [HR.out, decide_eq_true d3, decide_eq_false d1, decide_eq_false d2]; rfl, HB0.out⟩
      · have d3 : ¬ 100 < tq.size := by omega
        rw [decide_eq_false d1, decide_eq_false d2, decide_eq_false d3] at HR
        obtain rfl : R = za := by rw [HR.out]; rfl
        clear HR d1 d2 d3
        go_upto_region 3 with (fail)
        obtain ⟨tb, htb⟩ : ∃ tb, w.heap.size = tb := ⟨_, rfl⟩
        have HW : Hid (((w.alloc (.cells #[.int .i64 0, .string ⟨#[]⟩, .string ⟨#[]⟩, .slice none 0 0, .string ⟨#[]⟩, .string ⟨#[]⟩, .int .i64 0, .int .i64 0, .string ⟨#[]⟩, .slice A m c, .string fr, .string tq, .int .i64 f.si, .int .i64 f.un, .int .i64 f.ve, .int .i64 f.ro] 155)).cell? ⟨tb, 9, none⟩ = some (.slice A m c) ∧ (w.alloc (.cells #[.int .i64 0, .string ⟨#[]⟩, .string ⟨#[]⟩, .slice none 0 0, .string ⟨#[]⟩, .string ⟨#[]⟩, .int .i64 0, .int .i64 0, .string ⟨#[]⟩, .slice A m c, .string fr, .string tq, .int .i64 f.si, .int .i64 f.un, .int .i64 f.ve, .int .i64 f.ro] 155)).cell? ⟨tb, 3, none⟩ = some (.slice none 0 0)) ∧ ∀ (i : Nat) (x : ByteArray), f.fams[i]? = some x → ∃ b off, A = some ⟨b, off, none⟩ ∧ (w.alloc (.cells #[.int .i64 0, .string ⟨#[]⟩, .string ⟨#[]⟩, .slice none 0 0, .string ⟨#[]⟩, .string ⟨#[]⟩, .int .i64 0, .int .i64 0, .string ⟨#[]⟩, .slice A m c, .string fr, .string tq, .int .i64 f.si, .int .i64 f.un, .int .i64 f.ve, .int .i64 f.ro] 155)).cell? ⟨b, off + i, none⟩ = some (.string x)) := by
          rw [← htb]
          refine ⟨⟨(Blk.new w _ _).cell 9, (Blk.new w _ _).cell 3⟩, fun i x hx => ?_⟩
          obtain ⟨b, off, e, hc⟩ := HH.out (by have := (List.getElem?_eq_some_iff.1 hx).1; omega)
          have h9 := hc i x hx
          exact ⟨b, off, e, (HB0.out.cell (p := ⟨b, off + i, none⟩) (cell_lt h9)).trans h9⟩
        generalize w.alloc (.cells #[.int .i64 0, .string ⟨#[]⟩, .string ⟨#[]⟩, .slice none 0 0, .string ⟨#[]⟩, .string ⟨#[]⟩, .int .i64 0, .int .i64 0, .string ⟨#[]⟩, .slice A m c, .string fr, .string tq, .int .i64 f.si, .int .i64 f.un, .int .i64 f.ve, .int .i64 f.ro] 155) = W0 at HW HB0 ⊢
        rw [htb]
        clear htb HH
        obtain ⟨y9, y3⟩ := HW.out.1
        go_wp2
        go_loopw [3] (fun vi wr => ∃ k : Nat, k ≤ m ∧ vi = .int .i64 k ∧ Hid (((f.fams.take k).any fun x => decide (100 < x.size)) = false) ∧ wr = W0) (fun vi _ => m - (intOf vi).toNat)
        case atStart => exact ⟨0, by omega, rfl, rfl, rfl⟩
        case round =>
          obtain ⟨k, hk, rfl, HA, rfl⟩ := hrel
          by_cases hlt : k < m
          · have hkl : k < f.fams.length := by rw [HM.out]; exact hlt
            obtain ⟨b, off, rfl, x0⟩ := HW.out.2 k _ (List.getElem?_eq_getElem hkl)
            have HT := hid (any_take13 hkl)
            have HY : Hid (100 < f.fams[k].size → R = true) := fun e => by rw [← HZ.out]; exact any_has13 hkl e
            obtain ⟨y, hy⟩ : ∃ y, f.fams[k] = y := ⟨_, rfl⟩
            rw [hy] at x0 HT HY
            clear hy
            by_cases g : (100 : Int) < (y.size : Int)
            · obtain rfl : R = true := HY.out (by omega)
              go_wp2
              go_ret
              exact ⟨rfl, HB0.out⟩
            · have d : ¬ 100 < y.size := by omega
              go_wp2
              go_roundw
              case rel => exact ⟨k + 1, by omega, by go_num, by show _ = _; rw [HT.out, HA.out, decide_eq_false d]; rfl, by first | rfl | trivial⟩
              case measure => simp [intOf]; omega
          · obtain rfl : R = false := by
              have h1 := HA.out
              rw [List.take_of_length_le (by have := HM.out; omega)] at h1
              rw [← HZ.out, h1]
            go_wp2
            go_loopw [4] (fun vi ws => vi = .int .i64 0 ∧ ws = wr) (fun _ _ => 0)
            case atStart => exact ⟨rfl, rfl⟩
            case round =>
              obtain ⟨rfl, rfl⟩ := hrel
              go_wp2
              go_ret
              exact ⟨rfl, HB0.out⟩
/-- What the laws of layer 13 don't look at. -/
def long13B (f : FT) (l : List CT) : Bool := lrB f || longM 80 l
set_option maxRecDepth 100000 in
set_option maxHeartbeats 4000000 in
theorem long13_any (u v : Value) (f : FT) (l : List CT) (w : World) (h : TxA w u f.fams) (hv : ClA w v l) :
    Calls Tryd.prog 63 #[f.v u, v] w fun e w' => e = .returned (.bool (long13B f l)) ∧ Below w.heap.size w w' := by
  have hb0 := below_new w (.cells #[u, .string f.fr, .string f.tq, .int .i64 f.si, .int .i64 f.un, .int .i64 f.ve, .int .i64 f.ro] 82)
  have HLr := hid (longreq13_any u f _ (h.below hb0))
  have HLc : Hid (∀ W, Below w.heap.size w W → Calls Tryd.prog 32 #[v, .int .i64 80] W fun e w' => e = .returned (.bool (longM 80 l)) ∧ Below W.heap.size W w') := fun W hW => longcells_at 80 v l W (hv.below hW)
  have HB0 := hid hb0
  have HE : Hid (long13B f l = (lrB f || longM 80 l)) := rfl
  obtain ⟨R, hR⟩ : ∃ R, long13B f l = R := ⟨_, rfl⟩
  rw [hR] at HE ⊢
  clear hR h hv hb0
  go_enter Tryd.func63, Tryd.ntmps63
  cases hq : lrB f with
  | true =>
    rw [hq] at HLr HE
    obtain rfl : R = true := by rw [HE.out]; rfl
    go_wp2_with (first | (go_at_call 132; refine HLr.out.mono ?_; rintro e w2 ⟨rfl, hb2⟩))
    go_ret
    exact ⟨rfl, HB0.out.trans (hb2.mono HB0.out.size)⟩
  | false =>
    rw [hq] at HLr HE
    obtain rfl : R = longM 80 l := by rw [HE.out]; rfl
    go_wp2_with (first
      | (go_at_call 132; refine HLr.out.mono ?_; rintro e w2 ⟨rfl, hb2⟩; have HB2 := hid (HB0.out.trans (hb2.mono HB0.out.size)); clear hb2)
      | (go_at_call 32; refine (HLc.out _ HB2.out).mono ?_; rintro e w3 ⟨rfl, hb3⟩))
    go_ret
    exact ⟨rfl, HB2.out.trans (hb3.mono HB2.out.size)⟩
end Go.Proofs.YtgfkobfkncpmoaaDoor
