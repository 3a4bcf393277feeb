/- sum.look and sum.Next at any bytes: what stands at the beginning. Conditions: the slice holds its bytes, a million at most. -/
import Derived.Test.YtadehoibjpmhhaaDoorSL
namespace Go.Proofs.YtadehoibjpmhhaaDoor
open Go.RowKit

/-- Where the number ends does not hang on what stands behind it. -/
theorem tkGo_more (f : Nat) : ∀ i l n r, tkGo f i l = some (n, r) → ∃ k, 1 ≤ k ∧ k ≤ f ∧ k ≤ l.length ∧ r = l.drop k ∧ ∀ m, k ≤ m → tkGo f i (l.take m) = some (n, (l.take m).drop k) := by
  induction f with
  | zero => intro i l n r h; simp [tkGo] at h
  | succ f ih =>
    intro i l n r h
    cases l with
    | nil => simp [tkGo] at h
    | cons x t =>
      rw [tkGo] at h
      split at h
      · rename_i h1
        split at h
        · cases h
        · rename_i h2
          cases h
          refine ⟨1, by omega, by omega, by simp, by simp, fun m hm => ?_⟩
          obtain ⟨m', rfl⟩ : ∃ m', m = m' + 1 := ⟨m - 1, by omega⟩
          rw [List.take_succ_cons, tkGo, if_pos h1, if_neg h2]
          simp
      · rename_i h1
        cases hm : tkGo f (i + 1) t with
        | none => rw [hm] at h; cases h
        | some p =>
          rw [hm] at h
          obtain ⟨k, h2, h3, h4, h5, h6⟩ := ih _ _ _ _ hm
          simp only [Option.map_some, Option.some.injEq, Prod.mk.injEq] at h
          refine ⟨k + 1, by omega, by omega, by simp only [List.length_cons]; omega, by rw [← h.2, h5]; simp, fun m hm2 => ?_⟩
          obtain ⟨m', rfl⟩ : ∃ m', m = m' + 1 := ⟨m - 1, by omega⟩
          rw [List.take_succ_cons, tkGo, if_neg h1, h6 m' (by omega)]
          simp [h.1]
theorem tk_head_none {l : List UInt8} (h : tk l = none) : tk (l.take 9) = none := by
  have := tkGo_take 9 0 l
  unfold tk at *
  rw [h] at this
  cases hk : tkGo 9 0 (l.take 9) with
  | none => rfl
  | some p => rw [hk] at this; cases this
theorem open_head (l : List UInt8) : openB (l.take 9) = openB l := by
  by_cases h : l.length ≤ 9
  · rw [List.take_of_length_le h]
  · unfold openB
    rw [List.length_take, decide_eq_false (by omega), decide_eq_false (by omega)]
    rfl

/-- The head of bytes: the first nine at most. -/
theorem sla_head {w : World} {A : Option Addr} {c : Nat} {l : List UInt8} (h : SlA w (.slice A l.length c) l) : SlA w (.slice A (min l.length 9) c) (l.take 9) := by
  obtain ⟨A', c', e, h2, h3, h4, h5⟩ := h
  injection e with e1 _ e2
  subst e1; subst e2
  refine ⟨A, c, by rw [List.length_take, Nat.min_comm], by rw [List.length_take]; omega, h3, fun h0 => ?_, h5⟩
  have hl : 0 < l.length := by rw [List.length_take] at h0; omega
  obtain ⟨b, off, e, hh⟩ := h4 hl
  refine ⟨b, off, e, fun i hi => ?_⟩
  rw [List.length_take] at hi
  rw [hh i (by omega)]
  simp only [List.getD_eq_getElem?_getD, List.getElem?_take_of_lt (show i < 9 by omega)]

def LEnd (w : World) (l : List UInt8) : Nx → Ending → World → Prop
  | .whole x r, e, w' => ∃ A' c', e = .returned (.tuple #[.slice A' x.length c', .int .i64 ((l.length - r.length : Nat) : Int), .int .i64 0]) ∧ SlA w' (.slice A' x.length c') x ∧ Below w.heap.size w w'
  | .torn, e, w' => e = .returned (.tuple #[.slice none 0 0, .int .i64 0, .int .i64 1]) ∧ Below w.heap.size w w'
  | .bad, e, w' => e = .returned (.tuple #[.slice none 0 0, .int .i64 0, .int .i64 2]) ∧ Below w.heap.size w w'

set_option maxHeartbeats 1000000 in
/-- No number there. -/
theorem look_none (A : Option Addr) (m h c : Nat) (q : Bool) (hh : h = min m 9) (hmc : m ≤ c) (hc : c ≤ 9223372036854775807) (hA : A = none → c = 0) (w : World)
    (HT : Calls Tryd.prog 28 #[.slice A h c] w fun e w' => e = .returned (.tuple #[.int .i64 0, .slice none 0 0, .bool false]) ∧ Below w.heap.size w w')
    (HB : ∀ W, Below w.heap.size w W → Calls Tryd.prog 107 #[.slice A h c] W fun e w' => e = .returned (.bool q) ∧ w' = W) :
    Calls Tryd.prog 80 #[.slice A m c] w fun e w' => e = .returned (.tuple #[.slice none 0 0, .int .i64 0, .int .i64 (if q then 1 else 2)]) ∧ Below w.heap.size w w' := by
  have hmin : min (m : Int) 9 = (h : Int) := by omega
  have HT := hid HT
  have HB := hid HB
  have hhc : h ≤ c := by omega
  have hHH := hid hh
  clear hh
  cases A with
  | none =>
    obtain rfl := hA rfl
    obtain rfl : m = 0 := by omega
    obtain rfl : h = 0 := by omega
    clear hmin
    go_enter Tryd.func80, Tryd.ntmps80
    go_wp2_with (first | (go_at_call 28; refine HT.out.mono ?_; rintro e w1 ⟨rfl, hb⟩) | (go_at_call 107; refine (HB.out _ hb).mono ?_; rintro e w2 ⟨rfl, rfl⟩))
    all_goals
      refine bodyPost_ret (results_tmp3 rfl _ _ _) rfl ?_
      exact ⟨rfl, hb⟩
  | some ad =>
    clear hA
    go_enter Tryd.func80, Tryd.ntmps80
    go_wp2_with (first | (go_at_call 28; refine HT.out.mono ?_; rintro e w1 ⟨rfl, hb⟩) | (go_at_call 107; refine (HB.out _ hb).mono ?_; rintro e w2 ⟨rfl, rfl⟩))
    all_goals
      refine bodyPost_ret (results_tmp3 rfl _ _ _) rfl ?_
      exact ⟨rfl, hb⟩

/-- What Take of the head gives, in the walk's words. -/
def HeadSome (w : World) (A : Option Addr) (h c n r : Nat) : Prop :=
  Calls Tryd.prog 28 #[.slice A h c] w fun e w' => ∃ A' c', e = .returned (.tuple #[.int .i64 (n : Int), .slice A' r c', .bool true]) ∧ Below w.heap.size w w'

set_option maxRecDepth 100000 in
set_option maxHeartbeats 2000000 in
/-- A number there that is too great. -/
theorem look_great (ad : Addr) (m h c n r : Nat) (hh : h = min m 9) (hmc : m ≤ c) (_hc : c ≤ 9223372036854775807) (hn : 65536 < n) (hn2 : n < 9223372036854775808) (w : World) (HT : HeadSome w (some ad) h c n r) :
    Calls Tryd.prog 80 #[.slice (some ad) m c] w fun e w' => e = .returned (.tuple #[.slice none 0 0, .int .i64 0, .int .i64 2]) ∧ Below w.heap.size w w' := by
  have hmin : min (m : Int) 9 = (h : Int) := by omega
  obtain ⟨N, hN⟩ : ∃ N : Int, (n : Int) = N := ⟨_, rfl⟩
  unfold HeadSome at HT
  rw [hN] at HT
  have HT := hid HT
  have hhc : h ≤ c := by omega
  have hg : 65536 < N := by omega
  clear hh hn hn2 hN
  go_enter Tryd.func80, Tryd.ntmps80
  go_wp2_with (go_at_call 28; refine HT.out.mono ?_; rintro e w1 ⟨A', c', rfl, hb⟩)
  refine bodyPost_ret (results_tmp3 rfl _ _ _) rfl ?_
  exact ⟨rfl, hb⟩

set_option maxRecDepth 100000 in
set_option maxHeartbeats 2000000 in
/-- Fewer bytes than are told, and four. -/
theorem look_short (ad : Addr) (m h c n r k : Nat) (hh : h = min m 9) (hmc : m ≤ c) (_hc : c ≤ 9223372036854775807) (hn : n ≤ 65536) (hr : k + r = h) (hs : m < k + n + 4) (w : World) (HT : HeadSome w (some ad) h c n r) :
    Calls Tryd.prog 80 #[.slice (some ad) m c] w fun e w' => e = .returned (.tuple #[.slice none 0 0, .int .i64 0, .int .i64 1]) ∧ Below w.heap.size w w' := by
  have hmin : min (m : Int) 9 = (h : Int) := by omega
  unfold HeadSome at HT
  have HT := hid HT
  have hhc : h ≤ c := by omega
  have hm9 : h ≤ 9 := by omega
  have hk : (h : Int) - (r : Int) = (k : Int) := by omega
  clear hh
  go_enter Tryd.func80, Tryd.ntmps80
  go_wp2_with (go_at_call 28; refine HT.out.mono ?_; rintro e w1 ⟨A', c', rfl, hb⟩)
  refine bodyPost_ret (results_tmp3 rfl _ _ _) rfl ?_
  exact ⟨rfl, hb⟩

set_option maxRecDepth 100000 in
set_option maxHeartbeats 4000000 in
/-- As many bytes as are told, and four. -/
theorem look_full (b off m h c n r k : Nat) (hh : h = min m 9) (hmc : m ≤ c) (hc : c ≤ 9223372036854775807) (hn : n ≤ 65536) (hr : k + r = h) (hs : k + n + 4 ≤ m) (d : Bool) (sl : List UInt8) (w : World) (HT : HeadSome w (some ⟨b, off, none⟩) h c n r)
    (HS : Hid (∀ W, Below w.heap.size w W → Calls Tryd.prog 77 #[.slice (some ⟨b, off + k, none⟩) n (c - k)] W fun e w' => ∃ A2 c2, e = .returned (.slice A2 4 c2) ∧ Hid (SlA w' (.slice A2 4 c2) sl) ∧ Below W.heap.size W w'))
    (HE : Hid (∀ W A2 c2, Below w.heap.size w W → SlA W (.slice A2 4 c2) sl → Calls Tryd.prog 108 #[.slice (some ⟨b, off + (k + n), none⟩) 4 (c - (k + n)), .slice A2 4 c2] W fun e w' => e = .returned (.bool d) ∧ w' = W)) :
    Calls Tryd.prog 80 #[.slice (some ⟨b, off, none⟩) m c] w fun e w' => e = .returned (.tuple (if d then #[.slice (some ⟨b, off + k, none⟩) n (c - k), .int .i64 ((k + n + 4 : Nat) : Int), .int .i64 0] else #[.slice none 0 0, .int .i64 0, .int .i64 2])) ∧ Below w.heap.size w w' := by
  have hmin : min (m : Int) 9 = (h : Int) := by omega
  unfold HeadSome at HT
  have HT := hid HT
  have hhc : h ≤ c := by omega
  have hm9 : h ≤ 9 := by omega
  have hk : (h : Int) - (r : Int) = (k : Int) := by omega
  clear hh
  go_enter Tryd.func80, Tryd.ntmps80
  go_wp2_with (go_at_call 28; refine HT.out.mono ?_; rintro e w1 ⟨A', c', rfl, hb⟩)
  have hHeld := hid hb
  have E1 : Hid (((k : Int) + n).toNat = k + n) := by unfold Hid; omega
  have E2 : Hid (((k : Int) + n + 4).toNat - (k + n) = 4) := by unfold Hid; omega
  have E3 : Hid (((k + n + 4 : Nat) : Int) = (k : Int) + n + 4) := by unfold Hid; omega
  have q1 : IntKind.i64.wrap ((k : Int) + n + 4) = (k : Int) + n + 4 := by rw [IntKind.wrap_i64]; omega
  have p1 : (0 : Int) ≤ (k : Int) + n := by omega
  have p2 : (k : Int) + n ≤ (k : Int) + n + 4 := by omega
  have p3 : (0 : Int) ≤ (k : Int) + n + 4 := by omega
  have p4 : (k : Int) + n + 4 ≤ (c : Int) := by omega
  go_region_held3 (fun w' => Hid (Below w.heap.size w w'))
    (first | assumption | exact hid (Below.drew (Hid.out (by assumption))) | exact hid (Below.trans (Hid.out (by assumption)) (hbo.mono (Below.size (Hid.out (by assumption))))))
    (first
      | (go_at_call 77; ((with_reducible refine (HS.out _ ?_).mono ?_); (first | exact Hid.out (by assumption) | exact Below.drew (Hid.out (by assumption))); rintro e w5 ⟨A2, c2, rfl, hS2, hbo⟩))
      | (go_at_call 108; rw [E1.out, E2.out]; ((with_reducible refine (HE.out _ _ _ ?_ ?_).mono ?_); (first | exact Hid.out (by assumption) | exact Below.drew (Hid.out (by assumption))); (first | exact Hid.out hS2 | exact SlA.below (Hid.out hS2) (Below.refl _ _).drew); rintro e w6 ⟨rfl, rfl⟩)))
  all_goals
    rename_i hLast
    clear HE HS
    cases d
    all_goals
      go_wp2
      refine bodyPost_ret (results_tmp3 rfl _ _ _) rfl ?_
      first
      | exact ⟨rfl, hLast.out⟩
      | (simp only [if_true]; rw [E3.out]; exact ⟨rfl, hLast.out⟩)

/-- Some of a slice's bytes. -/
theorem sla_part {w : World} {b off c : Nat} {l : List UInt8} (hc : l.length ≤ c) (hc2 : c ≤ 9223372036854775807) (hh : Holds w b off l) (k n : Nat) (h : k + n ≤ l.length) : SlA w (.slice (some ⟨b, off + k, none⟩) n (c - k)) ((l.drop k).take n) := by
  have hl : ((l.drop k).take n).length = n := by rw [List.length_take, List.length_drop]; omega
  refine ⟨_, c - k, by rw [hl], by rw [hl]; omega, by omega, fun _ => ⟨b, off + k, rfl, fun i hi => ?_⟩, fun h => by cases h⟩
  rw [hl] at hi
  have := (hh.drop k) i (by rw [List.length_drop]; omega)
  rw [this]
  simp only [List.getD_eq_getElem?_getD, List.getElem?_take_of_lt hi]

theorem look_any (v : Value) (l : List UInt8) (hlen : l.length ≤ 1000000) (w : World) (h : SlA w v l) :
    Calls Tryd.prog 80 #[v] w (LEnd w l (nextM l)) := by
  have hSA := h
  obtain ⟨A, c, rfl, h2, h3, h4, h5⟩ := h
  have hH := sla_head hSA
  obtain ⟨A', c', e, g2, g3, g4, g5⟩ := hH
  injection e with e1 e0 e2
  subst e1; subst e2
  have HT := take_any A c (l.take 9) (by rw [List.length_take]; omega) g2 g3 w g4
  rw [← e0] at HT
  unfold nextM
  cases hk : tk l with
  | none =>
    have ht := tk_head_none hk
    rw [ht] at HT
    have HB : ∀ W, Below w.heap.size w W → Calls Tryd.prog 107 #[.slice A (min l.length 9) c] W fun e w' => e = .returned (.bool (openB l)) ∧ w' = W := fun W hW => by
      have := begun_any A c (l.take 9) (by rw [List.length_take]; omega) W (g4.below hW)
      rw [← e0, open_head] at this
      exact this
    have := look_none A l.length (min l.length 9) c (openB l) rfl h2 h3 h5 w HT HB
    cases ho : openB l
    · rw [ho] at this
      simp only [Bool.false_eq_true, if_false] at this ⊢
      exact this
    · rw [ho] at this
      simp only [if_true] at this ⊢
      exact this
  | some p =>
    obtain ⟨n, t⟩ := p
    obtain ⟨k, k1, k2, k3, ht, hm⟩ := tkGo_more 9 0 l n t hk
    have hn63 : n < 9223372036854775808 := by
      obtain ⟨k', _, q2, _, _, q5⟩ := tkGo_rest 9 0 l n t hk
      exact Nat.lt_of_lt_of_le q5 (Nat.pow_le_pow_right (by decide) q2 : 128 ^ k' ≤ 128 ^ 9)
    have hno : openB l = false := by
      cases ho : openB l with
      | false => rfl
      | true =>
        have := tkGo_open 9 0 l (by unfold openB at ho; simp only [Bool.and_eq_true] at ho; exact ho.2)
        unfold tk at hk
        rw [this] at hk; cases hk
    have hhead : tk (l.take 9) = some (n, (l.take 9).drop k) := hm 9 k2
    have hrl : ((l.take 9).drop k).length = min l.length 9 - k := by rw [List.length_drop, List.length_take, Nat.min_comm]
    rw [hhead] at HT
    have hl0 : 0 < l.length := by omega
    obtain ⟨b, off, rfl, hh⟩ := h4 hl0
    have HH : HeadSome w (some ⟨b, off, none⟩) (min l.length 9) c n (min l.length 9 - k) := by
      unfold HeadSome
      refine HT.mono ?_
      rintro e w' ⟨v, rfl, hR, hb⟩
      obtain ⟨A2, c2, rfl, _⟩ := hR.sla
      rw [hrl]
      exact ⟨A2, c2, rfl, hb⟩
    simp only [hno, Bool.false_eq_true, if_false]
    by_cases hg : 65536 < n
    · rw [if_pos hg]
      exact look_great _ l.length (min l.length 9) c n _ rfl h2 h3 hg hn63 w HH
    · rw [if_neg hg]
      have htl : t.length = l.length - k := by rw [ht, List.length_drop]
      by_cases hs : t.length < n + 4
      · rw [if_pos hs]
        exact look_short _ l.length (min l.length 9) c n _ k rfl h2 h3 (by omega) (by omega) (by omega) w HH
      · rw [if_neg hs]
        have ex : t.take n = (l.drop k).take n := by rw [ht]
        have es : (t.drop n).take 4 = (l.drop (k + n)).take 4 := by rw [ht, List.drop_drop]
        have er : t.drop (n + 4) = l.drop (k + n + 4) := by rw [ht, List.drop_drop]; congr 1
        have q1 := sla_part h2 h3 hh k n (by omega)
        have q2 := sla_part h2 h3 hh (k + n) 4 (by omega)
        have hxl : ((l.drop k).take n).length = n := by rw [List.length_take, List.length_drop]; omega
        have hsl : ((l.drop (k + n)).take 4).length = 4 := by rw [List.length_take, List.length_drop]; omega
        have hrl2 : (l.drop (k + n + 4)).length = l.length - (k + n + 4) := List.length_drop
        have HL := look_full b off l.length (min l.length 9) c n (min l.length 9 - k) k rfl h2 h3 (by omega) (by omega) (by omega)
          (decide ((l.drop (k + n)).take 4 = byW 4 (sumN ((l.drop k).take n)))) (byW 4 (sumN ((l.drop k).take n))) w HH
          (fun W hW => (sealOf_any _ _ (by omega) W (q1.below hW)).mono fun e w' ⟨v', he, hR, hb⟩ => by
            obtain ⟨A2, c2, rfl, hx⟩ := hR.sla
            rw [byW_len] at hx he
            exact ⟨A2, c2, he, ⟨A2, c2, by rw [byW_len], by rw [byW_len]; exact hx.1, hx.2⟩, hb⟩)
          (fun W A2 c2 hW hv => by
            obtain ⟨A3, c3, e3, _, _, g3, _⟩ := q2.below hW
            obtain ⟨A4, c4, e4, _, _, g4, _⟩ := hv
            have := equal_any A3 A4 c3 c4 _ _ W g3 g4
            rw [← e3, ← e4] at this
            exact this)
        rw [ex, es, er]
        by_cases hq : byW 4 (sumN ((l.drop k).take n)) = (l.drop (k + n)).take 4
        · rw [if_pos hq]
          rw [decide_eq_true hq.symm] at HL
          refine HL.mono ?_
          rintro e w' ⟨rfl, hb⟩
          refine ⟨some ⟨b, off + k, none⟩, c - k, ?_, ?_, hb⟩
          · rw [hxl, hrl2, show l.length - (l.length - (k + n + 4)) = k + n + 4 by omega]
            rfl
          · rw [hxl]; exact q1.below hb
        · rw [if_neg hq]
          rw [decide_eq_false (fun e => hq e.symm)] at HL
          exact HL
end Go.Proofs.YtadehoibjpmhhaaDoor
