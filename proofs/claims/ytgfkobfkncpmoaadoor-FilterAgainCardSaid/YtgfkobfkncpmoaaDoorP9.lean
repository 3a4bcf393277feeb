/- Several texts in one: RBb RBa EB. Conditions: as each theorem names them. -/
import Derived.Test.YtgfkobfkncpmoaaDoorP4
import Derived.Lib.Bytealg
import Derived.Deep.QuietTactic
import Derived.BigQuiet
import Derived.Test.YtgfkobfkncpmoaaDoorP3
import Derived.Test.YtgfkobfkncpmoaaDoorP5
/- The document's Texts at every two texts. Conditions: texts no longer than any are. -/
namespace Go.Proofs.YtgfkobfkncpmoaaDoor
open Go.RowKit

theorem ret_i64 {k : IntKind} {a b : Int} (h : a = b) : Ending.returned (.int k a) = .returned (.int k b) := by rw [h]

theorem cmpB_drop (l m : List UInt8) (k : Nat) (h : k < l.length) (h' : k < m.length) :
    Lib.compareBytes (l.drop k) (m.drop k) = if (l.getD k 0).toNat < (m.getD k 0).toNat then -1 else if (m.getD k 0).toNat < (l.getD k 0).toNat then 1 else Lib.compareBytes (l.drop (k + 1)) (m.drop (k + 1)) := by
  rw [List.drop_eq_getElem_cons h, List.drop_eq_getElem_cons h']
  conv => lhs; unfold Lib.compareBytes
  simp only [List.getD_eq_getElem?_getD, List.getElem?_eq_getElem h, List.getElem?_eq_getElem h', Option.getD_some, UInt8.lt_iff_toNat_lt]

theorem cmpB_end (l m : List UInt8) (h : l = [] ∨ m = []) : Lib.compareBytes l m = if l.length < m.length then -1 else if m.length < l.length then 1 else 0 := by
  rcases h with rfl | rfl
  · cases m with
    | nil => rfl
    | cons => simp [Lib.compareBytes]
  · cases l with
    | nil => rfl
    | cons => simp [Lib.compareBytes]

/-- What the loop knows. -/
def XInv (s t : ByteArray) (w : World) (vi : Value) (wr : World) : Prop :=
  ∃ (i m : Nat), i ≤ s.size ∧ i ≤ t.size ∧ vi = .int .i64 i ∧ wr = w.drewN m ∧ Lib.compareBytes s.data.toList t.data.toList = Lib.compareBytes (s.data.toList.drop i) (t.data.toList.drop i)

theorem dl (s : ByteArray) : s.data.toList.length = s.size := rfl
theorem getD_str (s : ByteArray) (i : Nat) (h : i < s.size) : s.data.toList.getD i 0 = s[i] := by
  rw [List.getD_eq_getElem?_getD, List.getElem?_eq_getElem (show i < s.data.toList.length from h)]
  rfl

theorem drew_ex (w : World) (n : Nat) : ∃ m, w.drewN n = w.drewN m := ⟨n, rfl⟩

set_option maxHeartbeats 2000000 in
theorem texts_quiet (s t : ByteArray) (hs : s.size ≤ 9223372036854775807) (_ : t.size ≤ 9223372036854775807) (w : World) :
    Calls Tryd.prog 123 #[.string s, .string t] w fun e w' => e = .returned (.int .i64 (Lib.compareBytes s.data.toList t.data.toList)) ∧ ∃ m, w' = w.drewN m := by
  go_enter Tryd.func123, Tryd.ntmps123
  go_wp2
  go_loopw [5] (fun vi wr => XInv s t w vi wr) (fun vi _ => s.size - (intOf vi).toNat)
  case atStart => exact ⟨0, 0, Nat.zero_le _, Nat.zero_le _, rfl, rfl, rfl⟩
  case round =>
    obtain ⟨i, m, hi1, hi2, rfl, rfl, hc⟩ := hrel
    by_cases hlt : i < s.size ∧ i < t.size
    · obtain ⟨h1, h2⟩ := hlt
      have hd := cmpB_drop s.data.toList t.data.toList i h1 h2
      rw [getD_str s i h1, getD_str t i h2] at hd
      have HD := hid (hc.trans hd)
      clear hd hc
      by_cases c0 : s[i].toNat = t[i].toNat
      · have q0 : (s[i].toNat != t[i].toNat) = false := by simpa using c0
        have HQ : Hid (Lib.compareBytes s.data.toList t.data.toList = Lib.compareBytes (s.data.toList.drop (i + 1)) (t.data.toList.drop (i + 1))) := by
          have := HD.out
          rw [if_neg (by omega), if_neg (by omega)] at this
          exact this
        clear HD
        go_wp2
        go_quiet (fail)
        go_wp2
        go_roundw
        case rel => exact ⟨i + 1, _, by omega, by omega, by go_num, rfl, HQ.out⟩
        case measure => simp [intOf]; omega
      · have q0 : (s[i].toNat != t[i].toNat) = true := by simpa using c0
        by_cases c1 : s[i].toNat < t[i].toNat
        · have HQ : Hid (Lib.compareBytes s.data.toList t.data.toList = -1) := by
            have := HD.out
            rw [if_pos c1] at this
            exact this
          have q1 : decide (s[i].toNat < t[i].toNat) = true := decide_eq_true c1
          clear HD c0
          go_wp2
          go_quiet (fail)
          go_wp2
          go_quiet (fail)
          go_wp2
          go_ret
          exact ⟨ret_i64 HQ.out.symm, by first | exact drew_ex w _ | (simp only [World.drewN_drewN]; exact drew_ex w _)⟩
        · have HQ : Hid (Lib.compareBytes s.data.toList t.data.toList = 1) := by
            have := HD.out
            rw [if_neg c1, if_pos (by omega)] at this
            exact this
          have q1 : decide (s[i].toNat < t[i].toNat) = false := decide_eq_false c1
          clear HD c0
          go_wp2
          go_quiet (fail)
          go_wp2
          go_quiet (fail)
          go_wp2
          go_ret
          exact ⟨ret_i64 HQ.out.symm, by first | exact drew_ex w _ | (simp only [World.drewN_drewN]; exact drew_ex w _)⟩
    · have hq : Lib.compareBytes s.data.toList t.data.toList = if s.size < t.size then -1 else if t.size < s.size then 1 else 0 := by
        rw [hc, cmpB_end _ _ (by rcases (show i = s.size ∨ i = t.size by omega) with rfl | rfl <;> simp)]
        simp only [List.length_drop, dl]
        by_cases z1 : s.size < t.size
        · rw [if_pos (by omega), if_pos z1]
        · rw [if_neg (by omega), if_neg z1]
          by_cases z2 : t.size < s.size
          · rw [if_pos (by omega), if_pos z2]
          · rw [if_neg (by omega), if_neg z2]
      have hsel : (i < s.size ∧ decide (i < t.size) = false) ∨ i = s.size := by
        rcases Nat.lt_or_ge i s.size with h | h
        · exact .inl ⟨h, decide_eq_false (by omega)⟩
        · exact .inr (by omega)
      clear hc hlt
      rcases (show s.size < t.size ∨ t.size < s.size ∨ s.size = t.size by omega) with z | z | z
      · rw [if_pos z] at hq
        have HQ := hid hq
        have d1 : decide (s.size < t.size) = true := decide_eq_true z
        clear hq
        rcases hsel with ⟨h1, h2⟩ | rfl
        all_goals
          go_wp2
          go_ret
          exact ⟨ret_i64 HQ.out.symm, by first | exact drew_ex w _ | (simp only [World.drewN_drewN]; exact drew_ex w _)⟩
      · rw [if_neg (by omega), if_pos z] at hq
        have HQ := hid hq
        have d1 : decide (s.size < t.size) = false := decide_eq_false (by omega)
        have d2 : decide (t.size < s.size) = true := decide_eq_true z
        clear hq
        rcases hsel with ⟨h1, h2⟩ | rfl
        all_goals
          go_wp2
          go_ret
          exact ⟨ret_i64 HQ.out.symm, by first | exact drew_ex w _ | (simp only [World.drewN_drewN]; exact drew_ex w _)⟩
      · rw [if_neg (by omega), if_neg (by omega)] at hq
        have HQ := hid hq
        have d1 : decide (s.size < t.size) = false := decide_eq_false (by omega)
        have d2 : decide (t.size < s.size) = false := decide_eq_false (by omega)
        clear hq z
        rcases hsel with ⟨h1, h2⟩ | rfl
        all_goals
          go_wp2
          go_ret
          exact ⟨ret_i64 HQ.out.symm, by first | exact drew_ex w _ | (simp only [World.drewN_drewN]; exact drew_ex w _)⟩
theorem texts_any (s t : ByteArray) (hs : s.size ≤ 9223372036854775807) (ht : t.size ≤ 9223372036854775807) (w : World) :
    Calls Tryd.prog 123 #[.string s, .string t] w fun e w' => e = .returned (.int .i64 (Lib.compareBytes s.data.toList t.data.toList)) ∧ Below w.heap.size w w' :=
  (texts_quiet s t hs ht w).mono fun _ _ ⟨he, m, hm⟩ => ⟨he, by rw [hm]; exact Go.below_drewN (Below.refl _ _) _⟩
end Go.Proofs.YtgfkobfkncpmoaaDoor

/- What stands in RBb, behind VJ. Conditions: none. -/

/- The document's cmp and Order of layer 3 at every two cells. Conditions: the texts are no longer than any are. -/
namespace Go.Proofs.YtgfkobfkncpmoaaDoor
open Go.RowKit

theorem refcmp3_any (a b : Int) (w : World) :
    Calls Tryd.prog 124 #[.int .i64 a, .int .i64 b] w fun e w' => e = .returned (.int .i64 (Lib.compareInt a b)) ∧ w' = w := by
  unfold Lib.compareInt
  by_cases h1 : a < b
  · rw [if_pos h1]
    go_enter Tryd.func124, Tryd.ntmps124
    go_wp2
    go_ret
    exact ⟨rfl, rfl⟩
  · rw [if_neg h1]
    by_cases h2 : b < a
    · rw [if_pos h2]
      go_enter Tryd.func124, Tryd.ntmps124
      go_wp2
      go_ret
      exact ⟨rfl, rfl⟩
    · rw [if_neg h2]
      go_enter Tryd.func124, Tryd.ntmps124
      go_wp2
      go_ret
      exact ⟨rfl, rfl⟩

set_option maxRecDepth 100000 in
set_option maxHeartbeats 8000000 in
theorem refcorder_any (r1 f1 q1 s1 : ByteArray) (t1 k1 vk1 vn1 : Int) (r2 f2 q2 s2 : ByteArray) (t2 k2 vk2 vn2 : Int) (hr1 : r1.size ≤ 9223372036854775807) (hr2 : r2.size ≤ 9223372036854775807) (hf1 : f1.size ≤ 9223372036854775807) (hf2 : f2.size ≤ 9223372036854775807) (hq1 : q1.size ≤ 9223372036854775807) (hq2 : q2.size ≤ 9223372036854775807) (w : World) :
    Calls Tryd.prog 47 #[cellV r1 f1 q1 t1 k1 vk1 vn1 s1, cellV r2 f2 q2 t2 k2 vk2 vn2 s2] w fun e w' => e = .returned (.int .i64 (cOrd r1.data.toList f1.data.toList q1.data.toList t1 k1 r2.data.toList f2.data.toList q2.data.toList t2 k2)) ∧ Below w.heap.size w w' := by
  have HTr : Hid (∀ W, Calls Tryd.prog 123 #[.string r1, .string r2] W fun e w' => e = .returned (.int .i64 (Lib.compareBytes r1.data.toList r2.data.toList)) ∧ Below W.heap.size W w') := fun W => texts_any r1 r2 hr1 hr2 W
  have HTf : Hid (∀ W, Calls Tryd.prog 123 #[.string f1, .string f2] W fun e w' => e = .returned (.int .i64 (Lib.compareBytes f1.data.toList f2.data.toList)) ∧ Below W.heap.size W w') := fun W => texts_any f1 f2 hf1 hf2 W
  have HTq : Hid (∀ W, Calls Tryd.prog 123 #[.string q1, .string q2] W fun e w' => e = .returned (.int .i64 (Lib.compareBytes q1.data.toList q2.data.toList)) ∧ Below W.heap.size W w') := fun W => texts_any q1 q2 hq1 hq2 W
  clear hr1 hr2 hf1 hf2 hq1 hq2
  obtain ⟨x, hx⟩ : ∃ x, rankC k1 = x := ⟨_, rfl⟩
  obtain ⟨y, hy⟩ : ∃ y, rankC k2 = y := ⟨_, rfl⟩
  unfold cOrd
  rw [hx, hy]
  generalize hb1 : Lib.compareBytes r1.data.toList r2.data.toList = b1 at *
  generalize hb2 : Lib.compareBytes f1.data.toList f2.data.toList = b2 at *
  generalize hb3 : Lib.compareBytes q1.data.toList q2.data.toList = b3 at *
  clear hb1 hb2 hb3
  have HXY : Hid ((k1 = 4 ∧ x = 0) ∨ ((k1 == 4) = false ∧ x = 1)) := by
    unfold Hid; unfold rankC at hx
    by_cases h : k1 = 4
    · rw [if_pos h] at hx; exact .inl ⟨h, hx.symm⟩
    · rw [if_neg h] at hx; exact .inr ⟨by simpa using h, hx.symm⟩
  have HYY : Hid ((k2 = 4 ∧ y = 0) ∨ ((k2 == 4) = false ∧ y = 1)) := by
    unfold Hid; unfold rankC at hy
    by_cases h : k2 = 4
    · rw [if_pos h] at hy; exact .inl ⟨h, hy.symm⟩
    · rw [if_neg h] at hy; exact .inr ⟨by simpa using h, hy.symm⟩
  clear hx hy
  rcases HXY.out with ⟨rfl, rfl⟩ | ⟨hx1, rfl⟩ <;> rcases HYY.out with ⟨rfl, rfl⟩ | ⟨hy1, rfl⟩ <;> clear HXY HYY
  · go_enter Tryd.func47, Tryd.ntmps47
    go_upto_region 7 with (fail)
    obtain ⟨W, hW⟩ : ∃ W, ((w.alloc (.cells #[.string r1, .string f1, .string q1, .int .i64 t1, .int .i64 4, .int .i64 vk1, .int .i64 vn1, .string s1] 28)).alloc (.cells #[.string r2, .string f2, .string q2, .int .i64 t2, .int .i64 4, .int .i64 vk2, .int .i64 vn2, .string s2] 28)) = W := ⟨_, rfl⟩
    have HT : Hid (TwoC w r1 f1 q1 s1 t1 4 vk1 vn1 r2 f2 q2 s2 t2 4 vk2 vn2 W) := by
      subst hW
      have B1 : Blk (w.alloc (.cells #[Value.string r1, .string f1, .string q1, .int .i64 t1, .int .i64 4, .int .i64 vk1, .int .i64 vn1, .string s1] 28)) w.heap.size 28 #[Value.string r1, .string f1, .string q1, .int .i64 t1, .int .i64 4, .int .i64 vk1, .int .i64 vn1, .string s1] := Blk.new w _ _
      have B2 := B1.keep (below_new _ (.cells #[Value.string r2, .string f2, .string q2, .int .i64 t2, .int .i64 4, .int .i64 vk2, .int .i64 vn2, .string s2] 28)) (by simp)
      have B3 : Blk ((w.alloc (.cells #[Value.string r1, .string f1, .string q1, .int .i64 t1, .int .i64 4, .int .i64 vk1, .int .i64 vn1, .string s1] 28)).alloc (.cells #[Value.string r2, .string f2, .string q2, .int .i64 t2, .int .i64 4, .int .i64 vk2, .int .i64 vn2, .string s2] 28)) (w.heap.size + 1) 28 #[Value.string r2, .string f2, .string q2, .int .i64 t2, .int .i64 4, .int .i64 vk2, .int .i64 vn2, .string s2] := by
        have := Blk.new (w.alloc (.cells #[Value.string r1, .string f1, .string q1, .int .i64 t1, .int .i64 4, .int .i64 vk1, .int .i64 vn1, .string s1] 28)) 28 #[Value.string r2, .string f2, .string q2, .int .i64 t2, .int .i64 4, .int .i64 vk2, .int .i64 vn2, .string s2]
        simpa using this
      exact ⟨hid ⟨(below_new w _).alloc (by simp) _, by simp⟩, B2.cell 0, B2.cell 1, B2.cell 2, B2.cell 3, B2.cell 4, B2.cell 5, B2.cell 6, B2.cell 7, B3.cell 0, B3.cell 1, B3.cell 2, B3.cell 3, B3.cell 4, B3.cell 5, B3.cell 6, B3.cell 7⟩
    rw [hW]
    clear hW
    obtain ⟨h0, c0, c1, c2, c3, c4, c5, c6, c7, d0, d1, d2, d3, d4, d5, d6, d7⟩ := HT.out
    go_region_held3 (fun w' => Hid (Below w.heap.size w w' ∧ w.heap.size + 1 < w'.heap.size) ∧ w'.cell? ⟨w.heap.size, 0, none⟩ = some (.string r1) ∧ w'.cell? ⟨w.heap.size, 1, none⟩ = some (.string f1) ∧ w'.cell? ⟨w.heap.size, 2, none⟩ = some (.string q1) ∧ w'.cell? ⟨w.heap.size, 3, none⟩ = some (.int .i64 t1) ∧ w'.cell? ⟨w.heap.size, 4, none⟩ = some (.int .i64 4) ∧ w'.cell? ⟨w.heap.size, 5, none⟩ = some (.int .i64 vk1) ∧ w'.cell? ⟨w.heap.size, 6, none⟩ = some (.int .i64 vn1) ∧ w'.cell? ⟨w.heap.size, 7, none⟩ = some (.string s1) ∧ w'.cell? ⟨w.heap.size + 1, 0, none⟩ = some (.string r2) ∧ w'.cell? ⟨w.heap.size + 1, 1, none⟩ = some (.string f2) ∧ w'.cell? ⟨w.heap.size + 1, 2, none⟩ = some (.string q2) ∧ w'.cell? ⟨w.heap.size + 1, 3, none⟩ = some (.int .i64 t2) ∧ w'.cell? ⟨w.heap.size + 1, 4, none⟩ = some (.int .i64 4) ∧ w'.cell? ⟨w.heap.size + 1, 5, none⟩ = some (.int .i64 vk2) ∧ w'.cell? ⟨w.heap.size + 1, 6, none⟩ = some (.int .i64 vn2) ∧ w'.cell? ⟨w.heap.size + 1, 7, none⟩ = some (.string s2))
      (first | exact HT.out | exact twoc_drew HT.out | exact twoc_call (by assumption) hbo | exact twoc_drew (by assumption) | assumption | exact twoc_call (by assumption) (below_new _ _) | exact twoc_call (twoc_call (by assumption) (below_new _ _)) hbo)
      (first
        | (go_at_call 123; (first | (with_reducible refine (HTr.out _).mono ?_) | (with_reducible refine (HTf.out _).mono ?_) | (with_reducible refine (HTq.out _).mono ?_)); rintro e w5 ⟨rfl, hbo⟩)
        | (go_at_call 124; ((with_reducible refine (refcmp3_any _ _ _).mono ?_); rintro e w5 ⟨rfl, rfl⟩)))
    rename_i hLast
    have HB : Hid (Below w.heap.size w _) := hid hLast.1.out.1
    clear hLast HTr HTf HTq HT h0 c0 c1 c2 c3 c4 c5 c6 c7 d0 d1 d2 d3 d4 d5 d6 d7 hbo
    obtain ⟨l, hl⟩ : ∃ l : List Int, [b1, b2, Lib.compareInt 0 0, b3, Lib.compareInt t2 t1, Lib.compareInt 4 4] = l := ⟨_, rfl⟩
    have HL : Hid (l.length = 6) := hid (by rw [← hl]; rfl)
    have HC : Hid (∀ i (h : i < l.length), (w5.alloc (.cells #[.int .i64 b1, .int .i64 b2, .int .i64 (Lib.compareInt 0 0), .int .i64 b3, .int .i64 (Lib.compareInt t2 t1), .int .i64 (Lib.compareInt 4 4)] 3)).cell? ⟨w5.heap.size, i, none⟩ = some (.int .i64 l[i])) := by
      subst hl
      refine hid fun i hi => ?_
      rw [(Blk.new w5 3 _).cell i]
      match i, hi with
      | 0, _ => rfl
      | 1, _ => rfl
      | 2, _ => rfl
      | 3, _ => rfl
      | 4, _ => rfl
      | 5, _ => rfl
    have HE := hid hl
    clear hl
    generalize (w5.alloc (.cells #[.int .i64 b1, .int .i64 b2, .int .i64 (Lib.compareInt 0 0), .int .i64 b3, .int .i64 (Lib.compareInt t2 t1), .int .i64 (Lib.compareInt 4 4)] 3)) = V at HB HC ⊢
    generalize w5.heap.size = g at HC ⊢
    go_wp2
    go_loopw [8] (fun vi wr => ∃ i : Nat, i ≤ 6 ∧ vi = .int .i64 i ∧ wr = V ∧ Hid (orI l = orI (l.drop i))) (fun vi _ => 6 - (intOf vi).toNat)
    case atStart => exact ⟨0, Nat.zero_le _, rfl, rfl, rfl⟩
    case round =>
      obtain ⟨i, hi, rfl, rfl, HO⟩ := hrel
      by_cases hlt : i < 6
      · have hil : i < l.length := by rw [HL.out]; exact hlt
        have hc := HC.out i hil
        have HD : Hid (orI l = if l[i] = 0 then orI (l.drop (i + 1)) else l[i]) := by
          unfold Hid
          rw [HO.out, List.drop_eq_getElem_cons hil, orI]
        generalize l[i] = x at hc HD
        by_cases hx : x = 0
        · subst hx
          go_wp2
          go_roundw
          case rel => exact ⟨i + 1, by omega, by go_num, trivial, by unfold Hid; rw [HD.out, if_pos rfl]⟩
          case measure => simp [intOf]; omega
        · have q0 : (x != 0) = true := by simpa using hx
          go_wp2
          go_ret
          refine ⟨?_, HB.out⟩
          rw [HE.out, HD.out, if_neg hx]
          rfl
      · go_wp2
        go_ret
        refine ⟨?_, HB.out⟩
        rw [HE.out, HO.out, List.drop_eq_nil_of_le (by have := HL.out; omega)]
        rfl
  · go_enter Tryd.func47, Tryd.ntmps47
    go_upto_region 7 with (fail)
    obtain ⟨W, hW⟩ : ∃ W, ((w.alloc (.cells #[.string r1, .string f1, .string q1, .int .i64 t1, .int .i64 4, .int .i64 vk1, .int .i64 vn1, .string s1] 28)).alloc (.cells #[.string r2, .string f2, .string q2, .int .i64 t2, .int .i64 k2, .int .i64 vk2, .int .i64 vn2, .string s2] 28)) = W := ⟨_, rfl⟩
    have HT : Hid (TwoC w r1 f1 q1 s1 t1 4 vk1 vn1 r2 f2 q2 s2 t2 k2 vk2 vn2 W) := by
      subst hW
      have B1 : Blk (w.alloc (.cells #[Value.string r1, .string f1, .string q1, .int .i64 t1, .int .i64 4, .int .i64 vk1, .int .i64 vn1, .string s1] 28)) w.heap.size 28 #[Value.string r1, .string f1, .string q1, .int .i64 t1, .int .i64 4, .int .i64 vk1, .int .i64 vn1, .string s1] := Blk.new w _ _
      have B2 := B1.keep (below_new _ (.cells #[Value.string r2, .string f2, .string q2, .int .i64 t2, .int .i64 k2, .int .i64 vk2, .int .i64 vn2, .string s2] 28)) (by simp)
      have B3 : Blk ((w.alloc (.cells #[Value.string r1, .string f1, .string q1, .int .i64 t1, .int .i64 4, .int .i64 vk1, .int .i64 vn1, .string s1] 28)).alloc (.cells #[Value.string r2, .string f2, .string q2, .int .i64 t2, .int .i64 k2, .int .i64 vk2, .int .i64 vn2, .string s2] 28)) (w.heap.size + 1) 28 #[Value.string r2, .string f2, .string q2, .int .i64 t2, .int .i64 k2, .int .i64 vk2, .int .i64 vn2, .string s2] := by
        have := Blk.new (w.alloc (.cells #[Value.string r1, .string f1, .string q1, .int .i64 t1, .int .i64 4, .int .i64 vk1, .int .i64 vn1, .string s1] 28)) 28 #[Value.string r2, .string f2, .string q2, .int .i64 t2, .int .i64 k2, .int .i64 vk2, .int .i64 vn2, .string s2]
        simpa using this
      exact ⟨hid ⟨(below_new w _).alloc (by simp) _, by simp⟩, B2.cell 0, B2.cell 1, B2.cell 2, B2.cell 3, B2.cell 4, B2.cell 5, B2.cell 6, B2.cell 7, B3.cell 0, B3.cell 1, B3.cell 2, B3.cell 3, B3.cell 4, B3.cell 5, B3.cell 6, B3.cell 7⟩
    rw [hW]
    clear hW
    obtain ⟨h0, c0, c1, c2, c3, c4, c5, c6, c7, d0, d1, d2, d3, d4, d5, d6, d7⟩ := HT.out
    go_region_held3 (fun w' => Hid (Below w.heap.size w w' ∧ w.heap.size + 1 < w'.heap.size) ∧ w'.cell? ⟨w.heap.size, 0, none⟩ = some (.string r1) ∧ w'.cell? ⟨w.heap.size, 1, none⟩ = some (.string f1) ∧ w'.cell? ⟨w.heap.size, 2, none⟩ = some (.string q1) ∧ w'.cell? ⟨w.heap.size, 3, none⟩ = some (.int .i64 t1) ∧ w'.cell? ⟨w.heap.size, 4, none⟩ = some (.int .i64 4) ∧ w'.cell? ⟨w.heap.size, 5, none⟩ = some (.int .i64 vk1) ∧ w'.cell? ⟨w.heap.size, 6, none⟩ = some (.int .i64 vn1) ∧ w'.cell? ⟨w.heap.size, 7, none⟩ = some (.string s1) ∧ w'.cell? ⟨w.heap.size + 1, 0, none⟩ = some (.string r2) ∧ w'.cell? ⟨w.heap.size + 1, 1, none⟩ = some (.string f2) ∧ w'.cell? ⟨w.heap.size + 1, 2, none⟩ = some (.string q2) ∧ w'.cell? ⟨w.heap.size + 1, 3, none⟩ = some (.int .i64 t2) ∧ w'.cell? ⟨w.heap.size + 1, 4, none⟩ = some (.int .i64 k2) ∧ w'.cell? ⟨w.heap.size + 1, 5, none⟩ = some (.int .i64 vk2) ∧ w'.cell? ⟨w.heap.size + 1, 6, none⟩ = some (.int .i64 vn2) ∧ w'.cell? ⟨w.heap.size + 1, 7, none⟩ = some (.string s2))
      (first | exact HT.out | exact twoc_drew HT.out | exact twoc_call (by assumption) hbo | exact twoc_drew (by assumption) | assumption | exact twoc_call (by assumption) (below_new _ _) | exact twoc_call (twoc_call (by assumption) (below_new _ _)) hbo)
      (first
        | (go_at_call 123; (first | (with_reducible refine (HTr.out _).mono ?_) | (with_reducible refine (HTf.out _).mono ?_) | (with_reducible refine (HTq.out _).mono ?_)); rintro e w5 ⟨rfl, hbo⟩)
        | (go_at_call 124; ((with_reducible refine (refcmp3_any _ _ _).mono ?_); rintro e w5 ⟨rfl, rfl⟩)))
    rename_i hLast
    have HB : Hid (Below w.heap.size w _) := hid hLast.1.out.1
    clear hLast HTr HTf HTq HT h0 c0 c1 c2 c3 c4 c5 c6 c7 d0 d1 d2 d3 d4 d5 d6 d7 hbo
    obtain ⟨l, hl⟩ : ∃ l : List Int, [b1, b2, Lib.compareInt 0 1, b3, Lib.compareInt t2 t1, Lib.compareInt k2 4] = l := ⟨_, rfl⟩
    have HL : Hid (l.length = 6) := hid (by rw [← hl]; rfl)
    have HC : Hid (∀ i (h : i < l.length), (w5.alloc (.cells #[.int .i64 b1, .int .i64 b2, .int .i64 (Lib.compareInt 0 1), .int .i64 b3, .int .i64 (Lib.compareInt t2 t1), .int .i64 (Lib.compareInt k2 4)] 3)).cell? ⟨w5.heap.size, i, none⟩ = some (.int .i64 l[i])) := by
      subst hl
      refine hid fun i hi => ?_
      rw [(Blk.new w5 3 _).cell i]
      match i, hi with
      | 0, _ => rfl
      | 1, _ => rfl
      | 2, _ => rfl
      | 3, _ => rfl
      | 4, _ => rfl
      | 5, _ => rfl
    have HE := hid hl
    clear hl
    generalize (w5.alloc (.cells #[.int .i64 b1, .int .i64 b2, .int .i64 (Lib.compareInt 0 1), .int .i64 b3, .int .i64 (Lib.compareInt t2 t1), .int .i64 (Lib.compareInt k2 4)] 3)) = V at HB HC ⊢
    generalize w5.heap.size = g at HC ⊢
    go_wp2
    go_loopw [8] (fun vi wr => ∃ i : Nat, i ≤ 6 ∧ vi = .int .i64 i ∧ wr = V ∧ Hid (orI l = orI (l.drop i))) (fun vi _ => 6 - (intOf vi).toNat)
    case atStart => exact ⟨0, Nat.zero_le _, rfl, rfl, rfl⟩
    case round =>
      obtain ⟨i, hi, rfl, rfl, HO⟩ := hrel
      by_cases hlt : i < 6
      · have hil : i < l.length := by rw [HL.out]; exact hlt
        have hc := HC.out i hil
        have HD : Hid (orI l = if l[i] = 0 then orI (l.drop (i + 1)) else l[i]) := by
          unfold Hid
          rw [HO.out, List.drop_eq_getElem_cons hil, orI]
        generalize l[i] = x at hc HD
        by_cases hx : x = 0
        · subst hx
          go_wp2
          go_roundw
          case rel => exact ⟨i + 1, by omega, by go_num, trivial, by unfold Hid; rw [HD.out, if_pos rfl]⟩
          case measure => simp [intOf]; omega
        · have q0 : (x != 0) = true := by simpa using hx
          go_wp2
          go_ret
          refine ⟨?_, HB.out⟩
          rw [HE.out, HD.out, if_neg hx]
          rfl
      · go_wp2
        go_ret
        refine ⟨?_, HB.out⟩
        rw [HE.out, HO.out, List.drop_eq_nil_of_le (by have := HL.out; omega)]
        rfl
  · go_enter Tryd.func47, Tryd.ntmps47
    go_upto_region 7 with (fail)
    obtain ⟨W, hW⟩ : ∃ W, ((w.alloc (.cells #[.string r1, .string f1, .string q1, .int .i64 t1, .int .i64 k1, .int .i64 vk1, .int .i64 vn1, .string s1] 28)).alloc (.cells #[.string r2, .string f2, .string q2, .int .i64 t2, .int .i64 4, .int .i64 vk2, .int .i64 vn2, .string s2] 28)) = W := ⟨_, rfl⟩
    have HT : Hid (TwoC w r1 f1 q1 s1 t1 k1 vk1 vn1 r2 f2 q2 s2 t2 4 vk2 vn2 W) := by
      subst hW
      have B1 : Blk (w.alloc (.cells #[Value.string r1, .string f1, .string q1, .int .i64 t1, .int .i64 k1, .int .i64 vk1, .int .i64 vn1, .string s1] 28)) w.heap.size 28 #[Value.string r1, .string f1, .string q1, .int .i64 t1, .int .i64 k1, .int .i64 vk1, .int .i64 vn1, .string s1] := Blk.new w _ _
      have B2 := B1.keep (below_new _ (.cells #[Value.string r2, .string f2, .string q2, .int .i64 t2, .int .i64 4, .int .i64 vk2, .int .i64 vn2, .string s2] 28)) (by simp)
      have B3 : Blk ((w.alloc (.cells #[Value.string r1, .string f1, .string q1, .int .i64 t1, .int .i64 k1, .int .i64 vk1, .int .i64 vn1, .string s1] 28)).alloc (.cells #[Value.string r2, .string f2, .string q2, .int .i64 t2, .int .i64 4, .int .i64 vk2, .int .i64 vn2, .string s2] 28)) (w.heap.size + 1) 28 #[Value.string r2, .string f2, .string q2, .int .i64 t2, .int .i64 4, .int .i64 vk2, .int .i64 vn2, .string s2] := by
        have := Blk.new (w.alloc (.cells #[Value.string r1, .string f1, .string q1, .int .i64 t1, .int .i64 k1, .int .i64 vk1, .int .i64 vn1, .string s1] 28)) 28 #[Value.string r2, .string f2, .string q2, .int .i64 t2, .int .i64 4, .int .i64 vk2, .int .i64 vn2, .string s2]
        simpa using this
      exact ⟨hid ⟨(below_new w _).alloc (by simp) _, by simp⟩, B2.cell 0, B2.cell 1, B2.cell 2, B2.cell 3, B2.cell 4, B2.cell 5, B2.cell 6, B2.cell 7, B3.cell 0, B3.cell 1, B3.cell 2, B3.cell 3, B3.cell 4, B3.cell 5, B3.cell 6, B3.cell 7⟩
    rw [hW]
    clear hW
    obtain ⟨h0, c0, c1, c2, c3, c4, c5, c6, c7, d0, d1, d2, d3, d4, d5, d6, d7⟩ := HT.out
    go_region_held3 (fun w' => Hid (Below w.heap.size w w' ∧ w.heap.size + 1 < w'.heap.size) ∧ w'.cell? ⟨w.heap.size, 0, none⟩ = some (.string r1) ∧ w'.cell? ⟨w.heap.size, 1, none⟩ = some (.string f1) ∧ w'.cell? ⟨w.heap.size, 2, none⟩ = some (.string q1) ∧ w'.cell? ⟨w.heap.size, 3, none⟩ = some (.int .i64 t1) ∧ w'.cell? ⟨w.heap.size, 4, none⟩ = some (.int .i64 k1) ∧ w'.cell? ⟨w.heap.size, 5, none⟩ = some (.int .i64 vk1) ∧ w'.cell? ⟨w.heap.size, 6, none⟩ = some (.int .i64 vn1) ∧ w'.cell? ⟨w.heap.size, 7, none⟩ = some (.string s1) ∧ w'.cell? ⟨w.heap.size + 1, 0, none⟩ = some (.string r2) ∧ w'.cell? ⟨w.heap.size + 1, 1, none⟩ = some (.string f2) ∧ w'.cell? ⟨w.heap.size + 1, 2, none⟩ = some (.string q2) ∧ w'.cell? ⟨w.heap.size + 1, 3, none⟩ = some (.int .i64 t2) ∧ w'.cell? ⟨w.heap.size + 1, 4, none⟩ = some (.int .i64 4) ∧ w'.cell? ⟨w.heap.size + 1, 5, none⟩ = some (.int .i64 vk2) ∧ w'.cell? ⟨w.heap.size + 1, 6, none⟩ = some (.int .i64 vn2) ∧ w'.cell? ⟨w.heap.size + 1, 7, none⟩ = some (.string s2))
      (first | exact HT.out | exact twoc_drew HT.out | exact twoc_call (by assumption) hbo | exact twoc_drew (by assumption) | assumption | exact twoc_call (by assumption) (below_new _ _) | exact twoc_call (twoc_call (by assumption) (below_new _ _)) hbo)
      (first
        | (go_at_call 123; (first | (with_reducible refine (HTr.out _).mono ?_) | (with_reducible refine (HTf.out _).mono ?_) | (with_reducible refine (HTq.out _).mono ?_)); rintro e w5 ⟨rfl, hbo⟩)
        | (go_at_call 124; ((with_reducible refine (refcmp3_any _ _ _).mono ?_); rintro e w5 ⟨rfl, rfl⟩)))
    rename_i hLast
    have HB : Hid (Below w.heap.size w _) := hid hLast.1.out.1
    clear hLast HTr HTf HTq HT h0 c0 c1 c2 c3 c4 c5 c6 c7 d0 d1 d2 d3 d4 d5 d6 d7 hbo
    obtain ⟨l, hl⟩ : ∃ l : List Int, [b1, b2, Lib.compareInt 1 0, b3, Lib.compareInt t2 t1, Lib.compareInt 4 k1] = l := ⟨_, rfl⟩
    have HL : Hid (l.length = 6) := hid (by rw [← hl]; rfl)
    have HC : Hid (∀ i (h : i < l.length), (w5.alloc (.cells #[.int .i64 b1, .int .i64 b2, .int .i64 (Lib.compareInt 1 0), .int .i64 b3, .int .i64 (Lib.compareInt t2 t1), .int .i64 (Lib.compareInt 4 k1)] 3)).cell? ⟨w5.heap.size, i, none⟩ = some (.int .i64 l[i])) := by
      subst hl
      refine hid fun i hi => ?_
      rw [(Blk.new w5 3 _).cell i]
      match i, hi with
      | 0, _ => rfl
      | 1, _ => rfl
      | 2, _ => rfl
      | 3, _ => rfl
      | 4, _ => rfl
      | 5, _ => rfl
    have HE := hid hl
    clear hl
    generalize (w5.alloc (.cells #[.int .i64 b1, .int .i64 b2, .int .i64 (Lib.compareInt 1 0), .int .i64 b3, .int .i64 (Lib.compareInt t2 t1), .int .i64 (Lib.compareInt 4 k1)] 3)) = V at HB HC ⊢
    generalize w5.heap.size = g at HC ⊢
    go_wp2
    go_loopw [8] (fun vi wr => ∃ i : Nat, i ≤ 6 ∧ vi = .int .i64 i ∧ wr = V ∧ Hid (orI l = orI (l.drop i))) (fun vi _ => 6 - (intOf vi).toNat)
    case atStart => exact ⟨0, Nat.zero_le _, rfl, rfl, rfl⟩
    case round =>
      obtain ⟨i, hi, rfl, rfl, HO⟩ := hrel
      by_cases hlt : i < 6
      · have hil : i < l.length := by rw [HL.out]; exact hlt
        have hc := HC.out i hil
        have HD : Hid (orI l = if l[i] = 0 then orI (l.drop (i + 1)) else l[i]) := by
          unfold Hid
          rw [HO.out, List.drop_eq_getElem_cons hil, orI]
        generalize l[i] = x at hc HD
        by_cases hx : x = 0
        · subst hx
          go_wp2
          go_roundw
          case rel => exact ⟨i + 1, by omega, by go_num, trivial, by unfold Hid; rw [HD.out, if_pos rfl]⟩
          case measure => simp [intOf]; omega
        · have q0 : (x != 0) = true := by simpa using hx
          go_wp2
          go_ret
          refine ⟨?_, HB.out⟩
          rw [HE.out, HD.out, if_neg hx]
          rfl
      · go_wp2
        go_ret
        refine ⟨?_, HB.out⟩
        rw [HE.out, HO.out, List.drop_eq_nil_of_le (by have := HL.out; omega)]
        rfl
  · go_enter Tryd.func47, Tryd.ntmps47
    go_upto_region 7 with (fail)
    obtain ⟨W, hW⟩ : ∃ W, ((w.alloc (.cells #[.string r1, .string f1, .string q1, .int .i64 t1, .int .i64 k1, .int .i64 vk1, .int .i64 vn1, .string s1] 28)).alloc (.cells #[.string r2, .string f2, .string q2, .int .i64 t2, .int .i64 k2, .int .i64 vk2, .int .i64 vn2, .string s2] 28)) = W := ⟨_, rfl⟩
    have HT : Hid (TwoC w r1 f1 q1 s1 t1 k1 vk1 vn1 r2 f2 q2 s2 t2 k2 vk2 vn2 W) := by
      subst hW
      have B1 : Blk (w.alloc (.cells #[Value.string r1, .string f1, .string q1, .int .i64 t1, .int .i64 k1, .int .i64 vk1, .int .i64 vn1, .string s1] 28)) w.heap.size 28 #[Value.string r1, .string f1, .string q1, .int .i64 t1, .int .i64 k1, .int .i64 vk1, .int .i64 vn1, .string s1] := Blk.new w _ _
      have B2 := B1.keep (below_new _ (.cells #[Value.string r2, .string f2, .string q2, .int .i64 t2, .int .i64 k2, .int .i64 vk2, .int .i64 vn2, .string s2] 28)) (by simp)
      have B3 : Blk ((w.alloc (.cells #[Value.string r1, .string f1, .string q1, .int .i64 t1, .int .i64 k1, .int .i64 vk1, .int .i64 vn1, .string s1] 28)).alloc (.cells #[Value.string r2, .string f2, .string q2, .int .i64 t2, .int .i64 k2, .int .i64 vk2, .int .i64 vn2, .string s2] 28)) (w.heap.size + 1) 28 #[Value.string r2, .string f2, .string q2, .int .i64 t2, .int .i64 k2, .int .i64 vk2, .int .i64 vn2, .string s2] := by
        have := Blk.new (w.alloc (.cells #[Value.string r1, .string f1, .string q1, .int .i64 t1, .int .i64 k1, .int .i64 vk1, .int .i64 vn1, .string s1] 28)) 28 #[Value.string r2, .string f2, .string q2, .int .i64 t2, .int .i64 k2, .int .i64 vk2, .int .i64 vn2, .string s2]
        simpa using this
      exact ⟨hid ⟨(below_new w _).alloc (by simp) _, by simp⟩, B2.cell 0, B2.cell 1, B2.cell 2, B2.cell 3, B2.cell 4, B2.cell 5, B2.cell 6, B2.cell 7, B3.cell 0, B3.cell 1, B3.cell 2, B3.cell 3, B3.cell 4, B3.cell 5, B3.cell 6, B3.cell 7⟩
    rw [hW]
    clear hW
    obtain ⟨h0, c0, c1, c2, c3, c4, c5, c6, c7, d0, d1, d2, d3, d4, d5, d6, d7⟩ := HT.out
    go_region_held3 (fun w' => Hid (Below w.heap.size w w' ∧ w.heap.size + 1 < w'.heap.size) ∧ w'.cell? ⟨w.heap.size, 0, none⟩ = some (.string r1) ∧ w'.cell? ⟨w.heap.size, 1, none⟩ = some (.string f1) ∧ w'.cell? ⟨w.heap.size, 2, none⟩ = some (.string q1) ∧ w'.cell? ⟨w.heap.size, 3, none⟩ = some (.int .i64 t1) ∧ w'.cell? ⟨w.heap.size, 4, none⟩ = some (.int .i64 k1) ∧ w'.cell? ⟨w.heap.size, 5, none⟩ = some (.int .i64 vk1) ∧ w'.cell? ⟨w.heap.size, 6, none⟩ = some (.int .i64 vn1) ∧ w'.cell? ⟨w.heap.size, 7, none⟩ = some (.string s1) ∧ w'.cell? ⟨w.heap.size + 1, 0, none⟩ = some (.string r2) ∧ w'.cell? ⟨w.heap.size + 1, 1, none⟩ = some (.string f2) ∧ w'.cell? ⟨w.heap.size + 1, 2, none⟩ = some (.string q2) ∧ w'.cell? ⟨w.heap.size + 1, 3, none⟩ = some (.int .i64 t2) ∧ w'.cell? ⟨w.heap.size + 1, 4, none⟩ = some (.int .i64 k2) ∧ w'.cell? ⟨w.heap.size + 1, 5, none⟩ = some (.int .i64 vk2) ∧ w'.cell? ⟨w.heap.size + 1, 6, none⟩ = some (.int .i64 vn2) ∧ w'.cell? ⟨w.heap.size + 1, 7, none⟩ = some (.string s2))
      (first | exact HT.out | exact twoc_drew HT.out | exact twoc_call (by assumption) hbo | exact twoc_drew (by assumption) | assumption | exact twoc_call (by assumption) (below_new _ _) | exact twoc_call (twoc_call (by assumption) (below_new _ _)) hbo)
      (first
        | (go_at_call 123; (first | (with_reducible refine (HTr.out _).mono ?_) | (with_reducible refine (HTf.out _).mono ?_) | (with_reducible refine (HTq.out _).mono ?_)); rintro e w5 ⟨rfl, hbo⟩)
        | (go_at_call 124; ((with_reducible refine (refcmp3_any _ _ _).mono ?_); rintro e w5 ⟨rfl, rfl⟩)))
    rename_i hLast
    have HB : Hid (Below w.heap.size w _) := hid hLast.1.out.1
    clear hLast HTr HTf HTq HT h0 c0 c1 c2 c3 c4 c5 c6 c7 d0 d1 d2 d3 d4 d5 d6 d7 hbo
    obtain ⟨l, hl⟩ : ∃ l : List Int, [b1, b2, Lib.compareInt 1 1, b3, Lib.compareInt t2 t1, Lib.compareInt k2 k1] = l := ⟨_, rfl⟩
    have HL : Hid (l.length = 6) := hid (by rw [← hl]; rfl)
    have HC : Hid (∀ i (h : i < l.length), (w5.alloc (.cells #[.int .i64 b1, .int .i64 b2, .int .i64 (Lib.compareInt 1 1), .int .i64 b3, .int .i64 (Lib.compareInt t2 t1), .int .i64 (Lib.compareInt k2 k1)] 3)).cell? ⟨w5.heap.size, i, none⟩ = some (.int .i64 l[i])) := by
      subst hl
      refine hid fun i hi => ?_
      rw [(Blk.new w5 3 _).cell i]
      match i, hi with
      | 0, _ => rfl
      | 1, _ => rfl
      | 2, _ => rfl
      | 3, _ => rfl
      | 4, _ => rfl
      | 5, _ => rfl
    have HE := hid hl
    clear hl
    generalize (w5.alloc (.cells #[.int .i64 b1, .int .i64 b2, .int .i64 (Lib.compareInt 1 1), .int .i64 b3, .int .i64 (Lib.compareInt t2 t1), .int .i64 (Lib.compareInt k2 k1)] 3)) = V at HB HC ⊢
    generalize w5.heap.size = g at HC ⊢
    go_wp2
    go_loopw [8] (fun vi wr => ∃ i : Nat, i ≤ 6 ∧ vi = .int .i64 i ∧ wr = V ∧ Hid (orI l = orI (l.drop i))) (fun vi _ => 6 - (intOf vi).toNat)
    case atStart => exact ⟨0, Nat.zero_le _, rfl, rfl, rfl⟩
    case round =>
      obtain ⟨i, hi, rfl, rfl, HO⟩ := hrel
      by_cases hlt : i < 6
      · have hil : i < l.length := by rw [HL.out]; exact hlt
        have hc := HC.out i hil
        have HD : Hid (orI l = if l[i] = 0 then orI (l.drop (i + 1)) else l[i]) := by
          unfold Hid
          rw [HO.out, List.drop_eq_getElem_cons hil, orI]
        generalize l[i] = x at hc HD
        by_cases hx : x = 0
        · subst hx
          go_wp2
          go_roundw
          case rel => exact ⟨i + 1, by omega, by go_num, trivial, by unfold Hid; rw [HD.out, if_pos rfl]⟩
          case measure => simp [intOf]; omega
        · have q0 : (x != 0) = true := by simpa using hx
          go_wp2
          go_ret
          refine ⟨?_, HB.out⟩
          rw [HE.out, HD.out, if_neg hx]
          rfl
      · go_wp2
        go_ret
        refine ⟨?_, HB.out⟩
        rw [HE.out, HO.out, List.drop_eq_nil_of_le (by have := HL.out; omega)]
        rfl

end Go.Proofs.YtgfkobfkncpmoaaDoor
