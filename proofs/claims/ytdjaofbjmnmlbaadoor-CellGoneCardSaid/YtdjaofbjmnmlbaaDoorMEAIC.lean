/- Several texts in one: EA RBa EB II IC. Conditions: as each theorem names them. -/
import Derived.Test.YtdjaofbjmnmlbaaDoorCC
import Derived.Test.YtdjaofbjmnmlbaaDoorMKARF
import Derived.Test.YtdjaofbjmnmlbaaDoorVJ
import Derived.Deep.QuietTactic
import Derived.BigQuiet
import Derived.Test.YtdjaofbjmnmlbaaDoorCE
import Derived.Test.YtdjaofbjmnmlbaaDoorMKDJA
import Derived.Test.YtdjaofbjmnmlbaaDoorHF
import Derived.Deep.RegionHeld3
/- The document's Name and Right of layer 3 at every text and cell. Conditions: the value's text of at most a thousand bytes. -/
namespace Go.Proofs.YtdjaofbjmnmlbaaDoor
open Go.RowKit

set_option maxRecDepth 100000 in
set_option maxHeartbeats 2000000 in
theorem refName_any (s : ByteArray) (hs : s.size ≤ 9223372036854775807) (w : World) :
    Calls Tryd.prog 75 #[.string s] w fun e w' => e = .returned (.bool (nameB s.data.toList)) ∧ w' = w := by
  go_enter Tryd.func75, Tryd.ntmps75
  go_wp2
  go_loopw [3] (fun vi wr => ∃ i : Nat, i ≤ s.size ∧ vi = .int .i64 i ∧ wr = w ∧ Hid ((s.data.toList.take i).all nmB = true)) (fun vi _ => s.size - (intOf vi).toNat)
  case atStart => exact ⟨0, Nat.zero_le _, rfl, rfl, rfl⟩
  case round =>
    obtain ⟨i, hi, rfl, rfl, HA⟩ := hrel
    by_cases hlt : i < s.size
    · have hll : i < s.data.toList.length := hlt
      have HT : Hid ((s.data.toList.take (i + 1)).all nmB = nmB s[i]) := by
        unfold Hid
        rw [all_take_next _ i hll, HA.out, Bool.true_and, getD_str' s i hlt]
      have HF : Hid (nmB s[i] = false → nameB s.data.toList = false) := by
        intro h
        unfold nameB
        rw [all_take_false s.data.toList i hll (by rw [getD_str' s i hlt]; exact h), Bool.false_and]
      by_cases hn : nmB s[i] = true
      · have HN := hid hn
        unfold nmB at hn
        simp only [Bool.or_eq_true, Bool.and_eq_true, decide_eq_true_eq] at hn
        rcases hn with ⟨a1, a2⟩ | ⟨a1, a2⟩
        · have b1 : (97 : Int) ≤ (s[i].toNat : Int) := by omega
          have b2 : (s[i].toNat : Int) ≤ 122 := by omega
          clear a1 a2
          go_wp2
          go_roundw
          case rel => exact ⟨i + 1, by omega, by go_num, trivial, by unfold Hid; rw [HT.out]; exact HN.out⟩
          case measure => simp [intOf]; omega
        · have b1 : (48 : Int) ≤ (s[i].toNat : Int) := by omega
          have b2 : (s[i].toNat : Int) ≤ 57 := by omega
          have b3 : ¬ (97 : Int) ≤ (s[i].toNat : Int) := by omega
          clear a1 a2
          go_wp2
          go_roundw
          case rel => exact ⟨i + 1, by omega, by go_num, trivial, by unfold Hid; rw [HT.out]; exact HN.out⟩
          case measure => simp [intOf]; omega
      · have HN : Hid (nmB s[i] = false) := by unfold Hid; simpa using hn
        have hn := HN.out
        unfold nmB at hn
        have hc : (s[i].toNat < 48) ∨ (57 < s[i].toNat ∧ s[i].toNat < 97) ∨ 122 < s[i].toNat := by
          simp only [Bool.or_eq_false_iff, Bool.and_eq_false_iff, decide_eq_false_iff_not] at hn
          omega
        clear hn
        rcases hc with h | ⟨h, h'⟩ | h
        · have b1 : ¬ (97 : Int) ≤ (s[i].toNat : Int) := by omega
          have b2 : ¬ (48 : Int) ≤ (s[i].toNat : Int) := by omega
          go_wp2
          go_ret
          rw [HF.out HN.out]
          exact ⟨rfl, rfl⟩
        · have b1 : ¬ (97 : Int) ≤ (s[i].toNat : Int) := by omega
          have b2 : (48 : Int) ≤ (s[i].toNat : Int) := by omega
          have b3 : ¬ (s[i].toNat : Int) ≤ 57 := by omega
          go_wp2
          go_ret
          rw [HF.out HN.out]
          exact ⟨rfl, rfl⟩
        · have b1 : (97 : Int) ≤ (s[i].toNat : Int) := by omega
          have b2 : ¬ (s[i].toNat : Int) ≤ 122 := by omega
          have b3 : (48 : Int) ≤ (s[i].toNat : Int) := by omega
          have b4 : ¬ (s[i].toNat : Int) ≤ 57 := by omega
          go_wp2
          go_ret
          rw [HF.out HN.out]
          exact ⟨rfl, rfl⟩
    · have HE : Hid (nameB s.data.toList = (decide (1 ≤ s.size) && decide (s.size ≤ 8))) := by
        have h := HA.out
        rw [List.take_of_length_le (show s.data.toList.length ≤ i by show s.size ≤ i; omega)] at h
        unfold Hid nameB
        rw [h, Bool.true_and]
        rfl
      go_wp2
      all_goals go_ret
      all_goals rw [HE.out]
      · rename_i h
        exact ⟨ret_bool (show decide ((s.size : Int) ≤ 8) = _ by rw [decide_eq_true (show 1 ≤ s.size by omega), Bool.true_and]; exact decide_eq_decide.2 (by omega)), rfl⟩
      · rename_i h
        exact ⟨ret_bool (show false = _ by rw [decide_eq_false (show ¬ 1 ≤ s.size by omega)]; rfl), rfl⟩

set_option maxRecDepth 100000 in
set_option maxHeartbeats 4000000 in
/-- Something ahead of the kind is wrong. -/
theorem refcright_head (r f q vs : ByteArray) (t k vk vn : Int) (nf : Bool) (h : (r.size < 1 ∨ 16 < r.size) ∨ (¬ (r.size < 1 ∨ 16 < r.size) ∧ (nf = false ∨ (nf = true ∧ (12 < q.size ∨ (q.size ≤ 12 ∧ (t < 0 ∨ (0 ≤ t ∧ 1099511627776 < t)))))))) (w : World)
    (HN : ∀ W, Calls Tryd.prog 75 #[.string f] W fun e w' => e = .returned (.bool nf) ∧ w' = W) :
    Calls Tryd.prog 26 #[cellV r f q t k vk vn vs] w fun e w' => e = .returned (.bool false) ∧ Below w.heap.size w w' := by
  have HN := hid HN
  rcases h with (h | h) | ⟨h0, rfl | ⟨rfl, h | ⟨h1, h | ⟨h2, h3⟩⟩⟩⟩
  all_goals
    go_enter Tryd.func26, Tryd.ntmps26
    go_wp2_with (go_at_call 75; refine (HN.out _).mono ?_; rintro e w1 ⟨rfl, rfl⟩)
    all_goals go_ret
    all_goals exact ⟨rfl, below_new _ _⟩

set_option maxRecDepth 100000 in
set_option maxHeartbeats 4000000 in
/-- A put. -/
theorem refcright_put (r f q vs : ByteArray) (t vk vn : Int) (vr : Bool) (h1 : 1 ≤ r.size) (h2 : r.size ≤ 16) (h3 : q.size ≤ 12) (h4 : 0 ≤ t) (h5 : t ≤ 1099511627776) (w : World)
    (HN : ∀ W, Calls Tryd.prog 75 #[.string f] W fun e w' => e = .returned (.bool true) ∧ w' = W)
    (HV : ∀ W, Below w.heap.size w W → Calls Tryd.prog 76 #[.agg #[.int .i64 vk, .int .i64 vn, .string vs]] W fun e w' => e = .returned (.bool vr) ∧ Below W.heap.size W w') :
    Calls Tryd.prog 26 #[cellV r f q t 1 vk vn vs] w fun e w' => e = .returned (.bool vr) ∧ Below w.heap.size w w' := by
  have HN := hid HN
  have HV := hid HV
  have h0 : ¬ (r.size < 1 ∨ 16 < r.size) := by omega
  go_enter Tryd.func26, Tryd.ntmps26
  go_wp2_with (first | (go_at_call 75; refine (HN.out _).mono ?_; rintro e w1 ⟨rfl, rfl⟩) | (go_at_call 76; refine (HV.out _ (below_new _ _)).mono ?_; rintro e w1 ⟨rfl, hb⟩))
  go_ret
  exact ⟨rfl, (below_new _ _).trans (hb.mono (below_new _ _).size)⟩

set_option maxRecDepth 100000 in
set_option maxHeartbeats 8000000 in
/-- A cell or a column is gone. -/
theorem refcright_gone (r f q vs : ByteArray) (t k vk vn : Int) (z : Bool) (h1 : 1 ≤ r.size) (h2 : r.size ≤ 16) (h3 : q.size ≤ 12) (h4 : 0 ≤ t) (h5 : t ≤ 1099511627776) (hk : k = 2 ∨ k = 3) (hv : NoneOr vk vn vs z) (w : World)
    (HN : ∀ W, Calls Tryd.prog 75 #[.string f] W fun e w' => e = .returned (.bool true) ∧ w' = W) :
    Calls Tryd.prog 26 #[cellV r f q t k vk vn vs] w fun e w' => e = .returned (.bool z) ∧ Below w.heap.size w w' := by
  have HN := hid HN
  have h0 : ¬ (r.size < 1 ∨ 16 < r.size) := by omega
  rcases hk with rfl | rfl
  all_goals rcases hv with ⟨h, q0, rfl⟩ | ⟨rfl, ⟨h, q0, rfl⟩ | ⟨rfl, ⟨h, rfl⟩ | ⟨rfl, rfl⟩⟩⟩
  all_goals
    go_enter Tryd.func26, Tryd.ntmps26
    go_wp2_with (go_at_call 75; refine (HN.out _).mono ?_; rintro e w1 ⟨rfl, rfl⟩)
    go_ret
    exact ⟨rfl, below_new _ _⟩

set_option maxRecDepth 100000 in
set_option maxHeartbeats 4000000 in
/-- No kind. -/
theorem refcright_other (r f q vs : ByteArray) (t k vk vn : Int) (h1 : 1 ≤ r.size) (h2 : r.size ≤ 16) (h3 : q.size ≤ 12) (h4 : 0 ≤ t) (h5 : t ≤ 1099511627776) (k1 : ¬ k = 1) (k2 : ¬ k = 2) (k3 : ¬ k = 3) (k4 : ¬ k = 4) (w : World)
    (HN : ∀ W, Calls Tryd.prog 75 #[.string f] W fun e w' => e = .returned (.bool true) ∧ w' = W) :
    Calls Tryd.prog 26 #[cellV r f q t k vk vn vs] w fun e w' => e = .returned (.bool false) ∧ Below w.heap.size w w' := by
  have HN := hid HN
  have h0 : ¬ (r.size < 1 ∨ 16 < r.size) := by omega
  have e1 : (k == 1) = false := by simpa using k1
  have e2 : (k == 2) = false := by simpa using k2
  have e3 : (k == 3) = false := by simpa using k3
  have e4 : (k == 4) = false := by simpa using k4
  go_enter Tryd.func26, Tryd.ntmps26
  go_wp2_with (go_at_call 75; refine (HN.out _).mono ?_; rintro e w1 ⟨rfl, rfl⟩)
  go_ret
  exact ⟨rfl, below_new _ _⟩

set_option maxRecDepth 100000 in
set_option maxHeartbeats 8000000 in
/-- A family is gone. -/
theorem refcright_fam (r f q vs : ByteArray) (t vk vn : Int) (z : Bool) (h1 : 1 ≤ r.size) (h2 : r.size ≤ 16) (h3 : q.size ≤ 12) (h4 : 0 ≤ t) (h5 : t ≤ 1099511627776) (hv : NoneOr vk vn vs z) (w : World)
    (HN : ∀ W, Calls Tryd.prog 75 #[.string f] W fun e w' => e = .returned (.bool true) ∧ w' = W) :
    Calls Tryd.prog 26 #[cellV r f q t 4 vk vn vs] w fun e w' => e = .returned (.bool (q.data.toList.isEmpty && z)) ∧ Below w.heap.size w w' := by
  have HN := hid HN
  have h0 : ¬ (r.size < 1 ∨ 16 < r.size) := by omega
  rcases hv with ⟨h, q0, rfl⟩ | ⟨rfl, ⟨h, q0, rfl⟩ | ⟨rfl, ⟨h, rfl⟩ | ⟨rfl, rfl⟩⟩⟩
  · rw [Bool.and_false]
    go_enter Tryd.func26, Tryd.ntmps26
    go_wp2_with (go_at_call 75; refine (HN.out _).mono ?_; rintro e w1 ⟨rfl, rfl⟩)
    go_ret
    exact ⟨rfl, below_new _ _⟩
  · rw [Bool.and_false]
    go_enter Tryd.func26, Tryd.ntmps26
    go_wp2_with (go_at_call 75; refine (HN.out _).mono ?_; rintro e w1 ⟨rfl, rfl⟩)
    go_ret
    exact ⟨rfl, below_new _ _⟩
  · rw [Bool.and_false]
    go_enter Tryd.func26, Tryd.ntmps26
    go_wp2_with (go_at_call 75; refine (HN.out _).mono ?_; rintro e w1 ⟨rfl, rfl⟩)
    go_ret
    exact ⟨rfl, below_new _ _⟩
  · rw [Bool.and_true]
    by_cases hq : q.data.toList = []
    · have e : q = ⟨#[]⟩ := by cases q; simp_all
      subst e
      go_enter Tryd.func26, Tryd.ntmps26
      go_wp2_with (go_at_call 75; refine (HN.out _).mono ?_; rintro e w1 ⟨rfl, rfl⟩)
      go_ret
      exact ⟨rfl, below_new _ _⟩
    · have h : ¬ q.toList = [] := by rw [toList_eq]; exact hq
      clear hq
      go_enter Tryd.func26, Tryd.ntmps26
      go_wp2_with (go_at_call 75; refine (HN.out _).mono ?_; rintro e w1 ⟨rfl, rfl⟩)
      go_ret
      rw [← toList_eq]
      exact ⟨rfl, below_new _ _⟩

theorem refcright_any (r f q vs : ByteArray) (t k vk : Int) (vn : Int) (hf : f.size ≤ 9223372036854775807) (hv : vs.size ≤ 4000) (w : World) :
    Calls Tryd.prog 26 #[cellV r f q t k vk vn vs] w fun e w' => e = .returned (.bool (cRight r.data.toList f.data.toList q.data.toList t k vk vn vs.data.toList)) ∧ Below w.heap.size w w' := by
  have HN : ∀ W, Calls Tryd.prog 75 #[.string f] W fun e w' => e = .returned (.bool (nameB f.data.toList)) ∧ w' = W := fun W => refName_any f hf W
  have HV : ∀ W, Below w.heap.size w W → Calls Tryd.prog 76 #[.agg #[.int .i64 vk, .int .i64 vn, .string vs]] W fun e w' => e = .returned (.bool (vRight vk vn vs.data.toList)) ∧ Below W.heap.size W w' := fun W _ => refright_any vk vn vs W hv
  have er : r.data.toList.length = r.size := rfl
  have eq : q.data.toList.length = q.size := rfl
  unfold cRight
  by_cases hh : cHead r.data.toList f.data.toList q.data.toList t = true
  · rw [hh, Bool.true_and]
    unfold cHead at hh
    rw [er, eq] at hh
    simp only [Bool.and_eq_true, decide_eq_true_eq] at hh
    obtain ⟨⟨h1, h2⟩, h3, h4, h5, h6⟩ := hh
    rw [h3] at HN
    unfold cTail
    by_cases k1 : k = 1
    · subst k1
      rw [if_pos rfl]
      exact refcright_put r f q vs t vk vn _ h1 h2 h4 h5 h6 w HN HV
    · rw [if_neg k1]
      by_cases k23 : k = 2 ∨ k = 3
      · rw [if_pos k23]
        exact refcright_gone r f q vs t k vk vn _ h1 h2 h4 h5 h6 k23 (noneOr vk vn vs) w HN
      · rw [if_neg k23]
        by_cases k4 : k = 4
        · subst k4
          rw [if_pos rfl]
          exact refcright_fam r f q vs t vk vn _ h1 h2 h4 h5 h6 (noneOr vk vn vs) w HN
        · rw [if_neg k4]
          exact refcright_other r f q vs t k vk vn h1 h2 h4 h5 h6 k1 (fun e => k23 (.inl e)) (fun e => k23 (.inr e)) k4 w HN
  · have hF : cHead r.data.toList f.data.toList q.data.toList t = false := by simpa using hh
    rw [hF, Bool.false_and]
    refine refcright_head r f q vs t k vk vn (nameB f.data.toList) ?_ w HN
    unfold cHead at hh
    rw [er, eq] at hh
    simp only [Bool.and_eq_true, decide_eq_true_eq] at hh
    by_cases h1 : r.size < 1 ∨ 16 < r.size
    · exact .inl h1
    · refine .inr ⟨h1, ?_⟩
      by_cases h2 : nameB f.data.toList = true
      · refine .inr ⟨h2, ?_⟩
        by_cases h3 : q.size ≤ 12
        · refine .inr ⟨h3, ?_⟩
          by_cases h4 : 0 ≤ t
          · refine .inr ⟨h4, ?_⟩
            have : ¬ t ≤ 1099511627776 := fun h5 => hh ⟨⟨by omega, by omega⟩, h2, h3, h4, h5⟩
            omega
          · exact .inl (by omega)
        · exact .inl (by omega)
      · exact .inl (by simpa using h2)
end Go.Proofs.YtdjaofbjmnmlbaaDoor

/- The document's Texts at every two texts. Conditions: texts no longer than any are. -/
namespace Go.Proofs.YtdjaofbjmnmlbaaDoor
open Go.RowKit

theorem cmpB_drop (l m : List UInt8) (k : Nat) (h : k < l.length) (h' : k < m.length) :
    Lib.compareBytes (l.drop k) (m.drop k) = if (l.getD k 0).toNat < (m.getD k 0).toNat then -1 else if (m.getD k 0).toNat < (l.getD k 0).toNat then 1 else Lib.compareBytes (l.drop (k + 1)) (m.drop (k + 1)) := by
  rw [List.drop_eq_getElem_cons h, List.drop_eq_getElem_cons h']
  conv => lhs; unfold Lib.compareBytes
  simp only [List.getD_eq_getElem?_getD, List.getElem?_eq_getElem h, List.getElem?_eq_getElem h', Option.getD_some, UInt8.lt_iff_toNat_lt]

theorem cmpB_end (l m : List UInt8) (h : l = [] ∨ m = []) : Lib.compareBytes l m = if l.length < m.length then -1 else if m.length < l.length then 1 else 0 := by
  rcases h with rfl | rfl
  · cases m with
    | nil => rfl
    | cons => simp [Lib.compareBytes]
  · cases l with
    | nil => rfl
    | cons => simp [Lib.compareBytes]

/-- What the loop knows. -/
def XInv (s t : ByteArray) (w : World) (vi : Value) (wr : World) : Prop :=
  ∃ (i m : Nat), i ≤ s.size ∧ i ≤ t.size ∧ vi = .int .i64 i ∧ wr = w.drewN m ∧ Lib.compareBytes s.data.toList t.data.toList = Lib.compareBytes (s.data.toList.drop i) (t.data.toList.drop i)

theorem dl (s : ByteArray) : s.data.toList.length = s.size := rfl
theorem getD_str (s : ByteArray) (i : Nat) (h : i < s.size) : s.data.toList.getD i 0 = s[i] := by
  rw [List.getD_eq_getElem?_getD, List.getElem?_eq_getElem (show i < s.data.toList.length from h)]
  rfl

set_option maxHeartbeats 2000000 in
theorem texts_any (s t : ByteArray) (hs : s.size ≤ 9223372036854775807) (_ : t.size ≤ 9223372036854775807) (w : World) :
    Calls Tryd.prog 77 #[.string s, .string t] w fun e w' => e = .returned (.int .i64 (Lib.compareBytes s.data.toList t.data.toList)) ∧ Below w.heap.size w w' := by
  go_enter Tryd.func77, Tryd.ntmps77
  go_wp2
  go_loopw [5] (fun vi wr => XInv s t w vi wr) (fun vi _ => s.size - (intOf vi).toNat)
  case atStart => exact ⟨0, 0, Nat.zero_le _, Nat.zero_le _, rfl, rfl, rfl⟩
  case round =>
    obtain ⟨i, m, hi1, hi2, rfl, rfl, hc⟩ := hrel
    by_cases hlt : i < s.size ∧ i < t.size
    · obtain ⟨h1, h2⟩ := hlt
      have hd := cmpB_drop s.data.toList t.data.toList i h1 h2
      rw [getD_str s i h1, getD_str t i h2] at hd
      have HD := hid (hc.trans hd)
      clear hd hc
      by_cases c0 : s[i].toNat = t[i].toNat
      · have q0 : (s[i].toNat != t[i].toNat) = false := by simpa using c0
        have HQ : Hid (Lib.compareBytes s.data.toList t.data.toList = Lib.compareBytes (s.data.toList.drop (i + 1)) (t.data.toList.drop (i + 1))) := by
          have := HD.out
          rw [if_neg (by omega), if_neg (by omega)] at this
          exact this
        clear HD
        go_wp2
        go_quiet (fail)
        go_wp2
        go_roundw
        case rel => exact ⟨i + 1, _, by omega, by omega, by go_num, rfl, HQ.out⟩
        case measure => simp [intOf]; omega
      · have q0 : (s[i].toNat != t[i].toNat) = true := by simpa using c0
        by_cases c1 : s[i].toNat < t[i].toNat
        · have HQ : Hid (Lib.compareBytes s.data.toList t.data.toList = -1) := by
            have := HD.out
            rw [if_pos c1] at this
            exact this
          have q1 : decide (s[i].toNat < t[i].toNat) = true := decide_eq_true c1
          clear HD c0
          go_wp2
          go_quiet (fail)
          go_wp2
          go_quiet (fail)
          go_wp2
          go_ret
          exact ⟨ret_int HQ.out.symm, by repeat (first | exact Below.refl _ _ | refine Go.below_drewN ?_ _)⟩
        · have HQ : Hid (Lib.compareBytes s.data.toList t.data.toList = 1) := by
            have := HD.out
            rw [if_neg c1, if_pos (by omega)] at this
            exact this
          have q1 : decide (s[i].toNat < t[i].toNat) = false := decide_eq_false c1
          clear HD c0
          go_wp2
          go_quiet (fail)
          go_wp2
          go_quiet (fail)
          go_wp2
          go_ret
          exact ⟨ret_int HQ.out.symm, by repeat (first | exact Below.refl _ _ | refine Go.below_drewN ?_ _)⟩
    · have hq : Lib.compareBytes s.data.toList t.data.toList = if s.size < t.size then -1 else if t.size < s.size then 1 else 0 := by
        rw [hc, cmpB_end _ _ (by rcases (show i = s.size ∨ i = t.size by omega) with rfl | rfl <;> simp)]
        simp only [List.length_drop, dl]
        by_cases z1 : s.size < t.size
        · rw [if_pos (by omega), if_pos z1]
        · rw [if_neg (by omega), if_neg z1]
          by_cases z2 : t.size < s.size
          · rw [if_pos (by omega), if_pos z2]
          · rw [if_neg (by omega), if_neg z2]
      have hsel : (i < s.size ∧ decide (i < t.size) = false) ∨ i = s.size := by
        rcases Nat.lt_or_ge i s.size with h | h
        · exact .inl ⟨h, decide_eq_false (by omega)⟩
        · exact .inr (by omega)
      clear hc hlt
      rcases (show s.size < t.size ∨ t.size < s.size ∨ s.size = t.size by omega) with z | z | z
      · rw [if_pos z] at hq
        have HQ := hid hq
        have d1 : decide (s.size < t.size) = true := decide_eq_true z
        clear hq
        rcases hsel with ⟨h1, h2⟩ | rfl
        all_goals
          go_wp2
          go_ret
          exact ⟨ret_int HQ.out.symm, by repeat (first | exact Below.refl _ _ | refine Go.below_drewN ?_ _)⟩
      · rw [if_neg (by omega), if_pos z] at hq
        have HQ := hid hq
        have d1 : decide (s.size < t.size) = false := decide_eq_false (by omega)
        have d2 : decide (t.size < s.size) = true := decide_eq_true z
        clear hq
        rcases hsel with ⟨h1, h2⟩ | rfl
        all_goals
          go_wp2
          go_ret
          exact ⟨ret_int HQ.out.symm, by repeat (first | exact Below.refl _ _ | refine Go.below_drewN ?_ _)⟩
      · rw [if_neg (by omega), if_neg (by omega)] at hq
        have HQ := hid hq
        have d1 : decide (s.size < t.size) = false := decide_eq_false (by omega)
        have d2 : decide (t.size < s.size) = false := decide_eq_false (by omega)
        clear hq z
        rcases hsel with ⟨h1, h2⟩ | rfl
        all_goals
          go_wp2
          go_ret
          exact ⟨ret_int HQ.out.symm, by repeat (first | exact Below.refl _ _ | refine Go.below_drewN ?_ _)⟩

end Go.Proofs.YtdjaofbjmnmlbaaDoor

/- The document's cmp and Order of layer 3 at every two cells. Conditions: the texts are no longer than any are. -/
namespace Go.Proofs.YtdjaofbjmnmlbaaDoor
open Go.RowKit

theorem refcmp3_any (a b : Int) (w : World) :
    Calls Tryd.prog 78 #[.int .i64 a, .int .i64 b] w fun e w' => e = .returned (.int .i64 (Lib.compareInt a b)) ∧ w' = w := by
  unfold Lib.compareInt
  by_cases h1 : a < b
  · rw [if_pos h1]
    go_enter Tryd.func78, Tryd.ntmps78
    go_wp2
    go_ret
    exact ⟨rfl, rfl⟩
  · rw [if_neg h1]
    by_cases h2 : b < a
    · rw [if_pos h2]
      go_enter Tryd.func78, Tryd.ntmps78
      go_wp2
      go_ret
      exact ⟨rfl, rfl⟩
    · rw [if_neg h2]
      go_enter Tryd.func78, Tryd.ntmps78
      go_wp2
      go_ret
      exact ⟨rfl, rfl⟩

set_option maxRecDepth 100000 in
set_option maxHeartbeats 8000000 in
theorem refcorder_any (r1 f1 q1 s1 : ByteArray) (t1 k1 vk1 vn1 : Int) (r2 f2 q2 s2 : ByteArray) (t2 k2 vk2 vn2 : Int) (hr1 : r1.size ≤ 9223372036854775807) (hr2 : r2.size ≤ 9223372036854775807) (hf1 : f1.size ≤ 9223372036854775807) (hf2 : f2.size ≤ 9223372036854775807) (hq1 : q1.size ≤ 9223372036854775807) (hq2 : q2.size ≤ 9223372036854775807) (w : World) :
    Calls Tryd.prog 27 #[cellV r1 f1 q1 t1 k1 vk1 vn1 s1, cellV r2 f2 q2 t2 k2 vk2 vn2 s2] w fun e w' => e = .returned (.int .i64 (cOrd r1.data.toList f1.data.toList q1.data.toList t1 k1 r2.data.toList f2.data.toList q2.data.toList t2 k2)) ∧ Below w.heap.size w w' := by
  have HTr : Hid (∀ W, Calls Tryd.prog 77 #[.string r1, .string r2] W fun e w' => e = .returned (.int .i64 (Lib.compareBytes r1.data.toList r2.data.toList)) ∧ Below W.heap.size W w') := fun W => texts_any r1 r2 hr1 hr2 W
  have HTf : Hid (∀ W, Calls Tryd.prog 77 #[.string f1, .string f2] W fun e w' => e = .returned (.int .i64 (Lib.compareBytes f1.data.toList f2.data.toList)) ∧ Below W.heap.size W w') := fun W => texts_any f1 f2 hf1 hf2 W
  have HTq : Hid (∀ W, Calls Tryd.prog 77 #[.string q1, .string q2] W fun e w' => e = .returned (.int .i64 (Lib.compareBytes q1.data.toList q2.data.toList)) ∧ Below W.heap.size W w') := fun W => texts_any q1 q2 hq1 hq2 W
  clear hr1 hr2 hf1 hf2 hq1 hq2
  obtain ⟨x, hx⟩ : ∃ x, rankC k1 = x := ⟨_, rfl⟩
  obtain ⟨y, hy⟩ : ∃ y, rankC k2 = y := ⟨_, rfl⟩
  unfold cOrd
  rw [hx, hy]
  generalize hb1 : Lib.compareBytes r1.data.toList r2.data.toList = b1 at *
  generalize hb2 : Lib.compareBytes f1.data.toList f2.data.toList = b2 at *
  generalize hb3 : Lib.compareBytes q1.data.toList q2.data.toList = b3 at *
  clear hb1 hb2 hb3
  have HXY : Hid ((k1 = 4 ∧ x = 0) ∨ ((k1 == 4) = false ∧ x = 1)) := by
    unfold Hid; unfold rankC at hx
    by_cases h : k1 = 4
    · rw [if_pos h] at hx; exact .inl ⟨h, hx.symm⟩
    · rw [if_neg h] at hx; exact .inr ⟨by simpa using h, hx.symm⟩
  have HYY : Hid ((k2 = 4 ∧ y = 0) ∨ ((k2 == 4) = false ∧ y = 1)) := by
    unfold Hid; unfold rankC at hy
    by_cases h : k2 = 4
    · rw [if_pos h] at hy; exact .inl ⟨h, hy.symm⟩
    · rw [if_neg h] at hy; exact .inr ⟨by simpa using h, hy.symm⟩
  clear hx hy
  rcases HXY.out with ⟨rfl, rfl⟩ | ⟨hx1, rfl⟩ <;> rcases HYY.out with ⟨rfl, rfl⟩ | ⟨hy1, rfl⟩ <;> clear HXY HYY
  · go_enter Tryd.func27, Tryd.ntmps27
    go_upto_region 7 with (fail)
    obtain ⟨W, hW⟩ : ∃ W, ((w.alloc (.cells #[.string r1, .string f1, .string q1, .int .i64 t1, .int .i64 4, .int .i64 vk1, .int .i64 vn1, .string s1] 28)).alloc (.cells #[.string r2, .string f2, .string q2, .int .i64 t2, .int .i64 4, .int .i64 vk2, .int .i64 vn2, .string s2] 28)) = W := ⟨_, rfl⟩
    have HT : Hid (TwoC w r1 f1 q1 s1 t1 4 vk1 vn1 r2 f2 q2 s2 t2 4 vk2 vn2 W) := by
      subst hW
      have B1 : Blk (w.alloc (.cells #[Value.string r1, .string f1, .string q1, .int .i64 t1, .int .i64 4, .int .i64 vk1, .int .i64 vn1, .string s1] 28)) w.heap.size 28 #[Value.string r1, .string f1, .string q1, .int .i64 t1, .int .i64 4, .int .i64 vk1, .int .i64 vn1, .string s1] := Blk.new w _ _
      have B2 := B1.keep (below_new _ (.cells #[Value.string r2, .string f2, .string q2, .int .i64 t2, .int .i64 4, .int .i64 vk2, .int .i64 vn2, .string s2] 28)) (by simp)
      have B3 : Blk ((w.alloc (.cells #[Value.string r1, .string f1, .string q1, .int .i64 t1, .int .i64 4, .int .i64 vk1, .int .i64 vn1, .string s1] 28)).alloc (.cells #[Value.string r2, .string f2, .string q2, .int .i64 t2, .int .i64 4, .int .i64 vk2, .int .i64 vn2, .string s2] 28)) (w.heap.size + 1) 28 #[Value.string r2, .string f2, .string q2, .int .i64 t2, .int .i64 4, .int .i64 vk2, .int .i64 vn2, .string s2] := by
        have := Blk.new (w.alloc (.cells #[Value.string r1, .string f1, .string q1, .int .i64 t1, .int .i64 4, .int .i64 vk1, .int .i64 vn1, .string s1] 28)) 28 #[Value.string r2, .string f2, .string q2, .int .i64 t2, .int .i64 4, .int .i64 vk2, .int .i64 vn2, .string s2]
        simpa using this
      exact ⟨hid ⟨(below_new w _).alloc (by simp) _, by simp⟩, B2.cell 0, B2.cell 1, B2.cell 2, B2.cell 3, B2.cell 4, B2.cell 5, B2.cell 6, B2.cell 7, B3.cell 0, B3.cell 1, B3.cell 2, B3.cell 3, B3.cell 4, B3.cell 5, B3.cell 6, B3.cell 7⟩
    rw [hW]
    clear hW
    obtain ⟨h0, c0, c1, c2, c3, c4, c5, c6, c7, d0, d1, d2, d3, d4, d5, d6, d7⟩ := HT.out
    go_region_held3 (fun w' => Hid (Below w.heap.size w w' ∧ w.heap.size + 1 < w'.heap.size) ∧ w'.cell? ⟨w.heap.size, 0, none⟩ = some (.string r1) ∧ w'.cell? ⟨w.heap.size, 1, none⟩ = some (.string f1) ∧ w'.cell? ⟨w.heap.size, 2, none⟩ = some (.string q1) ∧ w'.cell? ⟨w.heap.size, 3, none⟩ = some (.int .i64 t1) ∧ w'.cell? ⟨w.heap.size, 4, none⟩ = some (.int .i64 4) ∧ w'.cell? ⟨w.heap.size, 5, none⟩ = some (.int .i64 vk1) ∧ w'.cell? ⟨w.heap.size, 6, none⟩ = some (.int .i64 vn1) ∧ w'.cell? ⟨w.heap.size, 7, none⟩ = some (.string s1) ∧ w'.cell? ⟨w.heap.size + 1, 0, none⟩ = some (.string r2) ∧ w'.cell? ⟨w.heap.size + 1, 1, none⟩ = some (.string f2) ∧ w'.cell? ⟨w.heap.size + 1, 2, none⟩ = some (.string q2) ∧ w'.cell? ⟨w.heap.size + 1, 3, none⟩ = some (.int .i64 t2) ∧ w'.cell? ⟨w.heap.size + 1, 4, none⟩ = some (.int .i64 4) ∧ w'.cell? ⟨w.heap.size + 1, 5, none⟩ = some (.int .i64 vk2) ∧ w'.cell? ⟨w.heap.size + 1, 6, none⟩ = some (.int .i64 vn2) ∧ w'.cell? ⟨w.heap.size + 1, 7, none⟩ = some (.string s2))
      (first | exact HT.out | exact twoc_drew HT.out | exact twoc_call (by assumption) hbo | exact twoc_drew (by assumption) | assumption | exact twoc_call (by assumption) (below_new _ _) | exact twoc_call (twoc_call (by assumption) (below_new _ _)) hbo)
      (first
        | (go_at_call 77; (first | (with_reducible refine (HTr.out _).mono ?_) | (with_reducible refine (HTf.out _).mono ?_) | (with_reducible refine (HTq.out _).mono ?_)); rintro e w5 ⟨rfl, hbo⟩)
        | (go_at_call 78; ((with_reducible refine (refcmp3_any _ _ _).mono ?_); rintro e w5 ⟨rfl, rfl⟩)))
    rename_i hLast
    have HB : Hid (Below w.heap.size w _) := hid hLast.1.out.1
    clear hLast HTr HTf HTq HT h0 c0 c1 c2 c3 c4 c5 c6 c7 d0 d1 d2 d3 d4 d5 d6 d7 hbo
    obtain ⟨l, hl⟩ : ∃ l : List Int, [b1, b2, Lib.compareInt 0 0, b3, Lib.compareInt t2 t1, Lib.compareInt 4 4] = l := ⟨_, rfl⟩
    have HL : Hid (l.length = 6) := hid (by rw [← hl]; rfl)
    have HC : Hid (∀ i (h : i < l.length), (w5.alloc (.cells #[.int .i64 b1, .int .i64 b2, .int .i64 (Lib.compareInt 0 0), .int .i64 b3, .int .i64 (Lib.compareInt t2 t1), .int .i64 (Lib.compareInt 4 4)] 3)).cell? ⟨w5.heap.size, i, none⟩ = some (.int .i64 l[i])) := by
      subst hl
      refine hid fun i hi => ?_
      rw [(Blk.new w5 3 _).cell i]
      match i, hi with
      | 0, _ => rfl
      | 1, _ => rfl
      | 2, _ => rfl
      | 3, _ => rfl
      | 4, _ => rfl
      | 5, _ => rfl
    have HE := hid hl
    clear hl
    generalize (w5.alloc (.cells #[.int .i64 b1, .int .i64 b2, .int .i64 (Lib.compareInt 0 0), .int .i64 b3, .int .i64 (Lib.compareInt t2 t1), .int .i64 (Lib.compareInt 4 4)] 3)) = V at HB HC ⊢
    generalize w5.heap.size = g at HC ⊢
    go_wp2
    go_loopw [8] (fun vi wr => ∃ i : Nat, i ≤ 6 ∧ vi = .int .i64 i ∧ wr = V ∧ Hid (orI l = orI (l.drop i))) (fun vi _ => 6 - (intOf vi).toNat)
    case atStart => exact ⟨0, Nat.zero_le _, rfl, rfl, rfl⟩
    case round =>
      obtain ⟨i, hi, rfl, rfl, HO⟩ := hrel
      by_cases hlt : i < 6
      · have hil : i < l.length := by rw [HL.out]; exact hlt
        have hc := HC.out i hil
        have HD : Hid (orI l = if l[i] = 0 then orI (l.drop (i + 1)) else l[i]) := by
          unfold Hid
          rw [HO.out, List.drop_eq_getElem_cons hil, orI]
        generalize l[i] = x at hc HD
        by_cases hx : x = 0
        · subst hx
          go_wp2
          go_roundw
          case rel => exact ⟨i + 1, by omega, by go_num, trivial, by unfold Hid; rw [HD.out, if_pos rfl]⟩
          case measure => simp [intOf]; omega
        · have q0 : (x != 0) = true := by simpa using hx
          go_wp2
          go_ret
          refine ⟨?_, HB.out⟩
          rw [HE.out, HD.out, if_neg hx]
          rfl
      · go_wp2
        go_ret
        refine ⟨?_, HB.out⟩
        rw [HE.out, HO.out, List.drop_eq_nil_of_le (by have := HL.out; omega)]
        rfl
  · go_enter Tryd.func27, Tryd.ntmps27
    go_upto_region 7 with (fail)
    obtain ⟨W, hW⟩ : ∃ W, ((w.alloc (.cells #[.string r1, .string f1, .string q1, .int .i64 t1, .int .i64 4, .int .i64 vk1, .int .i64 vn1, .string s1] 28)).alloc (.cells #[.string r2, .string f2, .string q2, .int .i64 t2, .int .i64 k2, .int .i64 vk2, .int .i64 vn2, .string s2] 28)) = W := ⟨_, rfl⟩
    have HT : Hid (TwoC w r1 f1 q1 s1 t1 4 vk1 vn1 r2 f2 q2 s2 t2 k2 vk2 vn2 W) := by
      subst hW
      have B1 : Blk (w.alloc (.cells #[Value.string r1, .string f1, .string q1, .int .i64 t1, .int .i64 4, .int .i64 vk1, .int .i64 vn1, .string s1] 28)) w.heap.size 28 #[Value.string r1, .string f1, .string q1, .int .i64 t1, .int .i64 4, .int .i64 vk1, .int .i64 vn1, .string s1] := Blk.new w _ _
      have B2 := B1.keep (below_new _ (.cells #[Value.string r2, .string f2, .string q2, .int .i64 t2, .int .i64 k2, .int .i64 vk2, .int .i64 vn2, .string s2] 28)) (by simp)
      have B3 : Blk ((w.alloc (.cells #[Value.string r1, .string f1, .string q1, .int .i64 t1, .int .i64 4, .int .i64 vk1, .int .i64 vn1, .string s1] 28)).alloc (.cells #[Value.string r2, .string f2, .string q2, .int .i64 t2, .int .i64 k2, .int .i64 vk2, .int .i64 vn2, .string s2] 28)) (w.heap.size + 1) 28 #[Value.string r2, .string f2, .string q2, .int .i64 t2, .int .i64 k2, .int .i64 vk2, .int .i64 vn2, .string s2] := by
        have := Blk.new (w.alloc (.cells #[Value.string r1, .string f1, .string q1, .int .i64 t1, .int .i64 4, .int .i64 vk1, .int .i64 vn1, .string s1] 28)) 28 #[Value.string r2, .string f2, .string q2, .int .i64 t2, .int .i64 k2, .int .i64 vk2, .int .i64 vn2, .string s2]
        simpa using this
      exact ⟨hid ⟨(below_new w _).alloc (by simp) _, by simp⟩, B2.cell 0, B2.cell 1, B2.cell 2, B2.cell 3, B2.cell 4, B2.cell 5, B2.cell 6, B2.cell 7, B3.cell 0, B3.cell 1, B3.cell 2, B3.cell 3, B3.cell 4, B3.cell 5, B3.cell 6, B3.cell 7⟩
    rw [hW]
    clear hW
    obtain ⟨h0, c0, c1, c2, c3, c4, c5, c6, c7, d0, d1, d2, d3, d4, d5, d6, d7⟩ := HT.out
    go_region_held3 (fun w' => Hid (Below w.heap.size w w' ∧ w.heap.size + 1 < w'.heap.size) ∧ w'.cell? ⟨w.heap.size, 0, none⟩ = some (.string r1) ∧ w'.cell? ⟨w.heap.size, 1, none⟩ = some (.string f1) ∧ w'.cell? ⟨w.heap.size, 2, none⟩ = some (.string q1) ∧ w'.cell? ⟨w.heap.size, 3, none⟩ = some (.int .i64 t1) ∧ w'.cell? ⟨w.heap.size, 4, none⟩ = some (.int .i64 4) ∧ w'.cell? ⟨w.heap.size, 5, none⟩ = some (.int .i64 vk1) ∧ w'.cell? ⟨w.heap.size, 6, none⟩ = some (.int .i64 vn1) ∧ w'.cell? ⟨w.heap.size, 7, none⟩ = some (.string s1) ∧ w'.cell? ⟨w.heap.size + 1, 0, none⟩ = some (.string r2) ∧ w'.cell? ⟨w.heap.size + 1, 1, none⟩ = some (.string f2) ∧ w'.cell? ⟨w.heap.size + 1, 2, none⟩ = some (.string q2) ∧ w'.cell? ⟨w.heap.size + 1, 3, none⟩ = some (.int .i64 t2) ∧ w'.cell? ⟨w.heap.size + 1, 4, none⟩ = some (.int .i64 k2) ∧ w'.cell? ⟨w.heap.size + 1, 5, none⟩ = some (.int .i64 vk2) ∧ w'.cell? ⟨w.heap.size + 1, 6, none⟩ = some (.int .i64 vn2) ∧ w'.cell? ⟨w.heap.size + 1, 7, none⟩ = some (.string s2))
      (first | exact HT.out | exact twoc_drew HT.out | exact twoc_call (by assumption) hbo | exact twoc_drew (by assumption) | assumption | exact twoc_call (by assumption) (below_new _ _) | exact twoc_call (twoc_call (by assumption) (below_new _ _)) hbo)
      (first
        | (go_at_call 77; (first | (with_reducible refine (HTr.out _).mono ?_) | (with_reducible refine (HTf.out _).mono ?_) | (with_reducible refine (HTq.out _).mono ?_)); rintro e w5 ⟨rfl, hbo⟩)
        | (go_at_call 78; ((with_reducible refine (refcmp3_any _ _ _).mono ?_); rintro e w5 ⟨rfl, rfl⟩)))
    rename_i hLast
    have HB : Hid (Below w.heap.size w _) := hid hLast.1.out.1
    clear hLast HTr HTf HTq HT h0 c0 c1 c2 c3 c4 c5 c6 c7 d0 d1 d2 d3 d4 d5 d6 d7 hbo
    obtain ⟨l, hl⟩ : ∃ l : List Int, [b1, b2, Lib.compareInt 0 1, b3, Lib.compareInt t2 t1, Lib.compareInt k2 4] = l := ⟨_, rfl⟩
    have HL : Hid (l.length = 6) := hid (by rw [← hl]; rfl)
    have HC : Hid (∀ i (h : i < l.length), (w5.alloc (.cells #[.int .i64 b1, .int .i64 b2, .int .i64 (Lib.compareInt 0 1), .int .i64 b3, .int .i64 (Lib.compareInt t2 t1), .int .i64 (Lib.compareInt k2 4)] 3)).cell? ⟨w5.heap.size, i, none⟩ = some (.int .i64 l[i])) := by
      subst hl
      refine hid fun i hi => ?_
      rw [(Blk.new w5 3 _).cell i]
      match i, hi with
      | 0, _ => rfl
      | 1, _ => rfl
      | 2, _ => rfl
      | 3, _ => rfl
      | 4, _ => rfl
      | 5, _ => rfl
    have HE := hid hl
    clear hl
    generalize (w5.alloc (.cells #[.int .i64 b1, .int .i64 b2, .int .i64 (Lib.compareInt 0 1), .int .i64 b3, .int .i64 (Lib.compareInt t2 t1), .int .i64 (Lib.compareInt k2 4)] 3)) = V at HB HC ⊢
    generalize w5.heap.size = g at HC ⊢
    go_wp2
    go_loopw [8] (fun vi wr => ∃ i : Nat, i ≤ 6 ∧ vi = .int .i64 i ∧ wr = V ∧ Hid (orI l = orI (l.drop i))) (fun vi _ => 6 - (intOf vi).toNat)
    case atStart => exact ⟨0, Nat.zero_le _, rfl, rfl, rfl⟩
    case round =>
      obtain ⟨i, hi, rfl, rfl, HO⟩ := hrel
      by_cases hlt : i < 6
      · have hil : i < l.length := by rw [HL.out]; exact hlt
        have hc := HC.out i hil
        have HD : Hid (orI l = if l[i] = 0 then orI (l.drop (i + 1)) else l[i]) := by
          unfold Hid
          rw [HO.out, List.drop_eq_getElem_cons hil, orI]
        generalize l[i] = x at hc HD
        by_cases hx : x = 0
        · subst hx
          go_wp2
          go_roundw
          case rel => exact ⟨i + 1, by omega, by go_num, trivial, by unfold Hid; rw [HD.out, if_pos rfl]⟩
          case measure => simp [intOf]; omega
        · have q0 : (x != 0) = true := by simpa using hx
          go_wp2
          go_ret
          refine ⟨?_, HB.out⟩
          rw [HE.out, HD.out, if_neg hx]
          rfl
      · go_wp2
        go_ret
        refine ⟨?_, HB.out⟩
        rw [HE.out, HO.out, List.drop_eq_nil_of_le (by have := HL.out; omega)]
        rfl
  · go_enter Tryd.func27, Tryd.ntmps27
    go_upto_region 7 with (fail)
    obtain ⟨W, hW⟩ : ∃ W, ((w.alloc (.cells #[.string r1, .string f1, .string q1, .int .i64 t1, .int .i64 k1, .int .i64 vk1, .int .i64 vn1, .string s1] 28)).alloc (.cells #[.string r2, .string f2, .string q2, .int .i64 t2, .int .i64 4, .int .i64 vk2, .int .i64 vn2, .string s2] 28)) = W := ⟨_, rfl⟩
    have HT : Hid (TwoC w r1 f1 q1 s1 t1 k1 vk1 vn1 r2 f2 q2 s2 t2 4 vk2 vn2 W) := by
      subst hW
      have B1 : Blk (w.alloc (.cells #[Value.string r1, .string f1, .string q1, .int .i64 t1, .int .i64 k1, .int .i64 vk1, .int .i64 vn1, .string s1] 28)) w.heap.size 28 #[Value.string r1, .string f1, .string q1, .int .i64 t1, .int .i64 k1, .int .i64 vk1, .int .i64 vn1, .string s1] := Blk.new w _ _
      have B2 := B1.keep (below_new _ (.cells #[Value.string r2, .string f2, .string q2, .int .i64 t2, .int .i64 4, .int .i64 vk2, .int .i64 vn2, .string s2] 28)) (by simp)
      have B3 : Blk ((w.alloc (.cells #[Value.string r1, .string f1, .string q1, .int .i64 t1, .int .i64 k1, .int .i64 vk1, .int .i64 vn1, .string s1] 28)).alloc (.cells #[Value.string r2, .string f2, .string q2, .int .i64 t2, .int .i64 4, .int .i64 vk2, .int .i64 vn2, .string s2] 28)) (w.heap.size + 1) 28 #[Value.string r2, .string f2, .string q2, .int .i64 t2, .int .i64 4, .int .i64 vk2, .int .i64 vn2, .string s2] := by
        have := Blk.new (w.alloc (.cells #[Value.string r1, .string f1, .string q1, .int .i64 t1, .int .i64 k1, .int .i64 vk1, .int .i64 vn1, .string s1] 28)) 28 #[Value.string r2, .string f2, .string q2, .int .i64 t2, .int .i64 4, .int .i64 vk2, .int .i64 vn2, .string s2]
        simpa using this
      exact ⟨hid ⟨(below_new w _).alloc (by simp) _, by simp⟩, B2.cell 0, B2.cell 1, B2.cell 2, B2.cell 3, B2.cell 4, B2.cell 5, B2.cell 6, B2.cell 7, B3.cell 0, B3.cell 1, B3.cell 2, B3.cell 3, B3.cell 4, B3.cell 5, B3.cell 6, B3.cell 7⟩
    rw [hW]
    clear hW
    obtain ⟨h0, c0, c1, c2, c3, c4, c5, c6, c7, d0, d1, d2, d3, d4, d5, d6, d7⟩ := HT.out
    go_region_held3 (fun w' => Hid (Below w.heap.size w w' ∧ w.heap.size + 1 < w'.heap.size) ∧ w'.cell? ⟨w.heap.size, 0, none⟩ = some (.string r1) ∧ w'.cell? ⟨w.heap.size, 1, none⟩ = some (.string f1) ∧ w'.cell? ⟨w.heap.size, 2, none⟩ = some (.string q1) ∧ w'.cell? ⟨w.heap.size, 3, none⟩ = some (.int .i64 t1) ∧ w'.cell? ⟨w.heap.size, 4, none⟩ = some (.int .i64 k1) ∧ w'.cell? ⟨w.heap.size, 5, none⟩ = some (.int .i64 vk1) ∧ w'.cell? ⟨w.heap.size, 6, none⟩ = some (.int .i64 vn1) ∧ w'.cell? ⟨w.heap.size, 7, none⟩ = some (.string s1) ∧ w'.cell? ⟨w.heap.size + 1, 0, none⟩ = some (.string r2) ∧ w'.cell? ⟨w.heap.size + 1, 1, none⟩ = some (.string f2) ∧ w'.cell? ⟨w.heap.size + 1, 2, none⟩ = some (.string q2) ∧ w'.cell? ⟨w.heap.size + 1, 3, none⟩ = some (.int .i64 t2) ∧ w'.cell? ⟨w.heap.size + 1, 4, none⟩ = some (.int .i64 4) ∧ w'.cell? ⟨w.heap.size + 1, 5, none⟩ = some (.int .i64 vk2) ∧ w'.cell? ⟨w.heap.size + 1, 6, none⟩ = some (.int .i64 vn2) ∧ w'.cell? ⟨w.heap.size + 1, 7, none⟩ = some (.string s2))
      (first | exact HT.out | exact twoc_drew HT.out | exact twoc_call (by assumption) hbo | exact twoc_drew (by assumption) | assumption | exact twoc_call (by assumption) (below_new _ _) | exact twoc_call (twoc_call (by assumption) (below_new _ _)) hbo)
      (first
        | (go_at_call 77; (first | (with_reducible refine (HTr.out _).mono ?_) | (with_reducible refine (HTf.out _).mono ?_) | (with_reducible refine (HTq.out _).mono ?_)); rintro e w5 ⟨rfl, hbo⟩)
        | (go_at_call 78; ((with_reducible refine (refcmp3_any _ _ _).mono ?_); rintro e w5 ⟨rfl, rfl⟩)))
    rename_i hLast
    have HB : Hid (Below w.heap.size w _) := hid hLast.1.out.1
    clear hLast HTr HTf HTq HT h0 c0 c1 c2 c3 c4 c5 c6 c7 d0 d1 d2 d3 d4 d5 d6 d7 hbo
    obtain ⟨l, hl⟩ : ∃ l : List Int, [b1, b2, Lib.compareInt 1 0, b3, Lib.compareInt t2 t1, Lib.compareInt 4 k1] = l := ⟨_, rfl⟩
    have HL : Hid (l.length = 6) := hid (by rw [← hl]; rfl)
    have HC : Hid (∀ i (h : i < l.length), (w5.alloc (.cells #[.int .i64 b1, .int .i64 b2, .int .i64 (Lib.compareInt 1 0), .int .i64 b3, .int .i64 (Lib.compareInt t2 t1), .int .i64 (Lib.compareInt 4 k1)] 3)).cell? ⟨w5.heap.size, i, none⟩ = some (.int .i64 l[i])) := by
      subst hl
      refine hid fun i hi => ?_
      rw [(Blk.new w5 3 _).cell i]
      match i, hi with
      | 0, _ => rfl
      | 1, _ => rfl
      | 2, _ => rfl
      | 3, _ => rfl
      | 4, _ => rfl
      | 5, _ => rfl
    have HE := hid hl
    clear hl
    generalize (w5.alloc (.cells #[.int .i64 b1, .int .i64 b2, .int .i64 (Lib.compareInt 1 0), .int .i64 b3, .int .i64 (Lib.compareInt t2 t1), .int .i64 (Lib.compareInt 4 k1)] 3)) = V at HB HC ⊢
    generalize w5.heap.size = g at HC ⊢
    go_wp2
    go_loopw [8] (fun vi wr => ∃ i : Nat, i ≤ 6 ∧ vi = .int .i64 i ∧ wr = V ∧ Hid (orI l = orI (l.drop i))) (fun vi _ => 6 - (intOf vi).toNat)
    case atStart => exact ⟨0, Nat.zero_le _, rfl, rfl, rfl⟩
    case round =>
      obtain ⟨i, hi, rfl, rfl, HO⟩ := hrel
      by_cases hlt : i < 6
      · have hil : i < l.length := by rw [HL.out]; exact hlt
        have hc := HC.out i hil
        have HD : Hid (orI l = if l[i] = 0 then orI (l.drop (i + 1)) else l[i]) := by
          unfold Hid
          rw [HO.out, List.drop_eq_getElem_cons hil, orI]
        generalize l[i] = x at hc HD
        by_cases hx : x = 0
        · subst hx
          go_wp2
          go_roundw
          case rel => exact ⟨i + 1, by omega, by go_num, trivial, by unfold Hid; rw [HD.out, if_pos rfl]⟩
          case measure => simp [intOf]; omega
        · have q0 : (x != 0) = true := by simpa using hx
          go_wp2
          go_ret
          refine ⟨?_, HB.out⟩
          rw [HE.out, HD.out, if_neg hx]
          rfl
      · go_wp2
        go_ret
        refine ⟨?_, HB.out⟩
        rw [HE.out, HO.out, List.drop_eq_nil_of_le (by have := HL.out; omega)]
        rfl
  · go_enter Tryd.func27, Tryd.ntmps27
    go_upto_region 7 with (fail)
    obtain ⟨W, hW⟩ : ∃ W, ((w.alloc (.cells #[.string r1, .string f1, .string q1, .int .i64 t1, .int .i64 k1, .int .i64 vk1, .int .i64 vn1, .string s1] 28)).alloc (.cells #[.string r2, .string f2, .string q2, .int .i64 t2, .int .i64 k2, .int .i64 vk2, .int .i64 vn2, .string s2] 28)) = W := ⟨_, rfl⟩
    have HT : Hid (TwoC w r1 f1 q1 s1 t1 k1 vk1 vn1 r2 f2 q2 s2 t2 k2 vk2 vn2 W) := by
      subst hW
      have B1 : Blk (w.alloc (.cells #[Value.string r1, .string f1, .string q1, .int .i64 t1, .int .i64 k1, .int .i64 vk1, .int .i64 vn1, .string s1] 28)) w.heap.size 28 #[Value.string r1, .string f1, .string q1, .int .i64 t1, .int .i64 k1, .int .i64 vk1, .int .i64 vn1, .string s1] := Blk.new w _ _
      have B2 := B1.keep (below_new _ (.cells #[Value.string r2, .string f2, .string q2, .int .i64 t2, .int .i64 k2, .int .i64 vk2, .int .i64 vn2, .string s2] 28)) (by simp)
      have B3 : Blk ((w.alloc (.cells #[Value.string r1, .string f1, .string q1, .int .i64 t1, .int .i64 k1, .int .i64 vk1, .int .i64 vn1, .string s1] 28)).alloc (.cells #[Value.string r2, .string f2, .string q2, .int .i64 t2, .int .i64 k2, .int .i64 vk2, .int .i64 vn2, .string s2] 28)) (w.heap.size + 1) 28 #[Value.string r2, .string f2, .string q2, .int .i64 t2, .int .i64 k2, .int .i64 vk2, .int .i64 vn2, .string s2] := by
        have := Blk.new (w.alloc (.cells #[Value.string r1, .string f1, .string q1, .int .i64 t1, .int .i64 k1, .int .i64 vk1, .int .i64 vn1, .string s1] 28)) 28 #[Value.string r2, .string f2, .string q2, .int .i64 t2, .int .i64 k2, .int .i64 vk2, .int .i64 vn2, .string s2]
        simpa using this
      exact ⟨hid ⟨(below_new w _).alloc (by simp) _, by simp⟩, B2.cell 0, B2.cell 1, B2.cell 2, B2.cell 3, B2.cell 4, B2.cell 5, B2.cell 6, B2.cell 7, B3.cell 0, B3.cell 1, B3.cell 2, B3.cell 3, B3.cell 4, B3.cell 5, B3.cell 6, B3.cell 7⟩
    rw [hW]
    clear hW
    obtain ⟨h0, c0, c1, c2, c3, c4, c5, c6, c7, d0, d1, d2, d3, d4, d5, d6, d7⟩ := HT.out
    go_region_held3 (fun w' => Hid (Below w.heap.size w w' ∧ w.heap.size + 1 < w'.heap.size) ∧ w'.cell? ⟨w.heap.size, 0, none⟩ = some (.string r1) ∧ w'.cell? ⟨w.heap.size, 1, none⟩ = some (.string f1) ∧ w'.cell? ⟨w.heap.size, 2, none⟩ = some (.string q1) ∧ w'.cell? ⟨w.heap.size, 3, none⟩ = some (.int .i64 t1) ∧ w'.cell? ⟨w.heap.size, 4, none⟩ = some (.int .i64 k1) ∧ w'.cell? ⟨w.heap.size, 5, none⟩ = some (.int .i64 vk1) ∧ w'.cell? ⟨w.heap.size, 6, none⟩ = some (.int .i64 vn1) ∧ w'.cell? ⟨w.heap.size, 7, none⟩ = some (.string s1) ∧ w'.cell? ⟨w.heap.size + 1, 0, none⟩ = some (.string r2) ∧ w'.cell? ⟨w.heap.size + 1, 1, none⟩ = some (.string f2) ∧ w'.cell? ⟨w.heap.size + 1, 2, none⟩ = some (.string q2) ∧ w'.cell? ⟨w.heap.size + 1, 3, none⟩ = some (.int .i64 t2) ∧ w'.cell? ⟨w.heap.size + 1, 4, none⟩ = some (.int .i64 k2) ∧ w'.cell? ⟨w.heap.size + 1, 5, none⟩ = some (.int .i64 vk2) ∧ w'.cell? ⟨w.heap.size + 1, 6, none⟩ = some (.int .i64 vn2) ∧ w'.cell? ⟨w.heap.size + 1, 7, none⟩ = some (.string s2))
      (first | exact HT.out | exact twoc_drew HT.out | exact twoc_call (by assumption) hbo | exact twoc_drew (by assumption) | assumption | exact twoc_call (by assumption) (below_new _ _) | exact twoc_call (twoc_call (by assumption) (below_new _ _)) hbo)
      (first
        | (go_at_call 77; (first | (with_reducible refine (HTr.out _).mono ?_) | (with_reducible refine (HTf.out _).mono ?_) | (with_reducible refine (HTq.out _).mono ?_)); rintro e w5 ⟨rfl, hbo⟩)
        | (go_at_call 78; ((with_reducible refine (refcmp3_any _ _ _).mono ?_); rintro e w5 ⟨rfl, rfl⟩)))
    rename_i hLast
    have HB : Hid (Below w.heap.size w _) := hid hLast.1.out.1
    clear hLast HTr HTf HTq HT h0 c0 c1 c2 c3 c4 c5 c6 c7 d0 d1 d2 d3 d4 d5 d6 d7 hbo
    obtain ⟨l, hl⟩ : ∃ l : List Int, [b1, b2, Lib.compareInt 1 1, b3, Lib.compareInt t2 t1, Lib.compareInt k2 k1] = l := ⟨_, rfl⟩
    have HL : Hid (l.length = 6) := hid (by rw [← hl]; rfl)
    have HC : Hid (∀ i (h : i < l.length), (w5.alloc (.cells #[.int .i64 b1, .int .i64 b2, .int .i64 (Lib.compareInt 1 1), .int .i64 b3, .int .i64 (Lib.compareInt t2 t1), .int .i64 (Lib.compareInt k2 k1)] 3)).cell? ⟨w5.heap.size, i, none⟩ = some (.int .i64 l[i])) := by
      subst hl
      refine hid fun i hi => ?_
      rw [(Blk.new w5 3 _).cell i]
      match i, hi with
      | 0, _ => rfl
      | 1, _ => rfl
      | 2, _ => rfl
      | 3, _ => rfl
      | 4, _ => rfl
      | 5, _ => rfl
    have HE := hid hl
    clear hl
    generalize (w5.alloc (.cells #[.int .i64 b1, .int .i64 b2, .int .i64 (Lib.compareInt 1 1), .int .i64 b3, .int .i64 (Lib.compareInt t2 t1), .int .i64 (Lib.compareInt k2 k1)] 3)) = V at HB HC ⊢
    generalize w5.heap.size = g at HC ⊢
    go_wp2
    go_loopw [8] (fun vi wr => ∃ i : Nat, i ≤ 6 ∧ vi = .int .i64 i ∧ wr = V ∧ Hid (orI l = orI (l.drop i))) (fun vi _ => 6 - (intOf vi).toNat)
    case atStart => exact ⟨0, Nat.zero_le _, rfl, rfl, rfl⟩
    case round =>
      obtain ⟨i, hi, rfl, rfl, HO⟩ := hrel
      by_cases hlt : i < 6
      · have hil : i < l.length := by rw [HL.out]; exact hlt
        have hc := HC.out i hil
        have HD : Hid (orI l = if l[i] = 0 then orI (l.drop (i + 1)) else l[i]) := by
          unfold Hid
          rw [HO.out, List.drop_eq_getElem_cons hil, orI]
        generalize l[i] = x at hc HD
        by_cases hx : x = 0
        · subst hx
          go_wp2
          go_roundw
          case rel => exact ⟨i + 1, by omega, by go_num, trivial, by unfold Hid; rw [HD.out, if_pos rfl]⟩
          case measure => simp [intOf]; omega
        · have q0 : (x != 0) = true := by simpa using hx
          go_wp2
          go_ret
          refine ⟨?_, HB.out⟩
          rw [HE.out, HD.out, if_neg hx]
          rfl
      · go_wp2
        go_ret
        refine ⟨?_, HB.out⟩
        rw [HE.out, HO.out, List.drop_eq_nil_of_le (by have := HL.out; omega)]
        rfl

end Go.Proofs.YtdjaofbjmnmlbaaDoor

/- The document's Right and Order at cells that the laws look at; a list's cells as words. Conditions: as each theorem names them. -/
namespace Go.Proofs.YtdjaofbjmnmlbaaDoor
open Go.RowKit

/-- A cell that the laws look at. -/
def Sm (c : CT) : Prop := okC c ∧ c.r.size ≤ 60 ∧ c.f.size ≤ 60 ∧ c.q.size ≤ 60 ∧ c.s.size ≤ 100
theorem reforder_ct (x y : CT) (hx : Sm x) (hy : Sm y) (w : World) :
    Calls Tryd.prog 27 #[x.v, y.v] w fun e w' => e = .returned (.int .i64 (CT.cmp x y)) ∧ Below w.heap.size w w' := by
  obtain ⟨_, h1, h2, h3, _⟩ := hx
  obtain ⟨_, g1, g2, g3, _⟩ := hy
  exact refcorder_any x.r x.f x.q x.s x.t x.k x.vk x.vn y.r y.f y.q y.s y.t y.k y.vk y.vn (by omega) (by omega) (by omega) (by omega) (by omega) (by omega) w
theorem refright_ct (c : CT) (hc : Sm c) (w : World) : Calls Tryd.prog 26 #[c.v] w fun e w' => e = .returned (.bool c.ok) ∧ Below w.heap.size w w' :=
  refcright_any c.r c.f c.q c.s c.t c.k c.vk c.vn (by have := hc.2.2.1; omega) (by have := hc.2.2.2.2; omega) w
theorem longC_sm {l : List CT} (h : longC l = false) (hv : ∀ c ∈ l, inI c.vn) : l.length ≤ 60 ∧ ∀ c ∈ l, Sm c := by
  unfold longC at h
  rw [Bool.or_eq_false_iff] at h
  obtain ⟨h1, h2⟩ := h
  have h1 := of_decide_eq_false h1
  refine ⟨by omega, fun c hc => ?_⟩
  have h3 : longC1 c = false := by
    cases e : longC1 c with
    | false => rfl
    | true =>
      rw [List.any_eq_true.2 ⟨c, hc, e⟩] at h2
      cases h2
  unfold longC1 at h3
  simp only [Bool.or_eq_false_iff, decide_eq_false_iff_not] at h3
  exact ⟨⟨by omega, by omega, hv c hc⟩, by omega, by omega, by omega, by omega⟩
theorem ct_words {w : World} {b off : Nat} {l : List CT} (h : HC w b off l) (i : Nat) {c : CT} (hc : l[i]? = some c) : w.cell? ⟨b, off + i * 8, none⟩ = some (.string c.r) ∧ w.cell? ⟨b, off + i * 8 + 1, none⟩ = some (.string c.f) ∧ w.cell? ⟨b, off + i * 8 + 2, none⟩ = some (.string c.q) ∧ w.cell? ⟨b, off + i * 8 + 3, none⟩ = some (.int .i64 c.t) ∧ w.cell? ⟨b, off + i * 8 + 4, none⟩ = some (.int .i64 c.k) ∧ w.cell? ⟨b, off + i * 8 + 5, none⟩ = some (.int .i64 c.vk) ∧ w.cell? ⟨b, off + i * 8 + 6, none⟩ = some (.int .i64 c.vn) ∧ w.cell? ⟨b, off + i * 8 + 7, none⟩ = some (.string c.s) := by
  obtain ⟨hi, hc⟩ := List.getElem?_eq_some_iff.1 hc
  rw [← hc]
  exact h.words i hi
theorem rise_at {s : List CT} {i : Nat} {b c : CT} (h : s.Pairwise (fun x y => CT.cmp x y < 0)) (hb : s[i]? = some b) (hc : s[i + 1]? = some c) : CT.cmp b c < 0 := by
  obtain ⟨hi, rfl⟩ := List.getElem?_eq_some_iff.1 hb
  obtain ⟨hj, rfl⟩ := List.getElem?_eq_some_iff.1 hc
  exact List.pairwise_iff_getElem.1 h i (i + 1) hi hj (by omega)
/-- The law's own cell stands. -/
def DW (W : World) (g : Nat) (d : CT) : Prop := Blk W g 28 d.e.toArray
theorem DW.words {W : World} {g : Nat} {d : CT} (h : DW W g d) : W.cell? ⟨g, 0, none⟩ = some (.string d.r) ∧ W.cell? ⟨g, 1, none⟩ = some (.string d.f) ∧ W.cell? ⟨g, 2, none⟩ = some (.string d.q) ∧ W.cell? ⟨g, 3, none⟩ = some (.int .i64 d.t) ∧ W.cell? ⟨g, 4, none⟩ = some (.int .i64 d.k) ∧ W.cell? ⟨g, 5, none⟩ = some (.int .i64 d.vk) ∧ W.cell? ⟨g, 6, none⟩ = some (.int .i64 d.vn) ∧ W.cell? ⟨g, 7, none⟩ = some (.string d.s) := by
  have h : Blk W g 28 d.e.toArray := h
  exact ⟨h.cell 0, h.cell 1, h.cell 2, h.cell 3, h.cell 4, h.cell 5, h.cell 6, h.cell 7⟩
theorem DW.below {W W' : World} {g : Nat} {d : CT} (h : DW W g d) (hb : Below W.heap.size W W') : DW W' g d := Blk.keep h hb (Blk.lt h)

theorem ct_dw {W : World} {G : Nat} {d : CT} (h : DW W G d) (j : Nat) (u : Value) (hu : d.e[j]? = some u) : W.cell? ((⟨G, 0, Option.none⟩ : Addr).add j) = some u := by
  have h : Blk W G 28 d.e.toArray := h
  rw [add_zero_off, Nat.zero_add, h.cell, List.getElem?_toArray]
  exact hu
theorem DW.keep {W W' : World} {g B : Nat} {d : CT} (h : DW W g d) (hb : Below B W W') (hg : g < B) : DW W' g d := Blk.keep h hb hg

section
variable {W0 W W' : World} {b o p : Nat} {x y : CT}
/-- Two cells of one list, in a region that draws. -/
abbrev PairW (W0 : World) (b o p : Nat) (x y : CT) (W : World) : Prop := Hid (Below W0.heap.size W0 W ∧ b < W0.heap.size) ∧ (W.cell? ⟨b, o, none⟩ = some (.string x.r) ∧ W.cell? ⟨b, o + 1, none⟩ = some (.string x.f) ∧ W.cell? ⟨b, o + 2, none⟩ = some (.string x.q) ∧ W.cell? ⟨b, o + 3, none⟩ = some (.int .i64 x.t) ∧ W.cell? ⟨b, o + 4, none⟩ = some (.int .i64 x.k) ∧ W.cell? ⟨b, o + 5, none⟩ = some (.int .i64 x.vk) ∧ W.cell? ⟨b, o + 6, none⟩ = some (.int .i64 x.vn) ∧ W.cell? ⟨b, o + 7, none⟩ = some (.string x.s)) ∧ (W.cell? ⟨b, p, none⟩ = some (.string y.r) ∧ W.cell? ⟨b, p + 1, none⟩ = some (.string y.f) ∧ W.cell? ⟨b, p + 2, none⟩ = some (.string y.q) ∧ W.cell? ⟨b, p + 3, none⟩ = some (.int .i64 y.t) ∧ W.cell? ⟨b, p + 4, none⟩ = some (.int .i64 y.k) ∧ W.cell? ⟨b, p + 5, none⟩ = some (.int .i64 y.vk) ∧ W.cell? ⟨b, p + 6, none⟩ = some (.int .i64 y.vn) ∧ W.cell? ⟨b, p + 7, none⟩ = some (.string y.s))
theorem pair_drew (h : PairW W0 b o p x y W) : PairW W0 b o p x y W.drew := ⟨hid ⟨h.1.out.1.drew, h.1.out.2⟩, h.2⟩
theorem pair_call (h : PairW W0 b o p x y W) (hb : Below W.heap.size W W') : PairW W0 b o p x y W' := by
  obtain ⟨hh, ⟨a0, a1, a2, a3, a4, a5, a6, a7⟩, ⟨b0, b1, b2, b3, b4, b5, b6, b7⟩⟩ := h
  obtain ⟨hbw, h2⟩ := hh.out
  have hz := hbw.size
  have hc : ∀ b o, b < W0.heap.size → W'.cell? ⟨b, o, none⟩ = W.cell? ⟨b, o, none⟩ := fun b o h => hb.cell (p := ⟨b, o, none⟩) (show b < W.heap.size by omega)
  refine ⟨hid ⟨hbw.trans (hb.mono hz), h2⟩, ⟨?_, ?_, ?_, ?_, ?_, ?_, ?_, ?_⟩, ⟨?_, ?_, ?_, ?_, ?_, ?_, ?_, ?_⟩⟩ <;> (rw [hc _ _ (by omega)]; assumption)
/-- One cell of a list, in a region that draws. -/
abbrev SingW (W0 : World) (b o : Nat) (x : CT) (W : World) : Prop := Hid (Below W0.heap.size W0 W ∧ b < W0.heap.size) ∧ (W.cell? ⟨b, o, none⟩ = some (.string x.r) ∧ W.cell? ⟨b, o + 1, none⟩ = some (.string x.f) ∧ W.cell? ⟨b, o + 2, none⟩ = some (.string x.q) ∧ W.cell? ⟨b, o + 3, none⟩ = some (.int .i64 x.t) ∧ W.cell? ⟨b, o + 4, none⟩ = some (.int .i64 x.k) ∧ W.cell? ⟨b, o + 5, none⟩ = some (.int .i64 x.vk) ∧ W.cell? ⟨b, o + 6, none⟩ = some (.int .i64 x.vn) ∧ W.cell? ⟨b, o + 7, none⟩ = some (.string x.s))
theorem sing_drew (h : SingW W0 b o x W) : SingW W0 b o x W.drew := ⟨hid ⟨h.1.out.1.drew, h.1.out.2⟩, h.2⟩
theorem sing_call (h : SingW W0 b o x W) (hb : Below W.heap.size W W') : SingW W0 b o x W' := by
  obtain ⟨hh, ⟨a0, a1, a2, a3, a4, a5, a6, a7⟩⟩ := h
  obtain ⟨hbw, h2⟩ := hh.out
  have hz := hbw.size
  have hc : ∀ b o, b < W0.heap.size → W'.cell? ⟨b, o, none⟩ = W.cell? ⟨b, o, none⟩ := fun b o h => hb.cell (p := ⟨b, o, none⟩) (show b < W.heap.size by omega)
  refine ⟨hid ⟨hbw.trans (hb.mono hz), h2⟩, ⟨?_, ?_, ?_, ?_, ?_, ?_, ?_, ?_⟩⟩ <;> (rw [hc _ _ (by omega)]; assumption)
end
end Go.Proofs.YtdjaofbjmnmlbaaDoor

/- The statements' fixed cells: alive. Conditions: the tables of utf8 read as they are laid. -/
namespace Go.Proofs.YtdjaofbjmnmlbaaDoor
open Go.RowKit

abbrev AlS (W0 : World) (rb : Nat) (W : World) : Prop := Hid (Below W0.heap.size W0 W ∧ rb < W0.heap.size) ∧ W.cell? ⟨rb, 0, none⟩ = some (.string ⟨#[114]⟩) ∧ W.cell? ⟨rb, 1, none⟩ = some (.string ⟨#[102]⟩) ∧ W.cell? ⟨rb, 2, none⟩ = some (.string ⟨#[113]⟩) ∧ W.cell? ⟨rb, 3, none⟩ = some (.int .i64 3) ∧ W.cell? ⟨rb, 4, none⟩ = some (.int .i64 3) ∧ W.cell? ⟨rb, 5, none⟩ = some (.int .i64 0) ∧ W.cell? ⟨rb, 6, none⟩ = some (.int .i64 0) ∧ W.cell? ⟨rb, 7, none⟩ = some (.string ⟨#[]⟩)
abbrev AlT (W0 : World) (g vb : Nat) (W : World) : Prop := Hid (Below W0.heap.size W0 W ∧ g < W0.heap.size ∧ vb < W0.heap.size) ∧ W.cell? ⟨g, 0, none⟩ = some (.string ⟨#[114]⟩) ∧ W.cell? ⟨g, 1, none⟩ = some (.string ⟨#[102]⟩) ∧ W.cell? ⟨g, 2, none⟩ = some (.string ⟨#[113]⟩) ∧ W.cell? ⟨g, 3, none⟩ = some (.int .i64 5) ∧ W.cell? ⟨g, 4, none⟩ = some (.int .i64 1) ∧ W.cell? ⟨g, 5, none⟩ = some (.int .i64 1) ∧ W.cell? ⟨g, 6, none⟩ = some (.int .i64 5) ∧ W.cell? ⟨g, 7, none⟩ = some (.string ⟨#[]⟩) ∧ W.cell? ⟨vb, 1, none⟩ = some (.int .i64 5)
section
variable {W0 W W' : World} {rb g vb : Nat}
theorem als_drew (h : AlS W0 rb W) : AlS W0 rb W.drew := ⟨hid ⟨h.1.out.1.drew, h.1.out.2⟩, h.2⟩
theorem als_call (h : AlS W0 rb W) (hb : Below W.heap.size W W') : AlS W0 rb W' := by
  obtain ⟨hh, a0, a1, a2, a3, a4, a5, a6, a7⟩ := h
  obtain ⟨hbw, h1⟩ := hh.out
  have hz := hbw.size
  have hc : ∀ b o, b < W0.heap.size → W'.cell? ⟨b, o, none⟩ = W.cell? ⟨b, o, none⟩ := fun b o h => hb.cell (p := ⟨b, o, none⟩) (show b < W.heap.size by omega)
  refine ⟨hid ⟨hbw.trans (hb.mono hz), h1⟩, ?_, ?_, ?_, ?_, ?_, ?_, ?_, ?_⟩ <;> (rw [hc _ _ (by omega)]; assumption)
theorem alt_drew (h : AlT W0 g vb W) : AlT W0 g vb W.drew := ⟨hid ⟨h.1.out.1.drew, h.1.out.2⟩, h.2⟩
theorem alt_call (h : AlT W0 g vb W) (hb : Below W.heap.size W W') : AlT W0 g vb W' := by
  obtain ⟨hh, a0, a1, a2, a3, a4, a5, a6, a7, a8⟩ := h
  obtain ⟨hbw, h1, h2⟩ := hh.out
  have hz := hbw.size
  have hc : ∀ b o, b < W0.heap.size → W'.cell? ⟨b, o, none⟩ = W.cell? ⟨b, o, none⟩ := fun b o h => hb.cell (p := ⟨b, o, none⟩) (show b < W.heap.size by omega)
  refine ⟨hid ⟨hbw.trans (hb.mono hz), h1, h2⟩, ?_, ?_, ?_, ?_, ?_, ?_, ?_, ?_, ?_⟩ <;> (rw [hc _ _ (by omega)]; assumption)
end
/-- The fixed cells in memory. -/
theorem cla_fixed (w : World) : ClA (w.alloc (.cells (flatC fixedC).toArray 28)) (.slice (some ⟨w.heap.size, 0, none⟩) 4 4) fixedC := by
  refine ⟨_, 4, rfl, Nat.le_refl _, by omega, fun _ => ⟨_, 0, rfl, fun i hi j hj => ?_⟩⟩
  rw [(Blk.new w 28 (flatC fixedC).toArray).cell, Nat.zero_add, List.getElem?_toArray]
  exact flatC_at fixedC i j hi hj
theorem crow_one {w : World} {B : Nat} {v : Value} {c : CT} (h : CRow w B v [c]) : ∃ g cap, v = .slice (some ⟨g, 0, none⟩) 1 cap ∧ 1 ≤ cap ∧ cap ≤ 9223372036854775807 ∧ g < w.heap.size ∧ ∀ j, j < 8 → w.cell? ⟨g, j, none⟩ = c.e[j]? := by
  have h' := h
  rcases h.2 with ⟨e, hz⟩ | ⟨g, cap, cur, e, hB, hb, h1, h2, _⟩
  · cases hz
  · subst e
    refine ⟨g, cap, rfl, h1, by unfold maxLen at h2; omega, (Array.getElem?_eq_some_iff.1 hb).1, fun j hj => ?_⟩
    have := h'.hc 0 (by simp) j hj
    simpa using this
theorem fixed_okC : ∀ c ∈ fixedC, okC c := by
  intro c hc
  have q : okC (putC 3) ∧ okC (putC 4) ∧ okC goneC ∧ okC (putC 5) := by
    refine ⟨⟨?_, ?_, ?_⟩, ⟨?_, ?_, ?_⟩, ⟨?_, ?_, ?_⟩, ⟨?_, ?_, ?_⟩⟩ <;> (simp only [putC, goneC]; first | decide | (unfold inI; omega))
  simp only [fixedC, List.mem_cons, List.not_mem_nil, or_false] at hc
  rcases hc with rfl | rfl | rfl | rfl
  · exact q.1
  · exact q.2.1
  · exact q.2.2.1
  · exact q.2.2.2

set_option maxHeartbeats 4000000 in
set_option maxRecDepth 100000 in
theorem alive_any (w : World) (hL : LaidU w) : Calls Tryd.prog 23 #[] w fun e w' => e = .returned (.bool true) ∧ Below w.heap.size w w' := by
  have mixed : Tryd.prog.follows .mixedOrders = true := by kernel_rfl
  have HP := hid putc_any
  have HPL : Hid (∀ W, Calls Tryd.prog 69 #[.int .i64 5] W fun e w' => e = .returned (.agg #[.string ⟨#[114]⟩, .string ⟨#[102]⟩, .string ⟨#[113]⟩, .int .i64 5, .int .i64 1, .int .i64 1, .int .i64 5, .string ⟨#[]⟩]) ∧ Below W.heap.size W w') := putc_any 5
  have HX : Hid (∀ (w5 W : World) , LaidU (w5.alloc (.cells (flatC fixedC).toArray 28)) → Below (w5.alloc (.cells (flatC fixedC).toArray 28)).heap.size (w5.alloc (.cells (flatC fixedC).toArray 28)) W → ClA W (.slice (some ⟨w5.heap.size, 0, none⟩) 4 4) fixedC ∧ LaidU W) := fun w5 W h1 h2 => ⟨(cla_fixed w5).below h2, h1.below h2⟩
  have HSe : Hid (∀ (W : World) (v : Value) (a b d : Int), ClA W v fixedC ∧ LaidU W → Calls Tryd.prog 30 #[v, .int .i64 a, .int .i64 b, .int .i64 d] W fun e w' => ∃ v', e = .returned v' ∧ CRow w' W.heap.size v' (seenL a b d fixedS) ∧ Below W.heap.size W w') := fun W v a b d h => (cseen_any v fixedC (by decide) a b d W h.1 fixed_okC h.2).mono fun _ _ ⟨v', s, h1, h2, h3, h4⟩ => ⟨v', h1, by rw [fixed_sort h2] at h3; exact h3, h4⟩
  have HVa : Hid (∀ (W : World) (v : Value), ClA W v fixedC ∧ LaidU W → Calls Tryd.prog 70 #[v, .string ⟨#[102]⟩, .string ⟨#[113]⟩, .int .i64 1, .int .i64 0, .int .i64 9] W fun e w' => e = .returned (.tuple #[.agg #[.int .i64 1, .int .i64 5, .string ⟨#[]⟩], .bool true]) ∧ Below W.heap.size W w') := fun W v h => (cvalue_any v fixedC (by decide) _ _ 1 0 9 W h.1 fixed_okC h.2).mono fun _ _ ⟨s, h1, h2, h3⟩ => ⟨by rw [h1, fixed_sort h2]; exact congrArg (fun o => Ending.returned (valV o)) fixed_value, h3⟩
  have HSo : Hid (∀ (W : World) (v : Value), ClA W v fixedC ∧ LaidU W → Calls Tryd.prog 25 #[v] W fun e w' => ∃ A c, e = .returned (.slice A 4 c) ∧ Below W.heap.size W w') := fun W v h => (sort_any v fixedC (by decide) W h.1 fixed_okC h.2).mono fun _ _ ⟨v', s, h1, h2, h3, h4⟩ => by
    obtain ⟨A, c, e, _⟩ := h3.len
    rw [fixed_sort h2] at e
    exact ⟨A, c, by rw [h1, e]; rfl, h4⟩
  have HRo : Hid (∀ (W : World) (v : Value), ClA W v fixedC ∧ LaidU W → Calls Tryd.prog 71 #[v] W fun e w' => ∃ A c, e = .returned (.slice A 1 c) ∧ Below W.heap.size W w') := fun W v h => (crows_any v fixedC (by decide) W h.1).mono fun _ _ ⟨v', h1, h2, h3⟩ => by
    have h4 := h2.2
    rw [fixed_rows] at h4
    rcases h4 with ⟨_, hz⟩ | ⟨g, cap, cur, e, _⟩
    · cases hz
    · exact ⟨_, cap, by rw [h1, e], h3⟩
  have HS8 : Hid (∀ (W : World) (v : Value) (b d : Int), ClA W v fixedC ∧ LaidU W → Calls Tryd.prog 30 #[v, .int .i64 8, .int .i64 b, .int .i64 d] W fun e w' => ∃ A c, e = .returned (.slice A (seenL 8 b d fixedS).length c) ∧ Below W.heap.size W w') := fun W v b d h => (HSe.out W v 8 b d h).mono fun _ _ ⟨v', h1, h2, h3⟩ => by
    obtain ⟨A, c, e, _⟩ := h2.len
    exact ⟨A, c, by rw [h1, e], h3⟩
  have HNe : Hid (∀ (W : World) (v : Value), ClA W v fixedC ∧ LaidU W → Calls Tryd.prog 72 #[v, .int .i64 8, .int .i64 0, .int .i64 9] W fun e w' => ∃ A c, e = .returned (.slice A 2 c) ∧ Below W.heap.size W w') := fun W v h => (cneeded_any v fixedC (by decide) 8 0 9 W h.1 fixed_okC h.2).mono fun _ _ ⟨v', s, h1, h2, h3, h4⟩ => by
    obtain ⟨A, c, e, _⟩ := h3.len
    rw [fixed_sort h2] at e
    exact ⟨A, c, by rw [h1, e]; rfl, h4⟩
  go_enter Tryd.func23, Tryd.ntmps23
  go_upto_region 2 with (fail)
  obtain ⟨rb, hrb⟩ : ∃ rb, w.heap.size = rb := ⟨_, rfl⟩
  obtain ⟨W0, hW0⟩ : ∃ W0, w.alloc (.cells goneC.e.toArray 28) = W0 := ⟨_, rfl⟩
  have HT : Hid (AlS W0 rb W0) := by
    rw [← hW0, ← hrb]
    have hB := Blk.new w 28 goneC.e.toArray
    exact ⟨hid ⟨Below.refl _ _, hB.lt⟩, blk_words (c := goneC) hB⟩
  have HB0 : Hid (Below w.heap.size w W0) := by rw [← hW0]; exact below_new _ _
  have HL0 : Hid (LaidU W0) := hL.below HB0.out
  rw [show w.alloc (.cells #[.string ⟨#[114]⟩, .string ⟨#[102]⟩, .string ⟨#[113]⟩, .int .i64 3, .int .i64 3, .int .i64 0, .int .i64 0, .string ⟨#[]⟩] 28) = W0 from hW0, hrb]
  clear hrb hW0 hL
  obtain ⟨-, a0, a1, a2, a3, a4, a5, a6, a7⟩ := HT.out
  go_region_held3 (fun W' => Hid (Below W0.heap.size W0 W' ∧ rb < W0.heap.size) ∧ W'.cell? ⟨rb, 0, none⟩ = some (.string ⟨#[114]⟩) ∧ W'.cell? ⟨rb, 1, none⟩ = some (.string ⟨#[102]⟩) ∧ W'.cell? ⟨rb, 2, none⟩ = some (.string ⟨#[113]⟩) ∧ W'.cell? ⟨rb, 3, none⟩ = some (.int .i64 3) ∧ W'.cell? ⟨rb, 4, none⟩ = some (.int .i64 3) ∧ W'.cell? ⟨rb, 5, none⟩ = some (.int .i64 0) ∧ W'.cell? ⟨rb, 6, none⟩ = some (.int .i64 0) ∧ W'.cell? ⟨rb, 7, none⟩ = some (.string ⟨#[]⟩))
    (first | exact HT.out | exact als_drew HT.out | exact als_call (by assumption) hb5 | exact als_call (by assumption) (below_new _ _) | exact als_drew (by assumption) | assumption)
    (first | (go_at_call 69; refine (HP.out _ _).mono ?_; rintro e w5 ⟨rfl, hb5⟩))
  rename_i hLast
  have HB5 : Hid (Below W0.heap.size W0 (w5.alloc (.cells (flatC fixedC).toArray 28))) := hLast.1.out.1
  clear a0 a1 a2 a3 a4 a5 a6 a7 hLast HT
  have HL5 : Hid (LaidU (w5.alloc (.cells (flatC fixedC).toArray 28))) := HL0.out.below HB5.out
  go_upto_region 5 with (first
    | (go_at_call 30; refine (HSe.out _ _ 1 0 9 (HX.out w5 _ HL5.out (Below.refl _ _))).mono ?_; rintro e w6 ⟨v6, rfl, hr6, hb6⟩; rw [fixed_seen1] at hr6; obtain ⟨g, cap, rfl, hc1, hc2, hg, hw⟩ := crow_one hr6)
    | (go_at_call 70; refine (HVa.out _ _ (HX.out w5 _ HL5.out hb6)).mono ?_; rintro e w7 ⟨rfl, hb7⟩))
  obtain ⟨W8, hW8⟩ : ∃ W8, w7.alloc (.cells #[.int .i64 1, .int .i64 5, .string ⟨#[]⟩] 26) = W8 := ⟨_, rfl⟩
  obtain ⟨vb, hvb⟩ : ∃ vb, w7.heap.size = vb := ⟨_, rfl⟩
  obtain ⟨lv, hlv⟩ : ∃ lv, Value.slice (some ⟨w5.heap.size, 0, none⟩) 4 4 = lv := ⟨_, rfl⟩
  have hb8 : Below w7.heap.size w7 W8 := by rw [← hW8]; exact below_new _ _
  have HQ : Hid (∀ W', Below W8.heap.size W8 W' → ClA W' lv fixedC ∧ LaidU W') := fun W' h => by
    have h1 := HX.out w5 _ HL5.out ((hb6.trans (hb7.mono hb6.size)).trans ((hb8.mono (Nat.le_trans hb6.size hb7.size)).trans (h.mono (Nat.le_trans (Nat.le_trans hb6.size hb7.size) hb8.size))))
    rw [hlv] at h1
    exact h1
  have HB8 : Hid (Below w.heap.size w W8) := by
    have h1 := HB0.out.trans (HB5.out.mono HB0.out.size)
    have h2 := h1.trans (hb6.mono h1.size)
    have h3 := h2.trans (hb7.mono h2.size)
    exact h3.trans (hb8.mono h3.size)
  have HT : Hid (AlT W8 g vb W8) := by
    have hg7 : g < w7.heap.size := Nat.lt_of_lt_of_le hg hb7.size
    have k : ∀ j, j < 8 → W8.cell? ⟨g, j, none⟩ = (putC 5).e[j]? := fun j hj => by
      rw [hb8.cell (p := ⟨g, j, none⟩) hg7, hb7.cell (p := ⟨g, j, none⟩) hg]
      exact hw j hj
    have hB : Blk W8 vb 26 #[.int .i64 1, .int .i64 5, .string ⟨#[]⟩] := by rw [← hW8, ← hvb]; exact Blk.new _ _ _
    exact ⟨hid ⟨Below.refl _ _, Nat.lt_of_lt_of_le hg7 hb8.size, hB.lt⟩, k 0 (by omega), k 1 (by omega), k 2 (by omega), k 3 (by omega), k 4 (by omega), k 5 (by omega), k 6 (by omega), k 7 (by omega), hB.cell 1⟩
  rw [hW8, hvb, hlv]
  clear hW8 hvb hlv hb8 hw hr6 hb6 hb7 HX HL5 HB5 HL0 HB0
  obtain ⟨-, a0, a1, a2, a3, a4, a5, a6, a7, a8⟩ := HT.out
  go_region_held3 (fun W' => Hid (Below W8.heap.size W8 W' ∧ g < W8.heap.size ∧ vb < W8.heap.size) ∧ W'.cell? ⟨g, 0, none⟩ = some (.string ⟨#[114]⟩) ∧ W'.cell? ⟨g, 1, none⟩ = some (.string ⟨#[102]⟩) ∧ W'.cell? ⟨g, 2, none⟩ = some (.string ⟨#[113]⟩) ∧ W'.cell? ⟨g, 3, none⟩ = some (.int .i64 5) ∧ W'.cell? ⟨g, 4, none⟩ = some (.int .i64 1) ∧ W'.cell? ⟨g, 5, none⟩ = some (.int .i64 1) ∧ W'.cell? ⟨g, 6, none⟩ = some (.int .i64 5) ∧ W'.cell? ⟨g, 7, none⟩ = some (.string ⟨#[]⟩) ∧ W'.cell? ⟨vb, 1, none⟩ = some (.int .i64 5))
    (first | exact HT.out | exact alt_drew HT.out | exact alt_call (by assumption) hb9 | exact alt_drew (by assumption) | assumption)
    (first
      | (go_at_call 69; refine (HPL.out _).mono ?_; rintro e w9 ⟨rfl, hb9⟩)
      | (go_at_call 25; refine (HSo.out _ _ (HQ.out _ (Hid.out (And.left (by assumption : AlT W8 g vb _))).1)).mono ?_; rintro e w9 ⟨A9, c9, rfl, hb9⟩)
      | (go_at_call 30; refine (HS8.out _ _ _ _ (HQ.out _ (Hid.out (And.left (by assumption : AlT W8 g vb _))).1)).mono ?_; rintro e w9 ⟨A9, c9, rfl, hb9⟩; (first | rw [fixed_seen8] | rw [fixed_seen3]))
      | (go_at_call 71; refine (HRo.out _ _ (HQ.out _ (Hid.out (And.left (by assumption : AlT W8 g vb _))).1)).mono ?_; rintro e w9 ⟨A9, c9, rfl, hb9⟩)
      | (go_at_call 72; refine (HNe.out _ _ (HQ.out _ (Hid.out (And.left (by assumption : AlT W8 g vb _))).1)).mono ?_; rintro e w9 ⟨A9, c9, rfl, hb9⟩))
  rename_i hLast
  have HZ := hid hLast.1.out.1
  clear a0 a1 a2 a3 a4 a5 a6 a7 a8 hLast HT
  go_wp2
  go_ret
  exact ⟨rfl, HB8.out.trans (HZ.out.mono HB8.out.size)⟩
end Go.Proofs.YtdjaofbjmnmlbaaDoor
