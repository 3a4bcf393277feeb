/- The document's Name and Right of layer 3 at every text and cell. Conditions: the value's text of at most a thousand bytes. -/
import Derived.Test.YtgfkobfkncpmoaaDoorP5
import Derived.Test.YtgfkobfkncpmoaaDoorP8
namespace Go.Proofs.YtgfkobfkncpmoaaDoor
open Go.RowKit

set_option maxRecDepth 100000 in
set_option maxHeartbeats 2000000 in
theorem refName_any (s : ByteArray) (hs : s.size ≤ 9223372036854775807) (w : World) :
    Calls Tryd.prog 96 #[.string s] w fun e w' => e = .returned (.bool (nameB s.data.toList)) ∧ w' = w := by
  go_enter Tryd.func96, Tryd.ntmps96
  go_wp2
  go_loopw [3] (fun vi wr => ∃ i : Nat, i ≤ s.size ∧ vi = .int .i64 i ∧ wr = w ∧ Hid ((s.data.toList.take i).all nmB = true)) (fun vi _ => s.size - (intOf vi).toNat)
  case atStart => exact ⟨0, Nat.zero_le _, rfl, rfl, rfl⟩
  case round =>
    obtain ⟨i, hi, rfl, rfl, HA⟩ := hrel
    by_cases hlt : i < s.size
    · have hll : i < s.data.toList.length := hlt
      have HT : Hid ((s.data.toList.take (i + 1)).all nmB = nmB s[i]) := by
        unfold Hid
        rw [all_take_next _ i hll, HA.out, Bool.true_and, getD_str' s i hlt]
      have HF : Hid (nmB s[i] = false → nameB s.data.toList = false) := by
        intro h
        unfold nameB
        rw [all_take_false s.data.toList i hll (by rw [getD_str' s i hlt]; exact h), Bool.false_and]
      by_cases hn : nmB s[i] = true
      · have HN := hid hn
        unfold nmB at hn
        simp only [Bool.or_eq_true, Bool.and_eq_true, decide_eq_true_eq] at hn
        rcases hn with ⟨a1, a2⟩ | ⟨a1, a2⟩
        · have b1 : (97 : Int) ≤ (s[i].toNat : Int) := by omega
          have b2 : (s[i].toNat : Int) ≤ 122 := by omega
          clear a1 a2
          go_wp2
          go_roundw
          case rel => exact ⟨i + 1, by omega, by go_num, trivial, by unfold Hid; rw [HT.out]; exact HN.out⟩
          case measure => simp [intOf]; omega
        · have b1 : (48 : Int) ≤ (s[i].toNat : Int) := by omega
          have b2 : (s[i].toNat : Int) ≤ 57 := by omega
          have b3 : ¬ (97 : Int) ≤ (s[i].toNat : Int) := by omega
          clear a1 a2
          go_wp2
          go_roundw
          case rel => exact ⟨i + 1, by omega, by go_num, trivial, by unfold Hid; rw [HT.out]; exact HN.out⟩
          case measure => simp [intOf]; omega
      · have HN : Hid (nmB s[i] = false) := by unfold Hid; simpa using hn
        have hn := HN.out
        unfold nmB at hn
        have hc : (s[i].toNat < 48) ∨ (57 < s[i].toNat ∧ s[i].toNat < 97) ∨ 122 < s[i].toNat := by
          simp only [Bool.or_eq_false_iff, Bool.and_eq_false_iff, decide_eq_false_iff_not] at hn
          omega
        clear hn
        rcases hc with h | ⟨h, h'⟩ | h
        · have b1 : ¬ (97 : Int) ≤ (s[i].toNat : Int) := by omega
          have b2 : ¬ (48 : Int) ≤ (s[i].toNat : Int) := by omega
          go_wp2
          go_ret
          rw [HF.out HN.out]
          exact ⟨rfl, rfl⟩
        · have b1 : ¬ (97 : Int) ≤ (s[i].toNat : Int) := by omega
          have b2 : (48 : Int) ≤ (s[i].toNat : Int) := by omega
          have b3 : ¬ (s[i].toNat : Int) ≤ 57 := by omega
          go_wp2
          go_ret
          rw [HF.out HN.out]
          exact ⟨rfl, rfl⟩
        · have b1 : (97 : Int) ≤ (s[i].toNat : Int) := by omega
          have b2 : ¬ (s[i].toNat : Int) ≤ 122 := by omega
          have b3 : (48 : Int) ≤ (s[i].toNat : Int) := by omega
          have b4 : ¬ (s[i].toNat : Int) ≤ 57 := by omega
          go_wp2
          go_ret
          rw [HF.out HN.out]
          exact ⟨rfl, rfl⟩
    · have HE : Hid (nameB s.data.toList = (decide (1 ≤ s.size) && decide (s.size ≤ 8))) := by
        have h := HA.out
        rw [List.take_of_length_le (show s.data.toList.length ≤ i by show s.size ≤ i; omega)] at h
        unfold Hid nameB
        rw [h, Bool.true_and]
        rfl
      go_wp2
      all_goals go_ret
      all_goals rw [HE.out]
      · rename_i h
        exact ⟨ret_bool (show decide ((s.size : Int) ≤ 8) = _ by rw [decide_eq_true (show 1 ≤ s.size by omega), Bool.true_and]; exact decide_eq_decide.2 (by omega)), rfl⟩
      · rename_i h
        exact ⟨ret_bool (show false = _ by rw [decide_eq_false (show ¬ 1 ≤ s.size by omega)]; rfl), rfl⟩

set_option maxRecDepth 100000 in
set_option maxHeartbeats 4000000 in
/-- Something ahead of the kind is wrong. -/
theorem refcright_head (r f q vs : ByteArray) (t k vk vn : Int) (nf : Bool) (h : (r.size < 1 ∨ 16 < r.size) ∨ (¬ (r.size < 1 ∨ 16 < r.size) ∧ (nf = false ∨ (nf = true ∧ (12 < q.size ∨ (q.size ≤ 12 ∧ (t < 0 ∨ (0 ≤ t ∧ 1099511627776 < t)))))))) (w : World)
    (HN : ∀ W, Calls Tryd.prog 96 #[.string f] W fun e w' => e = .returned (.bool nf) ∧ w' = W) :
    Calls Tryd.prog 28 #[cellV r f q t k vk vn vs] w fun e w' => e = .returned (.bool false) ∧ Below w.heap.size w w' := by
  have HN := hid HN
  rcases h with (h | h) | ⟨h0, rfl | ⟨rfl, h | ⟨h1, h | ⟨h2, h3⟩⟩⟩⟩
  all_goals
    go_enter Tryd.func28, Tryd.ntmps28
    go_wp2_with (go_at_call 96; refine (HN.out _).mono ?_; rintro e w1 ⟨rfl, rfl⟩)
    all_goals go_ret
    all_goals exact ⟨rfl, below_new _ _⟩

set_option maxRecDepth 100000 in
set_option maxHeartbeats 4000000 in
/-- A put. -/
theorem refcright_put (r f q vs : ByteArray) (t vk vn : Int) (vr : Bool) (h1 : 1 ≤ r.size) (h2 : r.size ≤ 16) (h3 : q.size ≤ 12) (h4 : 0 ≤ t) (h5 : t ≤ 1099511627776) (w : World)
    (HN : ∀ W, Calls Tryd.prog 96 #[.string f] W fun e w' => e = .returned (.bool true) ∧ w' = W)
    (HV : ∀ W, Below w.heap.size w W → Calls Tryd.prog 97 #[.agg #[.int .i64 vk, .int .i64 vn, .string vs]] W fun e w' => e = .returned (.bool vr) ∧ Below W.heap.size W w') :
    Calls Tryd.prog 28 #[cellV r f q t 1 vk vn vs] w fun e w' => e = .returned (.bool vr) ∧ Below w.heap.size w w' := by
  have HN := hid HN
  have HV := hid HV
  have h0 : ¬ (r.size < 1 ∨ 16 < r.size) := by omega
  go_enter Tryd.func28, Tryd.ntmps28
  go_wp2_with (first | (go_at_call 96; refine (HN.out _).mono ?_; rintro e w1 ⟨rfl, rfl⟩) | (go_at_call 97; refine (HV.out _ (below_new _ _)).mono ?_; rintro e w1 ⟨rfl, hb⟩))
  go_ret
  exact ⟨rfl, (below_new _ _).trans (hb.mono (below_new _ _).size)⟩

set_option maxRecDepth 100000 in
set_option maxHeartbeats 8000000 in
/-- A cell or a column is gone. -/
theorem refcright_gone (r f q vs : ByteArray) (t k vk vn : Int) (z : Bool) (h1 : 1 ≤ r.size) (h2 : r.size ≤ 16) (h3 : q.size ≤ 12) (h4 : 0 ≤ t) (h5 : t ≤ 1099511627776) (hk : k = 2 ∨ k = 3) (hv : NoneOr vk vn vs z) (w : World)
    (HN : ∀ W, Calls Tryd.prog 96 #[.string f] W fun e w' => e = .returned (.bool true) ∧ w' = W) :
    Calls Tryd.prog 28 #[cellV r f q t k vk vn vs] w fun e w' => e = .returned (.bool z) ∧ Below w.heap.size w w' := by
  have HN := hid HN
  have h0 : ¬ (r.size < 1 ∨ 16 < r.size) := by omega
  rcases hk with rfl | rfl
  all_goals rcases hv with ⟨h, q0, rfl⟩ | ⟨rfl, ⟨h, q0, rfl⟩ | ⟨rfl, ⟨h, rfl⟩ | ⟨rfl, rfl⟩⟩⟩
  all_goals
    go_enter Tryd.func28, Tryd.ntmps28
    go_wp2_with (go_at_call 96; refine (HN.out _).mono ?_; rintro e w1 ⟨rfl, rfl⟩)
    go_ret
    exact ⟨rfl, below_new _ _⟩

set_option maxRecDepth 100000 in
set_option maxHeartbeats 4000000 in
/-- No kind. -/
theorem refcright_other (r f q vs : ByteArray) (t k vk vn : Int) (h1 : 1 ≤ r.size) (h2 : r.size ≤ 16) (h3 : q.size ≤ 12) (h4 : 0 ≤ t) (h5 : t ≤ 1099511627776) (k1 : ¬ k = 1) (k2 : ¬ k = 2) (k3 : ¬ k = 3) (k4 : ¬ k = 4) (w : World)
    (HN : ∀ W, Calls Tryd.prog 96 #[.string f] W fun e w' => e = .returned (.bool true) ∧ w' = W) :
    Calls Tryd.prog 28 #[cellV r f q t k vk vn vs] w fun e w' => e = .returned (.bool false) ∧ Below w.heap.size w w' := by
  have HN := hid HN
  have h0 : ¬ (r.size < 1 ∨ 16 < r.size) := by omega
  have e1 : (k == 1) = false := by simpa using k1
  have e2 : (k == 2) = false := by simpa using k2
  have e3 : (k == 3) = false := by simpa using k3
  have e4 : (k == 4) = false := by simpa using k4
  go_enter Tryd.func28, Tryd.ntmps28
  go_wp2_with (go_at_call 96; refine (HN.out _).mono ?_; rintro e w1 ⟨rfl, rfl⟩)
  go_ret
  exact ⟨rfl, below_new _ _⟩

set_option maxRecDepth 100000 in
set_option maxHeartbeats 8000000 in
/-- A family is gone. -/
theorem refcright_fam (r f q vs : ByteArray) (t vk vn : Int) (z : Bool) (h1 : 1 ≤ r.size) (h2 : r.size ≤ 16) (h3 : q.size ≤ 12) (h4 : 0 ≤ t) (h5 : t ≤ 1099511627776) (hv : NoneOr vk vn vs z) (w : World)
    (HN : ∀ W, Calls Tryd.prog 96 #[.string f] W fun e w' => e = .returned (.bool true) ∧ w' = W) :
    Calls Tryd.prog 28 #[cellV r f q t 4 vk vn vs] w fun e w' => e = .returned (.bool (q.data.toList.isEmpty && z)) ∧ Below w.heap.size w w' := by
  have HN := hid HN
  have h0 : ¬ (r.size < 1 ∨ 16 < r.size) := by omega
  rcases hv with ⟨h, q0, rfl⟩ | ⟨rfl, ⟨h, q0, rfl⟩ | ⟨rfl, ⟨h, rfl⟩ | ⟨rfl, rfl⟩⟩⟩
  · rw [Bool.and_false]
    go_enter Tryd.func28, Tryd.ntmps28
    go_wp2_with (go_at_call 96; refine (HN.out _).mono ?_; rintro e w1 ⟨rfl, rfl⟩)
    go_ret
    exact ⟨rfl, below_new _ _⟩
  · rw [Bool.and_false]
    go_enter Tryd.func28, Tryd.ntmps28
    go_wp2_with (go_at_call 96; refine (HN.out _).mono ?_; rintro e w1 ⟨rfl, rfl⟩)
    go_ret
    exact ⟨rfl, below_new _ _⟩
  · rw [Bool.and_false]
    go_enter Tryd.func28, Tryd.ntmps28
    go_wp2_with (go_at_call 96; refine (HN.out _).mono ?_; rintro e w1 ⟨rfl, rfl⟩)
    go_ret
    exact ⟨rfl, below_new _ _⟩
  · rw [Bool.and_true]
    by_cases hq : q.data.toList = []
    · have e : q = ⟨#[]⟩ := by cases q; simp_all
      subst e
      go_enter Tryd.func28, Tryd.ntmps28
      go_wp2_with (go_at_call 96; refine (HN.out _).mono ?_; rintro e w1 ⟨rfl, rfl⟩)
      go_ret
      exact ⟨rfl, below_new _ _⟩
    · have h : ¬ q.toList = [] := by rw [toList_eq]; exact hq
      clear hq
      go_enter Tryd.func28, Tryd.ntmps28
      go_wp2_with (go_at_call 96; refine (HN.out _).mono ?_; rintro e w1 ⟨rfl, rfl⟩)
      go_ret
      rw [← toList_eq]
      exact ⟨rfl, below_new _ _⟩

theorem refcright_any (r f q vs : ByteArray) (t k vk : Int) (vn : Int) (hf : f.size ≤ 9223372036854775807) (hv : vs.size ≤ 4000) (w : World) :
    Calls Tryd.prog 28 #[cellV r f q t k vk vn vs] w fun e w' => e = .returned (.bool (cRight r.data.toList f.data.toList q.data.toList t k vk vn vs.data.toList)) ∧ Below w.heap.size w w' := by
  have HN : ∀ W, Calls Tryd.prog 96 #[.string f] W fun e w' => e = .returned (.bool (nameB f.data.toList)) ∧ w' = W := fun W => refName_any f hf W
  have HV : ∀ W, Below w.heap.size w W → Calls Tryd.prog 97 #[.agg #[.int .i64 vk, .int .i64 vn, .string vs]] W fun e w' => e = .returned (.bool (vRight vk vn vs.data.toList)) ∧ Below W.heap.size W w' := fun W _ => refright_any vk vn vs W hv
  have er : r.data.toList.length = r.size := rfl
  have eq : q.data.toList.length = q.size := rfl
  unfold cRight
  by_cases hh : cHead r.data.toList f.data.toList q.data.toList t = true
  · rw [hh, Bool.true_and]
    unfold cHead at hh
    rw [er, eq] at hh
    simp only [Bool.and_eq_true, decide_eq_true_eq] at hh
    obtain ⟨⟨h1, h2⟩, h3, h4, h5, h6⟩ := hh
    rw [h3] at HN
    unfold cTail
    by_cases k1 : k = 1
    · subst k1
      rw [if_pos rfl]
      exact refcright_put r f q vs t vk vn _ h1 h2 h4 h5 h6 w HN HV
    · rw [if_neg k1]
      by_cases k23 : k = 2 ∨ k = 3
      · rw [if_pos k23]
        exact refcright_gone r f q vs t k vk vn _ h1 h2 h4 h5 h6 k23 (noneOr vk vn vs) w HN
      · rw [if_neg k23]
        by_cases k4 : k = 4
        · subst k4
          rw [if_pos rfl]
          exact refcright_fam r f q vs t vk vn _ h1 h2 h4 h5 h6 (noneOr vk vn vs) w HN
        · rw [if_neg k4]
          exact refcright_other r f q vs t k vk vn h1 h2 h4 h5 h6 k1 (fun e => k23 (.inl e)) (fun e => k23 (.inr e)) k4 w HN
  · have hF : cHead r.data.toList f.data.toList q.data.toList t = false := by simpa using hh
    rw [hF, Bool.false_and]
    refine refcright_head r f q vs t k vk vn (nameB f.data.toList) ?_ w HN
    unfold cHead at hh
    rw [er, eq] at hh
    simp only [Bool.and_eq_true, decide_eq_true_eq] at hh
    by_cases h1 : r.size < 1 ∨ 16 < r.size
    · exact .inl h1
    · refine .inr ⟨h1, ?_⟩
      by_cases h2 : nameB f.data.toList = true
      · refine .inr ⟨h2, ?_⟩
        by_cases h3 : q.size ≤ 12
        · refine .inr ⟨h3, ?_⟩
          by_cases h4 : 0 ≤ t
          · refine .inr ⟨h4, ?_⟩
            have : ¬ t ≤ 1099511627776 := fun h5 => hh ⟨⟨by omega, by omega⟩, h2, h3, h4, h5⟩
            omega
          · exact .inl (by omega)
        · exact .inl (by omega)
      · exact .inl (by simpa using h2)
end Go.Proofs.YtgfkobfkncpmoaaDoor
