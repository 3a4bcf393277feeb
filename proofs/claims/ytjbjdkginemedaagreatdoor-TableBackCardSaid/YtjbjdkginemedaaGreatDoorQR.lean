/- Several texts in one: NUa. Conditions: as each theorem names them. -/
import Derived.Test.YtjbjdkginemedaaGreatDoorNL
/- Plain mathematics: cells in parts: how great a part is, and what stands next behind it. Conditions: as each theorem names them. -/
namespace Go.Proofs.YtjbjdkginemedaaGreatDoor

/-- How many bytes some cells count for. -/
def sumE : List CT → Nat
  | [] => 0
  | c :: l => encN c + sumE l
theorem sumE_snoc : ∀ (l : List CT) (c : CT), sumE (l ++ [c]) = sumE l + encN c
  | [], c => by
    show encN c + 0 = 0 + encN c
    omega
  | d :: l, c => by
    have := sumE_snoc l c
    show encN d + sumE (l ++ [c]) = (encN d + sumE l) + encN c
    omega
theorem sumE_take {l : List CT} {k : Nat} {c : CT} (h : l[k]? = some c) : sumE (l.take (k + 1)) = sumE (l.take k) + encN c := by
  rw [List.take_add_one, h]
  exact sumE_snoc _ _
theorem fitGo_fits {size : Int} : ∀ (l : List CT) (i t : Nat), 0 < i → 0 < fitGo size i t l → ((t + sumE (l.take (fitGo size i t l)) : Nat) : Int) ≤ size
  | [], i, t, _, h => absurd h (by simp [fitGo])
  | c :: l, i, t, hi, h => by
    by_cases hc : 0 < i ∧ size < ((t + encN c : Nat) : Int)
    · rw [fitGo_stop hc.1 hc.2] at h
      cases h
    · have hle : ((t + encN c : Nat) : Int) ≤ size := by omega
      rw [fitGo_go hc, List.take_succ_cons]
      show ((t + (encN c + sumE _) : Nat) : Int) ≤ size
      rcases Nat.eq_zero_or_pos (fitGo size (i + 1) (t + encN c) l) with e | e
      · rw [e, List.take_zero]
        show ((t + (encN c + 0) : Nat) : Int) ≤ size
        omega
      · have := fitGo_fits l (i + 1) (t + encN c) (by omega) e
        omega
theorem fitGo_next {size : Int} : ∀ (l : List CT) (i t : Nat) (c : CT), l[fitGo size i t l]? = some c → size < ((t + sumE (l.take (fitGo size i t l)) + encN c : Nat) : Int)
  | [], _, _, _, h => by simp at h
  | d :: l, i, t, c, h => by
    by_cases hc : 0 < i ∧ size < ((t + encN d : Nat) : Int)
    · rw [fitGo_stop hc.1 hc.2] at h ⊢
      have : d = c := by simpa using h
      subst this
      rw [List.take_zero]
      show size < ((t + 0 + encN d : Nat) : Int)
      have := hc.2
      omega
    · rw [fitGo_go hc] at h ⊢
      rw [List.getElem?_cons_succ] at h
      have := fitGo_next l (i + 1) (t + encN d) c h
      rw [List.take_succ_cons]
      show size < ((t + (encN d + sumE _) + encN c : Nat) : Int)
      omega
theorem fitN_fits {size : Int} {l : List CT} (hl : l.length ≤ 1000) (h : 1 < fitN size l) : ((sumE (l.take (fitN size l)) : Nat) : Int) ≤ size := by
  unfold fitN at h ⊢
  rw [List.take_of_length_le hl] at h ⊢
  cases l with
  | nil => exact absurd h (by simp [fitGo])
  | cons c l =>
    rw [fitGo_go (by omega)] at h ⊢
    have h2 : 0 < fitGo size (0 + 1) (0 + encN c) l := by omega
    have := fitGo_fits l (0 + 1) (0 + encN c) (by omega) h2
    rw [List.take_succ_cons]
    show ((encN c + sumE _ : Nat) : Int) ≤ size
    omega
theorem fitN_next {size : Int} {l : List CT} (hl : l.length ≤ 1000) {c : CT} (h : l[fitN size l]? = some c) : size < ((sumE (l.take (fitN size l)) + encN c : Nat) : Int) := by
  unfold fitN at h ⊢
  rw [List.take_of_length_le hl] at h ⊢
  have := fitGo_next l 0 0 c h
  omega

/-- What is so of cells in parts. -/
structure Cuts (size : Int) (l : List CT) (ps : List (List CT)) : Prop where
  flat : ps.flatten = l
  one : ∀ (i : Nat) (p : List CT), ps[i]? = some p → 0 < p.length ∧ (1 < p.length → ((sumE p : Nat) : Int) ≤ size)
  next : ∀ (i : Nat) (p q : List CT) (c : CT), ps[i]? = some p → ps[i + 1]? = some q → q[0]? = some c → size < ((sumE p + encN c : Nat) : Int)
theorem cuts_all (size : Int) : ∀ (n : Nat) (l : List CT), l.length ≤ n → l.length ≤ 1000 → Cuts size l (cutL size l)
  | n, [], _, _ => by
    rw [cutL_nil]
    exact ⟨rfl, fun i p h => by simp at h, fun i p q c h => by simp at h⟩
  | 0, c :: l, h, _ => absurd h (by simp)
  | n + 1, c :: l, h, hl => by
    have h0 : 0 < (c :: l).length := by simp
    have hp := fitN_pos size h0
    have hf := fitN_fits (size := size) hl
    have hx := fun c => fitN_next (size := size) (c := c) hl
    have hle := fitN_le size (c :: l)
    rw [cutL_more size h0]
    generalize c :: l = L at *
    generalize fitN size L = m at *
    have hd : (L.drop m).length ≤ n := by rw [List.length_drop]; omega
    have IH := cuts_all size n (L.drop m) hd (by rw [List.length_drop]; omega)
    refine ⟨?_, fun i p hi => ?_, fun i p q x hi hq hx0 => ?_⟩
    · rw [List.flatten_cons, IH.flat, List.take_append_drop]
    · cases i with
      | zero =>
        obtain rfl : L.take m = p := by simpa using hi
        have e : (L.take m).length = m := by rw [List.length_take]; omega
        rw [e]
        exact ⟨hp, hf⟩
      | succ i => exact IH.one i p (by simpa using hi)
    · cases i with
      | zero =>
        obtain rfl : L.take m = p := by simpa using hi
        rw [List.getElem?_cons_succ] at hq
        rcases Nat.eq_zero_or_pos (L.drop m).length with e | e
        · rw [List.eq_nil_of_length_eq_zero e, cutL_nil] at hq
          simp at hq
        · have hp2 := fitN_pos size e
          rw [cutL_more size e] at hq
          obtain rfl : (L.drop m).take (fitN size (L.drop m)) = q := by simpa using hq
          rw [List.getElem?_take_of_lt hp2, List.getElem?_drop, Nat.add_zero] at hx0
          exact hx x hx0
      | succ i => exact IH.next i p q x (by simpa using hi) (by simpa using hq) hx0
end Go.Proofs.YtjbjdkginemedaaGreatDoor
