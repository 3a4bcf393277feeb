/- SameBytes at any two rows of at most a thousand bytes, wherever they lie: are they one? Conditions: both rows hold those bytes. -/
import Derived.Test.YtfcnobcpnhfgmaaGreatDoorFI
import Derived.Test.YtfcnobcpnhfgmaaGreatDoorQ3
namespace Go.Proofs.YtfcnobcpnhfgmaaGreatDoor
open Go.RowKit

theorem first_diff : ∀ (l m : List UInt8), l.length = m.length → l ≠ m → ∃ j, j < l.length ∧ (l.getD j 0).toNat ≠ (m.getD j 0).toNat ∧ ∀ i, i < j → (l.getD i 0).toNat = (m.getD i 0).toNat
  | [], [], _, h => absurd rfl h
  | [], _ :: _, h, _ => by simp at h
  | _ :: _, [], h, _ => by simp at h
  | a :: l, b :: m, hl, h => by
    by_cases e : a = b
    · subst e
      obtain ⟨j, h1, h2, h3⟩ := first_diff l m (by simpa using hl) (fun q => h (by rw [q]))
      refine ⟨j + 1, by simpa using h1, by simpa using h2, fun i hi => ?_⟩
      cases i with
      | zero => rfl
      | succ i => simpa using h3 i (by omega)
    · exact ⟨0, by simp, fun q => e (UInt8.toNat_inj.1 (by simpa using q)), fun i hi => by omega⟩

set_option maxHeartbeats 1000000 in
theorem same_len {A B : Option Addr} (n m c d : Nat) (h : n ≠ m) (w : World) :
    Calls Tryz.prog 18 #[.slice A n c, .slice B m d] w fun e w' => e = .returned (.bool false) ∧ Below w.heap.size w w' := by
  have hd : (n != m) = true := by simpa using h
  clear h
  go_enter Tryz.func18, Tryz.ntmps18
  go_wp2
  go_ret
  exact ⟨rfl, Below.refl _ _⟩

set_option maxHeartbeats 1000000 in
theorem same_to (n j : Nat) (hn : n ≤ 4000) (hj : j ≤ n) (f g : Nat → Int) (b1 o1 b2 o2 c1 c2 : Nat) (w : World) (h1 : ∀ i, i < n → w.cell? ⟨b1, o1 + i, none⟩ = some (.int .u8 (f i))) (h2 : ∀ i, i < n → w.cell? ⟨b2, o2 + i, none⟩ = some (.int .u8 (g i)))
    (he : ∀ i, i < j → f i = g i) (hd : j < n → (f j != g j) = true) :
    Calls Tryz.prog 18 #[.slice (some ⟨b1, o1, none⟩) n c1, .slice (some ⟨b2, o2, none⟩) n c2] w fun e w' => e = .returned (.bool (decide (j = n))) ∧ Below w.heap.size w w' := by
  have H1 := hid h1
  have H2 := hid h2
  have HE := hid he
  have HD := hid hd
  clear h1 h2 he hd
  go_enter Tryz.func18, Tryz.ntmps18
  go_wp2
  go_loopw [5] (fun vi wr => ∃ k m : Nat, k ≤ j ∧ vi = .int .i64 k ∧ wr = w.drewN m) (fun vi _ => n - (intOf vi).toNat)
  case atStart => exact ⟨0, 0, by omega, rfl, rfl⟩
  case round =>
    obtain ⟨k, m, hk, rfl, rfl⟩ := hrel
    by_cases hlt : k < n
    · have g1 := H1.out k hlt
      have g2 := H2.out k hlt
      by_cases hkj : k < j
      · have e := HE.out k hkj
        obtain ⟨x, hx⟩ : ∃ x, f k = x := ⟨_, rfl⟩
        rw [← e, hx] at g2
        rw [hx] at g1
        clear e hx
        go_wp2
        go_quiet (fail)
        go_wp2
        go_roundw
        case rel => exact ⟨k + 1, _, by omega, by go_num, rfl⟩
        case measure => simp [intOf]; omega
      · obtain rfl : k = j := by omega
        have hd := HD.out hlt
        obtain ⟨x, hx⟩ : ∃ x, f k = x := ⟨_, rfl⟩
        obtain ⟨y, hy⟩ : ∃ y, g k = y := ⟨_, rfl⟩
        rw [hx] at g1 hd
        rw [hy] at g2 hd
        have HF : Hid (decide (k = n) = false) := decide_eq_false (by omega)
        clear hx hy
        go_wp2
        go_quiet (fail)
        go_wp2
        go_ret
        exact ⟨ret_bool HF.out.symm, by repeat (first | exact Below.refl _ _ | refine below_drewN ?_ _)⟩
    · obtain rfl : k = n := by omega
      obtain rfl : k = j := by omega
      go_wp2
      go_ret
      exact ⟨ret_bool (by simp), by repeat (first | exact Below.refl _ _ | refine below_drewN ?_ _)⟩

/-- SameBytes of two rows, in slices with at least one byte. -/
theorem same_any (l m : List UInt8) (hl : l.length ≤ 4000) (A B : Option Addr) (c d : Nat) (w : World) (h1 : HoldsA w A l) (h2 : HoldsA w B m) (h0 : 0 < l.length) :
    Calls Tryz.prog 18 #[.slice A l.length c, .slice B m.length d] w fun e w' => e = .returned (.bool (decide (l = m))) ∧ Below w.heap.size w w' := by
  by_cases hlen : l.length = m.length
  · obtain ⟨b1, o1, rfl, hb1⟩ := h1 h0
    obtain ⟨b2, o2, rfl, hb2⟩ := h2 (by omega)
    rw [← hlen]
    by_cases e : l = m
    · subst e
      have := same_to l.length l.length hl (Nat.le_refl _) (fun i => ((l.getD i 0).toNat : Int)) (fun i => ((l.getD i 0).toNat : Int)) b1 o1 b2 o2 c d w hb1 hb2 (fun _ _ => rfl) (fun h => absurd h (by omega))
      simpa using this
    · obtain ⟨j, hj, hne, heq⟩ := first_diff l m hlen e
      have := same_to l.length j hl (by omega) (fun i => ((l.getD i 0).toNat : Int)) (fun i => ((m.getD i 0).toNat : Int)) b1 o1 b2 o2 c d w hb1 (fun i hi => hb2 i (by omega)) (fun i hi => by rw [heq i hi]) (fun _ => bne_iff_ne.2 (by omega))
      rw [show decide (j = l.length) = decide (l = m) by rw [decide_eq_false (by omega), decide_eq_false e]] at this
      exact this
  · have e : ¬ l = m := fun h => hlen (by rw [h])
    rw [decide_eq_false e]
    exact same_len _ _ c d hlen w

end Go.Proofs.YtfcnobcpnhfgmaaGreatDoor
