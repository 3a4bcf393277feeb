/- The document's Read (package joistref01) at every text. Conditions: none but the texts' lengths. -/
import Derived.Test.YtlfpaipbdlhefaaDoorX
import Derived.Deep.LoopGhost
namespace Go.Proofs.YtlfpaipbdlhefaaDoor
open Go.RowKit

/-- A byte's digit; 16: none. -/
def dvN (c : Nat) : Nat := if 48 ≤ c ∧ c ≤ 57 then c - 48 else if 97 ≤ c ∧ c ≤ 102 then c - 87 else 16
theorem dv_dg : ∀ d : Nat, d < 16 → ∀ c : Nat, c < 256 → ((dg d).toNat = c ↔ dvN c = d) := by decide +kernel
def vd (c : Nat) : Nat := if dvN c < 16 then dvN c else 0
theorem vd_lt (c : Nat) : vd c < 16 := by unfold vd; split <;> omega
def valB (l : List UInt8) : Nat := l.foldl (fun r x => r * 16 + vd x.toNat) 0
theorem valB_snoc (l : List UInt8) (x : UInt8) : valB (l ++ [x]) = valB l * 16 + vd x.toNat := by unfold valB; rw [List.foldl_append]; rfl
theorem valB_take (l : List UInt8) (k : Nat) (h : k < l.length) : valB (l.take (k + 1)) = valB (l.take k) * 16 + vd (l.getD k 0).toNat := by
  rw [List.take_succ_eq_append_getElem h, valB_snoc, List.getD_eq_getElem?_getD, List.getElem?_eq_getElem h, Option.getD_some]
theorem valB_lt (l : List UInt8) : valB l < 16 ^ l.length := by
  induction h : l.length generalizing l with
  | zero => have : l = [] := List.length_eq_zero_iff.1 h
            subst this; decide
  | succ n ih =>
    obtain ⟨l', x, rfl⟩ : ∃ l' x, l = l' ++ [x] := ⟨l.dropLast, l.getLast (by intro e; rw [e] at h; simp at h), (List.dropLast_concat_getLast _).symm⟩
    have hl : l'.length = n := by simpa using h
    rw [valB_snoc, Nat.pow_succ]
    have := ih l' hl
    have hx := vd_lt x.toNat
    omega
theorem vd_dg (d : Nat) (h : d < 16) : vd (dg d).toNat = d := by
  have := (dv_dg d h (dg d).toNat (dg d).toNat_lt).1 rfl
  unfold vd; rw [this, if_pos h]
theorem valB_fix (k : Nat) : ∀ u, u < 16 ^ k → valB (fixW k u) = u := by
  induction k with
  | zero => intro u h; have : u = 0 := by simpa using h
            subst this; rfl
  | succ k ih =>
    intro u h
    have h2 : u / 16 < 16 ^ k := by rw [Nat.pow_succ] at h; omega
    rw [fixW, valB_snoc, ih _ h2, vd_dg _ (by omega)]
    omega

/-- The inner loop: d digits have been looked at. -/
def DInv (u0 c P : Nat) (W : World) (vu vd' : Value) (wr : World) : Prop :=
  ∃ d u m : Nat, d ≤ 16 ∧ vu = .int .u64 u ∧ vd' = .int .i64 d ∧ u = u0 + (if dvN c < d then dvN c * P else 0) ∧ wr = W.drewN m
/-- The outer loop: the bytes 1 to i - 1 have been taken. -/
def OInv (l : List UInt8) (W : World) (vu vi : Value) (wr : World) : Prop :=
  ∃ k u m : Nat, k ≤ 16 ∧ vu = .int .u64 u ∧ vi = .int .i64 (k + 1 : Nat) ∧ u = valB (l.take k) * 16 ^ (16 - k) ∧ wr = W.drewN m

theorem lit_at (d : Nat) (h : d < 16) : ((⟨#[48, 49, 50, 51, 52, 53, 54, 55, 56, 57, 97, 98, 99, 100, 101, 102]⟩ : ByteArray)[d]'(show d < 16 from h)).toNat = (dg d).toNat := by
  have key : ∀ d : Nat, d < 16 → hexConst.data[d]? = some (dg d) := by decide +kernel
  have h1 := key d h
  have h2 : hexConst.data[d]? = some (hexConst.data[d]'(show d < 16 from h)) := Array.getElem?_eq_getElem _
  rw [h2] at h1
  exact congrArg UInt8.toNat (Option.some.inj h1)

theorem shl_in (t : List UInt8) (k d : Nat) (hk : k < 16) (ht : t.length ≤ k) (hd : d < 16) :
    Value.int .u64 (IntKind.u64.wrap (((valB t * 16 ^ (16 - k) : Nat) : Int) + IntKind.u64.wrap ((d : Int) * 2 ^ (64 - 4 * (k + 1))))) = Value.int .u64 ((valB t * 16 ^ (16 - k) + d * 16 ^ (15 - k) : Nat) : Int) := by
  have e2 : ((2 : Int) ^ (64 - 4 * (k + 1))) = ((16 ^ (15 - k) : Nat) : Int) := by
    have e : (2 : Nat) ^ (64 - 4 * (k + 1)) = 16 ^ (15 - k) := by rw [show 64 - 4 * (k + 1) = 4 * (15 - k) by omega, Nat.pow_mul]
    rw [← e, Int.natCast_pow]; rfl
  have hb : valB t * 16 ^ (16 - k) + d * 16 ^ (15 - k) < 18446744073709551616 := by
    have h1 := valB_lt t
    have h2 : 16 ^ t.length ≤ 16 ^ k := Nat.pow_le_pow_right (by omega) ht
    have h3 : valB t * 16 ^ (16 - k) + d * 16 ^ (15 - k) = (valB t * 16 + d) * 16 ^ (15 - k) := by
      rw [Nat.add_mul, Nat.mul_assoc, show 16 - k = (15 - k) + 1 by omega, Nat.pow_succ, Nat.mul_comm 16]
    have h4 : valB t * 16 + d < 16 ^ (k + 1) := by rw [Nat.pow_succ]; omega
    have h5 : 16 ^ (k + 1) * 16 ^ (15 - k) = 18446744073709551616 := by rw [← Nat.pow_add, show k + 1 + (15 - k) = 16 by omega]
    rw [h3, ← h5]
    exact Nat.mul_lt_mul_of_pos_right h4 (Nat.pow_pos (by omega))
  rw [e2, IntKind.wrap_u64, IntKind.wrap_u64, ← Int.natCast_mul]
  congr 1
  generalize valB t * 16 ^ (16 - k) = A at *
  generalize d * 16 ^ (15 - k) = B at *
  omega

/-- The numbers with names. -/
def nm (k : Nat) : Int := if k = 0 then 9221120237041090560 else if k = 1 then 9218868437227405312 else if k = 2 then -4503599627370496 else if k = 3 then 0 else -9223372036854775808

def NInv (vi : Value) : Prop := ∃ k : Nat, k ≤ 5 ∧ vi = .int .i64 k

set_option maxHeartbeats 2000000 in
theorem refRead_short (s : ByteArray) (hT : ∀ k, k < 5 → (showT (nm k) == s.toList) = false) (hl : s.size ≠ 17) (w : World) :
    Calls Tryd.prog 22 #[.string s] w fun e w' => e = .returned (.tuple #[.int .i64 0, .bool false]) ∧ Below w.heap.size w w' := by
  have T0 : (showT 9221120237041090560 == s.toList) = false := hT 0 (by omega)
  have T1 : (showT 9218868437227405312 == s.toList) = false := hT 1 (by omega)
  have T2 : (showT (-4503599627370496) == s.toList) = false := hT 2 (by omega)
  have T3 : (showT 0 == s.toList) = false := hT 3 (by omega)
  have T4 : (showT (-9223372036854775808) == s.toList) = false := hT 4 (by omega)
  have S0 : Hid (∀ W, Calls Tryd.prog 18 #[.int .i64 9221120237041090560] W fun e w' => e = .returned (.string ⟨(showT 9221120237041090560).toArray⟩) ∧ W = w') := fun W => refShow_any (by unfold inI; omega) W
  have S1 : Hid (∀ W, Calls Tryd.prog 18 #[.int .i64 9218868437227405312] W fun e w' => e = .returned (.string ⟨(showT 9218868437227405312).toArray⟩) ∧ W = w') := fun W => refShow_any (by unfold inI; omega) W
  have S2 : Hid (∀ W, Calls Tryd.prog 18 #[.int .i64 (-4503599627370496)] W fun e w' => e = .returned (.string ⟨(showT (-4503599627370496)).toArray⟩) ∧ W = w') := fun W => refShow_any (by unfold inI; omega) W
  have S3 : Hid (∀ W, Calls Tryd.prog 18 #[.int .i64 0] W fun e w' => e = .returned (.string ⟨(showT 0).toArray⟩) ∧ W = w') := fun W => refShow_any (by unfold inI; omega) W
  have S4 : Hid (∀ W, Calls Tryd.prog 18 #[.int .i64 (-9223372036854775808)] W fun e w' => e = .returned (.string ⟨(showT (-9223372036854775808)).toArray⟩) ∧ W = w') := fun W => refShow_any (by unfold inI; omega) W
  have h17 : ((s.size : Int) == 17) = false := by simpa using fun h => hl (by omega)
  clear hT hl
  go_enter Tryd.func22, Tryd.ntmps22
  go_wp2
  go_loop [5] (fun vi => NInv vi) (fun vi => 5 - (intOf vi).toNat)
  case atStart => exact ⟨0, by omega, rfl⟩
  case round =>
    obtain ⟨k, hk, rfl⟩ := hrel
    by_cases h5 : k = 5
    · subst h5
      go_wp2
      go_ret2
      exact ⟨rfl, (Below.refl _ _).alloc (Nat.le_refl _) _⟩
    · rcases (show k = 0 ∨ k = 1 ∨ k = 2 ∨ k = 3 ∨ k = 4 by omega) with rfl | rfl | rfl | rfl | rfl
      all_goals
        go_wp2_with (first | (go_at_call 18; ((with_reducible refine (S0.out _).mono ?_); rintro e w' ⟨rfl, rfl⟩)) | (go_at_call 18; ((with_reducible refine (S1.out _).mono ?_); rintro e w' ⟨rfl, rfl⟩)) | (go_at_call 18; ((with_reducible refine (S2.out _).mono ?_); rintro e w' ⟨rfl, rfl⟩)) | (go_at_call 18; ((with_reducible refine (S3.out _).mono ?_); rintro e w' ⟨rfl, rfl⟩)) | (go_at_call 18; ((with_reducible refine (S4.out _).mono ?_); rintro e w' ⟨rfl, rfl⟩)))
        go_round
        case rel => first | exact ⟨1, by omega, rfl⟩ | exact ⟨2, by omega, rfl⟩ | exact ⟨3, by omega, rfl⟩ | exact ⟨4, by omega, rfl⟩ | exact ⟨5, by omega, rfl⟩
        case measure => simp [intOf]

set_option maxHeartbeats 4000000 in
theorem refRead_17 (s : ByteArray) (hT : ∀ k, k < 5 → (showT (nm k) == s.toList) = false) (hl : s.size = 17) (E : Ending)
    (hE : E = if showT (wrap64 (valB (s.data.toList.drop 1))) = s.toList then .returned (.tuple #[.int .i64 (wrap64 (valB (s.data.toList.drop 1))), .bool true]) else .returned (.tuple #[.int .i64 0, .bool false])) (w : World) :
    Calls Tryd.prog 22 #[.string s] w fun e w' => e = E ∧ Below w.heap.size w w' := by
  have T0 : (showT 9221120237041090560 == s.toList) = false := hT 0 (by omega)
  have T1 : (showT 9218868437227405312 == s.toList) = false := hT 1 (by omega)
  have T2 : (showT (-4503599627370496) == s.toList) = false := hT 2 (by omega)
  have T3 : (showT 0 == s.toList) = false := hT 3 (by omega)
  have T4 : (showT (-9223372036854775808) == s.toList) = false := hT 4 (by omega)
  have S0 : Hid (∀ W, Calls Tryd.prog 18 #[.int .i64 9221120237041090560] W fun e w' => e = .returned (.string ⟨(showT 9221120237041090560).toArray⟩) ∧ W = w') := fun W => refShow_any (by unfold inI; omega) W
  have S1 : Hid (∀ W, Calls Tryd.prog 18 #[.int .i64 9218868437227405312] W fun e w' => e = .returned (.string ⟨(showT 9218868437227405312).toArray⟩) ∧ W = w') := fun W => refShow_any (by unfold inI; omega) W
  have S2 : Hid (∀ W, Calls Tryd.prog 18 #[.int .i64 (-4503599627370496)] W fun e w' => e = .returned (.string ⟨(showT (-4503599627370496)).toArray⟩) ∧ W = w') := fun W => refShow_any (by unfold inI; omega) W
  have S3 : Hid (∀ W, Calls Tryd.prog 18 #[.int .i64 0] W fun e w' => e = .returned (.string ⟨(showT 0).toArray⟩) ∧ W = w') := fun W => refShow_any (by unfold inI; omega) W
  have S4 : Hid (∀ W, Calls Tryd.prog 18 #[.int .i64 (-9223372036854775808)] W fun e w' => e = .returned (.string ⟨(showT (-9223372036854775808)).toArray⟩) ∧ W = w') := fun W => refShow_any (by unfold inI; omega) W
  have HE := hid hE
  obtain ⟨l, hll⟩ : ∃ l, s.data.toList.drop 1 = l := ⟨_, rfl⟩
  have hlen : l.length = 16 := by rw [← hll, List.length_drop]; have := Lib.size_eq s; omega
  rw [hll] at HE
  have HLEN := hid hlen
  have HLL := hid hll
  clear hT hE hlen hll
  go_enter Tryd.func22, Tryd.ntmps22
  go_wp2
  go_loop [5] (fun vi => NInv vi) (fun vi => 5 - (intOf vi).toNat)
  case atStart => exact ⟨0, by omega, rfl⟩
  case round =>
    obtain ⟨k, hk, rfl⟩ := hrel
    by_cases h5 : k = 5
    · subst h5
      clear T0 T1 T2 T3 T4 S0 S1 S2 S3 S4
      go_wp2
      go_loopw [6, 7] (fun vu vi wr => OInv l (w.alloc (.cells #[.int .i64 9221120237041090560, .int .i64 9218868437227405312, .int .i64 (-4503599627370496), .int .i64 0, .int .i64 (-9223372036854775808)] 3)) vu vi wr) (fun _ vi _ => 17 - (intOf vi).toNat)
      case atStart => exact ⟨0, 0, 0, by omega, rfl, rfl, by simp [valB], rfl⟩
      case round =>
        obtain ⟨k, u0, m, hk, rfl, rfl, hu0, rfl⟩ := hrel
        by_cases hlt : k < 16
        · have HU0 := hid hu0
          clear hu0
          have hsc : (s[k + 1]'(by omega)).toNat = (l.getD k 0).toNat := by
            rw [← HLL.out, List.getD_eq_getElem?_getD, List.getElem?_drop, Nat.add_comm 1 k, List.getElem?_eq_getElem (by have := Lib.size_eq s; omega), Option.getD_some]
            rfl
          have hc256 := (l.getD k 0).toNat_lt
          obtain ⟨c, hc⟩ : ∃ c, (l.getD k 0).toNat = c := ⟨_, rfl⟩
          rw [hc] at hsc hc256
          have HC := hid hc
          clear hc
          go_wp2
          go_loopw [6, 8] (fun vu vd' wr => DInv u0 c (16 ^ (15 - k)) (w.alloc (.cells #[.int .i64 9221120237041090560, .int .i64 9218868437227405312, .int .i64 (-4503599627370496), .int .i64 0, .int .i64 (-9223372036854775808)] 3)) vu vd' wr) (fun _ vd' _ => 16 - (intOf vd').toNat)
          case atStart => exact ⟨0, u0, m, by omega, rfl, rfl, by simp, rfl⟩
          case round =>
            obtain ⟨d, u, m2, hd, rfl, rfl, hu, rfl⟩ := hrel
            have HU := hid hu
            clear hu
            by_cases hd16 : d < 16
            · have hdq : ((⟨#[48, 49, 50, 51, 52, 53, 54, 55, 56, 57, 97, 98, 99, 100, 101, 102]⟩ : ByteArray)[d]'(show d < 16 from hd16)).toNat = (dg d).toNat := lit_at d hd16
              obtain ⟨q, hq⟩ : ∃ q, (dg d).toNat = q := ⟨_, rfl⟩
              rw [hq] at hdq
              by_cases heq : dvN c = d
              · have hqc : ((q : Int) == (c : Int)) = true := by
                  have := (dv_dg d hd16 c hc256).2 heq
                  rw [hq] at this
                  simp [this]
                have HEQ := hid heq
                clear heq hq hc256
                go_wp2
                go_quiet (fail)
                go_wp2
                go_roundw
                case rel =>
                  have heq := HEQ.out
                  have hu := HU.out
                  rw [heq, if_neg (Nat.lt_irrefl d), Nat.add_zero] at hu
                  refine ⟨d + 1, u + d * 16 ^ (15 - k), _, by omega, ?_, by go_num, ?_, rfl⟩
                  · rw [hu, HU0.out, shl_in (l.take k) k d hlt (by rw [List.length_take]; omega) hd16]
                  · rw [heq, if_pos (Nat.lt_succ_self d), hu]
                case measure => simp [intOf]; omega
              · have hqc : ((q : Int) == (c : Int)) = false := by
                  have := mt (dv_dg d hd16 c hc256).1 heq
                  rw [hq] at this
                  simpa using fun h => this (by omega)
                have HEQ := hid heq
                clear heq hq hc256
                go_wp2
                go_quiet (fail)
                go_wp2
                go_roundw
                case rel =>
                  refine ⟨d + 1, u, _, by omega, rfl, by go_num, ?_, rfl⟩
                  rw [HU.out]
                  have := HEQ.out
                  by_cases h1 : dvN c < d
                  · rw [if_pos h1, if_pos (by omega)]
                  · rw [if_neg h1, if_neg (by omega)]
                case measure => simp [intOf]; omega
            · obtain rfl : d = 16 := by omega
              have HU2 : Hid (u = valB (l.take (k + 1)) * 16 ^ (16 - (k + 1))) := hid (by
                rw [HU.out, HU0.out, valB_take l k (by rw [HLEN.out]; exact hlt), HC.out, Nat.add_mul, Nat.mul_assoc, show 16 - k = 16 - (k + 1) + 1 by omega, Nat.pow_succ, Nat.mul_comm 16, show 15 - k = 16 - (k + 1) by omega]
                congr 1
                unfold vd
                split <;> simp)
              go_wp2
              go_roundw
              case rel => exact ⟨k + 1, u, _, by omega, rfl, by go_num, HU2.out, rfl⟩
              case measure => simp [intOf]; omega
        · obtain rfl : k = 16 := by omega
          have hu : u0 = valB l := by rw [hu0, List.take_of_length_le (by rw [HLEN.out]; omega)]; simp
          have HSh : Hid (∀ W, Calls Tryd.prog 18 #[.int .i64 (wrap64 u0)] W fun e w' => e = .returned (.string ⟨(showT (wrap64 u0)).toArray⟩) ∧ W = w') := fun W => refShow_any (wrap64_in u0) W
          have HE2 := HE.out
          rw [← hu] at HE2
          obtain ⟨n, hn⟩ : ∃ n, wrap64 (u0 : Int) = n := ⟨_, rfl⟩
          rw [hn] at HSh HE2
          obtain ⟨st, hst⟩ : ∃ st, showT n = st := ⟨_, rfl⟩
          rw [hst] at HSh HE2
          clear HE hu hu0 hst
          by_cases hsame : st = s.toList
          · have hb : (st == s.toList) = true := by simpa using hsame
            have HE3 : Hid (E = .returned (.tuple #[.int .i64 n, .bool true])) := hid (by rw [HE2, if_pos hsame])
            clear HE2 hsame
            go_wp2_with (go_at_call 18; ((with_reducible refine (HSh.out _).mono ?_); rintro e w' ⟨rfl, rfl⟩))
            go_ret2
            rw [HE3.out]
            exact ⟨rfl, below_drewN ((Below.refl _ _).alloc (Nat.le_refl _) _) _⟩
          · have hb : (st == s.toList) = false := by simpa using hsame
            have HE3 : Hid (E = .returned (.tuple #[.int .i64 0, .bool false])) := hid (by rw [HE2, if_neg hsame])
            clear HE2 hsame
            go_wp2_with (go_at_call 18; ((with_reducible refine (HSh.out _).mono ?_); rintro e w' ⟨rfl, rfl⟩))
            go_ret2
            rw [HE3.out]
            exact ⟨rfl, below_drewN ((Below.refl _ _).alloc (Nat.le_refl _) _) _⟩
    · rcases (show k = 0 ∨ k = 1 ∨ k = 2 ∨ k = 3 ∨ k = 4 by omega) with rfl | rfl | rfl | rfl | rfl
      all_goals
        go_wp2_with (first | (go_at_call 18; ((with_reducible refine (S0.out _).mono ?_); rintro e w' ⟨rfl, rfl⟩)) | (go_at_call 18; ((with_reducible refine (S1.out _).mono ?_); rintro e w' ⟨rfl, rfl⟩)) | (go_at_call 18; ((with_reducible refine (S2.out _).mono ?_); rintro e w' ⟨rfl, rfl⟩)) | (go_at_call 18; ((with_reducible refine (S3.out _).mono ?_); rintro e w' ⟨rfl, rfl⟩)) | (go_at_call 18; ((with_reducible refine (S4.out _).mono ?_); rintro e w' ⟨rfl, rfl⟩)))
        go_round
        case rel => first | exact ⟨1, by omega, rfl⟩ | exact ⟨2, by omega, rfl⟩ | exact ⟨3, by omega, rfl⟩ | exact ⟨4, by omega, rfl⟩ | exact ⟨5, by omega, rfl⟩
        case measure => simp [intOf]

end Go.Proofs.YtlfpaipbdlhefaaDoor
