/- Rows of bytes that a call owns, and appending to them; val.appendInt and val.appendText. Conditions: rows of at most a million bytes. -/
import Derived.Test.YtfcnobcpnhfgmaaDoorVA
import Derived.OwnWalk
import Derived.Deep.AppendLies
namespace Go.Proofs.YtfcnobcpnhfgmaaDoor
open Go.RowKit

theorem xor_sign64 {n : Int} (h : inI n) : bits .xor .u64 (IntKind.u64.wrap n) 9223372036854775808 = (upI n : Int) := by
  unfold inI at h
  rw [IntKind.wrap_u64, u64_xor _ _ (by omega) (by omega) (by omega) (by omega)]
  unfold upI
  rw [show (9223372036854775808 : Int).toNat = 2 ^ 63 from rfl]
  by_cases hn : n < 0
  · obtain ⟨r, hr⟩ : ∃ r : Nat, n + 9223372036854775808 = r := ⟨(n + 9223372036854775808).toNat, by omega⟩
    have e : (n % 18446744073709551616).toNat = r ^^^ 2 ^ 63 := by rw [xor_top r (by omega)]; omega
    rw [e, Nat.xor_assoc, Nat.xor_self, Nat.xor_zero]
    omega
  · rw [xor_top _ (by omega)]
    omega

set_option maxHeartbeats 1000000 in
theorem appendInt_any {n : Int} (hn : inI n) (B : Nat) (v : Value) (l : List UInt8) (hl : l.length ≤ 1000) (w : World) (hown : Row w B v l) (hB : B ≤ w.heap.size) :
    Calls Tryd.prog 95 #[v, .int .i64 n] w fun e w' => ∃ v', e = .returned v' ∧ Row w' B v' (l ++ byW 8 (upI n)) ∧ Below B w w' := by
  have hx := xor_sign64 hn
  have hlt := upI_lt hn
  obtain ⟨u, hu⟩ : ∃ u, upI n = u := ⟨_, rfl⟩
  rw [hu] at hx ⊢
  obtain ⟨U, hU⟩ : ∃ U : Int, (u : Int) = U := ⟨_, rfl⟩
  rw [hU] at hx
  have HU := hid hU
  clear hu hn hU hlt
  go_enter Tryd.func95, Tryd.ntmps95
  go_wp2
  clear hx
  go_loopw [0, 10] (fun vb vi wr => ∃ i : Int, 0 ≤ i ∧ i ≤ 8 ∧ vi = .int .i64 i ∧ Row wr B vb (l ++ (byW 8 u).take i.toNat) ∧ Below B w wr) (fun _ vi _ => 8 - (intOf vi).toNat)
  case atStart => exact ⟨0, by omega, by omega, rfl, by simpa using hown, Below.refl _ _⟩
  case round =>
    obtain ⟨i, h0, hi, rfl, hR, hbel⟩ := hrel
    by_cases h8 : i < 8
    · have HR := hid hR
      have HC : Hid (U / 2 ^ (8 * (7 - i)).toNat % 256 = ((UInt8.ofNat (u / 256 ^ (8 - 1 - i.toNat) % 256)).toNat : Int)) := by
        rw [← HU.out, show (8 * (7 - i)).toNat = 8 * (8 - 1 - i.toNat) by omega]
        exact byte_at u _
      have HL : Hid ((l ++ (byW 8 u).take i.toNat).length ≤ 1008) := by
        unfold Hid
        rw [List.length_append, List.length_take, byW_len]
        omega
      have HN : Hid (l ++ (byW 8 u).take (i.toNat + 1) = l ++ (byW 8 u).take i.toNat ++ [UInt8.ofNat (u / 256 ^ (8 - 1 - i.toNat) % 256)]) := by
        unfold Hid
        rw [byW_take 8 u i.toNat (by omega), List.append_assoc]
      clear hR
      go_wp2_with (at_builtin; refine wpList_append_bytes rfl _ _ rfl _ B _ _ rfl (HR.out.alloc _) ⟨wr.heap.size, 0, none⟩ 1 1 [UInt8.ofNat (u / 256 ^ (8 - 1 - i.toNat) % 256)] rfl rfl (one_new' _ _ _ _ HC.out) (by have := HL.out; simp only [List.length_cons, List.length_nil]; omega) (by have := hbel.size; simp; omega) ?_; intro v' w' hR' hb')
      go_roundw
      case rel =>
        refine ⟨i + 1, by omega, by omega, rfl, ?_, (hbel.alloc (by have := hbel.size; omega) _).trans hb'⟩
        rw [show (i + 1).toNat = i.toNat + 1 by omega, HN.out]
        exact hR'
      case measure => simp [intOf]; omega
    · obtain rfl : i = 8 := by omega
      have HR := hid hR
      clear hR
      go_wp2
      go_ret
      refine ⟨_, rfl, ?_, hbel⟩
      have := HR.out
      rwa [show (8 : Int).toNat = 8 from rfl, List.take_of_length_le (by rw [byW_len]; omega)] at this

end Go.Proofs.YtfcnobcpnhfgmaaDoor
