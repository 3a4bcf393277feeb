/- Several texts in one: FT RG RA RH. Conditions: as each theorem names them. -/
import Derived.Test.YtfcnobcpnhfgmaaGreatDoorQF
import Derived.Test.YtfcnobcpnhfgmaaGreatDoorQ2
/- The document's Bytes and Show (package joistref01), for every int; and the law FloatAsks. Conditions: ints of 64 bits; the table of math/bits reads as it is laid. -/
namespace Go.Proofs.YtfcnobcpnhfgmaaGreatDoor
open Go.RowKit

set_option maxHeartbeats 400000 in
theorem refBytes_no {n : Int} (hr : rightB n = false) (w : World) :
    Calls Tryz.prog 107 #[.int .i64 n] w fun e w' => e = .returned (.slice none 0 0) ∧ w = w' := by
  go_enter Tryz.func107, Tryz.ntmps107
  go_wp2_with (go_at_call 146; refine (refRight_any _ _).mono ?_; rintro e w' ⟨rfl, rfl⟩)
  go_ret
  exact ⟨rfl, rfl⟩

def RInv (r b : Nat) (w0 : World) (vu vi : Value) (wr : World) : Prop :=
  ∃ (j u : Nat) (i : Int) (xs : Array Value), j ≤ 8 ∧ i = 7 - j ∧ u = r / 256 ^ j ∧ vu = .int .u64 u ∧ vi = .int .i64 i ∧ Blk wr b 5 xs ∧ xs.size = 8 ∧ xs.toList.drop (8 - j) = bc (byW j r) ∧ Below b w0 wr

theorem byte_of (r j : Nat) : (((r / 256 ^ j : Nat) : Int) % 256) = ((UInt8.ofNat (r / 256 ^ j % 256)).toNat : Int) := by
  rw [UInt8.toNat_ofNat']
  have : r / 256 ^ j % 256 % 2 ^ 8 = r / 256 ^ j % 256 := Nat.mod_eq_of_lt (by omega)
  rw [this, Int.natCast_emod]
  rfl

set_option maxHeartbeats 1000000 in
theorem refBytes_core {n : Int} (hr : rightB n = true) (r : Nat) (hr64 : r < 18446744073709551616)
    (hsel : (n < 0 ∧ bits .xor .u64 IntKind.u64.max (IntKind.u64.wrap n) = (r : Int)) ∨ (¬ n < 0 ∧ IntKind.u64.wrap (IntKind.u64.wrap n + 9223372036854775808) = (r : Int))) (w : World) :
    Calls Tryz.prog 107 #[.int .i64 n] w fun e w' => e = .returned (.slice (some ⟨w.heap.size, 0, none⟩) 8 8) ∧ Blk w' w.heap.size 5 (bc (byW 8 r)).toArray ∧ Below w.heap.size w w' := by
  have hmk : ∀ W, (Instr.makeSlice 30 (.int .i64 8) (.int .i64 8)).run Tryz.prog W = .ok (.slice (some ⟨W.heap.size, 0, none⟩) 8 8) (W.alloc (.cells #[.int .u8 0, .int .u8 0, .int .u8 0, .int .u8 0, .int .u8 0, .int .u8 0, .int .u8 0, .int .u8 0] 5)) := fun _ => by kernel_rfl
  have HRt : Hid (∀ W, Calls Tryz.prog 146 #[.int .i64 n] W fun e w' => e = .returned (.bool true) ∧ W = w') := fun W => by rw [← hr]; exact refRight_any n W
  have HR := hid hr64
  clear hr64 hr
  rcases hsel with ⟨hn, hx⟩ | ⟨hn, hx⟩ <;>
  · go_enter Tryz.func107, Tryz.ntmps107
    go_wp2_with (go_at_call 146; refine (HRt.out _).mono ?_; rintro e w' ⟨rfl, rfl⟩)
    go_loopw [3, 5] (fun vu vi wr => RInv r w.heap.size w vu vi wr) (fun _ vi _ => (intOf vi + 1).toNat)
    case atStart => exact ⟨0, r, 7, _, by omega, rfl, by simp, rfl, rfl, Blk.new _ _ _, rfl, rfl, (Below.refl _ _).alloc (Nat.le_refl _) _⟩
    case round =>
      obtain ⟨j, u, i, xs, hj, hi, hu, rfl, rfl, hB, hs, hdrop, hbel⟩ := hrel
      clear hmk hn hx
      have hu64 : u < 18446744073709551616 := by rw [hu]; exact Nat.lt_of_le_of_lt (Nat.div_le_self _ _) HR.out
      have HB := hid hB
      have HS := hid hs
      have HD := hid hdrop
      have HU := hid hu
      by_cases hlt : j < 8
      · obtain ⟨k, rfl⟩ : ∃ k : Nat, i = k := ⟨7 - j, by omega⟩
        have hk : k ≤ 7 := by omega
        have HJ : Hid (k + j = 7) := hid (by omega)
        obtain ⟨v0, hcell⟩ : ∃ v, wr.cell? ⟨w.heap.size, k, none⟩ = some v := ⟨xs[k]'(by omega), by rw [hB.cell, Array.getElem?_eq_getElem]⟩
        have hfree := hB.free k
        clear hB hs hdrop hu hi hlt
        go_wp2
        go_roundw
        case rel =>
          have hjk := HJ.out
          refine ⟨j + 1, u / 256, (k : Int) - 1, xs.setIfInBounds k (Value.int .u8 ((UInt8.ofNat (r / 256 ^ j % 256)).toNat : Int)), by omega, by omega, ?_, by go_num, rfl, ?_, by rw [Array.size_setIfInBounds]; exact HS.out, ?_, hbel.setCell (Nat.le_refl _) _⟩
          · rw [HU.out, Nat.div_div_eq_div_mul, Nat.pow_succ]
          · rw [← byte_of, ← HU.out]
            exact HB.out.set k _
          · rw [show 8 - (j + 1) = k by omega]
            exact drop_set8 HS.out hk (by rw [show k + 1 = 8 - j by omega]; exact HD.out)
        case measure => simp [intOf]
      · obtain rfl : j = 8 := by omega
        obtain rfl : i = -1 := by omega
        have HD2 : Hid (Blk wr w.heap.size 5 (bc (byW 8 r)).toArray) := by
          have e : xs.toList = bc (byW 8 r) := hdrop
          rw [← e]
          exact hB
        clear hB hs hdrop hu
        go_wp2
        go_ret
        exact ⟨rfl, HD2.out, hbel⟩

theorem refBytes_yes {n : Int} (h : inI n) (hr : rightB n = true) (w : World) :
    Calls Tryz.prog 107 #[.int .i64 n] w fun e w' => e = .returned (.slice (some ⟨w.heap.size, 0, none⟩) 8 8) ∧ Blk w' w.heap.size 5 (bc (byW 8 (rankI n).toNat)).toArray ∧ Below w.heap.size w w' := by
  obtain ⟨r0, r1⟩ := rank_in h
  refine refBytes_core hr (rankI n).toNat (by omega) ?_ w
  rw [Int.toNat_of_nonneg r0]
  by_cases hn : n < 0
  · exact Or.inl ⟨hn, turned h hn⟩
  · refine Or.inr ⟨hn, ?_⟩
    rw [IntKind.wrap_u64, IntKind.wrap_u64]
    unfold rankI inI at *
    rw [if_neg hn]
    omega

end Go.Proofs.YtfcnobcpnhfgmaaGreatDoor

/- The document's Eight, for every number of 64 bits. Conditions: none. -/
namespace Go.Proofs.YtfcnobcpnhfgmaaGreatDoor
open Go.RowKit

set_option maxHeartbeats 1000000 in
theorem eight_any (r : Nat) (hr64 : r < 18446744073709551616) (w : World) :
    Calls Tryz.prog 68 #[.int .u64 (r : Int)] w fun e w' => e = .returned (.slice (some ⟨w.heap.size, 0, none⟩) 8 8) ∧ Blk w' w.heap.size 5 (bc (byW 8 r)).toArray ∧ Below w.heap.size w w' := by
  have hmk : ∀ W, (Instr.makeSlice 30 (.int .i64 8) (.int .i64 8)).run Tryz.prog W = .ok (.slice (some ⟨W.heap.size, 0, none⟩) 8 8) (W.alloc (.cells #[.int .u8 0, .int .u8 0, .int .u8 0, .int .u8 0, .int .u8 0, .int .u8 0, .int .u8 0, .int .u8 0] 5)) := fun _ => by kernel_rfl
  have HR := hid hr64
  clear hr64
  go_enter Tryz.func68, Tryz.ntmps68
  go_wp2
  go_loopw [0, 4] (fun vu vi wr => RInv r w.heap.size w vu vi wr) (fun _ vi _ => (intOf vi + 1).toNat)
  case atStart => exact ⟨0, r, 7, _, by omega, rfl, by simp, rfl, rfl, Blk.new _ _ _, rfl, rfl, (Below.refl _ _).alloc (Nat.le_refl _) _⟩
  case round =>
    obtain ⟨j, u, i, xs, hj, hi, hu, rfl, rfl, hB, hs, hdrop, hbel⟩ := hrel
    clear hmk
    have hu64 : u < 18446744073709551616 := by rw [hu]; exact Nat.lt_of_le_of_lt (Nat.div_le_self _ _) HR.out
    have HB := hid hB
    have HS := hid hs
    have HD := hid hdrop
    have HU := hid hu
    by_cases hlt : j < 8
    · obtain ⟨k, rfl⟩ : ∃ k : Nat, i = k := ⟨7 - j, by omega⟩
      have hk : k ≤ 7 := by omega
      have HJ : Hid (k + j = 7) := hid (by omega)
      obtain ⟨v0, hcell⟩ : ∃ v, wr.cell? ⟨w.heap.size, k, none⟩ = some v := ⟨xs[k]'(by omega), by rw [hB.cell, Array.getElem?_eq_getElem]⟩
      have hfree := hB.free k
      clear hB hs hdrop hu hi hlt
      go_wp2
      go_roundw
      case rel =>
        have hjk := HJ.out
        refine ⟨j + 1, u / 256, (k : Int) - 1, xs.setIfInBounds k (Value.int .u8 ((UInt8.ofNat (r / 256 ^ j % 256)).toNat : Int)), by omega, by omega, ?_, by go_num, rfl, ?_, by rw [Array.size_setIfInBounds]; exact HS.out, ?_, hbel.setCell (Nat.le_refl _) _⟩
        · rw [HU.out, Nat.div_div_eq_div_mul, Nat.pow_succ]
        · rw [← byte_of, ← HU.out]
          exact HB.out.set k _
        · rw [show 8 - (j + 1) = k by omega]
          exact drop_set8 HS.out hk (by rw [show k + 1 = 8 - j by omega]; exact HD.out)
      case measure => simp [intOf]
    · obtain rfl : j = 8 := by omega
      obtain rfl : i = -1 := by omega
      have HD2 : Hid (Blk wr w.heap.size 5 (bc (byW 8 r)).toArray) := by
        have e : xs.toList = bc (byW 8 r) := hdrop
        rw [← e]
        exact hB
      clear hB hs hdrop hu
      go_wp2
      go_ret
      exact ⟨rfl, HD2.out, hbel⟩


end Go.Proofs.YtfcnobcpnhfgmaaGreatDoor

/- The document's Escaped, for every text of at most a thousand bytes. Conditions: the length alone. -/
namespace Go.Proofs.YtfcnobcpnhfgmaaGreatDoor
open Go.RowKit

theorem Row.nil_new (w : World) (B : Nat) (hB : B ≤ w.heap.size) : Row (w.alloc (.cells #[] 5)) B (.slice (some ⟨w.heap.size, 0, Option.none⟩) 0 0) [] := by
  have h := Row.new w B hB [] (by simp)
  simpa [bc] using h

set_option maxHeartbeats 2000000 in
theorem refEscaped_B (s : ByteArray) (hs : s.size ≤ 4000) (w : World) (B : Nat) (HBw : Hid (w.heap.size = B)) :
    Calls Tryz.prog 105 #[.string s] w fun e w' => ∃ v', e = .returned v' ∧ Row w' B v' (esc s.data.toList ++ [0, 1]) ∧ Below B w w' := by
  have HN := hid (Row.nil_new w B (by rw [HBw.out]; exact Nat.le_refl _))
  have HB0 : Hid (∀ o, Below B w (w.alloc o)) := fun o => by
    have := below_new w o
    rwa [HBw.out] at this
  go_enter Tryz.func105, Tryz.ntmps105
  go_wp2
  go_loopw [3, 4] (fun vb vi wr => ∃ k : Nat, k ≤ s.size ∧ vi = .int .i64 k ∧ Row wr B vb (esc (s.data.toList.take k)) ∧ Below B w wr) (fun _ vi _ => s.size - (intOf vi).toNat)
  case atStart => exact ⟨0, by omega, rfl, by simpa [esc] using HN.out, HB0.out _⟩
  case round =>
    obtain ⟨k, hk, rfl, hR, hbel⟩ := hrel
    have HR := hid hR
    have HL : Hid ((esc (s.data.toList.take k)).length ≤ 12000) := by
      have := esc_take_len s k hk
      unfold Hid
      omega
    have hBs : B ≤ wr.heap.size := by have := hbel.size; have := HBw.out; omega
    by_cases hlt : k < s.size
    · have HS := hid (esc_snoc s k hlt)
      clear hR
      go_wp2_with (first | (at_builtin; refine wpList_append_bytes rfl (.tmp 12) (.tmp 16) rfl _ B _ _ rfl (HR.out.alloc _) ⟨wr.heap.size, 0, none⟩ 1 1 [s[k]] rfl rfl (one_new' _ _ _ _ rfl) (by have := HL.out; simp only [List.length_cons, List.length_nil]; omega) (by simp; omega) ?_; intro v1 w1 hR1 hb1) | (at_builtin; refine wpList_append_bytes rfl (.tmp 22) (.tmp 23) rfl _ B _ _ rfl (hR1.alloc _) ⟨w1.heap.size, 0, none⟩ 1 1 [255] rfl rfl (one_new' _ _ _ _ rfl) (by have := HL.out; simp only [List.length_append, List.length_cons, List.length_nil] at this ⊢; omega) (by have := hb1.size; simp at this ⊢; omega) ?_; intro v2 w2 hR2 hb2))
      · have hz : s[k] = 0 := by
          have h : ((s[k].toNat : Int) == 0) = true := by assumption
          have : s[k].toNat = 0 := by simpa using h
          exact UInt8.toNat_inj.1 this
        go_roundw
        case rel =>
          refine ⟨k + 1, by omega, by go_num, ?_, ((hbel.alloc (by omega) _).trans hb1).trans ((below_new _ _).mono (by have := hb1.size; simp at this ⊢; omega) |>.trans hb2)⟩
          rw [HS.out, if_pos hz]
          have := hR2
          rw [List.append_assoc] at this
          simpa using this
        case measure => simp [intOf]; omega
      · have hz : ¬ s[k] = 0 := by
          have h : ((s[k].toNat : Int) == 0) = false := by assumption
          intro he
          rw [he] at h
          cases h
        go_roundw
        case rel =>
          refine ⟨k + 1, by omega, by go_num, ?_, (hbel.alloc (by omega) _).trans hb1⟩
          rw [HS.out, if_neg hz]
          exact hR1
        case measure => simp [intOf]; omega
    · obtain rfl : k = s.size := by omega
      clear hR
      go_wp2_with (at_builtin; refine wpList_append_bytes rfl (.tmp 25) (.tmp 26) rfl _ B _ _ rfl (HR.out.alloc _) ⟨wr.heap.size, 0, none⟩ 2 2 [0, 1] rfl rfl (two_new _ _ _ _ _ _ rfl rfl) (by have := HL.out; simp only [List.length_cons, List.length_nil]; omega) (by simp; omega) ?_; intro v1 w1 hR1 hb1)
      go_ret
      refine ⟨_, rfl, ?_, (hbel.alloc (by omega) _).trans hb1⟩
      have := hR1
      rwa [List.take_of_length_le (by simp)] at this

theorem refEscaped_any (s : ByteArray) (hs : s.size ≤ 4000) (w : World) :
    Calls Tryz.prog 105 #[.string s] w fun e w' => ∃ v', e = .returned v' ∧ Row w' w.heap.size v' (esc s.data.toList ++ [0, 1]) ∧ Below w.heap.size w w' :=
  refEscaped_B s hs w w.heap.size (hid rfl)

end Go.Proofs.YtfcnobcpnhfgmaaGreatDoor

/- The document's Encode, for every value with a text of at most a thousand bytes. Conditions: the number is of 64 bits. -/
namespace Go.Proofs.YtfcnobcpnhfgmaaGreatDoor
open Go.RowKit

set_option maxHeartbeats 1000000 in
theorem refEncode_no (k n : Int) (s : ByteArray) (hs : s.size ≤ 4000) (hr : vRight k n s.data.toList = false) (w : World) :
    Calls Tryz.prog 47 #[.agg #[.int .i64 k, .int .i64 n, .string s]] w fun e w' => e = .returned (.tuple #[.slice none 0 0, .bool false]) ∧ Below w.heap.size w w' := by
  have HV : Hid (∀ W, Below w.heap.size w W → Calls Tryz.prog 106 #[.agg #[.int .i64 k, .int .i64 n, .string s]] W fun e w' => e = .returned (.bool false) ∧ Below w.heap.size w w' ∧ Below W.heap.size W w') := fun W hW => by rw [← hr]; exact (refright_any k n s W hs).mono fun _ _ ⟨he, hb⟩ => ⟨he, hW.trans (hb.mono hW.size), hb⟩
  have HB := hid (below_new w)
  clear hr hs
  go_enter Tryz.func47, Tryz.ntmps47
  go_wp2_with (go_at_call 106; refine (HV.out _ (HB.out _)).mono ?_; rintro e w1 ⟨rfl, hb1, hb2⟩)
  go_ret2
  exact ⟨rfl, hb1⟩
theorem up_wrap {n : Int} (h : inI n) : IntKind.u64.wrap (IntKind.u64.wrap n + 9223372036854775808) = (upI n : Int) := by
  rw [IntKind.wrap_u64, IntKind.wrap_u64]
  unfold upI inI at *
  omega

set_option maxHeartbeats 1000000 in
theorem refEncode_1 {n : Int} (hn : inI n) (s : ByteArray) (hs : s.size ≤ 4000) (hr : vRight 1 n s.data.toList = true) (w : World) :
    Calls Tryz.prog 47 #[.agg #[.int .i64 1, .int .i64 n, .string s]] w fun e w' => ∃ v, e = .returned (.tuple #[v, .bool true]) ∧ Row w' w.heap.size v (vEnc 1 n s.data.toList) ∧ Below w.heap.size w w' := by
  have HV : Hid (∀ W, Below w.heap.size w W → Calls Tryz.prog 106 #[.agg #[.int .i64 1, .int .i64 n, .string s]] W fun e w' => e = .returned (.bool true) ∧ Below w.heap.size w w' ∧ Below W.heap.size W w') := fun W hW => by rw [← hr]; exact (refright_any 1 n s W hs).mono fun _ _ ⟨he, hb⟩ => ⟨he, hW.trans (hb.mono hW.size), hb⟩
  have HB := hid (below_new w)
  have HK : Hid (∀ W : World, w.heap.size ≤ W.heap.size → Row (W.alloc (.cells #[.int .u8 1] 5)) w.heap.size (.slice (some ⟨W.heap.size, 0, none⟩) 1 1) [1]) := fun W hW => kind_row W w.heap.size hW 1 (by decide)
  have HF : Hid (∀ (W : World) (b : Nat), W.heap.size = b → Calls Tryz.prog 68 #[.int .u64 (upI n : Int)] W fun e w' => e = .returned (.slice (some ⟨b, 0, none⟩) 8 8) ∧ (∀ j u, (bc (byW 8 (upI n)))[j]? = some u → w'.cell? ((⟨b, 0, none⟩ : Addr).add j) = some u) ∧ Below W.heap.size W w') := fun W b hb => by
    subst hb
    exact (eight_any (upI n) (upI_lt hn) W).mono fun e w' ⟨he, hB, hb⟩ => ⟨he, blk_cells hB, hb⟩
  have hx := up_wrap hn
  obtain ⟨u, hu⟩ : ∃ u : Nat, upI n = u := ⟨_, rfl⟩
  have HE : Hid (vEnc 1 n s.data.toList = [1] ++ byW 8 u) := by rw [← hu]; rfl
  rw [hu] at HF hx
  obtain ⟨l, hl⟩ : ∃ l, byW 8 u = l := ⟨_, rfl⟩
  have HL : Hid (l.length = 8) := by rw [← hl]; exact byW_len _ _
  rw [hl] at HF HE
  clear hr hn hs hu hl
  go_enter Tryz.func47, Tryz.ntmps47
  go_wp2_with (first | (go_at_call 106; refine (HV.out _ (HB.out _)).mono ?_; rintro e w1 ⟨rfl, hb1, hb2⟩; obtain ⟨hc, hf⟩ := bcell hb2; have hz : w.heap.size < w1.heap.size := (by have := hb2.size; simp at this; omega)) | (go_at_call 68; refine (HF.out _ (w1.heap.size + 1) (by simp)).mono ?_; rintro e w2 ⟨rfl, hBk, hb3⟩; have hR1 : Row w2 w.heap.size (.slice (some ⟨w1.heap.size, 0, none⟩) 1 1) [1] := ((HK.out w1 hb1.size).keep hb3 (fun g hg => by simp [Value.ownBlock] at hg; simp; omega)); have hs2 : w.heap.size ≤ w2.heap.size := (by have := hb3.size; have := hb1.size; simp at *; omega); have HBk := hid hBk; clear hBk) | (at_builtin; refine wpList_append_bytes rfl (.tmp 16) (.tmp 21) rfl _ w.heap.size (.slice (some ⟨w1.heap.size, 0, none⟩) 1 1) [1] rfl hR1 ⟨w1.heap.size + 1, 0, none⟩ 8 8 l HL.out rfl HBk.out (by have := HL.out; simp only [List.length_cons, List.length_nil]; omega) hs2 ?_; intro v2 w2' hR2 hb4))
  go_ret2
  refine ⟨_, rfl, ?_, ?_⟩
  · rw [HE.out]; exact hR2
  · exact hb1.trans ((((Below.refl _ _).alloc hb1.size _).trans (hb3.mono (by simp; omega))).trans hb4)

set_option maxHeartbeats 1000000 in
theorem refEncode_5 {n : Int} (hn : inI n) (s : ByteArray) (hs : s.size ≤ 4000) (hr : vRight 5 n s.data.toList = true) (w : World) :
    Calls Tryz.prog 47 #[.agg #[.int .i64 5, .int .i64 n, .string s]] w fun e w' => ∃ v, e = .returned (.tuple #[v, .bool true]) ∧ Row w' w.heap.size v (vEnc 5 n s.data.toList) ∧ Below w.heap.size w w' := by
  have HV : Hid (∀ W, Below w.heap.size w W → Calls Tryz.prog 106 #[.agg #[.int .i64 5, .int .i64 n, .string s]] W fun e w' => e = .returned (.bool true) ∧ Below w.heap.size w w' ∧ Below W.heap.size W w') := fun W hW => by rw [← hr]; exact (refright_any 5 n s W hs).mono fun _ _ ⟨he, hb⟩ => ⟨he, hW.trans (hb.mono hW.size), hb⟩
  have HB := hid (below_new w)
  have HK : Hid (∀ W : World, w.heap.size ≤ W.heap.size → Row (W.alloc (.cells #[.int .u8 5] 5)) w.heap.size (.slice (some ⟨W.heap.size, 0, none⟩) 1 1) [5]) := fun W hW => kind_row W w.heap.size hW 5 (by decide)
  have hrb : rightB n = true := by
    simp [vRight] at hr
    exact hr.2
  have HF : Hid (∀ (W : World) (b : Nat), W.heap.size = b → Calls Tryz.prog 107 #[.int .i64 n] W fun e w' => e = .returned (.slice (some ⟨b, 0, none⟩) 8 8) ∧ (∀ j u, (bc (byW 8 (rankI n).toNat))[j]? = some u → w'.cell? ((⟨b, 0, none⟩ : Addr).add j) = some u) ∧ Below W.heap.size W w') := fun W b hb => by
    subst hb
    exact (refBytes_yes hn hrb W).mono fun e w' ⟨he, hB, hb⟩ => ⟨he, blk_cells hB, hb⟩
  obtain ⟨l, hl⟩ : ∃ l, byW 8 (rankI n).toNat = l := ⟨_, rfl⟩
  have HL : Hid (l.length = 8) := by rw [← hl]; exact byW_len _ _
  have HE : Hid (vEnc 5 n s.data.toList = [5] ++ l) := by rw [← hl]; rfl
  rw [hl] at HF
  clear hr hn hs hrb hl
  go_enter Tryz.func47, Tryz.ntmps47
  go_wp2_with (first | (go_at_call 106; refine (HV.out _ (HB.out _)).mono ?_; rintro e w1 ⟨rfl, hb1, hb2⟩; obtain ⟨hc, hf⟩ := bcell hb2; have hz : w.heap.size < w1.heap.size := (by have := hb2.size; simp at this; omega)) | (go_at_call 107; refine (HF.out _ (w1.heap.size + 1) (by simp)).mono ?_; rintro e w2 ⟨rfl, hBk, hb3⟩; have hR1 : Row w2 w.heap.size (.slice (some ⟨w1.heap.size, 0, none⟩) 1 1) [5] := ((HK.out w1 hb1.size).keep hb3 (fun g hg => by simp [Value.ownBlock] at hg; simp; omega)); have hs2 : w.heap.size ≤ w2.heap.size := (by have := hb3.size; have := hb1.size; simp at *; omega); have HBk := hid hBk; clear hBk) | (at_builtin; refine wpList_append_bytes rfl (.tmp 25) (.tmp 28) rfl _ w.heap.size (.slice (some ⟨w1.heap.size, 0, none⟩) 1 1) [5] rfl hR1 ⟨w1.heap.size + 1, 0, none⟩ 8 8 l HL.out rfl HBk.out (by have := HL.out; simp only [List.length_cons, List.length_nil]; omega) hs2 ?_; intro v2 w2' hR2 hb4))
  go_ret2
  refine ⟨_, rfl, ?_, ?_⟩
  · rw [HE.out]; exact hR2
  · exact hb1.trans ((((Below.refl _ _).alloc hb1.size _).trans (hb3.mono (by simp; omega))).trans hb4)

set_option maxHeartbeats 1000000 in
theorem refEncode_4 {n : Int} (_hn : inI n) (s : ByteArray) (hs : s.size ≤ 4000) (hr : vRight 4 n s.data.toList = true) (w : World) :
    Calls Tryz.prog 47 #[.agg #[.int .i64 4, .int .i64 n, .string s]] w fun e w' => ∃ v, e = .returned (.tuple #[v, .bool true]) ∧ Row w' w.heap.size v (vEnc 4 n s.data.toList) ∧ Below w.heap.size w w' := by
  have HV : Hid (∀ W, Below w.heap.size w W → Calls Tryz.prog 106 #[.agg #[.int .i64 4, .int .i64 n, .string s]] W fun e w' => e = .returned (.bool true) ∧ Below w.heap.size w w' ∧ Below W.heap.size W w') := fun W hW => by rw [← hr]; exact (refright_any 4 n s W hs).mono fun _ _ ⟨he, hb⟩ => ⟨he, hW.trans (hb.mono hW.size), hb⟩
  have HB := hid (below_new w)
  have HK : Hid (∀ W : World, w.heap.size ≤ W.heap.size → Row (W.alloc (.cells #[.int .u8 4] 5)) w.heap.size (.slice (some ⟨W.heap.size, 0, none⟩) 1 1) [4]) := fun W hW => kind_row W w.heap.size hW 4 (by decide)
  have h01 : n = 0 ∨ n = 1 := by
    simp [vRight] at hr
    exact hr.2
  have HN : Hid (n % 256 = ((UInt8.ofNat n.toNat).toNat : Int)) := by
    unfold Hid
    rcases h01 with rfl | rfl <;> decide
  have HC : Hid (∀ (W : World) (o : Obj), ∀ j u, (bc [UInt8.ofNat n.toNat])[j]? = some u → ((W.alloc o).alloc (.cells #[.int .u8 (n % 256)] 5)).cell? ((⟨W.heap.size + 1, 0, none⟩ : Addr).add j) = some u) := fun W o => by
    have h1 := one_new' (W.alloc o) (UInt8.ofNat n.toNat) 5 _ HN.out
    have h2 : (W.alloc o).heap.size = W.heap.size + 1 := by simp
    rw [h2] at h1
    exact h1
  clear hr hs h01 HN
  go_enter Tryz.func47, Tryz.ntmps47
  go_wp2_with (first | (go_at_call 106; refine (HV.out _ (HB.out _)).mono ?_; rintro e w1 ⟨rfl, hb1, hb2⟩; obtain ⟨hc, hf⟩ := bcell hb2; have hz : w.heap.size < w1.heap.size := (by have := hb2.size; simp at this; omega)) | (at_builtin; refine wpList_append_bytes rfl (.tmp 32) (.tmp 36) rfl _ w.heap.size _ _ rfl ((HK.out _ hb1.size).alloc _) ⟨w1.heap.size + 1, 0, none⟩ 1 1 [UInt8.ofNat n.toNat] rfl rfl (HC.out _ _) (by simp) (by have := hb1.size; simp; omega) ?_; intro v2 w2 hR2 hb3))
  go_ret2
  exact ⟨_, rfl, hR2, hb1.trans ((((Below.refl _ _).alloc hb1.size _).alloc (by have := hb1.size; simp; omega) _).trans hb3)⟩

set_option maxHeartbeats 1000000 in
theorem refEncode_2 {n : Int} (_hn : inI n) (s : ByteArray) (hs : s.size ≤ 4000) (hr : vRight 2 n s.data.toList = true) (w : World) :
    Calls Tryz.prog 47 #[.agg #[.int .i64 2, .int .i64 n, .string s]] w fun e w' => ∃ v, e = .returned (.tuple #[v, .bool true]) ∧ Row w' w.heap.size v (vEnc 2 n s.data.toList) ∧ Below w.heap.size w w' := by
  have HV : Hid (∀ W, Below w.heap.size w W → Calls Tryz.prog 106 #[.agg #[.int .i64 2, .int .i64 n, .string s]] W fun e w' => e = .returned (.bool true) ∧ Below w.heap.size w w' ∧ Below W.heap.size W w') := fun W hW => by rw [← hr]; exact (refright_any 2 n s W hs).mono fun _ _ ⟨he, hb⟩ => ⟨he, hW.trans (hb.mono hW.size), hb⟩
  have HB := hid (below_new w)
  have HK : Hid (∀ W : World, w.heap.size ≤ W.heap.size → Row (W.alloc (.cells #[.int .u8 2] 5)) w.heap.size (.slice (some ⟨W.heap.size, 0, none⟩) 1 1) [2]) := fun W hW => kind_row W w.heap.size hW 2 (by decide)
  have HF : Hid (∀ (W : World), Calls Tryz.prog 105 #[.string s] W fun e w' => ∃ g c, e = .returned (.slice (some ⟨g, 0, none⟩) (esc s.data.toList ++ [0, 1]).length c) ∧ (∀ j u, (bc (esc s.data.toList ++ [0, 1]))[j]? = some u → w'.cell? ((⟨g, 0, none⟩ : Addr).add j) = some u) ∧ Below W.heap.size W w') := fun W =>
    (refEscaped_any s hs W).mono fun e w' ⟨v, he, hR, hb⟩ => by
      obtain ⟨g, c, rfl, _, _, _, h6⟩ := hR.form (by simp)
      refine ⟨g, c, he, fun j u hu => ?_, hb⟩
      have hj : j < (esc s.data.toList ++ [0, 1]).length := by
        rcases Nat.lt_or_ge j (esc s.data.toList ++ [0, 1]).length with h | h
        · exact h
        · rw [List.getElem?_eq_none (by rw [bc_len]; exact h)] at hu; cases hu
      rw [add_zero_off, Nat.zero_add, h6 j hj, ← hu, bc_at, List.getElem?_eq_getElem hj]
      simp [List.getElem?_eq_getElem hj]
  have HE : Hid (vEnc 2 n s.data.toList = [2] ++ (esc s.data.toList ++ [0, 1])) := rfl
  have HLs : Hid ((esc s.data.toList ++ [0, 1]).length ≤ 12000) := by
    have := esc_len s.data.toList
    have h2 : s.data.toList.length = s.size := rfl
    unfold Hid
    simp
    omega
  obtain ⟨l, hl⟩ : ∃ l, esc s.data.toList ++ [0, 1] = l := ⟨_, rfl⟩
  rw [hl] at HF HE HLs
  obtain ⟨m, hm⟩ : ∃ m, l.length = m := ⟨_, rfl⟩
  have HM := hid hm
  rw [hm] at HF HLs
  clear hr hs hl hm
  go_enter Tryz.func47, Tryz.ntmps47
  go_wp2_with (first | (go_at_call 106; refine (HV.out _ (HB.out _)).mono ?_; rintro e w1 ⟨rfl, hb1, hb2⟩; obtain ⟨hc, hf⟩ := bcell hb2; have hz : w.heap.size < w1.heap.size := (by have := hb2.size; simp at this; omega)) | (go_at_call 105; refine (HF.out _).mono ?_; rintro e w2 ⟨g2, q2, rfl, hBk, hb3⟩; have hR1 : Row w2 w.heap.size (.slice (some ⟨w1.heap.size, 0, none⟩) 1 1) [2] := ((HK.out w1 hb1.size).keep hb3 (fun g hg => by simp [Value.ownBlock] at hg; simp; omega)); have hs2 : w.heap.size ≤ w2.heap.size := (by have := hb3.size; have := hb1.size; simp at *; omega); have HBk := hid hBk; clear hBk) | (at_builtin; refine wpList_append_bytes rfl (.tmp 38) (.tmp 41) rfl _ w.heap.size (.slice (some ⟨w1.heap.size, 0, none⟩) 1 1) [2] rfl hR1 ⟨g2, 0, none⟩ m q2 l HM.out rfl HBk.out (by have := HM.out; have := HLs.out; simp only [List.length_cons, List.length_nil]; omega) hs2 ?_; intro v2 w2' hR2 hb4))
  go_ret2
  refine ⟨_, rfl, ?_, ?_⟩
  · rw [HE.out]; exact hR2
  · exact hb1.trans ((((Below.refl _ _).alloc hb1.size _).trans (hb3.mono (by simp; omega))).trans hb4)

set_option maxHeartbeats 1000000 in
theorem refEncode_3 {n : Int} (_hn : inI n) (s : ByteArray) (hs : s.size ≤ 4000) (hr : vRight 3 n s.data.toList = true) (w : World) :
    Calls Tryz.prog 47 #[.agg #[.int .i64 3, .int .i64 n, .string s]] w fun e w' => ∃ v, e = .returned (.tuple #[v, .bool true]) ∧ Row w' w.heap.size v (vEnc 3 n s.data.toList) ∧ Below w.heap.size w w' := by
  have HV : Hid (∀ W, Below w.heap.size w W → Calls Tryz.prog 106 #[.agg #[.int .i64 3, .int .i64 n, .string s]] W fun e w' => e = .returned (.bool true) ∧ Below w.heap.size w w' ∧ Below W.heap.size W w') := fun W hW => by rw [← hr]; exact (refright_any 3 n s W hs).mono fun _ _ ⟨he, hb⟩ => ⟨he, hW.trans (hb.mono hW.size), hb⟩
  have HB := hid (below_new w)
  have HK : Hid (∀ W : World, w.heap.size ≤ W.heap.size → Row (W.alloc (.cells #[.int .u8 3] 5)) w.heap.size (.slice (some ⟨W.heap.size, 0, none⟩) 1 1) [3]) := fun W hW => kind_row W w.heap.size hW 3 (by decide)
  have HF : Hid (∀ (W : World), Calls Tryz.prog 105 #[.string s] W fun e w' => ∃ g c, e = .returned (.slice (some ⟨g, 0, none⟩) (esc s.data.toList ++ [0, 1]).length c) ∧ (∀ j u, (bc (esc s.data.toList ++ [0, 1]))[j]? = some u → w'.cell? ((⟨g, 0, none⟩ : Addr).add j) = some u) ∧ Below W.heap.size W w') := fun W =>
    (refEscaped_any s hs W).mono fun e w' ⟨v, he, hR, hb⟩ => by
      obtain ⟨g, c, rfl, _, _, _, h6⟩ := hR.form (by simp)
      refine ⟨g, c, he, fun j u hu => ?_, hb⟩
      have hj : j < (esc s.data.toList ++ [0, 1]).length := by
        rcases Nat.lt_or_ge j (esc s.data.toList ++ [0, 1]).length with h | h
        · exact h
        · rw [List.getElem?_eq_none (by rw [bc_len]; exact h)] at hu; cases hu
      rw [add_zero_off, Nat.zero_add, h6 j hj, ← hu, bc_at, List.getElem?_eq_getElem hj]
      simp [List.getElem?_eq_getElem hj]
  have HE : Hid (vEnc 3 n s.data.toList = [3] ++ (esc s.data.toList ++ [0, 1])) := rfl
  have HLs : Hid ((esc s.data.toList ++ [0, 1]).length ≤ 12000) := by
    have := esc_len s.data.toList
    have h2 : s.data.toList.length = s.size := rfl
    unfold Hid
    simp
    omega
  obtain ⟨l, hl⟩ : ∃ l, esc s.data.toList ++ [0, 1] = l := ⟨_, rfl⟩
  rw [hl] at HF HE HLs
  obtain ⟨m, hm⟩ : ∃ m, l.length = m := ⟨_, rfl⟩
  have HM := hid hm
  rw [hm] at HF HLs
  clear hr hs hl hm
  go_enter Tryz.func47, Tryz.ntmps47
  go_wp2_with (first | (go_at_call 106; refine (HV.out _ (HB.out _)).mono ?_; rintro e w1 ⟨rfl, hb1, hb2⟩; obtain ⟨hc, hf⟩ := bcell hb2; have hz : w.heap.size < w1.heap.size := (by have := hb2.size; simp at this; omega)) | (go_at_call 105; refine (HF.out _).mono ?_; rintro e w2 ⟨g2, q2, rfl, hBk, hb3⟩; have hR1 : Row w2 w.heap.size (.slice (some ⟨w1.heap.size, 0, none⟩) 1 1) [3] := ((HK.out w1 hb1.size).keep hb3 (fun g hg => by simp [Value.ownBlock] at hg; simp; omega)); have hs2 : w.heap.size ≤ w2.heap.size := (by have := hb3.size; have := hb1.size; simp at *; omega); have HBk := hid hBk; clear hBk) | (at_builtin; refine wpList_append_bytes rfl (.tmp 38) (.tmp 41) rfl _ w.heap.size (.slice (some ⟨w1.heap.size, 0, none⟩) 1 1) [3] rfl hR1 ⟨g2, 0, none⟩ m q2 l HM.out rfl HBk.out (by have := HM.out; have := HLs.out; simp only [List.length_cons, List.length_nil]; omega) hs2 ?_; intro v2 w2' hR2 hb4))
  go_ret2
  refine ⟨_, rfl, ?_, ?_⟩
  · rw [HE.out]; exact hR2
  · exact hb1.trans ((((Below.refl _ _).alloc hb1.size _).trans (hb3.mono (by simp; omega))).trans hb4)

/-- The document's Encode of a right value. -/
theorem refEncode_yes (k : Int) {n : Int} (hn : inI n) (s : ByteArray) (hs : s.size ≤ 4000) (hr : vRight k n s.data.toList = true) (w : World) :
    Calls Tryz.prog 47 #[.agg #[.int .i64 k, .int .i64 n, .string s]] w fun e w' => ∃ v, e = .returned (.tuple #[v, .bool true]) ∧ Row w' w.heap.size v (vEnc k n s.data.toList) ∧ Below w.heap.size w w' := by
  rcases right_kind hr with rfl | rfl | rfl | rfl | rfl
  · exact refEncode_1 hn s hs hr w
  · exact refEncode_2 hn s hs hr w
  · exact refEncode_3 hn s hs hr w
  · exact refEncode_4 hn s hs hr w
  · exact refEncode_5 hn s hs hr w

end Go.Proofs.YtfcnobcpnhfgmaaGreatDoor
