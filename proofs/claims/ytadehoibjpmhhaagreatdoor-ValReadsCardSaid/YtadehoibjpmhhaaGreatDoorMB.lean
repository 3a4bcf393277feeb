/- Several texts in one: RI FT RJ FU. Conditions: as each theorem names them. -/
import Derived.Test.YtadehoibjpmhhaaGreatDoorVG
import Derived.Test.YtadehoibjpmhhaaGreatDoorVF
import Derived.IntWalk
import Derived.Test.YtadehoibjpmhhaaGreatDoorFS
import Derived.Lib.ItoaLen
import Derived.Lib.ItoaMem
/- The document's Quoted, for every text of at most a thousand bytes. Conditions: the length alone. -/
namespace Go.Proofs.YtadehoibjpmhhaaGreatDoor
open Go.RowKit

set_option maxHeartbeats 2000000 in
set_option maxRecDepth 100000 in
theorem refQuoted_any (s : ByteArray) (hs : s.size ≤ 1000) (w : World) :
    Calls Tryz.prog 48 #[.string s] w fun e w' => e = .returned (.string ⟨(34 :: (quo s.data.toList ++ [34])).toArray⟩) ∧ Below w.heap.size w w' := by
  have HR0 : Hid (Row (w.alloc (.cells #[.int .u8 34] 5)) w.heap.size (.slice (some ⟨w.heap.size, 0, none⟩) 1 1) [34]) := kind_row w w.heap.size (Nat.le_refl _) 34 (by decide)
  go_enter Tryz.func48, Tryz.ntmps48
  go_wp2
  go_loopw [3, 4] (fun vb vi wr => ∃ k : Nat, k ≤ s.size ∧ vi = .int .i64 k ∧ Row wr w.heap.size vb (34 :: quo (s.data.toList.take k)) ∧ Below w.heap.size w wr) (fun _ vi _ => s.size - (intOf vi).toNat)
  case atStart => exact ⟨0, by omega, rfl, by simpa [quo] using HR0.out, below_new _ _⟩
  case round =>
    obtain ⟨k, hk, rfl, hR, hbel⟩ := hrel
    by_cases hlt : k < s.size
    · obtain ⟨c, hcc⟩ : ∃ c, s[k].toNat = c := ⟨_, rfl⟩
      have hc256 : c < 256 := by rw [← hcc]; exact UInt8.toNat_lt _
      have hidx : ∀ W, (Instr.index 9 (.string s) (.int .i64 (k : Int))).run Tryz.prog W = .ok (.int .u8 (c : Int)) W := fun W => by
        rw [← hcc]
        exact string_at s k hlt W
      have HN : Hid (34 :: quo (s.data.toList.take (k + 1)) = (34 :: quo (s.data.toList.take k)) ++ (if plainB c = true then [UInt8.ofNat c] else [92, dg (c / 16), dg (c % 16)])) := by
        show _ = _
        rw [take_snoc s k hlt, quo_app]
        simp only [quo, quoB, hcc, List.append_nil, List.cons_append]
        rw [← hcc]
        simp
      have HL : Hid ((34 :: quo (s.data.toList.take k)).length ≤ 3001) := by
        show _ ≤ _
        have h1 := quo_len (s.data.toList.take k)
        have h2 : (s.data.toList.take k).length ≤ k := List.length_take_le _ _
        simp only [List.length_cons]
        omega
      have HR := hid hR
      clear hR
      clear hcc
      cases hp : plainB c
      · rw [hp] at HN
        have hpp : c < 32 ∨ (32 ≤ c ∧ 126 < c) ∨ (32 ≤ c ∧ c ≤ 126 ∧ c = 34) ∨ (32 ≤ c ∧ c ≤ 126 ∧ ¬ c = 34 ∧ c = 92) := by
          unfold plainB at hp
          simp at hp
          omega
        clear hp
        have hk0 : (0 : Int) ≤ (k : Int) := by omega
        have hk1 : (k : Int) < (s.size : Int) := by omega
        have hg1 : c / 16 < 16 := by omega
        have hg2 : c % 16 < 16 := by omega
        have hsel : (decide ((c : Int) < 32) = true) ∨ (decide ((c : Int) < 32) = false ∧ decide (126 < (c : Int)) = true) ∨ (decide ((c : Int) < 32) = false ∧ decide (126 < (c : Int)) = false ∧ ((c : Int) == 34) = true) ∨ (decide ((c : Int) < 32) = false ∧ decide (126 < (c : Int)) = false ∧ ((c : Int) == 34) = false ∧ ((c : Int) == 92) = true) := by
          rcases hpp with h | ⟨h1, h2⟩ | ⟨h1, h2, h3⟩ | ⟨h1, h2, h3, h4⟩
          · exact .inl (decide_eq_true (by omega))
          · exact .inr (.inl ⟨decide_eq_false (by omega), decide_eq_true (by omega)⟩)
          · exact .inr (.inr (.inl ⟨decide_eq_false (by omega), decide_eq_false (by omega), by simp; omega⟩))
          · exact .inr (.inr (.inr ⟨decide_eq_false (by omega), decide_eq_false (by omega), by simp; omega, by simp; omega⟩))
        clear hpp
        rcases hsel with e1 | ⟨e1, e2⟩ | ⟨e1, e2, e3⟩ | ⟨e1, e2, e3, e4⟩
        all_goals
          go_wp2
          have hh1 : ∀ W, (Instr.index 9 (.string ⟨#[48, 49, 50, 51, 52, 53, 54, 55, 56, 57, 97, 98, 99, 100, 101, 102]⟩) (.int .u8 ((c : Int) / 16))).run Tryz.prog W = .ok (.int .u8 ((dg (c / 16)).toNat : Int)) W := fun W => hex_at (c / 16) hg1 W
          have hh2 : ∀ W, (Instr.index 9 (.string ⟨#[48, 49, 50, 51, 52, 53, 54, 55, 56, 57, 97, 98, 99, 100, 101, 102]⟩) (.int .u8 ((c : Int) % 16))).run Tryz.prog W = .ok (.int .u8 ((dg (c % 16)).toNat : Int)) W := fun W => hex_at (c % 16) hg2 W
          have t1 : IntKind.u8.wrap ((c : Int).tdiv 16) = (c : Int) / 16 := IntWalk.u8_quo _ _ (by omega)
          have t2 : (c : Int).tmod 16 = (c : Int) % 16 := Int.tmod_eq_emod_of_nonneg (by omega)
          have t3 : IntKind.u8.wrap ((c : Int) % 16) = (c : Int) % 16 := IntWalk.u8_in _ (by omega)
          have t4 : IntKind.u8.wrap ((c : Int) / 16) = (c : Int) / 16 := IntWalk.u8_in _ (by omega)
          have t5 : (c : Int).tdiv 16 = (c : Int) / 16 := Int.tdiv_eq_ediv_of_nonneg (by omega)
          go_region_held3 (fun w' => True) (trivial) ((refine step_append_bytes (by rfl) (.tmp 30) (.tmp 37) (by rfl) _ w.heap.size _ _ (by rfl) ((HR.out.alloc _)) ⟨wr.heap.size, 0, none⟩ 3 3 [92, dg (c / 16), dg (c % 16)] (by rfl) (by rfl) (three_new _ _ _ _ _ _ _ _ rfl rfl rfl) (by have := HL.out; simp only [List.length_cons, List.length_nil] at *; omega) (by have := hbel.size; simp; omega) ?_; intro v1 w1 hR1 hb1))
          all_goals (
            go_wp2
            go_roundw
            case rel =>
              refine ⟨k + 1, by omega, by go_num, ?_, (hbel.alloc hbel.size _).drew.trans hb1⟩
              rw [HN.out, if_neg (by decide)]
              exact hR1
            case measure => simp [intOf]; omega)
      · rw [hp] at HN
        have hpp : 32 ≤ c ∧ c ≤ 126 ∧ ¬ c = 34 ∧ ¬ c = 92 := by
          unfold plainB at hp
          simp at hp
          omega
        have e1 : decide ((c : Int) < 32) = false := decide_eq_false (by omega)
        have e2 : decide (126 < (c : Int)) = false := decide_eq_false (by omega)
        have e3 : ((c : Int) == 34) = false := by simp; omega
        have e4 : ((c : Int) == 92) = false := by simp; omega
        clear hpp
        clear hp
        have HC1 : Hid ((c : Int) = ((UInt8.ofNat c).toNat : Int)) := by
          show _ = _
          rw [UInt8.toNat_ofNat']
          omega
        go_wp2_with (first | (at_builtin; refine wpList_append_bytes rfl (.tmp 39) (.tmp 41) rfl _ w.heap.size _ _ rfl (HR.out.alloc _) ⟨wr.heap.size, 0, none⟩ 1 1 [UInt8.ofNat c] rfl rfl (one_new' _ _ _ _ HC1.out) (by have := HL.out; simp only [List.length_cons, List.length_nil] at *; omega) (by have := hbel.size; simp; omega) ?_; intro v1 w1 hR1 hb1))
        go_roundw
        case rel =>
          refine ⟨k + 1, by omega, by go_num, ?_, (hbel.alloc hbel.size _).trans hb1⟩
          rw [HN.out, if_pos rfl]
          exact hR1
        case measure => simp [intOf]; omega
    · obtain rfl : k = s.size := by omega
      have HR := hid hR
      clear hR
      have HL : Hid ((34 :: quo (s.data.toList.take s.size)).length ≤ 3001) := by
        show _ ≤ _
        have h1 := quo_len (s.data.toList.take s.size)
        have h2 : (s.data.toList.take s.size).length ≤ s.size := List.length_take_le _ _
        simp only [List.length_cons]
        omega
      go_wp2_with (at_builtin; refine wpList_append_bytes rfl (.tmp 43) (.tmp 44) rfl _ w.heap.size _ _ rfl (HR.out.alloc _) ⟨wr.heap.size, 0, none⟩ 1 1 [34] rfl rfl (one_new' _ _ _ _ rfl) (by have := HL.out; simp only [List.length_cons, List.length_nil] at *; omega) (by have := hbel.size; simp; omega) ?_; intro v1 w1 hR1 hb1; have hcv := row_convert hR1)
      go_ret
      refine ⟨?_, (hbel.alloc hbel.size _).trans hb1⟩
      rw [List.take_of_length_le (by simp)]
      rfl

end Go.Proofs.YtadehoibjpmhhaaGreatDoor

/- The document's Bytes and Show (package joistref01), for every int; and the law FloatAsks. Conditions: ints of 64 bits; the table of math/bits reads as it is laid. -/
namespace Go.Proofs.YtadehoibjpmhhaaGreatDoor
open Go.RowKit

set_option maxHeartbeats 400000 in
theorem refBytes_no {n : Int} (hr : rightB n = false) (w : World) :
    Calls Tryz.prog 40 #[.int .i64 n] w fun e w' => e = .returned (.slice none 0 0) ∧ w = w' := by
  go_enter Tryz.func40, Tryz.ntmps40
  go_wp2_with (go_at_call 37; refine (refRight_any _ _).mono ?_; rintro e w' ⟨rfl, rfl⟩)
  go_ret
  exact ⟨rfl, rfl⟩

def RInv (r b : Nat) (w0 : World) (vu vi : Value) (wr : World) : Prop :=
  ∃ (j u : Nat) (i : Int) (xs : Array Value), j ≤ 8 ∧ i = 7 - j ∧ u = r / 256 ^ j ∧ vu = .int .u64 u ∧ vi = .int .i64 i ∧ Blk wr b 5 xs ∧ xs.size = 8 ∧ xs.toList.drop (8 - j) = bc (byW j r) ∧ Below b w0 wr

theorem byte_of (r j : Nat) : (((r / 256 ^ j : Nat) : Int) % 256) = ((UInt8.ofNat (r / 256 ^ j % 256)).toNat : Int) := by
  rw [UInt8.toNat_ofNat']
  have : r / 256 ^ j % 256 % 2 ^ 8 = r / 256 ^ j % 256 := Nat.mod_eq_of_lt (by omega)
  rw [this, Int.natCast_emod]
  rfl

set_option maxHeartbeats 1000000 in
theorem refBytes_core {n : Int} (hr : rightB n = true) (r : Nat) (hr64 : r < 18446744073709551616)
    (hsel : (n < 0 ∧ bits .xor .u64 IntKind.u64.max (IntKind.u64.wrap n) = (r : Int)) ∨ (¬ n < 0 ∧ IntKind.u64.wrap (IntKind.u64.wrap n + 9223372036854775808) = (r : Int))) (w : World) :
    Calls Tryz.prog 40 #[.int .i64 n] w fun e w' => e = .returned (.slice (some ⟨w.heap.size, 0, none⟩) 8 8) ∧ Blk w' w.heap.size 5 (bc (byW 8 r)).toArray ∧ Below w.heap.size w w' := by
  have hmk : ∀ W, (Instr.makeSlice 22 (.int .i64 8) (.int .i64 8)).run Tryz.prog W = .ok (.slice (some ⟨W.heap.size, 0, none⟩) 8 8) (W.alloc (.cells #[.int .u8 0, .int .u8 0, .int .u8 0, .int .u8 0, .int .u8 0, .int .u8 0, .int .u8 0, .int .u8 0] 5)) := fun _ => by kernel_rfl
  have HRt : Hid (∀ W, Calls Tryz.prog 37 #[.int .i64 n] W fun e w' => e = .returned (.bool true) ∧ W = w') := fun W => by rw [← hr]; exact refRight_any n W
  have HR := hid hr64
  clear hr64 hr
  rcases hsel with ⟨hn, hx⟩ | ⟨hn, hx⟩ <;>
  · go_enter Tryz.func40, Tryz.ntmps40
    go_wp2_with (go_at_call 37; refine (HRt.out _).mono ?_; rintro e w' ⟨rfl, rfl⟩)
    go_loopw [3, 5] (fun vu vi wr => RInv r w.heap.size w vu vi wr) (fun _ vi _ => (intOf vi + 1).toNat)
    case atStart => exact ⟨0, r, 7, _, by omega, rfl, by simp, rfl, rfl, Blk.new _ _ _, rfl, rfl, (Below.refl _ _).alloc (Nat.le_refl _) _⟩
    case round =>
      obtain ⟨j, u, i, xs, hj, hi, hu, rfl, rfl, hB, hs, hdrop, hbel⟩ := hrel
      clear hmk hn hx
      have hu64 : u < 18446744073709551616 := by rw [hu]; exact Nat.lt_of_le_of_lt (Nat.div_le_self _ _) HR.out
      have HB := hid hB
      have HS := hid hs
      have HD := hid hdrop
      have HU := hid hu
      by_cases hlt : j < 8
      · obtain ⟨k, rfl⟩ : ∃ k : Nat, i = k := ⟨7 - j, by omega⟩
        have hk : k ≤ 7 := by omega
        have HJ : Hid (k + j = 7) := hid (by omega)
        obtain ⟨v0, hcell⟩ : ∃ v, wr.cell? ⟨w.heap.size, k, none⟩ = some v := ⟨xs[k]'(by omega), by rw [hB.cell, Array.getElem?_eq_getElem]⟩
        have hfree := hB.free k
        clear hB hs hdrop hu hi hlt
        go_wp2
        go_roundw
        case rel =>
          have hjk := HJ.out
          refine ⟨j + 1, u / 256, (k : Int) - 1, xs.setIfInBounds k (Value.int .u8 ((UInt8.ofNat (r / 256 ^ j % 256)).toNat : Int)), by omega, by omega, ?_, by go_num, rfl, ?_, by rw [Array.size_setIfInBounds]; exact HS.out, ?_, hbel.setCell (Nat.le_refl _) _⟩
          · rw [HU.out, Nat.div_div_eq_div_mul, Nat.pow_succ]
          · rw [← byte_of, ← HU.out]
            exact HB.out.set k _
          · rw [show 8 - (j + 1) = k by omega]
            exact drop_set8 HS.out hk (by rw [show k + 1 = 8 - j by omega]; exact HD.out)
        case measure => simp [intOf]
      · obtain rfl : j = 8 := by omega
        obtain rfl : i = -1 := by omega
        have HD2 : Hid (Blk wr w.heap.size 5 (bc (byW 8 r)).toArray) := by
          have e : xs.toList = bc (byW 8 r) := hdrop
          rw [← e]
          exact hB
        clear hB hs hdrop hu
        go_wp2
        go_ret
        exact ⟨rfl, HD2.out, hbel⟩

theorem refBytes_yes {n : Int} (h : inI n) (hr : rightB n = true) (w : World) :
    Calls Tryz.prog 40 #[.int .i64 n] w fun e w' => e = .returned (.slice (some ⟨w.heap.size, 0, none⟩) 8 8) ∧ Blk w' w.heap.size 5 (bc (byW 8 (rankI n).toNat)).toArray ∧ Below w.heap.size w w' := by
  obtain ⟨r0, r1⟩ := rank_in h
  refine refBytes_core hr (rankI n).toNat (by omega) ?_ w
  rw [Int.toNat_of_nonneg r0]
  by_cases hn : n < 0
  · exact Or.inl ⟨hn, turned h hn⟩
  · refine Or.inr ⟨hn, ?_⟩
    rw [IntKind.wrap_u64, IntKind.wrap_u64]
    unfold rankI inI at *
    rw [if_neg hn]
    omega

end Go.Proofs.YtadehoibjpmhhaaGreatDoor

/- The document's Decimal, for every int. Conditions: the int is of 64 bits. -/
namespace Go.Proofs.YtadehoibjpmhhaaGreatDoor
open Go.RowKit

def decConst : ByteArray := ⟨#[48, 49, 50, 51, 52, 53, 54, 55, 56, 57]⟩
theorem decConst_at : ∀ d : Nat, d < 10 → (decConst.extract d (d + 1)).data.toList = [UInt8.ofNat (48 + d)] := by decide +kernel
theorem dec_big (u : Nat) (h : ¬ u < 10) : Lib.decDigits u = Lib.decDigits (u / 10) ++ [UInt8.ofNat (48 + u % 10)] := by
  rw [Lib.decDigits, dif_neg h]
theorem dec_len {U : Nat} (h : U ≤ 9223372036854775808) : (Lib.decDigits U).length ≤ 21 := by
  have h1 := Lib.itoa_length_le (-(U : Int)) (by omega) (by omega)
  by_cases h0 : U = 0
  · subst h0; decide +kernel
  · rw [Lib.itoa_neg U (by omega)] at h1
    simp at h1
    omega

/-- What the loop knows. -/
def DcInv (U : Nat) (vs vu : Value) : Prop :=
  ∃ (u : Nat) (S : ByteArray), u < 18446744073709551616 ∧ vs = .string S ∧ vu = .int .u64 u ∧ Lib.decDigits U = Lib.decDigits u ++ S.data.toList ∧ S.size ≤ 30

theorem cat_list (a b : ByteArray) : (a ++ b).data.toList = a.data.toList ++ b.data.toList := by rw [ByteArray.data_append, Array.toList_append]
theorem bytes_eq {s1 s2 : ByteArray} (h : s1.data.toList = s2.data.toList) : s1 = s2 := by
  apply ByteArray.ext
  exact Array.ext' h

set_option maxHeartbeats 2000000 in
theorem decimal_core {n : Int} (U : Nat) (hU : U ≤ 9223372036854775808) (V : Nat) (hx : IntKind.u64.wrap n = (V : Int)) (hsel : (n < 0 ∧ IntKind.u64.wrap (-(V : Int)) = (U : Int)) ∨ (¬ n < 0 ∧ U = V)) (w : World) :
    Calls Tryz.prog 47 #[.int .i64 n] w fun e w' => e = .returned (.string ⟨(if n < 0 then 45 :: Lib.decDigits U else Lib.decDigits U).toArray⟩) ∧ w = w' := by
  have HL := hid (dec_len hU)
  rcases hsel with ⟨hn, hy⟩ | ⟨hn, rfl⟩ <;>
  · go_enter Tryz.func47, Tryz.ntmps47
    go_wp2
    go_loop [3, 4] (fun vs vu => DcInv U vs vu) (fun _ vu => (intOf vu).toNat)
    case atStart => exact ⟨_, ⟨#[]⟩, by omega, rfl, rfl, by simp, by decide⟩
    case round =>
      obtain ⟨u, S, hu, rfl, rfl, hd, hS⟩ := hrel
      have hl := HL.out
      rw [hd, List.length_append] at hl
      have hSl : S.data.toList.length = S.size := rfl
      have hul : 1 ≤ (Lib.decDigits u).length := by
        rw [Lib.decDigits_length]
        exact Lib.nDigits_pos u
      have hS2 : S.size ≤ 20 := by omega
      have HD := hid hd
      obtain ⟨d, hdd⟩ : ∃ d, u % 10 = d := ⟨_, rfl⟩
      have hrem : (u : Int).tmod 10 = (d : Int) := by rw [Int.tmod_eq_emod_of_nonneg (by omega)]; omega
      have hrem2 : (u : Int) % 10 = (d : Int) := by omega
      have hd9 : d ≤ 9 := by omega
      have HDD := hid hdd
      have HA := hid (decConst_at d (by omega))
      clear hd hdd hl hSl hul hS
      by_cases h10 : u < 10
      · have hquo : (u : Int) / 10 = 0 := by omega
        have HR : Hid (Lib.decDigits U = (decConst.extract d (d + 1) ++ S).data.toList) := by
          unfold Hid
          rw [cat_list, HA.out, HD.out, Lib.decDigits_one h10]
          have : u = d := by have := HDD.out; omega
          rw [this]
        clear h10
        go_wp2
        go_ret
        refine ⟨congrArg (fun s => Ending.returned (Value.string s)) (bytes_eq ?_), rfl⟩
        first
          | (rw [cat_list, HR.out]; rfl)
          | (rw [HR.out]; rfl)
      · obtain ⟨q, hq⟩ : ∃ q, u / 10 = q := ⟨_, rfl⟩
        have hquo : (u : Int) / 10 = (q : Int) := by omega
        have hq0 : ((q : Int) == 0) = false := by simp; omega
        have hqu : q < u := by omega
        have HR : Hid (Lib.decDigits U = Lib.decDigits q ++ (decConst.extract d (d + 1) ++ S).data.toList) := by
          unfold Hid
          rw [cat_list, HA.out, HD.out, dec_big u h10, hq, HDD.out, List.append_assoc]
        have HZ : Hid ((decConst.extract d (d + 1) ++ S).size ≤ 30) := by
          have h1 := congrArg List.length (cat_list (decConst.extract d (d + 1)) S)
          rw [HA.out] at h1
          have h2 : (decConst.extract d (d + 1) ++ S).data.toList.length = (decConst.extract d (d + 1) ++ S).size := rfl
          have h3 : S.data.toList.length = S.size := rfl
          simp only [List.length_append, List.length_cons, List.length_nil] at h1
          unfold Hid
          omega
        clear hq h10
        go_wp2
        go_round
        case rel => exact ⟨q, _, by omega, rfl, rfl, HR.out, HZ.out⟩
        case measure => simp [intOf]; omega

/-- The document's Decimal, for every int. -/
theorem refDecimal_any {n : Int} (hn : inI n) (w : World) :
    Calls Tryz.prog 47 #[.int .i64 n] w fun e w' => e = .returned (.string ⟨(Lib.itoa n).toArray⟩) ∧ w = w' := by
  unfold inI at hn
  unfold Lib.itoa
  by_cases h : n < 0
  · have := decimal_core (n := n) n.natAbs (by omega) (n + 18446744073709551616).toNat (by rw [IntKind.wrap_u64]; omega) (.inl ⟨h, by rw [IntKind.wrap_u64]; omega⟩) w
    rw [if_pos h] at this ⊢
    exact this
  · have := decimal_core (n := n) n.toNat (by omega) n.toNat (by rw [IntKind.wrap_u64]; omega) (.inr ⟨h, rfl⟩) w
    rw [if_neg h] at this ⊢
    exact this

end Go.Proofs.YtadehoibjpmhhaaGreatDoor

/- The document's Show (package joistref01), for every int. Conditions: ints of 64 bits. -/
namespace Go.Proofs.YtadehoibjpmhhaaGreatDoor
open Go.RowKit

def hexConst : ByteArray := ⟨#[48, 49, 50, 51, 52, 53, 54, 55, 56, 57, 97, 98, 99, 100, 101, 102]⟩
theorem hexConst_at : ∀ d : Nat, d < 16 → (hexConst.extract d (d + 1)).data.toList = [dg d] := by decide +kernel

theorem fixW_at (k x : Nat) : ∀ j, j < k → (fixW k x)[j]? = some (dg (x / 16 ^ (k - 1 - j) % 16)) := by
  induction k with
  | zero => intro j h; omega
  | succ k ih =>
    intro j h
    rw [fixW_cons]
    cases j with
    | zero => simp
    | succ j =>
      rw [List.getElem?_cons_succ, ih j (by omega), show k + 1 - 1 - (j + 1) = k - 1 - j by omega]

theorem take_next (x j : Nat) (h : j < 16) : (⟨(120 :: (fixW 16 x).take j).toArray⟩ : ByteArray) ++ hexConst.extract (x / 16 ^ (15 - j) % 16) (x / 16 ^ (15 - j) % 16 + 1) = ⟨(120 :: (fixW 16 x).take (j + 1)).toArray⟩ := by
  apply ByteArray.ext
  rw [ByteArray.data_append]
  have e := hexConst_at (x / 16 ^ (15 - j) % 16) (by omega)
  have e2 : (hexConst.extract (x / 16 ^ (15 - j) % 16) (x / 16 ^ (15 - j) % 16 + 1)).data = [dg (x / 16 ^ (15 - j) % 16)].toArray := by rw [← e]
  rw [e2]
  have h1 := fixW_at 16 x j h
  rw [List.take_add_one, h1]
  simp

theorem rem_at (x k : Nat) : ((x : Int) / 2 ^ (4 * k)).tmod 16 = ((x / 16 ^ k % 16 : Nat) : Int) := by
  have e2 : ((2 : Int) ^ (4 * k)) = ((16 ^ k : Nat) : Int) := by
    have e : (2 : Nat) ^ (4 * k) = 16 ^ k := by rw [Nat.pow_mul]
    rw [← e, Int.natCast_pow]; rfl
  rw [e2, Int.tmod_eq_emod_of_nonneg (Int.ediv_nonneg (Int.natCast_nonneg _) (Int.natCast_nonneg _)), Int.natCast_emod, Int.natCast_ediv]
  rfl

def SInv (x : Nat) (vs vi : Value) : Prop :=
  ∃ (j : Nat) (i : Int) (s : ByteArray), j ≤ 16 ∧ i = 15 - j ∧ vs = .string s ∧ vi = .int .i64 i ∧ s = ⟨(120 :: (fixW 16 x).take j).toArray⟩ ∧ s.size ≤ 17

set_option maxHeartbeats 1000000 in
theorem refShow_hex {n : Int} (hr : rightB n = true) (x : Nat) (hx : IntKind.u64.wrap n = (x : Int)) (hx64 : x < 18446744073709551616)
    (q1 : (n == 9221120237041090560) = false) (q2 : (n == 9218868437227405312) = false) (q3 : (n == -4503599627370496) = false) (q4 : (n == 0) = false) (q5 : (n == -9223372036854775808) = false) (w : World) :
    Calls Tryz.prog 46 #[.int .i64 n] w fun e w' => e = .returned (.string ⟨(120 :: fixW 16 x).toArray⟩) ∧ w = w' := by
  have HRt : Hid (∀ W, Calls Tryz.prog 37 #[.int .i64 n] W fun e w' => e = .returned (.bool true) ∧ W = w') := fun W => by rw [← hr]; exact refRight_any n W
  have HX := hid hx64
  clear hr hx64
  go_enter Tryz.func46, Tryz.ntmps46
  go_wp2_with (go_at_call 37; refine (HRt.out _).mono ?_; rintro e w' ⟨rfl, rfl⟩)
  go_loop [3, 4] (fun vs vi => SInv x vs vi) (fun _ vi => (intOf vi + 1).toNat)
  case atStart => exact ⟨0, 15, _, by omega, rfl, rfl, rfl, rfl, by decide⟩
  case round =>
    obtain ⟨j, i, s, hj, hi, rfl, rfl, hs, hsz⟩ := hrel
    by_cases hlt : j < 16
    · obtain ⟨k, rfl⟩ : ∃ k : Nat, i = k := ⟨15 - j, by omega⟩
      have hk : k ≤ 15 := by omega
      have HJ : Hid (k + j = 15) := hid (by omega)
      have HS := hid hs
      clear hs hi hlt
      obtain ⟨d, hd⟩ : ∃ d, x / 16 ^ k % 16 = d := ⟨_, rfl⟩
      have hrem : ((x : Int) / 2 ^ (4 * k)).tmod 16 = (d : Int) := by rw [← hd]; exact rem_at x k
      have hd15 : d ≤ 15 := by omega
      have HDD := hid hd
      clear hd
      go_wp2
      go_round
      case rel =>
        have hjk := HJ.out
        have hs := HS.out
        have hdd := HDD.out
        have hk' : 15 - j = k := by omega
        have hn := take_next x j (by omega)
        rw [hk', hdd] at hn
        refine ⟨j + 1, (k : Int) - 1, _, by omega, by omega, rfl, rfl, ?_, ?_⟩
        · rw [← hn, hs]; rfl
        · rw [hs]
          show ((⟨(120 :: (fixW 16 x).take j).toArray⟩ : ByteArray) ++ hexConst.extract d (d + 1)).size ≤ 17
          rw [hn]
          show (120 :: (fixW 16 x).take (j + 1)).toArray.size ≤ 17
          rw [List.size_toArray, List.length_cons, List.length_take]
          omega
      case measure => simp [intOf]
    · obtain rfl : j = 16 := by omega
      obtain rfl : i = -1 := by omega
      have HS : Hid (s = ⟨(120 :: fixW 16 x).toArray⟩) := hid (by rw [hs, List.take_of_length_le (by rw [fixW_len]; exact Nat.le_refl _)])
      clear hs
      go_wp2
      go_ret
      exact ⟨congrArg (fun s => Ending.returned (Value.string s)) HS.out, rfl⟩

set_option maxHeartbeats 1000000 in
theorem refShow_nan (w : World) : Calls Tryz.prog 46 #[.int .i64 9221120237041090560] w fun e w' => e = .returned (.string ⟨nanT.toArray⟩) ∧ w = w' := by
  go_enter Tryz.func46, Tryz.ntmps46
  go_wp2
  go_ret
  exact ⟨rfl, rfl⟩
set_option maxHeartbeats 1000000 in
theorem refShow_inf (w : World) : Calls Tryz.prog 46 #[.int .i64 9218868437227405312] w fun e w' => e = .returned (.string ⟨infT.toArray⟩) ∧ w = w' := by
  go_enter Tryz.func46, Tryz.ntmps46
  go_wp2
  go_ret
  exact ⟨rfl, rfl⟩
set_option maxHeartbeats 1000000 in
theorem refShow_minf (w : World) : Calls Tryz.prog 46 #[.int .i64 (-4503599627370496)] w fun e w' => e = .returned (.string ⟨minfT.toArray⟩) ∧ w = w' := by
  go_enter Tryz.func46, Tryz.ntmps46
  go_wp2
  go_ret
  exact ⟨rfl, rfl⟩
set_option maxHeartbeats 1000000 in
theorem refShow_zero (w : World) : Calls Tryz.prog 46 #[.int .i64 0] w fun e w' => e = .returned (.string ⟨zeroT.toArray⟩) ∧ w = w' := by
  go_enter Tryz.func46, Tryz.ntmps46
  go_wp2
  go_ret
  exact ⟨rfl, rfl⟩
set_option maxHeartbeats 1000000 in
theorem refShow_mzero (w : World) : Calls Tryz.prog 46 #[.int .i64 (-9223372036854775808)] w fun e w' => e = .returned (.string ⟨mzeroT.toArray⟩) ∧ w = w' := by
  go_enter Tryz.func46, Tryz.ntmps46
  go_wp2
  go_ret
  exact ⟨rfl, rfl⟩

set_option maxHeartbeats 1000000 in
theorem refShow_no {n : Int} (hr : rightB n = false) (q1 : (n == 9221120237041090560) = false) (q2 : (n == 9218868437227405312) = false) (q3 : (n == -4503599627370496) = false) (q4 : (n == 0) = false) (q5 : (n == -9223372036854775808) = false) (w : World) :
    Calls Tryz.prog 46 #[.int .i64 n] w fun e w' => e = .returned (.string ⟨#[63]⟩) ∧ w = w' := by
  go_enter Tryz.func46, Tryz.ntmps46
  go_wp2_with (go_at_call 37; refine (refRight_any n _).mono ?_; rintro e w' ⟨rfl, rfl⟩)
  go_ret
  exact ⟨rfl, rfl⟩

/-- The document's Show: the text of every int, as float.Show tells it. -/
theorem refShow_any {n : Int} (h : inI n) (w : World) :
    Calls Tryz.prog 46 #[.int .i64 n] w fun e w' => e = .returned (.string ⟨(showT n).toArray⟩) ∧ w = w' := by
  have f : ∀ {a : Int}, ¬ n = a → (n == a) = false := fun g => by simpa using g
  by_cases e1 : n = 9221120237041090560
  · subst e1; exact refShow_nan w
  by_cases e2 : n = 9218868437227405312
  · subst e2
    have : showT 9218868437227405312 = infT := by decide +kernel
    rw [this]; exact refShow_inf w
  by_cases e3 : n = -4503599627370496
  · subst e3
    have : showT (-4503599627370496) = minfT := by decide +kernel
    rw [this]; exact refShow_minf w
  by_cases e4 : n = 0
  · subst e4; exact refShow_zero w
  by_cases e5 : n = -9223372036854775808
  · subst e5
    have : showT (-9223372036854775808) = mzeroT := by decide +kernel
    rw [this]; exact refShow_mzero w
  cases hr : rightB n
  · have : showT n = [63] := by unfold showT; rw [if_neg (by rw [hr]; decide)]
    rw [this]
    exact refShow_no hr (f e1) (f e2) (f e3) (f e4) (f e5) w
  · have : showT n = 120 :: fixW 16 (wd n) := by
      unfold showT textW
      unfold inI at h
      rw [if_pos hr]
      rw [if_neg (by unfold wd; omega), if_neg (by unfold wd; omega), if_neg (by unfold wd; omega), if_neg (by unfold wd; omega), if_neg (by unfold wd; omega)]
    rw [this]
    exact refShow_hex hr (wd n) (u64_wd n) (wd_lt n) (f e1) (f e2) (f e3) (f e4) (f e5) w

end Go.Proofs.YtadehoibjpmhhaaGreatDoor
