/- Several texts in one: VC VD VE VF VJ FP VK. Conditions: as each theorem names them. -/
import Derived.Test.YtpjkhholpbfbpaaDoorVA
import Derived.OwnWalk
import Derived.Deep.AppendLies
import Derived.Laws.MakeOwn
import Derived.Laws.BytesArg
import Derived.Test.YtpjkhholpbfbpaaDoorMB
/- Rows of bytes that a call owns, and appending to them; val.appendInt and val.appendText. Conditions: rows of at most a million bytes. -/
namespace Go.Proofs.YtpjkhholpbfbpaaDoor
open Go.RowKit

theorem xor_sign64 {n : Int} (h : inI n) : bits .xor .u64 (IntKind.u64.wrap n) 9223372036854775808 = (upI n : Int) := by
  unfold inI at h
  rw [IntKind.wrap_u64, u64_xor _ _ (by omega) (by omega) (by omega) (by omega)]
  unfold upI
  rw [show (9223372036854775808 : Int).toNat = 2 ^ 63 from rfl]
  by_cases hn : n < 0
  · obtain ⟨r, hr⟩ : ∃ r : Nat, n + 9223372036854775808 = r := ⟨(n + 9223372036854775808).toNat, by omega⟩
    have e : (n % 18446744073709551616).toNat = r ^^^ 2 ^ 63 := by rw [xor_top r (by omega)]; omega
    rw [e, Nat.xor_assoc, Nat.xor_self, Nat.xor_zero]
    omega
  · rw [xor_top _ (by omega)]
    omega

set_option maxHeartbeats 1000000 in
theorem appendInt_any {n : Int} (hn : inI n) (B : Nat) (v : Value) (l : List UInt8) (hl : l.length ≤ 1000) (w : World) (hown : Row w B v l) (hB : B ≤ w.heap.size) :
    Calls Tryd.prog 88 #[v, .int .i64 n] w fun e w' => ∃ v', e = .returned v' ∧ Row w' B v' (l ++ byW 8 (upI n)) ∧ Below B w w' := by
  have hx := xor_sign64 hn
  have hlt := upI_lt hn
  obtain ⟨u, hu⟩ : ∃ u, upI n = u := ⟨_, rfl⟩
  rw [hu] at hx ⊢
  obtain ⟨U, hU⟩ : ∃ U : Int, (u : Int) = U := ⟨_, rfl⟩
  rw [hU] at hx
  have HU := hid hU
  clear hu hn hU hlt
  go_enter Tryd.func88, Tryd.ntmps88
  go_wp2
  clear hx
  go_loopw [0, 10] (fun vb vi wr => ∃ i : Int, 0 ≤ i ∧ i ≤ 8 ∧ vi = .int .i64 i ∧ Row wr B vb (l ++ (byW 8 u).take i.toNat) ∧ Below B w wr) (fun _ vi _ => 8 - (intOf vi).toNat)
  case atStart => exact ⟨0, by omega, by omega, rfl, by simpa using hown, Below.refl _ _⟩
  case round =>
    obtain ⟨i, h0, hi, rfl, hR, hbel⟩ := hrel
    by_cases h8 : i < 8
    · have HR := hid hR
      have HC : Hid (U / 2 ^ (8 * (7 - i)).toNat % 256 = ((UInt8.ofNat (u / 256 ^ (8 - 1 - i.toNat) % 256)).toNat : Int)) := by
        rw [← HU.out, show (8 * (7 - i)).toNat = 8 * (8 - 1 - i.toNat) by omega]
        exact byte_at u _
      have HL : Hid ((l ++ (byW 8 u).take i.toNat).length ≤ 1008) := by
        unfold Hid
        rw [List.length_append, List.length_take, byW_len]
        omega
      have HN : Hid (l ++ (byW 8 u).take (i.toNat + 1) = l ++ (byW 8 u).take i.toNat ++ [UInt8.ofNat (u / 256 ^ (8 - 1 - i.toNat) % 256)]) := by
        unfold Hid
        rw [byW_take 8 u i.toNat (by omega), List.append_assoc]
      clear hR
      go_wp2_with (at_builtin; refine wpList_append_bytes rfl _ _ rfl _ B _ _ rfl (HR.out.alloc _) ⟨wr.heap.size, 0, none⟩ 1 1 [UInt8.ofNat (u / 256 ^ (8 - 1 - i.toNat) % 256)] rfl rfl (one_new' _ _ _ _ HC.out) (by have := HL.out; simp only [List.length_cons, List.length_nil]; omega) (by have := hbel.size; simp; omega) ?_; intro v' w' hR' hb')
      go_roundw
      case rel =>
        refine ⟨i + 1, by omega, by omega, rfl, ?_, (hbel.alloc (by have := hbel.size; omega) _).trans hb'⟩
        rw [show (i + 1).toNat = i.toNat + 1 by omega, HN.out]
        exact hR'
      case measure => simp [intOf]; omega
    · obtain rfl : i = 8 := by omega
      have HR := hid hR
      clear hR
      go_wp2
      go_ret
      refine ⟨_, rfl, ?_, hbel⟩
      have := HR.out
      rwa [show (8 : Int).toNat = 8 from rfl, List.take_of_length_le (by rw [byW_len]; omega)] at this

end Go.Proofs.YtpjkhholpbfbpaaDoor

/- val.appendText for every text of at most a thousand bytes. Conditions: the row is the call's own. -/
namespace Go.Proofs.YtpjkhholpbfbpaaDoor
open Go.RowKit

theorem take_snoc (s : ByteArray) (k : Nat) (h : k < s.size) : s.data.toList.take (k + 1) = s.data.toList.take k ++ [s[k]] := by
  rw [List.take_succ_eq_append_getElem (by simpa using h)]; rfl
theorem esc_take_len (s : ByteArray) (k : Nat) (hk : k ≤ s.size) : (esc (s.data.toList.take k)).length ≤ 2 * s.size := by
  have h1 := esc_len (s.data.toList.take k)
  have h2 : (s.data.toList.take k).length ≤ k := List.length_take_le _ _
  omega
theorem esc_snoc (s : ByteArray) (k : Nat) (h : k < s.size) : esc (s.data.toList.take (k + 1)) = esc (s.data.toList.take k) ++ (if s[k] = 0 then [s[k], 255] else [s[k]]) := by
  rw [take_snoc s k h, esc_app]
  congr 1
  simp only [esc]
  split
  · rename_i h; rw [h]
  · rfl
theorem two_new (w : World) (c d : UInt8) (t : TypeId) (x y : Int) (hx : x = (c.toNat : Int)) (hy : y = (d.toNat : Int)) : ∀ j u, (bc [c, d])[j]? = some u → (w.alloc (.cells #[.int .u8 x, .int .u8 y] t)).cell? ((⟨w.heap.size, 0, Option.none⟩ : Addr).add j) = some u := by
  subst hx hy
  intro j u hu
  have hj : j < 2 := by
    rcases Nat.lt_or_ge j 2 with h | h
    · exact h
    · rw [List.getElem?_eq_none (by simpa [bc] using h)] at hu; cases hu
  rw [add_zero_off, World.cell?_alloc_at _ _ _ _ rfl, ← hu]
  rcases (show j = 0 ∨ j = 1 by omega) with rfl | rfl <;> rfl

set_option maxHeartbeats 1000000 in
theorem appendText_any (s : ByteArray) (hs : s.size ≤ 1000) (B : Nat) (v : Value) (l : List UInt8) (hl : l.length ≤ 1000) (w : World) (hown : Row w B v l) (hB : B ≤ w.heap.size) :
    Calls Tryd.prog 90 #[v, .string s] w fun e w' => ∃ v', e = .returned v' ∧ Row w' B v' (l ++ (esc s.data.toList ++ [0, 1])) ∧ Below B w w' := by
  go_enter Tryd.func90, Tryd.ntmps90
  go_wp2
  go_loopw [0, 8] (fun vb vi wr => ∃ k : Nat, k ≤ s.size ∧ vi = .int .i64 k ∧ Row wr B vb (l ++ esc (s.data.toList.take k)) ∧ Below B w wr) (fun _ vi _ => s.size - (intOf vi).toNat)
  case atStart => exact ⟨0, by omega, rfl, by simpa [esc] using hown, Below.refl _ _⟩
  case round =>
    obtain ⟨k, hk, rfl, hR, hbel⟩ := hrel
    have HR := hid hR
    have HL : Hid ((l ++ esc (s.data.toList.take k)).length ≤ 3000) := by
      have := esc_take_len s k hk
      unfold Hid
      rw [List.length_append]
      omega
    by_cases hlt : k < s.size
    · have HS := hid (esc_snoc s k hlt)
      clear hR
      go_wp2_with (first | (at_builtin; refine wpList_append_bytes rfl (.tmp 11) (.tmp 15) rfl _ B _ _ rfl (HR.out.alloc _) ⟨wr.heap.size, 0, none⟩ 1 1 [s[k]] rfl rfl (one_new' _ _ _ _ rfl) (by have := HL.out; simp only [List.length_cons, List.length_nil]; omega) (by have := hbel.size; simp; omega) ?_; intro v1 w1 hR1 hb1) | (at_builtin; refine wpList_append_bytes rfl (.tmp 21) (.tmp 22) rfl _ B _ _ rfl (hR1.alloc _) ⟨w1.heap.size, 0, none⟩ 1 1 [255] rfl rfl (one_new' _ _ _ _ rfl) (by have := HL.out; simp only [List.length_append, List.length_cons, List.length_nil] at this ⊢; omega) (by have := hbel.size; have := hb1.size; simp at this ⊢; omega) ?_; intro v2 w2 hR2 hb2))
      · have hz : s[k] = 0 := by
          have h : ((s[k].toNat : Int) == 0) = true := by assumption
          have : s[k].toNat = 0 := by simpa using h
          exact UInt8.toNat_inj.1 this
        go_roundw
        case rel =>
          refine ⟨k + 1, by omega, by go_num, ?_, ((hbel.alloc (by have := hbel.size; omega) _).trans hb1).trans ((below_new _ _).mono (by have := hbel.size; have := hb1.size; simp at this ⊢; omega) |>.trans hb2)⟩
          rw [HS.out, if_pos hz, ← List.append_assoc]
          have := hR2
          rw [List.append_assoc] at this ⊢
          simpa using this
        case measure => simp [intOf]; omega
      · have hz : ¬ s[k] = 0 := by
          have h : ((s[k].toNat : Int) == 0) = false := by assumption
          intro he
          rw [he] at h
          cases h
        go_roundw
        case rel =>
          refine ⟨k + 1, by omega, by go_num, ?_, (hbel.alloc (by have := hbel.size; omega) _).trans hb1⟩
          rw [HS.out, if_neg hz, ← List.append_assoc]
          exact hR1
        case measure => simp [intOf]; omega
    · obtain rfl : k = s.size := by omega
      clear hR
      go_wp2_with (at_builtin; refine wpList_append_bytes rfl (.tmp 25) (.tmp 26) rfl _ B _ _ rfl (HR.out.alloc _) ⟨wr.heap.size, 0, none⟩ 2 2 [0, 1] rfl rfl (two_new _ _ _ _ _ _ rfl rfl) (by have := HL.out; simp only [List.length_cons, List.length_nil]; omega) (by have := hbel.size; simp; omega) ?_; intro v1 w1 hR1 hb1)
      go_ret
      refine ⟨_, rfl, ?_, (hbel.alloc (by have := hbel.size; omega) _).trans hb1⟩
      have := hR1
      rwa [List.take_of_length_le (by simp), List.append_assoc] at this

end Go.Proofs.YtpjkhholpbfbpaaDoor

/- val.Encode for every value: nothing and false for one that isn't right, else new memory with its bytes, and true. Conditions: the tables of unicode/utf8 read as they are laid; the number is of 64 bits. -/
namespace Go.Proofs.YtpjkhholpbfbpaaDoor
open Go.RowKit

set_option maxHeartbeats 1000000 in
theorem vencode_no (k : Int) {n : Int} (hn : inI n) (s : ByteArray) (hs : s.size ≤ 9223372036854775807) (hr : vRight k n s.data.toList = false) (w : World) (hL : LaidU w) :
    Calls Tryd.prog 57 #[.agg #[.int .i64 k, .int .i64 n, .string s]] w fun e w' => e = .returned (.tuple #[.slice none 0 0, .bool false]) ∧ Below w.heap.size w w' := by
  have HV := hid (vright_in k hn s w hs hL)
  rw [hr] at HV
  clear hr hn hL hs
  have HB := hid (below_new w)
  go_enter Tryd.func57, Tryd.ntmps57
  go_wp2_with (go_at_call 66; refine (HV.out _ (HB.out _)).mono ?_; rintro e w1 ⟨rfl, hb1, hb2⟩)
  go_ret2
  exact ⟨rfl, hb1⟩

/-- The byte of a right kind. -/
theorem kind_row (w : World) (B : Nat) (hB : B ≤ w.heap.size) (k : Int) (hk : 0 ≤ k ∧ k < 256) : Row (w.alloc (.cells #[.int .u8 k] 5)) B (.slice (some ⟨w.heap.size, 0, none⟩) 1 1) [UInt8.ofNat k.toNat] := by
  have h := Row.new w B hB [UInt8.ofNat k.toNat] (by unfold maxLen; simp)
  have e : (bc [UInt8.ofNat k.toNat]).toArray = #[.int .u8 k] := by
    have : (((UInt8.ofNat k.toNat).toNat : Nat) : Int) = k := by rw [UInt8.toNat_ofNat']; omega
    simp only [bc, List.map_cons, List.map_nil, this]
  rw [e] at h
  exact h

theorem blk_cells {w : World} {b : Nat} {l : List UInt8} (h : Blk w b 5 (bc l).toArray) : ∀ j u, (bc l)[j]? = some u → w.cell? ((⟨b, 0, none⟩ : Addr).add j) = some u := by
  intro j u hu
  rw [add_zero_off, Nat.zero_add, h.cell, ← hu]
  simp
theorem bcell {W w1 : World} (hb : Below W.heap.size W w1) : (∀ b o, b < W.heap.size → w1.cell? ⟨b, o, none⟩ = W.cell? ⟨b, o, none⟩) ∧ (∀ b o, b < W.heap.size → w1.frozen? ⟨b, o, none⟩ = W.frozen? ⟨b, o, none⟩) :=
  ⟨fun b o h => hb.cell (p := ⟨b, o, none⟩) h, fun b o h => hb.frozen (p := ⟨b, o, none⟩) h⟩

set_option maxHeartbeats 1000000 in
theorem vencode_1 {n : Int} (hn : inI n) (s : ByteArray) (hs : s.size ≤ 9223372036854775807) (hr : vRight 1 n s.data.toList = true) (w : World) (hL : LaidU w) :
    Calls Tryd.prog 57 #[.agg #[.int .i64 1, .int .i64 n, .string s]] w fun e w' => ∃ v, e = .returned (.tuple #[v, .bool true]) ∧ Row w' w.heap.size v (vEnc 1 n s.data.toList) ∧ Below w.heap.size w w' := by
  have HV := hid (vright_in 1 hn s w hs hL)
  rw [hr] at HV
  have HI : Hid (∀ W v l, l.length ≤ 1000 → Row W w.heap.size v l → w.heap.size ≤ W.heap.size → Calls Tryd.prog 88 #[v, .int .i64 n] W fun e w' => ∃ v', e = .returned v' ∧ Row w' w.heap.size v' (l ++ byW 8 (upI n)) ∧ Below w.heap.size W w') := fun W v l hl hR hB => appendInt_any hn w.heap.size v l hl W hR hB
  clear hr hn hL hs
  have HB := hid (below_new w)
  have HK : Hid (∀ W : World, w.heap.size ≤ W.heap.size → Row (W.alloc (.cells #[.int .u8 1] 5)) w.heap.size (.slice (some ⟨W.heap.size, 0, none⟩) 1 1) [1]) := fun W hW => kind_row W w.heap.size hW 1 (by decide)
  go_enter Tryd.func57, Tryd.ntmps57
  go_wp2_with (first | (go_at_call 66; refine (HV.out _ (HB.out _)).mono ?_; rintro e w1 ⟨rfl, hb1, hb2⟩; obtain ⟨hc, hf⟩ := bcell hb2; have hz : w.heap.size < w1.heap.size := (by have := hb2.size; simp at this; omega)) | (go_at_call 88; refine (HI.out _ _ [1] (by decide) (HK.out _ hb1.size) (by have := hb1.size; simp; omega)).mono ?_; rintro e w2 ⟨v2, rfl, hR2, hb3⟩))
  go_ret2
  exact ⟨_, rfl, hR2, hb1.trans (((Below.refl _ _).alloc hb1.size _).trans hb3)⟩

set_option maxHeartbeats 1000000 in
theorem vencode_2 {n : Int} (hn : inI n) (s : ByteArray) (hs : s.size ≤ 9223372036854775807) (hr : vRight 2 n s.data.toList = true) (w : World) (hL : LaidU w) :
    Calls Tryd.prog 57 #[.agg #[.int .i64 2, .int .i64 n, .string s]] w fun e w' => ∃ v, e = .returned (.tuple #[v, .bool true]) ∧ Row w' w.heap.size v (vEnc 2 n s.data.toList) ∧ Below w.heap.size w w' := by
  have HV := hid (vright_in 2 hn s w hs hL)
  have hl : s.size ≤ 1000 := by
    have h1 := right_len hr
    have h2 : s.data.toList.length = s.size := rfl
    omega
  rw [hr] at HV
  have HI : Hid (∀ W v l, l.length ≤ 1000 → Row W w.heap.size v l → w.heap.size ≤ W.heap.size → Calls Tryd.prog 90 #[v, .string s] W fun e w' => ∃ v', e = .returned v' ∧ Row w' w.heap.size v' (l ++ (esc s.data.toList ++ [0, 1])) ∧ Below w.heap.size W w') := fun W v l hll hR hB => appendText_any s hl w.heap.size v l hll W hR hB
  clear hr hn hL hs hl
  have HB := hid (below_new w)
  have HK : Hid (∀ W : World, w.heap.size ≤ W.heap.size → Row (W.alloc (.cells #[.int .u8 2] 5)) w.heap.size (.slice (some ⟨W.heap.size, 0, none⟩) 1 1) [2]) := fun W hW => kind_row W w.heap.size hW 2 (by decide)
  go_enter Tryd.func57, Tryd.ntmps57
  go_wp2_with (first | (go_at_call 66; refine (HV.out _ (HB.out _)).mono ?_; rintro e w1 ⟨rfl, hb1, hb2⟩; obtain ⟨hc, hf⟩ := bcell hb2; have hz : w.heap.size < w1.heap.size := (by have := hb2.size; simp at this; omega)) | (go_at_call 90; refine (HI.out _ _ [2] (by decide) (HK.out _ hb1.size) (by have := hb1.size; simp; omega)).mono ?_; rintro e w2 ⟨v2, rfl, hR2, hb3⟩))
  go_ret2
  exact ⟨_, rfl, hR2, hb1.trans (((Below.refl _ _).alloc hb1.size _).trans hb3)⟩

set_option maxHeartbeats 1000000 in
theorem vencode_3 {n : Int} (hn : inI n) (s : ByteArray) (hs : s.size ≤ 9223372036854775807) (hr : vRight 3 n s.data.toList = true) (w : World) (hL : LaidU w) :
    Calls Tryd.prog 57 #[.agg #[.int .i64 3, .int .i64 n, .string s]] w fun e w' => ∃ v, e = .returned (.tuple #[v, .bool true]) ∧ Row w' w.heap.size v (vEnc 3 n s.data.toList) ∧ Below w.heap.size w w' := by
  have HV := hid (vright_in 3 hn s w hs hL)
  have hl : s.size ≤ 1000 := by
    have h1 := right_len hr
    have h2 : s.data.toList.length = s.size := rfl
    omega
  rw [hr] at HV
  have HI : Hid (∀ W v l, l.length ≤ 1000 → Row W w.heap.size v l → w.heap.size ≤ W.heap.size → Calls Tryd.prog 90 #[v, .string s] W fun e w' => ∃ v', e = .returned v' ∧ Row w' w.heap.size v' (l ++ (esc s.data.toList ++ [0, 1])) ∧ Below w.heap.size W w') := fun W v l hll hR hB => appendText_any s hl w.heap.size v l hll W hR hB
  clear hr hn hL hs hl
  have HB := hid (below_new w)
  have HK : Hid (∀ W : World, w.heap.size ≤ W.heap.size → Row (W.alloc (.cells #[.int .u8 3] 5)) w.heap.size (.slice (some ⟨W.heap.size, 0, none⟩) 1 1) [3]) := fun W hW => kind_row W w.heap.size hW 3 (by decide)
  go_enter Tryd.func57, Tryd.ntmps57
  go_wp2_with (first | (go_at_call 66; refine (HV.out _ (HB.out _)).mono ?_; rintro e w1 ⟨rfl, hb1, hb2⟩; obtain ⟨hc, hf⟩ := bcell hb2; have hz : w.heap.size < w1.heap.size := (by have := hb2.size; simp at this; omega)) | (go_at_call 90; refine (HI.out _ _ [3] (by decide) (HK.out _ hb1.size) (by have := hb1.size; simp; omega)).mono ?_; rintro e w2 ⟨v2, rfl, hR2, hb3⟩))
  go_ret2
  exact ⟨_, rfl, hR2, hb1.trans (((Below.refl _ _).alloc hb1.size _).trans hb3)⟩

set_option maxHeartbeats 1000000 in
theorem vencode_4 {n : Int} (hn : inI n) (s : ByteArray) (hs : s.size ≤ 9223372036854775807) (hr : vRight 4 n s.data.toList = true) (w : World) (hL : LaidU w) :
    Calls Tryd.prog 57 #[.agg #[.int .i64 4, .int .i64 n, .string s]] w fun e w' => ∃ v, e = .returned (.tuple #[v, .bool true]) ∧ Row w' w.heap.size v (vEnc 4 n s.data.toList) ∧ Below w.heap.size w w' := by
  have HV := hid (vright_in 4 hn s w hs hL)
  have h01 : n = 0 ∨ n = 1 := by
    simp [vRight] at hr
    exact hr.2
  rw [hr] at HV
  have HN : Hid (n % 256 = ((UInt8.ofNat n.toNat).toNat : Int)) := by
    unfold Hid
    rcases h01 with rfl | rfl <;> decide
  have HC : Hid (∀ (W : World) (o : Obj), ∀ j u, (bc [UInt8.ofNat n.toNat])[j]? = some u → ((W.alloc o).alloc (.cells #[.int .u8 (n % 256)] 5)).cell? ((⟨W.heap.size + 1, 0, none⟩ : Addr).add j) = some u) := fun W o => by
    have h1 := one_new' (W.alloc o) (UInt8.ofNat n.toNat) 5 _ HN.out
    have h2 : (W.alloc o).heap.size = W.heap.size + 1 := by simp
    rw [h2] at h1
    exact h1
  clear hr hn hL hs h01 HN
  have HB := hid (below_new w)
  have HK : Hid (∀ W : World, w.heap.size ≤ W.heap.size → Row (W.alloc (.cells #[.int .u8 4] 5)) w.heap.size (.slice (some ⟨W.heap.size, 0, none⟩) 1 1) [4]) := fun W hW => kind_row W w.heap.size hW 4 (by decide)
  go_enter Tryd.func57, Tryd.ntmps57
  go_wp2_with (first | (go_at_call 66; refine (HV.out _ (HB.out _)).mono ?_; rintro e w1 ⟨rfl, hb1, hb2⟩; obtain ⟨hc, hf⟩ := bcell hb2; have hz : w.heap.size < w1.heap.size := (by have := hb2.size; simp at this; omega)) | (at_builtin; refine wpList_append_bytes rfl _ _ rfl _ w.heap.size _ _ rfl ((HK.out _ hb1.size).alloc _) ⟨w1.heap.size + 1, 0, none⟩ 1 1 [UInt8.ofNat n.toNat] rfl rfl (HC.out _ _) (by simp) (by have := hb1.size; simp; omega) ?_; intro v2 w2 hR2 hb3))
  go_ret2
  exact ⟨_, rfl, hR2, hb1.trans ((((Below.refl _ _).alloc hb1.size _).alloc (by have := hb1.size; simp; omega) _).trans hb3)⟩

set_option maxHeartbeats 1000000 in
theorem vencode_5 {n : Int} (hn : inI n) (s : ByteArray) (hs : s.size ≤ 9223372036854775807) (hr : vRight 5 n s.data.toList = true) (w : World) (hL : LaidU w) :
    Calls Tryd.prog 57 #[.agg #[.int .i64 5, .int .i64 n, .string s]] w fun e w' => ∃ v, e = .returned (.tuple #[v, .bool true]) ∧ Row w' w.heap.size v (vEnc 5 n s.data.toList) ∧ Below w.heap.size w w' := by
  have HV := hid (vright_in 5 hn s w hs hL)
  have hrb : rightB n = true := by
    simp [vRight] at hr
    exact hr.2
  rw [hr] at HV
  have HF : Hid (∀ (W : World) (b : Nat), W.heap.size = b → Calls Tryd.prog 89 #[.int .i64 n] W fun e w' => e = .returned (.slice (some ⟨b, 0, none⟩) 8 8) ∧ (∀ j u, (bc (byW 8 (rankI n).toNat))[j]? = some u → w'.cell? ((⟨b, 0, none⟩ : Addr).add j) = some u) ∧ Below W.heap.size W w') := fun W b hb => by
    subst hb
    exact (bytes_yes hn hrb W).mono fun e w' ⟨he, hB, hb⟩ => ⟨he, blk_cells hB, hb⟩
  obtain ⟨l, hl⟩ : ∃ l, byW 8 (rankI n).toNat = l := ⟨_, rfl⟩
  have HL : Hid (l.length = 8) := by rw [← hl]; exact byW_len _ _
  have HE : Hid (vEnc 5 n s.data.toList = [5] ++ l) := by rw [← hl]; rfl
  rw [hl] at HF
  clear hr hn hL hs hrb hl
  have HB := hid (below_new w)
  have HK : Hid (∀ W : World, w.heap.size ≤ W.heap.size → Row (W.alloc (.cells #[.int .u8 5] 5)) w.heap.size (.slice (some ⟨W.heap.size, 0, none⟩) 1 1) [5]) := fun W hW => kind_row W w.heap.size hW 5 (by decide)
  go_enter Tryd.func57, Tryd.ntmps57
  go_wp2_with (first | (go_at_call 66; refine (HV.out _ (HB.out _)).mono ?_; rintro e w1 ⟨rfl, hb1, hb2⟩; obtain ⟨hc, hf⟩ := bcell hb2; have hz : w.heap.size < w1.heap.size := (by have := hb2.size; simp at this; omega)) | (go_at_call 89; refine (HF.out _ (w1.heap.size + 1) (by simp)).mono ?_; rintro e w2 ⟨rfl, hBk, hb3⟩; have hR1 : Row w2 w.heap.size (.slice (some ⟨w1.heap.size, 0, none⟩) 1 1) [5] := ((HK.out w1 hb1.size).keep hb3 (fun g hg => by simp [Value.ownBlock] at hg; simp; omega)); have hs2 : w.heap.size ≤ w2.heap.size := (by have := hb3.size; have := hb1.size; simp at *; omega); have HBk := hid hBk; clear hBk) | (at_builtin; refine wpList_append_bytes rfl (.tmp 26) (.tmp 29) rfl _ w.heap.size (.slice (some ⟨w1.heap.size, 0, none⟩) 1 1) [5] rfl hR1 ⟨w1.heap.size + 1, 0, none⟩ 8 8 l HL.out rfl HBk.out (by have := HL.out; simp only [List.length_cons, List.length_nil]; omega) hs2 ?_; intro v2 w2' hR2 hb4))
  go_ret2
  refine ⟨_, rfl, ?_, ?_⟩
  · rw [HE.out]; exact hR2
  · exact hb1.trans ((((Below.refl _ _).alloc hb1.size _).trans (hb3.mono (by simp; omega))).trans hb4)

/-- val.Encode of a right value. -/
theorem vencode_yes (k : Int) {n : Int} (hn : inI n) (s : ByteArray) (hs : s.size ≤ 9223372036854775807) (hr : vRight k n s.data.toList = true) (w : World) (hL : LaidU w) :
    Calls Tryd.prog 57 #[.agg #[.int .i64 k, .int .i64 n, .string s]] w fun e w' => ∃ v, e = .returned (.tuple #[v, .bool true]) ∧ Row w' w.heap.size v (vEnc k n s.data.toList) ∧ Below w.heap.size w w' := by
  rcases right_kind hr with rfl | rfl | rfl | rfl | rfl
  · exact vencode_1 hn s hs hr w hL
  · exact vencode_2 hn s hs hr w hL
  · exact vencode_3 hn s hs hr w hL
  · exact vencode_4 hn s hs hr w hL
  · exact vencode_5 hn s hs hr w hL

end Go.Proofs.YtpjkhholpbfbpaaDoor

/- val.takeText for every row of at most a thousand bytes: the text of which these are the escaped bytes, or nothing. Conditions: the slice holds those bytes. -/
namespace Go.Proofs.YtpjkhholpbfbpaaDoor
open Go.RowKit


/-- Undoes esc. -/
def unesc : List UInt8 → Option (List UInt8)
  | [] => some []
  | c :: l => if c = 0 then (match l with | [] => none | d :: l' => if d = 255 then (unesc l').map (0 :: ·) else none) else (unesc l).map (c :: ·)
theorem unesc_ne {c : UInt8} (h : c ≠ 0) (l : List UInt8) : unesc (c :: l) = (unesc l).map (c :: ·) := by cases l <;> simp [unesc, h]
theorem unesc_one : unesc [0] = none := by simp [unesc]
theorem unesc_two (d : UInt8) (l : List UInt8) : unesc (0 :: d :: l) = if d = 255 then (unesc l).map (0 :: ·) else none := by simp [unesc]
theorem unesc_esc (s : List UInt8) : unesc (esc s) = some s := by
  induction s with
  | nil => rfl
  | cons c l ih =>
    simp only [esc]
    by_cases h : c = 0
    · rw [if_pos h, unesc_two, if_pos rfl, ih, h]
      rfl
    · rw [if_neg h, unesc_ne h, ih]
      rfl
theorem esc_unesc : ∀ (n : Nat) (l s : List UInt8), l.length ≤ n → unesc l = some s → esc s = l := by
  intro n
  induction n with
  | zero =>
    intro l s hn h
    have : l = [] := List.length_eq_zero_iff.1 (by omega)
    subst this
    simp [unesc] at h
    subst h
    rfl
  | succ n ih =>
    intro l s hn h
    cases l with
    | nil =>
      simp [unesc] at h
      subst h
      rfl
    | cons c l =>
      by_cases hc : c = 0
      · subst hc
        cases l with
        | nil => rw [unesc_one] at h; cases h
        | cons d l' =>
          rw [unesc_two] at h
          by_cases hd : d = 255
          · rw [if_pos hd] at h
            obtain ⟨t, ht, rfl⟩ := Option.map_eq_some_iff.1 h
            simp only [esc, if_pos]
            rw [ih l' t (by simp at hn; omega) ht, hd]
          · rw [if_neg hd] at h; cases h
      · rw [unesc_ne hc] at h
        obtain ⟨t, ht, rfl⟩ := Option.map_eq_some_iff.1 h
        simp only [esc]
        rw [if_neg hc, ih l t (by simp at hn; omega) ht]
/-- The text behind a kind. -/
def unText (l : List UInt8) : Option (List UInt8) :=
  if l.length < 2 then none else if l.getD (l.length - 2) 0 = 0 ∧ l.getD (l.length - 1) 0 = 1 then unesc (l.take (l.length - 2)) else none
def takeEnd : Option (List UInt8) → Ending
  | some s => .returned (.tuple #[.string ⟨s.toArray⟩, .bool true])
  | none => .returned (.tuple #[.string ⟨#[]⟩, .bool false])

theorem row_convert {w : World} {B : Nat} {v : Value} {l : List UInt8} (h : Row w B v l) : (convert 22 9 v).run Tryd.prog w = .ok (.string ⟨l.toArray⟩) w := by
  by_cases hl : 0 < l.length
  · obtain ⟨g, cap, rfl, _, _, _, hc⟩ := h.form hl
    refine run_convert_bytes_back _ 22 9 5 _ _ _ Tryd.underlying22 Tryd.underlying5 Tryd.underlying9 ?_
    intro j hj
    rw [add_zero_off, Nat.zero_add, hc j hj]
    simp [List.getElem?_eq_getElem hj]
  · have : l = [] := List.length_eq_zero_iff.1 (by omega)
    subst this
    rcases h.2 with ⟨rfl, _⟩ | ⟨g, cap, cur, rfl, _, hh, _⟩
    · exact run_convert_bytes_nil w 22 5 Tryd.underlying22 Tryd.underlying5 0 0 9 Tryd.underlying9
    · exact run_convert_bytes_back w 22 9 5 ⟨g, 0, none⟩ cap [] Tryd.underlying22 Tryd.underlying5 Tryd.underlying9 (fun j hj => absurd hj (by simp))

theorem make_row (W : World) (B : Nat) (hB : B ≤ W.heap.size) (n : Nat) (hn : n ≤ 1000000) : ∃ w', (Instr.makeSlice 22 (.int .i64 0) (.int .i64 (n : Int))).run Tryd.prog W = .ok (.slice (some ⟨W.heap.size, 0, none⟩) 0 n) w' ∧ Row w' B (.slice (some ⟨W.heap.size, 0, none⟩) 0 n) [] ∧ Below B W w' := by
  obtain ⟨i0, hi, hz0, hz1, hz2⟩ := info_parts info_u8
  obtain ⟨w', h1, h2, h3⟩ := run_make_own (P := Tryd.prog) W B 22 5 i0 (.int .u8 0) 1 Tryd.underlying22 hi hz0 hz1 .i64 .i64 n (by rw [hz2]; omega) (by unfold maxLen; omega) hB
  exact ⟨w', h1, h2, (Below.refl _ _).grown h3 hB (fun k hk => by cases hk)⟩

set_option maxHeartbeats 1000000 in
theorem takeText_short {a : Option Addr} (n c : Nat) (hn : n < 2) (w : World) :
    Calls Tryd.prog 119 #[.slice a n c] w fun e w' => e = takeEnd none ∧ w = w' := by
  rcases (show n = 0 ∨ n = 1 by omega) with rfl | rfl
  · go_enter Tryd.func119, Tryd.ntmps119
    go_wp2
    go_ret2
    exact ⟨rfl, rfl⟩
  · go_enter Tryd.func119, Tryd.ntmps119
    go_wp2
    go_ret2
    exact ⟨rfl, rfl⟩

set_option maxHeartbeats 1000000 in
set_option maxRecDepth 100000 in
theorem takeText_end (b off m c x y : Nat) (hm : m ≤ 4000) (w : World) (h1 : w.cell? ⟨b, off + m, none⟩ = some (.int .u8 (x : Int))) (h2 : w.cell? ⟨b, off + (m + 1), none⟩ = some (.int .u8 (y : Int))) (hxy : ¬ (x = 0 ∧ y = 1)) :
    Calls Tryd.prog 119 #[.slice (some ⟨b, off, none⟩) (m + 2) c] w fun e w' => e = takeEnd none ∧ w = w' := by
  by_cases hx : x = 0
  · have hy : ((y : Int) != 1) = true := by simpa using fun h => hxy ⟨hx, by omega⟩
    have hx' : ((x : Int) != 0) = false := by simp [hx]
    clear hxy hx
    go_enter Tryd.func119, Tryd.ntmps119
    go_wp2
    go_ret2
    exact ⟨rfl, rfl⟩
  · have hx' : ((x : Int) != 0) = true := by simpa using hx
    clear hxy hx
    go_enter Tryd.func119, Tryd.ntmps119
    go_wp2
    go_ret2
    exact ⟨rfl, rfl⟩

theorem unesc_take (body : List UInt8) (i : Nat) (h : i < body.length) : unesc (body.drop i) = if body.getD i 0 = 0 then (if i + 1 < body.length then (if body.getD (i + 1) 0 = 255 then (unesc (body.drop (i + 2))).map (0 :: ·) else none) else none) else (unesc (body.drop (i + 1))).map (body.getD i 0 :: ·) := by
  have e : ∀ k, k < body.length → body.getD k 0 = body[k]! := fun k hk => by simp [List.getElem?_eq_getElem hk]
  rw [List.drop_eq_getElem_cons h]
  have e1 : body.getD i 0 = body[i] := by simp [List.getElem?_eq_getElem h]
  rw [e1]
  by_cases hc : body[i] = 0
  · rw [if_pos hc, hc]
    by_cases h2 : i + 1 < body.length
    · rw [if_pos h2, List.drop_eq_getElem_cons h2, unesc_two]
      have e2 : body.getD (i + 1) 0 = body[i + 1] := by simp [List.getElem?_eq_getElem h2]
      rw [e2]
    · rw [if_neg h2, List.drop_of_length_le (by omega), unesc_one]
  · rw [if_neg hc, unesc_ne hc]

theorem map_nil (o : Option (List UInt8)) : o = o.map ([] ++ ·) := by cases o <;> rfl
/-- What the loop knows. -/
def TInv (body : List UInt8) (B m : Nat) (w : World) (vb vi : Value) (wr : World) : Prop :=
  ∃ (i : Nat) (out : List UInt8), i ≤ m ∧ out.length ≤ i ∧ vi = .int .i64 i ∧ Row wr B vb out ∧ Below B w wr ∧ unesc body = (unesc (body.drop i)).map (out ++ ·)

set_option maxHeartbeats 2000000 in
set_option maxRecDepth 100000 in
theorem takeText_go (l : List UInt8) (b off m c : Nat) (hm : m ≤ 4000) (hl : l.length = m + 2) (w : World) (hh : Holds w b off l) (h1 : l.getD m 0 = 0) (h2 : l.getD (m + 1) 0 = 1) :
    Calls Tryd.prog 119 #[.slice (some ⟨b, off, none⟩) (m + 2) c] w fun e w' => e = takeEnd (unesc (l.take m)) ∧ Below w.heap.size w w' := by
  have hcm := hh m (by omega)
  have hcm1 := hh (m + 1) (by omega)
  rw [h1] at hcm
  rw [h2] at hcm1
  have hcm' : w.cell? ⟨b, off + m, none⟩ = some (.int .u8 0) := hcm
  have hcm1' : w.cell? ⟨b, off + (m + 1), none⟩ = some (.int .u8 1) := hcm1
  obtain ⟨W0, hmk, hR0, hb0⟩ := make_row w w.heap.size (Nat.le_refl _) m (by omega)
  have hlt := hh.lt (by omega)
  have HH := hid hh
  have HL := hid hl
  have H1 := hid h1
  clear hcm hcm1 hl hh h1 h2
  have hd0 : decide ((m : Int) < 0) = false := decide_eq_false (by omega)
  go_enter Tryd.func119, Tryd.ntmps119
  go_wp2
  clear hmk hcm' hcm1' hd0
  have HLb : Hid ((l.take m).length = m) := by unfold Hid; rw [List.length_take, HL.out]; omega
  have HG : Hid (∀ i, i < m → (l.take m).getD i 0 = l.getD i 0) := fun i hi => by
    rw [List.getD_eq_getElem?_getD, List.getD_eq_getElem?_getD, List.getElem?_take_of_lt hi]
  go_loopw [5, 6] (fun vb vi wr => TInv (l.take m) w.heap.size m w vb vi wr) (fun _ vi _ => m - (intOf vi).toNat)
  case atStart => exact ⟨0, [], by omega, by simp, rfl, hR0, hb0, map_nil _⟩
  case round =>
    obtain ⟨i, out, hi, ho, rfl, hR, hbel, hu⟩ := hrel
    have HR := hid hR
    have HU := hid hu
    clear hR hu hR0 hb0
    have hsz := hbel.size
    by_cases him : i < m
    · have HT := hid (unesc_take (l.take m) i (by rw [HLb.out]; exact him))
      have hcx := HH.out.below hbel hlt i (by rw [HL.out]; omega)
      obtain ⟨x, hx⟩ : ∃ x, l.getD i 0 = x := ⟨_, rfl⟩
      have HX := hid hx
      rw [hx] at hcx
      clear hx
      have HC : Hid (∀ W, Below w.heap.size wr W → W.cell? ⟨b, off + i, none⟩ = some (.int .u8 (x.toNat : Int))) := fun W hW => by
        rw [hW.cell (p := ⟨b, off + i, none⟩) hlt]; exact hcx
      by_cases hx0 : x = 0
      · have hx0' : ((x.toNat : Int) != 0) = false := by rw [hx0]; rfl
        have HX0 := hid hx0
        clear hx0
        obtain ⟨y, hy⟩ : ∃ y, l.getD (i + 1) 0 = y := ⟨_, rfl⟩
        have HY := hid hy
        have HCy : Hid (∀ W, Below w.heap.size wr W → W.cell? ⟨b, off + (i + 1), none⟩ = some (.int .u8 (y.toNat : Int))) := fun W hW => by
          rw [hW.cell (p := ⟨b, off + (i + 1), none⟩) hlt, ← hy]
          exact HH.out.below hbel hlt (i + 1) (by rw [HL.out]; omega)
        clear hy
        by_cases hy255 : y = 255
        · have hy' : ((y.toNat : Int) != 255) = false := by rw [hy255]; rfl
          have him1 : i + 1 < m := by
            rcases Nat.lt_or_ge (i + 1) m with h | h
            · exact h
            · have : i + 1 = m := by omega
              have h1 := HY.out
              rw [this, H1.out] at h1
              rw [← h1] at hy255
              cases hy255
          have HE : Hid (unesc (l.take m) = (unesc ((l.take m).drop (i + 2))).map ((out ++ [x]) ++ ·)) := by
            have h1 := HU.out
            rw [HT.out, HG.out i him, HX.out, if_pos HX0.out, HLb.out, if_pos him1, HG.out (i + 1) him1, HY.out, if_pos hy255] at h1
            show _ = _
            rw [h1, Option.map_map, HX0.out]
            congr 1
            funext z
            simp
          clear hy255
          go_wp2_with (at_builtin; refine wpList_append_bytes rfl (.tmp 34) (.tmp 39) rfl _ w.heap.size _ _ rfl (HR.out.alloc _) ⟨wr.heap.size, 0, none⟩ 1 1 [x] rfl rfl (one_new' _ _ _ _ rfl) (by simp only [List.length_cons, List.length_nil]; omega) (by simp; omega) ?_; intro v1 w1 hR1 hb1; have hbw : Below w.heap.size wr w1 := (((Below.refl _ _).alloc hsz _).trans hb1); have hc1 := HC.out w1 hbw; have hc2 := HCy.out w1 hbw)
          go_roundw
          case rel =>
            refine ⟨i + 2, out ++ [x], by omega, by simp; omega, by go_num, hR1, hbel.trans hbw, HE.out⟩
          case measure => simp [intOf]; omega
        · have hy' : ((y.toNat : Int) != 255) = true := by
            simp only [bne_iff_ne, ne_eq]
            intro h
            exact hy255 (UInt8.toNat_inj.1 (by have : (255 : UInt8).toNat = 255 := rfl; omega))
          have HE : Hid (unesc (l.take m) = none) := by
            have h1 := HU.out
            rw [HT.out, HG.out i him, HX.out, if_pos HX0.out] at h1
            show _ = _
            rw [h1, HLb.out]
            by_cases h2 : i + 1 < m
            · rw [if_pos h2, HG.out (i + 1) h2, HY.out, if_neg hy255]; rfl
            · rw [if_neg h2]; rfl
          clear hy255
          go_wp2_with (at_builtin; refine wpList_append_bytes rfl (.tmp 34) (.tmp 39) rfl _ w.heap.size _ _ rfl (HR.out.alloc _) ⟨wr.heap.size, 0, none⟩ 1 1 [x] rfl rfl (one_new' _ _ _ _ rfl) (by simp only [List.length_cons, List.length_nil]; omega) (by simp; omega) ?_; intro v1 w1 hR1 hb1; have hbw : Below w.heap.size wr w1 := (((Below.refl _ _).alloc hsz _).trans hb1); have hc1 := HC.out w1 hbw; have hc2 := HCy.out w1 hbw)
          go_ret2
          rw [HE.out]
          exact ⟨rfl, hbel.trans hbw⟩
      · have hx0' : ((x.toNat : Int) != 0) = true := by
          simp only [bne_iff_ne, ne_eq]
          intro h
          exact hx0 (UInt8.toNat_inj.1 (by have : (0 : UInt8).toNat = 0 := rfl; omega))
        have HE : Hid (unesc (l.take m) = (unesc ((l.take m).drop (i + 1))).map ((out ++ [x]) ++ ·)) := by
          have h1 := HU.out
          rw [HT.out, HG.out i him, HX.out, if_neg hx0] at h1
          show _ = _
          rw [h1, Option.map_map]
          congr 1
          funext z
          simp
        clear hx0
        go_wp2_with (at_builtin; refine wpList_append_bytes rfl (.tmp 34) (.tmp 39) rfl _ w.heap.size _ _ rfl (HR.out.alloc _) ⟨wr.heap.size, 0, none⟩ 1 1 [x] rfl rfl (one_new' _ _ _ _ rfl) (by simp only [List.length_cons, List.length_nil]; omega) (by simp; omega) ?_; intro v1 w1 hR1 hb1; have hbw : Below w.heap.size wr w1 := (((Below.refl _ _).alloc hsz _).trans hb1); have hc1 := HC.out w1 hbw)
        go_roundw
        case rel =>
          refine ⟨i + 1, out ++ [x], by omega, by simp; omega, by go_num, hR1, hbel.trans hbw, HE.out⟩
        case measure => simp [intOf]; omega
    · obtain rfl : i = m := by omega
      have hcv := row_convert HR.out
      have HE : Hid (unesc (l.take i) = some out) := by
        show _ = _
        rw [HU.out, List.drop_of_length_le (by rw [HLb.out]; omega)]
        simp [unesc]
      go_wp2
      go_ret2
      rw [HE.out]
      exact ⟨rfl, hbel⟩

/-- val.takeText, for every row. -/
theorem takeText_any (l : List UInt8) (b off c : Nat) (hl : l.length ≤ 4000) (w : World) (hh : Holds w b off l) :
    Calls Tryd.prog 119 #[.slice (some ⟨b, off, none⟩) l.length c] w fun e w' => e = takeEnd (unText l) ∧ Below w.heap.size w w' := by
  by_cases h2 : l.length < 2
  · unfold unText
    rw [if_pos h2]
    exact (takeText_short l.length c h2 w).mono fun _ _ ⟨he, hw⟩ => ⟨he, by subst hw; exact Below.refl _ _⟩
  · obtain ⟨m, hm⟩ : ∃ m, l.length = m + 2 := ⟨l.length - 2, by omega⟩
    unfold unText
    rw [if_neg h2, hm, Nat.add_sub_cancel, show m + 2 - 1 = m + 1 by omega]
    by_cases h3 : l.getD m 0 = 0 ∧ l.getD (m + 1) 0 = 1
    · rw [if_pos h3]
      exact takeText_go l b off m c (by omega) hm w hh h3.1 h3.2
    · rw [if_neg h3]
      refine (takeText_end b off m c (l.getD m 0).toNat (l.getD (m + 1) 0).toNat (by omega) w (hh m (by omega)) (hh (m + 1) (by omega)) ?_).mono fun _ _ ⟨he, hw⟩ => ⟨he, by subst hw; exact Below.refl _ _⟩
      intro h
      exact h3 ⟨UInt8.toNat_inj.1 h.1, UInt8.toNat_inj.1 h.2⟩

end Go.Proofs.YtpjkhholpbfbpaaDoor

/- val.takeInt and val.decode for every row of at most a thousand bytes. Conditions: the slice holds those bytes. -/
namespace Go.Proofs.YtpjkhholpbfbpaaDoor
open Go.RowKit

theorem xor_down {r : Int} (h0 : 0 ≤ r) (h : r < 18446744073709551616) : wrap64 (bits .xor .u64 r 9223372036854775808) = r - 9223372036854775808 := by
  rw [u64_xor _ _ (by omega) (by omega) (by omega) (by omega), show (9223372036854775808 : Int).toNat = 2 ^ 63 from rfl]
  by_cases hr : r < 9223372036854775808
  · rw [xor_top _ (by omega)]
    unfold wrap64
    omega
  · obtain ⟨m, hm⟩ : ∃ m : Nat, r - 9223372036854775808 = m := ⟨(r - 9223372036854775808).toNat, by omega⟩
    have e : r.toNat = m ^^^ 2 ^ 63 := by rw [xor_top m (by omega)]; omega
    rw [e, Nat.xor_assoc, Nat.xor_self, Nat.xor_zero]
    unfold wrap64
    omega

set_option maxHeartbeats 1000000 in
theorem takeInt_no {a : Option Addr} (n c : Nat) (hn : n ≠ 8) (w : World) :
    Calls Tryd.prog 117 #[.slice a n c] w fun e w' => e = .returned (.tuple #[.int .i64 0, .bool false]) ∧ w = w' := by
  have h8 : ((n : Int) != 8) = true := by simp only [bne_iff_ne, ne_eq]; omega
  go_enter Tryd.func117, Tryd.ntmps117
  go_wp2
  go_ret2
  exact ⟨rfl, rfl⟩

set_option maxHeartbeats 1000000 in
set_option maxRecDepth 100000 in
theorem takeInt_yes (l : List UInt8) (hl : l.length = 8) (b off c : Nat) (w : World) (hh : Holds w b off l) :
    Calls Tryd.prog 117 #[.slice (some ⟨b, off, none⟩) 8 c] w fun e w' => e = .returned (.tuple #[.int .i64 ((foldB l : Int) - 9223372036854775808), .bool true]) ∧ w = w' := by
  have HL := hid hl
  have HC : Hid (∀ i, i < 8 → w.cell? ⟨b, off + i, none⟩ = some (.int .u8 ((l.getD i 0).toNat : Int))) := fun i hi => hh i (by omega)
  clear hl hh
  go_enter Tryd.func117, Tryd.ntmps117
  go_wp2
  go_loop [4, 12] (fun vr vi => ∃ (k : Nat) (r : Int), k ≤ 8 ∧ vr = .int .u64 r ∧ vi = .int .i64 k ∧ 0 ≤ r ∧ r = foldB (l.take k)) (fun _ vi => 8 - (intOf vi).toNat)
  case atStart => exact ⟨0, 0, by omega, rfl, rfl, by omega, rfl⟩
  case round =>
    obtain ⟨k, r, hk, rfl, rfl, hr0, hr⟩ := hrel
    by_cases hlt : k < 8
    · have hb : r < 72057594037927936 := by
        have h1 := foldB_lt (l.take k)
        have h2 : (l.take k).length ≤ 7 := by rw [List.length_take]; omega
        have h3 : 256 ^ (l.take k).length ≤ 256 ^ 7 := Nat.pow_le_pow_right (by omega) h2
        rw [hr]
        omega
      have hcell := HC.out k hlt
      have hx := (l.getD k 0).toNat_lt
      obtain ⟨x, hxe⟩ : ∃ x, (l.getD k 0).toNat = x := ⟨_, rfl⟩
      rw [hxe] at hcell hx
      have hor := or_byte hr0 hb x (by omega)
      have HN : Hid (r * 256 + x = ((foldB (l.take (k + 1)) : Nat) : Int)) := hid (by rw [foldB_take l k (by rw [HL.out]; exact hlt), hxe, hr]; omega)
      have hx2 : x ≤ 255 := by omega
      clear hr hxe hx
      go_wp2
      go_round
      case rel => exact ⟨k + 1, r * 256 + x, by omega, rfl, by go_num, by omega, HN.out⟩
      case measure => simp [intOf]; omega
    · obtain rfl : k = 8 := by omega
      have hr8 : r = foldB l := by rw [hr, List.take_of_length_le (by rw [HL.out]; omega)]
      have hb : r < 18446744073709551616 := by
        have h1 := foldB_lt l
        rw [HL.out] at h1
        rw [hr8]
        have : (256 : Nat) ^ 8 = 18446744073709551616 := by decide
        omega
      have HX := hid (xor_down hr0 hb)
      have HR8 := hid hr8
      clear hr hr8 hb hr0
      obtain ⟨X, hX⟩ : ∃ X, bits .xor .u64 r 9223372036854775808 = X := ⟨_, rfl⟩
      rw [hX] at HX
      go_wp2
      go_ret2
      refine ⟨?_, rfl⟩
      have e : wrap64 X = (foldB l : Int) - 9223372036854775808 := by rw [HX.out, HR8.out]
      rw [← e]
      rfl

/-- The value behind a kind, by its bytes. -/
def decV (k : Int) (l : List UInt8) : Option (Int × List UInt8) :=
  if k = 1 then (if l.length = 8 then some ((foldB l : Int) - 9223372036854775808, []) else none)
  else if k = 5 then (if l.length = 8 then (if rightB (unrankI (foldB l)) = true then some (unrankI (foldB l), []) else none) else none)
  else if k = 4 then (if l.length = 1 then some (((l.getD 0 0).toNat : Int), []) else none)
  else if k = 2 ∨ k = 3 then (unText l).map fun s => (0, s)
  else none
def decEnd (k : Int) : Option (Int × List UInt8) → Ending
  | some (n, s) => .returned (.tuple #[.agg #[.int .i64 k, .int .i64 n, .string ⟨s.toArray⟩], .bool true])
  | none => .returned (.tuple #[.agg #[.int .i64 k, .int .i64 0, .string ⟨#[]⟩], .bool false])


theorem below2 (w : World) (o1 o2 : Obj) : Below w.heap.size w ((w.alloc o1).alloc o2) := (below_new w o1).alloc (by simp) o2

theorem cell_set_same {w : World} {a : Addr} {u : Value} (h : (w.cell? a).isSome = true) : (w.setCell a u).cell? a = some u := by
  obtain ⟨v, hv⟩ := Option.isSome_iff_exists.1 h
  exact World.cell?_setCell_same w a u hv
theorem addr_ne {g h i j : Nat} (hn : g ≠ h ∨ i ≠ j) : (⟨g, i, none⟩ : Addr) ≠ ⟨h, j, none⟩ := by
  intro e
  injection e with e1 e2
  omega
/-- Three cells of one block written, one behind the other. -/
theorem cell_set3 {w1 : World} {h : Nat} {a b c a0 b0 c0 : Value} (h0 : w1.cell? ⟨h, 0, none⟩ = some a0) (h1 : w1.cell? ⟨h, 1, none⟩ = some b0) (h2 : w1.cell? ⟨h, 2, none⟩ = some c0) :
    (((w1.setCell ⟨h, 0, none⟩ a).setCell ⟨h, 1, none⟩ b).setCell ⟨h, 2, none⟩ c).cell? ⟨h, 0, none⟩ = some a ∧ (((w1.setCell ⟨h, 0, none⟩ a).setCell ⟨h, 1, none⟩ b).setCell ⟨h, 2, none⟩ c).cell? ⟨h, 1, none⟩ = some b ∧
    (((w1.setCell ⟨h, 0, none⟩ a).setCell ⟨h, 1, none⟩ b).setCell ⟨h, 2, none⟩ c).cell? ⟨h, 2, none⟩ = some c ∧ ∀ g j, g ≠ h → (((w1.setCell ⟨h, 0, none⟩ a).setCell ⟨h, 1, none⟩ b).setCell ⟨h, 2, none⟩ c).cell? ⟨g, j, none⟩ = w1.cell? ⟨g, j, none⟩ := by
  refine ⟨?_, ?_, ?_, fun g j hg => ?_⟩
  · rw [World.cell?_setCell_other _ _ _ _ (addr_ne (Or.inr (by omega))), World.cell?_setCell_other _ _ _ _ (addr_ne (Or.inr (by omega)))]
    exact World.cell?_setCell_same _ _ _ h0
  · rw [World.cell?_setCell_other _ _ _ _ (addr_ne (Or.inr (by omega)))]
    exact World.cell?_setCell_same _ _ _ ((World.cell?_setCell_other _ _ _ _ (addr_ne (Or.inr (by omega)))).trans h1)
  · exact World.cell?_setCell_same _ _ _ ((World.cell?_setCell_other _ _ _ _ (addr_ne (Or.inr (by omega)))).trans ((World.cell?_setCell_other _ _ _ _ (addr_ne (Or.inr (by omega)))).trans h2))
  · rw [World.cell?_setCell_other _ _ _ _ (addr_ne (by omega)), World.cell?_setCell_other _ _ _ _ (addr_ne (by omega)), World.cell?_setCell_other _ _ _ _ (addr_ne (by omega))]
theorem below_get {w w1 : World} (h : Below w.heap.size w w1) : w.heap.size ≤ w1.heap.size := h.size

set_option maxHeartbeats 1000000 in
/-- The kinds of one number: whatever takeInt answers. -/
theorem decode_1 (A : Option Addr) (n c : Nat) (N : Int) (ok : Bool) (w : World) (HT : Hid (∀ W, Below w.heap.size w W → Calls Tryd.prog 117 #[.slice A n c] W fun e w' => e = .returned (.tuple #[.int .i64 N, .bool ok]) ∧ W = w')) :
    Calls Tryd.prog 97 #[.int .i64 1, .slice A n c] w fun e w' => e = .returned (.tuple #[.agg #[.int .i64 1, .int .i64 N, .string ⟨#[]⟩], .bool ok]) ∧ Below w.heap.size w w' := by
  have HB := hid (below2 w)
  go_enter Tryd.func97, Tryd.ntmps97
  go_wp2_with (go_at_call 117; refine (HT.out _ (HB.out _ _)).mono ?_; rintro e w' ⟨rfl, rfl⟩)
  exact bodyPost_ret (v := .tuple #[.agg #[.int .i64 1, .int .i64 N, .string ⟨#[]⟩], .bool ok]) (by simp [results, Tryd.results97, go_sem]) rfl ⟨rfl, HB.out _ _⟩

set_option maxHeartbeats 1000000 in
theorem decode_5 (A : Option Addr) (n c : Nat) (N : Int) (ok : Bool) (w : World) (HT : Hid (∀ W, Below w.heap.size w W → Calls Tryd.prog 118 #[.slice A n c] W fun e w' => e = .returned (.tuple #[.int .i64 N, .bool ok]) ∧ W = w')) :
    Calls Tryd.prog 97 #[.int .i64 5, .slice A n c] w fun e w' => e = .returned (.tuple #[.agg #[.int .i64 5, .int .i64 N, .string ⟨#[]⟩], .bool ok]) ∧ Below w.heap.size w w' := by
  have HB := hid (below2 w)
  go_enter Tryd.func97, Tryd.ntmps97
  go_wp2_with (go_at_call 118; refine (HT.out _ (HB.out _ _)).mono ?_; rintro e w' ⟨rfl, rfl⟩)
  exact bodyPost_ret (v := .tuple #[.agg #[.int .i64 5, .int .i64 N, .string ⟨#[]⟩], .bool ok]) (by simp [results, Tryd.results97, go_sem]) rfl ⟨rfl, HB.out _ _⟩

set_option maxHeartbeats 1000000 in
theorem decode_4_no (A : Option Addr) (n c : Nat) (hn : n ≠ 1) (w : World) :
    Calls Tryd.prog 97 #[.int .i64 4, .slice A n c] w fun e w' => e = .returned (.tuple #[.agg #[.int .i64 4, .int .i64 0, .string ⟨#[]⟩], .bool false]) ∧ Below w.heap.size w w' := by
  have HB := hid (below2 w)
  have h1 : ((n : Int) == 1) = false := by simp only [beq_eq_false_iff_ne, ne_eq]; omega
  go_enter Tryd.func97, Tryd.ntmps97
  go_wp2
  exact bodyPost_ret (v := .tuple #[.agg #[.int .i64 4, .int .i64 0, .string ⟨#[]⟩], .bool false]) (by simp [results, Tryd.results97, go_sem]) rfl ⟨rfl, HB.out _ _⟩

set_option maxHeartbeats 1000000 in
theorem decode_4_yes (b off c x : Nat) (hx : x < 256) (w : World) (hc : w.cell? ⟨b, off, none⟩ = some (.int .u8 (x : Int))) :
    Calls Tryd.prog 97 #[.int .i64 4, .slice (some ⟨b, off, none⟩) 1 c] w fun e w' => e = .returned (.tuple #[.agg #[.int .i64 4, .int .i64 (x : Int), .string ⟨#[]⟩], .bool true]) ∧ Below w.heap.size w w' := by
  have HB := hid (below2 w)
  have hlt := cell_lt hc
  have hc2 : ∀ o1 o2, ((w.alloc o1).alloc o2).cell? ⟨b, off, none⟩ = some (.int .u8 (x : Int)) := fun o1 o2 => by
    rw [(below2 w o1 o2).cell (p := ⟨b, off, none⟩) hlt]; exact hc
  clear hc
  go_enter Tryd.func97, Tryd.ntmps97
  go_wp2
  exact bodyPost_ret (v := .tuple #[.agg #[.int .i64 4, .int .i64 (x : Int), .string ⟨#[]⟩], .bool true]) (by simp [results, Tryd.results97, go_sem]) rfl ⟨rfl, HB.out _ _⟩

set_option maxHeartbeats 1000000 in
theorem decode_0 (k : Int) (A : Option Addr) (n c : Nat) (h1 : (k == 1) = false) (h2 : (k == 2) = false) (h3 : (k == 3) = false) (h4 : (k == 4) = false) (h5 : (k == 5) = false) (w : World) :
    Calls Tryd.prog 97 #[.int .i64 k, .slice A n c] w fun e w' => e = .returned (.tuple #[.agg #[.int .i64 k, .int .i64 0, .string ⟨#[]⟩], .bool false]) ∧ Below w.heap.size w w' := by
  have HB := hid (below2 w)
  go_enter Tryd.func97, Tryd.ntmps97
  go_wp2
  exact bodyPost_ret (v := .tuple #[.agg #[.int .i64 k, .int .i64 0, .string ⟨#[]⟩], .bool false]) (by simp [results, Tryd.results97, go_sem]) rfl ⟨rfl, HB.out _ _⟩

set_option maxHeartbeats 1000000 in
theorem decode_2 (A : Option Addr) (n c : Nat) (S : ByteArray) (ok : Bool) (w : World) (HT : Hid (∀ W, Below w.heap.size w W → Calls Tryd.prog 119 #[.slice A n c] W fun e w' => e = .returned (.tuple #[.string S, .bool ok]) ∧ Below W.heap.size W w')) :
    Calls Tryd.prog 97 #[.int .i64 2, .slice A n c] w fun e w' => e = .returned (.tuple #[.agg #[.int .i64 2, .int .i64 0, .string S], .bool ok]) ∧ Below w.heap.size w w' := by
  have HB := hid (below2 w)
  go_enter Tryd.func97, Tryd.ntmps97
  go_wp2_with (go_at_call 119; refine (HT.out _ (HB.out _ _)).mono ?_; rintro e w1 ⟨rfl, hb1⟩; obtain ⟨hc, hf⟩ := bcell hb1; have hz : w.heap.size + 1 < w1.heap.size := (by have := hb1.size; simp at this; omega); have g0 := hc w.heap.size 0 (by simp; omega); have g1 := hc w.heap.size 1 (by simp; omega); have g2 := hc w.heap.size 2 (by simp; omega))
  simp at g0 g1 g2
  refine bodyPost_ret (v := .tuple #[.agg #[.int .i64 2, .int .i64 0, .string S], .bool ok]) (by simp [results, Tryd.results97, go_sem, cell_set_same, g0, g1, g2]) rfl ⟨rfl, ?_⟩
  exact ((((((HB.out _ _).trans (hb1.mono (by simp; omega))).setCell (by simp) _).setCell (by simp) _).setCell (by simp) _).setCell (by simp) _)

set_option maxHeartbeats 1000000 in
theorem decode_3 (A : Option Addr) (n c : Nat) (S : ByteArray) (ok : Bool) (w : World) (HT : Hid (∀ W, Below w.heap.size w W → Calls Tryd.prog 119 #[.slice A n c] W fun e w' => e = .returned (.tuple #[.string S, .bool ok]) ∧ Below W.heap.size W w')) :
    Calls Tryd.prog 97 #[.int .i64 3, .slice A n c] w fun e w' => e = .returned (.tuple #[.agg #[.int .i64 3, .int .i64 0, .string S], .bool ok]) ∧ Below w.heap.size w w' := by
  have HB := hid (below2 w)
  go_enter Tryd.func97, Tryd.ntmps97
  go_wp2_with (go_at_call 119; refine (HT.out _ (HB.out _ _)).mono ?_; rintro e w1 ⟨rfl, hb1⟩; obtain ⟨hc, hf⟩ := bcell hb1; have hz : w.heap.size + 1 < w1.heap.size := (by have := hb1.size; simp at this; omega); have g0 := hc w.heap.size 0 (by simp; omega); have g1 := hc w.heap.size 1 (by simp; omega); have g2 := hc w.heap.size 2 (by simp; omega))
  simp at g0 g1 g2
  refine bodyPost_ret (v := .tuple #[.agg #[.int .i64 3, .int .i64 0, .string S], .bool ok]) (by simp [results, Tryd.results97, go_sem, cell_set_same, g0, g1, g2]) rfl ⟨rfl, ?_⟩
  exact ((((((HB.out _ _).trans (hb1.mono (by simp; omega))).setCell (by simp) _).setCell (by simp) _).setCell (by simp) _).setCell (by simp) _)

end Go.Proofs.YtpjkhholpbfbpaaDoor

/- float.From at a slice anywhere in memory. Conditions: the slice holds those bytes. -/
namespace Go.Proofs.YtpjkhholpbfbpaaDoor
open Go.RowKit

set_option maxHeartbeats 1000000 in
set_option maxRecDepth 100000 in
theorem from_off (l : List UInt8) (hl : l.length = 8) (b off c : Nat) (w : World) (hcells : ∀ i, i < 8 → w.cell? ⟨b, off + i, none⟩ = some (.int .u8 ((l.getD i 0).toNat : Int))) :
    Calls Tryd.prog 118 #[.slice (some ⟨b, off, none⟩) 8 c] w fun e w' => e = fromEnd (unrankI (foldB l)) ∧ w = w' := by
  have HL := hid hl
  have HC := hid hcells
  clear hl hcells
  go_enter Tryd.func118, Tryd.ntmps118
  go_wp2
  go_loop [4, 13] (fun vr vi => ∃ (k : Nat) (r : Int), k ≤ 8 ∧ vr = .int .u64 r ∧ vi = .int .i64 k ∧ 0 ≤ r ∧ r = foldB (l.take k)) (fun _ vi => 8 - (intOf vi).toNat)
  case atStart => exact ⟨0, 0, by omega, rfl, rfl, by omega, rfl⟩
  case round =>
    obtain ⟨k, r, hk, rfl, rfl, hr0, hr⟩ := hrel
    by_cases hlt : k < 8
    · have hb : r < 72057594037927936 := by
        have h1 := foldB_lt (l.take k)
        have h2 : (l.take k).length ≤ 7 := by rw [List.length_take]; omega
        have h3 : 256 ^ (l.take k).length ≤ 256 ^ 7 := Nat.pow_le_pow_right (by omega) h2
        rw [hr]
        omega
      have hcell := HC.out k hlt
      have hx := (l.getD k 0).toNat_lt
      obtain ⟨x, hxe⟩ : ∃ x, (l.getD k 0).toNat = x := ⟨_, rfl⟩
      rw [hxe] at hcell hx
      have hor := or_byte hr0 hb x (by omega)
      have HN : Hid (r * 256 + x = ((foldB (l.take (k + 1)) : Nat) : Int)) := hid (by rw [foldB_take l k (by rw [HL.out]; exact hlt), hxe, hr]; omega)
      have hx2 : x ≤ 255 := by omega
      clear hr hxe hx
      go_wp2
      go_round
      case rel => exact ⟨k + 1, r * 256 + x, by omega, rfl, by go_num, by omega, HN.out⟩
      case measure => simp [intOf]; omega
    · obtain rfl : k = 8 := by omega
      have hr8 : r = foldB l := by rw [hr, List.take_of_length_le (by rw [HL.out]; omega)]
      have hb : r < 18446744073709551616 := by
        have h1 := foldB_lt l
        rw [HL.out] at h1
        rw [hr8]
        have : (256 : Nat) ^ 8 = 18446744073709551616 := by decide
        omega
      obtain ⟨n, hn⟩ : ∃ n, unrankI (foldB l) = n := ⟨_, rfl⟩
      have hun : unrankI r = n := by rw [hr8]; exact hn
      have HU : Hid (∀ W, Calls Tryd.prog 134 #[.int .u64 r] W fun e w' => e = .returned (.int .i64 n) ∧ W = w') := fun W => by rw [← hun]; exact unrank_any hr0 hb W
      have hin : inI n := by rw [← hun]; exact unrank_in hr0 hb
      clear hr hr8 hb hr0 hun
      cases hrt : rightB n
      · have HFE : Hid (fromEnd (unrankI (foldB l)) = .returned (.tuple #[.int .i64 0, .bool false])) := by show fromEnd (unrankI (foldB l)) = _; rw [hn]; unfold fromEnd; rw [if_neg (by rw [hrt]; decide)]
        clear hn
        go_wp2_with (first | (go_at_call 134; refine (HU.out _).mono ?_; rintro e w' ⟨rfl, rfl⟩) | (go_at_call 96; refine (right_any (by assumption) _).mono ?_; rintro e w' ⟨rfl, rfl⟩))
        go_ret2
        rw [HFE.out]
        exact ⟨rfl, rfl⟩
      · have HFE : Hid (fromEnd (unrankI (foldB l)) = .returned (.tuple #[.int .i64 n, .bool true])) := by show fromEnd (unrankI (foldB l)) = _; rw [hn]; unfold fromEnd; rw [if_pos hrt]
        clear hn
        go_wp2_with (first | (go_at_call 134; refine (HU.out _).mono ?_; rintro e w' ⟨rfl, rfl⟩) | (go_at_call 96; refine (right_any (by assumption) _).mono ?_; rintro e w' ⟨rfl, rfl⟩))
        go_ret2
        rw [HFE.out]
        exact ⟨rfl, rfl⟩

end Go.Proofs.YtpjkhholpbfbpaaDoor

/- val.Decode for every row of at most a thousand bytes. Conditions: the slice holds those bytes; the listed variables of the library read as they are laid. -/
namespace Go.Proofs.YtpjkhholpbfbpaaDoor
open Go.RowKit

theorem decEnd_some (k n : Int) (s : List UInt8) : decEnd k (some (n, s)) = .returned (.tuple #[.agg #[.int .i64 k, .int .i64 n, .string ⟨s.toArray⟩], .bool true]) := rfl

/-- val.decode, for every kind and every row. -/
theorem decode_any (k : Int) (l : List UInt8) (hl : l.length ≤ 4000) (A : Option Addr) (c : Nat) (w : World) (hh : HoldsA w A l) :
    Calls Tryd.prog 97 #[.int .i64 k, .slice A l.length c] w fun e w' => e = decEnd k (decV k l) ∧ Below w.heap.size w w' := by
  unfold decV
  by_cases h1 : k = 1
  · subst h1
    rw [if_pos rfl]
    by_cases h8 : l.length = 8
    · rw [if_pos h8]
      obtain ⟨b, off, rfl, hb⟩ := hh (by omega)
      have hlt := hb.lt (by omega)
      exact decode_1 _ _ c _ true w (hid fun W hW => by rw [h8]; exact takeInt_yes l h8 b off c W (hb.below hW hlt))
    · rw [if_neg h8]
      exact decode_1 _ _ c 0 false w (hid fun W hW => takeInt_no _ c h8 W)
  rw [if_neg h1]
  by_cases h5 : k = 5
  · subst h5
    rw [if_pos rfl]
    by_cases h8 : l.length = 8
    · rw [if_pos h8]
      obtain ⟨b, off, rfl, hb⟩ := hh (by omega)
      have hlt := hb.lt (by omega)
      have hF : ∀ W, Below w.heap.size w W → Calls Tryd.prog 118 #[.slice (some ⟨b, off, none⟩) l.length c] W fun e w' => e = fromEnd (unrankI (foldB l)) ∧ W = w' := fun W hW => by
        rw [h8]
        exact from_off l h8 b off c W (fun i hi => hb.below hW hlt i (by omega))
      unfold fromEnd at hF
      by_cases hr : rightB (unrankI (foldB l)) = true
      · rw [if_pos hr] at hF ⊢
        exact decode_5 _ _ c _ true w (hid hF)
      · rw [if_neg hr] at hF ⊢
        exact decode_5 _ _ c 0 false w (hid hF)
    · rw [if_neg h8]
      exact decode_5 _ _ c 0 false w (hid fun W hW => from_no _ c h8 W)
  rw [if_neg h5]
  by_cases h4 : k = 4
  · subst h4
    rw [if_pos rfl]
    by_cases h8 : l.length = 1
    · rw [if_pos h8]
      obtain ⟨b, off, rfl, hb⟩ := hh (by omega)
      have h0 := hb 0 (by omega)
      rw [h8]
      exact decode_4_yes b off c (l.getD 0 0).toNat (UInt8.toNat_lt _) w h0
    · rw [if_neg h8]
      exact decode_4_no _ _ c h8 w
  rw [if_neg h4]
  by_cases h23 : k = 2 ∨ k = 3
  · rw [if_pos h23]
    have hT : ∀ W, Below w.heap.size w W → Calls Tryd.prog 119 #[.slice A l.length c] W fun e w' => e = takeEnd (unText l) ∧ Below W.heap.size W w' := fun W hW => by
      by_cases h0 : 0 < l.length
      · obtain ⟨b, off, rfl, hb⟩ := hh h0
        exact takeText_any l b off c hl W (hb.below hW (hb.lt h0))
      · have e : unText l = none := by unfold unText; rw [if_pos (by omega)]
        rw [e]
        exact (takeText_short _ c (by omega) W).mono fun _ _ ⟨he, hw⟩ => ⟨he, by subst hw; exact Below.refl _ _⟩
    cases hu : unText l with
    | none =>
      rw [hu] at hT
      rcases h23 with rfl | rfl
      · exact decode_2 _ _ c ⟨#[]⟩ false w (hid hT)
      · exact decode_3 _ _ c ⟨#[]⟩ false w (hid hT)
    | some s =>
      rw [hu] at hT
      rcases h23 with rfl | rfl
      · exact decode_2 _ _ c ⟨s.toArray⟩ true w (hid hT)
      · exact decode_3 _ _ c ⟨s.toArray⟩ true w (hid hT)
  · rw [if_neg h23]
    exact decode_0 k _ _ c (by simpa using h1) (by simp; omega) (by simp; omega) (by simpa using h4) (by simpa using h5) w

set_option maxHeartbeats 1000000 in
theorem vdecode_nil (A : Option Addr) (c : Nat) (w : World) :
    Calls Tryd.prog 73 #[.slice A 0 c] w fun e w' => e = .returned (.tuple #[.agg #[.int .i64 0, .int .i64 0, .string ⟨#[]⟩], .bool false]) ∧ Below w.heap.size w w' := by
  go_enter Tryd.func73, Tryd.ntmps73
  go_wp2
  exact bodyPost_ret (v := .tuple #[.agg #[.int .i64 0, .int .i64 0, .string ⟨#[]⟩], .bool false]) (by simp [results, Tryd.results73, go_sem]) rfl ⟨rfl, below_new _ _⟩

/-- What decode and Right answer for a row. -/
def DecHyp (w : World) (x : Nat) (A1 : Option Addr) (m c1 : Nat) (k n : Int) (S : ByteArray) (ok R : Bool) : Prop :=
  (∀ W, Below w.heap.size w W → Calls Tryd.prog 97 #[.int .i64 (x : Int), .slice A1 m c1] W fun e w' => e = .returned (.tuple #[.agg #[.int .i64 k, .int .i64 n, .string S], .bool ok]) ∧ Below w.heap.size w w' ∧ Below W.heap.size W w') ∧
  (∀ W, Below w.heap.size w W → Calls Tryd.prog 66 #[.agg #[.int .i64 k, .int .i64 n, .string S]] W fun e w' => e = .returned (.bool R) ∧ Below w.heap.size w w' ∧ Below W.heap.size W w')


theorem unesc_len (l s : List UInt8) (h : unesc l = some s) : s.length ≤ l.length := by
  have e := esc_unesc l.length l s (Nat.le_refl _) h
  have : s.length ≤ (esc s).length := by
    clear e h
    induction s with
    | nil => simp
    | cons c r ih => simp only [esc]; split <;> simp <;> omega
  rw [e] at this
  exact this
/-- What val.Decode answers for a row. -/
def vdecEnd : List UInt8 → Ending
  | [] => .returned (.tuple #[.agg #[.int .i64 0, .int .i64 0, .string ⟨#[]⟩], .bool false])
  | x :: r => match decV (x.toNat : Int) r with
    | none => .returned (.tuple #[.agg #[.int .i64 0, .int .i64 0, .string ⟨#[]⟩], .bool false])
    | some (n, s) => if vRight (x.toNat : Int) n s = true then .returned (.tuple #[.agg #[.int .i64 (x.toNat : Int), .int .i64 n, .string ⟨s.toArray⟩], .bool true]) else .returned (.tuple #[.agg #[.int .i64 0, .int .i64 0, .string ⟨#[]⟩], .bool false])
/-- The number that decode takes is of 64 bits. -/
theorem decV_in {k : Int} {l : List UInt8} {n : Int} {s : List UInt8} (h : decV k l = some (n, s)) : inI n ∧ s.length ≤ l.length := by
  unfold decV at h
  by_cases h1 : k = 1
  · rw [if_pos h1] at h
    by_cases h8 : l.length = 8
    · rw [if_pos h8] at h
      simp only [Option.some.injEq, Prod.mk.injEq] at h
      have hb := foldB_lt l
      rw [h8, show (256 : Nat) ^ 8 = 18446744073709551616 by decide] at hb
      refine ⟨?_, by rw [← h.2]; simp⟩
      unfold inI
      omega
    · rw [if_neg h8] at h; cases h
  rw [if_neg h1] at h
  by_cases h5 : k = 5
  · rw [if_pos h5] at h
    by_cases h8 : l.length = 8
    · rw [if_pos h8] at h
      by_cases hr : rightB (unrankI (foldB l)) = true
      · rw [if_pos hr] at h
        simp only [Option.some.injEq, Prod.mk.injEq] at h
        have hb := foldB_lt l
        rw [h8, show (256 : Nat) ^ 8 = 18446744073709551616 by decide] at hb
        refine ⟨?_, by rw [← h.2]; simp⟩
        rw [← h.1]
        exact unrank_in (by omega) (by omega)
      · rw [if_neg hr] at h; cases h
    · rw [if_neg h8] at h; cases h
  rw [if_neg h5] at h
  by_cases h4 : k = 4
  · rw [if_pos h4] at h
    by_cases h8 : l.length = 1
    · rw [if_pos h8] at h
      simp only [Option.some.injEq, Prod.mk.injEq] at h
      have := (l.getD 0 0).toNat_lt
      refine ⟨?_, by rw [← h.2]; simp⟩
      unfold inI
      omega
    · rw [if_neg h8] at h; cases h
  rw [if_neg h4] at h
  by_cases h23 : k = 2 ∨ k = 3
  · rw [if_pos h23] at h
    obtain ⟨t, ht, hts⟩ := Option.map_eq_some_iff.1 h
    simp only [Prod.mk.injEq] at hts
    refine ⟨by rw [← hts.1]; unfold inI; omega, ?_⟩
    rw [← hts.2]
    unfold unText at ht
    split at ht
    · cases ht
    · split at ht
      · have := unesc_len _ _ ht
        rw [List.length_take] at this
        omega
      · cases ht
  · rw [if_neg h23] at h; cases h

end Go.Proofs.YtpjkhholpbfbpaaDoor
