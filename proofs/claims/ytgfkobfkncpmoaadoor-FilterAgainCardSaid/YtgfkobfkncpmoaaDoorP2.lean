/- Several texts in one: VA VC VD VE. Conditions: as each theorem names them. -/
import Derived.Test.YtgfkobfkncpmoaaDoorP1
import Derived.Test.YtgfkobfkncpmoaaDoorShelf
import Derived.Deep.QuietTactic
import Derived.BigQuiet
import Derived.OwnWalk
import Derived.Deep.AppendLies
/- val.Right for every value. Conditions: the tables of unicode/utf8 read as they are laid; the text is no longer than any text is. -/
namespace Go.Proofs.YtgfkobfkncpmoaaDoor
open Go.RowKit

theorem valid_any (s : ByteArray) (w : World) (hs : s.size ≤ 9223372036854775807) (hL : LaidU w) :
    Calls Tryd.prog 193 #[.string s] w fun e w' => e = .returned (.bool (Lib.validD s.data.toList)) ∧ Below w.heap.size w w' :=
  Tryd.utf8_ValidString s w hs hL.utf

theorem mk_size (l : List UInt8) : (⟨l.toArray⟩ : ByteArray).size = l.length := by rw [Lib.size_eq]
theorem toList_eq (s : ByteArray) : s.toList = s.data.toList := mk_toList s.data.toList
theorem ret_bool {a b : Bool} (h : a = b) : Ending.returned (.bool a) = Ending.returned (.bool b) := by rw [h]

set_option maxHeartbeats 400000 in
theorem vright_1 (n : Int) (s : ByteArray) (w : World) :
    Calls Tryd.prog 150 #[.agg #[.int .i64 1, .int .i64 n, .string s]] w fun e w' => e = .returned (.bool s.toList.isEmpty) ∧ Below w.heap.size w w' := by
  go_enter Tryd.func150, Tryd.ntmps150
  go_wp2
  go_ret
  exact ⟨rfl, below_new _ _⟩

set_option maxHeartbeats 400000 in
theorem vright_2 (n : Int) (s : ByteArray) (w : World) (hs : s.size ≤ 9223372036854775807) :
    Calls Tryd.prog 150 #[.agg #[.int .i64 2, .int .i64 n, .string s]] w fun e w' => e = .returned (.bool (n == 0 && decide (s.size ≤ 32))) ∧ Below w.heap.size w w' := by
  go_enter Tryd.func150, Tryd.ntmps150
  go_wp2
  all_goals go_ret
  · rename_i h
    exact ⟨ret_bool (show decide ((s.size : Int) ≤ 32) = _ by rw [h]; simp; omega), below_new _ _⟩
  · rename_i h
    exact ⟨ret_bool (show false = _ by simp [h]), below_new _ _⟩

set_option maxHeartbeats 400000 in
theorem vright_3 (n : Int) (s : ByteArray) (w : World) (hs : s.size ≤ 9223372036854775807) (hL : LaidU w) :
    Calls Tryd.prog 150 #[.agg #[.int .i64 3, .int .i64 n, .string s]] w fun e w' => e = .returned (.bool (n == 0 && decide (s.size ≤ 32) && Lib.validD s.data.toList)) ∧ Below w.heap.size w w' := by
  obtain ⟨R, hR⟩ : ∃ R, (n == 0 && decide (s.size ≤ 32) && Lib.validD s.data.toList) = R := ⟨_, rfl⟩
  rw [hR]
  have HV : Hid (∀ W, Below w.heap.size w W → Calls Tryd.prog 193 #[.string s] W fun e w' => e = .returned (.bool (Lib.validD s.data.toList)) ∧ Below w.heap.size w w') := fun W hW => (valid_any s W hs (hL.below hW)).mono fun _ _ ⟨he, hb⟩ => ⟨he, hW.trans (hb.mono hW.size)⟩
  clear hL
  generalize Lib.validD s.data.toList = V at *
  have HR := hid hR
  clear hR
  go_enter Tryd.func150, Tryd.ntmps150
  go_wp2_with (go_at_call 193; refine (HV.out _ (below_new _ _)).mono ?_; rintro e w1 ⟨rfl, hb1⟩)
  all_goals go_ret
  · rename_i h1 h2
    exact ⟨ret_bool (show V = R by rw [← HR.out, h1]; simp; omega), by assumption⟩
  · rename_i h1 h2
    exact ⟨ret_bool (show false = R by rw [← HR.out, h1]; simp; omega), below_new _ _⟩
  · rename_i h1
    exact ⟨ret_bool (show false = R by rw [← HR.out]; simp [h1]), below_new _ _⟩

set_option maxHeartbeats 400000 in
theorem vright_4 (n : Int) (s : ByteArray) (w : World) :
    Calls Tryd.prog 150 #[.agg #[.int .i64 4, .int .i64 n, .string s]] w fun e w' => e = .returned (.bool (s.toList.isEmpty && (n == 0 || n == 1))) ∧ Below w.heap.size w w' := by
  obtain ⟨R, hR⟩ : ∃ R, (s.toList.isEmpty && (n == 0 || n == 1)) = R := ⟨_, rfl⟩
  rw [hR]
  have HR := hid hR
  clear hR
  go_enter Tryd.func150, Tryd.ntmps150
  go_wp2
  all_goals go_ret
  · rename_i h1 h2
    exact ⟨ret_bool (show true = R by rw [← HR.out, h1, h2]; rfl), below_new _ _⟩
  · rename_i h1 h2
    exact ⟨ret_bool (show (n == 0 || n == 1) = R by rw [← HR.out, h1]; rfl), below_new _ _⟩
  · rename_i h1
    exact ⟨ret_bool (show false = R by rw [← HR.out]; simp [h1]), below_new _ _⟩

set_option maxHeartbeats 400000 in
theorem vright_5 {n : Int} (h : inI n) (s : ByteArray) (w : World) :
    Calls Tryd.prog 150 #[.agg #[.int .i64 5, .int .i64 n, .string s]] w fun e w' => e = .returned (.bool (s.toList.isEmpty && rightB n)) ∧ Below w.heap.size w w' := by
  obtain ⟨R, hR⟩ : ∃ R, (s.toList.isEmpty && rightB n) = R := ⟨_, rfl⟩
  rw [hR]
  have HV : Hid (∀ W, Calls Tryd.prog 194 #[.int .i64 n] W fun e w' => e = .returned (.bool (rightB n)) ∧ W = w') := fun W => right_any h W
  clear h
  generalize rightB n = V at *
  have HR := hid hR
  clear hR
  go_enter Tryd.func150, Tryd.ntmps150
  go_wp2_with (go_at_call 194; refine (HV.out _).mono ?_; rintro e w1 ⟨rfl, rfl⟩)
  all_goals go_ret
  · rename_i h1
    exact ⟨ret_bool (show V = R by rw [← HR.out, h1]; rfl), below_new _ _⟩
  · rename_i h1
    exact ⟨ret_bool (show false = R by rw [← HR.out]; simp [h1]), below_new _ _⟩

set_option maxHeartbeats 400000 in
theorem vright_0 (k n : Int) (s : ByteArray) (h1 : (k == 1) = false) (h2 : (k == 2) = false) (h3 : (k == 3) = false) (h4 : (k == 4) = false) (h5 : (k == 5) = false) (w : World) :
    Calls Tryd.prog 150 #[.agg #[.int .i64 k, .int .i64 n, .string s]] w fun e w' => e = .returned (.bool false) ∧ Below w.heap.size w w' := by
  go_enter Tryd.func150, Tryd.ntmps150
  go_wp2
  go_ret
  exact ⟨rfl, below_new _ _⟩

/-- val.Right, for every value. -/
theorem vright_any (k : Int) {n : Int} (hn : inI n) (s : ByteArray) (w : World) (hs : s.size ≤ 9223372036854775807) (hL : LaidU w) :
    Calls Tryd.prog 150 #[.agg #[.int .i64 k, .int .i64 n, .string s]] w fun e w' => e = .returned (.bool (vRight k n s.data.toList)) ∧ Below w.heap.size w w' := by
  have hsz : s.data.toList.length = s.size := rfl
  unfold vRight
  rw [hsz, ← toList_eq]
  by_cases h1 : k = 1
  · subst h1; exact vright_1 n s w
  rw [if_neg h1]
  by_cases h2 : k = 2
  · subst h2; exact vright_2 n s w hs
  rw [if_neg h2]
  by_cases h3 : k = 3
  · subst h3; rw [toList_eq]; exact vright_3 n s w hs hL
  rw [if_neg h3]
  by_cases h4 : k = 4
  · subst h4; exact vright_4 n s w
  rw [if_neg h4]
  by_cases h5 : k = 5
  · subst h5; exact vright_5 hn s w
  rw [if_neg h5]
  exact vright_0 k n s (by simpa using h1) (by simpa using h2) (by simpa using h3) (by simpa using h4) (by simpa using h5) w

theorem vright_in (k : Int) {n : Int} (hn : inI n) (s : ByteArray) (w : World) (hs : s.size ≤ 9223372036854775807) (hL : LaidU w) (W : World) (hW : Below w.heap.size w W) :
    Calls Tryd.prog 150 #[.agg #[.int .i64 k, .int .i64 n, .string s]] W fun e w' => e = .returned (.bool (vRight k n s.data.toList)) ∧ Below w.heap.size w w' ∧ Below W.heap.size W w' :=
  (vright_any k hn s W hs (hL.below hW)).mono fun _ _ ⟨he, hb⟩ => ⟨he, hW.trans (hb.mono hW.size), hb⟩

end Go.Proofs.YtgfkobfkncpmoaaDoor

/- Rows of bytes that a call owns, and appending to them; val.appendInt and val.appendText. Conditions: rows of at most a million bytes. -/
namespace Go.Proofs.YtgfkobfkncpmoaaDoor
open Go.RowKit

theorem xor_sign64 {n : Int} (h : inI n) : bits .xor .u64 (IntKind.u64.wrap n) 9223372036854775808 = (upI n : Int) := by
  unfold inI at h
  rw [IntKind.wrap_u64, u64_xor _ _ (by omega) (by omega) (by omega) (by omega)]
  unfold upI
  rw [show (9223372036854775808 : Int).toNat = 2 ^ 63 from rfl]
  by_cases hn : n < 0
  · obtain ⟨r, hr⟩ : ∃ r : Nat, n + 9223372036854775808 = r := ⟨(n + 9223372036854775808).toNat, by omega⟩
    have e : (n % 18446744073709551616).toNat = r ^^^ 2 ^ 63 := by rw [xor_top r (by omega)]; omega
    rw [e, Nat.xor_assoc, Nat.xor_self, Nat.xor_zero]
    omega
  · rw [xor_top _ (by omega)]
    omega

set_option maxHeartbeats 1000000 in
theorem appendInt_any {n : Int} (hn : inI n) (B : Nat) (v : Value) (l : List UInt8) (hl : l.length ≤ 1000) (w : World) (hown : Row w B v l) (hB : B ≤ w.heap.size) :
    Calls Tryd.prog 171 #[v, .int .i64 n] w fun e w' => ∃ v', e = .returned v' ∧ Row w' B v' (l ++ byW 8 (upI n)) ∧ Below B w w' := by
  have hx := xor_sign64 hn
  have hlt := upI_lt hn
  obtain ⟨u, hu⟩ : ∃ u, upI n = u := ⟨_, rfl⟩
  rw [hu] at hx ⊢
  obtain ⟨U, hU⟩ : ∃ U : Int, (u : Int) = U := ⟨_, rfl⟩
  rw [hU] at hx
  have HU := hid hU
  clear hu hn hU hlt
  go_enter Tryd.func171, Tryd.ntmps171
  go_wp2
  clear hx
  go_loopw [0, 10] (fun vb vi wr => ∃ i : Int, 0 ≤ i ∧ i ≤ 8 ∧ vi = .int .i64 i ∧ Row wr B vb (l ++ (byW 8 u).take i.toNat) ∧ Below B w wr) (fun _ vi _ => 8 - (intOf vi).toNat)
  case atStart => exact ⟨0, by omega, by omega, rfl, by simpa using hown, Below.refl _ _⟩
  case round =>
    obtain ⟨i, h0, hi, rfl, hR, hbel⟩ := hrel
    by_cases h8 : i < 8
    · have HR := hid hR
      have HC : Hid (U / 2 ^ (8 * (7 - i)).toNat % 256 = ((UInt8.ofNat (u / 256 ^ (8 - 1 - i.toNat) % 256)).toNat : Int)) := by
        rw [← HU.out, show (8 * (7 - i)).toNat = 8 * (8 - 1 - i.toNat) by omega]
        exact byte_at u _
      have HL : Hid ((l ++ (byW 8 u).take i.toNat).length ≤ 1008) := by
        unfold Hid
        rw [List.length_append, List.length_take, byW_len]
        omega
      have HN : Hid (l ++ (byW 8 u).take (i.toNat + 1) = l ++ (byW 8 u).take i.toNat ++ [UInt8.ofNat (u / 256 ^ (8 - 1 - i.toNat) % 256)]) := by
        unfold Hid
        rw [byW_take 8 u i.toNat (by omega), List.append_assoc]
      clear hR
      go_wp2_with (at_builtin; refine wpList_append_bytes rfl _ _ rfl _ B _ _ rfl (HR.out.alloc _) ⟨wr.heap.size, 0, none⟩ 1 1 [UInt8.ofNat (u / 256 ^ (8 - 1 - i.toNat) % 256)] rfl rfl (one_new' _ _ _ _ HC.out) (by have := HL.out; simp only [List.length_cons, List.length_nil]; omega) (by have := hbel.size; simp; omega) ?_; intro v' w' hR' hb')
      go_roundw
      case rel =>
        refine ⟨i + 1, by omega, by omega, rfl, ?_, (hbel.alloc (by have := hbel.size; omega) _).trans hb'⟩
        rw [show (i + 1).toNat = i.toNat + 1 by omega, HN.out]
        exact hR'
      case measure => simp [intOf]; omega
    · obtain rfl : i = 8 := by omega
      have HR := hid hR
      clear hR
      go_wp2
      go_ret
      refine ⟨_, rfl, ?_, hbel⟩
      have := HR.out
      rwa [show (8 : Int).toNat = 8 from rfl, List.take_of_length_le (by rw [byW_len]; omega)] at this

end Go.Proofs.YtgfkobfkncpmoaaDoor

/- val.appendText for every text of at most a thousand bytes. Conditions: the row is the call's own. -/
namespace Go.Proofs.YtgfkobfkncpmoaaDoor
open Go.RowKit

theorem take_snoc (s : ByteArray) (k : Nat) (h : k < s.size) : s.data.toList.take (k + 1) = s.data.toList.take k ++ [s[k]] := by
  rw [List.take_succ_eq_append_getElem (by simpa using h)]; rfl
theorem esc_take_len (s : ByteArray) (k : Nat) (hk : k ≤ s.size) : (esc (s.data.toList.take k)).length ≤ 2 * s.size := by
  have h1 := esc_len (s.data.toList.take k)
  have h2 : (s.data.toList.take k).length ≤ k := List.length_take_le _ _
  omega
theorem esc_snoc (s : ByteArray) (k : Nat) (h : k < s.size) : esc (s.data.toList.take (k + 1)) = esc (s.data.toList.take k) ++ (if s[k] = 0 then [s[k], 255] else [s[k]]) := by
  rw [take_snoc s k h, esc_app]
  congr 1
  simp only [esc]
  split
  · rename_i h; rw [h]
  · rfl
theorem two_new (w : World) (c d : UInt8) (t : TypeId) (x y : Int) (hx : x = (c.toNat : Int)) (hy : y = (d.toNat : Int)) : ∀ j u, (bc [c, d])[j]? = some u → (w.alloc (.cells #[.int .u8 x, .int .u8 y] t)).cell? ((⟨w.heap.size, 0, Option.none⟩ : Addr).add j) = some u := by
  subst hx hy
  intro j u hu
  have hj : j < 2 := by
    rcases Nat.lt_or_ge j 2 with h | h
    · exact h
    · rw [List.getElem?_eq_none (by simpa [bc] using h)] at hu; cases hu
  rw [add_zero_off, World.cell?_alloc_at _ _ _ _ rfl, ← hu]
  rcases (show j = 0 ∨ j = 1 by omega) with rfl | rfl <;> rfl

set_option maxHeartbeats 1000000 in
theorem appendText_any (s : ByteArray) (hs : s.size ≤ 1000) (B : Nat) (v : Value) (l : List UInt8) (hl : l.length ≤ 1000) (w : World) (hown : Row w B v l) (hB : B ≤ w.heap.size) :
    Calls Tryd.prog 173 #[v, .string s] w fun e w' => ∃ v', e = .returned v' ∧ Row w' B v' (l ++ (esc s.data.toList ++ [0, 1])) ∧ Below B w w' := by
  go_enter Tryd.func173, Tryd.ntmps173
  go_wp2
  go_loopw [0, 8] (fun vb vi wr => ∃ k : Nat, k ≤ s.size ∧ vi = .int .i64 k ∧ Row wr B vb (l ++ esc (s.data.toList.take k)) ∧ Below B w wr) (fun _ vi _ => s.size - (intOf vi).toNat)
  case atStart => exact ⟨0, by omega, rfl, by simpa [esc] using hown, Below.refl _ _⟩
  case round =>
    obtain ⟨k, hk, rfl, hR, hbel⟩ := hrel
    have HR := hid hR
    have HL : Hid ((l ++ esc (s.data.toList.take k)).length ≤ 3000) := by
      have := esc_take_len s k hk
      unfold Hid
      rw [List.length_append]
      omega
    by_cases hlt : k < s.size
    · have HS := hid (esc_snoc s k hlt)
      clear hR
      go_wp2_with (first | (at_builtin; refine wpList_append_bytes rfl (.tmp 11) (.tmp 15) rfl _ B _ _ rfl (HR.out.alloc _) ⟨wr.heap.size, 0, none⟩ 1 1 [s[k]] rfl rfl (one_new' _ _ _ _ rfl) (by have := HL.out; simp only [List.length_cons, List.length_nil]; omega) (by have := hbel.size; simp; omega) ?_; intro v1 w1 hR1 hb1) | (at_builtin; refine wpList_append_bytes rfl (.tmp 21) (.tmp 22) rfl _ B _ _ rfl (hR1.alloc _) ⟨w1.heap.size, 0, none⟩ 1 1 [255] rfl rfl (one_new' _ _ _ _ rfl) (by have := HL.out; simp only [List.length_append, List.length_cons, List.length_nil] at this ⊢; omega) (by have := hbel.size; have := hb1.size; simp at this ⊢; omega) ?_; intro v2 w2 hR2 hb2))
      · have hz : s[k] = 0 := by
          have h : ((s[k].toNat : Int) == 0) = true := by assumption
          have : s[k].toNat = 0 := by simpa using h
          exact UInt8.toNat_inj.1 this
        go_roundw
        case rel =>
          refine ⟨k + 1, by omega, by go_num, ?_, ((hbel.alloc (by have := hbel.size; omega) _).trans hb1).trans ((below_new _ _).mono (by have := hbel.size; have := hb1.size; simp at this ⊢; omega) |>.trans hb2)⟩
          rw [HS.out, if_pos hz, ← List.append_assoc]
          have := hR2
          rw [List.append_assoc] at this ⊢
          simpa using this
        case measure => simp [intOf]; omega
      · have hz : ¬ s[k] = 0 := by
          have h : ((s[k].toNat : Int) == 0) = false := by assumption
          intro he
          rw [he] at h
          cases h
        go_roundw
        case rel =>
          refine ⟨k + 1, by omega, by go_num, ?_, (hbel.alloc (by have := hbel.size; omega) _).trans hb1⟩
          rw [HS.out, if_neg hz, ← List.append_assoc]
          exact hR1
        case measure => simp [intOf]; omega
    · obtain rfl : k = s.size := by omega
      clear hR
      go_wp2_with (at_builtin; refine wpList_append_bytes rfl (.tmp 25) (.tmp 26) rfl _ B _ _ rfl (HR.out.alloc _) ⟨wr.heap.size, 0, none⟩ 2 2 [0, 1] rfl rfl (two_new _ _ _ _ _ _ rfl rfl) (by have := HL.out; simp only [List.length_cons, List.length_nil]; omega) (by have := hbel.size; simp; omega) ?_; intro v1 w1 hR1 hb1)
      go_ret
      refine ⟨_, rfl, ?_, (hbel.alloc (by have := hbel.size; omega) _).trans hb1⟩
      have := hR1
      rwa [List.take_of_length_le (by simp), List.append_assoc] at this

end Go.Proofs.YtgfkobfkncpmoaaDoor

/- val.Encode for every value: nothing and false for one that isn't right, else new memory with its bytes, and true. Conditions: the tables of unicode/utf8 read as they are laid; the number is of 64 bits. -/
namespace Go.Proofs.YtgfkobfkncpmoaaDoor
open Go.RowKit

set_option maxHeartbeats 1000000 in
theorem vencode_no (k : Int) {n : Int} (hn : inI n) (s : ByteArray) (hs : s.size ≤ 9223372036854775807) (hr : vRight k n s.data.toList = false) (w : World) (hL : LaidU w) :
    Calls Tryd.prog 114 #[.agg #[.int .i64 k, .int .i64 n, .string s]] w fun e w' => e = .returned (.tuple #[.slice none 0 0, .bool false]) ∧ Below w.heap.size w w' := by
  have HV := hid (vright_in k hn s w hs hL)
  rw [hr] at HV
  clear hr hn hL hs
  have HB := hid (below_new w)
  go_enter Tryd.func114, Tryd.ntmps114
  go_wp2_with (go_at_call 150; refine (HV.out _ (HB.out _)).mono ?_; rintro e w1 ⟨rfl, hb1, hb2⟩)
  go_ret2
  exact ⟨rfl, hb1⟩

/-- The byte of a right kind. -/
theorem kind_row (w : World) (B : Nat) (hB : B ≤ w.heap.size) (k : Int) (hk : 0 ≤ k ∧ k < 256) : Row (w.alloc (.cells #[.int .u8 k] 5)) B (.slice (some ⟨w.heap.size, 0, none⟩) 1 1) [UInt8.ofNat k.toNat] := by
  have h := Row.new w B hB [UInt8.ofNat k.toNat] (by unfold maxLen; simp)
  have e : (bc [UInt8.ofNat k.toNat]).toArray = #[.int .u8 k] := by
    have : (((UInt8.ofNat k.toNat).toNat : Nat) : Int) = k := by rw [UInt8.toNat_ofNat']; omega
    simp only [bc, List.map_cons, List.map_nil, this]
  rw [e] at h
  exact h

theorem blk_cells {w : World} {b : Nat} {l : List UInt8} (h : Blk w b 5 (bc l).toArray) : ∀ j u, (bc l)[j]? = some u → w.cell? ((⟨b, 0, none⟩ : Addr).add j) = some u := by
  intro j u hu
  rw [add_zero_off, Nat.zero_add, h.cell, ← hu]
  simp
theorem bcell {W w1 : World} (hb : Below W.heap.size W w1) : (∀ b o, b < W.heap.size → w1.cell? ⟨b, o, none⟩ = W.cell? ⟨b, o, none⟩) ∧ (∀ b o, b < W.heap.size → w1.frozen? ⟨b, o, none⟩ = W.frozen? ⟨b, o, none⟩) :=
  ⟨fun b o h => hb.cell (p := ⟨b, o, none⟩) h, fun b o h => hb.frozen (p := ⟨b, o, none⟩) h⟩

set_option maxHeartbeats 1000000 in
theorem vencode_1 {n : Int} (hn : inI n) (s : ByteArray) (hs : s.size ≤ 9223372036854775807) (hr : vRight 1 n s.data.toList = true) (w : World) (hL : LaidU w) :
    Calls Tryd.prog 114 #[.agg #[.int .i64 1, .int .i64 n, .string s]] w fun e w' => ∃ v, e = .returned (.tuple #[v, .bool true]) ∧ Row w' w.heap.size v (vEnc 1 n s.data.toList) ∧ Below w.heap.size w w' := by
  have HV := hid (vright_in 1 hn s w hs hL)
  rw [hr] at HV
  have HI : Hid (∀ W v l, l.length ≤ 1000 → Row W w.heap.size v l → w.heap.size ≤ W.heap.size → Calls Tryd.prog 171 #[v, .int .i64 n] W fun e w' => ∃ v', e = .returned v' ∧ Row w' w.heap.size v' (l ++ byW 8 (upI n)) ∧ Below w.heap.size W w') := fun W v l hl hR hB => appendInt_any hn w.heap.size v l hl W hR hB
  clear hr hn hL hs
  have HB := hid (below_new w)
  have HK : Hid (∀ W : World, w.heap.size ≤ W.heap.size → Row (W.alloc (.cells #[.int .u8 1] 5)) w.heap.size (.slice (some ⟨W.heap.size, 0, none⟩) 1 1) [1]) := fun W hW => kind_row W w.heap.size hW 1 (by decide)
  go_enter Tryd.func114, Tryd.ntmps114
  go_wp2_with (first | (go_at_call 150; refine (HV.out _ (HB.out _)).mono ?_; rintro e w1 ⟨rfl, hb1, hb2⟩; obtain ⟨hc, hf⟩ := bcell hb2; have hz : w.heap.size < w1.heap.size := (by have := hb2.size; simp at this; omega)) | (go_at_call 171; refine (HI.out _ _ [1] (by decide) (HK.out _ hb1.size) (by have := hb1.size; simp; omega)).mono ?_; rintro e w2 ⟨v2, rfl, hR2, hb3⟩))
  go_ret2
  exact ⟨_, rfl, hR2, hb1.trans (((Below.refl _ _).alloc hb1.size _).trans hb3)⟩

set_option maxHeartbeats 1000000 in
theorem vencode_2 {n : Int} (hn : inI n) (s : ByteArray) (hs : s.size ≤ 9223372036854775807) (hr : vRight 2 n s.data.toList = true) (w : World) (hL : LaidU w) :
    Calls Tryd.prog 114 #[.agg #[.int .i64 2, .int .i64 n, .string s]] w fun e w' => ∃ v, e = .returned (.tuple #[v, .bool true]) ∧ Row w' w.heap.size v (vEnc 2 n s.data.toList) ∧ Below w.heap.size w w' := by
  have HV := hid (vright_in 2 hn s w hs hL)
  have hl : s.size ≤ 1000 := by
    have h1 := right_len hr
    have h2 : s.data.toList.length = s.size := rfl
    omega
  rw [hr] at HV
  have HI : Hid (∀ W v l, l.length ≤ 1000 → Row W w.heap.size v l → w.heap.size ≤ W.heap.size → Calls Tryd.prog 173 #[v, .string s] W fun e w' => ∃ v', e = .returned v' ∧ Row w' w.heap.size v' (l ++ (esc s.data.toList ++ [0, 1])) ∧ Below w.heap.size W w') := fun W v l hll hR hB => appendText_any s hl w.heap.size v l hll W hR hB
  clear hr hn hL hs hl
  have HB := hid (below_new w)
  have HK : Hid (∀ W : World, w.heap.size ≤ W.heap.size → Row (W.alloc (.cells #[.int .u8 2] 5)) w.heap.size (.slice (some ⟨W.heap.size, 0, none⟩) 1 1) [2]) := fun W hW => kind_row W w.heap.size hW 2 (by decide)
  go_enter Tryd.func114, Tryd.ntmps114
  go_wp2_with (first | (go_at_call 150; refine (HV.out _ (HB.out _)).mono ?_; rintro e w1 ⟨rfl, hb1, hb2⟩; obtain ⟨hc, hf⟩ := bcell hb2; have hz : w.heap.size < w1.heap.size := (by have := hb2.size; simp at this; omega)) | (go_at_call 173; refine (HI.out _ _ [2] (by decide) (HK.out _ hb1.size) (by have := hb1.size; simp; omega)).mono ?_; rintro e w2 ⟨v2, rfl, hR2, hb3⟩))
  go_ret2
  exact ⟨_, rfl, hR2, hb1.trans (((Below.refl _ _).alloc hb1.size _).trans hb3)⟩

set_option maxHeartbeats 1000000 in
theorem vencode_3 {n : Int} (hn : inI n) (s : ByteArray) (hs : s.size ≤ 9223372036854775807) (hr : vRight 3 n s.data.toList = true) (w : World) (hL : LaidU w) :
    Calls Tryd.prog 114 #[.agg #[.int .i64 3, .int .i64 n, .string s]] w fun e w' => ∃ v, e = .returned (.tuple #[v, .bool true]) ∧ Row w' w.heap.size v (vEnc 3 n s.data.toList) ∧ Below w.heap.size w w' := by
  have HV := hid (vright_in 3 hn s w hs hL)
  have hl : s.size ≤ 1000 := by
    have h1 := right_len hr
    have h2 : s.data.toList.length = s.size := rfl
    omega
  rw [hr] at HV
  have HI : Hid (∀ W v l, l.length ≤ 1000 → Row W w.heap.size v l → w.heap.size ≤ W.heap.size → Calls Tryd.prog 173 #[v, .string s] W fun e w' => ∃ v', e = .returned v' ∧ Row w' w.heap.size v' (l ++ (esc s.data.toList ++ [0, 1])) ∧ Below w.heap.size W w') := fun W v l hll hR hB => appendText_any s hl w.heap.size v l hll W hR hB
  clear hr hn hL hs hl
  have HB := hid (below_new w)
  have HK : Hid (∀ W : World, w.heap.size ≤ W.heap.size → Row (W.alloc (.cells #[.int .u8 3] 5)) w.heap.size (.slice (some ⟨W.heap.size, 0, none⟩) 1 1) [3]) := fun W hW => kind_row W w.heap.size hW 3 (by decide)
  go_enter Tryd.func114, Tryd.ntmps114
  go_wp2_with (first | (go_at_call 150; refine (HV.out _ (HB.out _)).mono ?_; rintro e w1 ⟨rfl, hb1, hb2⟩; obtain ⟨hc, hf⟩ := bcell hb2; have hz : w.heap.size < w1.heap.size := (by have := hb2.size; simp at this; omega)) | (go_at_call 173; refine (HI.out _ _ [3] (by decide) (HK.out _ hb1.size) (by have := hb1.size; simp; omega)).mono ?_; rintro e w2 ⟨v2, rfl, hR2, hb3⟩))
  go_ret2
  exact ⟨_, rfl, hR2, hb1.trans (((Below.refl _ _).alloc hb1.size _).trans hb3)⟩

set_option maxHeartbeats 1000000 in
theorem vencode_4 {n : Int} (hn : inI n) (s : ByteArray) (hs : s.size ≤ 9223372036854775807) (hr : vRight 4 n s.data.toList = true) (w : World) (hL : LaidU w) :
    Calls Tryd.prog 114 #[.agg #[.int .i64 4, .int .i64 n, .string s]] w fun e w' => ∃ v, e = .returned (.tuple #[v, .bool true]) ∧ Row w' w.heap.size v (vEnc 4 n s.data.toList) ∧ Below w.heap.size w w' := by
  have HV := hid (vright_in 4 hn s w hs hL)
  have h01 : n = 0 ∨ n = 1 := by
    simp [vRight] at hr
    exact hr.2
  rw [hr] at HV
  have HN : Hid (n % 256 = ((UInt8.ofNat n.toNat).toNat : Int)) := by
    unfold Hid
    rcases h01 with rfl | rfl <;> decide
  have HC : Hid (∀ (W : World) (o : Obj), ∀ j u, (bc [UInt8.ofNat n.toNat])[j]? = some u → ((W.alloc o).alloc (.cells #[.int .u8 (n % 256)] 5)).cell? ((⟨W.heap.size + 1, 0, none⟩ : Addr).add j) = some u) := fun W o => by
    have h1 := one_new' (W.alloc o) (UInt8.ofNat n.toNat) 5 _ HN.out
    have h2 : (W.alloc o).heap.size = W.heap.size + 1 := by simp
    rw [h2] at h1
    exact h1
  clear hr hn hL hs h01 HN
  have HB := hid (below_new w)
  have HK : Hid (∀ W : World, w.heap.size ≤ W.heap.size → Row (W.alloc (.cells #[.int .u8 4] 5)) w.heap.size (.slice (some ⟨W.heap.size, 0, none⟩) 1 1) [4]) := fun W hW => kind_row W w.heap.size hW 4 (by decide)
  go_enter Tryd.func114, Tryd.ntmps114
  go_wp2_with (first | (go_at_call 150; refine (HV.out _ (HB.out _)).mono ?_; rintro e w1 ⟨rfl, hb1, hb2⟩; obtain ⟨hc, hf⟩ := bcell hb2; have hz : w.heap.size < w1.heap.size := (by have := hb2.size; simp at this; omega)) | (at_builtin; refine wpList_append_bytes rfl _ _ rfl _ w.heap.size _ _ rfl ((HK.out _ hb1.size).alloc _) ⟨w1.heap.size + 1, 0, none⟩ 1 1 [UInt8.ofNat n.toNat] rfl rfl (HC.out _ _) (by simp) (by have := hb1.size; simp; omega) ?_; intro v2 w2 hR2 hb3))
  go_ret2
  exact ⟨_, rfl, hR2, hb1.trans ((((Below.refl _ _).alloc hb1.size _).alloc (by have := hb1.size; simp; omega) _).trans hb3)⟩

set_option maxHeartbeats 1000000 in
theorem vencode_5 {n : Int} (hn : inI n) (s : ByteArray) (hs : s.size ≤ 9223372036854775807) (hr : vRight 5 n s.data.toList = true) (w : World) (hL : LaidU w) :
    Calls Tryd.prog 114 #[.agg #[.int .i64 5, .int .i64 n, .string s]] w fun e w' => ∃ v, e = .returned (.tuple #[v, .bool true]) ∧ Row w' w.heap.size v (vEnc 5 n s.data.toList) ∧ Below w.heap.size w w' := by
  have HV := hid (vright_in 5 hn s w hs hL)
  have hrb : rightB n = true := by
    simp [vRight] at hr
    exact hr.2
  rw [hr] at HV
  have HF : Hid (∀ (W : World) (b : Nat), W.heap.size = b → Calls Tryd.prog 172 #[.int .i64 n] W fun e w' => e = .returned (.slice (some ⟨b, 0, none⟩) 8 8) ∧ (∀ j u, (bc (byW 8 (rankI n).toNat))[j]? = some u → w'.cell? ((⟨b, 0, none⟩ : Addr).add j) = some u) ∧ Below W.heap.size W w') := fun W b hb => by
    subst hb
    exact (bytes_yes hn hrb W).mono fun e w' ⟨he, hB, hb⟩ => ⟨he, blk_cells hB, hb⟩
  obtain ⟨l, hl⟩ : ∃ l, byW 8 (rankI n).toNat = l := ⟨_, rfl⟩
  have HL : Hid (l.length = 8) := by rw [← hl]; exact byW_len _ _
  have HE : Hid (vEnc 5 n s.data.toList = [5] ++ l) := by rw [← hl]; rfl
  rw [hl] at HF
  clear hr hn hL hs hrb hl
  have HB := hid (below_new w)
  have HK : Hid (∀ W : World, w.heap.size ≤ W.heap.size → Row (W.alloc (.cells #[.int .u8 5] 5)) w.heap.size (.slice (some ⟨W.heap.size, 0, none⟩) 1 1) [5]) := fun W hW => kind_row W w.heap.size hW 5 (by decide)
  go_enter Tryd.func114, Tryd.ntmps114
  go_wp2_with (first | (go_at_call 150; refine (HV.out _ (HB.out _)).mono ?_; rintro e w1 ⟨rfl, hb1, hb2⟩; obtain ⟨hc, hf⟩ := bcell hb2; have hz : w.heap.size < w1.heap.size := (by have := hb2.size; simp at this; omega)) | (go_at_call 172; refine (HF.out _ (w1.heap.size + 1) (by simp)).mono ?_; rintro e w2 ⟨rfl, hBk, hb3⟩; have hR1 : Row w2 w.heap.size (.slice (some ⟨w1.heap.size, 0, none⟩) 1 1) [5] := ((HK.out w1 hb1.size).keep hb3 (fun g hg => by simp [Value.ownBlock] at hg; simp; omega)); have hs2 : w.heap.size ≤ w2.heap.size := (by have := hb3.size; have := hb1.size; simp at *; omega); have HBk := hid hBk; clear hBk) | (at_builtin; refine wpList_append_bytes rfl (.tmp 26) (.tmp 29) rfl _ w.heap.size (.slice (some ⟨w1.heap.size, 0, none⟩) 1 1) [5] rfl hR1 ⟨w1.heap.size + 1, 0, none⟩ 8 8 l HL.out rfl HBk.out (by have := HL.out; simp only [List.length_cons, List.length_nil]; omega) hs2 ?_; intro v2 w2' hR2 hb4))
  go_ret2
  refine ⟨_, rfl, ?_, ?_⟩
  · rw [HE.out]; exact hR2
  · exact hb1.trans ((((Below.refl _ _).alloc hb1.size _).trans (hb3.mono (by simp; omega))).trans hb4)

/-- val.Encode of a right value. -/
theorem vencode_yes (k : Int) {n : Int} (hn : inI n) (s : ByteArray) (hs : s.size ≤ 9223372036854775807) (hr : vRight k n s.data.toList = true) (w : World) (hL : LaidU w) :
    Calls Tryd.prog 114 #[.agg #[.int .i64 k, .int .i64 n, .string s]] w fun e w' => ∃ v, e = .returned (.tuple #[v, .bool true]) ∧ Row w' w.heap.size v (vEnc k n s.data.toList) ∧ Below w.heap.size w w' := by
  rcases right_kind hr with rfl | rfl | rfl | rfl | rfl
  · exact vencode_1 hn s hs hr w hL
  · exact vencode_2 hn s hs hr w hL
  · exact vencode_3 hn s hs hr w hL
  · exact vencode_4 hn s hs hr w hL
  · exact vencode_5 hn s hs hr w hL

end Go.Proofs.YtgfkobfkncpmoaaDoor
