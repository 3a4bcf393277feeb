/- val.Encode for every value: nothing and false for one that isn't right, else new memory with its bytes, and true. Conditions: the tables of unicode/utf8 read as they are laid; the number is of 64 bits. -/
import Derived.Test.YtfcnobcpnhfgmaaDoorVD
namespace Go.Proofs.YtfcnobcpnhfgmaaDoor
open Go.RowKit

set_option maxHeartbeats 1000000 in
theorem vencode_no (k : Int) {n : Int} (hn : inI n) (s : ByteArray) (hs : s.size ≤ 9223372036854775807) (hr : vRight k n s.data.toList = false) (w : World) (hL : LaidU w) :
    Calls Tryd.prog 48 #[.agg #[.int .i64 k, .int .i64 n, .string s]] w fun e w' => e = .returned (.tuple #[.slice none 0 0, .bool false]) ∧ Below w.heap.size w w' := by
  have HV := hid (vright_in k hn s w hs hL)
  rw [hr] at HV
  clear hr hn hL hs
  have HB := hid (below_new w)
  go_enter Tryd.func48, Tryd.ntmps48
  go_wp2_with (go_at_call 94; refine (HV.out _ (HB.out _)).mono ?_; rintro e w1 ⟨rfl, hb1, hb2⟩)
  go_ret2
  exact ⟨rfl, hb1⟩

/-- The byte of a right kind. -/
theorem kind_row (w : World) (B : Nat) (hB : B ≤ w.heap.size) (k : Int) (hk : 0 ≤ k ∧ k < 256) : Row (w.alloc (.cells #[.int .u8 k] 5)) B (.slice (some ⟨w.heap.size, 0, none⟩) 1 1) [UInt8.ofNat k.toNat] := by
  have h := Row.new w B hB [UInt8.ofNat k.toNat] (by unfold maxLen; simp)
  have e : (bc [UInt8.ofNat k.toNat]).toArray = #[.int .u8 k] := by
    have : (((UInt8.ofNat k.toNat).toNat : Nat) : Int) = k := by rw [UInt8.toNat_ofNat']; omega
    simp only [bc, List.map_cons, List.map_nil, this]
  rw [e] at h
  exact h

theorem blk_cells {w : World} {b : Nat} {l : List UInt8} (h : Blk w b 5 (bc l).toArray) : ∀ j u, (bc l)[j]? = some u → w.cell? ((⟨b, 0, none⟩ : Addr).add j) = some u := by
  intro j u hu
  rw [add_zero_off, Nat.zero_add, h.cell, ← hu]
  simp
theorem bcell {W w1 : World} (hb : Below W.heap.size W w1) : (∀ b o, b < W.heap.size → w1.cell? ⟨b, o, none⟩ = W.cell? ⟨b, o, none⟩) ∧ (∀ b o, b < W.heap.size → w1.frozen? ⟨b, o, none⟩ = W.frozen? ⟨b, o, none⟩) :=
  ⟨fun b o h => hb.cell (p := ⟨b, o, none⟩) h, fun b o h => hb.frozen (p := ⟨b, o, none⟩) h⟩

set_option maxHeartbeats 1000000 in
theorem vencode_1 {n : Int} (hn : inI n) (s : ByteArray) (hs : s.size ≤ 9223372036854775807) (hr : vRight 1 n s.data.toList = true) (w : World) (hL : LaidU w) :
    Calls Tryd.prog 48 #[.agg #[.int .i64 1, .int .i64 n, .string s]] w fun e w' => ∃ v, e = .returned (.tuple #[v, .bool true]) ∧ Row w' w.heap.size v (vEnc 1 n s.data.toList) ∧ Below w.heap.size w w' := by
  have HV := hid (vright_in 1 hn s w hs hL)
  rw [hr] at HV
  have HI : Hid (∀ W v l, l.length ≤ 1000 → Row W w.heap.size v l → w.heap.size ≤ W.heap.size → Calls Tryd.prog 95 #[v, .int .i64 n] W fun e w' => ∃ v', e = .returned v' ∧ Row w' w.heap.size v' (l ++ byW 8 (upI n)) ∧ Below w.heap.size W w') := fun W v l hl hR hB => appendInt_any hn w.heap.size v l hl W hR hB
  clear hr hn hL hs
  have HB := hid (below_new w)
  have HK : Hid (∀ W : World, w.heap.size ≤ W.heap.size → Row (W.alloc (.cells #[.int .u8 1] 5)) w.heap.size (.slice (some ⟨W.heap.size, 0, none⟩) 1 1) [1]) := fun W hW => kind_row W w.heap.size hW 1 (by decide)
  go_enter Tryd.func48, Tryd.ntmps48
  go_wp2_with (first | (go_at_call 94; refine (HV.out _ (HB.out _)).mono ?_; rintro e w1 ⟨rfl, hb1, hb2⟩; obtain ⟨hc, hf⟩ := bcell hb2; have hz : w.heap.size < w1.heap.size := (by have := hb2.size; simp at this; omega)) | (go_at_call 95; refine (HI.out _ _ [1] (by decide) (HK.out _ hb1.size) (by have := hb1.size; simp; omega)).mono ?_; rintro e w2 ⟨v2, rfl, hR2, hb3⟩))
  go_ret2
  exact ⟨_, rfl, hR2, hb1.trans (((Below.refl _ _).alloc hb1.size _).trans hb3)⟩

set_option maxHeartbeats 1000000 in
theorem vencode_2 {n : Int} (hn : inI n) (s : ByteArray) (hs : s.size ≤ 9223372036854775807) (hr : vRight 2 n s.data.toList = true) (w : World) (hL : LaidU w) :
    Calls Tryd.prog 48 #[.agg #[.int .i64 2, .int .i64 n, .string s]] w fun e w' => ∃ v, e = .returned (.tuple #[v, .bool true]) ∧ Row w' w.heap.size v (vEnc 2 n s.data.toList) ∧ Below w.heap.size w w' := by
  have HV := hid (vright_in 2 hn s w hs hL)
  have hl : s.size ≤ 1000 := by
    have h1 := right_len hr
    have h2 : s.data.toList.length = s.size := rfl
    omega
  rw [hr] at HV
  have HI : Hid (∀ W v l, l.length ≤ 1000 → Row W w.heap.size v l → w.heap.size ≤ W.heap.size → Calls Tryd.prog 97 #[v, .string s] W fun e w' => ∃ v', e = .returned v' ∧ Row w' w.heap.size v' (l ++ (esc s.data.toList ++ [0, 1])) ∧ Below w.heap.size W w') := fun W v l hll hR hB => appendText_any s hl w.heap.size v l hll W hR hB
  clear hr hn hL hs hl
  have HB := hid (below_new w)
  have HK : Hid (∀ W : World, w.heap.size ≤ W.heap.size → Row (W.alloc (.cells #[.int .u8 2] 5)) w.heap.size (.slice (some ⟨W.heap.size, 0, none⟩) 1 1) [2]) := fun W hW => kind_row W w.heap.size hW 2 (by decide)
  go_enter Tryd.func48, Tryd.ntmps48
  go_wp2_with (first | (go_at_call 94; refine (HV.out _ (HB.out _)).mono ?_; rintro e w1 ⟨rfl, hb1, hb2⟩; obtain ⟨hc, hf⟩ := bcell hb2; have hz : w.heap.size < w1.heap.size := (by have := hb2.size; simp at this; omega)) | (go_at_call 97; refine (HI.out _ _ [2] (by decide) (HK.out _ hb1.size) (by have := hb1.size; simp; omega)).mono ?_; rintro e w2 ⟨v2, rfl, hR2, hb3⟩))
  go_ret2
  exact ⟨_, rfl, hR2, hb1.trans (((Below.refl _ _).alloc hb1.size _).trans hb3)⟩

set_option maxHeartbeats 1000000 in
theorem vencode_3 {n : Int} (hn : inI n) (s : ByteArray) (hs : s.size ≤ 9223372036854775807) (hr : vRight 3 n s.data.toList = true) (w : World) (hL : LaidU w) :
    Calls Tryd.prog 48 #[.agg #[.int .i64 3, .int .i64 n, .string s]] w fun e w' => ∃ v, e = .returned (.tuple #[v, .bool true]) ∧ Row w' w.heap.size v (vEnc 3 n s.data.toList) ∧ Below w.heap.size w w' := by
  have HV := hid (vright_in 3 hn s w hs hL)
  have hl : s.size ≤ 1000 := by
    have h1 := right_len hr
    have h2 : s.data.toList.length = s.size := rfl
    omega
  rw [hr] at HV
  have HI : Hid (∀ W v l, l.length ≤ 1000 → Row W w.heap.size v l → w.heap.size ≤ W.heap.size → Calls Tryd.prog 97 #[v, .string s] W fun e w' => ∃ v', e = .returned v' ∧ Row w' w.heap.size v' (l ++ (esc s.data.toList ++ [0, 1])) ∧ Below w.heap.size W w') := fun W v l hll hR hB => appendText_any s hl w.heap.size v l hll W hR hB
  clear hr hn hL hs hl
  have HB := hid (below_new w)
  have HK : Hid (∀ W : World, w.heap.size ≤ W.heap.size → Row (W.alloc (.cells #[.int .u8 3] 5)) w.heap.size (.slice (some ⟨W.heap.size, 0, none⟩) 1 1) [3]) := fun W hW => kind_row W w.heap.size hW 3 (by decide)
  go_enter Tryd.func48, Tryd.ntmps48
  go_wp2_with (first | (go_at_call 94; refine (HV.out _ (HB.out _)).mono ?_; rintro e w1 ⟨rfl, hb1, hb2⟩; obtain ⟨hc, hf⟩ := bcell hb2; have hz : w.heap.size < w1.heap.size := (by have := hb2.size; simp at this; omega)) | (go_at_call 97; refine (HI.out _ _ [3] (by decide) (HK.out _ hb1.size) (by have := hb1.size; simp; omega)).mono ?_; rintro e w2 ⟨v2, rfl, hR2, hb3⟩))
  go_ret2
  exact ⟨_, rfl, hR2, hb1.trans (((Below.refl _ _).alloc hb1.size _).trans hb3)⟩

set_option maxHeartbeats 1000000 in
theorem vencode_4 {n : Int} (hn : inI n) (s : ByteArray) (hs : s.size ≤ 9223372036854775807) (hr : vRight 4 n s.data.toList = true) (w : World) (hL : LaidU w) :
    Calls Tryd.prog 48 #[.agg #[.int .i64 4, .int .i64 n, .string s]] w fun e w' => ∃ v, e = .returned (.tuple #[v, .bool true]) ∧ Row w' w.heap.size v (vEnc 4 n s.data.toList) ∧ Below w.heap.size w w' := by
  have HV := hid (vright_in 4 hn s w hs hL)
  have h01 : n = 0 ∨ n = 1 := by
    simp [vRight] at hr
    exact hr.2
  rw [hr] at HV
  have HN : Hid (n % 256 = ((UInt8.ofNat n.toNat).toNat : Int)) := by
    unfold Hid
    rcases h01 with rfl | rfl <;> decide
  have HC : Hid (∀ (W : World) (o : Obj), ∀ j u, (bc [UInt8.ofNat n.toNat])[j]? = some u → ((W.alloc o).alloc (.cells #[.int .u8 (n % 256)] 5)).cell? ((⟨W.heap.size + 1, 0, none⟩ : Addr).add j) = some u) := fun W o => by
    have h1 := one_new' (W.alloc o) (UInt8.ofNat n.toNat) 5 _ HN.out
    have h2 : (W.alloc o).heap.size = W.heap.size + 1 := by simp
    rw [h2] at h1
    exact h1
  clear hr hn hL hs h01 HN
  have HB := hid (below_new w)
  have HK : Hid (∀ W : World, w.heap.size ≤ W.heap.size → Row (W.alloc (.cells #[.int .u8 4] 5)) w.heap.size (.slice (some ⟨W.heap.size, 0, none⟩) 1 1) [4]) := fun W hW => kind_row W w.heap.size hW 4 (by decide)
  go_enter Tryd.func48, Tryd.ntmps48
  go_wp2_with (first | (go_at_call 94; refine (HV.out _ (HB.out _)).mono ?_; rintro e w1 ⟨rfl, hb1, hb2⟩; obtain ⟨hc, hf⟩ := bcell hb2; have hz : w.heap.size < w1.heap.size := (by have := hb2.size; simp at this; omega)) | (at_builtin; refine wpList_append_bytes rfl _ _ rfl _ w.heap.size _ _ rfl ((HK.out _ hb1.size).alloc _) ⟨w1.heap.size + 1, 0, none⟩ 1 1 [UInt8.ofNat n.toNat] rfl rfl (HC.out _ _) (by simp) (by have := hb1.size; simp; omega) ?_; intro v2 w2 hR2 hb3))
  go_ret2
  exact ⟨_, rfl, hR2, hb1.trans ((((Below.refl _ _).alloc hb1.size _).alloc (by have := hb1.size; simp; omega) _).trans hb3)⟩

set_option maxHeartbeats 1000000 in
theorem vencode_5 {n : Int} (hn : inI n) (s : ByteArray) (hs : s.size ≤ 9223372036854775807) (hr : vRight 5 n s.data.toList = true) (w : World) (hL : LaidU w) :
    Calls Tryd.prog 48 #[.agg #[.int .i64 5, .int .i64 n, .string s]] w fun e w' => ∃ v, e = .returned (.tuple #[v, .bool true]) ∧ Row w' w.heap.size v (vEnc 5 n s.data.toList) ∧ Below w.heap.size w w' := by
  have HV := hid (vright_in 5 hn s w hs hL)
  have hrb : rightB n = true := by
    simp [vRight] at hr
    exact hr.2
  rw [hr] at HV
  have HF : Hid (∀ (W : World) (b : Nat), W.heap.size = b → Calls Tryd.prog 96 #[.int .i64 n] W fun e w' => e = .returned (.slice (some ⟨b, 0, none⟩) 8 8) ∧ (∀ j u, (bc (byW 8 (rankI n).toNat))[j]? = some u → w'.cell? ((⟨b, 0, none⟩ : Addr).add j) = some u) ∧ Below W.heap.size W w') := fun W b hb => by
    subst hb
    exact (bytes_yes hn hrb W).mono fun e w' ⟨he, hB, hb⟩ => ⟨he, blk_cells hB, hb⟩
  obtain ⟨l, hl⟩ : ∃ l, byW 8 (rankI n).toNat = l := ⟨_, rfl⟩
  have HL : Hid (l.length = 8) := by rw [← hl]; exact byW_len _ _
  have HE : Hid (vEnc 5 n s.data.toList = [5] ++ l) := by rw [← hl]; rfl
  rw [hl] at HF
  clear hr hn hL hs hrb hl
  have HB := hid (below_new w)
  have HK : Hid (∀ W : World, w.heap.size ≤ W.heap.size → Row (W.alloc (.cells #[.int .u8 5] 5)) w.heap.size (.slice (some ⟨W.heap.size, 0, none⟩) 1 1) [5]) := fun W hW => kind_row W w.heap.size hW 5 (by decide)
  go_enter Tryd.func48, Tryd.ntmps48
  go_wp2_with (first | (go_at_call 94; refine (HV.out _ (HB.out _)).mono ?_; rintro e w1 ⟨rfl, hb1, hb2⟩; obtain ⟨hc, hf⟩ := bcell hb2; have hz : w.heap.size < w1.heap.size := (by have := hb2.size; simp at this; omega)) | (go_at_call 96; refine (HF.out _ (w1.heap.size + 1) (by simp)).mono ?_; rintro e w2 ⟨rfl, hBk, hb3⟩; have hR1 : Row w2 w.heap.size (.slice (some ⟨w1.heap.size, 0, none⟩) 1 1) [5] := ((HK.out w1 hb1.size).keep hb3 (fun g hg => by simp [Value.ownBlock] at hg; simp; omega)); have hs2 : w.heap.size ≤ w2.heap.size := (by have := hb3.size; have := hb1.size; simp at *; omega); have HBk := hid hBk; clear hBk) | (at_builtin; refine wpList_append_bytes rfl (.tmp 26) (.tmp 29) rfl _ w.heap.size (.slice (some ⟨w1.heap.size, 0, none⟩) 1 1) [5] rfl hR1 ⟨w1.heap.size + 1, 0, none⟩ 8 8 l HL.out rfl HBk.out (by have := HL.out; simp only [List.length_cons, List.length_nil]; omega) hs2 ?_; intro v2 w2' hR2 hb4))
  go_ret2
  refine ⟨_, rfl, ?_, ?_⟩
  · rw [HE.out]; exact hR2
  · exact hb1.trans ((((Below.refl _ _).alloc hb1.size _).trans (hb3.mono (by simp; omega))).trans hb4)

/-- val.Encode of a right value. -/
theorem vencode_yes (k : Int) {n : Int} (hn : inI n) (s : ByteArray) (hs : s.size ≤ 9223372036854775807) (hr : vRight k n s.data.toList = true) (w : World) (hL : LaidU w) :
    Calls Tryd.prog 48 #[.agg #[.int .i64 k, .int .i64 n, .string s]] w fun e w' => ∃ v, e = .returned (.tuple #[v, .bool true]) ∧ Row w' w.heap.size v (vEnc k n s.data.toList) ∧ Below w.heap.size w w' := by
  rcases right_kind hr with rfl | rfl | rfl | rfl | rfl
  · exact vencode_1 hn s hs hr w hL
  · exact vencode_2 hn s hs hr w hL
  · exact vencode_3 hn s hs hr w hL
  · exact vencode_4 hn s hs hr w hL
  · exact vencode_5 hn s hs hr w hL

end Go.Proofs.YtfcnobcpnhfgmaaDoor
