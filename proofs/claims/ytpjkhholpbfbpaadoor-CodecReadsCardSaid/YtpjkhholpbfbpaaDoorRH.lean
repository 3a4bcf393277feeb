/- The document's Encode, for every value with a text of at most a thousand bytes. Conditions: the number is of 64 bits. -/
import Derived.Test.YtpjkhholpbfbpaaDoorRG
import Derived.Test.YtpjkhholpbfbpaaDoorRA
import Derived.Test.YtpjkhholpbfbpaaDoorMD
namespace Go.Proofs.YtpjkhholpbfbpaaDoor
open Go.RowKit

set_option maxHeartbeats 1000000 in
theorem refEncode_no (k n : Int) (s : ByteArray) (hs : s.size ≤ 4000) (hr : vRight k n s.data.toList = false) (w : World) :
    Calls Tryd.prog 75 #[.agg #[.int .i64 k, .int .i64 n, .string s]] w fun e w' => e = .returned (.tuple #[.slice none 0 0, .bool false]) ∧ Below w.heap.size w w' := by
  have HV : Hid (∀ W, Below w.heap.size w W → Calls Tryd.prog 52 #[.agg #[.int .i64 k, .int .i64 n, .string s]] W fun e w' => e = .returned (.bool false) ∧ Below w.heap.size w w' ∧ Below W.heap.size W w') := fun W hW => by rw [← hr]; exact (refright_any k n s W hs).mono fun _ _ ⟨he, hb⟩ => ⟨he, hW.trans (hb.mono hW.size), hb⟩
  have HB := hid (below_new w)
  clear hr hs
  go_enter Tryd.func75, Tryd.ntmps75
  go_wp2_with (go_at_call 52; refine (HV.out _ (HB.out _)).mono ?_; rintro e w1 ⟨rfl, hb1, hb2⟩)
  go_ret2
  exact ⟨rfl, hb1⟩
theorem up_wrap {n : Int} (h : inI n) : IntKind.u64.wrap (IntKind.u64.wrap n + 9223372036854775808) = (upI n : Int) := by
  rw [IntKind.wrap_u64, IntKind.wrap_u64]
  unfold upI inI at *
  omega

set_option maxHeartbeats 1000000 in
theorem refEncode_1 {n : Int} (hn : inI n) (s : ByteArray) (hs : s.size ≤ 4000) (hr : vRight 1 n s.data.toList = true) (w : World) :
    Calls Tryd.prog 75 #[.agg #[.int .i64 1, .int .i64 n, .string s]] w fun e w' => ∃ v, e = .returned (.tuple #[v, .bool true]) ∧ Row w' w.heap.size v (vEnc 1 n s.data.toList) ∧ Below w.heap.size w w' := by
  have HV : Hid (∀ W, Below w.heap.size w W → Calls Tryd.prog 52 #[.agg #[.int .i64 1, .int .i64 n, .string s]] W fun e w' => e = .returned (.bool true) ∧ Below w.heap.size w w' ∧ Below W.heap.size W w') := fun W hW => by rw [← hr]; exact (refright_any 1 n s W hs).mono fun _ _ ⟨he, hb⟩ => ⟨he, hW.trans (hb.mono hW.size), hb⟩
  have HB := hid (below_new w)
  have HK : Hid (∀ W : World, w.heap.size ≤ W.heap.size → Row (W.alloc (.cells #[.int .u8 1] 5)) w.heap.size (.slice (some ⟨W.heap.size, 0, none⟩) 1 1) [1]) := fun W hW => kind_row W w.heap.size hW 1 (by decide)
  have HF : Hid (∀ (W : World) (b : Nat), W.heap.size = b → Calls Tryd.prog 98 #[.int .u64 (upI n : Int)] W fun e w' => e = .returned (.slice (some ⟨b, 0, none⟩) 8 8) ∧ (∀ j u, (bc (byW 8 (upI n)))[j]? = some u → w'.cell? ((⟨b, 0, none⟩ : Addr).add j) = some u) ∧ Below W.heap.size W w') := fun W b hb => by
    subst hb
    exact (eight_any (upI n) (upI_lt hn) W).mono fun e w' ⟨he, hB, hb⟩ => ⟨he, blk_cells hB, hb⟩
  have hx := up_wrap hn
  obtain ⟨u, hu⟩ : ∃ u : Nat, upI n = u := ⟨_, rfl⟩
  have HE : Hid (vEnc 1 n s.data.toList = [1] ++ byW 8 u) := by rw [← hu]; rfl
  rw [hu] at HF hx
  obtain ⟨l, hl⟩ : ∃ l, byW 8 u = l := ⟨_, rfl⟩
  have HL : Hid (l.length = 8) := by rw [← hl]; exact byW_len _ _
  rw [hl] at HF HE
  clear hr hn hs hu hl
  go_enter Tryd.func75, Tryd.ntmps75
  go_wp2_with (first | (go_at_call 52; refine (HV.out _ (HB.out _)).mono ?_; rintro e w1 ⟨rfl, hb1, hb2⟩; obtain ⟨hc, hf⟩ := bcell hb2; have hz : w.heap.size < w1.heap.size := (by have := hb2.size; simp at this; omega)) | (go_at_call 98; refine (HF.out _ (w1.heap.size + 1) (by simp)).mono ?_; rintro e w2 ⟨rfl, hBk, hb3⟩; have hR1 : Row w2 w.heap.size (.slice (some ⟨w1.heap.size, 0, none⟩) 1 1) [1] := ((HK.out w1 hb1.size).keep hb3 (fun g hg => by simp [Value.ownBlock] at hg; simp; omega)); have hs2 : w.heap.size ≤ w2.heap.size := (by have := hb3.size; have := hb1.size; simp at *; omega); have HBk := hid hBk; clear hBk) | (at_builtin; refine wpList_append_bytes rfl (.tmp 16) (.tmp 21) rfl _ w.heap.size (.slice (some ⟨w1.heap.size, 0, none⟩) 1 1) [1] rfl hR1 ⟨w1.heap.size + 1, 0, none⟩ 8 8 l HL.out rfl HBk.out (by have := HL.out; simp only [List.length_cons, List.length_nil]; omega) hs2 ?_; intro v2 w2' hR2 hb4))
  go_ret2
  refine ⟨_, rfl, ?_, ?_⟩
  · rw [HE.out]; exact hR2
  · exact hb1.trans ((((Below.refl _ _).alloc hb1.size _).trans (hb3.mono (by simp; omega))).trans hb4)

set_option maxHeartbeats 1000000 in
theorem refEncode_5 {n : Int} (hn : inI n) (s : ByteArray) (hs : s.size ≤ 4000) (hr : vRight 5 n s.data.toList = true) (w : World) :
    Calls Tryd.prog 75 #[.agg #[.int .i64 5, .int .i64 n, .string s]] w fun e w' => ∃ v, e = .returned (.tuple #[v, .bool true]) ∧ Row w' w.heap.size v (vEnc 5 n s.data.toList) ∧ Below w.heap.size w w' := by
  have HV : Hid (∀ W, Below w.heap.size w W → Calls Tryd.prog 52 #[.agg #[.int .i64 5, .int .i64 n, .string s]] W fun e w' => e = .returned (.bool true) ∧ Below w.heap.size w w' ∧ Below W.heap.size W w') := fun W hW => by rw [← hr]; exact (refright_any 5 n s W hs).mono fun _ _ ⟨he, hb⟩ => ⟨he, hW.trans (hb.mono hW.size), hb⟩
  have HB := hid (below_new w)
  have HK : Hid (∀ W : World, w.heap.size ≤ W.heap.size → Row (W.alloc (.cells #[.int .u8 5] 5)) w.heap.size (.slice (some ⟨W.heap.size, 0, none⟩) 1 1) [5]) := fun W hW => kind_row W w.heap.size hW 5 (by decide)
  have hrb : rightB n = true := by
    simp [vRight] at hr
    exact hr.2
  have HF : Hid (∀ (W : World) (b : Nat), W.heap.size = b → Calls Tryd.prog 99 #[.int .i64 n] W fun e w' => e = .returned (.slice (some ⟨b, 0, none⟩) 8 8) ∧ (∀ j u, (bc (byW 8 (rankI n).toNat))[j]? = some u → w'.cell? ((⟨b, 0, none⟩ : Addr).add j) = some u) ∧ Below W.heap.size W w') := fun W b hb => by
    subst hb
    exact (refBytes_yes hn hrb W).mono fun e w' ⟨he, hB, hb⟩ => ⟨he, blk_cells hB, hb⟩
  obtain ⟨l, hl⟩ : ∃ l, byW 8 (rankI n).toNat = l := ⟨_, rfl⟩
  have HL : Hid (l.length = 8) := by rw [← hl]; exact byW_len _ _
  have HE : Hid (vEnc 5 n s.data.toList = [5] ++ l) := by rw [← hl]; rfl
  rw [hl] at HF
  clear hr hn hs hrb hl
  go_enter Tryd.func75, Tryd.ntmps75
  go_wp2_with (first | (go_at_call 52; refine (HV.out _ (HB.out _)).mono ?_; rintro e w1 ⟨rfl, hb1, hb2⟩; obtain ⟨hc, hf⟩ := bcell hb2; have hz : w.heap.size < w1.heap.size := (by have := hb2.size; simp at this; omega)) | (go_at_call 99; refine (HF.out _ (w1.heap.size + 1) (by simp)).mono ?_; rintro e w2 ⟨rfl, hBk, hb3⟩; have hR1 : Row w2 w.heap.size (.slice (some ⟨w1.heap.size, 0, none⟩) 1 1) [5] := ((HK.out w1 hb1.size).keep hb3 (fun g hg => by simp [Value.ownBlock] at hg; simp; omega)); have hs2 : w.heap.size ≤ w2.heap.size := (by have := hb3.size; have := hb1.size; simp at *; omega); have HBk := hid hBk; clear hBk) | (at_builtin; refine wpList_append_bytes rfl (.tmp 25) (.tmp 28) rfl _ w.heap.size (.slice (some ⟨w1.heap.size, 0, none⟩) 1 1) [5] rfl hR1 ⟨w1.heap.size + 1, 0, none⟩ 8 8 l HL.out rfl HBk.out (by have := HL.out; simp only [List.length_cons, List.length_nil]; omega) hs2 ?_; intro v2 w2' hR2 hb4))
  go_ret2
  refine ⟨_, rfl, ?_, ?_⟩
  · rw [HE.out]; exact hR2
  · exact hb1.trans ((((Below.refl _ _).alloc hb1.size _).trans (hb3.mono (by simp; omega))).trans hb4)

set_option maxHeartbeats 1000000 in
theorem refEncode_4 {n : Int} (_hn : inI n) (s : ByteArray) (hs : s.size ≤ 4000) (hr : vRight 4 n s.data.toList = true) (w : World) :
    Calls Tryd.prog 75 #[.agg #[.int .i64 4, .int .i64 n, .string s]] w fun e w' => ∃ v, e = .returned (.tuple #[v, .bool true]) ∧ Row w' w.heap.size v (vEnc 4 n s.data.toList) ∧ Below w.heap.size w w' := by
  have HV : Hid (∀ W, Below w.heap.size w W → Calls Tryd.prog 52 #[.agg #[.int .i64 4, .int .i64 n, .string s]] W fun e w' => e = .returned (.bool true) ∧ Below w.heap.size w w' ∧ Below W.heap.size W w') := fun W hW => by rw [← hr]; exact (refright_any 4 n s W hs).mono fun _ _ ⟨he, hb⟩ => ⟨he, hW.trans (hb.mono hW.size), hb⟩
  have HB := hid (below_new w)
  have HK : Hid (∀ W : World, w.heap.size ≤ W.heap.size → Row (W.alloc (.cells #[.int .u8 4] 5)) w.heap.size (.slice (some ⟨W.heap.size, 0, none⟩) 1 1) [4]) := fun W hW => kind_row W w.heap.size hW 4 (by decide)
  have h01 : n = 0 ∨ n = 1 := by
    simp [vRight] at hr
    exact hr.2
  have HN : Hid (n % 256 = ((UInt8.ofNat n.toNat).toNat : Int)) := by
    unfold Hid
    rcases h01 with rfl | rfl <;> decide
  have HC : Hid (∀ (W : World) (o : Obj), ∀ j u, (bc [UInt8.ofNat n.toNat])[j]? = some u → ((W.alloc o).alloc (.cells #[.int .u8 (n % 256)] 5)).cell? ((⟨W.heap.size + 1, 0, none⟩ : Addr).add j) = some u) := fun W o => by
    have h1 := one_new' (W.alloc o) (UInt8.ofNat n.toNat) 5 _ HN.out
    have h2 : (W.alloc o).heap.size = W.heap.size + 1 := by simp
    rw [h2] at h1
    exact h1
  clear hr hs h01 HN
  go_enter Tryd.func75, Tryd.ntmps75
  go_wp2_with (first | (go_at_call 52; refine (HV.out _ (HB.out _)).mono ?_; rintro e w1 ⟨rfl, hb1, hb2⟩; obtain ⟨hc, hf⟩ := bcell hb2; have hz : w.heap.size < w1.heap.size := (by have := hb2.size; simp at this; omega)) | (at_builtin; refine wpList_append_bytes rfl (.tmp 32) (.tmp 36) rfl _ w.heap.size _ _ rfl ((HK.out _ hb1.size).alloc _) ⟨w1.heap.size + 1, 0, none⟩ 1 1 [UInt8.ofNat n.toNat] rfl rfl (HC.out _ _) (by simp) (by have := hb1.size; simp; omega) ?_; intro v2 w2 hR2 hb3))
  go_ret2
  exact ⟨_, rfl, hR2, hb1.trans ((((Below.refl _ _).alloc hb1.size _).alloc (by have := hb1.size; simp; omega) _).trans hb3)⟩

set_option maxHeartbeats 1000000 in
theorem refEncode_2 {n : Int} (_hn : inI n) (s : ByteArray) (hs : s.size ≤ 4000) (hr : vRight 2 n s.data.toList = true) (w : World) :
    Calls Tryd.prog 75 #[.agg #[.int .i64 2, .int .i64 n, .string s]] w fun e w' => ∃ v, e = .returned (.tuple #[v, .bool true]) ∧ Row w' w.heap.size v (vEnc 2 n s.data.toList) ∧ Below w.heap.size w w' := by
  have HV : Hid (∀ W, Below w.heap.size w W → Calls Tryd.prog 52 #[.agg #[.int .i64 2, .int .i64 n, .string s]] W fun e w' => e = .returned (.bool true) ∧ Below w.heap.size w w' ∧ Below W.heap.size W w') := fun W hW => by rw [← hr]; exact (refright_any 2 n s W hs).mono fun _ _ ⟨he, hb⟩ => ⟨he, hW.trans (hb.mono hW.size), hb⟩
  have HB := hid (below_new w)
  have HK : Hid (∀ W : World, w.heap.size ≤ W.heap.size → Row (W.alloc (.cells #[.int .u8 2] 5)) w.heap.size (.slice (some ⟨W.heap.size, 0, none⟩) 1 1) [2]) := fun W hW => kind_row W w.heap.size hW 2 (by decide)
  have HF : Hid (∀ (W : World), Calls Tryd.prog 100 #[.string s] W fun e w' => ∃ g c, e = .returned (.slice (some ⟨g, 0, none⟩) (esc s.data.toList ++ [0, 1]).length c) ∧ (∀ j u, (bc (esc s.data.toList ++ [0, 1]))[j]? = some u → w'.cell? ((⟨g, 0, none⟩ : Addr).add j) = some u) ∧ Below W.heap.size W w') := fun W =>
    (refEscaped_any s hs W).mono fun e w' ⟨v, he, hR, hb⟩ => by
      obtain ⟨g, c, rfl, _, _, _, h6⟩ := hR.form (by simp)
      refine ⟨g, c, he, fun j u hu => ?_, hb⟩
      have hj : j < (esc s.data.toList ++ [0, 1]).length := by
        rcases Nat.lt_or_ge j (esc s.data.toList ++ [0, 1]).length with h | h
        · exact h
        · rw [List.getElem?_eq_none (by rw [bc_len]; exact h)] at hu; cases hu
      rw [add_zero_off, Nat.zero_add, h6 j hj, ← hu, bc_at, List.getElem?_eq_getElem hj]
      simp [List.getElem?_eq_getElem hj]
  have HE : Hid (vEnc 2 n s.data.toList = [2] ++ (esc s.data.toList ++ [0, 1])) := rfl
  have HLs : Hid ((esc s.data.toList ++ [0, 1]).length ≤ 12000) := by
    have := esc_len s.data.toList
    have h2 : s.data.toList.length = s.size := rfl
    unfold Hid
    simp
    omega
  obtain ⟨l, hl⟩ : ∃ l, esc s.data.toList ++ [0, 1] = l := ⟨_, rfl⟩
  rw [hl] at HF HE HLs
  obtain ⟨m, hm⟩ : ∃ m, l.length = m := ⟨_, rfl⟩
  have HM := hid hm
  rw [hm] at HF HLs
  clear hr hs hl hm
  go_enter Tryd.func75, Tryd.ntmps75
  go_wp2_with (first | (go_at_call 52; refine (HV.out _ (HB.out _)).mono ?_; rintro e w1 ⟨rfl, hb1, hb2⟩; obtain ⟨hc, hf⟩ := bcell hb2; have hz : w.heap.size < w1.heap.size := (by have := hb2.size; simp at this; omega)) | (go_at_call 100; refine (HF.out _).mono ?_; rintro e w2 ⟨g2, q2, rfl, hBk, hb3⟩; have hR1 : Row w2 w.heap.size (.slice (some ⟨w1.heap.size, 0, none⟩) 1 1) [2] := ((HK.out w1 hb1.size).keep hb3 (fun g hg => by simp [Value.ownBlock] at hg; simp; omega)); have hs2 : w.heap.size ≤ w2.heap.size := (by have := hb3.size; have := hb1.size; simp at *; omega); have HBk := hid hBk; clear hBk) | (at_builtin; refine wpList_append_bytes rfl (.tmp 38) (.tmp 41) rfl _ w.heap.size (.slice (some ⟨w1.heap.size, 0, none⟩) 1 1) [2] rfl hR1 ⟨g2, 0, none⟩ m q2 l HM.out rfl HBk.out (by have := HM.out; have := HLs.out; simp only [List.length_cons, List.length_nil]; omega) hs2 ?_; intro v2 w2' hR2 hb4))
  go_ret2
  refine ⟨_, rfl, ?_, ?_⟩
  · rw [HE.out]; exact hR2
  · exact hb1.trans ((((Below.refl _ _).alloc hb1.size _).trans (hb3.mono (by simp; omega))).trans hb4)

set_option maxHeartbeats 1000000 in
theorem refEncode_3 {n : Int} (_hn : inI n) (s : ByteArray) (hs : s.size ≤ 4000) (hr : vRight 3 n s.data.toList = true) (w : World) :
    Calls Tryd.prog 75 #[.agg #[.int .i64 3, .int .i64 n, .string s]] w fun e w' => ∃ v, e = .returned (.tuple #[v, .bool true]) ∧ Row w' w.heap.size v (vEnc 3 n s.data.toList) ∧ Below w.heap.size w w' := by
  have HV : Hid (∀ W, Below w.heap.size w W → Calls Tryd.prog 52 #[.agg #[.int .i64 3, .int .i64 n, .string s]] W fun e w' => e = .returned (.bool true) ∧ Below w.heap.size w w' ∧ Below W.heap.size W w') := fun W hW => by rw [← hr]; exact (refright_any 3 n s W hs).mono fun _ _ ⟨he, hb⟩ => ⟨he, hW.trans (hb.mono hW.size), hb⟩
  have HB := hid (below_new w)
  have HK : Hid (∀ W : World, w.heap.size ≤ W.heap.size → Row (W.alloc (.cells #[.int .u8 3] 5)) w.heap.size (.slice (some ⟨W.heap.size, 0, none⟩) 1 1) [3]) := fun W hW => kind_row W w.heap.size hW 3 (by decide)
  have HF : Hid (∀ (W : World), Calls Tryd.prog 100 #[.string s] W fun e w' => ∃ g c, e = .returned (.slice (some ⟨g, 0, none⟩) (esc s.data.toList ++ [0, 1]).length c) ∧ (∀ j u, (bc (esc s.data.toList ++ [0, 1]))[j]? = some u → w'.cell? ((⟨g, 0, none⟩ : Addr).add j) = some u) ∧ Below W.heap.size W w') := fun W =>
    (refEscaped_any s hs W).mono fun e w' ⟨v, he, hR, hb⟩ => by
      obtain ⟨g, c, rfl, _, _, _, h6⟩ := hR.form (by simp)
      refine ⟨g, c, he, fun j u hu => ?_, hb⟩
      have hj : j < (esc s.data.toList ++ [0, 1]).length := by
        rcases Nat.lt_or_ge j (esc s.data.toList ++ [0, 1]).length with h | h
        · exact h
        · rw [List.getElem?_eq_none (by rw [bc_len]; exact h)] at hu; cases hu
      rw [add_zero_off, Nat.zero_add, h6 j hj, ← hu, bc_at, List.getElem?_eq_getElem hj]
      simp [List.getElem?_eq_getElem hj]
  have HE : Hid (vEnc 3 n s.data.toList = [3] ++ (esc s.data.toList ++ [0, 1])) := rfl
  have HLs : Hid ((esc s.data.toList ++ [0, 1]).length ≤ 12000) := by
    have := esc_len s.data.toList
    have h2 : s.data.toList.length = s.size := rfl
    unfold Hid
    simp
    omega
  obtain ⟨l, hl⟩ : ∃ l, esc s.data.toList ++ [0, 1] = l := ⟨_, rfl⟩
  rw [hl] at HF HE HLs
  obtain ⟨m, hm⟩ : ∃ m, l.length = m := ⟨_, rfl⟩
  have HM := hid hm
  rw [hm] at HF HLs
  clear hr hs hl hm
  go_enter Tryd.func75, Tryd.ntmps75
  go_wp2_with (first | (go_at_call 52; refine (HV.out _ (HB.out _)).mono ?_; rintro e w1 ⟨rfl, hb1, hb2⟩; obtain ⟨hc, hf⟩ := bcell hb2; have hz : w.heap.size < w1.heap.size := (by have := hb2.size; simp at this; omega)) | (go_at_call 100; refine (HF.out _).mono ?_; rintro e w2 ⟨g2, q2, rfl, hBk, hb3⟩; have hR1 : Row w2 w.heap.size (.slice (some ⟨w1.heap.size, 0, none⟩) 1 1) [3] := ((HK.out w1 hb1.size).keep hb3 (fun g hg => by simp [Value.ownBlock] at hg; simp; omega)); have hs2 : w.heap.size ≤ w2.heap.size := (by have := hb3.size; have := hb1.size; simp at *; omega); have HBk := hid hBk; clear hBk) | (at_builtin; refine wpList_append_bytes rfl (.tmp 38) (.tmp 41) rfl _ w.heap.size (.slice (some ⟨w1.heap.size, 0, none⟩) 1 1) [3] rfl hR1 ⟨g2, 0, none⟩ m q2 l HM.out rfl HBk.out (by have := HM.out; have := HLs.out; simp only [List.length_cons, List.length_nil]; omega) hs2 ?_; intro v2 w2' hR2 hb4))
  go_ret2
  refine ⟨_, rfl, ?_, ?_⟩
  · rw [HE.out]; exact hR2
  · exact hb1.trans ((((Below.refl _ _).alloc hb1.size _).trans (hb3.mono (by simp; omega))).trans hb4)

/-- The document's Encode of a right value. -/
theorem refEncode_yes (k : Int) {n : Int} (hn : inI n) (s : ByteArray) (hs : s.size ≤ 4000) (hr : vRight k n s.data.toList = true) (w : World) :
    Calls Tryd.prog 75 #[.agg #[.int .i64 k, .int .i64 n, .string s]] w fun e w' => ∃ v, e = .returned (.tuple #[v, .bool true]) ∧ Row w' w.heap.size v (vEnc k n s.data.toList) ∧ Below w.heap.size w w' := by
  rcases right_kind hr with rfl | rfl | rfl | rfl | rfl
  · exact refEncode_1 hn s hs hr w
  · exact refEncode_2 hn s hs hr w
  · exact refEncode_3 hn s hs hr w
  · exact refEncode_4 hn s hs hr w
  · exact refEncode_5 hn s hs hr w

end Go.Proofs.YtpjkhholpbfbpaaDoor
