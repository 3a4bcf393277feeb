/- codec.Encode: the bytes of every right cell. Conditions: the texts are no longer than any are, the number of the value one of 64 bits; the tables of utf8 read as they are laid. -/
import Derived.Test.YtpjkhholpbfbpaaDoorCG
namespace Go.Proofs.YtpjkhholpbfbpaaDoor
open Go.RowKit

theorem wp_ltr {P : Program} {c : Code} {Q : Exit → Act → World → Prop} {a : Act} {w : World} (F : World → Prop) (h0 : F w) (h : ∀ W, F W → c.wp P Q a W) : c.wp P Q a w := h w h0
abbrev wr0 (W : World) : World := W.alloc (.cells #[.slice none 0 0, .int .i64 0, .int .i8 0] 85)

set_option maxRecDepth 100000 in
set_option maxHeartbeats 2000000 in
theorem encode_no (r f q vs : ByteArray) (t k vk : Int) {vn : Int} (hn : inI vn) (hf : f.size ≤ 9223372036854775807) (hv : vs.size ≤ 9223372036854775807) (w : World) (hL : LaidU w) (hr : cRight r.data.toList f.data.toList q.data.toList t k vk vn vs.data.toList = false) :
    Calls Tryd.prog 30 #[cellV r f q t k vk vn vs] w fun e w' => e = .returned (.tuple #[.slice none 0 0, .bool false]) ∧ Below w.heap.size w w' := by
  have HR : Hid (∀ W, Below w.heap.size w W → Calls Tryd.prog 33 #[cellV r f q t k vk vn vs] W fun e w' => e = .returned (.bool false) ∧ Below W.heap.size W w') := fun W hW => by
    have := cright_any r f q vs t k vk hn hf hv W (hL.below hW)
    rwa [hr] at this
  clear hL hr
  go_enter Tryd.func30, Tryd.ntmps30
  go_wp2_with (go_at_call 33; refine (HR.out _ (below_new _ _)).mono ?_; rintro e w1 ⟨rfl, hb⟩)
  go_ret2
  exact ⟨rfl, (below_new _ _).trans (hb.mono (by simp))⟩

theorem row_write {w : World} {B : Nat} {v : Value} {l : List UInt8} (h : Row w B v l) (hl : 0 < l.length) : ∃ g c, v = .slice (some ⟨g, 0, none⟩) l.length c ∧ B ≤ g ∧ ∀ j u, (bc l)[j]? = some u → w.cell? ((⟨g, 0, none⟩ : Addr).add j) = some u := by
  obtain ⟨g, c, rfl, hB, _, _, hc⟩ := h.form hl
  refine ⟨g, c, rfl, hB, fun j u hu => ?_⟩
  have hj : j < l.length := by
    rcases Nat.lt_or_ge j l.length with h1 | h1
    · exact h1
    · rw [bc_at, List.getElem?_eq_none h1] at hu; cases hu
  rw [add_zero_off, Nat.zero_add, hc j hj, ← hu, bc_at, List.getElem?_eq_getElem hj, List.getD_eq_getElem?_getD, List.getElem?_eq_getElem hj]
  rfl
set_option maxRecDepth 100000 in
set_option maxHeartbeats 4000000 in
theorem encode_other (r f q vs : ByteArray) (t k vk : Int) {vn : Int} (hn : inI vn) (hf : f.size ≤ 9223372036854775807) (hv : vs.size ≤ 9223372036854775807) (w : World) (hL : LaidU w) (hr : cRight r.data.toList f.data.toList q.data.toList t k vk vn vs.data.toList = true) (hk : ¬ k = 1) :
    Calls Tryd.prog 30 #[cellV r f q t k vk vn vs] w fun e w' => ∃ v, e = .returned (.tuple #[v, .bool true]) ∧ Row w' w.heap.size v (keyM r.data.toList f.data.toList q.data.toList t k) ∧ Below w.heap.size w w' := by
  obtain ⟨p1, p2, p3, p4, p5, p6, p7, p8, p9, pf, pv, pw⟩ := cright_parts hr
  have hr16 : r.size ≤ 16 := p2
  have hf8 : f.size ≤ 8 := p4
  have hq12 : q.size ≤ 12 := p5
  have HR : Hid (∀ W, Below w.heap.size w W → Calls Tryd.prog 33 #[cellV r f q t k vk vn vs] W fun e w' => e = .returned (.bool true) ∧ Below W.heap.size W w') := fun W hW => by
    have := cright_any r f q vs t k vk hn hf hv W (hL.below hW)
    rwa [hr] at this
  have HKy : Hid (∀ (W : World) (b : Nat), Wr W w.heap.size b [] → Calls Tryd.prog 56 #[.pointer (some ⟨b, 0, none⟩), cellV r f q t k vk vn vs] W fun e w' => e = .returned (.tuple #[]) ∧ Wr w' w.heap.size b (keyM r.data.toList f.data.toList q.data.toList t k) ∧ WF w.heap.size b W w') :=
    fun W b hW => wkey_any w.heap.size b r f q vs t k vk vn hr16 hf8 hq12 p6 p7 p8 p9 W hW (by have h1 := hW.1; have h2 := Wr.lt hW; omega)
  have HBL : Hid (∀ W W1 : World, W = w.alloc (.cells #[.string r, .string f, .string q, .int .i64 t, .int .i64 k, .int .i64 vk, .int .i64 vn, .string vs] 28) → Below W.heap.size W W1 → Blk (W1.alloc (.cells #[.slice none 0 0, .int .i64 0, .int .i8 0] 85)) w.heap.size 28 #[.string r, .string f, .string q, .int .i64 t, .int .i64 k, .int .i64 vk, .int .i64 vn, .string vs] ∧ w.heap.size < W1.heap.size ∧ Below w.heap.size w W1) := by
    intro W W1 e hb
    subst e
    have hz : w.heap.size < W1.heap.size := Nat.lt_of_lt_of_le (by simp) hb.size
    exact ⟨((Blk.new w _ _).keep hb (by simp)).keep (below_new _ _) hz, hz, (below_new _ _).trans (hb.mono (by simp))⟩
  have q0 : (k == 1) = false := by simpa using hk
  clear hL hr p1 p2 p3 p4 p5 p6 p7 p8 p9 pf pv pw
  go_enter Tryd.func30, Tryd.ntmps30
  go_upto_region 4 with (go_at_call 33; refine (HR.out _ (below_new _ _)).mono ?_; rintro e w1 ⟨rfl, hb⟩; have HB1 := hid (HBL.out _ _ rfl hb); clear hb)
  obtain ⟨b, hb⟩ : ∃ b, w1.heap.size = b := ⟨_, rfl⟩
  refine wp_ltr (fun W => Hid (Wr W w.heap.size b [] ∧ Blk W w.heap.size 28 #[.string r, .string f, .string q, .int .i64 t, .int .i64 k, .int .i64 vk, .int .i64 vn, .string vs] ∧ w.heap.size < b ∧ Below w.heap.size w W) ∧ W.cell? ⟨w.heap.size, 0, none⟩ = some (.string r) ∧ W.cell? ⟨w.heap.size, 1, none⟩ = some (.string f) ∧ W.cell? ⟨w.heap.size, 2, none⟩ = some (.string q) ∧ W.cell? ⟨w.heap.size, 3, none⟩ = some (.int .i64 t) ∧ W.cell? ⟨w.heap.size, 4, none⟩ = some (.int .i64 k) ∧ W.cell? ⟨w.heap.size, 5, none⟩ = some (.int .i64 vk) ∧ W.cell? ⟨w.heap.size, 6, none⟩ = some (.int .i64 vn) ∧ W.cell? ⟨w.heap.size, 7, none⟩ = some (.string vs)) ?_ (fun W hW => ?_)
  · obtain ⟨B1, z1, bw1⟩ := HB1.out
    exact ⟨⟨by rw [← hb]; exact wr_new w1 _ (Nat.le_of_lt z1), B1, by omega, bw1.alloc (Nat.le_of_lt z1) _⟩, B1.cell 0, B1.cell 1, B1.cell 2, B1.cell 3, B1.cell 4, B1.cell 5, B1.cell 6, B1.cell 7⟩
  obtain ⟨HW, g0, g1, g2, g3, g4, g5, g6, g7⟩ := hW
  rw [hb]
  clear HB1 hb
  go_wp2_with (first
    | (go_at_call 56; refine (HKy.out W b HW.out.1).mono ?_; rintro e w2 ⟨rfl, h2, k2⟩; clear g0 g1 g2 g3 g4 g5 g6 g7; have B2 := hid (k2.blk HW.out.2.1 (Nat.ne_of_lt HW.out.2.2.1) (by decide)); have g4 : w2.cell? ⟨w.heap.size, 4, none⟩ = some (.int .i64 k) := B2.out.cell 4)
    | (go_at_call 59; refine (wbytes_any _ _ _ _ h2).mono ?_; rintro e w3 ⟨v, rfl, h3, h4⟩))
  go_ret2
  have hz2 : w.heap.size ≤ w2.heap.size := Nat.le_trans HW.out.2.2.2.size k2.size
  exact ⟨_, rfl, h3, (HW.out.2.2.2.trans k2.below).trans (h4.mono hz2)⟩

set_option maxRecDepth 100000 in
set_option maxHeartbeats 4000000 in
theorem encode_put (r f q vs : ByteArray) (t vk : Int) {vn : Int} (hn : inI vn) (hf : f.size ≤ 9223372036854775807) (hv : vs.size ≤ 9223372036854775807) (w : World) (hL : LaidU w) (hr : cRight r.data.toList f.data.toList q.data.toList t 1 vk vn vs.data.toList = true) :
    Calls Tryd.prog 30 #[cellV r f q t 1 vk vn vs] w fun e w' => ∃ v, e = .returned (.tuple #[v, .bool true]) ∧ Row w' w.heap.size v (keyM r.data.toList f.data.toList q.data.toList t 1 ++ vEnc vk vn vs.data.toList) ∧ Below w.heap.size w w' := by
  obtain ⟨p1, p2, p3, p4, p5, p6, p7, p8, p9, pf, pv, pw⟩ := cright_parts hr
  have hr16 : r.size ≤ 16 := p2
  have hf8 : f.size ≤ 8 := p4
  have hq12 : q.size ≤ 12 := p5
  have HR : Hid (∀ W, Below w.heap.size w W → Calls Tryd.prog 33 #[cellV r f q t 1 vk vn vs] W fun e w' => e = .returned (.bool true) ∧ Below W.heap.size W w') := fun W hW => by
    have := cright_any r f q vs t 1 vk hn hf hv W (hL.below hW)
    rwa [hr] at this
  have HKy : Hid (∀ (W : World) (b : Nat), Wr W w.heap.size b [] → Calls Tryd.prog 56 #[.pointer (some ⟨b, 0, none⟩), cellV r f q t 1 vk vn vs] W fun e w' => e = .returned (.tuple #[]) ∧ Wr w' w.heap.size b (keyM r.data.toList f.data.toList q.data.toList t 1) ∧ WF w.heap.size b W w') :=
    fun W b hW => wkey_any w.heap.size b r f q vs t 1 vk vn hr16 hf8 hq12 p6 p7 p8 p9 W hW (by have h1 := hW.1; have h2 := Wr.lt hW; omega)
  have HBL : Hid (∀ W W1 : World, W = w.alloc (.cells #[.string r, .string f, .string q, .int .i64 t, .int .i64 1, .int .i64 vk, .int .i64 vn, .string vs] 28) → Below W.heap.size W W1 → Blk (W1.alloc (.cells #[.slice none 0 0, .int .i64 0, .int .i8 0] 85)) w.heap.size 28 #[.string r, .string f, .string q, .int .i64 t, .int .i64 1, .int .i64 vk, .int .i64 vn, .string vs] ∧ w.heap.size < W1.heap.size ∧ Below w.heap.size w W1) := by
    intro W W1 e hb
    subst e
    have hz : w.heap.size < W1.heap.size := Nat.lt_of_lt_of_le (by simp) hb.size
    exact ⟨((Blk.new w _ _).keep hb (by simp)).keep (below_new _ _) hz, hz, (below_new _ _).trans (hb.mono (by simp))⟩
  have hvr := pv rfl
  have HV : Hid (∀ W, Below w.heap.size w W → Calls Tryd.prog 57 #[.agg #[.int .i64 vk, .int .i64 vn, .string vs]] W fun e w' => ∃ v, e = .returned (.tuple #[v, .bool true]) ∧ Row w' W.heap.size v (vEnc vk vn vs.data.toList) ∧ Below W.heap.size W w') := fun W hW => vencode_yes vk hn vs hv hvr W (hL.below hW)
  have HLk : Hid ((keyM r.data.toList f.data.toList q.data.toList t 1).length + (vEnc vk vn vs.data.toList).length ≤ 1000000 ∧ 0 < (vEnc vk vn vs.data.toList).length) := by
    have h1 := enc_small hvr
    have h2 := enc_two hvr
    have h3 := esc_len r.data.toList
    have h4 := esc_len f.data.toList
    have h5 := esc_len q.data.toList
    have h6 := tail_len t 1
    refine ⟨?_, by omega⟩
    unfold keyM midM
    rw [if_neg (by decide)]
    simp only [List.length_append, List.length_cons, List.length_nil]
    omega
  clear hL hr p1 p2 p3 p4 p5 p6 p7 p8 p9 pf pv pw hvr
  go_enter Tryd.func30, Tryd.ntmps30
  go_upto_region 4 with (go_at_call 33; refine (HR.out _ (below_new _ _)).mono ?_; rintro e w1 ⟨rfl, hb⟩; have HB1 := hid (HBL.out _ _ rfl hb); clear hb)
  obtain ⟨b, hb⟩ : ∃ b, w1.heap.size = b := ⟨_, rfl⟩
  refine wp_ltr (fun W => Hid (Wr W w.heap.size b [] ∧ Blk W w.heap.size 28 #[.string r, .string f, .string q, .int .i64 t, .int .i64 1, .int .i64 vk, .int .i64 vn, .string vs] ∧ w.heap.size < b ∧ Below w.heap.size w W) ∧ W.cell? ⟨w.heap.size, 0, none⟩ = some (.string r) ∧ W.cell? ⟨w.heap.size, 1, none⟩ = some (.string f) ∧ W.cell? ⟨w.heap.size, 2, none⟩ = some (.string q) ∧ W.cell? ⟨w.heap.size, 3, none⟩ = some (.int .i64 t) ∧ W.cell? ⟨w.heap.size, 4, none⟩ = some (.int .i64 1) ∧ W.cell? ⟨w.heap.size, 5, none⟩ = some (.int .i64 vk) ∧ W.cell? ⟨w.heap.size, 6, none⟩ = some (.int .i64 vn) ∧ W.cell? ⟨w.heap.size, 7, none⟩ = some (.string vs)) ?_ (fun W hW => ?_)
  · obtain ⟨B1, z1, bw1⟩ := HB1.out
    exact ⟨⟨by rw [← hb]; exact wr_new w1 _ (Nat.le_of_lt z1), B1, by omega, bw1.alloc (Nat.le_of_lt z1) _⟩, B1.cell 0, B1.cell 1, B1.cell 2, B1.cell 3, B1.cell 4, B1.cell 5, B1.cell 6, B1.cell 7⟩
  obtain ⟨HW, g0, g1, g2, g3, g4, g5, g6, g7⟩ := hW
  rw [hb]
  clear HB1 hb
  go_wp2_with (first
    | (go_at_call 56; refine (HKy.out W b HW.out.1).mono ?_; rintro e w2 ⟨rfl, h2, k2⟩; clear g0 g1 g2 g3 g4 g5 g6 g7; have B2 := hid (k2.blk HW.out.2.1 (Nat.ne_of_lt HW.out.2.2.1) (by decide)); have hz2 : w.heap.size ≤ w2.heap.size := (Nat.le_trans HW.out.2.2.2.size k2.size); have hbw2 := hid (HW.out.2.2.2.trans k2.below); have g4 : w2.cell? ⟨w.heap.size, 4, none⟩ = some (.int .i64 1) := B2.out.cell 4; have g5 : w2.cell? ⟨w.heap.size, 5, none⟩ = some (.int .i64 vk) := B2.out.cell 5; have g6 : w2.cell? ⟨w.heap.size, 6, none⟩ = some (.int .i64 vn) := B2.out.cell 6; have g7 : w2.cell? ⟨w.heap.size, 7, none⟩ = some (.string vs) := B2.out.cell 7)
    | (go_at_call 57; refine (HV.out w2 hbw2.out).mono ?_; rintro e w3 ⟨v2, rfl, hR3, hb3⟩; obtain ⟨g, c, rfl, hg, hcell⟩ := row_write hR3 HLk.out.2; have HW3 := hid (LibA.IsBuffer.old h2 hb3))
    | (go_at_call 58; refine (wwrite' w.heap.size b _ _ HLk.out.1 ⟨g, 0, none⟩ _ c rfl (by have := Wr.lt h2; simp; omega) w3 HW3.out (by have := hb3.size; omega) hcell).mono ?_; rintro e w4 ⟨rfl, h4', k4⟩)
    | (go_at_call 59; refine (wbytes_any _ _ _ _ h4').mono ?_; rintro e w5 ⟨v, rfl, h3, h4⟩))
  go_ret2
  have hz4 : w.heap.size ≤ w4.heap.size := by have := k4.size; have := hb3.size; omega
  exact ⟨_, rfl, h3, ((hbw2.out.trans (hb3.mono hz2)).trans k4.below).trans (h4.mono hz4)⟩

/-- codec.Encode of a right cell. -/
theorem encode_yes (r f q vs : ByteArray) (t k vk : Int) {vn : Int} (hn : inI vn) (hf : f.size ≤ 9223372036854775807) (hv : vs.size ≤ 9223372036854775807) (w : World) (hL : LaidU w) (hr : cRight r.data.toList f.data.toList q.data.toList t k vk vn vs.data.toList = true) :
    Calls Tryd.prog 30 #[cellV r f q t k vk vn vs] w fun e w' => ∃ v, e = .returned (.tuple #[v, .bool true]) ∧ Row w' w.heap.size v (cEnc r.data.toList f.data.toList q.data.toList t k vk vn vs.data.toList) ∧ Below w.heap.size w w' := by
  unfold cEnc
  by_cases hk : k = 1
  · subst hk
    rw [if_pos rfl]
    exact encode_put r f q vs t vk hn hf hv w hL hr
  · rw [if_neg hk, List.append_nil]
    exact encode_other r f q vs t k vk hn hf hv w hL hr hk
end Go.Proofs.YtpjkhholpbfbpaaDoor
