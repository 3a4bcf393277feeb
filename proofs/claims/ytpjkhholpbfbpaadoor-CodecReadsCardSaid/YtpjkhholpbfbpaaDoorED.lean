/- The document's Encode of layer 3 at every cell. Conditions: the texts are short, as a law's cells are; the number is of 64 bits. -/
import Derived.Test.YtpjkhholpbfbpaaDoorEC
namespace Go.Proofs.YtpjkhholpbfbpaaDoor
open Go.RowKit

set_option maxRecDepth 100000 in
set_option maxHeartbeats 4000000 in
theorem refenc_no (r f q vs : ByteArray) (t k vk : Int) (vn : Int) (hf : f.size ≤ 9223372036854775807) (hv : vs.size ≤ 4000) (w : World) (hr : cRight r.data.toList f.data.toList q.data.toList t k vk vn vs.data.toList = false) :
    Calls Tryd.prog 39 #[cellV r f q t k vk vn vs] w fun e w' => e = .returned (.tuple #[.slice none 0 0, .bool false]) ∧ Below w.heap.size w w' := by
  have HK : Hid (∀ W, Below w.heap.size w W → Calls Tryd.prog 76 #[cellV r f q t k vk vn vs] W fun e w' => e = .returned (.tuple #[.slice none 0 0, .bool false]) ∧ Below w.heap.size w w') := fun W hW =>
    (refkey_no r f q vs t k vk vn hf hv W hr).mono fun e w' ⟨he, hb⟩ => ⟨he, hW.trans (hb.mono hW.size)⟩
  clear hr hf hv
  go_enter Tryd.func39, Tryd.ntmps39
  go_wp2_with (go_at_call 76; refine (HK.out _ (below_new _ _)).mono ?_; rintro e w1 ⟨rfl, hb⟩)
  go_ret2
  exact ⟨rfl, hb⟩

set_option maxRecDepth 100000 in
set_option maxHeartbeats 4000000 in
theorem refenc_yes (r f q vs : ByteArray) (t k vk : Int) {vn : Int} (hn : inI vn) (hr0 : r.size ≤ 1000) (hf0 : f.size ≤ 1000) (hq0 : q.size ≤ 1000) (hv : vs.size ≤ 4000) (w : World) (hr : cRight r.data.toList f.data.toList q.data.toList t k vk vn vs.data.toList = true) :
    Calls Tryd.prog 39 #[cellV r f q t k vk vn vs] w fun e w' => ∃ v, e = .returned (.tuple #[v, .bool true]) ∧ Row w' w.heap.size v (cEnc r.data.toList f.data.toList q.data.toList t k vk vn vs.data.toList) ∧ Below w.heap.size w w' := by
  have HB1 : Hid (∀ W1 : World, Below (w.alloc (.cells #[.string r, .string f, .string q, .int .i64 t, .int .i64 k, .int .i64 vk, .int .i64 vn, .string vs] 28)).heap.size (w.alloc (.cells #[.string r, .string f, .string q, .int .i64 t, .int .i64 k, .int .i64 vk, .int .i64 vn, .string vs] 28)) W1 → OneC w r f q vs t k vk vn W1) := fun W1 hb => by
    have hz : w.heap.size < W1.heap.size := Nat.lt_of_lt_of_le (by simp) hb.size
    have B1 : Blk W1 w.heap.size 28 #[.string r, .string f, .string q, .int .i64 t, .int .i64 k, .int .i64 vk, .int .i64 vn, .string vs] := (Blk.new w _ _).keep hb (by simp)
    exact ⟨hid ⟨(below_new _ _).trans (hb.mono (by simp)), hz⟩, B1.cell 0, B1.cell 1, B1.cell 2, B1.cell 3, B1.cell 4, B1.cell 5, B1.cell 6, B1.cell 7⟩
  have HK : Hid (∀ W, Calls Tryd.prog 76 #[cellV r f q t k vk vn vs] W fun e w' => ∃ v, e = .returned (.tuple #[v, .bool true]) ∧ Row w' W.heap.size v (keyM r.data.toList f.data.toList q.data.toList t k) ∧ Below W.heap.size W w') := fun W => refkey_yes r f q vs t k vk vn hr0 hf0 hq0 hv W hr
  have hlen : (keyM r.data.toList f.data.toList q.data.toList t k).length ≤ 7000 := by
    have h1 := esc_len r.data.toList; have h2 : r.data.toList.length = r.size := (by simp)
    have h3 := esc_len f.data.toList; have h4 : f.data.toList.length = f.size := (by simp)
    have h5 := esc_len q.data.toList; have h6 : q.data.toList.length = q.size := (by simp)
    unfold keyM midM
    split <;> (simp only [List.length_append, List.length_cons, List.length_nil, tail_len]; omega)
  obtain ⟨-, -, -, -, -, -, -, -, -, -, hvr, -⟩ := cright_parts hr
  unfold cEnc
  generalize keyM r.data.toList f.data.toList q.data.toList t k = lk at *
  have HLK := hid hlen
  clear hlen hr
  by_cases h1 : k = 1
  · have q0 : (k == 1) = true := by simpa using h1
    rw [if_pos h1]
    have hvr := hvr h1
    have HE : Hid (∀ W, Calls Tryd.prog 75 #[.agg #[.int .i64 vk, .int .i64 vn, .string vs]] W fun e w' => ∃ g c, e = .returned (.tuple #[.slice (some ⟨g, 0, none⟩) (vEnc vk vn vs.data.toList).length c, .bool true]) ∧ (∀ j u, (bc (vEnc vk vn vs.data.toList))[j]? = some u → w'.cell? ((⟨g, 0, none⟩ : Addr).add j) = some u) ∧ Below W.heap.size W w') := fun W => by
      refine (refEncode_yes vk hn vs hv hvr W).mono fun e w' ⟨v, he, hR, hb⟩ => ?_
      obtain ⟨g, c, rfl, hg, hc⟩ := row_write hR (by have := enc_two hvr; omega)
      exact ⟨g, c, he, hc, hb⟩
    have HLE : Hid ((vEnc vk vn vs.data.toList).length ≤ 10000) := by
      unfold Hid vEnc vBody
      have h1 := esc_len vs.data.toList; have h2 : vs.data.toList.length = vs.size := (by simp)
      simp only [List.length_cons]
      repeat' split
      all_goals (simp only [List.length_append, List.length_cons, List.length_nil, byW_len]; omega)
    generalize vEnc vk vn vs.data.toList = le at *
    have H1 := hid h1
    clear h1 hr0 hf0 hq0 hv hvr hn
    go_enter Tryd.func39, Tryd.ntmps39
    go_wp2_with (first
      | (go_at_call 76; refine (HK.out _).mono ?_; rintro e w1 ⟨v, rfl, hR, hb⟩; have h1 := HB1.out _ hb; have h0 := h1.1; have g4 : w1.cell? ⟨w.heap.size, 4, none⟩ = some (.int .i64 k) := h1.2.2.2.2.2.1; have g5 : w1.cell? ⟨w.heap.size, 5, none⟩ = some (.int .i64 vk) := h1.2.2.2.2.2.2.1; have g6 : w1.cell? ⟨w.heap.size, 6, none⟩ = some (.int .i64 vn) := h1.2.2.2.2.2.2.2.1; have g7 : w1.cell? ⟨w.heap.size, 7, none⟩ = some (.string vs) := h1.2.2.2.2.2.2.2.2)
      | (go_at_call 75; refine (HE.out _).mono ?_; rintro e w2 ⟨p2, c2, rfl, hR2, hb2⟩)
      | (at_builtin; refine wpList_append_bytes rfl (.tmp 25) (.tmp 26) rfl _ (w.heap.size + 1) v lk rfl ((hR.le (by simp)).keep hb2 hR.block_lt) ⟨p2, 0, none⟩ le.length c2 le rfl rfl hR2 (by have := HLK.out; have := HLE.out; omega) (by have h1 := h0.out.2; have h2 := hb2.size; omega) ?_; intro v3 w3 hR3 hb3; have h9 := onec_to (onec_call h1 hb2) hb3 (Nat.lt_succ_self _)))
    go_ret2
    exact ⟨_, rfl, hR3.le (Nat.le_succ _), h9.1.out.1⟩
  · have q0 : (k == 1) = false := by simpa using h1
    rw [if_neg h1, List.append_nil]
    have H1 := hid h1
    clear h1 hr0 hf0 hq0 hv hvr hn
    go_enter Tryd.func39, Tryd.ntmps39
    go_wp2_with (go_at_call 76; refine (HK.out _).mono ?_; rintro e w1 ⟨v, rfl, hR, hb⟩; have h1 := HB1.out _ hb; have g4 : w1.cell? ⟨w.heap.size, 4, none⟩ = some (.int .i64 k) := h1.2.2.2.2.2.1)
    go_ret2
    exact ⟨_, rfl, hR.le (by simp), h1.1.out.1⟩
end Go.Proofs.YtpjkhholpbfbpaaDoor
