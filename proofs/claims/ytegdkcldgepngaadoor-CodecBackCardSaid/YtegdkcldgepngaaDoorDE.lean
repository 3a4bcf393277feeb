/- The law CodecBack, whatever the cell, the number, the list and the cut. Conditions: the texts are no longer than any are, the numbers of 64 bits; the list holds its rows; the tables of utf8 read as they are laid. -/
import Derived.Test.YtegdkcldgepngaaDoorDD
namespace Go.Proofs.YtegdkcldgepngaaDoor
open Go.RowKit

theorem back_half (n : Int) (hi : inI n) (A0 : Option Addr) (m0 c0 : Nat) (ls : List (List UInt8)) (w : World) (hls : LsB w (.slice A0 m0 c0) ls) (hw : wgt ls ≤ 2000) (hm : ls.length = m0) :
    ∃ X tn tl nl, BackH w n A0 m0 c0 X tn tl nl (listM ls) ls ∧ ((0 ≤ n ∧ tn = n ∧ tl = 1 ∧ nl = nl) ∨ (n < 0 ∧ True ∧ nl = 0)) := by
  subst hm
  have hll := wgt_len ls
  have hrs := rows_small ls hw
  have hmem : ∀ x ∈ ls, x.length ≤ 2000 := fun x hx => by have := wgt_mem hx; omega
  have hL9 := numW_len9 ls.length (by omega)
  have hLl : (listM ls).length ≤ 20000 := by unfold listM; rw [List.length_append]; omega
  have hL0 : 0 < (listM ls).length := by unfold listM; rw [List.length_append]; have := numW_pos ls.length; omega
  have hP : partsM (listM ls) = some ls := parts_list ls (fun x hx => by have := hmem x hx; omega) (by omega)
  have key : ∀ (X : List UInt8) (tn : Int) (tl nl : Nat) (X0 : List UInt8), X = X0 ++ [9] → X.length ≤ 100 → X0.length = nl →
      (∀ W : World, Calls Tryd.prog 30 #[.int .i64 n] W fun e w' => ∃ v, e = .returned v ∧ Row w' W.heap.size v X0 ∧ Below W.heap.size W w') →
      (∃ k t, tk X = some (k, t) ∧ (k : Int) = tn ∧ t.length = tl) → BackH w n A0 ls.length c0 X tn tl nl (listM ls) ls := by
    intro X tn tl nl X0 hX hXl hX0 hnum htk
    subst hX; subst hX0
    exact {
      num := fun W => (hnum W).mono fun e w' ⟨v, he, hR, hb⟩ => by
        obtain ⟨A, c, rfl, h1, h2, h3⟩ := id hR.sla
        exact ⟨A, c, X0, he, hR.sla, rfl, hb⟩
      copy := fun W v X1 hS h1 => by
        have e : X0 = X1 := List.append_cancel_right h1
        subst e
        exact copy_any v X0 (by rw [List.length_append] at hXl; omega) W hS
      take := fun W v hS => by
        obtain ⟨k, t, ht, hk, hl⟩ := htk
        obtain ⟨A, c, rfl, h1, h2, h3, _⟩ := hS
        have h := take_any A c (X0 ++ [9]) (by omega) h1 h2 W h3
        rw [ht] at h
        refine h.mono ?_
        rintro e w' ⟨v, rfl, hR, hb⟩
        obtain ⟨A2, c2, rfl, _⟩ := hR.sla
        exact ⟨A2, c2, by rw [← hk, ← hl], hb⟩
      list := fun W hW => (list_any _ ls (by omega) (by omega) W (hls.below hW)).mono fun e w' ⟨v, he, hR, hb⟩ => by
        obtain ⟨g, c, rfl, _⟩ := hR.form hL0
        exact ⟨g, c, he, hR.sla, hb⟩
      parts := fun W v hS => by
        obtain ⟨A, c, rfl, h1, h2, h3, _⟩ := hS
        refine (parts_any A c (listM ls) (by omega) h1 h2 W h3).mono fun e w' h => ?_
        unfold PaEnd at h
        rw [hP] at h
        obtain ⟨hb, v, he, hl⟩ := h
        exact ⟨v, he, hl, hb⟩
      same := fun W v hW hL => lists_same v _ ls (fun x hx => by have := hmem x hx; omega) (by omega) W hL (hls.below hW)
      cut := fun W g c cn hS hc => by
        obtain ⟨h1, h2, h3⟩ := SlA.cut hS cn (by omega)
        have hl : ((listM ls).take cn).length = cn := by rw [List.length_take]; omega
        have h := parts_any (some ⟨g, 0, none⟩) c ((listM ls).take cn) (by omega) (by omega) h3 W h1
        rw [hl] at h
        refine h.mono fun e w' h => ?_
        unfold PaEnd at h
        rw [parts_cut _ ls hP cn hc] at h
        exact ⟨h.2, h.1⟩
      xl := hXl }
  by_cases hn : 0 ≤ n
  · obtain ⟨y, hy⟩ : ∃ y : Nat, n = (y : Int) := ⟨n.toNat, by omega⟩
    subst hy
    have hyb : y < 9223372036854775808 := by unfold inI at hi; omega
    have h9 := numW_len9 y hyb
    exact ⟨numW y ++ [9], y, 1, (numW y).length, key _ _ _ _ (numW y) rfl (by rw [List.length_append]; simp; omega) rfl (fun W => num_any y hyb W) ⟨y, [9], tk_num y hyb [9], rfl, rfl⟩, .inl ⟨hn, rfl, rfl, rfl⟩⟩
  · exact ⟨[9], 9, 0, 0, key _ _ _ _ [] rfl (by decide) rfl (fun W => num_neg n (by omega) W) ⟨9, [], by decide +kernel, rfl, rfl⟩, .inr ⟨by omega, trivial, rfl⟩⟩

theorem back_any (r f q vs : ByteArray) (t k vk : Int) {vn : Int} (n cut : Int) (v : Value) (ls : List (List UInt8)) (hn : inI vn) (hnn : inI n) (hf : f.size ≤ 9223372036854775807) (hv : vs.size ≤ 9223372036854775807) (w : World) (hL : LaidU w) (hls : LsA w v ls) (hrow : ∀ x ∈ ls, x.length ≤ 9223372036850000000) :
    Calls Tryd.prog 7 #[cellV r f q t k vk vn vs, .int .i64 n, v, .int .i64 cut] w fun e w' => e = .returned (.bool true) ∧ Below w.heap.size w w' := by
  have hlb := hls.lsb
  have hls0 := hls
  obtain ⟨A0, c0, rfl, _⟩ := hls
  have fin : ∀ X tn tl nl, (longC r f q vs = true ∨ (longC r f q vs = false ∧ (WeighGt w (.slice A0 ls.length c0) 2000 ∨ (WeighLe w (.slice A0 ls.length c0) 2000 ∧ BackH w n A0 ls.length c0 X tn tl nl (listM ls) ls ∧ ((0 ≤ n ∧ tn = n ∧ tl = 1 ∧ nl = nl) ∨ (n < 0 ∧ True ∧ nl = 0)))))) →
      Calls Tryd.prog 7 #[cellV r f q t k vk vn vs, .int .i64 n, .slice A0 ls.length c0, .int .i64 cut] w fun e w' => e = .returned (.bool true) ∧ Below w.heap.size w w' := by
    intro X tn tl nl hx
    refine cback_main r f q vs t k vk vn n A0 ls.length c0 cut w (longC r f q vs) (cRight r.data.toList f.data.toList q.data.toList t k vk vn vs.data.toList) (cEnc r.data.toList f.data.toList q.data.toList t k vk vn vs.data.toList) X (listM ls) tn tl nl ls (fun W => long1 r f q vs t k vk vn W _ rfl) (fun W hW => calive_any W (hL.below hW)) ?_
    rcases hx with h | ⟨h, h2 | ⟨h2, h3, h4⟩⟩
    · exact .inl h
    · exact .inr ⟨h, .inl h2⟩
    · refine .inr ⟨h, .inr ⟨h2, h3, h4, fun W hW => cright_any r f q vs t k vk hn hf hv W (hL.below hW), ?_⟩⟩
      cases hr : cRight r.data.toList f.data.toList q.data.toList t k vk vn vs.data.toList with
      | false => exact .inl ⟨rfl, fun W hW => encode_no r f q vs t k vk hn hf hv W (hL.below hW) hr⟩
      | true =>
        obtain ⟨hl1, hl0⟩ := cEnc_len hr
        refine .inr ⟨rfl, fun W hW => ?_, fun W g c hW hS => ?_, fun W g c cn hW hS hc => ?_⟩
        · refine (encode_yes r f q vs t k vk hn hf hv W (hL.below hW) hr).mono fun e w' ⟨v, he, hR, hb⟩ => ?_
          obtain ⟨g, c, rfl, _⟩ := hR.form hl0
          exact ⟨g, c, he, hR.sla, hb⟩
        · obtain ⟨h5, h6, h7⟩ := SlA.cut hS _ (Nat.le_refl _)
          rw [List.take_of_length_le (Nat.le_refl _)] at h5
          exact (cdecode_any (some ⟨g, 0, none⟩) c _ (by omega) h6 h7 W h5 (hL.below hW)).mono fun e w' h => h.back hr hn
        · obtain ⟨h5, h6, h7⟩ := SlA.cut hS cn (by omega)
          have hl : ((cEnc r.data.toList f.data.toList q.data.toList t k vk vn vs.data.toList).take cn).length = cn := by rw [List.length_take]; omega
          have h := cdecode_any (some ⟨g, 0, none⟩) c ((cEnc r.data.toList f.data.toList q.data.toList t k vk vn vs.data.toList).take cn) (by omega) (by omega) h7 W h5 (hL.below hW)
          rw [hl] at h
          refine h.mono fun e w' hd => ?_
          rcases hd.2 with ⟨r', f', q', t', k', vk', vn', vs', g1, g2, g3, _⟩ | ⟨_, he⟩
          · exact absurd g3 (cut_none hr hn cn hc _ _ _ _ _ _ _ _ g1 g2)
          · exact ⟨he, hd.1⟩
  by_cases hlo : longC r f q vs = true
  · exact fin [] 0 0 0 (.inl hlo)
  · have hlo : longC r f q vs = false := by simpa using hlo
    by_cases hw : wgt ls ≤ 2000
    · obtain ⟨X, tn, tl, nl, h1, h2⟩ := back_half n hnn A0 ls.length c0 ls w hlb hw rfl
      exact fin X tn tl nl (.inr ⟨hlo, .inr ⟨weigh_le _ ls 2000 (by decide) hrow w hls0 hw, h1, h2⟩⟩)
    · exact fin [] 0 0 0 (.inr ⟨hlo, .inl (weigh_gt _ ls 2000 (by decide) hrow w hls0 (by omega))⟩)
end Go.Proofs.YtegdkcldgepngaaDoor
