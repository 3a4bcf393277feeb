/- The document's Decode, for every row of at most a thousand bytes: the right value whose bytes these are, or nothing. Conditions: the slice holds those bytes. -/
import Derived.Test.YtfcnobcpnhfgmaaGreatDoorRO
import Derived.Test.YtfcnobcpnhfgmaaGreatDoorQ3
import Derived.Test.YtfcnobcpnhfgmaaGreatDoorFAb
namespace Go.Proofs.YtfcnobcpnhfgmaaGreatDoor
open Go.RowKit

theorem unE_esc (s r : List UInt8) : unE (esc s ++ (0 :: 1 :: r)) = some (s, (esc s).length + 2) := by
  induction s with
  | nil => rfl
  | cons c l ih =>
    simp only [esc]
    by_cases h : c = 0
    · rw [if_pos h, List.cons_append, List.cons_append, unE_two, if_neg (by decide), if_pos rfl, ih, h]
      simp
    · rw [if_neg h, List.cons_append, unE_ne h, ih]
      simp

theorem unE_len : ∀ (l t : List UInt8) (q : Nat), unE l = some (t, q) → t.length ≤ l.length
  | [], t, q, h => by simp [unE] at h
  | [c], t, q, h => by rw [unE_single] at h; cases h
  | c :: d :: l, t, q, h => by
    by_cases hc : c = 0
    · subst hc
      rw [unE_two] at h
      by_cases h1 : d = 1
      · rw [if_pos h1] at h; injection h with h; injection h with h _; rw [← h]; simp
      · rw [if_neg h1] at h
        by_cases h2 : d = 255
        · rw [if_pos h2] at h
          obtain ⟨⟨t', q'⟩, h3, h4⟩ := Option.map_eq_some_iff.1 h
          injection h4 with h4 _
          have := unE_len l t' q' h3
          rw [← h4]
          simp at this ⊢
          omega
        · rw [if_neg h2] at h; cases h
    · rw [unE_ne hc] at h
      obtain ⟨⟨t', q'⟩, h3, h4⟩ := Option.map_eq_some_iff.1 h
      injection h4 with h4 _
      have := unE_len (d :: l) t' q' h3
      rw [← h4]
      simp at this ⊢
      omega
theorem mk_data' (S : ByteArray) : (⟨S.data.toList.toArray⟩ : ByteArray) = S := ByteArray.ext rfl

theorem tailAsk_any (k : Int) {n : Int} (hn : inI n) (S : ByteArray) (hS : S.size ≤ 4000) (l : List UInt8) (b off c : Nat) (w : World) (hh : Holds w b off l) (hb : b < w.heap.size) :
    TailAsk w k n S (some ⟨b, off, none⟩) l.length c (vRight k n S.data.toList) (decide (vEnc k n S.data.toList = l)) where
  enc W hW := by
    cases hr : vRight k n S.data.toList
    · exact (refEncode_no k n S hS hr W).mono fun e w' ⟨he, hb⟩ => ⟨_, he, fun h => absurd h (by decide), hb⟩
    · refine (refEncode_yes k hn S hS hr W).mono fun e w' ⟨V, he, hR, hbw⟩ => ⟨V, he, fun _ W2 h1 h2 => ?_, hbw⟩
      have h0 := enc_two hr
      have hsm := enc_small hr
      obtain ⟨g, q, rfl, _, hg, _, h6⟩ := hR.form (by omega)
      exact same_any (vEnc k n S.data.toList) l (by omega) _ _ q c W2 (fun _ => ⟨g, 0, rfl, fun i hi => by rw [Nat.zero_add]; exact (h1.cell (p := ⟨g, i, none⟩) hg).trans (h6 i hi)⟩) (fun _ => ⟨b, off, rfl, hh.below h2 hb⟩) (by omega)

/-- What comes out, by the value taken: nothing, where the row is no right value's bytes. -/
theorem out_no {k n : Int} (hn : inI n) (s l : List UInt8) (h : vdecEnd l = noEnd) : (vRight k n s && decide (vEnc k n s = l)) = false := by
  cases hr : vRight k n s
  · rfl
  · cases hq : decide (vEnc k n s = l)
    · rfl
    · have e := of_decide_eq_true hq
      have h2 := vdec_enc hn hr
      rw [e, h] at h2
      exact absurd h2 (by unfold noEnd valEnd; intro q; injection q with q; injection q with q; simp at q)

theorem out_any {k n : Int} (hn : inI n) (S : ByteArray) (l : List UInt8) (hc : ∀ k' n' s', inI n' → vRight k' n' s' = true → vEnc k' n' s' = l → k = k' ∧ n = n' ∧ S.data.toList = s') :
    (if (vRight k n S.data.toList && decide (vEnc k n S.data.toList = l)) = true then Ending.returned (.tuple #[.agg #[.int .i64 k, .int .i64 n, .string S], .bool true]) else .returned (.tuple #[.agg #[.int .i64 0, .int .i64 0, .string ⟨#[]⟩], .bool false])) = vdecEnd l := by
  rcases vdec_cases l with ⟨k', n', s', hn', hr', _, he', hv'⟩ | hno
  · obtain ⟨rfl, rfl, rfl⟩ := hc k' n' s' hn' hr' he'
    rw [hr', decide_eq_true he', hv']
    unfold valEnd
    rw [mk_data']
    rfl
  · rw [out_no hn _ l hno, hno]
    rfl

theorem venc_head {k n : Int} {s : List UInt8} {x : UInt8} {r : List UInt8} (hr : vRight k n s = true) (h : vEnc k n s = x :: r) : k = (x.toNat : Int) ∧ vBody k n s = r := by
  unfold vEnc at h
  injection h with h1 h2
  refine ⟨?_, h2⟩
  rw [← h1]
  rcases right_kind hr with rfl | rfl | rfl | rfl | rfl <;> rfl

set_option maxHeartbeats 1000000 in
/-- The document's Decode, for every row. -/
theorem refVdecode_any (l : List UInt8) (hl : l.length ≤ 4000) (b off c : Nat) (hc : l.length ≤ c) (hcm : c ≤ 9223372036854775807) (w : World) (hh : Holds w b off l) (hb : b < w.heap.size) :
    Calls Tryz.prog 120 #[.slice (some ⟨b, off, none⟩) l.length c] w fun e w' => e = vdecEnd l ∧ Below w.heap.size w w' := by
  match l, hl, hc, hh with
  | [], _, _, _ => exact rdecode_short 0 c (by omega) w
  | [x], _, _, _ =>
    refine (rdecode_short 1 c (by omega) w).mono fun e w' ⟨he, hb⟩ => ⟨he.trans ?_, hb⟩
    rcases vdec_cases [x] with ⟨k', n', s', _, hr', _, he', _⟩ | hno
    · have := enc_two hr'
      rw [he'] at this
      simp at this
    · exact hno.symm
  | x :: y :: r, hl, hc, hh =>
    have hx := x.toNat_lt
    have h0 : inI 0 := by unfold inI; omega
    have hcell : w.cell? ⟨b, off, none⟩ = some (.int .u8 (x.toNat : Int)) := by have := hh 0 (by simp); simpa using this
    have hr1 : Holds w b (off + 1) (y :: r) := by have := hh.drop 1; simpa using this
    have hlen : (x :: y :: r).length = (y :: r).length + 1 := rfl
    have hm : 1 ≤ (y :: r).length := by simp
    have hm2 : (y :: r).length ≤ 4000 := by simp at hl ⊢; omega
    have hT : ∀ (k n : Int) (S : ByteArray), inI n → S.size ≤ 4000 → TailAsk w k n S (some ⟨b, off, none⟩) ((y :: r).length + 1) c (vRight k n S.data.toList) (decide (vEnc k n S.data.toList = x :: y :: r)) := fun k n S hn hS => tailAsk_any k hn S hS (x :: y :: r) b off c w hh hb
    rw [hlen]
    rw [hlen] at hc
    generalize hR : y :: r = R at *
    clear hh hlen hl
    have he : (⟨#[]⟩ : ByteArray).data.toList = [] := rfl
    by_cases h1 : (x.toNat : Int) = 1
    · rw [h1] at hcell
      have hU := fmB_lt R
      have hn : inI ((fmB R : Int) - 9223372036854775808) := by unfold inI; omega
      refine (rdecode_1 R (fmB R) rfl b off R.length c hm hc w _ _ (hT 1 _ ⟨#[]⟩ hn (by decide)) rfl hm2 hcell hr1).mono fun e w' ⟨he2, hb2⟩ => ⟨he2.trans (out_any hn ⟨#[]⟩ (x :: R) fun k' n' s' hn' hr' he' => ?_), hb2⟩
      obtain ⟨hk, hbd⟩ := venc_head hr' he'
      have hk1 : k' = 1 := hk.trans h1
      subst hk1
      simp only [vRight] at hr'
      simp at hr'
      subst hr'
      refine ⟨rfl, ?_, rfl⟩
      have hb8 : byW 8 (upI n') = R := hbd
      have hup := upI_lt hn'
      have p : (256 : Nat) ^ 8 = 18446744073709551616 := by decide
      rw [fmB_fold, ← hb8, foldB_byW 8 _ (by omega), Nat.mod_eq_of_lt hup]
      unfold upI inI at *
      omega
    · by_cases h5 : (x.toNat : Int) = 5
      · rw [h5] at hcell
        by_cases h8 : R.length = 8
        · have hF := fun W (hW : Below w.heap.size w W) => refFrom_off R h8 b (off + 1) (c - 1) W (fun i hi => by rw [hW.cell (p := ⟨b, off + 1 + i, none⟩) hb]; exact hr1 i (by omega))
          have hf8 := foldB_8 R h8
          have hn : inI (unrankI (foldB R)) := unrank_in (by omega) hf8
          by_cases hrb : rightB (unrankI (foldB R)) = true
          · have hfe : fromEnd (unrankI (foldB R)) = .returned (.tuple #[.int .i64 (unrankI (foldB R)), .bool true]) := by unfold fromEnd; rw [if_pos hrb]
            rw [hfe] at hF
            refine (rdecode_5 (unrankI (foldB R)) b off R.length c hm hc w _ _ (hT 5 _ ⟨#[]⟩ hn (by decide)) hcell (hid fun W hW => by have := hF W hW; rw [h8]; exact this)).mono fun e w' ⟨he2, hb2⟩ => ⟨he2.trans (out_any hn ⟨#[]⟩ (x :: R) fun k' n' s' hn' hr' he' => ?_), hb2⟩
            obtain ⟨hk, hbd⟩ := venc_head hr' he'
            have hk1 : k' = 5 := hk.trans h5
            subst hk1
            rw [vBody5] at hbd
            simp only [vRight] at hr'
            simp at hr'
            obtain ⟨a0, a1⟩ := rank_in hn'
            have p : (256 : Nat) ^ 8 = 18446744073709551616 := by decide
            refine ⟨rfl, ?_, hr'.1.symm⟩
            rw [← hbd, foldB_byW 8 _ (by omega), Int.toNat_of_nonneg a0, unrank_rank hn']
          · have hfe : fromEnd (unrankI (foldB R)) = .returned (.tuple #[.int .i64 0, .bool false]) := by unfold fromEnd; rw [if_neg hrb]
            rw [hfe] at hF
            refine (rdecode_5_no b off R.length c hm hc w hcell (hid fun W hW => by have := hF W hW; rw [h8]; exact this)).mono fun e w' ⟨he2, hb2⟩ => ⟨he2.trans ?_, hb2⟩
            rcases vdec_cases (x :: R) with ⟨k', n', s', hn', hr', _, he', _⟩ | hno
            · exfalso
              obtain ⟨hk, hbd⟩ := venc_head hr' he'
              have hk1 : k' = 5 := hk.trans h5
              subst hk1
              rw [vBody5] at hbd
              simp only [vRight] at hr'
              simp at hr'
              obtain ⟨a0, a1⟩ := rank_in hn'
              have p : (256 : Nat) ^ 8 = 18446744073709551616 := by decide
              rw [← hbd, foldB_byW 8 _ (by omega), Int.toNat_of_nonneg a0, unrank_rank hn'] at hrb
              exact hrb hr'.2
            · exact hno.symm
        · refine (rdecode_5_no b off R.length c hm hc w hcell (hid fun W _ => refFrom_no R.length (c - 1) h8 W)).mono fun e w' ⟨he2, hb2⟩ => ⟨he2.trans ?_, hb2⟩
          rcases vdec_cases (x :: R) with ⟨k', n', s', hn', hr', _, he', _⟩ | hno
          · exfalso
            obtain ⟨hk, hbd⟩ := venc_head hr' he'
            have hk1 : k' = 5 := hk.trans h5
            subst hk1
            rw [vBody5] at hbd
            exact h8 (by rw [← hbd, byW_len])
          · exact hno.symm
      · by_cases h4 : (x.toNat : Int) = 4
        · rw [h4] at hcell
          have hy := (R.getD 0 0).toNat_lt
          have hn : inI ((R.getD 0 0).toNat : Int) := by unfold inI; omega
          have hc1 : w.cell? ⟨b, off + 1, none⟩ = some (.int .u8 ((R.getD 0 0).toNat : Int)) := by have := hr1 0 (by omega); simpa using this
          refine (rdecode_4 (R.getD 0 0).toNat (by omega) b off R.length c hm hc w _ _ (hT 4 _ ⟨#[]⟩ hn (by decide)) hcell hc1).mono fun e w' ⟨he2, hb2⟩ => ⟨he2.trans (out_any hn ⟨#[]⟩ (x :: R) fun k' n' s' hn' hr' he' => ?_), hb2⟩
          obtain ⟨hk, hbd⟩ := venc_head hr' he'
          have hk1 : k' = 4 := hk.trans h4
          subst hk1
          simp only [vRight] at hr'
          simp at hr'
          have hbd4 : [UInt8.ofNat n'.toNat] = R := hbd
          refine ⟨rfl, ?_, hr'.1.symm⟩
          rw [← hbd4]
          rcases hr'.2 with rfl | rfl <;> rfl
        · by_cases h2 : (x.toNat : Int) = 2 ∨ (x.toNat : Int) = 3
          · have hU := fun W (hW : Below w.heap.size w W) => unescaped_any R hm2 b (off + 1) (c - 1) (by omega) (by omega) W (hr1.below hW hb) (Nat.lt_of_lt_of_le hb hW.size)
            obtain ⟨S, hS, hSS⟩ : ∃ S : ByteArray, (S.size ≤ 4000 ∧ ∀ s' r', R = esc s' ++ (0 :: 1 :: r') → S.data.toList = s') ∧ ∀ W, Below w.heap.size w W → Calls Tryz.prog 119 #[.slice (some ⟨b, off + 1, none⟩) R.length (c - 1)] W fun e w' => (∃ V ok, e = .returned (.tuple #[.string S, V, .bool ok])) ∧ Below W.heap.size W w' := by
              cases hu : unE R with
              | none =>
                refine ⟨⟨#[]⟩, ⟨by decide, fun s' r' e => ?_⟩, fun W hW => (hU W hW).mono fun e w' ⟨h, hb⟩ => ⟨?_, hb⟩⟩
                · rw [e, unE_esc] at hu; cases hu
                · rw [hu] at h
                  exact ⟨_, _, h⟩
              | some p =>
                obtain ⟨t, q⟩ := p
                refine ⟨⟨t.toArray⟩, ⟨?_, fun s' r' e => ?_⟩, fun W hW => (hU W hW).mono fun e w' ⟨h, hb⟩ => ⟨?_, hb⟩⟩
                · rw [mk_size]
                  have := unE_len R t q hu
                  omega
                · rw [e, unE_esc] at hu
                  injection hu with hu
                  injection hu with hu _
                  exact hu.symm
                · rw [hu] at h
                  obtain ⟨A, q2, he, _⟩ := h
                  exact ⟨_, _, he⟩
            have hout : ∀ K : Int, K = 2 ∨ K = 3 → (x.toNat : Int) = K → ∀ k' n' s', inI n' → vRight k' n' s' = true → vEnc k' n' s' = x :: R → K = k' ∧ (0 : Int) = n' ∧ S.data.toList = s' := fun K hK hxK k' n' s' _ hr' he' => by
              obtain ⟨hk, hbd⟩ := venc_head hr' he'
              have hk1 : k' = K := hk.trans hxK
              subst hk1
              have hbd2 : esc s' ++ [0, 1] = R := by
                rcases hK with rfl | rfl
                · exact hbd
                · exact hbd
              refine ⟨rfl, ?_, hS.2 s' [] hbd2.symm⟩
              rcases hK with rfl | rfl
              · simp only [vRight] at hr'; simp at hr'; exact hr'.1.symm
              · simp only [vRight] at hr'; simp at hr'; exact hr'.1.1.symm
            rcases h2 with h2 | h3
            · have := hout 2 (.inl rfl) h2
              rw [h2] at hcell
              exact (rdecode_2 S b off R.length c hm hc w _ _ (hT 2 0 S h0 hS.1) hcell (hid hSS)).mono fun e w' ⟨he2, hb2⟩ => ⟨he2.trans (out_any h0 S (x :: R) this), hb2⟩
            · have := hout 3 (.inr rfl) h3
              rw [h3] at hcell
              exact (rdecode_3 S b off R.length c hm hc w _ _ (hT 3 0 S h0 hS.1) hcell (hid hSS)).mono fun e w' ⟨he2, hb2⟩ => ⟨he2.trans (out_any h0 S (x :: R) this), hb2⟩
          · refine (rdecode_0 x.toNat (by omega) b off R.length c hm hc w _ _ (hT _ 0 ⟨#[]⟩ h0 (by decide)) hcell (by simpa using h1) (by simpa using h5) (by simpa using h4) (by simp; omega) (by simp; omega)).mono fun e w' ⟨he2, hb2⟩ => ⟨he2.trans (out_any h0 ⟨#[]⟩ (x :: R) fun k' n' s' hn' hr' he' => ?_), hb2⟩
            exfalso
            obtain ⟨hk, _⟩ := venc_head hr' he'
            rcases right_kind hr' with h | h | h | h | h <;> omega

end Go.Proofs.YtfcnobcpnhfgmaaGreatDoor
