/- The law ValBack answers true for every value and every int. Conditions: the listed variables of the library read as they are laid; the numbers are of 64 bits. -/
import Derived.Test.YtgahljgmgdjjdaaGreatDoorBB
namespace Go.Proofs.YtgahljgmgdjjdaaGreatDoor
open Go.RowKit

theorem vShow_ne63 {k n : Int} {t : List UInt8} (hr : vRight k n t = true) : vShow k n t ≠ [63] := by
  rw [vShow_right hr]
  obtain ⟨c, r, hc, hcd⟩ := itoa_head n
  repeat' split
  · rw [hc]
    intro h
    injection h with h1 _
    rw [h1] at hcd
    simp at hcd
  all_goals simp

theorem mk_data (S : ByteArray) : (⟨S.data.toList.toArray⟩ : ByteArray) = S := bytes_ext' rfl

/-- val.Encode's row, by its cells. -/
theorem enc_holds (k : Int) {n : Int} (hn : inI n) (s : ByteArray) (hs : s.size ≤ 9223372036854775807) (hr : vRight k n s.data.toList = true) (w : World) (hL : LaidU w) (W : World) (hW : Below w.heap.size w W) :
    Calls Tryz.prog 8 #[.agg #[.int .i64 k, .int .i64 n, .string s]] W fun e w' => ∃ g c, e = .returned (.tuple #[.slice (some ⟨g, 0, none⟩) (vEnc k n s.data.toList).length c, .bool true]) ∧ (vEnc k n s.data.toList).length ≤ c ∧ c ≤ maxLen ∧ W.heap.size ≤ g ∧ g < w'.heap.size ∧ Holds w' g 0 (vEnc k n s.data.toList) ∧ Below w.heap.size w w' ∧ Below W.heap.size W w' :=
  (vencode_yes k hn s hs hr W (hL.below hW)).mono fun e w' ⟨v, he, hR, hb⟩ => by
    have h2 := enc_two hr
    have hcap : ∀ g c, v = .slice (some ⟨g, 0, none⟩) (vEnc k n s.data.toList).length c → c ≤ maxLen := fun g c hv => by
      rcases hR.2 with ⟨hv2, _⟩ | ⟨g', cap, cur, hv2, _, _, _, hcm, _⟩
      · rw [hv] at hv2; cases hv2
      · rw [hv] at hv2; injection hv2 with _ _ h3; rw [h3]; exact hcm
    obtain ⟨g, c, rfl, h3, h4, h5, h6⟩ := hR.form (by omega)
    exact ⟨g, c, he, h5, hcap g c rfl, h3, h4, fun i hi => by rw [Nat.zero_add]; exact h6 i hi, hW.trans (hb.mono hW.size), hb⟩

/-- The law ValBack, whatever the value and the int. -/
theorem back_walk {k n : Int} (hn : inI n) (S : ByteArray) (hs : S.size ≤ 9223372036854775807) (cut : Int) (w : World) (hL : LaidIn w) :
    Calls Tryz.prog 5 #[.agg #[.int .i64 k, .int .i64 n, .string S], .int .i64 cut] w fun e w' => e = .returned (.bool true) ∧ Below w.heap.size w w' := by
  have h : BackAsk w k n S _ _ := backAsk_any hn S hs w hL
  cases hl : decide (500 < S.size)
  · cases hr : vRight k n S.data.toList
    · rw [hl, hr] at h
      exact back_no S w h (vShow_no hr) fun W hW => (vencode_no k hn S hs hr W (hL.below hW)).mono fun _ _ ⟨he, hb⟩ => ⟨he, hW.trans (hb.mono hW.size), hb⟩
    · rw [hl, hr] at h
      have hsm := enc_small hr
      have h63 := vShow_ne63 hr
      refine back_yes S ⟨(vShow k n S.data.toList).toArray⟩ w (vEnc k n S.data.toList) (enc_two hr) (by omega) h rfl (by rw [mk_toList]; simpa using h63) (Classical.em _) (fun W hW => enc_holds k hn S hs hr w hL W hW) (fun W hW => vread_yes hn S hr W (hL.below hW)) ?_ ?_ ?_ ?_
      · intro W g c hW hc hh
        refine (vdecode_any (vEnc k n S.data.toList) (by omega) (some ⟨g, 0, none⟩) c hc W (fun _ => ⟨g, 0, rfl, hh⟩) (hL.below hW)).mono fun e w' ⟨he, hb⟩ => ⟨he.trans ?_, hb⟩
        rw [vdec_enc hn hr]
        unfold valEnd
        rw [mk_data]
      · intro W g c hW hc hh m hmc hm
        have hlen : ((vEnc k n S.data.toList).take m).length = m := by rw [List.length_take]; omega
        have hd := vdecode_any ((vEnc k n S.data.toList).take m) (by omega) (some ⟨g, 0, none⟩) c (by omega) W (fun _ => ⟨g, 0, rfl, fun i hi => by
          rw [hh i (by omega)]
          simp only [List.getD_eq_getElem?_getD]
          rw [List.getElem?_take_of_lt (by omega)]⟩) (hL.below hW)
        rw [hlen, vdec_cut hn hr m hm] at hd
        exact hd
      · intro W v hW hR
        obtain ⟨g, c, rfl, h3, h4, h5, h6⟩ := hR.form (by simp)
        have hd := vdecode_any (vEnc k n S.data.toList ++ [0]) (by simp; omega) (some ⟨g, 0, none⟩) c h5 W (fun _ => ⟨g, 0, rfl, fun i hi => by rw [Nat.zero_add]; exact h6 i hi⟩) (hL.below hW)
        rw [vdec_more hn hr] at hd
        exact hd
      · intro W g c hW hh
        exact (copyBytes_any (vEnc k n S.data.toList) (by omega) g c W hh).mono fun e w' ⟨v, he, hR, hb⟩ => ⟨v, he, hR.le hW.size, hb⟩
  · rw [hl] at h
    exact back_long S w _ h

end Go.Proofs.YtgahljgmgdjjdaaGreatDoor
