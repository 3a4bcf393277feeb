/- cell.lasts at cells that stand in order. Conditions: the row is the call's own; a hundred thousand cells at most. -/
import Derived.Test.YtfcnobcpnhfgmaaDoorHD
import Derived.Deep.QuietTactic
import Derived.BigQuiet
namespace Go.Proofs.YtfcnobcpnhfgmaaDoor
open Go.RowKit

/-- Two cells, one in a block of the call's own, one in a row. -/
abbrev TwoL (W0 : World) (c : CT) (bb : Nat) (d : CT) (g off : Nat) (W : World) : Prop := Hid (Below W0.heap.size W0 W ∧ bb < W0.heap.size ∧ g < W0.heap.size) ∧ W.cell? ⟨bb, 0, none⟩ = some (.string c.r) ∧ W.cell? ⟨bb, 1, none⟩ = some (.string c.f) ∧ W.cell? ⟨bb, 2, none⟩ = some (.string c.q) ∧ W.cell? ⟨bb, 3, none⟩ = some (.int .i64 c.t) ∧ W.cell? ⟨bb, 4, none⟩ = some (.int .i64 c.k) ∧ W.cell? ⟨bb, 5, none⟩ = some (.int .i64 c.vk) ∧ W.cell? ⟨bb, 6, none⟩ = some (.int .i64 c.vn) ∧ W.cell? ⟨bb, 7, none⟩ = some (.string c.s) ∧ W.cell? ⟨g, off, none⟩ = some (.string d.r) ∧ W.cell? ⟨g, off + 1, none⟩ = some (.string d.f) ∧ W.cell? ⟨g, off + 2, none⟩ = some (.string d.q) ∧ W.cell? ⟨g, off + 3, none⟩ = some (.int .i64 d.t) ∧ W.cell? ⟨g, off + 4, none⟩ = some (.int .i64 d.k) ∧ W.cell? ⟨g, off + 5, none⟩ = some (.int .i64 d.vk) ∧ W.cell? ⟨g, off + 6, none⟩ = some (.int .i64 d.vn) ∧ W.cell? ⟨g, off + 7, none⟩ = some (.string d.s)
section
variable {W0 W W' : World} {c d : CT} {bb g off : Nat}
theorem twol_drew (h : TwoL W0 c bb d g off W) : TwoL W0 c bb d g off W.drew := by
  obtain ⟨hh, h⟩ := h
  exact ⟨hid ⟨hh.out.1.drew, hh.out.2⟩, h⟩
theorem twol_call (h : TwoL W0 c bb d g off W) (hb : Below W.heap.size W W') : TwoL W0 c bb d g off W' := by
  obtain ⟨hh, a0, a1, a2, a3, a4, a5, a6, a7, a8, a9, a10, a11, a12, a13, a14, a15⟩ := h
  obtain ⟨hbw, h1, h2⟩ := hh.out
  have hz := hbw.size
  have hc : ∀ b o, b < W0.heap.size → W'.cell? ⟨b, o, none⟩ = W.cell? ⟨b, o, none⟩ := fun b o h => hb.cell (p := ⟨b, o, none⟩) (show b < W.heap.size by omega)
  refine ⟨hid ⟨hbw.trans (hb.mono hz), h1, h2⟩, ?_, ?_, ?_, ?_, ?_, ?_, ?_, ?_, ?_, ?_, ?_, ?_, ?_, ?_, ?_, ?_⟩ <;> (rw [hc _ _ (by assumption)]; assumption)
end

theorem corder_ct (x y : CT) (w : World) : Calls Tryd.prog 57 #[x.v, y.v] w fun e w' => e = .returned (.int .i64 (CT.cmp x y)) ∧ Below w.heap.size w w' := corder_any x.r x.f x.q x.s x.t x.k x.vk x.vn y.r y.f y.q y.s y.t y.k y.vk y.vn w

theorem lasts_last {s : List CT} {i : Nat} (h : i < s.length) (h2 : i + 1 = s.length) : lastsM (s.drop i) = [s[i]] := by
  rw [List.drop_eq_getElem_cons h, List.drop_of_length_le (by omega)]
  rfl
theorem lasts_two {s : List CT} {i : Nat} (h : i + 1 < s.length) : lastsM (s.drop i) = if CT.cmp s[i] s[i + 1] = 0 then lastsM (s.drop (i + 1)) else s[i] :: lastsM (s.drop (i + 1)) := by
  rw [List.drop_eq_getElem_cons (by omega : i < s.length), List.drop_eq_getElem_cons h]
  rfl

set_option maxHeartbeats 4000000 in
set_option maxRecDepth 100000 in
theorem lasts_some (B g cap : Nat) (s : List CT) (hs : s.length ≤ 100000) (w : World) (h : CRow w B (.slice (some ⟨g, 0, none⟩) s.length cap) s) (hB : B ≤ w.heap.size) (hBg : B ≤ g) (hgw : g < w.heap.size) :
    Calls Tryd.prog 122 #[.slice (some ⟨g, 0, none⟩) s.length cap] w fun e w' => ∃ v', e = .returned v' ∧ CRow w' B v' (lastsM s) ∧ Below B w w' := by
  have HS0 := hid (LsS.start h)
  have hcap : s.length ≤ cap := HS0.out.sc
  have hcm : cap ≤ 9223372036854775807 := by have := HS0.out.cm; unfold maxLen at this; omega
  obtain ⟨n, hn⟩ : ∃ n, s.length = n := ⟨_, rfl⟩
  have HN := hid hn
  rw [hn] at hs hcap ⊢
  clear h hn
  have hOr := hid corder_ct
  go_enter Tryd.func122, Tryd.ntmps122
  go_wp2
  go_loopw [3, 10] (fun vo vi wr => ∃ (i : Nat) (out : List CT), i ≤ n ∧ vi = .int .i64 i ∧ vo = .slice (some ⟨g, 0, none⟩) out.length cap ∧ Hid (LsS wr g cap s out i) ∧ Hid (Below B w wr) ∧ Hid (lastsM s = out ++ lastsM (s.drop i))) (fun _ vi _ => n - (intOf vi).toNat)
  case atStart => exact ⟨0, [], Nat.zero_le _, rfl, rfl, HS0.out, Below.refl _ _, by unfold Hid; simp⟩
  case round =>
    obtain ⟨i, out, hi, rfl, rfl, HS, HB, HE⟩ := hrel
    obtain ⟨k, hk⟩ : ∃ k, out.length = k := ⟨_, rfl⟩
    have HK := hid hk
    rw [hk]
    have hki : k ≤ i := by rw [← hk]; exact HS.out.ko
    clear hk
    have hgr : g < wr.heap.size := Nat.lt_of_lt_of_le hgw HB.out.size
    by_cases hlt : i < n
    · have hin : i < s.length := by rw [HN.out]; exact hlt
      have hltz : (i : Int) < (n : Int) := by omega
      obtain ⟨c, hc⟩ : ∃ c, s[i] = c := ⟨_, rfl⟩
      have HC := hid hc
      have P : wr.cell? ⟨g, i * 8, none⟩ = some (.string c.r) ∧ wr.cell? ⟨g, i * 8 + 1, none⟩ = some (.string c.f) ∧ wr.cell? ⟨g, i * 8 + 2, none⟩ = some (.string c.q) ∧ wr.cell? ⟨g, i * 8 + 3, none⟩ = some (.int .i64 c.t) ∧ wr.cell? ⟨g, i * 8 + 4, none⟩ = some (.int .i64 c.k) ∧ wr.cell? ⟨g, i * 8 + 5, none⟩ = some (.int .i64 c.vk) ∧ wr.cell? ⟨g, i * 8 + 6, none⟩ = some (.int .i64 c.vn) ∧ wr.cell? ⟨g, i * 8 + 7, none⟩ = some (.string c.s) := by
        rw [← hc]
        exact ⟨HS.out.cell i 0 (Nat.le_refl _) hin (by omega), HS.out.cell i 1 (Nat.le_refl _) hin (by omega), HS.out.cell i 2 (Nat.le_refl _) hin (by omega), HS.out.cell i 3 (Nat.le_refl _) hin (by omega), HS.out.cell i 4 (Nat.le_refl _) hin (by omega), HS.out.cell i 5 (Nat.le_refl _) hin (by omega), HS.out.cell i 6 (Nat.le_refl _) hin (by omega), HS.out.cell i 7 (Nat.le_refl _) hin (by omega)⟩
      obtain ⟨p0, p1, p2, p3, p4, p5, p6, p7⟩ := P
      clear hc
      go_upto_region 5 with (fail)
      obtain ⟨bb, hbb⟩ : ∃ bb, wr.heap.size = bb := ⟨_, rfl⟩
      refine wp_ltc (fun W => Hid (Blk W bb 40 c.e.toArray ∧ Below wr.heap.size wr W ∧ bb = wr.heap.size) ∧ W.cell? ⟨bb, 0, none⟩ = some (.string c.r) ∧ W.cell? ⟨bb, 1, none⟩ = some (.string c.f) ∧ W.cell? ⟨bb, 2, none⟩ = some (.string c.q) ∧ W.cell? ⟨bb, 3, none⟩ = some (.int .i64 c.t) ∧ W.cell? ⟨bb, 4, none⟩ = some (.int .i64 c.k) ∧ W.cell? ⟨bb, 5, none⟩ = some (.int .i64 c.vk) ∧ W.cell? ⟨bb, 6, none⟩ = some (.int .i64 c.vn) ∧ W.cell? ⟨bb, 7, none⟩ = some (.string c.s)) (by rw [← hbb]; have hB := Blk.new wr 40 c.e.toArray; exact ⟨⟨hB, below_new _ _, rfl⟩, blk_words hB⟩) (fun W hW => ?_)
      rw [hbb]
      obtain ⟨HW, b0, b1, b2, b3, b4, b5, b6, b7⟩ := hW
      have HS2 : Hid (LsS W g cap s out i) := HS.out.keep HW.out.2.1
      have HB2 : Hid (Below B w W) := HB.out.trans (HW.out.2.1.mono (Nat.le_trans hB HB.out.size))
      have hbW : bb < W.heap.size := HW.out.1.lt
      have hgW : g < W.heap.size := Nat.lt_of_lt_of_le hgr HW.out.2.1.size
      have HBW : Hid (B ≤ W.heap.size) := by have := HB2.out.size; unfold Hid; omega
      have hgb : g < bb := by rw [← hbb]; exact hgr
      clear p0 p1 p2 p3 p4 p5 p6 p7 hbb HS HB hgr
      by_cases hlast : i + 1 = n
      · have hne : ((i : Int) + 1 == (n : Int)) = true := by simp; omega
        have HE2 : Hid (lastsM s = (out ++ [c]) ++ lastsM (s.drop (i + 1))) := by
          unfold Hid
          rw [HE.out, lasts_last hin (by rw [HN.out]; exact hlast), List.drop_of_length_le (by rw [HN.out]; omega), HC.out]
          show _ = (out ++ [c]) ++ []
          rw [List.append_nil]
        go_quiet (fail)
        obtain ⟨W2, hW2⟩ : ∃ W2, W.drewN nq = W2 := ⟨_, rfl⟩
        rw [hW2]
        have P : W2.cell? ⟨bb, 0, none⟩ = some (.string c.r) ∧ W2.cell? ⟨bb, 1, none⟩ = some (.string c.f) ∧ W2.cell? ⟨bb, 2, none⟩ = some (.string c.q) ∧ W2.cell? ⟨bb, 3, none⟩ = some (.int .i64 c.t) ∧ W2.cell? ⟨bb, 4, none⟩ = some (.int .i64 c.k) ∧ W2.cell? ⟨bb, 5, none⟩ = some (.int .i64 c.vk) ∧ W2.cell? ⟨bb, 6, none⟩ = some (.int .i64 c.vn) ∧ W2.cell? ⟨bb, 7, none⟩ = some (.string c.s) := by rw [← hW2]; exact ⟨b0, b1, b2, b3, b4, b5, b6, b7⟩
        have HX : Hid (LsS W2 g cap s out i ∧ Below B w W2 ∧ B ≤ W2.heap.size) := by
          rw [← hW2]
          exact ⟨HS2.out.keep (below_drewN (Below.refl _ _) _), below_drewN HB2.out _, HBW.out⟩
        clear b0 b1 b2 b3 b4 b5 b6 b7 hW2
        obtain ⟨b0, b1, b2, b3, b4, b5, b6, b7⟩ := P
        go_wp2_with (at_builtin; obtain ⟨cur, hcur, hcs, -, -⟩ := (HX.out.1.keep (below_new _ (.cells #[.string c.r, .string c.f, .string c.q, .int .i64 c.t, .int .i64 c.k, .int .i64 c.vk, .int .i64 c.vn, .string c.s] 40))).ex; refine wpList_append_room rfl (.tmp 30) (.tmp 32) rfl _ g k cap rfl cur hcur hcs _ 1 rfl c (ct_new c _ _) (by omega) ?_; intro w' cur' z1 z2 z3 z4)
        go_roundw
        case rel =>
          have hz := HX.out.2.2
          have hp := LsS.put (HX.out.1.keep (below_new _ _)) hin cur cur' hcur z1 z2 (fun t => by rw [HK.out, HC.out]; exact z3 t)
          rw [HC.out] at hp
          exact ⟨i + 1, out ++ [c], by omega, by go_num, by simp [HK.out], hp, (HX.out.2.1.alloc hz _).trans (z4 B hBg (by simp; omega)), HE2.out⟩
        case measure => simp [intOf]; omega
      · have hi1 : i + 1 < s.length := by rw [HN.out]; omega
        have hne : ((i : Int) + 1 == (n : Int)) = false := by simp; omega
        have hw1 : IntKind.i64.wrap ((i : Int) + 1) = (i : Int) + 1 := by rw [IntKind.wrap_i64]; omega
        have hw2 : ((i : Int) + 1).toNat = i + 1 := by omega
        have hw3 : (0 : Int) ≤ (i : Int) + 1 := by omega
        have hw4 : (i : Int) + 1 < (n : Int) := by omega
        obtain ⟨d, hd⟩ : ∃ d, s[i + 1] = d := ⟨_, rfl⟩
        have HT : Hid (TwoL W c bb d g ((i + 1) * 8) W) := by
          rw [← hd]
          exact ⟨hid ⟨Below.refl _ _, hbW, hgW⟩, b0, b1, b2, b3, b4, b5, b6, b7, HS2.out.cell (i + 1) 0 (by omega) hi1 (by omega), HS2.out.cell (i + 1) 1 (by omega) hi1 (by omega), HS2.out.cell (i + 1) 2 (by omega) hi1 (by omega), HS2.out.cell (i + 1) 3 (by omega) hi1 (by omega), HS2.out.cell (i + 1) 4 (by omega) hi1 (by omega), HS2.out.cell (i + 1) 5 (by omega) hi1 (by omega), HS2.out.cell (i + 1) 6 (by omega) hi1 (by omega), HS2.out.cell (i + 1) 7 (by omega) hi1 (by omega)⟩
        have HE2 : Hid (lastsM s = out ++ (if CT.cmp c d = 0 then lastsM (s.drop (i + 1)) else c :: lastsM (s.drop (i + 1)))) := by
          unfold Hid
          rw [HE.out, lasts_two hi1, HC.out, hd]
        have hOd : Hid (∀ W', Calls Tryd.prog 57 #[c.v, d.v] W' fun e w' => e = .returned (.int .i64 (CT.cmp c d)) ∧ Below W'.heap.size W' w') := fun W' => hOr.out c d W'
        obtain ⟨o, ho⟩ : ∃ o, CT.cmp c d = o := ⟨_, rfl⟩
        rw [ho] at HE2 hOd
        clear hd ho b0 b1 b2 b3 b4 b5 b6 b7
        obtain ⟨h0, b0, b1, b2, b3, b4, b5, b6, b7, d0, d1, d2, d3, d4, d5, d6, d7⟩ := HT.out
        go_region_held3 (fun W' => Hid (Below W.heap.size W W' ∧ bb < W.heap.size ∧ g < W.heap.size) ∧ W'.cell? ⟨bb, 0, none⟩ = some (.string c.r) ∧ W'.cell? ⟨bb, 1, none⟩ = some (.string c.f) ∧ W'.cell? ⟨bb, 2, none⟩ = some (.string c.q) ∧ W'.cell? ⟨bb, 3, none⟩ = some (.int .i64 c.t) ∧ W'.cell? ⟨bb, 4, none⟩ = some (.int .i64 c.k) ∧ W'.cell? ⟨bb, 5, none⟩ = some (.int .i64 c.vk) ∧ W'.cell? ⟨bb, 6, none⟩ = some (.int .i64 c.vn) ∧ W'.cell? ⟨bb, 7, none⟩ = some (.string c.s) ∧ W'.cell? ⟨g, (i + 1) * 8, none⟩ = some (.string d.r) ∧ W'.cell? ⟨g, (i + 1) * 8 + 1, none⟩ = some (.string d.f) ∧ W'.cell? ⟨g, (i + 1) * 8 + 2, none⟩ = some (.string d.q) ∧ W'.cell? ⟨g, (i + 1) * 8 + 3, none⟩ = some (.int .i64 d.t) ∧ W'.cell? ⟨g, (i + 1) * 8 + 4, none⟩ = some (.int .i64 d.k) ∧ W'.cell? ⟨g, (i + 1) * 8 + 5, none⟩ = some (.int .i64 d.vk) ∧ W'.cell? ⟨g, (i + 1) * 8 + 6, none⟩ = some (.int .i64 d.vn) ∧ W'.cell? ⟨g, (i + 1) * 8 + 7, none⟩ = some (.string d.s))
          (first | exact HT.out | exact twol_drew HT.out | exact twol_call (by assumption) hb5 | exact twol_drew (by assumption) | assumption)
          (first | (go_at_call 57; refine (hOd.out _).mono ?_; rintro e w5 ⟨rfl, hb5⟩))
        rename_i hLast
        have HX : Hid (LsS w5 g cap s out i ∧ Below B w w5 ∧ B ≤ w5.heap.size) := by
          have hb := hLast.1.out.1
          exact ⟨HS2.out.keep hb, HB2.out.trans (hb.mono HBW.out), Nat.le_trans HBW.out hb.size⟩
        clear b0 b1 b2 b3 b4 b5 b6 b7 d0 d1 d2 d3 d4 d5 d6 d7 h0 HT
        obtain ⟨-, b0, b1, b2, b3, b4, b5, b6, b7, -, -, -, -, -, -, -, -⟩ := hLast
        by_cases ho : o = 0
        · have q0 : (o != 0) = false := by simpa using ho
          have HE3 : Hid (lastsM s = out ++ lastsM (s.drop (i + 1))) := by
            have := HE2.out
            rwa [if_pos ho] at this
          clear ho
          go_wp2
          go_roundw
          case rel => exact ⟨i + 1, out, by omega, by go_num, by rw [HK.out], HX.out.1.skip, HX.out.2.1, HE3.out⟩
          case measure => simp [intOf]; omega
        · have q0 : (o != 0) = true := by simpa using ho
          have HE3 : Hid (lastsM s = (out ++ [c]) ++ lastsM (s.drop (i + 1))) := by
            have := HE2.out
            rw [if_neg ho] at this
            unfold Hid
            rw [this, List.append_assoc]
            rfl
          clear ho
          go_wp2_with (at_builtin; obtain ⟨cur, hcur, hcs, -, -⟩ := (HX.out.1.keep (below_new _ (.cells #[.string c.r, .string c.f, .string c.q, .int .i64 c.t, .int .i64 c.k, .int .i64 c.vk, .int .i64 c.vn, .string c.s] 40))).ex; refine wpList_append_room rfl (.tmp 30) (.tmp 32) rfl _ g k cap rfl cur hcur hcs _ 1 rfl c (ct_new c _ _) (by omega) ?_; intro w' cur' z1 z2 z3 z4)
          go_roundw
          case rel =>
            have hz := HX.out.2.2
            have hp := LsS.put (HX.out.1.keep (below_new _ _)) hin cur cur' hcur z1 z2 (fun t => by rw [HK.out, HC.out]; exact z3 t)
            rw [HC.out] at hp
            exact ⟨i + 1, out ++ [c], by omega, by go_num, by simp [HK.out], hp, (HX.out.2.1.alloc hz _).trans (z4 B hBg (by simp; omega)), HE3.out⟩
          case measure => simp [intOf]; omega
    · obtain rfl : i = n := by omega
      go_wp2
      go_ret
      have e := HE.out
      rw [← HN.out, List.drop_length] at e
      rw [e, show out ++ lastsM [] = out from List.append_nil _, ← HK.out]
      exact ⟨_, rfl, HS.out.row (by rw [HN.out]; exact Nat.le_refl _) hBg, HB.out⟩
end Go.Proofs.YtfcnobcpnhfgmaaDoor
