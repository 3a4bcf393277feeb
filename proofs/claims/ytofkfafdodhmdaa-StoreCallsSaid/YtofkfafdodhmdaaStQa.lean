/- joistlaw05.alive: it says true. Conditions: none. -/
import Derived.Test.YtofkfafdodhmdaaStQ
namespace Go.Proofs.Ytofkfafdodhmdaa
open Go.RowKit

theorem small_name {s : ByteArray} (h : s.size = 1) : s.size ≤ 1000 := by omega
theorem chg_low {w W W' : World} {db mb : Nat} {fs : List Fl} (h : Chg (Ft db mb fs) W W') (hb : Below w.heap.size w W) (hf : ∀ k, Ft db mb fs k → w.heap.size ≤ k) : Below w.heap.size w W' :=
  hb.trans (h.below hf hb.size)
/-- What alive's disk is. -/
structure AlS (w W : World) (B db mb : Nat) (fs : List Fl) (u : Nat) (vs : Vs) : Prop where
  dk : DkAt W B db mb fs 9 (u : Int)
  vw : viewF fs = vs
  lo : w.heap.size ≤ B
  b : Below w.heap.size w W
theorem AlS.below {w W W' : World} {B db mb : Nat} {fs : List Fl} {u : Nat} {vs : Vs} (h : AlS w W B db mb fs u vs) (hb : Below W.heap.size W W') : AlS w W' B db mb fs u vs := ⟨h.dk.below hb, h.vw, h.lo, h.b.trans (hb.mono h.b.size)⟩
theorem AlS.turn {w W W' : World} {B db mb : Nat} {fs fs' : List Fl} {u u' : Nat} {vs vs' : Vs} (h : AlS w W B db mb fs u vs) (hc : Chg (Ft db mb fs) W W') (hd : DkAt W' B db mb fs' 9 (u' : Int)) (hv : viewF fs' = vs') : AlS w W' B db mb fs' u' vs' :=
  ⟨hd, hv, h.lo, chg_low hc h.b fun _ q => Nat.le_trans h.lo (h.dk.ft q).1⟩
theorem al_good : GoodV [vX, vY] 9 4 2 := by
  have h1 : GoodV (wrV sX [97, 98] 0 []) 9 2 1 := good_write (good_nil 9 (by decide)) sX (by decide) [97, 98] (by decide) (by decide)
  rw [wr_x] at h1
  have h2 : GoodV (wrV sY [99, 100] 2 [vX]) 9 4 2 := good_write h1 sY (by decide) [99, 100] (by show ((2 : Nat) : Int) + ((2 : Nat) : Int) ≤ 9; decide) (by decide)
  rw [wr_y] at h2
  exact h2

set_option maxRecDepth 100000 in
set_option maxHeartbeats 8000000 in
theorem alive_ok (w : World) : Calls Try.prog 7 #[] w fun e w' => e = .returned (.bool true) ∧ Below w.heap.size w w' := by
  have HN := hid (new_yes 9 (by decide) (by decide) w)
  go_enter Try.func7, Try.ntmps7
  go_upto_region 4 with (go_at_call 9; refine HN.out.mono ?_; rintro e w1 ⟨rfl, hd, hb⟩; have HA1 : Hid (AlS w w1 w.heap.size (w.heap.size + 1) w.heap.size [] 0 []) := ⟨hd, rfl, Nat.le_refl _, hb⟩; clear hd hb)
  obtain ⟨B, hB⟩ : ∃ B, w.heap.size = B := ⟨_, rfl⟩
  obtain ⟨db, hdb⟩ : ∃ db, w.heap.size + 1 = db := ⟨_, rfl⟩
  obtain ⟨mb, hmb⟩ : ∃ mb, mb = w.heap.size := ⟨_, rfl⟩
  have HA1' : Hid (AlS w w1 B db mb [] 0 []) := by rw [← hB, ← hdb, hmb]; exact HA1
  rw [hdb]
  clear HA1 HN hB hdb hmb
  have HW1 := hid (write_ok (u := 0) (HA1'.out.dk.below (below_new w1 (.cells #[.int .u8 97, .int .u8 98] 5 (2, 3)))) sX _ [97, 98] (by decide) (by decide) (sla_two w1 97 98 (2, 3)) (by decide) (by decide) (by decide) (fun f hf => by cases hf) (by decide))
  have cv1 := conv_two w1 97 98
  go_upto_region 5 with (go_at_call 30; refine HW1.out.mono ?_; rintro e w2 ⟨rfl, fs1, h1, h2, h3, h4⟩; have HA2 : Hid (AlS w w2 B db mb fs1 2 [vX]) := (HA1'.out.below (below_new w1 _)).turn h3 h1 (h2.trans wr_x); clear h1 h2 h3 h4)
  clear HW1 HA1'
  have hsz1 : sizeF fs1 = 2 := by rw [← view_size, HA2.out.vw]; rfl
  have hl1 : fs1.length = 1 := by have := congrArg List.length HA2.out.vw; rw [show (viewF fs1).length = fs1.length from List.length_map _] at this; exact this
  have hr1 : ∀ f ∈ fs1, f.l.length ≤ 1000000 ∧ ∀ r ∈ f.l, r.1 + r.2 ≤ 1000000000000 := fun f hf => by
    have : f.v ∈ [vX] := by rw [← HA2.out.vw]; exact List.mem_map_of_mem hf
    rw [List.mem_singleton] at this
    have e : f.l = [(0, 2)] := congrArg Fv.l this
    rw [e]
    exact ⟨by decide, fun r hr => by rw [List.mem_singleton] at hr; subst hr; decide⟩
  have HW2 := hid (write_ok (u := 2) (HA2.out.dk.below (below_new w2 (.cells #[.int .u8 99, .int .u8 100] 5 (2, 3)))) sY _ [99, 100] (by decide) (by decide) (sla_two w2 99 100 (2, 3)) (by decide) (by rw [hsz1]; decide) (by decide) hr1 (by omega))
  clear hsz1 hl1 hr1
  clear cv1
  have cv2 := conv_two w2 99 100
  go_upto_region 6 with (go_at_call 30; refine HW2.out.mono ?_; rintro e w3 ⟨rfl, fs2, h1, h2, h3, h4⟩; have HA3 : Hid (AlS w w3 B db mb fs2 4 [vX, vY]) := (HA2.out.below (below_new w2 _)).turn h3 h1 (h2.trans (by rw [HA2.out.vw]; exact wr_y)); clear h1 h2 h3 h4)
  clear HW2 HA2
  obtain ⟨f, g, hfg, hf, hg⟩ := two_views HA3.out.vw
  subst hfg
  have hgood : GoodV (viewF [f, g]) 9 4 2 := by rw [HA3.out.vw]; exact al_good
  obtain ⟨g1, g2, g3, g4, g5, g6, _⟩ := good_fs hgood (by decide) (by decide)
  have hlo : looseF [f, g] = 4 := by rw [← view_loose, HA3.out.vw]; rfl
  have HL := hid (loose_ok HA3.out.dk (by omega) (fun f hf => (g6 f hf).2.2.1))
  rw [hlo] at HL
  have hne : f.b ≠ g.b := fun e => (ap_mid (A := []) (f := f) (C := [g])).1 HA3.out.dk.ap |>.2 g (by simp) f.b (.inl rfl) (.inl e)
  have HNe := hid hne
  have Hf := hid hf
  have Hg := hid hg
  have HG6 := hid g6
  have HG5 := hid g5
  have HG2 := hid g2
  clear hgood g1 g2 g3 g4 g5 g6 hlo hne hf hg
  go_upto_region 7 with (go_at_call 25; refine HL.out.mono ?_; rintro e w4 ⟨rfl, hb⟩; have HA4 := hid (HA3.out.below hb); clear hb)
  have HC := hid (crash_ok HA4.out.dk 3 (by decide) (by decide) HG2.out (fun f hf => (HG6.out f hf).2.1) (by have := HG5.out; omega) (fun f hf => by have := (HG6.out f hf).1; unfold maxLen; omega))
  clear HA3 HL
  go_upto_region 8 with (go_at_call 28; refine HC.out.mono ?_; rintro e w5 ⟨rfl, l, h1, h2, h3, h4⟩; have HA5 := hid (HA4.out.turn h4 h3 (crash_views Hf.out Hg.out HNe.out h1 h2)); clear h1 h2 h3 h4)
  obtain ⟨fs5, hfs5⟩ : ∃ fs5, ((([f, g].map (mF l 3)).filter keepB).map cutF) = fs5 := ⟨_, rfl⟩
  rw [hfs5] at HA5
  clear HA4 HC HG6 HG5 HG2 Hf Hg HNe hfs5
  obtain ⟨f, g, hfg, hf, hg⟩ := two_views HA5.out.vw
  subst hfg
  have n1 : f.n = sX := congrArg Fv.n hf
  have n2 : g.n = sY := congrArg Fv.n hg
  have d1 : f.d = [97, 98] := congrArg Fv.d hf
  have d2 : g.d = [99] := congrArg Fv.d hg
  have HR1 : Hid (Calls Try.prog 26 #[.pointer (some ⟨db, 0, none⟩), .string sX] w5 fun e w' => ∃ v, e = .returned (.tuple #[v, .bool true]) ∧ Row w' w5.heap.size v [97, 98] ∧ Below w5.heap.size w5 w') := by
    have := read_some (A := []) (f := f) (C := [g]) HA5.out.dk (by rw [n1]; decide) (by rw [d1]; decide)
    rw [n1, d1] at this
    exact this
  have HR2 : Hid (∀ W, Below w5.heap.size w5 W → Calls Try.prog 26 #[.pointer (some ⟨db, 0, none⟩), .string sY] W fun e w' => ∃ v, e = .returned (.tuple #[v, .bool true]) ∧ Row w' W.heap.size v [99] ∧ Below W.heap.size W w') := fun W hW => by
    have := read_some (A := [f]) (f := g) (C := []) (HA5.out.dk.below hW) (by rw [n2]; decide) (by rw [d2]; decide)
    rw [n2, d2] at this
    exact this
  have hsz : sizeF [f, g] = 3 := by rw [← view_size, HA5.out.vw]; rfl
  have HSz : Hid (∀ W, Below w5.heap.size w5 W → Calls Try.prog 22 #[.pointer (some ⟨db, 0, none⟩)] W fun e w' => e = .returned (.int .i64 3) ∧ Below W.heap.size W w') := fun W hW => by
    have := size_ok (HA5.out.dk.below hW)
    rw [hsz] at this
    exact this
  have HRo : Hid (∀ W, Below w5.heap.size w5 W → Calls Try.prog 24 #[.pointer (some ⟨db, 0, none⟩)] W fun e w' => e = .returned (.int .i64 6) ∧ Below W.heap.size W w') := fun W hW => by
    have := room_ok (HA5.out.dk.below hW) (by decide) (by rw [hsz]; decide)
    rw [hsz] at this
    exact this
  have HNa : Hid (∀ W, Below w5.heap.size w5 W → Calls Try.prog 19 #[.pointer (some ⟨db, 0, none⟩)] W fun e w' => ∃ A c, e = .returned (.slice A 2 c) ∧ Below W.heap.size W w') := fun W hW => (names_ok (HA5.out.dk.below hW) (by show 2 ≤ _; decide)).mono fun e w' ⟨v, he, hr, hb⟩ => by
    rcases hr.2 with ⟨_, e0⟩ | ⟨g0, cap, _, e1, _⟩
    · exact absurd e0 (by show ¬ 2 = 0; decide)
    · exact ⟨_, cap, by rw [he, e1]; rfl, hb⟩
  have hnz : ∀ h ∈ [f, g], h.n ≠ sZ := fun h hh => by
    simp only [List.mem_cons, List.not_mem_nil, or_false] at hh
    rcases hh with rfl | rfl
    · rw [n1]; decide
    · rw [n2]; decide
  have HSy : Hid (∀ W, Below w5.heap.size w5 W → Calls Try.prog 31 #[.pointer (some ⟨db, 0, none⟩), .string sZ] W fun e w' => e = .returned (.int .i64 12) ∧ Below W.heap.size W w') := fun W hW => sync_none (HA5.out.dk.below hW) sZ hnz (by decide)
  clear hf hg n1 n2 d1 d2 hsz hnz
  go_upto_region 9 with (go_at_call 26; refine HR1.out.mono ?_; rintro e w6 ⟨v1, rfl, hr, hb⟩; have R1 := hid hr; have B6 := hid hb; obtain ⟨A1, c1, e1, _⟩ := hr.sla; subst e1; clear hr hb)
  have R1S : Hid (SlA w6 (.slice A1 ([97, 98] : List UInt8).length c1) [97, 98]) := R1.out.sla
  go_upto_region 10 with (go_at_call 26; refine (HR2.out _ B6.out).mono ?_; rintro e w7 ⟨v2, rfl, hr, hb⟩; have R2 := hid hr; have B7 := hid (B6.out.trans (hb.mono B6.out.size)); have R1T := hid (R1S.out.below hb); obtain ⟨A2, c2, e1, _⟩ := hr.sla; subst e1; clear hr hb)
  have q1 : (convert 32 9 (.slice A1 2 c1)).run Try.prog w7 = .ok (.string ⟨#[97, 98]⟩) w7 := conv_some (c := c1) (by decide : 0 < ([97, 98] : List UInt8).length) R1T.out.hold
  have q2 : (convert 32 9 (.slice A2 1 c2)).run Try.prog w7 = .ok (.string ⟨#[99]⟩) w7 := conv_some (c := c2) (by decide : 0 < ([99] : List UInt8).length) R2.out.sla.hold
  have HB5 := hid HA5.out.b
  clear HR1 HR2 HA5 R1 R2 R1S R1T B6
  go_wp2_with (first
    | (go_at_call 22; refine (HSz.out _ B7.out).mono ?_; rintro e w8 ⟨rfl, hb⟩; have B8 := hid (B7.out.trans (hb.mono B7.out.size)); clear hb)
    | (go_at_call 24; refine (HRo.out _ B8.out).mono ?_; rintro e w9 ⟨rfl, hb⟩; have B9 := hid (B8.out.trans (hb.mono B8.out.size)); clear hb)
    | (go_at_call 19; refine (HNa.out _ B9.out).mono ?_; rintro e w10 ⟨A3, c3, rfl, hb⟩; have B10 := hid (B9.out.trans (hb.mono B9.out.size)); clear hb)
    | (go_at_call 31; refine (HSy.out _ B10.out).mono ?_; rintro e w11 ⟨rfl, hb⟩; have B11 := hid (B10.out.trans (hb.mono B10.out.size)); clear hb))
  go_ret
  exact ⟨rfl, HB5.out.trans (B11.out.mono HB5.out.size)⟩
end Go.Proofs.Ytofkfafdodhmdaa
