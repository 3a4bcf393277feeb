/- Several texts in one: UD UE UF UG. Conditions: as each theorem names them. -/
import Derived.Test.YtjbjdkginemedaaGreatDoorQT6
import Derived.Test.YtjbjdkginemedaaGreatDoorQT4
import Derived.Test.YtjbjdkginemedaaGreatDoorQE1
import Derived.Test.YtjbjdkginemedaaGreatDoorQT3
import Derived.Test.YtjbjdkginemedaaGreatDoorQT5
import Derived.Test.YtjbjdkginemedaaGreatDoorNR
import Derived.Test.YtjbjdkginemedaaGreatDoorQR
/- table.Open of what Build has written. Conditions: the bytes stand, right cells in order, 120 at most; the tables of utf8 read as they are laid. -/
namespace Go.Proofs.YtjbjdkginemedaaGreatDoor
open Go.RowKit

/-- A table that Open has made of what Build has written of some parts: where it stands. -/
structure Tb9 (w W : World) (t : Nat) (vb vi : Value) (ps : List (List CT)) (u : Nat → Value) (k : Nat) : Prop where
  bel : Below w.heap.size w W
  ge : w.heap.size ≤ t
  blk : Blk W t 92 #[vb, vi, .int .i64 (k : Int)]
  bs : Sx W t vb (blkF ps)
  ix : ERow W w.heap.size vi (esL ps u)
  ne : ∀ g, vi.ownBlock = some g → g ≠ t
  nil : ps = [] → vi = .slice none 0 0
  ky : ∀ i p, ps[i]? = some p → Sx W t (u (2 * i)) (headK p)
theorem Tb9.below {w W W' : World} {t k : Nat} {vb vi : Value} {ps : List (List CT)} {u : Nat → Value} (h : Tb9 w W t vb vi ps u k) (hb : Below W.heap.size W W') : Tb9 w W' t vb vi ps u k :=
  ⟨h.bel.trans (hb.mono h.bel.size), h.ge, h.blk.keep hb h.blk.lt, h.bs.below hb, h.ix.below hb, h.ne, h.nil, fun i p hp => (h.ky i p hp).below hb⟩
theorem ERow.but {W W' : World} {B t : Nat} {v : Value} {l : List En} (h : ERow W B v l) (hb : But W.heap.size t W W') (hne : ∀ g, v.ownBlock = some g → g ≠ t) : ERow W' B v l := by
  refine ⟨h.1, ?_⟩
  rcases h.2 with h | ⟨g, cap, cur, e, h1, h2, hr⟩
  · exact .inl h
  · have hg : g < W.heap.size := by
      rcases Nat.lt_or_ge g W.heap.size with h' | h'
      · exact h'
      · rw [Array.getElem?_eq_none h'] at h2; cases h2
    exact .inr ⟨g, cap, cur, e, h1, by rw [hb.block g hg (hne g (by rw [e]; rfl))]; exact h2, hr⟩
theorem Tb9.looked {w W W' : World} {t k k' : Nat} {vb vi : Value} {ps : List (List CT)} {u : Nat → Value} (h : Tb9 w W t vb vi ps u k) (hb : But W.heap.size t W W') (hk : Blk W' t 92 #[vb, vi, .int .i64 (k' : Int)]) : Tb9 w W' t vb vi ps u k' :=
  ⟨h.bel.trans ((hb.mono h.bel.size).below h.ge), h.ge, hk, h.bs.but hb, h.ix.but hb h.ne, h.ne, h.nil, fun i p hp => (h.ky i p hp).but hb⟩
theorem sla_sx {w : World} {v : Value} {l : List UInt8} (h : SlA w v l) (h0 : 0 < l.length) (r : Nat) (hr : w.heap.size ≤ r) : Sx w r v l := by
  obtain ⟨A, c, e, h1, h2, h3, h4⟩ := h
  refine ⟨A, c, e, h1, h2, h4, fun _ => ?_⟩
  obtain ⟨b, off, e2, hh⟩ := h3 h0
  have hb : b < w.heap.size := cell_lt (hh 0 h0)
  exact ⟨b, off, e2, by omega, hb, hh⟩
/-- A block is as the index tells. -/
theorem look9 {w W : World} {t k : Nat} {vb vi : Value} {ps : List (List CT)} {u : Nat → Value} (h : Tb9 w W t vb vi ps u k) (hcut : Cut9 ps) (hbc : ∀ p ∈ ps, ∀ x ∈ p, Bc x) (hl : ∀ p ∈ ps, p.length ≤ 120) (hpl : (blkF ps).length ≤ 1000000) (hk : k < 4611686018427387904) (hL : ∀ W', But W.heap.size t W W' → LaidU W')
    (i : Nat) (x : En) (p : List CT) (hx : (esL ps u)[i]? = some x) (hp : ps[i]? = some p) :
    Calls Tryz.prog 135 #[.pointer (some ⟨t, 0, none⟩), .agg x.e.toArray] W fun e w' => ∃ v, e = .returned (.tuple #[v, .bool true]) ∧ But W.heap.size t W w' ∧ Blk w' t 92 #[vb, vi, .int .i64 ((k + 1 : Nat) : Int)] ∧ CRow w' W.heap.size v p := by
  rw [esL_at hp] at hx
  obtain rfl := Option.some.inj hx
  have hpm := List.mem_of_getElem? hp
  obtain ⟨d, tl, e0⟩ : ∃ d tl, p = d :: tl := by
    have := hcut.pos p hpm
    cases p with
    | nil => cases this
    | cons d tl => exact ⟨d, tl, rfl⟩
  have hd : headK p = keyL d := by rw [e0]; rfl
  have hdr := plN_drop hp
  have hfine : fineK [] p = true := (fineK_iff p).2 ⟨fun c hc => hcut.ok c (List.mem_flatten.2 ⟨p, hpm, hc⟩), hcut.up.sublist (List.sublist_flatten_of_mem hpm)⟩
  have hple : plN ps i < (blkF ps).length := by
    have := congrArg List.length hdr
    rw [List.length_drop, List.length_append, frame_len] at this
    omega
  have hky := h.ky i p hp
  have hbs := h.bs
  rw [hd] at hky
  obtain ⟨A1, c1, e1, _⟩ := id hky
  obtain ⟨Ab, cb, e2, _, _, e5, e6⟩ := id hbs
  have hcb : Ab ≠ none := fun e => by
    have := e5 e
    omega
  obtain ⟨b0, off, rfl, _⟩ := e6 hcb
  rw [e1] at hky
  rw [e2] at hbs
  have hblk := h.blk
  rw [e2] at hblk
  have h1 := tlook_any t b0 off cb vi k hk (blkF ps) (blkF (ps.drop (i + 1))) p (plN ps i) d (by rw [e0]; rfl) A1 c1 hdr (by omega) hpl (hl p hpm) (hbc p hpm) hfine (kc (p.headD default)) W hblk hbs hky hL
  rw [e2]
  have e : (⟨kc (p.headD default), u (2 * i), plN ps i⟩ : En).e.toArray = entW (kc (p.headD default)) (.slice A1 (keyL d).length c1) (plN ps i : Int) := by rw [← e1]; rfl
  rw [e]
  exact h1

set_option maxRecDepth 100000 in
set_option maxHeartbeats 8000000 in
theorem topen_any (v : Value) (ps : List (List CT)) (hcut : Cut9 ps) (hbc : ∀ p ∈ ps, ∀ x ∈ p, Bc x) (hn : ps.length ≤ 120) (hix : (listM (idxL 0 ps)).length ≤ 16000) (hpl : (blkF ps).length ≤ 40000) (w : World) (h : SlA w v (tabB ps)) (hL : LaidU w) :
    Calls Tryz.prog 26 #[v] w fun e w' => ∃ t vb vi u, e = .returned (.tuple #[.pointer (some ⟨t, 0, none⟩), .int .i64 0]) ∧ Tb9 w w' t vb vi ps u 0 := by
  obtain ⟨A, c, rfl, hc1, hc2, hh, _⟩ := h
  have hx5 := frame_len (listM (idxL 0 ps))
  have h9 := numW_len9 (listM (idxL 0 ps)).length (by omega)
  have htl : (tabB ps).length = (blkF ps).length + ((frameM (listM (idxL 0 ps))).length + 8) := by
    unfold tabB
    rw [List.length_append, List.length_append, byW_len]
  obtain ⟨b, off, rfl, hH⟩ := hh (by omega)
  obtain ⟨bl, hbl⟩ : ∃ bl, (tabB ps).length = bl := ⟨_, rfl⟩
  obtain ⟨pl, hplE⟩ : ∃ pl, (blkF ps).length = pl := ⟨_, rfl⟩
  obtain ⟨fl, hfl⟩ : ∃ fl, (frameM (listM (idxL 0 ps))).length = fl := ⟨_, rfl⟩
  obtain ⟨xl, hxl⟩ : ∃ xl, (listM (idxL 0 ps)).length = xl := ⟨_, rfl⟩
  obtain ⟨en, hen⟩ : ∃ en, bl - 8 = en := ⟨_, rfl⟩
  have hlt : b < w.heap.size := cell_lt (hH 0 (by omega))
  have hHW : ∀ W, Below w.heap.size w W → Holds W b off (tabB ps) := fun W hW => hH.below hW hlt
  have HPl : Hid (∀ W, Below w.heap.size w W → Calls Tryz.prog 69 #[.slice (some ⟨b, off + en, none⟩) (bl - en) (c - en)] W fun e w' => e = .returned (.int .i64 (pl : Int)) ∧ Below W.heap.size W w') := fun W hW => by
    have e8 : bl - en = 8 := by omega
    rw [e8]
    refine placeof_any pl (by omega) _ _ W ⟨_, _, by rw [byW_len], by rw [byW_len]; omega, by omega, fun _ => ⟨b, off + en, rfl, ?_⟩, fun e => by cases e⟩
    have h1 := (hHW W hW).drop en
    have e2 : (tabB ps).drop en = byW 8 pl := by
      unfold tabB
      rw [← List.append_assoc, List.drop_append, List.drop_eq_nil_of_le (by rw [List.length_append]; omega), List.nil_append, List.length_append, show en - ((blkF ps).length + (frameM (listM (idxL 0 ps))).length) = 0 by omega, List.drop_zero, hplE]
    rw [e2] at h1
    exact h1
  have HNx : Hid (∀ W, Below w.heap.size w W → Calls Tryz.prog 70 #[.slice (some ⟨b, off + pl, none⟩) (en - pl) (c - pl)] W fun e w' => ∃ A1 c1 A2 c2, e = .returned (.tuple #[.slice A1 xl c1, .slice A2 0 c2, .int .i64 0]) ∧ Hid (SlA w' (.slice A1 xl c1) (listM (idxL 0 ps)) ∧ Below W.heap.size W w')) := fun W hW => by
    have e8 : en - pl = (frameM (listM (idxL 0 ps))).length := by omega
    rw [e8]
    have h0 : SlA W (.slice (some ⟨b, off + pl, none⟩) (frameM (listM (idxL 0 ps))).length (c - pl)) (frameM (listM (idxL 0 ps))) := by
      refine ⟨_, _, rfl, by omega, by omega, fun _ => ⟨b, off + pl, rfl, ?_⟩, fun e => by cases e⟩
      have h1 := (hHW W hW).drop pl
      have e2 : (tabB ps).drop pl = frameM (listM (idxL 0 ps)) ++ byW 8 pl := by
        unfold tabB
        rw [hplE, ← hplE, List.drop_left]
      rw [e2] at h1
      have h7 := holds_take h1 (frameM (listM (idxL 0 ps))).length
      rwa [List.take_left] at h7
    have h2 := next_any _ _ (by omega) W h0
    have h3 := next_frame (listM (idxL 0 ps)) [] (by omega)
    rw [List.append_nil] at h3
    rw [h3] at h2
    refine h2.mono fun e w' ⟨v1, v2, e1, e2, e3, e4⟩ => ?_
    obtain ⟨A1, c1, rfl, _⟩ := id e2
    obtain ⟨A2, c2, rfl, _⟩ := e3
    rw [hxl] at e1 e2
    exact ⟨A1, c1, A2, c2, e1, e2, e4⟩
  have HRi : Hid (∀ W A1 c1, Below w.heap.size w W → SlA W (.slice A1 xl c1) (listM (idxL 0 ps)) → Calls Tryz.prog 71 #[.slice A1 xl c1, .int .i64 (pl : Int)] W fun e w' => ∃ Ai ni ci u, e = .returned (.tuple #[.slice Ai ni ci, .bool true]) ∧ Hid (ERow w' W.heap.size (.slice Ai ni ci) (esL ps u) ∧ (∀ i p, ps[i]? = some p → SlA w' (u (2 * i)) (headK p)) ∧ Below W.heap.size W w' ∧ (ps = [] → (Value.slice Ai ni ci) = .slice none 0 0))) := fun W A1 c1 hW hs => by
    have h1 := readindex_any A1 c1 ps hcut hbc hn W (by omega) (by omega) (by rw [hxl]; exact hs) (hL.below hW)
    rw [hxl, hplE] at h1
    refine h1.mono fun e w' ⟨v, u, e1, e2, e3⟩ => ?_
    obtain ⟨Ai, ci, rfl, _⟩ := e2.len
    exact ⟨Ai, _, ci, u, e1, e2, e3⟩
  have HCl : Hid (∀ W, Below w.heap.size w W → Calls Tryz.prog 72 #[.slice (some ⟨b, off, none⟩) pl c] W fun e w' => ∃ Ab nb cb, e = .returned (.slice Ab nb cb) ∧ Hid (Row w' W.heap.size (.slice Ab nb cb) (blkF ps) ∧ Below W.heap.size W w')) := fun W hW => by
    have e2 : (tabB ps).take pl = blkF ps := by
      unfold tabB
      rw [← hplE, List.take_left]
    have h1 := holds_take (hHW W hW) pl
    rw [e2] at h1
    have h2 := clone_any (some ⟨b, off, none⟩) c (blkF ps) (by omega) W (fun _ => ⟨b, off, rfl, h1⟩)
    rw [hplE] at h2
    refine h2.mono fun e w' ⟨v, e1, e2, e3⟩ => ?_
    obtain ⟨Ab, cb, rfl, _⟩ := e2.sla
    exact ⟨Ab, _, cb, e1, e2, e3⟩
  have HB0 : Hid (Below w.heap.size w w) := Below.refl _ _
  have z1 : (bl : Int) - 8 = (en : Int) := by omega
  have z2 : IntKind.i64.wrap (en : Int) = (en : Int) := by rw [IntKind.wrap_i64]; omega
  have z3 : (0 : Int) ≤ (en : Int) := by omega
  have z4 : (en : Int) ≤ (bl : Int) := by omega
  have z5 : ¬ (c = en) := by omega
  have z6 : ¬ (c = pl) := by omega
  have z7 : (pl : Int) ≤ (en : Int) := by omega
  have z8 : (0 : Int) ≤ (pl : Int) := by omega
  have z9 : (en : Int) ≤ (c : Int) := by omega
  have z10 : (pl : Int) ≤ (c : Int) := by omega
  have y1 : en ≤ bl := by omega
  have y2 : pl ≤ en := by omega
  have y3 : en ≤ c := by omega
  have y4 : pl ≤ c := by omega
  have z11 : ¬ ((en : Int) < (pl : Int)) := by omega
  rw [hbl]
  clear hL hcut hbc hn hix hpl hH hHW hh hc1 hc2 hx5 h9 htl hbl hplE hfl hxl hen hlt
  go_enter Tryz.func26, Tryz.ntmps26
  go_wp2_with (first
    | (go_at_call 69; refine (HPl.out _ HB0.out).mono ?_; rintro e w1 ⟨rfl, hb1⟩; have HB1 := hid (HB0.out.trans (hb1.mono HB0.out.size)); clear hb1)
    | (go_at_call 70; refine (HNx.out _ HB1.out).mono ?_; rintro e w2 ⟨A1, c1, A2, c2, rfl, h2⟩; have HB2 := hid (HB1.out.trans (h2.out.2.mono HB1.out.size)); have HS2 := hid h2.out.1; clear h2)
    | (go_at_call 71; refine (HRi.out _ _ _ HB2.out HS2.out).mono ?_; rintro e w3 ⟨Ai, ni, ci, u, rfl, h3⟩; have HB3 := hid (HB2.out.trans (h3.out.2.2.1.mono HB2.out.size)))
    | (go_at_call 72; refine (HCl.out _ HB3.out).mono ?_; rintro e w4 ⟨Ab, nb, cb, rfl, h4⟩; have HB4 := hid (HB3.out.trans (h4.out.2.mono HB3.out.size))))
  go_ret2
  have hb4 := h4.out.2
  have hbn := below_new w4 (.cells #[.slice Ab nb cb, .slice Ai ni ci, .int .i64 0] 92)
  have hE4 := (h3.out.1.below hb4)
  refine ⟨w4.heap.size, _, _, u, rfl, HB4.out.trans (hbn.mono HB4.out.size), HB4.out.size, Blk.new _ _ _, ?_, (hE4.below hbn).le HB2.out.size, ?_, h3.out.2.2.2, fun i p hp => ?_⟩
  · exact (sx_any (row_sx h4.out.1) (Nat.le_refl _)).below hbn
  · intro g hg e
    have := (World.ownsRow.lt hE4 g hg).2
    omega
  · exact ((sla_sx ((h3.out.2.1 i p hp).below hb4) headK_pos w4.heap.size (Nat.le_refl _))).below hbn
end Go.Proofs.YtjbjdkginemedaaGreatDoor

/- A table that Open has made: Row, From, Cells, Blocks and Looked of it. Conditions: right cells in order, 120 at most; the tables of utf8 read as they are laid. -/
namespace Go.Proofs.YtjbjdkginemedaaGreatDoor
open Go.RowKit

/-- Parts as Build makes them. -/
structure Pt9 (ps : List (List CT)) : Prop where
  cut : Cut9 ps
  bc : ∀ p ∈ ps, ∀ x ∈ p, Bc x
  n : ps.length ≤ 120
  l : ∀ p ∈ ps, p.length ≤ 120
  ix : (listM (idxL 0 ps)).length ≤ 16000
  pl : (blkF ps).length ≤ 40000
  sum : ps.flatten.length ≤ 120
theorem Tb9.vi {w W : World} {t k : Nat} {vb vi : Value} {ps : List (List CT)} {u : Nat → Value} (h : Tb9 w W t vb vi ps u k) : ∃ A cap, vi = .slice A ps.length cap ∧ ps.length ≤ cap ∧ (0 < ps.length → ∃ g, A = some ⟨g, 0, none⟩ ∧ g ≠ t ∧ HE W g 0 (esL ps u)) := by
  obtain ⟨A, cap, e, h1, _, h3⟩ := h.ix.len
  rw [esL_len] at e h1 h3
  refine ⟨A, cap, e, h1, fun h0 => ?_⟩
  obtain ⟨g, rfl, _, _⟩ := h3 h0
  have hi := h.ix
  rw [e] at hi
  exact ⟨g, rfl, h.ne g (by rw [e]; rfl), hi.he⟩
theorem Tb9.gt {w W W' : World} {t k k' : Nat} {vb vi v : Value} {ps : List (List CT)} {u : Nat → Value} {l : List CT} (h : Tb9 w W t vb vi ps u k) (hg : Gt W W' t vb vi k' v l) : Tb9 w W' t vb vi ps u k' := h.looked hg.but hg.tb
section
variable {w W : World} {t k : Nat} {vb vi : Value} {ps : List (List CT)} {u : Nat → Value}
theorem Tb9.hl (h : Tb9 w W t vb vi ps u k) (hp : Pt9 ps) (hk : k < 4611686018427387904 - 1000) (hL : LaidU w) : ∀ W' i j x p, (esL ps u)[i]? = some x → ps[i]? = some p → j ≤ k + i → But W.heap.size t W W' → Blk W' t 92 #[vb, vi, .int .i64 (j : Int)] → Calls Tryz.prog 135 #[.pointer (some ⟨t, 0, none⟩), .agg x.e.toArray] W' fun e w' => ∃ v, e = .returned (.tuple #[v, .bool true]) ∧ But W'.heap.size t W' w' ∧ Blk w' t 92 #[vb, vi, .int .i64 ((j + 1 : Nat) : Int)] ∧ CRow w' W'.heap.size v p := fun W' i j x p hx hpp hj hb hbl => by
  have h2 := h.looked hb hbl
  have hi := (List.getElem?_eq_some_iff.1 hpp).1
  have hn := hp.n
  exact look9 h2 hp.cut hp.bc hp.l (by have := hp.pl; omega) (by omega) (fun W2 hW2 => hL.below (h2.bel.trans ((hW2.mono h2.bel.size).below h2.ge))) i x p hx hpp
/-- All cells. -/
theorem cells9 (h : Tb9 w W t vb vi ps u k) (hp : Pt9 ps) (hk : k < 1000000) (hL : LaidU w) :
    Calls Tryz.prog 30 #[.pointer (some ⟨t, 0, none⟩)] W fun e w' => ∃ v, e = .returned (.tuple #[v, .int .i64 0]) ∧ CRow w' W.heap.size v ps.flatten ∧ Tb9 w w' t vb vi ps u (k + ps.length) := by
  have hl := h.hl hp (by omega) hL
  obtain ⟨A, cap, rfl, h1, h2⟩ := h.vi
  refine (cells_any9 t vb A ps.length cap (by have := hp.n; omega) k (esL ps u) ps (esL_len ps u) rfl ?_ (by have := hp.sum; omega) W h.blk (fun h0 => ?_) hl).mono fun e w' ⟨v, e1, e2⟩ => ⟨v, e1, e2.row, h.gt e2⟩
  · intro x hx
    obtain ⟨i, hi, e⟩ := List.mem_iff_getElem.1 hx
    have hi2 : i < ps.length := by rw [esL_len] at hi; exact hi
    have h4 := esL_at (u := u) (List.getElem?_eq_getElem hi2)
    rw [List.getElem?_eq_getElem hi, e] at h4
    obtain rfl := Option.some.inj h4
    obtain ⟨A1, c1, e1, _⟩ := h.ky i _ (List.getElem?_eq_getElem hi2)
    exact ⟨A1, _, c1, e1⟩
  · obtain ⟨g, e1, e2, e3⟩ := h2 h0
    exact ⟨g, 0, e1, e2, e3⟩
theorem Tb9.keys (h : Tb9 w W t vb vi ps u k) : ∀ x ∈ esL ps u, ∃ Au ku cu, x.u = .slice Au ku cu := fun x hx => by
  obtain ⟨i, hi, e⟩ := List.mem_iff_getElem.1 hx
  have hi2 : i < ps.length := by rw [esL_len] at hi; exact hi
  have h4 := esL_at (u := u) (List.getElem?_eq_getElem hi2)
  rw [List.getElem?_eq_getElem hi, e] at h4
  obtain rfl := Option.some.inj h4
  obtain ⟨A1, c1, e1, _⟩ := h.ky i _ (List.getElem?_eq_getElem hi2)
  exact ⟨A1, _, c1, e1⟩
/-- A row's cells. -/
theorem row9 (h : Tb9 w W t vb vi ps u k) (hp : Pt9 ps) (hk : k < 1000000) (hL : LaidU w) (row : ByteArray) (hrow : row.size ≤ 1000) :
    Calls Tryz.prog 32 #[.pointer (some ⟨t, 0, none⟩), .string row] W fun e w' => ∃ v m1 m2, e = .returned (.tuple #[v, .int .i64 0]) ∧ At9 (abvP ps (firstL row.data.toList)) ps.length m1 ∧ At9 (behP ps (firstL row.data.toList)) ps.length m2 ∧ CRow w' W.heap.size v (ps.flatten.filter (rowF row)) ∧ Tb9 w w' t vb vi ps u (k + (m2 - (m1 - 1))) := by
  have hl := h.hl hp (by omega) hL
  obtain ⟨A, cap, e, h1, h2⟩ := h.vi
  rcases Nat.eq_zero_or_pos ps.length with h0 | h0
  · have hnil : ps = [] := List.eq_nil_of_length_eq_zero h0
    have hvi := h.nil hnil
    have hb := h.blk
    rw [hvi] at hb
    refine (row_nil9 t vb row hrow k W hb).mono fun e w' ⟨v, e1, e2⟩ => ⟨v, 0, 0, e1, ⟨Nat.zero_le _, fun i hi => by omega, fun hi => by omega⟩, ⟨Nat.zero_le _, fun i hi => by omega, fun hi => by omega⟩, ?_, ?_⟩
    · rw [hnil]; exact e2.row
    · rw [← hvi] at e2; exact h.gt e2
  · obtain ⟨g, e2, e3, e4⟩ := h2 h0
    rw [e2] at e
    subst e
    have h5 := row_any9 t vb g 0 ps.length cap (by have := hp.n; omega) h0 h1 e3 row hrow k (esL ps u) ps (esL_len ps u) rfl hp.cut (by have := hp.sum; omega) W (fun i x p hx hpp => by
      rw [esL_at hpp] at hx
      obtain rfl := Option.some.inj hx
      refine ⟨h.ky i p hpp, ?_⟩
      obtain ⟨d, tl, rfl, e7, _⟩ := head_cell hp.cut hpp
      have h8 := bc_tight (hp.bc _ (List.mem_of_getElem? hpp) d List.mem_cons_self)
      show (keyL d).length ≤ _
      omega) h.blk e4 hl
    exact h5.mono fun e w' ⟨v, m1, m2, q1, q2, q3, q4⟩ => ⟨v, m1, m2, q1, q2, q3, q4.row, h.gt q4⟩
/-- The first cells from a place on. -/
theorem from9 (h : Tb9 w W t vb vi ps u k) (hp : Pt9 ps) (hk : k < 1000000) (hL : LaidU w) (most : Int) (c : CT) :
    Calls Tryz.prog 33 #[.pointer (some ⟨t, 0, none⟩), c.v, .int .i64 most] W fun e w' => ∃ v m, e = .returned (.tuple #[v, .int .i64 0]) ∧ At9 (froP ps c) ps.length m ∧ CRow w' W.heap.size v (gath (fun x => decide (0 ≤ CT.cmp x c)) most (ps.drop (m - 1)) []).1 ∧ Tb9 w w' t vb vi ps u (k + (gath (fun x => decide (0 ≤ CT.cmp x c)) most (ps.drop (m - 1)) []).2) := by
  have hl := h.hl hp (by omega) hL
  obtain ⟨A, cap, e, h1, h2⟩ := h.vi
  rcases Nat.eq_zero_or_pos ps.length with h0 | h0
  · have hnil : ps = [] := List.eq_nil_of_length_eq_zero h0
    have hvi := h.nil hnil
    have hb := h.blk
    rw [hvi] at hb
    refine (from_nil9 t vb most c k W hb).mono fun e w' ⟨v, e1, e2⟩ => ⟨v, 0, e1, ⟨Nat.zero_le _, fun i hi => by omega, fun hi => by omega⟩, ?_, ?_⟩
    · rw [hnil]; exact e2.row
    · rw [← hvi] at e2
      have h' := h.gt e2
      rw [hnil] at h' ⊢
      exact h'
  · obtain ⟨g, e2, e3, e4⟩ := h2 h0
    rw [e2] at e
    subst e
    have h5 := from_any9 t vb g 0 ps.length cap (by have := hp.n; omega) h0 h1 e3 most c k (esL ps u) ps (esL_len ps u) rfl h.keys (by have := hp.sum; omega) W (froP ps c) (fun i x hx => by
      have hi : i < ps.length := by have := (List.getElem?_eq_some_iff.1 hx).1; rw [esL_len] at this; exact this
      have hpp : ps[i]? = some ps[i] := List.getElem?_eq_getElem hi
      rw [esL_at hpp] at hx
      obtain rfl := Option.some.inj hx
      exact fro_some hpp) (fro_mono hp.cut c rfl) h.blk e4 hl
    exact h5.mono fun e w' ⟨v, m, q1, q2, q4⟩ => ⟨v, m, q1, q2, q4.row, h.gt q4⟩
end
end Go.Proofs.YtjbjdkginemedaaGreatDoor

/- Layer 9's laws: what they have in common; the parts of sorted cells; alive's fixed cells. Conditions: as each theorem names them. -/
namespace Go.Proofs.YtjbjdkginemedaaGreatDoor
open Go.RowKit

theorem pt9_of {s : List CT} (hl : s.length ≤ 120) (hbc : ∀ c ∈ s, Bc c) (hf : fineK [] s = true) : Pt9 (cutL 256 s) ∧ (cutL 256 s).flatten = s := by
  obtain ⟨hcut, hflat⟩ := cut9_of (by omega) hf
  obtain ⟨ps, hps⟩ : ∃ ps, cutL 256 s = ps := ⟨_, rfl⟩
  rw [hps] at hcut hflat ⊢
  have hmem : ∀ p ∈ ps, ∀ c ∈ p, Bc c := fun p hp c hc => hbc c (by rw [← hflat]; exact List.mem_flatten.2 ⟨p, hp, hc⟩)
  have hpl : ∀ p ∈ ps, p.length ≤ 120 := fun p hp => by
    have h2 : p.length ≤ ps.flatten.length := (List.sublist_flatten_of_mem hp).length_le
    rw [hflat] at h2
    omega
  have hn : ps.length ≤ 120 := by
    have h2 : ∀ (qs : List (List CT)), (∀ p ∈ qs, 0 < p.length) → qs.length ≤ qs.flatten.length := by
      intro qs
      induction qs with
      | nil => intro _; exact Nat.le_refl _
      | cons p qs ih =>
        intro hq
        have h3 := hq p List.mem_cons_self
        have h4 := ih fun q hq2 => hq q (List.mem_cons_of_mem _ hq2)
        rw [List.flatten_cons, List.length_append, List.length_cons]
        omega
    have h5 := h2 ps hcut.pos
    rw [hflat] at h5
    omega
  have hbl : (blkF ps).length ≤ 40000 := by
    have h1 := blkF_len ps hmem (fun p hp => by have := hpl p hp; omega)
    rw [hflat] at h1
    omega
  have hix := idx_len ps 0 hmem hcut.pos (by omega)
  refine ⟨⟨hcut, hmem, hn, hpl, ?_, hbl, by rw [hflat]; omega⟩, hflat⟩
  have h2 := numW_len9 (idxL 0 ps).length (by rw [idxL_len]; omega)
  have h3 := hix.1
  show (numW (idxL 0 ps).length ++ rowsM (idxL 0 ps)).length ≤ _
  rw [List.length_append]
  omega
set_option maxHeartbeats 1000000 in
theorem long9_any (v : Value) (l : List CT) (w : World) (h : ClA w v l) :
    Calls Tryz.prog 23 #[v] w fun e w' => e = .returned (.bool (longM 120 l)) ∧ Below w.heap.size w w' := by
  have HL := hid (longcells_at 120 v l w h)
  clear h
  go_enter Tryz.func23, Tryz.ntmps23
  go_wp2_with (go_at_call 37; refine HL.out.mono ?_; rintro e w5 ⟨rfl, hb5⟩)
  go_ret
  exact ⟨rfl, hb5⟩
set_option maxHeartbeats 1000000 in
theorem put9_any (r : ByteArray) (n : Int) (w : World) : Calls Tryz.prog 60 #[.string r, .int .i64 n] w fun e w' => e = .returned (.agg #[.string r, .string ⟨#[102]⟩, .string ⟨#[113]⟩, .int .i64 n, .int .i64 1, .int .i64 4, .int .i64 1, .string ⟨#[]⟩]) ∧ Below w.heap.size w w' := by
  go_enter Tryz.func60, Tryz.ntmps60
  go_wp2
  refine bodyPost_ret (v := (put8 r n).v) (by simp [results, Tryz.results60, go_sem, put8, CT.v, cellV]) rfl ?_
  exact ⟨rfl, below_new _ _⟩
theorem open_short (A : Option Addr) (n c : Nat) (hn : n < 8) (w : World) :
    Calls Tryz.prog 26 #[.slice A n c] w fun e w' => e = .returned (.tuple #[.pointer none, .int .i64 20]) ∧ w' = w := by
  have z1 : IntKind.i64.wrap ((n : Int) - 8) = (n : Int) - 8 := by rw [IntKind.wrap_i64]; omega
  have z2 : (n : Int) - 8 < 0 := by omega
  go_enter Tryz.func26, Tryz.ntmps26
  go_wp2
  go_ret2
  exact ⟨rfl, rfl⟩
abbrev rB8 : ByteArray := ⟨#[98]⟩
abbrev ps9 : List CT := [put8 rA8 2, put8 rA8 1, put8 rB8 1]
theorem put8b_sm (n : Int) : Sm (put8 rB8 n) := ⟨⟨by show (1 : Nat) ≤ _; omega, by show (0 : Nat) ≤ _; omega, by show inI 1; unfold inI; omega⟩, by show (1 : Nat) ≤ _; omega, by show (1 : Nat) ≤ _; omega, by show (1 : Nat) ≤ _; omega, by show (0 : Nat) ≤ _; omega⟩
theorem ps9_sm : ∀ c ∈ ps9, Sm c := fun c hc => by
  rcases List.mem_cons.1 hc with rfl | hc
  · exact put8_sm 2 (by unfold inI; omega)
  · rcases List.mem_cons.1 hc with rfl | hc
    · exact put8_sm 1 (by unfold inI; omega)
    · rw [List.mem_singleton.1 hc]; exact put8b_sm 1
theorem ps9_fine : fineK [] ps9 = true := by kernel_rfl
theorem ps9_bc : ∀ c ∈ ps9, Bc c := fun c hc => ⟨((fineK_iff _).1 ps9_fine).1 c hc, (ps9_sm c hc).1.2.2, by have := (ps9_sm c hc).2.2.2.2; omega⟩
theorem ps9_fit : fitN 256 ps9 = 3 := by kernel_rfl
theorem ps9_cut : cutL 256 ps9 = [ps9] := by
  rw [cutL_more 256 (show 0 < ps9.length by decide), ps9_fit]
  show ps9 :: cutL 256 [] = [ps9]
  rw [cutL_nil]
theorem ps9_pt : Pt9 [ps9] := by
  have := (pt9_of (s := ps9) (by decide) ps9_bc ps9_fine).1
  rwa [ps9_cut] at this
/-- Three cells in a new block. -/
theorem three_cla (W : World) (a b c : CT) : ClA (W.alloc (.cells #[.string a.r, .string a.f, .string a.q, .int .i64 a.t, .int .i64 a.k, .int .i64 a.vk, .int .i64 a.vn, .string a.s, .string b.r, .string b.f, .string b.q, .int .i64 b.t, .int .i64 b.k, .int .i64 b.vk, .int .i64 b.vn, .string b.s, .string c.r, .string c.f, .string c.q, .int .i64 c.t, .int .i64 c.k, .int .i64 c.vk, .int .i64 c.vn, .string c.s] 26)) (.slice (some ⟨W.heap.size, 0, none⟩) 3 3) [a, b, c] := by
  refine ⟨_, 3, rfl, Nat.le_refl _, by omega, fun _ => ⟨W.heap.size, 0, rfl, fun i hi j hj => ?_⟩⟩
  rw [Nat.zero_add, (Blk.new W _ _).cell]
  have hi2 : i < 3 := hi
  obtain rfl | rfl | rfl : i = 0 ∨ i = 1 ∨ i = 2 := by omega
  all_goals
    obtain rfl | rfl | rfl | rfl | rfl | rfl | rfl | rfl : j = 0 ∨ j = 1 ∨ j = 2 ∨ j = 3 ∨ j = 4 ∨ j = 5 ∨ j = 6 ∨ j = 7 := by omega
    all_goals rfl
/-- What alive's Row and From find. -/
theorem ps9_row {m1 m2 : Nat} (h1 : At9 (abvP [ps9] (firstL rA8.data.toList)) 1 m1) (h2 : At9 (behP [ps9] (firstL rA8.data.toList)) 1 m2) : m2 - (m1 - 1) = 1 := by
  have e2 : behP [ps9] (firstL rA8.data.toList) 0 = false := by kernel_rfl
  have h3 : m2 = 1 := by
    rcases Nat.lt_or_ge m2 1 with q | q
    · have e0 : m2 = 0 := by omega
      have h5 := h2.2.2 q
      rw [e0, e2] at h5
      cases h5
    · have := h2.1; omega
  have := h1.1
  omega
theorem ps9_rows : ([ps9].flatten.filter (rowF rA8)) = [put8 rA8 2, put8 rA8 1] := by kernel_rfl
theorem ps9_from {m : Nat} (h : At9 (froP [ps9] (put8 rA8 1)) 1 m) : m - 1 = 0 := by have := h.1; omega
theorem ps9_gath : gath (fun x => decide (0 ≤ CT.cmp x (put8 rA8 1))) 1 [ps9] [] = ([put8 rA8 1], 1) := by kernel_rfl
end Go.Proofs.YtjbjdkginemedaaGreatDoor

/- The fixed part of layer 9's laws: alive. Conditions: the tables of utf8 read as they are laid. -/
namespace Go.Proofs.YtjbjdkginemedaaGreatDoor
open Go.RowKit

set_option maxHeartbeats 8000000 in
set_option maxRecDepth 100000 in
theorem alive9_any (w : World) (hL : LaidU w) : Calls Tryz.prog 22 #[] w fun e w' => e = .returned (.bool true) ∧ Below w.heap.size w w' := by
  have mixed : Tryz.prog.follows .mixedOrders = true := by kernel_rfl
  have HP := hid put9_any
  have HBu : Hid (∀ W, Below w.heap.size w W → Calls Tryz.prog 24 #[.slice (some ⟨W.heap.size, 0, none⟩) 3 3] (W.alloc (.cells #[.string rA8, .string ⟨#[102]⟩, .string ⟨#[113]⟩, .int .i64 2, .int .i64 1, .int .i64 4, .int .i64 1, .string ⟨#[]⟩, .string rA8, .string ⟨#[102]⟩, .string ⟨#[113]⟩, .int .i64 1, .int .i64 1, .int .i64 4, .int .i64 1, .string ⟨#[]⟩, .string rB8, .string ⟨#[102]⟩, .string ⟨#[113]⟩, .int .i64 1, .int .i64 1, .int .i64 4, .int .i64 1, .string ⟨#[]⟩] 26)) fun e w' => ∃ A nb cap, e = .returned (.tuple #[.slice A nb cap, .bool true]) ∧ Hid (Below W.heap.size W w' ∧ SlA w' (.slice A nb cap) (tabB [ps9]))) := fun W hW => by
    have hc := three_cla W (put8 rA8 2) (put8 rA8 1) (put8 rB8 1)
    have hb0 := below_new W (.cells #[.string rA8, .string ⟨#[102]⟩, .string ⟨#[113]⟩, .int .i64 2, .int .i64 1, .int .i64 4, .int .i64 1, .string ⟨#[]⟩, .string rA8, .string ⟨#[102]⟩, .string ⟨#[113]⟩, .int .i64 1, .int .i64 1, .int .i64 4, .int .i64 1, .string ⟨#[]⟩, .string rB8, .string ⟨#[102]⟩, .string ⟨#[113]⟩, .int .i64 1, .int .i64 1, .int .i64 4, .int .i64 1, .string ⟨#[]⟩] 26)
    refine (tbuild_any _ ps9 (by decide) _ hc ps9_sm (hL.below (hW.trans (hb0.mono hW.size)))).mono fun e w' ⟨hb, hx⟩ => ?_
    unfold TbEnd at hx
    rw [if_pos ps9_fine, ps9_cut] at hx
    obtain ⟨v', he, hr⟩ := hx
    obtain ⟨A, c, rfl, _⟩ := id hr.sla
    exact ⟨A, _, c, he, hb0.trans (hb.mono (by simp)), hr.sla⟩
  have HOp : Hid (∀ W v, Below w.heap.size w W → SlA W v (tabB [ps9]) → Calls Tryz.prog 26 #[v] W fun e w' => ∃ t vb vi u, e = .returned (.tuple #[.pointer (some ⟨t, 0, none⟩), .int .i64 0]) ∧ Hid (Tb9 W w' t vb vi [ps9] u 0)) := fun W v hW hs =>
    topen_any v [ps9] ps9_pt.cut ps9_pt.bc ps9_pt.n ps9_pt.ix ps9_pt.pl W hs (hL.below hW)
  have HRo : Hid (∀ W wb t vb vi u, Below w.heap.size w wb → Tb9 wb W t vb vi [ps9] u 0 → Calls Tryz.prog 32 #[.pointer (some ⟨t, 0, none⟩), .string rA8] W fun e w' => ∃ A c, e = .returned (.tuple #[.slice A 2 c, .int .i64 0]) ∧ Hid (Tb9 wb w' t vb vi [ps9] u 1)) := fun W wb t vb vi u hW h => by
    refine (row9 h ps9_pt (by omega) (hL.below hW) rA8 (by decide)).mono fun e w' ⟨v, m1, m2, e1, e2, e3, e4, e5⟩ => ?_
    rw [ps9_row e2 e3] at e5
    rw [ps9_rows] at e4
    obtain ⟨A, c, rfl, _⟩ := e4.len
    exact ⟨A, c, e1, e5⟩
  have HFr : Hid (∀ W wb t vb vi u, Below w.heap.size w wb → Tb9 wb W t vb vi [ps9] u 1 → Calls Tryz.prog 33 #[.pointer (some ⟨t, 0, none⟩), .agg #[.string rA8, .string ⟨#[102]⟩, .string ⟨#[113]⟩, .int .i64 1, .int .i64 1, .int .i64 4, .int .i64 1, .string ⟨#[]⟩], .int .i64 1] W fun e w' => ∃ g c, e = .returned (.tuple #[.slice (some ⟨g, 0, none⟩) 1 c, .int .i64 0]) ∧ Hid (HC w' g 0 [put8 rA8 1] ∧ Tb9 wb w' t vb vi [ps9] u 2)) := fun W wb t vb vi u hW h => by
    refine (from9 h ps9_pt (by omega) (hL.below hW) 1 (put8 rA8 1)).mono fun e w' ⟨v, m, e1, e2, e4, e5⟩ => ?_
    rw [ps9_from e2, List.drop_zero, ps9_gath] at e4 e5
    obtain ⟨A, c, rfl, _⟩ := e4.len
    obtain ⟨g, rfl⟩ := e4.form (by decide)
    exact ⟨g, c, e1, e4.hc, e5⟩
  have HSh : Hid (∀ W A c, Calls Tryz.prog 26 #[.slice A 1 c] W fun e w' => e = .returned (.tuple #[.pointer none, .int .i64 20]) ∧ w' = W) := fun W A c => open_short A 1 c (by omega) W
  have HBk : Hid (∀ W wb t vb vi u, Tb9 wb W t vb vi [ps9] u 2 → Calls Tryz.prog 35 #[.pointer (some ⟨t, 0, none⟩)] W fun e w' => e = .returned (.int .i64 1) ∧ w' = W) := fun W wb t vb vi u h => by
    obtain ⟨A, cap, rfl, _⟩ := h.vi
    exact blocks_any t vb A _ cap _ W h.blk
  have HLk : Hid (∀ W wb t vb vi u, Tb9 wb W t vb vi [ps9] u 2 → Calls Tryz.prog 34 #[.pointer (some ⟨t, 0, none⟩)] W fun e w' => e = .returned (.int .i64 2) ∧ w' = W) := fun W wb t vb vi u h => looked_any t vb vi _ W h.blk
  have H0 : Hid (Below w.heap.size w w) := Below.refl _ _
  clear hL
  go_enter Tryz.func22, Tryz.ntmps22
  go_upto_region 7 with (first
    | (go_at_call 60; refine (HP.out _ _ _).mono ?_; rintro e w5 ⟨rfl, hb5⟩; first | (have HT := hid (HT.out.below hb5); clear hb5) | (have H0 := hid (Below.trans H0.out (hb5.mono H0.out.size)); clear hb5))
    | (go_at_call 24; refine (HBu.out _ H0.out).mono ?_; rintro e w6 ⟨A, nb, cap, rfl, H6⟩; have H0 := hid (H0.out.trans (H6.out.1.mono H0.out.size)); have HS6 := hid H6.out.2; clear H6)
    | (go_at_call 26; have hq := HOp.out _ _ H0.out HS6.out; refine hq.mono ?_; clear hq; rintro e w7 ⟨t, vb, vi, u, rfl, H7⟩; have HT := hid H7.out; clear H7)
    | (go_at_call 32; have hq := HRo.out _ _ _ _ _ _ H0.out HT.out; refine hq.mono ?_; clear hq; rintro e w8 ⟨A8, c8, rfl, h8⟩; have HT := hid h8.out; clear h8)
    | (go_at_call 33; have hq := HFr.out _ _ _ _ _ _ H0.out HT.out; refine hq.mono ?_; clear hq; rintro e w9 ⟨g, c9, rfl, h9⟩; have HT := hid h9.out.2; have HC9 := hid h9.out.1; clear h9))
  have HS8 : Hid (∀ W, Calls Tryz.prog 26 #[.slice (some ⟨w9.heap.size, 0, none⟩) 1 1] W fun e w' => e = .returned (.tuple #[.pointer none, .int .i64 20]) ∧ w' = W) := fun W => HSh.out W _ _
  clear HSh HOp HRo HFr HBu
  have HX9 := hid (HT.out.below (below_new w9 (.cells #[.int .u8 1] 5)))
  go_upto_region 8 with (go_at_call 26; refine (HS8.out _).mono ?_; rintro e w10 ⟨rfl, rfl⟩)
  obtain ⟨W9, hW9⟩ : ∃ W9, w9.alloc (.cells #[.int .u8 1] 5) = W9 := ⟨_, rfl⟩
  have HC := hid (HC9.out.below (below_new w9 (.cells #[.int .u8 1] 5)) (HC9.out.lt (by decide)))
  rw [hW9] at HX9 HC ⊢
  clear hW9 HS8 HC9 HT HS6
  have hg : g < W9.heap.size := HC.out.lt (by decide)
  have P := ct_words HC.out 0 (c := put8 rA8 1) rfl
  have HS : Hid (SingW W9 g 0 (put8 rA8 1) W9) := ⟨hid ⟨Below.refl _ _, hg⟩, P⟩
  obtain ⟨-, a0, a1, a2, a3, a4, a5, a6, a7⟩ := (show SingW W9 g 0 (put8 rA8 1) W9 from HS.out)
  have HTb : Hid (∀ W, SingW W9 g 0 (put8 rA8 1) W → Tb9 w6 W t vb vi [ps9] u 2) := fun W h => HX9.out.below h.1.out.1
  clear P hg
  go_region_held3 (fun W' => Hid (Below W9.heap.size W9 W' ∧ g < W9.heap.size) ∧ (W'.cell? ⟨g, 0, none⟩ = some (.string rA8) ∧ W'.cell? ⟨g, 1, none⟩ = some (.string ⟨#[102]⟩) ∧ W'.cell? ⟨g, 2, none⟩ = some (.string ⟨#[113]⟩) ∧ W'.cell? ⟨g, 3, none⟩ = some (.int .i64 1) ∧ W'.cell? ⟨g, 4, none⟩ = some (.int .i64 1) ∧ W'.cell? ⟨g, 5, none⟩ = some (.int .i64 4) ∧ W'.cell? ⟨g, 6, none⟩ = some (.int .i64 1) ∧ W'.cell? ⟨g, 7, none⟩ = some (.string ⟨#[]⟩)))
    (first | exact sing_drew HS.out | exact F10.out | exact HS.out | assumption)
    (first
      | (go_at_call 60; refine (HP.out _ _ _).mono ?_; rintro e w10 ⟨rfl, hb10⟩; have F10 := hid (sing_call (sing_drew HS.out) hb10))
      | (go_at_call 35; have hq := HBk.out _ _ _ _ _ _ (HTb.out _ F10.out); refine hq.mono ?_; clear hq; rintro e w11 ⟨rfl, rfl⟩)
      | (go_at_call 34; have hq := HLk.out _ _ _ _ _ _ (HTb.out _ F10.out); refine hq.mono ?_; clear hq; rintro e w12 ⟨rfl, rfl⟩))
  rename_i hLast
  have hb9 := (HTb.out _ hLast).bel
  clear hLast HS a0 a1 a2 a3 a4 a5 a6 a7 HBk HLk HP F10
  have HB := hid (H0.out.trans (hb9.mono H0.out.size))
  clear hb9
  go_wp2
  go_ret
  exact ⟨rfl, HB.out⟩
end Go.Proofs.YtjbjdkginemedaaGreatDoor
