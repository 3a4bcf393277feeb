/- The filter's New and Apply. Conditions: the filter's texts and the cells stand; a hundred thousand cells at most; the tables of utf8 read as they are laid. -/
import Derived.Test.YtgfkobfkncpmoaaDoorFtK
namespace Go.Proofs.YtgfkobfkncpmoaaDoor
open Go.RowKit

/-- What New answers. -/
def NwF (w : World) (f : FT) (e : Ending) (w' : World) : Prop := ∃ sb u', e = .returned (.pointer (some ⟨sb, 0, none⟩)) ∧ Hid (Blk w' sb 161 (SV.nil9.a f u') ∧ TxA w' u' f.fams ∧ (∀ g, u'.ownBlock = some g → w.heap.size ≤ g ∧ g < sb) ∧ Below w.heap.size w w' ∧ w.heap.size ≤ sb)
set_option maxRecDepth 100000 in
set_option maxHeartbeats 4000000 in
theorem new13_any (u : Value) (f : FT) (hl : f.fams.length ≤ 1000000) (w : World) (h : TxA w u f.fams) :
    Calls Tryd.prog 72 #[f.v u] w fun e w' => NwF w f e w' := by
  have HCl : Hid (∀ W, Below w.heap.size w W → Calls Tryd.prog 64 #[f.v u] W fun e w' => ClE W f e w') := fun W hW => clone13_any u f hl W (h.below hW)
  clear h hl
  go_enter Tryd.func72, Tryd.ntmps72
  go_wp2_with (first | (go_at_call 64; refine (HCl.out _ (below_new w _)).mono ?_; rintro e W2 ⟨u2, rfl, H2⟩))
  go_ret
  have hb := (below_new w (.cells #[u, .string f.fr, .string f.tq, .int .i64 f.si, .int .i64 f.un, .int .i64 f.ve, .int .i64 f.ro] 82)).trans (H2.out.2.2.mono (below_new w _).size)
  exact ⟨W2.heap.size, u2, rfl, Blk.new W2 _ _, H2.out.1.below (below_new W2 _), fun g hg => ⟨by have := (H2.out.2.1 g hg).1; simp at this; omega, (H2.out.2.1 g hg).2⟩, hb.trans ((below_new W2 _).mono hb.size), hb.size⟩

theorem stF_le (F : FT) : ∀ (l : List CT) (s : SV), (stF F s l).tk ≤ s.tk + l.length ∧ (stF F s l).rw9 ≤ s.rw9 + l.length
  | [], s => ⟨Nat.le_refl _, Nat.le_refl _⟩
  | c :: t, s => by
    have h := stF_le F t (s.go9 F c)
    have h1 : (s.go9 F c).tk ≤ s.tk + 1 := by
      have : (s.mv c).tk ≤ s.tk := by show (if _ then _ else _) ≤ _; split <;> omega
      unfold SV.go9
      split
      · show (s.mv c).tk + 1 ≤ _; omega
      · omega
    have h2 : (s.go9 F c).rw9 ≤ s.rw9 + 1 := by
      have : (s.mv c).rw9 = s.rw9 := rfl
      unfold SV.go9
      split
      · by_cases ha : (s.mv c).an = true
        · rw [show ((s.mv c).tkn).rw9 = (s.mv c).rw9 by unfold SV.tkn; rw [ha]; rfl]; omega
        · rw [show ((s.mv c).tkn).rw9 = (s.mv c).rw9 + 1 by show (if (s.mv c).an = true then (s.mv c).rw9 else (s.mv c).rw9 + 1) = _; rw [if_neg ha]]; omega
      · omega
    show (stF F (s.go9 F c) t).tk ≤ _ ∧ (stF F (s.go9 F c) t).rw9 ≤ _
    rw [List.length_cons]
    omega
/-- Where Apply stands. -/
structure ApS (w W : World) (sb : Nat) (u : Value) (F : FT) (s : SV) (v : Value) (out : List CT) : Prop where
  bl : Blk W sb 161 (s.a F u)
  tx : TxA W u F.fams
  un : ∀ g, u.ownBlock = some g → g < sb
  ro : CRow W (sb + 1) v out
  be : Below w.heap.size w W
  lo : w.heap.size ≤ sb
theorem ApS.below {w W W' : World} {sb : Nat} {u v : Value} {F : FT} {s : SV} {out : List CT} (h : ApS w W sb u F s v out) (hb : Below W.heap.size W W') : ApS w W' sb u F s v out :=
  ⟨h.bl.keep hb h.bl.lt, h.tx.below hb, h.un, h.ro.below hb, h.be.trans (hb.mono h.be.size), h.lo⟩
theorem crow_but13 {W W' : World} {sb B : Nat} {v : Value} {l : List CT} (h : CRow W B v l) (hb : But13 W.heap.size sb W W') (hB : sb < B) : CRow W' B v l := by
  refine ⟨h.1, ?_⟩
  rcases h.2 with h2 | ⟨g, cap, cur, rfl, h1, hh, hrest⟩
  · exact .inl h2
  · refine .inr ⟨g, cap, cur, rfl, h1, ?_, hrest⟩
    rw [hb.block g (by rcases Nat.lt_or_ge g W.heap.size with h' | h'
                       · exact h'
                       · rw [Array.getElem?_eq_none h'] at hh; cases hh) (by omega)]
    exact hh
theorem ApS.take {w W W' : World} {sb : Nat} {u v : Value} {F : FT} {s s2 : SV} {out : List CT} (h : ApS w W sb u F s v out) (hm : MV W sb W' (s2.a F u)) : ApS w W' sb u F s2 v out :=
  ⟨hm.b, h.tx.but hm.o (Nat.le_refl _) (fun g hg => by have := h.un g hg; omega), h.un, crow_but13 h.ro hm.o (by omega), h.be.trans ((hm.o.mono h.be.size).below h.lo), h.lo⟩
theorem ApS.app {w W W' : World} {sb : Nat} {u v v2 : Value} {F : FT} {s : SV} {out : List CT} {c : CT} (h : ApS w W sb u F s v out) (hr : CRow W' (sb + 1) v2 (out ++ [c])) (hb : Below (sb + 1) W W') : ApS w W' sb u F s v2 (out ++ [c]) :=
  ⟨h.bl.keep hb (by omega), by
    obtain ⟨A, c, e, h1, h2, hh⟩ := h.tx
    refine ⟨A, c, e, h1, h2, fun h0 => ?_⟩
    obtain ⟨b, off, e2, hc⟩ := hh h0
    have hl := h.un b (by rw [e, e2]; rfl)
    exact ⟨b, off, e2, fun i x hx => (hb.cell (p := ⟨b, off + i, none⟩) (show b < sb + 1 by omega)).trans (hc i x hx)⟩, h.un, hr, h.be.trans (hb.mono (by have := h.lo; omega)), h.lo⟩
theorem ap_take (F : FT) (l : List CT) {i : Nat} {c : CT} (hc : l[i]? = some c) : apF F SV.nil9 (l.take (i + 1)) = (if (stF F SV.nil9 (l.take i)).ok F c = true then apF F SV.nil9 (l.take i) ++ [c] else apF F SV.nil9 (l.take i)) ∧ stF F SV.nil9 (l.take (i + 1)) = (stF F SV.nil9 (l.take i)).go9 F c := by
  have e1 : l.take (i + 1) = l.take i ++ [c] := by rw [List.take_add_one, hc]; rfl
  rw [e1]
  exact ⟨apF_snoc F c _ _, stF_snoc F _ _ c⟩
theorem ap_done (F : FT) (l : List CT) (i : Nat) (h : (stF F SV.nil9 (l.take i)).dn F = true) : apF F SV.nil9 l = apF F SV.nil9 (l.take i) := by
  have h1 := apF_app F (l.take i) (l.drop i) SV.nil9
  rw [List.take_append_drop, dn_stop _ _ h, List.append_nil] at h1
  exact h1
/-- What Apply answers. -/
def apL (F : FT) (l : List CT) : List CT := if F.right = true then apF F SV.nil9 l else []
theorem apF_len (F : FT) : ∀ (l : List CT) (s : SV), (apF F s l).length ≤ l.length
  | [], _ => Nat.le_refl _
  | c :: t, s => by
    have := apF_len F t (s.go9 F c)
    show (if s.ok F c = true then c :: apF F (s.go9 F c) t else apF F (s.go9 F c) t).length ≤ _
    split
    · rw [List.length_cons, List.length_cons]; omega
    · rw [List.length_cons]; omega
set_option maxRecDepth 100000 in
set_option maxHeartbeats 16000000 in
theorem apply13_any (u v : Value) (f : FT) (l : List CT) (hs : ∀ x ∈ f.fams, x.size ≤ 9223372036854775807) (hl : f.fams.length ≤ 1000000) (hn : l.length ≤ 90000) (w : World) (h : TxA w u f.fams) (hv : ClA w v l) (hL : LaidU w) :
    Calls Tryd.prog 69 #[f.v u, v] w fun e w' => ∃ v', e = .returned v' ∧ CRow w' w.heap.size v' (apL f l) ∧ Below w.heap.size w w' := by
  have HRi : Hid (∀ W, Below w.heap.size w W → Calls Tryd.prog 65 #[f.v u] W fun e w' => e = .returned (.bool f.right) ∧ Below W.heap.size W w') := fun W hW => right13_any u f hs W (h.below hW) (hL.below hW)
  have HNw : Hid (∀ W, Below w.heap.size w W → Calls Tryd.prog 72 #[f.v u] W fun e w' => NwF W f e w') := fun W hW => new13_any u f hl W (h.below hW)
  have HFw : Hid (∀ W, Below (w.heap.size + 1) (w.alloc (.cells #[u, .string f.fr, .string f.tq, .int .i64 f.si, .int .i64 f.un, .int .i64 f.ve, .int .i64 f.ro] 82)) W → W.cell? ⟨w.heap.size, 0, none⟩ = some u ∧ W.cell? ⟨w.heap.size, 1, none⟩ = some (.string f.fr) ∧ W.cell? ⟨w.heap.size, 2, none⟩ = some (.string f.tq) ∧ W.cell? ⟨w.heap.size, 3, none⟩ = some (.int .i64 f.si) ∧ W.cell? ⟨w.heap.size, 4, none⟩ = some (.int .i64 f.un) ∧ W.cell? ⟨w.heap.size, 5, none⟩ = some (.int .i64 f.ve) ∧ W.cell? ⟨w.heap.size, 6, none⟩ = some (.int .i64 f.ro)) := fun W hW => (FW.below (f := f) (u := u) (Blk.new w _ _) (by simpa using hW)).words
  have HAp : Hid (apL f l = if f.right = true then apF f SV.nil9 l else []) := rfl
  have HV := hid hv
  obtain ⟨A0, c0, rfl, k1, k2, hh⟩ := hv
  have HH := hid hh
  obtain ⟨N, hN⟩ : ∃ N, l.length = N := ⟨_, rfl⟩
  have HN := hid hN
  rw [hN] at HV hn k1 ⊢
  obtain ⟨Lr, hLr⟩ : ∃ r, apL f l = r := ⟨_, rfl⟩
  rw [hLr] at HAp ⊢
  clear h hs hl hL hh hN hLr
  have hb0 := below_new w (.cells #[u, .string f.fr, .string f.tq, .int .i64 f.si, .int .i64 f.un, .int .i64 f.ve, .int .i64 f.ro] 82)
  have hz0 : (w.alloc (.cells #[u, .string f.fr, .string f.tq, .int .i64 f.si, .int .i64 f.un, .int .i64 f.ve, .int .i64 f.ro] 82)).heap.size = w.heap.size + 1 := by simp
  have HB0 := hid (And.intro hb0 hz0)
  have HRi1 := hid (HRi.out _ hb0)
  clear hb0 hz0 HRi
  go_enter Tryd.func69, Tryd.ntmps69
  cases hr : f.right with
  | false =>
    rw [hr] at HRi1 HAp
    obtain rfl : Lr = [] := by rw [HAp.out]; rfl
    go_wp2_with (first | (go_at_call 65; refine HRi1.out.mono ?_; rintro e W2 ⟨rfl, hb2⟩))
    go_ret
    exact ⟨.slice none 0 0, rfl, CRow.none _ _, HB0.out.1.trans (hb2.mono HB0.out.1.size)⟩
  | true =>
    rw [hr] at HRi1 HAp
    obtain rfl : Lr = apF f SV.nil9 l := by rw [HAp.out]; rfl
    clear hr HAp
    go_upto_region 4 with (first | (go_at_call 65; refine HRi1.out.mono ?_; rintro e W2 ⟨rfl, hb2⟩; obtain ⟨y0, y1, y2, y3, y4, y5, y6⟩ := HFw.out W2 (by rw [← HB0.out.2]; exact hb2)))
    have HB2 := hid (HB0.out.1.trans (hb2.mono HB0.out.1.size))
    have HNw2 := hid (HNw.out W2 HB2.out)
    clear hb2 HNw HRi1 HFw HB0
    go_upto_region 5 with (first | (go_at_call 72; refine HNw2.out.mono ?_; rintro e W3 ⟨sb, u2, rfl, H3⟩))
    have HS3 : Hid (ApS w W3 sb u2 f (stF f SV.nil9 (l.take 0)) (.slice none 0 0) (apF f SV.nil9 (l.take 0))) := by
      obtain ⟨h1, h2, h3, h4, h5⟩ := H3.out
      rw [List.take_zero]
      exact ⟨h1, h2, fun g hg => (h3 g hg).2, CRow.none _ _, HB2.out.trans (h4.mono HB2.out.size), Nat.le_trans HB2.out.size h5⟩
    clear H3 HNw2 y0 y1 y2 y3 y4 y5 y6
    go_wp2
    go_loopw [5, 16] (fun vo vi wr => ∃ (i : Nat) (vz : Value), i ≤ N ∧ vi = .int .i64 i ∧ vo = vz ∧ Hid (ApS w wr sb u2 f (stF f SV.nil9 (l.take i)) vz (apF f SV.nil9 (l.take i)))) (fun _ vi _ => N - (intOf vi).toNat)
    case atStart => exact ⟨0, _, Nat.zero_le _, rfl, rfl, HS3.out⟩
    case round =>
      clear HS3
      obtain ⟨i, vo, hi, rfl, hvo, HI⟩ := hrel
      have hvo2 := hvo.symm
      subst hvo2
      clear hvo
      by_cases hlt : i < N
      · have hltz : (i : Int) < (N : Int) := by omega
        obtain ⟨c, hc⟩ : ∃ c, l[i]? = some c := ⟨_, List.getElem?_eq_getElem (by rw [HN.out]; exact hlt)⟩
        obtain ⟨bb, off, rfl, hhc⟩ := HH.out (by rw [HN.out]; omega)
        obtain ⟨a0, a1, a2, a3, a4, a5, a6, a7⟩ := ct_words hhc i hc
        have x0 := (HI.out.be.cell (p := ⟨bb, _, none⟩) (cell_lt a0)).trans a0
        have x1 := (HI.out.be.cell (p := ⟨bb, _, none⟩) (cell_lt a0)).trans a1
        have x2 := (HI.out.be.cell (p := ⟨bb, _, none⟩) (cell_lt a0)).trans a2
        have x3 := (HI.out.be.cell (p := ⟨bb, _, none⟩) (cell_lt a0)).trans a3
        have x4 := (HI.out.be.cell (p := ⟨bb, _, none⟩) (cell_lt a0)).trans a4
        have x5 := (HI.out.be.cell (p := ⟨bb, _, none⟩) (cell_lt a0)).trans a5
        have x6 := (HI.out.be.cell (p := ⟨bb, _, none⟩) (cell_lt a0)).trans a6
        have x7 := (HI.out.be.cell (p := ⟨bb, _, none⟩) (cell_lt a0)).trans a7
        obtain ⟨e1, e2⟩ := ap_take f l hc
        have hle := stF_le f (l.take i) SV.nil9
        have hlt9 : (l.take i).length ≤ 90000 := by rw [List.length_take]; omega
        have hol : (apF f SV.nil9 (l.take i)).length ≤ 90000 := Nat.le_trans (apF_len f _ _) hlt9
        have hb1 : (stF f SV.nil9 (l.take i)).tk ≤ 90000 := by have := hle.1; have : SV.nil9.tk = 0 := rfl; omega
        have hb2 : (stF f SV.nil9 (l.take i)).rw9 ≤ 90000 := by have := hle.2; have : SV.nil9.rw9 = 0 := rfl; omega
        have HDn9 := hid (ap_done f l (i + 1))
        rw [e2] at HDn9
        have HE := hid (And.intro e1 e2)
        obtain ⟨M, hM⟩ : ∃ M, stF f SV.nil9 (l.take i) = M := ⟨_, rfl⟩
        rw [hM] at HI HE HDn9 hb1 hb2
        obtain ⟨O, hO⟩ : ∃ O, apF f SV.nil9 (l.take i) = O := ⟨_, rfl⟩
        rw [hO] at HI HE hol
        clear a0 a1 a2 a3 a4 a5 a6 a7 e1 e2 hle hlt9 hM hO hc hhc
        go_upto_region 8 with (fail)
        obtain ⟨cb, hcb⟩ : ∃ cb, wr.heap.size = cb := ⟨_, rfl⟩
        have H4 : Hid (ApS w (wr.alloc (.cells #[.string c.r, .string c.f, .string c.q, .int .i64 c.t, .int .i64 c.k, .int .i64 c.vk, .int .i64 c.vn, .string c.s] 28)) sb u2 f M vo O ∧ DW (wr.alloc (.cells #[.string c.r, .string c.f, .string c.q, .int .i64 c.t, .int .i64 c.k, .int .i64 c.vk, .int .i64 c.vn, .string c.s] 28)) cb c ∧ sb + 1 ≤ cb) := by
          rw [← hcb]
          exact ⟨HI.out.below (below_new wr _), Blk.new wr _ _, HI.out.bl.lt⟩
        rw [hcb]
        clear hcb HI x0 x1 x2 x3 x4 x5 x6 x7
        generalize wr.alloc (.cells #[.string c.r, .string c.f, .string c.q, .int .i64 c.t, .int .i64 c.k, .int .i64 c.vk, .int .i64 c.vn, .string c.s] 28) = W4 at H4 ⊢
        obtain ⟨y0, y1, y2, y3, y4, y5, y6, y7⟩ := H4.out.2.1.words
        have HTk := hid (take13_any f u2 M c sb W4 H4.out.1.bl H4.out.1.tx (fun g hg => by have := H4.out.1.un g hg; omega) (by omega) (by omega))
        cases hok : M.ok f c with
        | false =>
          rw [hok] at HTk HE
          go_upto_region 10 with (first | (go_at_call 73; refine HTk.out.mono ?_; rintro e W5 ⟨rfl, hM5⟩))
          have H5 : Hid (ApS w W5 sb u2 f (M.go9 f c) vo O) := H4.out.1.take hM5.out
          have HE2 : Hid (apF f SV.nil9 (l.take (i + 1)) = O ∧ stF f SV.nil9 (l.take (i + 1)) = M.go9 f c) := ⟨by have := HE.out.1; rw [if_neg (by simp)] at this; exact this, HE.out.2⟩
          have HDn := hid (done_any13 f u2 (M.go9 f c) sb W5 H5.out.bl)
          clear hM5 HTk H4 y0 y1 y2 y3 y4 y5 y6 y7
          cases hd : (M.go9 f c).dn f with
          | true =>
            rw [hd] at HDn HDn9
            go_wp2_with (first | (go_at_call 75; refine HDn.out.mono ?_; rintro e W6 ⟨rfl, hb6⟩))
            go_ret
            have h9 := H5.out.below hb6
            exact ⟨vo, rfl, by rw [show apF f SV.nil9 l = O by rw [HDn9.out (by trivial)]; exact HE2.out.1]; exact CRow.le h9.ro (by have := h9.lo; omega), h9.be⟩
          | false =>
            rw [hd] at HDn
            go_wp2_with (first | (go_at_call 75; refine HDn.out.mono ?_; rintro e W6 ⟨rfl, hb6⟩))
            go_roundw
            case rel => exact ⟨i + 1, _, by omega, by go_num, rfl, by rw [HE2.out.1, HE2.out.2]; exact H5.out.below hb6⟩
            case measure => simp [intOf]; omega
        | true =>
          rw [hok] at HTk HE
          go_upto_region 9 with (first | (go_at_call 73; refine HTk.out.mono ?_; rintro e W5 ⟨rfl, hM5⟩))
          have H5 : Hid (ApS w W5 sb u2 f (M.go9 f c) vo O ∧ DW W5 cb c) := ⟨H4.out.1.take hM5.out, dw_but H4.out.2.1 hM5.out.o (by have := H4.out.2.2; omega)⟩
          have HE2 : Hid (apF f SV.nil9 (l.take (i + 1)) = O ++ [c] ∧ stF f SV.nil9 (l.take (i + 1)) = M.go9 f c) := ⟨by have := HE.out.1; simpa using this, HE.out.2⟩
          clear hM5 HTk H4 y0 y1 y2 y3 y4 y5 y6 y7
          obtain ⟨y0, y1, y2, y3, y4, y5, y6, y7⟩ := H5.out.2.words
          go_upto_region 10 with (first
            | (at_builtin; go_loud (refine wpList_append_cell rfl (.tmp 23) (.tmp 25) rfl _ (sb + 1) vo O rfl (H5.out.1.below (below_new W5 _)).ro _ 1 rfl c (fun j v hj => ct_dw (Blk.new W5 _ _) j v hj) (by omega) (by have := H5.out.1.bl.lt; simp; omega) ?_; intro v7 W7 hr7 hb7 _)))
          have H7 : Hid (ApS w W7 sb u2 f (M.go9 f c) v7 (O ++ [c])) := ApS.app (H5.out.1.below (below_new W5 _)) hr7 hb7
          have HDn := hid (done_any13 f u2 (M.go9 f c) sb W7 H7.out.bl)
          clear hr7 hb7 H5 y0 y1 y2 y3 y4 y5 y6 y7
          cases hd : (M.go9 f c).dn f with
          | true =>
            rw [hd] at HDn HDn9
            go_wp2_with (first | (go_at_call 75; refine HDn.out.mono ?_; rintro e W6 ⟨rfl, hb6⟩))
            go_ret
            have h9 := H7.out.below hb6
            exact ⟨v7, rfl, by rw [show apF f SV.nil9 l = O ++ [c] by rw [HDn9.out (by trivial)]; exact HE2.out.1]; exact CRow.le h9.ro (by have := h9.lo; omega), h9.be⟩
          | false =>
            rw [hd] at HDn
            go_wp2_with (first | (go_at_call 75; refine HDn.out.mono ?_; rintro e W6 ⟨rfl, hb6⟩))
            go_roundw
            case rel => exact ⟨i + 1, _, by omega, by go_num, rfl, by rw [HE2.out.1, HE2.out.2]; exact H7.out.below hb6⟩
            case measure => simp [intOf]; omega
      · obtain rfl : i = N := by omega
        have ht : l.take i = l := by rw [← HN.out, List.take_length]
        have h9 := HI.out
        rw [ht] at h9
        have H9 := hid h9
        clear h9 ht
        go_wp2
        go_ret
        exact ⟨vo, rfl, CRow.le H9.out.ro (by have := H9.out.lo; omega), H9.out.be⟩
end Go.Proofs.YtgfkobfkncpmoaaDoor
