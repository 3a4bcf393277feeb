/- The sieve's Take. Conditions: the sieve stands in a block of its own, its filter's texts stand elsewhere, its counts are small. -/
import Derived.Test.YtgfkobfkncpmoaaDoorFtF
namespace Go.Proofs.YtgfkobfkncpmoaaDoor
open Go.RowKit

theorem TxA.but {w w' : World} {u : Value} {l : List ByteArray} {sb B : Nat} (h : TxA w u l) (hb : But13 B sb w w') (hB : w.heap.size ≤ B) (hn : ∀ g, u.ownBlock = some g → g ≠ sb) : TxA w' u l := by
  obtain ⟨A, c, e, h1, h2, hh⟩ := h
  refine ⟨A, c, e, h1, h2, fun h0 => ?_⟩
  obtain ⟨b, off, e2, h⟩ := hh h0
  refine ⟨b, off, e2, fun i x hx => ?_⟩
  have h9 := h i x hx
  exact (World.cell?_of_block (a := ⟨b, off + i, none⟩) (hb.block b (Nat.lt_of_lt_of_le (cell_lt h9) hB) (hn b (by rw [e, e2]; rfl)))).trans h9
theorem SvM.an {w W : World} {sb cb : Nat} {c : CT} {s : SV} {F : FT} {u : Value} (h : SvM w W sb cb c (s.a F u)) : W.cell? ⟨sb, 12, none⟩ = some (.bool s.an) := h.mv.b.cell 12
theorem SvM.tk {w W : World} {sb cb : Nat} {c : CT} {s : SV} {F : FT} {u : Value} (h : SvM w W sb cb c (s.a F u)) : W.cell? ⟨sb, 11, none⟩ = some (.int .i64 s.tk) := h.mv.b.cell 11
theorem SvM.rw {w W : World} {sb cb : Nat} {c : CT} {s : SV} {F : FT} {u : Value} (h : SvM w W sb cb c (s.a F u)) : W.cell? ⟨sb, 13, none⟩ = some (.int .i64 s.rw9) := h.mv.b.cell 13
theorem MV.next {w W W' : World} {sb : Nat} {xs ys : Array Value} (h : MV w sb W xs) (h2 : MV W sb W' ys) : MV w sb W' ys := ⟨h2.b, h.o.trans (h2.o.mono h.o.size)⟩
theorem dw_but {W W' : World} {sb cb : Nat} {c : CT} (h : DW W cb c) (hb : But13 W.heap.size sb W W') (hn : cb ≠ sb) : DW W' cb c := (hb.block cb (Blk.lt h) hn).trans h
section
variable {w W W' : World} {sb cb : Nat} {u : Value} {F : FT} {s : SV} {c : CT}
abbrev TkS (w : World) (sb cb : Nat) (F : FT) (u : Value) (s : SV) (c : CT) (W : World) : Prop := Hid (SvM w W sb cb c (s.a F u) ∧ TxA W u F.fams) ∧ (W.cell? ⟨sb, 0, none⟩ = some u ∧ W.cell? ⟨sb, 1, none⟩ = some (.string F.fr) ∧ W.cell? ⟨sb, 2, none⟩ = some (.string F.tq) ∧ W.cell? ⟨sb, 3, none⟩ = some (.int .i64 F.si) ∧ W.cell? ⟨sb, 4, none⟩ = some (.int .i64 F.un) ∧ W.cell? ⟨sb, 5, none⟩ = some (.int .i64 F.ve) ∧ W.cell? ⟨sb, 6, none⟩ = some (.int .i64 F.ro)) ∧ (W.cell? ⟨cb, 0, none⟩ = some (.string c.r) ∧ W.cell? ⟨cb, 1, none⟩ = some (.string c.f) ∧ W.cell? ⟨cb, 2, none⟩ = some (.string c.q) ∧ W.cell? ⟨cb, 3, none⟩ = some (.int .i64 c.t) ∧ W.cell? ⟨cb, 4, none⟩ = some (.int .i64 c.k) ∧ W.cell? ⟨cb, 5, none⟩ = some (.int .i64 c.vk) ∧ W.cell? ⟨cb, 6, none⟩ = some (.int .i64 c.vn) ∧ W.cell? ⟨cb, 7, none⟩ = some (.string c.s))
theorem tks_of (h : SvM w W sb cb c (s.a F u)) (ht : TxA W u F.fams) : TkS w sb cb F u s c W := ⟨⟨h, ht⟩, ⟨h.mv.b.cell 0, h.mv.b.cell 1, h.mv.b.cell 2, h.mv.b.cell 3, h.mv.b.cell 4, h.mv.b.cell 5, h.mv.b.cell 6⟩, h.ce.words⟩
theorem tks_call (hh : TkS w sb cb F u s c W) (hb : Below W.heap.size W W') : TkS w sb cb F u s c W' := tks_of (hh.1.out.1.below hb) (hh.1.out.2.below hb)
theorem tks_drew (hh : TkS w sb cb F u s c W) : TkS w sb cb F u s c W.drew := tks_call hh (Below.refl _ _).drew
end
set_option maxHeartbeats 8000000 in
set_option maxRecDepth 100000 in
theorem take13_any (F : FT) (u : Value) (s : SV) (c : CT) (sb : Nat) (w : World) (h : Blk w sb 161 (s.a F u)) (ht : TxA w u F.fams) (hn : ∀ g, u.ownBlock = some g → g ≠ sb) (h1 : s.tk ≤ 1000000000) (h2 : s.rw9 ≤ 1000000000) :
    Calls Tryd.prog 73 #[.pointer (some ⟨sb, 0, none⟩), c.v] w fun e w' => e = .returned (.bool (s.ok F c)) ∧ Hid (MV w sb w' ((s.go9 F c).a F u)) := by
  have mixed : Tryd.prog.follows .mixedOrders = true := by kernel_rfl
  have HB := hid h
  have HTx := hid (And.intro ht hn)
  have hm1 : (s.mv c).tk ≤ 1000000000 := by show (if _ then _ else _) ≤ _; split <;> omega
  have hm2 : (s.mv c).rw9 ≤ 1000000000 := h2
  have HBd := hid (And.intro hm1 hm2)
  have HOk : Hid (s.ok F c = (F.lets c && !((s.mv c).en F) && !((s.mv c).dn F))) := rfl
  have HGo : Hid (s.go9 F c = if s.ok F c = true then (s.mv c).tkn else s.mv c) := rfl
  clear h ht hn h1 h2 hm1 hm2
  obtain ⟨ok, hok⟩ : ∃ z, s.ok F c = z := ⟨_, rfl⟩
  obtain ⟨G, hG⟩ : ∃ G, s.go9 F c = G := ⟨_, rfl⟩
  rw [hok] at HOk
  rw [hok, hG] at HGo
  rw [hok, hG]
  clear hok hG
  obtain ⟨w9, hw9⟩ : ∃ W, W = w := ⟨_, rfl⟩
  obtain ⟨cb, hcb⟩ : ∃ cb, w.heap.size = cb := ⟨_, rfl⟩
  have HS0 : Hid (SvM w9 (w.alloc (.cells #[.string c.r, .string c.f, .string c.q, .int .i64 c.t, .int .i64 c.k, .int .i64 c.vk, .int .i64 c.vn, .string c.s] 28)) sb cb c (s.a F u) ∧ TxA (w.alloc (.cells #[.string c.r, .string c.f, .string c.q, .int .i64 c.t, .int .i64 c.k, .int .i64 c.vk, .int .i64 c.vn, .string c.s] 28)) u F.fams) := by
    rw [← hcb, hw9]
    exact ⟨⟨(MV.start HB.out).below (below_new w _), Blk.new w _ _, by have := HB.out.lt; omega⟩, HTx.out.1.below (below_new w _)⟩
  rw [← hw9]
  have hwf : (cellV c.r c.f c.q c.t c.k c.vk c.vn c.s) = c.v := rfl
  go_enter Tryd.func73, Tryd.ntmps73
  go_upto_region 1 with (fail)
  refine wp_lt13 (fun W => Hid (SvM w9 W sb cb c (s.a F u) ∧ TxA W u F.fams)) HS0 ?_
  clear HS0 hcb HB hw9 hwf
  rintro W1 H1
  have HMv := hid (move13_any F u s c sb W1 H1.out.1.mv.b)
  obtain ⟨x0, x1, x2, x3, x4, x5, x6, x7⟩ := H1.out.1.ce.words
  go_upto_region 2 with (first | (go_at_call 138; refine HMv.out.mono ?_; rintro e W2 ⟨rfl, hM2⟩))
  have HT : Hid (TkS w9 sb cb F u (s.mv c) c W2) := tks_of ⟨H1.out.1.mv.next hM2.out, dw_but H1.out.1.ce hM2.out.o H1.out.1.ne, H1.out.1.ne⟩ (H1.out.2.but hM2.out.o (Nat.le_refl _) HTx.out.2)
  clear x0 x1 x2 x3 x4 x5 x6 x7 hM2 HMv H1
  obtain ⟨M, hM⟩ : ∃ M, s.mv c = M := ⟨_, rfl⟩
  rw [hM] at HT HOk HGo HBd
  clear hM
  have HLe : Hid (∀ W, TkS w9 sb cb F u M c W → Calls Tryd.prog 67 #[F.v u, c.v] W fun e w' => e = .returned (.bool (F.lets c)) ∧ Below W.heap.size W w') := fun W hW => lets13_any u F c W hW.1.out.2
  have HEn : Hid (∀ W, TkS w9 sb cb F u M c W → Calls Tryd.prog 139 #[.pointer (some ⟨sb, 0, none⟩)] W fun e w' => e = .returned (.bool (M.en F)) ∧ Below W.heap.size W w') := fun W hW => enough_any F u M sb W hW.1.out.1.mv.b
  have HDn : Hid (∀ W, TkS w9 sb cb F u M c W → Calls Tryd.prog 75 #[.pointer (some ⟨sb, 0, none⟩)] W fun e w' => e = .returned (.bool (M.dn F)) ∧ Below W.heap.size W w') := fun W hW => done_any13 F u M sb W hW.1.out.1.mv.b
  obtain ⟨zl, hzl⟩ : ∃ z, F.lets c = z := ⟨_, rfl⟩
  obtain ⟨ze, hze⟩ : ∃ z, M.en F = z := ⟨_, rfl⟩
  obtain ⟨zd, hzd⟩ : ∃ z, M.dn F = z := ⟨_, rfl⟩
  rw [hzl, hze, hzd] at HOk
  rw [hzl] at HLe
  rw [hze] at HEn
  rw [hzd] at HDn
  clear hzl hze hzd HTx
  obtain ⟨-, ⟨y0, y1, y2, y3, y4, y5, y6⟩, ⟨x0, x1, x2, x3, x4, x5, x6, x7⟩⟩ := HT.out
  cases zl with
  | false =>
    refine wp_region_held_drew (S := (fun W' => Hid (SvM w9 W' sb cb c (M.a F u) ∧ TxA W' u F.fams) ∧ (W'.cell? ⟨sb, 0, none⟩ = some u ∧ W'.cell? ⟨sb, 1, none⟩ = some (.string F.fr) ∧ W'.cell? ⟨sb, 2, none⟩ = some (.string F.tq) ∧ W'.cell? ⟨sb, 3, none⟩ = some (.int .i64 F.si) ∧ W'.cell? ⟨sb, 4, none⟩ = some (.int .i64 F.un) ∧ W'.cell? ⟨sb, 5, none⟩ = some (.int .i64 F.ve) ∧ W'.cell? ⟨sb, 6, none⟩ = some (.int .i64 F.ro)) ∧ (W'.cell? ⟨cb, 0, none⟩ = some (.string c.r) ∧ W'.cell? ⟨cb, 1, none⟩ = some (.string c.f) ∧ W'.cell? ⟨cb, 2, none⟩ = some (.string c.q) ∧ W'.cell? ⟨cb, 3, none⟩ = some (.int .i64 c.t) ∧ W'.cell? ⟨cb, 4, none⟩ = some (.int .i64 c.k) ∧ W'.cell? ⟨cb, 5, none⟩ = some (.int .i64 c.vk) ∧ W'.cell? ⟨cb, 6, none⟩ = some (.int .i64 c.vn) ∧ W'.cell? ⟨cb, 7, none⟩ = some (.string c.s)))) (by kernel_rfl) ?_ (fun hHeld => ?_)
    (exact tks_drew HT.out)
    (refine wpAnyH_take (i := 0) (v := ?_) rfl (by kernel_rfl) (by kernel_rfl) (by kernel_rfl) (fun _ _ _ h => h) (Or.inl ⟨by kernel_rfl, ?_⟩) (by assumption) ?_; rotate_left; · (intro w hSw; (try dsimp only at hSw); go_simp; first | done | with_reducible rfl))
    (try simp only [Act.put]); (try simp only [List.getElem_toArray]); (try simp only [List.getElem_cons_succ]); (try simp only [List.getElem_cons_zero]); (try simp only [List.setIfInBounds_toArray]); (try simp only [List.set_cons_succ]); (try simp only [List.set_cons_zero])
    (refine wpAnyH_take (i := 1) (v := ?_) rfl (by kernel_rfl) (by kernel_rfl) (by kernel_rfl) (fun _ _ _ h => h) (Or.inl ⟨by kernel_rfl, ?_⟩) (by assumption) ?_; rotate_left; · (intro w hSw; (try dsimp only at hSw); go_simp; first | done | with_reducible rfl))
    (try simp only [Act.put]); (try simp only [List.getElem_toArray]); (try simp only [List.getElem_cons_succ]); (try simp only [List.getElem_cons_zero]); (try simp only [List.setIfInBounds_toArray]); (try simp only [List.set_cons_succ]); (try simp only [List.set_cons_zero])
    (refine wpAnyH_take (i := 2) (v := ?_) rfl (by kernel_rfl) (by kernel_rfl) (by kernel_rfl) (fun _ _ _ h => h) (Or.inl ⟨by kernel_rfl, ?_⟩) (by assumption) ?_; rotate_left; · (intro w hSw; (try dsimp only at hSw); go_simp; first | done | with_reducible rfl))
    (try simp only [Act.put]); (try simp only [List.getElem_toArray]); (try simp only [List.getElem_cons_succ]); (try simp only [List.getElem_cons_zero]); (try simp only [List.setIfInBounds_toArray]); (try simp only [List.set_cons_succ]); (try simp only [List.set_cons_zero])
    (refine wpAnyH_take (i := 3) (v := ?_) rfl (by kernel_rfl) (by kernel_rfl) (by kernel_rfl) (fun _ _ _ h => h) (Or.inl ⟨by kernel_rfl, ?_⟩) (by assumption) ?_; rotate_left; · (intro w hSw; (try dsimp only at hSw); go_simp; first | done | with_reducible rfl))
    (try simp only [Act.put]); (try simp only [List.getElem_toArray]); (try simp only [List.getElem_cons_succ]); (try simp only [List.getElem_cons_zero]); (try simp only [List.setIfInBounds_toArray]); (try simp only [List.set_cons_succ]); (try simp only [List.set_cons_zero])
    (refine wpAnyH_take (i := 4) (v := ?_) rfl (by kernel_rfl) (by kernel_rfl) (by kernel_rfl) (fun _ _ _ h => h) (Or.inl ⟨by kernel_rfl, ?_⟩) (by assumption) ?_; rotate_left; · (intro w hSw; (try dsimp only at hSw); go_simp; first | done | with_reducible rfl))
    (try simp only [Act.put]); (try simp only [List.getElem_toArray]); (try simp only [List.getElem_cons_succ]); (try simp only [List.getElem_cons_zero]); (try simp only [List.setIfInBounds_toArray]); (try simp only [List.set_cons_succ]); (try simp only [List.set_cons_zero])
    (refine wpAnyH_ready (rs := [5]) (by kernel_rfl) (by simp) (AllReadyH.cons rfl (fun K hK => ?_) AllReadyH.nil); go_simp; (go_at_call 67; refine (HLe.out _ (by assumption)).mono ?_; rintro e w5 ⟨rfl, hb5⟩); refine hK.out _ _ ?_ (fun hHeld => ?_))
    · exact tks_call (by assumption) hb5
    clear hK K
    (try simp only [Act.put]); (try simp only [List.getElem_toArray]); (try simp only [List.getElem_cons_succ]); (try simp only [List.getElem_cons_zero]); (try simp only [List.setIfInBounds_toArray]); (try simp only [List.set_cons_succ]); (try simp only [List.set_cons_zero])
    (refine wpAnyH_take (i := 6) (v := ?_) rfl (by kernel_rfl) (by kernel_rfl) (by kernel_rfl) (fun _ _ _ h => h) (Or.inl ⟨by kernel_rfl, ?_⟩) (by assumption) ?_; rotate_left; · (intro w hSw; (try dsimp only at hSw); go_simp; first | done | with_reducible rfl))
    (try simp only [Act.put]); (try simp only [List.getElem_toArray]); (try simp only [List.getElem_cons_succ]); (try simp only [List.getElem_cons_zero]); (try simp only [List.setIfInBounds_toArray]); (try simp only [List.set_cons_succ]); (try simp only [List.set_cons_zero])
    (refine wpAnyH_take (i := 7) (v := ?_) rfl (by kernel_rfl) (by kernel_rfl) (by kernel_rfl) (fun _ _ _ h => h) (Or.inl ⟨by kernel_rfl, ?_⟩) (by assumption) ?_; rotate_left; · (intro w hSw; (try dsimp only at hSw); go_simp; first | done | with_reducible rfl))
    (try simp only [Act.put]); (try simp only [List.getElem_toArray]); (try simp only [List.getElem_cons_succ]); (try simp only [List.getElem_cons_zero]); (try simp only [List.setIfInBounds_toArray]); (try simp only [List.set_cons_succ]); (try simp only [List.set_cons_zero])
    (refine wpAnyH_take (i := 8) (v := undef) rfl (by kernel_rfl) (by kernel_rfl) (by kernel_rfl) (fun _ _ _ h => h) (Or.inr ⟨by kernel_rfl, rfl⟩) (by assumption) ?_; (try simp only [Act.put]); (try simp only [List.getElem_toArray]); (try simp only [List.getElem_cons_succ]); (try simp only [List.getElem_cons_zero]); (try simp only [List.setIfInBounds_toArray]); (try simp only [List.set_cons_succ]); (try simp only [List.set_cons_zero]))
    (refine wpAnyH_take (i := 9) (v := undef) rfl (by kernel_rfl) (by kernel_rfl) (by kernel_rfl) (fun _ _ _ h => h) (Or.inr ⟨by kernel_rfl, rfl⟩) (by assumption) ?_; (try simp only [Act.put]); (try simp only [List.getElem_toArray]); (try simp only [List.getElem_cons_succ]); (try simp only [List.getElem_cons_zero]); (try simp only [List.setIfInBounds_toArray]); (try simp only [List.set_cons_succ]); (try simp only [List.set_cons_zero]))
    (refine wpAnyH_take (i := 10) (v := ?_) rfl (by kernel_rfl) (by kernel_rfl) (by kernel_rfl) (fun _ _ _ h => h) (Or.inl ⟨by kernel_rfl, ?_⟩) (by assumption) ?_; rotate_left; · (intro w hSw; (try dsimp only at hSw); go_simp; first | done | with_reducible rfl))
    (try simp only [Act.put]); (try simp only [List.getElem_toArray]); (try simp only [List.getElem_cons_succ]); (try simp only [List.getElem_cons_zero]); (try simp only [List.setIfInBounds_toArray]); (try simp only [List.set_cons_succ]); (try simp only [List.set_cons_zero])
    (refine wpAnyH_take (i := 11) (v := ?_) rfl (by kernel_rfl) (by kernel_rfl) (by kernel_rfl) (fun _ _ _ h => h) (Or.inl ⟨by kernel_rfl, ?_⟩) (by assumption) ?_; rotate_left; · (intro w hSw; (try dsimp only at hSw); go_simp; first | done | with_reducible rfl))
    (try simp only [Act.put]); (try simp only [List.getElem_toArray]); (try simp only [List.getElem_cons_succ]); (try simp only [List.getElem_cons_zero]); (try simp only [List.setIfInBounds_toArray]); (try simp only [List.set_cons_succ]); (try simp only [List.set_cons_zero])
    (refine wpAnyH_take (i := 12) (v := undef) rfl (by kernel_rfl) (by kernel_rfl) (by kernel_rfl) (fun _ _ _ h => h) (Or.inr ⟨by kernel_rfl, rfl⟩) (by assumption) ?_; (try simp only [Act.put]); (try simp only [List.getElem_toArray]); (try simp only [List.getElem_cons_succ]); (try simp only [List.getElem_cons_zero]); (try simp only [List.setIfInBounds_toArray]); (try simp only [List.set_cons_succ]); (try simp only [List.set_cons_zero]))
    (refine wpAnyH_take (i := 13) (v := undef) rfl (by kernel_rfl) (by kernel_rfl) (by kernel_rfl) (fun _ _ _ h => h) (Or.inr ⟨by kernel_rfl, rfl⟩) (by assumption) ?_; (try simp only [Act.put]); (try simp only [List.getElem_toArray]); (try simp only [List.getElem_cons_succ]); (try simp only [List.getElem_cons_zero]); (try simp only [List.setIfInBounds_toArray]); (try simp only [List.set_cons_succ]); (try simp only [List.set_cons_zero]))
    (refine wpAnyH_take (i := 14) (v := ?_) rfl (by kernel_rfl) (by kernel_rfl) (by kernel_rfl) (fun _ _ _ h => h) (Or.inl ⟨by kernel_rfl, ?_⟩) (by assumption) ?_; rotate_left; · (intro w hSw; (try dsimp only at hSw); go_simp; first | done | with_reducible rfl))
    (try simp only [Act.put]); (try simp only [List.getElem_toArray]); (try simp only [List.getElem_cons_succ]); (try simp only [List.getElem_cons_zero]); (try simp only [List.setIfInBounds_toArray]); (try simp only [List.set_cons_succ]); (try simp only [List.set_cons_zero])
    refine wpAnyH_done (by kernel_rfl) ?_ _
    have H3 := hid hHeld.1.out
    clear hHeld HT y0 y1 y2 y3 y4 y5 y6 x0 x1 x2 x3 x4 x5 x6 x7
    go_wp2
    go_ret
    refine ⟨by rw [HOk.out]; rfl, ?_⟩
    rw [HGo.out, HOk.out, if_neg (by simp)]
    exact H3.out.1.mv
  | true =>
    cases ze with
    | true =>
      refine wp_region_held_drew (S := (fun W' => Hid (SvM w9 W' sb cb c (M.a F u) ∧ TxA W' u F.fams) ∧ (W'.cell? ⟨sb, 0, none⟩ = some u ∧ W'.cell? ⟨sb, 1, none⟩ = some (.string F.fr) ∧ W'.cell? ⟨sb, 2, none⟩ = some (.string F.tq) ∧ W'.cell? ⟨sb, 3, none⟩ = some (.int .i64 F.si) ∧ W'.cell? ⟨sb, 4, none⟩ = some (.int .i64 F.un) ∧ W'.cell? ⟨sb, 5, none⟩ = some (.int .i64 F.ve) ∧ W'.cell? ⟨sb, 6, none⟩ = some (.int .i64 F.ro)) ∧ (W'.cell? ⟨cb, 0, none⟩ = some (.string c.r) ∧ W'.cell? ⟨cb, 1, none⟩ = some (.string c.f) ∧ W'.cell? ⟨cb, 2, none⟩ = some (.string c.q) ∧ W'.cell? ⟨cb, 3, none⟩ = some (.int .i64 c.t) ∧ W'.cell? ⟨cb, 4, none⟩ = some (.int .i64 c.k) ∧ W'.cell? ⟨cb, 5, none⟩ = some (.int .i64 c.vk) ∧ W'.cell? ⟨cb, 6, none⟩ = some (.int .i64 c.vn) ∧ W'.cell? ⟨cb, 7, none⟩ = some (.string c.s)))) (by kernel_rfl) ?_ (fun hHeld => ?_)
      (exact tks_drew HT.out)
      (refine wpAnyH_take (i := 0) (v := ?_) rfl (by kernel_rfl) (by kernel_rfl) (by kernel_rfl) (fun _ _ _ h => h) (Or.inl ⟨by kernel_rfl, ?_⟩) (by assumption) ?_; rotate_left; · (intro w hSw; (try dsimp only at hSw); go_simp; first | done | with_reducible rfl))
      (try simp only [Act.put]); (try simp only [List.getElem_toArray]); (try simp only [List.getElem_cons_succ]); (try simp only [List.getElem_cons_zero]); (try simp only [List.setIfInBounds_toArray]); (try simp only [List.set_cons_succ]); (try simp only [List.set_cons_zero])
      (refine wpAnyH_take (i := 1) (v := ?_) rfl (by kernel_rfl) (by kernel_rfl) (by kernel_rfl) (fun _ _ _ h => h) (Or.inl ⟨by kernel_rfl, ?_⟩) (by assumption) ?_; rotate_left; · (intro w hSw; (try dsimp only at hSw); go_simp; first | done | with_reducible rfl))
      (try simp only [Act.put]); (try simp only [List.getElem_toArray]); (try simp only [List.getElem_cons_succ]); (try simp only [List.getElem_cons_zero]); (try simp only [List.setIfInBounds_toArray]); (try simp only [List.set_cons_succ]); (try simp only [List.set_cons_zero])
      (refine wpAnyH_take (i := 2) (v := ?_) rfl (by kernel_rfl) (by kernel_rfl) (by kernel_rfl) (fun _ _ _ h => h) (Or.inl ⟨by kernel_rfl, ?_⟩) (by assumption) ?_; rotate_left; · (intro w hSw; (try dsimp only at hSw); go_simp; first | done | with_reducible rfl))
      (try simp only [Act.put]); (try simp only [List.getElem_toArray]); (try simp only [List.getElem_cons_succ]); (try simp only [List.getElem_cons_zero]); (try simp only [List.setIfInBounds_toArray]); (try simp only [List.set_cons_succ]); (try simp only [List.set_cons_zero])
      (refine wpAnyH_take (i := 3) (v := ?_) rfl (by kernel_rfl) (by kernel_rfl) (by kernel_rfl) (fun _ _ _ h => h) (Or.inl ⟨by kernel_rfl, ?_⟩) (by assumption) ?_; rotate_left; · (intro w hSw; (try dsimp only at hSw); go_simp; first | done | with_reducible rfl))
      (try simp only [Act.put]); (try simp only [List.getElem_toArray]); (try simp only [List.getElem_cons_succ]); (try simp only [List.getElem_cons_zero]); (try simp only [List.setIfInBounds_toArray]); (try simp only [List.set_cons_succ]); (try simp only [List.set_cons_zero])
      (refine wpAnyH_take (i := 4) (v := ?_) rfl (by kernel_rfl) (by kernel_rfl) (by kernel_rfl) (fun _ _ _ h => h) (Or.inl ⟨by kernel_rfl, ?_⟩) (by assumption) ?_; rotate_left; · (intro w hSw; (try dsimp only at hSw); go_simp; first | done | with_reducible rfl))
      (try simp only [Act.put]); (try simp only [List.getElem_toArray]); (try simp only [List.getElem_cons_succ]); (try simp only [List.getElem_cons_zero]); (try simp only [List.setIfInBounds_toArray]); (try simp only [List.set_cons_succ]); (try simp only [List.set_cons_zero])
      (refine wpAnyH_ready (rs := [5]) (by kernel_rfl) (by simp) (AllReadyH.cons rfl (fun K hK => ?_) AllReadyH.nil); go_simp; (go_at_call 67; refine (HLe.out _ (by assumption)).mono ?_; rintro e w5 ⟨rfl, hb5⟩); refine hK.out _ _ ?_ (fun hHeld => ?_))
      · exact tks_call (by assumption) hb5
      clear hK K
      (try simp only [Act.put]); (try simp only [List.getElem_toArray]); (try simp only [List.getElem_cons_succ]); (try simp only [List.getElem_cons_zero]); (try simp only [List.setIfInBounds_toArray]); (try simp only [List.set_cons_succ]); (try simp only [List.set_cons_zero])
      (refine wpAnyH_take (i := 6) (v := ?_) rfl (by kernel_rfl) (by kernel_rfl) (by kernel_rfl) (fun _ _ _ h => h) (Or.inl ⟨by kernel_rfl, ?_⟩) (by assumption) ?_; rotate_left; · (intro w hSw; (try dsimp only at hSw); go_simp; first | done | with_reducible rfl))
      (try simp only [Act.put]); (try simp only [List.getElem_toArray]); (try simp only [List.getElem_cons_succ]); (try simp only [List.getElem_cons_zero]); (try simp only [List.setIfInBounds_toArray]); (try simp only [List.set_cons_succ]); (try simp only [List.set_cons_zero])
      (refine wpAnyH_take (i := 7) (v := ?_) rfl (by kernel_rfl) (by kernel_rfl) (by kernel_rfl) (fun _ _ _ h => h) (Or.inl ⟨by kernel_rfl, ?_⟩) (by assumption) ?_; rotate_left; · (intro w hSw; (try dsimp only at hSw); go_simp; first | done | with_reducible rfl))
      (try simp only [Act.put]); (try simp only [List.getElem_toArray]); (try simp only [List.getElem_cons_succ]); (try simp only [List.getElem_cons_zero]); (try simp only [List.setIfInBounds_toArray]); (try simp only [List.set_cons_succ]); (try simp only [List.set_cons_zero])
      (refine wpAnyH_take (i := 8) (v := ?_) rfl (by kernel_rfl) (by kernel_rfl) (by kernel_rfl) (fun _ _ _ h => h) (Or.inl ⟨by kernel_rfl, ?_⟩) (by assumption) ?_; rotate_left; · (intro w hSw; (try dsimp only at hSw); go_simp; first | done | with_reducible rfl))
      (try simp only [Act.put]); (try simp only [List.getElem_toArray]); (try simp only [List.getElem_cons_succ]); (try simp only [List.getElem_cons_zero]); (try simp only [List.setIfInBounds_toArray]); (try simp only [List.set_cons_succ]); (try simp only [List.set_cons_zero])
      (refine wpAnyH_ready (rs := [9]) (by kernel_rfl) (by simp) (AllReadyH.cons rfl (fun K hK => ?_) AllReadyH.nil); go_simp; (go_at_call 139; refine (HEn.out _ (by assumption)).mono ?_; rintro e w6 ⟨rfl, hb6⟩); refine hK.out _ _ ?_ (fun hHeld => ?_))
      · exact tks_call (by assumption) hb6
      clear hK K
      (try simp only [Act.put]); (try simp only [List.getElem_toArray]); (try simp only [List.getElem_cons_succ]); (try simp only [List.getElem_cons_zero]); (try simp only [List.setIfInBounds_toArray]); (try simp only [List.set_cons_succ]); (try simp only [List.set_cons_zero])
      (refine wpAnyH_take (i := 10) (v := ?_) rfl (by kernel_rfl) (by kernel_rfl) (by kernel_rfl) (fun _ _ _ h => h) (Or.inl ⟨by kernel_rfl, ?_⟩) (by assumption) ?_; rotate_left; · (intro w hSw; (try dsimp only at hSw); go_simp; first | done | with_reducible rfl))
      (try simp only [Act.put]); (try simp only [List.getElem_toArray]); (try simp only [List.getElem_cons_succ]); (try simp only [List.getElem_cons_zero]); (try simp only [List.setIfInBounds_toArray]); (try simp only [List.set_cons_succ]); (try simp only [List.set_cons_zero])
      (refine wpAnyH_take (i := 11) (v := ?_) rfl (by kernel_rfl) (by kernel_rfl) (by kernel_rfl) (fun _ _ _ h => h) (Or.inl ⟨by kernel_rfl, ?_⟩) (by assumption) ?_; rotate_left; · (intro w hSw; (try dsimp only at hSw); go_simp; first | done | with_reducible rfl))
      (try simp only [Act.put]); (try simp only [List.getElem_toArray]); (try simp only [List.getElem_cons_succ]); (try simp only [List.getElem_cons_zero]); (try simp only [List.setIfInBounds_toArray]); (try simp only [List.set_cons_succ]); (try simp only [List.set_cons_zero])
      (refine wpAnyH_take (i := 12) (v := undef) rfl (by kernel_rfl) (by kernel_rfl) (by kernel_rfl) (fun _ _ _ h => h) (Or.inr ⟨by kernel_rfl, rfl⟩) (by assumption) ?_; (try simp only [Act.put]); (try simp only [List.getElem_toArray]); (try simp only [List.getElem_cons_succ]); (try simp only [List.getElem_cons_zero]); (try simp only [List.setIfInBounds_toArray]); (try simp only [List.set_cons_succ]); (try simp only [List.set_cons_zero]))
      (refine wpAnyH_take (i := 13) (v := undef) rfl (by kernel_rfl) (by kernel_rfl) (by kernel_rfl) (fun _ _ _ h => h) (Or.inr ⟨by kernel_rfl, rfl⟩) (by assumption) ?_; (try simp only [Act.put]); (try simp only [List.getElem_toArray]); (try simp only [List.getElem_cons_succ]); (try simp only [List.getElem_cons_zero]); (try simp only [List.setIfInBounds_toArray]); (try simp only [List.set_cons_succ]); (try simp only [List.set_cons_zero]))
      (refine wpAnyH_take (i := 14) (v := ?_) rfl (by kernel_rfl) (by kernel_rfl) (by kernel_rfl) (fun _ _ _ h => h) (Or.inl ⟨by kernel_rfl, ?_⟩) (by assumption) ?_; rotate_left; · (intro w hSw; (try dsimp only at hSw); go_simp; first | done | with_reducible rfl))
      (try simp only [Act.put]); (try simp only [List.getElem_toArray]); (try simp only [List.getElem_cons_succ]); (try simp only [List.getElem_cons_zero]); (try simp only [List.setIfInBounds_toArray]); (try simp only [List.set_cons_succ]); (try simp only [List.set_cons_zero])
      refine wpAnyH_done (by kernel_rfl) ?_ _
      have H3 := hid hHeld.1.out
      clear hHeld HT y0 y1 y2 y3 y4 y5 y6 x0 x1 x2 x3 x4 x5 x6 x7
      go_wp2
      go_ret
      refine ⟨by rw [HOk.out]; rfl, ?_⟩
      rw [HGo.out, HOk.out, if_neg (by simp)]
      exact H3.out.1.mv
    | false =>
      cases zd with
      | true =>
        refine wp_region_held_drew (S := (fun W' => Hid (SvM w9 W' sb cb c (M.a F u) ∧ TxA W' u F.fams) ∧ (W'.cell? ⟨sb, 0, none⟩ = some u ∧ W'.cell? ⟨sb, 1, none⟩ = some (.string F.fr) ∧ W'.cell? ⟨sb, 2, none⟩ = some (.string F.tq) ∧ W'.cell? ⟨sb, 3, none⟩ = some (.int .i64 F.si) ∧ W'.cell? ⟨sb, 4, none⟩ = some (.int .i64 F.un) ∧ W'.cell? ⟨sb, 5, none⟩ = some (.int .i64 F.ve) ∧ W'.cell? ⟨sb, 6, none⟩ = some (.int .i64 F.ro)) ∧ (W'.cell? ⟨cb, 0, none⟩ = some (.string c.r) ∧ W'.cell? ⟨cb, 1, none⟩ = some (.string c.f) ∧ W'.cell? ⟨cb, 2, none⟩ = some (.string c.q) ∧ W'.cell? ⟨cb, 3, none⟩ = some (.int .i64 c.t) ∧ W'.cell? ⟨cb, 4, none⟩ = some (.int .i64 c.k) ∧ W'.cell? ⟨cb, 5, none⟩ = some (.int .i64 c.vk) ∧ W'.cell? ⟨cb, 6, none⟩ = some (.int .i64 c.vn) ∧ W'.cell? ⟨cb, 7, none⟩ = some (.string c.s)))) (by kernel_rfl) ?_ (fun hHeld => ?_)
        (exact tks_drew HT.out)
        (refine wpAnyH_take (i := 0) (v := ?_) rfl (by kernel_rfl) (by kernel_rfl) (by kernel_rfl) (fun _ _ _ h => h) (Or.inl ⟨by kernel_rfl, ?_⟩) (by assumption) ?_; rotate_left; · (intro w hSw; (try dsimp only at hSw); go_simp; first | done | with_reducible rfl))
        (try simp only [Act.put]); (try simp only [List.getElem_toArray]); (try simp only [List.getElem_cons_succ]); (try simp only [List.getElem_cons_zero]); (try simp only [List.setIfInBounds_toArray]); (try simp only [List.set_cons_succ]); (try simp only [List.set_cons_zero])
        (refine wpAnyH_take (i := 1) (v := ?_) rfl (by kernel_rfl) (by kernel_rfl) (by kernel_rfl) (fun _ _ _ h => h) (Or.inl ⟨by kernel_rfl, ?_⟩) (by assumption) ?_; rotate_left; · (intro w hSw; (try dsimp only at hSw); go_simp; first | done | with_reducible rfl))
        (try simp only [Act.put]); (try simp only [List.getElem_toArray]); (try simp only [List.getElem_cons_succ]); (try simp only [List.getElem_cons_zero]); (try simp only [List.setIfInBounds_toArray]); (try simp only [List.set_cons_succ]); (try simp only [List.set_cons_zero])
        (refine wpAnyH_take (i := 2) (v := ?_) rfl (by kernel_rfl) (by kernel_rfl) (by kernel_rfl) (fun _ _ _ h => h) (Or.inl ⟨by kernel_rfl, ?_⟩) (by assumption) ?_; rotate_left; · (intro w hSw; (try dsimp only at hSw); go_simp; first | done | with_reducible rfl))
        (try simp only [Act.put]); (try simp only [List.getElem_toArray]); (try simp only [List.getElem_cons_succ]); (try simp only [List.getElem_cons_zero]); (try simp only [List.setIfInBounds_toArray]); (try simp only [List.set_cons_succ]); (try simp only [List.set_cons_zero])
        (refine wpAnyH_take (i := 3) (v := ?_) rfl (by kernel_rfl) (by kernel_rfl) (by kernel_rfl) (fun _ _ _ h => h) (Or.inl ⟨by kernel_rfl, ?_⟩) (by assumption) ?_; rotate_left; · (intro w hSw; (try dsimp only at hSw); go_simp; first | done | with_reducible rfl))
        (try simp only [Act.put]); (try simp only [List.getElem_toArray]); (try simp only [List.getElem_cons_succ]); (try simp only [List.getElem_cons_zero]); (try simp only [List.setIfInBounds_toArray]); (try simp only [List.set_cons_succ]); (try simp only [List.set_cons_zero])
        (refine wpAnyH_take (i := 4) (v := ?_) rfl (by kernel_rfl) (by kernel_rfl) (by kernel_rfl) (fun _ _ _ h => h) (Or.inl ⟨by kernel_rfl, ?_⟩) (by assumption) ?_; rotate_left; · (intro w hSw; (try dsimp only at hSw); go_simp; first | done | with_reducible rfl))
        (try simp only [Act.put]); (try simp only [List.getElem_toArray]); (try simp only [List.getElem_cons_succ]); (try simp only [List.getElem_cons_zero]); (try simp only [List.setIfInBounds_toArray]); (try simp only [List.set_cons_succ]); (try simp only [List.set_cons_zero])
        (refine wpAnyH_ready (rs := [5]) (by kernel_rfl) (by simp) (AllReadyH.cons rfl (fun K hK => ?_) AllReadyH.nil); go_simp; (go_at_call 67; refine (HLe.out _ (by assumption)).mono ?_; rintro e w5 ⟨rfl, hb5⟩); refine hK.out _ _ ?_ (fun hHeld => ?_))
        · exact tks_call (by assumption) hb5
        clear hK K
        (try simp only [Act.put]); (try simp only [List.getElem_toArray]); (try simp only [List.getElem_cons_succ]); (try simp only [List.getElem_cons_zero]); (try simp only [List.setIfInBounds_toArray]); (try simp only [List.set_cons_succ]); (try simp only [List.set_cons_zero])
        (refine wpAnyH_take (i := 6) (v := ?_) rfl (by kernel_rfl) (by kernel_rfl) (by kernel_rfl) (fun _ _ _ h => h) (Or.inl ⟨by kernel_rfl, ?_⟩) (by assumption) ?_; rotate_left; · (intro w hSw; (try dsimp only at hSw); go_simp; first | done | with_reducible rfl))
        (try simp only [Act.put]); (try simp only [List.getElem_toArray]); (try simp only [List.getElem_cons_succ]); (try simp only [List.getElem_cons_zero]); (try simp only [List.setIfInBounds_toArray]); (try simp only [List.set_cons_succ]); (try simp only [List.set_cons_zero])
        (refine wpAnyH_take (i := 7) (v := ?_) rfl (by kernel_rfl) (by kernel_rfl) (by kernel_rfl) (fun _ _ _ h => h) (Or.inl ⟨by kernel_rfl, ?_⟩) (by assumption) ?_; rotate_left; · (intro w hSw; (try dsimp only at hSw); go_simp; first | done | with_reducible rfl))
        (try simp only [Act.put]); (try simp only [List.getElem_toArray]); (try simp only [List.getElem_cons_succ]); (try simp only [List.getElem_cons_zero]); (try simp only [List.setIfInBounds_toArray]); (try simp only [List.set_cons_succ]); (try simp only [List.set_cons_zero])
        (refine wpAnyH_take (i := 8) (v := ?_) rfl (by kernel_rfl) (by kernel_rfl) (by kernel_rfl) (fun _ _ _ h => h) (Or.inl ⟨by kernel_rfl, ?_⟩) (by assumption) ?_; rotate_left; · (intro w hSw; (try dsimp only at hSw); go_simp; first | done | with_reducible rfl))
        (try simp only [Act.put]); (try simp only [List.getElem_toArray]); (try simp only [List.getElem_cons_succ]); (try simp only [List.getElem_cons_zero]); (try simp only [List.setIfInBounds_toArray]); (try simp only [List.set_cons_succ]); (try simp only [List.set_cons_zero])
        (refine wpAnyH_ready (rs := [9]) (by kernel_rfl) (by simp) (AllReadyH.cons rfl (fun K hK => ?_) AllReadyH.nil); go_simp; (go_at_call 139; refine (HEn.out _ (by assumption)).mono ?_; rintro e w6 ⟨rfl, hb6⟩); refine hK.out _ _ ?_ (fun hHeld => ?_))
        · exact tks_call (by assumption) hb6
        clear hK K
        (try simp only [Act.put]); (try simp only [List.getElem_toArray]); (try simp only [List.getElem_cons_succ]); (try simp only [List.getElem_cons_zero]); (try simp only [List.setIfInBounds_toArray]); (try simp only [List.set_cons_succ]); (try simp only [List.set_cons_zero])
        (refine wpAnyH_take (i := 10) (v := ?_) rfl (by kernel_rfl) (by kernel_rfl) (by kernel_rfl) (fun _ _ _ h => h) (Or.inl ⟨by kernel_rfl, ?_⟩) (by assumption) ?_; rotate_left; · (intro w hSw; (try dsimp only at hSw); go_simp; first | done | with_reducible rfl))
        (try simp only [Act.put]); (try simp only [List.getElem_toArray]); (try simp only [List.getElem_cons_succ]); (try simp only [List.getElem_cons_zero]); (try simp only [List.setIfInBounds_toArray]); (try simp only [List.set_cons_succ]); (try simp only [List.set_cons_zero])
        (refine wpAnyH_take (i := 11) (v := ?_) rfl (by kernel_rfl) (by kernel_rfl) (by kernel_rfl) (fun _ _ _ h => h) (Or.inl ⟨by kernel_rfl, ?_⟩) (by assumption) ?_; rotate_left; · (intro w hSw; (try dsimp only at hSw); go_simp; first | done | with_reducible rfl))
        (try simp only [Act.put]); (try simp only [List.getElem_toArray]); (try simp only [List.getElem_cons_succ]); (try simp only [List.getElem_cons_zero]); (try simp only [List.setIfInBounds_toArray]); (try simp only [List.set_cons_succ]); (try simp only [List.set_cons_zero])
        (refine wpAnyH_take (i := 12) (v := ?_) rfl (by kernel_rfl) (by kernel_rfl) (by kernel_rfl) (fun _ _ _ h => h) (Or.inl ⟨by kernel_rfl, ?_⟩) (by assumption) ?_; rotate_left; · (intro w hSw; (try dsimp only at hSw); go_simp; first | done | with_reducible rfl))
        (try simp only [Act.put]); (try simp only [List.getElem_toArray]); (try simp only [List.getElem_cons_succ]); (try simp only [List.getElem_cons_zero]); (try simp only [List.setIfInBounds_toArray]); (try simp only [List.set_cons_succ]); (try simp only [List.set_cons_zero])
        (refine wpAnyH_ready (rs := [13]) (by kernel_rfl) (by simp) (AllReadyH.cons rfl (fun K hK => ?_) AllReadyH.nil); go_simp; (go_at_call 75; refine (HDn.out _ (by assumption)).mono ?_; rintro e w7 ⟨rfl, hb7⟩); refine hK.out _ _ ?_ (fun hHeld => ?_))
        · exact tks_call (by assumption) hb7
        clear hK K
        (try simp only [Act.put]); (try simp only [List.getElem_toArray]); (try simp only [List.getElem_cons_succ]); (try simp only [List.getElem_cons_zero]); (try simp only [List.setIfInBounds_toArray]); (try simp only [List.set_cons_succ]); (try simp only [List.set_cons_zero])
        (refine wpAnyH_take (i := 14) (v := ?_) rfl (by kernel_rfl) (by kernel_rfl) (by kernel_rfl) (fun _ _ _ h => h) (Or.inl ⟨by kernel_rfl, ?_⟩) (by assumption) ?_; rotate_left; · (intro w hSw; (try dsimp only at hSw); go_simp; first | done | with_reducible rfl))
        (try simp only [Act.put]); (try simp only [List.getElem_toArray]); (try simp only [List.getElem_cons_succ]); (try simp only [List.getElem_cons_zero]); (try simp only [List.setIfInBounds_toArray]); (try simp only [List.set_cons_succ]); (try simp only [List.set_cons_zero])
        refine wpAnyH_done (by kernel_rfl) ?_ _
        have H3 := hid hHeld.1.out
        clear hHeld HT y0 y1 y2 y3 y4 y5 y6 x0 x1 x2 x3 x4 x5 x6 x7
        go_wp2
        go_ret
        refine ⟨by rw [HOk.out]; rfl, ?_⟩
        rw [HGo.out, HOk.out, if_neg (by simp)]
        exact H3.out.1.mv
      | false =>
        refine wp_region_held_drew (S := (fun W' => Hid (SvM w9 W' sb cb c (M.a F u) ∧ TxA W' u F.fams) ∧ (W'.cell? ⟨sb, 0, none⟩ = some u ∧ W'.cell? ⟨sb, 1, none⟩ = some (.string F.fr) ∧ W'.cell? ⟨sb, 2, none⟩ = some (.string F.tq) ∧ W'.cell? ⟨sb, 3, none⟩ = some (.int .i64 F.si) ∧ W'.cell? ⟨sb, 4, none⟩ = some (.int .i64 F.un) ∧ W'.cell? ⟨sb, 5, none⟩ = some (.int .i64 F.ve) ∧ W'.cell? ⟨sb, 6, none⟩ = some (.int .i64 F.ro)) ∧ (W'.cell? ⟨cb, 0, none⟩ = some (.string c.r) ∧ W'.cell? ⟨cb, 1, none⟩ = some (.string c.f) ∧ W'.cell? ⟨cb, 2, none⟩ = some (.string c.q) ∧ W'.cell? ⟨cb, 3, none⟩ = some (.int .i64 c.t) ∧ W'.cell? ⟨cb, 4, none⟩ = some (.int .i64 c.k) ∧ W'.cell? ⟨cb, 5, none⟩ = some (.int .i64 c.vk) ∧ W'.cell? ⟨cb, 6, none⟩ = some (.int .i64 c.vn) ∧ W'.cell? ⟨cb, 7, none⟩ = some (.string c.s)))) (by kernel_rfl) ?_ (fun hHeld => ?_)
        (exact tks_drew HT.out)
        (refine wpAnyH_take (i := 0) (v := ?_) rfl (by kernel_rfl) (by kernel_rfl) (by kernel_rfl) (fun _ _ _ h => h) (Or.inl ⟨by kernel_rfl, ?_⟩) (by assumption) ?_; rotate_left; · (intro w hSw; (try dsimp only at hSw); go_simp; first | done | with_reducible rfl))
        (try simp only [Act.put]); (try simp only [List.getElem_toArray]); (try simp only [List.getElem_cons_succ]); (try simp only [List.getElem_cons_zero]); (try simp only [List.setIfInBounds_toArray]); (try simp only [List.set_cons_succ]); (try simp only [List.set_cons_zero])
        (refine wpAnyH_take (i := 1) (v := ?_) rfl (by kernel_rfl) (by kernel_rfl) (by kernel_rfl) (fun _ _ _ h => h) (Or.inl ⟨by kernel_rfl, ?_⟩) (by assumption) ?_; rotate_left; · (intro w hSw; (try dsimp only at hSw); go_simp; first | done | with_reducible rfl))
        (try simp only [Act.put]); (try simp only [List.getElem_toArray]); (try simp only [List.getElem_cons_succ]); (try simp only [List.getElem_cons_zero]); (try simp only [List.setIfInBounds_toArray]); (try simp only [List.set_cons_succ]); (try simp only [List.set_cons_zero])
        (refine wpAnyH_take (i := 2) (v := ?_) rfl (by kernel_rfl) (by kernel_rfl) (by kernel_rfl) (fun _ _ _ h => h) (Or.inl ⟨by kernel_rfl, ?_⟩) (by assumption) ?_; rotate_left; · (intro w hSw; (try dsimp only at hSw); go_simp; first | done | with_reducible rfl))
        (try simp only [Act.put]); (try simp only [List.getElem_toArray]); (try simp only [List.getElem_cons_succ]); (try simp only [List.getElem_cons_zero]); (try simp only [List.setIfInBounds_toArray]); (try simp only [List.set_cons_succ]); (try simp only [List.set_cons_zero])
        (refine wpAnyH_take (i := 3) (v := ?_) rfl (by kernel_rfl) (by kernel_rfl) (by kernel_rfl) (fun _ _ _ h => h) (Or.inl ⟨by kernel_rfl, ?_⟩) (by assumption) ?_; rotate_left; · (intro w hSw; (try dsimp only at hSw); go_simp; first | done | with_reducible rfl))
        (try simp only [Act.put]); (try simp only [List.getElem_toArray]); (try simp only [List.getElem_cons_succ]); (try simp only [List.getElem_cons_zero]); (try simp only [List.setIfInBounds_toArray]); (try simp only [List.set_cons_succ]); (try simp only [List.set_cons_zero])
        (refine wpAnyH_take (i := 4) (v := ?_) rfl (by kernel_rfl) (by kernel_rfl) (by kernel_rfl) (fun _ _ _ h => h) (Or.inl ⟨by kernel_rfl, ?_⟩) (by assumption) ?_; rotate_left; · (intro w hSw; (try dsimp only at hSw); go_simp; first | done | with_reducible rfl))
        (try simp only [Act.put]); (try simp only [List.getElem_toArray]); (try simp only [List.getElem_cons_succ]); (try simp only [List.getElem_cons_zero]); (try simp only [List.setIfInBounds_toArray]); (try simp only [List.set_cons_succ]); (try simp only [List.set_cons_zero])
        (refine wpAnyH_ready (rs := [5]) (by kernel_rfl) (by simp) (AllReadyH.cons rfl (fun K hK => ?_) AllReadyH.nil); go_simp; (go_at_call 67; refine (HLe.out _ (by assumption)).mono ?_; rintro e w5 ⟨rfl, hb5⟩); refine hK.out _ _ ?_ (fun hHeld => ?_))
        · exact tks_call (by assumption) hb5
        clear hK K
        (try simp only [Act.put]); (try simp only [List.getElem_toArray]); (try simp only [List.getElem_cons_succ]); (try simp only [List.getElem_cons_zero]); (try simp only [List.setIfInBounds_toArray]); (try simp only [List.set_cons_succ]); (try simp only [List.set_cons_zero])
        (refine wpAnyH_take (i := 6) (v := ?_) rfl (by kernel_rfl) (by kernel_rfl) (by kernel_rfl) (fun _ _ _ h => h) (Or.inl ⟨by kernel_rfl, ?_⟩) (by assumption) ?_; rotate_left; · (intro w hSw; (try dsimp only at hSw); go_simp; first | done | with_reducible rfl))
        (try simp only [Act.put]); (try simp only [List.getElem_toArray]); (try simp only [List.getElem_cons_succ]); (try simp only [List.getElem_cons_zero]); (try simp only [List.setIfInBounds_toArray]); (try simp only [List.set_cons_succ]); (try simp only [List.set_cons_zero])
        (refine wpAnyH_take (i := 7) (v := ?_) rfl (by kernel_rfl) (by kernel_rfl) (by kernel_rfl) (fun _ _ _ h => h) (Or.inl ⟨by kernel_rfl, ?_⟩) (by assumption) ?_; rotate_left; · (intro w hSw; (try dsimp only at hSw); go_simp; first | done | with_reducible rfl))
        (try simp only [Act.put]); (try simp only [List.getElem_toArray]); (try simp only [List.getElem_cons_succ]); (try simp only [List.getElem_cons_zero]); (try simp only [List.setIfInBounds_toArray]); (try simp only [List.set_cons_succ]); (try simp only [List.set_cons_zero])
        (refine wpAnyH_take (i := 8) (v := ?_) rfl (by kernel_rfl) (by kernel_rfl) (by kernel_rfl) (fun _ _ _ h => h) (Or.inl ⟨by kernel_rfl, ?_⟩) (by assumption) ?_; rotate_left; · (intro w hSw; (try dsimp only at hSw); go_simp; first | done | with_reducible rfl))
        (try simp only [Act.put]); (try simp only [List.getElem_toArray]); (try simp only [List.getElem_cons_succ]); (try simp only [List.getElem_cons_zero]); (try simp only [List.setIfInBounds_toArray]); (try simp only [List.set_cons_succ]); (try simp only [List.set_cons_zero])
        (refine wpAnyH_ready (rs := [9]) (by kernel_rfl) (by simp) (AllReadyH.cons rfl (fun K hK => ?_) AllReadyH.nil); go_simp; (go_at_call 139; refine (HEn.out _ (by assumption)).mono ?_; rintro e w6 ⟨rfl, hb6⟩); refine hK.out _ _ ?_ (fun hHeld => ?_))
        · exact tks_call (by assumption) hb6
        clear hK K
        (try simp only [Act.put]); (try simp only [List.getElem_toArray]); (try simp only [List.getElem_cons_succ]); (try simp only [List.getElem_cons_zero]); (try simp only [List.setIfInBounds_toArray]); (try simp only [List.set_cons_succ]); (try simp only [List.set_cons_zero])
        (refine wpAnyH_take (i := 10) (v := ?_) rfl (by kernel_rfl) (by kernel_rfl) (by kernel_rfl) (fun _ _ _ h => h) (Or.inl ⟨by kernel_rfl, ?_⟩) (by assumption) ?_; rotate_left; · (intro w hSw; (try dsimp only at hSw); go_simp; first | done | with_reducible rfl))
        (try simp only [Act.put]); (try simp only [List.getElem_toArray]); (try simp only [List.getElem_cons_succ]); (try simp only [List.getElem_cons_zero]); (try simp only [List.setIfInBounds_toArray]); (try simp only [List.set_cons_succ]); (try simp only [List.set_cons_zero])
        (refine wpAnyH_take (i := 11) (v := ?_) rfl (by kernel_rfl) (by kernel_rfl) (by kernel_rfl) (fun _ _ _ h => h) (Or.inl ⟨by kernel_rfl, ?_⟩) (by assumption) ?_; rotate_left; · (intro w hSw; (try dsimp only at hSw); go_simp; first | done | with_reducible rfl))
        (try simp only [Act.put]); (try simp only [List.getElem_toArray]); (try simp only [List.getElem_cons_succ]); (try simp only [List.getElem_cons_zero]); (try simp only [List.setIfInBounds_toArray]); (try simp only [List.set_cons_succ]); (try simp only [List.set_cons_zero])
        (refine wpAnyH_take (i := 12) (v := ?_) rfl (by kernel_rfl) (by kernel_rfl) (by kernel_rfl) (fun _ _ _ h => h) (Or.inl ⟨by kernel_rfl, ?_⟩) (by assumption) ?_; rotate_left; · (intro w hSw; (try dsimp only at hSw); go_simp; first | done | with_reducible rfl))
        (try simp only [Act.put]); (try simp only [List.getElem_toArray]); (try simp only [List.getElem_cons_succ]); (try simp only [List.getElem_cons_zero]); (try simp only [List.setIfInBounds_toArray]); (try simp only [List.set_cons_succ]); (try simp only [List.set_cons_zero])
        (refine wpAnyH_ready (rs := [13]) (by kernel_rfl) (by simp) (AllReadyH.cons rfl (fun K hK => ?_) AllReadyH.nil); go_simp; (go_at_call 75; refine (HDn.out _ (by assumption)).mono ?_; rintro e w7 ⟨rfl, hb7⟩); refine hK.out _ _ ?_ (fun hHeld => ?_))
        · exact tks_call (by assumption) hb7
        clear hK K
        (try simp only [Act.put]); (try simp only [List.getElem_toArray]); (try simp only [List.getElem_cons_succ]); (try simp only [List.getElem_cons_zero]); (try simp only [List.setIfInBounds_toArray]); (try simp only [List.set_cons_succ]); (try simp only [List.set_cons_zero])
        (refine wpAnyH_take (i := 14) (v := ?_) rfl (by kernel_rfl) (by kernel_rfl) (by kernel_rfl) (fun _ _ _ h => h) (Or.inl ⟨by kernel_rfl, ?_⟩) (by assumption) ?_; rotate_left; · (intro w hSw; (try dsimp only at hSw); go_simp; first | done | with_reducible rfl))
        (try simp only [Act.put]); (try simp only [List.getElem_toArray]); (try simp only [List.getElem_cons_succ]); (try simp only [List.getElem_cons_zero]); (try simp only [List.setIfInBounds_toArray]); (try simp only [List.set_cons_succ]); (try simp only [List.set_cons_zero])
        refine wpAnyH_done (by kernel_rfl) ?_ _
        have H3 := hid hHeld.1.out
        clear hHeld HT y0 y1 y2 y3 y4 y5 y6 x0 x1 x2 x3 x4 x5 x6 x7
        have b11 := H3.out.1.tk
        have b12 := H3.out.1.an
        have b13 := H3.out.1.rw
        have f11 := H3.out.1.mv.b.free 11
        have f12 := H3.out.1.mv.b.free 12
        have f13 := H3.out.1.mv.b.free 13
        obtain ⟨hm1, hm2⟩ := HBd.out
        cases han : M.an with
        | true =>
          rw [han] at b12
          go_wp2
          go_ret
          refine ⟨by rw [HOk.out]; rfl, ?_⟩
          rw [HGo.out, HOk.out, if_pos (by rfl)]
          have HE : M.tkn = ⟨M.r, M.f, M.q, M.bg, M.tk + 1, M.an, M.rw9⟩ := by unfold SV.tkn; rw [han]; rfl
          rw [HE]
          exact H3.out.1.mv.set 11 (.int .i64 ((M.tk + 1 : Nat) : Int))
        | false =>
          rw [han] at b12
          go_wp2
          go_ret
          refine ⟨by rw [HOk.out]; rfl, ?_⟩
          rw [HGo.out, HOk.out, if_pos (by rfl)]
          have HE : M.tkn = ⟨M.r, M.f, M.q, M.bg, M.tk + 1, true, M.rw9 + 1⟩ := by unfold SV.tkn; rw [han]; rfl
          rw [HE]
          exact ((H3.out.1.mv.set 11 (.int .i64 ((M.tk + 1 : Nat) : Int))).set 12 (.bool true)).set 13 (.int .i64 ((M.rw9 + 1 : Nat) : Int))
end Go.Proofs.YtgfkobfkncpmoaaDoor
