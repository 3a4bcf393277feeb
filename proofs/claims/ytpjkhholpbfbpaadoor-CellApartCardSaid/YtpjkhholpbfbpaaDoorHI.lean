/- What package cell's sight does with a cell: lets. Conditions: the sight stands in a block of its own. -/
import Derived.Test.YtpjkhholpbfbpaaDoorHH
import Derived.Deep.RegionHeld3
import Derived.RegionTactic
namespace Go.Proofs.YtpjkhholpbfbpaaDoor
open Go.RowKit

/-- Behind a move: the sight, the boxed cell, the boxed rules. -/
structure LtS (w W : World) (sb : Nat) (G : SG) (c : CT) (ver life now : Int) : Prop where
  m : MS w sb W G.a
  b : Blk W w.heap.size 28 c.e.toArray
  r : Blk W (w.heap.size + 1) 79 #[.int .i64 ver, .int .i64 life, .int .i64 now]
theorem LtS.below {w W W' : World} {sb : Nat} {G : SG} {c : CT} {ver life now : Int} (h : LtS w W sb G c ver life now) (hb : Below W.heap.size W W') : LtS w W' sb G c ver life now := ⟨h.m.below hb, h.b.keep hb h.b.lt, h.r.keep hb h.r.lt⟩

theorem lets_start (g : SG) (c : CT) (ver life now : Int) (sb : Nat) (w W1 : World) (h : Blk w sb 111 g.a) (h1 : Blk W1 sb 111 (g.move c).a)
    (h2 : But ((w.alloc (.cells c.e.toArray 28)).alloc (.cells #[.int .i64 ver, .int .i64 life, .int .i64 now] 79)).heap.size sb ((w.alloc (.cells c.e.toArray 28)).alloc (.cells #[.int .i64 ver, .int .i64 life, .int .i64 now] 79)) W1) : LtS w W1 sb (g.move c) c ver life now := by
  have hlt := h.lt
  have b2 : Blk ((w.alloc (.cells c.e.toArray 28)).alloc (.cells #[.int .i64 ver, .int .i64 life, .int .i64 now] 79)) (w.heap.size + 1) 79 #[.int .i64 ver, .int .i64 life, .int .i64 now] := by have := Blk.new (w.alloc (.cells c.e.toArray 28)) 79 #[.int .i64 ver, .int .i64 life, .int .i64 now]; simpa using this
  have b1 := (Blk.new w 28 c.e.toArray).keep (below_new _ (.cells #[.int .i64 ver, .int .i64 life, .int .i64 now] 79)) (by simp)
  have bk : ∀ {k : Nat} {T : TypeId} {xs : Array Value}, Blk ((w.alloc (.cells c.e.toArray 28)).alloc (.cells #[.int .i64 ver, .int .i64 life, .int .i64 now] 79)) k T xs → k ≠ sb → Blk W1 k T xs := fun hb hne => by
    have hl := hb.lt
    unfold Blk at *
    rw [h2.block _ hl hne]; exact hb
  refine ⟨⟨h1, ?_⟩, bk b1 (by omega), bk b2 (by omega)⟩
  exact (But.of_below ((below_new w (.cells c.e.toArray 28)).alloc (by simp) _) sb).trans (h2.mono (by simp; omega))

/-- What the walk over the last test holds. -/
abbrev LtT (W0 : World) (sb bb : Nat) (G : SG) (c : CT) (ver life now : Int) (W : World) : Prop := Hid (Below W0.heap.size W0 W ∧ bb + 1 < W0.heap.size ∧ sb < W0.heap.size ∧ Blk W0 sb 111 G.a) ∧ W.cell? ⟨bb, 3, none⟩ = some (.int .i64 c.t) ∧ W.cell? ⟨bb + 1, 0, none⟩ = some (.int .i64 ver) ∧ W.cell? ⟨bb + 1, 1, none⟩ = some (.int .i64 life) ∧ W.cell? ⟨bb + 1, 2, none⟩ = some (.int .i64 now) ∧ W.cell? ⟨sb, 11, none⟩ = some (.int .i64 G.seen)
section
variable {W0 W W' : World} {sb bb : Nat} {G : SG} {c : CT} {ver life now : Int}
theorem ltt_blk (h : LtT W0 sb bb G c ver life now W) : Blk W sb 111 G.a := h.1.out.2.2.2.keep h.1.out.1 h.1.out.2.2.1
theorem ltt_drew (h : LtT W0 sb bb G c ver life now W) : LtT W0 sb bb G c ver life now W.drew := ⟨hid ⟨h.1.out.1.drew, h.1.out.2⟩, h.2⟩
theorem ltt_call (h : LtT W0 sb bb G c ver life now W) (hb : Below W.heap.size W W') : LtT W0 sb bb G c ver life now W' := by
  obtain ⟨hh, a0, a1, a2, a3, a4⟩ := h
  obtain ⟨hbw, h1, h2, h3⟩ := hh.out
  have hz := hbw.size
  have hc : ∀ b o, b < W0.heap.size → W'.cell? ⟨b, o, none⟩ = W.cell? ⟨b, o, none⟩ := fun b o h => hb.cell (p := ⟨b, o, none⟩) (show b < W.heap.size by omega)
  refine ⟨hid ⟨hbw.trans (hb.mono hz), h1, h2, h3⟩, ?_, ?_, ?_, ?_, ?_⟩ <;> (rw [hc _ _ (by omega)]; assumption)
end

set_option maxHeartbeats 4000000 in
set_option maxRecDepth 100000 in
theorem lets_any (g : SG) (c : CT) (ver life now : Int) (sb : Nat) (w : World) (h : Blk w sb 111 g.a) :
    Calls Tryd.prog 84 #[.pointer (some ⟨sb, 0, none⟩), c.v, .agg #[.int .i64 ver, .int .i64 life, .int .i64 now]] w fun e w' => e = .returned (.bool (g.lets c ver life now).2) ∧ Blk w' sb 111 (g.lets c ver life now).1.a ∧ But w.heap.size sb w w' := by
  have mixed : Tryd.prog.follows .mixedOrders = true := by kernel_rfl
  have HB := hid h
  have HM : Hid (∀ W, Blk W sb 111 g.a → Calls Tryd.prog 106 #[.pointer (some ⟨sb, 0, none⟩), c.v] W fun e w' => e = .returned (.tuple #[]) ∧ Blk w' sb 111 (g.move c).a ∧ But W.heap.size sb W w') := fun W hW => move_any g c sb W hW
  have HS : Hid (∀ W1, Blk W1 sb 111 (g.move c).a → But ((w.alloc (.cells c.e.toArray 28)).alloc (.cells #[.int .i64 ver, .int .i64 life, .int .i64 now] 79)).heap.size sb ((w.alloc (.cells c.e.toArray 28)).alloc (.cells #[.int .i64 ver, .int .i64 life, .int .i64 now] 79)) W1 → LtS w W1 sb (g.move c) c ver life now) := fun W1 h1 h2 => lets_start g c ver life now sb w W1 h h1 h2
  have HBk : Hid (Blk ((w.alloc (.cells c.e.toArray 28)).alloc (.cells #[.int .i64 ver, .int .i64 life, .int .i64 now] 79)) sb 111 g.a) := h.keep ((below_new w _).alloc (by simp) _) h.lt
  have hlt := h.lt
  unfold SG.lets
  obtain ⟨G, hG⟩ : ∃ G, g.move c = G := ⟨_, rfl⟩
  rw [hG] at HM HS ⊢
  clear h hG
  simp only
  obtain ⟨R, hR⟩ : ∃ R, (if c.k = 4 then ((⟨G.at', max G.fam c.t, G.col, G.cell, G.seen⟩, false) : SG × Bool) else if c.k = 3 then (⟨G.at', G.fam, true, G.cell, G.seen⟩, false) else if c.k = 2 then (⟨G.at', G.fam, G.col, c.t, G.seen⟩, false) else if c.k = 1 ∧ G.has c.t = true ∧ livesM life now c.t = true ∧ G.seen < ver then (⟨G.at', G.fam, G.col, G.cell, IntKind.i64.wrap (G.seen + 1)⟩, true) else (G, false)) = R := ⟨_, rfl⟩
  rw [hR]
  have HR := hid hR
  clear hR
  go_enter Tryd.func84, Tryd.ntmps84
  go_upto_region 2 with (go_at_call 106; refine (HM.out _ HBk.out).mono ?_; rintro e w1 ⟨rfl, h1, h2⟩; have HL := hid (HS.out w1 h1 h2); clear h1 h2)
  obtain ⟨bb, hbb⟩ : ∃ bb, w.heap.size = bb := ⟨_, rfl⟩
  rw [hbb]
  have HBB := hid hbb
  have b3 : w1.cell? ⟨bb, 3, none⟩ = some (.int .i64 c.t) := by rw [← hbb]; exact HL.out.b.cell 3
  have b4 : w1.cell? ⟨bb, 4, none⟩ = some (.int .i64 c.k) := by rw [← hbb]; exact HL.out.b.cell 4
  have r0 : w1.cell? ⟨bb + 1, 0, none⟩ = some (.int .i64 ver) := by rw [← hbb]; exact HL.out.r.cell 0
  have r1 : w1.cell? ⟨bb + 1, 1, none⟩ = some (.int .i64 life) := by rw [← hbb]; exact HL.out.r.cell 1
  have r2 : w1.cell? ⟨bb + 1, 2, none⟩ = some (.int .i64 now) := by rw [← hbb]; exact HL.out.r.cell 2
  have a8 : w1.cell? ⟨sb, 8, none⟩ = some (.int .i64 G.fam) := HL.out.m.b.cell 8
  have a9 : w1.cell? ⟨sb, 9, none⟩ = some (.bool G.col) := HL.out.m.b.cell 9
  have a10 : w1.cell? ⟨sb, 10, none⟩ = some (.int .i64 G.cell) := HL.out.m.b.cell 10
  have a11 : w1.cell? ⟨sb, 11, none⟩ = some (.int .i64 G.seen) := HL.out.m.b.cell 11
  have hf : ∀ j, w1.frozen? ⟨sb, j, none⟩ = false := fun j => HL.out.m.b.free j
  have HBbw : Hid (bb + 1 < w1.heap.size ∧ sb < w1.heap.size) := by have h1 := HL.out.r.lt; have h2 := HL.out.m.b.lt; rw [hbb] at h1; exact ⟨h1, h2⟩
  clear hbb HM HS HBk HB hlt
  by_cases k4 : c.k = 4
  · have HRk : Hid (R = _) := hid (HR.out.symm.trans (if_pos k4))
    have q4 : (c.k == 4) = true := by simpa using k4
    clear k4
    go_upto_region 4 with (fail)
    go_region
    go_wp2
    go_ret
    rw [HRk.out]
    have m := (HL.out.m.drewN 1).set 8 (.int .i64 (max G.fam c.t))
    exact ⟨rfl, m.b, m.o⟩
  have HR := hid ((if_neg k4).symm.trans HR.out)
  have q4 : (c.k == 4) = false := by simpa using k4
  clear k4
  by_cases k3 : c.k = 3
  · have HRk : Hid (R = _) := hid (HR.out.symm.trans (if_pos k3))
    have q3 : (c.k == 3) = true := by simpa using k3
    clear k3
    go_wp2
    go_ret
    rw [HRk.out]
    have m := HL.out.m.set 9 (.bool true)
    exact ⟨rfl, m.b, m.o⟩
  have HR := hid ((if_neg k3).symm.trans HR.out)
  have q3 : (c.k == 3) = false := by simpa using k3
  clear k3
  by_cases k2 : c.k = 2
  · have HRk : Hid (R = _) := hid (HR.out.symm.trans (if_pos k2))
    have q2 : (c.k == 2) = true := by simpa using k2
    clear k2
    go_wp2
    go_ret
    rw [HRk.out]
    have m := HL.out.m.set 10 (.int .i64 c.t)
    exact ⟨rfl, m.b, m.o⟩
  have HR := hid ((if_neg k2).symm.trans HR.out)
  have q2 : (c.k == 2) = false := by simpa using k2
  clear k2
  by_cases k1 : c.k = 1
  · have q1 : (c.k == 1) = true := by simpa using k1
    have HK1 := hid k1
    clear k1
    have hH : Hid (∀ W, Blk W sb 111 G.a → Calls Tryd.prog 107 #[.pointer (some ⟨sb, 0, none⟩), .int .i64 c.t] W fun e w' => e = .returned (.bool (G.has c.t)) ∧ w' = W) := fun W hW => has_any G c.t sb W hW
    have hL : Hid (∀ W, Calls Tryd.prog 108 #[.agg #[.int .i64 ver, .int .i64 life, .int .i64 now], .int .i64 c.t] W fun e w' => e = .returned (.bool (livesM life now c.t)) ∧ Below W.heap.size W w') := fun W => lives_any ver life now c.t W
    obtain ⟨bh, hbh⟩ : ∃ bh, G.has c.t = bh := ⟨_, rfl⟩
    obtain ⟨bl, hbl⟩ : ∃ bl, livesM life now c.t = bl := ⟨_, rfl⟩
    rw [hbh] at hH
    rw [hbl] at hL
    rw [hbh, hbl] at HR
    clear hbh hbl
    have HT : Hid (LtT w1 sb bb G c ver life now w1) := ⟨hid ⟨Below.refl _ _, HBbw.out.1, HBbw.out.2, HL.out.m.b⟩, b3, r0, r1, r2, a11⟩
    go_upto_region 10 with (fail)
    cases bh with
    | false =>
      have HRk : Hid (R = _) := hid (HR.out.symm.trans (if_neg (by simp)))
      have HS1 : Hid (Blk w1 sb 111 G.a) := HL.out.m.b
      have hH2 : Hid (∀ n, Calls Tryd.prog 107 #[.pointer (some ⟨sb, 0, none⟩), .int .i64 c.t] (w1.drewN n) fun e w' => e = .returned (.bool false) ∧ w' = w1.drewN n) := fun n => hH.out _ HS1.out
      go_quiet ((go_at_call 107; with_reducible exact Calls.quiet_of_same (hH2.out _)))
      go_wp2
      go_ret
      rw [HRk.out]
      have m := HL.out.m.drewN nq
      exact ⟨rfl, m.b, m.o⟩
    | true =>
      cases bl with
      | false =>
        have HRk : Hid (R = _) := hid (HR.out.symm.trans (if_neg (by simp)))
        refine wp_region_held_drew (S := (fun W' => Hid (Below w1.heap.size w1 W' ∧ bb + 1 < w1.heap.size ∧ sb < w1.heap.size ∧ Blk w1 sb 111 G.a) ∧ W'.cell? ⟨bb, 3, none⟩ = some (.int .i64 c.t) ∧ W'.cell? ⟨bb + 1, 0, none⟩ = some (.int .i64 ver) ∧ W'.cell? ⟨bb + 1, 1, none⟩ = some (.int .i64 life) ∧ W'.cell? ⟨bb + 1, 2, none⟩ = some (.int .i64 now) ∧ W'.cell? ⟨sb, 11, none⟩ = some (.int .i64 G.seen))) (by kernel_rfl) ?_ (fun hHeld => ?_)
        (exact ltt_drew HT.out)
        (refine wpAnyH_take (i := 0) (v := ?_) rfl (by kernel_rfl) (by kernel_rfl) (by kernel_rfl) (fun _ _ _ h => h) (Or.inl ⟨by kernel_rfl, ?_⟩) (by assumption) ?_; rotate_left; · (intro w hSw; (try dsimp only at hSw); go_simp; first | done | with_reducible rfl))
        (try simp only [Act.put]); (try simp only [List.getElem_toArray]); (try simp only [List.getElem_cons_succ]); (try simp only [List.getElem_cons_zero]); (try simp only [List.setIfInBounds_toArray]); (try simp only [List.set_cons_succ]); (try simp only [List.set_cons_zero])
        (refine wpAnyH_take (i := 1) (v := ?_) rfl (by kernel_rfl) (by kernel_rfl) (by kernel_rfl) (fun _ _ _ h => h) (Or.inl ⟨by kernel_rfl, ?_⟩) (by assumption) ?_; rotate_left; · (intro w hSw; (try dsimp only at hSw); go_simp; first | done | with_reducible rfl))
        (try simp only [Act.put]); (try simp only [List.getElem_toArray]); (try simp only [List.getElem_cons_succ]); (try simp only [List.getElem_cons_zero]); (try simp only [List.setIfInBounds_toArray]); (try simp only [List.set_cons_succ]); (try simp only [List.set_cons_zero])
        (refine wpAnyH_take (i := 2) (v := ?_) rfl (by kernel_rfl) (by kernel_rfl) (by kernel_rfl) (fun _ _ _ h => h) (Or.inl ⟨by kernel_rfl, ?_⟩) (by assumption) ?_; rotate_left; · (intro w hSw; (try dsimp only at hSw); go_simp; first | done | with_reducible rfl))
        (try simp only [Act.put]); (try simp only [List.getElem_toArray]); (try simp only [List.getElem_cons_succ]); (try simp only [List.getElem_cons_zero]); (try simp only [List.setIfInBounds_toArray]); (try simp only [List.set_cons_succ]); (try simp only [List.set_cons_zero])
        (refine wpAnyH_ready (rs := [3]) (by kernel_rfl) (by simp) (AllReadyH.cons rfl (fun K hK => ?_) AllReadyH.nil); go_simp; (go_at_call 107; refine (hH.out _ (ltt_blk (by assumption))).mono ?_; rintro e w5 ⟨rfl, rfl⟩); refine hK.out _ _ ?_ (fun hHeld => ?_))
        · assumption
        clear hK K
        (try simp only [Act.put]); (try simp only [List.getElem_toArray]); (try simp only [List.getElem_cons_succ]); (try simp only [List.getElem_cons_zero]); (try simp only [List.setIfInBounds_toArray]); (try simp only [List.set_cons_succ]); (try simp only [List.set_cons_zero])
        (refine wpAnyH_take (i := 4) (v := ?_) rfl (by kernel_rfl) (by kernel_rfl) (by kernel_rfl) (fun _ _ _ h => h) (Or.inl ⟨by kernel_rfl, ?_⟩) (by assumption) ?_; rotate_left; · (intro w hSw; (try dsimp only at hSw); go_simp; first | done | with_reducible rfl))
        (try simp only [Act.put]); (try simp only [List.getElem_toArray]); (try simp only [List.getElem_cons_succ]); (try simp only [List.getElem_cons_zero]); (try simp only [List.setIfInBounds_toArray]); (try simp only [List.set_cons_succ]); (try simp only [List.set_cons_zero])
        (refine wpAnyH_take (i := 5) (v := ?_) rfl (by kernel_rfl) (by kernel_rfl) (by kernel_rfl) (fun _ _ _ h => h) (Or.inl ⟨by kernel_rfl, ?_⟩) (by assumption) ?_; rotate_left; · (intro w hSw; (try dsimp only at hSw); go_simp; first | done | with_reducible rfl))
        (try simp only [Act.put]); (try simp only [List.getElem_toArray]); (try simp only [List.getElem_cons_succ]); (try simp only [List.getElem_cons_zero]); (try simp only [List.setIfInBounds_toArray]); (try simp only [List.set_cons_succ]); (try simp only [List.set_cons_zero])
        (refine wpAnyH_take (i := 6) (v := ?_) rfl (by kernel_rfl) (by kernel_rfl) (by kernel_rfl) (fun _ _ _ h => h) (Or.inl ⟨by kernel_rfl, ?_⟩) (by assumption) ?_; rotate_left; · (intro w hSw; (try dsimp only at hSw); go_simp; first | done | with_reducible rfl))
        (try simp only [Act.put]); (try simp only [List.getElem_toArray]); (try simp only [List.getElem_cons_succ]); (try simp only [List.getElem_cons_zero]); (try simp only [List.setIfInBounds_toArray]); (try simp only [List.set_cons_succ]); (try simp only [List.set_cons_zero])
        (refine wpAnyH_take (i := 7) (v := ?_) rfl (by kernel_rfl) (by kernel_rfl) (by kernel_rfl) (fun _ _ _ h => h) (Or.inl ⟨by kernel_rfl, ?_⟩) (by assumption) ?_; rotate_left; · (intro w hSw; (try dsimp only at hSw); go_simp; first | done | with_reducible rfl))
        (try simp only [Act.put]); (try simp only [List.getElem_toArray]); (try simp only [List.getElem_cons_succ]); (try simp only [List.getElem_cons_zero]); (try simp only [List.setIfInBounds_toArray]); (try simp only [List.set_cons_succ]); (try simp only [List.set_cons_zero])
        (refine wpAnyH_ready (rs := [8]) (by kernel_rfl) (by simp) (AllReadyH.cons rfl (fun K hK => ?_) AllReadyH.nil); go_simp; (go_at_call 108; refine (hL.out _).mono ?_; rintro e w5 ⟨rfl, hb5⟩); refine hK.out _ _ ?_ (fun hHeld => ?_))
        · exact ltt_call (by assumption) hb5
        clear hK K
        (try simp only [Act.put]); (try simp only [List.getElem_toArray]); (try simp only [List.getElem_cons_succ]); (try simp only [List.getElem_cons_zero]); (try simp only [List.setIfInBounds_toArray]); (try simp only [List.set_cons_succ]); (try simp only [List.set_cons_zero])
        (refine wpAnyH_take (i := 9) (v := ?_) rfl (by kernel_rfl) (by kernel_rfl) (by kernel_rfl) (fun _ _ _ h => h) (Or.inl ⟨by kernel_rfl, ?_⟩) (by assumption) ?_; rotate_left; · (intro w hSw; (try dsimp only at hSw); go_simp; first | done | with_reducible rfl))
        (try simp only [Act.put]); (try simp only [List.getElem_toArray]); (try simp only [List.getElem_cons_succ]); (try simp only [List.getElem_cons_zero]); (try simp only [List.setIfInBounds_toArray]); (try simp only [List.set_cons_succ]); (try simp only [List.set_cons_zero])
        (refine wpAnyH_take (i := 10) (v := ?_) rfl (by kernel_rfl) (by kernel_rfl) (by kernel_rfl) (fun _ _ _ h => h) (Or.inl ⟨by kernel_rfl, ?_⟩) (by assumption) ?_; rotate_left; · (intro w hSw; (try dsimp only at hSw); go_simp; first | done | with_reducible rfl))
        (try simp only [Act.put]); (try simp only [List.getElem_toArray]); (try simp only [List.getElem_cons_succ]); (try simp only [List.getElem_cons_zero]); (try simp only [List.setIfInBounds_toArray]); (try simp only [List.set_cons_succ]); (try simp only [List.set_cons_zero])
        (refine wpAnyH_take (i := 11) (v := undef) rfl (by kernel_rfl) (by kernel_rfl) (by kernel_rfl) (fun _ _ _ h => h) (Or.inr ⟨by kernel_rfl, rfl⟩) (by assumption) ?_; (try simp only [Act.put]); (try simp only [List.getElem_toArray]); (try simp only [List.getElem_cons_succ]); (try simp only [List.getElem_cons_zero]); (try simp only [List.setIfInBounds_toArray]); (try simp only [List.set_cons_succ]); (try simp only [List.set_cons_zero]))
        (refine wpAnyH_take (i := 12) (v := undef) rfl (by kernel_rfl) (by kernel_rfl) (by kernel_rfl) (fun _ _ _ h => h) (Or.inr ⟨by kernel_rfl, rfl⟩) (by assumption) ?_; (try simp only [Act.put]); (try simp only [List.getElem_toArray]); (try simp only [List.getElem_cons_succ]); (try simp only [List.getElem_cons_zero]); (try simp only [List.setIfInBounds_toArray]); (try simp only [List.set_cons_succ]); (try simp only [List.set_cons_zero]))
        (refine wpAnyH_take (i := 13) (v := undef) rfl (by kernel_rfl) (by kernel_rfl) (by kernel_rfl) (fun _ _ _ h => h) (Or.inr ⟨by kernel_rfl, rfl⟩) (by assumption) ?_; (try simp only [Act.put]); (try simp only [List.getElem_toArray]); (try simp only [List.getElem_cons_succ]); (try simp only [List.getElem_cons_zero]); (try simp only [List.setIfInBounds_toArray]); (try simp only [List.set_cons_succ]); (try simp only [List.set_cons_zero]))
        (refine wpAnyH_take (i := 14) (v := undef) rfl (by kernel_rfl) (by kernel_rfl) (by kernel_rfl) (fun _ _ _ h => h) (Or.inr ⟨by kernel_rfl, rfl⟩) (by assumption) ?_; (try simp only [Act.put]); (try simp only [List.getElem_toArray]); (try simp only [List.getElem_cons_succ]); (try simp only [List.getElem_cons_zero]); (try simp only [List.setIfInBounds_toArray]); (try simp only [List.set_cons_succ]); (try simp only [List.set_cons_zero]))
        (refine wpAnyH_take (i := 15) (v := undef) rfl (by kernel_rfl) (by kernel_rfl) (by kernel_rfl) (fun _ _ _ h => h) (Or.inr ⟨by kernel_rfl, rfl⟩) (by assumption) ?_; (try simp only [Act.put]); (try simp only [List.getElem_toArray]); (try simp only [List.getElem_cons_succ]); (try simp only [List.getElem_cons_zero]); (try simp only [List.setIfInBounds_toArray]); (try simp only [List.set_cons_succ]); (try simp only [List.set_cons_zero]))
        (refine wpAnyH_take (i := 16) (v := undef) rfl (by kernel_rfl) (by kernel_rfl) (by kernel_rfl) (fun _ _ _ h => h) (Or.inr ⟨by kernel_rfl, rfl⟩) (by assumption) ?_; (try simp only [Act.put]); (try simp only [List.getElem_toArray]); (try simp only [List.getElem_cons_succ]); (try simp only [List.getElem_cons_zero]); (try simp only [List.setIfInBounds_toArray]); (try simp only [List.set_cons_succ]); (try simp only [List.set_cons_zero]))
        (refine wpAnyH_take (i := 17) (v := undef) rfl (by kernel_rfl) (by kernel_rfl) (by kernel_rfl) (fun _ _ _ h => h) (Or.inr ⟨by kernel_rfl, rfl⟩) (by assumption) ?_; (try simp only [Act.put]); (try simp only [List.getElem_toArray]); (try simp only [List.getElem_cons_succ]); (try simp only [List.getElem_cons_zero]); (try simp only [List.setIfInBounds_toArray]); (try simp only [List.set_cons_succ]); (try simp only [List.set_cons_zero]))
        (refine wpAnyH_take (i := 18) (v := ?_) rfl (by kernel_rfl) (by kernel_rfl) (by kernel_rfl) (fun _ _ _ h => h) (Or.inl ⟨by kernel_rfl, ?_⟩) (by assumption) ?_; rotate_left; · (intro w hSw; (try dsimp only at hSw); go_simp; first | done | with_reducible rfl))
        (try simp only [Act.put]); (try simp only [List.getElem_toArray]); (try simp only [List.getElem_cons_succ]); (try simp only [List.getElem_cons_zero]); (try simp only [List.setIfInBounds_toArray]); (try simp only [List.set_cons_succ]); (try simp only [List.set_cons_zero])
        refine wpAnyH_done (by kernel_rfl) ?_ _
        have hLast := hHeld
        go_wp2
        go_ret
        rw [HRk.out]
        have m := HL.out.m.below hLast.1.out.1
        exact ⟨rfl, m.b, m.o⟩
      | true =>
        by_cases hs : G.seen < ver
        · have HRk : Hid (R = _) := hid (HR.out.symm.trans (if_pos ⟨HK1.out, rfl, rfl, hs⟩))
          obtain ⟨x, hx⟩ : ∃ x, IntKind.i64.wrap (G.seen + 1) = x := ⟨_, rfl⟩
          rw [hx] at HRk
          go_region_held3 (fun W' => Hid (Below w1.heap.size w1 W' ∧ bb + 1 < w1.heap.size ∧ sb < w1.heap.size ∧ Blk w1 sb 111 G.a) ∧ W'.cell? ⟨bb, 3, none⟩ = some (.int .i64 c.t) ∧ W'.cell? ⟨bb + 1, 0, none⟩ = some (.int .i64 ver) ∧ W'.cell? ⟨bb + 1, 1, none⟩ = some (.int .i64 life) ∧ W'.cell? ⟨bb + 1, 2, none⟩ = some (.int .i64 now) ∧ W'.cell? ⟨sb, 11, none⟩ = some (.int .i64 G.seen))
            (first | exact HT.out | exact ltt_drew HT.out | exact ltt_call (by assumption) hb5 | exact ltt_drew (by assumption) | assumption)
            (first | (go_at_call 107; refine (hH.out _ (ltt_blk (by assumption))).mono ?_; rintro e w5 ⟨rfl, rfl⟩) | (go_at_call 108; refine (hL.out _).mono ?_; rintro e w5 ⟨rfl, hb5⟩))
          rename_i hLast
          have hf : w5.frozen? ⟨sb, 11, none⟩ = false := (HL.out.m.below hLast.1.out.1).b.free 11
          have a11 := hLast.2.2.2.2.2
          have HX := hid (HL.out.m.below hLast.1.out.1)
          clear hLast
          go_wp2
          go_ret
          rw [HRk.out]
          have m := HX.out.set 11 (.int .i64 x)
          exact ⟨rfl, m.b, m.o⟩
        · have HRk : Hid (R = _) := hid (HR.out.symm.trans (if_neg (by rintro ⟨-, -, -, h⟩; exact hs h)))
          go_region_held3 (fun W' => Hid (Below w1.heap.size w1 W' ∧ bb + 1 < w1.heap.size ∧ sb < w1.heap.size ∧ Blk w1 sb 111 G.a) ∧ W'.cell? ⟨bb, 3, none⟩ = some (.int .i64 c.t) ∧ W'.cell? ⟨bb + 1, 0, none⟩ = some (.int .i64 ver) ∧ W'.cell? ⟨bb + 1, 1, none⟩ = some (.int .i64 life) ∧ W'.cell? ⟨bb + 1, 2, none⟩ = some (.int .i64 now) ∧ W'.cell? ⟨sb, 11, none⟩ = some (.int .i64 G.seen))
            (first | exact HT.out | exact ltt_drew HT.out | exact ltt_call (by assumption) hb5 | exact ltt_drew (by assumption) | assumption)
            (first | (go_at_call 107; refine (hH.out _ (ltt_blk (by assumption))).mono ?_; rintro e w5 ⟨rfl, rfl⟩) | (go_at_call 108; refine (hL.out _).mono ?_; rintro e w5 ⟨rfl, hb5⟩))
          rename_i hLast
          go_wp2
          go_ret
          rw [HRk.out]
          have m := HL.out.m.below hLast.1.out.1
          exact ⟨rfl, m.b, m.o⟩
  · have q1 : (c.k == 1) = false := by simpa using k1
    have HRk : Hid (R = _) := hid (HR.out.symm.trans (if_neg (by rintro ⟨h, -⟩; exact k1 h)))
    clear k1
    go_wp2
    go_ret
    rw [HRk.out]
    exact ⟨rfl, HL.out.m.b, HL.out.m.o⟩
end Go.Proofs.YtpjkhholpbfbpaaDoor
