/- (*store.Disk).Write. Conditions: the disk stands; names no longer than any are; numbers below 2^40. -/
import Derived.Test.YtofkfafdodhmdaaStG
namespace Go.Proofs.Ytofkfafdodhmdaa
open Go.RowKit

def newV (x : ByteArray) : Fv := ⟨x, [], 0, [], false⟩
def wrV (x : ByteArray) (b : List UInt8) (u : Nat) (vs : Vs) : Vs := match getV x vs with
  | some _ => updV x (Fv.add b u) vs
  | none => insV ((newV x).add b u) vs
theorem add_n (f : Fv) (b : List UInt8) (u : Nat) : (f.add b u).n = f.n := by unfold Fv.add; split <;> rfl
theorem add_d (f : Fv) (b : List UInt8) (u : Nat) : (f.add b u).d = f.d ++ b := by
  unfold Fv.add
  split
  · rename_i h; rw [h, List.append_nil]
  · rfl
theorem add_m (f : Fv) (b : List UInt8) (u : Nat) : (f.add b u).m = f.m := by unfold Fv.add; split <;> rfl
theorem add_any {B : Nat} {f : Fl} {w : World} (vb : Value) (b : List UInt8) (u : Nat) (h : FlAt w B f) (hb : SlA w vb b) (hd : f.d.length + b.length ≤ 100000000) (hu : u ≤ 1000000000000) (hl : f.l.length ≤ 1000000) (hr : ∀ r ∈ f.l, r.1 + r.2 ≤ 1000000000000) : Calls Try.prog 47 #[.pointer (some ⟨f.b, 0, none⟩), vb, .int .i64 (u : Int)] w fun e w' => e = .returned (.tuple #[]) ∧ ∃ g, AdE w w' B f g (f.v.add b u) := by
  obtain ⟨A, c, rfl, _, _, hh, _⟩ := hb
  by_cases h0 : 0 < b.length
  · have hh2 := hh
    obtain ⟨bb, off, e, _⟩ := hh h0
    subst e
    exact add_some _ c u b h hh2 h0 hu hd hl hr
  · have e : b = [] := List.eq_nil_of_length_eq_zero (by omega)
    subst e
    refine (add_nil A c (u : Int)).mono ?_
    rintro e w' ⟨rfl, hw⟩
    exact ⟨rfl, f, h.keep fun k q => hw.block k (h.lt q).2, (if_pos rfl).symm, rfl, Chg.of_below _ hw, fun k q => .inl q⟩

set_option maxHeartbeats 1000000 in
theorem write_form (db : Nat) (x : ByteArray) (vb : Value) (hx : x.size ≤ maxLen) (hr : rightB x = false) (w : World) : Calls Try.prog 30 #[.pointer (some ⟨db, 0, none⟩), .string x, vb] w fun e w' => e = .returned (.int .i64 10) ∧ Below w.heap.size w w' := by
  have HC := hid (right_ok x hx w)
  rw [hr] at HC
  go_enter Try.func30, Try.ntmps30
  go_wp2_with (go_at_call 45; refine HC.out.mono ?_; rintro e w5 ⟨rfl, hb5⟩)
  go_ret
  exact ⟨rfl, hb5⟩

set_option maxHeartbeats 1000000 in
theorem write_full {B db mb : Nat} {fs : List Fl} {z u : Int} {w : World} (h : DkAt w B db mb fs z u) (x : ByteArray) (A : Option Addr) (n c : Nat) (hx : x.size ≤ maxLen) (hr : rightB x = true) (hz : 0 ≤ z ∧ z ≤ 16777216) (hs : (sizeF fs : Int) ≤ z) (hn : z < (sizeF fs : Int) + (n : Int)) : Calls Try.prog 30 #[.pointer (some ⟨db, 0, none⟩), .string x, .slice A n c] w fun e w' => e = .returned (.int .i64 21) ∧ Below w.heap.size w w' := by
  have HC := hid (right_ok x hx w)
  rw [hr] at HC
  have HR : Hid (∀ W, Below w.heap.size w W → Calls Try.prog 24 #[.pointer (some ⟨db, 0, none⟩)] W fun e w' => e = .returned (.int .i64 (z - (sizeF fs : Int))) ∧ Below W.heap.size W w') := fun W hW => room_ok (h.below hW) hz hs
  generalize sizeF fs = S at *
  have hq : z - (S : Int) < (n : Int) := by omega
  clear h
  go_enter Try.func30, Try.ntmps30
  go_wp2_with (first
    | (go_at_call 45; refine HC.out.mono ?_; rintro e w5 ⟨rfl, hb5⟩)
    | (go_at_call 24; refine (HR.out _ hb5).mono ?_; rintro e w6 ⟨rfl, hb6⟩))
  go_ret
  exact ⟨rfl, hb5.trans (hb6.mono hb5.size)⟩

set_option maxRecDepth 100000 in
set_option maxHeartbeats 8000000 in
theorem write_ok {B db mb : Nat} {fs : List Fl} {z : Int} {u : Nat} {w : World} (h : DkAt w B db mb fs z (u : Int)) (x : ByteArray) (vb : Value) (b : List UInt8) (hx : x.size ≤ 1000) (hr : rightB x = true) (hb : SlA w vb b) (hz : 0 ≤ z ∧ z ≤ 16777216) (hs : (sizeF fs : Int) + (b.length : Int) ≤ z) (hu : u ≤ 1000000000000) (hfl : ∀ f ∈ fs, f.l.length ≤ 1000000 ∧ ∀ r ∈ f.l, r.1 + r.2 ≤ 1000000000000) (hlen : fs.length ≤ 100000) :
    Calls Try.prog 30 #[.pointer (some ⟨db, 0, none⟩), .string x, vb] w fun e w' => e = .returned (.int .i64 0) ∧ ∃ fs', DkAt w' B db mb fs' z ((u + b.length : Nat) : Int) ∧ viewF fs' = wrV x b u (viewF fs) ∧ Chg (Ft db mb fs) w w' ∧ (∀ k, Ft db mb fs' k → Ft db mb fs k ∨ w.heap.size ≤ k) := by
  have hxm : x.size ≤ maxLen := by unfold maxLen; omega
  have HC := hid (right_ok x hxm w)
  rw [hr] at HC
  have HR : Hid (∀ W, Below w.heap.size w W → Calls Try.prog 24 #[.pointer (some ⟨db, 0, none⟩)] W fun e w' => e = .returned (.int .i64 (z - (sizeF fs : Int))) ∧ Below W.heap.size W w') := fun W hW => room_ok (h.below hW) hz (by omega)
  have HD := hid h
  have hSb := hid hb
  obtain ⟨A0, c0, e0, _, _, _, _⟩ := hb
  subst e0
  obtain ⟨S, hSe⟩ : ∃ S, S = sizeF fs := ⟨_, rfl⟩
  rw [← hSe] at HR hs
  have hS := hid hSe
  have hq : ¬ (z - (S : Int) < (b.length : Int)) := by omega
  have hwS : IntKind.i64.wrap ((S : Int) + (b.length : Int)) = ((S + b.length : Nat) : Int) := by rw [IntKind.wrap_i64]; omega
  have hwu : IntKind.i64.wrap ((u : Int) + (b.length : Int)) = ((u + b.length : Nat) : Int) := by rw [IntKind.wrap_i64]; omega
  have hbl : Hid (S + b.length ≤ 16777216) := by unfold Hid; omega
  have hu2 := hid hu
  clear hSe hs hu
  have hu := hu2
  have HFL := hid hfl
  clear h hu2 hfl
  rcases part x HD.out.ri with ⟨A, f, C, e1, e2⟩ | ⟨A, C, e1, hA, hC⟩
  · subst e1
    subst e2
    have HN : Hid (∀ W, Below w.heap.size w W → W.cell? ⟨db, 0, none⟩ = some (.map (some mb)) ∧ (Instr.lookup 57 (.map (some mb)) (.string f.n) false).run Try.prog W = .ok (.pointer (some ⟨f.b, 0, none⟩)) W ∧ W.cell? ⟨db, 3, none⟩ = some (.int .i64 (u : Int)) ∧ Dk W B db mb (A ++ f :: C) z ((sizeF (A ++ f :: C) : Nat) : Int) (u : Int)) := fun W hW => ⟨(HD.out.below hW).blk.cell 0, look_some (HD.out.below hW).map (HD.out.below hW).ri hxm, (HD.out.below hW).blk.cell 3, HD.out.below hW⟩
    go_enter Try.func30, Try.ntmps30
    go_upto_region 9 with (first
      | (go_at_call 45; refine HC.out.mono ?_; rintro e w5 ⟨rfl, hb5⟩)
      | (go_at_call 24; refine (HR.out _ hb5).mono ?_; rintro e w6 ⟨rfl, hb6⟩; have B6 := hid (hb5.trans (hb6.mono hb5.size)); clear hb5 hb6; obtain ⟨m0, hl, m3, hd⟩ := HN.out w6 B6.out; have D6 := hid hd; clear hd))
    clear m0 hl m3 HN HC HR
    have hfd : Hid (f.d.length ≤ S) := by unfold Hid; rw [hS.out, sizeF_mid]; omega
    have HAd := hid (add_any (f := f) (.slice A0 b.length c0) b u (D6.out.fl _ (by simp)) (hSb.out.below B6.out) (by have := hbl.out; have := hfd.out; omega) hu.out (HFL.out f (by simp)).1 (HFL.out f (by simp)).2)
    have m3 : w6.cell? ⟨db, 3, none⟩ = some (.int .i64 (u : Int)) := D6.out.blk.cell 3
    go_upto_region 10 with (go_at_call 47; (with_reducible refine HAd.out.mono ?_); rintro e w8 ⟨rfl, g, hg⟩; have HG := hid hg; clear hg)
    have D8 := hid (D6.out.upd HG.out.ch HG.out.sat (by have := congrArg Fv.n HG.out.vw; rw [add_n] at this; exact this) HG.out.bk HG.out.su)
    clear m3 HAd
    have m2 : w8.cell? ⟨db, 2, none⟩ = some (.int .i64 (S : Int)) := by rw [hS.out]; exact D8.out.blk.cell 2
    have g2 : w8.frozen? ⟨db, 2, none⟩ = false := D8.out.blk.free 2
    go_upto_region 11 with (fail)
    have D9 := hid (D8.out.own (z' := z) (s' := ((S + b.length : Nat) : Int)) (u' := (u : Int)) 2 (.int .i64 ((S + b.length : Nat) : Int)) rfl)
    refine wp_ltc (fun W => Hid (Dk W B db mb (A ++ g :: C) z ((S + b.length : Nat) : Int) (u : Int) ∧ Chg (fun k => k = db) w8 W)) D9.out (fun W9 H9 => ?_)
    clear m2 g2 D9
    have m3 : W9.cell? ⟨db, 3, none⟩ = some (.int .i64 (u : Int)) := H9.out.1.blk.cell 3
    have g3 : W9.frozen? ⟨db, 3, none⟩ = false := H9.out.1.blk.free 3
    go_wp2
    go_ret
    have DA := H9.out.1.own (z' := z) (s' := ((S + b.length : Nat) : Int)) (u' := ((u + b.length : Nat) : Int)) 3 (.int .i64 ((u + b.length : Nat) : Int)) rfl
    have hd8 : g.d = (f).d ++ b := by have := congrArg Fv.d HG.out.vw; rw [add_d] at this; exact this
    refine ⟨rfl, A ++ g :: C, ?_, ?_, ?_, fun k q => ?_⟩
    · have e : sizeF (A ++ g :: C) = S + b.length := by
        rw [sizeF_mid, hd8, hS.out]
        rw [sizeF_mid, List.length_append]; omega
      rw [← e] at DA
      exact DA.1
    · rw [view_upd HD.out.ri HG.out.vw]
      unfold wrV
      rw [get_some HD.out.ri]
    · exact (((Chg.of_below (Ft db mb (A ++ f :: C)) B6.out).trans HG.out.ch fun k q => .inl (ft_mid.2 (.inr q))).trans H9.out.2 fun k q => .inl (.inl q)).trans DA.2 fun k q => .inl (.inl q)
    · rcases ft_mid.1 q with r | r
      · exact .inl (ft_mid.2 (.inl r))
      · rcases HG.out.su k r with p | p
        · exact .inl (ft_mid.2 (.inr p))
        · exact .inr (Nat.le_trans B6.out.size p)
  · have hnot := not_in hA hC
    subst e1
    have HN : Hid (∀ W, Below w.heap.size w W → W.cell? ⟨db, 0, none⟩ = some (.map (some mb)) ∧ (Instr.lookup 57 (.map (some mb)) (.string x) false).run Try.prog W = .ok (.pointer none) W ∧ Dk W B db mb (A ++ C) z ((sizeF (A ++ C) : Nat) : Int) (u : Int)) := fun W hW => ⟨(HD.out.below hW).blk.cell 0, flook_none (HD.out.below hW).map hnot hxm, HD.out.below hW⟩
    have HNot := hid hnot
    have HA1 := hid hA
    have HC1 := hid hC
    clear hnot hA hC
    go_enter Try.func30, Try.ntmps30
    go_upto_region 8 with (first
      | (go_at_call 45; refine HC.out.mono ?_; rintro e w5 ⟨rfl, hb5⟩)
      | (go_at_call 24; refine (HR.out _ hb5).mono ?_; rintro e w6 ⟨rfl, hb6⟩; have B6 := hid (hb5.trans (hb6.mono hb5.size)); clear hb5 hb6; obtain ⟨m0, hl, hd⟩ := HN.out w6 B6.out; have D6 := hid hd; clear hd))
    clear m0 hl HN HC HR
    obtain ⟨fb, hfb⟩ : ∃ fb, w6.heap.size = fb := ⟨_, rfl⟩
    refine wp_ltc (fun W => Hid (Below w.heap.size w W ∧ Dk W B db mb (A ++ C) z ((sizeF (A ++ C) : Nat) : Int) (u : Int) ∧ FlAt W B ⟨x, w6.heap.size, .slice none 0 0, [], 0, .slice none 0 0, [], false⟩ ∧ ∀ k, Ft db mb (A ++ C) k → k < w6.heap.size)) ⟨B6.out.trans ((below_new w6 _).mono B6.out.size), D6.out.below (below_new w6 _), ⟨Nat.le_of_lt (Nat.lt_of_le_of_lt D6.out.lo.1 D6.out.blk.lt), Blk.new w6 76 _, Row.none _ _, ⟨rfl, .inl ⟨rfl, rfl⟩⟩⟩, fun k q => (D6.out.ft q).2⟩ (fun W7 H7 => ?_)
    have hfw : w.heap.size ≤ fb := by rw [← hfb]; exact B6.out.size
    rw [hfb] at H7 ⊢
    have HFW := hid hfw
    clear hfw hfb D6 B6
    have hap : ∀ g ∈ A ++ C, Fl.apart ⟨x, fb, .slice none 0 0, [], 0, .slice none 0 0, [], false⟩ g := fun g hg k q q2 => by
      rcases q with q | q | q
      · have hq : k = fb := q
        have := H7.out.2.2.2 k (.inr (.inr ⟨g, hg, q2⟩))
        omega
      · cases q
      · cases q
    have HP : Hid (Calls Try.prog 46 #[.pointer (some ⟨db, 0, none⟩), .string x, .pointer (some ⟨fb, 0, none⟩)] W7 fun e w' => e = .returned (.tuple #[]) ∧ Dk w' B db mb (A ++ ⟨x, fb, .slice none 0 0, [], 0, .slice none 0 0, [], false⟩ :: C) z ((sizeF (A ++ C) : Nat) : Int) (u : Int) ∧ Chg (fun k => k = mb) W7 w') := hid (put_ok H7.out.2.1 H7.out.2.2.1 HA1.out HC1.out hap (by show x.size ≤ _; omega) (by omega))
    clear hap
    go_upto_region 9 with (go_at_call 46; (with_reducible refine HP.out.mono ?_); rintro e w7 ⟨rfl, hd7, hc7⟩; have D7 := hid hd7; have K7 := hid hc7; clear hd7 hc7)
    clear HP
    obtain ⟨f, hf⟩ : ∃ f : Fl, f = ⟨x, fb, .slice none 0 0, [], 0, .slice none 0 0, [], false⟩ := ⟨_, rfl⟩
    have hfd : Hid (f.d.length ≤ S) := by unfold Hid; rw [hf]; exact Nat.zero_le _
    have hf2 : f.b = fb := by rw [hf]
    have hf3 : Hid (f.d = [] ∧ f.v = newV x ∧ f.l = [] ∧ f.n = x ∧ ∀ k, f.has k → k = fb) := by
      unfold Hid
      rw [hf]
      refine ⟨rfl, rfl, rfl, rfl, fun k q => ?_⟩
      rcases q with q | q | q
      · exact q
      · cases q
      · cases q
    rw [← hf] at D7
    clear hf
    rw [← hf2]
    clear hf2
    have B7 : Hid (Below w.heap.size w w7 → True) := fun _ => trivial
    have hSb7 : Hid (SlA w7 (.slice A0 b.length c0) b) := by
      have h1 := hSb.out.below H7.out.1
      obtain ⟨A9, c9, e9, i1, i2, i3, i4⟩ := h1
      refine ⟨A9, c9, e9, i1, i2, fun h0 => ?_, i4⟩
      obtain ⟨bb, off, e8, hh⟩ := i3 h0
      refine ⟨bb, off, e8, fun i hi => ?_⟩
      have hc := hh i hi
      rw [← hc]
      refine World.cell?_of_block (K7.out.block bb (cell_lt hc) fun q => ?_)
      obtain ⟨es, clock, hb2, _⟩ := H7.out.2.1.map
      have q2 : bb = mb := q
      rw [q2] at hc
      simp [World.cell?, hb2] at hc
    have HAd := hid (add_any (f := f) (.slice A0 b.length c0) b u (D7.out.fl _ (by simp)) hSb7.out (by have := hbl.out; have := hfd.out; omega) hu.out (by rw [hf3.out.2.2.1]; exact Nat.zero_le _) (by rw [hf3.out.2.2.1]; intro r hr; cases hr))
    have m3 : w7.cell? ⟨db, 3, none⟩ = some (.int .i64 (u : Int)) := D7.out.blk.cell 3
    go_upto_region 10 with (go_at_call 47; (with_reducible refine HAd.out.mono ?_); rintro e w8 ⟨rfl, g, hg⟩; have HG := hid hg; clear hg)
    have D8 := hid (D7.out.upd HG.out.ch HG.out.sat (by have := congrArg Fv.n HG.out.vw; rw [add_n] at this; exact this) HG.out.bk HG.out.su)
    clear m3 HAd
    have m2 : w8.cell? ⟨db, 2, none⟩ = some (.int .i64 (S : Int)) := by rw [hS.out]; exact D8.out.blk.cell 2
    have g2 : w8.frozen? ⟨db, 2, none⟩ = false := D8.out.blk.free 2
    go_upto_region 11 with (fail)
    have D9 := hid (D8.out.own (z' := z) (s' := ((S + b.length : Nat) : Int)) (u' := (u : Int)) 2 (.int .i64 ((S + b.length : Nat) : Int)) rfl)
    refine wp_ltc (fun W => Hid (Dk W B db mb (A ++ g :: C) z ((S + b.length : Nat) : Int) (u : Int) ∧ Chg (fun k => k = db) w8 W)) D9.out (fun W9 H9 => ?_)
    clear m2 g2 D9
    have m3 : W9.cell? ⟨db, 3, none⟩ = some (.int .i64 (u : Int)) := H9.out.1.blk.cell 3
    have g3 : W9.frozen? ⟨db, 3, none⟩ = false := H9.out.1.blk.free 3
    go_wp2
    go_ret
    have DA := H9.out.1.own (z' := z) (s' := ((S + b.length : Nat) : Int)) (u' := ((u + b.length : Nat) : Int)) 3 (.int .i64 ((u + b.length : Nat) : Int)) rfl
    have hd8 : g.d = (f).d ++ b := by have := congrArg Fv.d HG.out.vw; rw [add_d] at this; exact this
    refine ⟨rfl, A ++ g :: C, ?_, ?_, ?_, fun k q => ?_⟩
    · have e : sizeF (A ++ g :: C) = S + b.length := by
        rw [sizeF_mid, hd8, hS.out]
        rw [hf3.out.1]; simp
      rw [← e] at DA
      exact DA.1
    · rw [view_ins (f := g) (by have := congrArg Fv.n HG.out.vw; rw [add_n] at this; rw [show g.n = x from this.trans hf3.out.2.2.2.1]; exact HA1.out) (by have := congrArg Fv.n HG.out.vw; rw [add_n] at this; rw [show g.n = x from this.trans hf3.out.2.2.2.1]; exact HC1.out), HG.out.vw, hf3.out.2.1]
      unfold wrV
      rw [get_none HNot.out]
    · exact ((((Chg.of_below (Ft db mb (A ++ C)) H7.out.1).trans K7.out fun k q => .inl (.inr (.inl q))).trans HG.out.ch fun k q => .inr (by have := hf3.out.2.2.2.2 k q; have := HFW.out; omega)).trans H9.out.2 fun k q => .inl (.inl q)).trans DA.2 fun k q => .inl (.inl q)
    · rcases ft_mid.1 q with r | r
      · exact .inl r
      · rcases HG.out.su k r with p | p
        · exact .inr (by have := hf3.out.2.2.2.2 k p; have := HFW.out; omega)
        · exact .inr (Nat.le_trans H7.out.1.size (Nat.le_trans K7.out.size p))
end Go.Proofs.Ytofkfafdodhmdaa
