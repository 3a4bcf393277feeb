/- (*store.Disk).Sync, Remove, put, Rename. Conditions: the disk stands; names no longer than any are. -/
import Derived.Test.YtofkfafdodhmdaaStC
import Derived.Test.YtofkfafdodhmdaaShelf
import Derived.Deep.RegionLaw
namespace Go.Proofs.Ytofkfafdodhmdaa
open Go.RowKit

theorem Chg.drew {S : Nat → Prop} {w w' : World} (h : Chg S w w') : Chg S w w'.drew := ⟨h.os, h.tape, h.output, h.size, h.block⟩
theorem Chg.of_map {w w' : World} {mb : Nat} (h : w.grownBy w' (some mb)) : Chg (fun k => k = mb) w w' := Chg.of_grown h fun _ e => .inl (Option.some.inj e).symm
theorem ft_del {db mb : Nat} {A C : List Fl} {f : Fl} {k : Nat} (h : Ft db mb (A ++ C) k) : Ft db mb (A ++ f :: C) k := ft_mid.2 (.inl h)

set_option maxHeartbeats 1000000 in
theorem sync_none {B db mb : Nat} {fs : List Fl} {z s u : Int} {w : World} (h : Dk w B db mb fs z s u) (x : ByteArray) (hx : ∀ g ∈ fs, g.n ≠ x) (hs : x.size ≤ maxLen) : Calls Try.prog 31 #[.pointer (some ⟨db, 0, none⟩), .string x] w fun e w' => e = .returned (.int .i64 12) ∧ Below w.heap.size w w' := by
  have m0 : w.cell? ⟨db, 0, none⟩ = some (.map (some mb)) := h.blk.cell 0
  have hl := flook_none h.map hx hs
  clear h
  go_enter Try.func31, Try.ntmps31
  go_wp2
  go_ret
  exact ⟨rfl, Below.refl _ _⟩

/-- The file as it is synced. -/
def Fl.sync (f : Fl) : Fl := { f with m := f.d.length, lv := .slice none 0 0, l := [], h := true }
theorem flat_sync {w : World} {B : Nat} {f : Fl} (h : FlAt w B f) : FlAt (((w.setCell ⟨f.b, 1, none⟩ (.int .i64 (f.d.length : Int))).setCell ⟨f.b, 2, none⟩ (.slice none 0 0)).setCell ⟨f.b, 3, none⟩ (.bool true)) B f.sync ∧
    Chg f.has w (((w.setCell ⟨f.b, 1, none⟩ (.int .i64 (f.d.length : Int))).setCell ⟨f.b, 2, none⟩ (.slice none 0 0)).setCell ⟨f.b, 3, none⟩ (.bool true)) := by
  have k1 := ((h.blk.set 1 (.int .i64 (f.d.length : Int))).set 2 (.slice none 0 0)).set 3 (.bool true)
  have hk : ∀ k, k ≠ f.b → (((w.setCell ⟨f.b, 1, none⟩ (.int .i64 (f.d.length : Int))).setCell ⟨f.b, 2, none⟩ (.slice none 0 0)).setCell ⟨f.b, 3, none⟩ (.bool true)).heap[k]? = w.heap[k]? := fun k q => by
    rw [Below.heap_setCell _ _ _ _ q, Below.heap_setCell _ _ _ _ q, Below.heap_setCell _ _ _ _ q]
  refine ⟨⟨h.lo, k1, own_block0 h.row fun g q => hk g ?_, ⟨rfl, .inl ⟨rfl, rfl⟩⟩⟩, ((Chg.of_set w f.b 1 _ (S := f.has) (.inl rfl)).trans (Chg.of_set _ f.b 2 _ (S := f.has) (.inl rfl)) fun k q => .inl q).trans (Chg.of_set _ f.b 3 _ (S := f.has) (.inl rfl)) fun k q => .inl q⟩
  obtain ⟨cur, hc⟩ := own_blk h.row q
  exact blk_ne0 hc h.blk (by decide)

set_option maxHeartbeats 1000000 in
theorem sync_some {B db mb : Nat} {A C : List Fl} {f : Fl} {z s u : Int} {w : World} (h : Dk w B db mb (A ++ f :: C) z s u) (hs : f.n.size ≤ maxLen) : Calls Try.prog 31 #[.pointer (some ⟨db, 0, none⟩), .string f.n] w fun e w' => e = .returned (.int .i64 0) ∧ Dk w' B db mb (A ++ f.sync :: C) z s u ∧ Chg f.has w w' := by
  have m0 : w.cell? ⟨db, 0, none⟩ = some (.map (some mb)) := h.blk.cell 0
  have hl := look_some h.map h.ri hs
  have hF := h.fl f (by simp)
  have m1 : w.cell? ⟨f.b, 0, none⟩ = some f.dv := hF.blk.cell 0
  have f1 : w.frozen? ⟨f.b, 1, none⟩ = false := hF.blk.free 1
  have f2 : w.frozen? ⟨f.b, 2, none⟩ = false := hF.blk.free 2
  have f3 : w.frozen? ⟨f.b, 3, none⟩ = false := hF.blk.free 3
  have c1 : w.cell? ⟨f.b, 1, none⟩ = some (.int .i64 (f.m : Int)) := hF.blk.cell 1
  have c2 : w.cell? ⟨f.b, 2, none⟩ = some f.lv := hF.blk.cell 2
  have c3 : w.cell? ⟨f.b, 3, none⟩ = some (.bool f.h) := hF.blk.cell 3
  obtain ⟨A1, q1, e1, _, _, _, _⟩ := hF.row.sla
  rw [e1] at m1
  have mixed : Try.prog.follows .mixedOrders = true := by kernel_rfl
  have late : Try.prog.follows .lateStores = true := by kernel_rfl
  have hS := hid (flat_sync hF)
  have hU := hid h
  clear h hF
  go_enter Try.func31, Try.ntmps31
  go_wp2
  go_ret
  refine ⟨rfl, hU.out.upd hS.out.2 hS.out.1 rfl rfl fun k q => ?_, hS.out.2⟩
  rcases q with q | q | q
  · exact .inl (.inl q)
  · exact .inl (.inr (.inl q))
  · cases q

set_option maxHeartbeats 1000000 in
theorem remove_none {B db mb : Nat} {fs : List Fl} {z s u : Int} {w : World} (h : Dk w B db mb fs z s u) (x : ByteArray) (hx : ∀ g ∈ fs, g.n ≠ x) (hs : x.size ≤ maxLen) : Calls Try.prog 32 #[.pointer (some ⟨db, 0, none⟩), .string x] w fun e w' => e = .returned (.int .i64 12) ∧ Below w.heap.size w w' := by
  have m0 : w.cell? ⟨db, 0, none⟩ = some (.map (some mb)) := h.blk.cell 0
  have hl := flook_none h.map hx hs
  clear h
  go_enter Try.func32, Try.ntmps32
  go_wp2
  go_ret
  exact ⟨rfl, Below.refl _ _⟩

set_option maxHeartbeats 2000000 in
theorem remove_some {B db mb : Nat} {A C : List Fl} {f : Fl} {z u : Int} {s : Nat} {w : World} (h : Dk w B db mb (A ++ f :: C) z (s : Int) u) (hs : f.n.size ≤ maxLen) (hd : f.d.length ≤ s) (hz : s ≤ 16777216) : Calls Try.prog 32 #[.pointer (some ⟨db, 0, none⟩), .string f.n] w fun e w' => e = .returned (.int .i64 0) ∧ Dk w' B db mb (A ++ C) z ((s - f.d.length : Nat) : Int) u ∧ Chg (Ft db mb (A ++ f :: C)) w w' := by
  have m0 : w.cell? ⟨db, 0, none⟩ = some (.map (some mb)) := h.blk.cell 0
  have m2 : w.cell? ⟨db, 2, none⟩ = some (.int .i64 (s : Int)) := h.blk.cell 2
  have g2 : w.frozen? ⟨db, 2, none⟩ = false := h.blk.free 2
  have hl := look_some h.map h.ri hs
  have hF := h.fl f (by simp)
  have m1 : w.cell? ⟨f.b, 0, none⟩ = some f.dv := hF.blk.cell 0
  obtain ⟨A1, q1, e1, _, _, _, _⟩ := hF.row.sla
  rw [e1] at m1
  have hw : IntKind.i64.wrap ((s : Int) - (f.d.length : Int)) = ((s - f.d.length : Nat) : Int) := by rw [IntKind.wrap_i64]; omega
  have hU := hid h
  have hk := hid (keyS f.n hs)
  clear h hF
  go_enter Try.func32, Try.ntmps32
  go_upto_region 4 with (fail)
  go_region
  all_goals
    go_upto_region 5 with (fail)
    refine wp_ltc (fun W => Hid (Dk W B db mb (A ++ f :: C) z ((s - f.d.length : Nat) : Int) u ∧ Chg (fun k => k = db) w W)) (by first | exact hU.out.own 2 _ rfl | exact ⟨(hU.out.own 2 _ rfl).1.below (Below.refl _ _).drew, (hU.out.own 2 _ rfl).2.drew⟩) (fun W HW => ?_)
    have n0 : W.cell? ⟨db, 0, none⟩ = some (.map (some mb)) := HW.out.1.blk.cell 0
    clear m0 m2 g2 m1 hl
    go_wp2_with (at_delete; refine wpList_delete_own _ rfl (.tmp 29) (.tmp 30) 57 9 rfl 72 strK Try.underlying57 Rp mb _ _ rfl HW.out.1.map (.string f.n) _ rfl hk.out ?_; intro w5 ho hg)
    go_ret
    have hg := hg.grown
    exact ⟨rfl, (HW.out.1.del ho hg).1, (HW.out.2.mono (S' := Ft db mb (A ++ f :: C)) fun k q => Or.inl q).trans (Chg.of_map hg) fun k q => Or.inl (Or.inr (Or.inl q))⟩

/-- The world behind a store into the map. -/
noncomputable def updW (mb : Nat) (x : ByteArray) (b : Nat) (W : World) : World :=
  match (Instr.mapUpdate 57 (.map (some mb)) (.string x) (.pointer (some ⟨b, 0, none⟩))).run Try.prog W with
  | .ok _ w' => w'
  | _ => W
theorem updW_run {W : World} {mb : Nat} {fs : List Fl} (h : OMap W mb fs) (hl : fs.length < maxLen) (x : ByteArray) (hx : x.size ≤ maxLen) (b : Nat) :
    (Instr.mapUpdate 57 (.map (some mb)) (.string x) (.pointer (some ⟨b, 0, none⟩))).run Try.prog W = .ok () (updW mb x b W) ∧ (updW mb x b W).ownsMap Try.prog 9 Rp mb (fs.length + 1) ((mapD fs).put (.string x.data.toList) (.lit (.int .i64 (b : Int)))) ∧ W.grownBy (updW mb x b W) (some mb) := by
  obtain ⟨w', hrun, h1, h2⟩ := World.ownsMap.update h strK Try.underlying57 hl (keyS x hx) (Rp_some b)
  have e : updW mb x b W = w' := by unfold updW; rw [hrun]
  rw [e]
  exact ⟨hrun, h1, h2⟩

set_option maxHeartbeats 1000000 in
theorem clone_str (s : ByteArray) (hs : s.size ≤ 281474976710656) (w : World) :
    Calls Try.prog 54 #[.string s] w fun e w' => e = .returned (.string s) ∧ Below w.heap.size w w' := by
  go_enter Try.func54, Try.ntmps54
  go_wp2_with (go_at_call 60; refine (Try.stringslite_Clone s _ hs).mono ?_; rintro e w5 ⟨rfl, hb5⟩)
  go_ret
  exact ⟨rfl, hb5⟩

set_option maxHeartbeats 2000000 in
theorem put_ok {B db mb : Nat} {A C : List Fl} {f : Fl} {z s u : Int} {w : World} (h : Dk w B db mb (A ++ C) z s u) (hf : FlAt w B f) (hA : ∀ a ∈ A, bef a.n f.n = true) (hC : ∀ c ∈ C, bef f.n c.n = true) (ha : ∀ g ∈ A ++ C, f.apart g) (hs : f.n.size ≤ 281474976710656) (hlen : (A ++ C).length ≤ 1000000) :
    Calls Try.prog 46 #[.pointer (some ⟨db, 0, none⟩), .string f.n, .pointer (some ⟨f.b, 0, none⟩)] w fun e w' => e = .returned (.tuple #[]) ∧ Dk w' B db mb (A ++ f :: C) z s u ∧ Chg (fun k => k = mb) w w' := by
  have m0 : w.cell? ⟨db, 0, none⟩ = some (.map (some mb)) := h.blk.cell 0
  have HC := hid (fun W => clone_str f.n hs W)
  have HR : Hid (∀ W, Below w.heap.size w W → (Instr.mapUpdate 57 (.map (some mb)) (.string f.n) (.pointer (some ⟨f.b, 0, none⟩))).run Try.prog W = .ok () (updW mb f.n f.b W) ∧ Dk (updW mb f.n f.b W) B db mb (A ++ f :: C) z s u ∧ Chg (fun k => k = mb) w (updW mb f.n f.b W)) := fun W hW => by
    have hd := h.below hW
    obtain ⟨r1, r2, r3⟩ := updW_run hd.map (by unfold maxLen; omega) f.n (by unfold maxLen; omega) f.b
    exact ⟨r1, hd.put (hf.keep fun k q => hW.block k (hf.lt q).2) hA hC ha r2 r3, (Chg.of_below _ hW).trans (Chg.of_map r3) fun k q => .inl q⟩
  have m5 : Hid (∀ W, Below w.heap.size w W → W.cell? ⟨db, 0, none⟩ = some (.map (some mb))) := fun W hW => (h.below hW).blk.cell 0
  have hB := hid (Below.refl w.heap.size w)
  have r0 := (HR.out w hB.out).1
  clear h hf
  go_enter Try.func46, Try.ntmps46
  go_region_law (go_simp; go_at_call 54; refine (HC.out _).mono ?_; rintro e w5 ⟨rfl, hb5⟩; have B5 : Hid (Below w.heap.size w w5) := (by first | exact hb5 | exact (hB.out.drew.trans hb5)); have n0 := m5.out w5 B5.out; have n1 := m5.out _ B5.out.drew; have r1 := (HR.out _ B5.out).1; have r2 := (HR.out _ B5.out.drew).1; have r3 := (HR.out _ B5.out.drew.drew).1; clear hb5)
  all_goals (
    go_end0
    first
      | exact ⟨rfl, (HR.out _ B5.out).2⟩
      | exact ⟨rfl, (HR.out _ B5.out.drew).2⟩)

/-- The file as it is called otherwise. -/
def Fl.call (f : Fl) (x : ByteArray) : Fl := { f with n := x, h := true }
theorem Fl.has_call (f : Fl) (x : ByteArray) (k : Nat) : (f.call x).has k ↔ f.has k := Iff.rfl

set_option maxHeartbeats 1000000 in
theorem rename_form (db : Nat) (x y : ByteArray) (hy : y.size ≤ maxLen) (hr : rightB y = false) (w : World) : Calls Try.prog 33 #[.pointer (some ⟨db, 0, none⟩), .string x, .string y] w fun e w' => e = .returned (.int .i64 10) ∧ Below w.heap.size w w' := by
  have HC := hid (right_ok y hy w)
  rw [hr] at HC
  go_enter Try.func33, Try.ntmps33
  go_wp2_with (go_at_call 45; refine HC.out.mono ?_; rintro e w5 ⟨rfl, hb5⟩)
  go_ret
  exact ⟨rfl, hb5⟩

set_option maxHeartbeats 1000000 in
theorem rename_none {B db mb : Nat} {fs : List Fl} {z s u : Int} {w : World} (h : Dk w B db mb fs z s u) (x y : ByteArray) (hx : ∀ g ∈ fs, g.n ≠ x) (hs : x.size ≤ maxLen) (hy : y.size ≤ maxLen) (hr : rightB y = true) : Calls Try.prog 33 #[.pointer (some ⟨db, 0, none⟩), .string x, .string y] w fun e w' => e = .returned (.int .i64 12) ∧ Below w.heap.size w w' := by
  have HC := hid (right_ok y hy w)
  rw [hr] at HC
  have HN : Hid (∀ W, Below w.heap.size w W → W.cell? ⟨db, 0, none⟩ = some (.map (some mb)) ∧ (Instr.lookup 57 (.map (some mb)) (.string x) false).run Try.prog W = .ok (.pointer none) W) := fun W hW => ⟨(h.below hW).blk.cell 0, flook_none (h.below hW).map hx hs⟩
  clear h
  go_enter Try.func33, Try.ntmps33
  go_wp2_with (go_at_call 45; refine HC.out.mono ?_; rintro e w5 ⟨rfl, hb5⟩; obtain ⟨m0, hl⟩ := HN.out w5 hb5)
  go_ret
  exact ⟨rfl, hb5⟩

/-- What is left where a name is to be free. -/
def dropF (fs : List Fl) (x : ByteArray) : List Fl := fs.filter fun g => decide (g.n ≠ x)
theorem drop_none {fs : List Fl} {x : ByteArray} (h : ∀ g ∈ fs, g.n ≠ x) : dropF fs x = fs := List.filter_eq_self.2 fun g hg => decide_eq_true (h g hg)
theorem drop_some {A C : List Fl} {f : Fl} (h : Ris (A ++ f :: C)) : dropF (A ++ f :: C) f.n = A ++ C := by
  obtain ⟨h1, h2, _⟩ := rise_mid h
  unfold dropF
  rw [List.filter_append, List.filter_cons, if_neg (by simp)]
  have hA : A.filter (fun g => decide (g.n ≠ f.n)) = A := List.filter_eq_self.2 fun g hg => decide_eq_true (bef_ne (h1 g hg))
  have hC : C.filter (fun g => decide (g.n ≠ f.n)) = C := List.filter_eq_self.2 fun g hg => decide_eq_true fun e => bef_ne (h2 g hg) e.symm
  rw [hA, hC]
theorem drop_mem {fs : List Fl} {x : ByteArray} {g : Fl} : g ∈ dropF fs x ↔ g ∈ fs ∧ g.n ≠ x := by unfold dropF; rw [List.mem_filter, decide_eq_true_iff]
theorem sizeF_le {fs : List Fl} {f : Fl} (h : f ∈ fs) : f.d.length ≤ sizeF fs := by
  obtain ⟨A, C, rfl⟩ := List.append_of_mem h
  rw [sizeF_mid]; omega
/-- A disk with a file of that name no more. -/
theorem gone_ok {B db mb : Nat} {fs : List Fl} {z u : Int} {s : Nat} {w : World} (h : Dk w B db mb fs z (s : Int) u) (x : ByteArray) (hs : x.size ≤ maxLen) (hd : sizeF fs ≤ s) (hz : s ≤ 16777216) : Calls Try.prog 32 #[.pointer (some ⟨db, 0, none⟩), .string x] w fun e w' => (∃ q, e = .returned (.int .i64 q)) ∧ Dk w' B db mb (dropF fs x) z ((s - (sizeF fs - sizeF (dropF fs x)) : Nat) : Int) u ∧ Chg (Ft db mb fs) w w' := by
  rcases part x h.ri with ⟨A, f, C, rfl, rfl⟩ | ⟨A, C, rfl, hA, hC⟩
  · have hd2 := sizeF_mid A C f
    refine (remove_some h hs (by omega) hz).mono ?_
    rintro e w' ⟨rfl, h1, h2⟩
    rw [drop_some h.ri, hd2, show s - (sizeF (A ++ C) + f.d.length - sizeF (A ++ C)) = s - f.d.length by omega]
    exact ⟨⟨0, rfl⟩, h1, h2⟩
  · refine (remove_none h x (not_in hA hC) hs).mono ?_
    rintro e w' ⟨rfl, h1⟩
    rw [drop_none (not_in hA hC), show s - (sizeF (A ++ C) - sizeF (A ++ C)) = s by omega]
    exact ⟨⟨12, rfl⟩, h.below h1, Chg.of_below _ h1⟩
end Go.Proofs.Ytofkfafdodhmdaa
