/- Several texts in one: StD StE. Conditions: as each theorem names them. -/
import Derived.Test.YtofkfafdodhmdaaGreatDoorNI
import Derived.Test.YtofkfafdodhmdaaGreatDoorShelf
import Derived.Deep.RegionLaw
/- (*store.Disk).Sync, Remove, put, Rename. Conditions: the disk stands; names no longer than any are. -/
namespace Go.Proofs.YtofkfafdodhmdaaGreatDoor
open Go.RowKit

theorem Chg.drew {S : Nat → Prop} {w w' : World} (h : Chg S w w') : Chg S w w'.drew := ⟨h.os, h.tape, h.output, h.size, h.block⟩
theorem Chg.of_map {w w' : World} {mb : Nat} (h : w.grownBy w' (some mb)) : Chg (fun k => k = mb) w w' := Chg.of_grown h fun _ e => .inl (Option.some.inj e).symm
theorem ft_del {db mb : Nat} {A C : List Fl} {f : Fl} {k : Nat} (h : Ft db mb (A ++ C) k) : Ft db mb (A ++ f :: C) k := ft_mid.2 (.inl h)

set_option maxHeartbeats 1000000 in
theorem sync_none {B db mb : Nat} {fs : List Fl} {z s u : Int} {w : World} (h : Dk w B db mb fs z s u) (x : ByteArray) (hx : ∀ g ∈ fs, g.n ≠ x) (hs : x.size ≤ maxLen) : Calls Tryz.prog 87 #[.pointer (some ⟨db, 0, none⟩), .string x] w fun e w' => e = .returned (.int .i64 12) ∧ Below w.heap.size w w' := by
  have m0 : w.cell? ⟨db, 0, none⟩ = some (.map (some mb)) := h.blk.cell 0
  have hl := flook_none h.map hx hs
  clear h
  go_enter Tryz.func87, Tryz.ntmps87
  go_wp2
  go_ret
  exact ⟨rfl, Below.refl _ _⟩

/-- The file as it is synced. -/
def Fl.sync (f : Fl) : Fl := { f with m := f.d.length, lv := .slice none 0 0, l := [], h := true }
theorem flat_sync {w : World} {B : Nat} {f : Fl} (h : FlAt w B f) : FlAt (((w.setCell ⟨f.b, 1, none⟩ (.int .i64 (f.d.length : Int))).setCell ⟨f.b, 2, none⟩ (.slice none 0 0)).setCell ⟨f.b, 3, none⟩ (.bool true)) B f.sync ∧
    Chg f.has w (((w.setCell ⟨f.b, 1, none⟩ (.int .i64 (f.d.length : Int))).setCell ⟨f.b, 2, none⟩ (.slice none 0 0)).setCell ⟨f.b, 3, none⟩ (.bool true)) := by
  have k1 := ((h.blk.set 1 (.int .i64 (f.d.length : Int))).set 2 (.slice none 0 0)).set 3 (.bool true)
  have hk : ∀ k, k ≠ f.b → (((w.setCell ⟨f.b, 1, none⟩ (.int .i64 (f.d.length : Int))).setCell ⟨f.b, 2, none⟩ (.slice none 0 0)).setCell ⟨f.b, 3, none⟩ (.bool true)).heap[k]? = w.heap[k]? := fun k q => by
    rw [Below.heap_setCell _ _ _ _ q, Below.heap_setCell _ _ _ _ q, Below.heap_setCell _ _ _ _ q]
  refine ⟨⟨h.lo, k1, own_block0 h.row fun g q => hk g ?_, ⟨rfl, .inl ⟨rfl, rfl⟩⟩⟩, ((Chg.of_set w f.b 1 _ (S := f.has) (.inl rfl)).trans (Chg.of_set _ f.b 2 _ (S := f.has) (.inl rfl)) fun k q => .inl q).trans (Chg.of_set _ f.b 3 _ (S := f.has) (.inl rfl)) fun k q => .inl q⟩
  obtain ⟨cur, hc⟩ := own_blk h.row q
  exact blk_ne0 hc h.blk (by decide)

set_option maxHeartbeats 1000000 in
theorem sync_some {B db mb : Nat} {A C : List Fl} {f : Fl} {z s u : Int} {w : World} (h : Dk w B db mb (A ++ f :: C) z s u) (hs : f.n.size ≤ maxLen) : Calls Tryz.prog 87 #[.pointer (some ⟨db, 0, none⟩), .string f.n] w fun e w' => e = .returned (.int .i64 0) ∧ Dk w' B db mb (A ++ f.sync :: C) z s u ∧ Chg f.has w w' := by
  have m0 : w.cell? ⟨db, 0, none⟩ = some (.map (some mb)) := h.blk.cell 0
  have hl := look_some h.map h.ri hs
  have hF := h.fl f (by simp)
  have m1 : w.cell? ⟨f.b, 0, none⟩ = some f.dv := hF.blk.cell 0
  have f1 : w.frozen? ⟨f.b, 1, none⟩ = false := hF.blk.free 1
  have f2 : w.frozen? ⟨f.b, 2, none⟩ = false := hF.blk.free 2
  have f3 : w.frozen? ⟨f.b, 3, none⟩ = false := hF.blk.free 3
  have c1 : w.cell? ⟨f.b, 1, none⟩ = some (.int .i64 (f.m : Int)) := hF.blk.cell 1
  have c2 : w.cell? ⟨f.b, 2, none⟩ = some f.lv := hF.blk.cell 2
  have c3 : w.cell? ⟨f.b, 3, none⟩ = some (.bool f.h) := hF.blk.cell 3
  obtain ⟨A1, q1, e1, _, _, _, _⟩ := hF.row.sla
  rw [e1] at m1
  have mixed : Tryz.prog.follows .mixedOrders = true := by kernel_rfl
  have late : Tryz.prog.follows .lateStores = true := by kernel_rfl
  have hS := hid (flat_sync hF)
  have hU := hid h
  clear h hF
  go_enter Tryz.func87, Tryz.ntmps87
  go_wp2
  go_ret
  refine ⟨rfl, hU.out.upd hS.out.2 hS.out.1 rfl rfl fun k q => ?_, hS.out.2⟩
  rcases q with q | q | q
  · exact .inl (.inl q)
  · exact .inl (.inr (.inl q))
  · cases q

set_option maxHeartbeats 1000000 in
theorem remove_none {B db mb : Nat} {fs : List Fl} {z s u : Int} {w : World} (h : Dk w B db mb fs z s u) (x : ByteArray) (hx : ∀ g ∈ fs, g.n ≠ x) (hs : x.size ≤ maxLen) : Calls Tryz.prog 85 #[.pointer (some ⟨db, 0, none⟩), .string x] w fun e w' => e = .returned (.int .i64 12) ∧ Below w.heap.size w w' := by
  have m0 : w.cell? ⟨db, 0, none⟩ = some (.map (some mb)) := h.blk.cell 0
  have hl := flook_none h.map hx hs
  clear h
  go_enter Tryz.func85, Tryz.ntmps85
  go_wp2
  go_ret
  exact ⟨rfl, Below.refl _ _⟩

set_option maxHeartbeats 2000000 in
theorem remove_some {B db mb : Nat} {A C : List Fl} {f : Fl} {z u : Int} {s : Nat} {w : World} (h : Dk w B db mb (A ++ f :: C) z (s : Int) u) (hs : f.n.size ≤ maxLen) (hd : f.d.length ≤ s) (hz : s ≤ 16777216) : Calls Tryz.prog 85 #[.pointer (some ⟨db, 0, none⟩), .string f.n] w fun e w' => e = .returned (.int .i64 0) ∧ Dk w' B db mb (A ++ C) z ((s - f.d.length : Nat) : Int) u ∧ Chg (Ft db mb (A ++ f :: C)) w w' := by
  have m0 : w.cell? ⟨db, 0, none⟩ = some (.map (some mb)) := h.blk.cell 0
  have m2 : w.cell? ⟨db, 2, none⟩ = some (.int .i64 (s : Int)) := h.blk.cell 2
  have g2 : w.frozen? ⟨db, 2, none⟩ = false := h.blk.free 2
  have hl := look_some h.map h.ri hs
  have hF := h.fl f (by simp)
  have m1 : w.cell? ⟨f.b, 0, none⟩ = some f.dv := hF.blk.cell 0
  obtain ⟨A1, q1, e1, _, _, _, _⟩ := hF.row.sla
  rw [e1] at m1
  have hw : IntKind.i64.wrap ((s : Int) - (f.d.length : Int)) = ((s - f.d.length : Nat) : Int) := by rw [IntKind.wrap_i64]; omega
  have hU := hid h
  have hk := hid (keyS f.n hs)
  clear h hF
  go_enter Tryz.func85, Tryz.ntmps85
  go_upto_region 4 with (fail)
  go_region
  all_goals
    go_upto_region 5 with (fail)
    refine wp_ltc (fun W => Hid (Dk W B db mb (A ++ f :: C) z ((s - f.d.length : Nat) : Int) u ∧ Chg (fun k => k = db) w W)) (by first | exact hU.out.own 2 _ rfl | exact ⟨(hU.out.own 2 _ rfl).1.below (Below.refl _ _).drew, (hU.out.own 2 _ rfl).2.drew⟩) (fun W HW => ?_)
    have n0 : W.cell? ⟨db, 0, none⟩ = some (.map (some mb)) := HW.out.1.blk.cell 0
    clear m0 m2 g2 m1 hl
    go_wp2_with (at_delete; refine wpList_delete_own _ rfl (.tmp 29) (.tmp 30) 88 9 rfl 99 strK Tryz.underlying88 Rp mb _ _ rfl HW.out.1.map (.string f.n) _ rfl hk.out ?_; intro w5 ho hg)
    go_ret
    have hg := hg.grown
    exact ⟨rfl, (HW.out.1.del ho hg).1, (HW.out.2.mono (S' := Ft db mb (A ++ f :: C)) fun k q => Or.inl q).trans (Chg.of_map hg) fun k q => Or.inl (Or.inr (Or.inl q))⟩

/-- The world behind a store into the map. -/
noncomputable def updW (mb : Nat) (x : ByteArray) (b : Nat) (W : World) : World :=
  match (Instr.mapUpdate 88 (.map (some mb)) (.string x) (.pointer (some ⟨b, 0, none⟩))).run Tryz.prog W with
  | .ok _ w' => w'
  | _ => W
theorem updW_run {W : World} {mb : Nat} {fs : List Fl} (h : OMap W mb fs) (hl : fs.length < maxLen) (x : ByteArray) (hx : x.size ≤ maxLen) (b : Nat) :
    (Instr.mapUpdate 88 (.map (some mb)) (.string x) (.pointer (some ⟨b, 0, none⟩))).run Tryz.prog W = .ok () (updW mb x b W) ∧ (updW mb x b W).ownsMap Tryz.prog 9 Rp mb (fs.length + 1) ((mapD fs).put (.string x.data.toList) (.lit (.int .i64 (b : Int)))) ∧ W.grownBy (updW mb x b W) (some mb) := by
  obtain ⟨w', hrun, h1, h2⟩ := World.ownsMap.update h strK Tryz.underlying88 hl (keyS x hx) (Rp_some b)
  have e : updW mb x b W = w' := by unfold updW; rw [hrun]
  rw [e]
  exact ⟨hrun, h1, h2⟩

set_option maxHeartbeats 1000000 in
theorem clone_str (s : ByteArray) (hs : s.size ≤ 281474976710656) (w : World) :
    Calls Tryz.prog 91 #[.string s] w fun e w' => e = .returned (.string s) ∧ Below w.heap.size w w' := by
  go_enter Tryz.func91, Tryz.ntmps91
  go_wp2_with (go_at_call 109; refine (Tryz.stringslite_Clone s _ hs).mono ?_; rintro e w5 ⟨rfl, hb5⟩)
  go_ret
  exact ⟨rfl, hb5⟩

set_option maxHeartbeats 2000000 in
theorem put_ok {B db mb : Nat} {A C : List Fl} {f : Fl} {z s u : Int} {w : World} (h : Dk w B db mb (A ++ C) z s u) (hf : FlAt w B f) (hA : ∀ a ∈ A, bef a.n f.n = true) (hC : ∀ c ∈ C, bef f.n c.n = true) (ha : ∀ g ∈ A ++ C, f.apart g) (hs : f.n.size ≤ 281474976710656) (hlen : (A ++ C).length ≤ 1000000) :
    Calls Tryz.prog 58 #[.pointer (some ⟨db, 0, none⟩), .string f.n, .pointer (some ⟨f.b, 0, none⟩)] w fun e w' => e = .returned (.tuple #[]) ∧ Dk w' B db mb (A ++ f :: C) z s u ∧ Chg (fun k => k = mb) w w' := by
  have m0 : w.cell? ⟨db, 0, none⟩ = some (.map (some mb)) := h.blk.cell 0
  have HC := hid (fun W => clone_str f.n hs W)
  have HR : Hid (∀ W, Below w.heap.size w W → (Instr.mapUpdate 88 (.map (some mb)) (.string f.n) (.pointer (some ⟨f.b, 0, none⟩))).run Tryz.prog W = .ok () (updW mb f.n f.b W) ∧ Dk (updW mb f.n f.b W) B db mb (A ++ f :: C) z s u ∧ Chg (fun k => k = mb) w (updW mb f.n f.b W)) := fun W hW => by
    have hd := h.below hW
    obtain ⟨r1, r2, r3⟩ := updW_run hd.map (by unfold maxLen; omega) f.n (by unfold maxLen; omega) f.b
    exact ⟨r1, hd.put (hf.keep fun k q => hW.block k (hf.lt q).2) hA hC ha r2 r3, (Chg.of_below _ hW).trans (Chg.of_map r3) fun k q => .inl q⟩
  have m5 : Hid (∀ W, Below w.heap.size w W → W.cell? ⟨db, 0, none⟩ = some (.map (some mb))) := fun W hW => (h.below hW).blk.cell 0
  have hB := hid (Below.refl w.heap.size w)
  have r0 := (HR.out w hB.out).1
  clear h hf
  go_enter Tryz.func58, Tryz.ntmps58
  go_region_law (go_simp; go_at_call 91; refine (HC.out _).mono ?_; rintro e w5 ⟨rfl, hb5⟩; have B5 : Hid (Below w.heap.size w w5) := (by first | exact hb5 | exact (hB.out.drew.trans hb5)); have n0 := m5.out w5 B5.out; have n1 := m5.out _ B5.out.drew; have r1 := (HR.out _ B5.out).1; have r2 := (HR.out _ B5.out.drew).1; have r3 := (HR.out _ B5.out.drew.drew).1; clear hb5)
  all_goals (
    go_end0
    first
      | exact ⟨rfl, (HR.out _ B5.out).2⟩
      | exact ⟨rfl, (HR.out _ B5.out.drew).2⟩)

/-- The file as it is called otherwise. -/
def Fl.call (f : Fl) (x : ByteArray) : Fl := { f with n := x, h := true }
theorem Fl.has_call (f : Fl) (x : ByteArray) (k : Nat) : (f.call x).has k ↔ f.has k := Iff.rfl

set_option maxHeartbeats 1000000 in
theorem rename_form (db : Nat) (x y : ByteArray) (hy : y.size ≤ maxLen) (hr : rightB y = false) (w : World) : Calls Tryz.prog 86 #[.pointer (some ⟨db, 0, none⟩), .string x, .string y] w fun e w' => e = .returned (.int .i64 10) ∧ Below w.heap.size w w' := by
  have HC := hid (right_ok y hy w)
  rw [hr] at HC
  go_enter Tryz.func86, Tryz.ntmps86
  go_wp2_with (go_at_call 56; refine HC.out.mono ?_; rintro e w5 ⟨rfl, hb5⟩)
  go_ret
  exact ⟨rfl, hb5⟩

set_option maxHeartbeats 1000000 in
theorem rename_none {B db mb : Nat} {fs : List Fl} {z s u : Int} {w : World} (h : Dk w B db mb fs z s u) (x y : ByteArray) (hx : ∀ g ∈ fs, g.n ≠ x) (hs : x.size ≤ maxLen) (hy : y.size ≤ maxLen) (hr : rightB y = true) : Calls Tryz.prog 86 #[.pointer (some ⟨db, 0, none⟩), .string x, .string y] w fun e w' => e = .returned (.int .i64 12) ∧ Below w.heap.size w w' := by
  have HC := hid (right_ok y hy w)
  rw [hr] at HC
  have HN : Hid (∀ W, Below w.heap.size w W → W.cell? ⟨db, 0, none⟩ = some (.map (some mb)) ∧ (Instr.lookup 88 (.map (some mb)) (.string x) false).run Tryz.prog W = .ok (.pointer none) W) := fun W hW => ⟨(h.below hW).blk.cell 0, flook_none (h.below hW).map hx hs⟩
  clear h
  go_enter Tryz.func86, Tryz.ntmps86
  go_wp2_with (go_at_call 56; refine HC.out.mono ?_; rintro e w5 ⟨rfl, hb5⟩; obtain ⟨m0, hl⟩ := HN.out w5 hb5)
  go_ret
  exact ⟨rfl, hb5⟩

/-- What is left where a name is to be free. -/
def dropF (fs : List Fl) (x : ByteArray) : List Fl := fs.filter fun g => decide (g.n ≠ x)
theorem drop_none {fs : List Fl} {x : ByteArray} (h : ∀ g ∈ fs, g.n ≠ x) : dropF fs x = fs := List.filter_eq_self.2 fun g hg => decide_eq_true (h g hg)
theorem drop_some {A C : List Fl} {f : Fl} (h : Ris (A ++ f :: C)) : dropF (A ++ f :: C) f.n = A ++ C := by
  obtain ⟨h1, h2, _⟩ := rise_mid h
  unfold dropF
  rw [List.filter_append, List.filter_cons, if_neg (by simp)]
  have hA : A.filter (fun g => decide (g.n ≠ f.n)) = A := List.filter_eq_self.2 fun g hg => decide_eq_true (bef_ne (h1 g hg))
  have hC : C.filter (fun g => decide (g.n ≠ f.n)) = C := List.filter_eq_self.2 fun g hg => decide_eq_true fun e => bef_ne (h2 g hg) e.symm
  rw [hA, hC]
theorem drop_mem {fs : List Fl} {x : ByteArray} {g : Fl} : g ∈ dropF fs x ↔ g ∈ fs ∧ g.n ≠ x := by unfold dropF; rw [List.mem_filter, decide_eq_true_iff]
theorem sizeF_le {fs : List Fl} {f : Fl} (h : f ∈ fs) : f.d.length ≤ sizeF fs := by
  obtain ⟨A, C, rfl⟩ := List.append_of_mem h
  rw [sizeF_mid]; omega
/-- A disk with a file of that name no more. -/
theorem gone_ok {B db mb : Nat} {fs : List Fl} {z u : Int} {s : Nat} {w : World} (h : Dk w B db mb fs z (s : Int) u) (x : ByteArray) (hs : x.size ≤ maxLen) (hd : sizeF fs ≤ s) (hz : s ≤ 16777216) : Calls Tryz.prog 85 #[.pointer (some ⟨db, 0, none⟩), .string x] w fun e w' => (∃ q, e = .returned (.int .i64 q)) ∧ Dk w' B db mb (dropF fs x) z ((s - (sizeF fs - sizeF (dropF fs x)) : Nat) : Int) u ∧ Chg (Ft db mb fs) w w' := by
  rcases part x h.ri with ⟨A, f, C, rfl, rfl⟩ | ⟨A, C, rfl, hA, hC⟩
  · have hd2 := sizeF_mid A C f
    refine (remove_some h hs (by omega) hz).mono ?_
    rintro e w' ⟨rfl, h1, h2⟩
    rw [drop_some h.ri, hd2, show s - (sizeF (A ++ C) + f.d.length - sizeF (A ++ C)) = s - f.d.length by omega]
    exact ⟨⟨0, rfl⟩, h1, h2⟩
  · refine (remove_none h x (not_in hA hC) hs).mono ?_
    rintro e w' ⟨rfl, h1⟩
    rw [drop_none (not_in hA hC), show s - (sizeF (A ++ C) - sizeF (A ++ C)) = s by omega]
    exact ⟨⟨12, rfl⟩, h.below h1, Chg.of_below _ h1⟩
end Go.Proofs.YtofkfafdodhmdaaGreatDoor

/- What a disk comes to by names alone; (*store.Disk).Rename. Conditions: the disk stands; names no longer than any are. -/
namespace Go.Proofs.YtofkfafdodhmdaaGreatDoor
open Go.RowKit

/-- A file without its places: name, bytes, how many last, runs that don't, does it stay. -/
structure Fv where
  n : ByteArray
  d : List UInt8
  m : Nat
  l : List (Nat × Nat)
  h : Bool
def Fl.v (f : Fl) : Fv := ⟨f.n, f.d, f.m, f.l, f.h⟩
abbrev Vs := List Fv
abbrev viewF (fs : List Fl) : Vs := fs.map Fl.v
def sizeV (vs : Vs) : Nat := (vs.map fun f => f.d.length).sum
def looseV (vs : Vs) : Nat := (vs.map fun f => f.d.length - f.m).sum
abbrev RisV (vs : Vs) : Prop := vs.Pairwise fun f g => bef f.n g.n = true
def insV (v : Fv) : Vs → Vs
  | [] => [v]
  | g :: t => if bef v.n g.n = true then v :: g :: t else g :: insV v t
def dropV (x : ByteArray) (vs : Vs) : Vs := vs.filter fun g => decide (g.n ≠ x)
def updV (x : ByteArray) (F : Fv → Fv) (vs : Vs) : Vs := vs.map fun g => if g.n = x then F g else g
def getV (x : ByteArray) (vs : Vs) : Option Fv := vs.find? fun g => decide (g.n = x)
def Fv.sync (f : Fv) : Fv := { f with m := f.d.length, l := [], h := true }
def Fv.call (f : Fv) (y : ByteArray) : Fv := { f with n := y, h := true }
theorem view_size (fs : List Fl) : sizeV (viewF fs) = sizeF fs := by unfold sizeV sizeF viewF; rw [List.map_map]; rfl
theorem view_loose (fs : List Fl) : looseV (viewF fs) = looseF fs := by unfold looseV looseF viewF; rw [List.map_map]; rfl
theorem view_rise {fs : List Fl} (h : Ris fs) : RisV (viewF fs) := List.pairwise_map.2 h
theorem view_drop (fs : List Fl) (x : ByteArray) : viewF (dropF fs x) = dropV x (viewF fs) := by
  unfold dropF dropV viewF
  rw [List.filter_map]
  rfl
theorem ins_split {v : Fv} : ∀ {A C : Vs}, (∀ a ∈ A, bef a.n v.n = true) → (∀ c ∈ C, bef v.n c.n = true) → insV v (A ++ C) = A ++ v :: C
  | [], [], _, _ => rfl
  | [], c :: C, _, hC => if_pos (hC c List.mem_cons_self)
  | a :: A, C, hA, hC => by
    show (if bef v.n a.n = true then _ else a :: insV v (A ++ C)) = a :: (A ++ v :: C)
    rw [if_neg (by rw [bef_asymm (hA a List.mem_cons_self)]; decide), ins_split (fun x hx => hA x (List.mem_cons_of_mem _ hx)) hC]
theorem view_ins {A C : List Fl} {f : Fl} (hA : ∀ a ∈ A, bef a.n f.n = true) (hC : ∀ c ∈ C, bef f.n c.n = true) : viewF (A ++ f :: C) = insV f.v (viewF (A ++ C)) := by
  unfold viewF
  rw [List.map_append, List.map_append, List.map_cons, ins_split]
  · intro a ha
    obtain ⟨g, hg, rfl⟩ := List.mem_map.1 ha
    exact hA g hg
  · intro a ha
    obtain ⟨g, hg, rfl⟩ := List.mem_map.1 ha
    exact hC g hg
theorem view_upd {A C : List Fl} {f g : Fl} (h : Ris (A ++ f :: C)) {F : Fv → Fv} (e : g.v = F f.v) : viewF (A ++ g :: C) = updV f.n F (viewF (A ++ f :: C)) := by
  obtain ⟨h1, h2, _⟩ := rise_mid h
  unfold viewF updV
  rw [List.map_map, List.map_append, List.map_append, List.map_cons, List.map_cons]
  congr 1
  · refine List.map_congr_left fun a ha => ?_
    show a.v = if a.v.n = f.n then F a.v else a.v
    exact (if_neg (c := a.n = f.n) (bef_ne (h1 a ha))).symm
  · congr 1
    · show g.v = if f.v.n = f.n then F f.v else f.v
      exact e.trans (if_pos (c := f.n = f.n) rfl).symm
    · refine List.map_congr_left fun a ha => ?_
      show a.v = if a.v.n = f.n then F a.v else a.v
      exact (if_neg (c := a.n = f.n) fun q => bef_ne (h2 a ha) q.symm).symm
theorem get_some {A C : List Fl} {f : Fl} (h : Ris (A ++ f :: C)) : getV f.n (viewF (A ++ f :: C)) = some f.v := by
  obtain ⟨h1, _, _⟩ := rise_mid h
  unfold getV viewF
  rw [List.map_append, List.find?_append, List.map_cons, List.find?_cons]
  have e1 : (A.map Fl.v).find? (fun g => decide (g.n = f.n)) = none := by
    rw [List.find?_eq_none]
    intro p hp
    obtain ⟨g, hg, rfl⟩ := List.mem_map.1 hp
    rw [decide_eq_true_iff]
    exact bef_ne (h1 g hg)
  have e2 : decide (f.v.n = f.n) = true := decide_eq_true rfl
  rw [e1, e2]
  rfl
theorem get_none {fs : List Fl} {x : ByteArray} (h : ∀ g ∈ fs, g.n ≠ x) : getV x (viewF fs) = none := by
  unfold getV viewF
  rw [List.find?_eq_none]
  intro p hp
  obtain ⟨g, hg, rfl⟩ := List.mem_map.1 hp
  rw [decide_eq_true_iff]
  exact h g hg
theorem ft_sub {db mb : Nat} {fs gs : List Fl} (h : ∀ g ∈ gs, ∃ f ∈ fs, ∀ k, g.has k → f.has k) {k : Nat} (hk : Ft db mb gs k) : Ft db mb fs k := by
  rcases hk with q | q | ⟨g, hg, q⟩
  · exact .inl q
  · exact .inr (.inl q)
  · obtain ⟨f, hf, hs⟩ := h g hg
    exact .inr (.inr ⟨f, hf, hs k q⟩)

theorem flat_call {w : World} {B : Nat} {f : Fl} (y : ByteArray) (h : FlAt w B { f with n := y }) : FlAt (w.setCell ⟨f.b, 3, none⟩ (.bool true)) B (f.call y) ∧ Chg f.has w (w.setCell ⟨f.b, 3, none⟩ (.bool true)) := by
  have k1 := h.blk.set 3 (.bool true)
  have hk : ∀ k, k ≠ f.b → (w.setCell ⟨f.b, 3, none⟩ (.bool true)).heap[k]? = w.heap[k]? := fun k q => Below.heap_setCell _ _ _ _ q
  refine ⟨⟨h.lo, k1, own_block0 h.row fun g q => hk g ?_, own_block0 h.run fun g q => hk g ?_⟩, Chg.of_set w f.b 3 _ (S := f.has) (.inl rfl)⟩
  · obtain ⟨cur, hc⟩ := own_blk h.row q
    exact blk_ne0 hc h.blk (by decide)
  · obtain ⟨cur, hc⟩ := own_blk h.run q
    exact blk_ne0 hc h.blk (by decide)

theorem drop_size (fs : List Fl) (x : ByteArray) : sizeF (dropF fs x) ≤ sizeF fs := by
  unfold dropF sizeF
  induction fs with
  | nil => exact Nat.le_refl _
  | cons a t ih =>
    rw [List.filter_cons]
    by_cases q : decide (a.n ≠ x) = true
    · rw [if_pos q]; simp only [List.map_cons, List.sum_cons]; omega
    · rw [if_neg q]; simp only [List.map_cons, List.sum_cons]; omega
/-- What Rename is behind Remove. -/
structure RnS (w W : World) (B db mb : Nat) (f : Fl) (fs gs : List Fl) (z : Int) (s : Nat) (u : Int) : Prop where
  k : Dk W B db mb gs z (s : Int) u
  f : FlAt W B f
  c : Chg (Ft db mb fs) w W

set_option maxRecDepth 100000 in
set_option maxHeartbeats 4000000 in
theorem rename_some {B db mb : Nat} {A C : List Fl} {f : Fl} {z u : Int} {w : World} (h : DkAt w B db mb (A ++ f :: C) z u) (y : ByteArray) (hs : f.n.size ≤ 281474976710656) (hy : y.size ≤ 281474976710656) (hr : rightB y = true) (hz : sizeF (A ++ f :: C) ≤ 16777216) (hlen : (A ++ f :: C).length ≤ 1000000) :
    Calls Tryz.prog 86 #[.pointer (some ⟨db, 0, none⟩), .string f.n, .string y] w fun e w' => e = .returned (.int .i64 0) ∧ ∃ fs', DkAt w' B db mb fs' z u ∧ viewF fs' = insV (f.v.call y) (dropV y (dropV f.n (viewF (A ++ f :: C)))) ∧ Chg (Ft db mb (A ++ f :: C)) w w' ∧ (∀ k, Ft db mb fs' k → Ft db mb (A ++ f :: C) k) := by
  have HC := hid (right_ok y (by unfold maxLen; omega) w)
  rw [hr] at HC
  have hs2 : f.n.size ≤ maxLen := by unfold maxLen; omega
  have hy2 : y.size ≤ maxLen := by unfold maxLen; omega
  have HN : Hid (∀ W, Below w.heap.size w W → W.cell? ⟨db, 0, none⟩ = some (.map (some mb)) ∧ (Instr.lookup 88 (.map (some mb)) (.string f.n) false).run Tryz.prog W = .ok (.pointer (some ⟨f.b, 0, none⟩)) W ∧ DkAt W B db mb (A ++ f :: C) z u) := fun W hW => ⟨(h.below hW).blk.cell 0, look_some (h.below hW).map (h.below hW).ri hs2, h.below hW⟩
  have hk := hid (keyS f.n hs2)
  have hU := hid h
  have hdz := sizeF_mid A C f
  -- behind the first step
  have HG : Hid (∀ W, Dk W B db mb (A ++ C) z ((sizeF (A ++ f :: C) : Nat) : Int) u → FlAt W B f → Chg (Ft db mb (A ++ f :: C)) w W → Calls Tryz.prog 85 #[.pointer (some ⟨db, 0, none⟩), .string y] W fun e w' => (∃ q, e = .returned (.int .i64 q)) ∧ RnS w w' B db mb f (A ++ f :: C) (dropF (A ++ C) y) z (f.d.length + sizeF (dropF (A ++ C) y)) u) := fun W h1 h2 h3 => by
    refine (gone_ok h1 y hy2 (by omega) hz).mono ?_
    rintro e w' ⟨he, k1, k2⟩
    have hsz : sizeF (dropF (A ++ C) y) ≤ sizeF (A ++ C) := by
      exact drop_size _ _
    refine ⟨he, ⟨?_, h2.keep fun k q => k2.block k (h2.lt q).2 fun r => ?_, h3.trans k2 fun k q => .inl (ft_mid.2 (.inl q))⟩⟩
    · rw [show sizeF (A ++ f :: C) - (sizeF (A ++ C) - sizeF (dropF (A ++ C) y)) = f.d.length + sizeF (dropF (A ++ C) y) by omega] at k1
      exact k1
    · have hf : f ∈ A ++ f :: C := by simp
      rcases r with r | r | ⟨g, hg, r⟩
      · exact (hU.out.db_ne hf q).1 r
      · exact (hU.out.db_ne hf q).2 r
      · exact (ap_mid.1 hU.out.ap).2 g hg k q r
  clear h
  go_enter Tryz.func86, Tryz.ntmps86
  go_upto_region 6 with (go_at_call 56; refine HC.out.mono ?_; rintro e w5 ⟨rfl, hb5⟩; obtain ⟨m0, hl, hd⟩ := HN.out w5 hb5; have HD5 := hid hd; have B5 := hid hb5; clear hd)
  go_upto_region 7 with (at_delete; refine wpList_delete_own _ rfl (.tmp 22) (.tmp 23) 88 9 rfl 99 strK Tryz.underlying88 Rp mb _ _ rfl HD5.out.map (.string f.n) _ rfl hk.out ?_; intro w6 ho hg; have HO := hid ho; have HGr := hid hg.grown; clear ho hg)
  have h6 := HD5.out.del HO.out HGr.out
  have h7 : Chg (Ft db mb (A ++ f :: C)) w w6 := (Chg.of_below _ B5.out).trans (Chg.of_map HGr.out) fun k q => .inl (.inr (.inl q))
  have H6 := hid (HG.out w6 h6.1 h6.2 h7)
  clear h6 h7 HG HO HGr HD5 B5 HN m0 hl hb5
  go_upto_region 8 with (go_at_call 85; refine H6.out.mono ?_; rintro e w7 ⟨⟨q, rfl⟩, hR⟩; have HR := hid hR; clear hR)
  obtain ⟨hk7, hf7, hc7⟩ := HR.out
  have hnot : ∀ g ∈ dropF (A ++ C) y, g.n ≠ y := fun g hg => (drop_mem.1 hg).2
  rcases part y hk7.ri with ⟨A1, g1, C1, e1, e2⟩ | ⟨A1, C1, e1, hA1, hC1⟩
  · exact absurd e2 (hnot g1 (by rw [e1]; simp))
  have E1 := hid e1
  have hin : ∀ g ∈ A1 ++ C1, g ∈ A ++ C := fun g hg => (drop_mem.1 (by rw [e1]; exact hg)).1
  have hlen2 : (A1 ++ C1).length ≤ 1000000 := by
    rw [← e1]
    refine Nat.le_trans (List.length_filter_le _ _) ?_
    simp at hlen ⊢
    omega
  rw [e1] at hk7
  have hf1 : FlAt w7 B { f with n := y } := ⟨hf7.lo, hf7.blk, hf7.row, hf7.run⟩
  have HP := hid (put_ok hk7 hf1 hA1 hC1 (fun g hg => (ap_mid.1 hU.out.ap).2 g (hin g hg)) hy hlen2)
  have HA1 := hid hA1
  have HC1 := hid hC1
  have HIN := hid hin
  have c7 := hid hc7
  clear hk7 hf7 hc7 hnot e1 hA1 hC1 hin hlen2 hf1 HR H6
  go_upto_region 9 with (go_at_call 58; refine HP.out.mono ?_; rintro e w8 ⟨rfl, hd8, hc8⟩; have D8 := hid hd8; have K8 := hid hc8; clear hd8 hc8)
  have hF8 := D8.out.fl { f with n := y } (by simp)
  have c3 : w8.cell? ⟨f.b, 3, none⟩ = some (.bool f.h) := hF8.blk.cell 3
  have f3 : w8.frozen? ⟨f.b, 3, none⟩ = false := hF8.blk.free 3
  have HS := hid (flat_call y hF8)
  clear hF8 HP
  go_wp2
  go_ret
  have hE := D8.out.upd (g := f.call y) HS.out.2 HS.out.1 rfl rfl fun k q => .inl q
  have hv : viewF (A1 ++ f.call y :: C1) = insV (f.v.call y) (dropV y (dropV f.n (viewF (A ++ f :: C)))) := by
    rw [view_ins (f := f.call y) HA1.out HC1.out, ← E1.out, view_drop, ← drop_some hU.out.ri, view_drop]
    rfl
  have hsz : f.d.length + sizeF (dropF (A ++ C) y) = sizeF (A1 ++ f.call y :: C1) := by
    rw [sizeF_mid, E1.out]
    show _ = _ + f.d.length
    omega
  refine ⟨rfl, A1 ++ f.call y :: C1, ?_, hv, ?_, fun k q => ?_⟩
  · rw [E1.out] at hsz
    rw [hsz] at hE
    exact hE
  · exact (c7.out.trans K8.out fun k q => .inl (.inr (.inl q))).trans HS.out.2 fun k q => .inl (ft_mid.2 (.inr q))
  · rcases ft_mid.1 q with r | r
    · exact ft_sub (fun g hg => ⟨g, by
        rcases List.mem_append.1 (HIN.out g hg) with t | t
        · exact List.mem_append_left _ t
        · exact List.mem_append_right _ (List.mem_cons_of_mem _ t), fun k t => t⟩) r
    · exact ft_mid.2 (.inr r)
end Go.Proofs.YtofkfafdodhmdaaGreatDoor
