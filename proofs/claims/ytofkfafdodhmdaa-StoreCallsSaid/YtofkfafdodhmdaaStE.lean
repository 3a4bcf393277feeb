/- What a disk comes to by names alone; (*store.Disk).Rename. Conditions: the disk stands; names no longer than any are. -/
import Derived.Test.YtofkfafdodhmdaaStD
namespace Go.Proofs.Ytofkfafdodhmdaa
open Go.RowKit

/-- A file without its places: name, bytes, how many last, runs that don't, does it stay. -/
structure Fv where
  n : ByteArray
  d : List UInt8
  m : Nat
  l : List (Nat × Nat)
  h : Bool
def Fl.v (f : Fl) : Fv := ⟨f.n, f.d, f.m, f.l, f.h⟩
abbrev Vs := List Fv
abbrev viewF (fs : List Fl) : Vs := fs.map Fl.v
def sizeV (vs : Vs) : Nat := (vs.map fun f => f.d.length).sum
def looseV (vs : Vs) : Nat := (vs.map fun f => f.d.length - f.m).sum
abbrev RisV (vs : Vs) : Prop := vs.Pairwise fun f g => bef f.n g.n = true
def insV (v : Fv) : Vs → Vs
  | [] => [v]
  | g :: t => if bef v.n g.n = true then v :: g :: t else g :: insV v t
def dropV (x : ByteArray) (vs : Vs) : Vs := vs.filter fun g => decide (g.n ≠ x)
def updV (x : ByteArray) (F : Fv → Fv) (vs : Vs) : Vs := vs.map fun g => if g.n = x then F g else g
def getV (x : ByteArray) (vs : Vs) : Option Fv := vs.find? fun g => decide (g.n = x)
def Fv.sync (f : Fv) : Fv := { f with m := f.d.length, l := [], h := true }
def Fv.call (f : Fv) (y : ByteArray) : Fv := { f with n := y, h := true }
theorem view_size (fs : List Fl) : sizeV (viewF fs) = sizeF fs := by unfold sizeV sizeF viewF; rw [List.map_map]; rfl
theorem view_loose (fs : List Fl) : looseV (viewF fs) = looseF fs := by unfold looseV looseF viewF; rw [List.map_map]; rfl
theorem view_rise {fs : List Fl} (h : Ris fs) : RisV (viewF fs) := List.pairwise_map.2 h
theorem view_drop (fs : List Fl) (x : ByteArray) : viewF (dropF fs x) = dropV x (viewF fs) := by
  unfold dropF dropV viewF
  rw [List.filter_map]
  rfl
theorem ins_split {v : Fv} : ∀ {A C : Vs}, (∀ a ∈ A, bef a.n v.n = true) → (∀ c ∈ C, bef v.n c.n = true) → insV v (A ++ C) = A ++ v :: C
  | [], [], _, _ => rfl
  | [], c :: C, _, hC => if_pos (hC c List.mem_cons_self)
  | a :: A, C, hA, hC => by
    show (if bef v.n a.n = true then _ else a :: insV v (A ++ C)) = a :: (A ++ v :: C)
    rw [if_neg (by rw [bef_asymm (hA a List.mem_cons_self)]; decide), ins_split (fun x hx => hA x (List.mem_cons_of_mem _ hx)) hC]
theorem view_ins {A C : List Fl} {f : Fl} (hA : ∀ a ∈ A, bef a.n f.n = true) (hC : ∀ c ∈ C, bef f.n c.n = true) : viewF (A ++ f :: C) = insV f.v (viewF (A ++ C)) := by
  unfold viewF
  rw [List.map_append, List.map_append, List.map_cons, ins_split]
  · intro a ha
    obtain ⟨g, hg, rfl⟩ := List.mem_map.1 ha
    exact hA g hg
  · intro a ha
    obtain ⟨g, hg, rfl⟩ := List.mem_map.1 ha
    exact hC g hg
theorem view_upd {A C : List Fl} {f g : Fl} (h : Ris (A ++ f :: C)) {F : Fv → Fv} (e : g.v = F f.v) : viewF (A ++ g :: C) = updV f.n F (viewF (A ++ f :: C)) := by
  obtain ⟨h1, h2, _⟩ := rise_mid h
  unfold viewF updV
  rw [List.map_map, List.map_append, List.map_append, List.map_cons, List.map_cons]
  congr 1
  · refine List.map_congr_left fun a ha => ?_
    show a.v = if a.v.n = f.n then F a.v else a.v
    exact (if_neg (c := a.n = f.n) (bef_ne (h1 a ha))).symm
  · congr 1
    · show g.v = if f.v.n = f.n then F f.v else f.v
      exact e.trans (if_pos (c := f.n = f.n) rfl).symm
    · refine List.map_congr_left fun a ha => ?_
      show a.v = if a.v.n = f.n then F a.v else a.v
      exact (if_neg (c := a.n = f.n) fun q => bef_ne (h2 a ha) q.symm).symm
theorem get_some {A C : List Fl} {f : Fl} (h : Ris (A ++ f :: C)) : getV f.n (viewF (A ++ f :: C)) = some f.v := by
  obtain ⟨h1, _, _⟩ := rise_mid h
  unfold getV viewF
  rw [List.map_append, List.find?_append, List.map_cons, List.find?_cons]
  have e1 : (A.map Fl.v).find? (fun g => decide (g.n = f.n)) = none := by
    rw [List.find?_eq_none]
    intro p hp
    obtain ⟨g, hg, rfl⟩ := List.mem_map.1 hp
    rw [decide_eq_true_iff]
    exact bef_ne (h1 g hg)
  have e2 : decide (f.v.n = f.n) = true := decide_eq_true rfl
  rw [e1, e2]
  rfl
theorem get_none {fs : List Fl} {x : ByteArray} (h : ∀ g ∈ fs, g.n ≠ x) : getV x (viewF fs) = none := by
  unfold getV viewF
  rw [List.find?_eq_none]
  intro p hp
  obtain ⟨g, hg, rfl⟩ := List.mem_map.1 hp
  rw [decide_eq_true_iff]
  exact h g hg
theorem ft_sub {db mb : Nat} {fs gs : List Fl} (h : ∀ g ∈ gs, ∃ f ∈ fs, ∀ k, g.has k → f.has k) {k : Nat} (hk : Ft db mb gs k) : Ft db mb fs k := by
  rcases hk with q | q | ⟨g, hg, q⟩
  · exact .inl q
  · exact .inr (.inl q)
  · obtain ⟨f, hf, hs⟩ := h g hg
    exact .inr (.inr ⟨f, hf, hs k q⟩)

theorem flat_call {w : World} {B : Nat} {f : Fl} (y : ByteArray) (h : FlAt w B { f with n := y }) : FlAt (w.setCell ⟨f.b, 3, none⟩ (.bool true)) B (f.call y) ∧ Chg f.has w (w.setCell ⟨f.b, 3, none⟩ (.bool true)) := by
  have k1 := h.blk.set 3 (.bool true)
  have hk : ∀ k, k ≠ f.b → (w.setCell ⟨f.b, 3, none⟩ (.bool true)).heap[k]? = w.heap[k]? := fun k q => Below.heap_setCell _ _ _ _ q
  refine ⟨⟨h.lo, k1, own_block0 h.row fun g q => hk g ?_, own_block0 h.run fun g q => hk g ?_⟩, Chg.of_set w f.b 3 _ (S := f.has) (.inl rfl)⟩
  · obtain ⟨cur, hc⟩ := own_blk h.row q
    exact blk_ne0 hc h.blk (by decide)
  · obtain ⟨cur, hc⟩ := own_blk h.run q
    exact blk_ne0 hc h.blk (by decide)

theorem drop_size (fs : List Fl) (x : ByteArray) : sizeF (dropF fs x) ≤ sizeF fs := by
  unfold dropF sizeF
  induction fs with
  | nil => exact Nat.le_refl _
  | cons a t ih =>
    rw [List.filter_cons]
    by_cases q : decide (a.n ≠ x) = true
    · rw [if_pos q]; simp only [List.map_cons, List.sum_cons]; omega
    · rw [if_neg q]; simp only [List.map_cons, List.sum_cons]; omega
/-- What Rename is behind Remove. -/
structure RnS (w W : World) (B db mb : Nat) (f : Fl) (fs gs : List Fl) (z : Int) (s : Nat) (u : Int) : Prop where
  k : Dk W B db mb gs z (s : Int) u
  f : FlAt W B f
  c : Chg (Ft db mb fs) w W

set_option maxRecDepth 100000 in
set_option maxHeartbeats 4000000 in
theorem rename_some {B db mb : Nat} {A C : List Fl} {f : Fl} {z u : Int} {w : World} (h : DkAt w B db mb (A ++ f :: C) z u) (y : ByteArray) (hs : f.n.size ≤ 281474976710656) (hy : y.size ≤ 281474976710656) (hr : rightB y = true) (hz : sizeF (A ++ f :: C) ≤ 16777216) (hlen : (A ++ f :: C).length ≤ 1000000) :
    Calls Try.prog 33 #[.pointer (some ⟨db, 0, none⟩), .string f.n, .string y] w fun e w' => e = .returned (.int .i64 0) ∧ ∃ fs', DkAt w' B db mb fs' z u ∧ viewF fs' = insV (f.v.call y) (dropV y (dropV f.n (viewF (A ++ f :: C)))) ∧ Chg (Ft db mb (A ++ f :: C)) w w' ∧ (∀ k, Ft db mb fs' k → Ft db mb (A ++ f :: C) k) := by
  have HC := hid (right_ok y (by unfold maxLen; omega) w)
  rw [hr] at HC
  have hs2 : f.n.size ≤ maxLen := by unfold maxLen; omega
  have hy2 : y.size ≤ maxLen := by unfold maxLen; omega
  have HN : Hid (∀ W, Below w.heap.size w W → W.cell? ⟨db, 0, none⟩ = some (.map (some mb)) ∧ (Instr.lookup 57 (.map (some mb)) (.string f.n) false).run Try.prog W = .ok (.pointer (some ⟨f.b, 0, none⟩)) W ∧ DkAt W B db mb (A ++ f :: C) z u) := fun W hW => ⟨(h.below hW).blk.cell 0, look_some (h.below hW).map (h.below hW).ri hs2, h.below hW⟩
  have hk := hid (keyS f.n hs2)
  have hU := hid h
  have hdz := sizeF_mid A C f
  -- behind the first step
  have HG : Hid (∀ W, Dk W B db mb (A ++ C) z ((sizeF (A ++ f :: C) : Nat) : Int) u → FlAt W B f → Chg (Ft db mb (A ++ f :: C)) w W → Calls Try.prog 32 #[.pointer (some ⟨db, 0, none⟩), .string y] W fun e w' => (∃ q, e = .returned (.int .i64 q)) ∧ RnS w w' B db mb f (A ++ f :: C) (dropF (A ++ C) y) z (f.d.length + sizeF (dropF (A ++ C) y)) u) := fun W h1 h2 h3 => by
    refine (gone_ok h1 y hy2 (by omega) hz).mono ?_
    rintro e w' ⟨he, k1, k2⟩
    have hsz : sizeF (dropF (A ++ C) y) ≤ sizeF (A ++ C) := by
      exact drop_size _ _
    refine ⟨he, ⟨?_, h2.keep fun k q => k2.block k (h2.lt q).2 fun r => ?_, h3.trans k2 fun k q => .inl (ft_mid.2 (.inl q))⟩⟩
    · rw [show sizeF (A ++ f :: C) - (sizeF (A ++ C) - sizeF (dropF (A ++ C) y)) = f.d.length + sizeF (dropF (A ++ C) y) by omega] at k1
      exact k1
    · have hf : f ∈ A ++ f :: C := by simp
      rcases r with r | r | ⟨g, hg, r⟩
      · exact (hU.out.db_ne hf q).1 r
      · exact (hU.out.db_ne hf q).2 r
      · exact (ap_mid.1 hU.out.ap).2 g hg k q r
  clear h
  go_enter Try.func33, Try.ntmps33
  go_upto_region 6 with (go_at_call 45; refine HC.out.mono ?_; rintro e w5 ⟨rfl, hb5⟩; obtain ⟨m0, hl, hd⟩ := HN.out w5 hb5; have HD5 := hid hd; have B5 := hid hb5; clear hd)
  go_upto_region 7 with (at_delete; refine wpList_delete_own _ rfl (.tmp 22) (.tmp 23) 57 9 rfl 72 strK Try.underlying57 Rp mb _ _ rfl HD5.out.map (.string f.n) _ rfl hk.out ?_; intro w6 ho hg; have HO := hid ho; have HGr := hid hg.grown; clear ho hg)
  have h6 := HD5.out.del HO.out HGr.out
  have h7 : Chg (Ft db mb (A ++ f :: C)) w w6 := (Chg.of_below _ B5.out).trans (Chg.of_map HGr.out) fun k q => .inl (.inr (.inl q))
  have H6 := hid (HG.out w6 h6.1 h6.2 h7)
  clear h6 h7 HG HO HGr HD5 B5 HN m0 hl hb5
  go_upto_region 8 with (go_at_call 32; refine H6.out.mono ?_; rintro e w7 ⟨⟨q, rfl⟩, hR⟩; have HR := hid hR; clear hR)
  obtain ⟨hk7, hf7, hc7⟩ := HR.out
  have hnot : ∀ g ∈ dropF (A ++ C) y, g.n ≠ y := fun g hg => (drop_mem.1 hg).2
  rcases part y hk7.ri with ⟨A1, g1, C1, e1, e2⟩ | ⟨A1, C1, e1, hA1, hC1⟩
  · exact absurd e2 (hnot g1 (by rw [e1]; simp))
  have E1 := hid e1
  have hin : ∀ g ∈ A1 ++ C1, g ∈ A ++ C := fun g hg => (drop_mem.1 (by rw [e1]; exact hg)).1
  have hlen2 : (A1 ++ C1).length ≤ 1000000 := by
    rw [← e1]
    refine Nat.le_trans (List.length_filter_le _ _) ?_
    simp at hlen ⊢
    omega
  rw [e1] at hk7
  have hf1 : FlAt w7 B { f with n := y } := ⟨hf7.lo, hf7.blk, hf7.row, hf7.run⟩
  have HP := hid (put_ok hk7 hf1 hA1 hC1 (fun g hg => (ap_mid.1 hU.out.ap).2 g (hin g hg)) hy hlen2)
  have HA1 := hid hA1
  have HC1 := hid hC1
  have HIN := hid hin
  have c7 := hid hc7
  clear hk7 hf7 hc7 hnot e1 hA1 hC1 hin hlen2 hf1 HR H6
  go_upto_region 9 with (go_at_call 46; refine HP.out.mono ?_; rintro e w8 ⟨rfl, hd8, hc8⟩; have D8 := hid hd8; have K8 := hid hc8; clear hd8 hc8)
  have hF8 := D8.out.fl { f with n := y } (by simp)
  have c3 : w8.cell? ⟨f.b, 3, none⟩ = some (.bool f.h) := hF8.blk.cell 3
  have f3 : w8.frozen? ⟨f.b, 3, none⟩ = false := hF8.blk.free 3
  have HS := hid (flat_call y hF8)
  clear hF8 HP
  go_wp2
  go_ret
  have hE := D8.out.upd (g := f.call y) HS.out.2 HS.out.1 rfl rfl fun k q => .inl q
  have hv : viewF (A1 ++ f.call y :: C1) = insV (f.v.call y) (dropV y (dropV f.n (viewF (A ++ f :: C)))) := by
    rw [view_ins (f := f.call y) HA1.out HC1.out, ← E1.out, view_drop, ← drop_some hU.out.ri, view_drop]
    rfl
  have hsz : f.d.length + sizeF (dropF (A ++ C) y) = sizeF (A1 ++ f.call y :: C1) := by
    rw [sizeF_mid, E1.out]
    show _ = _ + f.d.length
    omega
  refine ⟨rfl, A1 ++ f.call y :: C1, ?_, hv, ?_, fun k q => ?_⟩
  · rw [E1.out] at hsz
    rw [hsz] at hE
    exact hE
  · exact (c7.out.trans K8.out fun k q => .inl (.inr (.inl q))).trans HS.out.2 fun k q => .inl (ft_mid.2 (.inr q))
  · rcases ft_mid.1 q with r | r
    · exact ft_sub (fun g hg => ⟨g, by
        rcases List.mem_append.1 (HIN.out g hg) with t | t
        · exact List.mem_append_left _ t
        · exact List.mem_append_right _ (List.mem_cons_of_mem _ t), fun k t => t⟩) r
    · exact ft_mid.2 (.inr r)
end Go.Proofs.Ytofkfafdodhmdaa
