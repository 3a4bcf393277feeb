/- codec.Order at every two cells, the world told as it was but for draws and new blocks; cells are in a strict weak order. Conditions: none. -/
import Derived.Test.YtfcnobcpnhfgmaaDoorHA
import Derived.Test.YtfcnobcpnhfgmaaDoorCE
import Derived.Test.YtfcnobcpnhfgmaaDoorCM
import Derived.Test.YtfcnobcpnhfgmaaDoorGG
namespace Go.Proofs.YtfcnobcpnhfgmaaDoor
open Go.RowKit

/-- As it was, but for draws and new blocks. -/
def Gr (w w' : World) : Prop := ∃ n os, w' = Go.Sort.grow (w.drewN n) os
theorem Gr.refl (w : World) : Gr w w := ⟨0, #[], (Go.Sort.grow_empty _).symm⟩
theorem Gr.trans {a b c : World} (h : Gr a b) (k : Gr b c) : Gr a c := by
  obtain ⟨n, os, rfl⟩ := h
  obtain ⟨q, os', rfl⟩ := k
  exact ⟨n + q, os ++ os', by show Go.Sort.grow (Go.Sort.grow ((a.drewN n).drewN q) os) os' = _; rw [Go.Sort.grow_grow, World.drewN_drewN]⟩
theorem Gr.drew {a b : World} (h : Gr a b) : Gr a b.drew := by
  obtain ⟨n, os, rfl⟩ := h
  exact ⟨n + 1, os, by show Go.Sort.grow ((a.drewN n).drew) os = _; rfl⟩
theorem Gr.new (w : World) (o : Obj) : Gr w (w.alloc o) := ⟨0, #[o], by rw [Go.Sort.alloc_eq_grow]; rfl⟩
theorem Gr.alloc {a b : World} (h : Gr a b) (o : Obj) : Gr a (b.alloc o) := h.trans (Gr.new b o)
theorem Gr.below {a b : World} (h : Gr a b) : Below a.heap.size a b := by
  obtain ⟨n, os, rfl⟩ := h
  exact ⟨rfl, rfl, rfl, by rw [Go.Sort.size_grow]; exact Nat.le_add_right _ _, fun k hk => Go.Sort.heap_grow_old _ _ hk⟩

set_option maxHeartbeats 1000000 in
theorem crank_gr (r f q vs : ByteArray) (t k vk vn : Int) (w : World) :
    Calls Tryd.prog 109 #[cellV r f q t k vk vn vs] w fun e w' => e = .returned (.int .i64 (rankC k)) ∧ Gr w w' := by
  unfold rankC
  by_cases h : k = 4
  · subst h
    rw [if_pos rfl]
    go_enter Tryd.func109, Tryd.ntmps109
    go_wp2
    go_ret
    exact ⟨rfl, Gr.new _ _⟩
  · rw [if_neg h]
    have h0 : (k == 4) = false := by simpa using h
    go_enter Tryd.func109, Tryd.ntmps109
    go_wp2
    go_ret
    exact ⟨rfl, Gr.new _ _⟩

/-- Two cells in blocks of the call's own. -/
abbrev TwoG (w : World) (r1 f1 q1 s1 : ByteArray) (t1 k1 vk1 vn1 : Int) (r2 f2 q2 s2 : ByteArray) (t2 k2 vk2 vn2 : Int) (w' : World) : Prop :=
  Hid (Gr w w' ∧ w.heap.size + 1 < w'.heap.size) ∧ w'.cell? ⟨w.heap.size, 0, none⟩ = some (.string r1) ∧ w'.cell? ⟨w.heap.size, 1, none⟩ = some (.string f1) ∧ w'.cell? ⟨w.heap.size, 2, none⟩ = some (.string q1) ∧ w'.cell? ⟨w.heap.size, 3, none⟩ = some (.int .i64 t1) ∧ w'.cell? ⟨w.heap.size, 4, none⟩ = some (.int .i64 k1) ∧ w'.cell? ⟨w.heap.size, 5, none⟩ = some (.int .i64 vk1) ∧ w'.cell? ⟨w.heap.size, 6, none⟩ = some (.int .i64 vn1) ∧ w'.cell? ⟨w.heap.size, 7, none⟩ = some (.string s1) ∧ w'.cell? ⟨w.heap.size + 1, 0, none⟩ = some (.string r2) ∧ w'.cell? ⟨w.heap.size + 1, 1, none⟩ = some (.string f2) ∧ w'.cell? ⟨w.heap.size + 1, 2, none⟩ = some (.string q2) ∧ w'.cell? ⟨w.heap.size + 1, 3, none⟩ = some (.int .i64 t2) ∧ w'.cell? ⟨w.heap.size + 1, 4, none⟩ = some (.int .i64 k2) ∧ w'.cell? ⟨w.heap.size + 1, 5, none⟩ = some (.int .i64 vk2) ∧ w'.cell? ⟨w.heap.size + 1, 6, none⟩ = some (.int .i64 vn2) ∧ w'.cell? ⟨w.heap.size + 1, 7, none⟩ = some (.string s2)
section
variable {w W W' : World} {r1 f1 q1 s1 r2 f2 q2 s2 : ByteArray} {t1 k1 vk1 vn1 t2 k2 vk2 vn2 : Int}
theorem twog_call (h : TwoG w r1 f1 q1 s1 t1 k1 vk1 vn1 r2 f2 q2 s2 t2 k2 vk2 vn2 W) (hb : Gr W W') : TwoG w r1 f1 q1 s1 t1 k1 vk1 vn1 r2 f2 q2 s2 t2 k2 vk2 vn2 W' := by
  obtain ⟨hh, a0, a1, a2, a3, a4, a5, a6, a7, a8, a9, a10, a11, a12, a13, a14, a15⟩ := h
  obtain ⟨hbw, hz⟩ := hh.out
  have hc : ∀ b o, b ≤ w.heap.size + 1 → W'.cell? ⟨b, o, none⟩ = W.cell? ⟨b, o, none⟩ := fun b o h => hb.below.cell (p := ⟨b, o, none⟩) (show b < W.heap.size by omega)
  refine ⟨hid ⟨hbw.trans hb, Nat.lt_of_lt_of_le hz hb.below.size⟩, ?_, ?_, ?_, ?_, ?_, ?_, ?_, ?_, ?_, ?_, ?_, ?_, ?_, ?_, ?_, ?_⟩ <;> (rw [hc _ _ (by omega)]; assumption)
theorem twog_drew (h : TwoG w r1 f1 q1 s1 t1 k1 vk1 vn1 r2 f2 q2 s2 t2 k2 vk2 vn2 W) : TwoG w r1 f1 q1 s1 t1 k1 vk1 vn1 r2 f2 q2 s2 t2 k2 vk2 vn2 W.drew := by
  obtain ⟨hh, h⟩ := h
  exact ⟨hid ⟨hh.out.1.drew, hh.out.2⟩, h⟩
end
theorem or6g (x1 x2 x3 x4 x5 x6 : Int) (W : World) (T : TypeId) :
    Calls Tryd.prog 106 #[.slice (some ⟨W.heap.size, 0, none⟩) 6 6] (W.alloc (.cells #[.int .i64 x1, .int .i64 x2, .int .i64 x3, .int .i64 x4, .int .i64 x5, .int .i64 x6] T)) fun e w' => e = .returned (.int .i64 (orI [x1, x2, x3, x4, x5, x6])) ∧ Gr (W.alloc (.cells #[.int .i64 x1, .int .i64 x2, .int .i64 x3, .int .i64 x4, .int .i64 x5, .int .i64 x6] T)) w' := by
  refine (or_any W.heap.size 6 (by decide) [x1, x2, x3, x4, x5, x6] rfl _ fun i hi => ?_).mono fun e w' ⟨he, hw⟩ => ⟨he, by rw [hw]; exact Gr.refl _⟩
  rw [(Blk.new W T _).cell i]
  match i, hi with
  | 0, _ => rfl
  | 1, _ => rfl
  | 2, _ => rfl
  | 3, _ => rfl
  | 4, _ => rfl
  | 5, _ => rfl

set_option maxRecDepth 100000 in
set_option maxHeartbeats 8000000 in
theorem corder_gr (r1 f1 q1 s1 : ByteArray) (t1 k1 vk1 vn1 : Int) (r2 f2 q2 s2 : ByteArray) (t2 k2 vk2 vn2 : Int) (w : World) :
    Calls Tryd.prog 57 #[cellV r1 f1 q1 t1 k1 vk1 vn1 s1, cellV r2 f2 q2 t2 k2 vk2 vn2 s2] w fun e w' => e = .returned (.int .i64 (cOrd r1.data.toList f1.data.toList q1.data.toList t1 k1 r2.data.toList f2.data.toList q2.data.toList t2 k2)) ∧ Gr w w' := by
  unfold cOrd
  generalize hz : orI [Lib.compareBytes r1.data.toList r2.data.toList, Lib.compareBytes f1.data.toList f2.data.toList, Lib.compareInt (rankC k1) (rankC k2), Lib.compareBytes q1.data.toList q2.data.toList, Lib.compareInt t2 t1, Lib.compareInt k2 k1] = z
  have HZ := hid hz
  clear hz
  go_enter Tryd.func57, Tryd.ntmps57
  go_wp2
  obtain ⟨W, hW⟩ : ∃ W, ((w.alloc (.cells #[.string r1, .string f1, .string q1, .int .i64 t1, .int .i64 k1, .int .i64 vk1, .int .i64 vn1, .string s1] 40)).alloc (.cells #[.string r2, .string f2, .string q2, .int .i64 t2, .int .i64 k2, .int .i64 vk2, .int .i64 vn2, .string s2] 40)) = W := ⟨_, rfl⟩
  have HT : Hid (TwoG w r1 f1 q1 s1 t1 k1 vk1 vn1 r2 f2 q2 s2 t2 k2 vk2 vn2 W) := by
    subst hW
    have B1 : Blk (w.alloc (.cells #[Value.string r1, .string f1, .string q1, .int .i64 t1, .int .i64 k1, .int .i64 vk1, .int .i64 vn1, .string s1] 40)) w.heap.size 40 #[Value.string r1, .string f1, .string q1, .int .i64 t1, .int .i64 k1, .int .i64 vk1, .int .i64 vn1, .string s1] := Blk.new w _ _
    have B2 := B1.keep (below_new _ (.cells #[Value.string r2, .string f2, .string q2, .int .i64 t2, .int .i64 k2, .int .i64 vk2, .int .i64 vn2, .string s2] 40)) (by simp)
    have B3 : Blk ((w.alloc (.cells #[Value.string r1, .string f1, .string q1, .int .i64 t1, .int .i64 k1, .int .i64 vk1, .int .i64 vn1, .string s1] 40)).alloc (.cells #[Value.string r2, .string f2, .string q2, .int .i64 t2, .int .i64 k2, .int .i64 vk2, .int .i64 vn2, .string s2] 40)) (w.heap.size + 1) 40 #[Value.string r2, .string f2, .string q2, .int .i64 t2, .int .i64 k2, .int .i64 vk2, .int .i64 vn2, .string s2] := by
      have := Blk.new (w.alloc (.cells #[Value.string r1, .string f1, .string q1, .int .i64 t1, .int .i64 k1, .int .i64 vk1, .int .i64 vn1, .string s1] 40)) 40 #[Value.string r2, .string f2, .string q2, .int .i64 t2, .int .i64 k2, .int .i64 vk2, .int .i64 vn2, .string s2]
      simpa using this
    exact ⟨hid ⟨(Gr.new w _).alloc _, by simp⟩, B2.cell 0, B2.cell 1, B2.cell 2, B2.cell 3, B2.cell 4, B2.cell 5, B2.cell 6, B2.cell 7, B3.cell 0, B3.cell 1, B3.cell 2, B3.cell 3, B3.cell 4, B3.cell 5, B3.cell 6, B3.cell 7⟩
  rw [hW]
  clear hW
  obtain ⟨h0, c0, c1, c2, c3, c4, c5, c6, c7, d0, d1, d2, d3, d4, d5, d6, d7⟩ := HT.out
  go_region_held3 (fun w' => Hid (Gr w w' ∧ w.heap.size + 1 < w'.heap.size) ∧ w'.cell? ⟨w.heap.size, 0, none⟩ = some (.string r1) ∧ w'.cell? ⟨w.heap.size, 1, none⟩ = some (.string f1) ∧ w'.cell? ⟨w.heap.size, 2, none⟩ = some (.string q1) ∧ w'.cell? ⟨w.heap.size, 3, none⟩ = some (.int .i64 t1) ∧ w'.cell? ⟨w.heap.size, 4, none⟩ = some (.int .i64 k1) ∧ w'.cell? ⟨w.heap.size, 5, none⟩ = some (.int .i64 vk1) ∧ w'.cell? ⟨w.heap.size, 6, none⟩ = some (.int .i64 vn1) ∧ w'.cell? ⟨w.heap.size, 7, none⟩ = some (.string s1) ∧ w'.cell? ⟨w.heap.size + 1, 0, none⟩ = some (.string r2) ∧ w'.cell? ⟨w.heap.size + 1, 1, none⟩ = some (.string f2) ∧ w'.cell? ⟨w.heap.size + 1, 2, none⟩ = some (.string q2) ∧ w'.cell? ⟨w.heap.size + 1, 3, none⟩ = some (.int .i64 t2) ∧ w'.cell? ⟨w.heap.size + 1, 4, none⟩ = some (.int .i64 k2) ∧ w'.cell? ⟨w.heap.size + 1, 5, none⟩ = some (.int .i64 vk2) ∧ w'.cell? ⟨w.heap.size + 1, 6, none⟩ = some (.int .i64 vn2) ∧ w'.cell? ⟨w.heap.size + 1, 7, none⟩ = some (.string s2))
    (first | exact HT.out | exact twog_drew HT.out | exact twog_call (by assumption) hbo | exact twog_drew (by assumption) | assumption | exact twog_call (by assumption) (Gr.new _ _) | exact twog_call (twog_call (by assumption) (Gr.new _ _)) hbo)
    (first
      | (go_at_call 107; ((with_reducible refine (Tryd.strings_Compare _ _ _).mono ?_); rintro e w5 ⟨rfl, rfl⟩))
      | (go_at_call 108; ((with_reducible refine (Tryd.cmp_Compare_int _ _ _).mono ?_); rintro e w5 ⟨rfl, rfl⟩))
      | (go_at_call 109; ((with_reducible refine (crank_gr _ _ _ _ _ _ _ _ _).mono ?_); rintro e w5 ⟨rfl, hbo⟩))
      | (go_at_call 106; ((with_reducible refine (or6g _ _ _ _ _ _ _ _).mono ?_); rintro e w7 ⟨rfl, hbo⟩)))
  rename_i hLast
  go_wp2
  go_ret
  refine ⟨?_, hLast.1.out.1⟩
  rw [← HZ.out]
  rfl

/-- A comparison that is one: turned round it turns its sign, and it passes on. -/
structure C3 {α : Type} (f : α → α → Int) : Prop where
  anti : ∀ x y, f y x = -f x y
  tr : ∀ x y z, f x y ≤ 0 → f y z ≤ 0 → f x z ≤ 0
theorem C3.zero {α : Type} {f : α → α → Int} (h : C3 f) (x : α) : f x x = 0 := by have := h.anti x x; omega
theorem C3.lt_le {α : Type} {f : α → α → Int} (h : C3 f) {x y z : α} (h1 : f x y < 0) (h2 : f y z ≤ 0) : f x z < 0 := by
  have h3 := h.tr x y z (by omega) h2
  by_cases e : f x z = 0
  · have a1 := h.anti x z
    have := h.tr y z x h2 (by omega)
    have a2 := h.anti x y
    omega
  · omega
theorem C3.le_lt {α : Type} {f : α → α → Int} (h : C3 f) {x y z : α} (h1 : f x y ≤ 0) (h2 : f y z < 0) : f x z < 0 := by
  have h3 := h.tr x y z h1 (by omega)
  by_cases e : f x z = 0
  · have a1 := h.anti x z
    have := h.tr z x y (by omega) h1
    have a2 := h.anti y z
    omega
  · omega
/-- The second comparison decides where the first doesn't. -/
theorem C3.lex {α : Type} {f g : α → α → Int} (hf : C3 f) (hg : C3 g) : C3 (fun x y => if f x y = 0 then g x y else f x y) where
  anti x y := by
    have := hf.anti x y
    by_cases e : f x y = 0
    · rw [if_pos e, if_pos (by omega)]; exact hg.anti x y
    · rw [if_neg e, if_neg (by omega)]; exact this
  tr x y z h1 h2 := by
    have a1 := hf.anti x y
    have a2 := hf.anti y z
    have a3 := hf.anti x z
    by_cases e1 : f x y = 0
    · rw [if_pos e1] at h1
      by_cases e2 : f y z = 0
      · rw [if_pos e2] at h2
        have := hf.tr x y z (by omega) (by omega)
        have := hf.tr z y x (by omega) (by omega)
        rw [if_pos (by omega)]
        exact hg.tr x y z h1 h2
      · rw [if_neg e2] at h2
        have := hf.le_lt (x := x) (y := y) (z := z) (by omega) (by omega)
        rw [if_neg (by omega)]; omega
    · rw [if_neg e1] at h1
      have h2' : f y z ≤ 0 := by
        by_cases e2 : f y z = 0
        · omega
        · rw [if_neg e2] at h2; exact h2
      have := hf.lt_le (x := x) (y := y) (z := z) (by omega) h2'
      rw [if_neg (by omega)]; omega
theorem C3.bytes {α : Type} (p : α → List UInt8) : C3 (fun x y => Lib.compareBytes (p x) (p y)) where
  anti _ _ := cmpB_neg _ _
  tr _ _ _ := cmpB_trans _ _ _
theorem C3.int {α : Type} (p : α → Int) : C3 (fun x y => Lib.compareInt (p x) (p y)) where
  anti x y := by unfold Lib.compareInt; split <;> (try split) <;> (try split) <;> (try split) <;> omega
  tr x y z h1 h2 := by
    unfold Lib.compareInt at *
    split at h1 <;> split at h2 <;> (try split at h1) <;> (try split at h2) <;> split <;> (try split) <;> omega
theorem C3.zeroF {α : Type} : C3 (fun _ _ : α => 0) where
  anti _ _ := by omega
  tr _ _ _ _ _ := by omega
/-- How cells stand to each other. -/
def CT.cmp (x y : CT) : Int := cOrd x.r.data.toList x.f.data.toList x.q.data.toList x.t x.k y.r.data.toList y.f.data.toList y.q.data.toList y.t y.k
theorem ct_c3 : C3 CT.cmp := by
  have h := (C3.bytes fun x : CT => x.r.data.toList).lex ((C3.bytes fun x : CT => x.f.data.toList).lex ((C3.int fun x : CT => rankC x.k).lex ((C3.bytes fun x : CT => x.q.data.toList).lex ((C3.int fun x : CT => -x.t).lex ((C3.int fun x : CT => -x.k).lex C3.zeroF)))))
  have e : CT.cmp = fun x y => (if Lib.compareBytes x.r.data.toList y.r.data.toList = 0 then (if Lib.compareBytes x.f.data.toList y.f.data.toList = 0 then (if Lib.compareInt (rankC x.k) (rankC y.k) = 0 then (if Lib.compareBytes x.q.data.toList y.q.data.toList = 0 then (if Lib.compareInt (-x.t) (-y.t) = 0 then (if Lib.compareInt (-x.k) (-y.k) = 0 then 0 else Lib.compareInt (-x.k) (-y.k)) else Lib.compareInt (-x.t) (-y.t)) else Lib.compareBytes x.q.data.toList y.q.data.toList) else Lib.compareInt (rankC x.k) (rankC y.k)) else Lib.compareBytes x.f.data.toList y.f.data.toList) else Lib.compareBytes x.r.data.toList y.r.data.toList) := by
    funext x y
    have n1 : ∀ a b : Int, Lib.compareInt b a = Lib.compareInt (-a) (-b) := fun a b => by unfold Lib.compareInt; split <;> (try split) <;> (try split) <;> (try split) <;> omega
    unfold CT.cmp cOrd
    simp only [orI_cons, n1 x.t y.t, n1 x.k y.k]
    rfl
  rw [e]
  exact h
theorem c3_swo {α : Type} {f : α → α → Int} (h : C3 f) : Go.Sort.SWO (ltOf f) where
  irrefl x := by unfold ltOf; rw [h.zero]; rfl
  trans x y z h1 h2 := by
    unfold ltOf at *
    have h1 := of_decide_eq_true h1
    have h2 := of_decide_eq_true h2
    exact decide_eq_true (h.lt_le h1 (by omega))
  ntrans x y z h1 h2 := by
    unfold ltOf at *
    have h1 := of_decide_eq_false h1
    have h2 := of_decide_eq_false h2
    refine decide_eq_false ?_
    have a1 := h.anti x y
    have a2 := h.anti y z
    have a3 := h.anti x z
    have := h.tr z y x (by omega) (by omega)
    omega
end Go.Proofs.YtfcnobcpnhfgmaaDoor
