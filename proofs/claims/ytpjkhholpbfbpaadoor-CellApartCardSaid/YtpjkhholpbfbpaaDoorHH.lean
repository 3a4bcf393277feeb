/- What package cell's sight does with a cell: move. Conditions: the sight stands in a block of its own. -/
import Derived.Test.YtpjkhholpbfbpaaDoorHG
namespace Go.Proofs.YtpjkhholpbfbpaaDoor
open Go.RowKit

theorem ba_ne {x y : ByteArray} (h : x ≠ y) : (x.toList == y.toList) = false := by
  rw [Bool.eq_false_iff]
  intro e
  have e := eq_of_beq e
  apply h
  apply ByteArray.ext
  rw [ByteArray.toList_eq, ByteArray.toList_eq] at e
  exact Array.toList_inj.1 e

/-- Where a sight stands. -/
structure MS (w : World) (sb : Nat) (W : World) (xs : Array Value) : Prop where
  b : Blk W sb 111 xs
  o : But w.heap.size sb w W
theorem MS.set {w W : World} {sb : Nat} {xs : Array Value} (h : MS w sb W xs) (j : Nat) (v : Value) : MS w sb (W.setCell ⟨sb, j, none⟩ v) (xs.setIfInBounds j v) := ⟨h.b.set j v, h.o.setCell j v⟩
theorem MS.drewN {w W : World} {sb : Nat} {xs : Array Value} (h : MS w sb W xs) (n : Nat) : MS w sb (W.drewN n) xs := ⟨h.b, h.o.trans (But.of_below (below_drewN (Below.refl _ _) n) sb)⟩
theorem MS.below {w W W' : World} {sb : Nat} {xs : Array Value} (h : MS w sb W xs) (hb : Below W.heap.size W W') : MS w sb W' xs := ⟨h.b.keep hb h.b.lt, h.o.trans (But.of_below (hb.mono h.o.size) sb)⟩
theorem MS.sets12 {w W : World} {sb : Nat} {x0 x1 x2 x3 x4 x5 x6 x7 x8 x9 x10 x11 : Value} (h : MS w sb W #[x0, x1, x2, x3, x4, x5, x6, x7, x8, x9, x10, x11]) (v0 v1 v2 v3 v4 v5 v6 v7 v8 v9 v10 v11 : Value) : MS w sb ((((((((((((W.setCell ⟨sb, 0, none⟩ v0).setCell ⟨sb, 1, none⟩ v1).setCell ⟨sb, 2, none⟩ v2).setCell ⟨sb, 3, none⟩ v3).setCell ⟨sb, 4, none⟩ v4).setCell ⟨sb, 5, none⟩ v5).setCell ⟨sb, 6, none⟩ v6).setCell ⟨sb, 7, none⟩ v7).setCell ⟨sb, 8, none⟩ v8).setCell ⟨sb, 9, none⟩ v9).setCell ⟨sb, 10, none⟩ v10).setCell ⟨sb, 11, none⟩ v11) #[v0, v1, v2, v3, v4, v5, v6, v7, v8, v9, v10, v11] := by
  have m0 : MS w sb _ #[v0, x1, x2, x3, x4, x5, x6, x7, x8, x9, x10, x11] := h.set 0 v0
  have m1 : MS w sb _ #[v0, v1, x2, x3, x4, x5, x6, x7, x8, x9, x10, x11] := m0.set 1 v1
  have m2 : MS w sb _ #[v0, v1, v2, x3, x4, x5, x6, x7, x8, x9, x10, x11] := m1.set 2 v2
  have m3 : MS w sb _ #[v0, v1, v2, v3, x4, x5, x6, x7, x8, x9, x10, x11] := m2.set 3 v3
  have m4 : MS w sb _ #[v0, v1, v2, v3, v4, x5, x6, x7, x8, x9, x10, x11] := m3.set 4 v4
  have m5 : MS w sb _ #[v0, v1, v2, v3, v4, v5, x6, x7, x8, x9, x10, x11] := m4.set 5 v5
  have m6 : MS w sb _ #[v0, v1, v2, v3, v4, v5, v6, x7, x8, x9, x10, x11] := m5.set 6 v6
  have m7 : MS w sb _ #[v0, v1, v2, v3, v4, v5, v6, v7, x8, x9, x10, x11] := m6.set 7 v7
  have m8 : MS w sb _ #[v0, v1, v2, v3, v4, v5, v6, v7, v8, x9, x10, x11] := m7.set 8 v8
  have m9 : MS w sb _ #[v0, v1, v2, v3, v4, v5, v6, v7, v8, v9, x10, x11] := m8.set 9 v9
  have m10 : MS w sb _ #[v0, v1, v2, v3, v4, v5, v6, v7, v8, v9, v10, x11] := m9.set 10 v10
  have m11 : MS w sb _ #[v0, v1, v2, v3, v4, v5, v6, v7, v8, v9, v10, v11] := m10.set 11 v11
  exact m11
theorem MS.sets8 {w W : World} {sb : Nat} {x0 x1 x2 x3 x4 x5 x6 x7 x8 x9 x10 x11 : Value} (h : MS w sb W #[x0, x1, x2, x3, x4, x5, x6, x7, x8, x9, x10, x11]) (v0 v1 v2 v3 v4 v5 v6 v7 : Value) : MS w sb ((((((((W.setCell ⟨sb, 0, none⟩ v0).setCell ⟨sb, 1, none⟩ v1).setCell ⟨sb, 2, none⟩ v2).setCell ⟨sb, 3, none⟩ v3).setCell ⟨sb, 4, none⟩ v4).setCell ⟨sb, 5, none⟩ v5).setCell ⟨sb, 6, none⟩ v6).setCell ⟨sb, 7, none⟩ v7) #[v0, v1, v2, v3, v4, v5, v6, v7, x8, x9, x10, x11] := by
  have m0 : MS w sb _ #[v0, x1, x2, x3, x4, x5, x6, x7, x8, x9, x10, x11] := h.set 0 v0
  have m1 : MS w sb _ #[v0, v1, x2, x3, x4, x5, x6, x7, x8, x9, x10, x11] := m0.set 1 v1
  have m2 : MS w sb _ #[v0, v1, v2, x3, x4, x5, x6, x7, x8, x9, x10, x11] := m1.set 2 v2
  have m3 : MS w sb _ #[v0, v1, v2, v3, x4, x5, x6, x7, x8, x9, x10, x11] := m2.set 3 v3
  have m4 : MS w sb _ #[v0, v1, v2, v3, v4, x5, x6, x7, x8, x9, x10, x11] := m3.set 4 v4
  have m5 : MS w sb _ #[v0, v1, v2, v3, v4, v5, x6, x7, x8, x9, x10, x11] := m4.set 5 v5
  have m6 : MS w sb _ #[v0, v1, v2, v3, v4, v5, v6, x7, x8, x9, x10, x11] := m5.set 6 v6
  have m7 : MS w sb _ #[v0, v1, v2, v3, v4, v5, v6, v7, x8, x9, x10, x11] := m6.set 7 v7
  exact m7
theorem MS.sets3 {w W : World} {sb : Nat} {x0 x1 x2 x3 x4 x5 x6 x7 x8 x9 x10 x11 : Value} (h : MS w sb W #[x0, x1, x2, x3, x4, x5, x6, x7, x8, x9, x10, x11]) (v9 v10 v11 : Value) : MS w sb (((W.setCell ⟨sb, 9, none⟩ v9).setCell ⟨sb, 10, none⟩ v10).setCell ⟨sb, 11, none⟩ v11) #[x0, x1, x2, x3, x4, x5, x6, x7, x8, v9, v10, v11] := by
  have m0 : MS w sb _ #[x0, x1, x2, x3, x4, x5, x6, x7, x8, v9, x10, x11] := h.set 9 v9
  have m1 : MS w sb _ #[x0, x1, x2, x3, x4, x5, x6, x7, x8, v9, v10, x11] := m0.set 10 v10
  have m2 : MS w sb _ #[x0, x1, x2, x3, x4, x5, x6, x7, x8, v9, v10, v11] := m1.set 11 v11
  exact m2
theorem MS.start {w : World} {sb : Nat} {xs : Array Value} (h : Blk w sb 111 xs) : MS w sb w xs := ⟨h, But.refl _ _ _⟩

set_option maxHeartbeats 4000000 in
set_option maxRecDepth 100000 in
theorem move_any (g : SG) (c : CT) (sb : Nat) (w : World) (h : Blk w sb 111 g.a) :
    Calls Tryd.prog 106 #[.pointer (some ⟨sb, 0, none⟩), c.v] w fun e w' => e = .returned (.tuple #[]) ∧ Blk w' sb 111 (g.move c).a ∧ But w.heap.size sb w w' := by
  have mixed : Tryd.prog.follows .mixedOrders = true := by kernel_rfl
  have a0 : w.cell? ⟨sb, 0, none⟩ = some (.string g.at'.r) := h.cell 0; have a1 : w.cell? ⟨sb, 1, none⟩ = some (.string g.at'.f) := h.cell 1; have a2 : w.cell? ⟨sb, 2, none⟩ = some (.string g.at'.q) := h.cell 2; have a3 : w.cell? ⟨sb, 3, none⟩ = some (.int .i64 g.at'.t) := h.cell 3; have a4 : w.cell? ⟨sb, 4, none⟩ = some (.int .i64 g.at'.k) := h.cell 4; have a5 : w.cell? ⟨sb, 5, none⟩ = some (.int .i64 g.at'.vk) := h.cell 5; have a6 : w.cell? ⟨sb, 6, none⟩ = some (.int .i64 g.at'.vn) := h.cell 6; have a7 : w.cell? ⟨sb, 7, none⟩ = some (.string g.at'.s) := h.cell 7; have a8 : w.cell? ⟨sb, 8, none⟩ = some (.int .i64 g.fam) := h.cell 8; have a9 : w.cell? ⟨sb, 9, none⟩ = some (.bool g.col) := h.cell 9; have a10 : w.cell? ⟨sb, 10, none⟩ = some (.int .i64 g.cell) := h.cell 10; have a11 : w.cell? ⟨sb, 11, none⟩ = some (.int .i64 g.seen) := h.cell 11
  have hf : ∀ j, w.frozen? ⟨sb, j, none⟩ = false := fun j => h.free j
  have hlt : sb < w.heap.size := h.lt
  have HB := hid h
  clear h
  unfold SG.move
  by_cases h1 : c.r ≠ g.at'.r ∨ c.f ≠ g.at'.f
  · rw [if_pos h1]
    by_cases h2 : c.r = g.at'.r
    · have h3 : c.f ≠ g.at'.f := by
        rcases h1 with h | h
        · exact absurd h2 h
        · exact h
      have q1 : (c.r.toList == g.at'.r.toList) = true := by rw [h2]; simp
      have q2 : (c.f.toList == g.at'.f.toList) = false := ba_ne h3
      clear h1 h2 h3
      go_enter Tryd.func106, Tryd.ntmps106
      go_upto_region 1 with (fail)
      go_quiet (fail)
      go_wp2
      go_end0
      have m0 : MS w sb ((w.alloc (.cells #[.string c.r, .string c.f, .string c.q, .int .i64 c.t, .int .i64 c.k, .int .i64 c.vk, .int .i64 c.vn, .string c.s] 28)).drewN nq) #[.string g.at'.r, .string g.at'.f, .string g.at'.q, .int .i64 g.at'.t, .int .i64 g.at'.k, .int .i64 g.at'.vk, .int .i64 g.at'.vn, .string g.at'.s, .int .i64 g.fam, .bool g.col, .int .i64 g.cell, .int .i64 g.seen] := ((MS.start HB.out).below (below_new _ _)).drewN _
      have m2 := MS.sets8 (MS.sets12 m0 (.string ⟨#[]⟩) (.string ⟨#[]⟩) (.string ⟨#[]⟩) (.int .i64 0) (.int .i64 0) (.int .i64 0) (.int .i64 0) (.string ⟨#[]⟩) (.int .i64 (-1)) (.bool false) (.int .i64 (-1)) (.int .i64 0)) (.string c.r) (.string c.f) (.string c.q) (.int .i64 c.t) (.int .i64 c.k) (.int .i64 c.vk) (.int .i64 c.vn) (.string c.s)
      exact ⟨rfl, m2.b, m2.o⟩
    · have q1 : (c.r.toList == g.at'.r.toList) = false := ba_ne h2
      clear h1 h2
      go_enter Tryd.func106, Tryd.ntmps106
      go_upto_region 1 with (fail)
      go_quiet (fail)
      go_wp2
      go_end0
      have m0 : MS w sb ((w.alloc (.cells #[.string c.r, .string c.f, .string c.q, .int .i64 c.t, .int .i64 c.k, .int .i64 c.vk, .int .i64 c.vn, .string c.s] 28)).drewN nq) #[.string g.at'.r, .string g.at'.f, .string g.at'.q, .int .i64 g.at'.t, .int .i64 g.at'.k, .int .i64 g.at'.vk, .int .i64 g.at'.vn, .string g.at'.s, .int .i64 g.fam, .bool g.col, .int .i64 g.cell, .int .i64 g.seen] := ((MS.start HB.out).below (below_new _ _)).drewN _
      have m2 := MS.sets8 (MS.sets12 m0 (.string ⟨#[]⟩) (.string ⟨#[]⟩) (.string ⟨#[]⟩) (.int .i64 0) (.int .i64 0) (.int .i64 0) (.int .i64 0) (.string ⟨#[]⟩) (.int .i64 (-1)) (.bool false) (.int .i64 (-1)) (.int .i64 0)) (.string c.r) (.string c.f) (.string c.q) (.int .i64 c.t) (.int .i64 c.k) (.int .i64 c.vk) (.int .i64 c.vn) (.string c.s)
      exact ⟨rfl, m2.b, m2.o⟩
  · rw [if_neg h1]
    have e1 : c.r = g.at'.r := by
      false_or_by_contra
      rename_i h
      exact h1 (.inl h)
    have e2 : c.f = g.at'.f := by
      false_or_by_contra
      rename_i h
      exact h1 (.inr h)
    have q1 : (c.r.toList == g.at'.r.toList) = true := by rw [e1]; simp
    have q2 : (c.f.toList == g.at'.f.toList) = true := by rw [e2]; simp
    clear h1 e1 e2
    by_cases h3 : c.q = g.at'.q
    · have q3 : (c.q.toList == g.at'.q.toList) = true := by rw [h3]; simp
      rw [if_neg (by simpa using h3)]
      clear h3
      go_enter Tryd.func106, Tryd.ntmps106
      go_upto_region 1 with (fail)
      go_quiet (fail)
      go_upto_region 3 with (fail)
      obtain ⟨bb, hbb⟩ : ∃ bb, w.heap.size = bb := ⟨_, rfl⟩
      refine wp_ltc (fun W => Hid (MS w sb W g.a) ∧ W.cell? ⟨bb, 0, none⟩ = some (.string c.r) ∧ W.cell? ⟨bb, 1, none⟩ = some (.string c.f) ∧ W.cell? ⟨bb, 2, none⟩ = some (.string c.q) ∧ W.cell? ⟨bb, 3, none⟩ = some (.int .i64 c.t) ∧ W.cell? ⟨bb, 4, none⟩ = some (.int .i64 c.k) ∧ W.cell? ⟨bb, 5, none⟩ = some (.int .i64 c.vk) ∧ W.cell? ⟨bb, 6, none⟩ = some (.int .i64 c.vn) ∧ W.cell? ⟨bb, 7, none⟩ = some (.string c.s)) (by rw [← hbb]; exact ⟨((MS.start HB.out).below (below_new _ _)).drewN _, blk_words (show Blk _ _ _ c.e.toArray from Blk.new w 28 c.e.toArray)⟩) (fun W hW => ?_)
      rw [hbb]
      obtain ⟨HW, b0, b1, b2, b3, b4, b5, b6, b7⟩ := hW
      clear a0 a1 a2 a3 a4 a5 a6 a7 a8 a9 a10 a11 hf
      have a2 : W.cell? ⟨sb, 2, none⟩ = some (.string g.at'.q) := HW.out.b.cell 2
      have a0 : W.cell? ⟨sb, 0, none⟩ = some (.string g.at'.r) := HW.out.b.cell 0; have a1 : W.cell? ⟨sb, 1, none⟩ = some (.string g.at'.f) := HW.out.b.cell 1; have a3 : W.cell? ⟨sb, 3, none⟩ = some (.int .i64 g.at'.t) := HW.out.b.cell 3; have a4 : W.cell? ⟨sb, 4, none⟩ = some (.int .i64 g.at'.k) := HW.out.b.cell 4; have a5 : W.cell? ⟨sb, 5, none⟩ = some (.int .i64 g.at'.vk) := HW.out.b.cell 5; have a6 : W.cell? ⟨sb, 6, none⟩ = some (.int .i64 g.at'.vn) := HW.out.b.cell 6; have a7 : W.cell? ⟨sb, 7, none⟩ = some (.string g.at'.s) := HW.out.b.cell 7; have a8 : W.cell? ⟨sb, 8, none⟩ = some (.int .i64 g.fam) := HW.out.b.cell 8; have a9 : W.cell? ⟨sb, 9, none⟩ = some (.bool g.col) := HW.out.b.cell 9; have a10 : W.cell? ⟨sb, 10, none⟩ = some (.int .i64 g.cell) := HW.out.b.cell 10; have a11 : W.cell? ⟨sb, 11, none⟩ = some (.int .i64 g.seen) := HW.out.b.cell 11
      have hf : ∀ j, W.frozen? ⟨sb, j, none⟩ = false := fun j => HW.out.b.free j
      go_quiet (fail)
      go_wp2
      go_end0
      have m0 : MS w sb (W.drewN nq) #[.string g.at'.r, .string g.at'.f, .string g.at'.q, .int .i64 g.at'.t, .int .i64 g.at'.k, .int .i64 g.at'.vk, .int .i64 g.at'.vn, .string g.at'.s, .int .i64 g.fam, .bool g.col, .int .i64 g.cell, .int .i64 g.seen] := HW.out.drewN _
      have m2 := MS.sets8 m0 (.string c.r) (.string c.f) (.string c.q) (.int .i64 c.t) (.int .i64 c.k) (.int .i64 c.vk) (.int .i64 c.vn) (.string c.s)
      exact ⟨rfl, m2.b, m2.o⟩
    · have q3 : (c.q.toList == g.at'.q.toList) = false := ba_ne h3
      rw [if_pos h3]
      clear h3
      go_enter Tryd.func106, Tryd.ntmps106
      go_upto_region 1 with (fail)
      go_quiet (fail)
      go_upto_region 3 with (fail)
      obtain ⟨bb, hbb⟩ : ∃ bb, w.heap.size = bb := ⟨_, rfl⟩
      refine wp_ltc (fun W => Hid (MS w sb W g.a) ∧ W.cell? ⟨bb, 0, none⟩ = some (.string c.r) ∧ W.cell? ⟨bb, 1, none⟩ = some (.string c.f) ∧ W.cell? ⟨bb, 2, none⟩ = some (.string c.q) ∧ W.cell? ⟨bb, 3, none⟩ = some (.int .i64 c.t) ∧ W.cell? ⟨bb, 4, none⟩ = some (.int .i64 c.k) ∧ W.cell? ⟨bb, 5, none⟩ = some (.int .i64 c.vk) ∧ W.cell? ⟨bb, 6, none⟩ = some (.int .i64 c.vn) ∧ W.cell? ⟨bb, 7, none⟩ = some (.string c.s)) (by rw [← hbb]; exact ⟨((MS.start HB.out).below (below_new _ _)).drewN _, blk_words (show Blk _ _ _ c.e.toArray from Blk.new w 28 c.e.toArray)⟩) (fun W hW => ?_)
      rw [hbb]
      obtain ⟨HW, b0, b1, b2, b3, b4, b5, b6, b7⟩ := hW
      clear a0 a1 a2 a3 a4 a5 a6 a7 a8 a9 a10 a11 hf
      have a2 : W.cell? ⟨sb, 2, none⟩ = some (.string g.at'.q) := HW.out.b.cell 2
      have a0 : W.cell? ⟨sb, 0, none⟩ = some (.string g.at'.r) := HW.out.b.cell 0; have a1 : W.cell? ⟨sb, 1, none⟩ = some (.string g.at'.f) := HW.out.b.cell 1; have a3 : W.cell? ⟨sb, 3, none⟩ = some (.int .i64 g.at'.t) := HW.out.b.cell 3; have a4 : W.cell? ⟨sb, 4, none⟩ = some (.int .i64 g.at'.k) := HW.out.b.cell 4; have a5 : W.cell? ⟨sb, 5, none⟩ = some (.int .i64 g.at'.vk) := HW.out.b.cell 5; have a6 : W.cell? ⟨sb, 6, none⟩ = some (.int .i64 g.at'.vn) := HW.out.b.cell 6; have a7 : W.cell? ⟨sb, 7, none⟩ = some (.string g.at'.s) := HW.out.b.cell 7; have a8 : W.cell? ⟨sb, 8, none⟩ = some (.int .i64 g.fam) := HW.out.b.cell 8; have a9 : W.cell? ⟨sb, 9, none⟩ = some (.bool g.col) := HW.out.b.cell 9; have a10 : W.cell? ⟨sb, 10, none⟩ = some (.int .i64 g.cell) := HW.out.b.cell 10; have a11 : W.cell? ⟨sb, 11, none⟩ = some (.int .i64 g.seen) := HW.out.b.cell 11
      have hf : ∀ j, W.frozen? ⟨sb, j, none⟩ = false := fun j => HW.out.b.free j
      go_quiet (fail)
      go_wp2
      go_end0
      have m0 : MS w sb (W.drewN nq) #[.string g.at'.r, .string g.at'.f, .string g.at'.q, .int .i64 g.at'.t, .int .i64 g.at'.k, .int .i64 g.at'.vk, .int .i64 g.at'.vn, .string g.at'.s, .int .i64 g.fam, .bool g.col, .int .i64 g.cell, .int .i64 g.seen] := HW.out.drewN _
      have m2 := MS.sets8 (MS.sets3 m0 (.bool false) (.int .i64 (-1)) (.int .i64 0)) (.string c.r) (.string c.f) (.string c.q) (.int .i64 c.t) (.int .i64 c.k) (.int .i64 c.vk) (.int .i64 c.vn) (.string c.s)
      exact ⟨rfl, m2.b, m2.o⟩
end Go.Proofs.YtpjkhholpbfbpaaDoor
