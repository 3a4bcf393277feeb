/- Several texts in one: CT CU. Conditions: as each theorem names them. -/
import Derived.Test.YtegdkcldgepngaaDoorCS
import Derived.Test.YtegdkcldgepngaaDoorCL
import Derived.Deep.RegionHeld3
import Derived.Deep.QuietTactic
import Derived.BigQuiet
/- The law CodecLate at every cell and time: true. Conditions: the texts are no longer than any are, the number of the value one of 64 bits; the tables of utf8 read as they are laid. -/
namespace Go.Proofs.YtegdkcldgepngaaDoor
open Go.RowKit

set_option maxRecDepth 100000 in
set_option maxHeartbeats 2000000 in
theorem long_of (v : Value) (w : World) (b : Bool) (H : Calls Tryd.prog 32 #[v, .int .i64 10] w fun e w' => e = .returned (.bool b) ∧ Below w.heap.size w w') :
    Calls Tryd.prog 10 #[v] w fun e w' => e = .returned (.bool b) ∧ Below w.heap.size w w' := by
  have H := hid H
  go_enter Tryd.func10, Tryd.ntmps10
  go_wp2_with (go_at_call 32; refine H.out.mono ?_; rintro e w1 ⟨rfl, hb⟩)
  go_ret
  exact ⟨rfl, hb⟩
/-- A list of one cell. -/
theorem long1 (r f q vs : ByteArray) (t k vk vn : Int) (W : World) (bb : Nat) (hbb : bb = W.heap.size) :
    Calls Tryd.prog 10 #[.slice (some ⟨bb, 0, none⟩) 1 1] (W.alloc (.cells #[.string r, .string f, .string q, .int .i64 t, .int .i64 k, .int .i64 vk, .int .i64 vn, .string vs] 25)) fun e w' => e = .returned (.bool (longC r f q vs)) ∧ Below (W.alloc (.cells #[.string r, .string f, .string q, .int .i64 t, .int .i64 k, .int .i64 vk, .int .i64 vn, .string vs] 25)).heap.size (W.alloc (.cells #[.string r, .string f, .string q, .int .i64 t, .int .i64 k, .int .i64 vk, .int .i64 vn, .string vs] 25)) w' := by
  subst hbb
  have hB : Blk (W.alloc (.cells #[.string r, .string f, .string q, .int .i64 t, .int .i64 k, .int .i64 vk, .int .i64 vn, .string vs] 25)) W.heap.size 25 #[.string r, .string f, .string q, .int .i64 t, .int .i64 k, .int .i64 vk, .int .i64 vn, .string vs] := Blk.new W _ _
  have h := longcells_any W.heap.size 1 (by decide) [⟨r, f, q, vs⟩] rfl _ (fun i hi => by
    match i, hi with
    | 0, _ => exact ⟨hB.cell 0, hB.cell 1, hB.cell 2, hB.cell 7⟩)
  refine long_of _ _ _ (h.mono fun e w' ⟨he, hb⟩ => ⟨?_, hb⟩)
  rw [he]
  simp [Tx4.long]
/-- A list of two cells. -/
theorem long2 (r f q vs r2 f2 q2 vs2 : ByteArray) (t k vk vn t2 k2 vk2 vn2 : Int) (W : World) (bb : Nat) (hbb : bb = W.heap.size) :
    Calls Tryd.prog 10 #[.slice (some ⟨bb, 0, none⟩) 2 2] (W.alloc (.cells #[.string r, .string f, .string q, .int .i64 t, .int .i64 k, .int .i64 vk, .int .i64 vn, .string vs, .string r2, .string f2, .string q2, .int .i64 t2, .int .i64 k2, .int .i64 vk2, .int .i64 vn2, .string vs2] 25)) fun e w' => e = .returned (.bool (longC r f q vs || longC r2 f2 q2 vs2)) ∧ Below (W.alloc (.cells #[.string r, .string f, .string q, .int .i64 t, .int .i64 k, .int .i64 vk, .int .i64 vn, .string vs, .string r2, .string f2, .string q2, .int .i64 t2, .int .i64 k2, .int .i64 vk2, .int .i64 vn2, .string vs2] 25)).heap.size (W.alloc (.cells #[.string r, .string f, .string q, .int .i64 t, .int .i64 k, .int .i64 vk, .int .i64 vn, .string vs, .string r2, .string f2, .string q2, .int .i64 t2, .int .i64 k2, .int .i64 vk2, .int .i64 vn2, .string vs2] 25)) w' := by
  subst hbb
  have hB : Blk (W.alloc (.cells #[.string r, .string f, .string q, .int .i64 t, .int .i64 k, .int .i64 vk, .int .i64 vn, .string vs, .string r2, .string f2, .string q2, .int .i64 t2, .int .i64 k2, .int .i64 vk2, .int .i64 vn2, .string vs2] 25)) W.heap.size 25 #[.string r, .string f, .string q, .int .i64 t, .int .i64 k, .int .i64 vk, .int .i64 vn, .string vs, .string r2, .string f2, .string q2, .int .i64 t2, .int .i64 k2, .int .i64 vk2, .int .i64 vn2, .string vs2] := Blk.new W _ _
  have h := longcells_any W.heap.size 2 (by decide) [⟨r, f, q, vs⟩, ⟨r2, f2, q2, vs2⟩] rfl _ (fun i hi => by
    match i, hi with
    | 0, _ => exact ⟨hB.cell 0, hB.cell 1, hB.cell 2, hB.cell 7⟩
    | 1, _ => exact ⟨hB.cell 8, hB.cell 9, hB.cell 10, hB.cell 15⟩)
  refine long_of _ _ _ (h.mono fun e w' ⟨he, hb⟩ => ⟨?_, hb⟩)
  rw [he]
  simp [Tx4.long]

/-- Two cells of the law's, in a world behind its beginning. -/
structure TwoB (w W : World) (db : Nat) (xs ys : Array Value) : Prop where
  c : Blk W w.heap.size 25 xs
  d : Blk W db 25 ys
  bw : Below w.heap.size w W
theorem TwoB.below {w W W' : World} {db : Nat} {xs ys : Array Value} (h : TwoB w W db xs ys) (hb : Below W.heap.size W W') : TwoB w W' db xs ys := ⟨h.c.keep hb h.c.lt, h.d.keep hb h.d.lt, h.bw.trans (hb.mono h.bw.size)⟩
abbrev TwoS (w : World) (db : Nat) (r f q vs : ByteArray) (t k vk vn : Int) (r2 f2 q2 vs2 : ByteArray) (t2 k2 vk2 vn2 : Int) (W : World) : Prop :=
  Hid (TwoB w W db #[.string r, .string f, .string q, .int .i64 t, .int .i64 k, .int .i64 vk, .int .i64 vn, .string vs] #[.string r2, .string f2, .string q2, .int .i64 t2, .int .i64 k2, .int .i64 vk2, .int .i64 vn2, .string vs2]) ∧ W.cell? ⟨w.heap.size, 0, none⟩ = some (.string r) ∧ W.cell? ⟨w.heap.size, 1, none⟩ = some (.string f) ∧ W.cell? ⟨w.heap.size, 2, none⟩ = some (.string q) ∧ W.cell? ⟨w.heap.size, 3, none⟩ = some (.int .i64 t) ∧ W.cell? ⟨w.heap.size, 4, none⟩ = some (.int .i64 k) ∧ W.cell? ⟨w.heap.size, 5, none⟩ = some (.int .i64 vk) ∧ W.cell? ⟨w.heap.size, 6, none⟩ = some (.int .i64 vn) ∧ W.cell? ⟨w.heap.size, 7, none⟩ = some (.string vs) ∧ W.cell? ⟨db, 0, none⟩ = some (.string r2) ∧ W.cell? ⟨db, 1, none⟩ = some (.string f2) ∧ W.cell? ⟨db, 2, none⟩ = some (.string q2) ∧ W.cell? ⟨db, 3, none⟩ = some (.int .i64 t2) ∧ W.cell? ⟨db, 4, none⟩ = some (.int .i64 k2) ∧ W.cell? ⟨db, 5, none⟩ = some (.int .i64 vk2) ∧ W.cell? ⟨db, 6, none⟩ = some (.int .i64 vn2) ∧ W.cell? ⟨db, 7, none⟩ = some (.string vs2)
section
variable {w W W' : World} {db : Nat} {r f q vs r2 f2 q2 vs2 : ByteArray} {t k vk vn t2 k2 vk2 vn2 : Int}
theorem twos_of (h : TwoB w W db #[.string r, .string f, .string q, .int .i64 t, .int .i64 k, .int .i64 vk, .int .i64 vn, .string vs] #[.string r2, .string f2, .string q2, .int .i64 t2, .int .i64 k2, .int .i64 vk2, .int .i64 vn2, .string vs2]) : TwoS w db r f q vs t k vk vn r2 f2 q2 vs2 t2 k2 vk2 vn2 W := ⟨h, h.c.cell 0, h.c.cell 1, h.c.cell 2, h.c.cell 3, h.c.cell 4, h.c.cell 5, h.c.cell 6, h.c.cell 7, h.d.cell 0, h.d.cell 1, h.d.cell 2, h.d.cell 3, h.d.cell 4, h.d.cell 5, h.d.cell 6, h.d.cell 7⟩
theorem twos_call (h : TwoS w db r f q vs t k vk vn r2 f2 q2 vs2 t2 k2 vk2 vn2 W) (hb : Below W.heap.size W W') : TwoS w db r f q vs t k vk vn r2 f2 q2 vs2 t2 k2 vk2 vn2 W' := twos_of (h.1.out.below hb)
theorem twos_drew (h : TwoS w db r f q vs t k vk vn r2 f2 q2 vs2 t2 k2 vk2 vn2 W) : TwoS w db r f q vs t k vk vn r2 f2 q2 vs2 t2 k2 vk2 vn2 W.drew := ⟨hid ⟨h.1.out.c, h.1.out.d, h.1.out.bw.drew⟩, h.2⟩
end

theorem late_ord (r f q : List UInt8) (t time k : Int) : cOrd r f q t k r f q time k = Lib.compareInt time t := by
  have e1 : ∀ x : Int, Lib.compareInt x x = 0 := fun x => by unfold Lib.compareInt; split <;> (try split) <;> omega
  unfold cOrd
  simp only [cmpB_self, orI_cons, e1, if_true]
  split
  · rename_i h; rw [h]; rfl
  · rfl

set_option maxRecDepth 100000 in
set_option maxHeartbeats 8000000 in
theorem late_any (r f q vs : ByteArray) (t k vk : Int) {vn : Int} (time : Int) (hn : inI vn) (hf : f.size ≤ 9223372036854775807) (hv : vs.size ≤ 9223372036854775807) (w : World) (hL : LaidU w) :
    Calls Tryd.prog 8 #[cellV r f q t k vk vn vs, .int .i64 time] w fun e w' => e = .returned (.bool true) ∧ Below w.heap.size w w' := by
  have HA : Hid (∀ W, Below w.heap.size w W → Calls Tryd.prog 9 #[] W fun e w' => e = .returned (.bool true) ∧ Below W.heap.size W w') := fun W hW => calive_any W (hL.below hW)
  have HLo : Hid (∀ (W : World), Calls Tryd.prog 10 #[.slice (some ⟨W.heap.size, 0, none⟩) 1 1] (W.alloc (.cells #[.string r, .string f, .string q, .int .i64 t, .int .i64 k, .int .i64 vk, .int .i64 vn, .string vs] 25)) fun e w' => e = .returned (.bool (longC r f q vs)) ∧ Below (W.alloc (.cells #[.string r, .string f, .string q, .int .i64 t, .int .i64 k, .int .i64 vk, .int .i64 vn, .string vs] 25)).heap.size (W.alloc (.cells #[.string r, .string f, .string q, .int .i64 t, .int .i64 k, .int .i64 vk, .int .i64 vn, .string vs] 25)) w') := fun W => long1 r f q vs t k vk vn W _ rfl
  have HRc : Hid (∀ W, Below w.heap.size w W → Calls Tryd.prog 15 #[cellV r f q t k vk vn vs] W fun e w' => e = .returned (.bool (cRight r.data.toList f.data.toList q.data.toList t k vk vn vs.data.toList)) ∧ Below W.heap.size W w') := fun W hW => cright_any r f q vs t k vk hn hf hv W (hL.below hW)
  have HRd : Hid (∀ W, Below w.heap.size w W → Calls Tryd.prog 15 #[cellV r f q time k vk vn vs] W fun e w' => e = .returned (.bool (cRight r.data.toList f.data.toList q.data.toList time k vk vn vs.data.toList)) ∧ Below W.heap.size W w') := fun W hW => cright_any r f q vs time k vk hn hf hv W (hL.below hW)
  have HO1 : Hid (∀ W : World, Calls Tryd.prog 17 #[cellV r f q t k vk vn vs, cellV r f q time k vk vn vs] W fun e w' => e = .returned (.int .i64 (Lib.compareInt time t)) ∧ Below W.heap.size W w') := fun W => by
    have h := corder_any r f q vs t k vk vn r f q vs time k vk vn W
    rwa [late_ord] at h
  have HO2 : Hid (∀ W : World, Calls Tryd.prog 17 #[cellV r f q t k vk vn vs, cellV r f q t k vk vn vs] W fun e w' => e = .returned (.int .i64 0) ∧ Below W.heap.size W w') := fun W => by
    have h := corder_any r f q vs t k vk vn r f q vs t k vk vn W
    rwa [late_ord, show Lib.compareInt t t = 0 by unfold Lib.compareInt; split <;> (try split) <;> omega] at h
  clear hL hf hv hn
  go_enter Tryd.func8, Tryd.ntmps8
  go_upto_region 3 with (go_at_call 9; refine (HA.out _ (below_new _ _)).mono ?_; rintro e w1 ⟨rfl, hb1⟩)
  refine wp_ltr (fun W => Hid (Blk W w.heap.size 25 #[.string r, .string f, .string q, .int .i64 t, .int .i64 k, .int .i64 vk, .int .i64 vn, .string vs] ∧ Below w.heap.size w W) ∧ W.cell? ⟨w.heap.size, 0, none⟩ = some (.string r) ∧ W.cell? ⟨w.heap.size, 1, none⟩ = some (.string f) ∧ W.cell? ⟨w.heap.size, 2, none⟩ = some (.string q) ∧ W.cell? ⟨w.heap.size, 3, none⟩ = some (.int .i64 t) ∧ W.cell? ⟨w.heap.size, 4, none⟩ = some (.int .i64 k) ∧ W.cell? ⟨w.heap.size, 5, none⟩ = some (.int .i64 vk) ∧ W.cell? ⟨w.heap.size, 6, none⟩ = some (.int .i64 vn) ∧ W.cell? ⟨w.heap.size, 7, none⟩ = some (.string vs)) ?_ (fun W1 hW1 => ?_)
  · have B0 := (Blk.new w 25 #[.string r, .string f, .string q, .int .i64 t, .int .i64 k, .int .i64 vk, .int .i64 vn, .string vs]).keep hb1 (by simp)
    exact ⟨⟨B0, (below_new w _).trans (hb1.mono (by simp))⟩, B0.cell 0, B0.cell 1, B0.cell 2, B0.cell 3, B0.cell 4, B0.cell 5, B0.cell 6, B0.cell 7⟩
  obtain ⟨HW1, c0, c1, c2, c3, c4, c5, c6, c7⟩ := hW1
  clear hb1
  go_upto_region 5 with (fail)
  obtain ⟨db, hdb⟩ : ∃ db, W1.heap.size = db := ⟨_, rfl⟩
  refine wp_ltr (fun W => TwoS w db r f q vs t k vk vn r f q vs time k vk vn W) ?_ (fun W2 hW2 => ?_)
  · exact twos_of ⟨HW1.out.1.keep (below_new _ _) HW1.out.1.lt, by rw [← hdb]; exact Blk.new W1 _ _, HW1.out.2.alloc HW1.out.2.size _⟩
  rw [hdb]
  clear hdb c0 c1 c2 c3 c4 c5 c6 c7
  have HS2 := hid hW2
  obtain ⟨HT2, c0, c1, c2, c3, c4, c5, c6, c7, d0, d1, d2, d3, d4, d5, d6, d7⟩ := hW2
  cases hlo : longC r f q vs with
  | true =>
    rw [hlo] at HLo
    clear hlo
    go_wp2_with (go_at_call 10; refine (HLo.out _).mono ?_; rintro e w3 ⟨rfl, hb3⟩)
    go_ret
    exact ⟨rfl, (HT2.out.bw.alloc HT2.out.bw.size _).trans (hb3.mono (by have := HT2.out.bw.size; simp; omega))⟩
  | false =>
    rw [hlo] at HLo
    clear hlo
    have HT3 : Hid (∀ w3, Below (W2.alloc (.cells #[.string r, .string f, .string q, .int .i64 t, .int .i64 k, .int .i64 vk, .int .i64 vn, .string vs] 25)).heap.size (W2.alloc (.cells #[.string r, .string f, .string q, .int .i64 t, .int .i64 k, .int .i64 vk, .int .i64 vn, .string vs] 25)) w3 → TwoB w w3 db #[.string r, .string f, .string q, .int .i64 t, .int .i64 k, .int .i64 vk, .int .i64 vn, .string vs] #[.string r, .string f, .string q, .int .i64 time, .int .i64 k, .int .i64 vk, .int .i64 vn, .string vs]) := fun w3 h => (HT2.out.below (below_new _ _)).below h
    cases hrc : cRight r.data.toList f.data.toList q.data.toList t k vk vn vs.data.toList with
    | false =>
      rw [hrc] at HRc
      clear hrc
      go_wp2_with (first
        | (go_at_call 10; refine (HLo.out _).mono ?_; rintro e w3 ⟨rfl, hb3⟩; have HB3 := hid (HT3.out w3 hb3); have e0 : w3.cell? ⟨w.heap.size, 0, none⟩ = some (.string r) := HB3.out.c.cell 0; have e1 : w3.cell? ⟨w.heap.size, 1, none⟩ = some (.string f) := HB3.out.c.cell 1; have e2 : w3.cell? ⟨w.heap.size, 2, none⟩ = some (.string q) := HB3.out.c.cell 2; have e3 : w3.cell? ⟨w.heap.size, 3, none⟩ = some (.int .i64 t) := HB3.out.c.cell 3; have e4 : w3.cell? ⟨w.heap.size, 4, none⟩ = some (.int .i64 k) := HB3.out.c.cell 4; have e5 : w3.cell? ⟨w.heap.size, 5, none⟩ = some (.int .i64 vk) := HB3.out.c.cell 5; have e6 : w3.cell? ⟨w.heap.size, 6, none⟩ = some (.int .i64 vn) := HB3.out.c.cell 6; have e7 : w3.cell? ⟨w.heap.size, 7, none⟩ = some (.string vs) := HB3.out.c.cell 7)
        | (go_at_call 15; refine (HRc.out _ HB3.out.bw).mono ?_; rintro e w4 ⟨rfl, hb4⟩))
      go_ret
      exact ⟨rfl, (HB3.out.below hb4).bw⟩
    | true =>
      rw [hrc] at HRc
      clear hrc
      cases hrd : cRight r.data.toList f.data.toList q.data.toList time k vk vn vs.data.toList with
      | false =>
        rw [hrd] at HRd
        clear hrd
        go_wp2_with (first
          | (go_at_call 10; refine (HLo.out _).mono ?_; rintro e w3 ⟨rfl, hb3⟩; have HB3 := hid (HT3.out w3 hb3); have e0 : w3.cell? ⟨w.heap.size, 0, none⟩ = some (.string r) := HB3.out.c.cell 0; have e1 : w3.cell? ⟨w.heap.size, 1, none⟩ = some (.string f) := HB3.out.c.cell 1; have e2 : w3.cell? ⟨w.heap.size, 2, none⟩ = some (.string q) := HB3.out.c.cell 2; have e3 : w3.cell? ⟨w.heap.size, 3, none⟩ = some (.int .i64 t) := HB3.out.c.cell 3; have e4 : w3.cell? ⟨w.heap.size, 4, none⟩ = some (.int .i64 k) := HB3.out.c.cell 4; have e5 : w3.cell? ⟨w.heap.size, 5, none⟩ = some (.int .i64 vk) := HB3.out.c.cell 5; have e6 : w3.cell? ⟨w.heap.size, 6, none⟩ = some (.int .i64 vn) := HB3.out.c.cell 6; have e7 : w3.cell? ⟨w.heap.size, 7, none⟩ = some (.string vs) := HB3.out.c.cell 7)
          | (go_at_call 15; ((with_reducible refine (HRc.out w3 HB3.out.bw).mono ?_); rintro e w4 ⟨rfl, hb4⟩; have HB4 := hid (HB3.out.below hb4); have g0 : w4.cell? ⟨db, 0, none⟩ = some (.string r) := HB4.out.d.cell 0; have g1 : w4.cell? ⟨db, 1, none⟩ = some (.string f) := HB4.out.d.cell 1; have g2 : w4.cell? ⟨db, 2, none⟩ = some (.string q) := HB4.out.d.cell 2; have g3 : w4.cell? ⟨db, 3, none⟩ = some (.int .i64 time) := HB4.out.d.cell 3; have g4 : w4.cell? ⟨db, 4, none⟩ = some (.int .i64 k) := HB4.out.d.cell 4; have g5 : w4.cell? ⟨db, 5, none⟩ = some (.int .i64 vk) := HB4.out.d.cell 5; have g6 : w4.cell? ⟨db, 6, none⟩ = some (.int .i64 vn) := HB4.out.d.cell 6; have g7 : w4.cell? ⟨db, 7, none⟩ = some (.string vs) := HB4.out.d.cell 7))
          | (go_at_call 15; ((with_reducible refine (HRd.out w4 HB4.out.bw).mono ?_); rintro e w5 ⟨rfl, hb5⟩)))
        go_ret
        exact ⟨rfl, (HB4.out.below hb5).bw⟩
      | true =>
        rw [hrd] at HRd
        clear hrd
        by_cases htt : t = time
        · subst htt
          go_wp2_with (first
            | (go_at_call 10; refine (HLo.out _).mono ?_; rintro e w3 ⟨rfl, hb3⟩; have HB3 := hid (HT3.out w3 hb3); have e0 : w3.cell? ⟨w.heap.size, 0, none⟩ = some (.string r) := HB3.out.c.cell 0; have e1 : w3.cell? ⟨w.heap.size, 1, none⟩ = some (.string f) := HB3.out.c.cell 1; have e2 : w3.cell? ⟨w.heap.size, 2, none⟩ = some (.string q) := HB3.out.c.cell 2; have e3 : w3.cell? ⟨w.heap.size, 3, none⟩ = some (.int .i64 t) := HB3.out.c.cell 3; have e4 : w3.cell? ⟨w.heap.size, 4, none⟩ = some (.int .i64 k) := HB3.out.c.cell 4; have e5 : w3.cell? ⟨w.heap.size, 5, none⟩ = some (.int .i64 vk) := HB3.out.c.cell 5; have e6 : w3.cell? ⟨w.heap.size, 6, none⟩ = some (.int .i64 vn) := HB3.out.c.cell 6; have e7 : w3.cell? ⟨w.heap.size, 7, none⟩ = some (.string vs) := HB3.out.c.cell 7)
            | (go_at_call 15; ((with_reducible refine (HRc.out w3 HB3.out.bw).mono ?_); rintro e w4 ⟨rfl, hb4⟩; have HB4 := hid (HB3.out.below hb4); have g0 : w4.cell? ⟨db, 0, none⟩ = some (.string r) := HB4.out.d.cell 0; have g1 : w4.cell? ⟨db, 1, none⟩ = some (.string f) := HB4.out.d.cell 1; have g2 : w4.cell? ⟨db, 2, none⟩ = some (.string q) := HB4.out.d.cell 2; have g3 : w4.cell? ⟨db, 3, none⟩ = some (.int .i64 t) := HB4.out.d.cell 3; have g4 : w4.cell? ⟨db, 4, none⟩ = some (.int .i64 k) := HB4.out.d.cell 4; have g5 : w4.cell? ⟨db, 5, none⟩ = some (.int .i64 vk) := HB4.out.d.cell 5; have g6 : w4.cell? ⟨db, 6, none⟩ = some (.int .i64 vn) := HB4.out.d.cell 6; have g7 : w4.cell? ⟨db, 7, none⟩ = some (.string vs) := HB4.out.d.cell 7))
            | (go_at_call 15; ((with_reducible refine (HRd.out w4 HB4.out.bw).mono ?_); rintro e w5 ⟨rfl, hb5⟩; have HB5 := hid (HB4.out.below hb5); have i3 : w5.cell? ⟨w.heap.size, 3, none⟩ = some (.int .i64 t) := HB5.out.c.cell 3)))
          go_ret
          exact ⟨rfl, HB5.out.bw⟩
        · have q0 : (t == time) = false := by simpa using htt
          go_upto_region 7 with (first
            | (go_at_call 10; refine (HLo.out _).mono ?_; rintro e w3 ⟨rfl, hb3⟩; have HB3 := hid (HT3.out w3 hb3); have e0 : w3.cell? ⟨w.heap.size, 0, none⟩ = some (.string r) := HB3.out.c.cell 0; have e1 : w3.cell? ⟨w.heap.size, 1, none⟩ = some (.string f) := HB3.out.c.cell 1; have e2 : w3.cell? ⟨w.heap.size, 2, none⟩ = some (.string q) := HB3.out.c.cell 2; have e3 : w3.cell? ⟨w.heap.size, 3, none⟩ = some (.int .i64 t) := HB3.out.c.cell 3; have e4 : w3.cell? ⟨w.heap.size, 4, none⟩ = some (.int .i64 k) := HB3.out.c.cell 4; have e5 : w3.cell? ⟨w.heap.size, 5, none⟩ = some (.int .i64 vk) := HB3.out.c.cell 5; have e6 : w3.cell? ⟨w.heap.size, 6, none⟩ = some (.int .i64 vn) := HB3.out.c.cell 6; have e7 : w3.cell? ⟨w.heap.size, 7, none⟩ = some (.string vs) := HB3.out.c.cell 7)
            | (go_at_call 15; ((with_reducible refine (HRc.out w3 HB3.out.bw).mono ?_); rintro e w4 ⟨rfl, hb4⟩; have HB4 := hid (HB3.out.below hb4); have g0 : w4.cell? ⟨db, 0, none⟩ = some (.string r) := HB4.out.d.cell 0; have g1 : w4.cell? ⟨db, 1, none⟩ = some (.string f) := HB4.out.d.cell 1; have g2 : w4.cell? ⟨db, 2, none⟩ = some (.string q) := HB4.out.d.cell 2; have g3 : w4.cell? ⟨db, 3, none⟩ = some (.int .i64 time) := HB4.out.d.cell 3; have g4 : w4.cell? ⟨db, 4, none⟩ = some (.int .i64 k) := HB4.out.d.cell 4; have g5 : w4.cell? ⟨db, 5, none⟩ = some (.int .i64 vk) := HB4.out.d.cell 5; have g6 : w4.cell? ⟨db, 6, none⟩ = some (.int .i64 vn) := HB4.out.d.cell 6; have g7 : w4.cell? ⟨db, 7, none⟩ = some (.string vs) := HB4.out.d.cell 7))
            | (go_at_call 15; ((with_reducible refine (HRd.out w4 HB4.out.bw).mono ?_); rintro e w5 ⟨rfl, hb5⟩; have HB5 := hid (HB4.out.below hb5); have i3 : w5.cell? ⟨w.heap.size, 3, none⟩ = some (.int .i64 t) := HB5.out.c.cell 3)))
          have HN5 := hid (twos_of HB5.out)
          clear HS2 HT2 HT3 HB3 HB4 HLo HRc HRd HA hb3 hb4 hb5 c0 c1 c2 c3 c4 c5 c6 c7 d0 d1 d2 d3 d4 d5 d6 d7 e0 e1 e2 e3 e4 e5 e6 e7 g0 g1 g2 g3 g4 g5 g6 g7 i3
          obtain ⟨h0, c0, c1, c2, c3, c4, c5, c6, c7, d0, d1, d2, d3, d4, d5, d6, d7⟩ := HN5.out
          by_cases hlt : time < t
          · have e1 : Lib.compareInt time t = -1 := by unfold Lib.compareInt; rw [if_pos hlt]
            rw [e1] at HO1
            clear e1
            go_region_held3 (fun W => Hid (TwoB w W db #[.string r, .string f, .string q, .int .i64 t, .int .i64 k, .int .i64 vk, .int .i64 vn, .string vs] #[.string r, .string f, .string q, .int .i64 time, .int .i64 k, .int .i64 vk, .int .i64 vn, .string vs]) ∧ W.cell? ⟨w.heap.size, 0, none⟩ = some (.string r) ∧ W.cell? ⟨w.heap.size, 1, none⟩ = some (.string f) ∧ W.cell? ⟨w.heap.size, 2, none⟩ = some (.string q) ∧ W.cell? ⟨w.heap.size, 3, none⟩ = some (.int .i64 t) ∧ W.cell? ⟨w.heap.size, 4, none⟩ = some (.int .i64 k) ∧ W.cell? ⟨w.heap.size, 5, none⟩ = some (.int .i64 vk) ∧ W.cell? ⟨w.heap.size, 6, none⟩ = some (.int .i64 vn) ∧ W.cell? ⟨w.heap.size, 7, none⟩ = some (.string vs) ∧ W.cell? ⟨db, 0, none⟩ = some (.string r) ∧ W.cell? ⟨db, 1, none⟩ = some (.string f) ∧ W.cell? ⟨db, 2, none⟩ = some (.string q) ∧ W.cell? ⟨db, 3, none⟩ = some (.int .i64 time) ∧ W.cell? ⟨db, 4, none⟩ = some (.int .i64 k) ∧ W.cell? ⟨db, 5, none⟩ = some (.int .i64 vk) ∧ W.cell? ⟨db, 6, none⟩ = some (.int .i64 vn) ∧ W.cell? ⟨db, 7, none⟩ = some (.string vs))
              (first | exact HN5.out | exact twos_drew HN5.out | exact twos_call (by assumption) hbo | exact twos_drew (by assumption) | assumption)
              (first
                | (go_at_call 17; ((with_reducible refine (HO1.out _).mono ?_); rintro e w6 ⟨rfl, hbo⟩))
                | (go_at_call 17; ((with_reducible refine (HO2.out _).mono ?_); rintro e w7 ⟨rfl, hbo⟩)))
            all_goals
              rename_i hLast
              go_wp2
              go_ret
              exact ⟨rfl, hLast.1.out.bw⟩
          · have hlt2 : t < time := by omega
            have e1 : Lib.compareInt time t = 1 := by unfold Lib.compareInt; rw [if_neg hlt, if_pos hlt2]
            rw [e1] at HO1
            clear e1
            go_region_held3 (fun W => Hid (TwoB w W db #[.string r, .string f, .string q, .int .i64 t, .int .i64 k, .int .i64 vk, .int .i64 vn, .string vs] #[.string r, .string f, .string q, .int .i64 time, .int .i64 k, .int .i64 vk, .int .i64 vn, .string vs]) ∧ W.cell? ⟨w.heap.size, 0, none⟩ = some (.string r) ∧ W.cell? ⟨w.heap.size, 1, none⟩ = some (.string f) ∧ W.cell? ⟨w.heap.size, 2, none⟩ = some (.string q) ∧ W.cell? ⟨w.heap.size, 3, none⟩ = some (.int .i64 t) ∧ W.cell? ⟨w.heap.size, 4, none⟩ = some (.int .i64 k) ∧ W.cell? ⟨w.heap.size, 5, none⟩ = some (.int .i64 vk) ∧ W.cell? ⟨w.heap.size, 6, none⟩ = some (.int .i64 vn) ∧ W.cell? ⟨w.heap.size, 7, none⟩ = some (.string vs) ∧ W.cell? ⟨db, 0, none⟩ = some (.string r) ∧ W.cell? ⟨db, 1, none⟩ = some (.string f) ∧ W.cell? ⟨db, 2, none⟩ = some (.string q) ∧ W.cell? ⟨db, 3, none⟩ = some (.int .i64 time) ∧ W.cell? ⟨db, 4, none⟩ = some (.int .i64 k) ∧ W.cell? ⟨db, 5, none⟩ = some (.int .i64 vk) ∧ W.cell? ⟨db, 6, none⟩ = some (.int .i64 vn) ∧ W.cell? ⟨db, 7, none⟩ = some (.string vs))
              (first | exact HN5.out | exact twos_drew HN5.out | exact twos_call (by assumption) hbo | exact twos_drew (by assumption) | assumption)
              (first
                | (go_at_call 17; ((with_reducible refine (HO1.out _).mono ?_); rintro e w6 ⟨rfl, hbo⟩))
                | (go_at_call 17; ((with_reducible refine (HO2.out _).mono ?_); rintro e w7 ⟨rfl, hbo⟩)))
            all_goals
              rename_i hLast
              go_wp2
              go_ret
              exact ⟨rfl, hLast.1.out.bw⟩
end Go.Proofs.YtegdkcldgepngaaDoor

/- The law CodecOrder at every two cells: true. Conditions: the texts are no longer than any are, the numbers of the values of 64 bits; the tables of utf8 read as they are laid. -/
namespace Go.Proofs.YtegdkcldgepngaaDoor
open Go.RowKit

abbrev SixC (w : World) (r f q vs : ByteArray) (t k vk vn : Int) (r2 f2 q2 vs2 : ByteArray) (t2 k2 vk2 vn2 : Int) (g1 g2 i : Nat) (x y : Int) (W : World) : Prop := Hid (TwoB w W (w.heap.size + 1) #[.string r, .string f, .string q, .int .i64 t, .int .i64 k, .int .i64 vk, .int .i64 vn, .string vs] #[.string r2, .string f2, .string q2, .int .i64 t2, .int .i64 k2, .int .i64 vk2, .int .i64 vn2, .string vs2] ∧ g1 < W.heap.size ∧ g2 < W.heap.size) ∧ W.cell? ⟨w.heap.size, 0, none⟩ = some (.string r) ∧ W.cell? ⟨w.heap.size, 1, none⟩ = some (.string f) ∧ W.cell? ⟨w.heap.size, 2, none⟩ = some (.string q) ∧ W.cell? ⟨w.heap.size, 3, none⟩ = some (.int .i64 t) ∧ W.cell? ⟨w.heap.size, 4, none⟩ = some (.int .i64 k) ∧ W.cell? ⟨w.heap.size, 5, none⟩ = some (.int .i64 vk) ∧ W.cell? ⟨w.heap.size, 6, none⟩ = some (.int .i64 vn) ∧ W.cell? ⟨w.heap.size, 7, none⟩ = some (.string vs) ∧ W.cell? ⟨(w.heap.size + 1), 0, none⟩ = some (.string r2) ∧ W.cell? ⟨(w.heap.size + 1), 1, none⟩ = some (.string f2) ∧ W.cell? ⟨(w.heap.size + 1), 2, none⟩ = some (.string q2) ∧ W.cell? ⟨(w.heap.size + 1), 3, none⟩ = some (.int .i64 t2) ∧ W.cell? ⟨(w.heap.size + 1), 4, none⟩ = some (.int .i64 k2) ∧ W.cell? ⟨(w.heap.size + 1), 5, none⟩ = some (.int .i64 vk2) ∧ W.cell? ⟨(w.heap.size + 1), 6, none⟩ = some (.int .i64 vn2) ∧ W.cell? ⟨(w.heap.size + 1), 7, none⟩ = some (.string vs2) ∧ W.cell? ⟨g1, i, none⟩ = some (.int .u8 x) ∧ W.cell? ⟨g2, i, none⟩ = some (.int .u8 y)
section
variable {w W W' : World} {r f q vs r2 f2 q2 vs2 : ByteArray} {t k vk vn t2 k2 vk2 vn2 : Int} {g1 g2 i : Nat} {x y : Int}
theorem sixc_mk (h : TwoB w W (w.heap.size + 1) #[.string r, .string f, .string q, .int .i64 t, .int .i64 k, .int .i64 vk, .int .i64 vn, .string vs] #[.string r2, .string f2, .string q2, .int .i64 t2, .int .i64 k2, .int .i64 vk2, .int .i64 vn2, .string vs2]) (hx : W.cell? ⟨g1, i, none⟩ = some (.int .u8 x)) (hy : W.cell? ⟨g2, i, none⟩ = some (.int .u8 y)) : SixC w r f q vs t k vk vn r2 f2 q2 vs2 t2 k2 vk2 vn2 g1 g2 i x y W :=
  ⟨hid ⟨h, cell_lt hx, cell_lt hy⟩, h.c.cell 0, h.c.cell 1, h.c.cell 2, h.c.cell 3, h.c.cell 4, h.c.cell 5, h.c.cell 6, h.c.cell 7, h.d.cell 0, h.d.cell 1, h.d.cell 2, h.d.cell 3, h.d.cell 4, h.d.cell 5, h.d.cell 6, h.d.cell 7, hx, hy⟩
theorem sixc_call (h : SixC w r f q vs t k vk vn r2 f2 q2 vs2 t2 k2 vk2 vn2 g1 g2 i x y W) (hb : Below W.heap.size W W') : SixC w r f q vs t k vk vn r2 f2 q2 vs2 t2 k2 vk2 vn2 g1 g2 i x y W' := by
  obtain ⟨hh, a0, a1, a2, a3, a4, a5, a6, a7, b0, b1, b2, b3, b4, b5, b6, b7, hx, hy⟩ := h
  exact sixc_mk (hh.out.1.below hb) ((hb.cell (p := ⟨g1, i, none⟩) hh.out.2.1).trans hx) ((hb.cell (p := ⟨g2, i, none⟩) hh.out.2.2).trans hy)
theorem twob_drew {db : Nat} {xs ys : Array Value} (h : TwoB w W db xs ys) : TwoB w W.drew db xs ys := ⟨h.c, h.d, h.bw.drew⟩
theorem twob_drewN {db : Nat} {xs ys : Array Value} (h : TwoB w W db xs ys) (n : Nat) : TwoB w (W.drewN n) db xs ys := ⟨h.c, h.d, below_drewN h.bw n⟩
theorem sixc_drew (h : SixC w r f q vs t k vk vn r2 f2 q2 vs2 t2 k2 vk2 vn2 g1 g2 i x y W) : SixC w r f q vs t k vk vn r2 f2 q2 vs2 t2 k2 vk2 vn2 g1 g2 i x y W.drew := ⟨hid ⟨twob_drew h.1.out.1, h.1.out.2⟩, h.2⟩
theorem sixc_drewN (h : SixC w r f q vs t k vk vn r2 f2 q2 vs2 t2 k2 vk2 vn2 g1 g2 i x y W) (n : Nat) : SixC w r f q vs t k vk vn r2 f2 q2 vs2 t2 k2 vk2 vn2 g1 g2 i x y (W.drewN n) := ⟨hid ⟨twob_drewN h.1.out.1 n, h.1.out.2⟩, h.2⟩
theorem sixc_below (h : SixC w r f q vs t k vk vn r2 f2 q2 vs2 t2 k2 vk2 vn2 g1 g2 i x y W) : Below w.heap.size w W := h.1.out.1.bw
end

def ByInv (lx ly : List UInt8) (o : Int) (w7 : World) (vi : Value) (wr : World) : Prop :=
  ∃ (i m : Nat), i ≤ lx.length ∧ i ≤ ly.length ∧ vi = .int .i64 i ∧ wr = w7.drewN m ∧ Lev lx ly o i

/-- The row of a right cell's key. -/
theorem key_row (r f q vs : ByteArray) (t k vk : Int) {vn : Int} (hn : inI vn) (hf : f.size ≤ 9223372036854775807) (hv : vs.size ≤ 9223372036854775807) (w : World) (hL : LaidU w) (hr : cRight r.data.toList f.data.toList q.data.toList t k vk vn vs.data.toList = true) : ∀ W, Below w.heap.size w W → Calls Tryd.prog 11 #[cellV r f q t k vk vn vs] W fun e w' => ∃ g c, e = .returned (.tuple #[.slice (some ⟨g, 0, none⟩) (keyM r.data.toList f.data.toList q.data.toList t k).length c, .bool true]) ∧ (keyM r.data.toList f.data.toList q.data.toList t k).length ≤ c ∧ c ≤ maxLen ∧ W.heap.size ≤ g ∧ g < w'.heap.size ∧ (∀ i, i < (keyM r.data.toList f.data.toList q.data.toList t k).length → w'.cell? ⟨g, i, none⟩ = some (.int .u8 (((keyM r.data.toList f.data.toList q.data.toList t k).getD i 0).toNat : Int))) ∧ Below W.heap.size W w' :=
  fun W hW => (key_yes r f q vs t k vk hn hf hv W (hL.below hW) hr).mono fun e w' ⟨v, he, hR, hb⟩ => by
    have h2 : 0 < (keyM r.data.toList f.data.toList q.data.toList t k).length := by unfold keyM; simp only [List.length_append, List.length_cons, List.length_nil]; omega
    have hcap : ∀ g c, v = .slice (some ⟨g, 0, none⟩) (keyM r.data.toList f.data.toList q.data.toList t k).length c → c ≤ maxLen := fun g c hv => by
      rcases hR.2 with ⟨hv2, _⟩ | ⟨g', cap, cur, hv2, _, _, _, hcm, _⟩
      · rw [hv] at hv2; cases hv2
      · rw [hv] at hv2; injection hv2 with _ _ h3; rw [h3]; exact hcm
    obtain ⟨g, c, rfl, h3, h4, h5, h6⟩ := hR.form h2
    exact ⟨g, c, he, h5, hcap g c rfl, h3, h4, h6, hb⟩

theorem key_len {r f q vs : List UInt8} {t k vk vn : Int} (h : cRight r f q t k vk vn vs = true) : (keyM r f q t k).length ≤ 1000 := by
  obtain ⟨_, h1, _, h2, h3, _⟩ := cright_parts h
  have e1 := esc_len r
  have e2 := esc_len f
  have e3 := esc_len q
  have e4 := tail_len t k
  unfold keyM midM
  split <;> simp only [List.length_append, List.length_cons, List.length_nil] <;> omega

set_option maxRecDepth 100000 in
set_option maxHeartbeats 8000000 in
theorem corder_main (r f q vs : ByteArray) (t k vk vn : Int) (r2 f2 q2 vs2 : ByteArray) (t2 k2 vk2 vn2 : Int) (w : World) (lo b1 b2 : Bool) (lx ly : List UInt8) (o : Int)
    (hlo : ∀ (W : World), Calls Tryd.prog 10 #[.slice (some ⟨W.heap.size, 0, none⟩) 2 2] (W.alloc (.cells #[.string r, .string f, .string q, .int .i64 t, .int .i64 k, .int .i64 vk, .int .i64 vn, .string vs, .string r2, .string f2, .string q2, .int .i64 t2, .int .i64 k2, .int .i64 vk2, .int .i64 vn2, .string vs2] 25)) fun e w' => e = .returned (.bool lo) ∧ Below (W.alloc (.cells #[.string r, .string f, .string q, .int .i64 t, .int .i64 k, .int .i64 vk, .int .i64 vn, .string vs, .string r2, .string f2, .string q2, .int .i64 t2, .int .i64 k2, .int .i64 vk2, .int .i64 vn2, .string vs2] 25)).heap.size (W.alloc (.cells #[.string r, .string f, .string q, .int .i64 t, .int .i64 k, .int .i64 vk, .int .i64 vn, .string vs, .string r2, .string f2, .string q2, .int .i64 t2, .int .i64 k2, .int .i64 vk2, .int .i64 vn2, .string vs2] 25)) w')
    (ha : ∀ W, Below w.heap.size w W → Calls Tryd.prog 9 #[] W fun e w' => e = .returned (.bool true) ∧ Below W.heap.size W w')
    (hr1 : ∀ W, Below w.heap.size w W → Calls Tryd.prog 15 #[cellV r f q t k vk vn vs] W fun e w' => e = .returned (.bool b1) ∧ Below W.heap.size W w')
    (hr2 : ∀ W, Below w.heap.size w W → Calls Tryd.prog 15 #[cellV r2 f2 q2 t2 k2 vk2 vn2 vs2] W fun e w' => e = .returned (.bool b2) ∧ Below W.heap.size W w')
    (hk : lo = true ∨ (lo = false ∧ (b1 = false ∨ (b1 = true ∧ (b2 = false ∨ (b2 = true ∧ ((Lev lx ly o 0 ∧ (o = 0 → lx.length = ly.length) ∧ lx.length ≤ 1000 ∧ ly.length ≤ 1000) ∧
      (∀ W, Calls Tryd.prog 17 #[cellV r f q t k vk vn vs, cellV r2 f2 q2 t2 k2 vk2 vn2 vs2] W fun e w' => e = .returned (.int .i64 o) ∧ Below W.heap.size W w') ∧
      (∀ W, Below w.heap.size w W → Calls Tryd.prog 11 #[cellV r f q t k vk vn vs] W fun e w' => ∃ g c, e = .returned (.tuple #[.slice (some ⟨g, 0, none⟩) lx.length c, .bool true]) ∧ lx.length ≤ c ∧ c ≤ maxLen ∧ W.heap.size ≤ g ∧ g < w'.heap.size ∧ (∀ i, i < lx.length → w'.cell? ⟨g, i, none⟩ = some (.int .u8 ((lx.getD i 0).toNat : Int))) ∧ Below W.heap.size W w') ∧
      (∀ W, Below w.heap.size w W → Calls Tryd.prog 11 #[cellV r2 f2 q2 t2 k2 vk2 vn2 vs2] W fun e w' => ∃ g c, e = .returned (.tuple #[.slice (some ⟨g, 0, none⟩) ly.length c, .bool true]) ∧ ly.length ≤ c ∧ c ≤ maxLen ∧ W.heap.size ≤ g ∧ g < w'.heap.size ∧ (∀ i, i < ly.length → w'.cell? ⟨g, i, none⟩ = some (.int .u8 ((ly.getD i 0).toNat : Int))) ∧ Below W.heap.size W w'))))))))
    : Calls Tryd.prog 5 #[cellV r f q t k vk vn vs, cellV r2 f2 q2 t2 k2 vk2 vn2 vs2] w fun e w' => e = .returned (.bool true) ∧ Below w.heap.size w w' := by
  have HA := hid ha
  have HLo := hid hlo
  have HRc := hid hr1
  have HRd := hid hr2
  have HK := hid hk
  clear ha hlo hr1 hr2 hk
  go_enter Tryd.func5, Tryd.ntmps5
  go_upto_region 3 with (go_at_call 9; refine (HA.out _ ((below_new _ _).alloc (by simp) _)).mono ?_; rintro e w1 ⟨rfl, hb1⟩)
  refine wp_ltr (fun W => TwoS w (w.heap.size + 1) r f q vs t k vk vn r2 f2 q2 vs2 t2 k2 vk2 vn2 W) ?_ (fun W2 hW2 => ?_)
  · have B0 : Blk (w.alloc (.cells #[.string r, .string f, .string q, .int .i64 t, .int .i64 k, .int .i64 vk, .int .i64 vn, .string vs] 25)) w.heap.size 25 #[.string r, .string f, .string q, .int .i64 t, .int .i64 k, .int .i64 vk, .int .i64 vn, .string vs] := Blk.new w _ _
    have B1 := B0.keep (below_new _ (.cells #[.string r2, .string f2, .string q2, .int .i64 t2, .int .i64 k2, .int .i64 vk2, .int .i64 vn2, .string vs2] 25)) (by simp)
    have B2 : Blk ((w.alloc (.cells #[.string r, .string f, .string q, .int .i64 t, .int .i64 k, .int .i64 vk, .int .i64 vn, .string vs] 25)).alloc (.cells #[.string r2, .string f2, .string q2, .int .i64 t2, .int .i64 k2, .int .i64 vk2, .int .i64 vn2, .string vs2] 25)) (w.heap.size + 1) 25 #[.string r2, .string f2, .string q2, .int .i64 t2, .int .i64 k2, .int .i64 vk2, .int .i64 vn2, .string vs2] := by have := Blk.new (w.alloc (.cells #[.string r, .string f, .string q, .int .i64 t, .int .i64 k, .int .i64 vk, .int .i64 vn, .string vs] 25)) 25 #[.string r2, .string f2, .string q2, .int .i64 t2, .int .i64 k2, .int .i64 vk2, .int .i64 vn2, .string vs2]; simpa using this
    exact twos_of ((⟨B1, B2, (below_new w _).alloc (by simp) _⟩ : TwoB w _ (w.heap.size + 1) #[.string r, .string f, .string q, .int .i64 t, .int .i64 k, .int .i64 vk, .int .i64 vn, .string vs] #[.string r2, .string f2, .string q2, .int .i64 t2, .int .i64 k2, .int .i64 vk2, .int .i64 vn2, .string vs2]).below hb1)
  clear hb1
  obtain ⟨HT2, c0, c1, c2, c3, c4, c5, c6, c7, d0, d1, d2, d3, d4, d5, d6, d7⟩ := hW2
  have HT3 : Hid (∀ w3, Below (W2.alloc (.cells #[.string r, .string f, .string q, .int .i64 t, .int .i64 k, .int .i64 vk, .int .i64 vn, .string vs, .string r2, .string f2, .string q2, .int .i64 t2, .int .i64 k2, .int .i64 vk2, .int .i64 vn2, .string vs2] 25)).heap.size (W2.alloc (.cells #[.string r, .string f, .string q, .int .i64 t, .int .i64 k, .int .i64 vk, .int .i64 vn, .string vs, .string r2, .string f2, .string q2, .int .i64 t2, .int .i64 k2, .int .i64 vk2, .int .i64 vn2, .string vs2] 25)) w3 → TwoB w w3 (w.heap.size + 1) #[.string r, .string f, .string q, .int .i64 t, .int .i64 k, .int .i64 vk, .int .i64 vn, .string vs] #[.string r2, .string f2, .string q2, .int .i64 t2, .int .i64 k2, .int .i64 vk2, .int .i64 vn2, .string vs2]) := fun w3 h => (HT2.out.below (below_new _ _)).below h
  rcases HK.out with rfl | ⟨rfl, rfl | ⟨rfl, rfl | ⟨rfl, hk1, hO, hE1, hE2⟩⟩⟩
  · clear HK
    go_wp2_with (first
      | (go_at_call 10; refine (HLo.out _).mono ?_; rintro e w3 ⟨rfl, hb3⟩; have HB3 := hid (HT3.out w3 hb3)))
    go_ret
    exact ⟨rfl, HB3.out.bw⟩
  · clear HK
    go_wp2_with (first
      | (go_at_call 10; refine (HLo.out _).mono ?_; rintro e w3 ⟨rfl, hb3⟩; have HB3 := hid (HT3.out w3 hb3); have e0 : w3.cell? ⟨w.heap.size, 0, none⟩ = some (.string r) := HB3.out.c.cell 0; have e1 : w3.cell? ⟨w.heap.size, 1, none⟩ = some (.string f) := HB3.out.c.cell 1; have e2 : w3.cell? ⟨w.heap.size, 2, none⟩ = some (.string q) := HB3.out.c.cell 2; have e3 : w3.cell? ⟨w.heap.size, 3, none⟩ = some (.int .i64 t) := HB3.out.c.cell 3; have e4 : w3.cell? ⟨w.heap.size, 4, none⟩ = some (.int .i64 k) := HB3.out.c.cell 4; have e5 : w3.cell? ⟨w.heap.size, 5, none⟩ = some (.int .i64 vk) := HB3.out.c.cell 5; have e6 : w3.cell? ⟨w.heap.size, 6, none⟩ = some (.int .i64 vn) := HB3.out.c.cell 6; have e7 : w3.cell? ⟨w.heap.size, 7, none⟩ = some (.string vs) := HB3.out.c.cell 7)
      | (go_at_call 15; ((with_reducible refine (HRc.out w3 HB3.out.bw).mono ?_); rintro e w4 ⟨rfl, hb4⟩; have HB4 := hid (HB3.out.below hb4))))
    go_ret
    exact ⟨rfl, HB4.out.bw⟩
  · clear HK
    go_wp2_with (first
      | (go_at_call 10; refine (HLo.out _).mono ?_; rintro e w3 ⟨rfl, hb3⟩; have HB3 := hid (HT3.out w3 hb3); have e0 : w3.cell? ⟨w.heap.size, 0, none⟩ = some (.string r) := HB3.out.c.cell 0; have e1 : w3.cell? ⟨w.heap.size, 1, none⟩ = some (.string f) := HB3.out.c.cell 1; have e2 : w3.cell? ⟨w.heap.size, 2, none⟩ = some (.string q) := HB3.out.c.cell 2; have e3 : w3.cell? ⟨w.heap.size, 3, none⟩ = some (.int .i64 t) := HB3.out.c.cell 3; have e4 : w3.cell? ⟨w.heap.size, 4, none⟩ = some (.int .i64 k) := HB3.out.c.cell 4; have e5 : w3.cell? ⟨w.heap.size, 5, none⟩ = some (.int .i64 vk) := HB3.out.c.cell 5; have e6 : w3.cell? ⟨w.heap.size, 6, none⟩ = some (.int .i64 vn) := HB3.out.c.cell 6; have e7 : w3.cell? ⟨w.heap.size, 7, none⟩ = some (.string vs) := HB3.out.c.cell 7)
      | (go_at_call 15; ((with_reducible refine (HRc.out w3 HB3.out.bw).mono ?_); rintro e w4 ⟨rfl, hb4⟩; have HB4 := hid (HB3.out.below hb4); have g0 : w4.cell? ⟨(w.heap.size + 1), 0, none⟩ = some (.string r2) := HB4.out.d.cell 0; have g1 : w4.cell? ⟨(w.heap.size + 1), 1, none⟩ = some (.string f2) := HB4.out.d.cell 1; have g2 : w4.cell? ⟨(w.heap.size + 1), 2, none⟩ = some (.string q2) := HB4.out.d.cell 2; have g3 : w4.cell? ⟨(w.heap.size + 1), 3, none⟩ = some (.int .i64 t2) := HB4.out.d.cell 3; have g4 : w4.cell? ⟨(w.heap.size + 1), 4, none⟩ = some (.int .i64 k2) := HB4.out.d.cell 4; have g5 : w4.cell? ⟨(w.heap.size + 1), 5, none⟩ = some (.int .i64 vk2) := HB4.out.d.cell 5; have g6 : w4.cell? ⟨(w.heap.size + 1), 6, none⟩ = some (.int .i64 vn2) := HB4.out.d.cell 6; have g7 : w4.cell? ⟨(w.heap.size + 1), 7, none⟩ = some (.string vs2) := HB4.out.d.cell 7))
      | (go_at_call 15; ((with_reducible refine (HRd.out w4 HB4.out.bw).mono ?_); rintro e w5 ⟨rfl, hb5⟩; have HB5 := hid (HB4.out.below hb5))))
    go_ret
    exact ⟨rfl, HB5.out.bw⟩
  clear HK
  have HO := hid hO
  have HE1 := hid hE1
  have HE2 := hid hE2
  obtain ⟨hlev, hend, hlx, hly⟩ := hk1
  have HEnd := hid hend
  have HLev := hid hlev
  have HX := hid hlx
  have HY := hid hly
  clear hO hE1 hE2 hlev hend hlx hly
  obtain ⟨N1, hN1⟩ : ∃ N, lx.length = N := ⟨_, rfl⟩
  obtain ⟨N2, hN2⟩ : ∃ N, ly.length = N := ⟨_, rfl⟩
  rw [hN1] at HE1 HEnd HX
  rw [hN2] at HE2 HEnd HY
  have HN1 := hid hN1
  have HN2 := hid hN2
  clear hN1 hN2
  go_upto_region 5 with (first
    | (go_at_call 10; refine (HLo.out _).mono ?_; rintro e w3 ⟨rfl, hb3⟩; have HB3 := hid (HT3.out w3 hb3); have e0 : w3.cell? ⟨w.heap.size, 0, none⟩ = some (.string r) := HB3.out.c.cell 0; have e1 : w3.cell? ⟨w.heap.size, 1, none⟩ = some (.string f) := HB3.out.c.cell 1; have e2 : w3.cell? ⟨w.heap.size, 2, none⟩ = some (.string q) := HB3.out.c.cell 2; have e3 : w3.cell? ⟨w.heap.size, 3, none⟩ = some (.int .i64 t) := HB3.out.c.cell 3; have e4 : w3.cell? ⟨w.heap.size, 4, none⟩ = some (.int .i64 k) := HB3.out.c.cell 4; have e5 : w3.cell? ⟨w.heap.size, 5, none⟩ = some (.int .i64 vk) := HB3.out.c.cell 5; have e6 : w3.cell? ⟨w.heap.size, 6, none⟩ = some (.int .i64 vn) := HB3.out.c.cell 6; have e7 : w3.cell? ⟨w.heap.size, 7, none⟩ = some (.string vs) := HB3.out.c.cell 7)
    | (go_at_call 15; ((with_reducible refine (HRc.out w3 HB3.out.bw).mono ?_); rintro e w4 ⟨rfl, hb4⟩; have HB4 := hid (HB3.out.below hb4); have g0 : w4.cell? ⟨(w.heap.size + 1), 0, none⟩ = some (.string r2) := HB4.out.d.cell 0; have g1 : w4.cell? ⟨(w.heap.size + 1), 1, none⟩ = some (.string f2) := HB4.out.d.cell 1; have g2 : w4.cell? ⟨(w.heap.size + 1), 2, none⟩ = some (.string q2) := HB4.out.d.cell 2; have g3 : w4.cell? ⟨(w.heap.size + 1), 3, none⟩ = some (.int .i64 t2) := HB4.out.d.cell 3; have g4 : w4.cell? ⟨(w.heap.size + 1), 4, none⟩ = some (.int .i64 k2) := HB4.out.d.cell 4; have g5 : w4.cell? ⟨(w.heap.size + 1), 5, none⟩ = some (.int .i64 vk2) := HB4.out.d.cell 5; have g6 : w4.cell? ⟨(w.heap.size + 1), 6, none⟩ = some (.int .i64 vn2) := HB4.out.d.cell 6; have g7 : w4.cell? ⟨(w.heap.size + 1), 7, none⟩ = some (.string vs2) := HB4.out.d.cell 7))
    | (go_at_call 15; ((with_reducible refine (HRd.out w4 HB4.out.bw).mono ?_); rintro e w5 ⟨rfl, hb5⟩; have HB5 := hid (HB4.out.below hb5))))
  have HS5 := hid (twos_of HB5.out)
  clear HT2 HT3 HB3 HB4 HLo HRc HRd HA hb3 hb4 hb5 c0 c1 c2 c3 c4 c5 c6 c7 d0 d1 d2 d3 d4 d5 d6 d7 e0 e1 e2 e3 e4 e5 e6 e7 g0 g1 g2 g3 g4 g5 g6 g7
  obtain ⟨_, c0, c1, c2, c3, c4, c5, c6, c7, d0, d1, d2, d3, d4, d5, d6, d7⟩ := HS5.out
  go_upto_region 6 with (go_at_call 11; ((with_reducible refine (HE1.out _ HB5.out.bw).mono ?_); rintro e w6 ⟨g1, q1, rfl, hq1, hm1, hg1, hg1', hx1, hb6⟩))
  have HB6 := hid (HB5.out.below hb6)
  have HG1 := hid hx1
  clear hx1 c0 c1 c2 c3 c4 c5 c6 c7 d0 d1 d2 d3 d4 d5 d6 d7
  have d0 : w6.cell? ⟨(w.heap.size + 1), 0, none⟩ = some (.string r2) := HB6.out.d.cell 0; have d1 : w6.cell? ⟨(w.heap.size + 1), 1, none⟩ = some (.string f2) := HB6.out.d.cell 1; have d2 : w6.cell? ⟨(w.heap.size + 1), 2, none⟩ = some (.string q2) := HB6.out.d.cell 2; have d3 : w6.cell? ⟨(w.heap.size + 1), 3, none⟩ = some (.int .i64 t2) := HB6.out.d.cell 3; have d4 : w6.cell? ⟨(w.heap.size + 1), 4, none⟩ = some (.int .i64 k2) := HB6.out.d.cell 4; have d5 : w6.cell? ⟨(w.heap.size + 1), 5, none⟩ = some (.int .i64 vk2) := HB6.out.d.cell 5; have d6 : w6.cell? ⟨(w.heap.size + 1), 6, none⟩ = some (.int .i64 vn2) := HB6.out.d.cell 6; have d7 : w6.cell? ⟨(w.heap.size + 1), 7, none⟩ = some (.string vs2) := HB6.out.d.cell 7
  go_upto_region 9 with (go_at_call 11; ((with_reducible refine (HE2.out _ HB6.out.bw).mono ?_); rintro e w7 ⟨g2, q2', rfl, hq2, hm2, hg2, hg2', hx2, hb7⟩))
  have HG2 := hid hx2
  have HB7 := hid (HB6.out.below hb7)
  have HG1' : Hid (∀ i, i < N1 → w7.cell? ⟨g1, i, none⟩ = some (.int .u8 ((lx.getD i 0).toNat : Int))) := fun i hi => (hb7.cell (p := ⟨g1, i, none⟩) hg1').trans (HG1.out i hi)
  have HC1 := hid hq1
  have HC2 := hid hq2
  have HM1 := hid hm1
  have HM2 := hid hm2
  clear hx2 d0 d1 d2 d3 d4 d5 d6 d7 HS5 HB5 HB6 HG1 hb6 hb7 hg1 hg1' hg2 hg2' hq1 hq2 hm1 hm2 HE1 HE2
  go_wp2
  go_loopw [9] (fun vi wr => ByInv lx ly o w7 vi wr) (fun vi _ => N1 - (intOf vi).toNat)
  case atStart => exact ⟨0, 0, Nat.zero_le _, Nat.zero_le _, rfl, rfl, HLev.out⟩
  case round =>
    obtain ⟨i, m, hi1, hi2, rfl, rfl, hl⟩ := hrel
    have HI1 : i ≤ N1 := HN1.out ▸ hi1
    have HI2 : i ≤ N2 := HN2.out ▸ hi2
    have hX := HX.out
    have hY := HY.out
    have hq1 := HC1.out
    have hq2 := HC2.out
    have hm1 := HM1.out
    have hm2 := HM2.out
    unfold maxLen at hm1 hm2
    clear hi1 hi2
    by_cases hlt : i < N1 ∧ i < N2
    · obtain ⟨h1, h2⟩ := hlt
      have c1 := HG1'.out i h1
      have c2 := HG2.out i h2
      obtain ⟨x, hx⟩ : ∃ x, (lx.getD i 0).toNat = x := ⟨_, rfl⟩
      obtain ⟨y, hy⟩ : ∃ y, (ly.getD i 0).toNat = y := ⟨_, rfl⟩
      rw [hx] at c1
      rw [hy] at c2
      by_cases hxy : x = y
      · have HL' := hid (hl.eq (by rw [HN1.out]; exact h1) (by rw [HN2.out]; exact h2) (by rw [hx, hy]; exact hxy))
        subst hxy
        clear hl hx hy
        go_wp2
        go_quiet (fail)
        go_wp2
        go_roundw
        case rel => exact ⟨i + 1, _, by rw [HN1.out]; omega, by rw [HN2.out]; omega, by go_num, rfl, HL'.out⟩
        case measure => simp [intOf]; omega
      · have hsel : (x < y ∧ o = -1) ∨ (y < x ∧ o = 1) := by
          rcases Nat.lt_or_gt_of_ne hxy with h | h
          · exact .inl ⟨h, hl.lt (by rw [HN1.out]; exact h1) (by rw [HN2.out]; exact h2) (by rw [hx, hy]; exact h)⟩
          · exact .inr ⟨h, hl.gt (by rw [HN1.out]; exact h1) (by rw [HN2.out]; exact h2) (by rw [hx, hy]; exact h)⟩
        have hne : ((x : Int) != (y : Int)) = true := by simp; omega
        have HS : Hid (SixC w r f q vs t k vk vn r2 f2 q2 vs2 t2 k2 vk2 vn2 g1 g2 i x y w7) := sixc_mk HB7.out c1 c2
        clear hl hx hy hxy
        rcases hsel with ⟨hxy, rfl⟩ | ⟨hxy, rfl⟩
        · have hd : decide (x < y) = true := decide_eq_true hxy
          skip
          go_wp2
          go_quiet (fail)
          go_wp2
          obtain ⟨_, a0, a1, a2, a3, a4, a5, a6, a7, b0, b1, b2, b3, b4, b5, b6, b7, _, _⟩ := HS.out
          go_region_held3 (fun W => Hid (TwoB w W (w.heap.size + 1) #[.string r, .string f, .string q, .int .i64 t, .int .i64 k, .int .i64 vk, .int .i64 vn, .string vs] #[.string r2, .string f2, .string q2, .int .i64 t2, .int .i64 k2, .int .i64 vk2, .int .i64 vn2, .string vs2] ∧ g1 < W.heap.size ∧ g2 < W.heap.size) ∧ W.cell? ⟨w.heap.size, 0, none⟩ = some (.string r) ∧ W.cell? ⟨w.heap.size, 1, none⟩ = some (.string f) ∧ W.cell? ⟨w.heap.size, 2, none⟩ = some (.string q) ∧ W.cell? ⟨w.heap.size, 3, none⟩ = some (.int .i64 t) ∧ W.cell? ⟨w.heap.size, 4, none⟩ = some (.int .i64 k) ∧ W.cell? ⟨w.heap.size, 5, none⟩ = some (.int .i64 vk) ∧ W.cell? ⟨w.heap.size, 6, none⟩ = some (.int .i64 vn) ∧ W.cell? ⟨w.heap.size, 7, none⟩ = some (.string vs) ∧ W.cell? ⟨(w.heap.size + 1), 0, none⟩ = some (.string r2) ∧ W.cell? ⟨(w.heap.size + 1), 1, none⟩ = some (.string f2) ∧ W.cell? ⟨(w.heap.size + 1), 2, none⟩ = some (.string q2) ∧ W.cell? ⟨(w.heap.size + 1), 3, none⟩ = some (.int .i64 t2) ∧ W.cell? ⟨(w.heap.size + 1), 4, none⟩ = some (.int .i64 k2) ∧ W.cell? ⟨(w.heap.size + 1), 5, none⟩ = some (.int .i64 vk2) ∧ W.cell? ⟨(w.heap.size + 1), 6, none⟩ = some (.int .i64 vn2) ∧ W.cell? ⟨(w.heap.size + 1), 7, none⟩ = some (.string vs2) ∧ W.cell? ⟨g1, i, none⟩ = some (.int .u8 (x : Int)) ∧ W.cell? ⟨g2, i, none⟩ = some (.int .u8 (y : Int)))
            (first | exact sixc_call (sixc_drewN HS.out _) hbo | exact sixc_call (w := w) (r := r) (f := f) (q := q) (vs := vs) (t := t) (k := k) (vk := vk) (vn := vn) (r2 := r2) (f2 := f2) (q2 := q2) (vs2 := vs2) (t2 := t2) (k2 := k2) (vk2 := vk2) (vn2 := vn2) (g1 := g1) (g2 := g2) (i := i) (x := (x : Int)) (y := (y : Int)) (by assumption) hbo | exact sixc_drew (sixc_drewN (sixc_drewN HS.out _) _) | exact sixc_drewN HS.out _ | exact sixc_drew (w := w) (r := r) (f := f) (q := q) (vs := vs) (t := t) (k := k) (vk := vk) (vn := vn) (r2 := r2) (f2 := f2) (q2 := q2) (vs2 := vs2) (t2 := t2) (k2 := k2) (vk2 := vk2) (vn2 := vn2) (g1 := g1) (g2 := g2) (i := i) (x := (x : Int)) (y := (y : Int)) (by assumption) | assumption)
            (first
              | (go_at_call 17; ((with_reducible refine (HO.out _).mono ?_); rintro e w8 ⟨rfl, hbo⟩)))
          go_wp2
          go_ret
          exact ⟨rfl, sixc_below (w := w) (r := r) (f := f) (q := q) (vs := vs) (t := t) (k := k) (vk := vk) (vn := vn) (r2 := r2) (f2 := f2) (q2 := q2) (vs2 := vs2) (t2 := t2) (k2 := k2) (vk2 := vk2) (vn2 := vn2) (g1 := g1) (g2 := g2) (i := i) (x := (x : Int)) (y := (y : Int)) (by assumption)⟩
        · have hd : decide (x < y) = false := decide_eq_false (by omega)
          have hd2 : ¬ x < y := by omega
          go_wp2
          go_quiet (fail)
          go_wp2
          obtain ⟨_, a0, a1, a2, a3, a4, a5, a6, a7, b0, b1, b2, b3, b4, b5, b6, b7, _, _⟩ := HS.out
          go_region_held3 (fun W => Hid (TwoB w W (w.heap.size + 1) #[.string r, .string f, .string q, .int .i64 t, .int .i64 k, .int .i64 vk, .int .i64 vn, .string vs] #[.string r2, .string f2, .string q2, .int .i64 t2, .int .i64 k2, .int .i64 vk2, .int .i64 vn2, .string vs2] ∧ g1 < W.heap.size ∧ g2 < W.heap.size) ∧ W.cell? ⟨w.heap.size, 0, none⟩ = some (.string r) ∧ W.cell? ⟨w.heap.size, 1, none⟩ = some (.string f) ∧ W.cell? ⟨w.heap.size, 2, none⟩ = some (.string q) ∧ W.cell? ⟨w.heap.size, 3, none⟩ = some (.int .i64 t) ∧ W.cell? ⟨w.heap.size, 4, none⟩ = some (.int .i64 k) ∧ W.cell? ⟨w.heap.size, 5, none⟩ = some (.int .i64 vk) ∧ W.cell? ⟨w.heap.size, 6, none⟩ = some (.int .i64 vn) ∧ W.cell? ⟨w.heap.size, 7, none⟩ = some (.string vs) ∧ W.cell? ⟨(w.heap.size + 1), 0, none⟩ = some (.string r2) ∧ W.cell? ⟨(w.heap.size + 1), 1, none⟩ = some (.string f2) ∧ W.cell? ⟨(w.heap.size + 1), 2, none⟩ = some (.string q2) ∧ W.cell? ⟨(w.heap.size + 1), 3, none⟩ = some (.int .i64 t2) ∧ W.cell? ⟨(w.heap.size + 1), 4, none⟩ = some (.int .i64 k2) ∧ W.cell? ⟨(w.heap.size + 1), 5, none⟩ = some (.int .i64 vk2) ∧ W.cell? ⟨(w.heap.size + 1), 6, none⟩ = some (.int .i64 vn2) ∧ W.cell? ⟨(w.heap.size + 1), 7, none⟩ = some (.string vs2) ∧ W.cell? ⟨g1, i, none⟩ = some (.int .u8 (x : Int)) ∧ W.cell? ⟨g2, i, none⟩ = some (.int .u8 (y : Int)))
            (first | exact sixc_call (sixc_drewN HS.out _) hbo | exact sixc_call (w := w) (r := r) (f := f) (q := q) (vs := vs) (t := t) (k := k) (vk := vk) (vn := vn) (r2 := r2) (f2 := f2) (q2 := q2) (vs2 := vs2) (t2 := t2) (k2 := k2) (vk2 := vk2) (vn2 := vn2) (g1 := g1) (g2 := g2) (i := i) (x := (x : Int)) (y := (y : Int)) (by assumption) hbo | exact sixc_drew (sixc_drewN (sixc_drewN HS.out _) _) | exact sixc_drewN HS.out _ | exact sixc_drew (w := w) (r := r) (f := f) (q := q) (vs := vs) (t := t) (k := k) (vk := vk) (vn := vn) (r2 := r2) (f2 := f2) (q2 := q2) (vs2 := vs2) (t2 := t2) (k2 := k2) (vk2 := vk2) (vn2 := vn2) (g1 := g1) (g2 := g2) (i := i) (x := (x : Int)) (y := (y : Int)) (by assumption) | assumption)
            (first
              | (go_at_call 17; ((with_reducible refine (HO.out _).mono ?_); rintro e w8 ⟨rfl, hbo⟩)))
          go_wp2
          go_ret
          exact ⟨rfl, sixc_below (w := w) (r := r) (f := f) (q := q) (vs := vs) (t := t) (k := k) (vk := vk) (vn := vn) (r2 := r2) (f2 := f2) (q2 := q2) (vs2 := vs2) (t2 := t2) (k2 := k2) (vk2 := vk2) (vn2 := vn2) (g1 := g1) (g2 := g2) (i := i) (x := (x : Int)) (y := (y : Int)) (by assumption)⟩
    · have ho : o = 0 := hl.stop (by rw [HN1.out, HN2.out]; omega)
      subst ho
      have hNN := HEnd.out rfl
      subst hNN
      obtain rfl : i = N1 := by omega
      clear hl hlt
      have a0 : w7.cell? ⟨w.heap.size, 0, none⟩ = some (.string r) := HB7.out.c.cell 0; have a1 : w7.cell? ⟨w.heap.size, 1, none⟩ = some (.string f) := HB7.out.c.cell 1; have a2 : w7.cell? ⟨w.heap.size, 2, none⟩ = some (.string q) := HB7.out.c.cell 2; have a3 : w7.cell? ⟨w.heap.size, 3, none⟩ = some (.int .i64 t) := HB7.out.c.cell 3; have a4 : w7.cell? ⟨w.heap.size, 4, none⟩ = some (.int .i64 k) := HB7.out.c.cell 4; have a5 : w7.cell? ⟨w.heap.size, 5, none⟩ = some (.int .i64 vk) := HB7.out.c.cell 5; have a6 : w7.cell? ⟨w.heap.size, 6, none⟩ = some (.int .i64 vn) := HB7.out.c.cell 6; have a7 : w7.cell? ⟨w.heap.size, 7, none⟩ = some (.string vs) := HB7.out.c.cell 7
      have b0 : w7.cell? ⟨(w.heap.size + 1), 0, none⟩ = some (.string r2) := HB7.out.d.cell 0; have b1 : w7.cell? ⟨(w.heap.size + 1), 1, none⟩ = some (.string f2) := HB7.out.d.cell 1; have b2 : w7.cell? ⟨(w.heap.size + 1), 2, none⟩ = some (.string q2) := HB7.out.d.cell 2; have b3 : w7.cell? ⟨(w.heap.size + 1), 3, none⟩ = some (.int .i64 t2) := HB7.out.d.cell 3; have b4 : w7.cell? ⟨(w.heap.size + 1), 4, none⟩ = some (.int .i64 k2) := HB7.out.d.cell 4; have b5 : w7.cell? ⟨(w.heap.size + 1), 5, none⟩ = some (.int .i64 vk2) := HB7.out.d.cell 5; have b6 : w7.cell? ⟨(w.heap.size + 1), 6, none⟩ = some (.int .i64 vn2) := HB7.out.d.cell 6; have b7 : w7.cell? ⟨(w.heap.size + 1), 7, none⟩ = some (.string vs2) := HB7.out.d.cell 7
      go_wp2_with (go_at_call 17; ((with_reducible refine (HO.out _).mono ?_); rintro e w8 ⟨rfl, hb8⟩))
      go_ret
      exact ⟨rfl, (below_drewN HB7.out.bw _).trans (hb8.mono (by have := HB7.out.bw.size; simp; omega))⟩

/-- The law CodecOrder, whatever the cells. -/
theorem order_any (r f q vs : ByteArray) (t k vk : Int) {vn : Int} (r2 f2 q2 vs2 : ByteArray) (t2 k2 vk2 : Int) {vn2 : Int} (hn : inI vn) (hn2 : inI vn2) (hf : f.size ≤ 9223372036854775807) (hv : vs.size ≤ 9223372036854775807) (hf2 : f2.size ≤ 9223372036854775807) (hv2 : vs2.size ≤ 9223372036854775807) (w : World) (hL : LaidU w) :
    Calls Tryd.prog 5 #[cellV r f q t k vk vn vs, cellV r2 f2 q2 t2 k2 vk2 vn2 vs2] w fun e w' => e = .returned (.bool true) ∧ Below w.heap.size w w' := by
  refine corder_main r f q vs t k vk vn r2 f2 q2 vs2 t2 k2 vk2 vn2 w (longC r f q vs || longC r2 f2 q2 vs2) (cRight r.data.toList f.data.toList q.data.toList t k vk vn vs.data.toList) (cRight r2.data.toList f2.data.toList q2.data.toList t2 k2 vk2 vn2 vs2.data.toList) (keyM r.data.toList f.data.toList q.data.toList t k) (keyM r2.data.toList f2.data.toList q2.data.toList t2 k2) (cOrd r.data.toList f.data.toList q.data.toList t k r2.data.toList f2.data.toList q2.data.toList t2 k2) (fun W => long2 r f q vs r2 f2 q2 vs2 t k vk vn t2 k2 vk2 vn2 W _ rfl) (fun W hW => calive_any W (hL.below hW)) (fun W hW => cright_any r f q vs t k vk hn hf hv W (hL.below hW)) (fun W hW => cright_any r2 f2 q2 vs2 t2 k2 vk2 hn2 hf2 hv2 W (hL.below hW)) ?_
  cases longC r f q vs || longC r2 f2 q2 vs2
  · refine .inr ⟨rfl, ?_⟩
    cases hr1 : cRight r.data.toList f.data.toList q.data.toList t k vk vn vs.data.toList
    · exact .inl rfl
    · refine .inr ⟨rfl, ?_⟩
      cases hr2 : cRight r2.data.toList f2.data.toList q2.data.toList t2 k2 vk2 vn2 vs2.data.toList
      · exact .inl rfl
      · refine .inr ⟨rfl, ⟨key_lex hr1 hr2, fun h0 => ?_, key_len hr1, key_len hr2⟩, fun W => corder_any r f q vs t k vk vn r2 f2 q2 vs2 t2 k2 vk2 vn2 W, key_row r f q vs t k vk hn hf hv w hL hr1, key_row r2 f2 q2 vs2 t2 k2 vk2 hn2 hf2 hv2 w hL hr2⟩
        obtain ⟨e1, e2, e3, e4, e5⟩ := cOrd_zero h0
        rw [e1, e2, e3, e4, e5]
  · exact .inl rfl
end Go.Proofs.YtegdkcldgepngaaDoor
