/- The law CodecLate at every cell and time: true. Conditions: the texts are no longer than any are, the number of the value one of 64 bits; the tables of utf8 read as they are laid. -/
import Derived.Test.YtegdkcldgepngaaDoorCS
import Derived.Test.YtegdkcldgepngaaDoorCL
import Derived.Deep.RegionHeld3
namespace Go.Proofs.YtegdkcldgepngaaDoor
open Go.RowKit

set_option maxRecDepth 100000 in
set_option maxHeartbeats 2000000 in
theorem long_of (v : Value) (w : World) (b : Bool) (H : Calls Tryd.prog 32 #[v, .int .i64 10] w fun e w' => e = .returned (.bool b) ∧ Below w.heap.size w w') :
    Calls Tryd.prog 10 #[v] w fun e w' => e = .returned (.bool b) ∧ Below w.heap.size w w' := by
  have H := hid H
  go_enter Tryd.func10, Tryd.ntmps10
  go_wp2_with (go_at_call 32; refine H.out.mono ?_; rintro e w1 ⟨rfl, hb⟩)
  go_ret
  exact ⟨rfl, hb⟩
/-- A list of one cell. -/
theorem long1 (r f q vs : ByteArray) (t k vk vn : Int) (W : World) (bb : Nat) (hbb : bb = W.heap.size) :
    Calls Tryd.prog 10 #[.slice (some ⟨bb, 0, none⟩) 1 1] (W.alloc (.cells #[.string r, .string f, .string q, .int .i64 t, .int .i64 k, .int .i64 vk, .int .i64 vn, .string vs] 25)) fun e w' => e = .returned (.bool (longC r f q vs)) ∧ Below (W.alloc (.cells #[.string r, .string f, .string q, .int .i64 t, .int .i64 k, .int .i64 vk, .int .i64 vn, .string vs] 25)).heap.size (W.alloc (.cells #[.string r, .string f, .string q, .int .i64 t, .int .i64 k, .int .i64 vk, .int .i64 vn, .string vs] 25)) w' := by
  subst hbb
  have hB : Blk (W.alloc (.cells #[.string r, .string f, .string q, .int .i64 t, .int .i64 k, .int .i64 vk, .int .i64 vn, .string vs] 25)) W.heap.size 25 #[.string r, .string f, .string q, .int .i64 t, .int .i64 k, .int .i64 vk, .int .i64 vn, .string vs] := Blk.new W _ _
  have h := longcells_any W.heap.size 1 (by decide) [⟨r, f, q, vs⟩] rfl _ (fun i hi => by
    match i, hi with
    | 0, _ => exact ⟨hB.cell 0, hB.cell 1, hB.cell 2, hB.cell 7⟩)
  refine long_of _ _ _ (h.mono fun e w' ⟨he, hb⟩ => ⟨?_, hb⟩)
  rw [he]
  simp [Tx4.long]
/-- A list of two cells. -/
theorem long2 (r f q vs r2 f2 q2 vs2 : ByteArray) (t k vk vn t2 k2 vk2 vn2 : Int) (W : World) (bb : Nat) (hbb : bb = W.heap.size) :
    Calls Tryd.prog 10 #[.slice (some ⟨bb, 0, none⟩) 2 2] (W.alloc (.cells #[.string r, .string f, .string q, .int .i64 t, .int .i64 k, .int .i64 vk, .int .i64 vn, .string vs, .string r2, .string f2, .string q2, .int .i64 t2, .int .i64 k2, .int .i64 vk2, .int .i64 vn2, .string vs2] 25)) fun e w' => e = .returned (.bool (longC r f q vs || longC r2 f2 q2 vs2)) ∧ Below (W.alloc (.cells #[.string r, .string f, .string q, .int .i64 t, .int .i64 k, .int .i64 vk, .int .i64 vn, .string vs, .string r2, .string f2, .string q2, .int .i64 t2, .int .i64 k2, .int .i64 vk2, .int .i64 vn2, .string vs2] 25)).heap.size (W.alloc (.cells #[.string r, .string f, .string q, .int .i64 t, .int .i64 k, .int .i64 vk, .int .i64 vn, .string vs, .string r2, .string f2, .string q2, .int .i64 t2, .int .i64 k2, .int .i64 vk2, .int .i64 vn2, .string vs2] 25)) w' := by
  subst hbb
  have hB : Blk (W.alloc (.cells #[.string r, .string f, .string q, .int .i64 t, .int .i64 k, .int .i64 vk, .int .i64 vn, .string vs, .string r2, .string f2, .string q2, .int .i64 t2, .int .i64 k2, .int .i64 vk2, .int .i64 vn2, .string vs2] 25)) W.heap.size 25 #[.string r, .string f, .string q, .int .i64 t, .int .i64 k, .int .i64 vk, .int .i64 vn, .string vs, .string r2, .string f2, .string q2, .int .i64 t2, .int .i64 k2, .int .i64 vk2, .int .i64 vn2, .string vs2] := Blk.new W _ _
  have h := longcells_any W.heap.size 2 (by decide) [⟨r, f, q, vs⟩, ⟨r2, f2, q2, vs2⟩] rfl _ (fun i hi => by
    match i, hi with
    | 0, _ => exact ⟨hB.cell 0, hB.cell 1, hB.cell 2, hB.cell 7⟩
    | 1, _ => exact ⟨hB.cell 8, hB.cell 9, hB.cell 10, hB.cell 15⟩)
  refine long_of _ _ _ (h.mono fun e w' ⟨he, hb⟩ => ⟨?_, hb⟩)
  rw [he]
  simp [Tx4.long]

/-- Two cells of the law's, in a world behind its beginning. -/
structure TwoB (w W : World) (db : Nat) (xs ys : Array Value) : Prop where
  c : Blk W w.heap.size 25 xs
  d : Blk W db 25 ys
  bw : Below w.heap.size w W
theorem TwoB.below {w W W' : World} {db : Nat} {xs ys : Array Value} (h : TwoB w W db xs ys) (hb : Below W.heap.size W W') : TwoB w W' db xs ys := ⟨h.c.keep hb h.c.lt, h.d.keep hb h.d.lt, h.bw.trans (hb.mono h.bw.size)⟩
abbrev TwoS (w : World) (db : Nat) (r f q vs : ByteArray) (t k vk vn : Int) (r2 f2 q2 vs2 : ByteArray) (t2 k2 vk2 vn2 : Int) (W : World) : Prop :=
  Hid (TwoB w W db #[.string r, .string f, .string q, .int .i64 t, .int .i64 k, .int .i64 vk, .int .i64 vn, .string vs] #[.string r2, .string f2, .string q2, .int .i64 t2, .int .i64 k2, .int .i64 vk2, .int .i64 vn2, .string vs2]) ∧ W.cell? ⟨w.heap.size, 0, none⟩ = some (.string r) ∧ W.cell? ⟨w.heap.size, 1, none⟩ = some (.string f) ∧ W.cell? ⟨w.heap.size, 2, none⟩ = some (.string q) ∧ W.cell? ⟨w.heap.size, 3, none⟩ = some (.int .i64 t) ∧ W.cell? ⟨w.heap.size, 4, none⟩ = some (.int .i64 k) ∧ W.cell? ⟨w.heap.size, 5, none⟩ = some (.int .i64 vk) ∧ W.cell? ⟨w.heap.size, 6, none⟩ = some (.int .i64 vn) ∧ W.cell? ⟨w.heap.size, 7, none⟩ = some (.string vs) ∧ W.cell? ⟨db, 0, none⟩ = some (.string r2) ∧ W.cell? ⟨db, 1, none⟩ = some (.string f2) ∧ W.cell? ⟨db, 2, none⟩ = some (.string q2) ∧ W.cell? ⟨db, 3, none⟩ = some (.int .i64 t2) ∧ W.cell? ⟨db, 4, none⟩ = some (.int .i64 k2) ∧ W.cell? ⟨db, 5, none⟩ = some (.int .i64 vk2) ∧ W.cell? ⟨db, 6, none⟩ = some (.int .i64 vn2) ∧ W.cell? ⟨db, 7, none⟩ = some (.string vs2)
section
variable {w W W' : World} {db : Nat} {r f q vs r2 f2 q2 vs2 : ByteArray} {t k vk vn t2 k2 vk2 vn2 : Int}
theorem twos_of (h : TwoB w W db #[.string r, .string f, .string q, .int .i64 t, .int .i64 k, .int .i64 vk, .int .i64 vn, .string vs] #[.string r2, .string f2, .string q2, .int .i64 t2, .int .i64 k2, .int .i64 vk2, .int .i64 vn2, .string vs2]) : TwoS w db r f q vs t k vk vn r2 f2 q2 vs2 t2 k2 vk2 vn2 W := ⟨h, h.c.cell 0, h.c.cell 1, h.c.cell 2, h.c.cell 3, h.c.cell 4, h.c.cell 5, h.c.cell 6, h.c.cell 7, h.d.cell 0, h.d.cell 1, h.d.cell 2, h.d.cell 3, h.d.cell 4, h.d.cell 5, h.d.cell 6, h.d.cell 7⟩
theorem twos_call (h : TwoS w db r f q vs t k vk vn r2 f2 q2 vs2 t2 k2 vk2 vn2 W) (hb : Below W.heap.size W W') : TwoS w db r f q vs t k vk vn r2 f2 q2 vs2 t2 k2 vk2 vn2 W' := twos_of (h.1.out.below hb)
theorem twos_drew (h : TwoS w db r f q vs t k vk vn r2 f2 q2 vs2 t2 k2 vk2 vn2 W) : TwoS w db r f q vs t k vk vn r2 f2 q2 vs2 t2 k2 vk2 vn2 W.drew := ⟨hid ⟨h.1.out.c, h.1.out.d, h.1.out.bw.drew⟩, h.2⟩
end

theorem late_ord (r f q : List UInt8) (t time k : Int) : cOrd r f q t k r f q time k = Lib.compareInt time t := by
  have e1 : ∀ x : Int, Lib.compareInt x x = 0 := fun x => by unfold Lib.compareInt; split <;> (try split) <;> omega
  unfold cOrd
  simp only [cmpB_self, orI_cons, e1, if_true]
  split
  · rename_i h; rw [h]; rfl
  · rfl

set_option maxRecDepth 100000 in
set_option maxHeartbeats 8000000 in
theorem late_any (r f q vs : ByteArray) (t k vk : Int) {vn : Int} (time : Int) (hn : inI vn) (hf : f.size ≤ 9223372036854775807) (hv : vs.size ≤ 9223372036854775807) (w : World) (hL : LaidU w) :
    Calls Tryd.prog 8 #[cellV r f q t k vk vn vs, .int .i64 time] w fun e w' => e = .returned (.bool true) ∧ Below w.heap.size w w' := by
  have HA : Hid (∀ W, Below w.heap.size w W → Calls Tryd.prog 9 #[] W fun e w' => e = .returned (.bool true) ∧ Below W.heap.size W w') := fun W hW => calive_any W (hL.below hW)
  have HLo : Hid (∀ (W : World), Calls Tryd.prog 10 #[.slice (some ⟨W.heap.size, 0, none⟩) 1 1] (W.alloc (.cells #[.string r, .string f, .string q, .int .i64 t, .int .i64 k, .int .i64 vk, .int .i64 vn, .string vs] 25)) fun e w' => e = .returned (.bool (longC r f q vs)) ∧ Below (W.alloc (.cells #[.string r, .string f, .string q, .int .i64 t, .int .i64 k, .int .i64 vk, .int .i64 vn, .string vs] 25)).heap.size (W.alloc (.cells #[.string r, .string f, .string q, .int .i64 t, .int .i64 k, .int .i64 vk, .int .i64 vn, .string vs] 25)) w') := fun W => long1 r f q vs t k vk vn W _ rfl
  have HRc : Hid (∀ W, Below w.heap.size w W → Calls Tryd.prog 15 #[cellV r f q t k vk vn vs] W fun e w' => e = .returned (.bool (cRight r.data.toList f.data.toList q.data.toList t k vk vn vs.data.toList)) ∧ Below W.heap.size W w') := fun W hW => cright_any r f q vs t k vk hn hf hv W (hL.below hW)
  have HRd : Hid (∀ W, Below w.heap.size w W → Calls Tryd.prog 15 #[cellV r f q time k vk vn vs] W fun e w' => e = .returned (.bool (cRight r.data.toList f.data.toList q.data.toList time k vk vn vs.data.toList)) ∧ Below W.heap.size W w') := fun W hW => cright_any r f q vs time k vk hn hf hv W (hL.below hW)
  have HO1 : Hid (∀ W : World, Calls Tryd.prog 17 #[cellV r f q t k vk vn vs, cellV r f q time k vk vn vs] W fun e w' => e = .returned (.int .i64 (Lib.compareInt time t)) ∧ Below W.heap.size W w') := fun W => by
    have h := corder_any r f q vs t k vk vn r f q vs time k vk vn W
    rwa [late_ord] at h
  have HO2 : Hid (∀ W : World, Calls Tryd.prog 17 #[cellV r f q t k vk vn vs, cellV r f q t k vk vn vs] W fun e w' => e = .returned (.int .i64 0) ∧ Below W.heap.size W w') := fun W => by
    have h := corder_any r f q vs t k vk vn r f q vs t k vk vn W
    rwa [late_ord, show Lib.compareInt t t = 0 by unfold Lib.compareInt; split <;> (try split) <;> omega] at h
  clear hL hf hv hn
  go_enter Tryd.func8, Tryd.ntmps8
  go_upto_region 3 with (go_at_call 9; refine (HA.out _ (below_new _ _)).mono ?_; rintro e w1 ⟨rfl, hb1⟩)
  refine wp_ltr (fun W => Hid (Blk W w.heap.size 25 #[.string r, .string f, .string q, .int .i64 t, .int .i64 k, .int .i64 vk, .int .i64 vn, .string vs] ∧ Below w.heap.size w W) ∧ W.cell? ⟨w.heap.size, 0, none⟩ = some (.string r) ∧ W.cell? ⟨w.heap.size, 1, none⟩ = some (.string f) ∧ W.cell? ⟨w.heap.size, 2, none⟩ = some (.string q) ∧ W.cell? ⟨w.heap.size, 3, none⟩ = some (.int .i64 t) ∧ W.cell? ⟨w.heap.size, 4, none⟩ = some (.int .i64 k) ∧ W.cell? ⟨w.heap.size, 5, none⟩ = some (.int .i64 vk) ∧ W.cell? ⟨w.heap.size, 6, none⟩ = some (.int .i64 vn) ∧ W.cell? ⟨w.heap.size, 7, none⟩ = some (.string vs)) ?_ (fun W1 hW1 => ?_)
  · have B0 := (Blk.new w 25 #[.string r, .string f, .string q, .int .i64 t, .int .i64 k, .int .i64 vk, .int .i64 vn, .string vs]).keep hb1 (by simp)
    exact ⟨⟨B0, (below_new w _).trans (hb1.mono (by simp))⟩, B0.cell 0, B0.cell 1, B0.cell 2, B0.cell 3, B0.cell 4, B0.cell 5, B0.cell 6, B0.cell 7⟩
  obtain ⟨HW1, c0, c1, c2, c3, c4, c5, c6, c7⟩ := hW1
  clear hb1
  go_upto_region 5 with (fail)
  obtain ⟨db, hdb⟩ : ∃ db, W1.heap.size = db := ⟨_, rfl⟩
  refine wp_ltr (fun W => TwoS w db r f q vs t k vk vn r f q vs time k vk vn W) ?_ (fun W2 hW2 => ?_)
  · exact twos_of ⟨HW1.out.1.keep (below_new _ _) HW1.out.1.lt, by rw [← hdb]; exact Blk.new W1 _ _, HW1.out.2.alloc HW1.out.2.size _⟩
  rw [hdb]
  clear hdb c0 c1 c2 c3 c4 c5 c6 c7
  have HS2 := hid hW2
  obtain ⟨HT2, c0, c1, c2, c3, c4, c5, c6, c7, d0, d1, d2, d3, d4, d5, d6, d7⟩ := hW2
  cases hlo : longC r f q vs with
  | true =>
    rw [hlo] at HLo
    clear hlo
    go_wp2_with (go_at_call 10; refine (HLo.out _).mono ?_; rintro e w3 ⟨rfl, hb3⟩)
    go_ret
    exact ⟨rfl, (HT2.out.bw.alloc HT2.out.bw.size _).trans (hb3.mono (by have := HT2.out.bw.size; simp; omega))⟩
  | false =>
    rw [hlo] at HLo
    clear hlo
    have HT3 : Hid (∀ w3, Below (W2.alloc (.cells #[.string r, .string f, .string q, .int .i64 t, .int .i64 k, .int .i64 vk, .int .i64 vn, .string vs] 25)).heap.size (W2.alloc (.cells #[.string r, .string f, .string q, .int .i64 t, .int .i64 k, .int .i64 vk, .int .i64 vn, .string vs] 25)) w3 → TwoB w w3 db #[.string r, .string f, .string q, .int .i64 t, .int .i64 k, .int .i64 vk, .int .i64 vn, .string vs] #[.string r, .string f, .string q, .int .i64 time, .int .i64 k, .int .i64 vk, .int .i64 vn, .string vs]) := fun w3 h => (HT2.out.below (below_new _ _)).below h
    cases hrc : cRight r.data.toList f.data.toList q.data.toList t k vk vn vs.data.toList with
    | false =>
      rw [hrc] at HRc
      clear hrc
      go_wp2_with (first
        | (go_at_call 10; refine (HLo.out _).mono ?_; rintro e w3 ⟨rfl, hb3⟩; have HB3 := hid (HT3.out w3 hb3); have e0 : w3.cell? ⟨w.heap.size, 0, none⟩ = some (.string r) := HB3.out.c.cell 0; have e1 : w3.cell? ⟨w.heap.size, 1, none⟩ = some (.string f) := HB3.out.c.cell 1; have e2 : w3.cell? ⟨w.heap.size, 2, none⟩ = some (.string q) := HB3.out.c.cell 2; have e3 : w3.cell? ⟨w.heap.size, 3, none⟩ = some (.int .i64 t) := HB3.out.c.cell 3; have e4 : w3.cell? ⟨w.heap.size, 4, none⟩ = some (.int .i64 k) := HB3.out.c.cell 4; have e5 : w3.cell? ⟨w.heap.size, 5, none⟩ = some (.int .i64 vk) := HB3.out.c.cell 5; have e6 : w3.cell? ⟨w.heap.size, 6, none⟩ = some (.int .i64 vn) := HB3.out.c.cell 6; have e7 : w3.cell? ⟨w.heap.size, 7, none⟩ = some (.string vs) := HB3.out.c.cell 7)
        | (go_at_call 15; refine (HRc.out _ HB3.out.bw).mono ?_; rintro e w4 ⟨rfl, hb4⟩))
      go_ret
      exact ⟨rfl, (HB3.out.below hb4).bw⟩
    | true =>
      rw [hrc] at HRc
      clear hrc
      cases hrd : cRight r.data.toList f.data.toList q.data.toList time k vk vn vs.data.toList with
      | false =>
        rw [hrd] at HRd
        clear hrd
        go_wp2_with (first
          | (go_at_call 10; refine (HLo.out _).mono ?_; rintro e w3 ⟨rfl, hb3⟩; have HB3 := hid (HT3.out w3 hb3); have e0 : w3.cell? ⟨w.heap.size, 0, none⟩ = some (.string r) := HB3.out.c.cell 0; have e1 : w3.cell? ⟨w.heap.size, 1, none⟩ = some (.string f) := HB3.out.c.cell 1; have e2 : w3.cell? ⟨w.heap.size, 2, none⟩ = some (.string q) := HB3.out.c.cell 2; have e3 : w3.cell? ⟨w.heap.size, 3, none⟩ = some (.int .i64 t) := HB3.out.c.cell 3; have e4 : w3.cell? ⟨w.heap.size, 4, none⟩ = some (.int .i64 k) := HB3.out.c.cell 4; have e5 : w3.cell? ⟨w.heap.size, 5, none⟩ = some (.int .i64 vk) := HB3.out.c.cell 5; have e6 : w3.cell? ⟨w.heap.size, 6, none⟩ = some (.int .i64 vn) := HB3.out.c.cell 6; have e7 : w3.cell? ⟨w.heap.size, 7, none⟩ = some (.string vs) := HB3.out.c.cell 7)
          | (go_at_call 15; ((with_reducible refine (HRc.out w3 HB3.out.bw).mono ?_); rintro e w4 ⟨rfl, hb4⟩; have HB4 := hid (HB3.out.below hb4); have g0 : w4.cell? ⟨db, 0, none⟩ = some (.string r) := HB4.out.d.cell 0; have g1 : w4.cell? ⟨db, 1, none⟩ = some (.string f) := HB4.out.d.cell 1; have g2 : w4.cell? ⟨db, 2, none⟩ = some (.string q) := HB4.out.d.cell 2; have g3 : w4.cell? ⟨db, 3, none⟩ = some (.int .i64 time) := HB4.out.d.cell 3; have g4 : w4.cell? ⟨db, 4, none⟩ = some (.int .i64 k) := HB4.out.d.cell 4; have g5 : w4.cell? ⟨db, 5, none⟩ = some (.int .i64 vk) := HB4.out.d.cell 5; have g6 : w4.cell? ⟨db, 6, none⟩ = some (.int .i64 vn) := HB4.out.d.cell 6; have g7 : w4.cell? ⟨db, 7, none⟩ = some (.string vs) := HB4.out.d.cell 7))
          | (go_at_call 15; ((with_reducible refine (HRd.out w4 HB4.out.bw).mono ?_); rintro e w5 ⟨rfl, hb5⟩)))
        go_ret
        exact ⟨rfl, (HB4.out.below hb5).bw⟩
      | true =>
        rw [hrd] at HRd
        clear hrd
        by_cases htt : t = time
        · subst htt
          go_wp2_with (first
            | (go_at_call 10; refine (HLo.out _).mono ?_; rintro e w3 ⟨rfl, hb3⟩; have HB3 := hid (HT3.out w3 hb3); have e0 : w3.cell? ⟨w.heap.size, 0, none⟩ = some (.string r) := HB3.out.c.cell 0; have e1 : w3.cell? ⟨w.heap.size, 1, none⟩ = some (.string f) := HB3.out.c.cell 1; have e2 : w3.cell? ⟨w.heap.size, 2, none⟩ = some (.string q) := HB3.out.c.cell 2; have e3 : w3.cell? ⟨w.heap.size, 3, none⟩ = some (.int .i64 t) := HB3.out.c.cell 3; have e4 : w3.cell? ⟨w.heap.size, 4, none⟩ = some (.int .i64 k) := HB3.out.c.cell 4; have e5 : w3.cell? ⟨w.heap.size, 5, none⟩ = some (.int .i64 vk) := HB3.out.c.cell 5; have e6 : w3.cell? ⟨w.heap.size, 6, none⟩ = some (.int .i64 vn) := HB3.out.c.cell 6; have e7 : w3.cell? ⟨w.heap.size, 7, none⟩ = some (.string vs) := HB3.out.c.cell 7)
            | (go_at_call 15; ((with_reducible refine (HRc.out w3 HB3.out.bw).mono ?_); rintro e w4 ⟨rfl, hb4⟩; have HB4 := hid (HB3.out.below hb4); have g0 : w4.cell? ⟨db, 0, none⟩ = some (.string r) := HB4.out.d.cell 0; have g1 : w4.cell? ⟨db, 1, none⟩ = some (.string f) := HB4.out.d.cell 1; have g2 : w4.cell? ⟨db, 2, none⟩ = some (.string q) := HB4.out.d.cell 2; have g3 : w4.cell? ⟨db, 3, none⟩ = some (.int .i64 t) := HB4.out.d.cell 3; have g4 : w4.cell? ⟨db, 4, none⟩ = some (.int .i64 k) := HB4.out.d.cell 4; have g5 : w4.cell? ⟨db, 5, none⟩ = some (.int .i64 vk) := HB4.out.d.cell 5; have g6 : w4.cell? ⟨db, 6, none⟩ = some (.int .i64 vn) := HB4.out.d.cell 6; have g7 : w4.cell? ⟨db, 7, none⟩ = some (.string vs) := HB4.out.d.cell 7))
            | (go_at_call 15; ((with_reducible refine (HRd.out w4 HB4.out.bw).mono ?_); rintro e w5 ⟨rfl, hb5⟩; have HB5 := hid (HB4.out.below hb5); have i3 : w5.cell? ⟨w.heap.size, 3, none⟩ = some (.int .i64 t) := HB5.out.c.cell 3)))
          go_ret
          exact ⟨rfl, HB5.out.bw⟩
        · have q0 : (t == time) = false := by simpa using htt
          go_upto_region 7 with (first
            | (go_at_call 10; refine (HLo.out _).mono ?_; rintro e w3 ⟨rfl, hb3⟩; have HB3 := hid (HT3.out w3 hb3); have e0 : w3.cell? ⟨w.heap.size, 0, none⟩ = some (.string r) := HB3.out.c.cell 0; have e1 : w3.cell? ⟨w.heap.size, 1, none⟩ = some (.string f) := HB3.out.c.cell 1; have e2 : w3.cell? ⟨w.heap.size, 2, none⟩ = some (.string q) := HB3.out.c.cell 2; have e3 : w3.cell? ⟨w.heap.size, 3, none⟩ = some (.int .i64 t) := HB3.out.c.cell 3; have e4 : w3.cell? ⟨w.heap.size, 4, none⟩ = some (.int .i64 k) := HB3.out.c.cell 4; have e5 : w3.cell? ⟨w.heap.size, 5, none⟩ = some (.int .i64 vk) := HB3.out.c.cell 5; have e6 : w3.cell? ⟨w.heap.size, 6, none⟩ = some (.int .i64 vn) := HB3.out.c.cell 6; have e7 : w3.cell? ⟨w.heap.size, 7, none⟩ = some (.string vs) := HB3.out.c.cell 7)
            | (go_at_call 15; ((with_reducible refine (HRc.out w3 HB3.out.bw).mono ?_); rintro e w4 ⟨rfl, hb4⟩; have HB4 := hid (HB3.out.below hb4); have g0 : w4.cell? ⟨db, 0, none⟩ = some (.string r) := HB4.out.d.cell 0; have g1 : w4.cell? ⟨db, 1, none⟩ = some (.string f) := HB4.out.d.cell 1; have g2 : w4.cell? ⟨db, 2, none⟩ = some (.string q) := HB4.out.d.cell 2; have g3 : w4.cell? ⟨db, 3, none⟩ = some (.int .i64 time) := HB4.out.d.cell 3; have g4 : w4.cell? ⟨db, 4, none⟩ = some (.int .i64 k) := HB4.out.d.cell 4; have g5 : w4.cell? ⟨db, 5, none⟩ = some (.int .i64 vk) := HB4.out.d.cell 5; have g6 : w4.cell? ⟨db, 6, none⟩ = some (.int .i64 vn) := HB4.out.d.cell 6; have g7 : w4.cell? ⟨db, 7, none⟩ = some (.string vs) := HB4.out.d.cell 7))
            | (go_at_call 15; ((with_reducible refine (HRd.out w4 HB4.out.bw).mono ?_); rintro e w5 ⟨rfl, hb5⟩; have HB5 := hid (HB4.out.below hb5); have i3 : w5.cell? ⟨w.heap.size, 3, none⟩ = some (.int .i64 t) := HB5.out.c.cell 3)))
          have HN5 := hid (twos_of HB5.out)
          clear HS2 HT2 HT3 HB3 HB4 HLo HRc HRd HA hb3 hb4 hb5 c0 c1 c2 c3 c4 c5 c6 c7 d0 d1 d2 d3 d4 d5 d6 d7 e0 e1 e2 e3 e4 e5 e6 e7 g0 g1 g2 g3 g4 g5 g6 g7 i3
          obtain ⟨h0, c0, c1, c2, c3, c4, c5, c6, c7, d0, d1, d2, d3, d4, d5, d6, d7⟩ := HN5.out
          by_cases hlt : time < t
          · have e1 : Lib.compareInt time t = -1 := by unfold Lib.compareInt; rw [if_pos hlt]
            rw [e1] at HO1
            clear e1
            go_region_held3 (fun W => Hid (TwoB w W db #[.string r, .string f, .string q, .int .i64 t, .int .i64 k, .int .i64 vk, .int .i64 vn, .string vs] #[.string r, .string f, .string q, .int .i64 time, .int .i64 k, .int .i64 vk, .int .i64 vn, .string vs]) ∧ W.cell? ⟨w.heap.size, 0, none⟩ = some (.string r) ∧ W.cell? ⟨w.heap.size, 1, none⟩ = some (.string f) ∧ W.cell? ⟨w.heap.size, 2, none⟩ = some (.string q) ∧ W.cell? ⟨w.heap.size, 3, none⟩ = some (.int .i64 t) ∧ W.cell? ⟨w.heap.size, 4, none⟩ = some (.int .i64 k) ∧ W.cell? ⟨w.heap.size, 5, none⟩ = some (.int .i64 vk) ∧ W.cell? ⟨w.heap.size, 6, none⟩ = some (.int .i64 vn) ∧ W.cell? ⟨w.heap.size, 7, none⟩ = some (.string vs) ∧ W.cell? ⟨db, 0, none⟩ = some (.string r) ∧ W.cell? ⟨db, 1, none⟩ = some (.string f) ∧ W.cell? ⟨db, 2, none⟩ = some (.string q) ∧ W.cell? ⟨db, 3, none⟩ = some (.int .i64 time) ∧ W.cell? ⟨db, 4, none⟩ = some (.int .i64 k) ∧ W.cell? ⟨db, 5, none⟩ = some (.int .i64 vk) ∧ W.cell? ⟨db, 6, none⟩ = some (.int .i64 vn) ∧ W.cell? ⟨db, 7, none⟩ = some (.string vs))
              (first | exact HN5.out | exact twos_drew HN5.out | exact twos_call (by assumption) hbo | exact twos_drew (by assumption) | assumption)
              (first
                | (go_at_call 17; ((with_reducible refine (HO1.out _).mono ?_); rintro e w6 ⟨rfl, hbo⟩))
                | (go_at_call 17; ((with_reducible refine (HO2.out _).mono ?_); rintro e w7 ⟨rfl, hbo⟩)))
            all_goals
              rename_i hLast
              go_wp2
              go_ret
              exact ⟨rfl, hLast.1.out.bw⟩
          · have hlt2 : t < time := by omega
            have e1 : Lib.compareInt time t = 1 := by unfold Lib.compareInt; rw [if_neg hlt, if_pos hlt2]
            rw [e1] at HO1
            clear e1
            go_region_held3 (fun W => Hid (TwoB w W db #[.string r, .string f, .string q, .int .i64 t, .int .i64 k, .int .i64 vk, .int .i64 vn, .string vs] #[.string r, .string f, .string q, .int .i64 time, .int .i64 k, .int .i64 vk, .int .i64 vn, .string vs]) ∧ W.cell? ⟨w.heap.size, 0, none⟩ = some (.string r) ∧ W.cell? ⟨w.heap.size, 1, none⟩ = some (.string f) ∧ W.cell? ⟨w.heap.size, 2, none⟩ = some (.string q) ∧ W.cell? ⟨w.heap.size, 3, none⟩ = some (.int .i64 t) ∧ W.cell? ⟨w.heap.size, 4, none⟩ = some (.int .i64 k) ∧ W.cell? ⟨w.heap.size, 5, none⟩ = some (.int .i64 vk) ∧ W.cell? ⟨w.heap.size, 6, none⟩ = some (.int .i64 vn) ∧ W.cell? ⟨w.heap.size, 7, none⟩ = some (.string vs) ∧ W.cell? ⟨db, 0, none⟩ = some (.string r) ∧ W.cell? ⟨db, 1, none⟩ = some (.string f) ∧ W.cell? ⟨db, 2, none⟩ = some (.string q) ∧ W.cell? ⟨db, 3, none⟩ = some (.int .i64 time) ∧ W.cell? ⟨db, 4, none⟩ = some (.int .i64 k) ∧ W.cell? ⟨db, 5, none⟩ = some (.int .i64 vk) ∧ W.cell? ⟨db, 6, none⟩ = some (.int .i64 vn) ∧ W.cell? ⟨db, 7, none⟩ = some (.string vs))
              (first | exact HN5.out | exact twos_drew HN5.out | exact twos_call (by assumption) hbo | exact twos_drew (by assumption) | assumption)
              (first
                | (go_at_call 17; ((with_reducible refine (HO1.out _).mono ?_); rintro e w6 ⟨rfl, hbo⟩))
                | (go_at_call 17; ((with_reducible refine (HO2.out _).mono ?_); rintro e w7 ⟨rfl, hbo⟩)))
            all_goals
              rename_i hLast
              go_wp2
              go_ret
              exact ⟨rfl, hLast.1.out.bw⟩
end Go.Proofs.YtegdkcldgepngaaDoor
