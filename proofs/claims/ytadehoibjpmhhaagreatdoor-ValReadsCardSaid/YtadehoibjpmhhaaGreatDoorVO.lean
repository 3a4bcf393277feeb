/- alive (of the laws of layer 2): the value that the document fixes is answered. Conditions: the listed variables of the library read as they are laid. -/
import Derived.Test.YtadehoibjpmhhaaGreatDoorVN
import Derived.Test.YtadehoibjpmhhaaGreatDoorFI
namespace Go.Proofs.YtadehoibjpmhhaaGreatDoor
open Go.RowKit

/-- The text that is fixed, and its forms. -/
def fixS : List UInt8 := [97, 0]
theorem fix_right : vRight 3 0 fixS = true := by decide +kernel
theorem fix_enc : vEnc 3 0 fixS = [3, 97, 0, 255, 0, 1] := by decide +kernel
theorem fix_show : vShow 3 0 fixS = [116, 34, 97, 92, 48, 48, 34] := by unfold vShow; rw [if_pos fix_right]; decide +kernel
theorem fix_dec : vdecEnd [3, 97, 0, 255, 0, 1] = .returned (.tuple #[.agg #[.int .i64 3, .int .i64 0, .string ⟨#[97, 0]⟩], .bool true]) := by
  have h1 : decV ((3 : UInt8).toNat : Int) [97, 0, 255, 0, 1] = some (0, fixS) := by decide +kernel
  have h2 : ∀ (x : UInt8) (r : List UInt8), vdecEnd (x :: r) = match decV (x.toNat : Int) r with
    | none => .returned (.tuple #[.agg #[.int .i64 0, .int .i64 0, .string ⟨#[]⟩], .bool false])
    | some (n, s) => if vRight (x.toNat : Int) n s = true then .returned (.tuple #[.agg #[.int .i64 (x.toNat : Int), .int .i64 n, .string ⟨s.toArray⟩], .bool true]) else .returned (.tuple #[.agg #[.int .i64 0, .int .i64 0, .string ⟨#[]⟩], .bool false]) := fun _ _ => rfl
  rw [h2, h1]
  exact if_pos fix_right
theorem in0 : inI 0 := by unfold inI; omega

theorem fix_read (w : World) (hL : LaidIn w) :
    Calls Tryz.prog 7 #[.string ⟨#[116, 34, 97, 92, 48, 48, 34]⟩] w fun e w' => e = .returned (.tuple #[.agg #[.int .i64 3, .int .i64 0, .string ⟨#[97, 0]⟩], .bool true]) ∧ Below w.heap.size w w' := by
  have hb : Begins ⟨#[116, 34, 97, 92, 48, 48, 34]⟩ 116 := ⟨⟨_, rfl⟩, by decide +kernel, by decide +kernel⟩
  have hq : unqText ((⟨#[116, 34, 97, 92, 48, 48, 34]⟩ : ByteArray).extract 1 (⟨#[116, 34, 97, 92, 48, 48, 34]⟩ : ByteArray).size).data.toList = some fixS := by decide +kernel
  refine vread_tt ⟨#[116, 34, 97, 92, 48, 48, 34]⟩ 3 0 ⟨#[97, 0]⟩ ⟨#[116, 34, 97, 92, 48, 48, 34]⟩ (by simp) w (hid fun W hW => ?_) (hid fun W hW => ?_)
  · refine (parse_t _ (by decide) (by decide) hb ⟨#[97, 0]⟩ true W (hid fun W2 => ?_)).mono fun e w' ⟨he, h⟩ => ⟨he, hW.trans (h.mono hW.size), h⟩
    have h := unquote_any ((⟨#[116, 34, 97, 92, 48, 48, 34]⟩ : ByteArray).extract 1 (⟨#[116, 34, 97, 92, 48, 48, 34]⟩ : ByteArray).size) (by decide) W2
    rw [hq] at h
    exact h
  · have h := vshow_in 3 in0 ⟨#[97, 0]⟩ w (by decide) hL W hW
    have e : (⟨#[97, 0]⟩ : ByteArray).data.toList = fixS := rfl
    rw [e, fix_show] at h
    exact h

/-- A value in three cells of one block. -/
def Agg3 (w : World) (p : Nat) (k n : Int) (S : ByteArray) : Prop := p < w.heap.size ∧ w.cell? ⟨p, 0, none⟩ = some (.int .i64 k) ∧ w.cell? ⟨p, 1, none⟩ = some (.int .i64 n) ∧ w.cell? ⟨p, 2, none⟩ = some (.string S)
theorem Agg3.new (w : World) (k n : Int) (S : ByteArray) (T : TypeId) : Agg3 (w.alloc (.cells #[.int .i64 k, .int .i64 n, .string S] T)) w.heap.size k n S :=
  ⟨by simp, by rw [World.cell?_alloc_at _ _ _ _ rfl]; rfl, by rw [World.cell?_alloc_at _ _ _ _ rfl]; rfl, by rw [World.cell?_alloc_at _ _ _ _ rfl]; rfl⟩
theorem Agg3.alloc {w : World} {p : Nat} {k n : Int} {S : ByteArray} (h : Agg3 w p k n S) (o : Obj) : Agg3 (w.alloc o) p k n S :=
  ⟨by have := h.1; simp; omega, (World.cell?_alloc_past _ _ _ h.1).trans h.2.1, (World.cell?_alloc_past _ _ _ h.1).trans h.2.2.1, (World.cell?_alloc_past _ _ _ h.1).trans h.2.2.2⟩
theorem Agg3.below {w w' : World} {p : Nat} {k n : Int} {S : ByteArray} (h : Agg3 w p k n S) (hb : Below w.heap.size w w') : Agg3 w' p k n S :=
  ⟨Nat.lt_of_lt_of_le h.1 hb.size, (hb.cell (p := ⟨p, 0, none⟩) h.1).trans h.2.1, (hb.cell (p := ⟨p, 1, none⟩) h.1).trans h.2.2.1, (hb.cell (p := ⟨p, 2, none⟩) h.1).trans h.2.2.2⟩
theorem Agg3.drewN {w : World} {p : Nat} {k n : Int} {S : ByteArray} (h : Agg3 w p k n S) (m : Nat) : Agg3 (w.drewN m) p k n S := h
/-- The bytes that are fixed. -/
def fixB : List UInt8 := [3, 97, 0, 255, 0, 1]

theorem fix_cells (w : World) (T : TypeId) (g : Nat) (hg : g = w.heap.size) : ∀ i, i < 6 → (w.alloc (.cells #[.int .u8 3, .int .u8 97, .int .u8 0, .int .u8 255, .int .u8 0, .int .u8 1] T)).cell? ⟨g, i, none⟩ = some (.int .u8 ((fixB.getD i 0).toNat : Int)) := by
  intro i hi
  rw [World.cell?_alloc_at _ _ _ _ hg]
  rcases (show i = 0 ∨ i = 1 ∨ i = 2 ∨ i = 3 ∨ i = 4 ∨ i = 5 by omega) with rfl | rfl | rfl | rfl | rfl | rfl <;> rfl

set_option maxHeartbeats 4000000 in
set_option maxRecDepth 100000 in
theorem alive_any (w : World) (hL : LaidIn w) :
    Calls Tryz.prog 4 #[] w fun e w' => e = .returned (.bool true) ∧ Below w.heap.size w w' := by
  have HE : Hid (∀ W, Below w.heap.size w W → Calls Tryz.prog 9 #[.agg #[.int .i64 3, .int .i64 0, .string ⟨#[97, 0]⟩]] W fun e w' => ∃ g c, e = .returned (.tuple #[.slice (some ⟨g, 0, none⟩) 6 c, .bool true]) ∧ W.heap.size ≤ g ∧ g < w'.heap.size ∧ (∀ i, i < 6 → w'.cell? ⟨g, i, none⟩ = some (.int .u8 ((fixB.getD i 0).toNat : Int))) ∧ Below w.heap.size w w' ∧ Below W.heap.size W w') := fun W hW =>
    (vencode_yes 3 in0 ⟨#[97, 0]⟩ (by decide) fix_right W (hL.below hW)).mono fun e w' ⟨v, he, hR, hb⟩ => by
      have e1 : vEnc 3 0 (⟨#[97, 0]⟩ : ByteArray).data.toList = fixB := fix_enc
      rw [e1] at hR
      obtain ⟨g, c, rfl, h1, h2, h3, h4⟩ := hR.form (by decide)
      exact ⟨g, c, he, h1, h2, h4, hW.trans (hb.mono hW.size), hb⟩
  have HRd : Hid (∀ W, Below w.heap.size w W → Calls Tryz.prog 7 #[.string ⟨#[116, 34, 97, 92, 48, 48, 34]⟩] W fun e w' => e = .returned (.tuple #[.agg #[.int .i64 3, .int .i64 0, .string ⟨#[97, 0]⟩], .bool true]) ∧ Below w.heap.size w w' ∧ Below W.heap.size W w') := fun W hW => (fix_read W (hL.below hW)).mono fun _ _ ⟨he, hb⟩ => ⟨he, hW.trans (hb.mono hW.size), hb⟩
  have HD : Hid (∀ W b, Below w.heap.size w W → Holds W b 0 fixB → Calls Tryz.prog 5 #[.slice (some ⟨b, 0, none⟩) 6 6] W fun e w' => e = .returned (.tuple #[.agg #[.int .i64 3, .int .i64 0, .string ⟨#[97, 0]⟩], .bool true]) ∧ Below w.heap.size w w' ∧ Below W.heap.size W w') := fun W b hW hh =>
    (vdecode_any fixB (by decide) (some ⟨b, 0, none⟩) 6 (by decide) W (fun _ => ⟨b, 0, rfl, hh⟩) (hL.below hW)).mono fun _ _ ⟨he, hb⟩ => ⟨he.trans fix_dec, hW.trans (hb.mono hW.size), hb⟩
  have HSh : Hid (∀ W, Below w.heap.size w W → Calls Tryz.prog 11 #[.agg #[.int .i64 3, .int .i64 0, .string ⟨#[97, 0]⟩]] W fun e w' => e = .returned (.string ⟨#[116, 34, 97, 92, 48, 48, 34]⟩) ∧ Below w.heap.size w w' ∧ Below W.heap.size W w') := fun W hW => by
    have h := vshow_in 3 in0 ⟨#[97, 0]⟩ w (by decide) hL W hW
    have e : (⟨#[97, 0]⟩ : ByteArray).data.toList = fixS := rfl
    rw [e, fix_show] at h
    exact h
  have HRt : Hid (∀ W, Below w.heap.size w W → Calls Tryz.prog 12 #[.agg #[.int .i64 3, .int .i64 0, .string ⟨#[97, 0]⟩]] W fun e w' => e = .returned (.bool true) ∧ Below w.heap.size w w' ∧ Below W.heap.size W w') := fun W hW => by
    have h := vright_in 3 in0 ⟨#[97, 0]⟩ w (by decide) hL W hW
    have e : vRight 3 0 (⟨#[97, 0]⟩ : ByteArray).data.toList = true := fix_right
    rw [e] at h
    exact h
  have HRf : Hid (∀ W, Below w.heap.size w W → Calls Tryz.prog 12 #[.agg #[.int .i64 0, .int .i64 0, .string ⟨#[]⟩]] W fun e w' => e = .returned (.bool false) ∧ Below w.heap.size w w' ∧ Below W.heap.size W w') := fun W hW => by
    have h := vright_in 0 in0 ⟨#[]⟩ w (by decide) hL W hW
    have e : vRight 0 0 (⟨#[]⟩ : ByteArray).data.toList = false := rfl
    rw [e] at h
    exact h
  have HO : Hid (∀ W, Below w.heap.size w W → Calls Tryz.prog 13 #[.agg #[.int .i64 3, .int .i64 0, .string ⟨#[97, 0]⟩], .agg #[.int .i64 1, .int .i64 0, .string ⟨#[]⟩]] W fun e w' => e = .returned (.int .i64 1) ∧ Below w.heap.size w w' ∧ Below W.heap.size W w') := fun W hW =>
    (vorder_any 3 1 in0 in0 ⟨#[97, 0]⟩ ⟨#[]⟩ W).mono fun _ _ ⟨he, hb⟩ => ⟨he.trans (ret_int (by decide +kernel)), hW.trans (hb.mono hW.size), hb⟩
  have HS : Hid (∀ W b1 b2 c1, (∀ i, i < 6 → W.cell? ⟨b1, i, none⟩ = some (.int .u8 ((fixB.getD i 0).toNat : Int))) → (∀ i, i < 6 → W.cell? ⟨b2, i, none⟩ = some (.int .u8 ((fixB.getD i 0).toNat : Int))) → Calls Tryz.prog 10 #[.slice (some ⟨b1, 0, none⟩) 6 c1, .slice (some ⟨b2, 0, none⟩) 6 6] W fun e w' => e = .returned (.bool true) ∧ Below W.heap.size W w') := fun W b1 b2 c1 h1 h2 =>
    (same_rows 6 (by decide) (fun i => ((fixB.getD i 0).toNat : Int)) b1 b2 c1 6 W h1 h2).mono fun _ _ ⟨he, m, hm⟩ => ⟨he, by subst hm; exact below_drewN (Below.refl _ _) m⟩
  have HB := hid (below_new w)
  clear hL
  go_enter Tryz.func4, Tryz.ntmps4
  go_wp2_with (first
    | (go_at_call 9; refine (HE.out _ (HB.out _)).mono ?_; rintro e w1 ⟨g, c, rfl, hg1, hg2, hcells, hbw1, hb1⟩
       have HA1 := hid ((Agg3.new w 3 0 ⟨#[97, 0]⟩ 25).below hb1)
       have HG1 := hid hcells
       clear hcells)
    | (go_at_call 7; refine (HRd.out _ hbw1).mono ?_; rintro e w2 ⟨rfl, hbw2, hb2⟩
       have HA2 := hid (HA1.out.below hb2)
       have HG2 : Hid (∀ i, i < 6 → w2.cell? ⟨g, i, none⟩ = some (.int .u8 ((fixB.getD i 0).toNat : Int))) := fun i hi => (hb2.cell (p := ⟨g, i, none⟩) hg2).trans (HG1.out i hi)
       have hg3 : g < w2.heap.size := Nat.lt_of_lt_of_le hg2 hb2.size
       clear HA1 HG1)
    | (go_at_call 5; refine (HD.out _ (w2.heap.size + 1) ((hbw2.alloc hbw2.size _).alloc (by have := hbw2.size; simp; omega) _) (fun i hi => by rw [Nat.zero_add]; exact fix_cells _ _ _ (by simp) i hi)).mono ?_; rintro e w4 ⟨rfl, hbw4, hb4⟩
       have HA4 := hid (((HA2.out.alloc _).alloc _).below hb4)
       have HB4 := hid (((Agg3.new w2 3 0 ⟨#[97, 0]⟩ 25).alloc _).below hb4)
       have HG4 : Hid (∀ i, i < 6 → w4.cell? ⟨g, i, none⟩ = some (.int .u8 ((fixB.getD i 0).toNat : Int))) := fun i hi => (hb4.cell (p := ⟨g, i, none⟩) (by simp; omega)).trans ((World.cell?_alloc_past _ _ _ (by simp; omega)).trans ((World.cell?_alloc_past _ _ _ hg3).trans (HG2.out i hi)))
       have hg4 : g < w4.heap.size := Nat.lt_of_lt_of_le (by simp; omega) hb4.size
       clear HA2 HG2)
    | (go_at_call 10; refine (HS.out _ g (w4.heap.size + 1) c (fun i hi => (World.cell?_alloc_past _ _ _ (by simp; omega)).trans ((World.cell?_alloc_past _ _ _ hg4).trans (HG4.out i hi))) (fun i hi => fix_cells _ _ _ (by simp) i hi)).mono ?_; rintro e w5 ⟨rfl, hb5⟩
       have HA5 := hid (((HA4.out.alloc _).alloc _).below hb5)
       obtain ⟨_, a0, a1, a2⟩ := HA5.out
       obtain ⟨_, b0, b1, b2⟩ := (((HB4.out.alloc _).alloc _).below hb5)
       obtain ⟨_, d0, d1, d2⟩ := (((Agg3.new w4 3 0 ⟨#[97, 0]⟩ 25).alloc _).below hb5)
       have hbw5 := ((hbw4.alloc hbw4.size _).alloc (by have := hbw4.size; simp; omega) _).trans (hb5.mono (by have := hbw4.size; simp; omega)))
    | (go_at_call 11; refine (HSh.out _ hbw5).mono ?_; rintro e w6 ⟨rfl, hbw6, hb6⟩
       have HA6 := hid (HA5.out.below hb6)
       obtain ⟨_, e0, e1, e2⟩ := HA6.out)
    | (go_at_call 12; (with_reducible refine (HRt.out _ hbw6).mono ?_); rintro e w7 ⟨rfl, hbw7, hb7⟩
       have HA7 := hid (HA6.out.below hb7)
       obtain ⟨_, f0, f1, f2⟩ := HA7.out)
    | (go_at_call 12; (with_reducible refine (HRf.out _ hbw7).mono ?_); rintro e w8 ⟨rfl, hbw8, hb8⟩
       have HA8 := hid (HA7.out.below hb8)
       obtain ⟨_, h0, h1, h2⟩ := HA8.out)
    | (go_at_call 13; refine (HO.out _ hbw8).mono ?_; rintro e w9 ⟨rfl, hbw9, hb9⟩))
  go_ret
  exact ⟨rfl, hbw9⟩

end Go.Proofs.YtadehoibjpmhhaaGreatDoor
