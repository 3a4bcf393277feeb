/- Three values that a law has boxed: their cells, and what they do behind a call or a draw. Conditions: none. -/
import Derived.Test.YtgahljgmgdjjdaaDoorWD
namespace Go.Proofs.YtgahljgmgdjjdaaDoor
open Go.RowKit

theorem cmpB_three : ∀ l m : List UInt8, Lib.compareBytes l m = -1 ∨ Lib.compareBytes l m = 0 ∨ Lib.compareBytes l m = 1
  | [], [] => .inr (.inl rfl)
  | [], _ :: _ => .inl rfl
  | _ :: _, [] => .inr (.inr rfl)
  | a :: l, b :: m => by
    unfold Lib.compareBytes
    split
    · exact .inl rfl
    · split
      · exact .inr (.inr rfl)
      · exact cmpB_three l m
theorem vOrd_three (k1 n1 : Int) (s1 : List UInt8) (k2 n2 : Int) (s2 : List UInt8) : vOrd k1 n1 s1 k2 n2 s2 = -1 ∨ vOrd k1 n1 s1 k2 n2 s2 = 0 ∨ vOrd k1 n1 s1 k2 n2 s2 = 1 := by
  have hc : ∀ a b : Int, cmpI a b = -1 ∨ cmpI a b = 0 ∨ cmpI a b = 1 := fun a b => by unfold cmpI; split <;> (try split) <;> omega
  unfold vOrd
  by_cases h : k1 = k2
  · rw [if_pos h]
    split
    · exact cmpB_three _ _
    · rw [vNum_key]; exact hc _ _
  · rw [if_neg h]; exact hc _ _

/-- Three values in blocks of the law's own, in a world behind the law's beginning. -/
abbrev Nine (w : World) (k1 n1 : Int) (s1 : ByteArray) (k2 n2 : Int) (s2 : ByteArray) (k3 n3 : Int) (s3 : ByteArray) (w' : World) : Prop :=
  Hid (Below w.heap.size w w' ∧ w.heap.size + 2 < w'.heap.size) ∧ w'.cell? ⟨w.heap.size, 0, none⟩ = some (.int .i64 k1) ∧ w'.cell? ⟨w.heap.size, 1, none⟩ = some (.int .i64 n1) ∧ w'.cell? ⟨w.heap.size, 2, none⟩ = some (.string s1) ∧ w'.cell? ⟨w.heap.size + 1, 0, none⟩ = some (.int .i64 k2) ∧ w'.cell? ⟨w.heap.size + 1, 1, none⟩ = some (.int .i64 n2) ∧ w'.cell? ⟨w.heap.size + 1, 2, none⟩ = some (.string s2) ∧ w'.cell? ⟨w.heap.size + 2, 0, none⟩ = some (.int .i64 k3) ∧ w'.cell? ⟨w.heap.size + 2, 1, none⟩ = some (.int .i64 n3) ∧ w'.cell? ⟨w.heap.size + 2, 2, none⟩ = some (.string s3)
section
variable {w W W' : World} {k1 n1 k2 n2 k3 n3 : Int} {s1 s2 s3 : ByteArray}
theorem nine_mk (hb : Below w.heap.size w W) (h1 : Agg3 W w.heap.size k1 n1 s1) (h2 : Agg3 W (w.heap.size + 1) k2 n2 s2) (h3 : Agg3 W (w.heap.size + 2) k3 n3 s3) : Nine w k1 n1 s1 k2 n2 s2 k3 n3 s3 W :=
  ⟨hid ⟨hb, h3.1⟩, h1.2.1, h1.2.2.1, h1.2.2.2, h2.2.1, h2.2.2.1, h2.2.2.2, h3.2.1, h3.2.2.1, h3.2.2.2⟩
theorem nine_call (h : Nine w k1 n1 s1 k2 n2 s2 k3 n3 s3 W) (hb : Below W.heap.size W W') : Nine w k1 n1 s1 k2 n2 s2 k3 n3 s3 W' := by
  obtain ⟨hh, a0, a1, a2, b0, b1, b2, c0, c1, c2⟩ := h
  obtain ⟨hbw, hz⟩ := hh.out
  have hc : ∀ b o, b ≤ w.heap.size + 2 → W'.cell? ⟨b, o, none⟩ = W.cell? ⟨b, o, none⟩ := fun b o h => hb.cell (p := ⟨b, o, none⟩) (show b < W.heap.size by omega)
  refine ⟨hid ⟨hbw.trans (hb.mono (by omega)), Nat.lt_of_lt_of_le hz hb.size⟩, ?_, ?_, ?_, ?_, ?_, ?_, ?_, ?_, ?_⟩ <;> (rw [hc _ _ (by omega)]; assumption)
theorem nine_drew (h : Nine w k1 n1 s1 k2 n2 s2 k3 n3 s3 W) : Nine w k1 n1 s1 k2 n2 s2 k3 n3 s3 W.drew := by
  obtain ⟨hh, h⟩ := h
  exact ⟨hid ⟨hh.out.1.drew, hh.out.2⟩, h⟩
theorem nine_below (h : Nine w k1 n1 s1 k2 n2 s2 k3 n3 s3 W) : Below w.heap.size w W := h.1.out.1
end

theorem below3 (w : World) (o1 o2 o3 : Obj) : Below w.heap.size w (((w.alloc o1).alloc o2).alloc o3) := (below2 w o1 o2).alloc (by simp; omega) o3

/-- What the law of three values calls. -/
structure Three (w : World) (k1 n1 : Int) (s1 : ByteArray) (k2 n2 : Int) (s2 : ByteArray) (k3 n3 : Int) (s3 : ByteArray) : Prop where
  alive : ∀ W, Below w.heap.size w W → Calls Tryd.prog 12 #[] W fun e w' => e = .returned (.bool true) ∧ Below w.heap.size w w' ∧ Below W.heap.size W w'
  long1 : ∀ W, Below w.heap.size w W → Calls Tryd.prog 13 #[.agg #[.int .i64 k1, .int .i64 n1, .string s1]] W fun e w' => e = .returned (.bool (decide (500 < s1.size))) ∧ Below w.heap.size w w' ∧ Below W.heap.size W w'
  long2 : ∀ W, Below w.heap.size w W → Calls Tryd.prog 13 #[.agg #[.int .i64 k2, .int .i64 n2, .string s2]] W fun e w' => e = .returned (.bool (decide (500 < s2.size))) ∧ Below w.heap.size w w' ∧ Below W.heap.size W w'
  long3 : ∀ W, Below w.heap.size w W → Calls Tryd.prog 13 #[.agg #[.int .i64 k3, .int .i64 n3, .string s3]] W fun e w' => e = .returned (.bool (decide (500 < s3.size))) ∧ Below w.heap.size w w' ∧ Below W.heap.size W w'

theorem three_any {k1 n1 k2 n2 k3 n3 : Int} (s1 s2 s3 : ByteArray) (hs1 : s1.size ≤ 9223372036854775807) (hs2 : s2.size ≤ 9223372036854775807) (hs3 : s3.size ≤ 9223372036854775807) (w : World) (hL : LaidIn w) : Three w k1 n1 s1 k2 n2 s2 k3 n3 s3 where
  alive W hW := (alive_any W (hL.below hW)).mono fun _ _ ⟨he, hb⟩ => ⟨he, hW.trans (hb.mono hW.size), hb⟩
  long1 W hW := (long_any k1 n1 s1 W hs1).mono fun _ _ ⟨he, hb⟩ => ⟨he, hW.trans (hb.mono hW.size), hb⟩
  long2 W hW := (long_any k2 n2 s2 W hs2).mono fun _ _ ⟨he, hb⟩ => ⟨he, hW.trans (hb.mono hW.size), hb⟩
  long3 W hW := (long_any k3 n3 s3 W hs3).mono fun _ _ ⟨he, hb⟩ => ⟨he, hW.trans (hb.mono hW.size), hb⟩

end Go.Proofs.YtgahljgmgdjjdaaDoor
