/- What the laws ValAsks and ValReads ask, by the values' own mathematics; slices of known bytes. Conditions: the listed variables of the library read as they are laid; the numbers are of 64 bits. -/
import Derived.Test.YtgahljgmgdjjdaaGreatDoorRK
import Derived.Test.YtgahljgmgdjjdaaGreatDoorRH
import Derived.Test.YtgahljgmgdjjdaaGreatDoorRB
import Derived.Test.YtgahljgmgdjjdaaGreatDoorWE
import Derived.Test.YtgahljgmgdjjdaaGreatDoorFI
namespace Go.Proofs.YtgahljgmgdjjdaaGreatDoor
open Go.RowKit

/-- The value is a slice of the bytes l, nil where there are none. -/
def Sl (l : List UInt8) (V : Value) (W : World) : Prop :=
  (l = [] ∧ V = .slice none 0 0) ∨ (0 < l.length ∧ ∃ g c, V = .slice (some ⟨g, 0, none⟩) l.length c ∧ g < W.heap.size ∧ Holds W g 0 l)
theorem Sl.below {l : List UInt8} {V : Value} {W W' : World} (h : Sl l V W) (hb : Below W.heap.size W W') : Sl l V W' := by
  rcases h with h | ⟨h0, g, c, rfl, hg, hh⟩
  · exact .inl h
  · exact .inr ⟨h0, g, c, rfl, Nat.lt_of_lt_of_le hg hb.size, hh.below hb hg⟩
theorem Sl.of_row {l : List UInt8} {V : Value} {W : World} {B : Nat} (h : Row W B V l) (h0 : 0 < l.length) : Sl l V W := by
  obtain ⟨g, c, rfl, _, hg, _, h6⟩ := h.form h0
  exact .inr ⟨h0, g, c, rfl, hg, fun i hi => by rw [Nat.zero_add]; exact h6 i hi⟩
theorem Sl.same {l : List UInt8} {V1 V2 : Value} {W : World} (h1 : Sl l V1 W) (h2 : Sl l V2 W) (hl : l.length ≤ 1000) :
    Calls Tryz.prog 14 #[V1, V2] W fun e w' => e = .returned (.bool true) ∧ Below W.heap.size W w' := by
  rcases h1 with ⟨rfl, rfl⟩ | ⟨h0, g1, c1, rfl, _, hh1⟩
  · rcases h2 with ⟨_, rfl⟩ | ⟨h0, _⟩
    · exact (same_nil W).mono fun _ w' ⟨he, hw⟩ => ⟨he, by subst hw; exact Below.refl _ _⟩
    · exact absurd h0 (by simp)
  · rcases h2 with ⟨rfl, _⟩ | ⟨_, g2, c2, rfl, _, hh2⟩
    · exact absurd h0 (by simp)
    · exact (same_rows l.length hl (fun i => ((l.getD i 0).toNat : Int)) g1 g2 c1 c2 W (fun i hi => by have := hh1 i hi; rwa [Nat.zero_add] at this) (fun i hi => by have := hh2 i hi; rwa [Nat.zero_add] at this)).mono fun _ _ ⟨he, m, hm⟩ => ⟨he, by subst hm; exact below_drewN (Below.refl _ _) m⟩

abbrev SixV (w : World) (k1 n1 : Int) (s1 : ByteArray) (k2 n2 : Int) (s2 : ByteArray) (l : List UInt8) (V1 V2 : Value) (w' : World) : Prop :=
  Hid (Below w.heap.size w w' ∧ w.heap.size + 1 < w'.heap.size ∧ Sl l V1 w' ∧ Sl l V2 w') ∧ w'.cell? ⟨w.heap.size, 0, none⟩ = some (.int .i64 k1) ∧ w'.cell? ⟨w.heap.size, 1, none⟩ = some (.int .i64 n1) ∧ w'.cell? ⟨w.heap.size, 2, none⟩ = some (.string s1) ∧ w'.cell? ⟨w.heap.size + 1, 0, none⟩ = some (.int .i64 k2) ∧ w'.cell? ⟨w.heap.size + 1, 1, none⟩ = some (.int .i64 n2) ∧ w'.cell? ⟨w.heap.size + 1, 2, none⟩ = some (.string s2)
section
variable {w W W' : World} {k1 n1 k2 n2 : Int} {s1 s2 : ByteArray} {l : List UInt8} {V1 V2 : Value}
theorem sixV_mk (hb : Below w.heap.size w W) (h1 : Agg3 W w.heap.size k1 n1 s1) (h2 : Agg3 W (w.heap.size + 1) k2 n2 s2) (hx : Sl l V1 W) (hy : Sl l V2 W) : SixV w k1 n1 s1 k2 n2 s2 l V1 V2 W :=
  ⟨hid ⟨hb, h2.1, hx, hy⟩, h1.2.1, h1.2.2.1, h1.2.2.2, h2.2.1, h2.2.2.1, h2.2.2.2⟩
theorem sixV_call (h : SixV w k1 n1 s1 k2 n2 s2 l V1 V2 W) (hb : Below W.heap.size W W') : SixV w k1 n1 s1 k2 n2 s2 l V1 V2 W' := by
  obtain ⟨hh, a0, a1, a2, b0, b1, b2⟩ := h
  obtain ⟨hbw, hz, hx, hy⟩ := hh.out
  have hc : ∀ b o, b < W.heap.size → W'.cell? ⟨b, o, none⟩ = W.cell? ⟨b, o, none⟩ := fun b o h => hb.cell (p := ⟨b, o, none⟩) h
  have hs := hb.size
  refine ⟨hid ⟨hbw.trans (hb.mono (by omega)), by omega, hx.below hb, hy.below hb⟩, ?_, ?_, ?_, ?_, ?_, ?_⟩ <;> (rw [hc _ _ (by omega)]; assumption)
theorem sixV_drew (h : SixV w k1 n1 s1 k2 n2 s2 l V1 V2 W) : SixV w k1 n1 s1 k2 n2 s2 l V1 V2 W.drew :=
  sixV_call h (Below.refl _ _).drew
theorem sixV_below (h : SixV w k1 n1 s1 k2 n2 s2 l V1 V2 W) : Below w.heap.size w W := h.1.out.1
theorem sixV_x (h : SixV w k1 n1 s1 k2 n2 s2 l V1 V2 W) : Sl l V1 W := h.1.out.2.2.1
theorem sixV_y (h : SixV w k1 n1 s1 k2 n2 s2 l V1 V2 W) : Sl l V2 W := h.1.out.2.2.2
end

/-- What ValAsks asks of two values. -/
structure AskQ (w : World) (k1 n1 : Int) (s1 : ByteArray) (k2 n2 : Int) (s2 : ByteArray) (l1 l2 : Bool) : Prop where
  alive : ∀ W, Below w.heap.size w W → Calls Tryz.prog 6 #[] W fun e w' => e = .returned (.bool true) ∧ Below w.heap.size w w' ∧ Below W.heap.size W w'
  long1 : ∀ W, Below w.heap.size w W → Calls Tryz.prog 7 #[.agg #[.int .i64 k1, .int .i64 n1, .string s1]] W fun e w' => e = .returned (.bool l1) ∧ Below w.heap.size w w' ∧ Below W.heap.size W w'
  long2 : ∀ W, Below w.heap.size w W → Calls Tryz.prog 7 #[.agg #[.int .i64 k2, .int .i64 n2, .string s2]] W fun e w' => e = .returned (.bool l2) ∧ Below w.heap.size w w' ∧ Below W.heap.size W w'

structure AskR (w : World) (k1 n1 : Int) (s1 : ByteArray) (k2 n2 : Int) (s2 : ByteArray) (r : Bool) (o : Int) (T : ByteArray) (l : List UInt8) : Prop where
  right : ∀ W, Below w.heap.size w W → Calls Tryz.prog 10 #[.agg #[.int .i64 k1, .int .i64 n1, .string s1]] W fun e w' => e = .returned (.bool r) ∧ Below W.heap.size W w'
  rright : ∀ W, Below w.heap.size w W → Calls Tryz.prog 11 #[.agg #[.int .i64 k1, .int .i64 n1, .string s1]] W fun e w' => e = .returned (.bool r) ∧ Below W.heap.size W w'
  ord : ∀ W, Below w.heap.size w W → Calls Tryz.prog 12 #[.agg #[.int .i64 k1, .int .i64 n1, .string s1], .agg #[.int .i64 k2, .int .i64 n2, .string s2]] W fun e w' => e = .returned (.int .i64 o) ∧ Below W.heap.size W w'
  rord : ∀ W, Below w.heap.size w W → Calls Tryz.prog 13 #[.agg #[.int .i64 k1, .int .i64 n1, .string s1], .agg #[.int .i64 k2, .int .i64 n2, .string s2]] W fun e w' => e = .returned (.int .i64 o) ∧ Below W.heap.size W w'
  show_ : ∀ W, Below w.heap.size w W → Calls Tryz.prog 15 #[.agg #[.int .i64 k1, .int .i64 n1, .string s1]] W fun e w' => e = .returned (.string T) ∧ Below W.heap.size W w'
  rshow : ∀ W, Below w.heap.size w W → Calls Tryz.prog 16 #[.agg #[.int .i64 k1, .int .i64 n1, .string s1]] W fun e w' => e = .returned (.string T) ∧ Below W.heap.size W w'
  enc : ∀ W, Below w.heap.size w W → Calls Tryz.prog 8 #[.agg #[.int .i64 k1, .int .i64 n1, .string s1]] W fun e w' => ∃ V, e = .returned (.tuple #[V, .bool r]) ∧ Sl l V w' ∧ Below w.heap.size w w' ∧ Below W.heap.size W w'
  renc : ∀ W, Below w.heap.size w W → Calls Tryz.prog 9 #[.agg #[.int .i64 k1, .int .i64 n1, .string s1]] W fun e w' => ∃ V, e = .returned (.tuple #[V, .bool r]) ∧ Sl l V w' ∧ Below w.heap.size w w' ∧ Below W.heap.size W w'

end Go.Proofs.YtgahljgmgdjjdaaGreatDoor
