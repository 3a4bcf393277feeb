/- Slices of known bytes. Conditions: as each theorem names them. -/
import Derived.Test.YtfcnobcpnhfgmaaGreatDoorRL
import Derived.Test.YtfcnobcpnhfgmaaGreatDoorQG
import Derived.Test.YtfcnobcpnhfgmaaGreatDoorQ1
import Derived.Test.YtfcnobcpnhfgmaaGreatDoorFI
namespace Go.Proofs.YtfcnobcpnhfgmaaGreatDoor
open Go.RowKit

/-- The value is a slice of the bytes l, nil where there are none. -/
def Sl (l : List UInt8) (V : Value) (W : World) : Prop :=
  (l = [] ∧ V = .slice none 0 0) ∨ (0 < l.length ∧ ∃ g c, V = .slice (some ⟨g, 0, none⟩) l.length c ∧ g < W.heap.size ∧ Holds W g 0 l)
theorem Sl.below {l : List UInt8} {V : Value} {W W' : World} (h : Sl l V W) (hb : Below W.heap.size W W') : Sl l V W' := by
  rcases h with h | ⟨h0, g, c, rfl, hg, hh⟩
  · exact .inl h
  · exact .inr ⟨h0, g, c, rfl, Nat.lt_of_lt_of_le hg hb.size, hh.below hb hg⟩
theorem Sl.of_row {l : List UInt8} {V : Value} {W : World} {B : Nat} (h : Row W B V l) (h0 : 0 < l.length) : Sl l V W := by
  obtain ⟨g, c, rfl, _, hg, _, h6⟩ := h.form h0
  exact .inr ⟨h0, g, c, rfl, hg, fun i hi => by rw [Nat.zero_add]; exact h6 i hi⟩
theorem Sl.same {l : List UInt8} {V1 V2 : Value} {W : World} (h1 : Sl l V1 W) (h2 : Sl l V2 W) (hl : l.length ≤ 1000) :
    Calls Tryz.prog 18 #[V1, V2] W fun e w' => e = .returned (.bool true) ∧ Below W.heap.size W w' := by
  rcases h1 with ⟨rfl, rfl⟩ | ⟨h0, g1, c1, rfl, _, hh1⟩
  · rcases h2 with ⟨_, rfl⟩ | ⟨h0, _⟩
    · exact (same_nil W).mono fun _ w' ⟨he, hw⟩ => ⟨he, by subst hw; exact Below.refl _ _⟩
    · exact absurd h0 (by simp)
  · rcases h2 with ⟨rfl, _⟩ | ⟨_, g2, c2, rfl, _, hh2⟩
    · exact absurd h0 (by simp)
    · exact (same_rows l.length hl (fun i => ((l.getD i 0).toNat : Int)) g1 g2 c1 c2 W (fun i hi => by have := hh1 i hi; rwa [Nat.zero_add] at this) (fun i hi => by have := hh2 i hi; rwa [Nat.zero_add] at this)).mono fun _ _ ⟨he, m, hm⟩ => ⟨he, by subst hm; exact below_drewN (Below.refl _ _) m⟩

end Go.Proofs.YtfcnobcpnhfgmaaGreatDoor
