/- A slice that holds bytes, as a value. Conditions: none. -/
import Derived.Test.YtofkfafdodhmdaaFK
import Derived.WalkKit
import Derived.WalkSpells
import Derived.WalkLawsBesides
import Derived.WalkSmall
import Derived.Deep.RegionHeld3
import Derived.RegionTactic
import Derived.Deep.QuietTactic
import Derived.BigQuiet
import Derived.Deep.DeepCutAuto
namespace Go.Proofs.Ytofkfafdodhmdaa
open Go.RowKit

theorem HoldsA.below {w w' : World} {A : Option Addr} {l : List UInt8} (h : HoldsA w A l) (hb : Below w.heap.size w w') : HoldsA w' A l := fun h0 => by
  obtain ⟨b, off, e, hh⟩ := h h0
  exact ⟨b, off, e, hh.below hb (hh.lt h0)⟩
/-- The value is a slice that holds l (nil, or whatever address, where there is nothing). -/
def SlA (w : World) (v : Value) (l : List UInt8) : Prop := ∃ A c, v = .slice A l.length c ∧ l.length ≤ c ∧ c ≤ 9223372036854775807 ∧ (HoldsA w A l ∧ (A = none → c = 0))
theorem SlA.below {w w' : World} {v : Value} {l : List UInt8} (h : SlA w v l) (hb : Below w.heap.size w w') : SlA w' v l := by
  obtain ⟨A, c, h1, h2, h3, h4⟩ := h
  exact ⟨A, c, h1, h2, h3, h4.1.below hb, h4.2⟩
theorem Row.sla {w : World} {B : Nat} {v : Value} {l : List UInt8} (h : Row w B v l) : SlA w v l := by
  by_cases h0 : 0 < l.length
  · obtain ⟨h1, h2⟩ := id h
    obtain ⟨g, cap, e, _, _, h6, h7⟩ := h.form h0
    refine ⟨_, cap, e, h6, ?_, fun _ => ⟨g, 0, rfl, fun i hi => by rw [Nat.zero_add]; exact h7 i hi⟩, fun h => by cases h⟩
    rcases h2 with ⟨_, hz⟩ | ⟨g', cap', cur, e', _, _, _, hm, _⟩
    · omega
    · rw [e] at e'; injection e' with _ _ e3; rw [e3]; unfold maxLen at hm; omega
  · have hl : l = [] := List.eq_nil_of_length_eq_zero (by omega)
    subst hl
    obtain ⟨h1, h2⟩ := h
    rcases h2 with ⟨e, _⟩ | ⟨g', cap', cur, e', _, _, _, hm, _⟩
    · exact ⟨_, 0, e, by simp, by omega, fun h => absurd h (by simp), fun _ => rfl⟩
    · exact ⟨_, cap', e', by simp, by unfold maxLen at hm; omega, fun h => absurd h (by simp), fun h => by cases h⟩
theorem wp_ltc {P : Program} {c : Code} {Q : Exit → Act → World → Prop} {a : Act} {w : World} (F : World → Prop) (h0 : F w) (h : ∀ W, F W → c.wp P Q a W) : c.wp P Q a w := h w h0
end Go.Proofs.Ytofkfafdodhmdaa
