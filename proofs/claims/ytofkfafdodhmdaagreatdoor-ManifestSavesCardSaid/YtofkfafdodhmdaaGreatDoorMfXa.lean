/- States in a slice. Conditions: none. -/
import Derived.Test.YtofkfafdodhmdaaGreatDoorNB
namespace Go.Proofs.YtofkfafdodhmdaaGreatDoor
open Go.RowKit

/-- A state in memory: four words. -/
structure StaAt (w : World) (b o : Nat) (s : Sta) (u : Value) : Prop where
  c0 : w.cell? ⟨b, o, none⟩ = some (.int .i64 s.g)
  c1 : w.cell? ⟨b, o + 1, none⟩ = some (.int .i64 s.a)
  c2 : w.cell? ⟨b, o + 2, none⟩ = some (.int .i64 s.n)
  c3 : w.cell? ⟨b, o + 3, none⟩ = some u
  sl : SlI w u s.t
theorem StaAt.below {w w' : World} {b o : Nat} {s : Sta} {u : Value} (h : StaAt w b o s u) (hb : Below w.heap.size w w') : StaAt w' b o s u := by
  have hlt := cell_lt h.c0
  exact ⟨(hb.cell (p := ⟨b, o, none⟩) hlt).trans h.c0, (hb.cell (p := ⟨b, o + 1, none⟩) hlt).trans h.c1, (hb.cell (p := ⟨b, o + 2, none⟩) hlt).trans h.c2, (hb.cell (p := ⟨b, o + 3, none⟩) hlt).trans h.c3, h.sl.below hb⟩
/-- The slice holds the states. -/
def StArg (w : World) (v : Value) (ss : List Sta) : Prop := ∃ A c, v = .slice A ss.length c ∧ ss.length ≤ 9223372036854775807 ∧ ∀ i (h : i < ss.length), ∃ b o u, A = some ⟨b, o, none⟩ ∧ StaAt w b (o + i * 4) ss[i] u
theorem StArg.below {w w' : World} {v : Value} {ss : List Sta} (h : StArg w v ss) (hb : Below w.heap.size w w') : StArg w' v ss := by
  obtain ⟨A, c, e, hl, hh⟩ := h
  exact ⟨A, c, e, hl, fun i hi => by obtain ⟨b, o, u, e, h⟩ := hh i hi; exact ⟨b, o, u, e, h.below hb⟩⟩
end Go.Proofs.YtofkfafdodhmdaaGreatDoor
