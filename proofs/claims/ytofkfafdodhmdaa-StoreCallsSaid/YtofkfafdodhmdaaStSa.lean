/- joistref00.SameTexts at two slices of the same texts. Conditions: the slices hold them, a million at most. -/
import Derived.Test.YtofkfafdodhmdaaStPa
namespace Go.Proofs.Ytofkfafdodhmdaa
open Go.RowKit

/-- The slice holds the texts. -/
def STx (w : World) (v : Value) (l : List ByteArray) : Prop := ∃ A c, v = .slice A l.length c ∧ ∀ i (h : i < l.length), ∃ b o, A = some ⟨b, o, none⟩ ∧ w.cell? ⟨b, o + i, none⟩ = some (.string l[i])
theorem STx.below {w w' : World} {v : Value} {l : List ByteArray} (h : STx w v l) (hb : Below w.heap.size w w') : STx w' v l := by
  obtain ⟨A, c, e, hh⟩ := h
  refine ⟨A, c, e, fun i hi => ?_⟩
  obtain ⟨b, o, e2, h⟩ := hh i hi
  exact ⟨b, o, e2, (hb.cell (p := ⟨b, o + i, none⟩) (cell_lt h)).trans h⟩
/-- The slice's texts stand where its block is as it was. -/
theorem STx.chg {w w' : World} {v : Value} {l : List ByteArray} {S : Nat → Prop} (h : STx w v l) (hc : Chg S w w') (hs : ∀ g, v.ownBlock = some g → ¬ S g) : STx w' v l := by
  obtain ⟨A, c, e, hh⟩ := h
  refine ⟨A, c, e, fun i hi => ?_⟩
  obtain ⟨b, o, e2, h⟩ := hh i hi
  refine ⟨b, o, e2, (World.cell?_of_block (hc.block b (cell_lt h) (hs b ?_))).trans h⟩
  rw [e, e2]; rfl
theorem srow_stx {w : World} {B : Nat} {v : Value} {l : List ByteArray} (h : SRowS w B v l) : STx w v l := by
  rcases h.2 with ⟨e, e0⟩ | ⟨g, cap, cur, e, _⟩
  · exact ⟨none, 0, by rw [e, e0], fun i hi => by omega⟩
  · subst e
    refine ⟨_, cap, rfl, fun i hi => ⟨g, 0, rfl, ?_⟩⟩
    rw [Nat.zero_add]
    exact (own_cells h (by rw [List.getElem?_map, List.getElem?_eq_getElem hi]; rfl)).1

set_option maxRecDepth 100000 in
set_option maxHeartbeats 4000000 in
theorem samet_ok (v1 v2 : Value) (l : List ByteArray) (hl : l.length ≤ 1000000) (w : World) (h1 : STx w v1 l) (h2 : STx w v2 l) : Calls Try.prog 20 #[v1, v2] w fun e w' => e = .returned (.bool true) ∧ Below w.heap.size w w' := by
  obtain ⟨A1, c1, rfl, g1⟩ := h1
  obtain ⟨A2, c2, rfl, g2⟩ := h2
  have G1 := hid g1
  have G2 := hid g2
  obtain ⟨n, hn⟩ : ∃ n, l.length = n := ⟨_, rfl⟩
  have HN := hid hn
  rw [hn] at hl ⊢
  clear g1 g2 hn
  go_enter Try.func20, Try.ntmps20
  go_wp2
  go_loopw [5] (fun vi wr => ∃ k : Nat, vi = .int .i64 (k : Int) ∧ k ≤ n ∧ Below w.heap.size w wr) (fun vi _ => n - (intOf vi).toNat)
  case atStart => exact ⟨0, rfl, Nat.zero_le _, Below.refl _ _⟩
  case round =>
    obtain ⟨k, rfl, hk, hb⟩ := hrel
    by_cases hkn : k < n
    · have hkl : k < l.length := by rw [HN.out]; exact hkn
      obtain ⟨b1, o1, rfl, x1⟩ := G1.out k hkl
      obtain ⟨b2, o2, rfl, x2⟩ := G2.out k hkl
      obtain ⟨x, hx⟩ : ∃ x, l[k] = x := ⟨_, rfl⟩
      rw [hx] at x1 x2
      have y1 : wr.cell? ⟨b1, o1 + k, none⟩ = some (.string x) := (hb.cell (p := ⟨b1, o1 + k, none⟩) (cell_lt x1)).trans x1
      have y2 : wr.cell? ⟨b2, o2 + k, none⟩ = some (.string x) := (hb.cell (p := ⟨b2, o2 + k, none⟩) (cell_lt x2)).trans x2
      have HB := hid hb
      clear hx x1 x2 hb hkl
      go_upto_region 6 with (fail)
      go_region
      all_goals
        go_wp2
        go_roundw
        case rel => exact ⟨k + 1, by go_num, by omega, by first | exact HB.out | exact HB.out.drew⟩
        case measure => simp [intOf]; omega
    · obtain rfl : k = n := by omega
      go_wp2
      go_ret
      exact ⟨rfl, hb⟩
end Go.Proofs.Ytofkfafdodhmdaa
