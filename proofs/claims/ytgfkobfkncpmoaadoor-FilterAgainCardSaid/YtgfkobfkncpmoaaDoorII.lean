/- The document's Right and Order at cells that the laws look at; a list's cells as words. Conditions: as each theorem names them. -/
import Derived.Test.YtgfkobfkncpmoaaDoorP9
import Derived.Test.YtgfkobfkncpmoaaDoorEA
import Derived.Test.YtgfkobfkncpmoaaDoorP7
namespace Go.Proofs.YtgfkobfkncpmoaaDoor
open Go.RowKit

/-- A cell that the laws look at. -/
def Sm (c : CT) : Prop := okC c ∧ c.r.size ≤ 60 ∧ c.f.size ≤ 60 ∧ c.q.size ≤ 60 ∧ c.s.size ≤ 100
theorem reforder_ct (x y : CT) (hx : Sm x) (hy : Sm y) (w : World) :
    Calls Tryd.prog 47 #[x.v, y.v] w fun e w' => e = .returned (.int .i64 (CT.cmp x y)) ∧ Below w.heap.size w w' := by
  obtain ⟨_, h1, h2, h3, _⟩ := hx
  obtain ⟨_, g1, g2, g3, _⟩ := hy
  exact refcorder_any x.r x.f x.q x.s x.t x.k x.vk x.vn y.r y.f y.q y.s y.t y.k y.vk y.vn (by omega) (by omega) (by omega) (by omega) (by omega) (by omega) w
theorem refright_ct (c : CT) (hc : Sm c) (w : World) : Calls Tryd.prog 28 #[c.v] w fun e w' => e = .returned (.bool c.ok) ∧ Below w.heap.size w w' :=
  refcright_any c.r c.f c.q c.s c.t c.k c.vk c.vn (by have := hc.2.2.1; omega) (by have := hc.2.2.2.2; omega) w
theorem longC_sm {l : List CT} (h : longC l = false) (hv : ∀ c ∈ l, inI c.vn) : l.length ≤ 60 ∧ ∀ c ∈ l, Sm c := by
  unfold longC at h
  rw [Bool.or_eq_false_iff] at h
  obtain ⟨h1, h2⟩ := h
  have h1 := of_decide_eq_false h1
  refine ⟨by omega, fun c hc => ?_⟩
  have h3 : longC1 c = false := by
    cases e : longC1 c with
    | false => rfl
    | true =>
      rw [List.any_eq_true.2 ⟨c, hc, e⟩] at h2
      cases h2
  unfold longC1 at h3
  simp only [Bool.or_eq_false_iff, decide_eq_false_iff_not] at h3
  exact ⟨⟨by omega, by omega, hv c hc⟩, by omega, by omega, by omega, by omega⟩
theorem ct_words {w : World} {b off : Nat} {l : List CT} (h : HC w b off l) (i : Nat) {c : CT} (hc : l[i]? = some c) : w.cell? ⟨b, off + i * 8, none⟩ = some (.string c.r) ∧ w.cell? ⟨b, off + i * 8 + 1, none⟩ = some (.string c.f) ∧ w.cell? ⟨b, off + i * 8 + 2, none⟩ = some (.string c.q) ∧ w.cell? ⟨b, off + i * 8 + 3, none⟩ = some (.int .i64 c.t) ∧ w.cell? ⟨b, off + i * 8 + 4, none⟩ = some (.int .i64 c.k) ∧ w.cell? ⟨b, off + i * 8 + 5, none⟩ = some (.int .i64 c.vk) ∧ w.cell? ⟨b, off + i * 8 + 6, none⟩ = some (.int .i64 c.vn) ∧ w.cell? ⟨b, off + i * 8 + 7, none⟩ = some (.string c.s) := by
  obtain ⟨hi, hc⟩ := List.getElem?_eq_some_iff.1 hc
  rw [← hc]
  exact h.words i hi
theorem rise_at {s : List CT} {i : Nat} {b c : CT} (h : s.Pairwise (fun x y => CT.cmp x y < 0)) (hb : s[i]? = some b) (hc : s[i + 1]? = some c) : CT.cmp b c < 0 := by
  obtain ⟨hi, rfl⟩ := List.getElem?_eq_some_iff.1 hb
  obtain ⟨hj, rfl⟩ := List.getElem?_eq_some_iff.1 hc
  exact List.pairwise_iff_getElem.1 h i (i + 1) hi hj (by omega)
/-- The law's own cell stands. -/
def DW (W : World) (g : Nat) (d : CT) : Prop := Blk W g 28 d.e.toArray
theorem DW.words {W : World} {g : Nat} {d : CT} (h : DW W g d) : W.cell? ⟨g, 0, none⟩ = some (.string d.r) ∧ W.cell? ⟨g, 1, none⟩ = some (.string d.f) ∧ W.cell? ⟨g, 2, none⟩ = some (.string d.q) ∧ W.cell? ⟨g, 3, none⟩ = some (.int .i64 d.t) ∧ W.cell? ⟨g, 4, none⟩ = some (.int .i64 d.k) ∧ W.cell? ⟨g, 5, none⟩ = some (.int .i64 d.vk) ∧ W.cell? ⟨g, 6, none⟩ = some (.int .i64 d.vn) ∧ W.cell? ⟨g, 7, none⟩ = some (.string d.s) := by
  have h : Blk W g 28 d.e.toArray := h
  exact ⟨h.cell 0, h.cell 1, h.cell 2, h.cell 3, h.cell 4, h.cell 5, h.cell 6, h.cell 7⟩
theorem DW.below {W W' : World} {g : Nat} {d : CT} (h : DW W g d) (hb : Below W.heap.size W W') : DW W' g d := Blk.keep h hb (Blk.lt h)

theorem ct_dw {W : World} {G : Nat} {d : CT} (h : DW W G d) (j : Nat) (u : Value) (hu : d.e[j]? = some u) : W.cell? ((⟨G, 0, Option.none⟩ : Addr).add j) = some u := by
  have h : Blk W G 28 d.e.toArray := h
  rw [add_zero_off, Nat.zero_add, h.cell, List.getElem?_toArray]
  exact hu
theorem DW.keep {W W' : World} {g B : Nat} {d : CT} (h : DW W g d) (hb : Below B W W') (hg : g < B) : DW W' g d := Blk.keep h hb hg

section
variable {W0 W W' : World} {b o p : Nat} {x y : CT}
/-- Two cells of one list, in a region that draws. -/
abbrev PairW (W0 : World) (b o p : Nat) (x y : CT) (W : World) : Prop := Hid (Below W0.heap.size W0 W ∧ b < W0.heap.size) ∧ (W.cell? ⟨b, o, none⟩ = some (.string x.r) ∧ W.cell? ⟨b, o + 1, none⟩ = some (.string x.f) ∧ W.cell? ⟨b, o + 2, none⟩ = some (.string x.q) ∧ W.cell? ⟨b, o + 3, none⟩ = some (.int .i64 x.t) ∧ W.cell? ⟨b, o + 4, none⟩ = some (.int .i64 x.k) ∧ W.cell? ⟨b, o + 5, none⟩ = some (.int .i64 x.vk) ∧ W.cell? ⟨b, o + 6, none⟩ = some (.int .i64 x.vn) ∧ W.cell? ⟨b, o + 7, none⟩ = some (.string x.s)) ∧ (W.cell? ⟨b, p, none⟩ = some (.string y.r) ∧ W.cell? ⟨b, p + 1, none⟩ = some (.string y.f) ∧ W.cell? ⟨b, p + 2, none⟩ = some (.string y.q) ∧ W.cell? ⟨b, p + 3, none⟩ = some (.int .i64 y.t) ∧ W.cell? ⟨b, p + 4, none⟩ = some (.int .i64 y.k) ∧ W.cell? ⟨b, p + 5, none⟩ = some (.int .i64 y.vk) ∧ W.cell? ⟨b, p + 6, none⟩ = some (.int .i64 y.vn) ∧ W.cell? ⟨b, p + 7, none⟩ = some (.string y.s))
theorem pair_drew (h : PairW W0 b o p x y W) : PairW W0 b o p x y W.drew := ⟨hid ⟨h.1.out.1.drew, h.1.out.2⟩, h.2⟩
theorem pair_call (h : PairW W0 b o p x y W) (hb : Below W.heap.size W W') : PairW W0 b o p x y W' := by
  obtain ⟨hh, ⟨a0, a1, a2, a3, a4, a5, a6, a7⟩, ⟨b0, b1, b2, b3, b4, b5, b6, b7⟩⟩ := h
  obtain ⟨hbw, h2⟩ := hh.out
  have hz := hbw.size
  have hc : ∀ b o, b < W0.heap.size → W'.cell? ⟨b, o, none⟩ = W.cell? ⟨b, o, none⟩ := fun b o h => hb.cell (p := ⟨b, o, none⟩) (show b < W.heap.size by omega)
  refine ⟨hid ⟨hbw.trans (hb.mono hz), h2⟩, ⟨?_, ?_, ?_, ?_, ?_, ?_, ?_, ?_⟩, ⟨?_, ?_, ?_, ?_, ?_, ?_, ?_, ?_⟩⟩ <;> (rw [hc _ _ (by omega)]; assumption)
/-- One cell of a list, in a region that draws. -/
abbrev SingW (W0 : World) (b o : Nat) (x : CT) (W : World) : Prop := Hid (Below W0.heap.size W0 W ∧ b < W0.heap.size) ∧ (W.cell? ⟨b, o, none⟩ = some (.string x.r) ∧ W.cell? ⟨b, o + 1, none⟩ = some (.string x.f) ∧ W.cell? ⟨b, o + 2, none⟩ = some (.string x.q) ∧ W.cell? ⟨b, o + 3, none⟩ = some (.int .i64 x.t) ∧ W.cell? ⟨b, o + 4, none⟩ = some (.int .i64 x.k) ∧ W.cell? ⟨b, o + 5, none⟩ = some (.int .i64 x.vk) ∧ W.cell? ⟨b, o + 6, none⟩ = some (.int .i64 x.vn) ∧ W.cell? ⟨b, o + 7, none⟩ = some (.string x.s))
theorem sing_drew (h : SingW W0 b o x W) : SingW W0 b o x W.drew := ⟨hid ⟨h.1.out.1.drew, h.1.out.2⟩, h.2⟩
theorem sing_call (h : SingW W0 b o x W) (hb : Below W.heap.size W W') : SingW W0 b o x W' := by
  obtain ⟨hh, ⟨a0, a1, a2, a3, a4, a5, a6, a7⟩⟩ := h
  obtain ⟨hbw, h2⟩ := hh.out
  have hz := hbw.size
  have hc : ∀ b o, b < W0.heap.size → W'.cell? ⟨b, o, none⟩ = W.cell? ⟨b, o, none⟩ := fun b o h => hb.cell (p := ⟨b, o, none⟩) (show b < W.heap.size by omega)
  refine ⟨hid ⟨hbw.trans (hb.mono hz), h2⟩, ⟨?_, ?_, ?_, ?_, ?_, ?_, ?_, ?_⟩⟩ <;> (rw [hc _ _ (by omega)]; assumption)
end
end Go.Proofs.YtgfkobfkncpmoaaDoor
