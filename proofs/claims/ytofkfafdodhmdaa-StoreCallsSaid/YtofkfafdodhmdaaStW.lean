/- The calls that came in, opened. Conditions: the reading's own reach. -/
import Derived.Test.YtofkfafdodhmdaaStR
import Derived.WalkKit
import Derived.ProofKit
import Derived.OpenShut
import Derived.Deep.DeepHandedRow
import Derived.Deep.Matrix
import Derived.Handed
import Derived.SizedLaws
namespace Go.Proofs.Ytofkfafdodhmdaa
open Go.ChangeShapes Go.WideShapes Go.ChangeAt Go.RowKit Go.Joins

theorem seat_own : ownKnob Try.prog.godebug = none := by kernel_rfl
theorem laid_out : laidOutB Try.prog = true := by kernel_rfl
theorem cellsK : Try.prog.cellsOf 34 = 5 := by kernel_rfl
theorem cellsS1 : Try.prog.cellsOf 9 = 1 := by kernel_rfl
theorem cellsI1 : Try.prog.cellsOf 3 = 1 := by kernel_rfl
theorem cellsB1 : Try.prog.cellsOf 32 = 1 := by kernel_rfl
theorem cells5 : Try.prog.cellsOf 5 = 1 := by kernel_rfl
theorem bytes5 : Try.prog.bytesOf 5 = 1 := by kernel_rfl
theorem int_in {n : Int} (h : (Lit.int .i64 n).wf = true) : -9223372036854775808 ≤ n ∧ n < 9223372036854775808 := by
  simp [Lit.wf] at h
  have h1 : IntKind.i64.min = -9223372036854775808 := rfl
  have h2 : IntKind.i64.max = 9223372036854775807 := rfl
  omega
/-- Bytes read as numbers. -/
def u8s (zs : List Int) : List UInt8 := zs.map fun z => UInt8.ofNat z.toNat
theorem u8s_at (zs : List Int) (h : ∀ n ∈ zs, (Lit.int .u8 n).wf = true) (i : Nat) (hi : i < zs.length) : (((u8s zs).getD i 0).toNat : Int) = zs.getD i 0 := by
  have hz : zs[i]? = some (zs[i]'hi) := List.getElem?_eq_getElem _
  have hw := h (zs[i]'hi) (List.getElem_mem _)
  have b : 0 ≤ zs[i]'hi ∧ zs[i]'hi ≤ 255 := by
    simp [Lit.wf] at hw
    have h1 : IntKind.u8.min = 0 := rfl
    have h2 : IntKind.u8.max = 255 := rfl
    omega
  unfold u8s
  rw [List.getD_eq_getElem?_getD, List.getD_eq_getElem?_getD, List.getElem?_map, hz]
  simp only [Option.map_some, Option.getD_some]
  rw [UInt8.toNat_ofNat']
  omega
theorem sla_ints (a : Addr) (len cap : Nat) (zs : List Int) (W : World) (hl : len ≤ cap) (hm : cap ≤ 9223372036854775807) (hz : zs.length = cap) (hcell : ∀ i, i < zs.length → W.cell? (a.add i) = some (.int .u8 (zs.getD i 0))) (hwz : ∀ n ∈ zs, (Lit.int .u8 n).wf = true) :
    SlA W (.slice (some a) len cap) (u8s (zs.take len)) := by
  have hul : (u8s (zs.take len)).length = len := by unfold u8s; rw [List.length_map, List.length_take]; omega
  refine ⟨some a, cap, by rw [hul], by rw [hul]; exact hl, hm, fun h0 => ?_, fun h => by cases h⟩
  rw [hul] at h0
  obtain ⟨b, off, rfl, hc⟩ := ints_at hcell (by omega)
  refine ⟨b, off, rfl, fun i hi => ?_⟩
  rw [hul] at hi
  rw [hc i (by omega), u8s_at (zs.take len) (fun n hn => hwz n (List.mem_of_mem_take hn)) i (by rw [List.length_take]; omega)]
  simp only [List.getD_eq_getElem?_getD, List.getElem?_take_of_lt hi]
theorem sla_no (W : World) : SlA W (.slice none 0 0) [] := ⟨none, 0, rfl, by simp, by omega, fun h => absurd h (by simp), fun _ => rfl⟩
theorem weightsAll_mem {H : Type} {P : Program} {e : TypeId} {d : DataW H} {n : Nat} : ∀ {l : List (DataW H)}, d ∈ l → n ∈ d.weights P e → n ∈ DataW.weightsAll P e l
  | x :: l, hd, hn => by
    simp only [DataW.weightsAll, List.mem_append]
    rcases List.mem_cons.1 hd with rfl | hd
    · exact .inl hn
    · exact .inr (weightsAll_mem hd hn)
/-- What a call that came in keeps. -/
structure Cl.fits (W : World) (c : Cl) : Prop where
  nm : c.nm.size ≤ maxLen
  tg : c.tg.size ≤ maxLen
  n : -9223372036854775808 ≤ c.n ∧ c.n < 9223372036854775808
  sl : SlA W c.dv c.d
theorem bind_some {α β : Type} {o : Option α} {g : α → Option β} {y : β} (h : o.bind g = some y) : ∃ x, o = some x ∧ g x = some y := by
  cases o with
  | none => cases h
  | some x => exact ⟨x, rfl, h⟩
theorem list_of {α : Type} {P : Nat → α → Prop} : ∀ n : Nat, (∀ i, i < n → ∃ c, P i c) → ∃ l : List α, l.length = n ∧ ∀ i (h : i < l.length), P i l[i]
  | 0, _ => ⟨[], rfl, fun i h => absurd h (by simp)⟩
  | n + 1, h => by
    obtain ⟨l, h1, h2⟩ := list_of n (fun i hi => h i (by omega))
    obtain ⟨c, hc⟩ := h n (by omega)
    refine ⟨l ++ [c], by simp [h1], fun i hi => ?_⟩
    rcases Nat.lt_or_ge i l.length with h3 | h3
    · rw [List.getElem_append_left h3]; exact h2 i h3
    · have : i = n := by simp at hi; omega
      subst this
      rw [List.getElem_append_right h3]
      simp only [h1, Nat.sub_self, List.getElem_cons_zero]
      exact hc

section
variable {H : Type} {enc : TypeId × Value → H} {W : World}
set_option maxRecDepth 100000 in
/-- A slice of bytes among the words. -/
theorem open_row {b1 fuel : Nat} {v : Value} {x : DataW H × List MemPlace} (h : DataW.trod enc Try.prog W b1 (fun _ => true) true fuel 32 [v] = some x) : ∃ l, SlA W v l ∧ ∀ B, (∀ n ∈ x.1.weights Try.prog 32, n ≤ B) → l.length ≤ B := by
  rcases open_ints Try.underlying32 Try.underlying5 cells5 h with ⟨hcs, hx⟩ | ⟨a, len, cap, zs, hcs, _, hl, hm, hz, hx, hcell, hwz⟩
  · simp at hcs
    subst hcs
    exact ⟨[], sla_no W, fun B _ => Nat.zero_le _⟩
  · simp at hcs
    subst hcs
    simp only [if_true] at hz
    refine ⟨_, sla_ints a len cap zs W hl (by unfold maxLen at hm; omega) hz hcell hwz, fun B hB => ?_⟩
    have h1 := hB zs.length (by
      rw [hx]
      simp only [DataW.weights, Try.underlying32, bytes5, Nat.mul_one]
      refine List.mem_cons.2 (.inl ?_)
      simp only [lits, List.length_map, List.length_take, List.length_drop]
      omega)
    unfold u8s
    rw [List.length_map, List.length_take]
    omega
set_option maxRecDepth 100000 in
/-- Five words that read as a call are one. -/
theorem call_words {b1 fuel : Nat} {cs : List Value} {x : DataW H × List MemPlace} (hl : cs.length = 5) (hf : DataW.trod enc Try.prog W b1 (fun _ => true) true fuel 34 cs = some x) : ∃ c : Cl, cs = c.e ∧ c.fits W ∧ ∀ B, (∀ n ∈ x.1.weights Try.prog 34, n ≤ B) → c.d.length ≤ B := by
  match cs, hl with
  | [c0, c1, c2, c3, c4], _ =>
    obtain ⟨xs, n, _, hx, _, hlen, hg⟩ := DataW.trod_struct Try.underlying34 hf
    match xs, hlen with
    | [y0, y1, y2, y3, y4], _ =>
      have h0 := hg 0 _ rfl
      have h1 := hg 1 _ rfl
      have h2 := hg 2 _ rfl
      have h3 := hg 3 _ rfl
      have h4 := hg 4 _ rfl
      simp [cellsS1, cellsI1, cellsB1] at h0 h1 h2 h3 h4
      obtain ⟨wh, e0, z0, w0⟩ := DataW.trod_int Try.underlying3 h0
      obtain ⟨nm, e1, z1, w1⟩ := DataW.trod_string Try.underlying9 h1
      obtain ⟨tg, e2, z2, w2⟩ := DataW.trod_string Try.underlying9 h2
      obtain ⟨d, hd, hdw⟩ := open_row h3
      obtain ⟨k, e4, z4, w4⟩ := DataW.trod_int Try.underlying3 h4
      simp at e0 e1 e2 e4
      subst e0 e1 e2 e4
      refine ⟨⟨wh, nm, tg, c3, d, k⟩, rfl, ⟨w1, w2, int_in w4, hd⟩, fun B hB => hdw B fun m hm => hB m ?_⟩
      rw [hx]
      simp only [DataW.weights, Try.underlying34, List.map_cons, List.map_nil, DataW.weightsEach, List.mem_append]
      exact .inr (.inr (.inr (.inl hm)))
theorem addr_at (b off n : Nat) : (⟨b, off, none⟩ : Addr).add n = ⟨b, off + n, none⟩ := by
  by_cases h : n = 0
  · subst h; rfl
  · simp [Addr.add, h]
set_option maxRecDepth 100000 in
/-- The calls that came in. -/
theorem open_calls {r : Reach} {b0 b1 : Nat} {v : Value} {d : DataW H} {p : List MemPlace} (hv : Value.okWide Try.prog W r b0 22 v) (h : DataW.Trod enc Try.prog W b1 (fun _ => true) true 22 v d p)
    (hw : ∀ n ∈ d.weights Try.prog 22, n ≤ reachBytes) : ∃ cs, CArg W v cs ∧ (∀ c ∈ cs, c.nm.size ≤ maxLen ∧ c.tg.size ≤ maxLen ∧ c.d.length ≤ 4611686018427387904) ∧ ∀ c ∈ cs, -9223372036854775808 ≤ c.n ∧ c.n < 9223372036854775808 := by
  obtain ⟨a0, len, cap, rfl⟩ := okWide_slice Try.underlying22 hv
  obtain ⟨fuel, hf⟩ := h
  rcases DataW.trod_slice Try.underlying22 hf with ⟨hcs, hx⟩ | ⟨a, len', cap', elems, rest, n, hfu, hcs, hx, hb, hl, hm, he, hi, _, _⟩
  · simp [Value.cells] at hcs
    obtain ⟨rfl, rfl, rfl⟩ := hcs
    exact ⟨[], ⟨none, 0, rfl, by simp, fun i h => absurd h (by simp)⟩, fun c h => (by cases h), fun c h => (by cases h)⟩
  · simp [Value.cells] at hcs
    obtain ⟨rfl, rfl, rfl⟩ := hcs
    rw [cellsK] at hi
    have hd := (Prod.mk.inj hx).1
    have hP : ∀ i, i < len → ∃ c : Cl, (∀ j, j < 5 → W.cell? (a.add (i * 5 + j)) = c.e[j]?) ∧ c.fits W ∧ c.d.length ≤ reachBytes := fun i hi' => by
      have h1 := hi i hi'
      have hie : i < elems.length := by omega
      rw [List.getElem?_eq_getElem hie] at h1
      obtain ⟨cs, hcs, htr⟩ := bind_some h1
      obtain ⟨_, hlen, hcell⟩ := World.cells?_some hcs
      obtain ⟨c, rfl, hc, hcw⟩ := call_words hlen htr
      refine ⟨c, fun j hj => ?_, hc, hcw _ fun m hm => hw m ?_⟩
      · have := hcell j hj
        rw [Addr.add_add] at this
        exact this
      · rw [hd]
        simp only [DataW.weights, Try.underlying22]
        exact List.mem_cons_of_mem _ (List.mem_append_left _ (weightsAll_mem (List.mem_map.2 ⟨_, List.getElem_mem hie, rfl⟩) hm))
    obtain ⟨l, hlen, hall⟩ := list_of len hP
    have hmx : cap ≤ 9223372036854775807 := by unfold maxLen at hm; omega
    refine ⟨l, ⟨some a, cap, by rw [hlen], by omega, fun i h0 => ?_⟩, fun c hc => ?_, fun c hc => ?_⟩
    · obtain ⟨b, off, spot⟩ := a
      have hz0 : 0 < l.length := by omega
      have h00 := (hall 0 hz0).1 0 (by omega)
      have hspot : spot = none := by
        have h0' : W.cell? ((⟨b, off, spot⟩ : Addr).add 0) = some (.int .i64 l[0].wh) := h00
        simpa [Addr.add] using World.cell?_spot h0'
      subst hspot
      have hj : ∀ j, j < 5 → W.cell? ⟨b, off + i * 5 + j, none⟩ = l[i].e[j]? := fun j hj => by
        have := (hall i h0).1 j hj
        rw [addr_at, ← Nat.add_assoc] at this
        exact this
      exact ⟨b, off, rfl, hj 0 (by omega), hj 1 (by omega), hj 2 (by omega), hj 3 (by omega), hj 4 (by omega), (hall i h0).2.1.sl⟩
    · obtain ⟨i, hi', rfl⟩ := List.getElem_of_mem hc
      have h1 := (hall i hi').2
      exact ⟨h1.1.nm, h1.1.tg, by have := h1.2; unfold reachBytes at this; omega⟩
    · obtain ⟨i, hi', rfl⟩ := List.getElem_of_mem hc
      exact (hall i hi').2.1.n
end
end Go.Proofs.Ytofkfafdodhmdaa
