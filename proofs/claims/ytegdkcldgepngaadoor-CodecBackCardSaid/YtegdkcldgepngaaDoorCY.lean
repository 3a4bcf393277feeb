/- Slices of bytes and lists of them that came in, opened. Conditions: the reading's own reach. -/
import Derived.Test.YtegdkcldgepngaaDoorCX
import Derived.Test.YtegdkcldgepngaaDoorSLb
import Derived.Deep.Matrix
import Derived.SizedLaws
namespace Go.Proofs.YtegdkcldgepngaaDoor
open Go.ChangeShapes Go.WideShapes Go.ChangeAt Go.RowKit

/-- Bytes read as numbers. -/
def u8s (zs : List Int) : List UInt8 := zs.map fun z => UInt8.ofNat z.toNat
theorem u8s_at (zs : List Int) (h : ∀ n ∈ zs, (Lit.int .u8 n).wf = true) (i : Nat) (hi : i < zs.length) : (((u8s zs).getD i 0).toNat : Int) = zs.getD i 0 := by
  have hz : zs[i]? = some (zs[i]'hi) := List.getElem?_eq_getElem _
  have hw := h (zs[i]'hi) (List.getElem_mem _)
  have b : 0 ≤ zs[i]'hi ∧ zs[i]'hi ≤ 255 := by
    simp [Lit.wf] at hw
    have h1 : IntKind.u8.min = 0 := rfl
    have h2 : IntKind.u8.max = 255 := rfl
    omega
  unfold u8s
  rw [List.getD_eq_getElem?_getD, List.getD_eq_getElem?_getD, List.getElem?_map, hz]
  simp only [Option.map_some, Option.getD_some]
  rw [UInt8.toNat_ofNat']
  omega
theorem sla_ints (a : Addr) (len cap : Nat) (zs : List Int) (W : World) (hl : len ≤ cap) (hm : cap ≤ 9223372036854775807) (hz : zs.length = cap) (hcell : ∀ i, i < zs.length → W.cell? (a.add i) = some (.int .u8 (zs.getD i 0))) (hwz : ∀ n ∈ zs, (Lit.int .u8 n).wf = true) :
    SlA W (.slice (some a) len cap) (u8s (zs.take len)) := by
  have hul : (u8s (zs.take len)).length = len := by unfold u8s; rw [List.length_map, List.length_take]; omega
  refine ⟨some a, cap, by rw [hul], by rw [hul]; exact hl, hm, fun h0 => ?_, fun h => by cases h⟩
  rw [hul] at h0
  obtain ⟨b, off, rfl, hc⟩ := ints_at hcell (by omega)
  refine ⟨b, off, rfl, fun i hi => ?_⟩
  rw [hul] at hi
  rw [hc i (by omega), u8s_at (zs.take len) (fun n hn => hwz n (List.mem_of_mem_take hn)) i (by rw [List.length_take]; omega)]
  simp only [List.getD_eq_getElem?_getD, List.getElem?_take_of_lt hi]
theorem sla_nil (W : World) : SlA W (.slice none 0 0) [] := ⟨none, 0, rfl, by simp, by omega, fun h => absurd h (by simp), fun _ => rfl⟩
theorem cells5 : Tryd.prog.cellsOf 5 = 1 := by kernel_rfl

section
variable {H : Type} {enc : TypeId × Value → H} {W : World} {sp : Nat → Bool}
set_option maxRecDepth 100000 in
/-- A slice of bytes that came in. -/
theorem open_sla {r : Reach} {b0 b1 : Nat} {v : Value} {d : DataW H} {p : List MemPlace} (hv : Value.okWide Tryd.prog W r b0 29 v) (h : DataW.Trod enc Tryd.prog W b1 (fun _ => true) true 29 v d p) : ∃ l, SlA W v l := by
  obtain ⟨a0, len, cap, rfl⟩ := okWide_slice Tryd.underlying29 hv
  obtain ⟨fuel, hf⟩ := h
  rcases open_ints Tryd.underlying29 Tryd.underlying5 cells5 hf with ⟨hcs, hx⟩ | ⟨a, len', cap', zs, hcs, _, hl, hm, hz, hx, hcell, hwz⟩
  · simp [Value.cells] at hcs
    obtain ⟨rfl, rfl, rfl⟩ := hcs
    exact ⟨[], sla_nil W⟩
  · simp [Value.cells] at hcs
    obtain ⟨rfl, rfl, rfl⟩ := hcs
    simp only [if_true] at hz
    exact ⟨_, sla_ints a len cap zs W hl (by unfold maxLen at hm; omega) hz hcell hwz⟩
end

theorem cells29 : Tryd.prog.cellsOf 29 = 1 := by kernel_rfl
theorem bytes5 : Tryd.prog.bytesOf 5 = 1 := by kernel_rfl
theorem weightsAll_mem {H : Type} {P : Program} {e : TypeId} {d : DataW H} {n : Nat} : ∀ {l : List (DataW H)}, d ∈ l → n ∈ d.weights P e → n ∈ DataW.weightsAll P e l
  | x :: l, hd, hn => by
    simp only [DataW.weightsAll, List.mem_append]
    rcases List.mem_cons.1 hd with rfl | hd
    · exact .inl hn
    · exact .inr (weightsAll_mem hd hn)

section
variable {H : Type} {enc : TypeId × Value → H} {W : World}
set_option maxRecDepth 100000 in
theorem open_lsa2 {r : Reach} {b0 b1 : Nat} {v : Value} {d : DataW H} {p : List MemPlace} (hv : Value.okWide Tryd.prog W r b0 41 v) (h : DataW.Trod enc Tryd.prog W b1 (fun _ => true) true 41 v d p)
    (hw : ∀ n ∈ d.weights Tryd.prog 41, n ≤ reachBytes) : ∃ ls, LsA W v ls ∧ ∀ x ∈ ls, x.length ≤ 9223372036850000000 := by
  obtain ⟨a0, len, cap, rfl⟩ := okWide_slice Tryd.underlying41 hv
  obtain ⟨fuel, hf⟩ := h
  rcases Go.Deep.open_int_rows Tryd.underlying41 Tryd.underlying29 Tryd.underlying5 cells29 cells5 hf with ⟨hcs, hx⟩ | ⟨a, len', cap', A, L, C, Z, hcs, _, hl, hm, hx, hr⟩
  · simp [Value.cells] at hcs
    obtain ⟨rfl, rfl, rfl⟩ := hcs
    exact ⟨[], lsa_nil W, fun x h => by cases h⟩
  · simp [Value.cells] at hcs
    obtain ⟨rfl, rfl, rfl⟩ := hcs
    have hd := (Prod.mk.inj hx).1
    refine ⟨(List.range len).map fun i => u8s ((Z i).take (L i)), ⟨some a, cap, by simp, by simpa using hl, by unfold maxLen at hm; omega, (fun h => by cases h), fun h0 => ?_⟩, fun x hxm => ?_⟩
    · have h0' : 0 < len := by simpa using h0
      obtain ⟨b, off, spot⟩ := a
      have hspot : spot = none := by simpa [Addr.add] using World.cell?_spot (hr 0 (by omega)).1
      subst hspot
      refine ⟨b, off, rfl, fun i l hl' => ?_⟩
      have hi : i < len := by
        rcases Nat.lt_or_ge i len with h1 | h1
        · exact h1
        · rw [List.getElem?_eq_none (by simp; omega)] at hl'; cases hl'
      have el : l = u8s ((Z i).take (L i)) := by
        rw [List.getElem?_map, List.getElem?_range hi] at hl'
        exact (Option.some.inj hl').symm
      subst el
      obtain ⟨q1, q2, q3, q4, q5, q6, q7⟩ := hr i (by omega)
      refine ⟨_, by rw [← Go.WideShapes.add_plain]; exact q1, ?_⟩
      cases hA : A i with
      | none =>
        have hc0 := q6 hA
        have hz : Z i = [] := List.eq_nil_of_length_eq_zero (by omega)
        have hL0 : L i = 0 := by omega
        rw [hz, hL0, hc0]
        exact sla_nil W
      | some a' =>
        have := sla_ints a' (L i) (C i) (Z i) W q2 (by unfold maxLen at q3; omega) q4 (fun j hj => (q7 a' hA).2 j (by omega)) q5
        exact this
    · obtain ⟨i, hi, rfl⟩ := List.mem_map.1 hxm
      have hi' : i < len := List.mem_range.1 hi
      obtain ⟨q1, q2, q3, q4, q5, q6, q7⟩ := hr i (by omega)
      have hzl : (u8s ((Z i).take (L i))).length ≤ (Z i).length := by unfold u8s; rw [List.length_map, List.length_take]; omega
      cases hA : A i with
      | none => have := q6 hA; omega
      | some a' =>
        have hmem : (Z i).length ∈ (Go.Deep.intRow .u8 (A i) (L i) (Z i) : DataW H).weights Tryd.prog 29 := by
          rw [hA]
          simp only [Go.Deep.intRow, DataW.weights, Tryd.underlying29, bytes5, Nat.mul_one]
          refine List.mem_cons.2 (.inl ?_)
          simp only [lits, List.length_map, List.length_take, List.length_drop]
          omega
        have hb : (Z i).length ≤ reachBytes := by
          apply hw
          rw [hd]
          simp only [DataW.weights, Tryd.underlying41]
          refine List.mem_cons_of_mem _ (List.mem_append_left _ ?_)
          exact weightsAll_mem (List.mem_map.2 ⟨i, hi, rfl⟩) hmem
        have := reachBytes_lt
        omega
end
end Go.Proofs.YtegdkcldgepngaaDoor
