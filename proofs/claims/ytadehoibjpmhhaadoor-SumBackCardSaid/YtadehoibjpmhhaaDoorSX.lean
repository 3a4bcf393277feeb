/- Lists of slices of bytes that came in, with the reach of their rows. Conditions: the reading's own reach. -/
import Derived.Test.YtadehoibjpmhhaaDoorST
import Derived.SizedLaws
namespace Go.Proofs.YtadehoibjpmhhaaDoor
open Go.ChangeShapes Go.WideShapes Go.ChangeAt Go.RowKit

theorem bytes5 : Tryd.prog.bytesOf 5 = 1 := by kernel_rfl
theorem weightsAll_mem {H : Type} {P : Program} {e : TypeId} {d : DataW H} {n : Nat} : ∀ {l : List (DataW H)}, d ∈ l → n ∈ d.weights P e → n ∈ DataW.weightsAll P e l
  | x :: l, hd, hn => by
    simp only [DataW.weightsAll, List.mem_append]
    rcases List.mem_cons.1 hd with rfl | hd
    · exact .inl hn
    · exact .inr (weightsAll_mem hd hn)

section
variable {H : Type} {enc : TypeId × Value → H} {W : World}
set_option maxRecDepth 100000 in
theorem open_lsa2 {r : Reach} {b0 b1 : Nat} {v : Value} {d : DataW H} {p : List MemPlace} (hv : Value.okWide Tryd.prog W r b0 41 v) (h : DataW.Trod enc Tryd.prog W b1 (fun _ => true) true 41 v d p)
    (hw : ∀ n ∈ d.weights Tryd.prog 41, n ≤ reachBytes) : ∃ ls, LsA W v ls ∧ ∀ x ∈ ls, x.length ≤ 9223372036850000000 := by
  obtain ⟨a0, len, cap, rfl⟩ := okWide_slice Tryd.underlying41 hv
  obtain ⟨fuel, hf⟩ := h
  rcases Go.Deep.open_int_rows Tryd.underlying41 Tryd.underlying29 Tryd.underlying5 cells29 cells5 hf with ⟨hcs, hx⟩ | ⟨a, len', cap', A, L, C, Z, hcs, _, hl, hm, hx, hr⟩
  · simp [Value.cells] at hcs
    obtain ⟨rfl, rfl, rfl⟩ := hcs
    exact ⟨[], lsa_nil W, fun x h => by cases h⟩
  · simp [Value.cells] at hcs
    obtain ⟨rfl, rfl, rfl⟩ := hcs
    have hd := (Prod.mk.inj hx).1
    refine ⟨(List.range len).map fun i => u8s ((Z i).take (L i)), ⟨some a, cap, by simp, by simpa using hl, by unfold maxLen at hm; omega, (fun h => by cases h), fun h0 => ?_⟩, fun x hxm => ?_⟩
    · have h0' : 0 < len := by simpa using h0
      obtain ⟨b, off, spot⟩ := a
      have hspot : spot = none := by simpa [Addr.add] using World.cell?_spot (hr 0 (by omega)).1
      subst hspot
      refine ⟨b, off, rfl, fun i l hl' => ?_⟩
      have hi : i < len := by
        rcases Nat.lt_or_ge i len with h1 | h1
        · exact h1
        · rw [List.getElem?_eq_none (by simp; omega)] at hl'; cases hl'
      have el : l = u8s ((Z i).take (L i)) := by
        rw [List.getElem?_map, List.getElem?_range hi] at hl'
        exact (Option.some.inj hl').symm
      subst el
      obtain ⟨q1, q2, q3, q4, q5, q6, q7⟩ := hr i (by omega)
      refine ⟨_, by rw [← Go.WideShapes.add_plain]; exact q1, ?_⟩
      cases hA : A i with
      | none =>
        have hc0 := q6 hA
        have hz : Z i = [] := List.eq_nil_of_length_eq_zero (by omega)
        have hL0 : L i = 0 := by omega
        rw [hz, hL0, hc0]
        exact sla_nil W
      | some a' =>
        have := sla_ints a' (L i) (C i) (Z i) W q2 (by unfold maxLen at q3; omega) q4 (fun j hj => (q7 a' hA).2 j (by omega)) q5
        exact this
    · obtain ⟨i, hi, rfl⟩ := List.mem_map.1 hxm
      have hi' : i < len := List.mem_range.1 hi
      obtain ⟨q1, q2, q3, q4, q5, q6, q7⟩ := hr i (by omega)
      have hzl : (u8s ((Z i).take (L i))).length ≤ (Z i).length := by unfold u8s; rw [List.length_map, List.length_take]; omega
      cases hA : A i with
      | none => have := q6 hA; omega
      | some a' =>
        have hmem : (Z i).length ∈ (Go.Deep.intRow .u8 (A i) (L i) (Z i) : DataW H).weights Tryd.prog 29 := by
          rw [hA]
          simp only [Go.Deep.intRow, DataW.weights, Tryd.underlying29, bytes5, Nat.mul_one]
          refine List.mem_cons.2 (.inl ?_)
          simp only [lits, List.length_map, List.length_take, List.length_drop]
          omega
        have hb : (Z i).length ≤ reachBytes := by
          apply hw
          rw [hd]
          simp only [DataW.weights, Tryd.underlying41]
          refine List.mem_cons_of_mem _ (List.mem_append_left _ ?_)
          exact weightsAll_mem (List.mem_map.2 ⟨i, hi, rfl⟩) hmem
        have := reachBytes_lt
        omega
end
end Go.Proofs.YtadehoibjpmhhaaDoor
