/- Rows of pieces, their sort: what (*store.Disk).waiting leans on. Conditions: as each theorem names them. -/
import Derived.Test.YtofkfafdodhmdaaStJ
import Derived.Test.YtofkfafdodhmdaaShelfS
import Derived.Shelf.SlSortCmp.NoneTotal
namespace Go.Proofs.Ytofkfafdodhmdaa
open Go.RowKit

/-- A piece: the file's block, how many were written ahead of it, how many bytes. -/
abbrev Pc := Nat × Nat × Nat
def encP (x : Pc) : List Value := [.pointer (some ⟨x.1, 0, none⟩), .int .i64 (x.2.1 : Int), .int .i64 (x.2.2 : Int)]
def flatP (l : List Pc) : List Value := l.flatMap encP
theorem flatP_len (l : List Pc) : (flatP l).length = l.length * 3 := by
  unfold flatP
  induction l with
  | nil => rfl
  | cons a t ih =>
    rw [List.flatMap_cons, List.length_append, ih, List.length_cons]
    show 3 + _ = _
    omega
theorem flatP_app (l m : List Pc) : flatP (l ++ m) = flatP l ++ flatP m := by unfold flatP; simp
theorem flatP_at : ∀ (l : List Pc) (i c : Nat) (hi : i < l.length), c < 3 → (flatP l)[i * 3 + c]? = (encP l[i])[c]?
  | [], i, _, hi, _ => absurd hi (by simp)
  | a :: t, 0, c, _, hc => by
    show (encP a ++ flatP t)[0 * 3 + c]? = (encP a)[c]?
    rw [List.getElem?_append_left (by show 0 * 3 + c < 3; omega), show 0 * 3 + c = c by omega]
  | a :: t, i + 1, c, hi, hc => by
    have hi' : i < t.length := by simpa using hi
    show (encP a ++ flatP t)[(i + 1) * 3 + c]? = (encP t[i])[c]?
    rw [List.getElem?_append_right (by show 3 ≤ _; omega), show (i + 1) * 3 + c - (encP a).length = i * 3 + c by show (i + 1) * 3 + c - 3 = _; omega]
    exact flatP_at t i c hi' hc
abbrev PRow (w : World) (B : Nat) (v : Value) (l : List Pc) : Prop := w.ownsRow B 83 3 v l.length (flatP l)
theorem prow_form {w : World} {B : Nat} {v : Value} {l : List Pc} (h : PRow w B v l) : ∃ A c, v = .slice A l.length c := by
  rcases h.2 with ⟨e, e2⟩ | ⟨g, cap, _, e, _⟩
  · exact ⟨none, 0, by rw [e, e2]⟩
  · exact ⟨_, cap, e⟩
theorem prow_some {w : World} {B : Nat} {v : Value} {l : List Pc} (h : PRow w B v l) (h0 : l ≠ []) : ∃ g cap, v = .slice (some ⟨g, 0, none⟩) l.length cap ∧ B ≤ g ∧ g < w.heap.size := by
  rcases h.2 with ⟨_, e⟩ | ⟨g, cap, cur, e, hB, hb, _⟩
  · exact absurd (List.eq_nil_of_length_eq_zero e) h0
  · exact ⟨g, cap, e, hB, Blk.lt (T := 83) hb⟩
theorem info_piece : (Try.prog.info? 83).map (fun i => (i.zero, i.size, i.bytes)) = some (some (.agg #[.pointer none, .int .i64 0, .int .i64 0]), 3, 24) := by kernel_rfl
/-- The slice holds the pieces. -/
def PHold (w : World) (B : Nat) (v : Value) (l : List Pc) : Prop := ∃ A c, v = .slice A l.length c ∧ ∀ i (h : i < l.length), ∃ b, A = some ⟨b, 0, none⟩ ∧ B ≤ b ∧ w.cell? ⟨b, i * 3, none⟩ = some (.pointer (some ⟨l[i].1, 0, none⟩)) ∧ w.cell? ⟨b, i * 3 + 1, none⟩ = some (.int .i64 (l[i].2.1 : Int)) ∧ w.cell? ⟨b, i * 3 + 2, none⟩ = some (.int .i64 (l[i].2.2 : Int))

section
variable {ops : Array Oper} {rest : List Oper} {o : Oper} {a : Act} {Q : Exit → Act → World → Prop}
/-- append of a piece. -/
theorem wpList_append_pc (hgd : o.guard = Option.none) (s x : Operand)
    (ho : o.op = .call { callee := .builtin .append, args := #[s, x], argTypes := #[78, 78] })
    (w : World) (base : Nat) (v : Value) (l : List Pc) (hs : a.eval s = v) (hown : PRow w base v l)
    (G c : Nat) (y : Pc) (hx : a.eval x = .slice (some ⟨G, 0, Option.none⟩) 1 c) (hc : ∀ j u, (encP y)[j]? = some u → w.cell? ((⟨G, 0, Option.none⟩ : Addr).add j) = some u)
    (hlen : l.length ≤ 1000000) (hbase : base ≤ w.heap.size)
    (h : ∀ v' w', PRow w' base v' (l ++ [y]) → w.grownBy w' v.ownBlock → (v'.ownBlock = v.ownBlock ∨ v'.ownBlock = some w.heap.size) → wpList Try.prog ops Q rest (a.put o.dst v') w') : wpList Try.prog ops Q (o :: rest) a w := by
  obtain ⟨i0, hi, hz0, hz1, hz2⟩ := info_parts info_piece
  refine wpList_append_own_at w hgd s x 78 ho base 83 i0 _ 3 24 Try.underlying78 hi hz0 hz1 hz2 rfl (by decide) v l.length (flatP l) hs hown ⟨G, 0, Option.none⟩ 1 c (encP y) hx rfl hc (fun u hu => by simp [encP] at hu; rcases hu with rfl | rfl | rfl <;> rfl) (by unfold maxLen; omega) (by omega) hbase ?_
  intro v' w' h1 h2 _ h4
  refine h v' w' ?_ h2 h4
  unfold PRow
  rw [flatP_app, List.length_append]
  exact h1
end

set_option maxHeartbeats 1000000 in
theorem pcmp_any (x y : Pc) (W : World) : Calls Try.prog 52 #[.agg (encP x).toArray, .agg (encP y).toArray] W fun e w' => e = .returned (.int .i64 (Lib.compareInt (x.2.1 : Int) (y.2.1 : Int))) ∧ ∃ q os', w' = Go.Sort.grow (W.drewN q) os' := by
  have hcon := fun W' => AnyG.cmp_Compare_int Try.cmpInt (x.2.1 : Int) (y.2.1 : Int) W'
  change ∀ W', Calls Try.prog 53 _ _ _ at hcon
  generalize Lib.compareInt (x.2.1 : Int) (y.2.1 : Int) = r at hcon ⊢
  unfold encP
  obtain ⟨x1, x2, x3⟩ := x
  obtain ⟨y1, y2, y3⟩ := y
  dsimp only at hcon ⊢
  go_enter Try.func52, Try.ntmps52
  go_wp2_with (go_at_call 53; refine (hcon _).mono ?_; rintro e w' ⟨rfl, rfl⟩)
  go_ret
  exact ⟨rfl, 0, _, by rw [Go.Sort.alloc_eq_grow, Go.Sort.alloc_eq_grow, Go.Sort.grow_grow]; rfl⟩
theorem ltPc (x y : Pc) : ltOf (fun x y : Pc => Lib.compareInt (x.2.1 : Int) (y.2.1 : Int)) x y = decide (x.2.1 < y.2.1) := by
  unfold ltOf Lib.compareInt
  by_cases h1 : x.2.1 < y.2.1
  · simp [h1]
  · by_cases h2 : y.2.1 < x.2.1 <;> simp [h1, h2]
theorem swoPc : Go.Sort.SWO (ltOf fun x y : Pc => Lib.compareInt (x.2.1 : Int) (y.2.1 : Int)) where
  irrefl x := by rw [ltPc]; simp
  trans x y z h1 h2 := by rw [ltPc] at *; simp at *; omega
  ntrans x y z h1 h2 := by rw [ltPc] at *; simp at *; omega
theorem isAggP (w : World) : (isAgg 83).run Try.prog w = .ok true w := by kernel_rfl
theorem sizeOfP (w : World) : (Go.sizeOf 83).run Try.prog w = .ok 3 w := by kernel_rfl
/-- slices.SortFunc at pieces. -/
theorem sort_pc {w : World} {B : Nat} {v : Value} {l : List Pc} (h : PRow w B v l) (hl : l.length ≤ 1000000) : Calls Try.prog 51 #[v, .func (.func 52) #[] #[]] w fun e w' => e = .returned (.tuple #[]) ∧ (∃ l' : List Pc, l'.Perm l ∧ l'.Pairwise (fun x y => x.2.1 ≤ y.2.1) ∧ PHold w' B v l') ∧ Below B w w' := by
  by_cases h0 : l = []
  · subst h0
    obtain ⟨A, c, e⟩ := prow_form h
    subst e
    refine (AnyF.slices_SortFunc_none (P := Try.prog) (ρ := Try.sortPiece_ren) { Try.sortPiece with } A c _ w).mono ?_
    rintro e w' ⟨rfl, rfl⟩
    exact ⟨rfl, ⟨[], List.Perm.refl _, List.Pairwise.nil, A, c, rfl, fun i hi => absurd hi (by simp)⟩, Below.refl _ _⟩
  · obtain ⟨g, cap, e, hB, hlt⟩ := prow_some h h0
    subst e
    have eg : ∀ args w, (callFunc 52 args).run Try.prog w = .ok (.enter 52 args) w := enters_of Try.func52 (by kernel_rfl) rfl
    have hH : Go.Sort.HoldsK encP 3 w g 0 l.toArray := by
      intro j hj
      rw [Go.Sort.size_flatK] at hj
      have hj2 : j < l.length * 3 := by simpa using hj
      have hi : j / 3 < l.length := by omega
      rw [Go.Sort.get_flatK _ _ _ _ hj]
      have e1 : (l.toArray)[j / 3]! = l[j / 3] := by rw [getElem!_pos l.toArray (j / 3) (by simpa using hi)]; simp
      rw [e1]
      have hat := flatP_at l (j / 3) (j % 3) hi (by omega)
      rw [show j / 3 * 3 + j % 3 = j by omega] at hat
      have hlt3 : j % 3 < (encP l[j / 3]).length := by show j % 3 < 3; omega
      rw [List.getElem?_eq_getElem hlt3] at hat
      have hc := own_cells h hat
      rw [getElem!_pos (encP l[j / 3]) (j % 3) hlt3, Nat.zero_add]
      exact hc
    have hcon := AnyQ.slices_SortFunc Try.sortPiece 3 isAggP sizeOfP encP (fun _ => rfl) (fun x v hv => by simp [encP] at hv; rcases hv with rfl | rfl | rfl <;> rfl) (fun x y : Pc => Lib.compareInt (x.2.1 : Int) (y.2.1 : Int)) swoPc 52 #[] g 0 cap l.toArray w eg (fun _ _ _ _ x y => pcmp_any x y _) hH hlt (by simp; omega)
    have es : (l.toArray).size = l.length := by simp
    rw [es] at hcon
    refine hcon.mono ?_
    rintro e w' ⟨rfl, d', n, os, hp, hsr, rfl⟩
    obtain ⟨p1, _, p3⟩ := hp
    have hd : d'.size = l.length := by rw [p1]; simp
    have hperm : d'.toList.Perm l := by
      have a1 : d'.extract 0 l.length = d' := by rw [← hd]; simp
      have a2 : (l.toArray).extract 0 l.length = l.toArray := by simp
      rw [a1, a2] at p3
      simpa using p3
    have hL : d'.toList.length = l.length := by simpa using hd
    have hK := Go.Proofs.holdsK_sortWorldK_c encP 3 w g 0 l.toArray d' n os hH hlt (by simpa using hd)
    refine ⟨rfl, ⟨d'.toList, hperm, ?_, some ⟨g, 0, none⟩, cap, by rw [hL], fun i hi => ⟨g, rfl, hB, ?_⟩⟩, ?_⟩
    · rw [List.pairwise_iff_getElem]
      intro i j hi hj hij
      have := hsr i j (Nat.zero_le _) hij (by omega)
      rw [ltPc, decide_eq_false_iff_not, getElem!_pos d' j (by simpa using hj), getElem!_pos d' i (by simpa using hi)] at this
      simp only [Array.getElem_toList]
      omega
    · have hi2 : i < d'.size := by simpa using hi
      have c0 := (hK.cell hi2 (c := 0) (by omega)).1
      have c1 := (hK.cell hi2 (c := 1) (by omega)).1
      have c2 := (hK.cell hi2 (c := 2) (by omega)).1
      rw [getElem!_pos d' i hi2] at c0 c1 c2
      rw [Nat.zero_add] at c0 c1 c2
      simp only [Array.getElem_toList]
      exact ⟨c0, c1, c2⟩
    · unfold Go.Proofs.sortWorldK Go.Sort.putRowK Go.Sort.putRow Go.Sort.mapBlock Go.Sort.grow Go.Sort.ahead
      refine ⟨rfl, rfl, rfl, by simp, fun k hk => ?_⟩
      show ((w.heap.modify g _) ++ os)[k]? = w.heap[k]?
      rw [Array.getElem?_append_left (by rw [Array.size_modify]; omega), Array.getElem?_modify, if_neg (by omega)]
end Go.Proofs.Ytofkfafdodhmdaa
