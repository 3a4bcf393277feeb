/- The document's All at any bytes, over lists in memory. Conditions: the slice holds its bytes, a million at most. -/
import Derived.Test.YtofkfafdodhmdaaGreatDoorSCS
import Derived.Test.YtofkfafdodhmdaaGreatDoorNH
namespace Go.Proofs.YtofkfafdodhmdaaGreatDoor
open Go.RowKit

theorem RowL.new (w : World) (B : Nat) (hB : B ≤ w.heap.size) : RowL (w.alloc (.cells #[] 25)) B (.slice (some ⟨w.heap.size, 0, Option.none⟩) 0 0) [] :=
  ⟨[], ⟨rfl, .inr ⟨w.heap.size, 0, #[], rfl, hB, heap_alloc_new w _, Nat.le_refl _, by unfold maxLen; simp, by simp, by simp⟩⟩, fun i x h => by simp at h⟩

section
variable {ops : Array Oper} {rest : List Oper} {o : Oper} {a : Act} {Q : Exit → Act → World → Prop}
/-- append of one row to a list of the call's own; every row of the call's own stands. -/
theorem wpList_append_row2 (hgd : o.guard = Option.none) (s x : Operand)
    (ho : o.op = .call { callee := .builtin .append, args := #[s, x], argTypes := #[47, 47] })
    (w : World) (base : Nat) (v : Value) (xs : List (List UInt8)) (hs : a.eval s = v) (hown : RowL w base v xs)
    (G : Nat) (c : Nat) (u : Value) (y : List UInt8) (hx : a.eval x = .slice (some ⟨G, 0, Option.none⟩) 1 c) (hc : w.cell? ⟨G, 0, Option.none⟩ = some u) (hu : Row w base u y)
    (hlen : xs.length ≤ 1000000) (hbase : base ≤ w.heap.size)
    (h : ∀ v' w', RowL w' base v' (xs ++ [y]) → Below base w w' → (∀ q z, Row w base q z → Row w' base q z) → wpList Tryz.prog ops Q rest (a.put o.dst v') w') : wpList Tryz.prog ops Q (o :: rest) a w := by
  obtain ⟨i0, hi, hz0, hz1, hz2⟩ := info_parts info_row
  obtain ⟨vs, how, hr⟩ := hown
  have hvl : vs.length = xs.length := by have := how.1; omega
  refine wpList_append_own w hgd s x 47 ho base 25 i0 (.slice Option.none 0 0) 1 24 Tryz.underlying47 hi hz0 hz1 hz2 rfl (by decide) v xs.length vs hs how ⟨G, 0, Option.none⟩ 1 c [u] hx rfl ?_ ?_ (by unfold maxLen; omega) (by omega) hbase ?_
  · intro j e he
    match j, he with
    | 0, he => simp at he; subst he; rw [add_zero_off]; exact hc
    | j + 1, he => simp at he
  · intro e he
    have : e = u := by simpa using he
    subst this
    rcases hu.2 with ⟨rfl, _⟩ | ⟨g, cap, cur, rfl, _⟩ <;> rfl
  · intro v' w' h1 h2 _
    refine h v' w' ⟨vs ++ [u], by rw [List.length_append]; exact h1, fun i x hx => ?_⟩ ((Below.refl _ _).grown h2 hbase fun k hk => (World.ownsRow.lt how k hk).1) (fun q z hq => hq.grown h2 (row_ne_list hq how))
    by_cases hi' : i < xs.length
    · rw [List.getElem?_append_left hi'] at hx
      obtain ⟨u', hu', hR⟩ := hr i x hx
      exact ⟨u', by rw [List.getElem?_append_left (by omega)]; exact hu', hR.grown h2 (row_ne_list hR how)⟩
    · rw [List.getElem?_append_right (by omega)] at hx
      have hi0 : i - xs.length = 0 := by
        rcases Nat.eq_zero_or_pos (i - xs.length) with e | e
        · exact e
        · rw [List.getElem?_eq_none (by simp; omega)] at hx; cases hx
      rw [hi0] at hx
      have ey : y = x := by simpa using hx
      subst ey
      exact ⟨u, by rw [List.getElem?_append_right (by omega), hvl, hi0]; rfl, hu.grown h2 (row_ne_list hu how)⟩
end

def lenOf : Value → Nat
  | .slice _ n _ => n
  | _ => 0

/-- What is left: as it came, or a row of the call's own. -/
def RestI (w wr : World) (v : Value) (t : List UInt8) : Prop := SlA w v t ∨ Row wr w.heap.size v t
theorem RestI.sla {w wr : World} {v : Value} {t : List UInt8} (h : RestI w wr v t) (hb : Below w.heap.size w wr) : SlA wr v t := by
  rcases h with h | h
  · exact h.below hb
  · exact h.sla

def QInv (w : World) (l : List UInt8) (vo vr : Value) (wr : World) : Prop :=
  ∃ (k : Nat) (xs : List (List UInt8)) (A' : Option Addr) (c' : Nat), k ≤ l.length ∧ vr = .slice A' (l.length - k) c' ∧ Hid (RestI w wr vr (l.drop k)) ∧ Hid (allF l = (xs ++ (allF (l.drop k)).1, k + (allF (l.drop k)).2.1, (allF (l.drop k)).2.2) ∧ xs.length ≤ k) ∧ RowL wr w.heap.size vo xs ∧ Below w.heap.size w wr

set_option maxRecDepth 100000 in
set_option maxHeartbeats 4000000 in
theorem refAll_any (v : Value) (l : List UInt8) (hlen : l.length ≤ 1000000) (w : World) (h : SlA w v l) :
    Calls Tryz.prog 45 #[v] w (AEnd w (allF l)) := by
  have HV := hid h
  have HK : Hid (∀ (W : World) (u : Value) (t : List UInt8), t.length ≤ 1000000 → SlA W u t → Calls Tryz.prog 79 #[u] W (RxEnd W (nextM t))) := fun W u t ht hu => refNext_any u t ht W hu
  obtain ⟨A, c, rfl, _⟩ := h
  obtain ⟨m, hm⟩ : ∃ m, l.length = m := ⟨_, rfl⟩
  have HM := hid hm
  rw [hm] at hlen HV
  rw [hm]
  clear hm
  go_enter Tryz.func45, Tryz.ntmps45
  go_wp2
  go_loopw [5, 6] (fun vo vr wr => QInv w l vo vr wr) (fun _ vr _ => lenOf vr)
  case atStart => exact ⟨0, [], A, c, Nat.zero_le _, by rw [HM.out]; rfl, .inl HV.out, ⟨by simp, Nat.le_refl _⟩, RowL.new w _ (Nat.le_refl _), below_new w _⟩
  case round =>
    obtain ⟨k, xs, A', c', hk, rfl, HI, HE, hL, hb⟩ := hrel
    rw [HM.out] at hk
    have HI : Hid (RestI w wr (.slice A' (m - k) c') (l.drop k)) := by have h := HI; rw [HM.out] at h; exact h
    rw [HM.out]
    obtain ⟨z, hz⟩ : ∃ z, m - k = z := ⟨_, rfl⟩
    rw [hz] at HI ⊢
    obtain ⟨A5, c5, e5⟩ := hL.len
    subst e5
    have HL := hid hL
    have hdl : (l.drop k).length = z := by rw [List.length_drop, HM.out]; exact hz
    have HZ : Hid ((m : Int) - (z : Int) = (k : Int)) := by unfold Hid; omega
    by_cases hlt : 0 < z
    · have hLk := HK.out wr (.slice A' z c') (l.drop k) (by rw [hdl]; omega) (HI.out.sla hb)
      cases hn : nextM (l.drop k) with
      | torn =>
        rw [hn] at hLk
        have hLk := hid hLk
        clear hL
        go_wp2_with (go_at_call 79; refine hLk.out.mono ?_; rintro e w1 ⟨rfl, hb1⟩)
        refine bodyPost_ret (results_tmp3 rfl _ _ _) rfl ?_
        have hne : l.drop k ≠ [] := fun e => by rw [e] at hdl; simp at hdl; omega
        have he := HE.out.1
        rw [allF_torn hn hne, List.append_nil, Nat.add_zero] at he
        rw [he]
        exact ⟨_, congrArg (fun y => Ending.returned (.tuple #[.slice A5 xs.length c5, .int .i64 y, .int .i64 1])) HZ.out, HL.out.below hb1, hb.trans (hb1.mono hb.size)⟩
      | bad =>
        rw [hn] at hLk
        have hLk := hid hLk
        clear hL
        go_wp2_with (go_at_call 79; refine hLk.out.mono ?_; rintro e w1 ⟨rfl, hb1⟩)
        refine bodyPost_ret (results_tmp3 rfl _ _ _) rfl ?_
        have hne : l.drop k ≠ [] := fun e => by rw [e] at hdl; simp at hdl; omega
        have he := HE.out.1
        rw [allF_bad hn hne, List.append_nil, Nat.add_zero] at he
        rw [he]
        exact ⟨_, congrArg (fun y => Ending.returned (.tuple #[.slice A5 xs.length c5, .int .i64 y, .int .i64 2])) HZ.out, HL.out.below hb1, hb.trans (hb1.mono hb.size)⟩
      | whole x r =>
        rw [hn] at hLk
        obtain ⟨s, hs⟩ : ∃ s, (l.drop k).length - r.length = s := ⟨_, rfl⟩
        obtain ⟨j, j1, j2, j3, j4, j5, _⟩ := next_less hn
        have hrl : r.length = (l.drop k).length - (j + x.length + 4) := by rw [j4, List.length_drop]
        have hsm : k + s ≤ m := by omega
        have hs1 : 1 ≤ s := by omega
        have hrz : r.length < z := by omega
        have hrm : m - (k + s) = r.length := by omega
        have er : Hid (l.drop (k + s) = r) := by unfold Hid; rw [j4, List.drop_drop]; congr 1; omega
        have HN : Hid (allF l = ((xs ++ [x]) ++ (allF (l.drop (k + s))).1, (k + s) + (allF (l.drop (k + s))).2.1, (allF (l.drop (k + s))).2.2) ∧ (xs ++ [x]).length ≤ k + s) := by
          have he := HE.out
          refine ⟨?_, by rw [List.length_append, List.length_singleton]; omega⟩
          rw [he.1, allF_whole hn, hs, er.out]
          simp only [List.append_assoc, List.singleton_append, Prod.mk.injEq, true_and, and_true]
          omega
        have hXL : xs.length ≤ 1000000 := by have := HE.out.2; omega
        have HXL := hid hXL
        have HRM := hid hrm
        have HSM := hid hsm
        have HRZ := hid hrz
        have hbs := hb.size
        have hLk := hid hLk
        clear hL hs hn hXL j1 j2 j3 j4 j5 hdl hrl hrm hsm hz hrz
        go_wp2_with (first
          | (go_at_call 79; refine hLk.out.mono ?_; rintro e w1 ⟨v1, v2, rfl, hR1, hR2, hb1⟩; have HR1 := hid hR1; have HR2 := hid hR2; obtain ⟨A1, c1, rfl, _⟩ := hR1.sla; obtain ⟨A2, c2, rfl, _⟩ := hR2.sla)
          | (at_builtin; refine wpList_append_row2 rfl (.tmp 30) (.tmp 32) rfl _ w.heap.size _ xs rfl ((HL.out.below hb1).below (below_new w1 _)) w1.heap.size 1 _ x rfl (cell_one _ _ _) ((HR1.out.le hbs).alloc _) HXL.out (by have := hb1.size; simp; omega) ?_; intro v' w' hL' hb' hk'))
        go_roundw
        case rel =>
          refine ⟨k + s, xs ++ [x], A2, c2, by rw [HM.out]; exact HSM.out, by rw [HM.out, HRM.out], ?_, HN.out, hL', ((hb.trans (hb1.mono hbs)).alloc (by have := hb1.size; omega) _).trans hb'⟩
          rw [er.out]
          exact .inr (hk' _ _ ((HR2.out.le hbs).alloc _))
        case measure => exact HRZ.out
    · have hz0 : z = 0 := by omega
      subst hz0
      go_wp2
      refine bodyPost_ret (results_tmp3 rfl _ _ _) rfl ?_
      have hkm : k = l.length := by have := HM.out; omega
      have he := HE.out.1
      rw [hkm, List.drop_length, allF_nil, List.append_nil, Nat.add_zero] at he
      rw [he, ← HM.out]
      exact ⟨_, rfl, hL, hb⟩
end Go.Proofs.YtofkfafdodhmdaaGreatDoor
