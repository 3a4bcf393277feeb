/- Several texts in one: MfL MfM. Conditions: as each theorem names them. -/
import Derived.Test.YtofkfafdodhmdaaGreatDoorMfD
import Derived.Test.YtofkfafdodhmdaaGreatDoorMfE
import Derived.Test.YtofkfafdodhmdaaGreatDoorNF
/- Same of package manifest and of the document; joistlaw11.of, back, same. Conditions: the tables' slices hold their ints, a million at most. -/
namespace Go.Proofs.YtofkfafdodhmdaaGreatDoor
open Go.RowKit

def sameB (x y : Sta) : Bool := (x.g == y.g) && (x.a == y.a) && (x.n == y.n) && decide (x.t = y.t)
theorem sameB_iff {x y : Sta} : sameB x y = true ↔ x = y := by
  obtain ⟨g, a, n, t⟩ := x
  obtain ⟨g2, a2, n2, t2⟩ := y
  unfold sameB
  simp only [Bool.and_eq_true, beq_iff_eq, decide_eq_true_iff]
  constructor
  · rintro ⟨⟨⟨rfl, rfl⟩, rfl⟩, rfl⟩; rfl
  · intro e; cases e; exact ⟨⟨⟨rfl, rfl⟩, rfl⟩, rfl⟩

set_option maxRecDepth 100000 in
set_option maxHeartbeats 4000000 in
theorem same9_any (x y : Sta) (u v : Value) (w : World) (hu : SlI w u x.t) (hv : SlI w v y.t) (hl : x.t.length ≤ 1000000) :
    Calls Tryz.prog 48 #[staV x.g x.a x.n u, staV y.g y.a y.n v] w fun e w' => e = .returned (.bool (sameB x y)) ∧ Below w.heap.size w w' := by
  have HE : Hid (∀ W, Below w.heap.size w W → Calls Tryz.prog 81 #[u, v] W fun e w' => e = .returned (.bool (decide (x.t = y.t))) ∧ Below W.heap.size W w') := fun W hW => equalI_any u v x.t y.t hl W (hu.below hW) (hv.below hW)
  obtain ⟨A1, c1, e1, _⟩ := hu
  obtain ⟨A2, c2, e2, _⟩ := hv
  have HS : Hid (sameB x y = ((x.g == y.g) && (x.a == y.a) && (x.n == y.n) && decide (x.t = y.t))) := rfl
  obtain ⟨g, a, n, t⟩ := x
  obtain ⟨g2, a2, n2, t2⟩ := y
  dsimp only at e1 e2 HS HE ⊢
  subst e1; subst e2
  generalize t.length = m1 at *
  generalize t2.length = m2 at *
  have HB : Hid (Below w.heap.size w ((w.alloc (.cells #[.int .i64 g, .int .i64 a, .int .i64 n, .slice A1 m1 c1] 29)).alloc (.cells #[.int .i64 g2, .int .i64 a2, .int .i64 n2, .slice A2 m2 c2] 29))) := (below_new _ _).trans ((below_new _ _).mono (by simp))
  clear hl
  cases q1 : (g == g2) with
  | false =>
    go_enter Tryz.func48, Tryz.ntmps48
    go_wp2
    go_ret
    exact ⟨by rw [HS.out, q1]; rfl, HB.out⟩
  | true =>
    cases q2 : (a == a2) with
    | false =>
      go_enter Tryz.func48, Tryz.ntmps48
      go_wp2
      go_ret
      exact ⟨by rw [HS.out, q1, q2]; rfl, HB.out⟩
    | true =>
      cases q3 : (n == n2) with
      | false =>
        go_enter Tryz.func48, Tryz.ntmps48
        go_wp2
        go_ret
        exact ⟨by rw [HS.out, q1, q2, q3]; rfl, HB.out⟩
      | true =>
        go_enter Tryz.func48, Tryz.ntmps48
        go_wp2_with (go_at_call 81; refine (HE.out _ HB.out).mono ?_; rintro e w1 ⟨rfl, hb⟩)
        go_ret
        exact ⟨by rw [HS.out, q1, q2, q3]; rfl, HB.out.trans (hb.mono HB.out.size)⟩

set_option maxRecDepth 100000 in
set_option maxHeartbeats 4000000 in
theorem rsame_any (x y : Sta) (u v : Value) (w : World) (hu : SlI w u x.t) (hv : SlI w v y.t) (hl : x.t.length ≤ 1000000) :
    Calls Tryz.prog 49 #[staV x.g x.a x.n u, staV y.g y.a y.n v] w fun e w' => e = .returned (.bool (sameB x y)) ∧ Below w.heap.size w w' := by
  have HE : Hid (∀ W, Below w.heap.size w W → Calls Tryz.prog 82 #[u, v] W fun e w' => e = .returned (.bool (decide (x.t = y.t))) ∧ Below W.heap.size W w') := fun W hW => sameI_any u v x.t y.t hl W (hu.below hW) (hv.below hW)
  obtain ⟨A1, c1, e1, _⟩ := hu
  obtain ⟨A2, c2, e2, _⟩ := hv
  have HS : Hid (sameB x y = ((x.g == y.g) && (x.a == y.a) && (x.n == y.n) && decide (x.t = y.t))) := rfl
  obtain ⟨g, a, n, t⟩ := x
  obtain ⟨g2, a2, n2, t2⟩ := y
  dsimp only at e1 e2 HS HE ⊢
  subst e1; subst e2
  generalize t.length = m1 at *
  generalize t2.length = m2 at *
  have HB : Hid (Below w.heap.size w ((w.alloc (.cells #[.int .i64 g, .int .i64 a, .int .i64 n, .slice A1 m1 c1] 24)).alloc (.cells #[.int .i64 g2, .int .i64 a2, .int .i64 n2, .slice A2 m2 c2] 24))) := (below_new _ _).trans ((below_new _ _).mono (by simp))
  clear hl
  cases q1 : (g == g2) with
  | false =>
    go_enter Tryz.func49, Tryz.ntmps49
    go_wp2
    go_ret
    exact ⟨by rw [HS.out, q1]; rfl, HB.out⟩
  | true =>
    cases q2 : (a == a2) with
    | false =>
      go_enter Tryz.func49, Tryz.ntmps49
      go_wp2
      go_ret
      exact ⟨by rw [HS.out, q1, q2]; rfl, HB.out⟩
    | true =>
      cases q3 : (n == n2) with
      | false =>
        go_enter Tryz.func49, Tryz.ntmps49
        go_wp2
        go_ret
        exact ⟨by rw [HS.out, q1, q2, q3]; rfl, HB.out⟩
      | true =>
        go_enter Tryz.func49, Tryz.ntmps49
        go_wp2_with (go_at_call 82; refine (HE.out _ HB.out).mono ?_; rintro e w1 ⟨rfl, hb⟩)
        go_ret
        exact ⟨by rw [HS.out, q1, q2, q3]; rfl, HB.out.trans (hb.mono HB.out.size)⟩

set_option maxHeartbeats 4000000 in
theorem back9_any (x : Sta) (v : Value) (w : World) (h : SlI w v x.t) :
    Calls Tryz.prog 50 #[staV x.g x.a x.n v] w fun e w' => e = .returned (staV x.g x.a x.n v) ∧ Below w.heap.size w w' := by
  obtain ⟨A1, c1, e1, _⟩ := h
  obtain ⟨g, a, n, t⟩ := x
  dsimp only at e1 ⊢
  subst e1
  generalize t.length = m1 at *
  go_enter Tryz.func50, Tryz.ntmps50
  go_wp2
  refine bodyPost_ret (v := staV g a n (.slice A1 m1 c1)) (by simp [results, Tryz.results50, go_sem]) rfl ?_
  exact ⟨rfl, (below_new _ _).trans ((below_new _ _).mono (by simp))⟩

/-- Four cells hold a state; another block is free. -/
abbrev FourC (s : Nat) (g a n : Int) (v : Value) (s2 : Nat) (W : World) : Prop := W.cell? ⟨s, 0, Option.none⟩ = some (.int .i64 g) ∧ W.cell? ⟨s, 1, Option.none⟩ = some (.int .i64 a) ∧ W.cell? ⟨s, 2, Option.none⟩ = some (.int .i64 n) ∧ W.cell? ⟨s, 3, Option.none⟩ = some v ∧ Blk W s2 29 #[.int .i64 0, .int .i64 0, .int .i64 0, .slice Option.none 0 0]
theorem FourC.drew {s s2 : Nat} {g a n : Int} {v : Value} {W : World} (h : FourC s g a n v s2 W) : FourC s g a n v s2 W.drew := h
theorem FourC.below {s s2 : Nat} {g a n : Int} {v : Value} {W W' : World} (h : FourC s g a n v s2 W) (hb : Below W.heap.size W W') : FourC s g a n v s2 W' :=
  ⟨(hb.cell (p := ⟨s, 0, Option.none⟩) (cell_lt h.1)).trans h.1, (hb.cell (p := ⟨s, 1, Option.none⟩) (cell_lt h.1)).trans h.2.1, (hb.cell (p := ⟨s, 2, Option.none⟩) (cell_lt h.1)).trans h.2.2.1, (hb.cell (p := ⟨s, 3, Option.none⟩) (cell_lt h.1)).trans h.2.2.2.1, h.2.2.2.2.keep hb h.2.2.2.2.lt⟩

set_option maxRecDepth 100000 in
set_option maxHeartbeats 8000000 in
theorem of9_own (x : Sta) (v : Value) (w : World) (h : SlI w v x.t) (hl : x.t.length ≤ 1000000) :
    Calls Tryz.prog 9 #[staV x.g x.a x.n v] w fun e w' => ∃ v', e = .returned (staV x.g x.a x.n v') ∧ (SlI w' v' x.t ∧ OwnN v' w.heap.size w'.heap.size) ∧ Below w.heap.size w w' := by
  have HC : Hid (∀ W, Below w.heap.size w W → Calls Tryz.prog 40 #[v] W fun e w' => ∃ A3 c3, e = .returned (.slice A3 x.t.length c3) ∧ Hid (SlI w' (.slice A3 x.t.length c3) x.t ∧ OwnN (.slice A3 x.t.length c3) W.heap.size w'.heap.size) ∧ Below W.heap.size W w') := fun W hW => by
    refine (copyi_any v x.t hl W (h.below hW)).mono ?_
    rintro e w' ⟨v', rfl, hI, hb⟩
    have hO := hI.ownN
    have hS := hI.slI
    obtain ⟨A3, c3, rfl, _⟩ := id hS
    exact ⟨A3, c3, rfl, ⟨hS, hO⟩, hb⟩
  obtain ⟨A1, c1, e1, _⟩ := h
  obtain ⟨g, a, n, t⟩ := x
  dsimp only at e1 HC ⊢
  subst e1
  obtain ⟨m1, hm1⟩ : ∃ m1, t.length = m1 := ⟨_, rfl⟩
  rw [hm1] at HC ⊢
  clear hl hm1
  go_enter Tryz.func9, Tryz.ntmps9
  go_upto_region 1 with (fail)
  have h1 := below_new w (.cells #[.int .i64 g, .int .i64 a, .int .i64 n, .slice A1 m1 c1] 24)
  have h2 := below_new (w.alloc (.cells #[.int .i64 g, .int .i64 a, .int .i64 n, .slice A1 m1 c1] 24)) (.cells #[.int .i64 0, .int .i64 0, .int .i64 0, .slice Option.none 0 0] 29)
  have HW0 : Hid (Below w.heap.size w ((w.alloc (.cells #[.int .i64 g, .int .i64 a, .int .i64 n, .slice A1 m1 c1] 24)).alloc (.cells #[.int .i64 0, .int .i64 0, .int .i64 0, .slice Option.none 0 0] 29))) := h1.trans (h2.mono (by simp))
  have HF : Hid (FourC w.heap.size g a n (.slice A1 m1 c1) (w.heap.size + 1) ((w.alloc (.cells #[.int .i64 g, .int .i64 a, .int .i64 n, .slice A1 m1 c1] 24)).alloc (.cells #[.int .i64 0, .int .i64 0, .int .i64 0, .slice Option.none 0 0] 29))) := by
    have b1 := (Blk.new w 24 #[.int .i64 g, .int .i64 a, .int .i64 n, .slice A1 m1 c1]).keep h2 (by simp)
    have b2 := Blk.new (w.alloc (.cells #[.int .i64 g, .int .i64 a, .int .i64 n, .slice A1 m1 c1] 24)) 29 #[.int .i64 0, .int .i64 0, .int .i64 0, .slice Option.none 0 0]
    have e3 : (w.alloc (.cells #[.int .i64 g, .int .i64 a, .int .i64 n, .slice A1 m1 c1] 24)).heap.size = w.heap.size + 1 := by simp
    rw [e3] at b2
    exact ⟨b1.cell 0, b1.cell 1, b1.cell 2, b1.cell 3, b2⟩
  clear h1 h2
  refine wp_region_till 10 (FourC w.heap.size g a n (.slice A1 m1 c1) (w.heap.size + 1)) (by kernel_rfl) (HF.out.drew) (fun hHeld => ?_)
  (refine wpAnyT_take (i := 0) (v := ?_) rfl (by kernel_rfl) (fun _ _ _ h => h) (Or.inl ⟨by kernel_rfl, ?_⟩) (by assumption) ?_; rotate_left; · (intro w hSw; (try dsimp only at hSw); go_split_ands; go_simp; first | done | with_reducible rfl))
  (try simp only [Act.put]); (try simp only [List.getElem_toArray]); (try simp only [List.getElem_cons_succ]); (try simp only [List.getElem_cons_zero]); (try simp only [List.setIfInBounds_toArray]); (try simp only [List.set_cons_succ]); (try simp only [List.set_cons_zero])
  (refine wpAnyT_take (i := 1) (v := ?_) rfl (by kernel_rfl) (fun _ _ _ h => h) (Or.inl ⟨by kernel_rfl, ?_⟩) (by assumption) ?_; rotate_left; · (intro w hSw; (try dsimp only at hSw); go_split_ands; go_simp; first | done | with_reducible rfl))
  (try simp only [Act.put]); (try simp only [List.getElem_toArray]); (try simp only [List.getElem_cons_succ]); (try simp only [List.getElem_cons_zero]); (try simp only [List.setIfInBounds_toArray]); (try simp only [List.set_cons_succ]); (try simp only [List.set_cons_zero])
  (refine wpAnyT_take (i := 2) (v := ?_) rfl (by kernel_rfl) (fun _ _ _ h => h) (Or.inl ⟨by kernel_rfl, ?_⟩) (by assumption) ?_; rotate_left; · (intro w hSw; (try dsimp only at hSw); go_split_ands; go_simp; first | done | with_reducible rfl))
  (try simp only [Act.put]); (try simp only [List.getElem_toArray]); (try simp only [List.getElem_cons_succ]); (try simp only [List.getElem_cons_zero]); (try simp only [List.setIfInBounds_toArray]); (try simp only [List.set_cons_succ]); (try simp only [List.set_cons_zero])
  (refine wpAnyT_take (i := 3) (v := ?_) rfl (by kernel_rfl) (fun _ _ _ h => h) (Or.inl ⟨by kernel_rfl, ?_⟩) (by assumption) ?_; rotate_left; · (intro w hSw; (try dsimp only at hSw); go_split_ands; go_simp; first | done | with_reducible rfl))
  (try simp only [Act.put]); (try simp only [List.getElem_toArray]); (try simp only [List.getElem_cons_succ]); (try simp only [List.getElem_cons_zero]); (try simp only [List.setIfInBounds_toArray]); (try simp only [List.set_cons_succ]); (try simp only [List.set_cons_zero])
  (refine wpAnyT_take (i := 4) (v := ?_) rfl (by kernel_rfl) (fun _ _ _ h => h) (Or.inl ⟨by kernel_rfl, ?_⟩) (by assumption) ?_; rotate_left; · (intro w hSw; (try dsimp only at hSw); go_split_ands; go_simp; first | done | with_reducible rfl))
  (try simp only [Act.put]); (try simp only [List.getElem_toArray]); (try simp only [List.getElem_cons_succ]); (try simp only [List.getElem_cons_zero]); (try simp only [List.setIfInBounds_toArray]); (try simp only [List.set_cons_succ]); (try simp only [List.set_cons_zero])
  (refine wpAnyT_take (i := 5) (v := ?_) rfl (by kernel_rfl) (fun _ _ _ h => h) (Or.inl ⟨by kernel_rfl, ?_⟩) (by assumption) ?_; rotate_left; · (intro w hSw; (try dsimp only at hSw); go_split_ands; go_simp; first | done | with_reducible rfl))
  (try simp only [Act.put]); (try simp only [List.getElem_toArray]); (try simp only [List.getElem_cons_succ]); (try simp only [List.getElem_cons_zero]); (try simp only [List.setIfInBounds_toArray]); (try simp only [List.set_cons_succ]); (try simp only [List.set_cons_zero])
  (refine wpAnyT_take (i := 6) (v := ?_) rfl (by kernel_rfl) (fun _ _ _ h => h) (Or.inl ⟨by kernel_rfl, ?_⟩) (by assumption) ?_; rotate_left; · (intro w hSw; (try dsimp only at hSw); go_split_ands; go_simp; first | done | with_reducible rfl))
  (try simp only [Act.put]); (try simp only [List.getElem_toArray]); (try simp only [List.getElem_cons_succ]); (try simp only [List.getElem_cons_zero]); (try simp only [List.setIfInBounds_toArray]); (try simp only [List.set_cons_succ]); (try simp only [List.set_cons_zero])
  (refine wpAnyT_take (i := 7) (v := ?_) rfl (by kernel_rfl) (fun _ _ _ h => h) (Or.inl ⟨by kernel_rfl, ?_⟩) (by assumption) ?_; rotate_left; · (intro w hSw; (try dsimp only at hSw); go_split_ands; go_simp; first | done | with_reducible rfl))
  (try simp only [Act.put]); (try simp only [List.getElem_toArray]); (try simp only [List.getElem_cons_succ]); (try simp only [List.getElem_cons_zero]); (try simp only [List.setIfInBounds_toArray]); (try simp only [List.set_cons_succ]); (try simp only [List.set_cons_zero])
  (refine wpAnyT_one (i := 8) (by kernel_rfl) rfl (fun K hK => ?_); (go_simp; go_at_call 40; refine (HC.out _ HW0.out.drew).mono ?_; rintro e w3 ⟨A3, c3, rfl, HV, hb3⟩; have hS3 := hHeld.below hb3); refine hK.out _ _ (.inr ?_) (fun hHeld => ?_))
  · exact hS3
  replace hHeld := hHeld.resolve_left (by decide)
  clear hK K
  (try simp only [Act.put]); (try simp only [List.getElem_toArray]); (try simp only [List.getElem_cons_succ]); (try simp only [List.getElem_cons_zero]); (try simp only [List.setIfInBounds_toArray]); (try simp only [List.set_cons_succ]); (try simp only [List.set_cons_zero])
  clear hS3
  (refine wpAnyT_one (i := 9) (by kernel_rfl) rfl (fun K hK => ?_); go_simp; refine hK.out _ _ (.inr ?_) (fun hHeld => ?_))
  · exact hHeld
  replace hHeld := hHeld.resolve_left (by decide)
  clear hK K
  (try simp only [Act.put]); (try simp only [List.getElem_toArray]); (try simp only [List.getElem_cons_succ]); (try simp only [List.getElem_cons_zero]); (try simp only [List.setIfInBounds_toArray]); (try simp only [List.set_cons_succ]); (try simp only [List.set_cons_zero])
  (refine wpAnyT_one (i := 10) (by kernel_rfl) rfl (fun K hK => ?_); obtain ⟨r0, r1, r2, r3, r4⟩ := hHeld; have f0 : w3.cell? ⟨w.heap.size + 1, 0, Option.none⟩ = some (.int .i64 0) := r4.cell 0; have f1 : w3.cell? ⟨w.heap.size + 1, 1, Option.none⟩ = some (.int .i64 0) := r4.cell 1; have f2 : w3.cell? ⟨w.heap.size + 1, 2, Option.none⟩ = some (.int .i64 0) := r4.cell 2; have f3 : w3.cell? ⟨w.heap.size + 1, 3, Option.none⟩ = some (.slice Option.none 0 0) := r4.cell 3; have ff : ∀ j, w3.frozen? ⟨w.heap.size + 1, j, Option.none⟩ = false := fun j => r4.free j; go_simp; refine hK.out _ _ (.inl rfl) (fun _ => ?_))
  clear hK K
  (try simp only [Act.put]); (try simp only [List.getElem_toArray]); (try simp only [List.getElem_cons_succ]); (try simp only [List.getElem_cons_zero]); (try simp only [List.setIfInBounds_toArray]); (try simp only [List.set_cons_succ]); (try simp only [List.set_cons_zero])
  refine wpAnyT_done (by kernel_rfl) ?_ _
  go_wp2
  refine bodyPost_ret (v := staV g a n (.slice A3 m1 c3)) (by simp [results, Tryz.results9, go_sem, cell_set_eq9, f0, f1, f2, f3]) rfl ?_
  have hw := HW0.out.size
  have e0 : ((w.alloc (.cells #[.int .i64 g, .int .i64 a, .int .i64 n, .slice A1 m1 c1] 24)).alloc (.cells #[.int .i64 0, .int .i64 0, .int .i64 0, .slice Option.none 0 0] 29)).heap.size = w.heap.size + 2 := by simp
  have hn : (Value.slice A3 m1 c3).ownBlock ≠ some (w.heap.size + 1) := fun e => by
    have h1 := (HV.out.2 _ e).1
    simp at h1
    omega
  refine ⟨_, rfl, ⟨(((HV.out.1.set hn).set hn).set hn).set hn, fun q3 e3 => ?_⟩, ?_⟩
  · have h1 := HV.out.2 q3 e3
    simp at h1 ⊢
    omega
  iterate 4 (refine Below.setCell ?_ (by simp) _)
  exact HW0.out.trans ((Below.drew (Below.refl _ _)).trans (hb3.mono (by simp; omega)))
theorem of9_any (x : Sta) (v : Value) (w : World) (h : SlI w v x.t) (hl : x.t.length ≤ 1000000) :
    Calls Tryz.prog 9 #[staV x.g x.a x.n v] w fun e w' => ∃ v', e = .returned (staV x.g x.a x.n v') ∧ SlI w' v' x.t ∧ Below w.heap.size w w' := by
  refine (of9_own x v w h hl).mono ?_
  rintro e w3 ⟨v3, he, h1, h2⟩
  exact ⟨v3, he, h1.1, h2⟩
end Go.Proofs.YtofkfafdodhmdaaGreatDoor

/- joistlaw11.same. Conditions: the tables' slices hold their ints, a million at most. -/
namespace Go.Proofs.YtofkfafdodhmdaaGreatDoor
open Go.RowKit

/-- Two states in two boxes. -/
abbrev EightC (w : World) (g a n : Int) (u : Value) (g2 a2 n2 : Int) (v : Value) (W : World) : Prop := Hid (Below w.heap.size w W ∧ w.heap.size + 1 < W.heap.size) ∧ W.cell? ⟨w.heap.size, 0, Option.none⟩ = some (.int .i64 g) ∧ W.cell? ⟨w.heap.size, 1, Option.none⟩ = some (.int .i64 a) ∧ W.cell? ⟨w.heap.size, 2, Option.none⟩ = some (.int .i64 n) ∧ W.cell? ⟨w.heap.size, 3, Option.none⟩ = some u ∧
  W.cell? ⟨w.heap.size + 1, 0, Option.none⟩ = some (.int .i64 g2) ∧ W.cell? ⟨w.heap.size + 1, 1, Option.none⟩ = some (.int .i64 a2) ∧ W.cell? ⟨w.heap.size + 1, 2, Option.none⟩ = some (.int .i64 n2) ∧ W.cell? ⟨w.heap.size + 1, 3, Option.none⟩ = some v
section
variable {w : World} {g a n g2 a2 n2 : Int} {u v : Value} {W W' : World}
theorem EightC.drew (h : EightC w g a n u g2 a2 n2 v W) : EightC w g a n u g2 a2 n2 v W.drew := ⟨⟨h.1.out.1.drew, h.1.out.2⟩, h.2⟩
theorem EightC.below (h : EightC w g a n u g2 a2 n2 v W) (hb : Below W.heap.size W W') : EightC w g a n u g2 a2 n2 v W' := by
  obtain ⟨h0, c0, c1, c2, c3, d0, d1, d2, d3⟩ := h
  have k0 : w.heap.size < W.heap.size := by have := h0.out.2; omega
  exact ⟨⟨h0.out.1.trans (hb.mono h0.out.1.size), Nat.lt_of_lt_of_le h0.out.2 hb.size⟩, (hb.cell (p := ⟨w.heap.size, 0, Option.none⟩) k0).trans c0, (hb.cell (p := ⟨w.heap.size, 1, Option.none⟩) k0).trans c1, (hb.cell (p := ⟨w.heap.size, 2, Option.none⟩) k0).trans c2, (hb.cell (p := ⟨w.heap.size, 3, Option.none⟩) k0).trans c3, (hb.cell (p := ⟨w.heap.size + 1, 0, Option.none⟩) h0.out.2).trans d0, (hb.cell (p := ⟨w.heap.size + 1, 1, Option.none⟩) h0.out.2).trans d1, (hb.cell (p := ⟨w.heap.size + 1, 2, Option.none⟩) h0.out.2).trans d2, (hb.cell (p := ⟨w.heap.size + 1, 3, Option.none⟩) h0.out.2).trans d3⟩
end

set_option maxRecDepth 100000 in
set_option maxHeartbeats 16000000 in
theorem lsame_any (x y : Sta) (u v : Value) (w : World) (hu : SlI w u x.t) (hv : SlI w v y.t) (hl : x.t.length ≤ 1000000) (hl2 : y.t.length ≤ 1000000) :
    Calls Tryz.prog 18 #[staV x.g x.a x.n u, staV y.g y.a y.n v] w fun e w' => e = .returned (.bool (sameB x y)) ∧ Below w.heap.size w w' := by
  have HOf : Hid (∀ W, Below w.heap.size w W ∧ w.heap.size + 1 < W.heap.size → Calls Tryz.prog 9 #[staV y.g y.a y.n v] W fun e w' => ∃ A3 c3, e = .returned (staV y.g y.a y.n (.slice A3 y.t.length c3)) ∧ Hid (SlI w' (.slice A3 y.t.length c3) y.t) ∧ Below W.heap.size W w') := fun W hW => by
    refine (of9_any y v W (hv.below hW.1) hl2).mono ?_
    rintro e w' ⟨v', rfl, hI, hb⟩
    obtain ⟨A3, c3, rfl, _⟩ := id hI
    exact ⟨A3, c3, rfl, hI, hb⟩
  have HSm : Hid (∀ W A3 c3, Below w.heap.size w W ∧ w.heap.size + 1 < W.heap.size → SlI W (.slice A3 y.t.length c3) y.t → Calls Tryz.prog 48 #[staV x.g x.a x.n u, staV y.g y.a y.n (.slice A3 y.t.length c3)] W fun e w' => e = .returned (.bool (sameB x y)) ∧ Below W.heap.size W w') := fun W A3 c3 hW h3 => same9_any x y u _ W (hu.below hW.1) h3 hl
  have HBk : Hid (∀ W, Below w.heap.size w W ∧ w.heap.size + 1 < W.heap.size → Calls Tryz.prog 50 #[staV x.g x.a x.n u] W fun e w' => e = .returned (staV x.g x.a x.n u) ∧ Below W.heap.size W w') := fun W hW => back9_any x u W (hu.below hW.1)
  have HRm : Hid (∀ W, Below w.heap.size w W ∧ w.heap.size + 1 < W.heap.size → Calls Tryz.prog 49 #[staV x.g x.a x.n u, staV y.g y.a y.n v] W fun e w' => e = .returned (.bool (sameB x y)) ∧ Below W.heap.size W w') := fun W hW => rsame_any x y u v W (hu.below hW.1) (hv.below hW.1) hl
  obtain ⟨A1, c1, e1, _⟩ := hu
  obtain ⟨A2, c2, e2, _⟩ := hv
  obtain ⟨g, a, n, t⟩ := x
  obtain ⟨g2, a2, n2, t2⟩ := y
  dsimp only at e1 e2 HOf HSm HBk HRm ⊢
  subst e1; subst e2
  generalize t.length = m1 at *
  generalize t2.length = m2 at *
  have HF : Hid (EightC w g a n (.slice A1 m1 c1) g2 a2 n2 (.slice A2 m2 c2) ((w.alloc (.cells #[.int .i64 g, .int .i64 a, .int .i64 n, .slice A1 m1 c1] 29)).alloc (.cells #[.int .i64 g2, .int .i64 a2, .int .i64 n2, .slice A2 m2 c2] 24))) := by
    have h1 := below_new w (.cells #[.int .i64 g, .int .i64 a, .int .i64 n, .slice A1 m1 c1] 29)
    have h2 := below_new (w.alloc (.cells #[.int .i64 g, .int .i64 a, .int .i64 n, .slice A1 m1 c1] 29)) (.cells #[.int .i64 g2, .int .i64 a2, .int .i64 n2, .slice A2 m2 c2] 24)
    have b1 := (Blk.new w 29 #[.int .i64 g, .int .i64 a, .int .i64 n, .slice A1 m1 c1]).keep h2 (by simp)
    have b2 := Blk.new (w.alloc (.cells #[.int .i64 g, .int .i64 a, .int .i64 n, .slice A1 m1 c1] 29)) 24 #[.int .i64 g2, .int .i64 a2, .int .i64 n2, .slice A2 m2 c2]
    have e3 : (w.alloc (.cells #[.int .i64 g, .int .i64 a, .int .i64 n, .slice A1 m1 c1] 29)).heap.size = w.heap.size + 1 := by simp
    rw [e3] at b2
    exact ⟨⟨h1.trans (h2.mono (by simp)), by simp⟩, b1.cell 0, b1.cell 1, b1.cell 2, b1.cell 3, b2.cell 0, b2.cell 1, b2.cell 2, b2.cell 3⟩
  clear hl hl2
  cases hq : sameB ⟨g, a, n, t⟩ ⟨g2, a2, n2, t2⟩ with
  | false =>
    have HQ := hid hq
    clear hq
    go_enter Tryz.func18, Tryz.ntmps18
    go_upto_region 1 with (fail)
    refine wp_region_till 10 (EightC w g a n (.slice A1 m1 c1) g2 a2 n2 (.slice A2 m2 c2)) (by kernel_rfl) (HF.out.drew) (fun hHeld => ?_)
    (refine wpAnyT_take (i := 0) (v := ?_) rfl (by kernel_rfl) (fun _ _ _ h => h) (Or.inl ⟨by kernel_rfl, ?_⟩) (by assumption) ?_; rotate_left; · (intro w hSw; (try dsimp only at hSw); go_split_ands; go_simp; first | done | with_reducible rfl))
    (try simp only [Act.put]); (try simp only [List.getElem_toArray]); (try simp only [List.getElem_cons_succ]); (try simp only [List.getElem_cons_zero]); (try simp only [List.setIfInBounds_toArray]); (try simp only [List.set_cons_succ]); (try simp only [List.set_cons_zero])
    (refine wpAnyT_take (i := 1) (v := ?_) rfl (by kernel_rfl) (fun _ _ _ h => h) (Or.inl ⟨by kernel_rfl, ?_⟩) (by assumption) ?_; rotate_left; · (intro w hSw; (try dsimp only at hSw); go_split_ands; go_simp; first | done | with_reducible rfl))
    (try simp only [Act.put]); (try simp only [List.getElem_toArray]); (try simp only [List.getElem_cons_succ]); (try simp only [List.getElem_cons_zero]); (try simp only [List.setIfInBounds_toArray]); (try simp only [List.set_cons_succ]); (try simp only [List.set_cons_zero])
    (refine wpAnyT_one (i := 2) (by kernel_rfl) rfl (fun K hK => ?_); (go_simp; go_at_call 9; refine (HOf.out _ HF.out.drew.1.out).mono ?_; rintro e w3 ⟨A3, c3, rfl, HV3, hb3⟩; have hS3 := hHeld.below hb3); refine hK.out _ _ (.inr ?_) (fun hHeld => ?_))
    · exact hS3
    replace hHeld := hHeld.resolve_left (by decide)
    clear hK K
    (try simp only [Act.put]); (try simp only [List.getElem_toArray]); (try simp only [List.getElem_cons_succ]); (try simp only [List.getElem_cons_zero]); (try simp only [List.setIfInBounds_toArray]); (try simp only [List.set_cons_succ]); (try simp only [List.set_cons_zero])
    clear hS3
    (refine wpAnyT_one (i := 3) (by kernel_rfl) rfl (fun K hK => ?_); (go_simp; go_at_call 48; refine (HSm.out _ _ _ hHeld.1.out HV3.out).mono ?_; rintro e w4 ⟨rfl, hb4⟩; rw [HQ.out]; have hS4 := hHeld.below hb4); refine hK.out _ _ (.inr ?_) (fun hHeld => ?_))
    · exact hS4
    replace hHeld := hHeld.resolve_left (by decide)
    clear hK K
    (try simp only [Act.put]); (try simp only [List.getElem_toArray]); (try simp only [List.getElem_cons_succ]); (try simp only [List.getElem_cons_zero]); (try simp only [List.setIfInBounds_toArray]); (try simp only [List.set_cons_succ]); (try simp only [List.set_cons_zero])
    clear hS4
    (refine wpAnyT_take (i := 4) (v := ?_) rfl (by kernel_rfl) (fun _ _ _ h => h) (Or.inl ⟨by kernel_rfl, ?_⟩) (by assumption) ?_; rotate_left; · (intro w hSw; (try dsimp only at hSw); go_split_ands; go_simp; first | done | with_reducible rfl))
    (try simp only [Act.put]); (try simp only [List.getElem_toArray]); (try simp only [List.getElem_cons_succ]); (try simp only [List.getElem_cons_zero]); (try simp only [List.setIfInBounds_toArray]); (try simp only [List.set_cons_succ]); (try simp only [List.set_cons_zero])
    (refine wpAnyT_take (i := 5) (v := undef) rfl (by kernel_rfl) (fun _ _ _ h => h) (Or.inr ⟨by kernel_rfl, rfl⟩) (by assumption) ?_; (try simp only [Act.put]); (try simp only [List.getElem_toArray]); (try simp only [List.getElem_cons_succ]); (try simp only [List.getElem_cons_zero]); (try simp only [List.setIfInBounds_toArray]); (try simp only [List.set_cons_succ]); (try simp only [List.set_cons_zero]))
    (refine wpAnyT_take (i := 6) (v := undef) rfl (by kernel_rfl) (fun _ _ _ h => h) (Or.inr ⟨by kernel_rfl, rfl⟩) (by assumption) ?_; (try simp only [Act.put]); (try simp only [List.getElem_toArray]); (try simp only [List.getElem_cons_succ]); (try simp only [List.getElem_cons_zero]); (try simp only [List.setIfInBounds_toArray]); (try simp only [List.set_cons_succ]); (try simp only [List.set_cons_zero]))
    (refine wpAnyT_take (i := 7) (v := undef) rfl (by kernel_rfl) (fun _ _ _ h => h) (Or.inr ⟨by kernel_rfl, rfl⟩) (by assumption) ?_; (try simp only [Act.put]); (try simp only [List.getElem_toArray]); (try simp only [List.getElem_cons_succ]); (try simp only [List.getElem_cons_zero]); (try simp only [List.setIfInBounds_toArray]); (try simp only [List.set_cons_succ]); (try simp only [List.set_cons_zero]))
    (refine wpAnyT_take (i := 8) (v := undef) rfl (by kernel_rfl) (fun _ _ _ h => h) (Or.inr ⟨by kernel_rfl, rfl⟩) (by assumption) ?_; (try simp only [Act.put]); (try simp only [List.getElem_toArray]); (try simp only [List.getElem_cons_succ]); (try simp only [List.getElem_cons_zero]); (try simp only [List.setIfInBounds_toArray]); (try simp only [List.set_cons_succ]); (try simp only [List.set_cons_zero]))
    (refine wpAnyT_one (i := 9) (by kernel_rfl) rfl (fun K hK => ?_); go_simp; refine hK.out _ _ (.inr ?_) (fun hHeld => ?_))
    · exact hHeld
    replace hHeld := hHeld.resolve_left (by decide)
    clear hK K
    (try simp only [Act.put]); (try simp only [List.getElem_toArray]); (try simp only [List.getElem_cons_succ]); (try simp only [List.getElem_cons_zero]); (try simp only [List.setIfInBounds_toArray]); (try simp only [List.set_cons_succ]); (try simp only [List.set_cons_zero])
    (refine wpAnyT_one (i := 10) (by kernel_rfl) rfl (fun K hK => ?_); (have HZ := hid hHeld.1.out; go_simp); refine hK.out _ _ (.inl rfl) (fun _ => ?_))
    clear hK K
    (try simp only [Act.put]); (try simp only [List.getElem_toArray]); (try simp only [List.getElem_cons_succ]); (try simp only [List.getElem_cons_zero]); (try simp only [List.setIfInBounds_toArray]); (try simp only [List.set_cons_succ]); (try simp only [List.set_cons_zero])
    refine wpAnyT_done (by kernel_rfl) ?_ _
    go_wp2
    go_ret
    exact ⟨rfl, HZ.out.1⟩
  | true =>
    have HQ := hid hq
    clear hq
    go_enter Tryz.func18, Tryz.ntmps18
    go_upto_region 1 with (fail)
    refine wp_region_till 10 (EightC w g a n (.slice A1 m1 c1) g2 a2 n2 (.slice A2 m2 c2)) (by kernel_rfl) (HF.out.drew) (fun hHeld => ?_)
    (refine wpAnyT_take (i := 0) (v := ?_) rfl (by kernel_rfl) (fun _ _ _ h => h) (Or.inl ⟨by kernel_rfl, ?_⟩) (by assumption) ?_; rotate_left; · (intro w hSw; (try dsimp only at hSw); go_split_ands; go_simp; first | done | with_reducible rfl))
    (try simp only [Act.put]); (try simp only [List.getElem_toArray]); (try simp only [List.getElem_cons_succ]); (try simp only [List.getElem_cons_zero]); (try simp only [List.setIfInBounds_toArray]); (try simp only [List.set_cons_succ]); (try simp only [List.set_cons_zero])
    (refine wpAnyT_take (i := 1) (v := ?_) rfl (by kernel_rfl) (fun _ _ _ h => h) (Or.inl ⟨by kernel_rfl, ?_⟩) (by assumption) ?_; rotate_left; · (intro w hSw; (try dsimp only at hSw); go_split_ands; go_simp; first | done | with_reducible rfl))
    (try simp only [Act.put]); (try simp only [List.getElem_toArray]); (try simp only [List.getElem_cons_succ]); (try simp only [List.getElem_cons_zero]); (try simp only [List.setIfInBounds_toArray]); (try simp only [List.set_cons_succ]); (try simp only [List.set_cons_zero])
    (refine wpAnyT_one (i := 2) (by kernel_rfl) rfl (fun K hK => ?_); (go_simp; go_at_call 9; refine (HOf.out _ HF.out.drew.1.out).mono ?_; rintro e w3 ⟨A3, c3, rfl, HV3, hb3⟩; have hS3 := hHeld.below hb3); refine hK.out _ _ (.inr ?_) (fun hHeld => ?_))
    · exact hS3
    replace hHeld := hHeld.resolve_left (by decide)
    clear hK K
    (try simp only [Act.put]); (try simp only [List.getElem_toArray]); (try simp only [List.getElem_cons_succ]); (try simp only [List.getElem_cons_zero]); (try simp only [List.setIfInBounds_toArray]); (try simp only [List.set_cons_succ]); (try simp only [List.set_cons_zero])
    clear hS3
    (refine wpAnyT_one (i := 3) (by kernel_rfl) rfl (fun K hK => ?_); (go_simp; go_at_call 48; refine (HSm.out _ _ _ hHeld.1.out HV3.out).mono ?_; rintro e w4 ⟨rfl, hb4⟩; rw [HQ.out]; have hS4 := hHeld.below hb4); refine hK.out _ _ (.inr ?_) (fun hHeld => ?_))
    · exact hS4
    replace hHeld := hHeld.resolve_left (by decide)
    clear hK K
    (try simp only [Act.put]); (try simp only [List.getElem_toArray]); (try simp only [List.getElem_cons_succ]); (try simp only [List.getElem_cons_zero]); (try simp only [List.setIfInBounds_toArray]); (try simp only [List.set_cons_succ]); (try simp only [List.set_cons_zero])
    clear hS4
    (refine wpAnyT_take (i := 4) (v := ?_) rfl (by kernel_rfl) (fun _ _ _ h => h) (Or.inl ⟨by kernel_rfl, ?_⟩) (by assumption) ?_; rotate_left; · (intro w hSw; (try dsimp only at hSw); go_split_ands; go_simp; first | done | with_reducible rfl))
    (try simp only [Act.put]); (try simp only [List.getElem_toArray]); (try simp only [List.getElem_cons_succ]); (try simp only [List.getElem_cons_zero]); (try simp only [List.setIfInBounds_toArray]); (try simp only [List.set_cons_succ]); (try simp only [List.set_cons_zero])
    (refine wpAnyT_take (i := 5) (v := ?_) rfl (by kernel_rfl) (fun _ _ _ h => h) (Or.inl ⟨by kernel_rfl, ?_⟩) (by assumption) ?_; rotate_left; · (intro w hSw; (try dsimp only at hSw); go_split_ands; go_simp; first | done | with_reducible rfl))
    (try simp only [Act.put]); (try simp only [List.getElem_toArray]); (try simp only [List.getElem_cons_succ]); (try simp only [List.getElem_cons_zero]); (try simp only [List.setIfInBounds_toArray]); (try simp only [List.set_cons_succ]); (try simp only [List.set_cons_zero])
    (refine wpAnyT_take (i := 7) (v := ?_) rfl (by kernel_rfl) (fun _ _ _ h => h) (Or.inl ⟨by kernel_rfl, ?_⟩) (by assumption) ?_; rotate_left; · (intro w hSw; (try dsimp only at hSw); go_split_ands; go_simp; first | done | with_reducible rfl))
    (try simp only [Act.put]); (try simp only [List.getElem_toArray]); (try simp only [List.getElem_cons_succ]); (try simp only [List.getElem_cons_zero]); (try simp only [List.setIfInBounds_toArray]); (try simp only [List.set_cons_succ]); (try simp only [List.set_cons_zero])
    (refine wpAnyT_one (i := 6) (by kernel_rfl) rfl (fun K hK => ?_); (go_simp; go_at_call 50; refine (HBk.out _ hHeld.1.out).mono ?_; rintro e w5 ⟨rfl, hb5⟩; have hS5 := hHeld.below hb5); refine hK.out _ _ (.inr ?_) (fun hHeld => ?_))
    · exact hS5
    replace hHeld := hHeld.resolve_left (by decide)
    clear hK K
    (try simp only [Act.put]); (try simp only [List.getElem_toArray]); (try simp only [List.getElem_cons_succ]); (try simp only [List.getElem_cons_zero]); (try simp only [List.setIfInBounds_toArray]); (try simp only [List.set_cons_succ]); (try simp only [List.set_cons_zero])
    clear hS5
    (refine wpAnyT_one (i := 8) (by kernel_rfl) rfl (fun K hK => ?_); (go_simp; go_at_call 49; refine (HRm.out _ hHeld.1.out).mono ?_; rintro e w6 ⟨rfl, hb6⟩; rw [HQ.out]; have hS6 := hHeld.below hb6); refine hK.out _ _ (.inr ?_) (fun hHeld => ?_))
    · exact hS6
    replace hHeld := hHeld.resolve_left (by decide)
    clear hK K
    (try simp only [Act.put]); (try simp only [List.getElem_toArray]); (try simp only [List.getElem_cons_succ]); (try simp only [List.getElem_cons_zero]); (try simp only [List.setIfInBounds_toArray]); (try simp only [List.set_cons_succ]); (try simp only [List.set_cons_zero])
    clear hS6
    (refine wpAnyT_one (i := 9) (by kernel_rfl) rfl (fun K hK => ?_); go_simp; refine hK.out _ _ (.inr ?_) (fun hHeld => ?_))
    · exact hHeld
    replace hHeld := hHeld.resolve_left (by decide)
    clear hK K
    (try simp only [Act.put]); (try simp only [List.getElem_toArray]); (try simp only [List.getElem_cons_succ]); (try simp only [List.getElem_cons_zero]); (try simp only [List.setIfInBounds_toArray]); (try simp only [List.set_cons_succ]); (try simp only [List.set_cons_zero])
    (refine wpAnyT_one (i := 10) (by kernel_rfl) rfl (fun K hK => ?_); (have HZ := hid hHeld.1.out; go_simp); refine hK.out _ _ (.inl rfl) (fun _ => ?_))
    clear hK K
    (try simp only [Act.put]); (try simp only [List.getElem_toArray]); (try simp only [List.getElem_cons_succ]); (try simp only [List.getElem_cons_zero]); (try simp only [List.setIfInBounds_toArray]); (try simp only [List.set_cons_succ]); (try simp only [List.set_cons_zero])
    refine wpAnyT_done (by kernel_rfl) ?_ _
    go_wp2
    go_ret
    exact ⟨rfl, HZ.out.1⟩
end Go.Proofs.YtofkfafdodhmdaaGreatDoor
