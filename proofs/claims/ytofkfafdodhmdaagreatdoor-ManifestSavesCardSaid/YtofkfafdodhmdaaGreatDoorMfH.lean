/- The document's Decode. Conditions: the slice holds its bytes, a million at most. -/
import Derived.Test.YtofkfafdodhmdaaGreatDoorMfD
import Derived.Test.YtofkfafdodhmdaaGreatDoorNF
import Derived.Test.YtofkfafdodhmdaaGreatDoorNQ
namespace Go.Proofs.YtofkfafdodhmdaaGreatDoor
open Go.RowKit

set_option maxRecDepth 100000 in
set_option maxHeartbeats 16000000 in
theorem rdecode_any (v : Value) (l : List UInt8) (hlen : l.length ≤ 1000000) (w : World) (h : SlA w v l) :
    Calls Tryz.prog 12 #[v] w (DcEnd w (decS l)) := by
  have HS := hid h
  have HK : Hid (∀ (W : World) (u : Value) (t : List UInt8), t.length ≤ 1000000 → SlA W u t → Calls Tryz.prog 43 #[u] W (TkEnd W (tk t))) := fun W u t ht hu => refTake_any u t ht W hu
  obtain ⟨A, c, rfl, _⟩ := h
  obtain ⟨m, hm⟩ : ∃ m, l.length = m := ⟨_, rfl⟩
  have HM := hid hm
  rw [hm] at HS hlen ⊢
  clear hm
  go_enter Tryz.func12, Tryz.ntmps12
  go_upto_region 3 with (fail)
  refine wp_ltc (fun W => Hid (Blk W w.heap.size 24 #[.int .i64 0, .int .i64 0, .int .i64 0, .slice Option.none 0 0] ∧ Below w.heap.size w W ∧ IRow W (w.heap.size + 1) (.slice (some ⟨w.heap.size + 1, 0, Option.none⟩) 0 0) [] ∧ SlA W (.slice A m c) l)) ?_ ?_
  · have h1 := (Blk.new w 24 #[.int .i64 0, .int .i64 0, .int .i64 0, .slice Option.none 0 0])
    have h2 := below_new w (.cells #[.int .i64 0, .int .i64 0, .int .i64 0, .slice Option.none 0 0] 24)
    have h3 := irow_new (w.alloc (.cells #[.int .i64 0, .int .i64 0, .int .i64 0, .slice Option.none 0 0] 24)) (w.heap.size + 1) (by simp) [] (by simp) #[] rfl (0, 0) rfl
    have e : (w.alloc (.cells #[.int .i64 0, .int .i64 0, .int .i64 0, .slice Option.none 0 0] 24)).heap.size = w.heap.size + 1 := by simp
    rw [e] at h3
    have h4 := below_new (w.alloc (.cells #[.int .i64 0, .int .i64 0, .int .i64 0, .slice Option.none 0 0] 24)) (.cells #[] 3)
    have h5 := h2.trans (h4.mono (by simp))
    exact ⟨h1.keep h4 (by simp), h5, h3, HS.out.below h5⟩
  intro W0 HW0
  clear HS
  go_wp2
  go_loopw [4, 5] (fun vl vr wr => ∃ (k q : Nat) (A : Option Addr) (c : Nat) (zs : List Int), k ≤ m ∧ q = m - k ∧ vr = .slice A q c ∧ Hid (SlA wr (.slice A q c) (l.drop k)) ∧ Hid (takesF l = (takesF (l.drop k)).map (zs ++ ·)) ∧ zs.length ≤ k ∧ IRow wr (w.heap.size + 1) vl zs ∧ Hid (Blk wr w.heap.size 24 #[.int .i64 0, .int .i64 0, .int .i64 0, .slice Option.none 0 0] ∧ Below w.heap.size w wr ∧ w.heap.size < wr.heap.size)) (fun _ vr _ => lenS vr)
  case atStart => exact ⟨0, m, A, c, [], Nat.zero_le _, rfl, rfl, HW0.out.2.2.2, (by unfold Hid; rw [List.drop_zero]; cases takesF l <;> rfl), by simp, HW0.out.2.2.1, HW0.out.1, HW0.out.2.1, HW0.out.1.lt⟩
  case round =>
    obtain ⟨k, q, A, c, zs, hk, hq, rfl, HS, HE, hz, hI, HB⟩ := hrel
    obtain ⟨A4, c4, e4, _⟩ := hI.slI
    subst e4
    have HI := hid hI
    have HQ := hid hq
    clear hI hq HW0
    by_cases hlt : k < m
    · have hq0 : 0 < q := by have := HQ.out; omega
      have hne : l.drop k ≠ [] := fun e => by have h2 := congrArg List.length e; rw [List.length_drop, List.length_nil, HM.out] at h2; omega
      have HT := HK.out wr (.slice A q c) (l.drop k) (by rw [List.length_drop, HM.out]; omega) HS.out
      cases hk1 : tk (l.drop k) with
      | none =>
        rw [hk1] at HT
        have HT := hid HT
        have HN : Hid (decS l = none) := by
          refine decS_none ?_
          rw [HE.out, takesF_none hne hk1]
          rfl
        go_upto_region 6 with (go_at_call 43; refine HT.out.mono ?_; rintro e w1 ⟨rfl, hb1⟩)
        have HB1 : Hid (Blk w1 w.heap.size 24 #[.int .i64 0, .int .i64 0, .int .i64 0, .slice Option.none 0 0] ∧ Below w.heap.size w w1) := ⟨HB.out.1.keep hb1 HB.out.2.2, HB.out.2.1.trans (hb1.mono (by have := HB.out.2.2; omega))⟩
        have r0 : w1.cell? ⟨w.heap.size, 0, Option.none⟩ = some (.int .i64 0) := HB1.out.1.cell 0
        have r1 : w1.cell? ⟨w.heap.size, 1, Option.none⟩ = some (.int .i64 0) := HB1.out.1.cell 1
        have r2 : w1.cell? ⟨w.heap.size, 2, Option.none⟩ = some (.int .i64 0) := HB1.out.1.cell 2
        have r3 : w1.cell? ⟨w.heap.size, 3, Option.none⟩ = some (.slice Option.none 0 0) := HB1.out.1.cell 3
        have rf : ∀ j, w1.frozen? ⟨w.heap.size, j, Option.none⟩ = false := fun j => HB1.out.1.free j
        go_wp2
        refine bodyPost_ret (v := .tuple #[staV 0 0 0 (.slice Option.none 0 0), .bool false]) (by simp [results, Tryz.results12, go_sem, cell_set_eq9, r0, r1, r2, r3]) rfl ?_
        rw [HN.out]
        refine ⟨rfl, ?_⟩
        iterate 4 (refine Below.setCell ?_ (by simp) _)
        exact HB1.out.2
      | some pr =>
        obtain ⟨n, t⟩ := pr
        rw [hk1] at HT
        obtain ⟨_, ⟨j, j1, j2, j3, ht⟩, _⟩ := tk_less hk1
        have hdl : (l.drop k).length = q := by rw [List.length_drop, HM.out]; have := HQ.out; omega
        have et : t = l.drop (k + j) := by rw [ht, List.drop_drop]
        obtain ⟨r, hr⟩ : ∃ r, t.length = r := ⟨_, rfl⟩
        have hrj : r + j = q := by rw [← hr, ht, List.length_drop]; omega
        have hkj : k + j ≤ m := by have := HQ.out; omega
        have HT : Hid (Calls Tryz.prog 43 #[.slice A q c] wr fun e w' => ∃ A' c', e = .returned (.tuple #[.int .i64 (n : Int), .slice A' r c', .bool true]) ∧ Hid (SlA w' (.slice A' r c') (l.drop (k + j)) ∧ OwnN (.slice A' r c') wr.heap.size w'.heap.size) ∧ Below wr.heap.size wr w') := by
          refine HT.mono ?_
          rintro e w' ⟨v, rfl, hR, hb'⟩
          have hS := hR.sla
          have hO : OwnN v wr.heap.size w'.heap.size := fun k q => World.ownsRow.lt hR k q
          rw [et] at hS
          obtain ⟨A2, c2, rfl, _⟩ := id hS
          rw [← et, hr] at hS hO ⊢
          exact ⟨A2, c2, rfl, ⟨hS, hO⟩, hb'⟩
        have HN : Hid (takesF l = (takesF (l.drop (k + j))).map ((zs ++ [(n : Int)]) ++ ·)) := by
          unfold Hid
          rw [HE.out, takesF_some hk1, ← et]
          cases takesF t with
          | none => rfl
          | some x => show some (zs ++ ((n : Int) :: x)) = some ((zs ++ [(n : Int)]) ++ x); rw [List.append_assoc]; rfl
        have hw := HB.out.2.2
        clear hr hdl ht hk1 j3 et hne
        go_wp2_with (first
          | (go_at_call 43; refine HT.out.mono ?_; rintro e w1 ⟨A', c', rfl, HS', hb1⟩)
          | (at_builtin; refine wpList_append_ints rfl (.tmp 24) (.tmp 26) rfl rfl _ (w.heap.size + 1) _ zs rfl ((HI.out.below hb1).below (below_new _ _)) _ 1 [(n : Int)] rfl (one_holds _ _) (by simp; omega) (by have := hb1.size; simp; omega) ?_; intro v' w' hI' hb' hg'))
        go_roundw
        case rel =>
          have hbb : Below wr.heap.size wr (w1.alloc (.cells #[.int .i64 (n : Int)] 3)) := hb1.trans ((below_new _ _).mono hb1.size)
          refine ⟨k + j, _, _, _, zs ++ [(n : Int)], hkj, ?_, rfl, ?_, HN, by simp; omega, hI', ?_⟩
          · have := HQ.out; omega
          · exact (HS'.out.1.below (below_new _ _)).grown hg' fun b hb2 hb3 => by
              have h1 := HS'.out.2 b hb2
              have h2 := (World.ownsRow.lt HI.out b hb3).2
              omega
          · refine ⟨(HB.out.1.keep hbb HB.out.2.2).keep hb' (by omega), (HB.out.2.1.trans (hbb.mono (by omega))).trans (hb'.mono (by omega)), ?_⟩
            have h1 := hbb.size
            have h2 := hb'.size
            omega
        case measure => simp [lenS]; omega
    · have hq0 : q = 0 := by have := HQ.out; omega
      have HT : Hid (takesF l = some zs) := by
        have e : l.drop k = [] := List.eq_nil_of_length_eq_zero (by rw [List.length_drop, HM.out]; have := HQ.out; omega)
        have he := HE.out
        rw [e, takesF_nil] at he
        unfold Hid
        rw [he]
        show some (zs ++ []) = some zs
        rw [List.append_nil]
      go_upto_region 9 with (fail)
      have HB1 : Hid (Blk wr w.heap.size 24 #[.int .i64 0, .int .i64 0, .int .i64 0, .slice Option.none 0 0] ∧ Below w.heap.size w wr) := ⟨HB.out.1, HB.out.2.1⟩
      have h2 : zs.length ≤ 1000000 := by omega
      have h3 := HI.out
      clear HI HE HS HB HQ HK
      have r0 : wr.cell? ⟨w.heap.size, 0, Option.none⟩ = some (.int .i64 0) := HB1.out.1.cell 0
      have r1 : wr.cell? ⟨w.heap.size, 1, Option.none⟩ = some (.int .i64 0) := HB1.out.1.cell 1
      have r2 : wr.cell? ⟨w.heap.size, 2, Option.none⟩ = some (.int .i64 0) := HB1.out.1.cell 2
      have r3 : wr.cell? ⟨w.heap.size, 3, Option.none⟩ = some (.slice Option.none 0 0) := HB1.out.1.cell 3
      have rf : ∀ j, wr.frozen? ⟨w.heap.size, j, Option.none⟩ = false := fun j => HB1.out.1.free j
      have HO := hid h3.ownN
      obtain ⟨A2, c2, e2, h4, h5, h6, _⟩ := h3.slI
      injection e2 with e21 _ e22
      replace e21 := e21.symm
      replace e22 := e22.symm
      subst e21
      subst e22
      obtain ⟨m2, hm2⟩ : ∃ m2, zs.length = m2 := ⟨_, rfl⟩
      rw [hm2] at h2 h4 ⊢
      have HM := hid hm2
      clear h3 hm2
      by_cases h7 : m2 < 4
      · have hd : decS l = none := by
          unfold decS
          rw [HT.out]
          show staOf zs = none
          match zs, HM.out with
          | [], _ => rfl
          | [_], _ => rfl
          | [_, _], _ => rfl
          | [_, _, _], _ => rfl
          | _ :: _ :: _ :: _ :: t, e => simp at e; omega
        go_wp2
        refine bodyPost_ret (v := .tuple #[staV 0 0 0 (.slice Option.none 0 0), .bool false]) (by simp [results, Tryz.results12, go_sem, cell_set_eq9, r0, r1, r2, r3]) rfl ?_
        (try rw [hd])
        refine ⟨rfl, ?_⟩
        iterate 4 (refine Below.setCell ?_ (by simp) _)
        exact HB1.out.2
      · obtain ⟨B, o, rfl, hh⟩ := h6 (by have := HM.out; omega)
        obtain ⟨g, a, n, k, t, rfl⟩ : ∃ g a n k t, zs = g :: a :: n :: k :: t := by
          match zs, HM.out with
          | [], e => simp at e; omega
          | [_], e => simp at e; omega
          | [_, _], e => simp at e; omega
          | [_, _, _], e => simp at e; omega
          | g :: a :: n :: k :: t, _ => exact ⟨g, a, n, k, t, rfl⟩
        have q0 : wr.cell? ⟨B, o, Option.none⟩ = some (.int .i64 g) := hh 0 (by simp)
        have q1 : wr.cell? ⟨B, o + 1, Option.none⟩ = some (.int .i64 a) := hh 1 (by simp)
        have q2 : wr.cell? ⟨B, o + 2, Option.none⟩ = some (.int .i64 n) := hh 2 (by simp)
        have q3 : wr.cell? ⟨B, o + 3, Option.none⟩ = some (.int .i64 k) := hh 3 (by simp)
        have HH := hid hh
        have HD : Hid (decS l = if k = (t.length : Int) ∧ (⟨g, a, n, t⟩ : Sta).right = true then some ⟨g, a, n, t⟩ else none) := by unfold Hid decS; rw [HT.out]; rfl
        have hmt : m2 = t.length + 4 := by have := HM.out; simp only [List.length_cons] at this; omega
        have HMT := hid hmt
        clear hh h6
        by_cases h8 : k = ((m2 : Int) - 4)
        · have h9 : ((m2 : Int) - 4 != k) = false := by simp; omega
          have p0 : (0 : Int) < (m2 : Int) := by omega
          have p1 : (1 : Int) < (m2 : Int) := by omega
          have p2 : (2 : Int) < (m2 : Int) := by omega
          have p4 : (4 : Int) ≤ (m2 : Int) := by omega
          have p5 : 4 ≤ m2 := by omega
          have p6 : 0 < m2 := by omega
          have HMT2 := hid hmt
          have HK8 := hid h8
          clear hmt h8
          have HC3 : Hid (ThreeC B o g a n wr) := ⟨q0, q1, q2⟩
          go_upto_region 11 with (fail)
          refine wp_region_till 13 (ThreeC B o g a n) (by kernel_rfl) (HC3.out.drew) (fun hHeld => ?_)
          (refine wpAnyT_take (i := 0) (v := ?_) rfl (by kernel_rfl) (fun _ _ _ h => h) (Or.inl ⟨by kernel_rfl, ?_⟩) (by assumption) ?_; rotate_left; · (intro w hSw; (try dsimp only at hSw); go_split_ands; go_simp; first | done | with_reducible rfl))
          (try simp only [Act.put]); (try simp only [List.getElem_toArray]); (try simp only [List.getElem_cons_succ]); (try simp only [List.getElem_cons_zero]); (try simp only [List.setIfInBounds_toArray]); (try simp only [List.set_cons_succ]); (try simp only [List.set_cons_zero])
          (refine wpAnyT_take (i := 1) (v := ?_) rfl (by kernel_rfl) (fun _ _ _ h => h) (Or.inl ⟨by kernel_rfl, ?_⟩) (by assumption) ?_; rotate_left; · (intro w hSw; (try dsimp only at hSw); go_split_ands; go_simp; first | done | with_reducible rfl))
          (try simp only [Act.put]); (try simp only [List.getElem_toArray]); (try simp only [List.getElem_cons_succ]); (try simp only [List.getElem_cons_zero]); (try simp only [List.setIfInBounds_toArray]); (try simp only [List.set_cons_succ]); (try simp only [List.set_cons_zero])
          (refine wpAnyT_take (i := 2) (v := ?_) rfl (by kernel_rfl) (fun _ _ _ h => h) (Or.inl ⟨by kernel_rfl, ?_⟩) (by assumption) ?_; rotate_left; · (intro w hSw; (try dsimp only at hSw); go_split_ands; go_simp; first | done | with_reducible rfl))
          (try simp only [Act.put]); (try simp only [List.getElem_toArray]); (try simp only [List.getElem_cons_succ]); (try simp only [List.getElem_cons_zero]); (try simp only [List.setIfInBounds_toArray]); (try simp only [List.set_cons_succ]); (try simp only [List.set_cons_zero])
          (refine wpAnyT_take (i := 3) (v := ?_) rfl (by kernel_rfl) (fun _ _ _ h => h) (Or.inl ⟨by kernel_rfl, ?_⟩) (by assumption) ?_; rotate_left; · (intro w hSw; (try dsimp only at hSw); go_split_ands; go_simp; first | done | with_reducible rfl))
          (try simp only [Act.put]); (try simp only [List.getElem_toArray]); (try simp only [List.getElem_cons_succ]); (try simp only [List.getElem_cons_zero]); (try simp only [List.setIfInBounds_toArray]); (try simp only [List.set_cons_succ]); (try simp only [List.set_cons_zero])
          (refine wpAnyT_take (i := 4) (v := ?_) rfl (by kernel_rfl) (fun _ _ _ h => h) (Or.inl ⟨by kernel_rfl, ?_⟩) (by assumption) ?_; rotate_left; · (intro w hSw; (try dsimp only at hSw); go_split_ands; go_simp; first | done | with_reducible rfl))
          (try simp only [Act.put]); (try simp only [List.getElem_toArray]); (try simp only [List.getElem_cons_succ]); (try simp only [List.getElem_cons_zero]); (try simp only [List.setIfInBounds_toArray]); (try simp only [List.set_cons_succ]); (try simp only [List.set_cons_zero])
          (refine wpAnyT_take (i := 5) (v := ?_) rfl (by kernel_rfl) (fun _ _ _ h => h) (Or.inl ⟨by kernel_rfl, ?_⟩) (by assumption) ?_; rotate_left; · (intro w hSw; (try dsimp only at hSw); go_split_ands; go_simp; first | done | with_reducible rfl))
          (try simp only [Act.put]); (try simp only [List.getElem_toArray]); (try simp only [List.getElem_cons_succ]); (try simp only [List.getElem_cons_zero]); (try simp only [List.setIfInBounds_toArray]); (try simp only [List.set_cons_succ]); (try simp only [List.set_cons_zero])
          (refine wpAnyT_take (i := 6) (v := ?_) rfl (by kernel_rfl) (fun _ _ _ h => h) (Or.inl ⟨by kernel_rfl, ?_⟩) (by assumption) ?_; rotate_left; · (intro w hSw; (try dsimp only at hSw); go_split_ands; go_simp; first | done | with_reducible rfl))
          (try simp only [Act.put]); (try simp only [List.getElem_toArray]); (try simp only [List.getElem_cons_succ]); (try simp only [List.getElem_cons_zero]); (try simp only [List.setIfInBounds_toArray]); (try simp only [List.set_cons_succ]); (try simp only [List.set_cons_zero])
          (refine wpAnyT_take (i := 7) (v := ?_) rfl (by kernel_rfl) (fun _ _ _ h => h) (Or.inl ⟨by kernel_rfl, ?_⟩) (by assumption) ?_; rotate_left; · (intro w hSw; (try dsimp only at hSw); go_split_ands; go_simp; first | done | with_reducible rfl))
          (try simp only [Act.put]); (try simp only [List.getElem_toArray]); (try simp only [List.getElem_cons_succ]); (try simp only [List.getElem_cons_zero]); (try simp only [List.setIfInBounds_toArray]); (try simp only [List.set_cons_succ]); (try simp only [List.set_cons_zero])
          (refine wpAnyT_take (i := 8) (v := ?_) rfl (by kernel_rfl) (fun _ _ _ h => h) (Or.inl ⟨by kernel_rfl, ?_⟩) (by assumption) ?_; rotate_left; · (intro w hSw; (try dsimp only at hSw); go_split_ands; go_simp; first | done | with_reducible rfl))
          (try simp only [Act.put]); (try simp only [List.getElem_toArray]); (try simp only [List.getElem_cons_succ]); (try simp only [List.getElem_cons_zero]); (try simp only [List.setIfInBounds_toArray]); (try simp only [List.set_cons_succ]); (try simp only [List.set_cons_zero])
          (refine wpAnyT_take (i := 9) (v := ?_) rfl (by kernel_rfl) (fun _ _ _ h => h) (Or.inl ⟨by kernel_rfl, ?_⟩) (by assumption) ?_; rotate_left; · (intro w hSw; (try dsimp only at hSw); go_split_ands; go_simp; first | done | with_reducible rfl))
          (try simp only [Act.put]); (try simp only [List.getElem_toArray]); (try simp only [List.getElem_cons_succ]); (try simp only [List.getElem_cons_zero]); (try simp only [List.setIfInBounds_toArray]); (try simp only [List.set_cons_succ]); (try simp only [List.set_cons_zero])
          (refine wpAnyT_take (i := 10) (v := ?_) rfl (by kernel_rfl) (fun _ _ _ h => h) (Or.inl ⟨by kernel_rfl, ?_⟩) (by assumption) ?_; rotate_left; · (intro w hSw; (try dsimp only at hSw); go_split_ands; go_simp; first | done | with_reducible rfl))
          (try simp only [Act.put]); (try simp only [List.getElem_toArray]); (try simp only [List.getElem_cons_succ]); (try simp only [List.getElem_cons_zero]); (try simp only [List.setIfInBounds_toArray]); (try simp only [List.set_cons_succ]); (try simp only [List.set_cons_zero])
          (refine wpAnyT_take (i := 11) (v := ?_) rfl (by kernel_rfl) (fun _ _ _ h => h) (Or.inl ⟨by kernel_rfl, ?_⟩) (by assumption) ?_; rotate_left; · (intro w hSw; (try dsimp only at hSw); go_split_ands; go_simp; first | done | with_reducible rfl))
          (try simp only [Act.put]); (try simp only [List.getElem_toArray]); (try simp only [List.getElem_cons_succ]); (try simp only [List.getElem_cons_zero]); (try simp only [List.setIfInBounds_toArray]); (try simp only [List.set_cons_succ]); (try simp only [List.set_cons_zero])
          (refine wpAnyT_one (i := 12) (by kernel_rfl) rfl (fun K hK => ?_); go_simp; refine hK.out _ _ (.inr ?_) (fun hHeld => ?_))
          · exact hHeld.below (below_new _ _)
          replace hHeld := hHeld.resolve_left (by decide)
          clear hK K
          (try simp only [Act.put]); (try simp only [List.getElem_toArray]); (try simp only [List.getElem_cons_succ]); (try simp only [List.getElem_cons_zero]); (try simp only [List.setIfInBounds_toArray]); (try simp only [List.set_cons_succ]); (try simp only [List.set_cons_zero])
          (refine wpAnyT_one (i := 13) (by kernel_rfl) rfl (fun K hK => ?_); obtain ⟨r0, r1, r2⟩ := hHeld; go_simp; refine hK.out _ _ (.inl rfl) (fun _ => ?_))
          clear hK K
          (try simp only [Act.put]); (try simp only [List.getElem_toArray]); (try simp only [List.getElem_cons_succ]); (try simp only [List.getElem_cons_zero]); (try simp only [List.setIfInBounds_toArray]); (try simp only [List.set_cons_succ]); (try simp only [List.set_cons_zero])
          refine wpAnyT_done (by kernel_rfl) ?_ _
          have HV0 : Hid (SlI wr (.slice (if c2 = 4 then some ⟨B, o, Option.none⟩ else some ⟨B, o + 4, Option.none⟩) (m2 - 4) (c2 - 4)) t) := slI_drop HM.out h4 h5 HH.out 4 p5
          have HO : Hid (OwnN (.slice (if c2 = 4 then some ⟨B, o, Option.none⟩ else some ⟨B, o + 4, Option.none⟩) (m2 - 4) (c2 - 4)) (w.heap.size + 1) wr.heap.size) := by
            intro k q
            refine HO.out k ?_
            by_cases e : c2 = 4
            · rw [if_pos e] at q; exact q
            · rw [if_neg e] at q; exact q
          obtain ⟨A4, hA4⟩ : ∃ A4, (if c2 = 4 then some (⟨B, o, Option.none⟩ : Addr) else some ⟨B, o + 4, Option.none⟩) = A4 := ⟨_, rfl⟩
          obtain ⟨m4, hm4⟩ : ∃ m4, m2 - 4 = m4 := ⟨_, rfl⟩
          obtain ⟨c4, hc4⟩ : ∃ c4, c2 - 4 = c4 := ⟨_, rfl⟩
          rw [hA4, hm4, hc4] at HV0 HO ⊢
          clear hA4 hm4 hc4
          go_upto_region 12 with (fail)
          obtain ⟨b2, hb2⟩ : ∃ b2, wr.heap.size = b2 := ⟨_, rfl⟩
          refine wp_ltc (fun W => Hid (Blk W w.heap.size 24 #[.int .i64 0, .int .i64 0, .int .i64 0, .slice Option.none 0 0] ∧ Blk W b2 24 #[.int .i64 g, .int .i64 a, .int .i64 n, .slice A4 m4 c4] ∧ Below w.heap.size w W ∧ SlI W (.slice A4 m4 c4) t ∧ wr.heap.size ≤ W.heap.size)) ?_ ?_
          · refine ⟨HB1.out.1.keep (below_new _ _).drew HB1.out.1.lt, by rw [← hb2]; exact Blk.new _ _ _, (HB1.out.2.trans ((below_new _ _).mono HB1.out.2.size)).drew, HV0.out.below (below_new _ _).drew, by simp⟩
          rw [hb2] at HO ⊢
          intro W HW
          clear r0 r1 r2 r3 rf q0 q1 q2 q3 HB1 HV0 HC3 hHeld
          have g0 : W.cell? ⟨b2, 0, Option.none⟩ = some (.int .i64 g) := HW.out.2.1.cell 0
          have g1 : W.cell? ⟨b2, 1, Option.none⟩ = some (.int .i64 a) := HW.out.2.1.cell 1
          have g2 : W.cell? ⟨b2, 2, Option.none⟩ = some (.int .i64 n) := HW.out.2.1.cell 2
          have g3 : W.cell? ⟨b2, 3, Option.none⟩ = some (.slice A4 m4 c4) := HW.out.2.1.cell 3
          cases hR : (⟨g, a, n, t⟩ : Sta).right with
          | false =>
            have HR : Hid (decS l = none) := by unfold Hid; rw [HD.out, if_neg (fun e => by rw [hR] at e; cases e.2)]
            go_upto_region 13 with (go_at_call 16; refine (rright_any ⟨g, a, n, t⟩ (.slice A4 m4 c4) W HW.out.2.2.2.1).mono ?_; rintro e w3 ⟨rfl, hb3⟩; rw [hR])
            have HB3 : Hid (Blk w3 w.heap.size 24 #[.int .i64 0, .int .i64 0, .int .i64 0, .slice Option.none 0 0] ∧ Below w.heap.size w w3) := ⟨HW.out.1.keep hb3 HW.out.1.lt, HW.out.2.2.1.trans (hb3.mono HW.out.2.2.1.size)⟩
            have r0 : w3.cell? ⟨w.heap.size, 0, Option.none⟩ = some (.int .i64 0) := HB3.out.1.cell 0
            have r1 : w3.cell? ⟨w.heap.size, 1, Option.none⟩ = some (.int .i64 0) := HB3.out.1.cell 1
            have r2 : w3.cell? ⟨w.heap.size, 2, Option.none⟩ = some (.int .i64 0) := HB3.out.1.cell 2
            have r3 : w3.cell? ⟨w.heap.size, 3, Option.none⟩ = some (.slice Option.none 0 0) := HB3.out.1.cell 3
            have rf : ∀ j, w3.frozen? ⟨w.heap.size, j, Option.none⟩ = false := fun j => HB3.out.1.free j
            clear g0 g1 g2 g3
            go_wp2
            refine bodyPost_ret (v := .tuple #[staV 0 0 0 (.slice Option.none 0 0), .bool false]) (by simp [results, Tryz.results12, go_sem, cell_set_eq9, r0, r1, r2, r3]) rfl ?_
            rw [HR.out]
            refine ⟨rfl, ?_⟩
            iterate 4 (refine Below.setCell ?_ (by simp) _)
            exact HB3.out.2
          | true =>
            have HR : Hid (decS l = some ⟨g, a, n, t⟩) := by
              have h8 := HK8.out
              have := HMT2.out
              unfold Hid
              rw [HD.out, if_pos ⟨by omega, hR⟩]
            go_upto_region 14 with (go_at_call 16; refine (rright_any ⟨g, a, n, t⟩ (.slice A4 m4 c4) W HW.out.2.2.2.1).mono ?_; rintro e w3 ⟨rfl, hb3⟩; rw [hR])
            have HB3 : Hid (Blk w3 w.heap.size 24 #[.int .i64 0, .int .i64 0, .int .i64 0, .slice Option.none 0 0] ∧ Blk w3 b2 24 #[.int .i64 g, .int .i64 a, .int .i64 n, .slice A4 m4 c4] ∧ Below w.heap.size w w3 ∧ SlI w3 (.slice A4 m4 c4) t) := ⟨HW.out.1.keep hb3 HW.out.1.lt, HW.out.2.1.keep hb3 HW.out.2.1.lt, HW.out.2.2.1.trans (hb3.mono HW.out.2.2.1.size), HW.out.2.2.2.1.below hb3⟩
            have HO3 : Hid (OwnN (.slice A4 m4 c4) (w.heap.size + 1) w3.heap.size) := HO.out.mono (Nat.le_refl _) (Nat.le_trans HW.out.2.2.2.2 hb3.size)
            clear g0 g1 g2 g3
            have r0 : w3.cell? ⟨w.heap.size, 0, Option.none⟩ = some (.int .i64 0) := HB3.out.1.cell 0
            have r1 : w3.cell? ⟨w.heap.size, 1, Option.none⟩ = some (.int .i64 0) := HB3.out.1.cell 1
            have r2 : w3.cell? ⟨w.heap.size, 2, Option.none⟩ = some (.int .i64 0) := HB3.out.1.cell 2
            have r3 : w3.cell? ⟨w.heap.size, 3, Option.none⟩ = some (.slice Option.none 0 0) := HB3.out.1.cell 3
            have rf : ∀ j, w3.frozen? ⟨w.heap.size, j, Option.none⟩ = false := fun j => HB3.out.1.free j
            have g0 : w3.cell? ⟨b2, 0, Option.none⟩ = some (.int .i64 g) := HB3.out.2.1.cell 0
            have g1 : w3.cell? ⟨b2, 1, Option.none⟩ = some (.int .i64 a) := HB3.out.2.1.cell 1
            have g2 : w3.cell? ⟨b2, 2, Option.none⟩ = some (.int .i64 n) := HB3.out.2.1.cell 2
            have g3 : w3.cell? ⟨b2, 3, Option.none⟩ = some (.slice A4 m4 c4) := HB3.out.2.1.cell 3
            go_wp2
            refine bodyPost_ret (v := .tuple #[staV g a n (.slice A4 m4 c4), .bool true]) (by simp [results, Tryz.results12, go_sem, cell_set_eq9, r0, r1, r2, r3]) rfl ?_
            rw [HR.out]
            have hne : (Value.slice A4 m4 c4).ownBlock ≠ some w.heap.size := fun e => by have := HO3.out _ e; omega
            refine ⟨_, rfl, ?_, HO3.out.mono (by omega) (by simp), ?_⟩
            · exact (((HB3.out.2.2.2.set hne).set hne).set hne).set hne
            · iterate 4 (refine Below.setCell ?_ (by simp) _)
              exact HB3.out.2.2.1
        · have hd : decS l = none := by rw [HD.out, if_neg (fun e => h8 (by rw [e.1]; omega))]
          have h9 : ((m2 : Int) - 4 != k) = true := by simp; omega
          clear hmt h8
          go_wp2
          refine bodyPost_ret (v := .tuple #[staV 0 0 0 (.slice Option.none 0 0), .bool false]) (by simp [results, Tryz.results12, go_sem, cell_set_eq9, r0, r1, r2, r3]) rfl ?_
          (try rw [hd])
          refine ⟨rfl, ?_⟩
          iterate 4 (refine Below.setCell ?_ (by simp) _)
          exact HB1.out.2
end Go.Proofs.YtofkfafdodhmdaaGreatDoor
