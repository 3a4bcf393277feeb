/- The document's First and Read. Conditions: the slice holds its bytes, a million at most. -/
import Derived.Test.YtofkfafdodhmdaaGreatDoorMfH
import Derived.Test.YtofkfafdodhmdaaGreatDoorNH
import Derived.Test.YtofkfafdodhmdaaGreatDoorNQ
namespace Go.Proofs.YtofkfafdodhmdaaGreatDoor
open Go.RowKit

set_option maxHeartbeats 1000000 in
theorem rfirst_any (w : World) : Calls Tryz.prog 35 #[] w fun e w' => e = .returned (staV 0 0 1 (.slice Option.none 0 0)) ∧ Below w.heap.size w w' := by
  go_enter Tryz.func35, Tryz.ntmps35
  go_wp2
  refine bodyPost_ret (v := staV 0 0 1 (.slice Option.none 0 0)) (by simp [results, Tryz.results35, go_sem]) rfl ?_
  exact ⟨rfl, by repeat' (first | exact below_new _ _ | refine Below.setCell ?_ (by simp) _)⟩

set_option maxRecDepth 100000 in
set_option maxHeartbeats 16000000 in
theorem rread_any (v : Value) (l : List UInt8) (hlen : l.length ≤ 1000000) (w : World) (h : SlA w v l) :
    Calls Tryz.prog 14 #[v] w (RdsEnd w l) := by
  obtain ⟨xs, hxs⟩ : ∃ xs, (allF l).1 = xs := ⟨_, rfl⟩
  obtain ⟨N, hN⟩ : ∃ N, (allF l).2.1 = N := ⟨_, rfl⟩
  obtain ⟨Q, hQ⟩ : ∃ Q, (allF l).2.2 = Q := ⟨_, rfl⟩
  have HA : Hid (∀ W, Below w.heap.size w W → Calls Tryz.prog 45 #[v] W fun e w' => ∃ A5 c5, e = .returned (.tuple #[.slice A5 xs.length c5, .int .i64 (N : Int), .int .i64 (Q : Int)]) ∧ Hid (LsB w' (.slice A5 xs.length c5) xs) ∧ Below W.heap.size W w') := fun W hW => by
    refine (refAll_any v l hlen W (h.below hW)).mono ?_
    rintro e w' ⟨u, rfl, hR, hb⟩
    rw [hxs] at hR
    obtain ⟨A5, c5, rfl⟩ := hR.len
    rw [hN, hQ]
    exact ⟨A5, c5, rfl, hR.lsb, hb⟩
  have HRw : Hid ((∀ x ∈ xs, x.length ≤ 1000000) ∧ xs.length ≤ 1000000) := by
    obtain ⟨i1, i2, _⟩ := allF_rows _ l (Nat.le_refl _)
    rw [hxs] at i1 i2
    exact ⟨fun x hx => Nat.le_trans (i2 x hx) hlen, by omega⟩
  have HE : Hid (readS l = if Q = 2 then none else (foldS true sta0 xs).map fun s => (s, N)) := by unfold Hid readS; rw [hQ, hxs, hN]
  have HF : Hid (∀ e w', e = .returned (.tuple #[staV 0 0 0 (.slice Option.none 0 0), .int .i64 0, .int .i64 20]) → readS l = none → Below w.heap.size w w' → RdsEnd w l e w') := fun e w' h1 h2 h3 => ⟨by rw [h2]; exact h1, h3⟩
  obtain ⟨A, c, rfl, _⟩ := h
  generalize l.length = m at *
  clear hxs hN hQ hlen
  obtain ⟨m5, hm5⟩ : ∃ m5, xs.length = m5 := ⟨_, rfl⟩
  rw [hm5] at HA HRw
  have HM := hid hm5
  clear hm5
  go_enter Tryz.func14, Tryz.ntmps14
  go_upto_region 2 with (go_at_call 45; refine (HA.out _ (below_new _ _)).mono ?_; rintro e w1 ⟨A5, c5, rfl, HL, hb⟩)
  have HB1 : Hid (Blk w1 w.heap.size 24 #[.int .i64 0, .int .i64 0, .int .i64 0, .slice Option.none 0 0] ∧ Below w.heap.size w w1) := ⟨(Blk.new w _ _).keep hb (by simp), (below_new w _).trans (hb.mono (by simp))⟩
  clear hb HA
  by_cases hq2 : Q = 2
  · subst hq2
    have HN : Hid (readS l = none) := by unfold Hid; rw [HE.out, if_pos rfl]
    have r0 : w1.cell? ⟨w.heap.size, 0, Option.none⟩ = some (.int .i64 0) := HB1.out.1.cell 0
    have r1 : w1.cell? ⟨w.heap.size, 1, Option.none⟩ = some (.int .i64 0) := HB1.out.1.cell 1
    have r2 : w1.cell? ⟨w.heap.size, 2, Option.none⟩ = some (.int .i64 0) := HB1.out.1.cell 2
    have r3 : w1.cell? ⟨w.heap.size, 3, Option.none⟩ = some (.slice Option.none 0 0) := HB1.out.1.cell 3
    have rf : ∀ j, w1.frozen? ⟨w.heap.size, j, Option.none⟩ = false := fun j => HB1.out.1.free j
    go_wp2
    refine bodyPost_ret (v := .tuple #[staV 0 0 0 (.slice Option.none 0 0), .int .i64 0, .int .i64 20]) (by simp [results, Tryz.results14, go_sem, cell_set_eq9, r0, r1, r2, r3]) rfl ?_
    refine HF.out _ _ rfl HN.out ?_
    iterate 4 (refine Below.setCell ?_ (by simp) _)
    exact HB1.out.2
  have hq3 : ((Q : Int) == 2) = false := by simp; omega
  have HE2 : Hid (readS l = (foldS true sta0 xs).map fun s => (s, N)) := by unfold Hid; rw [HE.out, if_neg hq2]
  clear HE
  go_upto_region 5 with (go_at_call 35; refine (rfirst_any _).mono ?_; rintro e w2 ⟨rfl, hb2⟩)
  obtain ⟨b8, hb8⟩ : ∃ b8, w2.heap.size = b8 := ⟨_, rfl⟩
  have HW2 : Hid (Below w.heap.size w w2 ∧ LsB w2 (.slice A5 m5 c5) xs ∧ Blk w2 w.heap.size 24 #[.int .i64 0, .int .i64 0, .int .i64 0, .slice Option.none 0 0]) := ⟨HB1.out.2.trans (hb2.mono HB1.out.2.size), HL.out.below hb2, HB1.out.1.keep hb2 HB1.out.1.lt⟩
  refine wp_ltc (fun W => Hid (LastS W w.heap.size b8 24 sta0 (.slice Option.none 0 0) ∧ Below b8 w2 W ∧ b8 < W.heap.size)) ?_ ?_
  · rw [← hb8]
    have e1 := below_new w2 (.cells #[.int .i64 0, .int .i64 0, .int .i64 1, .slice Option.none 0 0] 24)
    exact ⟨⟨Blk.new _ _ _, slI_nil _, fun k q => (by cases q), HW2.out.2.2.keep e1 HW2.out.2.2.lt⟩, e1, by simp⟩
  rw [hb8]
  intro W HW
  have hsb : w.heap.size < b8 := by rw [← hb8]; exact HW2.out.2.2.lt
  have HL3 : Hid (∀ W', Below b8 w2 W' → LsB W' (.slice A5 m5 c5) xs ∧ Below w.heap.size w W') := fun W' h' => ⟨HW2.out.2.1.below (by rw [hb8]; exact h'), HW2.out.1.trans (h'.mono (by omega))⟩
  clear HL HB1 hb8 HW2
  go_wp2
  go_loopw [9] (fun vi wr => ∃ (k : Nat) (x : Sta) (A3 : Option Addr) (m3 c3 : Nat), k ≤ m5 ∧ vi = .int .i64 k ∧ Hid (foldS true sta0 (xs.take k) = some x ∧ (0 < k → x.right = true)) ∧ Hid (LastS wr w.heap.size b8 24 x (.slice A3 m3 c3) ∧ Below b8 w2 wr ∧ b8 < wr.heap.size)) (fun vi _ => m5 - (intOf vi).toNat)
  case atStart => exact ⟨0, sta0, _, _, _, Nat.zero_le _, rfl, ⟨by rw [List.take_zero]; rfl, fun h => by omega⟩, HW.out.1, HW.out.2.1, HW.out.2.2⟩
  case round =>
    obtain ⟨k, x, A3, m3, c3, hk, rfl, HX, HS⟩ := hrel
    obtain ⟨g, a, n, t⟩ := x
    have hBW : Hid (Below w.heap.size w wr) := (HL3.out wr HS.out.2.1).2
    have hLs : Hid (LsB wr (.slice A5 m5 c5) xs) := (HL3.out wr HS.out.2.1).1
    clear HW
    by_cases hlt : k < m5
    · have hkl : k < xs.length := by rw [HM.out]; exact hlt
      have hm6 : m5 ≤ 1000000 := HRw.out.2
      obtain ⟨B, o, A', c', rfl, hcell, hS⟩ := hLs.out.at k hkl
      obtain ⟨y, hy⟩ : ∃ y, xs[k] = y := ⟨_, rfl⟩
      have HT := hid (foldS_take hkl HX.out.1)
      rw [hy] at hcell hS HT
      have hyl : y.length ≤ 1000000 := HRw.out.1 y (by rw [← hy]; exact List.getElem_mem hkl)
      obtain ⟨my, hmy⟩ : ∃ my, y.length = my := ⟨_, rfl⟩
      have HD := rdecode_any (.slice A' y.length c') y hyl wr hS
      rw [hmy] at hcell HD
      have hs8 := HS.out.1.1.lt
      have q0 : wr.cell? ⟨b8, 0, Option.none⟩ = some (.int .i64 g) := HS.out.1.1.cell 0
      clear hy hyl hS hmy
      cases hd : decS y with
      | none =>
        have HN : Hid (readS l = none) := by
          have h1 := HT.out
          rw [hd] at h1
          unfold Hid
          rw [HE2.out, foldS_no (k + 1) h1]
          rfl
        rw [hd] at HD
        have HD := hid HD
        go_upto_region 10 with (go_at_call 12; refine HD.out.mono ?_; rintro e w3 ⟨rfl, hb3⟩)
        refine wp_ltc (fun W => Hid (Blk W w.heap.size 24 #[.int .i64 0, .int .i64 0, .int .i64 0, .slice Option.none 0 0] ∧ Below w.heap.size w W)) ?_ ?_
        · have e1 := below_new w3 (.cells #[.int .i64 0, .int .i64 0, .int .i64 0, .slice Option.none 0 0] 24)
          have e2 := hb3.trans (e1.mono hb3.size)
          exact ⟨HS.out.1.2.2.2.keep e2 HS.out.1.2.2.2.lt, hBW.out.trans (e2.mono hBW.out.size)⟩
        intro W5 HB5
        have r0 : W5.cell? ⟨w.heap.size, 0, Option.none⟩ = some (.int .i64 0) := HB5.out.1.cell 0
        have r1 : W5.cell? ⟨w.heap.size, 1, Option.none⟩ = some (.int .i64 0) := HB5.out.1.cell 1
        have r2 : W5.cell? ⟨w.heap.size, 2, Option.none⟩ = some (.int .i64 0) := HB5.out.1.cell 2
        have r3 : W5.cell? ⟨w.heap.size, 3, Option.none⟩ = some (.slice Option.none 0 0) := HB5.out.1.cell 3
        have rf : ∀ j, W5.frozen? ⟨w.heap.size, j, Option.none⟩ = false := fun j => HB5.out.1.free j
        clear q0 hcell hb3 hs8
        go_wp2
        refine bodyPost_ret (v := .tuple #[staV 0 0 0 (.slice Option.none 0 0), .int .i64 0, .int .i64 20]) (by simp [results, Tryz.results14, go_sem, cell_set_eq9, r0, r1, r2, r3]) rfl ?_
        refine HF.out _ _ rfl HN.out ?_
        iterate 4 (refine Below.setCell ?_ (by simp) _)
        exact HB5.out.2
      | some x =>
        rw [hd] at HD HT
        obtain ⟨g2, a2, n2, t2⟩ := x
        have HDx := hid hd
        have HD : Hid (Calls Tryz.prog 12 #[.slice A' my c'] wr fun e w' => ∃ A6 m6 c6, e = .returned (.tuple #[staV g2 a2 n2 (.slice A6 m6 c6), .bool true]) ∧ Hid (SlI w' (.slice A6 m6 c6) t2 ∧ OwnN (.slice A6 m6 c6) wr.heap.size w'.heap.size) ∧ Below wr.heap.size wr w') := by
          refine HD.mono ?_
          rintro e w' ⟨v, rfl, h1, h2, h3⟩
          obtain ⟨A6, c6, rfl, _⟩ := id h1
          exact ⟨A6, _, c6, rfl, ⟨h1, h2⟩, h3⟩
        clear hd
        by_cases hk0 : k = 0
        · have HG : Hid (foldS true sta0 (xs.take (k + 1)) = some ⟨g2, a2, n2, t2⟩) := by unfold Hid; rw [HT.out]; exact if_pos (.inl hk0)
          have hk1 : ¬ (0 < (k : Int)) := by omega
          clear hk0
          go_upto_region 11 with (go_at_call 12; refine HD.out.mono ?_; rintro e w3 ⟨A6, m6, c6, rfl, HV, hb3⟩)
          obtain ⟨b9, hb9⟩ : ∃ b9, w3.heap.size = b9 := ⟨_, rfl⟩
          refine wp_ltc (fun W => Hid (LastS W w.heap.size b8 24 ⟨g, a, n, t⟩ (.slice A3 m3 c3) ∧ Blk W b9 24 #[.int .i64 g2, .int .i64 a2, .int .i64 n2, .slice A6 m6 c6] ∧ SlI W (.slice A6 m6 c6) t2 ∧ Below b8 w2 W ∧ b8 < b9 ∧ b9 < W.heap.size)) ?_ ?_
          · have e1 := below_new w3 (.cells #[.int .i64 g2, .int .i64 a2, .int .i64 n2, .slice A6 m6 c6] 24)
            have e2 := hb3.trans (e1.mono hb3.size)
            have e3 := hb3.size
            refine ⟨HS.out.1.keep9 e2, by rw [← hb9]; exact Blk.new _ _ _, HV.out.1.below e1, HS.out.2.1.trans (e2.mono (by have := HS.out.2.2; omega)), by omega, by simp; omega⟩
          rw [hb9] at HV ⊢
          intro W5 HB5
          have q0 : W5.cell? ⟨b9, 0, Option.none⟩ = some (.int .i64 g2) := HB5.out.2.1.cell 0
          have q1 : W5.cell? ⟨b9, 1, Option.none⟩ = some (.int .i64 a2) := HB5.out.2.1.cell 1
          have q2 : W5.cell? ⟨b9, 2, Option.none⟩ = some (.int .i64 n2) := HB5.out.2.1.cell 2
          have q3 : W5.cell? ⟨b9, 3, Option.none⟩ = some (.slice A6 m6 c6) := HB5.out.2.1.cell 3
          have r0 : W5.cell? ⟨b8, 0, Option.none⟩ = some (.int .i64 g) := HB5.out.1.1.cell 0
          have r1 : W5.cell? ⟨b8, 1, Option.none⟩ = some (.int .i64 a) := HB5.out.1.1.cell 1
          have r2 : W5.cell? ⟨b8, 2, Option.none⟩ = some (.int .i64 n) := HB5.out.1.1.cell 2
          have r3 : W5.cell? ⟨b8, 3, Option.none⟩ = some (.slice A3 m3 c3) := HB5.out.1.1.cell 3
          have rf : ∀ j, W5.frozen? ⟨b8, j, Option.none⟩ = false := fun j => HB5.out.1.1.free j
          clear hcell hb3 hs8 hb9
          go_wp2
          go_roundw
          case rel =>
            refine ⟨k + 1, ⟨g2, a2, n2, t2⟩, A6, m6, c6, by omega, by go_num, ⟨HG.out, fun _ => dec_right HDx.out⟩, ?_⟩
            have hO : OwnN (.slice A6 m6 c6) (b8 + 1) W5.heap.size := HV.out.2.mono (by have := HS.out.2.2; omega) (by have := HB5.out.2.2.2.2.2; omega)
            refine ⟨LastS.set9 (y := ⟨g2, a2, n2, t2⟩) HB5.out.1 HB5.out.2.2.1 hO hsb, ?_, by simp; have := HB5.out.2.2.2.2; omega⟩
            iterate 4 (refine Below.setCell ?_ (by simp) _)
            exact HB5.out.2.2.2.1
          case measure => simp [intOf]; omega
        have hk1 : 0 < (k : Int) := by omega
        have hgr := ((Sta.right_iff _).1 (HX.out.2 (by omega))).g1
        have hg0 := ((Sta.right_iff _).1 (HX.out.2 (by omega))).g0
        dsimp only at hgr hg0
        by_cases hgg : g2 = g + 1
        · have HG : Hid (foldS true sta0 (xs.take (k + 1)) = some ⟨g2, a2, n2, t2⟩) := by unfold Hid; rw [HT.out]; exact if_pos (.inr hgg)
          have hgb : (g2 != g + 1) = false := by simpa using hgg
          clear hk0 hgg
          go_upto_region 11 with (go_at_call 12; refine HD.out.mono ?_; rintro e w3 ⟨A6, m6, c6, rfl, HV, hb3⟩; have z0 : ∀ o, (w3.alloc o).cell? ⟨b8, 0, Option.none⟩ = some (.int .i64 g) := fun o => ((HS.out.1.1.keep hb3 hs8).keep (below_new _ _) (Nat.lt_of_lt_of_le hs8 hb3.size)).cell 0)
          obtain ⟨b9, hb9⟩ : ∃ b9, w3.heap.size = b9 := ⟨_, rfl⟩
          refine wp_ltc (fun W => Hid (LastS W w.heap.size b8 24 ⟨g, a, n, t⟩ (.slice A3 m3 c3) ∧ Blk W b9 24 #[.int .i64 g2, .int .i64 a2, .int .i64 n2, .slice A6 m6 c6] ∧ SlI W (.slice A6 m6 c6) t2 ∧ Below b8 w2 W ∧ b8 < b9 ∧ b9 < W.heap.size)) ?_ ?_
          · have e1 := below_new w3 (.cells #[.int .i64 g2, .int .i64 a2, .int .i64 n2, .slice A6 m6 c6] 24)
            have e2 := hb3.trans (e1.mono hb3.size)
            have e3 := hb3.size
            refine ⟨HS.out.1.keep9 e2, by rw [← hb9]; exact Blk.new _ _ _, HV.out.1.below e1, HS.out.2.1.trans (e2.mono (by have := HS.out.2.2; omega)), by omega, by simp; omega⟩
          rw [hb9] at HV ⊢
          intro W5 HB5
          have q0 : W5.cell? ⟨b9, 0, Option.none⟩ = some (.int .i64 g2) := HB5.out.2.1.cell 0
          have q1 : W5.cell? ⟨b9, 1, Option.none⟩ = some (.int .i64 a2) := HB5.out.2.1.cell 1
          have q2 : W5.cell? ⟨b9, 2, Option.none⟩ = some (.int .i64 n2) := HB5.out.2.1.cell 2
          have q3 : W5.cell? ⟨b9, 3, Option.none⟩ = some (.slice A6 m6 c6) := HB5.out.2.1.cell 3
          have r0 : W5.cell? ⟨b8, 0, Option.none⟩ = some (.int .i64 g) := HB5.out.1.1.cell 0
          have r1 : W5.cell? ⟨b8, 1, Option.none⟩ = some (.int .i64 a) := HB5.out.1.1.cell 1
          have r2 : W5.cell? ⟨b8, 2, Option.none⟩ = some (.int .i64 n) := HB5.out.1.1.cell 2
          have r3 : W5.cell? ⟨b8, 3, Option.none⟩ = some (.slice A3 m3 c3) := HB5.out.1.1.cell 3
          have rf : ∀ j, W5.frozen? ⟨b8, j, Option.none⟩ = false := fun j => HB5.out.1.1.free j
          clear hcell hb3 hs8 hb9
          go_wp2
          go_roundw
          case rel =>
            refine ⟨k + 1, ⟨g2, a2, n2, t2⟩, A6, m6, c6, by omega, by go_num, ⟨HG.out, fun _ => dec_right HDx.out⟩, ?_⟩
            have hO : OwnN (.slice A6 m6 c6) (b8 + 1) W5.heap.size := HV.out.2.mono (by have := HS.out.2.2; omega) (by have := HB5.out.2.2.2.2.2; omega)
            refine ⟨LastS.set9 (y := ⟨g2, a2, n2, t2⟩) HB5.out.1 HB5.out.2.2.1 hO hsb, ?_, by simp; have := HB5.out.2.2.2.2; omega⟩
            iterate 4 (refine Below.setCell ?_ (by simp) _)
            exact HB5.out.2.2.2.1
          case measure => simp [intOf]; omega
        have HN : Hid (readS l = none) := by
          have h1 : foldS true sta0 (xs.take (k + 1)) = none := by rw [HT.out]; exact if_neg (fun e => e.elim hk0 hgg)
          unfold Hid
          rw [HE2.out, foldS_no (k + 1) h1]
          rfl
        have hgb : (g2 != g + 1) = true := by simpa using hgg
        clear hk0 hgg
        go_upto_region 10 with (go_at_call 12; refine HD.out.mono ?_; rintro e w3 ⟨A6, m6, c6, rfl, HV, hb3⟩; have z0 : ∀ o, (w3.alloc o).cell? ⟨b8, 0, Option.none⟩ = some (.int .i64 g) := fun o => ((HS.out.1.1.keep hb3 hs8).keep (below_new _ _) (Nat.lt_of_lt_of_le hs8 hb3.size)).cell 0)
        refine wp_ltc (fun W => Hid (Blk W w.heap.size 24 #[.int .i64 0, .int .i64 0, .int .i64 0, .slice Option.none 0 0] ∧ Below w.heap.size w W)) ?_ ?_
        · have e1 := below_new w3 (.cells #[.int .i64 g2, .int .i64 a2, .int .i64 n2, .slice A6 m6 c6] 24)
          have e2 := hb3.trans (e1.mono hb3.size)
          exact ⟨HS.out.1.2.2.2.keep e2 HS.out.1.2.2.2.lt, hBW.out.trans (e2.mono hBW.out.size)⟩
        intro W5 HB5
        have r0 : W5.cell? ⟨w.heap.size, 0, Option.none⟩ = some (.int .i64 0) := HB5.out.1.cell 0
        have r1 : W5.cell? ⟨w.heap.size, 1, Option.none⟩ = some (.int .i64 0) := HB5.out.1.cell 1
        have r2 : W5.cell? ⟨w.heap.size, 2, Option.none⟩ = some (.int .i64 0) := HB5.out.1.cell 2
        have r3 : W5.cell? ⟨w.heap.size, 3, Option.none⟩ = some (.slice Option.none 0 0) := HB5.out.1.cell 3
        have rf : ∀ j, W5.frozen? ⟨w.heap.size, j, Option.none⟩ = false := fun j => HB5.out.1.free j
        clear q0 hcell hb3 hs8
        go_wp2
        refine bodyPost_ret (v := .tuple #[staV 0 0 0 (.slice Option.none 0 0), .int .i64 0, .int .i64 20]) (by simp [results, Tryz.results14, go_sem, cell_set_eq9, r0, r1, r2, r3]) rfl ?_
        refine HF.out _ _ rfl HN.out ?_
        iterate 4 (refine Below.setCell ?_ (by simp) _)
        exact HB5.out.2
    · have ek : k = m5 := by omega
      subst ek
      have HE3 : Hid (readS l = some (⟨g, a, n, t⟩, N)) := by
        have h1 := HX.out.1
        rw [List.take_of_length_le (by rw [HM.out]; omega)] at h1
        unfold Hid
        rw [HE2.out, h1]
        rfl
      have q0 : wr.cell? ⟨b8, 0, Option.none⟩ = some (.int .i64 g) := HS.out.1.1.cell 0
      have q1 : wr.cell? ⟨b8, 1, Option.none⟩ = some (.int .i64 a) := HS.out.1.1.cell 1
      have q2 : wr.cell? ⟨b8, 2, Option.none⟩ = some (.int .i64 n) := HS.out.1.1.cell 2
      have q3 : wr.cell? ⟨b8, 3, Option.none⟩ = some (.slice A3 m3 c3) := HS.out.1.1.cell 3
      have r0 : wr.cell? ⟨w.heap.size, 0, Option.none⟩ = some (.int .i64 0) := HS.out.1.2.2.2.cell 0
      have r1 : wr.cell? ⟨w.heap.size, 1, Option.none⟩ = some (.int .i64 0) := HS.out.1.2.2.2.cell 1
      have r2 : wr.cell? ⟨w.heap.size, 2, Option.none⟩ = some (.int .i64 0) := HS.out.1.2.2.2.cell 2
      have r3 : wr.cell? ⟨w.heap.size, 3, Option.none⟩ = some (.slice Option.none 0 0) := HS.out.1.2.2.2.cell 3
      have rf : ∀ j, wr.frozen? ⟨w.heap.size, j, Option.none⟩ = false := fun j => HS.out.1.2.2.2.free j
      have HO : Hid (OwnN (.slice A3 m3 c3) w.heap.size wr.heap.size ∧ (Value.slice A3 m3 c3).ownBlock ≠ some w.heap.size) := ⟨HS.out.1.2.2.1.mono (by omega) (Nat.le_refl _), fun e => by have := HS.out.1.2.2.1 _ e; omega⟩
      go_wp2
      refine bodyPost_ret (v := .tuple #[staV g a n (.slice A3 m3 c3), .int .i64 N, .int .i64 0]) (by simp [results, Tryz.results14, go_sem, cell_set_eq9, r0, r1, r2, r3]) rfl ?_
      refine ⟨?_, ?_⟩
      · rw [HE3.out]
        exact ⟨_, rfl, (((HS.out.1.2.1.set HO.out.2).set HO.out.2).set HO.out.2).set HO.out.2, HO.out.1.mono (Nat.le_refl _) (by simp)⟩
      · iterate 4 (refine Below.setCell ?_ (by simp) _)
        exact hBW.out
end Go.Proofs.YtofkfafdodhmdaaGreatDoor
