/- The document's Decode of layer 3 at any bytes: the cell whose bytes they are, or none. Conditions: the slice holds the bytes, four thousand at most. -/
import Derived.Test.YtfcnobcpnhfgmaaGreatDoorEG
namespace Go.Proofs.YtfcnobcpnhfgmaaGreatDoor
open Go.RowKit

set_option maxRecDepth 100000 in
set_option maxHeartbeats 4000000 in
theorem refdec_a (v : Value) (l : List UInt8) (hl : l.length ≤ 4000) (w : World) (h : SlA w v l) (h1 : unE l = none) :
    Calls Tryz.prog 59 #[v] w (DEnd l w) := by
  have HV := hid (slu_of h)
  have HB0 : Hid (Below w.heap.size w ((w.alloc (.cells zeroA 26)).alloc (.cells zeroA 26))) := (RSt.new w).bw
  have HU1 : Hid (∀ W, Below w.heap.size w W → Calls Tryz.prog 119 #[v] W fun e w' => e = .returned (.tuple #[.string ⟨#[]⟩, .slice none 0 0, .bool false]) ∧ Below W.heap.size W w') := fun W hW => uns_no v l hl w.heap.size W (HV.out.keep hW) h1
  have HE := hid (no_head (unE_none h1))
  clear h h1 HV
  go_enter Tryz.func59, Tryz.ntmps59
  go_wp2_with (go_at_call 119; (refine (HU1.out _ HB0.out).mono ?_); rintro e w1 ⟨rfl, hb1⟩; have HR := hid ((RSt.new w).below hb1); have r0 : w1.cell? ⟨w.heap.size, 0, none⟩ = some (.string ⟨#[]⟩) := HR.out.r.cell 0; have r1 : w1.cell? ⟨w.heap.size, 1, none⟩ = some (.string ⟨#[]⟩) := HR.out.r.cell 1; have r2 : w1.cell? ⟨w.heap.size, 2, none⟩ = some (.string ⟨#[]⟩) := HR.out.r.cell 2; have r3 : w1.cell? ⟨w.heap.size, 3, none⟩ = some (.int .i64 0) := HR.out.r.cell 3; have r4 : w1.cell? ⟨w.heap.size, 4, none⟩ = some (.int .i64 0) := HR.out.r.cell 4; have r5 : w1.cell? ⟨w.heap.size, 5, none⟩ = some (.int .i64 0) := HR.out.r.cell 5; have r6 : w1.cell? ⟨w.heap.size, 6, none⟩ = some (.int .i64 0) := HR.out.r.cell 6; have r7 : w1.cell? ⟨w.heap.size, 7, none⟩ = some (.string ⟨#[]⟩) := HR.out.r.cell 7; have rf : ∀ j, w1.frozen? ⟨w.heap.size, j, none⟩ = false := (fun j => HR.out.r.free j))
  refine bodyPost_ret (v := .tuple #[cellV ⟨#[]⟩ ⟨#[]⟩ ⟨#[]⟩ 0 0 0 0 ⟨#[]⟩, .bool false]) (by simp [results, Tryz.results59, go_sem, cell_set_same, r0, r1, r2, r3, r4, r5, r6, r7]) rfl ?_
  refine ⟨?_, .inr ⟨HE.out, rfl⟩⟩
  iterate 8 (refine Below.setCell ?_ (by simp) _)
  exact HR.out.bw
set_option maxRecDepth 100000 in
set_option maxHeartbeats 4000000 in
theorem refdec_b (v : Value) (l : List UInt8) (hl : l.length ≤ 4000) (w : World) (h : SlA w v l) {r : List UInt8} {k1 : Nat} (h1 : unE l = some (r, k1)) (h2 : unE (l.drop k1) = none) :
    Calls Tryz.prog 59 #[v] w (DEnd l w) := by
  have HV := hid (slu_of h)
  have HB0 : Hid (Below w.heap.size w ((w.alloc (.cells zeroA 26)).alloc (.cells zeroA 26))) := (RSt.new w).bw
  obtain ⟨R, hR⟩ : ∃ R : ByteArray, (⟨r.toArray⟩ : ByteArray) = R := ⟨_, rfl⟩
  have HU1 : Hid (∀ W, Below w.heap.size w W → Calls Tryz.prog 119 #[v] W fun e w' => ∃ b o n c, e = .returned (.tuple #[.string R, .slice (some ⟨b, o, none⟩) n c, .bool true]) ∧ SlU w' w.heap.size (.slice (some ⟨b, o, none⟩) n c) (l.drop k1) ∧ Below W.heap.size W w') := fun W hW => by
    rw [← hR]; exact uns_yes v l hl w.heap.size W (HV.out.keep hW) hW.size h1
  have hl1 : (l.drop k1).length ≤ 4000 := by rw [List.length_drop]; omega
  have HU2 : Hid (∀ W u, SlU W w.heap.size u (l.drop k1) → Calls Tryz.prog 119 #[u] W fun e w' => e = .returned (.tuple #[.string ⟨#[]⟩, .slice none 0 0, .bool false]) ∧ Below W.heap.size W w') := fun W u hu => uns_no u _ hl1 w.heap.size W hu h2
  have HE := hid (no_fam (unE_some h1) (unE_none h2))
  clear h h1 h2 HV hl1 hR
  go_enter Tryz.func59, Tryz.ntmps59
  go_wp2_with (first
    | (go_at_call 119; (with_reducible refine (HU1.out _ HB0.out).mono ?_); rintro e w1 ⟨b1, o1, n1, c1, rfl, hS1, hb1⟩; have hz1 : w.heap.size ≤ w1.heap.size := (HB0.out.trans (hb1.mono HB0.out.size)).size; have HZ1 := hid ((RSt.new w).below hb1))
    | (go_at_call 119; (with_reducible refine (HU2.out _ _ hS1).mono ?_); rintro e w2 ⟨rfl, hb2⟩; have HR := hid (HZ1.out.below hb2); have r0 : w2.cell? ⟨w.heap.size, 0, none⟩ = some (.string ⟨#[]⟩) := HR.out.r.cell 0; have r1 : w2.cell? ⟨w.heap.size, 1, none⟩ = some (.string ⟨#[]⟩) := HR.out.r.cell 1; have r2 : w2.cell? ⟨w.heap.size, 2, none⟩ = some (.string ⟨#[]⟩) := HR.out.r.cell 2; have r3 : w2.cell? ⟨w.heap.size, 3, none⟩ = some (.int .i64 0) := HR.out.r.cell 3; have r4 : w2.cell? ⟨w.heap.size, 4, none⟩ = some (.int .i64 0) := HR.out.r.cell 4; have r5 : w2.cell? ⟨w.heap.size, 5, none⟩ = some (.int .i64 0) := HR.out.r.cell 5; have r6 : w2.cell? ⟨w.heap.size, 6, none⟩ = some (.int .i64 0) := HR.out.r.cell 6; have r7 : w2.cell? ⟨w.heap.size, 7, none⟩ = some (.string ⟨#[]⟩) := HR.out.r.cell 7; have rf : ∀ j, w2.frozen? ⟨w.heap.size, j, none⟩ = false := (fun j => HR.out.r.free j)))
  refine bodyPost_ret (v := .tuple #[cellV ⟨#[]⟩ ⟨#[]⟩ ⟨#[]⟩ 0 0 0 0 ⟨#[]⟩, .bool false]) (by simp [results, Tryz.results59, go_sem, cell_set_same, r0, r1, r2, r3, r4, r5, r6, r7]) rfl ?_
  refine ⟨?_, .inr ⟨HE.out, rfl⟩⟩
  iterate 8 (refine Below.setCell ?_ (by simp) _)
  exact HR.out.bw
set_option maxRecDepth 100000 in
set_option maxHeartbeats 4000000 in
theorem refdec_wh (v : Value) (l : List UInt8) (hl : l.length ≤ 4000) (w : World) (h : SlA w v l) {r : List UInt8} {k1 : Nat} (h1 : unE l = some (r, k1)) {f : List UInt8} {k2 : Nat} (h2 : unE (l.drop k1) = some (f, k2)) (l3 : List UInt8) (h3 : (l.drop k1).drop k2 = 0 :: 0 :: l3) :
    Calls Tryz.prog 59 #[v] w (DEnd l w) := by
  have HV := hid (slu_of h)
  have HB0 : Hid (Below w.heap.size w ((w.alloc (.cells zeroA 26)).alloc (.cells zeroA 26))) := (RSt.new w).bw
  obtain ⟨R, hR⟩ : ∃ R : ByteArray, (⟨r.toArray⟩ : ByteArray) = R := ⟨_, rfl⟩
  have HU1 : Hid (∀ W, Below w.heap.size w W → Calls Tryz.prog 119 #[v] W fun e w' => ∃ b o n c, e = .returned (.tuple #[.string R, .slice (some ⟨b, o, none⟩) n c, .bool true]) ∧ SlU w' w.heap.size (.slice (some ⟨b, o, none⟩) n c) (l.drop k1) ∧ Below W.heap.size W w') := fun W hW => by
    rw [← hR]; exact uns_yes v l hl w.heap.size W (HV.out.keep hW) hW.size h1
  have hl1 : (l.drop k1).length ≤ 4000 := by rw [List.length_drop]; omega
  obtain ⟨F, hF⟩ : ∃ F : ByteArray, (⟨f.toArray⟩ : ByteArray) = F := ⟨_, rfl⟩
  have HU2 : Hid (∀ W u, w.heap.size ≤ W.heap.size → SlU W w.heap.size u (l.drop k1) → Calls Tryz.prog 119 #[u] W fun e w' => ∃ b o n c, e = .returned (.tuple #[.string F, .slice (some ⟨b, o, none⟩) n c, .bool true]) ∧ SlU w' w.heap.size (.slice (some ⟨b, o, none⟩) n c) ((l.drop k1).drop k2) ∧ Below W.heap.size W w') := fun W u hz hu => by
    rw [← hF]; exact uns_yes u _ hl1 w.heap.size W hu hz h2
  have hl2 : ((l.drop k1).drop k2).length ≤ 4000 := by rw [List.length_drop]; omega
  have HRl : Hid (R.data.toList = r) := by unfold Hid; rw [← hR]
  have HFl : Hid (F.data.toList = f) := by unfold Hid; rw [← hF]
  have HRD : Hid (rdT l = some (R.data.toList, l.drop k1) ∧ rdT (l.drop k1) = some (F.data.toList, (l.drop k1).drop k2)) := by rw [HRl.out, HFl.out]; exact ⟨unE_some h1, unE_some h2⟩
  have HFz : Hid (F.size ≤ 9223372036854775807) := by
    have a := rdT_small HRD.out.2
    have b : F.data.toList.length = F.size := by simp
    unfold Hid; omega
  generalize hle2 : (l.drop k1).drop k2 = l2 at *
  clear h h1 h2 hR hF HRl HFl hle2
  subst h3
  go_enter Tryz.func59, Tryz.ntmps59
  go_upto_region 10 with (first
    | (go_at_call 119; (with_reducible refine (HU1.out _ HB0.out).mono ?_); rintro e w1 ⟨b1, o1, n1, c1, rfl, hS1, hb1⟩; have hz1 : w.heap.size ≤ w1.heap.size := (HB0.out.trans (hb1.mono HB0.out.size)).size; have HZ1 := hid ((RSt.new w).below hb1))
    | (go_at_call 119; (with_reducible refine (HU2.out _ _ hz1 hS1).mono ?_); rintro e w2 ⟨b2, o2, n2, c2, rfl, hS2, hb2⟩; have HZ := hid (HZ1.out.below hb2); have z0 : w2.cell? ⟨w.heap.size + 1, 0, none⟩ = some (.string ⟨#[]⟩) := HZ.out.c.cell 0; have z1 : w2.cell? ⟨w.heap.size + 1, 1, none⟩ = some (.string ⟨#[]⟩) := HZ.out.c.cell 1; have zf : ∀ j, w2.frozen? ⟨w.heap.size + 1, j, none⟩ = false := (fun j => HZ.out.c.free j)))
  refine wp_ltr (fun W => RSt w W #[.string R, .string F, .string ⟨#[]⟩, .int .i64 0, .int .i64 0, .int .i64 0, .int .i64 0, .string ⟨#[]⟩] ∧ SlU W w.heap.size (.slice (some ⟨b2, o2, none⟩) n2 c2) (0 :: 0 :: l3)) ⟨(HZ.out.set 0 (.string R)).set 1 (.string F), (hS2.keep ((Below.refl _ _).setCell (p := ⟨w.heap.size + 1, 0, none⟩) (by simp) _)).keep ((Below.refl _ _).setCell (p := ⟨w.heap.size + 1, 1, none⟩) (by simp) _)⟩ (fun W hW => ?_)
  obtain ⟨hC, hS⟩ := hW
  obtain ⟨hn2, hnc, hcm⟩ := hS.len
  have HC := hid hC
  have HS2 := hid hS
  clear hC hS HZ HZ1 HU1 HU2 HB0 hz1 hb1 hb2 hS1 hS2 z0 z1 zf hl1
  obtain ⟨n3, hn3⟩ : ∃ n3, l3.length = n3 := ⟨_, rfl⟩
  have HN3 := hid hn3
  obtain rfl : n2 = n3 + 2 := by simp only [List.length_cons] at hn2; omega
  obtain ⟨c3, rfl⟩ : ∃ c3, c2 = c3 + 2 := ⟨c2 - 2, by omega⟩
  have HSZ : Hid (F.size ≤ 9223372036854775807 ∧ n3 ≤ 4000) := ⟨HFz.out, by simp only [List.length_cons] at hl2; omega⟩
  have HTK : Hid (Took l R.data.toList F.data.toList (⟨#[]⟩ : ByteArray).data.toList true l3) := ⟨_, _, HRD.out.1, HRD.out.2, .inl ⟨rfl, rfl, rfl⟩⟩
  have HH2 := HS2.out.holds (by simp)
  have g0 : W.cell? ⟨b2, o2, none⟩ = some (.int .u8 0) := HH2.1 0 (by simp)
  have g1 : W.cell? ⟨b2, o2 + 1, none⟩ = some (.int .u8 0) := HH2.1 1 (by simp)
  clear hn3 hn2 hl2 HH2 HFz HRD
  by_cases hc0 : c3 = 0
  · subst hc0
    obtain rfl : n3 = 0 := by omega
    have HE : Hid (NoCell l) := HTK.out.short (by rw [HN3.out]; omega)
    have r0 : W.cell? ⟨w.heap.size, 0, none⟩ = some (.string ⟨#[]⟩) := HC.out.r.cell 0
    have r1 : W.cell? ⟨w.heap.size, 1, none⟩ = some (.string ⟨#[]⟩) := HC.out.r.cell 1
    have r2 : W.cell? ⟨w.heap.size, 2, none⟩ = some (.string ⟨#[]⟩) := HC.out.r.cell 2
    have r3 : W.cell? ⟨w.heap.size, 3, none⟩ = some (.int .i64 0) := HC.out.r.cell 3
    have r4 : W.cell? ⟨w.heap.size, 4, none⟩ = some (.int .i64 0) := HC.out.r.cell 4
    have r5 : W.cell? ⟨w.heap.size, 5, none⟩ = some (.int .i64 0) := HC.out.r.cell 5
    have r6 : W.cell? ⟨w.heap.size, 6, none⟩ = some (.int .i64 0) := HC.out.r.cell 6
    have r7 : W.cell? ⟨w.heap.size, 7, none⟩ = some (.string ⟨#[]⟩) := HC.out.r.cell 7
    have rf : ∀ j, W.frozen? ⟨w.heap.size, j, none⟩ = false := (fun j => HC.out.r.free j)
    go_wp2
    refine bodyPost_ret (v := .tuple #[cellV ⟨#[]⟩ ⟨#[]⟩ ⟨#[]⟩ 0 0 0 0 ⟨#[]⟩, .bool false]) (by simp [results, Tryz.results59, go_sem, cell_set_same, r0, r1, r2, r3, r4, r5, r6, r7]) rfl ?_
    refine ⟨?_, .inr ⟨HE.out, rfl⟩⟩
    iterate 8 (refine Below.setCell ?_ (by simp) _)
    exact HC.out.bw
  · have HS : Hid (SlU W w.heap.size (.slice (some ⟨b2, o2 + 2, none⟩) n3 c3) l3) := slu_cut HS2.out 2 (by simp) (by omega) (by omega)
    have hnc3 : n3 ≤ c3 := by omega
    have hcm3 : c3 ≤ 9223372036854775807 := by omega
    go_upto_region 17 with (fail)
    clear g0 g1 HS2 hnc hcm
    obtain ⟨o3, ho3⟩ : ∃ o3, o2 + 2 = o3 := ⟨_, rfl⟩
    rw [ho3] at HS ⊢
    obtain ⟨b3, hb3⟩ : ∃ b3, b2 = b3 := ⟨_, rfl⟩
    rw [hb3] at HS ⊢
    clear ho3 hb3
    by_cases h9 : n3 < 9
    · have HE : Hid (NoCell l) := HTK.out.short (by rw [HN3.out]; exact h9)
      have r0 : W.cell? ⟨w.heap.size, 0, none⟩ = some (.string ⟨#[]⟩) := HC.out.r.cell 0
      have r1 : W.cell? ⟨w.heap.size, 1, none⟩ = some (.string ⟨#[]⟩) := HC.out.r.cell 1
      have r2 : W.cell? ⟨w.heap.size, 2, none⟩ = some (.string ⟨#[]⟩) := HC.out.r.cell 2
      have r3 : W.cell? ⟨w.heap.size, 3, none⟩ = some (.int .i64 0) := HC.out.r.cell 3
      have r4 : W.cell? ⟨w.heap.size, 4, none⟩ = some (.int .i64 0) := HC.out.r.cell 4
      have r5 : W.cell? ⟨w.heap.size, 5, none⟩ = some (.int .i64 0) := HC.out.r.cell 5
      have r6 : W.cell? ⟨w.heap.size, 6, none⟩ = some (.int .i64 0) := HC.out.r.cell 6
      have r7 : W.cell? ⟨w.heap.size, 7, none⟩ = some (.string ⟨#[]⟩) := HC.out.r.cell 7
      have rf : ∀ j, W.frozen? ⟨w.heap.size, j, none⟩ = false := (fun j => HC.out.r.free j)
      go_wp2
      refine bodyPost_ret (v := .tuple #[cellV ⟨#[]⟩ ⟨#[]⟩ ⟨#[]⟩ 0 0 0 0 ⟨#[]⟩, .bool false]) (by simp [results, Tryz.results59, go_sem, cell_set_same, r0, r1, r2, r3, r4, r5, r6, r7]) rfl ?_
      refine ⟨?_, .inr ⟨HE.out, rfl⟩⟩
      iterate 8 (refine Below.setCell ?_ (by simp) _)
      exact HC.out.bw
    · have HH : Hid (Holds W b3 o3 l3 ∧ b3 < w.heap.size) := HS.out.holds (by rw [HN3.out]; omega)
      have HUf : Hid (fmB (l3.take 8) = foldB (l3.take 8)) := by
        have h8 := foldB_8 (l3.take 8) (by rw [List.length_take]; have := HN3.out; omega)
        unfold Hid
        rw [fmB_fold, Nat.mod_eq_of_lt (by omega)]
      obtain ⟨y, hy⟩ : ∃ y, l3.getD 8 0 = y := ⟨_, rfl⟩
      have g8 : W.cell? ⟨b3, o3 + 8, none⟩ = some (.int .u8 (y.toNat : Int)) := by rw [← hy]; exact HH.out.1 8 (by rw [HN3.out]; omega)
      have HD8 : Hid (l3.drop 8 = y :: l3.drop 9) := by
        unfold Hid
        rw [← hy, List.drop_eq_getElem_cons (by have := HN3.out; omega), List.getD_eq_getElem?_getD, List.getElem?_eq_getElem (by have := HN3.out; omega)]
        rfl
      clear hy
      have hy2 := y.toNat_lt
      go_wp2
      go_loop [12, 13] (fun vu vi => ∃ k u : Nat, k ≤ 8 ∧ vi = .int .i64 k ∧ vu = .int .u64 u ∧ u = fmB (l3.take k)) (fun _ vi => 8 - (intOf vi).toNat)
      case atStart => exact ⟨0, 0, Nat.zero_le _, rfl, rfl, rfl⟩
      case round =>
        obtain ⟨k, u, hk, rfl, rfl, hu⟩ := hrel
        have HU := hid hu
        clear hu
        by_cases hkm : k < 8
        · have g := HH.out.1 k (by rw [HN3.out]; omega)
          obtain ⟨x, hx⟩ : ∃ x, (l3.getD k 0).toNat = x := ⟨_, rfl⟩
          rw [hx] at g
          have hst := fm_step u x
          obtain ⟨v', hv'⟩ : ∃ v', (u * 256 + x) % 18446744073709551616 = v' := ⟨_, rfl⟩
          rw [hv'] at hst
          have HVV : Hid (v' = fmB (l3.take (k + 1))) := by
            unfold Hid
            rw [take_getD l3 k (by rw [HN3.out]; omega), fmB_snoc, ← HU.out, hx, hv']
          clear hx hv'
          go_wp2
          go_round
          case rel => exact ⟨k + 1, v', by omega, by go_num, by first | rfl | go_num, HVV.out⟩
          case measure => simp [intOf]; omega
        · obtain rfl : k = 8 := by omega
          obtain ⟨T, hT⟩ : ∃ T : Int, 9223372036854775807 - (u : Int) = T := ⟨_, rfl⟩
          obtain ⟨K, hK⟩ : ∃ K : Int, 255 - (y.toNat : Int) = K := ⟨_, rfl⟩
          have HT : Hid (T = 9223372036854775807 - (foldB (l3.take 8) : Int)) := by unfold Hid; rw [← HUf.out, ← HU.out, hT]
          have HK : Hid (K = 255 - (y.toNat : Int)) := hK.symm
          have hTw : wrap64 (IntKind.u64.wrap (9223372036854775807 - (u : Int))) = T := by
            have hu := fmB_lt (l3.take 8)
            rw [← HU.out] at hu
            rw [← hT, IntKind.wrap_u64]; unfold wrap64; omega
          have hKw : IntKind.i64.wrap (255 - (y.toNat : Int)) = K := by rw [IntKind.wrap_i64]; omega
          clear hK hT
          have z3 : W.cell? ⟨w.heap.size + 1, 3, none⟩ = some (.int .i64 0) := HC.out.c.cell 3
          have z4 : W.cell? ⟨w.heap.size + 1, 4, none⟩ = some (.int .i64 0) := HC.out.c.cell 4
          have zf : ∀ j, W.frozen? ⟨w.heap.size + 1, j, none⟩ = false := fun j => HC.out.c.free j
          have hbw : b3 < w.heap.size := HH.out.2
          go_upto_region 26 with (fail)
          have HSV0 : Hid (SlU W w.heap.size (.slice (some ⟨b3, o3, none⟩) n3 c3) l3) := HS.out
          refine wp_ltr (fun W' => RSt w W' #[.string R, .string F, .string (⟨#[]⟩ : ByteArray), .int .i64 T, .int .i64 K, .int .i64 0, .int .i64 0, .string ⟨#[]⟩] ∧ SlU W' w.heap.size (.slice (some ⟨b3, o3, none⟩) n3 c3) l3) ⟨(HC.out.set 3 (.int .i64 T)).set 4 (.int .i64 K), (HS.out.keep ((Below.refl _ _).setCell (p := ⟨w.heap.size + 1, 3, none⟩) (by simp) _)).keep ((Below.refl _ _).setCell (p := ⟨w.heap.size + 1, 4, none⟩) (by simp) _)⟩ (fun W4 hW4 => ?_)
          obtain ⟨hC4, hS4⟩ := hW4
          have HC3 := hid hC4
          have HS3 := hid hS4
          clear hC4 hS4 g8 z3 z4 zf HC HS HH HSV0 hTw hKw HU
          have HNo : Hid (∀ vk vn vs, ((l3.drop 9 = [] ∧ vk = 0 ∧ vn = 0 ∧ vs = []) ∨ (l3.drop 9 ≠ [] ∧ vdecEnd (l3.drop 9) = valEnd vk vn vs)) → ¬ (cRight R.data.toList F.data.toList (⟨#[]⟩ : ByteArray).data.toList T K vk vn vs = true ∧ cEnc R.data.toList F.data.toList (⟨#[]⟩ : ByteArray).data.toList T K vk vn vs = l) → NoCell l) := fun vk vn vs hV hno => by
            have hT := HT.out
            have hK := HK.out
            rw [hT, hK] at hno
            exact HTK.out.uniq HD8.out hV hno
          by_cases hv : n3 = 9
          · have HV9 : Hid (l3.drop 9 = []) := List.drop_eq_nil_of_le (by rw [HN3.out]; omega)
            have HC4 : Hid (RSt w W4 #[.string R, .string F, .string (⟨#[]⟩ : ByteArray), .int .i64 T, .int .i64 K, .int .i64 0, .int .i64 0, .string ⟨#[]⟩]) := HC3.out
            have HSV : Hid ((⟨#[]⟩ : ByteArray).size ≤ 4000) := by unfold Hid; decide
            have HNI : Hid (inI 0) := by unfold Hid inI; omega
            have HVc : Hid ((l3.drop 9 = [] ∧ (0 : Int) = 0 ∧ (0 : Int) = 0 ∧ (⟨#[]⟩ : ByteArray).data.toList = []) ∨ (l3.drop 9 ≠ [] ∧ vdecEnd (l3.drop 9) = valEnd 0 0 (⟨#[]⟩ : ByteArray).data.toList)) := .inl ⟨HV9.out, rfl, rfl, rfl⟩
            subst hv
            have g0 : W4.cell? ⟨w.heap.size + 1, 0, none⟩ = some (.string R) := HC4.out.c.cell 0
            have g1 : W4.cell? ⟨w.heap.size + 1, 1, none⟩ = some (.string F) := HC4.out.c.cell 1
            have g2 : W4.cell? ⟨w.heap.size + 1, 2, none⟩ = some (.string (⟨#[]⟩ : ByteArray)) := HC4.out.c.cell 2
            have g3 : W4.cell? ⟨w.heap.size + 1, 3, none⟩ = some (.int .i64 T) := HC4.out.c.cell 3
            have g4 : W4.cell? ⟨w.heap.size + 1, 4, none⟩ = some (.int .i64 K) := HC4.out.c.cell 4
            have g5 : W4.cell? ⟨w.heap.size + 1, 5, none⟩ = some (.int .i64 0) := HC4.out.c.cell 5
            have g6 : W4.cell? ⟨w.heap.size + 1, 6, none⟩ = some (.int .i64 0) := HC4.out.c.cell 6
            have g7 : W4.cell? ⟨w.heap.size + 1, 7, none⟩ = some (.string (⟨#[]⟩ : ByteArray)) := HC4.out.c.cell 7
            cases hr : cRight R.data.toList F.data.toList (⟨#[]⟩ : ByteArray).data.toList T K 0 0 (⟨#[]⟩ : ByteArray).data.toList with
            | false =>
              have HN : Hid (NoCell l) := HNo.out _ _ _ HVc.out (fun hh => by rw [hr] at hh; exact absurd hh.1 (by decide))
              have HEn : Hid (∀ W, Calls Tryz.prog 53 #[cellV R F (⟨#[]⟩ : ByteArray) T K 0 0 (⟨#[]⟩ : ByteArray)] W fun e w' => e = .returned (.tuple #[.slice none 0 0, .bool false]) ∧ Below W.heap.size W w') := fun W => refenc_no R F (⟨#[]⟩ : ByteArray) (⟨#[]⟩ : ByteArray) T K 0 0 HSZ.out.1 HSV.out W hr
              clear hr
              go_wp2_with (go_at_call 53; refine (HEn.out _).mono ?_; rintro e w5 ⟨rfl, hb5⟩; have HR := hid (HC4.out.below hb5); have r0 : w5.cell? ⟨w.heap.size, 0, none⟩ = some (.string ⟨#[]⟩) := HR.out.r.cell 0; have r1 : w5.cell? ⟨w.heap.size, 1, none⟩ = some (.string ⟨#[]⟩) := HR.out.r.cell 1; have r2 : w5.cell? ⟨w.heap.size, 2, none⟩ = some (.string ⟨#[]⟩) := HR.out.r.cell 2; have r3 : w5.cell? ⟨w.heap.size, 3, none⟩ = some (.int .i64 0) := HR.out.r.cell 3; have r4 : w5.cell? ⟨w.heap.size, 4, none⟩ = some (.int .i64 0) := HR.out.r.cell 4; have r5 : w5.cell? ⟨w.heap.size, 5, none⟩ = some (.int .i64 0) := HR.out.r.cell 5; have r6 : w5.cell? ⟨w.heap.size, 6, none⟩ = some (.int .i64 0) := HR.out.r.cell 6; have r7 : w5.cell? ⟨w.heap.size, 7, none⟩ = some (.string ⟨#[]⟩) := HR.out.r.cell 7; have rf : ∀ j, w5.frozen? ⟨w.heap.size, j, none⟩ = false := (fun j => HR.out.r.free j))
              refine bodyPost_ret (v := .tuple #[cellV ⟨#[]⟩ ⟨#[]⟩ ⟨#[]⟩ 0 0 0 0 ⟨#[]⟩, .bool false]) (by simp [results, Tryz.results59, go_sem, cell_set_same, r0, r1, r2, r3, r4, r5, r6, r7]) rfl ?_
              refine ⟨?_, .inr ⟨HN.out, rfl⟩⟩
              iterate 8 (refine Below.setCell ?_ (by simp) _)
              exact HR.out.bw
            | true =>
              have HEn : Hid (∀ W, Calls Tryz.prog 53 #[cellV R F (⟨#[]⟩ : ByteArray) T K 0 0 (⟨#[]⟩ : ByteArray)] W fun e w' => ∃ u, e = .returned (.tuple #[u, .bool true]) ∧ SlA w' u (cEnc R.data.toList F.data.toList (⟨#[]⟩ : ByteArray).data.toList T K 0 0 (⟨#[]⟩ : ByteArray).data.toList) ∧ Below W.heap.size W w') := fun W => by
                obtain ⟨_, p2, _, p4, p5, _⟩ := cright_parts hr
                exact (refenc_yes R F (⟨#[]⟩ : ByteArray) (⟨#[]⟩ : ByteArray) T K 0 (vn := 0) HNI.out (by have : R.size ≤ 16 := p2; omega) (by have : F.size ≤ 8 := p4; omega) (by have : (⟨#[]⟩ : ByteArray).size ≤ 12 := p5; omega) HSV.out W hr).mono fun e w' ⟨u, he, hu, hb⟩ => ⟨u, he, hu.sla, hb⟩
              have HLE : Hid ((cEnc R.data.toList F.data.toList (⟨#[]⟩ : ByteArray).data.toList T K 0 0 (⟨#[]⟩ : ByteArray).data.toList).length ≤ 1000000) := by
                obtain ⟨_, p2, _, p4, p5, _⟩ := cright_parts hr
                have := cEnc_len R.data.toList F.data.toList (⟨#[]⟩ : ByteArray).data.toList T K 0 0 (⟨#[]⟩ : ByteArray).data.toList
                have : R.data.toList.length ≤ 16 := p2
                have : F.data.toList.length ≤ 8 := p4
                have : (⟨#[]⟩ : ByteArray).data.toList.length ≤ 12 := p5
                have h8 : (⟨#[]⟩ : ByteArray).data.toList.length = (⟨#[]⟩ : ByteArray).size := by first | rfl | simp
                have := HSV.out
                unfold Hid
                omega
              by_cases he : cEnc R.data.toList F.data.toList (⟨#[]⟩ : ByteArray).data.toList T K 0 0 (⟨#[]⟩ : ByteArray).data.toList = l
              · have HD : Hid (Below w.heap.size w W4) := HC4.out.bw
                have HSm : Hid (∀ W u, SlA W u (cEnc R.data.toList F.data.toList (⟨#[]⟩ : ByteArray).data.toList T K 0 0 (⟨#[]⟩ : ByteArray).data.toList) → Below w.heap.size w W → Calls Tryz.prog 18 #[u, v] W fun e w' => e = .returned (.bool true) ∧ Below W.heap.size W w') := fun W u hu hW => by
                  have := same_sla u v _ l HLE.out W hu (HV.out.keep hW).1
                  rwa [decide_eq_true he] at this
                have HF : Hid (∃ (r' f' q' : List UInt8) (t' k' vk' vn' : Int) (vs' : List UInt8), cRight r' f' q' t' k' vk' vn' vs' = true ∧ inI vn' ∧ cEnc r' f' q' t' k' vk' vn' vs' = l ∧ Ending.returned (.tuple #[cellV R F (⟨#[]⟩ : ByteArray) T K 0 0 (⟨#[]⟩ : ByteArray), .bool true]) = .returned (.tuple #[cellV ⟨r'.toArray⟩ ⟨f'.toArray⟩ ⟨q'.toArray⟩ t' k' vk' vn' ⟨vs'.toArray⟩, .bool true])) := ⟨_, _, _, _, _, _, _, _, hr, HNI.out, he, rfl⟩
                clear hr he
                go_wp2_with (first
                  | (go_at_call 53; refine (HEn.out _).mono ?_; rintro e w5 ⟨u5, rfl, hu5, hb5⟩; have HR5 := hid (HC4.out.below hb5))
                  | (go_at_call 18; refine (HSm.out _ _ hu5 HR5.out.bw).mono ?_; rintro e w6 ⟨rfl, hb6⟩; have HR := hid (HR5.out.below hb6); have r0 : w6.cell? ⟨w.heap.size, 0, none⟩ = some (.string ⟨#[]⟩) := HR.out.r.cell 0; have r1 : w6.cell? ⟨w.heap.size, 1, none⟩ = some (.string ⟨#[]⟩) := HR.out.r.cell 1; have r2 : w6.cell? ⟨w.heap.size, 2, none⟩ = some (.string ⟨#[]⟩) := HR.out.r.cell 2; have r3 : w6.cell? ⟨w.heap.size, 3, none⟩ = some (.int .i64 0) := HR.out.r.cell 3; have r4 : w6.cell? ⟨w.heap.size, 4, none⟩ = some (.int .i64 0) := HR.out.r.cell 4; have r5 : w6.cell? ⟨w.heap.size, 5, none⟩ = some (.int .i64 0) := HR.out.r.cell 5; have r6 : w6.cell? ⟨w.heap.size, 6, none⟩ = some (.int .i64 0) := HR.out.r.cell 6; have r7 : w6.cell? ⟨w.heap.size, 7, none⟩ = some (.string ⟨#[]⟩) := HR.out.r.cell 7; have rf : ∀ j, w6.frozen? ⟨w.heap.size, j, none⟩ = false := (fun j => HR.out.r.free j); have k0 : w6.cell? ⟨w.heap.size + 1, 0, none⟩ = some (.string R) := HR.out.c.cell 0; have k1 : w6.cell? ⟨w.heap.size + 1, 1, none⟩ = some (.string F) := HR.out.c.cell 1; have k2 : w6.cell? ⟨w.heap.size + 1, 2, none⟩ = some (.string (⟨#[]⟩ : ByteArray)) := HR.out.c.cell 2; have k3 : w6.cell? ⟨w.heap.size + 1, 3, none⟩ = some (.int .i64 T) := HR.out.c.cell 3; have k4 : w6.cell? ⟨w.heap.size + 1, 4, none⟩ = some (.int .i64 K) := HR.out.c.cell 4; have k5 : w6.cell? ⟨w.heap.size + 1, 5, none⟩ = some (.int .i64 0) := HR.out.c.cell 5; have k6 : w6.cell? ⟨w.heap.size + 1, 6, none⟩ = some (.int .i64 0) := HR.out.c.cell 6; have k7 : w6.cell? ⟨w.heap.size + 1, 7, none⟩ = some (.string (⟨#[]⟩ : ByteArray)) := HR.out.c.cell 7; have kf : ∀ j, w6.frozen? ⟨w.heap.size + 1, j, none⟩ = false := (fun j => HR.out.c.free j)))
                refine bodyPost_ret (v := .tuple #[cellV R F (⟨#[]⟩ : ByteArray) T K 0 0 (⟨#[]⟩ : ByteArray), .bool true]) (by simp [results, Tryz.results59, go_sem, cell_set_same, r0, r1, r2, r3, r4, r5, r6, r7]) rfl ?_
                refine ⟨?_, .inl HF.out⟩
                iterate 8 (refine Below.setCell ?_ (by simp) _)
                exact HR.out.bw
              · have HN : Hid (NoCell l) := HNo.out _ _ _ HVc.out (fun hh => he hh.2)
                have HSm : Hid (∀ W u, SlA W u (cEnc R.data.toList F.data.toList (⟨#[]⟩ : ByteArray).data.toList T K 0 0 (⟨#[]⟩ : ByteArray).data.toList) → Below w.heap.size w W → Calls Tryz.prog 18 #[u, v] W fun e w' => e = .returned (.bool false) ∧ Below W.heap.size W w') := fun W u hu hW => by
                  have := same_sla u v _ l HLE.out W hu (HV.out.keep hW).1
                  rwa [decide_eq_false he] at this
                clear hr he
                go_wp2_with (first
                  | (go_at_call 53; refine (HEn.out _).mono ?_; rintro e w5 ⟨u5, rfl, hu5, hb5⟩; have HR5 := hid (HC4.out.below hb5))
                  | (go_at_call 18; refine (HSm.out _ _ hu5 HR5.out.bw).mono ?_; rintro e w6 ⟨rfl, hb6⟩; have HR := hid (HR5.out.below hb6); have r0 : w6.cell? ⟨w.heap.size, 0, none⟩ = some (.string ⟨#[]⟩) := HR.out.r.cell 0; have r1 : w6.cell? ⟨w.heap.size, 1, none⟩ = some (.string ⟨#[]⟩) := HR.out.r.cell 1; have r2 : w6.cell? ⟨w.heap.size, 2, none⟩ = some (.string ⟨#[]⟩) := HR.out.r.cell 2; have r3 : w6.cell? ⟨w.heap.size, 3, none⟩ = some (.int .i64 0) := HR.out.r.cell 3; have r4 : w6.cell? ⟨w.heap.size, 4, none⟩ = some (.int .i64 0) := HR.out.r.cell 4; have r5 : w6.cell? ⟨w.heap.size, 5, none⟩ = some (.int .i64 0) := HR.out.r.cell 5; have r6 : w6.cell? ⟨w.heap.size, 6, none⟩ = some (.int .i64 0) := HR.out.r.cell 6; have r7 : w6.cell? ⟨w.heap.size, 7, none⟩ = some (.string ⟨#[]⟩) := HR.out.r.cell 7; have rf : ∀ j, w6.frozen? ⟨w.heap.size, j, none⟩ = false := (fun j => HR.out.r.free j)))
                refine bodyPost_ret (v := .tuple #[cellV ⟨#[]⟩ ⟨#[]⟩ ⟨#[]⟩ 0 0 0 0 ⟨#[]⟩, .bool false]) (by simp [results, Tryz.results59, go_sem, cell_set_same, r0, r1, r2, r3, r4, r5, r6, r7]) rfl ?_
                refine ⟨?_, .inr ⟨HN.out, rfl⟩⟩
                iterate 8 (refine Below.setCell ?_ (by simp) _)
                exact HR.out.bw
          · have hv9 : 9 < n3 := by omega
            have HV9 : Hid (l3.drop 9 ≠ []) := fun e => by have := congrArg List.length e; rw [List.length_drop, HN3.out] at this; simp at this; omega
            have HDc : Hid (Calls Tryz.prog 120 #[.slice (some ⟨b3, o3 + 9, none⟩) (n3 - 9) (c3 - 9)] W4 fun e w' => e = vdecEnd (l3.drop 9) ∧ Below W4.heap.size W4 w') := by
              obtain ⟨hh, hb⟩ := HS3.out.holds (by rw [HN3.out]; omega)
              have e9 : (l3.drop 9).length = n3 - 9 := by rw [List.length_drop, HN3.out]
              have := refVdecode_any (l3.drop 9) (by have := HN3.out; have := HSZ.out.2; omega) b3 (o3 + 9) (c3 - 9) (by omega) (by omega) W4 (hh.drop 9) (Nat.lt_of_lt_of_le hb HC3.out.bw.size)
              rwa [e9] at this
            clear hv
            rcases vdec_cases (l3.drop 9) with ⟨vk, vn, vs, hni, hvr, hvl, hve, hvd⟩ | hno
            · obtain ⟨S, hS⟩ : ∃ S : ByteArray, (⟨vs.toArray⟩ : ByteArray) = S := ⟨_, rfl⟩
              have HSl : Hid (S.data.toList = vs) := by unfold Hid; rw [← hS]
              have HVc : Hid ((l3.drop 9 = [] ∧ vk = 0 ∧ vn = 0 ∧ S.data.toList = []) ∨ (l3.drop 9 ≠ [] ∧ vdecEnd (l3.drop 9) = valEnd vk vn S.data.toList)) := .inr ⟨HV9.out, by rw [HSl.out]; exact hvd⟩
              have HDc2 : Hid (Calls Tryz.prog 120 #[.slice (some ⟨b3, o3 + 9, none⟩) (n3 - 9) (c3 - 9)] W4 fun e w' => e = .returned (.tuple #[.agg #[.int .i64 vk, .int .i64 vn, .string S], .bool true]) ∧ Below W4.heap.size W4 w') := by
                have := HDc.out
                rw [hvd] at this
                unfold valEnd at this
                rwa [hS] at this
              have HSV : Hid (S.size ≤ 4000) := by rw [← hS]; unfold Hid; rw [mk_size]; omega
              have HNI := hid hni
              clear hni hvr hvl hve hvd hS HDc
              go_upto_region 31 with (go_at_call 120; refine HDc2.out.mono ?_; rintro e w5 ⟨rfl, hb5⟩; have HC5 := hid (HC3.out.below hb5); have z5 : w5.cell? ⟨w.heap.size + 1, 5, none⟩ = some (.int .i64 0) := HC5.out.c.cell 5; have z6 : w5.cell? ⟨w.heap.size + 1, 6, none⟩ = some (.int .i64 0) := HC5.out.c.cell 6; have z7 : w5.cell? ⟨w.heap.size + 1, 7, none⟩ = some (.string ⟨#[]⟩) := HC5.out.c.cell 7; have zf : ∀ j, w5.frozen? ⟨w.heap.size + 1, j, none⟩ = false := (fun j => HC5.out.c.free j); have hz5 : w.heap.size + 1 < w5.heap.size := HC5.out.c.lt)
              refine wp_ltr (fun W' => RSt w W' #[.string R, .string F, .string (⟨#[]⟩ : ByteArray), .int .i64 T, .int .i64 K, .int .i64 vk, .int .i64 vn, .string S]) ((((HC5.out.set 5 (.int .i64 vk)).set 6 (.int .i64 vn)).set 7 (.string S)).below (below_new _ _)) (fun W4 hW6 => ?_)
              have HC4 := hid hW6
              clear hW6 HC5 HC3 HS3 HDc2 z5 z6 z7 zf hz5 hb5
              have g0 : W4.cell? ⟨w.heap.size + 1, 0, none⟩ = some (.string R) := HC4.out.c.cell 0
              have g1 : W4.cell? ⟨w.heap.size + 1, 1, none⟩ = some (.string F) := HC4.out.c.cell 1
              have g2 : W4.cell? ⟨w.heap.size + 1, 2, none⟩ = some (.string (⟨#[]⟩ : ByteArray)) := HC4.out.c.cell 2
              have g3 : W4.cell? ⟨w.heap.size + 1, 3, none⟩ = some (.int .i64 T) := HC4.out.c.cell 3
              have g4 : W4.cell? ⟨w.heap.size + 1, 4, none⟩ = some (.int .i64 K) := HC4.out.c.cell 4
              have g5 : W4.cell? ⟨w.heap.size + 1, 5, none⟩ = some (.int .i64 vk) := HC4.out.c.cell 5
              have g6 : W4.cell? ⟨w.heap.size + 1, 6, none⟩ = some (.int .i64 vn) := HC4.out.c.cell 6
              have g7 : W4.cell? ⟨w.heap.size + 1, 7, none⟩ = some (.string S) := HC4.out.c.cell 7
              cases hr : cRight R.data.toList F.data.toList (⟨#[]⟩ : ByteArray).data.toList T K vk vn S.data.toList with
              | false =>
                have HN : Hid (NoCell l) := HNo.out _ _ _ HVc.out (fun hh => by rw [hr] at hh; exact absurd hh.1 (by decide))
                have HEn : Hid (∀ W, Calls Tryz.prog 53 #[cellV R F (⟨#[]⟩ : ByteArray) T K vk vn S] W fun e w' => e = .returned (.tuple #[.slice none 0 0, .bool false]) ∧ Below W.heap.size W w') := fun W => refenc_no R F (⟨#[]⟩ : ByteArray) S T K vk vn HSZ.out.1 HSV.out W hr
                clear hr
                go_wp2_with (go_at_call 53; refine (HEn.out _).mono ?_; rintro e w5 ⟨rfl, hb5⟩; have HR := hid (HC4.out.below hb5); have r0 : w5.cell? ⟨w.heap.size, 0, none⟩ = some (.string ⟨#[]⟩) := HR.out.r.cell 0; have r1 : w5.cell? ⟨w.heap.size, 1, none⟩ = some (.string ⟨#[]⟩) := HR.out.r.cell 1; have r2 : w5.cell? ⟨w.heap.size, 2, none⟩ = some (.string ⟨#[]⟩) := HR.out.r.cell 2; have r3 : w5.cell? ⟨w.heap.size, 3, none⟩ = some (.int .i64 0) := HR.out.r.cell 3; have r4 : w5.cell? ⟨w.heap.size, 4, none⟩ = some (.int .i64 0) := HR.out.r.cell 4; have r5 : w5.cell? ⟨w.heap.size, 5, none⟩ = some (.int .i64 0) := HR.out.r.cell 5; have r6 : w5.cell? ⟨w.heap.size, 6, none⟩ = some (.int .i64 0) := HR.out.r.cell 6; have r7 : w5.cell? ⟨w.heap.size, 7, none⟩ = some (.string ⟨#[]⟩) := HR.out.r.cell 7; have rf : ∀ j, w5.frozen? ⟨w.heap.size, j, none⟩ = false := (fun j => HR.out.r.free j))
                refine bodyPost_ret (v := .tuple #[cellV ⟨#[]⟩ ⟨#[]⟩ ⟨#[]⟩ 0 0 0 0 ⟨#[]⟩, .bool false]) (by simp [results, Tryz.results59, go_sem, cell_set_same, r0, r1, r2, r3, r4, r5, r6, r7]) rfl ?_
                refine ⟨?_, .inr ⟨HN.out, rfl⟩⟩
                iterate 8 (refine Below.setCell ?_ (by simp) _)
                exact HR.out.bw
              | true =>
                have HEn : Hid (∀ W, Calls Tryz.prog 53 #[cellV R F (⟨#[]⟩ : ByteArray) T K vk vn S] W fun e w' => ∃ u, e = .returned (.tuple #[u, .bool true]) ∧ SlA w' u (cEnc R.data.toList F.data.toList (⟨#[]⟩ : ByteArray).data.toList T K vk vn S.data.toList) ∧ Below W.heap.size W w') := fun W => by
                  obtain ⟨_, p2, _, p4, p5, _⟩ := cright_parts hr
                  exact (refenc_yes R F (⟨#[]⟩ : ByteArray) S T K vk (vn := vn) HNI.out (by have : R.size ≤ 16 := p2; omega) (by have : F.size ≤ 8 := p4; omega) (by have : (⟨#[]⟩ : ByteArray).size ≤ 12 := p5; omega) HSV.out W hr).mono fun e w' ⟨u, he, hu, hb⟩ => ⟨u, he, hu.sla, hb⟩
                have HLE : Hid ((cEnc R.data.toList F.data.toList (⟨#[]⟩ : ByteArray).data.toList T K vk vn S.data.toList).length ≤ 1000000) := by
                  obtain ⟨_, p2, _, p4, p5, _⟩ := cright_parts hr
                  have := cEnc_len R.data.toList F.data.toList (⟨#[]⟩ : ByteArray).data.toList T K vk vn S.data.toList
                  have : R.data.toList.length ≤ 16 := p2
                  have : F.data.toList.length ≤ 8 := p4
                  have : (⟨#[]⟩ : ByteArray).data.toList.length ≤ 12 := p5
                  have h8 : S.data.toList.length = S.size := by first | rfl | simp
                  have := HSV.out
                  unfold Hid
                  omega
                by_cases he : cEnc R.data.toList F.data.toList (⟨#[]⟩ : ByteArray).data.toList T K vk vn S.data.toList = l
                · have HD : Hid (Below w.heap.size w W4) := HC4.out.bw
                  have HSm : Hid (∀ W u, SlA W u (cEnc R.data.toList F.data.toList (⟨#[]⟩ : ByteArray).data.toList T K vk vn S.data.toList) → Below w.heap.size w W → Calls Tryz.prog 18 #[u, v] W fun e w' => e = .returned (.bool true) ∧ Below W.heap.size W w') := fun W u hu hW => by
                    have := same_sla u v _ l HLE.out W hu (HV.out.keep hW).1
                    rwa [decide_eq_true he] at this
                  have HF : Hid (∃ (r' f' q' : List UInt8) (t' k' vk' vn' : Int) (vs' : List UInt8), cRight r' f' q' t' k' vk' vn' vs' = true ∧ inI vn' ∧ cEnc r' f' q' t' k' vk' vn' vs' = l ∧ Ending.returned (.tuple #[cellV R F (⟨#[]⟩ : ByteArray) T K vk vn S, .bool true]) = .returned (.tuple #[cellV ⟨r'.toArray⟩ ⟨f'.toArray⟩ ⟨q'.toArray⟩ t' k' vk' vn' ⟨vs'.toArray⟩, .bool true])) := ⟨_, _, _, _, _, _, _, _, hr, HNI.out, he, rfl⟩
                  clear hr he
                  go_wp2_with (first
                    | (go_at_call 53; refine (HEn.out _).mono ?_; rintro e w5 ⟨u5, rfl, hu5, hb5⟩; have HR5 := hid (HC4.out.below hb5))
                    | (go_at_call 18; refine (HSm.out _ _ hu5 HR5.out.bw).mono ?_; rintro e w6 ⟨rfl, hb6⟩; have HR := hid (HR5.out.below hb6); have r0 : w6.cell? ⟨w.heap.size, 0, none⟩ = some (.string ⟨#[]⟩) := HR.out.r.cell 0; have r1 : w6.cell? ⟨w.heap.size, 1, none⟩ = some (.string ⟨#[]⟩) := HR.out.r.cell 1; have r2 : w6.cell? ⟨w.heap.size, 2, none⟩ = some (.string ⟨#[]⟩) := HR.out.r.cell 2; have r3 : w6.cell? ⟨w.heap.size, 3, none⟩ = some (.int .i64 0) := HR.out.r.cell 3; have r4 : w6.cell? ⟨w.heap.size, 4, none⟩ = some (.int .i64 0) := HR.out.r.cell 4; have r5 : w6.cell? ⟨w.heap.size, 5, none⟩ = some (.int .i64 0) := HR.out.r.cell 5; have r6 : w6.cell? ⟨w.heap.size, 6, none⟩ = some (.int .i64 0) := HR.out.r.cell 6; have r7 : w6.cell? ⟨w.heap.size, 7, none⟩ = some (.string ⟨#[]⟩) := HR.out.r.cell 7; have rf : ∀ j, w6.frozen? ⟨w.heap.size, j, none⟩ = false := (fun j => HR.out.r.free j); have k0 : w6.cell? ⟨w.heap.size + 1, 0, none⟩ = some (.string R) := HR.out.c.cell 0; have k1 : w6.cell? ⟨w.heap.size + 1, 1, none⟩ = some (.string F) := HR.out.c.cell 1; have k2 : w6.cell? ⟨w.heap.size + 1, 2, none⟩ = some (.string (⟨#[]⟩ : ByteArray)) := HR.out.c.cell 2; have k3 : w6.cell? ⟨w.heap.size + 1, 3, none⟩ = some (.int .i64 T) := HR.out.c.cell 3; have k4 : w6.cell? ⟨w.heap.size + 1, 4, none⟩ = some (.int .i64 K) := HR.out.c.cell 4; have k5 : w6.cell? ⟨w.heap.size + 1, 5, none⟩ = some (.int .i64 vk) := HR.out.c.cell 5; have k6 : w6.cell? ⟨w.heap.size + 1, 6, none⟩ = some (.int .i64 vn) := HR.out.c.cell 6; have k7 : w6.cell? ⟨w.heap.size + 1, 7, none⟩ = some (.string S) := HR.out.c.cell 7; have kf : ∀ j, w6.frozen? ⟨w.heap.size + 1, j, none⟩ = false := (fun j => HR.out.c.free j)))
                  refine bodyPost_ret (v := .tuple #[cellV R F (⟨#[]⟩ : ByteArray) T K vk vn S, .bool true]) (by simp [results, Tryz.results59, go_sem, cell_set_same, r0, r1, r2, r3, r4, r5, r6, r7]) rfl ?_
                  refine ⟨?_, .inl HF.out⟩
                  iterate 8 (refine Below.setCell ?_ (by simp) _)
                  exact HR.out.bw
                · have HN : Hid (NoCell l) := HNo.out _ _ _ HVc.out (fun hh => he hh.2)
                  have HSm : Hid (∀ W u, SlA W u (cEnc R.data.toList F.data.toList (⟨#[]⟩ : ByteArray).data.toList T K vk vn S.data.toList) → Below w.heap.size w W → Calls Tryz.prog 18 #[u, v] W fun e w' => e = .returned (.bool false) ∧ Below W.heap.size W w') := fun W u hu hW => by
                    have := same_sla u v _ l HLE.out W hu (HV.out.keep hW).1
                    rwa [decide_eq_false he] at this
                  clear hr he
                  go_wp2_with (first
                    | (go_at_call 53; refine (HEn.out _).mono ?_; rintro e w5 ⟨u5, rfl, hu5, hb5⟩; have HR5 := hid (HC4.out.below hb5))
                    | (go_at_call 18; refine (HSm.out _ _ hu5 HR5.out.bw).mono ?_; rintro e w6 ⟨rfl, hb6⟩; have HR := hid (HR5.out.below hb6); have r0 : w6.cell? ⟨w.heap.size, 0, none⟩ = some (.string ⟨#[]⟩) := HR.out.r.cell 0; have r1 : w6.cell? ⟨w.heap.size, 1, none⟩ = some (.string ⟨#[]⟩) := HR.out.r.cell 1; have r2 : w6.cell? ⟨w.heap.size, 2, none⟩ = some (.string ⟨#[]⟩) := HR.out.r.cell 2; have r3 : w6.cell? ⟨w.heap.size, 3, none⟩ = some (.int .i64 0) := HR.out.r.cell 3; have r4 : w6.cell? ⟨w.heap.size, 4, none⟩ = some (.int .i64 0) := HR.out.r.cell 4; have r5 : w6.cell? ⟨w.heap.size, 5, none⟩ = some (.int .i64 0) := HR.out.r.cell 5; have r6 : w6.cell? ⟨w.heap.size, 6, none⟩ = some (.int .i64 0) := HR.out.r.cell 6; have r7 : w6.cell? ⟨w.heap.size, 7, none⟩ = some (.string ⟨#[]⟩) := HR.out.r.cell 7; have rf : ∀ j, w6.frozen? ⟨w.heap.size, j, none⟩ = false := (fun j => HR.out.r.free j)))
                  refine bodyPost_ret (v := .tuple #[cellV ⟨#[]⟩ ⟨#[]⟩ ⟨#[]⟩ 0 0 0 0 ⟨#[]⟩, .bool false]) (by simp [results, Tryz.results59, go_sem, cell_set_same, r0, r1, r2, r3, r4, r5, r6, r7]) rfl ?_
                  refine ⟨?_, .inr ⟨HN.out, rfl⟩⟩
                  iterate 8 (refine Below.setCell ?_ (by simp) _)
                  exact HR.out.bw
            · have HE : Hid (NoCell l) := HTK.out.badVal HD8.out HV9.out hno
              have HDc2 : Hid (Calls Tryz.prog 120 #[.slice (some ⟨b3, o3 + 9, none⟩) (n3 - 9) (c3 - 9)] W4 fun e w' => e = .returned (.tuple #[.agg #[.int .i64 0, .int .i64 0, .string ⟨#[]⟩], .bool false]) ∧ Below W4.heap.size W4 w') := by
                have := HDc.out
                rw [hno] at this
                exact this
              clear hno HDc
              go_wp2_with (go_at_call 120; refine HDc2.out.mono ?_; rintro e w5 ⟨rfl, hb5⟩; have HR := hid (HC3.out.below hb5); have r0 : ∀ o, (w5.alloc o).cell? ⟨w.heap.size, 0, none⟩ = some (.string ⟨#[]⟩) := (fun o => (HR.out.below (below_new w5 o)).r.cell 0); have r1 : ∀ o, (w5.alloc o).cell? ⟨w.heap.size, 1, none⟩ = some (.string ⟨#[]⟩) := (fun o => (HR.out.below (below_new w5 o)).r.cell 1); have r2 : ∀ o, (w5.alloc o).cell? ⟨w.heap.size, 2, none⟩ = some (.string ⟨#[]⟩) := (fun o => (HR.out.below (below_new w5 o)).r.cell 2); have r3 : ∀ o, (w5.alloc o).cell? ⟨w.heap.size, 3, none⟩ = some (.int .i64 0) := (fun o => (HR.out.below (below_new w5 o)).r.cell 3); have r4 : ∀ o, (w5.alloc o).cell? ⟨w.heap.size, 4, none⟩ = some (.int .i64 0) := (fun o => (HR.out.below (below_new w5 o)).r.cell 4); have r5 : ∀ o, (w5.alloc o).cell? ⟨w.heap.size, 5, none⟩ = some (.int .i64 0) := (fun o => (HR.out.below (below_new w5 o)).r.cell 5); have r6 : ∀ o, (w5.alloc o).cell? ⟨w.heap.size, 6, none⟩ = some (.int .i64 0) := (fun o => (HR.out.below (below_new w5 o)).r.cell 6); have r7 : ∀ o, (w5.alloc o).cell? ⟨w.heap.size, 7, none⟩ = some (.string ⟨#[]⟩) := (fun o => (HR.out.below (below_new w5 o)).r.cell 7); have rf : ∀ o j, (w5.alloc o).frozen? ⟨w.heap.size, j, none⟩ = false := (fun o j => (HR.out.below (below_new w5 o)).r.free j))
              refine bodyPost_ret (v := .tuple #[cellV ⟨#[]⟩ ⟨#[]⟩ ⟨#[]⟩ 0 0 0 0 ⟨#[]⟩, .bool false]) (by simp [results, Tryz.results59, go_sem, cell_set_same, r0, r1, r2, r3, r4, r5, r6, r7]) rfl ?_
              refine ⟨?_, .inr ⟨HE.out, rfl⟩⟩
              iterate 8 (refine Below.setCell ?_ (by simp) _)
              exact HR.out.bw.alloc (by have := HR.out.bw.size; omega) _
set_option maxRecDepth 100000 in
set_option maxHeartbeats 4000000 in
theorem refdec_q0 (v : Value) (l : List UInt8) (hl : l.length ≤ 4000) (w : World) (h : SlA w v l) {r : List UInt8} {k1 : Nat} (h1 : unE l = some (r, k1)) {f : List UInt8} {k2 : Nat} (h2 : unE (l.drop k1) = some (f, k2)) (hq : (l.drop k1).drop k2 = [] ∨ (∃ x, (l.drop k1).drop k2 = [x]) ∨ (∃ x y t, (l.drop k1).drop k2 = x :: y :: t ∧ x ≠ 0) ∨ (∃ x y t, (l.drop k1).drop k2 = x :: y :: t ∧ x = 0 ∧ y ≠ 0)) (h3 : unE ((l.drop k1).drop k2) = none) :
    Calls Tryz.prog 59 #[v] w (DEnd l w) := by
  have HV := hid (slu_of h)
  have HB0 : Hid (Below w.heap.size w ((w.alloc (.cells zeroA 26)).alloc (.cells zeroA 26))) := (RSt.new w).bw
  obtain ⟨R, hR⟩ : ∃ R : ByteArray, (⟨r.toArray⟩ : ByteArray) = R := ⟨_, rfl⟩
  have HU1 : Hid (∀ W, Below w.heap.size w W → Calls Tryz.prog 119 #[v] W fun e w' => ∃ b o n c, e = .returned (.tuple #[.string R, .slice (some ⟨b, o, none⟩) n c, .bool true]) ∧ SlU w' w.heap.size (.slice (some ⟨b, o, none⟩) n c) (l.drop k1) ∧ Below W.heap.size W w') := fun W hW => by
    rw [← hR]; exact uns_yes v l hl w.heap.size W (HV.out.keep hW) hW.size h1
  have hl1 : (l.drop k1).length ≤ 4000 := by rw [List.length_drop]; omega
  obtain ⟨F, hF⟩ : ∃ F : ByteArray, (⟨f.toArray⟩ : ByteArray) = F := ⟨_, rfl⟩
  have HU2 : Hid (∀ W u, w.heap.size ≤ W.heap.size → SlU W w.heap.size u (l.drop k1) → Calls Tryz.prog 119 #[u] W fun e w' => ∃ b o n c, e = .returned (.tuple #[.string F, .slice (some ⟨b, o, none⟩) n c, .bool true]) ∧ SlU w' w.heap.size (.slice (some ⟨b, o, none⟩) n c) ((l.drop k1).drop k2) ∧ Below W.heap.size W w') := fun W u hz hu => by
    rw [← hF]; exact uns_yes u _ hl1 w.heap.size W hu hz h2
  have hl2 : ((l.drop k1).drop k2).length ≤ 4000 := by rw [List.length_drop]; omega
  have HRl : Hid (R.data.toList = r) := by unfold Hid; rw [← hR]
  have HFl : Hid (F.data.toList = f) := by unfold Hid; rw [← hF]
  have HRD : Hid (rdT l = some (R.data.toList, l.drop k1) ∧ rdT (l.drop k1) = some (F.data.toList, (l.drop k1).drop k2)) := by rw [HRl.out, HFl.out]; exact ⟨unE_some h1, unE_some h2⟩
  have HFz : Hid (F.size ≤ 9223372036854775807) := by
    have a := rdT_small HRD.out.2
    have b : F.data.toList.length = F.size := by simp
    unfold Hid; omega
  generalize hle2 : (l.drop k1).drop k2 = l2 at *
  clear h h1 h2 hR hF HRl HFl hle2
  have HU3 : Hid (∀ W u, SlU W w.heap.size u l2 → Calls Tryz.prog 119 #[u] W fun e w' => e = .returned (.tuple #[.string ⟨#[]⟩, .slice none 0 0, .bool false]) ∧ Below W.heap.size W w') := fun W u hu => uns_no u _ hl2 w.heap.size W hu h3
  have HE : Hid (NoCell l) := by
    refine no_qual HRD.out.1 HRD.out.2 (fun t e => ?_) (unE_none h3)
    subst e
    rcases hq with e | ⟨x, e⟩ | ⟨x, y, t, e, hx⟩ | ⟨x, y, t, e, _, hy⟩
    · cases e
    · simp at e
    · injection e with e1 e2
      exact hx e1.symm
    · injection e with e1 e2
      injection e2 with e2 e3
      exact hy e2.symm
  clear h3 HRD HFz HV
  go_enter Tryz.func59, Tryz.ntmps59
  go_upto_region 10 with (first
    | (go_at_call 119; (with_reducible refine (HU1.out _ HB0.out).mono ?_); rintro e w1 ⟨b1, o1, n1, c1, rfl, hS1, hb1⟩; have hz1 : w.heap.size ≤ w1.heap.size := (HB0.out.trans (hb1.mono HB0.out.size)).size; have HZ1 := hid ((RSt.new w).below hb1))
    | (go_at_call 119; (with_reducible refine (HU2.out _ _ hz1 hS1).mono ?_); rintro e w2 ⟨b2, o2, n2, c2, rfl, hS2, hb2⟩; have HZ := hid (HZ1.out.below hb2); have z0 : w2.cell? ⟨w.heap.size + 1, 0, none⟩ = some (.string ⟨#[]⟩) := HZ.out.c.cell 0; have z1 : w2.cell? ⟨w.heap.size + 1, 1, none⟩ = some (.string ⟨#[]⟩) := HZ.out.c.cell 1; have zf : ∀ j, w2.frozen? ⟨w.heap.size + 1, j, none⟩ = false := (fun j => HZ.out.c.free j)))
  refine wp_ltr (fun W => RSt w W #[.string R, .string F, .string ⟨#[]⟩, .int .i64 0, .int .i64 0, .int .i64 0, .int .i64 0, .string ⟨#[]⟩] ∧ SlU W w.heap.size (.slice (some ⟨b2, o2, none⟩) n2 c2) (l2)) ⟨(HZ.out.set 0 (.string R)).set 1 (.string F), (hS2.keep ((Below.refl _ _).setCell (p := ⟨w.heap.size + 1, 0, none⟩) (by simp) _)).keep ((Below.refl _ _).setCell (p := ⟨w.heap.size + 1, 1, none⟩) (by simp) _)⟩ (fun W hW => ?_)
  obtain ⟨hC, hS⟩ := hW
  obtain ⟨hn2, hnc, hcm⟩ := hS.len
  have HC := hid hC
  have HS2 := hid hS
  clear hC hS HZ HZ1 HU1 HU2 HB0 hz1 hb1 hb2 hS1 hS2 z0 z1 zf hl1
  have hcd : n2 < 2 ∨ (2 ≤ n2 ∧ ∃ x : Nat, W.cell? ⟨b2, o2, none⟩ = some (.int .u8 (x : Int)) ∧ ((x : Int) == 0) = false) ∨ (2 ≤ n2 ∧ W.cell? ⟨b2, o2, none⟩ = some (.int .u8 0) ∧ ∃ y : Nat, W.cell? ⟨b2, o2 + 1, none⟩ = some (.int .u8 (y : Int)) ∧ ((y : Int) == 0) = false) := by
    have HH2 := fun h0 => HS2.out.holds h0
    rcases hq with rfl | ⟨x, rfl⟩ | ⟨x, y, t, rfl, hx⟩ | ⟨x, y, t, rfl, rfl, hy⟩
    · exact .inl (by simp at hn2; omega)
    · exact .inl (by simp at hn2; omega)
    · refine .inr (.inl ⟨by simp only [List.length_cons] at hn2; omega, x.toNat, (HH2 (by simp)).1 0 (by simp), ?_⟩)
      have : x.toNat ≠ 0 := fun e => hx (UInt8.toNat_inj.1 e)
      simp; omega
    · refine .inr (.inr ⟨by simp only [List.length_cons] at hn2; omega, (HH2 (by simp)).1 0 (by simp), y.toNat, (HH2 (by simp)).1 1 (by simp), ?_⟩)
      have : y.toNat ≠ 0 := fun e => hy (UInt8.toNat_inj.1 e)
      simp; omega
  clear hq
  have hn2' : n2 ≤ 4000 := by omega
  clear hn2
  rcases hcd with hlt | ⟨h2n, x, g0, hx⟩ | ⟨h2n, g0, y, g1, hy⟩
  all_goals
    go_wp2_with (go_at_call 119; (with_reducible refine (HU3.out _ _ HS2.out).mono ?_); rintro e w4 ⟨rfl, hb4⟩; have HR := hid (HC.out.below hb4); have r0 : w4.cell? ⟨w.heap.size, 0, none⟩ = some (.string ⟨#[]⟩) := HR.out.r.cell 0; have r1 : w4.cell? ⟨w.heap.size, 1, none⟩ = some (.string ⟨#[]⟩) := HR.out.r.cell 1; have r2 : w4.cell? ⟨w.heap.size, 2, none⟩ = some (.string ⟨#[]⟩) := HR.out.r.cell 2; have r3 : w4.cell? ⟨w.heap.size, 3, none⟩ = some (.int .i64 0) := HR.out.r.cell 3; have r4 : w4.cell? ⟨w.heap.size, 4, none⟩ = some (.int .i64 0) := HR.out.r.cell 4; have r5 : w4.cell? ⟨w.heap.size, 5, none⟩ = some (.int .i64 0) := HR.out.r.cell 5; have r6 : w4.cell? ⟨w.heap.size, 6, none⟩ = some (.int .i64 0) := HR.out.r.cell 6; have r7 : w4.cell? ⟨w.heap.size, 7, none⟩ = some (.string ⟨#[]⟩) := HR.out.r.cell 7; have rf : ∀ j, w4.frozen? ⟨w.heap.size, j, none⟩ = false := (fun j => HR.out.r.free j))
    refine bodyPost_ret (v := .tuple #[cellV ⟨#[]⟩ ⟨#[]⟩ ⟨#[]⟩ 0 0 0 0 ⟨#[]⟩, .bool false]) (by simp [results, Tryz.results59, go_sem, cell_set_same, r0, r1, r2, r3, r4, r5, r6, r7]) rfl ?_
    refine ⟨?_, .inr ⟨HE.out, rfl⟩⟩
    iterate 8 (refine Below.setCell ?_ (by simp) _)
    exact HR.out.bw
set_option maxRecDepth 100000 in
set_option maxHeartbeats 4000000 in
theorem refdec_q1 (v : Value) (l : List UInt8) (hl : l.length ≤ 4000) (w : World) (h : SlA w v l) {r : List UInt8} {k1 : Nat} (h1 : unE l = some (r, k1)) {f : List UInt8} {k2 : Nat} (h2 : unE (l.drop k1) = some (f, k2)) (hq : (l.drop k1).drop k2 = [] ∨ (∃ x, (l.drop k1).drop k2 = [x]) ∨ (∃ x y t, (l.drop k1).drop k2 = x :: y :: t ∧ x ≠ 0) ∨ (∃ x y t, (l.drop k1).drop k2 = x :: y :: t ∧ x = 0 ∧ y ≠ 0)) {q : List UInt8} {k3 : Nat} (h3 : unE ((l.drop k1).drop k2) = some (q, k3)) :
    Calls Tryz.prog 59 #[v] w (DEnd l w) := by
  have HV := hid (slu_of h)
  have HB0 : Hid (Below w.heap.size w ((w.alloc (.cells zeroA 26)).alloc (.cells zeroA 26))) := (RSt.new w).bw
  obtain ⟨R, hR⟩ : ∃ R : ByteArray, (⟨r.toArray⟩ : ByteArray) = R := ⟨_, rfl⟩
  have HU1 : Hid (∀ W, Below w.heap.size w W → Calls Tryz.prog 119 #[v] W fun e w' => ∃ b o n c, e = .returned (.tuple #[.string R, .slice (some ⟨b, o, none⟩) n c, .bool true]) ∧ SlU w' w.heap.size (.slice (some ⟨b, o, none⟩) n c) (l.drop k1) ∧ Below W.heap.size W w') := fun W hW => by
    rw [← hR]; exact uns_yes v l hl w.heap.size W (HV.out.keep hW) hW.size h1
  have hl1 : (l.drop k1).length ≤ 4000 := by rw [List.length_drop]; omega
  obtain ⟨F, hF⟩ : ∃ F : ByteArray, (⟨f.toArray⟩ : ByteArray) = F := ⟨_, rfl⟩
  have HU2 : Hid (∀ W u, w.heap.size ≤ W.heap.size → SlU W w.heap.size u (l.drop k1) → Calls Tryz.prog 119 #[u] W fun e w' => ∃ b o n c, e = .returned (.tuple #[.string F, .slice (some ⟨b, o, none⟩) n c, .bool true]) ∧ SlU w' w.heap.size (.slice (some ⟨b, o, none⟩) n c) ((l.drop k1).drop k2) ∧ Below W.heap.size W w') := fun W u hz hu => by
    rw [← hF]; exact uns_yes u _ hl1 w.heap.size W hu hz h2
  have hl2 : ((l.drop k1).drop k2).length ≤ 4000 := by rw [List.length_drop]; omega
  have HRl : Hid (R.data.toList = r) := by unfold Hid; rw [← hR]
  have HFl : Hid (F.data.toList = f) := by unfold Hid; rw [← hF]
  have HRD : Hid (rdT l = some (R.data.toList, l.drop k1) ∧ rdT (l.drop k1) = some (F.data.toList, (l.drop k1).drop k2)) := by rw [HRl.out, HFl.out]; exact ⟨unE_some h1, unE_some h2⟩
  have HFz : Hid (F.size ≤ 9223372036854775807) := by
    have a := rdT_small HRD.out.2
    have b : F.data.toList.length = F.size := by simp
    unfold Hid; omega
  generalize hle2 : (l.drop k1).drop k2 = l2 at *
  clear h h1 h2 hR hF HRl HFl hle2
  obtain ⟨Q, hQ⟩ : ∃ Q : ByteArray, (⟨q.toArray⟩ : ByteArray) = Q := ⟨_, rfl⟩
  obtain ⟨l3, hl3⟩ : ∃ l3, l2.drop k3 = l3 := ⟨_, rfl⟩
  have HQl : Hid (Q.data.toList = q) := by unfold Hid; rw [← hQ]
  have HU3 : Hid (∀ W u, w.heap.size ≤ W.heap.size → SlU W w.heap.size u l2 → Calls Tryz.prog 119 #[u] W fun e w' => ∃ b o n c, e = .returned (.tuple #[.string Q, .slice (some ⟨b, o, none⟩) n c, .bool true]) ∧ SlU w' w.heap.size (.slice (some ⟨b, o, none⟩) n c) l3 ∧ Below W.heap.size W w') := fun W u hz hu => by
    rw [← hQ, ← hl3]; exact uns_yes u _ hl2 w.heap.size W hu hz h3
  have HTK : Hid (Took l R.data.toList F.data.toList Q.data.toList false l3) := by
    refine ⟨_, _, HRD.out.1, HRD.out.2, .inr ⟨rfl, fun t e => ?_, by rw [HQl.out, ← hl3]; exact unE_some h3⟩⟩
    subst e
    rcases hq with e | ⟨x, e⟩ | ⟨x, y, t, e, hx⟩ | ⟨x, y, t, e, _, hy⟩
    · cases e
    · simp at e
    · injection e with e1 e2
      exact hx e1.symm
    · injection e with e1 e2
      injection e2 with e2 e3
      exact hy e2.symm
  have hl3' : l3.length ≤ 4000 := by rw [← hl3, List.length_drop]; omega
  clear h3 HRD hQ HQl hl3
  go_enter Tryz.func59, Tryz.ntmps59
  go_upto_region 10 with (first
    | (go_at_call 119; (with_reducible refine (HU1.out _ HB0.out).mono ?_); rintro e w1 ⟨b1, o1, n1, c1, rfl, hS1, hb1⟩; have hz1 : w.heap.size ≤ w1.heap.size := (HB0.out.trans (hb1.mono HB0.out.size)).size; have HZ1 := hid ((RSt.new w).below hb1))
    | (go_at_call 119; (with_reducible refine (HU2.out _ _ hz1 hS1).mono ?_); rintro e w2 ⟨b2, o2, n2, c2, rfl, hS2, hb2⟩; have HZ := hid (HZ1.out.below hb2); have z0 : w2.cell? ⟨w.heap.size + 1, 0, none⟩ = some (.string ⟨#[]⟩) := HZ.out.c.cell 0; have z1 : w2.cell? ⟨w.heap.size + 1, 1, none⟩ = some (.string ⟨#[]⟩) := HZ.out.c.cell 1; have zf : ∀ j, w2.frozen? ⟨w.heap.size + 1, j, none⟩ = false := (fun j => HZ.out.c.free j)))
  refine wp_ltr (fun W => RSt w W #[.string R, .string F, .string ⟨#[]⟩, .int .i64 0, .int .i64 0, .int .i64 0, .int .i64 0, .string ⟨#[]⟩] ∧ SlU W w.heap.size (.slice (some ⟨b2, o2, none⟩) n2 c2) (l2)) ⟨(HZ.out.set 0 (.string R)).set 1 (.string F), (hS2.keep ((Below.refl _ _).setCell (p := ⟨w.heap.size + 1, 0, none⟩) (by simp) _)).keep ((Below.refl _ _).setCell (p := ⟨w.heap.size + 1, 1, none⟩) (by simp) _)⟩ (fun W hW => ?_)
  obtain ⟨hC, hS⟩ := hW
  obtain ⟨hn2, hnc, hcm⟩ := hS.len
  have HC := hid hC
  have HS2 := hid hS
  clear hC hS HZ HZ1 HU1 HU2 HB0 hz1 hb1 hb2 hS1 hS2 z0 z1 zf hl1
  have hcd : n2 < 2 ∨ (2 ≤ n2 ∧ ∃ x : Nat, W.cell? ⟨b2, o2, none⟩ = some (.int .u8 (x : Int)) ∧ ((x : Int) == 0) = false) ∨ (2 ≤ n2 ∧ W.cell? ⟨b2, o2, none⟩ = some (.int .u8 0) ∧ ∃ y : Nat, W.cell? ⟨b2, o2 + 1, none⟩ = some (.int .u8 (y : Int)) ∧ ((y : Int) == 0) = false) := by
    have HH2 := fun h0 => HS2.out.holds h0
    rcases hq with rfl | ⟨x, rfl⟩ | ⟨x, y, t, rfl, hx⟩ | ⟨x, y, t, rfl, rfl, hy⟩
    · exact .inl (by simp at hn2; omega)
    · exact .inl (by simp at hn2; omega)
    · refine .inr (.inl ⟨by simp only [List.length_cons] at hn2; omega, x.toNat, (HH2 (by simp)).1 0 (by simp), ?_⟩)
      have : x.toNat ≠ 0 := fun e => hx (UInt8.toNat_inj.1 e)
      simp; omega
    · refine .inr (.inr ⟨by simp only [List.length_cons] at hn2; omega, (HH2 (by simp)).1 0 (by simp), y.toNat, (HH2 (by simp)).1 1 (by simp), ?_⟩)
      have : y.toNat ≠ 0 := fun e => hy (UInt8.toNat_inj.1 e)
      simp; omega
  clear hq
  have hn2' : n2 ≤ 4000 := by omega
  clear hn2
  rcases hcd with hlt | ⟨h2n, x, g0, hx⟩ | ⟨h2n, g0, y, g1, hy⟩
  all_goals
    go_upto_region 17 with (go_at_call 119; (with_reducible refine (HU3.out _ _ HC.out.bw.size HS2.out).mono ?_); rintro e w4 ⟨b3, o3, n3, c3, rfl, hS3, hb4⟩; have HC9 := hid (HC.out.below hb4); have z2 : w4.cell? ⟨w.heap.size + 1, 2, none⟩ = some (.string ⟨#[]⟩) := HC9.out.c.cell 2; have zf : ∀ j, w4.frozen? ⟨w.heap.size + 1, j, none⟩ = false := (fun j => HC9.out.c.free j))
    refine wp_ltr (fun W => RSt w W #[.string R, .string F, .string Q, .int .i64 0, .int .i64 0, .int .i64 0, .int .i64 0, .string ⟨#[]⟩] ∧ SlU W w.heap.size (.slice (some ⟨b3, o3, none⟩) n3 c3) l3) ⟨HC9.out.set 2 (.string Q), hS3.keep ((Below.refl _ _).setCell (p := ⟨w.heap.size + 1, 2, none⟩) (by simp) _)⟩ (fun W hW => ?_)
    obtain ⟨hC, hS⟩ := hW
    obtain ⟨hn3, hnc3, hcm3⟩ := hS.len
    have HN3 : Hid (l3.length = n3) := hn3.symm
    have HSZ : Hid (F.size ≤ 9223372036854775807 ∧ n3 ≤ 4000) := ⟨HFz.out, by omega⟩
    clear HC HS2 HC9 HU3 z2 zf hb4 hS3 hn3 hnc hcm hn2' hl2 hl3'
    have HC := hid hC
    have HS := hid hS
    clear hC hS
    by_cases h9 : n3 < 9
    · have HE : Hid (NoCell l) := HTK.out.short (by rw [HN3.out]; exact h9)
      have r0 : W.cell? ⟨w.heap.size, 0, none⟩ = some (.string ⟨#[]⟩) := HC.out.r.cell 0
      have r1 : W.cell? ⟨w.heap.size, 1, none⟩ = some (.string ⟨#[]⟩) := HC.out.r.cell 1
      have r2 : W.cell? ⟨w.heap.size, 2, none⟩ = some (.string ⟨#[]⟩) := HC.out.r.cell 2
      have r3 : W.cell? ⟨w.heap.size, 3, none⟩ = some (.int .i64 0) := HC.out.r.cell 3
      have r4 : W.cell? ⟨w.heap.size, 4, none⟩ = some (.int .i64 0) := HC.out.r.cell 4
      have r5 : W.cell? ⟨w.heap.size, 5, none⟩ = some (.int .i64 0) := HC.out.r.cell 5
      have r6 : W.cell? ⟨w.heap.size, 6, none⟩ = some (.int .i64 0) := HC.out.r.cell 6
      have r7 : W.cell? ⟨w.heap.size, 7, none⟩ = some (.string ⟨#[]⟩) := HC.out.r.cell 7
      have rf : ∀ j, W.frozen? ⟨w.heap.size, j, none⟩ = false := (fun j => HC.out.r.free j)
      go_wp2
      refine bodyPost_ret (v := .tuple #[cellV ⟨#[]⟩ ⟨#[]⟩ ⟨#[]⟩ 0 0 0 0 ⟨#[]⟩, .bool false]) (by simp [results, Tryz.results59, go_sem, cell_set_same, r0, r1, r2, r3, r4, r5, r6, r7]) rfl ?_
      refine ⟨?_, .inr ⟨HE.out, rfl⟩⟩
      iterate 8 (refine Below.setCell ?_ (by simp) _)
      exact HC.out.bw
    · have HH : Hid (Holds W b3 o3 l3 ∧ b3 < w.heap.size) := HS.out.holds (by rw [HN3.out]; omega)
      have HUf : Hid (fmB (l3.take 8) = foldB (l3.take 8)) := by
        have h8 := foldB_8 (l3.take 8) (by rw [List.length_take]; have := HN3.out; omega)
        unfold Hid
        rw [fmB_fold, Nat.mod_eq_of_lt (by omega)]
      obtain ⟨y, hy⟩ : ∃ y, l3.getD 8 0 = y := ⟨_, rfl⟩
      have g8 : W.cell? ⟨b3, o3 + 8, none⟩ = some (.int .u8 (y.toNat : Int)) := by rw [← hy]; exact HH.out.1 8 (by rw [HN3.out]; omega)
      have HD8 : Hid (l3.drop 8 = y :: l3.drop 9) := by
        unfold Hid
        rw [← hy, List.drop_eq_getElem_cons (by have := HN3.out; omega), List.getD_eq_getElem?_getD, List.getElem?_eq_getElem (by have := HN3.out; omega)]
        rfl
      clear hy
      have hy2 := y.toNat_lt
      go_wp2
      go_loop [12, 13] (fun vu vi => ∃ k u : Nat, k ≤ 8 ∧ vi = .int .i64 k ∧ vu = .int .u64 u ∧ u = fmB (l3.take k)) (fun _ vi => 8 - (intOf vi).toNat)
      case atStart => exact ⟨0, 0, Nat.zero_le _, rfl, rfl, rfl⟩
      case round =>
        obtain ⟨k, u, hk, rfl, rfl, hu⟩ := hrel
        have HU := hid hu
        clear hu
        by_cases hkm : k < 8
        · have g := HH.out.1 k (by rw [HN3.out]; omega)
          obtain ⟨x, hx⟩ : ∃ x, (l3.getD k 0).toNat = x := ⟨_, rfl⟩
          rw [hx] at g
          have hst := fm_step u x
          obtain ⟨v', hv'⟩ : ∃ v', (u * 256 + x) % 18446744073709551616 = v' := ⟨_, rfl⟩
          rw [hv'] at hst
          have HVV : Hid (v' = fmB (l3.take (k + 1))) := by
            unfold Hid
            rw [take_getD l3 k (by rw [HN3.out]; omega), fmB_snoc, ← HU.out, hx, hv']
          clear hx hv'
          go_wp2
          go_round
          case rel => exact ⟨k + 1, v', by omega, by go_num, by first | rfl | go_num, HVV.out⟩
          case measure => simp [intOf]; omega
        · obtain rfl : k = 8 := by omega
          obtain ⟨T, hT⟩ : ∃ T : Int, 9223372036854775807 - (u : Int) = T := ⟨_, rfl⟩
          obtain ⟨K, hK⟩ : ∃ K : Int, 255 - (y.toNat : Int) = K := ⟨_, rfl⟩
          have HT : Hid (T = 9223372036854775807 - (foldB (l3.take 8) : Int)) := by unfold Hid; rw [← HUf.out, ← HU.out, hT]
          have HK : Hid (K = 255 - (y.toNat : Int)) := hK.symm
          have hTw : wrap64 (IntKind.u64.wrap (9223372036854775807 - (u : Int))) = T := by
            have hu := fmB_lt (l3.take 8)
            rw [← HU.out] at hu
            rw [← hT, IntKind.wrap_u64]; unfold wrap64; omega
          have hKw : IntKind.i64.wrap (255 - (y.toNat : Int)) = K := by rw [IntKind.wrap_i64]; omega
          clear hK hT
          have z3 : W.cell? ⟨w.heap.size + 1, 3, none⟩ = some (.int .i64 0) := HC.out.c.cell 3
          have z4 : W.cell? ⟨w.heap.size + 1, 4, none⟩ = some (.int .i64 0) := HC.out.c.cell 4
          have zf : ∀ j, W.frozen? ⟨w.heap.size + 1, j, none⟩ = false := fun j => HC.out.c.free j
          have hbw : b3 < w.heap.size := HH.out.2
          go_upto_region 26 with (fail)
          have HSV0 : Hid (SlU W w.heap.size (.slice (some ⟨b3, o3, none⟩) n3 c3) l3) := HS.out
          refine wp_ltr (fun W' => RSt w W' #[.string R, .string F, .string Q, .int .i64 T, .int .i64 K, .int .i64 0, .int .i64 0, .string ⟨#[]⟩] ∧ SlU W' w.heap.size (.slice (some ⟨b3, o3, none⟩) n3 c3) l3) ⟨(HC.out.set 3 (.int .i64 T)).set 4 (.int .i64 K), (HS.out.keep ((Below.refl _ _).setCell (p := ⟨w.heap.size + 1, 3, none⟩) (by simp) _)).keep ((Below.refl _ _).setCell (p := ⟨w.heap.size + 1, 4, none⟩) (by simp) _)⟩ (fun W4 hW4 => ?_)
          obtain ⟨hC4, hS4⟩ := hW4
          have HC3 := hid hC4
          have HS3 := hid hS4
          clear hC4 hS4 g8 z3 z4 zf HC HS HH HSV0 hTw hKw HU
          have HNo : Hid (∀ vk vn vs, ((l3.drop 9 = [] ∧ vk = 0 ∧ vn = 0 ∧ vs = []) ∨ (l3.drop 9 ≠ [] ∧ vdecEnd (l3.drop 9) = valEnd vk vn vs)) → ¬ (cRight R.data.toList F.data.toList Q.data.toList T K vk vn vs = true ∧ cEnc R.data.toList F.data.toList Q.data.toList T K vk vn vs = l) → NoCell l) := fun vk vn vs hV hno => by
            have hT := HT.out
            have hK := HK.out
            rw [hT, hK] at hno
            exact HTK.out.uniq HD8.out hV hno
          by_cases hv : n3 = 9
          · have HV9 : Hid (l3.drop 9 = []) := List.drop_eq_nil_of_le (by rw [HN3.out]; omega)
            have HC4 : Hid (RSt w W4 #[.string R, .string F, .string Q, .int .i64 T, .int .i64 K, .int .i64 0, .int .i64 0, .string ⟨#[]⟩]) := HC3.out
            have HSV : Hid ((⟨#[]⟩ : ByteArray).size ≤ 4000) := by unfold Hid; decide
            have HNI : Hid (inI 0) := by unfold Hid inI; omega
            have HVc : Hid ((l3.drop 9 = [] ∧ (0 : Int) = 0 ∧ (0 : Int) = 0 ∧ (⟨#[]⟩ : ByteArray).data.toList = []) ∨ (l3.drop 9 ≠ [] ∧ vdecEnd (l3.drop 9) = valEnd 0 0 (⟨#[]⟩ : ByteArray).data.toList)) := .inl ⟨HV9.out, rfl, rfl, rfl⟩
            subst hv
            have g0 : W4.cell? ⟨w.heap.size + 1, 0, none⟩ = some (.string R) := HC4.out.c.cell 0
            have g1 : W4.cell? ⟨w.heap.size + 1, 1, none⟩ = some (.string F) := HC4.out.c.cell 1
            have g2 : W4.cell? ⟨w.heap.size + 1, 2, none⟩ = some (.string Q) := HC4.out.c.cell 2
            have g3 : W4.cell? ⟨w.heap.size + 1, 3, none⟩ = some (.int .i64 T) := HC4.out.c.cell 3
            have g4 : W4.cell? ⟨w.heap.size + 1, 4, none⟩ = some (.int .i64 K) := HC4.out.c.cell 4
            have g5 : W4.cell? ⟨w.heap.size + 1, 5, none⟩ = some (.int .i64 0) := HC4.out.c.cell 5
            have g6 : W4.cell? ⟨w.heap.size + 1, 6, none⟩ = some (.int .i64 0) := HC4.out.c.cell 6
            have g7 : W4.cell? ⟨w.heap.size + 1, 7, none⟩ = some (.string (⟨#[]⟩ : ByteArray)) := HC4.out.c.cell 7
            cases hr : cRight R.data.toList F.data.toList Q.data.toList T K 0 0 (⟨#[]⟩ : ByteArray).data.toList with
            | false =>
              have HN : Hid (NoCell l) := HNo.out _ _ _ HVc.out (fun hh => by rw [hr] at hh; exact absurd hh.1 (by decide))
              have HEn : Hid (∀ W, Calls Tryz.prog 53 #[cellV R F Q T K 0 0 (⟨#[]⟩ : ByteArray)] W fun e w' => e = .returned (.tuple #[.slice none 0 0, .bool false]) ∧ Below W.heap.size W w') := fun W => refenc_no R F Q (⟨#[]⟩ : ByteArray) T K 0 0 HSZ.out.1 HSV.out W hr
              clear hr
              go_wp2_with (go_at_call 53; refine (HEn.out _).mono ?_; rintro e w5 ⟨rfl, hb5⟩; have HR := hid (HC4.out.below hb5); have r0 : w5.cell? ⟨w.heap.size, 0, none⟩ = some (.string ⟨#[]⟩) := HR.out.r.cell 0; have r1 : w5.cell? ⟨w.heap.size, 1, none⟩ = some (.string ⟨#[]⟩) := HR.out.r.cell 1; have r2 : w5.cell? ⟨w.heap.size, 2, none⟩ = some (.string ⟨#[]⟩) := HR.out.r.cell 2; have r3 : w5.cell? ⟨w.heap.size, 3, none⟩ = some (.int .i64 0) := HR.out.r.cell 3; have r4 : w5.cell? ⟨w.heap.size, 4, none⟩ = some (.int .i64 0) := HR.out.r.cell 4; have r5 : w5.cell? ⟨w.heap.size, 5, none⟩ = some (.int .i64 0) := HR.out.r.cell 5; have r6 : w5.cell? ⟨w.heap.size, 6, none⟩ = some (.int .i64 0) := HR.out.r.cell 6; have r7 : w5.cell? ⟨w.heap.size, 7, none⟩ = some (.string ⟨#[]⟩) := HR.out.r.cell 7; have rf : ∀ j, w5.frozen? ⟨w.heap.size, j, none⟩ = false := (fun j => HR.out.r.free j))
              refine bodyPost_ret (v := .tuple #[cellV ⟨#[]⟩ ⟨#[]⟩ ⟨#[]⟩ 0 0 0 0 ⟨#[]⟩, .bool false]) (by simp [results, Tryz.results59, go_sem, cell_set_same, r0, r1, r2, r3, r4, r5, r6, r7]) rfl ?_
              refine ⟨?_, .inr ⟨HN.out, rfl⟩⟩
              iterate 8 (refine Below.setCell ?_ (by simp) _)
              exact HR.out.bw
            | true =>
              have HEn : Hid (∀ W, Calls Tryz.prog 53 #[cellV R F Q T K 0 0 (⟨#[]⟩ : ByteArray)] W fun e w' => ∃ u, e = .returned (.tuple #[u, .bool true]) ∧ SlA w' u (cEnc R.data.toList F.data.toList Q.data.toList T K 0 0 (⟨#[]⟩ : ByteArray).data.toList) ∧ Below W.heap.size W w') := fun W => by
                obtain ⟨_, p2, _, p4, p5, _⟩ := cright_parts hr
                exact (refenc_yes R F Q (⟨#[]⟩ : ByteArray) T K 0 (vn := 0) HNI.out (by have : R.size ≤ 16 := p2; omega) (by have : F.size ≤ 8 := p4; omega) (by have : Q.size ≤ 12 := p5; omega) HSV.out W hr).mono fun e w' ⟨u, he, hu, hb⟩ => ⟨u, he, hu.sla, hb⟩
              have HLE : Hid ((cEnc R.data.toList F.data.toList Q.data.toList T K 0 0 (⟨#[]⟩ : ByteArray).data.toList).length ≤ 1000000) := by
                obtain ⟨_, p2, _, p4, p5, _⟩ := cright_parts hr
                have := cEnc_len R.data.toList F.data.toList Q.data.toList T K 0 0 (⟨#[]⟩ : ByteArray).data.toList
                have : R.data.toList.length ≤ 16 := p2
                have : F.data.toList.length ≤ 8 := p4
                have : Q.data.toList.length ≤ 12 := p5
                have h8 : (⟨#[]⟩ : ByteArray).data.toList.length = (⟨#[]⟩ : ByteArray).size := by first | rfl | simp
                have := HSV.out
                unfold Hid
                omega
              by_cases he : cEnc R.data.toList F.data.toList Q.data.toList T K 0 0 (⟨#[]⟩ : ByteArray).data.toList = l
              · have HD : Hid (Below w.heap.size w W4) := HC4.out.bw
                have HSm : Hid (∀ W u, SlA W u (cEnc R.data.toList F.data.toList Q.data.toList T K 0 0 (⟨#[]⟩ : ByteArray).data.toList) → Below w.heap.size w W → Calls Tryz.prog 18 #[u, v] W fun e w' => e = .returned (.bool true) ∧ Below W.heap.size W w') := fun W u hu hW => by
                  have := same_sla u v _ l HLE.out W hu (HV.out.keep hW).1
                  rwa [decide_eq_true he] at this
                have HF : Hid (∃ (r' f' q' : List UInt8) (t' k' vk' vn' : Int) (vs' : List UInt8), cRight r' f' q' t' k' vk' vn' vs' = true ∧ inI vn' ∧ cEnc r' f' q' t' k' vk' vn' vs' = l ∧ Ending.returned (.tuple #[cellV R F Q T K 0 0 (⟨#[]⟩ : ByteArray), .bool true]) = .returned (.tuple #[cellV ⟨r'.toArray⟩ ⟨f'.toArray⟩ ⟨q'.toArray⟩ t' k' vk' vn' ⟨vs'.toArray⟩, .bool true])) := ⟨_, _, _, _, _, _, _, _, hr, HNI.out, he, rfl⟩
                clear hr he
                go_wp2_with (first
                  | (go_at_call 53; refine (HEn.out _).mono ?_; rintro e w5 ⟨u5, rfl, hu5, hb5⟩; have HR5 := hid (HC4.out.below hb5))
                  | (go_at_call 18; refine (HSm.out _ _ hu5 HR5.out.bw).mono ?_; rintro e w6 ⟨rfl, hb6⟩; have HR := hid (HR5.out.below hb6); have r0 : w6.cell? ⟨w.heap.size, 0, none⟩ = some (.string ⟨#[]⟩) := HR.out.r.cell 0; have r1 : w6.cell? ⟨w.heap.size, 1, none⟩ = some (.string ⟨#[]⟩) := HR.out.r.cell 1; have r2 : w6.cell? ⟨w.heap.size, 2, none⟩ = some (.string ⟨#[]⟩) := HR.out.r.cell 2; have r3 : w6.cell? ⟨w.heap.size, 3, none⟩ = some (.int .i64 0) := HR.out.r.cell 3; have r4 : w6.cell? ⟨w.heap.size, 4, none⟩ = some (.int .i64 0) := HR.out.r.cell 4; have r5 : w6.cell? ⟨w.heap.size, 5, none⟩ = some (.int .i64 0) := HR.out.r.cell 5; have r6 : w6.cell? ⟨w.heap.size, 6, none⟩ = some (.int .i64 0) := HR.out.r.cell 6; have r7 : w6.cell? ⟨w.heap.size, 7, none⟩ = some (.string ⟨#[]⟩) := HR.out.r.cell 7; have rf : ∀ j, w6.frozen? ⟨w.heap.size, j, none⟩ = false := (fun j => HR.out.r.free j); have k0 : w6.cell? ⟨w.heap.size + 1, 0, none⟩ = some (.string R) := HR.out.c.cell 0; have k1 : w6.cell? ⟨w.heap.size + 1, 1, none⟩ = some (.string F) := HR.out.c.cell 1; have k2 : w6.cell? ⟨w.heap.size + 1, 2, none⟩ = some (.string Q) := HR.out.c.cell 2; have k3 : w6.cell? ⟨w.heap.size + 1, 3, none⟩ = some (.int .i64 T) := HR.out.c.cell 3; have k4 : w6.cell? ⟨w.heap.size + 1, 4, none⟩ = some (.int .i64 K) := HR.out.c.cell 4; have k5 : w6.cell? ⟨w.heap.size + 1, 5, none⟩ = some (.int .i64 0) := HR.out.c.cell 5; have k6 : w6.cell? ⟨w.heap.size + 1, 6, none⟩ = some (.int .i64 0) := HR.out.c.cell 6; have k7 : w6.cell? ⟨w.heap.size + 1, 7, none⟩ = some (.string (⟨#[]⟩ : ByteArray)) := HR.out.c.cell 7; have kf : ∀ j, w6.frozen? ⟨w.heap.size + 1, j, none⟩ = false := (fun j => HR.out.c.free j)))
                refine bodyPost_ret (v := .tuple #[cellV R F Q T K 0 0 (⟨#[]⟩ : ByteArray), .bool true]) (by simp [results, Tryz.results59, go_sem, cell_set_same, r0, r1, r2, r3, r4, r5, r6, r7]) rfl ?_
                refine ⟨?_, .inl HF.out⟩
                iterate 8 (refine Below.setCell ?_ (by simp) _)
                exact HR.out.bw
              · have HN : Hid (NoCell l) := HNo.out _ _ _ HVc.out (fun hh => he hh.2)
                have HSm : Hid (∀ W u, SlA W u (cEnc R.data.toList F.data.toList Q.data.toList T K 0 0 (⟨#[]⟩ : ByteArray).data.toList) → Below w.heap.size w W → Calls Tryz.prog 18 #[u, v] W fun e w' => e = .returned (.bool false) ∧ Below W.heap.size W w') := fun W u hu hW => by
                  have := same_sla u v _ l HLE.out W hu (HV.out.keep hW).1
                  rwa [decide_eq_false he] at this
                clear hr he
                go_wp2_with (first
                  | (go_at_call 53; refine (HEn.out _).mono ?_; rintro e w5 ⟨u5, rfl, hu5, hb5⟩; have HR5 := hid (HC4.out.below hb5))
                  | (go_at_call 18; refine (HSm.out _ _ hu5 HR5.out.bw).mono ?_; rintro e w6 ⟨rfl, hb6⟩; have HR := hid (HR5.out.below hb6); have r0 : w6.cell? ⟨w.heap.size, 0, none⟩ = some (.string ⟨#[]⟩) := HR.out.r.cell 0; have r1 : w6.cell? ⟨w.heap.size, 1, none⟩ = some (.string ⟨#[]⟩) := HR.out.r.cell 1; have r2 : w6.cell? ⟨w.heap.size, 2, none⟩ = some (.string ⟨#[]⟩) := HR.out.r.cell 2; have r3 : w6.cell? ⟨w.heap.size, 3, none⟩ = some (.int .i64 0) := HR.out.r.cell 3; have r4 : w6.cell? ⟨w.heap.size, 4, none⟩ = some (.int .i64 0) := HR.out.r.cell 4; have r5 : w6.cell? ⟨w.heap.size, 5, none⟩ = some (.int .i64 0) := HR.out.r.cell 5; have r6 : w6.cell? ⟨w.heap.size, 6, none⟩ = some (.int .i64 0) := HR.out.r.cell 6; have r7 : w6.cell? ⟨w.heap.size, 7, none⟩ = some (.string ⟨#[]⟩) := HR.out.r.cell 7; have rf : ∀ j, w6.frozen? ⟨w.heap.size, j, none⟩ = false := (fun j => HR.out.r.free j)))
                refine bodyPost_ret (v := .tuple #[cellV ⟨#[]⟩ ⟨#[]⟩ ⟨#[]⟩ 0 0 0 0 ⟨#[]⟩, .bool false]) (by simp [results, Tryz.results59, go_sem, cell_set_same, r0, r1, r2, r3, r4, r5, r6, r7]) rfl ?_
                refine ⟨?_, .inr ⟨HN.out, rfl⟩⟩
                iterate 8 (refine Below.setCell ?_ (by simp) _)
                exact HR.out.bw
          · have hv9 : 9 < n3 := by omega
            have HV9 : Hid (l3.drop 9 ≠ []) := fun e => by have := congrArg List.length e; rw [List.length_drop, HN3.out] at this; simp at this; omega
            have HDc : Hid (Calls Tryz.prog 120 #[.slice (some ⟨b3, o3 + 9, none⟩) (n3 - 9) (c3 - 9)] W4 fun e w' => e = vdecEnd (l3.drop 9) ∧ Below W4.heap.size W4 w') := by
              obtain ⟨hh, hb⟩ := HS3.out.holds (by rw [HN3.out]; omega)
              have e9 : (l3.drop 9).length = n3 - 9 := by rw [List.length_drop, HN3.out]
              have := refVdecode_any (l3.drop 9) (by have := HN3.out; have := HSZ.out.2; omega) b3 (o3 + 9) (c3 - 9) (by omega) (by omega) W4 (hh.drop 9) (Nat.lt_of_lt_of_le hb HC3.out.bw.size)
              rwa [e9] at this
            clear hv
            rcases vdec_cases (l3.drop 9) with ⟨vk, vn, vs, hni, hvr, hvl, hve, hvd⟩ | hno
            · obtain ⟨S, hS⟩ : ∃ S : ByteArray, (⟨vs.toArray⟩ : ByteArray) = S := ⟨_, rfl⟩
              have HSl : Hid (S.data.toList = vs) := by unfold Hid; rw [← hS]
              have HVc : Hid ((l3.drop 9 = [] ∧ vk = 0 ∧ vn = 0 ∧ S.data.toList = []) ∨ (l3.drop 9 ≠ [] ∧ vdecEnd (l3.drop 9) = valEnd vk vn S.data.toList)) := .inr ⟨HV9.out, by rw [HSl.out]; exact hvd⟩
              have HDc2 : Hid (Calls Tryz.prog 120 #[.slice (some ⟨b3, o3 + 9, none⟩) (n3 - 9) (c3 - 9)] W4 fun e w' => e = .returned (.tuple #[.agg #[.int .i64 vk, .int .i64 vn, .string S], .bool true]) ∧ Below W4.heap.size W4 w') := by
                have := HDc.out
                rw [hvd] at this
                unfold valEnd at this
                rwa [hS] at this
              have HSV : Hid (S.size ≤ 4000) := by rw [← hS]; unfold Hid; rw [mk_size]; omega
              have HNI := hid hni
              clear hni hvr hvl hve hvd hS HDc
              go_upto_region 31 with (go_at_call 120; refine HDc2.out.mono ?_; rintro e w5 ⟨rfl, hb5⟩; have HC5 := hid (HC3.out.below hb5); have z5 : w5.cell? ⟨w.heap.size + 1, 5, none⟩ = some (.int .i64 0) := HC5.out.c.cell 5; have z6 : w5.cell? ⟨w.heap.size + 1, 6, none⟩ = some (.int .i64 0) := HC5.out.c.cell 6; have z7 : w5.cell? ⟨w.heap.size + 1, 7, none⟩ = some (.string ⟨#[]⟩) := HC5.out.c.cell 7; have zf : ∀ j, w5.frozen? ⟨w.heap.size + 1, j, none⟩ = false := (fun j => HC5.out.c.free j); have hz5 : w.heap.size + 1 < w5.heap.size := HC5.out.c.lt)
              refine wp_ltr (fun W' => RSt w W' #[.string R, .string F, .string Q, .int .i64 T, .int .i64 K, .int .i64 vk, .int .i64 vn, .string S]) ((((HC5.out.set 5 (.int .i64 vk)).set 6 (.int .i64 vn)).set 7 (.string S)).below (below_new _ _)) (fun W4 hW6 => ?_)
              have HC4 := hid hW6
              clear hW6 HC5 HC3 HS3 HDc2 z5 z6 z7 zf hz5 hb5
              have g0 : W4.cell? ⟨w.heap.size + 1, 0, none⟩ = some (.string R) := HC4.out.c.cell 0
              have g1 : W4.cell? ⟨w.heap.size + 1, 1, none⟩ = some (.string F) := HC4.out.c.cell 1
              have g2 : W4.cell? ⟨w.heap.size + 1, 2, none⟩ = some (.string Q) := HC4.out.c.cell 2
              have g3 : W4.cell? ⟨w.heap.size + 1, 3, none⟩ = some (.int .i64 T) := HC4.out.c.cell 3
              have g4 : W4.cell? ⟨w.heap.size + 1, 4, none⟩ = some (.int .i64 K) := HC4.out.c.cell 4
              have g5 : W4.cell? ⟨w.heap.size + 1, 5, none⟩ = some (.int .i64 vk) := HC4.out.c.cell 5
              have g6 : W4.cell? ⟨w.heap.size + 1, 6, none⟩ = some (.int .i64 vn) := HC4.out.c.cell 6
              have g7 : W4.cell? ⟨w.heap.size + 1, 7, none⟩ = some (.string S) := HC4.out.c.cell 7
              cases hr : cRight R.data.toList F.data.toList Q.data.toList T K vk vn S.data.toList with
              | false =>
                have HN : Hid (NoCell l) := HNo.out _ _ _ HVc.out (fun hh => by rw [hr] at hh; exact absurd hh.1 (by decide))
                have HEn : Hid (∀ W, Calls Tryz.prog 53 #[cellV R F Q T K vk vn S] W fun e w' => e = .returned (.tuple #[.slice none 0 0, .bool false]) ∧ Below W.heap.size W w') := fun W => refenc_no R F Q S T K vk vn HSZ.out.1 HSV.out W hr
                clear hr
                go_wp2_with (go_at_call 53; refine (HEn.out _).mono ?_; rintro e w5 ⟨rfl, hb5⟩; have HR := hid (HC4.out.below hb5); have r0 : w5.cell? ⟨w.heap.size, 0, none⟩ = some (.string ⟨#[]⟩) := HR.out.r.cell 0; have r1 : w5.cell? ⟨w.heap.size, 1, none⟩ = some (.string ⟨#[]⟩) := HR.out.r.cell 1; have r2 : w5.cell? ⟨w.heap.size, 2, none⟩ = some (.string ⟨#[]⟩) := HR.out.r.cell 2; have r3 : w5.cell? ⟨w.heap.size, 3, none⟩ = some (.int .i64 0) := HR.out.r.cell 3; have r4 : w5.cell? ⟨w.heap.size, 4, none⟩ = some (.int .i64 0) := HR.out.r.cell 4; have r5 : w5.cell? ⟨w.heap.size, 5, none⟩ = some (.int .i64 0) := HR.out.r.cell 5; have r6 : w5.cell? ⟨w.heap.size, 6, none⟩ = some (.int .i64 0) := HR.out.r.cell 6; have r7 : w5.cell? ⟨w.heap.size, 7, none⟩ = some (.string ⟨#[]⟩) := HR.out.r.cell 7; have rf : ∀ j, w5.frozen? ⟨w.heap.size, j, none⟩ = false := (fun j => HR.out.r.free j))
                refine bodyPost_ret (v := .tuple #[cellV ⟨#[]⟩ ⟨#[]⟩ ⟨#[]⟩ 0 0 0 0 ⟨#[]⟩, .bool false]) (by simp [results, Tryz.results59, go_sem, cell_set_same, r0, r1, r2, r3, r4, r5, r6, r7]) rfl ?_
                refine ⟨?_, .inr ⟨HN.out, rfl⟩⟩
                iterate 8 (refine Below.setCell ?_ (by simp) _)
                exact HR.out.bw
              | true =>
                have HEn : Hid (∀ W, Calls Tryz.prog 53 #[cellV R F Q T K vk vn S] W fun e w' => ∃ u, e = .returned (.tuple #[u, .bool true]) ∧ SlA w' u (cEnc R.data.toList F.data.toList Q.data.toList T K vk vn S.data.toList) ∧ Below W.heap.size W w') := fun W => by
                  obtain ⟨_, p2, _, p4, p5, _⟩ := cright_parts hr
                  exact (refenc_yes R F Q S T K vk (vn := vn) HNI.out (by have : R.size ≤ 16 := p2; omega) (by have : F.size ≤ 8 := p4; omega) (by have : Q.size ≤ 12 := p5; omega) HSV.out W hr).mono fun e w' ⟨u, he, hu, hb⟩ => ⟨u, he, hu.sla, hb⟩
                have HLE : Hid ((cEnc R.data.toList F.data.toList Q.data.toList T K vk vn S.data.toList).length ≤ 1000000) := by
                  obtain ⟨_, p2, _, p4, p5, _⟩ := cright_parts hr
                  have := cEnc_len R.data.toList F.data.toList Q.data.toList T K vk vn S.data.toList
                  have : R.data.toList.length ≤ 16 := p2
                  have : F.data.toList.length ≤ 8 := p4
                  have : Q.data.toList.length ≤ 12 := p5
                  have h8 : S.data.toList.length = S.size := by first | rfl | simp
                  have := HSV.out
                  unfold Hid
                  omega
                by_cases he : cEnc R.data.toList F.data.toList Q.data.toList T K vk vn S.data.toList = l
                · have HD : Hid (Below w.heap.size w W4) := HC4.out.bw
                  have HSm : Hid (∀ W u, SlA W u (cEnc R.data.toList F.data.toList Q.data.toList T K vk vn S.data.toList) → Below w.heap.size w W → Calls Tryz.prog 18 #[u, v] W fun e w' => e = .returned (.bool true) ∧ Below W.heap.size W w') := fun W u hu hW => by
                    have := same_sla u v _ l HLE.out W hu (HV.out.keep hW).1
                    rwa [decide_eq_true he] at this
                  have HF : Hid (∃ (r' f' q' : List UInt8) (t' k' vk' vn' : Int) (vs' : List UInt8), cRight r' f' q' t' k' vk' vn' vs' = true ∧ inI vn' ∧ cEnc r' f' q' t' k' vk' vn' vs' = l ∧ Ending.returned (.tuple #[cellV R F Q T K vk vn S, .bool true]) = .returned (.tuple #[cellV ⟨r'.toArray⟩ ⟨f'.toArray⟩ ⟨q'.toArray⟩ t' k' vk' vn' ⟨vs'.toArray⟩, .bool true])) := ⟨_, _, _, _, _, _, _, _, hr, HNI.out, he, rfl⟩
                  clear hr he
                  go_wp2_with (first
                    | (go_at_call 53; refine (HEn.out _).mono ?_; rintro e w5 ⟨u5, rfl, hu5, hb5⟩; have HR5 := hid (HC4.out.below hb5))
                    | (go_at_call 18; refine (HSm.out _ _ hu5 HR5.out.bw).mono ?_; rintro e w6 ⟨rfl, hb6⟩; have HR := hid (HR5.out.below hb6); have r0 : w6.cell? ⟨w.heap.size, 0, none⟩ = some (.string ⟨#[]⟩) := HR.out.r.cell 0; have r1 : w6.cell? ⟨w.heap.size, 1, none⟩ = some (.string ⟨#[]⟩) := HR.out.r.cell 1; have r2 : w6.cell? ⟨w.heap.size, 2, none⟩ = some (.string ⟨#[]⟩) := HR.out.r.cell 2; have r3 : w6.cell? ⟨w.heap.size, 3, none⟩ = some (.int .i64 0) := HR.out.r.cell 3; have r4 : w6.cell? ⟨w.heap.size, 4, none⟩ = some (.int .i64 0) := HR.out.r.cell 4; have r5 : w6.cell? ⟨w.heap.size, 5, none⟩ = some (.int .i64 0) := HR.out.r.cell 5; have r6 : w6.cell? ⟨w.heap.size, 6, none⟩ = some (.int .i64 0) := HR.out.r.cell 6; have r7 : w6.cell? ⟨w.heap.size, 7, none⟩ = some (.string ⟨#[]⟩) := HR.out.r.cell 7; have rf : ∀ j, w6.frozen? ⟨w.heap.size, j, none⟩ = false := (fun j => HR.out.r.free j); have k0 : w6.cell? ⟨w.heap.size + 1, 0, none⟩ = some (.string R) := HR.out.c.cell 0; have k1 : w6.cell? ⟨w.heap.size + 1, 1, none⟩ = some (.string F) := HR.out.c.cell 1; have k2 : w6.cell? ⟨w.heap.size + 1, 2, none⟩ = some (.string Q) := HR.out.c.cell 2; have k3 : w6.cell? ⟨w.heap.size + 1, 3, none⟩ = some (.int .i64 T) := HR.out.c.cell 3; have k4 : w6.cell? ⟨w.heap.size + 1, 4, none⟩ = some (.int .i64 K) := HR.out.c.cell 4; have k5 : w6.cell? ⟨w.heap.size + 1, 5, none⟩ = some (.int .i64 vk) := HR.out.c.cell 5; have k6 : w6.cell? ⟨w.heap.size + 1, 6, none⟩ = some (.int .i64 vn) := HR.out.c.cell 6; have k7 : w6.cell? ⟨w.heap.size + 1, 7, none⟩ = some (.string S) := HR.out.c.cell 7; have kf : ∀ j, w6.frozen? ⟨w.heap.size + 1, j, none⟩ = false := (fun j => HR.out.c.free j)))
                  refine bodyPost_ret (v := .tuple #[cellV R F Q T K vk vn S, .bool true]) (by simp [results, Tryz.results59, go_sem, cell_set_same, r0, r1, r2, r3, r4, r5, r6, r7]) rfl ?_
                  refine ⟨?_, .inl HF.out⟩
                  iterate 8 (refine Below.setCell ?_ (by simp) _)
                  exact HR.out.bw
                · have HN : Hid (NoCell l) := HNo.out _ _ _ HVc.out (fun hh => he hh.2)
                  have HSm : Hid (∀ W u, SlA W u (cEnc R.data.toList F.data.toList Q.data.toList T K vk vn S.data.toList) → Below w.heap.size w W → Calls Tryz.prog 18 #[u, v] W fun e w' => e = .returned (.bool false) ∧ Below W.heap.size W w') := fun W u hu hW => by
                    have := same_sla u v _ l HLE.out W hu (HV.out.keep hW).1
                    rwa [decide_eq_false he] at this
                  clear hr he
                  go_wp2_with (first
                    | (go_at_call 53; refine (HEn.out _).mono ?_; rintro e w5 ⟨u5, rfl, hu5, hb5⟩; have HR5 := hid (HC4.out.below hb5))
                    | (go_at_call 18; refine (HSm.out _ _ hu5 HR5.out.bw).mono ?_; rintro e w6 ⟨rfl, hb6⟩; have HR := hid (HR5.out.below hb6); have r0 : w6.cell? ⟨w.heap.size, 0, none⟩ = some (.string ⟨#[]⟩) := HR.out.r.cell 0; have r1 : w6.cell? ⟨w.heap.size, 1, none⟩ = some (.string ⟨#[]⟩) := HR.out.r.cell 1; have r2 : w6.cell? ⟨w.heap.size, 2, none⟩ = some (.string ⟨#[]⟩) := HR.out.r.cell 2; have r3 : w6.cell? ⟨w.heap.size, 3, none⟩ = some (.int .i64 0) := HR.out.r.cell 3; have r4 : w6.cell? ⟨w.heap.size, 4, none⟩ = some (.int .i64 0) := HR.out.r.cell 4; have r5 : w6.cell? ⟨w.heap.size, 5, none⟩ = some (.int .i64 0) := HR.out.r.cell 5; have r6 : w6.cell? ⟨w.heap.size, 6, none⟩ = some (.int .i64 0) := HR.out.r.cell 6; have r7 : w6.cell? ⟨w.heap.size, 7, none⟩ = some (.string ⟨#[]⟩) := HR.out.r.cell 7; have rf : ∀ j, w6.frozen? ⟨w.heap.size, j, none⟩ = false := (fun j => HR.out.r.free j)))
                  refine bodyPost_ret (v := .tuple #[cellV ⟨#[]⟩ ⟨#[]⟩ ⟨#[]⟩ 0 0 0 0 ⟨#[]⟩, .bool false]) (by simp [results, Tryz.results59, go_sem, cell_set_same, r0, r1, r2, r3, r4, r5, r6, r7]) rfl ?_
                  refine ⟨?_, .inr ⟨HN.out, rfl⟩⟩
                  iterate 8 (refine Below.setCell ?_ (by simp) _)
                  exact HR.out.bw
            · have HE : Hid (NoCell l) := HTK.out.badVal HD8.out HV9.out hno
              have HDc2 : Hid (Calls Tryz.prog 120 #[.slice (some ⟨b3, o3 + 9, none⟩) (n3 - 9) (c3 - 9)] W4 fun e w' => e = .returned (.tuple #[.agg #[.int .i64 0, .int .i64 0, .string ⟨#[]⟩], .bool false]) ∧ Below W4.heap.size W4 w') := by
                have := HDc.out
                rw [hno] at this
                exact this
              clear hno HDc
              go_wp2_with (go_at_call 120; refine HDc2.out.mono ?_; rintro e w5 ⟨rfl, hb5⟩; have HR := hid (HC3.out.below hb5); have r0 : ∀ o, (w5.alloc o).cell? ⟨w.heap.size, 0, none⟩ = some (.string ⟨#[]⟩) := (fun o => (HR.out.below (below_new w5 o)).r.cell 0); have r1 : ∀ o, (w5.alloc o).cell? ⟨w.heap.size, 1, none⟩ = some (.string ⟨#[]⟩) := (fun o => (HR.out.below (below_new w5 o)).r.cell 1); have r2 : ∀ o, (w5.alloc o).cell? ⟨w.heap.size, 2, none⟩ = some (.string ⟨#[]⟩) := (fun o => (HR.out.below (below_new w5 o)).r.cell 2); have r3 : ∀ o, (w5.alloc o).cell? ⟨w.heap.size, 3, none⟩ = some (.int .i64 0) := (fun o => (HR.out.below (below_new w5 o)).r.cell 3); have r4 : ∀ o, (w5.alloc o).cell? ⟨w.heap.size, 4, none⟩ = some (.int .i64 0) := (fun o => (HR.out.below (below_new w5 o)).r.cell 4); have r5 : ∀ o, (w5.alloc o).cell? ⟨w.heap.size, 5, none⟩ = some (.int .i64 0) := (fun o => (HR.out.below (below_new w5 o)).r.cell 5); have r6 : ∀ o, (w5.alloc o).cell? ⟨w.heap.size, 6, none⟩ = some (.int .i64 0) := (fun o => (HR.out.below (below_new w5 o)).r.cell 6); have r7 : ∀ o, (w5.alloc o).cell? ⟨w.heap.size, 7, none⟩ = some (.string ⟨#[]⟩) := (fun o => (HR.out.below (below_new w5 o)).r.cell 7); have rf : ∀ o j, (w5.alloc o).frozen? ⟨w.heap.size, j, none⟩ = false := (fun o j => (HR.out.below (below_new w5 o)).r.free j))
              refine bodyPost_ret (v := .tuple #[cellV ⟨#[]⟩ ⟨#[]⟩ ⟨#[]⟩ 0 0 0 0 ⟨#[]⟩, .bool false]) (by simp [results, Tryz.results59, go_sem, cell_set_same, r0, r1, r2, r3, r4, r5, r6, r7]) rfl ?_
              refine ⟨?_, .inr ⟨HE.out, rfl⟩⟩
              iterate 8 (refine Below.setCell ?_ (by simp) _)
              exact HR.out.bw.alloc (by have := HR.out.bw.size; omega) _

theorem refdecode3_any (v : Value) (l : List UInt8) (hl : l.length ≤ 4000) (w : World) (h : SlA w v l) :
    Calls Tryz.prog 59 #[v] w (DEnd l w) := by
  cases h1 : unE l with
  | none => exact refdec_a v l hl w h h1
  | some p =>
    obtain ⟨r, k1⟩ := p
    cases h2 : unE (l.drop k1) with
    | none => exact refdec_b v l hl w h h1 h2
    | some p =>
      obtain ⟨f, k2⟩ := p
      have hcs : (∃ l3, (l.drop k1).drop k2 = 0 :: 0 :: l3) ∨ ((l.drop k1).drop k2 = [] ∨ (∃ x, (l.drop k1).drop k2 = [x]) ∨ (∃ x y t, (l.drop k1).drop k2 = x :: y :: t ∧ x ≠ 0) ∨ (∃ x y t, (l.drop k1).drop k2 = x :: y :: t ∧ x = 0 ∧ y ≠ 0)) := by
        generalize (l.drop k1).drop k2 = l2
        match l2 with
        | [] => exact .inr (.inl rfl)
        | [x] => exact .inr (.inr (.inl ⟨x, rfl⟩))
        | x :: y :: t =>
          by_cases hx : x = 0
          · by_cases hy : y = 0
            · exact .inl ⟨t, by rw [hx, hy]⟩
            · exact .inr (.inr (.inr (.inr ⟨x, y, t, rfl, hx, hy⟩)))
          · exact .inr (.inr (.inr (.inl ⟨x, y, t, rfl, hx⟩)))
      rcases hcs with ⟨l3, h3⟩ | hq
      · exact refdec_wh v l hl w h h1 h2 l3 h3
      · cases h3 : unE ((l.drop k1).drop k2) with
        | none => exact refdec_q0 v l hl w h h1 h2 hq h3
        | some p =>
          obtain ⟨q, k3⟩ := p
          exact refdec_q1 v l hl w h h1 h2 hq h3
end Go.Proofs.YtfcnobcpnhfgmaaGreatDoor
