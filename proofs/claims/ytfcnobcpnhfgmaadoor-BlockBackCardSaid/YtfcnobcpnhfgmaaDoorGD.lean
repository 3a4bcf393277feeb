/- symMergeCmpFunc over cells: two sorted stretches side by side become one, and what is alike stays in its order. Conditions: the comparison is a strict weak order; the tags of the first stretch are below those of the second. -/
import Derived.Test.YtfcnobcpnhfgmaaDoorGC
import Derived.Deep.DeepCutAuto
namespace Go.Proofs.YtfcnobcpnhfgmaaDoor
open Go.Shelf Go.RowKit Go.Lib Go.Sort

variable {P : Program} {k : Nat} {α : Type} [Inhabited α]

set_option maxHeartbeats 8000000 in
set_option maxRecDepth 1000000 in
theorem sm_one (L : SLP P k) (enc : α → List Value) (cf : α → α → Int) (tg : α → Nat) (g : Nat) (cb : Array Value) (blk off cap a b : Nat) (d0 d : Array α) (w0 w : World)
    (eg : ∀ args w, (callFunc g args).run P w = .ok (.enter g args) w) (hcmp : CmpLays P g cb enc k cf blk off d0.size w0) (R : RowK enc k w0 blk off d0) (hs : d0.size = d.size) (S : SWK enc k w0 blk off d w) (hO : SWO (ltOf cf)) (hsz : d.size < 4611686018427387904)
    (hb : b ≤ d.size) (hab : a + 1 < b) (hr : RS (ltOf cf) tg (a + 1) b d) (ht : TL tg a (a + 1) b d) :
    Calls P 162 #[.slice (some ⟨blk, off, none⟩) d.size cap, .int .i64 (a : Int), .int .i64 ((a + 1 : Nat) : Int), .int .i64 (b : Int), .func (.func g) #[] cb] w fun e w' => e = .returned (.tuple #[]) ∧ ∃ d', SWK enc k w0 blk off d' w' ∧ Mrg (ltOf cf) tg a b d d' := by
  have mixed := L.mixed; have t0 := L.t0; have a0 := L.a0; have z0 := L.z0; have v0 := L.v0; have t3 := L.t3; have a3 := L.a3; have z3 := L.z3; have v3 := L.v3; have t4 := L.t4; have a4 := L.a4; have z4 := L.z4; have v4 := L.v4; have t22 := L.tS; have a22 := L.aS; have z22 := L.zS; have v22 := L.vS; have t25 := L.tF; have a25 := L.aF; have z25 := L.zF; have v25 := L.vF; have tU := L.tU; have aU := L.aU; have zU := L.zU; have vU := L.vU
  have FG := L.fm
  have HC : Aside _ := hcmp
  have S0 : Aside (SWK enc k w0 blk off d w) := S
  have HO : Aside (SWO (ltOf cf)) := hO
  clear hcmp S hO
  have HR : Hid (RS (ltOf cf) tg (a + 1) b d) := hr
  have HT : Hid (TL tg a (a + 1) b d) := ht
  clear hr ht
  have hca : ((a + 1 : Nat) : Int) = (a : Int) + 1 := by omega
  rw [hca]
  have hsub : (a : Int) + 1 - (a : Int) = 1 := by omega
  have aE := L.aE; have zE := L.zE
  go_enter FG, Tryd.ntmps162
  go_wp2
  go_loopg [10, 11] (b - (a + 1)) (fun kx s10 s11 wr => ∃ (i j : Nat), s10 = .int .i64 i ∧ s11 = .int .i64 j ∧ a + 1 ≤ i ∧ i ≤ j ∧ j ≤ b ∧ j - i ≤ kx ∧ Aside (SWK enc k w0 blk off d wr) ∧ Hid ((∀ x, a + 1 ≤ x → x < i → ltOf cf d[x]! d[a]! = true) ∧ (∀ x, j ≤ x → x < b → ltOf cf d[x]! d[a]! = false)))
  case atStart => exact ⟨a + 1, b, by first | rfl | go_num, rfl, Nat.le_refl _, by omega, Nat.le_refl _, Nat.le_refl _, S0, fun x h1 h2 => absurd h1 (by omega), fun x h1 h2 => absurd h1 (by omega)⟩
  case round =>
    clear S0
    obtain ⟨i, j, rfl, rfl, hi, hij, hj, hkx, S1, HI⟩ := hrel
    by_cases hlt : i < j
    · have hltz : (i : Int) < (j : Int) := by omega
      obtain ⟨h, hh⟩ : ∃ h, (i + j) / 2 = h := ⟨_, rfl⟩
      have hwh : ((i : Int) + (j : Int)) / 2 = (h : Int) := by omega
      have hih : i ≤ h := by omega
      have hhj : h < j := by omega
      clear hh
      cases hq : ltOf cf d[h]! d[a]! with
      | true =>
        have HQ : Hid (ltOf cf d[h]! d[a]! = true) := hq
        have ea1x : ((h : Int)).toNat = h := by omega
        have pa1x : (0 : Int) ≤ (h : Int) := by omega
        have ba1x : (h : Int) < (d.size : Int) := by omega
        have ra1x : IntKind.i64.wrap ((h : Int)) = (h : Int) := by rw [IntKind.wrap_i64]; omega
        have ea1y : ((a : Int)).toNat = a := by omega
        have pa1y : (0 : Int) ≤ (a : Int) := by omega
        have ba1y : (a : Int) < (d.size : Int) := by omega
        have ra1y : IntKind.i64.wrap ((a : Int)) = (a : Int) := by rw [IntKind.wrap_i64]; omega
        obtain ⟨x1, hx1⟩ : ∃ x, x = d[h]! := ⟨_, rfl⟩
        obtain ⟨y1, hy1⟩ : ∃ x, x = d[a]! := ⟨_, rfl⟩
        have l1a := S1.out.ld R (by omega) P (h) (by omega)
        have l1b := S1.out.ld R (by omega) P (a) (by omega)
        rw [← hx1] at l1a
        rw [← hy1] at l1b
        have hc1 := S1.out.cmp HC.out (by omega) x1 y1
        have hl1 : ltOf cf x1 y1 = true := by rw [hx1, hy1]; exact hq
        have hd1 : decide (cf x1 y1 < 0) = true := hl1
        have hv1 : cf x1 y1 < 0 := of_decide_eq_true hl1
        clear hx1 hy1 hl1
        go_wp2_with fail
        go_quiet_grown (first | (go_at_fn g; refine Calls.grown_of (hc1 _ _)))
        have S2 : Aside (SWK enc k w0 blk off d (grow (wr.drewN nq) osq)) := S1.out.grown nq osq
        clear l1a l1b hc1 S1
        generalize grow (wr.drewN nq) osq = w2 at S2 ⊢
        clear nq osq
        clear hq
        go_wp2
        go_roundg (j - (h + 1))
        case measure => omega
        case rel =>
          refine ⟨h + 1, j, by go_num, rfl, by omega, by omega, hj, Nat.le_refl _, S2, fun x h1 h2 => ?_, HI.out.2⟩
          by_cases hx : x < i
          · exact HI.out.1 x h1 hx
          · exact swo_le_lt HO.out (RS.le HO.out HR.out h1 (by omega : x ≤ h) (by omega)) HQ.out
      | false =>
        have HQ : Hid (ltOf cf d[h]! d[a]! = false) := hq
        have ea2x : ((h : Int)).toNat = h := by omega
        have pa2x : (0 : Int) ≤ (h : Int) := by omega
        have ba2x : (h : Int) < (d.size : Int) := by omega
        have ra2x : IntKind.i64.wrap ((h : Int)) = (h : Int) := by rw [IntKind.wrap_i64]; omega
        have ea2y : ((a : Int)).toNat = a := by omega
        have pa2y : (0 : Int) ≤ (a : Int) := by omega
        have ba2y : (a : Int) < (d.size : Int) := by omega
        have ra2y : IntKind.i64.wrap ((a : Int)) = (a : Int) := by rw [IntKind.wrap_i64]; omega
        obtain ⟨x2, hx2⟩ : ∃ x, x = d[h]! := ⟨_, rfl⟩
        obtain ⟨y2, hy2⟩ : ∃ x, x = d[a]! := ⟨_, rfl⟩
        have l2a := S1.out.ld R (by omega) P (h) (by omega)
        have l2b := S1.out.ld R (by omega) P (a) (by omega)
        rw [← hx2] at l2a
        rw [← hy2] at l2b
        have hc2 := S1.out.cmp HC.out (by omega) x2 y2
        have hl2 : ltOf cf x2 y2 = false := by rw [hx2, hy2]; exact hq
        have hd2 : decide (cf x2 y2 < 0) = false := hl2
        have hv2 : ¬ cf x2 y2 < 0 := of_decide_eq_false hl2
        clear hx2 hy2 hl2
        go_wp2_with fail
        go_quiet_grown (first | (go_at_fn g; refine Calls.grown_of (hc2 _ _)))
        have S2 : Aside (SWK enc k w0 blk off d (grow (wr.drewN nq) osq)) := S1.out.grown nq osq
        clear l2a l2b hc2 S1
        generalize grow (wr.drewN nq) osq = w2 at S2 ⊢
        clear nq osq
        clear hq
        go_wp2
        go_roundg (h - i)
        case measure => omega
        case rel =>
          refine ⟨i, h, rfl, rfl, hi, by omega, by omega, Nat.le_refl _, S2, HI.out.1, fun x h1 h2 => ?_⟩
          cases hx : ltOf cf d[x]! d[a]! with
          | false => rfl
          | true =>
            have := swo_le_lt HO.out (RS.le HO.out HR.out (by omega) h1 h2) hx
            have hq' := HQ.out
            rw [this] at hq'; cases hq'
    · obtain rfl : i = j := by omega
      have hi1 : (i : Int) - 1 = ((i - 1 : Nat) : Int) := by omega
      obtain ⟨i', hi'⟩ : ∃ i', i - 1 = i' := ⟨_, rfl⟩
      rw [hi'] at hi1
      go_wp2
      go_loopg [13] (i' - a) (fun kx s13 wr => ∃ (z : Nat) (dk : Array α), s13 = .int .i64 z ∧ a ≤ z ∧ z ≤ i' ∧ i' - z ≤ kx ∧ dk.size = d.size ∧ Aside (SWK enc k w0 blk off dk wr) ∧ Hid (UpR a z d dk))
      case atStart => exact ⟨a, d, rfl, Nat.le_refl _, by omega, Nat.le_refl _, rfl, S1, UpR.zero a d⟩
      case round =>
        clear S1
        obtain ⟨z, dk, rfl, hz, hzi, hkx, hds, S1, HU⟩ := hrel
        by_cases hlt2 : z < i'
        · have hltz : (z : Int) < (i' : Int) := by omega
          have ea3x : ((z : Int)).toNat = z := by omega
          have pa3x : (0 : Int) ≤ (z : Int) := by omega
          have ba3x : (z : Int) < (d.size : Int) := by omega
          have ra3x : IntKind.i64.wrap ((z : Int)) = (z : Int) := by rw [IntKind.wrap_i64]; omega
          have ea3y : ((z : Int) + 1).toNat = z + 1 := by omega
          have pa3y : (0 : Int) ≤ (z : Int) + 1 := by omega
          have ba3y : (z : Int) + 1 < (d.size : Int) := by omega
          have ra3y : IntKind.i64.wrap ((z : Int) + 1) = (z : Int) + 1 := by rw [IntKind.wrap_i64]; omega
          have S2 : Aside (SWK enc k w0 blk off (swp dk (z) (z + 1)) ((wr.drew.setCells blk (off + (z) * k) (enc dk[z + 1]!)).setCells blk (off + (z + 1) * k) (enc dk[z]!))) := S1.out.swapped R (z) (z + 1) (by omega) (by omega)
          have l3a := S1.out.ld1 R (by omega) P (z) (by omega)
          have l3b := S1.out.ld1 R (by omega) P (z + 1) (by omega)
          have s3a := S1.out.st1 R (by omega) P (z) (by omega) dk[z + 1]!
          have s3b := S1.out.st2 R (by omega) P (z) (z + 1) (by omega) (by omega) dk[z + 1]! dk[z]!
          have n3a : (enc dk[z]!).length = k := R.hk _
          have n3b : (enc dk[z + 1]!).length = k := R.hk _
          generalize enc dk[z]! = cI3 at S2 l3a s3b n3a
          generalize enc dk[z + 1]! = cJ3 at S2 l3b s3a s3b n3b
          clear S1
          go_wp2_with fail
          go_big_region_o
          clear l3a l3b s3a s3b
          generalize (wr.drew.setCells blk (off + (z) * k) cJ3).setCells blk (off + (z + 1) * k) cI3 = w2 at S2 ⊢
          go_wp2
          go_roundg (i' - (z + 1))
          case measure => omega
          case rel => exact ⟨z + 1, swp dk z (z + 1), by go_num, by omega, by omega, Nat.le_refl _, by rw [size_swp]; exact hds, S2, HU.out.next hz (by omega)⟩
        · have hltz : ¬ (z : Int) < (i' : Int) := by omega
          go_wp2
          (try simp only [Exit.inBlock, Exit.then])
          refine bodyPost_ret (v := .tuple #[]) (results_none rfl _ _ _) rfl ?_
          obtain rfl : z = i - 1 := by omega
          exact ⟨rfl, dk, S1.out, merge_up HR.out HT.out (by omega) hi hj HI.out.1 HI.out.2 HU.out⟩
set_option maxHeartbeats 8000000 in
set_option maxRecDepth 1000000 in
theorem sm_last (L : SLP P k) (enc : α → List Value) (cf : α → α → Int) (tg : α → Nat) (g : Nat) (cb : Array Value) (blk off cap a m : Nat) (d0 d : Array α) (w0 w : World)
    (eg : ∀ args w, (callFunc g args).run P w = .ok (.enter g args) w) (hcmp : CmpLays P g cb enc k cf blk off d0.size w0) (R : RowK enc k w0 blk off d0) (hs : d0.size = d.size) (S : SWK enc k w0 blk off d w) (hO : SWO (ltOf cf)) (hsz : d.size < 4611686018427387904)
    (hb : m + 1 ≤ d.size) (ham : a + 1 < m) (hl : RS (ltOf cf) tg a m d) (ht : TL tg a m (m + 1) d) :
    Calls P 162 #[.slice (some ⟨blk, off, none⟩) d.size cap, .int .i64 (a : Int), .int .i64 (m : Int), .int .i64 ((m + 1 : Nat) : Int), .func (.func g) #[] cb] w fun e w' => e = .returned (.tuple #[]) ∧ ∃ d', SWK enc k w0 blk off d' w' ∧ Mrg (ltOf cf) tg a (m + 1) d d' := by
  have mixed := L.mixed; have t0 := L.t0; have a0 := L.a0; have z0 := L.z0; have v0 := L.v0; have t3 := L.t3; have a3 := L.a3; have z3 := L.z3; have v3 := L.v3; have t4 := L.t4; have a4 := L.a4; have z4 := L.z4; have v4 := L.v4; have t22 := L.tS; have a22 := L.aS; have z22 := L.zS; have v22 := L.vS; have t25 := L.tF; have a25 := L.aF; have z25 := L.zF; have v25 := L.vF; have tU := L.tU; have aU := L.aU; have zU := L.zU; have vU := L.vU
  have FG := L.fm
  have HC : Aside _ := hcmp
  have S0 : Aside (SWK enc k w0 blk off d w) := S
  have HO : Aside (SWO (ltOf cf)) := hO
  clear hcmp S hO
  have HL : Hid (RS (ltOf cf) tg a m d) := hl
  have HT : Hid (TL tg a m (m + 1) d) := ht
  clear hl ht
  have hcm : ((m + 1 : Nat) : Int) = (m : Int) + 1 := by omega
  rw [hcm]
  have hsub : (m : Int) + 1 - (m : Int) = 1 := by omega
  have hsub2 : ((m : Int) - (a : Int) == 1) = false := by simp; omega
  have aE := L.aE; have zE := L.zE
  go_enter FG, Tryd.ntmps162
  go_wp2
  go_loopg [14, 15] (m - a) (fun kx s14 s15 wr => ∃ (i j : Nat), s14 = .int .i64 i ∧ s15 = .int .i64 j ∧ a ≤ i ∧ i ≤ j ∧ j ≤ m ∧ j - i ≤ kx ∧ Aside (SWK enc k w0 blk off d wr) ∧ Hid ((∀ x, a ≤ x → x < i → ltOf cf d[m]! d[x]! = false) ∧ (∀ x, j ≤ x → x < m → ltOf cf d[m]! d[x]! = true)))
  case atStart => exact ⟨a, m, rfl, rfl, Nat.le_refl _, by omega, Nat.le_refl _, Nat.le_refl _, S0, fun x h1 h2 => absurd h1 (by omega), fun x h1 h2 => absurd h1 (by omega)⟩
  case round =>
    clear S0
    obtain ⟨i, j, rfl, rfl, hi, hij, hj, hkx, S1, HI⟩ := hrel
    by_cases hlt : i < j
    · have hltz : (i : Int) < (j : Int) := by omega
      obtain ⟨h, hh⟩ : ∃ h, (i + j) / 2 = h := ⟨_, rfl⟩
      have hwh : ((i : Int) + (j : Int)) / 2 = (h : Int) := by omega
      have hih : i ≤ h := by omega
      have hhj : h < j := by omega
      clear hh
      cases hq : ltOf cf d[m]! d[h]! with
      | false =>
        have HQ : Hid (ltOf cf d[m]! d[h]! = false) := hq
        have ea1x : ((m : Int)).toNat = m := by omega
        have pa1x : (0 : Int) ≤ (m : Int) := by omega
        have ba1x : (m : Int) < (d.size : Int) := by omega
        have ra1x : IntKind.i64.wrap ((m : Int)) = (m : Int) := by rw [IntKind.wrap_i64]; omega
        have ea1y : ((h : Int)).toNat = h := by omega
        have pa1y : (0 : Int) ≤ (h : Int) := by omega
        have ba1y : (h : Int) < (d.size : Int) := by omega
        have ra1y : IntKind.i64.wrap ((h : Int)) = (h : Int) := by rw [IntKind.wrap_i64]; omega
        obtain ⟨x1, hx1⟩ : ∃ x, x = d[m]! := ⟨_, rfl⟩
        obtain ⟨y1, hy1⟩ : ∃ x, x = d[h]! := ⟨_, rfl⟩
        have l1a := S1.out.ld R (by omega) P (m) (by omega)
        have l1b := S1.out.ld R (by omega) P (h) (by omega)
        rw [← hx1] at l1a
        rw [← hy1] at l1b
        have hc1 := S1.out.cmp HC.out (by omega) x1 y1
        have hl1 : ltOf cf x1 y1 = false := by rw [hx1, hy1]; exact hq
        have hd1 : decide (cf x1 y1 < 0) = false := hl1
        have hv1 : ¬ cf x1 y1 < 0 := of_decide_eq_false hl1
        clear hx1 hy1 hl1
        go_wp2_with fail
        go_quiet_grown (first | (go_at_fn g; refine Calls.grown_of (hc1 _ _)))
        have S2 : Aside (SWK enc k w0 blk off d (grow (wr.drewN nq) osq)) := S1.out.grown nq osq
        clear l1a l1b hc1 S1
        generalize grow (wr.drewN nq) osq = w2 at S2 ⊢
        clear nq osq
        clear hq
        go_wp2
        go_roundg (j - (h + 1))
        case measure => omega
        case rel =>
          refine ⟨h + 1, j, by go_num, rfl, by omega, by omega, hj, Nat.le_refl _, S2, fun x h1 h2 => ?_, HI.out.2⟩
          by_cases hx : x < i
          · exact HI.out.1 x h1 hx
          · exact HO.out.ntrans _ _ _ HQ.out (RS.le HO.out HL.out h1 (by omega : x ≤ h) (by omega))
      | true =>
        have HQ : Hid (ltOf cf d[m]! d[h]! = true) := hq
        have ea2x : ((m : Int)).toNat = m := by omega
        have pa2x : (0 : Int) ≤ (m : Int) := by omega
        have ba2x : (m : Int) < (d.size : Int) := by omega
        have ra2x : IntKind.i64.wrap ((m : Int)) = (m : Int) := by rw [IntKind.wrap_i64]; omega
        have ea2y : ((h : Int)).toNat = h := by omega
        have pa2y : (0 : Int) ≤ (h : Int) := by omega
        have ba2y : (h : Int) < (d.size : Int) := by omega
        have ra2y : IntKind.i64.wrap ((h : Int)) = (h : Int) := by rw [IntKind.wrap_i64]; omega
        obtain ⟨x2, hx2⟩ : ∃ x, x = d[m]! := ⟨_, rfl⟩
        obtain ⟨y2, hy2⟩ : ∃ x, x = d[h]! := ⟨_, rfl⟩
        have l2a := S1.out.ld R (by omega) P (m) (by omega)
        have l2b := S1.out.ld R (by omega) P (h) (by omega)
        rw [← hx2] at l2a
        rw [← hy2] at l2b
        have hc2 := S1.out.cmp HC.out (by omega) x2 y2
        have hl2 : ltOf cf x2 y2 = true := by rw [hx2, hy2]; exact hq
        have hd2 : decide (cf x2 y2 < 0) = true := hl2
        have hv2 : cf x2 y2 < 0 := of_decide_eq_true hl2
        clear hx2 hy2 hl2
        go_wp2_with fail
        go_quiet_grown (first | (go_at_fn g; refine Calls.grown_of (hc2 _ _)))
        have S2 : Aside (SWK enc k w0 blk off d (grow (wr.drewN nq) osq)) := S1.out.grown nq osq
        clear l2a l2b hc2 S1
        generalize grow (wr.drewN nq) osq = w2 at S2 ⊢
        clear nq osq
        clear hq
        go_wp2
        go_roundg (h - i)
        case measure => omega
        case rel => exact ⟨i, h, rfl, rfl, hi, by omega, by omega, Nat.le_refl _, S2, HI.out.1, fun x h1 h2 => swo_lt_le HO.out HQ.out (RS.le HO.out HL.out (by omega) h1 h2)⟩
    · obtain rfl : i = j := by omega
      go_wp2
      go_loopg [17] (m - i) (fun kx s17 wr => ∃ (z : Nat) (dk : Array α), s17 = .int .i64 z ∧ i ≤ z ∧ z ≤ m ∧ z - i ≤ kx ∧ dk.size = d.size ∧ Aside (SWK enc k w0 blk off dk wr) ∧ Hid (DnR m z d dk))
      case atStart => exact ⟨m, d, rfl, hj, Nat.le_refl _, Nat.le_refl _, rfl, S1, DnR.zero m d⟩
      case round =>
        clear S1
        obtain ⟨z, dk, rfl, hz, hzm, hkx, hds, S1, HU⟩ := hrel
        by_cases hlt2 : i < z
        · have hltz : (i : Int) < (z : Int) := by omega
          obtain ⟨y, rfl⟩ : ∃ y, z = y + 1 := ⟨z - 1, by omega⟩
          have hltz2 : (i : Int) < (y : Int) + 1 := by omega
          have ea3x : ((y : Int) + 1).toNat = y + 1 := by omega
          have pa3x : (0 : Int) ≤ (y : Int) + 1 := by omega
          have ba3x : (y : Int) + 1 < (d.size : Int) := by omega
          have ra3x : IntKind.i64.wrap ((y : Int) + 1) = (y : Int) + 1 := by rw [IntKind.wrap_i64]; omega
          have ea3y : ((y : Int)).toNat = y := by omega
          have pa3y : (0 : Int) ≤ (y : Int) := by omega
          have ba3y : (y : Int) < (d.size : Int) := by omega
          have ra3y : IntKind.i64.wrap ((y : Int)) = (y : Int) := by rw [IntKind.wrap_i64]; omega
          have S2 : Aside (SWK enc k w0 blk off (swp dk (y + 1) (y)) ((wr.drew.setCells blk (off + (y + 1) * k) (enc dk[y]!)).setCells blk (off + (y) * k) (enc dk[y + 1]!))) := S1.out.swapped R (y + 1) (y) (by omega) (by omega)
          have l3a := S1.out.ld1 R (by omega) P (y + 1) (by omega)
          have l3b := S1.out.ld1 R (by omega) P (y) (by omega)
          have s3a := S1.out.st1 R (by omega) P (y + 1) (by omega) dk[y]!
          have s3b := S1.out.st2 R (by omega) P (y + 1) (y) (by omega) (by omega) dk[y]! dk[y + 1]!
          have n3a : (enc dk[y + 1]!).length = k := R.hk _
          have n3b : (enc dk[y]!).length = k := R.hk _
          generalize enc dk[y + 1]! = cI3 at S2 l3a s3b n3a
          generalize enc dk[y]! = cJ3 at S2 l3b s3a s3b n3b
          clear S1
          go_wp2_with fail
          go_big_region_o
          clear l3a l3b s3a s3b
          generalize (wr.drew.setCells blk (off + (y + 1) * k) cJ3).setCells blk (off + (y) * k) cI3 = w2 at S2 ⊢
          go_wp2
          go_roundg (y - i)
          case measure => omega
          case rel => exact ⟨y, swp dk (y + 1) y, by first | rfl | go_num, by omega, by omega, Nat.le_refl _, by rw [size_swp]; exact hds, S2, HU.out.next (by omega) (by omega)⟩
        · have hltz : ¬ (i : Int) < (z : Int) := by omega
          go_wp2
          (try simp only [Exit.inBlock, Exit.then])
          refine bodyPost_ret (v := .tuple #[]) (results_none rfl _ _ _) rfl ?_
          obtain rfl : z = i := by omega
          exact ⟨rfl, dk, S1.out, merge_dn HL.out HT.out (by omega) hi hj HI.out.1 HI.out.2 HU.out⟩
end Go.Proofs.YtfcnobcpnhfgmaaDoor
