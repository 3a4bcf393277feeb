/- insertionSortCmpFunc over cells: a stretch of cells with rising tags is sorted, and what is alike stays in its order. Conditions: the comparison is a strict weak order. -/
import Derived.Test.YtfcnobcpnhfgmaaDoorGC
import Derived.Deep.DeepCutAuto
namespace Go.Proofs.YtfcnobcpnhfgmaaDoor
open Go.Shelf Go.RowKit Go.Lib Go.Sort

variable {P : Program} {k : Nat} {α : Type} [Inhabited α]

/-- The tags rise. -/
def TI (tg : α → Nat) (a b : Nat) (d : Array α) : Prop := ∀ i j, a ≤ i → i < j → j < b → tg d[i]! < tg d[j]!
/-- A part of a stretch is merged, the rest is as it was. -/
structure Ins (lt : α → α → Bool) (tg : α → Nat) (a i : Nat) (d dk : Array α) : Prop where
  m : Mrg lt tg a i d dk
theorem Ins.tl {lt : α → α → Bool} {tg : α → Nat} {a i b : Nat} {d dk : Array α} (h : Ins lt tg a i d dk) (ht : TI tg a b d) (hi : i < b) (hb : b ≤ d.size) : TL tg a i (i + 1) dk := fun x y hx hxi hy hy2 => by
  obtain rfl : y = i := by omega
  rw [h.m.1.2.1 y (by omega)]
  exact permIn_all d dk a y (fun z => tg z < tg d[y]!) (by omega) h.m.1 (fun u hu hu2 => ht u y hu hu2 hi) x hx hxi
theorem Ins.next {lt : α → α → Bool} {tg : α → Nat} {a i b : Nat} {d dk dj : Array α} (h : Ins lt tg a i d dk) (hm : Mrg lt tg a (i + 1) dk dj) (hi : i < b) (hb : b ≤ d.size) : Ins lt tg a (i + 1) d dj :=
  ⟨permIn_trans _ _ _ _ _ (permIn_mono _ _ _ _ _ _ (Nat.le_refl _) (by omega) (by omega) h.m.1) hm.1, hm.2⟩

set_option maxHeartbeats 8000000 in
set_option maxRecDepth 1000000 in
theorem insertion_any (L : SLP P k) (enc : α → List Value) (cf : α → α → Int) (tg : α → Nat) (g : Nat) (cb : Array Value) (blk off cap a b : Nat) (d0 d : Array α) (w0 w : World)
    (eg : ∀ args w, (callFunc g args).run P w = .ok (.enter g args) w) (hcmp : CmpLays P g cb enc k cf blk off d0.size w0) (R : RowK enc k w0 blk off d0) (hs : d0.size = d.size) (S : SWK enc k w0 blk off d w) (hO : SWO (ltOf cf)) (hsz : d.size < 4611686018427387904)
    (hb : b ≤ d.size) (hab : a ≤ b) (ht : TI tg a b d) :
    Calls P 161 #[.slice (some ⟨blk, off, none⟩) d.size cap, .int .i64 (a : Int), .int .i64 (b : Int), .func (.func g) #[] cb] w fun e w' => e = .returned (.tuple #[]) ∧ ∃ d', SWK enc k w0 blk off d' w' ∧ Mrg (ltOf cf) tg a b d d' := by
  have mixed := L.mixed; have t0 := L.t0; have a0 := L.a0; have z0 := L.z0; have v0 := L.v0; have t3 := L.t3; have a3 := L.a3; have z3 := L.z3; have v3 := L.v3; have t4 := L.t4; have a4 := L.a4; have z4 := L.z4; have v4 := L.v4; have t22 := L.tS; have a22 := L.aS; have z22 := L.zS; have v22 := L.vS; have t25 := L.tF; have a25 := L.aF; have z25 := L.zF; have v25 := L.vF; have tU := L.tU; have aU := L.aU; have zU := L.zU; have vU := L.vU
  have FG := L.fi
  have HC : Aside _ := hcmp
  have S0 : Aside (SWK enc k w0 blk off d w) := S
  have HO : Aside (SWO (ltOf cf)) := hO
  have HT : Hid (TI tg a b d) := ht
  clear hcmp S hO ht
  have aE := L.aE; have zE := L.zE
  go_enter FG, Tryd.ntmps161
  go_wp2
  go_loopg [8] (b - a) (fun g1 vi wr => ∃ (i : Nat) (dk : Array α), vi = .int .i64 i ∧ a < i ∧ i ≤ b + 1 ∧ b + 1 - i ≤ g1 + 1 ∧ dk.size = d.size ∧ Aside (SWK enc k w0 blk off dk wr) ∧ Hid (i ≤ b → Ins (ltOf cf) tg a i d dk) ∧ Hid (b < i → dk = d ∧ a = b))
  case atStart =>
    refine ⟨a + 1, d, by go_num, by omega, by omega, by omega, rfl, S0, fun _ => ⟨permIn_refl d a (a + 1), fun x y h1 h2 h3 => by omega⟩, fun h => ⟨rfl, by omega⟩⟩
  case round =>
    clear S0
    obtain ⟨i, dk, rfl, hai, hib, hg1, hds, S1, HI, HE⟩ := hrel
    by_cases hlt : i < b
    · have hltz : (i : Int) < (b : Int) := by omega
      have HI2 : Hid (Ins (ltOf cf) tg a i d dk) := HI.out (by omega)
      clear HI HE
      go_wp2
      go_loopg [9] i (fun g2 vj wr2 => ∃ (j : Nat) (dj : Array α), vj = .int .i64 j ∧ a ≤ j ∧ j ≤ i ∧ j ≤ g2 ∧ dj.size = d.size ∧ Aside (SWK enc k w0 blk off dj wr2) ∧ Hid (DnR i j dk dj ∧ ∀ x, j ≤ x → x < i → ltOf cf dk[i]! dk[x]! = true))
      case atStart => exact ⟨i, dk, rfl, by omega, Nat.le_refl _, Nat.le_refl _, hds, S1, DnR.zero i dk, fun x h1 h2 => absurd h1 (by omega)⟩
      case round =>
        clear S1
        obtain ⟨j, dj, rfl, haj, hji, hg2, hsj, S1, HJ⟩ := hrel
        have out : (∀ x, a ≤ x → x < j → ltOf cf dk[i]! dk[x]! = false) → Ins (ltOf cf) tg a (i + 1) d dj := fun hq =>
          HI2.out.next (merge_dn HI2.out.m.2 (HI2.out.tl HT.out hlt hb) (by omega) haj hji hq HJ.out.2 HJ.out.1) hlt hb
        have OUT : Aside _ := out
        clear out
        by_cases hja : a < j
        · obtain ⟨jp, rfl⟩ : ∃ jp, j = jp + 1 := ⟨j - 1, by omega⟩
          have hjaz : (a : Int) < (jp : Int) + 1 := by omega
          have hjd : decide ((a : Int) < (jp : Int) + 1) = true := decide_eq_true hjaz
          have e1 : dj[jp + 1]! = dk[i]! := HJ.out.1.at'
          have e2 : dj[jp]! = dk[jp]! := HJ.out.1.other jp (by omega)
          cases hq : ltOf cf dj[jp + 1]! dj[jp]! with
          | true =>
            have HQ : Hid (ltOf cf dk[i]! dk[jp]! = true) := by rw [← e1, ← e2]; exact hq
            clear e1 e2
            have ea1x : ((jp : Int) + 1).toNat = jp + 1 := by omega
            have pa1x : (0 : Int) ≤ (jp : Int) + 1 := by omega
            have ba1x : (jp : Int) + 1 < (d.size : Int) := by omega
            have ra1x : IntKind.i64.wrap ((jp : Int) + 1) = (jp : Int) + 1 := by rw [IntKind.wrap_i64]; omega
            have ea1y : ((jp : Int)).toNat = jp := by omega
            have pa1y : (0 : Int) ≤ (jp : Int) := by omega
            have ba1y : (jp : Int) < (d.size : Int) := by omega
            have ra1y : IntKind.i64.wrap ((jp : Int)) = (jp : Int) := by rw [IntKind.wrap_i64]; omega
            obtain ⟨x1, hx1⟩ : ∃ x, x = dj[jp + 1]! := ⟨_, rfl⟩
            obtain ⟨y1, hy1⟩ : ∃ x, x = dj[jp]! := ⟨_, rfl⟩
            have l1a := S1.out.ld R (by omega) P (jp + 1) (by omega)
            have l1b := S1.out.ld R (by omega) P (jp) (by omega)
            rw [← hx1] at l1a
            rw [← hy1] at l1b
            have hc1 := S1.out.cmp HC.out (by omega) x1 y1
            have hl1 : ltOf cf x1 y1 = true := by rw [hx1, hy1]; exact hq
            have hd1 : decide (cf x1 y1 < 0) = true := hl1
            have hv1 : cf x1 y1 < 0 := of_decide_eq_true hl1
            clear hx1 hy1 hl1
            go_wp2_with fail
            go_quiet_grown (first | (go_at_fn g; refine Calls.grown_of (hc1 _ _)))
            have S2 : Aside (SWK enc k w0 blk off dj (grow (wr.drewN nq) osq)) := S1.out.grown nq osq
            clear l1a l1b hc1 S1
            generalize grow (wr.drewN nq) osq = w2 at S2 ⊢
            clear nq osq
            clear hq
            go_wp2_with fail
            have ea2x : ((jp : Int) + 1).toNat = jp + 1 := by omega
            have pa2x : (0 : Int) ≤ (jp : Int) + 1 := by omega
            have ba2x : (jp : Int) + 1 < (d.size : Int) := by omega
            have ra2x : IntKind.i64.wrap ((jp : Int) + 1) = (jp : Int) + 1 := by rw [IntKind.wrap_i64]; omega
            have ea2y : ((jp : Int)).toNat = jp := by omega
            have pa2y : (0 : Int) ≤ (jp : Int) := by omega
            have ba2y : (jp : Int) < (d.size : Int) := by omega
            have ra2y : IntKind.i64.wrap ((jp : Int)) = (jp : Int) := by rw [IntKind.wrap_i64]; omega
            have S3 : Aside (SWK enc k w0 blk off (swp dj (jp + 1) (jp)) ((w2.drew.setCells blk (off + (jp + 1) * k) (enc dj[jp]!)).setCells blk (off + (jp) * k) (enc dj[jp + 1]!))) := S2.out.swapped R (jp + 1) (jp) (by omega) (by omega)
            have l2a := S2.out.ld1 R (by omega) P (jp + 1) (by omega)
            have l2b := S2.out.ld1 R (by omega) P (jp) (by omega)
            have s2a := S2.out.st1 R (by omega) P (jp + 1) (by omega) dj[jp]!
            have s2b := S2.out.st2 R (by omega) P (jp + 1) (jp) (by omega) (by omega) dj[jp]! dj[jp + 1]!
            have n2a : (enc dj[jp + 1]!).length = k := R.hk _
            have n2b : (enc dj[jp]!).length = k := R.hk _
            generalize enc dj[jp + 1]! = cI2 at S3 l2a s2b n2a
            generalize enc dj[jp]! = cJ2 at S3 l2b s2a s2b n2b
            clear S2
            go_wp2_with fail
            go_big_region_o
            clear l2a l2b s2a s2b
            generalize (w2.drew.setCells blk (off + (jp + 1) * k) cJ2).setCells blk (off + (jp) * k) cI2 = w3 at S3 ⊢
            go_wp2
            go_roundg jp
            case measure => omega
            case rel =>
              refine ⟨jp, swp dj (jp + 1) jp, by first | rfl | go_num, by omega, by omega, Nat.le_refl _, by rw [size_swp]; exact hsj, S3, HJ.out.1.next (by omega) (by omega), fun x h1 h2 => ?_⟩
              by_cases hx : x = jp
              · subst hx; exact HQ.out
              · exact HJ.out.2 x (by omega) h2
          | false =>
            have HQ : Hid (ltOf cf dk[i]! dk[jp]! = false) := by rw [← e1, ← e2]; exact hq
            clear e1 e2
            have ea1x : ((jp : Int) + 1).toNat = jp + 1 := by omega
            have pa1x : (0 : Int) ≤ (jp : Int) + 1 := by omega
            have ba1x : (jp : Int) + 1 < (d.size : Int) := by omega
            have ra1x : IntKind.i64.wrap ((jp : Int) + 1) = (jp : Int) + 1 := by rw [IntKind.wrap_i64]; omega
            have ea1y : ((jp : Int)).toNat = jp := by omega
            have pa1y : (0 : Int) ≤ (jp : Int) := by omega
            have ba1y : (jp : Int) < (d.size : Int) := by omega
            have ra1y : IntKind.i64.wrap ((jp : Int)) = (jp : Int) := by rw [IntKind.wrap_i64]; omega
            obtain ⟨x1, hx1⟩ : ∃ x, x = dj[jp + 1]! := ⟨_, rfl⟩
            obtain ⟨y1, hy1⟩ : ∃ x, x = dj[jp]! := ⟨_, rfl⟩
            have l1a := S1.out.ld R (by omega) P (jp + 1) (by omega)
            have l1b := S1.out.ld R (by omega) P (jp) (by omega)
            rw [← hx1] at l1a
            rw [← hy1] at l1b
            have hc1 := S1.out.cmp HC.out (by omega) x1 y1
            have hl1 : ltOf cf x1 y1 = false := by rw [hx1, hy1]; exact hq
            have hd1 : decide (cf x1 y1 < 0) = false := hl1
            have hv1 : ¬ cf x1 y1 < 0 := of_decide_eq_false hl1
            clear hx1 hy1 hl1
            go_wp2_with fail
            go_quiet_grown (first | (go_at_fn g; refine Calls.grown_of (hc1 _ _)))
            have S2 : Aside (SWK enc k w0 blk off dj (grow (wr.drewN nq) osq)) := S1.out.grown nq osq
            clear l1a l1b hc1 S1
            generalize grow (wr.drewN nq) osq = w2 at S2 ⊢
            clear nq osq
            clear hq
            go_wp2
            go_roundg (b - (i + 1))
            case measure => omega
            case rel =>
              have hfin := OUT.out (fun x h1 h2 => HO.out.ntrans _ _ _ HQ.out (RS.le HO.out HI2.out.m.2 h1 (by omega : x ≤ jp) (by omega)))
              exact ⟨i + 1, dj, by go_num, by omega, by omega, by omega, hsj, S2, fun _ => hfin, fun h => absurd h (by omega)⟩
        · obtain rfl : j = a := by omega
          have hjaz : decide ((j : Int) > (j : Int)) = false := decide_eq_false (by omega)
          have S2 : Aside (SWK enc k w0 blk off dj wr.drew) := S1.out.drew
          go_wp2_with fail
          go_big_region_o
          all_goals go_wp2
          go_roundg (b - (i + 1))
          case measure => omega
          case rel => exact ⟨i + 1, dj, by go_num, by omega, by omega, by omega, hsj, S2, fun _ => OUT.out (fun x h1 h2 => absurd h1 (by omega)), fun h => absurd h (by omega)⟩
    · have hltz : ¬ (i : Int) < (b : Int) := by omega
      go_wp2
      go_end0
      refine ⟨rfl, dk, S1.out, ?_⟩
      by_cases hbi : i ≤ b
      · obtain rfl : i = b := by omega
        exact (HI.out hbi).m
      · obtain ⟨rfl, rfl⟩ := HE.out (by omega)
        exact ⟨permIn_refl dk a a, fun x y h1 h2 h3 => by omega⟩
end Go.Proofs.YtfcnobcpnhfgmaaDoor
