/- Several texts in one: GF GG HB HC HD HE. Conditions: as each theorem names them. -/
import Derived.Test.YtdjaofbjmnmlbaaDoorGC
import Derived.Deep.DeepCutAuto
import Derived.Test.YtdjaofbjmnmlbaaDoorGE
import Derived.Test.YtdjaofbjmnmlbaaDoorHA
import Derived.Test.YtdjaofbjmnmlbaaDoorCE
import Derived.Test.YtdjaofbjmnmlbaaDoorCM
import Derived.Deep.RegionHeld3
import Derived.Deep.QuietTactic
import Derived.BigQuiet
/- insertionSortCmpFunc over cells: a stretch of cells with rising tags is sorted, and what is alike stays in its order. Conditions: the comparison is a strict weak order. -/
namespace Go.Proofs.YtdjaofbjmnmlbaaDoor
open Go.Shelf Go.RowKit Go.Lib Go.Sort

variable {P : Program} {k : Nat} {α : Type} [Inhabited α]

/-- The tags rise. -/
def TI (tg : α → Nat) (a b : Nat) (d : Array α) : Prop := ∀ i j, a ≤ i → i < j → j < b → tg d[i]! < tg d[j]!
/-- A part of a stretch is merged, the rest is as it was. -/
structure Ins (lt : α → α → Bool) (tg : α → Nat) (a i : Nat) (d dk : Array α) : Prop where
  m : Mrg lt tg a i d dk
theorem Ins.tl {lt : α → α → Bool} {tg : α → Nat} {a i b : Nat} {d dk : Array α} (h : Ins lt tg a i d dk) (ht : TI tg a b d) (hi : i < b) (hb : b ≤ d.size) : TL tg a i (i + 1) dk := fun x y hx hxi hy hy2 => by
  obtain rfl : y = i := by omega
  rw [h.m.1.2.1 y (by omega)]
  exact permIn_all d dk a y (fun z => tg z < tg d[y]!) (by omega) h.m.1 (fun u hu hu2 => ht u y hu hu2 hi) x hx hxi
theorem Ins.next {lt : α → α → Bool} {tg : α → Nat} {a i b : Nat} {d dk dj : Array α} (h : Ins lt tg a i d dk) (hm : Mrg lt tg a (i + 1) dk dj) (hi : i < b) (hb : b ≤ d.size) : Ins lt tg a (i + 1) d dj :=
  ⟨permIn_trans _ _ _ _ _ (permIn_mono _ _ _ _ _ _ (Nat.le_refl _) (by omega) (by omega) h.m.1) hm.1, hm.2⟩

set_option maxHeartbeats 8000000 in
set_option maxRecDepth 1000000 in
theorem insertion_any (L : SLP P k) (enc : α → List Value) (cf : α → α → Int) (tg : α → Nat) (g : Nat) (cb : Array Value) (blk off cap a b : Nat) (d0 d : Array α) (w0 w : World)
    (eg : ∀ args w, (callFunc g args).run P w = .ok (.enter g args) w) (hcmp : CmpLays P g cb enc k cf blk off d0.size w0) (R : RowK enc k w0 blk off d0) (hs : d0.size = d.size) (S : SWK enc k w0 blk off d w) (hO : SWO (ltOf cf)) (hsz : d.size < 4611686018427387904)
    (hb : b ≤ d.size) (hab : a ≤ b) (ht : TI tg a b d) :
    Calls P 153 #[.slice (some ⟨blk, off, none⟩) d.size cap, .int .i64 (a : Int), .int .i64 (b : Int), .func (.func g) #[] cb] w fun e w' => e = .returned (.tuple #[]) ∧ ∃ d', SWK enc k w0 blk off d' w' ∧ Mrg (ltOf cf) tg a b d d' := by
  have mixed := L.mixed; have t0 := L.t0; have a0 := L.a0; have z0 := L.z0; have v0 := L.v0; have t3 := L.t3; have a3 := L.a3; have z3 := L.z3; have v3 := L.v3; have t4 := L.t4; have a4 := L.a4; have z4 := L.z4; have v4 := L.v4; have t22 := L.tS; have a22 := L.aS; have z22 := L.zS; have v22 := L.vS; have t25 := L.tF; have a25 := L.aF; have z25 := L.zF; have v25 := L.vF; have tU := L.tU; have aU := L.aU; have zU := L.zU; have vU := L.vU
  have FG := L.fi
  have HC : Aside _ := hcmp
  have S0 : Aside (SWK enc k w0 blk off d w) := S
  have HO : Aside (SWO (ltOf cf)) := hO
  have HT : Hid (TI tg a b d) := ht
  clear hcmp S hO ht
  have aE := L.aE; have zE := L.zE
  go_enter FG, Tryd.ntmps153
  go_wp2
  go_loopg [8] (b - a) (fun g1 vi wr => ∃ (i : Nat) (dk : Array α), vi = .int .i64 i ∧ a < i ∧ i ≤ b + 1 ∧ b + 1 - i ≤ g1 + 1 ∧ dk.size = d.size ∧ Aside (SWK enc k w0 blk off dk wr) ∧ Hid (i ≤ b → Ins (ltOf cf) tg a i d dk) ∧ Hid (b < i → dk = d ∧ a = b))
  case atStart =>
    refine ⟨a + 1, d, by go_num, by omega, by omega, by omega, rfl, S0, fun _ => ⟨permIn_refl d a (a + 1), fun x y h1 h2 h3 => by omega⟩, fun h => ⟨rfl, by omega⟩⟩
  case round =>
    clear S0
    obtain ⟨i, dk, rfl, hai, hib, hg1, hds, S1, HI, HE⟩ := hrel
    by_cases hlt : i < b
    · have hltz : (i : Int) < (b : Int) := by omega
      have HI2 : Hid (Ins (ltOf cf) tg a i d dk) := HI.out (by omega)
      clear HI HE
      go_wp2
      go_loopg [9] i (fun g2 vj wr2 => ∃ (j : Nat) (dj : Array α), vj = .int .i64 j ∧ a ≤ j ∧ j ≤ i ∧ j ≤ g2 ∧ dj.size = d.size ∧ Aside (SWK enc k w0 blk off dj wr2) ∧ Hid (DnR i j dk dj ∧ ∀ x, j ≤ x → x < i → ltOf cf dk[i]! dk[x]! = true))
      case atStart => exact ⟨i, dk, rfl, by omega, Nat.le_refl _, Nat.le_refl _, hds, S1, DnR.zero i dk, fun x h1 h2 => absurd h1 (by omega)⟩
      case round =>
        clear S1
        obtain ⟨j, dj, rfl, haj, hji, hg2, hsj, S1, HJ⟩ := hrel
        have out : (∀ x, a ≤ x → x < j → ltOf cf dk[i]! dk[x]! = false) → Ins (ltOf cf) tg a (i + 1) d dj := fun hq =>
          HI2.out.next (merge_dn HI2.out.m.2 (HI2.out.tl HT.out hlt hb) (by omega) haj hji hq HJ.out.2 HJ.out.1) hlt hb
        have OUT : Aside _ := out
        clear out
        by_cases hja : a < j
        · obtain ⟨jp, rfl⟩ : ∃ jp, j = jp + 1 := ⟨j - 1, by omega⟩
          have hjaz : (a : Int) < (jp : Int) + 1 := by omega
          have hjd : decide ((a : Int) < (jp : Int) + 1) = true := decide_eq_true hjaz
          have e1 : dj[jp + 1]! = dk[i]! := HJ.out.1.at'
          have e2 : dj[jp]! = dk[jp]! := HJ.out.1.other jp (by omega)
          cases hq : ltOf cf dj[jp + 1]! dj[jp]! with
          | true =>
            have HQ : Hid (ltOf cf dk[i]! dk[jp]! = true) := by rw [← e1, ← e2]; exact hq
            clear e1 e2
            have ea1x : ((jp : Int) + 1).toNat = jp + 1 := by omega
            have pa1x : (0 : Int) ≤ (jp : Int) + 1 := by omega
            have ba1x : (jp : Int) + 1 < (d.size : Int) := by omega
            have ra1x : IntKind.i64.wrap ((jp : Int) + 1) = (jp : Int) + 1 := by rw [IntKind.wrap_i64]; omega
            have ea1y : ((jp : Int)).toNat = jp := by omega
            have pa1y : (0 : Int) ≤ (jp : Int) := by omega
            have ba1y : (jp : Int) < (d.size : Int) := by omega
            have ra1y : IntKind.i64.wrap ((jp : Int)) = (jp : Int) := by rw [IntKind.wrap_i64]; omega
            obtain ⟨x1, hx1⟩ : ∃ x, x = dj[jp + 1]! := ⟨_, rfl⟩
            obtain ⟨y1, hy1⟩ : ∃ x, x = dj[jp]! := ⟨_, rfl⟩
            have l1a := S1.out.ld R (by omega) P (jp + 1) (by omega)
            have l1b := S1.out.ld R (by omega) P (jp) (by omega)
            rw [← hx1] at l1a
            rw [← hy1] at l1b
            have hc1 := S1.out.cmp HC.out (by omega) x1 y1
            have hl1 : ltOf cf x1 y1 = true := by rw [hx1, hy1]; exact hq
            have hd1 : decide (cf x1 y1 < 0) = true := hl1
            have hv1 : cf x1 y1 < 0 := of_decide_eq_true hl1
            clear hx1 hy1 hl1
            go_wp2_with fail
            go_quiet_grown (first | (go_at_fn g; refine Calls.grown_of (hc1 _ _)))
            have S2 : Aside (SWK enc k w0 blk off dj (grow (wr.drewN nq) osq)) := S1.out.grown nq osq
            clear l1a l1b hc1 S1
            generalize grow (wr.drewN nq) osq = w2 at S2 ⊢
            clear nq osq
            clear hq
            go_wp2_with fail
            have ea2x : ((jp : Int) + 1).toNat = jp + 1 := by omega
            have pa2x : (0 : Int) ≤ (jp : Int) + 1 := by omega
            have ba2x : (jp : Int) + 1 < (d.size : Int) := by omega
            have ra2x : IntKind.i64.wrap ((jp : Int) + 1) = (jp : Int) + 1 := by rw [IntKind.wrap_i64]; omega
            have ea2y : ((jp : Int)).toNat = jp := by omega
            have pa2y : (0 : Int) ≤ (jp : Int) := by omega
            have ba2y : (jp : Int) < (d.size : Int) := by omega
            have ra2y : IntKind.i64.wrap ((jp : Int)) = (jp : Int) := by rw [IntKind.wrap_i64]; omega
            have S3 : Aside (SWK enc k w0 blk off (swp dj (jp + 1) (jp)) ((w2.drew.setCells blk (off + (jp + 1) * k) (enc dj[jp]!)).setCells blk (off + (jp) * k) (enc dj[jp + 1]!))) := S2.out.swapped R (jp + 1) (jp) (by omega) (by omega)
            have l2a := S2.out.ld1 R (by omega) P (jp + 1) (by omega)
            have l2b := S2.out.ld1 R (by omega) P (jp) (by omega)
            have s2a := S2.out.st1 R (by omega) P (jp + 1) (by omega) dj[jp]!
            have s2b := S2.out.st2 R (by omega) P (jp + 1) (jp) (by omega) (by omega) dj[jp]! dj[jp + 1]!
            have n2a : (enc dj[jp + 1]!).length = k := R.hk _
            have n2b : (enc dj[jp]!).length = k := R.hk _
            generalize enc dj[jp + 1]! = cI2 at S3 l2a s2b n2a
            generalize enc dj[jp]! = cJ2 at S3 l2b s2a s2b n2b
            clear S2
            go_wp2_with fail
            go_big_region_o
            clear l2a l2b s2a s2b
            generalize (w2.drew.setCells blk (off + (jp + 1) * k) cJ2).setCells blk (off + (jp) * k) cI2 = w3 at S3 ⊢
            go_wp2
            go_roundg jp
            case measure => omega
            case rel =>
              refine ⟨jp, swp dj (jp + 1) jp, by first | rfl | go_num, by omega, by omega, Nat.le_refl _, by rw [size_swp]; exact hsj, S3, HJ.out.1.next (by omega) (by omega), fun x h1 h2 => ?_⟩
              by_cases hx : x = jp
              · subst hx; exact HQ.out
              · exact HJ.out.2 x (by omega) h2
          | false =>
            have HQ : Hid (ltOf cf dk[i]! dk[jp]! = false) := by rw [← e1, ← e2]; exact hq
            clear e1 e2
            have ea1x : ((jp : Int) + 1).toNat = jp + 1 := by omega
            have pa1x : (0 : Int) ≤ (jp : Int) + 1 := by omega
            have ba1x : (jp : Int) + 1 < (d.size : Int) := by omega
            have ra1x : IntKind.i64.wrap ((jp : Int) + 1) = (jp : Int) + 1 := by rw [IntKind.wrap_i64]; omega
            have ea1y : ((jp : Int)).toNat = jp := by omega
            have pa1y : (0 : Int) ≤ (jp : Int) := by omega
            have ba1y : (jp : Int) < (d.size : Int) := by omega
            have ra1y : IntKind.i64.wrap ((jp : Int)) = (jp : Int) := by rw [IntKind.wrap_i64]; omega
            obtain ⟨x1, hx1⟩ : ∃ x, x = dj[jp + 1]! := ⟨_, rfl⟩
            obtain ⟨y1, hy1⟩ : ∃ x, x = dj[jp]! := ⟨_, rfl⟩
            have l1a := S1.out.ld R (by omega) P (jp + 1) (by omega)
            have l1b := S1.out.ld R (by omega) P (jp) (by omega)
            rw [← hx1] at l1a
            rw [← hy1] at l1b
            have hc1 := S1.out.cmp HC.out (by omega) x1 y1
            have hl1 : ltOf cf x1 y1 = false := by rw [hx1, hy1]; exact hq
            have hd1 : decide (cf x1 y1 < 0) = false := hl1
            have hv1 : ¬ cf x1 y1 < 0 := of_decide_eq_false hl1
            clear hx1 hy1 hl1
            go_wp2_with fail
            go_quiet_grown (first | (go_at_fn g; refine Calls.grown_of (hc1 _ _)))
            have S2 : Aside (SWK enc k w0 blk off dj (grow (wr.drewN nq) osq)) := S1.out.grown nq osq
            clear l1a l1b hc1 S1
            generalize grow (wr.drewN nq) osq = w2 at S2 ⊢
            clear nq osq
            clear hq
            go_wp2
            go_roundg (b - (i + 1))
            case measure => omega
            case rel =>
              have hfin := OUT.out (fun x h1 h2 => HO.out.ntrans _ _ _ HQ.out (RS.le HO.out HI2.out.m.2 h1 (by omega : x ≤ jp) (by omega)))
              exact ⟨i + 1, dj, by go_num, by omega, by omega, by omega, hsj, S2, fun _ => hfin, fun h => absurd h (by omega)⟩
        · obtain rfl : j = a := by omega
          have hjaz : decide ((j : Int) > (j : Int)) = false := decide_eq_false (by omega)
          have S2 : Aside (SWK enc k w0 blk off dj wr.drew) := S1.out.drew
          go_wp2_with fail
          go_big_region_o
          all_goals go_wp2
          go_roundg (b - (i + 1))
          case measure => omega
          case rel => exact ⟨i + 1, dj, by go_num, by omega, by omega, by omega, hsj, S2, fun _ => OUT.out (fun x h1 h2 => absurd h1 (by omega)), fun h => absurd h (by omega)⟩
    · have hltz : ¬ (i : Int) < (b : Int) := by omega
      go_wp2
      go_end0
      refine ⟨rfl, dk, S1.out, ?_⟩
      by_cases hbi : i ≤ b
      · obtain rfl : i = b := by omega
        exact (HI.out hbi).m
      · obtain ⟨rfl, rfl⟩ := HE.out (by omega)
        exact ⟨permIn_refl dk a a, fun x y h1 h2 h3 => by omega⟩
end Go.Proofs.YtdjaofbjmnmlbaaDoor

/- slices.SortStableFunc over cells: the cells in order, what is alike in the order in which it came. Conditions: the comparison is a strict weak order; fewer than 2^60 cells. -/
namespace Go.Proofs.YtdjaofbjmnmlbaaDoor
open Go.Shelf Go.RowKit Go.Lib Go.Sort

section
variable {α : Type} [Inhabited α] {lt : α → α → Bool} {tg : α → Nat}
/-- A stretch that is sorted, and holds its own tags. -/
def BkO (lt : α → α → Bool) (tg : α → Nat) (lo hi : Nat) (d : Array α) : Prop := RS lt tg lo hi d ∧ ∀ i, lo ≤ i → i < hi → lo ≤ tg d[i]! ∧ tg d[i]! < hi
theorem BkO.none {lo hi : Nat} {d : Array α} (h : hi ≤ lo) : BkO lt tg lo hi d := ⟨fun i j h1 h2 h3 => by omega, fun i h1 h2 => by omega⟩
theorem BkO.keep {lo hi : Nat} {d d' : Array α} (h : BkO lt tg lo hi d) (hk : ∀ i, lo ≤ i → i < hi → d'[i]! = d[i]!) : BkO lt tg lo hi d' :=
  ⟨fun i j h1 h2 h3 => by rw [hk i h1 (by omega), hk j (by omega) h3]; exact h.1 i j h1 h2 h3, fun i h1 h2 => by rw [hk i h1 h2]; exact h.2 i h1 h2⟩
theorem BkO.tl {a m b : Nat} {d : Array α} (h1 : BkO lt tg a m d) (h2 : BkO lt tg m b d) : TL tg a m b d := fun i j q1 q2 q3 q4 => by
  have := (h1.2 i q1 q2).2
  have := (h2.2 j q3 q4).1
  omega
theorem BkO.merge {a m b : Nat} {d d' : Array α} (h1 : BkO lt tg a m d) (h2 : BkO lt tg m b d) (hb : b ≤ d.size) (ham : a ≤ m) (hmb : m ≤ b) (h : Mrg lt tg a b d d') : BkO lt tg a b d' :=
  ⟨h.2, permIn_all d d' a b (fun z => a ≤ tg z ∧ tg z < b) hb h.1 fun i q1 q2 => by
    by_cases hi : i < m
    · have := h1.2 i q1 hi; omega
    · have := h2.2 i (by omega) q2; omega⟩
theorem BkO.ins {a b : Nat} {d d' : Array α} (hb : b ≤ d.size) (ht : ∀ i, a ≤ i → i < b → tg d[i]! = i) (h : Mrg lt tg a b d d') : BkO lt tg a b d' :=
  ⟨h.2, permIn_all d d' a b (fun z => a ≤ tg z ∧ tg z < b) hb h.1 fun i q1 q2 => by rw [ht i q1 q2]; exact ⟨q1, q2⟩⟩
theorem ti_of {a b : Nat} {d : Array α} (ht : ∀ i, a ≤ i → i < b → tg d[i]! = i) : TI tg a b d := fun i j h1 h2 h3 => by rw [ht i h1 (by omega), ht j (by omega) h3]; exact h2

/-- The first loop: so many stretches of twenty are sorted. -/
structure St1 (lt : α → α → Bool) (tg : α → Nat) (q : Nat) (d0 d : Array α) : Prop where
  done : ∀ q', q' < q → BkO lt tg (q' * 20) (q' * 20 + 20) d
  rest : ∀ i, q * 20 ≤ i → i < d0.size → tg d[i]! = i
  perm : PermIn 0 d0.size d0 d
  size : d.size = d0.size
theorem St1.next {q : Nat} {d0 d d' : Array α} (h : St1 lt tg q d0 d) (hb : q * 20 + 20 ≤ d0.size) (hm : Mrg lt tg (q * 20) (q * 20 + 20) d d') : St1 lt tg (q + 1) d0 d' := by
  have hz := h.size
  refine ⟨fun q' hq => ?_, fun i h1 h2 => ?_, permIn_trans _ _ _ _ _ h.perm (permIn_mono _ _ _ _ _ _ (by omega) hb (by omega) hm.1), by rw [hm.1.1, hz]⟩
  · by_cases e : q' = q
    · subst e
      exact BkO.ins (by omega) (fun i h1 h2 => h.rest i h1 (by omega)) hm
    · exact (h.done q' (by omega)).keep fun i h1 h2 => hm.1.2.1 i (by omega)
  · rw [hm.1.2.1 i (by omega)]
    exact h.rest i (by omega) h2
/-- All stretches of bs are sorted. -/
structure St2 (lt : α → α → Bool) (tg : α → Nat) (bs : Nat) (d0 d : Array α) : Prop where
  all : ∀ q, BkO lt tg (q * bs) (min (q * bs + bs) d0.size) d
  perm : PermIn 0 d0.size d0 d
  size : d.size = d0.size
theorem St1.fin {q : Nat} {d0 d d' : Array α} (h : St1 lt tg q d0 d) (h1 : q * 20 ≤ d0.size) (h2 : d0.size < q * 20 + 20) (hm : Mrg lt tg (q * 20) d0.size d d') : St2 lt tg 20 d0 d' := by
  have hz := h.size
  refine ⟨fun q' => ?_, permIn_trans _ _ _ _ _ h.perm (permIn_mono _ _ _ _ _ _ (by omega) (Nat.le_refl _) (by omega) hm.1), by rw [hm.1.1, hz]⟩
  by_cases c1 : q' < q
  · rw [Nat.min_eq_left (by omega)]
    exact (h.done q' c1).keep fun i a1 a2 => hm.1.2.1 i (by omega)
  · by_cases c2 : q' = q
    · subst c2
      rw [Nat.min_eq_right (by omega)]
      exact BkO.ins (by omega) (fun i a1 a2 => h.rest i a1 a2) hm
    · exact BkO.none (by omega)
/-- The inner loop of the second: so many pairs of stretches of bs are merged; A is where it is. -/
structure St3 (lt : α → α → Bool) (tg : α → Nat) (bs q A : Nat) (d0 d : Array α) : Prop where
  eA : A = q * (2 * bs)
  done : ∀ q', q' < q → BkO lt tg (q' * (2 * bs)) (q' * (2 * bs) + 2 * bs) d
  rest : ∀ q', 2 * q ≤ q' → BkO lt tg (q' * bs) (min (q' * bs + bs) d0.size) d
  perm : PermIn 0 d0.size d0 d
  size : d.size = d0.size
theorem St2.start {bs : Nat} {d0 d : Array α} (h : St2 lt tg bs d0 d) : St3 lt tg bs 0 0 d0 d := ⟨by omega, fun q' hq => absurd hq (by omega), fun q' _ => h.all q', h.perm, h.size⟩
theorem two_mul_q (q bs : Nat) : 2 * q * bs = q * (2 * bs) ∧ (2 * q + 1) * bs = q * (2 * bs) + bs := by
  have h1 : 2 * q * bs = q * (2 * bs) := by rw [Nat.mul_comm 2 q, Nat.mul_assoc]
  exact ⟨h1, by rw [Nat.add_mul, h1, Nat.one_mul]⟩
theorem St3.left {bs q A : Nat} {d0 d : Array α} (h : St3 lt tg bs q A d0 d) (h1 : A + bs ≤ d0.size) : BkO lt tg A (A + bs) d := by
  have := h.rest (2 * q) (Nat.le_refl _)
  rwa [(two_mul_q q bs).1, ← h.eA, Nat.min_eq_left h1] at this
theorem St3.right {bs q A : Nat} {d0 d : Array α} (h : St3 lt tg bs q A d0 d) : BkO lt tg (A + bs) (min (A + bs + bs) d0.size) d := by
  have := h.rest (2 * q + 1) (by omega)
  rwa [(two_mul_q q bs).2, ← h.eA] at this
theorem St3.last {bs q A : Nat} {d0 d : Array α} (h : St3 lt tg bs q A d0 d) (h1 : d0.size ≤ A + bs) : BkO lt tg A d0.size d := by
  have := h.rest (2 * q) (Nat.le_refl _)
  rwa [(two_mul_q q bs).1, ← h.eA, Nat.min_eq_right h1] at this
theorem mul_step {a b c : Nat} (h : a < b) : a * c + c ≤ b * c := by
  have := Nat.mul_le_mul_right c (show a + 1 ≤ b from h)
  rwa [Nat.add_mul, Nat.one_mul] at this
theorem St3.next {bs q A : Nat} {d0 d d' : Array α} (h : St3 lt tg bs q A d0 d) (hb : A + 2 * bs ≤ d0.size) (hm : Mrg lt tg A (A + 2 * bs) d d') : St3 lt tg bs (q + 1) (A + 2 * bs) d0 d' := by
  have hz := h.size
  have e := h.eA
  refine ⟨by rw [Nat.add_mul, Nat.one_mul, e], fun q' hq => ?_, fun q' hq => ?_, permIn_trans _ _ _ _ _ h.perm (permIn_mono _ _ _ _ _ _ (by omega) hb (by omega) hm.1), by rw [hm.1.1, hz]⟩
  · by_cases c : q' = q
    · subst c
      rw [← e]
      have hr := h.right
      rw [Nat.min_eq_left (by omega)] at hr
      have := (h.left (by omega)).merge hr (by omega) (by omega) (by omega) (by rwa [show A + bs + bs = A + 2 * bs by omega])
      rwa [show A + bs + bs = A + 2 * bs by omega] at this
    · have h2 := mul_step (c := 2 * bs) (show q' < q by omega)
      exact (h.done q' (by omega)).keep fun i a1 a2 => hm.1.2.1 i (by omega)
  · have h2 : 2 * q * bs + 2 * bs ≤ q' * bs := by
      have := Nat.mul_le_mul_right bs (show 2 * q + 2 ≤ q' by omega)
      rwa [Nat.add_mul] at this
    rw [(two_mul_q q bs).1, ← e] at h2
    exact (h.rest q' (by omega)).keep fun i a1 a2 => hm.1.2.1 i (by omega)
theorem St3.fin {bs q A : Nat} {d0 d d' : Array α} (h : St3 lt tg bs q A d0 d) (h1 : A ≤ d0.size) (h2 : d0.size < A + 2 * bs) (hz' : d'.size = d.size) (hp : PermIn A d0.size d d') (hm : BkO lt tg A d0.size d') : St2 lt tg (2 * bs) d0 d' := by
  have hz := h.size
  have e := h.eA
  refine ⟨fun q' => ?_, permIn_trans _ _ _ _ _ h.perm (permIn_mono _ _ _ _ _ _ (by omega) (Nat.le_refl _) (by omega) hp), by rw [hz', hz]⟩
  by_cases c1 : q' < q
  · have k := mul_step (c := 2 * bs) c1
    rw [Nat.min_eq_left (by omega)]
    exact (h.done q' c1).keep fun i a1 a2 => hp.2.1 i (by omega)
  · by_cases c2 : q' = q
    · subst c2
      rw [← e, Nat.min_eq_right (by omega)]
      exact hm
    · have k := mul_step (c := 2 * bs) (show q < q' by omega)
      exact BkO.none (by omega)
theorem St2.sorted {bs : Nat} {d0 d : Array α} (h : St2 lt tg bs d0 d) (hb : d0.size ≤ bs) : RS lt tg 0 d0.size d := by
  have := (h.all 0).1
  rwa [Nat.zero_mul, Nat.min_eq_right (by omega)] at this
end

variable {P : Program} {k : Nat} {α : Type} [Inhabited α]

set_option maxHeartbeats 8000000 in
set_option maxRecDepth 1000000 in
theorem stable_any (L : SLP P k) (enc : α → List Value) (cf : α → α → Int) (tg : α → Nat) (g : Nat) (cb : Array Value) (blk off cap : Nat) (d0 : Array α) (w0 w : World)
    (eg : ∀ args w, (callFunc g args).run P w = .ok (.enter g args) w) (hcmp : CmpLays P g cb enc k cf blk off d0.size w0) (R : RowK enc k w0 blk off d0) (S : SWK enc k w0 blk off d0 w) (hO : SWO (ltOf cf)) (hsz : d0.size < 1152921504606846976)
    (ht : ∀ i, i < d0.size → tg d0[i]! = i) :
    Calls P 122 #[.slice (some ⟨blk, off, none⟩) d0.size cap, .int .i64 (d0.size : Int), .func (.func g) #[] cb] w fun e w' => e = .returned (.tuple #[]) ∧ ∃ d', SWK enc k w0 blk off d' w' ∧ PermIn 0 d0.size d0 d' ∧ RS (ltOf cf) tg 0 d0.size d' := by
  have mixed := L.mixed; have t0 := L.t0; have a0 := L.a0; have z0 := L.z0; have v0 := L.v0; have t3 := L.t3; have a3 := L.a3; have z3 := L.z3; have v3 := L.v3; have t4 := L.t4; have a4 := L.a4; have z4 := L.z4; have v4 := L.v4; have t22 := L.tS; have a22 := L.aS; have z22 := L.zS; have v22 := L.vS; have t25 := L.tF; have a25 := L.aF; have z25 := L.zF; have v25 := L.vF; have tU := L.tU; have aU := L.aU; have zU := L.zU; have vU := L.vU
  have FG := L.fs
  have S0 : Aside (SWK enc k w0 blk off d0 w) := S
  have eI : ∀ args w, (callFunc 153 args).run P w = .ok (.enter 153 args) w := enters_of L.fi (by kernel_rfl) rfl
  have eM : ∀ args w, (callFunc 154 args).run P w = .ok (.enter 154 args) w := enters_of L.fm (by kernel_rfl) rfl
  obtain ⟨n, hn⟩ : ∃ n, d0.size = n := ⟨_, rfl⟩
  have HN : Hid (d0.size = n) := hn
  have HIns : Hid (∀ (dk : Array α) (wk : World) (a b : Nat), dk.size = n → SWK enc k w0 blk off dk wk → b ≤ n → a ≤ b → TI tg a b dk → Calls P 153 #[.slice (some ⟨blk, off, none⟩) n cap, .int .i64 (a : Int), .int .i64 (b : Int), .func (.func g) #[] cb] wk fun e w' => e = .returned (.tuple #[]) ∧ ∃ d', SWK enc k w0 blk off d' w' ∧ Mrg (ltOf cf) tg a b dk d') := fun dk wk a b h1 h2 h3 h4 h5 => by
    have := insertion_any L enc cf tg g cb blk off cap a b d0 dk w0 wk eg hcmp R (by omega) h2 hO (by omega) (by omega) h4 h5
    rwa [h1] at this
  have HMr : Hid (∀ (dk : Array α) (wk : World) (a m b : Nat), dk.size = n → SWK enc k w0 blk off dk wk → a < m → m < b → b ≤ n → RS (ltOf cf) tg a m dk → RS (ltOf cf) tg m b dk → TL tg a m b dk → Calls P 154 #[.slice (some ⟨blk, off, none⟩) n cap, .int .i64 (a : Int), .int .i64 (m : Int), .int .i64 (b : Int), .func (.func g) #[] cb] wk fun e w' => e = .returned (.tuple #[]) ∧ ∃ d', SWK enc k w0 blk off d' w' ∧ Mrg (ltOf cf) tg a b dk d') := fun dk wk a m b h1 h2 h3 h4 h5 h6 h7 h8 => by
    have := symMerge_any L enc cf tg g cb blk off cap d0 w0 eg hcmp R hO (by omega) (b - a) dk a m b wk (Nat.le_refl _) h3 h4 (by omega) (by omega) h2 h6 h7 h8
    rwa [hn] at this
  have HS0 : Hid (St1 (ltOf cf) tg 0 d0 d0) := ⟨fun q' hq => absurd hq (by omega), fun i _ h => ht i h, permIn_refl d0 0 d0.size, rfl⟩
  rw [hn] at hsz ⊢
  clear hcmp S hO ht hn
  go_enter FG, Tryd.ntmps122
  go_wp2
  go_loopg [7, 8] (n + 20) (fun kx s7 s8 wr => ∃ (q : Nat) (dk : Array α), s7 = .int .i64 ((q * 20 : Nat) : Int) ∧ s8 = .int .i64 ((q * 20 + 20 : Nat) : Int) ∧ q * 20 ≤ n ∧ n + 20 - q * 20 ≤ kx ∧ Aside (SWK enc k w0 blk off dk wr) ∧ Hid (St1 (ltOf cf) tg q d0 dk))
  case atStart => exact ⟨0, d0, rfl, rfl, by omega, by omega, S0, HS0⟩
  case round =>
    clear S0 HS0
    obtain ⟨q, dk, rfl, rfl, hqn, hkx, S1, HS⟩ := hrel
    obtain ⟨A, hA⟩ : ∃ A, q * 20 = A := ⟨_, rfl⟩
    rw [hA] at hqn hkx
    have hA2 : ((q * 20 : Nat) : Int) = (A : Int) := by rw [hA]
    have hA3 : ((q * 20 + 20 : Nat) : Int) = (A : Int) + 20 := by omega
    rw [hA2, hA3]
    have HA : Hid (q * 20 = A) := hA
    clear hA hA2 hA3
    have hdk : dk.size = n := HS.out.size.trans HN.out
    by_cases hlt : A + 20 ≤ n
    · have hltz : (A : Int) + 20 ≤ (n : Int) := by omega
      have hcall := HIns.out dk wr A (A + 20) hdk S1.out hlt (by omega) (ti_of fun i h1 h2 => HS.out.rest i (by have := HA.out; omega) (by have := HN.out; omega))
      have hc2 : ((A + 20 : Nat) : Int) = (A : Int) + 20 := by omega
      rw [hc2] at hcall
      clear S1
      go_wp2_with (go_at_fn 153; refine hcall.mono ?_; rintro e w1 ⟨rfl, d1, S3, h1⟩)
      go_roundg (n + 20 - (q + 1) * 20)
      case measure => have := HA.out; omega
      case rel =>
        have hq := HA.out
        subst hq
        exact ⟨q + 1, d1, by congr 1; omega, by first | (congr 1; omega) | go_num, by omega, by omega, S3, HS.out.next (by have := HN.out; omega) h1⟩
    · have hltz : ¬ (A : Int) + 20 ≤ (n : Int) := by omega
      have hcall := HIns.out dk wr A n hdk S1.out (Nat.le_refl _) hqn (ti_of fun i h1 h2 => HS.out.rest i (by have := HA.out; omega) (by have := HN.out; omega))
      clear S1
      go_wp2_with (go_at_fn 153; refine hcall.mono ?_; rintro e w1 ⟨rfl, d1, S3, h1⟩)
      have HS2 : Hid (St2 (ltOf cf) tg 20 d0 d1) := by
        have hq := HA.out
        subst hq
        have := HS.out.fin (d' := d1) (by have := HN.out; omega) (by have := HN.out; omega) (by rw [HN.out]; exact h1)
        exact this
      clear HS h1 hcall
      go_loopg [6, 7, 8, 9] n (fun kx s6 s7 s8 s9 wr => ∃ (bs : Nat) (dj : Array α), s6 = .int .i64 (bs : Int) ∧ 1 ≤ bs ∧ bs ≤ 2305843009213693952 ∧ n - bs ≤ kx ∧ Aside (SWK enc k w0 blk off dj wr) ∧ Hid (St2 (ltOf cf) tg bs d0 dj))
      case atStart => exact ⟨20, d1, rfl, by omega, by omega, by omega, S3, HS2⟩
      case round =>
        clear S3 HS2
        obtain ⟨bs, dj, rfl, hbs1, hbs2, hkx2, S3, HT⟩ := hrel
        by_cases hbn : bs < n
        · have hbnz : (bs : Int) < (n : Int) := by omega
          have h2b : (2 : Int) * (bs : Int) = ((2 * bs : Nat) : Int) := by omega
          have hb2 : (bs : Int) * 2 = ((2 * bs : Nat) : Int) := by omega
          obtain ⟨c, hc⟩ : ∃ c, 2 * bs = c := ⟨_, rfl⟩
          rw [hc] at h2b hb2
          have HC : Hid (2 * bs = c) := hc
          have hcb : bs ≤ c := by omega
          have hc1 : 1 ≤ c := by omega
          have hcn : c < 2 * n := by omega
          clear hc
          go_wp2
          go_loopg [7, 8] (n + c) (fun kx s7 s8 wr => ∃ (q A : Nat) (dm : Array α), s7 = .int .i64 (A : Int) ∧ s8 = .int .i64 ((A : Int) + (c : Int)) ∧ A ≤ n ∧ n + c - A ≤ kx ∧ Aside (SWK enc k w0 blk off dm wr) ∧ Hid (St3 (ltOf cf) tg bs q A d0 dm))
          case atStart => exact ⟨0, 0, dj, rfl, by first | rfl | (congr 1; omega), by omega, by omega, S3, HT.out.start⟩
          case round =>
            clear S3
            obtain ⟨q2, A2, dm, rfl, rfl, hA2n, hkx3, S4, HU⟩ := hrel
            have hdm : dm.size = n := HU.out.size.trans HN.out
            have hab : (A2 : Int) + (bs : Int) = ((A2 + bs : Nat) : Int) := by omega
            obtain ⟨m, hm⟩ : ∃ m, A2 + bs = m := ⟨_, rfl⟩
            rw [hm] at hab
            have HM : Hid (A2 + bs = m) := hm
            have hAm : A2 < m := by omega
            clear hm
            by_cases hl2 : A2 + c ≤ n
            · have hl2z : (A2 : Int) + (c : Int) ≤ (n : Int) := by omega
              have hmc : m < A2 + c := by have := HM.out; have := HC.out; omega
              have hlf : BkO (ltOf cf) tg A2 m dm := by have := HU.out.left (by have := HM.out; have := HN.out; have := HC.out; omega); rwa [HM.out] at this
              have hrt : BkO (ltOf cf) tg m (A2 + c) dm := by
                have := HU.out.right
                have e : m + bs = A2 + c := by have := HM.out; have := HC.out; omega
                rwa [HM.out, e, HN.out, Nat.min_eq_left hl2] at this
              have hcall := HMr.out dm wr A2 m (A2 + c) hdm S4.out hAm hmc hl2 hlf.1 hrt.1 (hlf.tl hrt)
              have hc3 : ((A2 + c : Nat) : Int) = (A2 : Int) + (c : Int) := by omega
              rw [hc3] at hcall
              clear S4 hlf hrt
              go_wp2_with (go_at_fn 154; refine hcall.mono ?_; rintro e w2 ⟨rfl, d2, S5, h2⟩)
              go_roundg (n + c - (A2 + c))
              case measure => omega
              case rel =>
                have HUn := HU.out.next (d' := d2) (by have := HN.out; have := HC.out; omega) (by rw [HC.out]; exact h2)
                rw [HC.out] at HUn
                exact ⟨q2 + 1, A2 + c, d2, by first | rfl | (congr 1; omega) | go_num, by first | rfl | (congr 1; omega) | go_num, by omega, by omega, S5, HUn⟩
            · have hl2z : ¬ (A2 : Int) + (c : Int) ≤ (n : Int) := by omega
              by_cases hmn : m < n
              · have hmnz : (m : Int) < (n : Int) := by omega
                have hlf : BkO (ltOf cf) tg A2 m dm := by have := HU.out.left (by have := HM.out; have := HN.out; omega); rwa [HM.out] at this
                have hrt : BkO (ltOf cf) tg m n dm := by
                  have := HU.out.right
                  rwa [HM.out, HN.out, Nat.min_eq_right (by have := HM.out; have := HC.out; omega)] at this
                have hcall := HMr.out dm wr A2 m n hdm S4.out hAm hmn (Nat.le_refl _) hlf.1 hrt.1 (hlf.tl hrt)
                have HB : Hid (BkO (ltOf cf) tg A2 m dm ∧ BkO (ltOf cf) tg m n dm) := ⟨hlf, hrt⟩
                clear S4 hlf hrt
                go_wp2_with (go_at_fn 154; refine hcall.mono ?_; rintro e w2 ⟨rfl, d2, S5, h2⟩)
                go_roundg (n - c)
                case measure => have := HC.out; omega
                case rel =>
                  refine ⟨c, d2, by first | rfl | go_num, hc1, by omega, by omega, S5, ?_⟩
                  have hfin := HU.out.fin (d' := d2) (by have := HN.out; omega) (by have := HN.out; have := HC.out; omega) h2.1.1 (by rw [HN.out]; exact h2.1) (by rw [HN.out]; exact HB.out.1.merge HB.out.2 (by omega) (by omega) (by omega) h2)
                  rw [HC.out] at hfin
                  exact hfin
              · have hmnz : ¬ (m : Int) < (n : Int) := by omega
                go_wp2
                go_roundg (n - c)
                case measure => have := HC.out; omega
                case rel =>
                  refine ⟨c, dm, by first | rfl | go_num, hc1, by omega, by omega, S4, ?_⟩
                  have hfin := HU.out.fin (d' := dm) (by have := HN.out; omega) (by have := HN.out; have := HC.out; omega) rfl (permIn_refl dm _ _) (HU.out.last (by have := HN.out; have := HM.out; omega))
                  rw [HC.out] at hfin
                  exact hfin
        · have hbnz : ¬ (bs : Int) < (n : Int) := by omega
          go_wp2
          go_end0
          refine ⟨rfl, dj, S3.out, ?_, ?_⟩
          · have := HT.out.perm
            rwa [HN.out] at this
          · have := HT.out.sorted (by have := HN.out; omega)
            rwa [HN.out] at this
end Go.Proofs.YtdjaofbjmnmlbaaDoor

/- codec.Order at every two cells, the world told as it was but for draws and new blocks; cells are in a strict weak order. Conditions: none. -/
namespace Go.Proofs.YtdjaofbjmnmlbaaDoor
open Go.RowKit

/-- As it was, but for draws and new blocks. -/
def Gr (w w' : World) : Prop := ∃ n os, w' = Go.Sort.grow (w.drewN n) os
theorem Gr.refl (w : World) : Gr w w := ⟨0, #[], (Go.Sort.grow_empty _).symm⟩
theorem Gr.trans {a b c : World} (h : Gr a b) (k : Gr b c) : Gr a c := by
  obtain ⟨n, os, rfl⟩ := h
  obtain ⟨q, os', rfl⟩ := k
  exact ⟨n + q, os ++ os', by show Go.Sort.grow (Go.Sort.grow ((a.drewN n).drewN q) os) os' = _; rw [Go.Sort.grow_grow, World.drewN_drewN]⟩
theorem Gr.drew {a b : World} (h : Gr a b) : Gr a b.drew := by
  obtain ⟨n, os, rfl⟩ := h
  exact ⟨n + 1, os, by show Go.Sort.grow ((a.drewN n).drew) os = _; rfl⟩
theorem Gr.new (w : World) (o : Obj) : Gr w (w.alloc o) := ⟨0, #[o], by rw [Go.Sort.alloc_eq_grow]; rfl⟩
theorem Gr.alloc {a b : World} (h : Gr a b) (o : Obj) : Gr a (b.alloc o) := h.trans (Gr.new b o)
theorem Gr.below {a b : World} (h : Gr a b) : Below a.heap.size a b := by
  obtain ⟨n, os, rfl⟩ := h
  exact ⟨rfl, rfl, rfl, by rw [Go.Sort.size_grow]; exact Nat.le_add_right _ _, fun k hk => Go.Sort.heap_grow_old _ _ hk⟩

set_option maxHeartbeats 1000000 in
theorem crank_gr (r f q vs : ByteArray) (t k vk vn : Int) (w : World) :
    Calls Tryd.prog 107 #[cellV r f q t k vk vn vs] w fun e w' => e = .returned (.int .i64 (rankC k)) ∧ Gr w w' := by
  unfold rankC
  by_cases h : k = 4
  · subst h
    rw [if_pos rfl]
    go_enter Tryd.func107, Tryd.ntmps107
    go_wp2
    go_ret
    exact ⟨rfl, Gr.new _ _⟩
  · rw [if_neg h]
    have h0 : (k == 4) = false := by simpa using h
    go_enter Tryd.func107, Tryd.ntmps107
    go_wp2
    go_ret
    exact ⟨rfl, Gr.new _ _⟩

/-- Two cells in blocks of the call's own. -/
abbrev TwoG (w : World) (r1 f1 q1 s1 : ByteArray) (t1 k1 vk1 vn1 : Int) (r2 f2 q2 s2 : ByteArray) (t2 k2 vk2 vn2 : Int) (w' : World) : Prop :=
  Hid (Gr w w' ∧ w.heap.size + 1 < w'.heap.size) ∧ w'.cell? ⟨w.heap.size, 0, none⟩ = some (.string r1) ∧ w'.cell? ⟨w.heap.size, 1, none⟩ = some (.string f1) ∧ w'.cell? ⟨w.heap.size, 2, none⟩ = some (.string q1) ∧ w'.cell? ⟨w.heap.size, 3, none⟩ = some (.int .i64 t1) ∧ w'.cell? ⟨w.heap.size, 4, none⟩ = some (.int .i64 k1) ∧ w'.cell? ⟨w.heap.size, 5, none⟩ = some (.int .i64 vk1) ∧ w'.cell? ⟨w.heap.size, 6, none⟩ = some (.int .i64 vn1) ∧ w'.cell? ⟨w.heap.size, 7, none⟩ = some (.string s1) ∧ w'.cell? ⟨w.heap.size + 1, 0, none⟩ = some (.string r2) ∧ w'.cell? ⟨w.heap.size + 1, 1, none⟩ = some (.string f2) ∧ w'.cell? ⟨w.heap.size + 1, 2, none⟩ = some (.string q2) ∧ w'.cell? ⟨w.heap.size + 1, 3, none⟩ = some (.int .i64 t2) ∧ w'.cell? ⟨w.heap.size + 1, 4, none⟩ = some (.int .i64 k2) ∧ w'.cell? ⟨w.heap.size + 1, 5, none⟩ = some (.int .i64 vk2) ∧ w'.cell? ⟨w.heap.size + 1, 6, none⟩ = some (.int .i64 vn2) ∧ w'.cell? ⟨w.heap.size + 1, 7, none⟩ = some (.string s2)
section
variable {w W W' : World} {r1 f1 q1 s1 r2 f2 q2 s2 : ByteArray} {t1 k1 vk1 vn1 t2 k2 vk2 vn2 : Int}
theorem twog_call (h : TwoG w r1 f1 q1 s1 t1 k1 vk1 vn1 r2 f2 q2 s2 t2 k2 vk2 vn2 W) (hb : Gr W W') : TwoG w r1 f1 q1 s1 t1 k1 vk1 vn1 r2 f2 q2 s2 t2 k2 vk2 vn2 W' := by
  obtain ⟨hh, a0, a1, a2, a3, a4, a5, a6, a7, a8, a9, a10, a11, a12, a13, a14, a15⟩ := h
  obtain ⟨hbw, hz⟩ := hh.out
  have hc : ∀ b o, b ≤ w.heap.size + 1 → W'.cell? ⟨b, o, none⟩ = W.cell? ⟨b, o, none⟩ := fun b o h => hb.below.cell (p := ⟨b, o, none⟩) (show b < W.heap.size by omega)
  refine ⟨hid ⟨hbw.trans hb, Nat.lt_of_lt_of_le hz hb.below.size⟩, ?_, ?_, ?_, ?_, ?_, ?_, ?_, ?_, ?_, ?_, ?_, ?_, ?_, ?_, ?_, ?_⟩ <;> (rw [hc _ _ (by omega)]; assumption)
theorem twog_drew (h : TwoG w r1 f1 q1 s1 t1 k1 vk1 vn1 r2 f2 q2 s2 t2 k2 vk2 vn2 W) : TwoG w r1 f1 q1 s1 t1 k1 vk1 vn1 r2 f2 q2 s2 t2 k2 vk2 vn2 W.drew := by
  obtain ⟨hh, h⟩ := h
  exact ⟨hid ⟨hh.out.1.drew, hh.out.2⟩, h⟩
end
theorem or6g (x1 x2 x3 x4 x5 x6 : Int) (W : World) (T : TypeId) :
    Calls Tryd.prog 104 #[.slice (some ⟨W.heap.size, 0, none⟩) 6 6] (W.alloc (.cells #[.int .i64 x1, .int .i64 x2, .int .i64 x3, .int .i64 x4, .int .i64 x5, .int .i64 x6] T)) fun e w' => e = .returned (.int .i64 (orI [x1, x2, x3, x4, x5, x6])) ∧ Gr (W.alloc (.cells #[.int .i64 x1, .int .i64 x2, .int .i64 x3, .int .i64 x4, .int .i64 x5, .int .i64 x6] T)) w' := by
  refine (or_any W.heap.size 6 (by decide) [x1, x2, x3, x4, x5, x6] rfl _ fun i hi => ?_).mono fun e w' ⟨he, hw⟩ => ⟨he, by rw [hw]; exact Gr.refl _⟩
  rw [(Blk.new W T _).cell i]
  match i, hi with
  | 0, _ => rfl
  | 1, _ => rfl
  | 2, _ => rfl
  | 3, _ => rfl
  | 4, _ => rfl
  | 5, _ => rfl

set_option maxRecDepth 100000 in
set_option maxHeartbeats 8000000 in
theorem corder_gr (r1 f1 q1 s1 : ByteArray) (t1 k1 vk1 vn1 : Int) (r2 f2 q2 s2 : ByteArray) (t2 k2 vk2 vn2 : Int) (w : World) :
    Calls Tryd.prog 56 #[cellV r1 f1 q1 t1 k1 vk1 vn1 s1, cellV r2 f2 q2 t2 k2 vk2 vn2 s2] w fun e w' => e = .returned (.int .i64 (cOrd r1.data.toList f1.data.toList q1.data.toList t1 k1 r2.data.toList f2.data.toList q2.data.toList t2 k2)) ∧ Gr w w' := by
  unfold cOrd
  generalize hz : orI [Lib.compareBytes r1.data.toList r2.data.toList, Lib.compareBytes f1.data.toList f2.data.toList, Lib.compareInt (rankC k1) (rankC k2), Lib.compareBytes q1.data.toList q2.data.toList, Lib.compareInt t2 t1, Lib.compareInt k2 k1] = z
  have HZ := hid hz
  clear hz
  go_enter Tryd.func56, Tryd.ntmps56
  go_wp2
  obtain ⟨W, hW⟩ : ∃ W, ((w.alloc (.cells #[.string r1, .string f1, .string q1, .int .i64 t1, .int .i64 k1, .int .i64 vk1, .int .i64 vn1, .string s1] 28)).alloc (.cells #[.string r2, .string f2, .string q2, .int .i64 t2, .int .i64 k2, .int .i64 vk2, .int .i64 vn2, .string s2] 28)) = W := ⟨_, rfl⟩
  have HT : Hid (TwoG w r1 f1 q1 s1 t1 k1 vk1 vn1 r2 f2 q2 s2 t2 k2 vk2 vn2 W) := by
    subst hW
    have B1 : Blk (w.alloc (.cells #[Value.string r1, .string f1, .string q1, .int .i64 t1, .int .i64 k1, .int .i64 vk1, .int .i64 vn1, .string s1] 28)) w.heap.size 28 #[Value.string r1, .string f1, .string q1, .int .i64 t1, .int .i64 k1, .int .i64 vk1, .int .i64 vn1, .string s1] := Blk.new w _ _
    have B2 := B1.keep (below_new _ (.cells #[Value.string r2, .string f2, .string q2, .int .i64 t2, .int .i64 k2, .int .i64 vk2, .int .i64 vn2, .string s2] 28)) (by simp)
    have B3 : Blk ((w.alloc (.cells #[Value.string r1, .string f1, .string q1, .int .i64 t1, .int .i64 k1, .int .i64 vk1, .int .i64 vn1, .string s1] 28)).alloc (.cells #[Value.string r2, .string f2, .string q2, .int .i64 t2, .int .i64 k2, .int .i64 vk2, .int .i64 vn2, .string s2] 28)) (w.heap.size + 1) 28 #[Value.string r2, .string f2, .string q2, .int .i64 t2, .int .i64 k2, .int .i64 vk2, .int .i64 vn2, .string s2] := by
      have := Blk.new (w.alloc (.cells #[Value.string r1, .string f1, .string q1, .int .i64 t1, .int .i64 k1, .int .i64 vk1, .int .i64 vn1, .string s1] 28)) 28 #[Value.string r2, .string f2, .string q2, .int .i64 t2, .int .i64 k2, .int .i64 vk2, .int .i64 vn2, .string s2]
      simpa using this
    exact ⟨hid ⟨(Gr.new w _).alloc _, by simp⟩, B2.cell 0, B2.cell 1, B2.cell 2, B2.cell 3, B2.cell 4, B2.cell 5, B2.cell 6, B2.cell 7, B3.cell 0, B3.cell 1, B3.cell 2, B3.cell 3, B3.cell 4, B3.cell 5, B3.cell 6, B3.cell 7⟩
  rw [hW]
  clear hW
  obtain ⟨h0, c0, c1, c2, c3, c4, c5, c6, c7, d0, d1, d2, d3, d4, d5, d6, d7⟩ := HT.out
  go_region_held3 (fun w' => Hid (Gr w w' ∧ w.heap.size + 1 < w'.heap.size) ∧ w'.cell? ⟨w.heap.size, 0, none⟩ = some (.string r1) ∧ w'.cell? ⟨w.heap.size, 1, none⟩ = some (.string f1) ∧ w'.cell? ⟨w.heap.size, 2, none⟩ = some (.string q1) ∧ w'.cell? ⟨w.heap.size, 3, none⟩ = some (.int .i64 t1) ∧ w'.cell? ⟨w.heap.size, 4, none⟩ = some (.int .i64 k1) ∧ w'.cell? ⟨w.heap.size, 5, none⟩ = some (.int .i64 vk1) ∧ w'.cell? ⟨w.heap.size, 6, none⟩ = some (.int .i64 vn1) ∧ w'.cell? ⟨w.heap.size, 7, none⟩ = some (.string s1) ∧ w'.cell? ⟨w.heap.size + 1, 0, none⟩ = some (.string r2) ∧ w'.cell? ⟨w.heap.size + 1, 1, none⟩ = some (.string f2) ∧ w'.cell? ⟨w.heap.size + 1, 2, none⟩ = some (.string q2) ∧ w'.cell? ⟨w.heap.size + 1, 3, none⟩ = some (.int .i64 t2) ∧ w'.cell? ⟨w.heap.size + 1, 4, none⟩ = some (.int .i64 k2) ∧ w'.cell? ⟨w.heap.size + 1, 5, none⟩ = some (.int .i64 vk2) ∧ w'.cell? ⟨w.heap.size + 1, 6, none⟩ = some (.int .i64 vn2) ∧ w'.cell? ⟨w.heap.size + 1, 7, none⟩ = some (.string s2))
    (first | exact HT.out | exact twog_drew HT.out | exact twog_call (by assumption) hbo | exact twog_drew (by assumption) | assumption | exact twog_call (by assumption) (Gr.new _ _) | exact twog_call (twog_call (by assumption) (Gr.new _ _)) hbo)
    (first
      | (go_at_call 105; ((with_reducible refine (Tryd.strings_Compare _ _ _).mono ?_); rintro e w5 ⟨rfl, rfl⟩))
      | (go_at_call 106; ((with_reducible refine (Tryd.cmp_Compare_int _ _ _).mono ?_); rintro e w5 ⟨rfl, rfl⟩))
      | (go_at_call 107; ((with_reducible refine (crank_gr _ _ _ _ _ _ _ _ _).mono ?_); rintro e w5 ⟨rfl, hbo⟩))
      | (go_at_call 104; ((with_reducible refine (or6g _ _ _ _ _ _ _ _).mono ?_); rintro e w7 ⟨rfl, hbo⟩)))
  rename_i hLast
  go_wp2
  go_ret
  refine ⟨?_, hLast.1.out.1⟩
  rw [← HZ.out]
  rfl

/-- A comparison that is one: turned round it turns its sign, and it passes on. -/
structure C3 {α : Type} (f : α → α → Int) : Prop where
  anti : ∀ x y, f y x = -f x y
  tr : ∀ x y z, f x y ≤ 0 → f y z ≤ 0 → f x z ≤ 0
theorem C3.zero {α : Type} {f : α → α → Int} (h : C3 f) (x : α) : f x x = 0 := by have := h.anti x x; omega
theorem C3.lt_le {α : Type} {f : α → α → Int} (h : C3 f) {x y z : α} (h1 : f x y < 0) (h2 : f y z ≤ 0) : f x z < 0 := by
  have h3 := h.tr x y z (by omega) h2
  by_cases e : f x z = 0
  · have a1 := h.anti x z
    have := h.tr y z x h2 (by omega)
    have a2 := h.anti x y
    omega
  · omega
theorem C3.le_lt {α : Type} {f : α → α → Int} (h : C3 f) {x y z : α} (h1 : f x y ≤ 0) (h2 : f y z < 0) : f x z < 0 := by
  have h3 := h.tr x y z h1 (by omega)
  by_cases e : f x z = 0
  · have a1 := h.anti x z
    have := h.tr z x y (by omega) h1
    have a2 := h.anti y z
    omega
  · omega
/-- The second comparison decides where the first doesn't. -/
theorem C3.lex {α : Type} {f g : α → α → Int} (hf : C3 f) (hg : C3 g) : C3 (fun x y => if f x y = 0 then g x y else f x y) where
  anti x y := by
    have := hf.anti x y
    by_cases e : f x y = 0
    · rw [if_pos e, if_pos (by omega)]; exact hg.anti x y
    · rw [if_neg e, if_neg (by omega)]; exact this
  tr x y z h1 h2 := by
    have a1 := hf.anti x y
    have a2 := hf.anti y z
    have a3 := hf.anti x z
    by_cases e1 : f x y = 0
    · rw [if_pos e1] at h1
      by_cases e2 : f y z = 0
      · rw [if_pos e2] at h2
        have := hf.tr x y z (by omega) (by omega)
        have := hf.tr z y x (by omega) (by omega)
        rw [if_pos (by omega)]
        exact hg.tr x y z h1 h2
      · rw [if_neg e2] at h2
        have := hf.le_lt (x := x) (y := y) (z := z) (by omega) (by omega)
        rw [if_neg (by omega)]; omega
    · rw [if_neg e1] at h1
      have h2' : f y z ≤ 0 := by
        by_cases e2 : f y z = 0
        · omega
        · rw [if_neg e2] at h2; exact h2
      have := hf.lt_le (x := x) (y := y) (z := z) (by omega) h2'
      rw [if_neg (by omega)]; omega
theorem C3.bytes {α : Type} (p : α → List UInt8) : C3 (fun x y => Lib.compareBytes (p x) (p y)) where
  anti _ _ := cmpB_neg _ _
  tr _ _ _ := cmpB_trans _ _ _
theorem C3.int {α : Type} (p : α → Int) : C3 (fun x y => Lib.compareInt (p x) (p y)) where
  anti x y := by unfold Lib.compareInt; split <;> (try split) <;> (try split) <;> (try split) <;> omega
  tr x y z h1 h2 := by
    unfold Lib.compareInt at *
    split at h1 <;> split at h2 <;> (try split at h1) <;> (try split at h2) <;> split <;> (try split) <;> omega
theorem C3.zeroF {α : Type} : C3 (fun _ _ : α => 0) where
  anti _ _ := by omega
  tr _ _ _ _ _ := by omega
/-- How cells stand to each other. -/
def CT.cmp (x y : CT) : Int := cOrd x.r.data.toList x.f.data.toList x.q.data.toList x.t x.k y.r.data.toList y.f.data.toList y.q.data.toList y.t y.k
theorem ct_c3 : C3 CT.cmp := by
  have h := (C3.bytes fun x : CT => x.r.data.toList).lex ((C3.bytes fun x : CT => x.f.data.toList).lex ((C3.int fun x : CT => rankC x.k).lex ((C3.bytes fun x : CT => x.q.data.toList).lex ((C3.int fun x : CT => -x.t).lex ((C3.int fun x : CT => -x.k).lex C3.zeroF)))))
  have e : CT.cmp = fun x y => (if Lib.compareBytes x.r.data.toList y.r.data.toList = 0 then (if Lib.compareBytes x.f.data.toList y.f.data.toList = 0 then (if Lib.compareInt (rankC x.k) (rankC y.k) = 0 then (if Lib.compareBytes x.q.data.toList y.q.data.toList = 0 then (if Lib.compareInt (-x.t) (-y.t) = 0 then (if Lib.compareInt (-x.k) (-y.k) = 0 then 0 else Lib.compareInt (-x.k) (-y.k)) else Lib.compareInt (-x.t) (-y.t)) else Lib.compareBytes x.q.data.toList y.q.data.toList) else Lib.compareInt (rankC x.k) (rankC y.k)) else Lib.compareBytes x.f.data.toList y.f.data.toList) else Lib.compareBytes x.r.data.toList y.r.data.toList) := by
    funext x y
    have n1 : ∀ a b : Int, Lib.compareInt b a = Lib.compareInt (-a) (-b) := fun a b => by unfold Lib.compareInt; split <;> (try split) <;> (try split) <;> (try split) <;> omega
    unfold CT.cmp cOrd
    simp only [orI_cons, n1 x.t y.t, n1 x.k y.k]
    rfl
  rw [e]
  exact h
theorem c3_swo {α : Type} {f : α → α → Int} (h : C3 f) : Go.Sort.SWO (ltOf f) where
  irrefl x := by unfold ltOf; rw [h.zero]; rfl
  trans x y z h1 h2 := by
    unfold ltOf at *
    have h1 := of_decide_eq_true h1
    have h2 := of_decide_eq_true h2
    exact decide_eq_true (h.lt_le h1 (by omega))
  ntrans x y z h1 h2 := by
    unfold ltOf at *
    have h1 := of_decide_eq_false h1
    have h2 := of_decide_eq_false h2
    refine decide_eq_false ?_
    have a1 := h.anti x y
    have a2 := h.anti y z
    have a3 := h.anti x z
    have := h.tr z y x (by omega) (by omega)
    omega
end Go.Proofs.YtdjaofbjmnmlbaaDoor

/- slices.SortStableFunc by codec.Order at every row of cells of the call's own: the same cells in order, what is alike in the order in which it came. Conditions: a hundred thousand cells at most. -/
namespace Go.Proofs.YtdjaofbjmnmlbaaDoor
open Go.Shelf Go.RowKit Go.Lib Go.Sort

/-- A cell and its tag, in the sort's words. -/
abbrev TT := CT × Nat
def teW (x : TT) : List Value := x.1.e
def tcF (x y : TT) : Int := CT.cmp x.1 y.1
theorem tc3 : C3 tcF := ⟨fun x y => ct_c3.anti x.1 y.1, fun x y z => ct_c3.tr x.1 y.1 z.1⟩

theorem flatC_K (d : Array TT) : (flatK teW 8 d).toList = flatC (d.toList.map Prod.fst) := by
  apply List.ext_getElem?
  intro t
  by_cases h : t < d.size * 8
  · have h8 : t / 8 < d.size := by omega
    have e : t = t / 8 * 8 + t % 8 := by omega
    have hl : t / 8 < (d.toList.map Prod.fst).length := by simpa using h8
    have h1 : (flatC (d.toList.map Prod.fst))[t]? = (d.toList.map Prod.fst)[t / 8].e[t % 8]? := by
      conv => lhs; rw [e]
      exact flatC_at _ _ _ hl (by omega)
    have hs : t < (flatK teW 8 d).size := by rw [size_flatK]; exact h
    rw [h1, Array.getElem?_toList, Array.getElem?_eq_getElem hs, ← getElem!_pos (flatK teW 8 d) t hs, get_flatK teW 8 d t h, getElem!_pos d (t / 8) h8]
    have e2 : (d.toList.map Prod.fst)[t / 8] = d[t / 8].1 := by simp
    rw [e2]
    have h3 : t % 8 < (teW d[t / 8]).length := by show t % 8 < 8; omega
    rw [getElem!_pos (teW d[t / 8]) (t % 8) h3]
    exact (List.getElem?_eq_getElem h3).symm
  · rw [List.getElem?_eq_none (by simp; omega), List.getElem?_eq_none (by rw [flatC_len]; simp; omega)]

theorem heap_put {w : World} {g n : Nat} {os : Array Obj} {cur : Array Value} {e : TypeId} {fr : Nat × Nat} (F : Array Value) (hb : w.heap[g]? = some (.cells cur e fr)) :
    (grow (putRow id (Sort.ahead w n) g 0 F) os).heap[g]? = some (.cells (putCells id 0 F cur) e fr) := by
  have hg : g < w.heap.size := (Array.getElem?_eq_some_iff.1 hb).1
  rw [heap_grow_old _ _ (by simpa using hg)]
  simp [putRow, mapBlock, Sort.ahead, Array.getElem?_modify, hb, onCells]
theorem below_put {w : World} {B g n : Nat} {os : Array Obj} (F : Array Value) (hB : B ≤ w.heap.size) (hg : B ≤ g) : Below B w (grow (putRow id (Sort.ahead w n) g 0 F) os) := by
  refine ⟨rfl, rfl, rfl, by simp, fun k hk => ?_⟩
  rw [heap_grow_old _ _ (by simp; omega)]
  have : g ≠ k := by omega
  simp [putRow, mapBlock, Sort.ahead, Array.getElem?_modify, this]
theorem take_put (cur F : Array Value) (h : F.size ≤ cur.size) : (putCells id 0 F cur).toList.take F.size = F.toList := by
  apply List.ext_getElem?
  intro j
  by_cases hj : j < F.size
  · rw [List.getElem?_take_of_lt hj, Array.getElem?_toList]
    simp [putCells, hj, show j < cur.size by omega]
  · rw [List.getElem?_take_eq_none (by omega), List.getElem?_eq_none (by simp; omega)]

theorem zip_size (l : List CT) : (l.zipIdx).toArray.size = l.length := by simp
theorem zip_at (l : List CT) (i : Nat) (h : i < l.length) : (l.zipIdx).toArray[i]! = (l[i], i) := by
  rw [getElem!_pos _ i (by simpa using h)]
  simp

/-- What the sort is told of a row of the call's own. -/
theorem crow_holds {w : World} {B g n c : Nat} {l : List CT} (h : CRow w B (.slice (some ⟨g, 0, none⟩) n c) l) : HoldsK teW 8 w g 0 (l.zipIdx).toArray := by
  intro j hj
  rw [size_flatK, zip_size] at hj
  have hc := h.hc (j / 8) (by omega) (j % 8) (by omega)
  rw [show 0 + j / 8 * 8 + j % 8 = 0 + j by omega] at hc
  rw [get_flatK teW 8 _ j (by rw [zip_size]; exact hj), zip_at l (j / 8) (by omega)]
  have h3 : j % 8 < (teW (l[j / 8], j / 8)).length := by show j % 8 < 8; omega
  refine ⟨?_, ?_⟩
  · rw [hc, getElem!_pos (teW (l[j / 8], j / 8)) (j % 8) h3]
    exact List.getElem?_eq_getElem h3
  · obtain ⟨_, h2⟩ := h
    rcases h2 with ⟨e, _⟩ | ⟨g', cap, cur, e, _, hh, _⟩
    · cases e
    · injection e with e1
      injection e1 with e1
      injection e1 with e1
      subst e1
      simp [World.frozen?, hh]

theorem order_lays (blk off size : Nat) (w : World) : CmpLays Tryd.prog 56 #[] teW 8 tcF blk off size w := fun _ _ _ _ x y =>
  corder_gr x.1.r x.1.f x.1.q x.1.s x.1.t x.1.k x.1.vk x.1.vn y.1.r y.1.f y.1.q y.1.s y.1.t y.1.k y.1.vk y.1.vn _

theorem order_enters : ∀ args w, (callFunc 56 args).run Tryd.prog w = .ok (.enter 56 args) w :=
  enters_of Tryd.func56 (by kernel_rfl) rfl

set_option maxHeartbeats 1000000 in
theorem ins_nil (w : World) : Calls Tryd.prog 153 #[.slice none 0 0, .int .i64 0, .int .i64 0, .func (.func 56) #[] #[]] w fun e w' => e = .returned (.tuple #[]) ∧ w' = w := by
  go_enter Tryd.func153, Tryd.ntmps153
  go_wp2
  go_loopg [8] 0 (fun _ vi wr => vi = .int .i64 1 ∧ wr = w)
  case atStart => exact ⟨rfl, rfl⟩
  case round =>
    obtain ⟨rfl, rfl⟩ := hrel
    go_wp2
    go_end0
    exact ⟨rfl, rfl⟩
set_option maxHeartbeats 1000000 in
theorem stable_nil (w : World) : Calls Tryd.prog 122 #[.slice none 0 0, .int .i64 0, .func (.func 56) #[] #[]] w fun e w' => e = .returned (.tuple #[]) ∧ w' = w := by
  have HI := hid ins_nil
  go_enter Tryd.func122, Tryd.ntmps122
  go_wp2
  go_loopg [7, 8] 0 (fun _ s7 s8 wr => s7 = .int .i64 0 ∧ s8 = .int .i64 20 ∧ wr = w)
  case atStart => exact ⟨rfl, rfl, rfl⟩
  case round =>
    obtain ⟨rfl, rfl, rfl⟩ := hrel
    go_wp2_with (go_at_call 153; refine (HI.out _).mono ?_; rintro e w1 ⟨rfl, rfl⟩)
    go_loopg [6, 7, 8, 9] 0 (fun _ s6 _ _ _ wx => s6 = .int .i64 20 ∧ wx = w1)
    case atStart => exact ⟨rfl, rfl⟩
    case round =>
      obtain ⟨rfl, rfl⟩ := hrel
      go_wp2
      go_end0
      exact ⟨rfl, rfl⟩

/-- What the stable sort of cells tells. -/
structure StbL (l : List CT) (l' : List TT) : Prop where
  perm : l'.Perm l.zipIdx
  sorted : l'.Pairwise (RT (ltOf tcF) Prod.snd)

theorem stable_top (B : Nat) (v : Value) (l : List CT) (hl : l.length ≤ 100000) (w : World) (h : CRow w B v l) (hB : B ≤ w.heap.size) :
    Calls Tryd.prog 122 #[v, .int .i64 (l.length : Int), .func (.func 56) #[] #[]] w fun e w' => e = .returned (.tuple #[]) ∧ ∃ l', StbL l l' ∧ CRow w' B v (l'.map Prod.fst) ∧ Below B w w' := by
  have h' := h
  rcases h.2 with ⟨e, hz⟩ | ⟨g, cap, cur, e, hBg, hb, h1, h2, h3, h4⟩
  · have e0 : l = [] := List.eq_nil_of_length_eq_zero hz
    subst e0 e
    exact (stable_nil w).mono fun e w' ⟨he, hw⟩ => ⟨he, [], ⟨List.Perm.refl _, List.Pairwise.nil⟩, by rw [hw]; exact h', by rw [hw]; exact Below.refl _ _⟩
  · subst e
    have hg : g < w.heap.size := (Array.getElem?_eq_some_iff.1 hb).1
    have hH := crow_holds h'
    have hcall := stable_any slp teW tcF Prod.snd 56 #[] g 0 cap (l.zipIdx).toArray w w order_enters (order_lays g 0 _ w) ⟨fun _ => rfl, fun x => x.1.e_one, hH, hg⟩ (SWK.start hH) (c3_swo tc3) (by rw [zip_size]; omega) (fun i hi => by rw [zip_size] at hi; rw [zip_at l i hi])
    rw [zip_size] at hcall
    refine hcall.mono fun e w' ⟨he, d', ⟨n, os, hw⟩, hp, hr⟩ => ⟨he, d'.toList, ⟨?_, ?_⟩, ?_, ?_⟩
    · have hq := hp.2.2
      have hs : d'.size = l.length := by rw [hp.1, zip_size]
      have e1 : d'.extract 0 l.length = d' := by rw [← hs]; exact Array.extract_size
      have e2 : (l.zipIdx).toArray.extract 0 l.length = (l.zipIdx).toArray := by
        have := Array.extract_size (xs := (l.zipIdx).toArray)
        rwa [zip_size] at this
      rwa [e1, e2] at hq
    · have hs : d'.size = l.length := by rw [hp.1, zip_size]
      rw [List.pairwise_iff_getElem]
      intro i j hi hj hij
      have := hr i j (Nat.zero_le _) hij (by simpa [hs] using hj)
      rwa [getElem!_pos d' i (by simpa using hi), getElem!_pos d' j (by simpa using hj)] at this
    · have hs : d'.size = l.length := by rw [hp.1, zip_size]
      have hf : (flatK teW 8 d').size = l.length * 8 := by rw [size_flatK, hs]
      unfold CRow
      rw [show (d'.toList.map Prod.fst).length = l.length by simp [hs]]
      refine ⟨by rw [flatC_len]; simp [hs], .inr ⟨g, cap, _, rfl, hBg, by rw [hw]; exact heap_put (flatK teW 8 d') hb, h1, h2, by simp [putCells, h3], ?_⟩⟩
      rw [← hf, take_put cur _ (by rw [hf, h3]; omega), flatC_K]
    · rw [hw]
      exact below_put _ hB hBg

set_option maxHeartbeats 1000000 in
theorem sortStable_any (B : Nat) (v : Value) (l : List CT) (hl : l.length ≤ 100000) (w : World) (h : CRow w B v l) (hB : B ≤ w.heap.size) :
    Calls Tryd.prog 73 #[v, .func (.func 56) #[] #[]] w fun e w' => e = .returned (.tuple #[]) ∧ ∃ l', StbL l l' ∧ CRow w' B v (l'.map Prod.fst) ∧ Below B w w' := by
  have HT := hid (stable_top B v l hl w h hB)
  obtain ⟨A, c, rfl, _⟩ := h.len
  clear h
  go_enter Tryd.func73, Tryd.ntmps73
  go_wp2_with (go_at_call 122; refine HT.out.mono ?_; rintro e w1 ⟨rfl, l', h1, h2, h3⟩)
  go_end0
  exact ⟨rfl, l', h1, h2, h3⟩
end Go.Proofs.YtdjaofbjmnmlbaaDoor

/- An append in a row's own room; cell.lasts: of cells that stand in order the last one of each place, in their own memory. Conditions: a hundred thousand cells at most. -/
namespace Go.Proofs.YtdjaofbjmnmlbaaDoor
open Go.RowKit

section
variable {ops : Array Oper} {rest : List Oper} {o : Oper} {a : Act} {Q : Exit → Act → World → Prop}
set_option maxRecDepth 100000 in
/-- append of one cell where there is room: the block's words are told whole. -/
theorem wpList_append_room (hgd : o.guard = none) (s x : Operand)
    (ho : o.op = .call { callee := .builtin .append, args := #[s, x], argTypes := #[39, 39] })
    (w : World) (g n cap : Nat) (hs : a.eval s = .slice (some ⟨g, 0, none⟩) n cap) (cur : Array Value) (hg : w.heap[g]? = some (.cells cur 28 (0, 0))) (hcs : cur.size = cap * 8)
    (G m : Nat) (hx : a.eval x = .slice (some ⟨G, 0, none⟩) 1 m) (y : CT) (hc : ∀ j u, y.e[j]? = some u → w.cell? ((⟨G, 0, none⟩ : Addr).add j) = some u) (hroom : n + 1 ≤ cap)
    (h : ∀ w' cur', w'.heap[g]? = some (.cells cur' 28 (0, 0)) → cur'.size = cap * 8 → (∀ t, cur'[t]? = if t < n * 8 then cur[t]? else if t < n * 8 + 8 then y.e[t - n * 8]? else cur[t]?) → (∀ B, B ≤ g → B ≤ w.heap.size → Below B w w') → wpList Tryd.prog ops Q rest (a.put o.dst (.slice (some ⟨g, 0, none⟩) (n + 1) cap)) w') : wpList Tryd.prog ops Q (o :: rest) a w := by
  obtain ⟨i0, hi, hz0, hz1, hz2⟩ := info_parts info_cell
  refine wpList_plain hgd fun K hK => ?_
  have hr := run_append_room (P := Tryd.prog) w 39 o.type 28 i0 Tryd.underlying39 hi g n cap cur hg ⟨G, 0, none⟩ 1 m y.e (by rw [hz1]; rfl) hc y.e_one hroom (by rw [hz1, CT.e_len, hcs]; omega)
  rw [hz1, CT.e_len] at hr
  unfold Oper.wp execOp
  simp only [ho, resolve, invoke, builtin, Sem.run_bind, Sem.run_pure, Result.andThen_ok, List.map_toArray, List.map_cons, List.map_nil, hs, hx, hr]
  have hl : (cur.toList.take (n * 8)).length = n * 8 := by rw [List.length_take, Array.length_toList, hcs]; omega
  refine hK _ _ (h _ _ (setRow_heap w g cur _ _ _ hg) ?_ (fun t => ?_) fun B h1 h2 => ⟨rfl, rfl, rfl, by simp, fun k hk => setRow_other w g k _ (by omega)⟩)
  · simp only [List.size_toArray, List.length_append, List.length_take, List.length_drop, Array.length_toList, CT.e_len, hcs]
    omega
  · rw [List.getElem?_toArray]
    by_cases c1 : t < n * 8
    · rw [if_pos c1, List.append_assoc, List.getElem?_append_left (by rw [hl]; exact c1), List.getElem?_take_of_lt c1, Array.getElem?_toList]
    · rw [if_neg c1]
      by_cases c2 : t < n * 8 + 8
      · rw [if_pos c2, List.getElem?_append_left (by rw [List.length_append, hl, CT.e_len]; exact c2), List.getElem?_append_right (by rw [hl]; omega), hl]
      · rw [if_neg c2, List.getElem?_append_right (by rw [List.length_append, hl, CT.e_len]; omega), List.length_append, hl, CT.e_len, List.getElem?_drop, Array.getElem?_toList]
        congr 1; omega
end

theorem wp_ltc {P : Program} {c : Code} {Q : Exit → Act → World → Prop} {a : Act} {w : World} (F : World → Prop) (h0 : F w) (h : ∀ W, F W → c.wp P Q a W) : c.wp P Q a w := h w h0

/-- Of cells that stand in order, the last one of each place. -/
def lastsM : List CT → List CT
  | [] => []
  | [x] => [x]
  | x :: y :: t => if CT.cmp x y = 0 then lastsM (y :: t) else x :: lastsM (y :: t)

/-- Where cell.lasts is: what it has kept stands at the row's beginning, what it hasn't looked at stands where it stood. -/
structure LsS (wr : World) (g cap : Nat) (s out : List CT) (i : Nat) : Prop where
  ex : ∃ cur, wr.heap[g]? = some (.cells cur 28 (0, 0)) ∧ cur.size = cap * 8 ∧ (∀ t, t < out.length * 8 → cur[t]? = (flatC out)[t]?) ∧ (∀ t, i * 8 ≤ t → t < s.length * 8 → cur[t]? = (flatC s)[t]?)
  ko : out.length ≤ i
  sc : s.length ≤ cap
  cm : cap ≤ maxLen
theorem LsS.cell {wr : World} {g cap : Nat} {s out : List CT} {i : Nat} (h : LsS wr g cap s out i) (j k : Nat) (hj : i ≤ j) (hs : j < s.length) (hk : k < 8) : wr.cell? ⟨g, j * 8 + k, none⟩ = s[j].e[k]? := by
  obtain ⟨cur, h1, h2, _, h4⟩ := h.ex
  have := h4 (j * 8 + k) (by omega) (by omega)
  rw [flatC_at s j k hs hk] at this
  simp [World.cell?, h1, this]
theorem LsS.keep {wr w' : World} {g cap : Nat} {s out : List CT} {i : Nat} (h : LsS wr g cap s out i) (hb : Below wr.heap.size wr w') : LsS w' g cap s out i := by
  obtain ⟨⟨cur, h1, h2, h3, h4⟩, a, b, c⟩ := h
  have hg : g < wr.heap.size := (Array.getElem?_eq_some_iff.1 h1).1
  exact ⟨⟨cur, by rw [hb.block g hg]; exact h1, h2, h3, h4⟩, a, b, c⟩
theorem LsS.skip {wr : World} {g cap : Nat} {s out : List CT} {i : Nat} (h : LsS wr g cap s out i) : LsS wr g cap s out (i + 1) := by
  obtain ⟨⟨cur, h1, h2, h3, h4⟩, a, b, c⟩ := h
  exact ⟨⟨cur, h1, h2, h3, fun t q1 q2 => h4 t (by omega) q2⟩, by omega, b, c⟩
theorem LsS.row {wr : World} {B g cap : Nat} {s out : List CT} {i : Nat} (h : LsS wr g cap s out i) (hi : i ≤ s.length) (hB : B ≤ g) : CRow wr B (.slice (some ⟨g, 0, none⟩) out.length cap) out := by
  obtain ⟨⟨cur, h1, h2, h3, h4⟩, a, b, c⟩ := h
  refine ⟨flatC_len out, .inr ⟨g, cap, cur, rfl, hB, h1, by omega, c, h2, ?_⟩⟩
  apply List.ext_getElem?
  intro t
  by_cases ht : t < out.length * 8
  · rw [List.getElem?_take_of_lt ht, Array.getElem?_toList, h3 t ht]
  · rw [List.getElem?_take_eq_none (by omega), List.getElem?_eq_none (by rw [flatC_len]; omega)]
theorem LsS.start {w : World} {B g cap : Nat} {s : List CT} (h : CRow w B (.slice (some ⟨g, 0, none⟩) s.length cap) s) : LsS w g cap s [] 0 := by
  obtain ⟨_, h2⟩ := h
  rcases h2 with ⟨e, _⟩ | ⟨g', cap', cur, e, _, hh, h1, hm, hc, ht⟩
  · cases e
  · cases e
    refine ⟨⟨cur, hh, hc, fun t q => absurd q (by simp), fun t _ q => ?_⟩, by simp, h1, hm⟩
    rw [← ht, List.getElem?_take_of_lt q, Array.getElem?_toList]
theorem LsS.put {wr w' : World} {g cap : Nat} {s out : List CT} {i : Nat} (h : LsS wr g cap s out i) (hi : i < s.length) (cur cur' : Array Value) (hg : wr.heap[g]? = some (.cells cur 28 (0, 0)))
    (h1 : w'.heap[g]? = some (.cells cur' 28 (0, 0))) (h2 : cur'.size = cap * 8) (h3 : ∀ t, cur'[t]? = if t < out.length * 8 then cur[t]? else if t < out.length * 8 + 8 then s[i].e[t - out.length * 8]? else cur[t]?) : LsS w' g cap s (out ++ [s[i]]) (i + 1) := by
  obtain ⟨⟨cur0, q1, q2, q3, q4⟩, a, b, c⟩ := h
  rw [hg] at q1
  injection q1 with q1
  injection q1 with q1
  subst q1
  refine ⟨⟨cur', h1, h2, fun t ht => ?_, fun t t1 t2 => ?_⟩, by simp; omega, b, c⟩
  · rw [List.length_append, List.length_singleton] at ht
    rw [h3 t, flatC_app, flatC_one]
    by_cases c1 : t < out.length * 8
    · rw [if_pos c1, q3 t c1, List.getElem?_append_left (by rw [flatC_len]; exact c1)]
    · rw [if_neg c1, if_pos (by omega), List.getElem?_append_right (by rw [flatC_len]; omega), flatC_len]
  · rw [h3 t, if_neg (by omega), if_neg (by omega)]
    exact q4 t (by omega) t2

/-- A cell in a block of the call's own, and what Order tells of it and another one. -/
abbrev OneG (W0 : World) (c : CT) (bb : Nat) (W : World) : Prop := Hid (Below W0.heap.size W0 W ∧ bb < W0.heap.size) ∧ W.cell? ⟨bb, 0, none⟩ = some (.string c.r) ∧ W.cell? ⟨bb, 1, none⟩ = some (.string c.f) ∧ W.cell? ⟨bb, 2, none⟩ = some (.string c.q) ∧ W.cell? ⟨bb, 3, none⟩ = some (.int .i64 c.t) ∧ W.cell? ⟨bb, 4, none⟩ = some (.int .i64 c.k) ∧ W.cell? ⟨bb, 5, none⟩ = some (.int .i64 c.vk) ∧ W.cell? ⟨bb, 6, none⟩ = some (.int .i64 c.vn) ∧ W.cell? ⟨bb, 7, none⟩ = some (.string c.s)
theorem blk_words {W : World} {bb : Nat} {c : CT} (h : Blk W bb 28 c.e.toArray) : W.cell? ⟨bb, 0, none⟩ = some (.string c.r) ∧ W.cell? ⟨bb, 1, none⟩ = some (.string c.f) ∧ W.cell? ⟨bb, 2, none⟩ = some (.string c.q) ∧ W.cell? ⟨bb, 3, none⟩ = some (.int .i64 c.t) ∧ W.cell? ⟨bb, 4, none⟩ = some (.int .i64 c.k) ∧ W.cell? ⟨bb, 5, none⟩ = some (.int .i64 c.vk) ∧ W.cell? ⟨bb, 6, none⟩ = some (.int .i64 c.vn) ∧ W.cell? ⟨bb, 7, none⟩ = some (.string c.s) :=
  ⟨h.cell 0, h.cell 1, h.cell 2, h.cell 3, h.cell 4, h.cell 5, h.cell 6, h.cell 7⟩
end Go.Proofs.YtdjaofbjmnmlbaaDoor

/- cell.lasts at cells that stand in order. Conditions: the row is the call's own; a hundred thousand cells at most. -/
namespace Go.Proofs.YtdjaofbjmnmlbaaDoor
open Go.RowKit

/-- Two cells, one in a block of the call's own, one in a row. -/
abbrev TwoL (W0 : World) (c : CT) (bb : Nat) (d : CT) (g off : Nat) (W : World) : Prop := Hid (Below W0.heap.size W0 W ∧ bb < W0.heap.size ∧ g < W0.heap.size) ∧ W.cell? ⟨bb, 0, none⟩ = some (.string c.r) ∧ W.cell? ⟨bb, 1, none⟩ = some (.string c.f) ∧ W.cell? ⟨bb, 2, none⟩ = some (.string c.q) ∧ W.cell? ⟨bb, 3, none⟩ = some (.int .i64 c.t) ∧ W.cell? ⟨bb, 4, none⟩ = some (.int .i64 c.k) ∧ W.cell? ⟨bb, 5, none⟩ = some (.int .i64 c.vk) ∧ W.cell? ⟨bb, 6, none⟩ = some (.int .i64 c.vn) ∧ W.cell? ⟨bb, 7, none⟩ = some (.string c.s) ∧ W.cell? ⟨g, off, none⟩ = some (.string d.r) ∧ W.cell? ⟨g, off + 1, none⟩ = some (.string d.f) ∧ W.cell? ⟨g, off + 2, none⟩ = some (.string d.q) ∧ W.cell? ⟨g, off + 3, none⟩ = some (.int .i64 d.t) ∧ W.cell? ⟨g, off + 4, none⟩ = some (.int .i64 d.k) ∧ W.cell? ⟨g, off + 5, none⟩ = some (.int .i64 d.vk) ∧ W.cell? ⟨g, off + 6, none⟩ = some (.int .i64 d.vn) ∧ W.cell? ⟨g, off + 7, none⟩ = some (.string d.s)
section
variable {W0 W W' : World} {c d : CT} {bb g off : Nat}
theorem twol_drew (h : TwoL W0 c bb d g off W) : TwoL W0 c bb d g off W.drew := by
  obtain ⟨hh, h⟩ := h
  exact ⟨hid ⟨hh.out.1.drew, hh.out.2⟩, h⟩
theorem twol_call (h : TwoL W0 c bb d g off W) (hb : Below W.heap.size W W') : TwoL W0 c bb d g off W' := by
  obtain ⟨hh, a0, a1, a2, a3, a4, a5, a6, a7, a8, a9, a10, a11, a12, a13, a14, a15⟩ := h
  obtain ⟨hbw, h1, h2⟩ := hh.out
  have hz := hbw.size
  have hc : ∀ b o, b < W0.heap.size → W'.cell? ⟨b, o, none⟩ = W.cell? ⟨b, o, none⟩ := fun b o h => hb.cell (p := ⟨b, o, none⟩) (show b < W.heap.size by omega)
  refine ⟨hid ⟨hbw.trans (hb.mono hz), h1, h2⟩, ?_, ?_, ?_, ?_, ?_, ?_, ?_, ?_, ?_, ?_, ?_, ?_, ?_, ?_, ?_, ?_⟩ <;> (rw [hc _ _ (by assumption)]; assumption)
end

theorem corder_ct (x y : CT) (w : World) : Calls Tryd.prog 56 #[x.v, y.v] w fun e w' => e = .returned (.int .i64 (CT.cmp x y)) ∧ Below w.heap.size w w' := corder_any x.r x.f x.q x.s x.t x.k x.vk x.vn y.r y.f y.q y.s y.t y.k y.vk y.vn w

theorem lasts_last {s : List CT} {i : Nat} (h : i < s.length) (h2 : i + 1 = s.length) : lastsM (s.drop i) = [s[i]] := by
  rw [List.drop_eq_getElem_cons h, List.drop_of_length_le (by omega)]
  rfl
theorem lasts_two {s : List CT} {i : Nat} (h : i + 1 < s.length) : lastsM (s.drop i) = if CT.cmp s[i] s[i + 1] = 0 then lastsM (s.drop (i + 1)) else s[i] :: lastsM (s.drop (i + 1)) := by
  rw [List.drop_eq_getElem_cons (by omega : i < s.length), List.drop_eq_getElem_cons h]
  rfl

set_option maxHeartbeats 4000000 in
set_option maxRecDepth 100000 in
theorem lasts_some (B g cap : Nat) (s : List CT) (hs : s.length ≤ 100000) (w : World) (h : CRow w B (.slice (some ⟨g, 0, none⟩) s.length cap) s) (hB : B ≤ w.heap.size) (hBg : B ≤ g) (hgw : g < w.heap.size) :
    Calls Tryd.prog 74 #[.slice (some ⟨g, 0, none⟩) s.length cap] w fun e w' => ∃ v', e = .returned v' ∧ CRow w' B v' (lastsM s) ∧ Below B w w' := by
  have HS0 := hid (LsS.start h)
  have hcap : s.length ≤ cap := HS0.out.sc
  have hcm : cap ≤ 9223372036854775807 := by have := HS0.out.cm; unfold maxLen at this; omega
  obtain ⟨n, hn⟩ : ∃ n, s.length = n := ⟨_, rfl⟩
  have HN := hid hn
  rw [hn] at hs hcap ⊢
  clear h hn
  have hOr := hid corder_ct
  go_enter Tryd.func74, Tryd.ntmps74
  go_wp2
  go_loopw [3, 10] (fun vo vi wr => ∃ (i : Nat) (out : List CT), i ≤ n ∧ vi = .int .i64 i ∧ vo = .slice (some ⟨g, 0, none⟩) out.length cap ∧ Hid (LsS wr g cap s out i) ∧ Hid (Below B w wr) ∧ Hid (lastsM s = out ++ lastsM (s.drop i))) (fun _ vi _ => n - (intOf vi).toNat)
  case atStart => exact ⟨0, [], Nat.zero_le _, rfl, rfl, HS0.out, Below.refl _ _, by unfold Hid; simp⟩
  case round =>
    obtain ⟨i, out, hi, rfl, rfl, HS, HB, HE⟩ := hrel
    obtain ⟨k, hk⟩ : ∃ k, out.length = k := ⟨_, rfl⟩
    have HK := hid hk
    rw [hk]
    have hki : k ≤ i := by rw [← hk]; exact HS.out.ko
    clear hk
    have hgr : g < wr.heap.size := Nat.lt_of_lt_of_le hgw HB.out.size
    by_cases hlt : i < n
    · have hin : i < s.length := by rw [HN.out]; exact hlt
      have hltz : (i : Int) < (n : Int) := by omega
      obtain ⟨c, hc⟩ : ∃ c, s[i] = c := ⟨_, rfl⟩
      have HC := hid hc
      have P : wr.cell? ⟨g, i * 8, none⟩ = some (.string c.r) ∧ wr.cell? ⟨g, i * 8 + 1, none⟩ = some (.string c.f) ∧ wr.cell? ⟨g, i * 8 + 2, none⟩ = some (.string c.q) ∧ wr.cell? ⟨g, i * 8 + 3, none⟩ = some (.int .i64 c.t) ∧ wr.cell? ⟨g, i * 8 + 4, none⟩ = some (.int .i64 c.k) ∧ wr.cell? ⟨g, i * 8 + 5, none⟩ = some (.int .i64 c.vk) ∧ wr.cell? ⟨g, i * 8 + 6, none⟩ = some (.int .i64 c.vn) ∧ wr.cell? ⟨g, i * 8 + 7, none⟩ = some (.string c.s) := by
        rw [← hc]
        exact ⟨HS.out.cell i 0 (Nat.le_refl _) hin (by omega), HS.out.cell i 1 (Nat.le_refl _) hin (by omega), HS.out.cell i 2 (Nat.le_refl _) hin (by omega), HS.out.cell i 3 (Nat.le_refl _) hin (by omega), HS.out.cell i 4 (Nat.le_refl _) hin (by omega), HS.out.cell i 5 (Nat.le_refl _) hin (by omega), HS.out.cell i 6 (Nat.le_refl _) hin (by omega), HS.out.cell i 7 (Nat.le_refl _) hin (by omega)⟩
      obtain ⟨p0, p1, p2, p3, p4, p5, p6, p7⟩ := P
      clear hc
      go_upto_region 5 with (fail)
      obtain ⟨bb, hbb⟩ : ∃ bb, wr.heap.size = bb := ⟨_, rfl⟩
      refine wp_ltc (fun W => Hid (Blk W bb 28 c.e.toArray ∧ Below wr.heap.size wr W ∧ bb = wr.heap.size) ∧ W.cell? ⟨bb, 0, none⟩ = some (.string c.r) ∧ W.cell? ⟨bb, 1, none⟩ = some (.string c.f) ∧ W.cell? ⟨bb, 2, none⟩ = some (.string c.q) ∧ W.cell? ⟨bb, 3, none⟩ = some (.int .i64 c.t) ∧ W.cell? ⟨bb, 4, none⟩ = some (.int .i64 c.k) ∧ W.cell? ⟨bb, 5, none⟩ = some (.int .i64 c.vk) ∧ W.cell? ⟨bb, 6, none⟩ = some (.int .i64 c.vn) ∧ W.cell? ⟨bb, 7, none⟩ = some (.string c.s)) (by rw [← hbb]; have hB := Blk.new wr 28 c.e.toArray; exact ⟨⟨hB, below_new _ _, rfl⟩, blk_words hB⟩) (fun W hW => ?_)
      rw [hbb]
      obtain ⟨HW, b0, b1, b2, b3, b4, b5, b6, b7⟩ := hW
      have HS2 : Hid (LsS W g cap s out i) := HS.out.keep HW.out.2.1
      have HB2 : Hid (Below B w W) := HB.out.trans (HW.out.2.1.mono (Nat.le_trans hB HB.out.size))
      have hbW : bb < W.heap.size := HW.out.1.lt
      have hgW : g < W.heap.size := Nat.lt_of_lt_of_le hgr HW.out.2.1.size
      have HBW : Hid (B ≤ W.heap.size) := by have := HB2.out.size; unfold Hid; omega
      have hgb : g < bb := by rw [← hbb]; exact hgr
      clear p0 p1 p2 p3 p4 p5 p6 p7 hbb HS HB hgr
      by_cases hlast : i + 1 = n
      · have hne : ((i : Int) + 1 == (n : Int)) = true := by simp; omega
        have HE2 : Hid (lastsM s = (out ++ [c]) ++ lastsM (s.drop (i + 1))) := by
          unfold Hid
          rw [HE.out, lasts_last hin (by rw [HN.out]; exact hlast), List.drop_of_length_le (by rw [HN.out]; omega), HC.out]
          show _ = (out ++ [c]) ++ []
          rw [List.append_nil]
        go_quiet (fail)
        obtain ⟨W2, hW2⟩ : ∃ W2, W.drewN nq = W2 := ⟨_, rfl⟩
        rw [hW2]
        have P : W2.cell? ⟨bb, 0, none⟩ = some (.string c.r) ∧ W2.cell? ⟨bb, 1, none⟩ = some (.string c.f) ∧ W2.cell? ⟨bb, 2, none⟩ = some (.string c.q) ∧ W2.cell? ⟨bb, 3, none⟩ = some (.int .i64 c.t) ∧ W2.cell? ⟨bb, 4, none⟩ = some (.int .i64 c.k) ∧ W2.cell? ⟨bb, 5, none⟩ = some (.int .i64 c.vk) ∧ W2.cell? ⟨bb, 6, none⟩ = some (.int .i64 c.vn) ∧ W2.cell? ⟨bb, 7, none⟩ = some (.string c.s) := by rw [← hW2]; exact ⟨b0, b1, b2, b3, b4, b5, b6, b7⟩
        have HX : Hid (LsS W2 g cap s out i ∧ Below B w W2 ∧ B ≤ W2.heap.size) := by
          rw [← hW2]
          exact ⟨HS2.out.keep (below_drewN (Below.refl _ _) _), below_drewN HB2.out _, HBW.out⟩
        clear b0 b1 b2 b3 b4 b5 b6 b7 hW2
        obtain ⟨b0, b1, b2, b3, b4, b5, b6, b7⟩ := P
        go_wp2_with (at_builtin; obtain ⟨cur, hcur, hcs, -, -⟩ := (HX.out.1.keep (below_new _ (.cells #[.string c.r, .string c.f, .string c.q, .int .i64 c.t, .int .i64 c.k, .int .i64 c.vk, .int .i64 c.vn, .string c.s] 28))).ex; refine wpList_append_room rfl (.tmp 30) (.tmp 32) rfl _ g k cap rfl cur hcur hcs _ 1 rfl c (ct_new c _ _) (by omega) ?_; intro w' cur' z1 z2 z3 z4)
        go_roundw
        case rel =>
          have hz := HX.out.2.2
          have hp := LsS.put (HX.out.1.keep (below_new _ _)) hin cur cur' hcur z1 z2 (fun t => by rw [HK.out, HC.out]; exact z3 t)
          rw [HC.out] at hp
          exact ⟨i + 1, out ++ [c], by omega, by go_num, by simp [HK.out], hp, (HX.out.2.1.alloc hz _).trans (z4 B hBg (by simp; omega)), HE2.out⟩
        case measure => simp [intOf]; omega
      · have hi1 : i + 1 < s.length := by rw [HN.out]; omega
        have hne : ((i : Int) + 1 == (n : Int)) = false := by simp; omega
        have hw1 : IntKind.i64.wrap ((i : Int) + 1) = (i : Int) + 1 := by rw [IntKind.wrap_i64]; omega
        have hw2 : ((i : Int) + 1).toNat = i + 1 := by omega
        have hw3 : (0 : Int) ≤ (i : Int) + 1 := by omega
        have hw4 : (i : Int) + 1 < (n : Int) := by omega
        obtain ⟨d, hd⟩ : ∃ d, s[i + 1] = d := ⟨_, rfl⟩
        have HT : Hid (TwoL W c bb d g ((i + 1) * 8) W) := by
          rw [← hd]
          exact ⟨hid ⟨Below.refl _ _, hbW, hgW⟩, b0, b1, b2, b3, b4, b5, b6, b7, HS2.out.cell (i + 1) 0 (by omega) hi1 (by omega), HS2.out.cell (i + 1) 1 (by omega) hi1 (by omega), HS2.out.cell (i + 1) 2 (by omega) hi1 (by omega), HS2.out.cell (i + 1) 3 (by omega) hi1 (by omega), HS2.out.cell (i + 1) 4 (by omega) hi1 (by omega), HS2.out.cell (i + 1) 5 (by omega) hi1 (by omega), HS2.out.cell (i + 1) 6 (by omega) hi1 (by omega), HS2.out.cell (i + 1) 7 (by omega) hi1 (by omega)⟩
        have HE2 : Hid (lastsM s = out ++ (if CT.cmp c d = 0 then lastsM (s.drop (i + 1)) else c :: lastsM (s.drop (i + 1)))) := by
          unfold Hid
          rw [HE.out, lasts_two hi1, HC.out, hd]
        have hOd : Hid (∀ W', Calls Tryd.prog 56 #[c.v, d.v] W' fun e w' => e = .returned (.int .i64 (CT.cmp c d)) ∧ Below W'.heap.size W' w') := fun W' => hOr.out c d W'
        obtain ⟨o, ho⟩ : ∃ o, CT.cmp c d = o := ⟨_, rfl⟩
        rw [ho] at HE2 hOd
        clear hd ho b0 b1 b2 b3 b4 b5 b6 b7
        obtain ⟨h0, b0, b1, b2, b3, b4, b5, b6, b7, d0, d1, d2, d3, d4, d5, d6, d7⟩ := HT.out
        go_region_held3 (fun W' => Hid (Below W.heap.size W W' ∧ bb < W.heap.size ∧ g < W.heap.size) ∧ W'.cell? ⟨bb, 0, none⟩ = some (.string c.r) ∧ W'.cell? ⟨bb, 1, none⟩ = some (.string c.f) ∧ W'.cell? ⟨bb, 2, none⟩ = some (.string c.q) ∧ W'.cell? ⟨bb, 3, none⟩ = some (.int .i64 c.t) ∧ W'.cell? ⟨bb, 4, none⟩ = some (.int .i64 c.k) ∧ W'.cell? ⟨bb, 5, none⟩ = some (.int .i64 c.vk) ∧ W'.cell? ⟨bb, 6, none⟩ = some (.int .i64 c.vn) ∧ W'.cell? ⟨bb, 7, none⟩ = some (.string c.s) ∧ W'.cell? ⟨g, (i + 1) * 8, none⟩ = some (.string d.r) ∧ W'.cell? ⟨g, (i + 1) * 8 + 1, none⟩ = some (.string d.f) ∧ W'.cell? ⟨g, (i + 1) * 8 + 2, none⟩ = some (.string d.q) ∧ W'.cell? ⟨g, (i + 1) * 8 + 3, none⟩ = some (.int .i64 d.t) ∧ W'.cell? ⟨g, (i + 1) * 8 + 4, none⟩ = some (.int .i64 d.k) ∧ W'.cell? ⟨g, (i + 1) * 8 + 5, none⟩ = some (.int .i64 d.vk) ∧ W'.cell? ⟨g, (i + 1) * 8 + 6, none⟩ = some (.int .i64 d.vn) ∧ W'.cell? ⟨g, (i + 1) * 8 + 7, none⟩ = some (.string d.s))
          (first | exact HT.out | exact twol_drew HT.out | exact twol_call (by assumption) hb5 | exact twol_drew (by assumption) | assumption)
          (first | (go_at_call 56; refine (hOd.out _).mono ?_; rintro e w5 ⟨rfl, hb5⟩))
        rename_i hLast
        have HX : Hid (LsS w5 g cap s out i ∧ Below B w w5 ∧ B ≤ w5.heap.size) := by
          have hb := hLast.1.out.1
          exact ⟨HS2.out.keep hb, HB2.out.trans (hb.mono HBW.out), Nat.le_trans HBW.out hb.size⟩
        clear b0 b1 b2 b3 b4 b5 b6 b7 d0 d1 d2 d3 d4 d5 d6 d7 h0 HT
        obtain ⟨-, b0, b1, b2, b3, b4, b5, b6, b7, -, -, -, -, -, -, -, -⟩ := hLast
        by_cases ho : o = 0
        · have q0 : (o != 0) = false := by simpa using ho
          have HE3 : Hid (lastsM s = out ++ lastsM (s.drop (i + 1))) := by
            have := HE2.out
            rwa [if_pos ho] at this
          clear ho
          go_wp2
          go_roundw
          case rel => exact ⟨i + 1, out, by omega, by go_num, by rw [HK.out], HX.out.1.skip, HX.out.2.1, HE3.out⟩
          case measure => simp [intOf]; omega
        · have q0 : (o != 0) = true := by simpa using ho
          have HE3 : Hid (lastsM s = (out ++ [c]) ++ lastsM (s.drop (i + 1))) := by
            have := HE2.out
            rw [if_neg ho] at this
            unfold Hid
            rw [this, List.append_assoc]
            rfl
          clear ho
          go_wp2_with (at_builtin; obtain ⟨cur, hcur, hcs, -, -⟩ := (HX.out.1.keep (below_new _ (.cells #[.string c.r, .string c.f, .string c.q, .int .i64 c.t, .int .i64 c.k, .int .i64 c.vk, .int .i64 c.vn, .string c.s] 28))).ex; refine wpList_append_room rfl (.tmp 30) (.tmp 32) rfl _ g k cap rfl cur hcur hcs _ 1 rfl c (ct_new c _ _) (by omega) ?_; intro w' cur' z1 z2 z3 z4)
          go_roundw
          case rel =>
            have hz := HX.out.2.2
            have hp := LsS.put (HX.out.1.keep (below_new _ _)) hin cur cur' hcur z1 z2 (fun t => by rw [HK.out, HC.out]; exact z3 t)
            rw [HC.out] at hp
            exact ⟨i + 1, out ++ [c], by omega, by go_num, by simp [HK.out], hp, (HX.out.2.1.alloc hz _).trans (z4 B hBg (by simp; omega)), HE3.out⟩
          case measure => simp [intOf]; omega
    · obtain rfl : i = n := by omega
      go_wp2
      go_ret
      have e := HE.out
      rw [← HN.out, List.drop_length] at e
      rw [e, show out ++ lastsM [] = out from List.append_nil _, ← HK.out]
      exact ⟨_, rfl, HS.out.row (by rw [HN.out]; exact Nat.le_refl _) hBg, HB.out⟩
end Go.Proofs.YtdjaofbjmnmlbaaDoor
