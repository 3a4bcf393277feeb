/- Several texts in one: IE JBa CW CX IF IG KB KE KFa KF. Conditions: as each theorem names them. -/
import Derived.Test.YtdjaofbjmnmlbaaDoorMEAIC
import Derived.Test.YtdjaofbjmnmlbaaDoorMKDJA
import Derived.Deep.QuietTactic
import Derived.Test.YtdjaofbjmnmlbaaDoorFK
import Derived.Lib.SmallJoins
import Derived.Test.YtdjaofbjmnmlbaaDoorVLa
import Derived.Test.YtdjaofbjmnmlbaaDoorFN
import Derived.Test.YtdjaofbjmnmlbaaDoorShelf
import Derived.Test.YtdjaofbjmnmlbaaDoorCards
import Derived.Test.YtdjaofbjmnmlbaaDoorTie
import Derived.WalkKit
import Derived.ProofKit
import Derived.OpenShut
import Derived.LaidLaws
import Derived.Deep.DeepHandedRow
import Derived.Lib.LaidTab
import Derived.Lib.LaidU8T
import Derived.Test.YtdjaofbjmnmlbaaDoorHA
import Derived.Test.YtdjaofbjmnmlbaaDoorMKARF
/- The statement of layer 6: no column has more than so many versions to be seen. Conditions: the arguments stand, their numbers are of 64 bits; the tables of utf8 read as they are laid. -/
namespace Go.Proofs.YtdjaofbjmnmlbaaDoor
open Go.RowKit

set_option maxHeartbeats 1000000 in
theorem long_any (v : Value) (l : List CT) (w : World) (h : ClA w v l) :
    Calls Tryd.prog 24 #[v] w fun e w' => e = .returned (.bool (longC l)) ∧ Below w.heap.size w w' := by
  have HL := hid (longcells_any v l w h)
  clear h
  go_enter Tryd.func24, Tryd.ntmps24
  go_wp2_with (go_at_call 33; refine HL.out.mono ?_; rintro e w5 ⟨rfl, hb5⟩)
  go_ret
  exact ⟨rfl, hb5⟩
theorem longC_ok {l : List CT} (h : longC l = false) (hv : ∀ c ∈ l, inI c.vn) : l.length ≤ 100000 ∧ ∀ c ∈ l, okC c := by
  unfold longC at h
  rw [Bool.or_eq_false_iff] at h
  obtain ⟨h1, h2⟩ := h
  have h1 := of_decide_eq_false h1
  refine ⟨by omega, fun c hc => ?_⟩
  have h3 : longC1 c = false := by
    cases e : longC1 c with
    | false => rfl
    | true =>
      rw [List.any_eq_true.2 ⟨c, hc, e⟩] at h2
      cases h2
  unfold longC1 at h3
  simp only [Bool.or_eq_false_iff, decide_eq_false_iff_not] at h3
  exact ⟨by omega, by omega, hv c hc⟩

set_option maxHeartbeats 4000000 in
set_option maxRecDepth 100000 in
theorem cellfew_any (v : Value) (l : List CT) (ver life now : Int) (w : World) (h : ClA w v l) (hv : ∀ c ∈ l, inI c.vn) (hL : LaidU w) :
    Calls Tryd.prog 6 #[v, .int .i64 ver, .int .i64 life, .int .i64 now] w fun e w' => e = .returned (.bool true) ∧ Below w.heap.size w w' := by
  have mixed : Tryd.prog.follows .mixedOrders = true := by kernel_rfl
  have HA := hid (alive_any w hL)
  have HLg : Hid (∀ W, Below w.heap.size w W → Calls Tryd.prog 24 #[v] W fun e w' => e = .returned (.bool (longC l)) ∧ Below W.heap.size W w') := fun W hb => long_any v l W (h.below hb)
  cases hg : longC l with
  | true =>
    rw [hg] at HLg
    clear h hv hL hg
    go_enter Tryd.func6, Tryd.ntmps6
    go_wp2_with (first | (go_at_call 23; refine HA.out.mono ?_; rintro e w5 ⟨rfl, hb5⟩) | (go_at_call 24; refine (HLg.out _ hb5).mono ?_; rintro e w6 ⟨rfl, hb6⟩))
    go_ret
    exact ⟨rfl, hb5.trans (hb6.mono hb5.size)⟩
  | false =>
    rw [hg] at HLg
    have HS : Hid (∀ W, Below w.heap.size w W → Calls Tryd.prog 30 #[v, .int .i64 ver, .int .i64 life, .int .i64 now] W fun e w' => ∃ v' u, e = .returned v' ∧ CRow w' W.heap.size v' u ∧ Hid (fewM ver none 0 u = true ∧ u.length ≤ 100000) ∧ Below W.heap.size W w') := fun W hb => (cseen_any v l (longC_ok hg hv).1 ver life now W (h.below hb) (longC_ok hg hv).2 (hL.below hb)).mono fun _ _ ⟨v', s, h1, h2, h3, h4⟩ => ⟨v', _, h1, h3, ⟨few_all h2 ver life now, Nat.le_trans (seenL_len ver life now s) (Nat.le_trans h2.len (longC_ok hg hv).1)⟩, h4⟩
    clear h hv hL hg
    go_enter Tryd.func6, Tryd.ntmps6
    go_wp2_with (first | (go_at_call 23; refine HA.out.mono ?_; rintro e w5 ⟨rfl, hb5⟩) | (go_at_call 24; refine (HLg.out _ hb5).mono ?_; rintro e w6 ⟨rfl, hb6⟩) | (go_at_call 30; refine (HS.out _ (hb5.trans (hb6.mono hb5.size))).mono ?_; rintro e w7 ⟨v7, u, rfl, hr7, hF, hb7⟩; have K7 := hid hr7.cla; have BW := hid ((hb5.trans (hb6.mono hb5.size)).trans (hb7.mono (Nat.le_trans hb5.size hb6.size))); clear hr7; obtain ⟨A7, c7, rfl, hc7, hm7, hh7⟩ := K7.out; have HH := hid hh7; clear hh7 K7; obtain ⟨m, hm⟩ : ∃ m, u.length = m := ⟨_, rfl⟩; have HM := hid hm; rw [hm] at hc7 ⊢; clear hm))
    all_goals first
      | (go_ret; exact ⟨rfl, hb5.trans (hb6.mono hb5.size)⟩)
      | skip
    have hmL : m ≤ 100000 := by rw [← HM.out]; exact hF.out.2
    clear HA HLg HS
    go_loopw [10, 11] (fun vn vi wr => Hid (Below w7.heap.size w7 wr) ∧ ∃ (i : Nat) (n : Int) (p : Option CT), i ≤ m ∧ vn = .int .i64 n ∧ vi = .int .i64 i ∧ Hid (fewM ver p n (u.drop i) = true) ∧ ((i = 0 ∧ p = none) ∨ ∃ j, i = j + 1 ∧ Hid (∀ h : j < u.length, p = some u[j]))) (fun _ vi _ => m - (intOf vi).toNat)
    case atStart => exact ⟨Below.refl _ _, 0, 0, none, Nat.zero_le _, rfl, rfl, hF.out.1, .inl ⟨rfl, rfl⟩⟩
    case round =>
      obtain ⟨HB, i, n, p, hi, rfl, rfl, HF, hp⟩ := hrel
      by_cases hlt : i < m
      · have him : i < u.length := by rw [HM.out]; exact hlt
        obtain ⟨b, off, rfl, hhc⟩ := HH.out (by rw [HM.out]; omega)
        have hbw : b < w7.heap.size := hhc.lt (by omega)
        obtain ⟨c, hc⟩ : ∃ c, u[i] = c := ⟨_, rfl⟩
        have P : wr.cell? ⟨b, off + i * 8, none⟩ = some (.string c.r) ∧ wr.cell? ⟨b, off + i * 8 + 1, none⟩ = some (.string c.f) ∧ wr.cell? ⟨b, off + i * 8 + 2, none⟩ = some (.string c.q) ∧ wr.cell? ⟨b, off + i * 8 + 3, none⟩ = some (.int .i64 c.t) ∧ wr.cell? ⟨b, off + i * 8 + 4, none⟩ = some (.int .i64 c.k) ∧ wr.cell? ⟨b, off + i * 8 + 5, none⟩ = some (.int .i64 c.vk) ∧ wr.cell? ⟨b, off + i * 8 + 6, none⟩ = some (.int .i64 c.vn) ∧ wr.cell? ⟨b, off + i * 8 + 7, none⟩ = some (.string c.s) := by
          rw [← hc]
          exact (hhc.below HB.out hbw).words i him
        have HF0 : Hid (fewM ver p n (c :: u.drop (i + 1)) = true) := by
          unfold Hid
          rw [← hc, ← List.drop_eq_getElem_cons him]
          exact HF.out
        have hk : c.k = 1 := by
          false_or_by_contra
          rename_i q
          have := HF0.out
          unfold fewM at this
          rw [if_pos q] at this
          cases this
        have hk1 : (c.k != 1) = false := by simpa using hk
        rcases hp with ⟨rfl, rfl⟩ | ⟨j, rfl, hpj⟩
        · have HF2 : Hid (¬ ver < 1 ∧ fewM ver (some c) 1 (u.drop 1) = true) := by
            have hF := HF0.out
            unfold fewM at hF
            rw [if_neg (by omega)] at hF
            simp only at hF
            by_cases hv1 : ver < 1
            · rw [if_pos hv1] at hF; cases hF
            · rw [if_neg hv1] at hF; exact ⟨hv1, hF⟩
          have hv1 : ¬ ver < 1 := HF2.out.1
          have HCc : Hid (∀ h : 0 < u.length, some c = some u[0]) := fun h => by rw [hc]
          have hltz : (0 : Int) < (m : Int) := by omega
          rw [Nat.zero_mul, Nat.add_zero] at P
          obtain ⟨p0, p1, p2, p3, p4, p5, p6, p7⟩ := P
          clear hc hhc HF0 HF hk
          go_upto_region 12 with (fail)
          go_quiet (fail)
          go_wp2
          go_roundw
          case rel => exact ⟨Go.below_drewN HB.out _, 1, 1, some c, by omega, rfl, by go_num, HF2.out.2, .inr ⟨0, rfl, HCc.out⟩⟩
          case measure => simp [intOf]; omega
        · have hju : j < u.length := by omega
          obtain ⟨d, hd⟩ : ∃ d, u[j] = d := ⟨_, rfl⟩
          have hpd := hpj.out hju
          rw [hd] at hpd
          subst hpd
          have Pd : wr.cell? ⟨b, off + j * 8, none⟩ = some (.string d.r) ∧ wr.cell? ⟨b, off + j * 8 + 1, none⟩ = some (.string d.f) ∧ wr.cell? ⟨b, off + j * 8 + 2, none⟩ = some (.string d.q) ∧ wr.cell? ⟨b, off + j * 8 + 3, none⟩ = some (.int .i64 d.t) ∧ wr.cell? ⟨b, off + j * 8 + 4, none⟩ = some (.int .i64 d.k) ∧ wr.cell? ⟨b, off + j * 8 + 5, none⟩ = some (.int .i64 d.vk) ∧ wr.cell? ⟨b, off + j * 8 + 6, none⟩ = some (.int .i64 d.vn) ∧ wr.cell? ⟨b, off + j * 8 + 7, none⟩ = some (.string d.s) := by
            rw [← hd]
            exact (hhc.below HB.out hbw).words j hju
          have HCc : Hid (∀ h : j + 1 < u.length, some c = some u[j + 1]) := fun h => by rw [hc]
          have HF : Hid ((if colC c d then (if d.t ≤ c.t then false else if ver < IntKind.i64.wrap (n + 1) then false else fewM ver (some c) (IntKind.i64.wrap (n + 1)) (u.drop (j + 1 + 1))) else if ver < 1 then false else fewM ver (some c) 1 (u.drop (j + 1 + 1))) = true) := by
            have hF := HF0.out
            unfold fewM at hF
            rw [if_neg (by omega)] at hF
            exact hF
          have hltz : (j : Int) + 1 < (m : Int) := by omega
          have hltp : (0 : Int) < (j : Int) + 1 := by omega
          have hge : (0 : Int) ≤ (j : Int) + 1 := by omega
          have htn : ((j : Int) + 1).toNat = j + 1 := by omega
          have hwj : IntKind.i64.wrap (j : Int) = (j : Int) := by rw [IntKind.wrap_i64]; omega
          have hwj1 : IntKind.i64.wrap ((j : Int) + 1 - 1) = (j : Int) := by rw [IntKind.wrap_i64]; omega
          have hjm : (j : Int) < (m : Int) := by omega
          obtain ⟨p0, p1, p2, p3, p4, p5, p6, p7⟩ := P
          obtain ⟨d0, d1, d2, d3, d4, d5, d6, d7⟩ := Pd
          clear hc hhc HF0 hk hd hpj
          by_cases h1 : c.r = d.r
          · have q1 : (c.r.toList == d.r.toList) = true := by rw [h1]; simp
            by_cases h2 : c.f = d.f
            · have q2 : (c.f.toList == d.f.toList) = true := by rw [h2]; simp
              by_cases h3 : c.q = d.q
              · have q3 : (c.q.toList == d.q.toList) = true := by rw [h3]; simp
                obtain ⟨x, hx⟩ : ∃ x, IntKind.i64.wrap (n + 1) = x := ⟨_, rfl⟩
                have HF2 : Hid (¬ d.t ≤ c.t ∧ ¬ ver < x ∧ fewM ver (some c) x (u.drop (j + 1 + 1)) = true) := by
                  have hF := HF.out
                  rw [if_pos ⟨h1, h2, h3⟩, hx] at hF
                  by_cases a1 : d.t ≤ c.t
                  · rw [if_pos a1] at hF; cases hF
                  · rw [if_neg a1] at hF
                    by_cases a2 : ver < x
                    · rw [if_pos a2] at hF; cases hF
                    · rw [if_neg a2] at hF; exact ⟨a1, a2, hF⟩
                have a1 : ¬ d.t ≤ c.t := HF2.out.1
                have a2 : ¬ ver < x := HF2.out.2.1
                clear h1 h2 h3
                go_upto_region 12 with (fail)
                go_quiet (fail)
                go_upto_region 14 with (fail)
                go_quiet (fail)
                go_wp2
                go_roundw
                case rel => exact ⟨Go.below_drewN HB.out _, j + 1 + 1, x, some c, by omega, rfl, by go_num, HF2.out.2.2, .inr ⟨j + 1, rfl, HCc.out⟩⟩
                case measure => simp [intOf]; omega
              · have q3 : (c.q.toList == d.q.toList) = false := ba_ne h3
                have HF2 : Hid (¬ ver < 1 ∧ fewM ver (some c) 1 (u.drop (j + 1 + 1)) = true) := by
                  have hF := HF.out
                  rw [if_neg (fun h => h3 h.2.2)] at hF
                  by_cases hv1 : ver < 1
                  · rw [if_pos hv1] at hF; cases hF
                  · rw [if_neg hv1] at hF; exact ⟨hv1, hF⟩
                have hv1 : ¬ ver < 1 := HF2.out.1
                clear h1 h2 h3
                go_upto_region 12 with (fail)
                go_quiet (fail)
                go_wp2
                go_roundw
                case rel => exact ⟨Go.below_drewN HB.out _, j + 1 + 1, 1, some c, by omega, rfl, by go_num, HF2.out.2, .inr ⟨j + 1, rfl, HCc.out⟩⟩
                case measure => simp [intOf]; omega
            · have q2 : (c.f.toList == d.f.toList) = false := ba_ne h2
              have HF2 : Hid (¬ ver < 1 ∧ fewM ver (some c) 1 (u.drop (j + 1 + 1)) = true) := by
                have hF := HF.out
                rw [if_neg (fun h => h2 h.2.1)] at hF
                by_cases hv1 : ver < 1
                · rw [if_pos hv1] at hF; cases hF
                · rw [if_neg hv1] at hF; exact ⟨hv1, hF⟩
              have hv1 : ¬ ver < 1 := HF2.out.1
              clear h1 h2
              go_upto_region 12 with (fail)
              go_quiet (fail)
              go_wp2
              go_roundw
              case rel => exact ⟨Go.below_drewN HB.out _, j + 1 + 1, 1, some c, by omega, rfl, by go_num, HF2.out.2, .inr ⟨j + 1, rfl, HCc.out⟩⟩
              case measure => simp [intOf]; omega
          · have q1 : (c.r.toList == d.r.toList) = false := ba_ne h1
            have HF2 : Hid (¬ ver < 1 ∧ fewM ver (some c) 1 (u.drop (j + 1 + 1)) = true) := by
              have hF := HF.out
              rw [if_neg (fun h => h1 h.1)] at hF
              by_cases hv1 : ver < 1
              · rw [if_pos hv1] at hF; cases hF
              · rw [if_neg hv1] at hF; exact ⟨hv1, hF⟩
            have hv1 : ¬ ver < 1 := HF2.out.1
            clear h1
            go_upto_region 12 with (fail)
            go_quiet (fail)
            go_wp2
            go_roundw
            case rel => exact ⟨Go.below_drewN HB.out _, j + 1 + 1, 1, some c, by omega, rfl, by go_num, HF2.out.2, .inr ⟨j + 1, rfl, HCc.out⟩⟩
            case measure => simp [intOf]; omega
      · obtain rfl : i = m := by omega
        go_wp2
        go_ret
        exact ⟨rfl, BW.out.trans (HB.out.mono BW.out.size)⟩
end Go.Proofs.YtdjaofbjmnmlbaaDoor

/- Cells can be told apart; texts that differ, as bytes. Conditions: as each theorem names them. -/
namespace Go.Proofs.YtdjaofbjmnmlbaaDoor
open Go.RowKit

deriving instance DecidableEq for CT
theorem ba_ne2 {x y : ByteArray} (h : x ≠ y) : ¬ x.toList = y.toList := fun e => by
  have := ba_ne h
  rw [e] at this
  simp at this
end Go.Proofs.YtdjaofbjmnmlbaaDoor

/- A cell of a law's, opened and shut. Conditions: none. -/
namespace Go.Proofs.YtdjaofbjmnmlbaaDoor
open Go.ChangeShapes Go.WideShapes Go.ChangeAt Go.RowKit Go.Joins

theorem cellsC : Tryd.prog.cellsOf 28 = 8 := by kernel_rfl
theorem cellsV3 : Tryd.prog.cellsOf 26 = 3 := by kernel_rfl
theorem cellsS1 : Tryd.prog.cellsOf 9 = 1 := by kernel_rfl
theorem cellsI1 : Tryd.prog.cellsOf 3 = 1 := by kernel_rfl
theorem array8 {α : Type} {cs : Array α} (h : cs.size = 8) : ∃ c0 c1 c2 c3 c4 c5 c6 c7, cs = #[c0, c1, c2, c3, c4, c5, c6, c7] := by
  obtain ⟨l⟩ := cs
  match l, h with
  | [c0, c1, c2, c3, c4, c5, c6, c7], _ => exact ⟨c0, c1, c2, c3, c4, c5, c6, c7, rfl⟩
section
variable {H : Type} {enc : TypeId × Value → H} {W : World} {sp : Nat → Bool}
set_option maxRecDepth 100000 in
/-- A cell that came in, opened. -/
theorem open_cell {r : Reach} {b0 b1 : Nat} {v : Value} {d : DataW H} {p : List MemPlace} (hv : Value.okWide Tryd.prog W r b0 28 v) (h : DataW.Trod enc Tryd.prog W b1 sp true 28 v d p) :
    ∃ (r f q : ByteArray) (t k vk vn : Int) (s : ByteArray), v = .agg #[.string r, .string f, .string q, .int .i64 t, .int .i64 k, .int .i64 vk, .int .i64 vn, .string s] ∧
      d = .agg [.lit (.string r.data.toList), .lit (.string f.data.toList), .lit (.string q.data.toList), .lit (.int .i64 t), .lit (.int .i64 k), .agg [.lit (.int .i64 vk), .lit (.int .i64 vn), .lit (.string s.data.toList)]] ∧ p = [] ∧
      r.size ≤ maxLen ∧ f.size ≤ maxLen ∧ q.size ≤ maxLen ∧ (Lit.int .i64 t).wf = true ∧ (Lit.int .i64 k).wf = true ∧ (Lit.int .i64 vk).wf = true ∧ (Lit.int .i64 vn).wf = true ∧ s.size ≤ maxLen := by
  obtain ⟨cs, rfl, hsz⟩ := okWide_struct Tryd.underlying28 hv
  obtain ⟨c0, c1, c2, c3, c4, c5, c6, c7, rfl⟩ := array8 (hsz.trans cellsC)
  obtain ⟨fuel, hf⟩ := h
  obtain ⟨xs, n, _, hx, _, hlen, hg⟩ := DataW.trod_struct Tryd.underlying28 hf
  match xs, hlen with
  | [y0, y1, y2, y3, y4, y5], _ =>
    have h0 := hg 0 _ rfl
    have h1 := hg 1 _ rfl
    have h2 := hg 2 _ rfl
    have h3 := hg 3 _ rfl
    have h4 := hg 4 _ rfl
    have h5 := hg 5 _ rfl
    simp [Value.cells, cellsS1, cellsI1, cellsV3] at h0 h1 h2 h3 h4 h5
    obtain ⟨r, e0, z0, w0⟩ := DataW.trod_string Tryd.underlying9 h0
    obtain ⟨f, e1, z1, w1⟩ := DataW.trod_string Tryd.underlying9 h1
    obtain ⟨q, e2, z2, w2⟩ := DataW.trod_string Tryd.underlying9 h2
    obtain ⟨t, e3, z3, w3⟩ := DataW.trod_int Tryd.underlying3 h3
    obtain ⟨k, e4, z4, w4⟩ := DataW.trod_int Tryd.underlying3 h4
    obtain ⟨ys, n', _, hx', _, hlen', hg'⟩ := DataW.trod_struct Tryd.underlying26 h5
    match ys, hlen' with
    | [u0, u1, u2], _ =>
      have g0 := hg' 0 _ rfl
      have g1 := hg' 1 _ rfl
      have g2 := hg' 2 _ rfl
      simp [cellsS1, cellsI1] at g0 g1 g2
      obtain ⟨vk, e5, z5, w5⟩ := DataW.trod_int Tryd.underlying3 g0
      obtain ⟨vn, e6, z6, w6⟩ := DataW.trod_int Tryd.underlying3 g1
      obtain ⟨s, e7, z7, w7⟩ := DataW.trod_string Tryd.underlying9 g2
      simp at e0 e1 e2 e3 e4 e5 e6 e7
      subst e0 e1 e2 e3 e4 e5 e6 e7
      simp only [Prod.mk.injEq] at hx hx'
      exact ⟨r, f, q, t, k, vk, vn, s, rfl, by simp_all, by simp_all, w0, w1, w2, w3, w4, w5, w6, w7⟩
end
end Go.Proofs.YtdjaofbjmnmlbaaDoor

/- A world in which the listed variables of layer 3's laws are laid, for the witness; what they give; a cell of the law's, shut. -/
namespace Go.Proofs.YtdjaofbjmnmlbaaDoor
open Go.ChangeShapes Go.WideShapes Go.ChangeAt Go.RowKit Go.Joins

theorem seat_own : ownKnob Tryd.prog.godebug = none := by kernel_rfl
theorem laid_out : laidOutB Tryd.prog = true := by kernel_rfl
def seatLaid5 : List (String × DataW Unit) := [("unicode/utf8.acceptRanges", Rows.laid_unicode_utf8_acceptRanges), ("bytes.ErrTooLarge", Rows.laid_bytes_ErrTooLarge), ("unicode/utf8.first", Rows.laid_unicode_utf8_first)]
theorem seat_met5 {W : World} (h : laidMetH Tryd.prog seatLaid5 W) : laidMet Tryd.prog seatLaid5 W := h
theorem accept_is : (Rows.laid_unicode_utf8_acceptRanges : DataW Unit) = Lib.acceptData := by kernel_rfl
theorem first_is : (Rows.laid_unicode_utf8_first : DataW Unit) = Lib.firstData := by kernel_rfl
theorem u8extra : U8Extra Tryd.prog Tryd.lays196_ren where
  n3 := by kernel_rfl
  n4 := by kernel_rfl
  y3 := by kernel_rfl
  y4 := by kernel_rfl
  c5 := by kernel_rfl
  c119 := by kernel_rfl
  c138 := by kernel_rfl
theorem laid_u {W : World} (h : laidMet Tryd.prog seatLaid5 W) : LaidU W := ⟨by
    have h3 := Lib.laidMet.reads h (n := "unicode/utf8.first") (d := Rows.laid_unicode_utf8_first) (by simp [seatLaid5])
    have h4 := Lib.laidMet.reads h (n := "unicode/utf8.acceptRanges") (d := Rows.laid_unicode_utf8_acceptRanges) (by simp [seatLaid5])
    rw [first_is] at h3
    rw [accept_is] at h4
    exact utf8Tabs_of_readsT (U8Types.of196 Tryd.lays196) u8extra h3 h4⟩

/-- A world for the witness: the settled one, one block more for the error's text, the listed variables holding what their initialisers lay. -/
noncomputable def laidWorld5 (os : Os) : World :=
  let w0 := World.holding Tryd.prog os ⟨#[.cells #[.string ⟨#[98, 121, 116, 101, 115, 46, 66, 117, 102, 102, 101, 114, 58, 32, 116, 111, 111, 32, 108, 97, 114, 103, 101]⟩] 222], #[], []⟩
  { w0 with heap := ((w0.heap.modify 1 fun
      | .cells _ t frozen => .cells #[.iface 208 (.pointer (some ⟨(World.settled Tryd.prog os).heap.size, 0, none⟩))] t frozen
      | o => o).modify 3 fun
      | .cells _ t frozen => .cells ((List.range 16).flatMap fun i => [Value.int .u8 (Lib.accLo i), Value.int .u8 (Lib.accHi i)]).toArray t frozen
      | o => o).modify 2 fun
      | .cells _ t frozen => .cells (Lib.firstTab.map fun z => Value.int .u8 z).toArray t frozen
      | o => o }
set_option maxRecDepth 1000000 in
theorem laid_met5 (os : Os) (args : Array Value) : laidMet Tryd.prog seatLaid5 ((laidWorld5 os).forCall (fun _ _ => 0) ⟨#[], args, []⟩).memory :=
  laidMet_of_run' 8 (by kernel_rfl) (by kernel_rfl)
theorem inI_of_wf {n : Int} (h : (Lit.int .i64 n).wf = true) : inI n := by
  unfold inI
  simp [Lit.wf] at h
  have h1 : IntKind.i64.min = -9223372036854775808 := rfl
  have h2 : IntKind.i64.max = 9223372036854775807 := rfl
  omega
theorem size_of {n : Nat} (h : n ≤ maxLen) : n ≤ 9223372036854775807 := by unfold maxLen at h; omega

section
variable {H : Type} {enc : TypeId × Value → H} {W : World} {sp : Nat → Bool}
set_option maxRecDepth 100000 in
/-- A cell that came in, shut. -/
theorem shut_cell (r f q : ByteArray) (t k vk vn : Int) (s : ByteArray) (w0 : r.size ≤ maxLen) (w1 : f.size ≤ maxLen) (w2 : q.size ≤ maxLen) (w3 : (Lit.int .i64 t).wf = true) (w4 : (Lit.int .i64 k).wf = true) (w5 : (Lit.int .i64 vk).wf = true) (w6 : (Lit.int .i64 vn).wf = true) (w7 : s.size ≤ maxLen) (b1 : Nat) :
    DataW.Trod enc Tryd.prog W b1 sp true 28 (.agg #[.string r, .string f, .string q, .int .i64 t, .int .i64 k, .int .i64 vk, .int .i64 vn, .string s]) (.agg [.lit (.string r.data.toList), .lit (.string f.data.toList), .lit (.string q.data.toList), .lit (.int .i64 t), .lit (.int .i64 k), .agg [.lit (.int .i64 vk), .lit (.int .i64 vn), .lit (.string s.data.toList)]]) [] := by
  have hv : DataW.trod enc Tryd.prog W b1 sp true 2 26 [.int .i64 vk, .int .i64 vn, .string s] = some (.agg [.lit (.int .i64 vk), .lit (.int .i64 vn), .lit (.string s.data.toList)], []) := by
    have := trod_struct_mk (enc := enc) (w := W) (base := b1) (spare := sp) (held := true) (n := 1) (cs := [.int .i64 vk, .int .i64 vn, .string s]) (xs := [(.lit (.int .i64 vk), []), (.lit (.int .i64 vn), []), (.lit (.string s.data.toList), [])]) Tryd.underlying26 (by simp [cellsV3]) (by simp [DataW.trod, Tryd.underlying3, Tryd.underlying9, cellsS1, cellsI1, w5, w6, w7])
    simpa using this
  have := trod_struct_mk (enc := enc) (w := W) (base := b1) (spare := sp) (held := true) (n := 2) (cs := [.string r, .string f, .string q, .int .i64 t, .int .i64 k, .int .i64 vk, .int .i64 vn, .string s]) (xs := [(.lit (.string r.data.toList), []), (.lit (.string f.data.toList), []), (.lit (.string q.data.toList), []), (.lit (.int .i64 t), []), (.lit (.int .i64 k), []), (.agg [.lit (.int .i64 vk), .lit (.int .i64 vn), .lit (.string s.data.toList)], [])]) Tryd.underlying28 (by simp [cellsC]) (by
      simp [cellsS1, cellsI1, cellsV3, hv]
      simp [DataW.trod, Tryd.underlying3, Tryd.underlying9, w0, w1, w2, w3, w4])
  exact ⟨3, by simpa [Value.cells] using this⟩
end
end Go.Proofs.YtdjaofbjmnmlbaaDoor

/- Lists of cells that came in, opened. Conditions: the reading's own reach. -/
namespace Go.Proofs.YtdjaofbjmnmlbaaDoor
open Go.ChangeShapes Go.WideShapes Go.ChangeAt Go.RowKit Go.Joins

theorem inI_of_wf2 {n : Int} (h : (Lit.int .i64 n).wf = true) : inI n := by
  unfold inI
  simp [Lit.wf] at h
  have h1 : IntKind.i64.min = -9223372036854775808 := rfl
  have h2 : IntKind.i64.max = 9223372036854775807 := rfl
  omega

section
variable {H : Type} {enc : TypeId × Value → H} {W : World} {sp : Nat → Bool}
set_option maxRecDepth 100000 in
/-- Eight words that read as a cell are one. -/
theorem cell_words {b1 fuel : Nat} {cs : List Value} {x : DataW H × List MemPlace} (hl : cs.length = 8) (hf : DataW.trod enc Tryd.prog W b1 sp true fuel 28 cs = some x) : ∃ c : CT, cs = c.e ∧ inI c.vn := by
  match cs, hl with
  | [c0, c1, c2, c3, c4, c5, c6, c7], _ =>
    obtain ⟨xs, n, _, hx, _, hlen, hg⟩ := DataW.trod_struct Tryd.underlying28 hf
    match xs, hlen with
    | [y0, y1, y2, y3, y4, y5], _ =>
      have h0 := hg 0 _ rfl
      have h1 := hg 1 _ rfl
      have h2 := hg 2 _ rfl
      have h3 := hg 3 _ rfl
      have h4 := hg 4 _ rfl
      have h5 := hg 5 _ rfl
      simp [cellsS1, cellsI1, cellsV3] at h0 h1 h2 h3 h4 h5
      obtain ⟨r, e0, z0, w0⟩ := DataW.trod_string Tryd.underlying9 h0
      obtain ⟨f, e1, z1, w1⟩ := DataW.trod_string Tryd.underlying9 h1
      obtain ⟨q, e2, z2, w2⟩ := DataW.trod_string Tryd.underlying9 h2
      obtain ⟨t, e3, z3, w3⟩ := DataW.trod_int Tryd.underlying3 h3
      obtain ⟨k, e4, z4, w4⟩ := DataW.trod_int Tryd.underlying3 h4
      obtain ⟨ys, n', _, hx', _, hlen', hg'⟩ := DataW.trod_struct Tryd.underlying26 h5
      match ys, hlen' with
      | [u0, u1, u2], _ =>
        have g0 := hg' 0 _ rfl
        have g1 := hg' 1 _ rfl
        have g2 := hg' 2 _ rfl
        simp [cellsS1, cellsI1] at g0 g1 g2
        obtain ⟨vk, e5, z5, w5⟩ := DataW.trod_int Tryd.underlying3 g0
        obtain ⟨vn, e6, z6, w6⟩ := DataW.trod_int Tryd.underlying3 g1
        obtain ⟨s, e7, z7, w7⟩ := DataW.trod_string Tryd.underlying9 g2
        simp at e0 e1 e2 e3 e4 e5 e6 e7
        subst e0 e1 e2 e3 e4 e5 e6 e7
        exact ⟨⟨r, f, q, t, k, vk, vn, s⟩, rfl, inI_of_wf2 w6⟩
theorem addr_at (b off n : Nat) : (⟨b, off, none⟩ : Addr).add n = ⟨b, off + n, none⟩ := by
  by_cases h : n = 0
  · subst h; rfl
  · simp [Addr.add, h]
theorem bind_some {α β : Type} {o : Option α} {g : α → Option β} {y : β} (h : o.bind g = some y) : ∃ x, o = some x ∧ g x = some y := by
  cases o with
  | none => cases h
  | some x => exact ⟨x, rfl, h⟩
/-- A choice for each of the first n numbers is a list. -/
theorem list_of {P : Nat → CT → Prop} : ∀ n : Nat, (∀ i, i < n → ∃ c, P i c) → ∃ l : List CT, l.length = n ∧ ∀ i (h : i < l.length), P i l[i]
  | 0, _ => ⟨[], rfl, fun i h => absurd h (by simp)⟩
  | n + 1, h => by
    obtain ⟨l, h1, h2⟩ := list_of n (fun i hi => h i (by omega))
    obtain ⟨c, hc⟩ := h n (by omega)
    refine ⟨l ++ [c], by simp [h1], fun i hi => ?_⟩
    rcases Nat.lt_or_ge i l.length with h3 | h3
    · rw [List.getElem_append_left h3]; exact h2 i h3
    · have : i = n := by simp at hi; omega
      subst this
      rw [List.getElem_append_right h3]
      simp only [h1, Nat.sub_self, List.getElem_cons_zero]
      exact hc
set_option maxRecDepth 100000 in
/-- A list of cells that came in. -/
theorem open_cla {r : Reach} {b0 b1 : Nat} {v : Value} {d : DataW H} {p : List MemPlace} (hv : Value.okWide Tryd.prog W r b0 39 v) (h : DataW.Trod enc Tryd.prog W b1 (fun _ => true) true 39 v d p) : ∃ l, ClA W v l ∧ ∀ c ∈ l, inI c.vn := by
  obtain ⟨a0, len, cap, rfl⟩ := okWide_slice Tryd.underlying39 hv
  obtain ⟨fuel, hf⟩ := h
  rcases DataW.trod_slice Tryd.underlying39 hf with ⟨hcs, hx⟩ | ⟨a, len', cap', elems, rest, n, hfu, hcs, hx, hb, hl, hm, he, hi, _, _⟩
  · simp [Value.cells] at hcs
    obtain ⟨rfl, rfl, rfl⟩ := hcs
    exact ⟨[], cla_nil W, fun c h => by cases h⟩
  · simp [Value.cells] at hcs
    obtain ⟨rfl, rfl, rfl⟩ := hcs
    rw [cellsC] at hi
    have hP : ∀ i, i < len → ∃ c : CT, (∀ j, j < 8 → W.cell? (a.add (i * 8 + j)) = c.e[j]?) ∧ inI c.vn := fun i hi' => by
      have h1 := hi i hi'
      rw [List.getElem?_eq_getElem (by omega)] at h1
      obtain ⟨cs, hcs, htr⟩ := bind_some h1
      obtain ⟨_, hlen, hcell⟩ := World.cells?_some hcs
      obtain ⟨c, rfl, hvn⟩ := cell_words hlen htr
      refine ⟨c, fun j hj => ?_, hvn⟩
      have := hcell j hj
      rw [Addr.add_add] at this
      exact this
    obtain ⟨l, hlen, hall⟩ := list_of len hP
    have hmx : cap ≤ 9223372036854775807 := by unfold maxLen at hm; omega
    refine ⟨l, ⟨some a, cap, by rw [hlen], by omega, hmx, fun h0 => ?_⟩, fun c hc => ?_⟩
    · obtain ⟨b, off, spot⟩ := a
      have h00 := (hall 0 h0).1 0 (by omega)
      have hspot : spot = none := by
        have h0' : W.cell? ((⟨b, off, spot⟩ : Addr).add 0) = some (.string l[0].r) := h00
        simpa [Addr.add] using World.cell?_spot h0'
      subst hspot
      refine ⟨b, off, rfl, fun i hi' j hj => ?_⟩
      have := (hall i hi').1 j hj
      rw [← this]
      rw [addr_at, Nat.add_assoc]
    · obtain ⟨i, hi', rfl⟩ := List.getElem_of_mem hc
      exact (hall i hi').2
end
end Go.Proofs.YtdjaofbjmnmlbaaDoor

/- The listed variables of layer 6's laws: the two tables of utf8 alone. -/
namespace Go.Proofs.YtdjaofbjmnmlbaaDoor
open Go.ChangeShapes Go.WideShapes Go.ChangeAt Go.RowKit Go.Joins

def seatLaid6 : List (String × DataW Unit) := [("unicode/utf8.acceptRanges", Rows.laid_unicode_utf8_acceptRanges), ("unicode/utf8.first", Rows.laid_unicode_utf8_first)]
theorem seat_met6 {W : World} (h : laidMetH Tryd.prog seatLaid6 W) : laidMet Tryd.prog seatLaid6 W := h
theorem laid_u6 {W : World} (h : laidMet Tryd.prog seatLaid6 W) : LaidU W := ⟨by
    have h3 := Lib.laidMet.reads h (n := "unicode/utf8.first") (d := Rows.laid_unicode_utf8_first) (by simp [seatLaid6])
    have h4 := Lib.laidMet.reads h (n := "unicode/utf8.acceptRanges") (d := Rows.laid_unicode_utf8_acceptRanges) (by simp [seatLaid6])
    rw [first_is] at h3
    rw [accept_is] at h4
    exact utf8Tabs_of_readsT (U8Types.of196 Tryd.lays196) u8extra h3 h4⟩
set_option maxRecDepth 1000000 in
theorem laid_met6 (os : Os) (args : Array Value) : laidMet Tryd.prog seatLaid6 ((laidWorld5 os).forCall (fun _ _ => 0) ⟨#[], args, []⟩).memory :=
  laidMet_of_run' 8 (by kernel_rfl) (by kernel_rfl)
end Go.Proofs.YtdjaofbjmnmlbaaDoor

/- With what was seen alone the same is seen, now and later; what a cell tells to be gone isn't seen behind it, all else is. -/
namespace Go.Proofs.YtdjaofbjmnmlbaaDoor
open Go.RowKit

theorem rise_sort {n t : List CT} (hr : n.Pairwise (fun x y => CT.cmp x y < 0)) (hok : ∀ c ∈ n, c.ok = true) (h : SortOf n t) : t = n := by
  refine rise_uniq h.rise hr fun c => ?_
  rw [h.holds, List.filter_eq_self.2 hok]
  constructor
  · rintro ⟨a, b, rfl, _⟩; simp
  · intro hc
    obtain ⟨a, b, rfl⟩ := List.append_of_mem hc
    exact ⟨a, b, rfl, fun d hd e => by
      have := (List.pairwise_cons.1 (List.pairwise_append.1 hr).2.1).1 d hd
      omega⟩
theorem lives_now {life now later t : Int} (h : now ≤ later) (hl : livesM life later t = true) : livesM life now t = true := by
  unfold livesM at *
  rw [Bool.or_eq_true, decide_eq_true_iff, decide_eq_true_iff] at *
  omega
theorem lives_time {life now t t' : Int} (h : t ≤ t') (h0 : 0 ≤ t) (h1 : t' ≤ 1099511627776) (hl0 : 0 ≤ life) (hl1 : life ≤ 1125899906842624) (hl : livesM life now t = true) : livesM life now t' = true := by
  unfold livesM at *
  rw [Bool.or_eq_true, decide_eq_true_iff, decide_eq_true_iff] at *
  rw [IntKind.wrap_i64] at *
  omega
theorem rank_count (s : List CT) (life now : Int) (c : CT) : rankN s life now c = s.countP (fun e => letB s life now e && decide (colC c e) && decide (CT.cmp e c < 0)) := by
  unfold rankN cntB
  rw [List.filter_filter, List.countP_eq_length_filter]
theorem and_three (a b c : Bool) : (a && b && c) = true ↔ a = true ∧ (b && c) = true := by rw [Bool.and_assoc, Bool.and_eq_true]
theorem see_later {s : List CT} {ver life now later : Int} (hok : ∀ c ∈ s, c.ok = true) (hn : now ≤ later) (hl0 : 0 ≤ life) (hl1 : life ≤ 1125899906842624) {c : CT} (hc : c ∈ s) :
    seeB s ver life later c = (livesM life later c.t && seeB s ver life now c) := by
  cases hl : livesM life later c.t with
  | false =>
    have e : letB s life later c = false := decide_eq_false fun z => by rw [hl] at z; cases z.2.2
    unfold seeB
    rw [e, Bool.false_and, Bool.false_and]
  | true =>
    have same : ∀ e ∈ s, c.t ≤ e.t → letB s life later e = letB s life now e := fun e he ht => by
      have p := ok_parts (hok e he)
      have pc := ok_parts (hok c hc)
      have h1 := lives_time (now := later) ht pc.2.1 p.2.2 hl0 hl1 hl
      have h2 := lives_now hn h1
      unfold letB
      rw [h1, h2]
    have er : rankN s life later c = rankN s life now c := by
      rw [rank_count, rank_count]
      refine List.countP_congr fun e he => ?_
      have key : (decide (colC c e) && decide (CT.cmp e c < 0)) = true → e.k = 1 → c.t ≤ e.t := fun h k => by
        rw [Bool.and_eq_true, decide_eq_true_iff, decide_eq_true_iff] at h
        exact (pre_time h.1 (by omega) (Int.le_of_lt h.2)).2
      rw [and_three, and_three]
      constructor
      · rintro ⟨h1, h2⟩
        have k := (of_decide_eq_true h1).1
        exact ⟨by rw [← same e he (key h2 k)]; exact h1, h2⟩
      · rintro ⟨h1, h2⟩
        have k := (of_decide_eq_true h1).1
        exact ⟨by rw [same e he (key h2 k)]; exact h1, h2⟩
    unfold seeB
    rw [er, same c hc (Int.le_refl _), Bool.true_and]
theorem hit_put {d c : CT} (h : d.k = 1) : ¬ HitC d c := by
  rintro ⟨_, _, ⟨k, _⟩ | ⟨k, _⟩ | ⟨k, _⟩⟩ <;> omega
theorem seen_filter {s : List CT} {ver life now later : Int} (hok : ∀ c ∈ s, c.ok = true) (hn : now ≤ later) (hl0 : 0 ≤ life) (hl1 : life ≤ 1125899906842624) :
    (s.filter (seeB s ver life now)).filter (seeB (s.filter (seeB s ver life now)) ver life later) = s.filter (seeB s ver life later) := by
  have put : ∀ e ∈ s.filter (seeB s ver life now), e.k = 1 := fun e he => by
    have := (List.mem_filter.1 he).2
    unfold seeB at this
    rw [Bool.and_eq_true] at this
    exact (of_decide_eq_true this.1).1
  have lt : ∀ e ∈ s.filter (seeB s ver life now), letB (s.filter (seeB s ver life now)) life later e = livesM life later e.t := fun e he => by
    unfold letB
    cases hl : livesM life later e.t with
    | false => exact decide_eq_false fun z => by cases z.2.2
    | true => exact decide_eq_true ⟨put e he, fun d hd => hit_put (put d hd), rfl⟩
  have e1 : (s.filter (seeB s ver life now)).filter (seeB (s.filter (seeB s ver life now)) ver life later) = (s.filter (seeB s ver life now)).filter (fun c => livesM life later c.t) := by
    refine List.filter_congr fun c hc => ?_
    have hs := (List.mem_filter.1 hc).2
    have hrk : rankN (s.filter (seeB s ver life now)) life later c ≤ rankN s life now c := by
      rw [rank_count, rank_count]
      refine Nat.le_trans (List.countP_mono_left (q := fun e => letB s life now e && decide (colC c e) && decide (CT.cmp e c < 0)) fun e he h => ?_) (List.filter_sublist.countP_le)
      have hse := (List.mem_filter.1 he).2
      unfold seeB at hse
      simp only [Bool.and_eq_true] at h hse ⊢
      exact ⟨⟨hse.1, h.1.2⟩, h.2⟩
    unfold seeB at hs
    rw [Bool.and_eq_true, decide_eq_true_iff] at hs
    show (letB (s.filter (seeB s ver life now)) life later c && decide ((rankN (s.filter (seeB s ver life now)) life later c : Int) < ver)) = _
    rw [lt c hc, decide_eq_true (by omega), Bool.and_true]
  rw [e1, List.filter_filter]
  refine List.filter_congr fun c hc => ?_
  rw [see_later hok hn hl0 hl1 hc]
/-- What was seen, sorted again and seen later. -/
theorem same_all {l s t : List CT} {ver life now later : Int} (h : SortOf l s) (hn : now ≤ later) (hl1 : life ≤ 1125899906842624) (h2 : SortOf (seenL ver life now s) t) : seenL ver life later t = seenL ver life later s := by
  have hr := h.rise
  have hok : ∀ c ∈ s, c.ok = true := fun c hc => (h.mem hc).2
  have hk : t = seenL ver life now s := by
    refine rise_sort ?_ ?_ h2
    · rw [seenL_is ver life now hr hok]
      split
      · exact hr.filter _
      · exact List.Pairwise.nil
    · intro c hc
      rw [seenL_is ver life now hr hok] at hc
      split at hc
      · exact hok c (List.mem_filter.1 hc).1
      · cases hc
  rw [seenL_is ver life later h2.rise (fun c hc => (h2.mem hc).2), seenL_is ver life later hr hok, hk, seenL_is ver life now hr hok]
  split
  · rename_i q
    unfold rightM at q
    simp only [Bool.and_eq_true, decide_eq_true_iff] at q
    exact seen_filter hok hn q.2.2 hl1
  · rfl

theorem place_eq {e d : CT} (h : CT.cmp e d = 0) : e.r = d.r ∧ e.f = d.f ∧ e.q = d.q ∧ e.t = d.t ∧ e.k = d.k := by
  have i0 : ∀ a b : Int, Lib.compareInt a b = 0 → a = b := fun a b q => by
    have h1 := int_le (a := a) (b := b) (by omega)
    have h2 : ¬ a < b := fun z => by
      unfold Lib.compareInt at q
      rw [if_pos z] at q
      omega
    omega
  rw [cmp_lex] at h
  by_cases h1 : Lib.compareBytes e.r.data.toList d.r.data.toList = 0
  · rw [if_pos h1] at h
    by_cases h2 : Lib.compareBytes e.f.data.toList d.f.data.toList = 0
    · rw [if_pos h2] at h
      by_cases h3 : Lib.compareInt (rankC e.k) (rankC d.k) = 0
      · rw [if_pos h3] at h
        by_cases h4 : Lib.compareBytes e.q.data.toList d.q.data.toList = 0
        · rw [if_pos h4] at h
          by_cases h5 : Lib.compareInt (-e.t) (-d.t) = 0
          · rw [if_pos h5] at h
            by_cases h6 : Lib.compareInt (-e.k) (-d.k) = 0
            · have a5 := i0 _ _ h5
              have a6 := i0 _ _ h6
              exact ⟨ba_eq (cmpB_zero _ _ h1), ba_eq (cmpB_zero _ _ h2), ba_eq (cmpB_zero _ _ h4), by omega, by omega⟩
            · rw [if_neg h6] at h; contradiction
          · rw [if_neg h5] at h; contradiction
        · rw [if_neg h4] at h; contradiction
      · rw [if_neg h3] at h; contradiction
    · rw [if_neg h2] at h; contradiction
  · rw [if_neg h1] at h; contradiction
theorem hit_place {e d c : CT} (h : CT.cmp e d = 0) (hh : HitC e c) : HitC d c := by
  obtain ⟨a1, a2, a3, a4, a5⟩ := place_eq h
  obtain ⟨b1, b2, b3⟩ := hh
  refine ⟨a1 ▸ b1, a2 ▸ b2, ?_⟩
  rw [a3, a4, a5] at b3
  exact b3
/-- What a cell tells to be gone isn't seen; of the rest nothing goes. -/
theorem gone_all {l s s' : List CT} {d : CT} {now : Int} (h : SortOf l s) (h2 : SortOf (l ++ [d]) s') (hd : d.ok = true) (hk : d.k ≠ 1) :
    (∀ c ∈ seenL 8 0 now s', ¬ HitC d c) ∧ ((seenL 8 0 now s).filter (fun c => decide (¬ HitC d c))).Sublist (seenL 8 0 now s') := by
  have hr := h.rise
  have hok : ∀ c ∈ s, c.ok = true := fun c hc => (h.mem hc).2
  have hr2 := h2.rise
  have hok2 : ∀ c ∈ s', c.ok = true := fun c hc => (h2.mem hc).2
  have hm : ∀ c, c ∈ s' ↔ c = d ∨ (c ∈ s ∧ CT.cmp c d ≠ 0) := fun c => by
    rw [h2.holds, h.holds, List.filter_append, List.filter_cons, if_pos hd, List.filter_nil]
    constructor
    · rintro ⟨a, b, e, hb⟩
      rcases List.eq_nil_or_concat b with rfl | ⟨b', z, rfl⟩
      · have := List.append_inj' e rfl
        exact .inl (by have := this.2; injection this with q _; exact q.symm)
      · rw [List.concat_eq_append, ← List.cons_append, ← List.append_assoc] at e
        have e2 := List.append_inj' e rfl
        have ez : d = z := by have := e2.2; injection this
        subst ez
        exact .inr ⟨⟨a, b', e2.1, fun y hy => hb y (by simp [hy])⟩, hb d (by simp)⟩
    · rintro (rfl | ⟨⟨a, b, e, hb⟩, hz⟩)
      · exact ⟨_, [], rfl, fun y hy => by cases hy⟩
      · refine ⟨a, b ++ [d], by rw [e]; simp, fun y hy => ?_⟩
        rcases List.mem_append.1 hy with hy | hy
        · exact hb y hy
        · rcases List.mem_singleton.1 hy with rfl
          exact hz
  have puts : s'.filter (fun c => decide (c.k = 1)) = s.filter (fun c => decide (c.k = 1)) := by
    refine rise_uniq (hr2.filter _) (hr.filter _) fun c => ?_
    rw [List.mem_filter, List.mem_filter, hm, decide_eq_true_iff]
    constructor
    · rintro ⟨rfl | ⟨h1, _⟩, k⟩
      · exact absurd k hk
      · exact ⟨h1, k⟩
    · rintro ⟨h1, k⟩
      exact ⟨.inr ⟨h1, fun e => hk ((place_eq e).2.2.2.2 ▸ k)⟩, k⟩
  have hlet : ∀ c, letB s' 0 now c = (letB s 0 now c && decide (¬ HitC d c)) := fun c => by
    unfold letB
    rw [← Bool.decide_and]
    apply decide_eq_decide.2
    constructor
    · rintro ⟨a, b, e⟩
      refine ⟨⟨a, fun x hx hh => ?_, e⟩, b d ((hm d).2 (.inl rfl))⟩
      by_cases z : CT.cmp x d = 0
      · exact b d ((hm d).2 (.inl rfl)) (hit_place z hh)
      · exact b x ((hm x).2 (.inr ⟨hx, z⟩)) hh
    · rintro ⟨⟨a, b, e⟩, f⟩
      refine ⟨a, fun x hx => ?_, e⟩
      rcases (hm x).1 hx with rfl | ⟨hx, _⟩
      · exact f
      · exact b x hx
  have cnt1 : ∀ (u : List CT) (P : CT → Bool), (∀ e, P e = true → e.k = 1) → u.countP P = (u.filter (fun c => decide (c.k = 1))).countP P := fun u P hP => by
    rw [List.countP_filter]
    refine List.countP_congr fun e _ => ?_
    rw [Bool.and_eq_true, decide_eq_true_iff]
    exact ⟨(fun q => ⟨q, hP e q⟩), (fun q => q.1)⟩
  have fil1 : ∀ (u : List CT) (P : CT → Bool), (∀ e, P e = true → e.k = 1) → u.filter P = (u.filter (fun c => decide (c.k = 1))).filter P := fun u P hP => by
    rw [List.filter_filter]
    refine List.filter_congr fun e _ => ?_
    rw [Bool.eq_iff_iff, Bool.and_eq_true, decide_eq_true_iff]
    exact ⟨(fun q => ⟨q, hP e q⟩), (fun q => q.1)⟩
  have letk : ∀ (u : List CT) e, letB u 0 now e = true → e.k = 1 := fun u e q => (of_decide_eq_true q).1
  have hrk : ∀ c, rankN s' 0 now c ≤ rankN s 0 now c := fun c => by
    rw [rank_count, rank_count, cnt1 s' _ (fun e q => by simp only [Bool.and_eq_true] at q; exact letk s' e q.1.1), cnt1 s _ (fun e q => by simp only [Bool.and_eq_true] at q; exact letk s e q.1.1), puts]
    refine List.countP_mono_left fun e _ q => ?_
    rw [hlet] at q
    simp only [Bool.and_eq_true] at q ⊢
    exact ⟨⟨q.1.1.1, q.1.2⟩, q.2⟩
  have R : rightM 8 0 = true := by decide
  rw [seenL_is 8 0 now hr hok, seenL_is 8 0 now hr2 hok2, if_pos R, if_pos R]
  have seek : ∀ (u : List CT) e, seeB u 8 0 now e = true → e.k = 1 := fun u e q => by
    unfold seeB at q
    rw [Bool.and_eq_true] at q
    exact letk u e q.1
  constructor
  · intro c hc
    have := (List.mem_filter.1 hc).2
    unfold seeB at this
    rw [Bool.and_eq_true, hlet, Bool.and_eq_true, decide_eq_true_iff] at this
    exact this.1.2
  · rw [fil1 s' _ (seek s'), puts, ← fil1 s _ (seek s'), List.filter_filter]
    have e : s.filter (fun c => decide (¬ HitC d c) && seeB s 8 0 now c) = (s.filter (seeB s' 8 0 now)).filter (fun c => decide (¬ HitC d c) && seeB s 8 0 now c) := by
      rw [List.filter_filter]
      refine List.filter_congr fun c _ => ?_
      refine Bool.eq_iff_iff.2 ⟨fun q => Bool.and_eq_true_iff.2 ⟨q, ?_⟩, fun q => (Bool.and_eq_true_iff.1 q).1⟩
      unfold seeB at q ⊢
      simp only [Bool.and_eq_true] at q ⊢
      refine ⟨by rw [hlet, q.2.1, q.1]; rfl, ?_⟩
      have q3 := of_decide_eq_true q.2.2
      exact decide_eq_true (by have := hrk c; omega)
    rw [e]
    exact List.filter_sublist
end Go.Proofs.YtdjaofbjmnmlbaaDoor

/- The statements' own helper: hit. Conditions: as it names them. -/
namespace Go.Proofs.YtdjaofbjmnmlbaaDoor
open Go.RowKit

def hitB (d c : CT) : Bool := decide (d.r = c.r ∧ d.f = c.f) && (if d.k = 4 then decide (c.t ≤ d.t) else if d.k = 3 then decide (c.q = d.q) && decide (c.t ≤ d.t) else decide (c.q = d.q) && decide (c.t = d.t))
theorem hitB_is {d c : CT} (h : d.k = 2 ∨ d.k = 3 ∨ d.k = 4) : hitB d c = decide (HitC d c) := by
  unfold hitB HitC
  rcases h with e | e | e <;> simp [e, Bool.and_assoc]

set_option maxHeartbeats 4000000 in
set_option maxRecDepth 100000 in
theorem hit_any (d c : CT) (w : World) : Calls Tryd.prog 31 #[d.v, c.v] w fun e w' => e = .returned (.bool (hitB d c)) ∧ Below w.heap.size w w' := by
  unfold hitB
  go_enter Tryd.func31, Tryd.ntmps31
  have HB : Hid (∀ (xs ys : Array Value) (t u : TypeId), Below w.heap.size w ((w.alloc (.cells xs t)).alloc (.cells ys u))) := fun xs ys t u => (below_new _ _).trans ((below_new _ _).mono (by simp))
  by_cases e0 : d.r = c.r
  · have n0 : d.r.toList = c.r.toList := by rw [e0]
    by_cases e1 : d.f = c.f
    · have n1 : d.f.toList = c.f.toList := by rw [e1]
      rw [show decide (d.r = c.r ∧ d.f = c.f) = true by simp [e0, e1], Bool.true_and]
      clear e0 e1
      by_cases e2 : c.q = d.q
      · have n2 : c.q.toList = d.q.toList := by rw [e2]
        rw [show decide (c.q = d.q) = true by simp [e2], Bool.true_and, Bool.true_and]
        clear e2
        by_cases k4 : d.k = 4
        · rw [if_pos k4]
          go_wp2
          go_ret
          exact ⟨rfl, HB.out _ _ _ _⟩
        · rw [if_neg k4]
          by_cases k3 : d.k = 3
          · rw [if_pos k3]
            go_wp2
            go_ret
            exact ⟨rfl, HB.out _ _ _ _⟩
          · rw [if_neg k3]
            go_wp2
            go_ret
            exact ⟨rfl, HB.out _ _ _ _⟩
      · have n2 : ¬ c.q.toList = d.q.toList := ba_ne2 e2
        rw [show decide (c.q = d.q) = false by simp [e2], Bool.false_and, Bool.false_and]
        clear e2
        by_cases k4 : d.k = 4
        · rw [if_pos k4]
          go_wp2
          go_ret
          exact ⟨rfl, HB.out _ _ _ _⟩
        · rw [if_neg k4]
          by_cases k3 : d.k = 3
          · rw [if_pos k3]
            go_wp2
            go_ret
            exact ⟨rfl, HB.out _ _ _ _⟩
          · rw [if_neg k3]
            go_wp2
            go_ret
            exact ⟨rfl, HB.out _ _ _ _⟩
    · have n1 : (d.f.toList == c.f.toList) = false := ba_ne e1
      rw [show decide (d.r = c.r ∧ d.f = c.f) = false by simp [e1], Bool.false_and]
      clear e0 e1
      go_wp2
      go_ret
      exact ⟨rfl, HB.out _ _ _ _⟩
  · have n0 : (d.r.toList == c.r.toList) = false := ba_ne e0
    rw [show decide (d.r = c.r ∧ d.f = c.f) = false by simp [e0], Bool.false_and]
    clear e0
    go_wp2
    go_ret
    exact ⟨rfl, HB.out _ _ _ _⟩
end Go.Proofs.YtdjaofbjmnmlbaaDoor

/- append of one cell as one step of a region that draws. Conditions: as it names them. -/
namespace Go.Proofs.YtdjaofbjmnmlbaaDoor
open Go.RowKit

theorem step_append_cell {ops : Array Oper} {o : Oper} {a : Act} {K : Act → World → Prop} {Q : Exit → Act → World → Prop} {E : Prop} (hgd : o.guard = Option.none) (s x : Operand)
    (ho : o.op = .call { callee := .builtin .append, args := #[s, x], argTypes := #[39, 39] })
    (w : World) (base : Nat) (v : Value) (l : List CT) (hs : a.eval s = v) (hown : CRow w base v l)
    (G m : Nat) (hx : a.eval x = .slice (some ⟨G, 0, Option.none⟩) 1 m) (y : CT) (hc : ∀ j u, y.e[j]? = some u → w.cell? ((⟨G, 0, Option.none⟩ : Addr).add j) = some u)
    (hlen : l.length ≤ 1466015503658) (hbase : base ≤ w.heap.size)
    (hK : ∀ v' w', CRow w' base v' (l ++ [y]) → Below base w w' → K (a.put o.dst v') w') :
    if Region.wanted o (yielded ops a.tmps) = true then Oper.wp Tryd.prog o a w K Q else E := by
  have hw : Region.wanted o (yielded ops a.tmps) = true := by simp [Region.wanted, hgd]
  rw [if_pos hw]
  obtain ⟨i0, hi, hz0, hz1, hz2⟩ := info_parts info_cell
  obtain ⟨v', w', hrun, r1, r2, _⟩ := run_append_own (P := Tryd.prog) w base 39 o.type 28 i0 _ 8 96 Tryd.underlying39 hi hz0 hz1 hz2 rfl (by decide) v l.length (flatC l) hown ⟨G, 0, Option.none⟩ 1 m y.e (CT.e_len y) hc y.e_one (by unfold maxLen; omega) (by omega) hbase
  unfold Oper.wp
  simp [execOp, ho, resolve, invoke, builtin, hs, hx, hrun, Result.andThen]
  refine hK v' w' ?_ ((Below.refl _ _).grown r2 hbase fun k hk => (World.ownsRow.lt hown k hk).1)
  unfold CRow
  rw [flatC_app, flatC_one, List.length_append]
  exact r1
end Go.Proofs.YtdjaofbjmnmlbaaDoor

/- append of one cell as one step of a region that draws; what CellGone's second loop keeps. Conditions: as each theorem names them. -/
namespace Go.Proofs.YtdjaofbjmnmlbaaDoor
open Go.RowKit

/-- The cells that aren't hit stand among those that follow. -/
def goneS (d : CT) (u t : List CT) : Prop := (u.filter (fun c => !hitB d c)).Sublist t
theorem goneS_hit {d c : CT} {u t : List CT} (h : goneS d (c :: u) t) (hc : hitB d c = true) : goneS d u t := by
  unfold goneS at h ⊢
  rwa [List.filter_cons, hc, if_neg (by decide)] at h
theorem goneS_not {d c : CT} {u t : List CT} (h : goneS d (c :: u) t) (hc : hitB d c = false) : (c :: u.filter (fun c => !hitB d c)).Sublist t := by
  unfold goneS at h
  rwa [List.filter_cons, hc, if_pos (by decide)] at h
theorem sub_ne {c x : CT} {u t : List CT} (h : (c :: u).Sublist (x :: t)) (hne : ¬ x = c) : (c :: u).Sublist t := by
  cases h with
  | cons _ h => exact h
  | cons_cons _ h => exact absurd rfl hne
theorem sub_none {c : CT} {u : List CT} (h : (c :: u).Sublist []) : False := by cases h
theorem gone_of {l s s' : List CT} {d : CT} {now : Int} (h : SortOf l s) (h2 : SortOf (l ++ [d]) s') (hd : d.ok = true) (hk : d.k ≠ 1) :
    (∀ c ∈ seenL 8 0 now s', hitB d c = false) ∧ goneS d (seenL 8 0 now s) (seenL 8 0 now s') := by
  obtain ⟨h1, h3⟩ := gone_all (now := now) h h2 hd hk
  have hkk : d.k = 2 ∨ d.k = 3 ∨ d.k = 4 := by
    obtain ⟨_, _, _, _, _, _, _, k1, k4, _⟩ := cright_parts hd
    omega
  refine ⟨fun c hc => by rw [hitB_is hkk]; exact decide_eq_false (h1 c hc), ?_⟩
  unfold goneS
  rw [show (fun c => !hitB d c) = (fun c => decide (¬ HitC d c)) from funext fun c => by rw [hitB_is hkk]; simp]
  exact h3
theorem longC_s {l : List CT} (h : longC l = false) {c : CT} (hc : c ∈ l) : c.s.size ≤ 4000 := by
  unfold longC at h
  rw [Bool.or_eq_false_iff] at h
  have h3 : longC1 c = false := by
    cases e : longC1 c with
    | false => rfl
    | true =>
      rw [List.any_eq_true.2 ⟨c, hc, e⟩] at h
      cases h.2
  unfold longC1 at h3
  simp only [Bool.or_eq_false_iff, decide_eq_false_iff_not] at h3
  omega
end Go.Proofs.YtdjaofbjmnmlbaaDoor
