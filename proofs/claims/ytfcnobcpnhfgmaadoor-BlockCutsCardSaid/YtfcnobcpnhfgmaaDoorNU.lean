/- The statement of layer 8: parts, one behind the other, are all cells; none but one of one cell is greater than the size, and none could take the next part's first cell. Conditions: the arguments stand, their numbers are of 64 bits; the tables of utf8 read as they are laid. -/
import Derived.Test.YtfcnobcpnhfgmaaDoorNUa
import Derived.Test.YtfcnobcpnhfgmaaDoorNR
import Derived.Test.YtfcnobcpnhfgmaaDoorQI
namespace Go.Proofs.YtfcnobcpnhfgmaaDoor
open Go.RowKit

/-- The document's Encode: how many bytes there are. -/
theorem refencn_any (c : CT) (h : Sm c) (w : World) :
    Calls Tryd.prog 17 #[c.v] w fun e w' => ∃ A cap b, e = .returned (.tuple #[.slice A (encN c) cap, .bool b]) ∧ Below w.heap.size w w' := by
  obtain ⟨⟨h1, h2, h3⟩, g1, g2, g3, g4⟩ := h
  unfold encN
  cases hok : c.ok with
  | true =>
    refine (refenc_yes c.r c.f c.q c.s c.t c.k c.vk h3 (by omega) (by omega) (by omega) (by omega) w hok).mono fun e w' ⟨v, he, hr, hb⟩ => ?_
    obtain ⟨A, cap, rfl, _⟩ := hr.sla
    exact ⟨A, cap, true, by rw [if_pos rfl]; exact he, hb⟩
  | false =>
    refine (refenc_no c.r c.f c.q c.s c.t c.k c.vk c.vn (by omega) (by omega) w hok).mono fun e w' ⟨he, hb⟩ => ?_
    exact ⟨none, 0, false, by rw [if_neg (by simp)]; exact he, hb⟩

/-- What stands at a place of a list of parts. -/
theorem prow_at {w : World} {B P c : Nat} {A : Option Addr} {ps : List (List CT)} (h : PRow w B (.slice A P c) ps) {i : Nat} {x : List CT} (hx : ps[i]? = some x) :
    ∃ g Au cu, A = some ⟨g, 0, none⟩ ∧ w.cell? ⟨g, i, none⟩ = some (.slice Au x.length cu) ∧ ClA w (.slice Au x.length cu) x ∧ g < w.heap.size := by
  obtain ⟨vs, ho, hr⟩ := h
  obtain ⟨u, hu, hc⟩ := hr i x hx
  have hi : i < ps.length := (List.getElem?_eq_some_iff.1 hx).1
  obtain ⟨Au, cu, rfl, _⟩ := hc.len
  have ho' := ho
  rcases ho'.2 with ⟨_, h0⟩ | ⟨g, cap, cur, e, _, hh, _⟩
  · omega
  · injection e with e1 e2 e3
    subst e1 e3
    refine ⟨g, Au, cu, rfl, ?_, hc.cla, ?_⟩
    · have h1 := World.ownsRow.cells ho (g := g) rfl i _ hu
      rwa [add_zero_off, Nat.zero_add] at h1
    · rcases Nat.lt_or_ge g w.heap.size with h' | h'
      · exact h'
      · rw [Array.getElem?_eq_none h'] at hh; cases hh
theorem sumE_le : ∀ (l : List CT), (∀ c ∈ l, c.s.size ≤ 1000 ∧ inI c.vn) → sumE l ≤ l.length * 6000
  | [], _ => Nat.le_refl _
  | c :: l, h => by
    have h1 := encN_le c (h c List.mem_cons_self).1 (h c List.mem_cons_self).2
    have h2 := sumE_le l (fun x hx => h x (List.mem_cons_of_mem _ hx))
    show encN c + sumE l ≤ (l.length + 1) * 6000
    omega
theorem flat_take {ps : List (List CT)} {i : Nat} {x : List CT} (h : ps[i]? = some x) : (ps.take (i + 1)).flatten = (ps.take i).flatten ++ x := by
  rw [List.take_add_one, h, List.flatten_append]
  simp

theorem len_flat : ∀ (ps : List (List CT)), (∀ (i : Nat) (p : List CT), ps[i]? = some p → 0 < p.length) → ps.length ≤ ps.flatten.length
  | [], _ => Nat.le_refl _
  | p :: ps, h => by
    have h1 := h 0 p rfl
    have h2 := len_flat ps (fun i q hq => h (i + 1) q (by simpa using hq))
    rw [List.flatten_cons, List.length_append, List.length_cons]
    omega

set_option maxHeartbeats 8000000 in
set_option maxRecDepth 100000 in
theorem blockcuts_any (v : Value) (l : List CT) (size : Int) (w : World) (h : ClA w v l) (hv : ∀ c ∈ l, inI c.vn) (hL : LaidU w) :
    Calls Tryd.prog 4 #[v, .int .i64 size] w fun e w' => e = .returned (.bool true) ∧ Below w.heap.size w w' := by
  have mixed : Tryd.prog.follows .mixedOrders = true := by kernel_rfl
  have HAl : Hid (Calls Tryd.prog 9 #[] w fun e w' => e = .returned (.bool true) ∧ Below w.heap.size w w') := alive8_any w hL
  have HLo : Hid (∀ W, Below w.heap.size w W → Calls Tryd.prog 10 #[v] W fun e w' => e = .returned (.bool (longM 100 l)) ∧ Below W.heap.size W w') := fun W hW => long8_any v l W (h.below hW)
  cases hlo : longM 100 l with
  | true =>
    rw [hlo] at HLo
    clear h hv hL hlo
    go_enter Tryd.func4, Tryd.ntmps4
    go_wp2_with (first
      | (go_at_call 9; refine HAl.out.mono ?_; rintro e w1 ⟨rfl, hb1⟩)
      | (go_at_call 10; refine (HLo.out _ hb1).mono ?_; rintro e w2 ⟨rfl, hb2⟩))
    go_ret
    exact ⟨rfl, hb1.trans (hb2.mono hb1.size)⟩
  | false =>
    rw [hlo] at HLo
    by_cases hsz : (1099511627776 : Int) < size
    · clear h hv hL hlo
      go_enter Tryd.func4, Tryd.ntmps4
      go_wp2_with (first
        | (go_at_call 9; refine HAl.out.mono ?_; rintro e w1 ⟨rfl, hb1⟩)
        | (go_at_call 10; refine (HLo.out _ hb1).mono ?_; rintro e w2 ⟨rfl, hb2⟩))
      go_ret
      exact ⟨rfl, hb1.trans (hb2.mono hb1.size)⟩
    · obtain ⟨hl, hs⟩ := longM_sm hlo hv
      have hcut := cuts_all size l.length l (Nat.le_refl _) (by omega)
      obtain ⟨ps, hps⟩ : ∃ ps, cutL size l = ps := ⟨_, rfl⟩
      rw [hps] at hcut
      obtain ⟨P, hP⟩ : ∃ P, ps.length = P := ⟨_, rfl⟩
      have HPs : Hid (ps.length = P) := hP
      have HCu : Hid (∀ W, Below w.heap.size w W → Calls Tryd.prog 16 #[v, .int .i64 size] W fun e w' => ∃ A c, e = .returned (.slice A P c) ∧ PRow w' W.heap.size (.slice A P c) ps ∧ Below W.heap.size W w') := fun W hW => by
        refine (cut_any v l size (by omega) W (h.below hW) (fun c hc => ⟨(hs c hc).1, by have := (hs c hc).2.2.2.2; omega⟩) (hL.below hW)).mono fun e w' ⟨v', he, hr, hb⟩ => ?_
        rw [hps] at hr
        obtain ⟨A, c, rfl⟩ := hr.len
        rw [hP] at he hr
        exact ⟨A, c, he, hr, hb⟩
      have HSa : Hid (∀ W u, Below w.heap.size w W → ClA W u l → Calls Tryd.prog 14 #[u, v] W fun e w' => e = .returned (.bool true) ∧ Below W.heap.size W w') := fun W u hW hu => by
        have := samecells_any u v l l W hu (h.below hW)
        rw [decide_eq_true rfl] at this
        exact this
      have HEn : Hid (∀ c ∈ l, ∀ W, Calls Tryd.prog 17 #[c.v] W fun e w' => ∃ A cap b, e = .returned (.tuple #[.slice A (encN c) cap, .bool b]) ∧ Below W.heap.size W w') := fun c hc W => refencn_any c (hs c hc) W
      have HEl : Hid (∀ c ∈ l, encN c ≤ 6000) := fun c hc => encN_le c (by have := (hs c hc).2.2.2.2; omega) (hs c hc).1.2.2
      have HPt : Hid (∀ i x, ps[i]? = some x → (∀ c ∈ x, c ∈ l) ∧ x.length ≤ 100 ∧ sumE x ≤ 600000 ∧ 0 < x.length ∧ (1 < x.length → ((sumE x : Nat) : Int) ≤ size)) := fun i x hx => by
        have hm : ∀ c ∈ x, c ∈ l := fun c hc => by
          rw [← hcut.flat]
          exact List.mem_flatten.2 ⟨x, List.mem_of_getElem? hx, hc⟩
        have hle : x.length ≤ 100 := by
          have h1 := flat_take hx
          have h2 : (ps.take (i + 1)).flatten.length ≤ ps.flatten.length := by
            conv => rhs; rw [← List.take_append_drop (i + 1) ps, List.flatten_append, List.length_append]
            omega
          rw [h1, List.length_append, hcut.flat] at h2
          omega
        have h3 := sumE_le x fun c hc => ⟨by have := (hs c (hm c hc)).2.2.2.2; omega, (hs c (hm c hc)).1.2.2⟩
        exact ⟨hm, hle, by omega, (hcut.one i x hx).1, (hcut.one i x hx).2⟩
      have HNx : Hid (∀ (i : Nat) (p q : List CT) (c : CT), ps[i]? = some p → ps[i + 1]? = some q → q[0]? = some c → size < ((sumE p + encN c : Nat) : Int)) := hcut.next
      have HFl : Hid (∀ i, (ps.take i).flatten.length ≤ 100 ∧ (ps.take P).flatten = l) := fun i => by
        have h2 : (ps.take i).flatten.length ≤ ps.flatten.length := by
          conv => rhs; rw [← List.take_append_drop i ps, List.flatten_append, List.length_append]
          omega
        rw [hcut.flat] at h2
        exact ⟨by omega, by rw [← hP, List.take_length, hcut.flat]⟩
      have hP1 : P ≤ 100 := by
        have := len_flat ps (fun i p hp => (hcut.one i p hp).1)
        rw [hcut.flat] at this
        omega
      clear h hv hL hlo hl hs hcut hps hP
      go_enter Tryd.func4, Tryd.ntmps4
      go_wp2_with (first
        | (go_at_call 9; refine HAl.out.mono ?_; rintro e w1 ⟨rfl, hb1⟩; have HB := hid hb1; clear hb1)
        | (go_at_call 10; refine (HLo.out _ HB.out).mono ?_; rintro e w2 ⟨rfl, hb2⟩; have HB := hid (HB.out.trans (hb2.mono HB.out.size)); clear hb2)
        | (go_at_call 16; refine (HCu.out _ HB.out).mono ?_; rintro e w3 ⟨A, cp, rfl, hp3, hb3⟩; have HB := hid (HB.out.trans (hb3.mono HB.out.size)); have HP3 := hid hp3; clear hp3 hb3))
      go_loopw [6, 7, 8] (fun va vh vi wr => ∃ (i ha : Nat), i ≤ P ∧ vi = .int .i64 i ∧ vh = .int .i64 (ha : Int) ∧ ha ≤ 600000 ∧ Hid (CRow wr w3.heap.size va (ps.take i).flatten) ∧ Hid (Below w3.heap.size w3 wr) ∧ Hid (∀ q c, 0 < i → ps[i]? = some q → q[0]? = some c → size < ((ha + encN c : Nat) : Int))) (fun _ _ vi _ => P - (intOf vi).toNat)
      case atStart => exact ⟨0, 0, Nat.zero_le _, rfl, rfl, by omega, empty_crow w3 w3.heap.size (Nat.le_refl _), below_new w3 _, fun q c h0 => by omega⟩
      case round =>
        obtain ⟨i, ha, hi, rfl, rfl, hha, HR, HBr, HN⟩ := hrel
        obtain ⟨Aa, ca, ea, _⟩ := HR.out.len
        obtain ⟨na, hna⟩ : ∃ na, ((ps.take i).flatten).length = na := ⟨_, rfl⟩
        rw [hna] at ea
        clear hna
        subst ea
        by_cases hlt : i < P
        · have hltz : (i : Int) < (P : Int) := by omega
          obtain ⟨x, hx⟩ : ∃ x, ps[i]? = some x := ⟨_, List.getElem?_eq_getElem (by rw [HPs.out]; exact hlt)⟩
          obtain ⟨g, Au, cu, eg, hg1, hg2, hg3⟩ := prow_at (PRow.below HP3.out HBr.out) hx
          subst eg
          obtain ⟨hx1, hx2, hx3, hx4, hx5⟩ := HPt.out i x hx
          have HXm := hid hx1
          have HX5 := hid hx5
          have HGl := hid (show g < wr.heap.size from hg3)
          have HG2 := hid hg2
          have HXi := hid hx
          obtain ⟨_, _, e1, hm1, hm2, hm3⟩ := hg2
          injection e1 with e1 e2 e3
          subst e1 e3
          obtain ⟨bu, ou, rfl, hhc⟩ := hm3 hx4
          have HC0 := hid hhc
          have hbu : bu < wr.heap.size := hhc.lt hx4
          obtain ⟨m, hm⟩ : ∃ m, x.length = m := ⟨_, rfl⟩
          have HM := hid hm
          rw [hm] at hg1 hx2 hx4 hm1 HX5
          obtain ⟨sx, hsx⟩ : ∃ sx, sumE x = sx := ⟨_, rfl⟩
          have HSx := hid hsx
          rw [hsx] at hx3 HX5
          clear hx hx1 hx5 hg3 e2 hm3 hhc hm hsx
          have hmz : ((m : Int) == 0) = false := by rw [beq_eq_false_iff_ne]; omega
          obtain ⟨wo, hwo⟩ : ∃ x, x = wr := ⟨_, rfl⟩
          subst hwo
          go_wp2
          go_loopw [9, 10] (fun vn vk wi => ∃ (k n : Nat), k ≤ m ∧ vk = .int .i64 k ∧ vn = .int .i64 (n : Int) ∧ Hid (n = sumE (x.take k)) ∧ n ≤ k * 6000 ∧ Hid (Below wo.heap.size wo wi)) (fun _ vk _ => m - (intOf vk).toNat)
          case atStart => exact ⟨0, 0, Nat.zero_le _, rfl, rfl, rfl, Nat.zero_le _, Below.refl _ _⟩
          case round =>
            obtain ⟨k, n, hk, rfl, rfl, HSn, hn6, HBi⟩ := hrel
            have g1 : wr.cell? ⟨g, i, none⟩ = some (.slice (some ⟨bu, ou, none⟩) m cu) := (HBi.out.cell (p := ⟨g, i, none⟩) HGl.out).trans hg1
            by_cases hkm : k < m
            · have hkz : (k : Int) < (m : Int) := by omega
              obtain ⟨c, hc⟩ : ∃ c, x[k]? = some c := ⟨_, List.getElem?_eq_getElem (by rw [HM.out]; exact hkm)⟩
              have hcl := HXm.out c (List.mem_of_getElem? hc)
              have HEc := hid (HEn.out c hcl)
              have hq6 := HEl.out c hcl
              have HS2 : Hid (n + encN c = sumE (x.take (k + 1))) := by show _ = _; rw [sumE_take hc, HSn.out]
              have HN0 : Hid (k = 0 → 0 < i → size < ((ha + encN c : Nat) : Int)) := fun e0 h0 => HN.out x c h0 HXi.out (by rw [← e0]; exact hc)
              obtain ⟨q, hq⟩ : ∃ q, encN c = q := ⟨_, rfl⟩
              rw [hq] at HEc hq6 HS2 HN0
              obtain ⟨a0, a1, a2, a3, a4, a5, a6, a7⟩ := ct_words (HC0.out.below HBi.out hbu) k hc
              clear hc hcl hq
              have hn7 : n ≤ 600000 := by omega
              have hsq : ((n : Int) + (q : Int)) = ((n + q : Nat) : Int) := by omega
              by_cases k0 : k = 0
              · subst k0
                simp only [Nat.zero_mul, Nat.add_zero] at a0 a1 a2 a3 a4 a5 a6 a7
                by_cases i0 : 0 < i
                · have i0z : (0 : Int) < (i : Int) := by omega
                  have hst : size < (ha : Int) + (q : Int) := by have := HN0.out rfl i0; omega
                  clear hsq
                  go_wp2_with (go_at_call 17; refine (HEc.out _).mono ?_; rintro e w5 ⟨A5, c5, b5, rfl, hb5⟩)
                  go_roundw
                  case rel => exact ⟨1, n + q, by omega, by go_num, by go_num, HS2.out, by omega, HBi.out.trans (hb5.mono HBi.out.size)⟩
                  case measure => simp [intOf]; omega
                · have i0z : ¬ (0 : Int) < (i : Int) := by omega
                  clear hsq
                  go_wp2_with (go_at_call 17; refine (HEc.out _).mono ?_; rintro e w5 ⟨A5, c5, b5, rfl, hb5⟩)
                  go_roundw
                  case rel => exact ⟨1, n + q, by omega, by go_num, by go_num, HS2.out, by omega, HBi.out.trans (hb5.mono HBi.out.size)⟩
                  case measure => simp [intOf]; omega
              · have k0z : ¬ ((k : Int) = 0) := by omega
                clear hsq
                go_wp2_with (go_at_call 17; refine (HEc.out _).mono ?_; rintro e w5 ⟨A5, c5, b5, rfl, hb5⟩)
                go_roundw
                case rel => exact ⟨k + 1, n + q, by omega, by go_num, by go_num, HS2.out, by omega, HBi.out.trans (hb5.mono HBi.out.size)⟩
                case measure => simp [intOf]; omega
            · obtain rfl : k = m := by omega
              have hns : n = sx := by rw [HSn.out, ← HSx.out, ← HM.out, List.take_length]
              subst hns
              have HFt : Hid ((ps.take (i + 1)).flatten = (ps.take i).flatten ++ x) := flat_take HXi.out
              have HRi : Hid (CRow wr w3.heap.size (.slice Aa na ca) (ps.take i).flatten) := HR.out.below HBi.out
              have HGi : Hid (ClA wr (.slice (some ⟨bu, ou, none⟩) k cu) x) := by
                have := HG2.out.below HBi.out
                rw [HM.out] at this
                exact this
              have HBz : Hid (Below w3.heap.size w3 wr) := HBr.out.trans (HBi.out.mono HBr.out.size)
              have HN1 : Hid (∀ q c, 0 < i + 1 → ps[i + 1]? = some q → q[0]? = some c → size < ((n + encN c : Nat) : Int)) := fun q c _ hq hc => by
                have := HNx.out i x q c HXi.out hq hc
                rw [HSx.out] at this
                exact this
              clear hn6
              by_cases hs : size < (n : Int)
              · obtain rfl : k = 1 := by
                  rcases Nat.lt_or_ge 1 k with q | q
                  · exact absurd (HX5.out q) (by omega)
                  · omega
                go_wp2_with (at_builtin; refine wpList_append_cells rfl (.tmp 87) (.tmp 91) rfl rfl _ w3.heap.size _ (ps.take i).flatten rfl HRi.out _ x rfl HGi.out (by have := (HFl.out i).1; have := HM.out; omega) HBz.out.size ?_; intro v7 w7 hr7 hb7 _; have HR7 := hid hr7; have HB7 := hid hb7; clear hr7 hb7)
                go_roundw
                case rel => exact ⟨i + 1, n, by omega, by go_num, rfl, by omega, by show CRow _ _ _ _; rw [HFt.out]; exact HR7.out, HBz.out.trans HB7.out, HN1.out⟩
                case measure => simp [intOf]; omega
              · go_wp2_with (at_builtin; refine wpList_append_cells rfl (.tmp 87) (.tmp 91) rfl rfl _ w3.heap.size _ (ps.take i).flatten rfl HRi.out _ x rfl HGi.out (by have := (HFl.out i).1; have := HM.out; omega) HBz.out.size ?_; intro v7 w7 hr7 hb7 _; have HR7 := hid hr7; have HB7 := hid hb7; clear hr7 hb7)
                go_roundw
                case rel => exact ⟨i + 1, n, by omega, by go_num, rfl, by omega, by show CRow _ _ _ _; rw [HFt.out]; exact HR7.out, HBz.out.trans HB7.out, HN1.out⟩
                case measure => simp [intOf]; omega
        · obtain rfl : i = P := by omega
          have HW : Hid (Below w.heap.size w wr) := HB.out.trans (HBr.out.mono HB.out.size)
          have HA1 : Hid (ClA wr (.slice Aa na ca) l) := by
            have := HR.out.cla
            rw [(HFl.out i).2] at this
            exact this
          go_wp2_with (go_at_call 14; refine (HSa.out _ _ HW.out HA1.out).mono ?_; rintro e w9 ⟨rfl, hb9⟩)
          go_ret
          exact ⟨rfl, HW.out.trans (hb9.mono HW.out.size)⟩
end Go.Proofs.YtfcnobcpnhfgmaaDoor
