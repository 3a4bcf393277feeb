/- MergeParts: runs can be made one in parts. Conditions: the argument stands, its numbers are of 64 bits; the tables of utf8 read as they are laid. -/
import Derived.Test.YtdgkbpplngjonaaDoorMgY
namespace Go.Proofs.YtdgkbpplngjonaaDoor
open Go.RowKit

theorem rsa_drop {w : World} {A : Option Addr} {n c : Nat} {rs : List (List CT)} (h : RsA w (.slice A n c) rs) (k : Nat) (hk : k ≤ rs.length) (A2 : Option Addr) (hA : ∀ b off, A = some ⟨b, off, none⟩ → k < rs.length → A2 = some ⟨b, off + k, none⟩) : RsA w (.slice A2 (n - k) (c - k)) (rs.drop k) := by
  obtain ⟨A', c', e, h1, h2, h3⟩ := h
  injection e with e1 e2 e3
  subst e1 e3
  have hl : (rs.drop k).length = n - k := by rw [List.length_drop, ← e2]
  refine ⟨A2, c - k, by rw [hl], by omega, by omega, fun h0 => ?_⟩
  have hk2 : k < rs.length := by rw [List.length_drop] at h0; omega
  obtain ⟨b, off, rfl, hh⟩ := h3 (by omega)
  refine ⟨b, off + k, hA b off rfl hk2, fun i l hl2 => ?_⟩
  rw [List.getElem?_drop] at hl2
  obtain ⟨u, hu, hc⟩ := hh (k + i) l hl2
  exact ⟨u, by rw [Nat.add_assoc]; exact hu, hc⟩
theorem qrow_some {w : World} {B : Nat} {v : Value} {xs : List (List CT)} (h : QRow w B v xs) (h0 : 0 < xs.length) : ∃ g c, v = .slice (some ⟨g, 0, none⟩) xs.length c := by
  obtain ⟨vs, ho, _⟩ := h
  rcases ho.2 with ⟨_, hz⟩ | ⟨g, cap, cur, e, _⟩
  · omega
  · exact ⟨g, cap, e⟩
/-- What is told of some runs. -/
theorem told_ok {rs : List (List CT)} (h : ∀ l ∈ rs, Run CT.cmp CT.ok l ∧ l.length ≤ 60 ∧ ∀ c ∈ l, Sm c) (hl : rs.length ≤ 12) : ∃ ml, MgO CT.cmp (runsF begL 0 rs) ml ∧ Run CT.cmp CT.ok ml ∧ ml.length ≤ 720 ∧ ∀ c ∈ ml, Sm c := by
  obtain ⟨ml, hm⟩ := mgr_ex (rs := rs) (fun l hl => by have := (h l hl).2.1; omega) (by omega)
  have hr := mgr_run CT.ok (fun l hl => (h l hl).1) (l := ml) hm
  refine ⟨ml, hm, hr, ?_, fun c hc => ?_⟩
  · have hlen : ∀ (k : Nat) (H : List (Rn CT)) (ml : List CT), cntR H ≤ k → (∀ r ∈ H, Rise CT.cmp r) → Dst H → MgO CT.cmp H ml → ml.length ≤ cntR H := by
      intro k
      induction k with
      | zero =>
        intro H ml h0 _ _ hm
        cases H with
        | nil => rw [mgo_nil hm]; exact Nat.zero_le _
        | cons a t => rw [cntR_cons] at h0; have : 0 < a.cs.length := by show 0 < _ + 1; omega
                      omega
      | succ k ih =>
        intro H ml h0 hR hD hm
        cases H with
        | nil => rw [mgo_nil hm]; exact Nat.zero_le _
        | cons a t =>
          obtain ⟨r, t', hp, hl⟩ := least_ex a t
          have hR2 : ∀ x ∈ r :: t', Rise CT.cmp x := fun x hx => hR x (hp.mem_iff.2 hx)
          obtain ⟨l', rfl, hm'⟩ := mgo_uncons ct_c3 hl hR2 (dst_perm hp hD) (mgo_perm hp hm)
          have h1 := cntR_pop_lt (r := r) (t := t')
          rw [← cntR_perm hp] at h1
          have := ih _ l' (by omega) (pop_rise hR2) (pop_dst (dst_perm hp hD)) hm'
          rw [List.length_cons]
          omega
    have hg := runs_gd (rs := rs) (fun l hl => by have := (h l hl).2.1; omega) (by omega)
    have h1 := hlen _ _ ml (Nat.le_refl _) hg.rise hg.dst hm
    have h2 : ∀ (k : Nat) (a : List (List CT)), (∀ l ∈ a, l.length ≤ 60) → cntR (runsF begL k a) ≤ a.length * 60 := by
      intro k a
      induction a generalizing k with
      | nil => exact fun _ => Nat.le_refl _
      | cons x t ih =>
        intro ha
        have t1 := ih (k + 1) fun l hl => ha l (List.mem_cons_of_mem _ hl)
        rw [runsF, List.length_cons, cntR_app]
        have hx : (begL x).length ≤ 60 := by
          show (x.take (begI x)).length ≤ _
          rw [List.length_take]
          have := ha x (List.mem_cons_self ..)
          omega
        have h2 : cntR (ofL (begL x) k).toList ≤ 60 := by
          cases hb : begL x with
          | nil => exact Nat.zero_le _
          | cons a u =>
            rw [hb, List.length_cons] at hx
            show (u.length + 1) + 0 ≤ _
            omega
        omega
    have h3 := h2 0 rs (fun l hl => (h l hl).2.1)
    omega
  · obtain ⟨j, l, h1, h2, _⟩ := (tld_run CT.ok (fun l hl => (h l hl).1) c).1 ((hm.mem c).1 hc)
    exact (h l (List.mem_of_getElem? h1)).2.2 c h2

set_option maxHeartbeats 16000000 in
set_option maxRecDepth 100000 in
theorem parts_any (v : Value) (rs : List (List CT)) (p : Int) (w : World) (h : RsA w v rs) (hv : ∀ l ∈ rs, ∀ c ∈ l, inI c.vn) (hL : LaidU w) :
    Calls Tryd.prog 11 #[v, .int .i64 p] w fun e w' => e = .returned (.bool true) ∧ Below w.heap.size w w' := by
  have mixed : Tryd.prog.follows .mixedOrders = true := by kernel_rfl
  have HAl := hid (alive10_any w hL)
  have HGr : Hid (∀ W, Below w.heap.size w W → Calls Tryd.prog 48 #[v] W fun e w' => e = .returned (.bool (greatB rs)) ∧ Below W.heap.size W w') := fun W hW => great10_any v rs W (h.below hW)
  have HH := hid h
  have HL := hid hL
  have HV := hid hv
  obtain ⟨A0, c0, rfl, -, -, hh⟩ := h
  have HH3 := hid hh
  obtain ⟨N, hN⟩ : ∃ N, rs.length = N := ⟨_, rfl⟩
  have HN := hid hN
  rw [hN] at HGr HH ⊢
  clear hv hL hN hh
  go_enter Tryd.func11, Tryd.ntmps11
  go_upto_region 3 with (first | (go_at_call 47; refine HAl.out.mono ?_; rintro e w1 ⟨rfl, hb1⟩))
  have HB1 := hid hb1
  have HGr1 := hid (HGr.out w1 hb1)
  clear hb1 HAl HGr
  cases hg : greatB rs with
  | true =>
    rw [hg] at HGr1
    go_wp2_with (first | (go_at_call 48; refine HGr1.out.mono ?_; rintro e w2 ⟨rfl, hb2⟩))
    go_ret
    exact ⟨rfl, HB1.out.trans (hb2.mono HB1.out.size)⟩
  | false =>
    have HSm := hid (great_ok10 hg HV.out)
    rw [hg] at HGr1
    clear hg HV
    by_cases hp0 : p < 0
    · go_wp2_with (first | (go_at_call 48; refine HGr1.out.mono ?_; rintro e w2 ⟨rfl, hb2⟩))
      go_ret
      exact ⟨rfl, HB1.out.trans (hb2.mono HB1.out.size)⟩
    · by_cases hp1 : (N : Int) < p
      · go_wp2_with (first | (go_at_call 48; refine HGr1.out.mono ?_; rintro e w2 ⟨rfl, hb2⟩))
        go_ret
        exact ⟨rfl, HB1.out.trans (hb2.mono HB1.out.size)⟩
      · obtain ⟨k, rfl⟩ : ∃ k : Nat, p = (k : Int) := ⟨p.toNat, by omega⟩
        have hkN : k ≤ N := by omega
        have hd1 : decide (N < k) = false := decide_eq_false (by omega)
        have hd2 : decide ((k : Int) < 0) = false := decide_eq_false (by omega)
        have hd3 : decide ((N : Int) < (k : Int)) = false := decide_eq_false (by omega)
        go_upto_region 6 with (first | (go_at_call 48; refine HGr1.out.mono ?_; rintro e w2 ⟨rfl, hb2⟩))
        have HB2 := hid (HB1.out.trans (hb2.mono HB1.out.size))
        have hE := empty_qrow w2 w2.heap.size (Nat.le_refl _)
        have hbE := below_new w2 (.cells #[] 39)
        have HE : Hid (QRow (w2.alloc (.cells #[] 39)) w2.heap.size (.slice (some ⟨w2.heap.size, 0, none⟩) 0 0) (srt (rs.take 0)) ∧ Below w2.heap.size w2 (w2.alloc (.cells #[] 39))) := ⟨hE, hbE⟩
        have HSo : Hid (∀ (u : Value) (r : List CT) (W : World), ClA W u r → r ∈ rs → Calls Tryd.prog 40 #[u] W fun e w' => ∃ v', e = .returned v' ∧ CRow w' W.heap.size v' (sortL [] r) ∧ Below W.heap.size W w') := fun u r W hW hr => by
          have h1 := HSm.out.2 r hr
          exact refsort_any u r W hW h1.2 (by omega)
        clear hb2 HB1 HGr1 hE hbE
        go_wp2
        go_loopw [5, 6] (fun vr vi wr => ∃ i g c : Nat, i ≤ N ∧ vi = .int .i64 i ∧ vr = .slice (some ⟨g, 0, none⟩) i c ∧ Hid (QRow wr w2.heap.size (.slice (some ⟨g, 0, none⟩) i c) (srt (rs.take i)) ∧ Below w2.heap.size w2 wr)) (fun _ vi _ => N - (intOf vi).toNat)
        case atStart => exact ⟨0, _, _, Nat.zero_le _, rfl, rfl, HE.out⟩
        case round =>
          clear HE
          obtain ⟨i, gr, cr, hi, rfl, rfl, HI⟩ := hrel
          by_cases hlt : i < N
          · have hltz : (i : Int) < (N : Int) := by omega
            have hil : i < rs.length := by rw [HN.out]; exact hlt
            obtain ⟨bb, off, rfl, hhc⟩ := HH3.out (by omega)
            obtain ⟨r, hr⟩ : ∃ r, rs[i]? = some r := ⟨_, List.getElem?_eq_getElem hil⟩
            obtain ⟨u, hu, hcl⟩ := hhc i r hr
            have hbw := HB2.out.trans (HI.out.2.mono HB2.out.size)
            have x0 := (hbw.cell (p := ⟨bb, off + i, none⟩) (cell_lt hu)).trans hu
            have HSr := hid (HSo.out u r wr (hcl.below hbw) (List.mem_of_getElem? hr))
            have HTk := hid (srt_snoc hr)
            have hN12 : N ≤ 12 := by have := HSm.out.1; rw [HN.out] at this; exact this
            have hql : (srt (rs.take i)).length = i := by rw [srt_len, List.length_take]; omega
            have HQl := hid hql
            obtain ⟨Au, cu, rfl, -⟩ := hcl
            obtain ⟨nr, hnr⟩ : ∃ nr, r.length = nr := ⟨_, rfl⟩
            rw [hnr] at x0 HSr
            clear hr hu hnr hil hhc hbw hql
            go_upto_region 8 with (first
              | (go_at_call 40; refine HSr.out.mono ?_; rintro e w5 ⟨v5, rfl, hr5, hb5⟩; obtain ⟨A5, c5, rfl, -⟩ := hr5.len; have HQ5 := hid (And.intro (HI.out.1.below hb5) (And.intro hr5 hb5)); clear hr5 hb5)
              | (at_builtin; go_loud (refine wpList_append_part9 rfl (.tmp 30) (.tmp 36) rfl _ w2.heap.size _ (srt (rs.take i)) rfl (HQ5.out.1.below (below_new w5 (.cells #[.slice A5 (sortL [] r).length c5] 39))) w5.heap.size 1 (.slice A5 (sortL [] r).length c5) (sortL [] r) rfl ((Blk.new w5 39 #[.slice A5 (sortL [] r).length c5]).cell 0) (CRow.le (HQ5.out.2.1.below (below_new w5 (.cells #[.slice A5 (sortL [] r).length c5] 39))) (Nat.le_trans HI.out.2.size (Nat.le_refl _))) (by rw [HQl.out]; omega) (Nat.le_trans (Nat.le_trans HI.out.2.size HQ5.out.2.2.size) (below_new w5 (.cells #[.slice A5 (sortL [] r).length c5] 39)).size) ?_; intro v6 w6 hr6 hb6; obtain ⟨g6, c6, rfl⟩ := qrow_some hr6 (by rw [List.length_append, List.length_singleton]; omega); have HE6 := hid (And.intro hr6 ((HI.out.2.trans (HQ5.out.2.2.mono HI.out.2.size)).trans (((below_new w5 (.cells #[.slice A5 (sortL [] r).length c5] 39)).mono (Nat.le_trans HI.out.2.size HQ5.out.2.2.size)).trans hb6))); clear hr6 hb6)))
            rw [show (srt (rs.take i) ++ [sortL [] r]).length = i + 1 by rw [List.length_append, HQl.out]; rfl] at HE6
            rw [HQl.out]
            go_wp2
            go_roundw
            case rel => exact ⟨i + 1, g6, c6, by omega, by go_num, rfl, by rw [HTk.out]; exact HE6.out.1, HE6.out.2⟩
            case measure => simp [intOf]; omega
          · obtain rfl : i = N := by omega
            have HR : Hid (RsA wr (.slice (some ⟨gr, 0, none⟩) i cr) (srt rs) ∧ Below w.heap.size w wr) := by
              have h1 := HI.out.1.rsa
              rw [show rs.take i = rs by rw [← HN.out, List.take_length]] at h1
              exact ⟨h1, HB2.out.trans (HI.out.2.mono HB2.out.size)⟩
            have HOk := hid (srt_ok HSm.out.2)
            have hsl : (srt rs).length = i := by rw [srt_len, HN.out]
            have HSl := hid hsl
            have hi12 : i ≤ 12 := by have := HSm.out.1; rw [HN.out] at this; exact this
            have htk : ∀ l ∈ (srt rs).take k, Run CT.cmp CT.ok l ∧ l.length ≤ 60 ∧ ∀ c ∈ l, Sm c := fun l hl => HOk.out l (List.mem_of_mem_take hl)
            have hdr : ∀ l ∈ (srt rs).drop k, Run CT.cmp CT.ok l ∧ l.length ≤ 60 ∧ ∀ c ∈ l, Sm c := fun l hl => HOk.out l (List.mem_of_mem_drop hl)
            obtain ⟨a, ha, har, hal, has⟩ := told_ok htk (by rw [List.length_take]; omega)
            obtain ⟨b, hb, hbr, hbl, hbs⟩ := told_ok hdr (by rw [List.length_drop]; omega)
            obtain ⟨m, hm, -, hml, -⟩ := told_ok HOk.out (by omega)
            have hab : MgO CT.cmp (runsF begL 0 [a, b]) m := by
              obtain ⟨m2, hm2⟩ := mgr_ex (rs := [a, b]) (fun l hl => by
                rcases List.mem_cons.1 hl with rfl | hl
                · omega
                · rw [List.mem_singleton.1 hl]; omega) (by show (2 : Nat) ≤ _; omega)
              have h1 := parts_all ct_c3 CT.ok (fun l hl => (HOk.out l hl).1) k (a := a) (b := b) (l := m2) ha hb hm2
              rw [mgo_uniq ct_c3 hm (show MgO CT.cmp (runsF begL 0 (srt rs)) m2 from h1)]
              exact hm2
            have HM := hid (And.intro ha (And.intro hb (And.intro hab hm)))
            have HLs := hid (And.intro hal (And.intro hbl (And.intro has hbs)))
            have HMe : Hid (∀ (u : Value) (xs : List (List CT)) (ml : List CT), xs.length ≤ 12 → (∀ l ∈ xs, l.length ≤ 1000 ∧ ∀ c ∈ l, okC c) → MgO CT.cmp (runsF begL 0 xs) ml → ∀ W, Below w.heap.size w W → RsA W u xs → Calls Tryd.prog 57 #[u] W fun e w' => ∃ A c, e = .returned (.slice A ml.length c) ∧ Hid (ClA w' (.slice A ml.length c) ml ∧ Below W.heap.size W w')) := fun u xs ml h1 h2 h3 W hW hu => by
              refine (merge_any u xs W hu (fun l hl => ⟨by have := (h2 l hl).1; omega, (h2 l hl).2⟩) (by omega) (HL.out.below hW) h3).mono ?_
              rintro e w' ⟨v', rfl, hr', hb'⟩
              obtain ⟨A, c, rfl, _⟩ := hr'.len
              exact ⟨A, c, rfl, hr'.cla, hb'⟩
            have HT1 : Hid (∀ W, Below wr.heap.size wr W → RsA W (.slice (some ⟨gr, 0, none⟩) k cr) ((srt rs).take k)) := fun W hW => rsa_take (HR.out.1.below hW) k (by omega)
            have HT2 : Hid (∀ A2, (k < i → A2 = some ⟨gr, k, none⟩) → ∀ W, Below wr.heap.size wr W → RsA W (.slice A2 (i - k) (cr - k)) ((srt rs).drop k)) := fun A2 hA W hW => rsa_drop (HR.out.1.below hW) k (by omega) A2 fun b off e hk => by cases e; rw [Nat.zero_add]; exact hA (by omega)
            have HT3 : Hid (∀ W, Below wr.heap.size wr W → RsA W (.slice (some ⟨gr, 0, none⟩) i cr) (srt rs)) := fun W hW => HR.out.1.below hW
            have HO1 : Hid (∀ l ∈ (srt rs).take k, l.length ≤ 1000 ∧ ∀ c ∈ l, okC c) := fun l hl => ⟨by have := (htk l hl).2.1; omega, fun c hc => ((htk l hl).2.2 c hc).1⟩
            have HO2 : Hid (∀ l ∈ (srt rs).drop k, l.length ≤ 1000 ∧ ∀ c ∈ l, okC c) := fun l hl => ⟨by have := (hdr l hl).2.1; omega, fun c hc => ((hdr l hl).2.2 c hc).1⟩
            have HO3 : Hid (∀ l ∈ srt rs, l.length ≤ 1000 ∧ ∀ c ∈ l, okC c) := fun l hl => ⟨by have := (HOk.out l hl).2.1; omega, fun c hc => ((HOk.out l hl).2.2 c hc).1⟩
            have HO4 : Hid (∀ l ∈ [a, b], l.length ≤ 1000 ∧ ∀ c ∈ l, okC c) := fun l hl => by
              rcases List.mem_cons.1 hl with rfl | hl
              · exact ⟨by omega, fun c hc => (has c hc).1⟩
              · rw [List.mem_singleton.1 hl]; exact ⟨by omega, fun c hc => (hbs c hc).1⟩
            have hq1 : i ≤ cr := by
              obtain ⟨_, cq, eq, hq1, _⟩ := HR.out.1
              injection eq with _ _ eq3
              omega
            clear hsl htk hdr ha hb hm hab har hbr hal hbl has hbs hml HSo HI HH HH3 HSm HB2
            have hki : (k : Int) ≤ (i : Int) := by omega
            go_upto_region 11 with (first | (go_at_call 57; refine (HMe.out _ _ a (by rw [List.length_take]; have := HSl.out; omega) HO1.out HM.out.1 _ HR.out.2 (HT1.out wr (Below.refl _ _))).mono ?_; rintro e w6 ⟨A6, c6, rfl, H6⟩))
            have HB6 := hid (And.intro H6.out.2 (HR.out.2.trans (H6.out.2.mono HR.out.2.size)))
            have HEnd : Hid (∀ (w7 : World) (A6 : Option Addr) (c6 : Nat) (A7 : Option Addr) (c7 : Nat), ClA w7 (.slice A6 a.length c6) a → ClA w7 (.slice A7 b.length c7) b → Below wr.heap.size wr w7 → Below w.heap.size w w7 →
                Calls Tryd.prog 57 #[.slice (some ⟨w7.heap.size, 0, none⟩) 2 2] (w7.alloc (.cells #[.slice A6 a.length c6, .slice A7 b.length c7] 39)) (fun e w' => ∃ A c, e = .returned (.slice A m.length c) ∧ Hid (ClA w' (.slice A m.length c) m ∧ Below w7.heap.size w7 w')) ∧
                (∀ W, Below w7.heap.size w7 W → Calls Tryd.prog 57 #[.slice (some ⟨gr, 0, none⟩) i cr] W fun e w' => ∃ A c, e = .returned (.slice A m.length c) ∧ Hid (ClA w' (.slice A m.length c) m ∧ Below W.heap.size W w')) ∧
                (∀ W A c A' c', ClA W (.slice A m.length c) m → ClA W (.slice A' m.length c') m → Below w7.heap.size w7 W → Calls Tryd.prog 37 #[.slice A m.length c, .slice A' m.length c'] W fun e w' => e = .returned (.bool true) ∧ Hid (Below w.heap.size w w'))) := fun w7 A6 c6 A7 c7 h6 h7 hb7 hbw => by
              have hal := below_new w7 (.cells #[.slice A6 a.length c6, .slice A7 b.length c7] 39)
              refine ⟨(HMe.out _ [a, b] m (by show (2 : Nat) ≤ _; omega) HO4.out HM.out.2.2.1 _ (hbw.trans (hal.mono hbw.size)) (rsa_two w7 h6 h7)).mono fun e w' ⟨A, c, he, h1⟩ => ⟨A, c, he, h1.out.1, hal.trans (h1.out.2.mono hal.size)⟩, fun W hW => ?_, fun W A c A' c' h1 h2 hW => ?_⟩
              · exact HMe.out _ (srt rs) m (by rw [HSl.out]; exact hi12) HO3.out HM.out.2.2.2 W (hbw.trans (hW.mono hbw.size)) (HT3.out W (hb7.trans (hW.mono hb7.size)))
              · exact (samecells_any _ _ m m W h1 h2).mono fun e w' ⟨he, hb⟩ => ⟨by rw [he, decide_eq_true rfl], (hbw.trans (hW.mono hbw.size)).trans (hb.mono (Nat.le_trans hbw.size hW.size))⟩
            by_cases hck : cr = k
            · have hik : i = k := by omega
              subst hck hik
              have HT2' : Hid (∀ A2 W, RsA W (.slice A2 0 0) ((srt rs).drop i)) := fun A2 W => by
                rw [List.drop_of_length_le (by rw [HSl.out]; exact Nat.le_refl _)]
                exact ⟨A2, 0, rfl, Nat.le_refl _, by omega, fun h => absurd h (by simp)⟩
              clear hq1 hp1 hkN hd1 hd3
              go_upto_region 12 with (first | (go_at_call 57; refine (HMe.out _ _ b (by rw [List.length_drop]; have := HSl.out; omega) HO2.out HM.out.2.1 _ HB6.out.2 (HT2'.out _ w6)).mono ?_; rintro e w7 ⟨A7, c7, rfl, H7⟩))
              have HB7 := hid (And.intro (HB6.out.1.trans (H7.out.2.mono HB6.out.1.size)) (HB6.out.2.trans (H7.out.2.mono HB6.out.2.size)))
              have HFin := (HEnd.out w7 A6 c6 A7 c7 (H6.out.1.below H7.out.2) H7.out.1 HB7.out.1 HB7.out.2)
              have HF1 := hid HFin.1
              have HF2 := hid HFin.2.1
              have HF3 := hid HFin.2.2
              clear HT2' HFin HEnd HB6 H6 H7 HMe HT1 HT2 HT3 HO1 HO2 HO3 HO4 HM HLs
              go_wp2_with (first
                | (go_at_call 57; first
                    | (refine HF1.out.mono ?_; clear HF1; rintro e w8 ⟨A8, c8, rfl, H8⟩)
                    | (refine (HF2.out _ H8.out.2).mono ?_; clear HF2; rintro e w9 ⟨A9, c9, rfl, H9⟩))
                | (go_at_call 37; refine (HF3.out _ _ _ _ _ (H8.out.1.below H9.out.2) H9.out.1 (H8.out.2.trans (H9.out.2.mono H8.out.2.size))).mono ?_; rintro e w10 ⟨rfl, hb10⟩))
              go_ret
              exact ⟨rfl, hb10.out⟩
            · go_upto_region 12 with (first | (go_at_call 57; refine (HMe.out _ _ b (by rw [List.length_drop]; have := HSl.out; omega) HO2.out HM.out.2.1 _ HB6.out.2 (HT2.out _ (fun hk => by first | rfl | simp) w6 HB6.out.1)).mono ?_; rintro e w7 ⟨A7, c7, rfl, H7⟩))
              have HB7 := hid (And.intro (HB6.out.1.trans (H7.out.2.mono HB6.out.1.size)) (HB6.out.2.trans (H7.out.2.mono HB6.out.2.size)))
              have HFin := (HEnd.out w7 A6 c6 A7 c7 (H6.out.1.below H7.out.2) H7.out.1 HB7.out.1 HB7.out.2)
              have HF1 := hid HFin.1
              have HF2 := hid HFin.2.1
              have HF3 := hid HFin.2.2
              clear HFin HEnd HB6 H6 H7 HMe HT1 HT2 HT3 HO1 HO2 HO3 HO4 HM HLs
              go_wp2_with (first
                | (go_at_call 57; first
                    | (refine HF1.out.mono ?_; clear HF1; rintro e w8 ⟨A8, c8, rfl, H8⟩)
                    | (refine (HF2.out _ H8.out.2).mono ?_; clear HF2; rintro e w9 ⟨A9, c9, rfl, H9⟩))
                | (go_at_call 37; refine (HF3.out _ _ _ _ _ (H8.out.1.below H9.out.2) H9.out.1 (H8.out.2.trans (H9.out.2.mono H8.out.2.size))).mono ?_; rintro e w10 ⟨rfl, hb10⟩))
              go_ret
              exact ⟨rfl, hb10.out⟩
end Go.Proofs.YtdgkbpplngjonaaDoor
