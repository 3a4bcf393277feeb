/- MergeOne: runs, made one, are a run: each cell of it is the first one of its place, and each of any run is told, or one of an earlier run is. Conditions: the argument stands, its numbers are of 64 bits; the tables of utf8 read as they are laid. -/
import Derived.Test.YtdgkbpplngjonaaDoorMhA
import Derived.Test.YtdgkbpplngjonaaDoorMhB
import Derived.Test.YtdgkbpplngjonaaDoorPC
namespace Go.Proofs.YtdgkbpplngjonaaDoor
open Go.RowKit

section
variable {W0 W W' : World} {g n b o b2 m cn on : Nat} {x y : CT}
/-- A list of lists, a cell of one of them, a cell that stands alone: in a region that draws. -/
abbrev S28 (W0 : World) (g n b on m cn o b2 : Nat) (x y : CT) (W : World) : Prop := Hid (Below W0.heap.size W0 W ∧ g < W0.heap.size ∧ b < W0.heap.size ∧ b2 < W0.heap.size) ∧ W.cell? ⟨g, n, none⟩ = some (.slice (some ⟨b, on, none⟩) m cn) ∧ (W.cell? ⟨b, o, none⟩ = some (.string x.r) ∧ W.cell? ⟨b, o + 1, none⟩ = some (.string x.f) ∧ W.cell? ⟨b, o + 2, none⟩ = some (.string x.q) ∧ W.cell? ⟨b, o + 3, none⟩ = some (.int .i64 x.t) ∧ W.cell? ⟨b, o + 4, none⟩ = some (.int .i64 x.k) ∧ W.cell? ⟨b, o + 5, none⟩ = some (.int .i64 x.vk) ∧ W.cell? ⟨b, o + 6, none⟩ = some (.int .i64 x.vn) ∧ W.cell? ⟨b, o + 7, none⟩ = some (.string x.s)) ∧ (W.cell? ⟨b2, 0, none⟩ = some (.string y.r) ∧ W.cell? ⟨b2, 1, none⟩ = some (.string y.f) ∧ W.cell? ⟨b2, 2, none⟩ = some (.string y.q) ∧ W.cell? ⟨b2, 3, none⟩ = some (.int .i64 y.t) ∧ W.cell? ⟨b2, 4, none⟩ = some (.int .i64 y.k) ∧ W.cell? ⟨b2, 5, none⟩ = some (.int .i64 y.vk) ∧ W.cell? ⟨b2, 6, none⟩ = some (.int .i64 y.vn) ∧ W.cell? ⟨b2, 7, none⟩ = some (.string y.s))
theorem s28_call (h : S28 W0 g n b on m cn o b2 x y W) (hb : Below W.heap.size W W') : S28 W0 g n b on m cn o b2 x y W' := by
  obtain ⟨hh, z, ⟨a0, a1, a2, a3, a4, a5, a6, a7⟩, ⟨b0, b1, b2, b3, b4, b5, b6, b7⟩⟩ := h
  obtain ⟨hbw, h1, h2, h3⟩ := hh.out
  have hz := hbw.size
  have hc : ∀ b o, b < W0.heap.size → W'.cell? ⟨b, o, none⟩ = W.cell? ⟨b, o, none⟩ := fun b o h => hb.cell (p := ⟨b, o, none⟩) (show b < W.heap.size by omega)
  refine ⟨hid ⟨hbw.trans (hb.mono hz), h1, h2, h3⟩, ?_, ⟨?_, ?_, ?_, ?_, ?_, ?_, ?_, ?_⟩, ⟨?_, ?_, ?_, ?_, ?_, ?_, ?_, ?_⟩⟩ <;> (rw [hc _ _ (by omega)]; assumption)
theorem s28_drew (h : S28 W0 g n b on m cn o b2 x y W) : S28 W0 g n b on m cn o b2 x y W.drew := s28_call h (Below.refl _ _).drew
end
abbrev frC (R : List (List CT)) (j : Nat) (c : CT) : Bool := frst CT.cmp R j c
theorem told_no {ml : List CT} {q : Nat} {d c : CT} (h : ml.take (q + 1) = ml.take q ++ [d]) (hF : c ∈ ml.take q → false = true) (hn : ¬ d = c) : c ∈ ml.take (q + 1) → false = true := fun hc => by
  rw [h] at hc
  rcases List.mem_append.1 hc with hc | hc
  · exact hF hc
  · exact absurd (List.mem_singleton.1 hc).symm hn
theorem toldN_le {R : List (List CT)} (h : ∀ l ∈ R, l.length ≤ 60) : ∀ j, (toldN CT.cmp R j).length ≤ j * 60
  | 0 => Nat.le_refl _
  | j + 1 => by
    have h1 := toldN_le h j
    rw [toldN, List.length_append]
    have h2 := List.length_filter_le (frst CT.cmp R j) (R.getD j [])
    have h3 : (R.getD j []).length ≤ 60 := by
      rw [List.getD_eq_getElem?_getD]
      cases hj : R[j]? with
      | none => exact Nat.zero_le _
      | some l => exact h l (List.mem_of_getElem? hj)
    omega

theorem take_any {l : List CT} {i : Nat} {d : CT} (hd : l[i]? = some d) : l.take (i + 1) = l.take i ++ [d] := by rw [List.take_add_one, hd]; rfl

set_option maxHeartbeats 32000000 in
set_option maxRecDepth 100000 in
theorem mone_any (v : Value) (rs : List (List CT)) (w : World) (h : RsA w v rs) (hv : ∀ l ∈ rs, ∀ c ∈ l, inI c.vn) (hL : LaidU w) :
    Calls Tryd.prog 10 #[v] w fun e w' => e = .returned (.bool true) ∧ Below w.heap.size w w' := by
  have mixed : Tryd.prog.follows .mixedOrders = true := by kernel_rfl
  have HH := hid h
  have HL := hid hL
  have HV := hid hv
  obtain ⟨A0, c0, rfl, -, -, hh⟩ := h
  have HH3 := hid hh
  obtain ⟨N, hN⟩ : ∃ N, rs.length = N := ⟨_, rfl⟩
  have HN := hid hN
  rw [hN] at HH ⊢
  clear hv hL hN hh
  have HAl := hid (alive10_any w HL.out)
  have HGr : Hid (∀ W, Below w.heap.size w W → Calls Tryd.prog 48 #[.slice A0 N c0] W fun e w' => e = .returned (.bool (greatB rs)) ∧ Below W.heap.size W w') := fun W hW => great10_any _ rs W (HH.out.below hW)
  go_enter Tryd.func10, Tryd.ntmps10
  go_upto_region 3 with (first | (go_at_call 47; refine HAl.out.mono ?_; rintro e w1 ⟨rfl, hb1⟩))
  have HB1 := hid hb1
  have HGr1 := hid (HGr.out w1 hb1)
  clear hb1 HAl HGr
  cases hg : greatB rs with
  | true =>
    rw [hg] at HGr1
    go_wp2_with (first | (go_at_call 48; refine HGr1.out.mono ?_; rintro e w2 ⟨rfl, hb2⟩))
    go_ret
    exact ⟨rfl, HB1.out.trans (hb2.mono HB1.out.size)⟩
  | false =>
    have HSm := hid (great_ok10 hg HV.out)
    rw [hg] at HGr1
    clear hg HV
    go_upto_region 6 with (first | (go_at_call 48; refine HGr1.out.mono ?_; rintro e w3 ⟨rfl, hb3⟩))
    have HB3 := hid (HB1.out.trans (hb3.mono HB1.out.size))
    clear hb3
    have hE := empty_qrow w3 w3.heap.size (Nat.le_refl _)
    have hbE := below_new w3 (.cells #[] 39)
    have HE : Hid (QRow (w3.alloc (.cells #[] 39)) w3.heap.size (.slice (some ⟨w3.heap.size, 0, none⟩) 0 0) (srt (rs.take 0)) ∧ Below w3.heap.size w3 (w3.alloc (.cells #[] 39))) := ⟨hE, hbE⟩
    have HSo : Hid (∀ (u : Value) (r : List CT) (W : World), ClA W u r → r ∈ rs → Calls Tryd.prog 40 #[u] W fun e w' => ∃ v', e = .returned v' ∧ CRow w' W.heap.size v' (sortL [] r) ∧ Below W.heap.size W w') := fun u r W hW hr => by
      have h1 := HSm.out.2 r hr
      exact refsort_any u r W hW h1.2 (by omega)
    clear HB1 HGr1 hE hbE
    go_wp2
    go_loopw [3, 4] (fun vr vi wr => ∃ i g c : Nat, i ≤ N ∧ vi = .int .i64 i ∧ vr = .slice (some ⟨g, 0, none⟩) i c ∧ Hid (QRow wr w3.heap.size (.slice (some ⟨g, 0, none⟩) i c) (srt (rs.take i)) ∧ Below w3.heap.size w3 wr)) (fun _ vi _ => N - (intOf vi).toNat)
    case atStart => exact ⟨0, _, _, Nat.zero_le _, rfl, rfl, HE.out⟩
    case round =>
      clear HE
      obtain ⟨i, gr, cr, hi, rfl, rfl, HI⟩ := hrel
      by_cases hlt : i < N
      · have hltz : (i : Int) < (N : Int) := by omega
        have hil : i < rs.length := by rw [HN.out]; exact hlt
        obtain ⟨bb, off, rfl, hhc⟩ := HH3.out (by omega)
        obtain ⟨r, hr⟩ : ∃ r, rs[i]? = some r := ⟨_, List.getElem?_eq_getElem hil⟩
        obtain ⟨u, hu, hcl⟩ := hhc i r hr
        have hbw := HB3.out.trans (HI.out.2.mono HB3.out.size)
        have x0 := (hbw.cell (p := ⟨bb, off + i, none⟩) (cell_lt hu)).trans hu
        have HSr := hid (HSo.out u r wr (hcl.below hbw) (List.mem_of_getElem? hr))
        have HTk := hid (srt_snoc hr)
        have hN12 : N ≤ 12 := by have := HSm.out.1; rw [HN.out] at this; exact this
        have hql : (srt (rs.take i)).length = i := by rw [srt_len, List.length_take]; omega
        have HQl := hid hql
        obtain ⟨Au, cu, rfl, -⟩ := hcl
        obtain ⟨nr, hnr⟩ : ∃ nr, r.length = nr := ⟨_, rfl⟩
        rw [hnr] at x0 HSr
        clear hr hu hnr hil hhc hbw hql
        go_upto_region 8 with (first
          | (go_at_call 40; refine HSr.out.mono ?_; rintro e w5 ⟨v5, rfl, hr5, hb5⟩; obtain ⟨A5, c5, rfl, -⟩ := hr5.len; have HQ5 := hid (And.intro (HI.out.1.below hb5) (And.intro hr5 hb5)); clear hr5 hb5)
          | (at_builtin; refine wpList_append_part9 rfl (.tmp 26) (.tmp 32) rfl _ w3.heap.size _ (srt (rs.take i)) rfl (HQ5.out.1.below (below_new w5 (.cells #[.slice A5 (sortL [] r).length c5] 39))) w5.heap.size 1 (.slice A5 (sortL [] r).length c5) (sortL [] r) rfl ((Blk.new w5 39 #[.slice A5 (sortL [] r).length c5]).cell 0) (CRow.le (HQ5.out.2.1.below (below_new w5 (.cells #[.slice A5 (sortL [] r).length c5] 39))) (Nat.le_trans HI.out.2.size (Nat.le_refl _))) (by rw [HQl.out]; omega) (Nat.le_trans (Nat.le_trans HI.out.2.size HQ5.out.2.2.size) (below_new w5 (.cells #[.slice A5 (sortL [] r).length c5] 39)).size) ?_; intro v6 w6 hr6 hb6; obtain ⟨g6, c6, rfl⟩ := qrow_some hr6 (by rw [List.length_append, List.length_singleton]; omega); have HE6 := hid (And.intro hr6 ((HI.out.2.trans (HQ5.out.2.2.mono HI.out.2.size)).trans (((below_new w5 (.cells #[.slice A5 (sortL [] r).length c5] 39)).mono (Nat.le_trans HI.out.2.size HQ5.out.2.2.size)).trans hb6))); clear hr6 hb6))
        rw [show (srt (rs.take i) ++ [sortL [] r]).length = i + 1 by rw [List.length_append, HQl.out]; rfl] at HE6
        rw [HQl.out]
        go_wp2
        go_roundw
        case rel => exact ⟨i + 1, g6, c6, by omega, by go_num, rfl, by rw [HTk.out]; exact HE6.out.1, HE6.out.2⟩
        case measure => simp [intOf]; omega
      · obtain rfl : i = N := by omega
        have HR : Hid (RsA wr (.slice (some ⟨gr, 0, none⟩) i cr) (srt rs) ∧ Below w.heap.size w wr) := by
          have h1 := HI.out.1.rsa
          rw [show rs.take i = rs by rw [← HN.out, List.take_length]] at h1
          exact ⟨h1, HB3.out.trans (HI.out.2.mono HB3.out.size)⟩
        have HOk := hid (srt_ok HSm.out.2)
        have hsl : (srt rs).length = i := by rw [srt_len, HN.out]
        have hi12 : i ≤ 12 := by have := HSm.out.1; rw [HN.out] at this; exact this
        obtain ⟨ml, hm, hrun, hml, hms⟩ := told_ok HOk.out (by omega)
        have HMl := hid (And.intro hml hms)
        have HMe := hid (merge_any _ (srt rs) wr HR.out.1 (fun l hl => ⟨by have := (HOk.out l hl).2.1; omega, fun c hc => ((HOk.out l hl).2.2 c hc).1⟩) (by omega) (HL.out.below HR.out.2) hm)
        have HTo : Hid ((toldN CT.cmp (srt rs) i).length = ml.length ∧ ∀ (j : Nat) (l : List CT) (c : CT), (srt rs)[j]? = some l → c ∈ l → frC (srt rs) j c = true → c ∈ ml) := by
          have h1 := toldN_len ct_c3 CT.ok (fun l hl => (HOk.out l hl).1) (ml := ml) hm
          rw [hsl] at h1
          exact ⟨h1, fun j l c h2 h3 h4 => frst_told CT.ok (fun l hl => (HOk.out l hl).1) (ml := ml) hm h2 h3 h4⟩
        have HFi : Hid (∀ (u : Value) (W : World), ClA W u ml → Calls Tryd.prog 61 #[u] W fun e w' => e = .returned (.bool true) ∧ Below W.heap.size W w') := fun u W hu => by
          have h1 := reffine_any u ml W hu (fun c hc => (hms c hc).dc)
          rw [(fineK_iff ml).2 ⟨hrun.1, hrun.2⟩] at h1
          exact h1
        obtain ⟨R, hR⟩ : ∃ R, srt rs = R := ⟨_, rfl⟩
        rw [hR] at HR HOk hsl HTo
        have HLR := hid hsl
        clear hm hrun hml hms hsl hR HSo HI HH HH3 HSm HB3
        go_upto_region 13 with (first
          | (go_at_call 57; refine HMe.out.mono ?_; rintro e w7 ⟨va, rfl, hr7, hb7⟩; obtain ⟨Aa, ca, rfl, -⟩ := hr7.len; have HR7 := hid (And.intro (HR.out.1.below hb7) (And.intro hr7.cla (HR.out.2.trans (hb7.mono HR.out.2.size)))); clear hr7 hb7)
          | (go_at_call 61; refine (HFi.out _ _ HR7.out.2.1).mono ?_; rintro e w8 ⟨rfl, hb8⟩; have HR8 := hid (And.intro (HR7.out.1.below hb8) (And.intro (HR7.out.2.1.below hb8) (HR7.out.2.2.trans (hb8.mono HR7.out.2.2.size)))); clear hb8))
        clear HMe HFi HR7 HR
        obtain ⟨M, hM⟩ : ∃ M, ml.length = M := ⟨_, rfl⟩
        have HM := hid hM
        rw [hM] at HR8 HTo ⊢
        have hM7 : M ≤ 720 := by rw [← hM]; exact HMl.out.1
        clear hM
        obtain ⟨_, _, e8, -, -, hh8⟩ := HR8.out.1
        injection e8 with e81 e82 e83
        subst e81 e83
        have HRs := hid hh8
        clear hh8 e82
        obtain ⟨wB, hwB⟩ : ∃ x, x = w8 := ⟨_, rfl⟩
        subst hwB
        go_wp2
        go_loopw [6, 7] (fun vu vj wr => ∃ j : Nat, j ≤ i ∧ vj = .int .i64 j ∧ vu = .int .i64 ((toldN CT.cmp R j).length : Nat) ∧ Hid (Below wB.heap.size wB wr)) (fun _ vj _ => i - (intOf vj).toNat)
        case atStart => exact ⟨0, Nat.zero_le _, rfl, rfl, Below.refl _ _⟩
        case round =>
          obtain ⟨j, hj, rfl, rfl, HB⟩ := hrel
          by_cases hjlt : j < i
          · have hjz : (j : Int) < (i : Int) := by omega
            have hjl : j < R.length := by rw [HLR.out]; exact hjlt
            obtain ⟨bg, og, ea, hhr⟩ := HRs.out (by omega)
            injection ea with ea
            injection ea with ea1 ea2
            subst ea1 ea2
            obtain ⟨lj, hlj⟩ : ∃ l, R[j]? = some l := ⟨_, List.getElem?_eq_getElem hjl⟩
            obtain ⟨uj, huj, hcj⟩ := hhr j lj hlj
            rw [Nat.zero_add] at huj
            have HJ := hid (And.intro hlj (And.intro huj hcj))
            have hlj60 := (HOk.out lj (List.mem_of_getElem? hlj)).2.1
            have HSj := hid (HOk.out lj (List.mem_of_getElem? hlj)).2.2
            have HgB : Hid (gr < wB.heap.size) := cell_lt huj
            have HTj : Hid (toldN CT.cmp R (j + 1) = toldN CT.cmp R j ++ lj.filter (frC R j)) := by
              show toldN CT.cmp R (j + 1) = _
              rw [toldN, List.getD_eq_getElem?_getD, hlj]
              rfl
            have hTl : (toldN CT.cmp R j).length ≤ 720 := by
              have := toldN_le (fun l hl => (HOk.out l hl).2.1) j
              omega
            obtain ⟨Aj, cj, rfl, -, -, hhj⟩ := hcj
            have HHj := hid hhj
            obtain ⟨nj, hnj⟩ : ∃ n, lj.length = n := ⟨_, rfl⟩
            have HNj := hid hnj
            rw [hnj] at huj HJ hlj60
            obtain ⟨T0, hT0⟩ : ∃ T, (toldN CT.cmp R j).length = T := ⟨_, rfl⟩
            have HT0 := hid hT0
            rw [hT0] at hTl ⊢
            clear hT0 hnj hhj hlj hhr hjl
            obtain ⟨wj, hwj⟩ : ∃ x, x = wr := ⟨_, rfl⟩
            subst hwj
            go_upto_region 18 with (fail)
            go_loopw [6, 8] (fun vu vk wr => ∃ k : Nat, k ≤ nj ∧ vk = .int .i64 k ∧ vu = .int .i64 ((T0 + ((lj.take k).filter (frC R j)).length : Nat)) ∧ Hid (Below wB.heap.size wB wr)) (fun _ vk _ => nj - (intOf vk).toNat)
            case atStart => exact ⟨0, Nat.zero_le _, rfl, by rw [List.take_zero]; rfl, HB.out⟩
            case round =>
              clear HB
              obtain ⟨k, hk, rfl, rfl, HB⟩ := hrel
              have y0 := (HB.out.cell (p := ⟨gr, j, none⟩) HgB.out).trans huj
              by_cases hklt : k < nj
              · have hkz : (k : Int) < (nj : Int) := by omega
                have hkl : k < lj.length := by rw [HNj.out]; exact hklt
                obtain ⟨bj, oj, rfl, hhc⟩ := HHj.out (by omega)
                have HbB : Hid (bj < wB.heap.size) := hhc.lt (by omega)
                obtain ⟨c, hc⟩ : ∃ c, lj[k]? = some c := ⟨_, List.getElem?_eq_getElem hkl⟩
                have HC := hid hc
                have HcS : Hid (Sm c) := HSj.out c (List.mem_of_getElem? hc)
                obtain ⟨x0, x1, x2, x3, x4, x5, x6, x7⟩ := ct_words (hhc.below HB.out HbB.out) k hc
                obtain ⟨U, hU⟩ : ∃ U, T0 + ((lj.take k).filter (frC R j)).length = U := ⟨_, rfl⟩
                have HU := hid hU
                have hU9 : U ≤ 800 := by
                  rw [← hU]
                  have := List.length_filter_le (frC R j) (lj.take k)
                  rw [List.length_take] at this
                  omega
                have hUw : IntKind.i64.wrap ((U : Int) + 1) = (U : Int) + 1 := by rw [IntKind.wrap_i64]; omega
                rw [hU]
                clear hc hU hkl hhc
                go_upto_region 21 with (fail)
                clear x0 x1 x2 x3 x4 x5 x6 x7 y0
                obtain ⟨cb, hcb⟩ : ∃ cb, wr.heap.size = cb := ⟨_, rfl⟩
                obtain ⟨S0, hS0⟩ : ∃ S, S = wB.heap.size := ⟨_, rfl⟩
                refine wp_lt9 (fun W => Hid (DW W cb c ∧ Below S0 wB W)) ?_ ?_
                · rw [← hcb, hS0]
                  exact ⟨Blk.new wr _ _, HB.out.trans ((below_new wr _).mono HB.out.size)⟩
                rw [hcb]
                clear hcb HB
                rintro w9 H9
                subst hS0
                go_upto_region 23 with (fail)
                go_loopw [10, 11] (fun vf vn wr => ∃ (n : Nat) (fb : Bool), n ≤ j ∧ vn = .int .i64 n ∧ vf = .bool fb ∧ Hid (fb = frC R n c) ∧ Hid (Below w9.heap.size w9 wr)) (fun _ vn _ => j - (intOf vn).toNat)
                case atStart => exact ⟨0, true, Nat.zero_le _, rfl, rfl, rfl, Below.refl _ _⟩
                case round =>
                  obtain ⟨n, fb, hn, rfl, rfl, HF, HB⟩ := hrel
                  have HBB : Hid (Below wB.heap.size wB wr) := H9.out.2.trans (HB.out.mono H9.out.2.size)
                  cases fb with
                  | false =>
                    have HNo : Hid (((lj.take (k + 1)).filter (frC R j)).length = ((lj.take k).filter (frC R j)).length) := by
                      have h1 : frC R j c = false := frst_no HF.out.symm hn
                      show List.length _ = List.length _
                      rw [take_any HC.out, List.filter_append, List.filter_cons, if_neg (by rw [h1]; simp)]
                      simp
                    by_cases hnlt : n < j
                    · have hnz : (n : Int) < (j : Int) := by omega
                      go_wp2
                      go_roundw
                      case rel => exact ⟨k + 1, by omega, by go_num, by rw [HNo.out, HU.out], HBB.out⟩
                      case measure => simp [intOf]; omega
                    · have hnz : ¬ (n : Int) < (j : Int) := by omega
                      go_wp2
                      go_roundw
                      case rel => exact ⟨k + 1, by omega, by go_num, by rw [HNo.out, HU.out], HBB.out⟩
                      case measure => simp [intOf]; omega
                  | true =>
                    by_cases hnlt : n < j
                    · have hnz : (n : Int) < (j : Int) := by omega
                      have hni : n < i := by omega
                      have hniz : (n : Int) < (i : Int) := by omega
                      have hnl : n < R.length := by rw [HLR.out]; omega
                      obtain ⟨bg, og, ea, hhr⟩ := HRs.out (by omega)
                      injection ea with ea
                      injection ea with ea1 ea2
                      subst ea1 ea2
                      obtain ⟨ln, hln⟩ : ∃ l, R[n]? = some l := ⟨_, List.getElem?_eq_getElem hnl⟩
                      obtain ⟨un, hun, hcn⟩ := hhr n ln hln
                      rw [Nat.zero_add] at hun
                      have HSn := hid (HOk.out ln (List.mem_of_getElem? hln)).2.2
                      have HFs : Hid (frC R (n + 1) c = ln.all fun e => decide (¬ CT.cmp e c = 0)) := by
                        show frC R (n + 1) c = _
                        rw [show frC R (n + 1) c = _ from frst_succ hln, show frst CT.cmp R n c = true from HF.out.symm, Bool.true_and]
                      obtain ⟨An, cn, rfl, -, -, hhn⟩ := hcn
                      have HHn := hid hhn
                      obtain ⟨m, hm⟩ : ∃ n, ln.length = n := ⟨_, rfl⟩
                      have HNn := hid hm
                      have hm60 : m ≤ 60 := by rw [← hm]; exact (HOk.out ln (List.mem_of_getElem? hln)).2.1
                      rw [hm] at hun
                      have HUn := hid hun
                      clear hm hhn hln hhr hnl HF
                      go_upto_region 26 with (fail)
                      go_loopw [10, 12] (fun vf vp wr => ∃ (p : Nat) (fb : Bool), p ≤ m ∧ vp = .int .i64 p ∧ vf = .bool fb ∧ Hid (fb = (ln.take p).all fun e => decide (¬ CT.cmp e c = 0)) ∧ Hid (Below w9.heap.size w9 wr)) (fun _ vp _ => m - (intOf vp).toNat)
                      case atStart => exact ⟨0, true, Nat.zero_le _, rfl, rfl, rfl, HB.out⟩
                      case round =>
                        clear HBB HB
                        obtain ⟨p, fb, hp, rfl, rfl, HF, HB⟩ := hrel
                        have HBB : Hid (Below wB.heap.size wB wr) := H9.out.2.trans (HB.out.mono H9.out.2.size)
                        have y0 := (HBB.out.cell (p := ⟨gr, n, none⟩) HgB.out).trans HUn.out
                        by_cases hplt : p < m
                        · have hpz : (p : Int) < (m : Int) := by omega
                          have hpl : p < ln.length := by rw [HNn.out]; exact hplt
                          obtain ⟨bn, on, rfl, hhc⟩ := HHn.out (by omega)
                          have hbn : bn < wB.heap.size := hhc.lt (by omega)
                          obtain ⟨e, he⟩ : ∃ c, ln[p]? = some c := ⟨_, List.getElem?_eq_getElem hpl⟩
                          obtain ⟨o, ho⟩ : ∃ o, CT.cmp e c = o := ⟨_, rfl⟩
                          have HOr : Hid (∀ W, Calls Tryd.prog 46 #[e.v, c.v] W fun e' w' => e' = .returned (.int .i64 o) ∧ Below W.heap.size W w') := fun W => by rw [← ho]; exact reforder_ct e c (HSn.out e (List.mem_of_getElem? he)) HcS.out W
                          have HAn : Hid (((ln.take (p + 1)).all fun e => decide (¬ CT.cmp e c = 0)) = (((ln.take p).all fun e => decide (¬ CT.cmp e c = 0)) && decide (¬ o = 0))) := by
                            show List.all _ _ = _
                            rw [take_any he, List.all_append, ← ho]
                            simp
                          have HT : Hid (S28 wr gr n bn on m cn (on + p * 8) cb e c wr) := ⟨hid ⟨Below.refl _ _, Nat.lt_of_lt_of_le HgB.out HBB.out.size, Nat.lt_of_lt_of_le hbn HBB.out.size, Nat.lt_of_lt_of_le (Blk.lt H9.out.1) HB.out.size⟩, y0, ct_words (hhc.below HBB.out hbn) p he, (DW.below H9.out.1 HB.out).words⟩
                          obtain ⟨-, -, ⟨x0, x1, x2, x3, x4, x5, x6, x7⟩, ⟨z0, z1, z2, z3, z4, z5, z6, z7⟩⟩ := HT.out
                          clear he ho hpl hhc hbn
                          cases fb with
                          | true =>
                            go_upto_region 28 with (fail)
                            refine wp_region_held_drew (S := (fun W' => Hid (Below wr.heap.size wr W' ∧ gr < wr.heap.size ∧ bn < wr.heap.size ∧ cb < wr.heap.size) ∧ W'.cell? ⟨gr, n, none⟩ = some (.slice (some ⟨bn, on, none⟩) m cn) ∧ (W'.cell? ⟨bn, on + p * 8, none⟩ = some (.string e.r) ∧ W'.cell? ⟨bn, on + p * 8 + 1, none⟩ = some (.string e.f) ∧ W'.cell? ⟨bn, on + p * 8 + 2, none⟩ = some (.string e.q) ∧ W'.cell? ⟨bn, on + p * 8 + 3, none⟩ = some (.int .i64 e.t) ∧ W'.cell? ⟨bn, on + p * 8 + 4, none⟩ = some (.int .i64 e.k) ∧ W'.cell? ⟨bn, on + p * 8 + 5, none⟩ = some (.int .i64 e.vk) ∧ W'.cell? ⟨bn, on + p * 8 + 6, none⟩ = some (.int .i64 e.vn) ∧ W'.cell? ⟨bn, on + p * 8 + 7, none⟩ = some (.string e.s)) ∧ (W'.cell? ⟨cb, 0, none⟩ = some (.string c.r) ∧ W'.cell? ⟨cb, 1, none⟩ = some (.string c.f) ∧ W'.cell? ⟨cb, 2, none⟩ = some (.string c.q) ∧ W'.cell? ⟨cb, 3, none⟩ = some (.int .i64 c.t) ∧ W'.cell? ⟨cb, 4, none⟩ = some (.int .i64 c.k) ∧ W'.cell? ⟨cb, 5, none⟩ = some (.int .i64 c.vk) ∧ W'.cell? ⟨cb, 6, none⟩ = some (.int .i64 c.vn) ∧ W'.cell? ⟨cb, 7, none⟩ = some (.string c.s)))) (by kernel_rfl) ?_ (fun hHeld => ?_)
                            (exact s28_drew HT.out)
                            (refine wpAnyH_take (i := 0) (v := ?_) rfl (by kernel_rfl) (by kernel_rfl) (by kernel_rfl) (fun _ _ _ h => h) (Or.inl ⟨by kernel_rfl, ?_⟩) (by assumption) ?_; rotate_left; · (intro w hSw; (try dsimp only at hSw); go_simp; first | done | with_reducible rfl))
                            (try simp only [Act.put]); (try simp only [List.getElem_toArray]); (try simp only [List.getElem_cons_succ]); (try simp only [List.getElem_cons_zero]); (try simp only [List.setIfInBounds_toArray]); (try simp only [List.set_cons_succ]); (try simp only [List.set_cons_zero])
                            (refine wpAnyH_take (i := 1) (v := ?_) rfl (by kernel_rfl) (by kernel_rfl) (by kernel_rfl) (fun _ _ _ h => h) (Or.inl ⟨by kernel_rfl, ?_⟩) (by assumption) ?_; rotate_left; · (intro w hSw; (try dsimp only at hSw); go_simp; first | done | with_reducible rfl))
                            (try simp only [Act.put]); (try simp only [List.getElem_toArray]); (try simp only [List.getElem_cons_succ]); (try simp only [List.getElem_cons_zero]); (try simp only [List.setIfInBounds_toArray]); (try simp only [List.set_cons_succ]); (try simp only [List.set_cons_zero])
                            (refine wpAnyH_take (i := 2) (v := ?_) rfl (by kernel_rfl) (by kernel_rfl) (by kernel_rfl) (fun _ _ _ h => h) (Or.inl ⟨by kernel_rfl, ?_⟩) (by assumption) ?_; rotate_left; · (intro w hSw; (try dsimp only at hSw); go_simp; first | done | with_reducible rfl))
                            (try simp only [Act.put]); (try simp only [List.getElem_toArray]); (try simp only [List.getElem_cons_succ]); (try simp only [List.getElem_cons_zero]); (try simp only [List.setIfInBounds_toArray]); (try simp only [List.set_cons_succ]); (try simp only [List.set_cons_zero])
                            (refine wpAnyH_take (i := 3) (v := ?_) rfl (by kernel_rfl) (by kernel_rfl) (by kernel_rfl) (fun _ _ _ h => h) (Or.inl ⟨by kernel_rfl, ?_⟩) (by assumption) ?_; rotate_left; · (intro w hSw; (try dsimp only at hSw); go_simp; first | done | with_reducible rfl))
                            (try simp only [Act.put]); (try simp only [List.getElem_toArray]); (try simp only [List.getElem_cons_succ]); (try simp only [List.getElem_cons_zero]); (try simp only [List.setIfInBounds_toArray]); (try simp only [List.set_cons_succ]); (try simp only [List.set_cons_zero])
                            (refine wpAnyH_take (i := 4) (v := ?_) rfl (by kernel_rfl) (by kernel_rfl) (by kernel_rfl) (fun _ _ _ h => h) (Or.inl ⟨by kernel_rfl, ?_⟩) (by assumption) ?_; rotate_left; · (intro w hSw; (try dsimp only at hSw); go_simp; first | done | with_reducible rfl))
                            (try simp only [Act.put]); (try simp only [List.getElem_toArray]); (try simp only [List.getElem_cons_succ]); (try simp only [List.getElem_cons_zero]); (try simp only [List.setIfInBounds_toArray]); (try simp only [List.set_cons_succ]); (try simp only [List.set_cons_zero])
                            (refine wpAnyH_take (i := 5) (v := ?_) rfl (by kernel_rfl) (by kernel_rfl) (by kernel_rfl) (fun _ _ _ h => h) (Or.inl ⟨by kernel_rfl, ?_⟩) (by assumption) ?_; rotate_left; · (intro w hSw; (try dsimp only at hSw); go_simp; first | done | with_reducible rfl))
                            (try simp only [Act.put]); (try simp only [List.getElem_toArray]); (try simp only [List.getElem_cons_succ]); (try simp only [List.getElem_cons_zero]); (try simp only [List.setIfInBounds_toArray]); (try simp only [List.set_cons_succ]); (try simp only [List.set_cons_zero])
                            (refine wpAnyH_take (i := 6) (v := ?_) rfl (by kernel_rfl) (by kernel_rfl) (by kernel_rfl) (fun _ _ _ h => h) (Or.inl ⟨by kernel_rfl, ?_⟩) (by assumption) ?_; rotate_left; · (intro w hSw; (try dsimp only at hSw); go_simp; first | done | with_reducible rfl))
                            (try simp only [Act.put]); (try simp only [List.getElem_toArray]); (try simp only [List.getElem_cons_succ]); (try simp only [List.getElem_cons_zero]); (try simp only [List.setIfInBounds_toArray]); (try simp only [List.set_cons_succ]); (try simp only [List.set_cons_zero])
                            (refine wpAnyH_take (i := 7) (v := ?_) rfl (by kernel_rfl) (by kernel_rfl) (by kernel_rfl) (fun _ _ _ h => h) (Or.inl ⟨by kernel_rfl, ?_⟩) (by assumption) ?_; rotate_left; · (intro w hSw; (try dsimp only at hSw); go_simp; first | done | with_reducible rfl))
                            (try simp only [Act.put]); (try simp only [List.getElem_toArray]); (try simp only [List.getElem_cons_succ]); (try simp only [List.getElem_cons_zero]); (try simp only [List.setIfInBounds_toArray]); (try simp only [List.set_cons_succ]); (try simp only [List.set_cons_zero])
                            (refine wpAnyH_take (i := 8) (v := ?_) rfl (by kernel_rfl) (by kernel_rfl) (by kernel_rfl) (fun _ _ _ h => h) (Or.inl ⟨by kernel_rfl, ?_⟩) (by assumption) ?_; rotate_left; · (intro w hSw; (try dsimp only at hSw); go_simp; first | done | with_reducible rfl))
                            (try simp only [Act.put]); (try simp only [List.getElem_toArray]); (try simp only [List.getElem_cons_succ]); (try simp only [List.getElem_cons_zero]); (try simp only [List.setIfInBounds_toArray]); (try simp only [List.set_cons_succ]); (try simp only [List.set_cons_zero])
                            (refine wpAnyH_take (i := 9) (v := ?_) rfl (by kernel_rfl) (by kernel_rfl) (by kernel_rfl) (fun _ _ _ h => h) (Or.inl ⟨by kernel_rfl, ?_⟩) (by assumption) ?_; rotate_left; · (intro w hSw; (try dsimp only at hSw); go_simp; first | done | with_reducible rfl))
                            (try simp only [Act.put]); (try simp only [List.getElem_toArray]); (try simp only [List.getElem_cons_succ]); (try simp only [List.getElem_cons_zero]); (try simp only [List.setIfInBounds_toArray]); (try simp only [List.set_cons_succ]); (try simp only [List.set_cons_zero])
                            (refine wpAnyH_ready (rs := [10]) (by kernel_rfl) (by simp) (AllReadyH.cons rfl (fun K hK => ?_) AllReadyH.nil); go_simp; (go_at_call 46; refine (HOr.out _).mono ?_; rintro e9 w5 ⟨rfl, hb5⟩); refine hK.out _ _ ?_ (fun hHeld => ?_))
                            · exact s28_call (by assumption) hb5
                            clear hK K
                            (try simp only [Act.put]); (try simp only [List.getElem_toArray]); (try simp only [List.getElem_cons_succ]); (try simp only [List.getElem_cons_zero]); (try simp only [List.setIfInBounds_toArray]); (try simp only [List.set_cons_succ]); (try simp only [List.set_cons_zero])
                            (refine wpAnyH_take (i := 11) (v := ?_) rfl (by kernel_rfl) (by kernel_rfl) (by kernel_rfl) (fun _ _ _ h => h) (Or.inl ⟨by kernel_rfl, ?_⟩) (by assumption) ?_; rotate_left; · (intro w hSw; (try dsimp only at hSw); go_simp; first | done | with_reducible rfl))
                            (try simp only [Act.put]); (try simp only [List.getElem_toArray]); (try simp only [List.getElem_cons_succ]); (try simp only [List.getElem_cons_zero]); (try simp only [List.setIfInBounds_toArray]); (try simp only [List.set_cons_succ]); (try simp only [List.set_cons_zero])
                            (refine wpAnyH_take (i := 12) (v := ?_) rfl (by kernel_rfl) (by kernel_rfl) (by kernel_rfl) (fun _ _ _ h => h) (Or.inl ⟨by kernel_rfl, ?_⟩) (by assumption) ?_; rotate_left; · (intro w hSw; (try dsimp only at hSw); go_simp; first | done | with_reducible rfl))
                            (try simp only [Act.put]); (try simp only [List.getElem_toArray]); (try simp only [List.getElem_cons_succ]); (try simp only [List.getElem_cons_zero]); (try simp only [List.setIfInBounds_toArray]); (try simp only [List.set_cons_succ]); (try simp only [List.set_cons_zero])
                            (refine wpAnyH_take (i := 13) (v := ?_) rfl (by kernel_rfl) (by kernel_rfl) (by kernel_rfl) (fun _ _ _ h => h) (Or.inl ⟨by kernel_rfl, ?_⟩) (by assumption) ?_; rotate_left; · (intro w hSw; (try dsimp only at hSw); go_simp; first | done | with_reducible rfl))
                            (try simp only [Act.put]); (try simp only [List.getElem_toArray]); (try simp only [List.getElem_cons_succ]); (try simp only [List.getElem_cons_zero]); (try simp only [List.setIfInBounds_toArray]); (try simp only [List.set_cons_succ]); (try simp only [List.set_cons_zero])
                            refine wpAnyH_done (by kernel_rfl) ?_ _
                            have HB2 := hid (HB.out.trans (hHeld.1.out.1.mono HB.out.size))
                            clear hHeld HT
                            clear x0 x1 x2 x3 x4 x5 x6 x7 z0 z1 z2 z3 z4 z5 z6 z7 y0
                            go_wp2
                            go_roundw
                            case rel => exact ⟨p + 1, _, by omega, by go_num, rfl, by show _ = _; rw [HAn.out, ← HF.out]; by_cases h0 : o = 0 <;> simp [h0], HB2.out⟩
                            case measure => simp [intOf]; omega
                          | false =>
                            clear HT x0 x1 x2 x3 x4 x5 x6 x7 z0 z1 z2 z3 z4 z5 z6 z7
                            go_upto_region 28 with (fail)
                            refine wp_region_held_drew (S := (fun W' => Hid (Below wr.heap.size wr W'))) (by kernel_rfl) ?_ (fun hHeld => ?_)
                            (exact hid (Below.refl _ wr).drew)
                            (refine wpAnyH_take (i := 0) (v := ?_) rfl (by kernel_rfl) (by kernel_rfl) (by kernel_rfl) (fun _ _ _ h => h) (Or.inl ⟨by kernel_rfl, ?_⟩) (by assumption) ?_; rotate_left; · (intro w hSw; (try dsimp only at hSw); go_simp; first | done | with_reducible rfl))
                            (try simp only [Act.put]); (try simp only [List.getElem_toArray]); (try simp only [List.getElem_cons_succ]); (try simp only [List.getElem_cons_zero]); (try simp only [List.setIfInBounds_toArray]); (try simp only [List.set_cons_succ]); (try simp only [List.set_cons_zero])
                            (refine wpAnyH_take (i := 1) (v := ?_) rfl (by kernel_rfl) (by kernel_rfl) (by kernel_rfl) (fun _ _ _ h => h) (Or.inl ⟨by kernel_rfl, ?_⟩) (by assumption) ?_; rotate_left; · (intro w hSw; (try dsimp only at hSw); go_simp; first | done | with_reducible rfl))
                            (try simp only [Act.put]); (try simp only [List.getElem_toArray]); (try simp only [List.getElem_cons_succ]); (try simp only [List.getElem_cons_zero]); (try simp only [List.setIfInBounds_toArray]); (try simp only [List.set_cons_succ]); (try simp only [List.set_cons_zero])
                            (refine wpAnyH_take (i := 2) (v := undef) rfl (by kernel_rfl) (by kernel_rfl) (by kernel_rfl) (fun _ _ _ h => h) (Or.inr ⟨by kernel_rfl, rfl⟩) (by assumption) ?_; (try simp only [Act.put]); (try simp only [List.getElem_toArray]); (try simp only [List.getElem_cons_succ]); (try simp only [List.getElem_cons_zero]); (try simp only [List.setIfInBounds_toArray]); (try simp only [List.set_cons_succ]); (try simp only [List.set_cons_zero]))
                            (refine wpAnyH_take (i := 3) (v := undef) rfl (by kernel_rfl) (by kernel_rfl) (by kernel_rfl) (fun _ _ _ h => h) (Or.inr ⟨by kernel_rfl, rfl⟩) (by assumption) ?_; (try simp only [Act.put]); (try simp only [List.getElem_toArray]); (try simp only [List.getElem_cons_succ]); (try simp only [List.getElem_cons_zero]); (try simp only [List.setIfInBounds_toArray]); (try simp only [List.set_cons_succ]); (try simp only [List.set_cons_zero]))
                            (refine wpAnyH_take (i := 4) (v := undef) rfl (by kernel_rfl) (by kernel_rfl) (by kernel_rfl) (fun _ _ _ h => h) (Or.inr ⟨by kernel_rfl, rfl⟩) (by assumption) ?_; (try simp only [Act.put]); (try simp only [List.getElem_toArray]); (try simp only [List.getElem_cons_succ]); (try simp only [List.getElem_cons_zero]); (try simp only [List.setIfInBounds_toArray]); (try simp only [List.set_cons_succ]); (try simp only [List.set_cons_zero]))
                            (refine wpAnyH_take (i := 5) (v := undef) rfl (by kernel_rfl) (by kernel_rfl) (by kernel_rfl) (fun _ _ _ h => h) (Or.inr ⟨by kernel_rfl, rfl⟩) (by assumption) ?_; (try simp only [Act.put]); (try simp only [List.getElem_toArray]); (try simp only [List.getElem_cons_succ]); (try simp only [List.getElem_cons_zero]); (try simp only [List.setIfInBounds_toArray]); (try simp only [List.set_cons_succ]); (try simp only [List.set_cons_zero]))
                            (refine wpAnyH_take (i := 6) (v := undef) rfl (by kernel_rfl) (by kernel_rfl) (by kernel_rfl) (fun _ _ _ h => h) (Or.inr ⟨by kernel_rfl, rfl⟩) (by assumption) ?_; (try simp only [Act.put]); (try simp only [List.getElem_toArray]); (try simp only [List.getElem_cons_succ]); (try simp only [List.getElem_cons_zero]); (try simp only [List.setIfInBounds_toArray]); (try simp only [List.set_cons_succ]); (try simp only [List.set_cons_zero]))
                            (refine wpAnyH_take (i := 7) (v := undef) rfl (by kernel_rfl) (by kernel_rfl) (by kernel_rfl) (fun _ _ _ h => h) (Or.inr ⟨by kernel_rfl, rfl⟩) (by assumption) ?_; (try simp only [Act.put]); (try simp only [List.getElem_toArray]); (try simp only [List.getElem_cons_succ]); (try simp only [List.getElem_cons_zero]); (try simp only [List.setIfInBounds_toArray]); (try simp only [List.set_cons_succ]); (try simp only [List.set_cons_zero]))
                            (refine wpAnyH_take (i := 8) (v := undef) rfl (by kernel_rfl) (by kernel_rfl) (by kernel_rfl) (fun _ _ _ h => h) (Or.inr ⟨by kernel_rfl, rfl⟩) (by assumption) ?_; (try simp only [Act.put]); (try simp only [List.getElem_toArray]); (try simp only [List.getElem_cons_succ]); (try simp only [List.getElem_cons_zero]); (try simp only [List.setIfInBounds_toArray]); (try simp only [List.set_cons_succ]); (try simp only [List.set_cons_zero]))
                            (refine wpAnyH_take (i := 9) (v := undef) rfl (by kernel_rfl) (by kernel_rfl) (by kernel_rfl) (fun _ _ _ h => h) (Or.inr ⟨by kernel_rfl, rfl⟩) (by assumption) ?_; (try simp only [Act.put]); (try simp only [List.getElem_toArray]); (try simp only [List.getElem_cons_succ]); (try simp only [List.getElem_cons_zero]); (try simp only [List.setIfInBounds_toArray]); (try simp only [List.set_cons_succ]); (try simp only [List.set_cons_zero]))
                            (refine wpAnyH_take (i := 10) (v := undef) rfl (by kernel_rfl) (by kernel_rfl) (by kernel_rfl) (fun _ _ _ h => h) (Or.inr ⟨by kernel_rfl, rfl⟩) (by assumption) ?_; (try simp only [Act.put]); (try simp only [List.getElem_toArray]); (try simp only [List.getElem_cons_succ]); (try simp only [List.getElem_cons_zero]); (try simp only [List.setIfInBounds_toArray]); (try simp only [List.set_cons_succ]); (try simp only [List.set_cons_zero]))
                            (refine wpAnyH_take (i := 11) (v := undef) rfl (by kernel_rfl) (by kernel_rfl) (by kernel_rfl) (fun _ _ _ h => h) (Or.inr ⟨by kernel_rfl, rfl⟩) (by assumption) ?_; (try simp only [Act.put]); (try simp only [List.getElem_toArray]); (try simp only [List.getElem_cons_succ]); (try simp only [List.getElem_cons_zero]); (try simp only [List.setIfInBounds_toArray]); (try simp only [List.set_cons_succ]); (try simp only [List.set_cons_zero]))
                            (refine wpAnyH_take (i := 12) (v := ?_) rfl (by kernel_rfl) (by kernel_rfl) (by kernel_rfl) (fun _ _ _ h => h) (Or.inl ⟨by kernel_rfl, ?_⟩) (by assumption) ?_; rotate_left; · (intro w hSw; (try dsimp only at hSw); go_simp; first | done | with_reducible rfl))
                            (try simp only [Act.put]); (try simp only [List.getElem_toArray]); (try simp only [List.getElem_cons_succ]); (try simp only [List.getElem_cons_zero]); (try simp only [List.setIfInBounds_toArray]); (try simp only [List.set_cons_succ]); (try simp only [List.set_cons_zero])
                            (refine wpAnyH_take (i := 13) (v := ?_) rfl (by kernel_rfl) (by kernel_rfl) (by kernel_rfl) (fun _ _ _ h => h) (Or.inl ⟨by kernel_rfl, ?_⟩) (by assumption) ?_; rotate_left; · (intro w hSw; (try dsimp only at hSw); go_simp; first | done | with_reducible rfl))
                            (try simp only [Act.put]); (try simp only [List.getElem_toArray]); (try simp only [List.getElem_cons_succ]); (try simp only [List.getElem_cons_zero]); (try simp only [List.setIfInBounds_toArray]); (try simp only [List.set_cons_succ]); (try simp only [List.set_cons_zero])
                            refine wpAnyH_done (by kernel_rfl) ?_ _
                            have HB2 := hid (HB.out.trans (hHeld.out.mono HB.out.size))
                            clear hHeld y0
                            go_wp2
                            go_roundw
                            case rel => exact ⟨p + 1, false, by omega, by go_num, rfl, by show _ = _; rw [HAn.out, ← HF.out]; rfl, HB2.out⟩
                            case measure => simp [intOf]; omega
                        · obtain rfl : p = m := by omega
                          have HFn : Hid (fb = frC R (n + 1) c) := by
                            have := HF.out
                            rw [← HNn.out, List.take_length] at this
                            show fb = _
                            rw [HFs.out]
                            exact this
                          go_wp2
                          go_roundw
                          case rel => exact ⟨n + 1, fb, by omega, by go_num, rfl, HFn.out, HB.out⟩
                          case measure => simp [intOf]; omega
                    · obtain rfl : n = j := by omega
                      have HYe : Hid (((lj.take (k + 1)).filter (frC R n)).length = ((lj.take k).filter (frC R n)).length + 1) := by
                        show List.length _ = _
                        rw [take_any HC.out, List.filter_append, List.filter_cons, if_pos HF.out.symm, List.length_append]
                        rfl
                      have HIn : Hid (c ∈ ml) := HTo.out.2 n lj c HJ.out.1 (List.mem_of_getElem? HC.out) HF.out.symm
                      have HLm := HR8.out.2.1
                      obtain ⟨_, _, eL, -, -, hhl⟩ := HLm
                      injection eL with eL1 eL2 eL3
                      subst eL1 eL3
                      have HLc := hid hhl
                      clear hhl eL2 HF
                      go_upto_region 33 with (fail)
                      go_loopw [13, 14] (fun vt vq wr => ∃ (q : Nat) (tb : Bool), q ≤ M ∧ vq = .int .i64 q ∧ vt = .bool tb ∧ Hid (c ∈ ml.take q → tb = true) ∧ Hid (Below w9.heap.size w9 wr)) (fun _ vq _ => M - (intOf vq).toNat)
                      case atStart => exact ⟨0, false, Nat.zero_le _, rfl, rfl, (fun hc => by simp at hc), HB.out⟩
                      case round =>
                        clear HBB HB
                        obtain ⟨q, tb, hq, rfl, rfl, HF, HB⟩ := hrel
                        have HBB : Hid (Below wB.heap.size wB wr) := H9.out.2.trans (HB.out.mono H9.out.2.size)
                        by_cases hqlt : q < M
                        · have hqz : (q : Int) < (M : Int) := by omega
                          have hql : q < ml.length := by rw [HM.out]; exact hqlt
                          obtain ⟨lb, lo, rfl, hhc⟩ := HLc.out (by omega)
                          have hlb : lb < wB.heap.size := hhc.lt (by omega)
                          obtain ⟨d, hd⟩ : ∃ c, ml[q]? = some c := ⟨_, List.getElem?_eq_getElem hql⟩
                          have HTk := hid (take_any hd)
                          have HT : Hid (PaX wr lb (lo + q * 8) cb 0 d c wr) := ⟨hid ⟨Below.refl _ _, Nat.lt_of_lt_of_le hlb HBB.out.size, Nat.lt_of_lt_of_le (Blk.lt H9.out.1) HB.out.size⟩, ct_words (hhc.below HBB.out hlb) q hd, (DW.below H9.out.1 HB.out).words⟩
                          obtain ⟨-, ⟨x0, x1, x2, x3, x4, x5, x6, x7⟩, ⟨z0, z1, z2, z3, z4, z5, z6, z7⟩⟩ := HT.out
                          clear hd hql hhc hlb
                          cases tb with
                          | true =>
                            clear HT x0 x1 x2 x3 x4 x5 x6 x7 z0 z1 z2 z3 z4 z5 z6 z7
                            go_upto_region 35 with (fail)
                            refine wp_region_held_drew (S := (fun W' => Hid (Below wr.heap.size wr W'))) (by kernel_rfl) ?_ (fun hHeld => ?_)
                            (exact hid (Below.refl _ wr).drew)
                            (refine wpAnyH_take (i := 0) (v := ?_) rfl (by kernel_rfl) (by kernel_rfl) (by kernel_rfl) (fun _ _ _ h => h) (Or.inl ⟨by kernel_rfl, ?_⟩) (by assumption) ?_; rotate_left; · (intro w hSw; (try dsimp only at hSw); go_simp; first | done | with_reducible rfl))
                            (try simp only [Act.put]); (try simp only [List.getElem_toArray]); (try simp only [List.getElem_cons_succ]); (try simp only [List.getElem_cons_zero]); (try simp only [List.setIfInBounds_toArray]); (try simp only [List.set_cons_succ]); (try simp only [List.set_cons_zero])
                            (refine wpAnyH_take (i := 1) (v := ?_) rfl (by kernel_rfl) (by kernel_rfl) (by kernel_rfl) (fun _ _ _ h => h) (Or.inl ⟨by kernel_rfl, ?_⟩) (by assumption) ?_; rotate_left; · (intro w hSw; (try dsimp only at hSw); go_simp; first | done | with_reducible rfl))
                            (try simp only [Act.put]); (try simp only [List.getElem_toArray]); (try simp only [List.getElem_cons_succ]); (try simp only [List.getElem_cons_zero]); (try simp only [List.setIfInBounds_toArray]); (try simp only [List.set_cons_succ]); (try simp only [List.set_cons_zero])
                            (refine wpAnyH_take (i := 2) (v := undef) rfl (by kernel_rfl) (by kernel_rfl) (by kernel_rfl) (fun _ _ _ h => h) (Or.inr ⟨by kernel_rfl, rfl⟩) (by assumption) ?_; (try simp only [Act.put]); (try simp only [List.getElem_toArray]); (try simp only [List.getElem_cons_succ]); (try simp only [List.getElem_cons_zero]); (try simp only [List.setIfInBounds_toArray]); (try simp only [List.set_cons_succ]); (try simp only [List.set_cons_zero]))
                            (refine wpAnyH_take (i := 3) (v := undef) rfl (by kernel_rfl) (by kernel_rfl) (by kernel_rfl) (fun _ _ _ h => h) (Or.inr ⟨by kernel_rfl, rfl⟩) (by assumption) ?_; (try simp only [Act.put]); (try simp only [List.getElem_toArray]); (try simp only [List.getElem_cons_succ]); (try simp only [List.getElem_cons_zero]); (try simp only [List.setIfInBounds_toArray]); (try simp only [List.set_cons_succ]); (try simp only [List.set_cons_zero]))
                            (refine wpAnyH_take (i := 4) (v := undef) rfl (by kernel_rfl) (by kernel_rfl) (by kernel_rfl) (fun _ _ _ h => h) (Or.inr ⟨by kernel_rfl, rfl⟩) (by assumption) ?_; (try simp only [Act.put]); (try simp only [List.getElem_toArray]); (try simp only [List.getElem_cons_succ]); (try simp only [List.getElem_cons_zero]); (try simp only [List.setIfInBounds_toArray]); (try simp only [List.set_cons_succ]); (try simp only [List.set_cons_zero]))
                            (refine wpAnyH_take (i := 5) (v := undef) rfl (by kernel_rfl) (by kernel_rfl) (by kernel_rfl) (fun _ _ _ h => h) (Or.inr ⟨by kernel_rfl, rfl⟩) (by assumption) ?_; (try simp only [Act.put]); (try simp only [List.getElem_toArray]); (try simp only [List.getElem_cons_succ]); (try simp only [List.getElem_cons_zero]); (try simp only [List.setIfInBounds_toArray]); (try simp only [List.set_cons_succ]); (try simp only [List.set_cons_zero]))
                            (refine wpAnyH_take (i := 6) (v := undef) rfl (by kernel_rfl) (by kernel_rfl) (by kernel_rfl) (fun _ _ _ h => h) (Or.inr ⟨by kernel_rfl, rfl⟩) (by assumption) ?_; (try simp only [Act.put]); (try simp only [List.getElem_toArray]); (try simp only [List.getElem_cons_succ]); (try simp only [List.getElem_cons_zero]); (try simp only [List.setIfInBounds_toArray]); (try simp only [List.set_cons_succ]); (try simp only [List.set_cons_zero]))
                            (refine wpAnyH_take (i := 7) (v := undef) rfl (by kernel_rfl) (by kernel_rfl) (by kernel_rfl) (fun _ _ _ h => h) (Or.inr ⟨by kernel_rfl, rfl⟩) (by assumption) ?_; (try simp only [Act.put]); (try simp only [List.getElem_toArray]); (try simp only [List.getElem_cons_succ]); (try simp only [List.getElem_cons_zero]); (try simp only [List.setIfInBounds_toArray]); (try simp only [List.set_cons_succ]); (try simp only [List.set_cons_zero]))
                            (refine wpAnyH_take (i := 8) (v := ?_) rfl (by kernel_rfl) (by kernel_rfl) (by kernel_rfl) (fun _ _ _ h => h) (Or.inl ⟨by kernel_rfl, ?_⟩) (by assumption) ?_; rotate_left; · (intro w hSw; (try dsimp only at hSw); go_simp; first | done | with_reducible rfl))
                            (try simp only [Act.put]); (try simp only [List.getElem_toArray]); (try simp only [List.getElem_cons_succ]); (try simp only [List.getElem_cons_zero]); (try simp only [List.setIfInBounds_toArray]); (try simp only [List.set_cons_succ]); (try simp only [List.set_cons_zero])
                            (refine wpAnyH_take (i := 9) (v := ?_) rfl (by kernel_rfl) (by kernel_rfl) (by kernel_rfl) (fun _ _ _ h => h) (Or.inl ⟨by kernel_rfl, ?_⟩) (by assumption) ?_; rotate_left; · (intro w hSw; (try dsimp only at hSw); go_simp; first | done | with_reducible rfl))
                            (try simp only [Act.put]); (try simp only [List.getElem_toArray]); (try simp only [List.getElem_cons_succ]); (try simp only [List.getElem_cons_zero]); (try simp only [List.setIfInBounds_toArray]); (try simp only [List.set_cons_succ]); (try simp only [List.set_cons_zero])
                            refine wpAnyH_done (by kernel_rfl) ?_ _
                            have HB2 := hid (HB.out.trans (hHeld.out.mono HB.out.size))
                            clear hHeld
                            go_wp2
                            go_roundw
                            case rel => exact ⟨q + 1, true, by omega, by go_num, rfl, (fun _ => rfl), HB2.out⟩
                            case measure => simp [intOf]; omega
                          | false =>
                            by_cases e0 : d.r = c.r
                            · by_cases e1 : d.f = c.f
                              · by_cases e2 : d.q = c.q
                                · by_cases e3 : d.t = c.t
                                  · by_cases e4 : d.k = c.k
                                    · by_cases e5 : d.vk = c.vk
                                      · by_cases e6 : d.vn = c.vn
                                        · by_cases e7 : d.s = c.s
                                          · have n0 : (d.r.toList = c.r.toList) = True := eq_true (by rw [e0])
                                            have n1 : (d.f.toList = c.f.toList) = True := eq_true (by rw [e1])
                                            have n2 : (d.q.toList = c.q.toList) = True := eq_true (by rw [e2])
                                            have n3 : (d.t = c.t) = True := eq_true (by rw [e3])
                                            have n4 : (d.k = c.k) = True := eq_true (by rw [e4])
                                            have n5 : (d.vk = c.vk) = True := eq_true (by rw [e5])
                                            have n6 : (d.vn = c.vn) = True := eq_true (by rw [e6])
                                            have n7 : (d.s.toList = c.s.toList) = True := eq_true (by rw [e7])
                                            clear e0 e1 e2 e3 e4 e5 e6 e7
                                            go_upto_region 35 with (fail)
                                            refine wp_region_held_drew (S := (fun W' => Hid (Below wr.heap.size wr W' ∧ lb < wr.heap.size ∧ cb < wr.heap.size) ∧ (W'.cell? ⟨lb, lo + q * 8, none⟩ = some (.string d.r) ∧ W'.cell? ⟨lb, lo + q * 8 + 1, none⟩ = some (.string d.f) ∧ W'.cell? ⟨lb, lo + q * 8 + 2, none⟩ = some (.string d.q) ∧ W'.cell? ⟨lb, lo + q * 8 + 3, none⟩ = some (.int .i64 d.t) ∧ W'.cell? ⟨lb, lo + q * 8 + 4, none⟩ = some (.int .i64 d.k) ∧ W'.cell? ⟨lb, lo + q * 8 + 5, none⟩ = some (.int .i64 d.vk) ∧ W'.cell? ⟨lb, lo + q * 8 + 6, none⟩ = some (.int .i64 d.vn) ∧ W'.cell? ⟨lb, lo + q * 8 + 7, none⟩ = some (.string d.s)) ∧ (W'.cell? ⟨cb, 0, none⟩ = some (.string c.r) ∧ W'.cell? ⟨cb, 1, none⟩ = some (.string c.f) ∧ W'.cell? ⟨cb, 2, none⟩ = some (.string c.q) ∧ W'.cell? ⟨cb, 3, none⟩ = some (.int .i64 c.t) ∧ W'.cell? ⟨cb, 4, none⟩ = some (.int .i64 c.k) ∧ W'.cell? ⟨cb, 5, none⟩ = some (.int .i64 c.vk) ∧ W'.cell? ⟨cb, 6, none⟩ = some (.int .i64 c.vn) ∧ W'.cell? ⟨cb, 7, none⟩ = some (.string c.s)))) (by kernel_rfl) ?_ (fun hHeld => ?_)
                                            (exact pax_drew HT.out)
                                            (refine wpAnyH_take (i := 0) (v := ?_) rfl (by kernel_rfl) (by kernel_rfl) (by kernel_rfl) (fun _ _ _ h => h) (Or.inl ⟨by kernel_rfl, ?_⟩) (by assumption) ?_; rotate_left; · (intro w hSw; (try dsimp only at hSw); go_simp; first | done | with_reducible rfl))
                                            (try simp only [Act.put]); (try simp only [List.getElem_toArray]); (try simp only [List.getElem_cons_succ]); (try simp only [List.getElem_cons_zero]); (try simp only [List.setIfInBounds_toArray]); (try simp only [List.set_cons_succ]); (try simp only [List.set_cons_zero])
                                            (refine wpAnyH_take (i := 1) (v := ?_) rfl (by kernel_rfl) (by kernel_rfl) (by kernel_rfl) (fun _ _ _ h => h) (Or.inl ⟨by kernel_rfl, ?_⟩) (by assumption) ?_; rotate_left; · (intro w hSw; (try dsimp only at hSw); go_simp; first | done | with_reducible rfl))
                                            (try simp only [Act.put]); (try simp only [List.getElem_toArray]); (try simp only [List.getElem_cons_succ]); (try simp only [List.getElem_cons_zero]); (try simp only [List.setIfInBounds_toArray]); (try simp only [List.set_cons_succ]); (try simp only [List.set_cons_zero])
                                            (refine wpAnyH_take (i := 2) (v := ?_) rfl (by kernel_rfl) (by kernel_rfl) (by kernel_rfl) (fun _ _ _ h => h) (Or.inl ⟨by kernel_rfl, ?_⟩) (by assumption) ?_; rotate_left; · (intro w hSw; (try dsimp only at hSw); go_simp; first | done | with_reducible rfl))
                                            (try simp only [Act.put]); (try simp only [List.getElem_toArray]); (try simp only [List.getElem_cons_succ]); (try simp only [List.getElem_cons_zero]); (try simp only [List.setIfInBounds_toArray]); (try simp only [List.set_cons_succ]); (try simp only [List.set_cons_zero])
                                            (refine wpAnyH_take (i := 3) (v := ?_) rfl (by kernel_rfl) (by kernel_rfl) (by kernel_rfl) (fun _ _ _ h => h) (Or.inl ⟨by kernel_rfl, ?_⟩) (by assumption) ?_; rotate_left; · (intro w hSw; (try dsimp only at hSw); go_simp; first | done | with_reducible rfl))
                                            (try simp only [Act.put]); (try simp only [List.getElem_toArray]); (try simp only [List.getElem_cons_succ]); (try simp only [List.getElem_cons_zero]); (try simp only [List.setIfInBounds_toArray]); (try simp only [List.set_cons_succ]); (try simp only [List.set_cons_zero])
                                            (refine wpAnyH_take (i := 4) (v := ?_) rfl (by kernel_rfl) (by kernel_rfl) (by kernel_rfl) (fun _ _ _ h => h) (Or.inl ⟨by kernel_rfl, ?_⟩) (by assumption) ?_; rotate_left; · (intro w hSw; (try dsimp only at hSw); go_simp; first | done | with_reducible rfl))
                                            (try simp only [Act.put]); (try simp only [List.getElem_toArray]); (try simp only [List.getElem_cons_succ]); (try simp only [List.getElem_cons_zero]); (try simp only [List.setIfInBounds_toArray]); (try simp only [List.set_cons_succ]); (try simp only [List.set_cons_zero])
                                            (refine wpAnyH_take (i := 5) (v := ?_) rfl (by kernel_rfl) (by kernel_rfl) (by kernel_rfl) (fun _ _ _ h => h) (Or.inl ⟨by kernel_rfl, ?_⟩) (by assumption) ?_; rotate_left; · (intro w hSw; (try dsimp only at hSw); go_simp; first | done | with_reducible rfl))
                                            (try simp only [Act.put]); (try simp only [List.getElem_toArray]); (try simp only [List.getElem_cons_succ]); (try simp only [List.getElem_cons_zero]); (try simp only [List.setIfInBounds_toArray]); (try simp only [List.set_cons_succ]); (try simp only [List.set_cons_zero])
                                            (refine wpAnyH_take (i := 6) (v := ?_) rfl (by kernel_rfl) (by kernel_rfl) (by kernel_rfl) (fun _ _ _ h => h) (Or.inl ⟨by kernel_rfl, ?_⟩) (by assumption) ?_; rotate_left; · (intro w hSw; (try dsimp only at hSw); go_simp; first | done | with_reducible rfl))
                                            (try simp only [Act.put]); (try simp only [List.getElem_toArray]); (try simp only [List.getElem_cons_succ]); (try simp only [List.getElem_cons_zero]); (try simp only [List.setIfInBounds_toArray]); (try simp only [List.set_cons_succ]); (try simp only [List.set_cons_zero])
                                            (refine wpAnyH_take (i := 7) (v := ?_) rfl (by kernel_rfl) (by kernel_rfl) (by kernel_rfl) (fun _ _ _ h => h) (Or.inl ⟨by kernel_rfl, ?_⟩) (by assumption) ?_; rotate_left; · (intro w hSw; (try dsimp only at hSw); go_simp; first | done | with_reducible rfl))
                                            (try simp only [Act.put]); (try simp only [List.getElem_toArray]); (try simp only [List.getElem_cons_succ]); (try simp only [List.getElem_cons_zero]); (try simp only [List.setIfInBounds_toArray]); (try simp only [List.set_cons_succ]); (try simp only [List.set_cons_zero])
                                            (refine wpAnyH_take (i := 8) (v := ?_) rfl (by kernel_rfl) (by kernel_rfl) (by kernel_rfl) (fun _ _ _ h => h) (Or.inl ⟨by kernel_rfl, ?_⟩) (by assumption) ?_; rotate_left; · (intro w hSw; (try dsimp only at hSw); go_simp; first | done | with_reducible rfl))
                                            (try simp only [Act.put]); (try simp only [List.getElem_toArray]); (try simp only [List.getElem_cons_succ]); (try simp only [List.getElem_cons_zero]); (try simp only [List.setIfInBounds_toArray]); (try simp only [List.set_cons_succ]); (try simp only [List.set_cons_zero])
                                            (refine wpAnyH_take (i := 9) (v := ?_) rfl (by kernel_rfl) (by kernel_rfl) (by kernel_rfl) (fun _ _ _ h => h) (Or.inl ⟨by kernel_rfl, ?_⟩) (by assumption) ?_; rotate_left; · (intro w hSw; (try dsimp only at hSw); go_simp; first | done | with_reducible rfl))
                                            (try simp only [Act.put]); (try simp only [List.getElem_toArray]); (try simp only [List.getElem_cons_succ]); (try simp only [List.getElem_cons_zero]); (try simp only [List.setIfInBounds_toArray]); (try simp only [List.set_cons_succ]); (try simp only [List.set_cons_zero])
                                            refine wpAnyH_done (by kernel_rfl) ?_ _
                                            have HB2 := hid (HB.out.trans (hHeld.1.out.1.mono HB.out.size))
                                            clear hHeld HT
                                            clear x0 x1 x2 x3 x4 x5 x6 x7 z0 z1 z2 z3 z4 z5 z6 z7
                                            go_wp2
                                            go_roundw
                                            case rel => exact ⟨q + 1, true, by omega, by go_num, rfl, (fun _ => rfl), HB2.out⟩
                                            case measure => simp [intOf]; omega
                                          · have n0 : (d.r.toList = c.r.toList) = True := eq_true (by rw [e0])
                                            have n1 : (d.f.toList = c.f.toList) = True := eq_true (by rw [e1])
                                            have n2 : (d.q.toList = c.q.toList) = True := eq_true (by rw [e2])
                                            have n3 : (d.t = c.t) = True := eq_true (by rw [e3])
                                            have n4 : (d.k = c.k) = True := eq_true (by rw [e4])
                                            have n5 : (d.vk = c.vk) = True := eq_true (by rw [e5])
                                            have n6 : (d.vn = c.vn) = True := eq_true (by rw [e6])
                                            have n7 : (d.s.toList = c.s.toList) = False := eq_false (fun h => by have h2 := ba_ne e7; rw [h] at h2; simp at h2)
                                            have HNe : Hid (¬ d = c) := fun h => e7 (by rw [h])
                                            clear e0 e1 e2 e3 e4 e5 e6 e7
                                            go_upto_region 35 with (fail)
                                            refine wp_region_held_drew (S := (fun W' => Hid (Below wr.heap.size wr W' ∧ lb < wr.heap.size ∧ cb < wr.heap.size) ∧ (W'.cell? ⟨lb, lo + q * 8, none⟩ = some (.string d.r) ∧ W'.cell? ⟨lb, lo + q * 8 + 1, none⟩ = some (.string d.f) ∧ W'.cell? ⟨lb, lo + q * 8 + 2, none⟩ = some (.string d.q) ∧ W'.cell? ⟨lb, lo + q * 8 + 3, none⟩ = some (.int .i64 d.t) ∧ W'.cell? ⟨lb, lo + q * 8 + 4, none⟩ = some (.int .i64 d.k) ∧ W'.cell? ⟨lb, lo + q * 8 + 5, none⟩ = some (.int .i64 d.vk) ∧ W'.cell? ⟨lb, lo + q * 8 + 6, none⟩ = some (.int .i64 d.vn) ∧ W'.cell? ⟨lb, lo + q * 8 + 7, none⟩ = some (.string d.s)) ∧ (W'.cell? ⟨cb, 0, none⟩ = some (.string c.r) ∧ W'.cell? ⟨cb, 1, none⟩ = some (.string c.f) ∧ W'.cell? ⟨cb, 2, none⟩ = some (.string c.q) ∧ W'.cell? ⟨cb, 3, none⟩ = some (.int .i64 c.t) ∧ W'.cell? ⟨cb, 4, none⟩ = some (.int .i64 c.k) ∧ W'.cell? ⟨cb, 5, none⟩ = some (.int .i64 c.vk) ∧ W'.cell? ⟨cb, 6, none⟩ = some (.int .i64 c.vn) ∧ W'.cell? ⟨cb, 7, none⟩ = some (.string c.s)))) (by kernel_rfl) ?_ (fun hHeld => ?_)
                                            (exact pax_drew HT.out)
                                            (refine wpAnyH_take (i := 0) (v := ?_) rfl (by kernel_rfl) (by kernel_rfl) (by kernel_rfl) (fun _ _ _ h => h) (Or.inl ⟨by kernel_rfl, ?_⟩) (by assumption) ?_; rotate_left; · (intro w hSw; (try dsimp only at hSw); go_simp; first | done | with_reducible rfl))
                                            (try simp only [Act.put]); (try simp only [List.getElem_toArray]); (try simp only [List.getElem_cons_succ]); (try simp only [List.getElem_cons_zero]); (try simp only [List.setIfInBounds_toArray]); (try simp only [List.set_cons_succ]); (try simp only [List.set_cons_zero])
                                            (refine wpAnyH_take (i := 1) (v := ?_) rfl (by kernel_rfl) (by kernel_rfl) (by kernel_rfl) (fun _ _ _ h => h) (Or.inl ⟨by kernel_rfl, ?_⟩) (by assumption) ?_; rotate_left; · (intro w hSw; (try dsimp only at hSw); go_simp; first | done | with_reducible rfl))
                                            (try simp only [Act.put]); (try simp only [List.getElem_toArray]); (try simp only [List.getElem_cons_succ]); (try simp only [List.getElem_cons_zero]); (try simp only [List.setIfInBounds_toArray]); (try simp only [List.set_cons_succ]); (try simp only [List.set_cons_zero])
                                            (refine wpAnyH_take (i := 2) (v := ?_) rfl (by kernel_rfl) (by kernel_rfl) (by kernel_rfl) (fun _ _ _ h => h) (Or.inl ⟨by kernel_rfl, ?_⟩) (by assumption) ?_; rotate_left; · (intro w hSw; (try dsimp only at hSw); go_simp; first | done | with_reducible rfl))
                                            (try simp only [Act.put]); (try simp only [List.getElem_toArray]); (try simp only [List.getElem_cons_succ]); (try simp only [List.getElem_cons_zero]); (try simp only [List.setIfInBounds_toArray]); (try simp only [List.set_cons_succ]); (try simp only [List.set_cons_zero])
                                            (refine wpAnyH_take (i := 3) (v := ?_) rfl (by kernel_rfl) (by kernel_rfl) (by kernel_rfl) (fun _ _ _ h => h) (Or.inl ⟨by kernel_rfl, ?_⟩) (by assumption) ?_; rotate_left; · (intro w hSw; (try dsimp only at hSw); go_simp; first | done | with_reducible rfl))
                                            (try simp only [Act.put]); (try simp only [List.getElem_toArray]); (try simp only [List.getElem_cons_succ]); (try simp only [List.getElem_cons_zero]); (try simp only [List.setIfInBounds_toArray]); (try simp only [List.set_cons_succ]); (try simp only [List.set_cons_zero])
                                            (refine wpAnyH_take (i := 4) (v := ?_) rfl (by kernel_rfl) (by kernel_rfl) (by kernel_rfl) (fun _ _ _ h => h) (Or.inl ⟨by kernel_rfl, ?_⟩) (by assumption) ?_; rotate_left; · (intro w hSw; (try dsimp only at hSw); go_simp; first | done | with_reducible rfl))
                                            (try simp only [Act.put]); (try simp only [List.getElem_toArray]); (try simp only [List.getElem_cons_succ]); (try simp only [List.getElem_cons_zero]); (try simp only [List.setIfInBounds_toArray]); (try simp only [List.set_cons_succ]); (try simp only [List.set_cons_zero])
                                            (refine wpAnyH_take (i := 5) (v := ?_) rfl (by kernel_rfl) (by kernel_rfl) (by kernel_rfl) (fun _ _ _ h => h) (Or.inl ⟨by kernel_rfl, ?_⟩) (by assumption) ?_; rotate_left; · (intro w hSw; (try dsimp only at hSw); go_simp; first | done | with_reducible rfl))
                                            (try simp only [Act.put]); (try simp only [List.getElem_toArray]); (try simp only [List.getElem_cons_succ]); (try simp only [List.getElem_cons_zero]); (try simp only [List.setIfInBounds_toArray]); (try simp only [List.set_cons_succ]); (try simp only [List.set_cons_zero])
                                            (refine wpAnyH_take (i := 6) (v := ?_) rfl (by kernel_rfl) (by kernel_rfl) (by kernel_rfl) (fun _ _ _ h => h) (Or.inl ⟨by kernel_rfl, ?_⟩) (by assumption) ?_; rotate_left; · (intro w hSw; (try dsimp only at hSw); go_simp; first | done | with_reducible rfl))
                                            (try simp only [Act.put]); (try simp only [List.getElem_toArray]); (try simp only [List.getElem_cons_succ]); (try simp only [List.getElem_cons_zero]); (try simp only [List.setIfInBounds_toArray]); (try simp only [List.set_cons_succ]); (try simp only [List.set_cons_zero])
                                            (refine wpAnyH_take (i := 7) (v := ?_) rfl (by kernel_rfl) (by kernel_rfl) (by kernel_rfl) (fun _ _ _ h => h) (Or.inl ⟨by kernel_rfl, ?_⟩) (by assumption) ?_; rotate_left; · (intro w hSw; (try dsimp only at hSw); go_simp; first | done | with_reducible rfl))
                                            (try simp only [Act.put]); (try simp only [List.getElem_toArray]); (try simp only [List.getElem_cons_succ]); (try simp only [List.getElem_cons_zero]); (try simp only [List.setIfInBounds_toArray]); (try simp only [List.set_cons_succ]); (try simp only [List.set_cons_zero])
                                            (refine wpAnyH_take (i := 8) (v := ?_) rfl (by kernel_rfl) (by kernel_rfl) (by kernel_rfl) (fun _ _ _ h => h) (Or.inl ⟨by kernel_rfl, ?_⟩) (by assumption) ?_; rotate_left; · (intro w hSw; (try dsimp only at hSw); go_simp; first | done | with_reducible rfl))
                                            (try simp only [Act.put]); (try simp only [List.getElem_toArray]); (try simp only [List.getElem_cons_succ]); (try simp only [List.getElem_cons_zero]); (try simp only [List.setIfInBounds_toArray]); (try simp only [List.set_cons_succ]); (try simp only [List.set_cons_zero])
                                            (refine wpAnyH_take (i := 9) (v := ?_) rfl (by kernel_rfl) (by kernel_rfl) (by kernel_rfl) (fun _ _ _ h => h) (Or.inl ⟨by kernel_rfl, ?_⟩) (by assumption) ?_; rotate_left; · (intro w hSw; (try dsimp only at hSw); go_simp; first | done | with_reducible rfl))
                                            (try simp only [Act.put]); (try simp only [List.getElem_toArray]); (try simp only [List.getElem_cons_succ]); (try simp only [List.getElem_cons_zero]); (try simp only [List.setIfInBounds_toArray]); (try simp only [List.set_cons_succ]); (try simp only [List.set_cons_zero])
                                            refine wpAnyH_done (by kernel_rfl) ?_ _
                                            have HB2 := hid (HB.out.trans (hHeld.1.out.1.mono HB.out.size))
                                            clear hHeld HT
                                            clear x0 x1 x2 x3 x4 x5 x6 x7 z0 z1 z2 z3 z4 z5 z6 z7
                                            go_wp2
                                            go_roundw
                                            case rel => exact ⟨q + 1, false, by omega, by go_num, rfl, told_no HTk.out HF.out HNe.out, HB2.out⟩
                                            case measure => simp [intOf]; omega
                                        · have n0 : (d.r.toList = c.r.toList) = True := eq_true (by rw [e0])
                                          have n1 : (d.f.toList = c.f.toList) = True := eq_true (by rw [e1])
                                          have n2 : (d.q.toList = c.q.toList) = True := eq_true (by rw [e2])
                                          have n3 : (d.t = c.t) = True := eq_true (by rw [e3])
                                          have n4 : (d.k = c.k) = True := eq_true (by rw [e4])
                                          have n5 : (d.vk = c.vk) = True := eq_true (by rw [e5])
                                          have n6 : (d.vn = c.vn) = False := eq_false e6
                                          have HNe : Hid (¬ d = c) := fun h => e6 (by rw [h])
                                          clear e0 e1 e2 e3 e4 e5 e6
                                          go_upto_region 35 with (fail)
                                          refine wp_region_held_drew (S := (fun W' => Hid (Below wr.heap.size wr W' ∧ lb < wr.heap.size ∧ cb < wr.heap.size) ∧ (W'.cell? ⟨lb, lo + q * 8, none⟩ = some (.string d.r) ∧ W'.cell? ⟨lb, lo + q * 8 + 1, none⟩ = some (.string d.f) ∧ W'.cell? ⟨lb, lo + q * 8 + 2, none⟩ = some (.string d.q) ∧ W'.cell? ⟨lb, lo + q * 8 + 3, none⟩ = some (.int .i64 d.t) ∧ W'.cell? ⟨lb, lo + q * 8 + 4, none⟩ = some (.int .i64 d.k) ∧ W'.cell? ⟨lb, lo + q * 8 + 5, none⟩ = some (.int .i64 d.vk) ∧ W'.cell? ⟨lb, lo + q * 8 + 6, none⟩ = some (.int .i64 d.vn) ∧ W'.cell? ⟨lb, lo + q * 8 + 7, none⟩ = some (.string d.s)) ∧ (W'.cell? ⟨cb, 0, none⟩ = some (.string c.r) ∧ W'.cell? ⟨cb, 1, none⟩ = some (.string c.f) ∧ W'.cell? ⟨cb, 2, none⟩ = some (.string c.q) ∧ W'.cell? ⟨cb, 3, none⟩ = some (.int .i64 c.t) ∧ W'.cell? ⟨cb, 4, none⟩ = some (.int .i64 c.k) ∧ W'.cell? ⟨cb, 5, none⟩ = some (.int .i64 c.vk) ∧ W'.cell? ⟨cb, 6, none⟩ = some (.int .i64 c.vn) ∧ W'.cell? ⟨cb, 7, none⟩ = some (.string c.s)))) (by kernel_rfl) ?_ (fun hHeld => ?_)
                                          (exact pax_drew HT.out)
                                          (refine wpAnyH_take (i := 0) (v := ?_) rfl (by kernel_rfl) (by kernel_rfl) (by kernel_rfl) (fun _ _ _ h => h) (Or.inl ⟨by kernel_rfl, ?_⟩) (by assumption) ?_; rotate_left; · (intro w hSw; (try dsimp only at hSw); go_simp; first | done | with_reducible rfl))
                                          (try simp only [Act.put]); (try simp only [List.getElem_toArray]); (try simp only [List.getElem_cons_succ]); (try simp only [List.getElem_cons_zero]); (try simp only [List.setIfInBounds_toArray]); (try simp only [List.set_cons_succ]); (try simp only [List.set_cons_zero])
                                          (refine wpAnyH_take (i := 1) (v := ?_) rfl (by kernel_rfl) (by kernel_rfl) (by kernel_rfl) (fun _ _ _ h => h) (Or.inl ⟨by kernel_rfl, ?_⟩) (by assumption) ?_; rotate_left; · (intro w hSw; (try dsimp only at hSw); go_simp; first | done | with_reducible rfl))
                                          (try simp only [Act.put]); (try simp only [List.getElem_toArray]); (try simp only [List.getElem_cons_succ]); (try simp only [List.getElem_cons_zero]); (try simp only [List.setIfInBounds_toArray]); (try simp only [List.set_cons_succ]); (try simp only [List.set_cons_zero])
                                          (refine wpAnyH_take (i := 2) (v := ?_) rfl (by kernel_rfl) (by kernel_rfl) (by kernel_rfl) (fun _ _ _ h => h) (Or.inl ⟨by kernel_rfl, ?_⟩) (by assumption) ?_; rotate_left; · (intro w hSw; (try dsimp only at hSw); go_simp; first | done | with_reducible rfl))
                                          (try simp only [Act.put]); (try simp only [List.getElem_toArray]); (try simp only [List.getElem_cons_succ]); (try simp only [List.getElem_cons_zero]); (try simp only [List.setIfInBounds_toArray]); (try simp only [List.set_cons_succ]); (try simp only [List.set_cons_zero])
                                          (refine wpAnyH_take (i := 3) (v := ?_) rfl (by kernel_rfl) (by kernel_rfl) (by kernel_rfl) (fun _ _ _ h => h) (Or.inl ⟨by kernel_rfl, ?_⟩) (by assumption) ?_; rotate_left; · (intro w hSw; (try dsimp only at hSw); go_simp; first | done | with_reducible rfl))
                                          (try simp only [Act.put]); (try simp only [List.getElem_toArray]); (try simp only [List.getElem_cons_succ]); (try simp only [List.getElem_cons_zero]); (try simp only [List.setIfInBounds_toArray]); (try simp only [List.set_cons_succ]); (try simp only [List.set_cons_zero])
                                          (refine wpAnyH_take (i := 4) (v := ?_) rfl (by kernel_rfl) (by kernel_rfl) (by kernel_rfl) (fun _ _ _ h => h) (Or.inl ⟨by kernel_rfl, ?_⟩) (by assumption) ?_; rotate_left; · (intro w hSw; (try dsimp only at hSw); go_simp; first | done | with_reducible rfl))
                                          (try simp only [Act.put]); (try simp only [List.getElem_toArray]); (try simp only [List.getElem_cons_succ]); (try simp only [List.getElem_cons_zero]); (try simp only [List.setIfInBounds_toArray]); (try simp only [List.set_cons_succ]); (try simp only [List.set_cons_zero])
                                          (refine wpAnyH_take (i := 5) (v := ?_) rfl (by kernel_rfl) (by kernel_rfl) (by kernel_rfl) (fun _ _ _ h => h) (Or.inl ⟨by kernel_rfl, ?_⟩) (by assumption) ?_; rotate_left; · (intro w hSw; (try dsimp only at hSw); go_simp; first | done | with_reducible rfl))
                                          (try simp only [Act.put]); (try simp only [List.getElem_toArray]); (try simp only [List.getElem_cons_succ]); (try simp only [List.getElem_cons_zero]); (try simp only [List.setIfInBounds_toArray]); (try simp only [List.set_cons_succ]); (try simp only [List.set_cons_zero])
                                          (refine wpAnyH_take (i := 6) (v := ?_) rfl (by kernel_rfl) (by kernel_rfl) (by kernel_rfl) (fun _ _ _ h => h) (Or.inl ⟨by kernel_rfl, ?_⟩) (by assumption) ?_; rotate_left; · (intro w hSw; (try dsimp only at hSw); go_simp; first | done | with_reducible rfl))
                                          (try simp only [Act.put]); (try simp only [List.getElem_toArray]); (try simp only [List.getElem_cons_succ]); (try simp only [List.getElem_cons_zero]); (try simp only [List.setIfInBounds_toArray]); (try simp only [List.set_cons_succ]); (try simp only [List.set_cons_zero])
                                          (refine wpAnyH_take (i := 7) (v := ?_) rfl (by kernel_rfl) (by kernel_rfl) (by kernel_rfl) (fun _ _ _ h => h) (Or.inl ⟨by kernel_rfl, ?_⟩) (by assumption) ?_; rotate_left; · (intro w hSw; (try dsimp only at hSw); go_simp; first | done | with_reducible rfl))
                                          (try simp only [Act.put]); (try simp only [List.getElem_toArray]); (try simp only [List.getElem_cons_succ]); (try simp only [List.getElem_cons_zero]); (try simp only [List.setIfInBounds_toArray]); (try simp only [List.set_cons_succ]); (try simp only [List.set_cons_zero])
                                          (refine wpAnyH_take (i := 8) (v := ?_) rfl (by kernel_rfl) (by kernel_rfl) (by kernel_rfl) (fun _ _ _ h => h) (Or.inl ⟨by kernel_rfl, ?_⟩) (by assumption) ?_; rotate_left; · (intro w hSw; (try dsimp only at hSw); go_simp; first | done | with_reducible rfl))
                                          (try simp only [Act.put]); (try simp only [List.getElem_toArray]); (try simp only [List.getElem_cons_succ]); (try simp only [List.getElem_cons_zero]); (try simp only [List.setIfInBounds_toArray]); (try simp only [List.set_cons_succ]); (try simp only [List.set_cons_zero])
                                          (refine wpAnyH_take (i := 9) (v := ?_) rfl (by kernel_rfl) (by kernel_rfl) (by kernel_rfl) (fun _ _ _ h => h) (Or.inl ⟨by kernel_rfl, ?_⟩) (by assumption) ?_; rotate_left; · (intro w hSw; (try dsimp only at hSw); go_simp; first | done | with_reducible rfl))
                                          (try simp only [Act.put]); (try simp only [List.getElem_toArray]); (try simp only [List.getElem_cons_succ]); (try simp only [List.getElem_cons_zero]); (try simp only [List.setIfInBounds_toArray]); (try simp only [List.set_cons_succ]); (try simp only [List.set_cons_zero])
                                          refine wpAnyH_done (by kernel_rfl) ?_ _
                                          have HB2 := hid (HB.out.trans (hHeld.1.out.1.mono HB.out.size))
                                          clear hHeld HT
                                          clear x0 x1 x2 x3 x4 x5 x6 x7 z0 z1 z2 z3 z4 z5 z6 z7
                                          go_wp2
                                          go_roundw
                                          case rel => exact ⟨q + 1, false, by omega, by go_num, rfl, told_no HTk.out HF.out HNe.out, HB2.out⟩
                                          case measure => simp [intOf]; omega
                                      · have n0 : (d.r.toList = c.r.toList) = True := eq_true (by rw [e0])
                                        have n1 : (d.f.toList = c.f.toList) = True := eq_true (by rw [e1])
                                        have n2 : (d.q.toList = c.q.toList) = True := eq_true (by rw [e2])
                                        have n3 : (d.t = c.t) = True := eq_true (by rw [e3])
                                        have n4 : (d.k = c.k) = True := eq_true (by rw [e4])
                                        have n5 : (d.vk = c.vk) = False := eq_false e5
                                        have HNe : Hid (¬ d = c) := fun h => e5 (by rw [h])
                                        clear e0 e1 e2 e3 e4 e5
                                        go_upto_region 35 with (fail)
                                        refine wp_region_held_drew (S := (fun W' => Hid (Below wr.heap.size wr W' ∧ lb < wr.heap.size ∧ cb < wr.heap.size) ∧ (W'.cell? ⟨lb, lo + q * 8, none⟩ = some (.string d.r) ∧ W'.cell? ⟨lb, lo + q * 8 + 1, none⟩ = some (.string d.f) ∧ W'.cell? ⟨lb, lo + q * 8 + 2, none⟩ = some (.string d.q) ∧ W'.cell? ⟨lb, lo + q * 8 + 3, none⟩ = some (.int .i64 d.t) ∧ W'.cell? ⟨lb, lo + q * 8 + 4, none⟩ = some (.int .i64 d.k) ∧ W'.cell? ⟨lb, lo + q * 8 + 5, none⟩ = some (.int .i64 d.vk) ∧ W'.cell? ⟨lb, lo + q * 8 + 6, none⟩ = some (.int .i64 d.vn) ∧ W'.cell? ⟨lb, lo + q * 8 + 7, none⟩ = some (.string d.s)) ∧ (W'.cell? ⟨cb, 0, none⟩ = some (.string c.r) ∧ W'.cell? ⟨cb, 1, none⟩ = some (.string c.f) ∧ W'.cell? ⟨cb, 2, none⟩ = some (.string c.q) ∧ W'.cell? ⟨cb, 3, none⟩ = some (.int .i64 c.t) ∧ W'.cell? ⟨cb, 4, none⟩ = some (.int .i64 c.k) ∧ W'.cell? ⟨cb, 5, none⟩ = some (.int .i64 c.vk) ∧ W'.cell? ⟨cb, 6, none⟩ = some (.int .i64 c.vn) ∧ W'.cell? ⟨cb, 7, none⟩ = some (.string c.s)))) (by kernel_rfl) ?_ (fun hHeld => ?_)
                                        (exact pax_drew HT.out)
                                        (refine wpAnyH_take (i := 0) (v := ?_) rfl (by kernel_rfl) (by kernel_rfl) (by kernel_rfl) (fun _ _ _ h => h) (Or.inl ⟨by kernel_rfl, ?_⟩) (by assumption) ?_; rotate_left; · (intro w hSw; (try dsimp only at hSw); go_simp; first | done | with_reducible rfl))
                                        (try simp only [Act.put]); (try simp only [List.getElem_toArray]); (try simp only [List.getElem_cons_succ]); (try simp only [List.getElem_cons_zero]); (try simp only [List.setIfInBounds_toArray]); (try simp only [List.set_cons_succ]); (try simp only [List.set_cons_zero])
                                        (refine wpAnyH_take (i := 1) (v := ?_) rfl (by kernel_rfl) (by kernel_rfl) (by kernel_rfl) (fun _ _ _ h => h) (Or.inl ⟨by kernel_rfl, ?_⟩) (by assumption) ?_; rotate_left; · (intro w hSw; (try dsimp only at hSw); go_simp; first | done | with_reducible rfl))
                                        (try simp only [Act.put]); (try simp only [List.getElem_toArray]); (try simp only [List.getElem_cons_succ]); (try simp only [List.getElem_cons_zero]); (try simp only [List.setIfInBounds_toArray]); (try simp only [List.set_cons_succ]); (try simp only [List.set_cons_zero])
                                        (refine wpAnyH_take (i := 2) (v := ?_) rfl (by kernel_rfl) (by kernel_rfl) (by kernel_rfl) (fun _ _ _ h => h) (Or.inl ⟨by kernel_rfl, ?_⟩) (by assumption) ?_; rotate_left; · (intro w hSw; (try dsimp only at hSw); go_simp; first | done | with_reducible rfl))
                                        (try simp only [Act.put]); (try simp only [List.getElem_toArray]); (try simp only [List.getElem_cons_succ]); (try simp only [List.getElem_cons_zero]); (try simp only [List.setIfInBounds_toArray]); (try simp only [List.set_cons_succ]); (try simp only [List.set_cons_zero])
                                        (refine wpAnyH_take (i := 3) (v := ?_) rfl (by kernel_rfl) (by kernel_rfl) (by kernel_rfl) (fun _ _ _ h => h) (Or.inl ⟨by kernel_rfl, ?_⟩) (by assumption) ?_; rotate_left; · (intro w hSw; (try dsimp only at hSw); go_simp; first | done | with_reducible rfl))
                                        (try simp only [Act.put]); (try simp only [List.getElem_toArray]); (try simp only [List.getElem_cons_succ]); (try simp only [List.getElem_cons_zero]); (try simp only [List.setIfInBounds_toArray]); (try simp only [List.set_cons_succ]); (try simp only [List.set_cons_zero])
                                        (refine wpAnyH_take (i := 4) (v := ?_) rfl (by kernel_rfl) (by kernel_rfl) (by kernel_rfl) (fun _ _ _ h => h) (Or.inl ⟨by kernel_rfl, ?_⟩) (by assumption) ?_; rotate_left; · (intro w hSw; (try dsimp only at hSw); go_simp; first | done | with_reducible rfl))
                                        (try simp only [Act.put]); (try simp only [List.getElem_toArray]); (try simp only [List.getElem_cons_succ]); (try simp only [List.getElem_cons_zero]); (try simp only [List.setIfInBounds_toArray]); (try simp only [List.set_cons_succ]); (try simp only [List.set_cons_zero])
                                        (refine wpAnyH_take (i := 5) (v := ?_) rfl (by kernel_rfl) (by kernel_rfl) (by kernel_rfl) (fun _ _ _ h => h) (Or.inl ⟨by kernel_rfl, ?_⟩) (by assumption) ?_; rotate_left; · (intro w hSw; (try dsimp only at hSw); go_simp; first | done | with_reducible rfl))
                                        (try simp only [Act.put]); (try simp only [List.getElem_toArray]); (try simp only [List.getElem_cons_succ]); (try simp only [List.getElem_cons_zero]); (try simp only [List.setIfInBounds_toArray]); (try simp only [List.set_cons_succ]); (try simp only [List.set_cons_zero])
                                        (refine wpAnyH_take (i := 6) (v := ?_) rfl (by kernel_rfl) (by kernel_rfl) (by kernel_rfl) (fun _ _ _ h => h) (Or.inl ⟨by kernel_rfl, ?_⟩) (by assumption) ?_; rotate_left; · (intro w hSw; (try dsimp only at hSw); go_simp; first | done | with_reducible rfl))
                                        (try simp only [Act.put]); (try simp only [List.getElem_toArray]); (try simp only [List.getElem_cons_succ]); (try simp only [List.getElem_cons_zero]); (try simp only [List.setIfInBounds_toArray]); (try simp only [List.set_cons_succ]); (try simp only [List.set_cons_zero])
                                        (refine wpAnyH_take (i := 7) (v := ?_) rfl (by kernel_rfl) (by kernel_rfl) (by kernel_rfl) (fun _ _ _ h => h) (Or.inl ⟨by kernel_rfl, ?_⟩) (by assumption) ?_; rotate_left; · (intro w hSw; (try dsimp only at hSw); go_simp; first | done | with_reducible rfl))
                                        (try simp only [Act.put]); (try simp only [List.getElem_toArray]); (try simp only [List.getElem_cons_succ]); (try simp only [List.getElem_cons_zero]); (try simp only [List.setIfInBounds_toArray]); (try simp only [List.set_cons_succ]); (try simp only [List.set_cons_zero])
                                        (refine wpAnyH_take (i := 8) (v := ?_) rfl (by kernel_rfl) (by kernel_rfl) (by kernel_rfl) (fun _ _ _ h => h) (Or.inl ⟨by kernel_rfl, ?_⟩) (by assumption) ?_; rotate_left; · (intro w hSw; (try dsimp only at hSw); go_simp; first | done | with_reducible rfl))
                                        (try simp only [Act.put]); (try simp only [List.getElem_toArray]); (try simp only [List.getElem_cons_succ]); (try simp only [List.getElem_cons_zero]); (try simp only [List.setIfInBounds_toArray]); (try simp only [List.set_cons_succ]); (try simp only [List.set_cons_zero])
                                        (refine wpAnyH_take (i := 9) (v := ?_) rfl (by kernel_rfl) (by kernel_rfl) (by kernel_rfl) (fun _ _ _ h => h) (Or.inl ⟨by kernel_rfl, ?_⟩) (by assumption) ?_; rotate_left; · (intro w hSw; (try dsimp only at hSw); go_simp; first | done | with_reducible rfl))
                                        (try simp only [Act.put]); (try simp only [List.getElem_toArray]); (try simp only [List.getElem_cons_succ]); (try simp only [List.getElem_cons_zero]); (try simp only [List.setIfInBounds_toArray]); (try simp only [List.set_cons_succ]); (try simp only [List.set_cons_zero])
                                        refine wpAnyH_done (by kernel_rfl) ?_ _
                                        have HB2 := hid (HB.out.trans (hHeld.1.out.1.mono HB.out.size))
                                        clear hHeld HT
                                        clear x0 x1 x2 x3 x4 x5 x6 x7 z0 z1 z2 z3 z4 z5 z6 z7
                                        go_wp2
                                        go_roundw
                                        case rel => exact ⟨q + 1, false, by omega, by go_num, rfl, told_no HTk.out HF.out HNe.out, HB2.out⟩
                                        case measure => simp [intOf]; omega
                                    · have n0 : (d.r.toList = c.r.toList) = True := eq_true (by rw [e0])
                                      have n1 : (d.f.toList = c.f.toList) = True := eq_true (by rw [e1])
                                      have n2 : (d.q.toList = c.q.toList) = True := eq_true (by rw [e2])
                                      have n3 : (d.t = c.t) = True := eq_true (by rw [e3])
                                      have n4 : (d.k = c.k) = False := eq_false e4
                                      have HNe : Hid (¬ d = c) := fun h => e4 (by rw [h])
                                      clear e0 e1 e2 e3 e4
                                      go_upto_region 35 with (fail)
                                      refine wp_region_held_drew (S := (fun W' => Hid (Below wr.heap.size wr W' ∧ lb < wr.heap.size ∧ cb < wr.heap.size) ∧ (W'.cell? ⟨lb, lo + q * 8, none⟩ = some (.string d.r) ∧ W'.cell? ⟨lb, lo + q * 8 + 1, none⟩ = some (.string d.f) ∧ W'.cell? ⟨lb, lo + q * 8 + 2, none⟩ = some (.string d.q) ∧ W'.cell? ⟨lb, lo + q * 8 + 3, none⟩ = some (.int .i64 d.t) ∧ W'.cell? ⟨lb, lo + q * 8 + 4, none⟩ = some (.int .i64 d.k) ∧ W'.cell? ⟨lb, lo + q * 8 + 5, none⟩ = some (.int .i64 d.vk) ∧ W'.cell? ⟨lb, lo + q * 8 + 6, none⟩ = some (.int .i64 d.vn) ∧ W'.cell? ⟨lb, lo + q * 8 + 7, none⟩ = some (.string d.s)) ∧ (W'.cell? ⟨cb, 0, none⟩ = some (.string c.r) ∧ W'.cell? ⟨cb, 1, none⟩ = some (.string c.f) ∧ W'.cell? ⟨cb, 2, none⟩ = some (.string c.q) ∧ W'.cell? ⟨cb, 3, none⟩ = some (.int .i64 c.t) ∧ W'.cell? ⟨cb, 4, none⟩ = some (.int .i64 c.k) ∧ W'.cell? ⟨cb, 5, none⟩ = some (.int .i64 c.vk) ∧ W'.cell? ⟨cb, 6, none⟩ = some (.int .i64 c.vn) ∧ W'.cell? ⟨cb, 7, none⟩ = some (.string c.s)))) (by kernel_rfl) ?_ (fun hHeld => ?_)
                                      (exact pax_drew HT.out)
                                      (refine wpAnyH_take (i := 0) (v := ?_) rfl (by kernel_rfl) (by kernel_rfl) (by kernel_rfl) (fun _ _ _ h => h) (Or.inl ⟨by kernel_rfl, ?_⟩) (by assumption) ?_; rotate_left; · (intro w hSw; (try dsimp only at hSw); go_simp; first | done | with_reducible rfl))
                                      (try simp only [Act.put]); (try simp only [List.getElem_toArray]); (try simp only [List.getElem_cons_succ]); (try simp only [List.getElem_cons_zero]); (try simp only [List.setIfInBounds_toArray]); (try simp only [List.set_cons_succ]); (try simp only [List.set_cons_zero])
                                      (refine wpAnyH_take (i := 1) (v := ?_) rfl (by kernel_rfl) (by kernel_rfl) (by kernel_rfl) (fun _ _ _ h => h) (Or.inl ⟨by kernel_rfl, ?_⟩) (by assumption) ?_; rotate_left; · (intro w hSw; (try dsimp only at hSw); go_simp; first | done | with_reducible rfl))
                                      (try simp only [Act.put]); (try simp only [List.getElem_toArray]); (try simp only [List.getElem_cons_succ]); (try simp only [List.getElem_cons_zero]); (try simp only [List.setIfInBounds_toArray]); (try simp only [List.set_cons_succ]); (try simp only [List.set_cons_zero])
                                      (refine wpAnyH_take (i := 2) (v := ?_) rfl (by kernel_rfl) (by kernel_rfl) (by kernel_rfl) (fun _ _ _ h => h) (Or.inl ⟨by kernel_rfl, ?_⟩) (by assumption) ?_; rotate_left; · (intro w hSw; (try dsimp only at hSw); go_simp; first | done | with_reducible rfl))
                                      (try simp only [Act.put]); (try simp only [List.getElem_toArray]); (try simp only [List.getElem_cons_succ]); (try simp only [List.getElem_cons_zero]); (try simp only [List.setIfInBounds_toArray]); (try simp only [List.set_cons_succ]); (try simp only [List.set_cons_zero])
                                      (refine wpAnyH_take (i := 3) (v := ?_) rfl (by kernel_rfl) (by kernel_rfl) (by kernel_rfl) (fun _ _ _ h => h) (Or.inl ⟨by kernel_rfl, ?_⟩) (by assumption) ?_; rotate_left; · (intro w hSw; (try dsimp only at hSw); go_simp; first | done | with_reducible rfl))
                                      (try simp only [Act.put]); (try simp only [List.getElem_toArray]); (try simp only [List.getElem_cons_succ]); (try simp only [List.getElem_cons_zero]); (try simp only [List.setIfInBounds_toArray]); (try simp only [List.set_cons_succ]); (try simp only [List.set_cons_zero])
                                      (refine wpAnyH_take (i := 4) (v := ?_) rfl (by kernel_rfl) (by kernel_rfl) (by kernel_rfl) (fun _ _ _ h => h) (Or.inl ⟨by kernel_rfl, ?_⟩) (by assumption) ?_; rotate_left; · (intro w hSw; (try dsimp only at hSw); go_simp; first | done | with_reducible rfl))
                                      (try simp only [Act.put]); (try simp only [List.getElem_toArray]); (try simp only [List.getElem_cons_succ]); (try simp only [List.getElem_cons_zero]); (try simp only [List.setIfInBounds_toArray]); (try simp only [List.set_cons_succ]); (try simp only [List.set_cons_zero])
                                      (refine wpAnyH_take (i := 5) (v := ?_) rfl (by kernel_rfl) (by kernel_rfl) (by kernel_rfl) (fun _ _ _ h => h) (Or.inl ⟨by kernel_rfl, ?_⟩) (by assumption) ?_; rotate_left; · (intro w hSw; (try dsimp only at hSw); go_simp; first | done | with_reducible rfl))
                                      (try simp only [Act.put]); (try simp only [List.getElem_toArray]); (try simp only [List.getElem_cons_succ]); (try simp only [List.getElem_cons_zero]); (try simp only [List.setIfInBounds_toArray]); (try simp only [List.set_cons_succ]); (try simp only [List.set_cons_zero])
                                      (refine wpAnyH_take (i := 6) (v := ?_) rfl (by kernel_rfl) (by kernel_rfl) (by kernel_rfl) (fun _ _ _ h => h) (Or.inl ⟨by kernel_rfl, ?_⟩) (by assumption) ?_; rotate_left; · (intro w hSw; (try dsimp only at hSw); go_simp; first | done | with_reducible rfl))
                                      (try simp only [Act.put]); (try simp only [List.getElem_toArray]); (try simp only [List.getElem_cons_succ]); (try simp only [List.getElem_cons_zero]); (try simp only [List.setIfInBounds_toArray]); (try simp only [List.set_cons_succ]); (try simp only [List.set_cons_zero])
                                      (refine wpAnyH_take (i := 7) (v := ?_) rfl (by kernel_rfl) (by kernel_rfl) (by kernel_rfl) (fun _ _ _ h => h) (Or.inl ⟨by kernel_rfl, ?_⟩) (by assumption) ?_; rotate_left; · (intro w hSw; (try dsimp only at hSw); go_simp; first | done | with_reducible rfl))
                                      (try simp only [Act.put]); (try simp only [List.getElem_toArray]); (try simp only [List.getElem_cons_succ]); (try simp only [List.getElem_cons_zero]); (try simp only [List.setIfInBounds_toArray]); (try simp only [List.set_cons_succ]); (try simp only [List.set_cons_zero])
                                      (refine wpAnyH_take (i := 8) (v := ?_) rfl (by kernel_rfl) (by kernel_rfl) (by kernel_rfl) (fun _ _ _ h => h) (Or.inl ⟨by kernel_rfl, ?_⟩) (by assumption) ?_; rotate_left; · (intro w hSw; (try dsimp only at hSw); go_simp; first | done | with_reducible rfl))
                                      (try simp only [Act.put]); (try simp only [List.getElem_toArray]); (try simp only [List.getElem_cons_succ]); (try simp only [List.getElem_cons_zero]); (try simp only [List.setIfInBounds_toArray]); (try simp only [List.set_cons_succ]); (try simp only [List.set_cons_zero])
                                      (refine wpAnyH_take (i := 9) (v := ?_) rfl (by kernel_rfl) (by kernel_rfl) (by kernel_rfl) (fun _ _ _ h => h) (Or.inl ⟨by kernel_rfl, ?_⟩) (by assumption) ?_; rotate_left; · (intro w hSw; (try dsimp only at hSw); go_simp; first | done | with_reducible rfl))
                                      (try simp only [Act.put]); (try simp only [List.getElem_toArray]); (try simp only [List.getElem_cons_succ]); (try simp only [List.getElem_cons_zero]); (try simp only [List.setIfInBounds_toArray]); (try simp only [List.set_cons_succ]); (try simp only [List.set_cons_zero])
                                      refine wpAnyH_done (by kernel_rfl) ?_ _
                                      have HB2 := hid (HB.out.trans (hHeld.1.out.1.mono HB.out.size))
                                      clear hHeld HT
                                      clear x0 x1 x2 x3 x4 x5 x6 x7 z0 z1 z2 z3 z4 z5 z6 z7
                                      go_wp2
                                      go_roundw
                                      case rel => exact ⟨q + 1, false, by omega, by go_num, rfl, told_no HTk.out HF.out HNe.out, HB2.out⟩
                                      case measure => simp [intOf]; omega
                                  · have n0 : (d.r.toList = c.r.toList) = True := eq_true (by rw [e0])
                                    have n1 : (d.f.toList = c.f.toList) = True := eq_true (by rw [e1])
                                    have n2 : (d.q.toList = c.q.toList) = True := eq_true (by rw [e2])
                                    have n3 : (d.t = c.t) = False := eq_false e3
                                    have HNe : Hid (¬ d = c) := fun h => e3 (by rw [h])
                                    clear e0 e1 e2 e3
                                    go_upto_region 35 with (fail)
                                    refine wp_region_held_drew (S := (fun W' => Hid (Below wr.heap.size wr W' ∧ lb < wr.heap.size ∧ cb < wr.heap.size) ∧ (W'.cell? ⟨lb, lo + q * 8, none⟩ = some (.string d.r) ∧ W'.cell? ⟨lb, lo + q * 8 + 1, none⟩ = some (.string d.f) ∧ W'.cell? ⟨lb, lo + q * 8 + 2, none⟩ = some (.string d.q) ∧ W'.cell? ⟨lb, lo + q * 8 + 3, none⟩ = some (.int .i64 d.t) ∧ W'.cell? ⟨lb, lo + q * 8 + 4, none⟩ = some (.int .i64 d.k) ∧ W'.cell? ⟨lb, lo + q * 8 + 5, none⟩ = some (.int .i64 d.vk) ∧ W'.cell? ⟨lb, lo + q * 8 + 6, none⟩ = some (.int .i64 d.vn) ∧ W'.cell? ⟨lb, lo + q * 8 + 7, none⟩ = some (.string d.s)) ∧ (W'.cell? ⟨cb, 0, none⟩ = some (.string c.r) ∧ W'.cell? ⟨cb, 1, none⟩ = some (.string c.f) ∧ W'.cell? ⟨cb, 2, none⟩ = some (.string c.q) ∧ W'.cell? ⟨cb, 3, none⟩ = some (.int .i64 c.t) ∧ W'.cell? ⟨cb, 4, none⟩ = some (.int .i64 c.k) ∧ W'.cell? ⟨cb, 5, none⟩ = some (.int .i64 c.vk) ∧ W'.cell? ⟨cb, 6, none⟩ = some (.int .i64 c.vn) ∧ W'.cell? ⟨cb, 7, none⟩ = some (.string c.s)))) (by kernel_rfl) ?_ (fun hHeld => ?_)
                                    (exact pax_drew HT.out)
                                    (refine wpAnyH_take (i := 0) (v := ?_) rfl (by kernel_rfl) (by kernel_rfl) (by kernel_rfl) (fun _ _ _ h => h) (Or.inl ⟨by kernel_rfl, ?_⟩) (by assumption) ?_; rotate_left; · (intro w hSw; (try dsimp only at hSw); go_simp; first | done | with_reducible rfl))
                                    (try simp only [Act.put]); (try simp only [List.getElem_toArray]); (try simp only [List.getElem_cons_succ]); (try simp only [List.getElem_cons_zero]); (try simp only [List.setIfInBounds_toArray]); (try simp only [List.set_cons_succ]); (try simp only [List.set_cons_zero])
                                    (refine wpAnyH_take (i := 1) (v := ?_) rfl (by kernel_rfl) (by kernel_rfl) (by kernel_rfl) (fun _ _ _ h => h) (Or.inl ⟨by kernel_rfl, ?_⟩) (by assumption) ?_; rotate_left; · (intro w hSw; (try dsimp only at hSw); go_simp; first | done | with_reducible rfl))
                                    (try simp only [Act.put]); (try simp only [List.getElem_toArray]); (try simp only [List.getElem_cons_succ]); (try simp only [List.getElem_cons_zero]); (try simp only [List.setIfInBounds_toArray]); (try simp only [List.set_cons_succ]); (try simp only [List.set_cons_zero])
                                    (refine wpAnyH_take (i := 2) (v := ?_) rfl (by kernel_rfl) (by kernel_rfl) (by kernel_rfl) (fun _ _ _ h => h) (Or.inl ⟨by kernel_rfl, ?_⟩) (by assumption) ?_; rotate_left; · (intro w hSw; (try dsimp only at hSw); go_simp; first | done | with_reducible rfl))
                                    (try simp only [Act.put]); (try simp only [List.getElem_toArray]); (try simp only [List.getElem_cons_succ]); (try simp only [List.getElem_cons_zero]); (try simp only [List.setIfInBounds_toArray]); (try simp only [List.set_cons_succ]); (try simp only [List.set_cons_zero])
                                    (refine wpAnyH_take (i := 3) (v := ?_) rfl (by kernel_rfl) (by kernel_rfl) (by kernel_rfl) (fun _ _ _ h => h) (Or.inl ⟨by kernel_rfl, ?_⟩) (by assumption) ?_; rotate_left; · (intro w hSw; (try dsimp only at hSw); go_simp; first | done | with_reducible rfl))
                                    (try simp only [Act.put]); (try simp only [List.getElem_toArray]); (try simp only [List.getElem_cons_succ]); (try simp only [List.getElem_cons_zero]); (try simp only [List.setIfInBounds_toArray]); (try simp only [List.set_cons_succ]); (try simp only [List.set_cons_zero])
                                    (refine wpAnyH_take (i := 4) (v := ?_) rfl (by kernel_rfl) (by kernel_rfl) (by kernel_rfl) (fun _ _ _ h => h) (Or.inl ⟨by kernel_rfl, ?_⟩) (by assumption) ?_; rotate_left; · (intro w hSw; (try dsimp only at hSw); go_simp; first | done | with_reducible rfl))
                                    (try simp only [Act.put]); (try simp only [List.getElem_toArray]); (try simp only [List.getElem_cons_succ]); (try simp only [List.getElem_cons_zero]); (try simp only [List.setIfInBounds_toArray]); (try simp only [List.set_cons_succ]); (try simp only [List.set_cons_zero])
                                    (refine wpAnyH_take (i := 5) (v := ?_) rfl (by kernel_rfl) (by kernel_rfl) (by kernel_rfl) (fun _ _ _ h => h) (Or.inl ⟨by kernel_rfl, ?_⟩) (by assumption) ?_; rotate_left; · (intro w hSw; (try dsimp only at hSw); go_simp; first | done | with_reducible rfl))
                                    (try simp only [Act.put]); (try simp only [List.getElem_toArray]); (try simp only [List.getElem_cons_succ]); (try simp only [List.getElem_cons_zero]); (try simp only [List.setIfInBounds_toArray]); (try simp only [List.set_cons_succ]); (try simp only [List.set_cons_zero])
                                    (refine wpAnyH_take (i := 6) (v := ?_) rfl (by kernel_rfl) (by kernel_rfl) (by kernel_rfl) (fun _ _ _ h => h) (Or.inl ⟨by kernel_rfl, ?_⟩) (by assumption) ?_; rotate_left; · (intro w hSw; (try dsimp only at hSw); go_simp; first | done | with_reducible rfl))
                                    (try simp only [Act.put]); (try simp only [List.getElem_toArray]); (try simp only [List.getElem_cons_succ]); (try simp only [List.getElem_cons_zero]); (try simp only [List.setIfInBounds_toArray]); (try simp only [List.set_cons_succ]); (try simp only [List.set_cons_zero])
                                    (refine wpAnyH_take (i := 7) (v := ?_) rfl (by kernel_rfl) (by kernel_rfl) (by kernel_rfl) (fun _ _ _ h => h) (Or.inl ⟨by kernel_rfl, ?_⟩) (by assumption) ?_; rotate_left; · (intro w hSw; (try dsimp only at hSw); go_simp; first | done | with_reducible rfl))
                                    (try simp only [Act.put]); (try simp only [List.getElem_toArray]); (try simp only [List.getElem_cons_succ]); (try simp only [List.getElem_cons_zero]); (try simp only [List.setIfInBounds_toArray]); (try simp only [List.set_cons_succ]); (try simp only [List.set_cons_zero])
                                    (refine wpAnyH_take (i := 8) (v := ?_) rfl (by kernel_rfl) (by kernel_rfl) (by kernel_rfl) (fun _ _ _ h => h) (Or.inl ⟨by kernel_rfl, ?_⟩) (by assumption) ?_; rotate_left; · (intro w hSw; (try dsimp only at hSw); go_simp; first | done | with_reducible rfl))
                                    (try simp only [Act.put]); (try simp only [List.getElem_toArray]); (try simp only [List.getElem_cons_succ]); (try simp only [List.getElem_cons_zero]); (try simp only [List.setIfInBounds_toArray]); (try simp only [List.set_cons_succ]); (try simp only [List.set_cons_zero])
                                    (refine wpAnyH_take (i := 9) (v := ?_) rfl (by kernel_rfl) (by kernel_rfl) (by kernel_rfl) (fun _ _ _ h => h) (Or.inl ⟨by kernel_rfl, ?_⟩) (by assumption) ?_; rotate_left; · (intro w hSw; (try dsimp only at hSw); go_simp; first | done | with_reducible rfl))
                                    (try simp only [Act.put]); (try simp only [List.getElem_toArray]); (try simp only [List.getElem_cons_succ]); (try simp only [List.getElem_cons_zero]); (try simp only [List.setIfInBounds_toArray]); (try simp only [List.set_cons_succ]); (try simp only [List.set_cons_zero])
                                    refine wpAnyH_done (by kernel_rfl) ?_ _
                                    have HB2 := hid (HB.out.trans (hHeld.1.out.1.mono HB.out.size))
                                    clear hHeld HT
                                    clear x0 x1 x2 x3 x4 x5 x6 x7 z0 z1 z2 z3 z4 z5 z6 z7
                                    go_wp2
                                    go_roundw
                                    case rel => exact ⟨q + 1, false, by omega, by go_num, rfl, told_no HTk.out HF.out HNe.out, HB2.out⟩
                                    case measure => simp [intOf]; omega
                                · have n0 : (d.r.toList = c.r.toList) = True := eq_true (by rw [e0])
                                  have n1 : (d.f.toList = c.f.toList) = True := eq_true (by rw [e1])
                                  have n2 : (d.q.toList = c.q.toList) = False := eq_false (fun h => by have h2 := ba_ne e2; rw [h] at h2; simp at h2)
                                  have HNe : Hid (¬ d = c) := fun h => e2 (by rw [h])
                                  clear e0 e1 e2
                                  go_upto_region 35 with (fail)
                                  refine wp_region_held_drew (S := (fun W' => Hid (Below wr.heap.size wr W' ∧ lb < wr.heap.size ∧ cb < wr.heap.size) ∧ (W'.cell? ⟨lb, lo + q * 8, none⟩ = some (.string d.r) ∧ W'.cell? ⟨lb, lo + q * 8 + 1, none⟩ = some (.string d.f) ∧ W'.cell? ⟨lb, lo + q * 8 + 2, none⟩ = some (.string d.q) ∧ W'.cell? ⟨lb, lo + q * 8 + 3, none⟩ = some (.int .i64 d.t) ∧ W'.cell? ⟨lb, lo + q * 8 + 4, none⟩ = some (.int .i64 d.k) ∧ W'.cell? ⟨lb, lo + q * 8 + 5, none⟩ = some (.int .i64 d.vk) ∧ W'.cell? ⟨lb, lo + q * 8 + 6, none⟩ = some (.int .i64 d.vn) ∧ W'.cell? ⟨lb, lo + q * 8 + 7, none⟩ = some (.string d.s)) ∧ (W'.cell? ⟨cb, 0, none⟩ = some (.string c.r) ∧ W'.cell? ⟨cb, 1, none⟩ = some (.string c.f) ∧ W'.cell? ⟨cb, 2, none⟩ = some (.string c.q) ∧ W'.cell? ⟨cb, 3, none⟩ = some (.int .i64 c.t) ∧ W'.cell? ⟨cb, 4, none⟩ = some (.int .i64 c.k) ∧ W'.cell? ⟨cb, 5, none⟩ = some (.int .i64 c.vk) ∧ W'.cell? ⟨cb, 6, none⟩ = some (.int .i64 c.vn) ∧ W'.cell? ⟨cb, 7, none⟩ = some (.string c.s)))) (by kernel_rfl) ?_ (fun hHeld => ?_)
                                  (exact pax_drew HT.out)
                                  (refine wpAnyH_take (i := 0) (v := ?_) rfl (by kernel_rfl) (by kernel_rfl) (by kernel_rfl) (fun _ _ _ h => h) (Or.inl ⟨by kernel_rfl, ?_⟩) (by assumption) ?_; rotate_left; · (intro w hSw; (try dsimp only at hSw); go_simp; first | done | with_reducible rfl))
                                  (try simp only [Act.put]); (try simp only [List.getElem_toArray]); (try simp only [List.getElem_cons_succ]); (try simp only [List.getElem_cons_zero]); (try simp only [List.setIfInBounds_toArray]); (try simp only [List.set_cons_succ]); (try simp only [List.set_cons_zero])
                                  (refine wpAnyH_take (i := 1) (v := ?_) rfl (by kernel_rfl) (by kernel_rfl) (by kernel_rfl) (fun _ _ _ h => h) (Or.inl ⟨by kernel_rfl, ?_⟩) (by assumption) ?_; rotate_left; · (intro w hSw; (try dsimp only at hSw); go_simp; first | done | with_reducible rfl))
                                  (try simp only [Act.put]); (try simp only [List.getElem_toArray]); (try simp only [List.getElem_cons_succ]); (try simp only [List.getElem_cons_zero]); (try simp only [List.setIfInBounds_toArray]); (try simp only [List.set_cons_succ]); (try simp only [List.set_cons_zero])
                                  (refine wpAnyH_take (i := 2) (v := ?_) rfl (by kernel_rfl) (by kernel_rfl) (by kernel_rfl) (fun _ _ _ h => h) (Or.inl ⟨by kernel_rfl, ?_⟩) (by assumption) ?_; rotate_left; · (intro w hSw; (try dsimp only at hSw); go_simp; first | done | with_reducible rfl))
                                  (try simp only [Act.put]); (try simp only [List.getElem_toArray]); (try simp only [List.getElem_cons_succ]); (try simp only [List.getElem_cons_zero]); (try simp only [List.setIfInBounds_toArray]); (try simp only [List.set_cons_succ]); (try simp only [List.set_cons_zero])
                                  (refine wpAnyH_take (i := 3) (v := ?_) rfl (by kernel_rfl) (by kernel_rfl) (by kernel_rfl) (fun _ _ _ h => h) (Or.inl ⟨by kernel_rfl, ?_⟩) (by assumption) ?_; rotate_left; · (intro w hSw; (try dsimp only at hSw); go_simp; first | done | with_reducible rfl))
                                  (try simp only [Act.put]); (try simp only [List.getElem_toArray]); (try simp only [List.getElem_cons_succ]); (try simp only [List.getElem_cons_zero]); (try simp only [List.setIfInBounds_toArray]); (try simp only [List.set_cons_succ]); (try simp only [List.set_cons_zero])
                                  (refine wpAnyH_take (i := 4) (v := ?_) rfl (by kernel_rfl) (by kernel_rfl) (by kernel_rfl) (fun _ _ _ h => h) (Or.inl ⟨by kernel_rfl, ?_⟩) (by assumption) ?_; rotate_left; · (intro w hSw; (try dsimp only at hSw); go_simp; first | done | with_reducible rfl))
                                  (try simp only [Act.put]); (try simp only [List.getElem_toArray]); (try simp only [List.getElem_cons_succ]); (try simp only [List.getElem_cons_zero]); (try simp only [List.setIfInBounds_toArray]); (try simp only [List.set_cons_succ]); (try simp only [List.set_cons_zero])
                                  (refine wpAnyH_take (i := 5) (v := ?_) rfl (by kernel_rfl) (by kernel_rfl) (by kernel_rfl) (fun _ _ _ h => h) (Or.inl ⟨by kernel_rfl, ?_⟩) (by assumption) ?_; rotate_left; · (intro w hSw; (try dsimp only at hSw); go_simp; first | done | with_reducible rfl))
                                  (try simp only [Act.put]); (try simp only [List.getElem_toArray]); (try simp only [List.getElem_cons_succ]); (try simp only [List.getElem_cons_zero]); (try simp only [List.setIfInBounds_toArray]); (try simp only [List.set_cons_succ]); (try simp only [List.set_cons_zero])
                                  (refine wpAnyH_take (i := 6) (v := ?_) rfl (by kernel_rfl) (by kernel_rfl) (by kernel_rfl) (fun _ _ _ h => h) (Or.inl ⟨by kernel_rfl, ?_⟩) (by assumption) ?_; rotate_left; · (intro w hSw; (try dsimp only at hSw); go_simp; first | done | with_reducible rfl))
                                  (try simp only [Act.put]); (try simp only [List.getElem_toArray]); (try simp only [List.getElem_cons_succ]); (try simp only [List.getElem_cons_zero]); (try simp only [List.setIfInBounds_toArray]); (try simp only [List.set_cons_succ]); (try simp only [List.set_cons_zero])
                                  (refine wpAnyH_take (i := 7) (v := ?_) rfl (by kernel_rfl) (by kernel_rfl) (by kernel_rfl) (fun _ _ _ h => h) (Or.inl ⟨by kernel_rfl, ?_⟩) (by assumption) ?_; rotate_left; · (intro w hSw; (try dsimp only at hSw); go_simp; first | done | with_reducible rfl))
                                  (try simp only [Act.put]); (try simp only [List.getElem_toArray]); (try simp only [List.getElem_cons_succ]); (try simp only [List.getElem_cons_zero]); (try simp only [List.setIfInBounds_toArray]); (try simp only [List.set_cons_succ]); (try simp only [List.set_cons_zero])
                                  (refine wpAnyH_take (i := 8) (v := ?_) rfl (by kernel_rfl) (by kernel_rfl) (by kernel_rfl) (fun _ _ _ h => h) (Or.inl ⟨by kernel_rfl, ?_⟩) (by assumption) ?_; rotate_left; · (intro w hSw; (try dsimp only at hSw); go_simp; first | done | with_reducible rfl))
                                  (try simp only [Act.put]); (try simp only [List.getElem_toArray]); (try simp only [List.getElem_cons_succ]); (try simp only [List.getElem_cons_zero]); (try simp only [List.setIfInBounds_toArray]); (try simp only [List.set_cons_succ]); (try simp only [List.set_cons_zero])
                                  (refine wpAnyH_take (i := 9) (v := ?_) rfl (by kernel_rfl) (by kernel_rfl) (by kernel_rfl) (fun _ _ _ h => h) (Or.inl ⟨by kernel_rfl, ?_⟩) (by assumption) ?_; rotate_left; · (intro w hSw; (try dsimp only at hSw); go_simp; first | done | with_reducible rfl))
                                  (try simp only [Act.put]); (try simp only [List.getElem_toArray]); (try simp only [List.getElem_cons_succ]); (try simp only [List.getElem_cons_zero]); (try simp only [List.setIfInBounds_toArray]); (try simp only [List.set_cons_succ]); (try simp only [List.set_cons_zero])
                                  refine wpAnyH_done (by kernel_rfl) ?_ _
                                  have HB2 := hid (HB.out.trans (hHeld.1.out.1.mono HB.out.size))
                                  clear hHeld HT
                                  clear x0 x1 x2 x3 x4 x5 x6 x7 z0 z1 z2 z3 z4 z5 z6 z7
                                  go_wp2
                                  go_roundw
                                  case rel => exact ⟨q + 1, false, by omega, by go_num, rfl, told_no HTk.out HF.out HNe.out, HB2.out⟩
                                  case measure => simp [intOf]; omega
                              · have n0 : (d.r.toList = c.r.toList) = True := eq_true (by rw [e0])
                                have n1 : (d.f.toList = c.f.toList) = False := eq_false (fun h => by have h2 := ba_ne e1; rw [h] at h2; simp at h2)
                                have HNe : Hid (¬ d = c) := fun h => e1 (by rw [h])
                                clear e0 e1
                                go_upto_region 35 with (fail)
                                refine wp_region_held_drew (S := (fun W' => Hid (Below wr.heap.size wr W' ∧ lb < wr.heap.size ∧ cb < wr.heap.size) ∧ (W'.cell? ⟨lb, lo + q * 8, none⟩ = some (.string d.r) ∧ W'.cell? ⟨lb, lo + q * 8 + 1, none⟩ = some (.string d.f) ∧ W'.cell? ⟨lb, lo + q * 8 + 2, none⟩ = some (.string d.q) ∧ W'.cell? ⟨lb, lo + q * 8 + 3, none⟩ = some (.int .i64 d.t) ∧ W'.cell? ⟨lb, lo + q * 8 + 4, none⟩ = some (.int .i64 d.k) ∧ W'.cell? ⟨lb, lo + q * 8 + 5, none⟩ = some (.int .i64 d.vk) ∧ W'.cell? ⟨lb, lo + q * 8 + 6, none⟩ = some (.int .i64 d.vn) ∧ W'.cell? ⟨lb, lo + q * 8 + 7, none⟩ = some (.string d.s)) ∧ (W'.cell? ⟨cb, 0, none⟩ = some (.string c.r) ∧ W'.cell? ⟨cb, 1, none⟩ = some (.string c.f) ∧ W'.cell? ⟨cb, 2, none⟩ = some (.string c.q) ∧ W'.cell? ⟨cb, 3, none⟩ = some (.int .i64 c.t) ∧ W'.cell? ⟨cb, 4, none⟩ = some (.int .i64 c.k) ∧ W'.cell? ⟨cb, 5, none⟩ = some (.int .i64 c.vk) ∧ W'.cell? ⟨cb, 6, none⟩ = some (.int .i64 c.vn) ∧ W'.cell? ⟨cb, 7, none⟩ = some (.string c.s)))) (by kernel_rfl) ?_ (fun hHeld => ?_)
                                (exact pax_drew HT.out)
                                (refine wpAnyH_take (i := 0) (v := ?_) rfl (by kernel_rfl) (by kernel_rfl) (by kernel_rfl) (fun _ _ _ h => h) (Or.inl ⟨by kernel_rfl, ?_⟩) (by assumption) ?_; rotate_left; · (intro w hSw; (try dsimp only at hSw); go_simp; first | done | with_reducible rfl))
                                (try simp only [Act.put]); (try simp only [List.getElem_toArray]); (try simp only [List.getElem_cons_succ]); (try simp only [List.getElem_cons_zero]); (try simp only [List.setIfInBounds_toArray]); (try simp only [List.set_cons_succ]); (try simp only [List.set_cons_zero])
                                (refine wpAnyH_take (i := 1) (v := ?_) rfl (by kernel_rfl) (by kernel_rfl) (by kernel_rfl) (fun _ _ _ h => h) (Or.inl ⟨by kernel_rfl, ?_⟩) (by assumption) ?_; rotate_left; · (intro w hSw; (try dsimp only at hSw); go_simp; first | done | with_reducible rfl))
                                (try simp only [Act.put]); (try simp only [List.getElem_toArray]); (try simp only [List.getElem_cons_succ]); (try simp only [List.getElem_cons_zero]); (try simp only [List.setIfInBounds_toArray]); (try simp only [List.set_cons_succ]); (try simp only [List.set_cons_zero])
                                (refine wpAnyH_take (i := 2) (v := ?_) rfl (by kernel_rfl) (by kernel_rfl) (by kernel_rfl) (fun _ _ _ h => h) (Or.inl ⟨by kernel_rfl, ?_⟩) (by assumption) ?_; rotate_left; · (intro w hSw; (try dsimp only at hSw); go_simp; first | done | with_reducible rfl))
                                (try simp only [Act.put]); (try simp only [List.getElem_toArray]); (try simp only [List.getElem_cons_succ]); (try simp only [List.getElem_cons_zero]); (try simp only [List.setIfInBounds_toArray]); (try simp only [List.set_cons_succ]); (try simp only [List.set_cons_zero])
                                (refine wpAnyH_take (i := 3) (v := ?_) rfl (by kernel_rfl) (by kernel_rfl) (by kernel_rfl) (fun _ _ _ h => h) (Or.inl ⟨by kernel_rfl, ?_⟩) (by assumption) ?_; rotate_left; · (intro w hSw; (try dsimp only at hSw); go_simp; first | done | with_reducible rfl))
                                (try simp only [Act.put]); (try simp only [List.getElem_toArray]); (try simp only [List.getElem_cons_succ]); (try simp only [List.getElem_cons_zero]); (try simp only [List.setIfInBounds_toArray]); (try simp only [List.set_cons_succ]); (try simp only [List.set_cons_zero])
                                (refine wpAnyH_take (i := 4) (v := ?_) rfl (by kernel_rfl) (by kernel_rfl) (by kernel_rfl) (fun _ _ _ h => h) (Or.inl ⟨by kernel_rfl, ?_⟩) (by assumption) ?_; rotate_left; · (intro w hSw; (try dsimp only at hSw); go_simp; first | done | with_reducible rfl))
                                (try simp only [Act.put]); (try simp only [List.getElem_toArray]); (try simp only [List.getElem_cons_succ]); (try simp only [List.getElem_cons_zero]); (try simp only [List.setIfInBounds_toArray]); (try simp only [List.set_cons_succ]); (try simp only [List.set_cons_zero])
                                (refine wpAnyH_take (i := 5) (v := ?_) rfl (by kernel_rfl) (by kernel_rfl) (by kernel_rfl) (fun _ _ _ h => h) (Or.inl ⟨by kernel_rfl, ?_⟩) (by assumption) ?_; rotate_left; · (intro w hSw; (try dsimp only at hSw); go_simp; first | done | with_reducible rfl))
                                (try simp only [Act.put]); (try simp only [List.getElem_toArray]); (try simp only [List.getElem_cons_succ]); (try simp only [List.getElem_cons_zero]); (try simp only [List.setIfInBounds_toArray]); (try simp only [List.set_cons_succ]); (try simp only [List.set_cons_zero])
                                (refine wpAnyH_take (i := 6) (v := ?_) rfl (by kernel_rfl) (by kernel_rfl) (by kernel_rfl) (fun _ _ _ h => h) (Or.inl ⟨by kernel_rfl, ?_⟩) (by assumption) ?_; rotate_left; · (intro w hSw; (try dsimp only at hSw); go_simp; first | done | with_reducible rfl))
                                (try simp only [Act.put]); (try simp only [List.getElem_toArray]); (try simp only [List.getElem_cons_succ]); (try simp only [List.getElem_cons_zero]); (try simp only [List.setIfInBounds_toArray]); (try simp only [List.set_cons_succ]); (try simp only [List.set_cons_zero])
                                (refine wpAnyH_take (i := 7) (v := ?_) rfl (by kernel_rfl) (by kernel_rfl) (by kernel_rfl) (fun _ _ _ h => h) (Or.inl ⟨by kernel_rfl, ?_⟩) (by assumption) ?_; rotate_left; · (intro w hSw; (try dsimp only at hSw); go_simp; first | done | with_reducible rfl))
                                (try simp only [Act.put]); (try simp only [List.getElem_toArray]); (try simp only [List.getElem_cons_succ]); (try simp only [List.getElem_cons_zero]); (try simp only [List.setIfInBounds_toArray]); (try simp only [List.set_cons_succ]); (try simp only [List.set_cons_zero])
                                (refine wpAnyH_take (i := 8) (v := ?_) rfl (by kernel_rfl) (by kernel_rfl) (by kernel_rfl) (fun _ _ _ h => h) (Or.inl ⟨by kernel_rfl, ?_⟩) (by assumption) ?_; rotate_left; · (intro w hSw; (try dsimp only at hSw); go_simp; first | done | with_reducible rfl))
                                (try simp only [Act.put]); (try simp only [List.getElem_toArray]); (try simp only [List.getElem_cons_succ]); (try simp only [List.getElem_cons_zero]); (try simp only [List.setIfInBounds_toArray]); (try simp only [List.set_cons_succ]); (try simp only [List.set_cons_zero])
                                (refine wpAnyH_take (i := 9) (v := ?_) rfl (by kernel_rfl) (by kernel_rfl) (by kernel_rfl) (fun _ _ _ h => h) (Or.inl ⟨by kernel_rfl, ?_⟩) (by assumption) ?_; rotate_left; · (intro w hSw; (try dsimp only at hSw); go_simp; first | done | with_reducible rfl))
                                (try simp only [Act.put]); (try simp only [List.getElem_toArray]); (try simp only [List.getElem_cons_succ]); (try simp only [List.getElem_cons_zero]); (try simp only [List.setIfInBounds_toArray]); (try simp only [List.set_cons_succ]); (try simp only [List.set_cons_zero])
                                refine wpAnyH_done (by kernel_rfl) ?_ _
                                have HB2 := hid (HB.out.trans (hHeld.1.out.1.mono HB.out.size))
                                clear hHeld HT
                                clear x0 x1 x2 x3 x4 x5 x6 x7 z0 z1 z2 z3 z4 z5 z6 z7
                                go_wp2
                                go_roundw
                                case rel => exact ⟨q + 1, false, by omega, by go_num, rfl, told_no HTk.out HF.out HNe.out, HB2.out⟩
                                case measure => simp [intOf]; omega
                            · have n0 : (d.r.toList = c.r.toList) = False := eq_false (fun h => by have h2 := ba_ne e0; rw [h] at h2; simp at h2)
                              have HNe : Hid (¬ d = c) := fun h => e0 (by rw [h])
                              clear e0
                              go_upto_region 35 with (fail)
                              refine wp_region_held_drew (S := (fun W' => Hid (Below wr.heap.size wr W' ∧ lb < wr.heap.size ∧ cb < wr.heap.size) ∧ (W'.cell? ⟨lb, lo + q * 8, none⟩ = some (.string d.r) ∧ W'.cell? ⟨lb, lo + q * 8 + 1, none⟩ = some (.string d.f) ∧ W'.cell? ⟨lb, lo + q * 8 + 2, none⟩ = some (.string d.q) ∧ W'.cell? ⟨lb, lo + q * 8 + 3, none⟩ = some (.int .i64 d.t) ∧ W'.cell? ⟨lb, lo + q * 8 + 4, none⟩ = some (.int .i64 d.k) ∧ W'.cell? ⟨lb, lo + q * 8 + 5, none⟩ = some (.int .i64 d.vk) ∧ W'.cell? ⟨lb, lo + q * 8 + 6, none⟩ = some (.int .i64 d.vn) ∧ W'.cell? ⟨lb, lo + q * 8 + 7, none⟩ = some (.string d.s)) ∧ (W'.cell? ⟨cb, 0, none⟩ = some (.string c.r) ∧ W'.cell? ⟨cb, 1, none⟩ = some (.string c.f) ∧ W'.cell? ⟨cb, 2, none⟩ = some (.string c.q) ∧ W'.cell? ⟨cb, 3, none⟩ = some (.int .i64 c.t) ∧ W'.cell? ⟨cb, 4, none⟩ = some (.int .i64 c.k) ∧ W'.cell? ⟨cb, 5, none⟩ = some (.int .i64 c.vk) ∧ W'.cell? ⟨cb, 6, none⟩ = some (.int .i64 c.vn) ∧ W'.cell? ⟨cb, 7, none⟩ = some (.string c.s)))) (by kernel_rfl) ?_ (fun hHeld => ?_)
                              (exact pax_drew HT.out)
                              (refine wpAnyH_take (i := 0) (v := ?_) rfl (by kernel_rfl) (by kernel_rfl) (by kernel_rfl) (fun _ _ _ h => h) (Or.inl ⟨by kernel_rfl, ?_⟩) (by assumption) ?_; rotate_left; · (intro w hSw; (try dsimp only at hSw); go_simp; first | done | with_reducible rfl))
                              (try simp only [Act.put]); (try simp only [List.getElem_toArray]); (try simp only [List.getElem_cons_succ]); (try simp only [List.getElem_cons_zero]); (try simp only [List.setIfInBounds_toArray]); (try simp only [List.set_cons_succ]); (try simp only [List.set_cons_zero])
                              (refine wpAnyH_take (i := 1) (v := ?_) rfl (by kernel_rfl) (by kernel_rfl) (by kernel_rfl) (fun _ _ _ h => h) (Or.inl ⟨by kernel_rfl, ?_⟩) (by assumption) ?_; rotate_left; · (intro w hSw; (try dsimp only at hSw); go_simp; first | done | with_reducible rfl))
                              (try simp only [Act.put]); (try simp only [List.getElem_toArray]); (try simp only [List.getElem_cons_succ]); (try simp only [List.getElem_cons_zero]); (try simp only [List.setIfInBounds_toArray]); (try simp only [List.set_cons_succ]); (try simp only [List.set_cons_zero])
                              (refine wpAnyH_take (i := 2) (v := ?_) rfl (by kernel_rfl) (by kernel_rfl) (by kernel_rfl) (fun _ _ _ h => h) (Or.inl ⟨by kernel_rfl, ?_⟩) (by assumption) ?_; rotate_left; · (intro w hSw; (try dsimp only at hSw); go_simp; first | done | with_reducible rfl))
                              (try simp only [Act.put]); (try simp only [List.getElem_toArray]); (try simp only [List.getElem_cons_succ]); (try simp only [List.getElem_cons_zero]); (try simp only [List.setIfInBounds_toArray]); (try simp only [List.set_cons_succ]); (try simp only [List.set_cons_zero])
                              (refine wpAnyH_take (i := 3) (v := ?_) rfl (by kernel_rfl) (by kernel_rfl) (by kernel_rfl) (fun _ _ _ h => h) (Or.inl ⟨by kernel_rfl, ?_⟩) (by assumption) ?_; rotate_left; · (intro w hSw; (try dsimp only at hSw); go_simp; first | done | with_reducible rfl))
                              (try simp only [Act.put]); (try simp only [List.getElem_toArray]); (try simp only [List.getElem_cons_succ]); (try simp only [List.getElem_cons_zero]); (try simp only [List.setIfInBounds_toArray]); (try simp only [List.set_cons_succ]); (try simp only [List.set_cons_zero])
                              (refine wpAnyH_take (i := 4) (v := ?_) rfl (by kernel_rfl) (by kernel_rfl) (by kernel_rfl) (fun _ _ _ h => h) (Or.inl ⟨by kernel_rfl, ?_⟩) (by assumption) ?_; rotate_left; · (intro w hSw; (try dsimp only at hSw); go_simp; first | done | with_reducible rfl))
                              (try simp only [Act.put]); (try simp only [List.getElem_toArray]); (try simp only [List.getElem_cons_succ]); (try simp only [List.getElem_cons_zero]); (try simp only [List.setIfInBounds_toArray]); (try simp only [List.set_cons_succ]); (try simp only [List.set_cons_zero])
                              (refine wpAnyH_take (i := 5) (v := ?_) rfl (by kernel_rfl) (by kernel_rfl) (by kernel_rfl) (fun _ _ _ h => h) (Or.inl ⟨by kernel_rfl, ?_⟩) (by assumption) ?_; rotate_left; · (intro w hSw; (try dsimp only at hSw); go_simp; first | done | with_reducible rfl))
                              (try simp only [Act.put]); (try simp only [List.getElem_toArray]); (try simp only [List.getElem_cons_succ]); (try simp only [List.getElem_cons_zero]); (try simp only [List.setIfInBounds_toArray]); (try simp only [List.set_cons_succ]); (try simp only [List.set_cons_zero])
                              (refine wpAnyH_take (i := 6) (v := ?_) rfl (by kernel_rfl) (by kernel_rfl) (by kernel_rfl) (fun _ _ _ h => h) (Or.inl ⟨by kernel_rfl, ?_⟩) (by assumption) ?_; rotate_left; · (intro w hSw; (try dsimp only at hSw); go_simp; first | done | with_reducible rfl))
                              (try simp only [Act.put]); (try simp only [List.getElem_toArray]); (try simp only [List.getElem_cons_succ]); (try simp only [List.getElem_cons_zero]); (try simp only [List.setIfInBounds_toArray]); (try simp only [List.set_cons_succ]); (try simp only [List.set_cons_zero])
                              (refine wpAnyH_take (i := 7) (v := ?_) rfl (by kernel_rfl) (by kernel_rfl) (by kernel_rfl) (fun _ _ _ h => h) (Or.inl ⟨by kernel_rfl, ?_⟩) (by assumption) ?_; rotate_left; · (intro w hSw; (try dsimp only at hSw); go_simp; first | done | with_reducible rfl))
                              (try simp only [Act.put]); (try simp only [List.getElem_toArray]); (try simp only [List.getElem_cons_succ]); (try simp only [List.getElem_cons_zero]); (try simp only [List.setIfInBounds_toArray]); (try simp only [List.set_cons_succ]); (try simp only [List.set_cons_zero])
                              (refine wpAnyH_take (i := 8) (v := ?_) rfl (by kernel_rfl) (by kernel_rfl) (by kernel_rfl) (fun _ _ _ h => h) (Or.inl ⟨by kernel_rfl, ?_⟩) (by assumption) ?_; rotate_left; · (intro w hSw; (try dsimp only at hSw); go_simp; first | done | with_reducible rfl))
                              (try simp only [Act.put]); (try simp only [List.getElem_toArray]); (try simp only [List.getElem_cons_succ]); (try simp only [List.getElem_cons_zero]); (try simp only [List.setIfInBounds_toArray]); (try simp only [List.set_cons_succ]); (try simp only [List.set_cons_zero])
                              (refine wpAnyH_take (i := 9) (v := ?_) rfl (by kernel_rfl) (by kernel_rfl) (by kernel_rfl) (fun _ _ _ h => h) (Or.inl ⟨by kernel_rfl, ?_⟩) (by assumption) ?_; rotate_left; · (intro w hSw; (try dsimp only at hSw); go_simp; first | done | with_reducible rfl))
                              (try simp only [Act.put]); (try simp only [List.getElem_toArray]); (try simp only [List.getElem_cons_succ]); (try simp only [List.getElem_cons_zero]); (try simp only [List.setIfInBounds_toArray]); (try simp only [List.set_cons_succ]); (try simp only [List.set_cons_zero])
                              refine wpAnyH_done (by kernel_rfl) ?_ _
                              have HB2 := hid (HB.out.trans (hHeld.1.out.1.mono HB.out.size))
                              clear hHeld HT
                              clear x0 x1 x2 x3 x4 x5 x6 x7 z0 z1 z2 z3 z4 z5 z6 z7
                              go_wp2
                              go_roundw
                              case rel => exact ⟨q + 1, false, by omega, by go_num, rfl, told_no HTk.out HF.out HNe.out, HB2.out⟩
                              case measure => simp [intOf]; omega
                        · obtain rfl : q = M := by omega
                          obtain rfl : tb = true := HF.out (by rw [← HM.out, List.take_length]; exact HIn.out)
                          go_wp2
                          go_roundw
                          case rel => exact ⟨k + 1, by omega, by go_num, by rw [HYe.out, ← Nat.add_assoc, HU.out]; go_num, HBB.out⟩
                          case measure => simp [intOf]; omega
              · obtain rfl : k = nj := by omega
                have HEn : Hid (T0 + ((lj.take k).filter (frC R j)).length = (toldN CT.cmp R (j + 1)).length) := by
                  show _ = _
                  rw [HTj.out, List.length_append, HT0.out, ← HNj.out, List.take_length]
                go_wp2
                go_roundw
                case rel => exact ⟨j + 1, by omega, by go_num, by rw [HEn.out], HB.out⟩
                case measure => simp [intOf]; omega
          · obtain rfl : j = i := by omega
            have HEq := hid HTo.out.1
            go_wp2
            go_ret
            refine ⟨?_, HR8.out.2.2.trans (HB.out.mono HR8.out.2.2.size)⟩
            rw [HEq.out]
            simp
end Go.Proofs.YtdgkbpplngjonaaDoor
