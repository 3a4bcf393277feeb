/- FilterAgain: what was asked for is asked for again; without limits all that is let is. Conditions: the arguments stand, their numbers are of 64 bits; the tables of utf8 read as they are laid. -/
import Derived.Test.YtgfkobfkncpmoaaDoorFtN
import Derived.Test.YtgfkobfkncpmoaaDoorFtO
import Derived.Test.YtgfkobfkncpmoaaDoorFtP
import Derived.Test.YtgfkobfkncpmoaaDoorNO
import Derived.Test.YtgfkobfkncpmoaaDoorPA
namespace Go.Proofs.YtgfkobfkncpmoaaDoor
open Go.RowKit

theorem crow_some14 {W : World} {B : Nat} {v : Value} {l : List CT} (h : CRow W B v l) (h0 : 0 < l.length) : ∃ g c, v = .slice (some ⟨g, 0, none⟩) l.length c := by
  rcases h.2 with ⟨_, hz⟩ | ⟨g, cap, cur, e, _⟩
  · omega
  · exact ⟨g, cap, e⟩
theorem filt_snoc14 {l : List CT} {i : Nat} {c : CT} (hc : l[i]? = some c) (p : CT → Bool) : (l.take (i + 1)).filter p = if p c = true then (l.take i).filter p ++ [c] else (l.take i).filter p := by
  have e1 : l.take (i + 1) = l.take i ++ [c] := by rw [List.take_add_one, hc]; rfl
  rw [e1, List.filter_append]
  by_cases h : p c = true
  · rw [if_pos h, List.filter_cons, if_pos h]; rfl
  · rw [if_neg h, List.filter_cons, if_neg h]; simp
section
variable {W0 W W' : World} {tb sb i : Nat} {f : FT} {u : Value} {c : CT}
abbrev AgS (W0 : World) (tb sb i : Nat) (f : FT) (u : Value) (c : CT) (W : World) : Prop := Hid (Below W0.heap.size W0 W ∧ tb < W0.heap.size ∧ sb < W0.heap.size) ∧ (W.cell? ⟨tb, 0, none⟩ = some u ∧ W.cell? ⟨tb, 1, none⟩ = some (.string f.fr) ∧ W.cell? ⟨tb, 2, none⟩ = some (.string f.tq) ∧ W.cell? ⟨tb, 3, none⟩ = some (.int .i64 f.si) ∧ W.cell? ⟨tb, 4, none⟩ = some (.int .i64 f.un) ∧ W.cell? ⟨tb, 5, none⟩ = some (.int .i64 f.ve) ∧ W.cell? ⟨tb, 6, none⟩ = some (.int .i64 f.ro)) ∧ (W.cell? ⟨sb, i * 8, none⟩ = some (.string c.r) ∧ W.cell? ⟨sb, i * 8 + 1, none⟩ = some (.string c.f) ∧ W.cell? ⟨sb, i * 8 + 2, none⟩ = some (.string c.q) ∧ W.cell? ⟨sb, i * 8 + 3, none⟩ = some (.int .i64 c.t) ∧ W.cell? ⟨sb, i * 8 + 4, none⟩ = some (.int .i64 c.k) ∧ W.cell? ⟨sb, i * 8 + 5, none⟩ = some (.int .i64 c.vk) ∧ W.cell? ⟨sb, i * 8 + 6, none⟩ = some (.int .i64 c.vn) ∧ W.cell? ⟨sb, i * 8 + 7, none⟩ = some (.string c.s))
theorem ags_call (hh : AgS W0 tb sb i f u c W) (hb : Below W.heap.size W W') : AgS W0 tb sb i f u c W' := by
  obtain ⟨hh, ⟨a0, a1, a2, a3, a4, a5, a6⟩, ⟨b0, b1, b2, b3, b4, b5, b6, b7⟩⟩ := hh
  obtain ⟨hbw, h1, h2⟩ := hh.out
  have hz := hbw.size
  have hc : ∀ b o, b < W0.heap.size → W'.cell? ⟨b, o, none⟩ = W.cell? ⟨b, o, none⟩ := fun b o h => hb.cell (p := ⟨b, o, none⟩) (show b < W.heap.size by omega)
  refine ⟨hid ⟨hbw.trans (hb.mono hz), h1, h2⟩, ⟨?_, ?_, ?_, ?_, ?_, ?_, ?_⟩, ⟨?_, ?_, ?_, ?_, ?_, ?_, ?_, ?_⟩⟩ <;> (rw [hc _ _ (by omega)]; assumption)
theorem ags_drew (hh : AgS W0 tb sb i f u c W) : AgS W0 tb sb i f u c W.drew := ags_call hh (Below.refl _ _).drew
end
set_option maxRecDepth 100000 in
set_option maxHeartbeats 16000000 in
theorem again_any (u v : Value) (f : FT) (l : List CT) (w : World) (h : TxA w u f.fams) (hv : ClA w v l) (hi : ∀ c ∈ l, inI c.vn) (hL : LaidU w) :
    Calls Tryd.prog 13 #[f.v u, v] w fun e w' => e = .returned (.bool true) ∧ Below w.heap.size w w' := by
  have mixed : Tryd.prog.follows .mixedOrders = true := by kernel_rfl
  have HT := hid h
  have HV := hid hv
  have HL := hid hL
  have HI9 := hid hi
  clear h hv hi hL
  obtain ⟨B0, hB0⟩ : ∃ B0, B0 = w.heap.size := ⟨_, rfl⟩
  obtain ⟨tb, htb⟩ : ∃ tb, w.heap.size = tb := ⟨_, rfl⟩
  have HTB : Hid (tb = B0) := by rw [hB0, htb]; exact rfl
  rw [← hB0]
  go_enter Tryd.func13, Tryd.ntmps13
  go_upto_region 1 with (fail)
  refine wp_lt13 (fun W => Hid (FW W tb f u ∧ Below B0 w W)) (box_fw f u hB0 htb) ?_
  rintro W0 H0
  have HX : Hid (∀ W, Below W0.heap.size W0 W → Below B0 w W ∧ FW W tb f u ∧ TxA W u f.fams ∧ ClA W v l ∧ LaidU W) := fun W hW => by
    have hb := H0.out.2.trans (hW.mono (by have := H0.out.2.size; omega))
    have hb2 := hb
    rw [hB0] at hb2
    exact ⟨hb, H0.out.1.below hW, HT.out.below hb2, HV.out.below hb2, HL.out.below hb2⟩
  clear hB0 htb HT HV HL
  have HAl := hid (alive13_any W0 (HX.out W0 (Below.refl _ _)).2.2.2.2)
  go_upto_region 3 with (first | (go_at_call 62; refine HAl.out.mono ?_; rintro e W1 ⟨rfl, hb1⟩))
  have HB1 := hid hb1
  clear hb1 HAl
  obtain ⟨y0, y1, y2, y3, y4, y5, y6⟩ := (HX.out W1 HB1.out).2.1.words
  have HLo := hid (long13_any u v f l W1 (HX.out W1 HB1.out).2.2.1 (HX.out W1 HB1.out).2.2.2.1)
  cases hlg : long13B f l with
  | true =>
    rw [hlg] at HLo
    go_wp2_with (first | (go_at_call 63; refine HLo.out.mono ?_; rintro e W2 ⟨rfl, hb2⟩))
    go_ret
    exact ⟨rfl, (HX.out W2 (HB1.out.trans (hb2.mono HB1.out.size))).1⟩
  | false =>
    have HSm : Hid ((f.fams.length ≤ 20 ∧ f.fr.size ≤ 100 ∧ f.tq.size ≤ 100 ∧ ∀ x ∈ f.fams, x.size ≤ 100) ∧ l.length ≤ 80 ∧ ∀ c ∈ l, Sm c) := by
      unfold long13B at hlg
      rw [Bool.or_eq_false_iff] at hlg
      exact ⟨lr_ok hlg.1, longM_ok hlg.2 HI9.out⟩
    rw [hlg] at HLo
    clear hlg HI9
    have HRt : Hid (∀ W, Below W0.heap.size W0 W → Calls Tryd.prog 66 #[f.v u] W fun e w' => e = .returned (.bool f.right) ∧ Below W.heap.size W w') := fun W hW => rright13_any u f (fun x hx => by have := HSm.out.1.2.2.2 x hx; omega) W (HX.out W hW).2.2.1
    cases hr : f.right with
    | false =>
      rw [hr] at HRt
      go_wp2_with (first
        | (go_at_call 63; refine HLo.out.mono ?_; rintro e W2 ⟨rfl, hb2⟩; have HB2 := hid (HB1.out.trans (hb2.mono HB1.out.size)); obtain ⟨z0, z1, z2, z3, z4, z5, z6⟩ := (HX.out W2 HB2.out).2.1.words)
        | (go_at_call 66; refine (HRt.out _ HB2.out).mono ?_; rintro e W3 ⟨rfl, hb3⟩))
      go_ret
      exact ⟨rfl, (HX.out W3 (HB2.out.trans (hb3.mono HB2.out.size))).1⟩
    | true =>
      have HFr := hid hr
      rw [hr] at HRt
      clear hr
      go_upto_region 5 with (first
        | (go_at_call 63; refine HLo.out.mono ?_; rintro e W2 ⟨rfl, hb2⟩; have HB2 := hid (HB1.out.trans (hb2.mono HB1.out.size)); obtain ⟨z0, z1, z2, z3, z4, z5, z6⟩ := (HX.out W2 HB2.out).2.1.words)
        | (go_at_call 66; refine (HRt.out _ HB2.out).mono ?_; rintro e W3 ⟨rfl, hb3⟩))
      have HB3 := hid (HB2.out.trans (hb3.mono HB2.out.size))
      clear HB2 hb3 HLo HRt hb2 y0 y1 y2 y3 y4 y5 y6 z0 z1 z2 z3 z4 z5 z6 HB1
      have HSo := hid (refsort_any v l W3 (HX.out W3 HB3.out).2.2.2.1 HSm.out.2.2 (by have := HSm.out.2.1; omega))
      have HSi := hid (sortL_i l [] sortI_nil HSm.out.2.2)
      have hsl : (sortL [] l).length ≤ 80 := by
        have h1 := sortL_len l []
        rw [List.length_nil] at h1
        have := HSm.out.2.1
        omega
      obtain ⟨S, hS⟩ : ∃ S, sortL [] l = S := ⟨_, rfl⟩
      rw [hS] at HSo HSi hsl
      clear hS
      have HApp : Hid (∀ (g : FT) (ug : Value), g.fams = f.fams → ∀ (W : World) (vv : Value) (ll : List CT), Below W0.heap.size W0 W → TxA W ug g.fams → ClA W vv ll → ll.length ≤ 80 → Calls Tryd.prog 69 #[g.v ug, vv] W fun e w' => ∃ v', e = .returned v' ∧ CRow w' W.heap.size v' (apL g ll) ∧ Below W.heap.size W w') := fun g ug hg W vv ll hW ht hcl hll =>
        apply13_any ug vv g ll (fun x hx => by rw [hg] at hx; have := HSm.out.1.2.2.2 x hx; omega) (by rw [hg]; have := HSm.out.1.1; omega) (by omega) W ht hcl (HX.out W hW).2.2.2.2
      go_upto_region 6 with (first | (go_at_call 41; refine HSo.out.mono ?_; rintro e W4 ⟨vs, rfl, hr4, hb4⟩))
      have HB4 := hid (HB3.out.trans (hb4.mono HB3.out.size))
      have HS4 : Hid (∀ W, Below W4.heap.size W4 W → ClA W vs S ∧ Below W0.heap.size W0 W) := fun W hW => ⟨hr4.cla.below hW, HB4.out.trans (hW.mono HB4.out.size)⟩
      have HSr := hid hr4
      clear hr4 hb4 HSo HB3
      obtain ⟨y0, y1, y2, y3, y4, y5, y6⟩ := (HX.out W4 HB4.out).2.1.words
      have HA1 := hid (HApp.out f u rfl W4 vs S HB4.out (HX.out W4 HB4.out).2.2.1 (HS4.out W4 (Below.refl _ _)).1 hsl)
      go_upto_region 7 with (first | (go_at_call 69; refine HA1.out.mono ?_; rintro e W5 ⟨va, rfl, hr5, hb5⟩))
      have HB5 := hid (And.intro hb5 (HB4.out.trans (hb5.mono HB4.out.size)))
      have HRa := hid hr5
      clear y0 y1 y2 y3 y4 y5 y6 hr5 hb5 HA1
      obtain ⟨y0, y1, y2, y3, y4, y5, y6⟩ := (HX.out W5 HB5.out.2).2.1.words
      have HA2 := hid (HApp.out f u rfl W5 va (apL f S) HB5.out.2 (HX.out W5 HB5.out.2).2.2.1 HRa.out.cla (by have := apL_sub f S; omega))
      rw [apL_again f ⟨HSi.out.ok, HSi.out.rise⟩] at HA2
      have HSa : Hid (∀ (W : World) (v2 : Value), Below W5.heap.size W5 W → ClA W v2 (apL f S) → Calls Tryd.prog 38 #[v2, va] W fun e w' => e = .returned (.bool true) ∧ Below W.heap.size W w') := fun W v2 hW hv2 => (samecells_any _ _ _ _ W hv2 (HRa.out.cla.below hW)).mono fun e w' ⟨he, hb⟩ => ⟨by rw [he, decide_eq_true rfl], hb⟩
      go_upto_region 9 with (first
        | (go_at_call 69; refine HA2.out.mono ?_; rintro e W6 ⟨v6, rfl, hr6, hb6⟩)
        | (go_at_call 38; refine (HSa.out _ _ hb6 hr6.cla).mono ?_; rintro e W7 ⟨rfl, hb7⟩))
      have HB7 : Hid (Below W4.heap.size W4 W7) := HB5.out.1.trans ((hb6.trans (hb7.mono hb6.size)).mono HB5.out.1.size)
      clear hb6 hb7 hr6 HA2 HSa HRa HB5 y0 y1 y2 y3 y4 y5 y6
      have HB70 := hid (HS4.out W7 HB7.out).2
      obtain ⟨y0, y1, y2, y3, y4, y5, y6⟩ := (HX.out W7 HB70.out).2.1.words
      have HCl := hid (clone13_any u f (by have := HSm.out.1.1; omega) W7 (HX.out W7 HB70.out).2.2.1)
      go_upto_region 10 with (first | (go_at_call 64; refine HCl.out.mono ?_; rintro e W8 ⟨u2, rfl, H8⟩; obtain ⟨A8, c8, rfl, -⟩ := H8.out.1))
      obtain ⟨gb, hgb⟩ : ∃ gb, W8.heap.size = gb := ⟨_, rfl⟩
      have H9 : Hid (FW (W8.alloc (.cells #[.slice A8 f.fams.length c8, .string f.fr, .string f.tq, .int .i64 f.si, .int .i64 f.un, .int .i64 0, .int .i64 0] 82)) gb f.free (.slice A8 f.fams.length c8) ∧ TxA (W8.alloc (.cells #[.slice A8 f.fams.length c8, .string f.fr, .string f.tq, .int .i64 f.si, .int .i64 f.un, .int .i64 0, .int .i64 0] 82)) (.slice A8 f.fams.length c8) f.fams ∧ Below W7.heap.size W7 (W8.alloc (.cells #[.slice A8 f.fams.length c8, .string f.fr, .string f.tq, .int .i64 f.si, .int .i64 f.un, .int .i64 0, .int .i64 0] 82))) := by
        have hb8 := H8.out.2.2
        rw [← hgb]
        exact ⟨Blk.new W8 _ _, H8.out.1.below (below_new W8 _), hb8.trans ((below_new W8 _).mono hb8.size)⟩
      go_upto_region 12 with (fail)
      rw [hgb]
      generalize (W8.alloc (.cells #[.slice A8 f.fams.length c8, .string f.fr, .string f.tq, .int .i64 f.si, .int .i64 f.un, .int .i64 0, .int .i64 0] 82)) = W9 at H9 ⊢
      have hz9 : gb < W9.heap.size := Blk.lt H9.out.1
      clear HCl H8 hgb y0 y1 y2 y3 y4 y5 y6
      obtain ⟨N, hN⟩ : ∃ N, S.length = N := ⟨_, rfl⟩
      have HN := hid hN
      obtain ⟨As, cs9, rfl, hsc1, hsc2⟩ := HSr.out.len
      rw [hN] at HSr HS4 hsl hsc1 ⊢
      clear hN
      have HE : Hid (CRow (W9.alloc (.cells #[] 28)) W9.heap.size (.slice (some ⟨W9.heap.size, 0, none⟩) 0 0) ((S.take 0).filter f.lets) ∧ Below W9.heap.size W9 (W9.alloc (.cells #[] 28))) := ⟨empty_crow W9 W9.heap.size (Nat.le_refl _), below_new W9 _⟩
      have HB9 : Hid (∀ W, Below W9.heap.size W9 W → Below W4.heap.size W4 W) := fun W hW => by
        have h1 := HB7.out.trans (H9.out.2.2.mono HB7.out.size)
        exact h1.trans (hW.mono h1.size)
      have HLt : Hid (∀ (c : CT), c ∈ S → ∀ W, Below W9.heap.size W9 W → Calls Tryd.prog 68 #[f.v u, c.v] W fun e w' => e = .returned (.bool (f.lets c)) ∧ Below W.heap.size W w') := fun c hc W hW => by
        have hm := HSi.out.sm c hc
        have h1 := HSm.out.1
        exact rlets13_any u f c (by have := hm.2.2.2.1; omega) (by omega) (by omega) W (HX.out W (HS4.out W (HB9.out W hW)).2).2.2.1
      go_wp2
      go_loopw [8, 9] (fun vo vi wr => ∃ (i : Nat) (vz : Value), i ≤ N ∧ vi = .int .i64 i ∧ vo = vz ∧ Hid (CRow wr W9.heap.size vz ((S.take i).filter f.lets) ∧ Below W9.heap.size W9 wr)) (fun _ vi _ => N - (intOf vi).toNat)
      case atStart => exact ⟨0, _, Nat.zero_le _, rfl, rfl, HE.out⟩
      case round =>
        clear HE
        obtain ⟨i, vz, hi, rfl, hvz, HI⟩ := hrel
        have hvz2 := hvz.symm
        subst hvz2
        clear hvz
        by_cases hlt : i < N
        · have hltz : (i : Int) < (N : Int) := by omega
          obtain ⟨c, hc⟩ : ∃ c, S[i]? = some c := ⟨_, List.getElem?_eq_getElem (by rw [HN.out]; exact hlt)⟩
          obtain ⟨sb, cs8, e9⟩ := crow_some14 HSr.out (by rw [HN.out]; omega)
          injection e9 with e91 e92 e93
          subst e91 e93
          clear e92
          have hbw := HB9.out wr HI.out.2
          have hrw := HSr.out.below hbw
          have hx := ct_words hrw.hc i hc
          rw [Nat.zero_add] at hx
          have hfw := (HX.out wr (HS4.out wr hbw).2).2.1
          have HTT : Hid (AgS wr tb sb i f u c wr) := ⟨hid ⟨Below.refl _ _, Blk.lt hfw, cell_lt hx.1⟩, hfw.words, hx⟩
          have HLc := hid (HLt.out c (List.mem_of_getElem? hc))
          have HFs := hid (filt_snoc14 hc f.lets)
          have hol : ((S.take i).filter f.lets).length ≤ 80 := by
            have h1 := List.length_filter_le f.lets (S.take i)
            rw [List.length_take] at h1
            omega
          obtain ⟨O, hO⟩ : ∃ O, (S.take i).filter f.lets = O := ⟨_, rfl⟩
          rw [hO] at HI HFs hol
          clear hO hx hfw hrw hbw hc
          obtain ⟨-, ⟨y0, y1, y2, y3, y4, y5, y6⟩, ⟨x0, x1, x2, x3, x4, x5, x6, x7⟩⟩ := HTT.out
          cases hq : f.lets c with
          | false =>
            rw [hq] at HLc HFs
            go_upto_region 16 with (fail)
            refine wp_region_held_drew (S := (fun W => Hid (Below wr.heap.size wr W ∧ tb < wr.heap.size ∧ sb < wr.heap.size) ∧ (W.cell? ⟨tb, 0, none⟩ = some u ∧ W.cell? ⟨tb, 1, none⟩ = some (.string f.fr) ∧ W.cell? ⟨tb, 2, none⟩ = some (.string f.tq) ∧ W.cell? ⟨tb, 3, none⟩ = some (.int .i64 f.si) ∧ W.cell? ⟨tb, 4, none⟩ = some (.int .i64 f.un) ∧ W.cell? ⟨tb, 5, none⟩ = some (.int .i64 f.ve) ∧ W.cell? ⟨tb, 6, none⟩ = some (.int .i64 f.ro)) ∧ (W.cell? ⟨sb, i * 8, none⟩ = some (.string c.r) ∧ W.cell? ⟨sb, i * 8 + 1, none⟩ = some (.string c.f) ∧ W.cell? ⟨sb, i * 8 + 2, none⟩ = some (.string c.q) ∧ W.cell? ⟨sb, i * 8 + 3, none⟩ = some (.int .i64 c.t) ∧ W.cell? ⟨sb, i * 8 + 4, none⟩ = some (.int .i64 c.k) ∧ W.cell? ⟨sb, i * 8 + 5, none⟩ = some (.int .i64 c.vk) ∧ W.cell? ⟨sb, i * 8 + 6, none⟩ = some (.int .i64 c.vn) ∧ W.cell? ⟨sb, i * 8 + 7, none⟩ = some (.string c.s)))) (by kernel_rfl) ?_ (fun hHeld => ?_)
            (exact ags_drew HTT.out)
            (refine wpAnyH_take (i := 0) (v := ?_) rfl (by kernel_rfl) (by kernel_rfl) (by kernel_rfl) (fun _ _ _ h => h) (Or.inl ⟨by kernel_rfl, ?_⟩) (by assumption) ?_; rotate_left; · (intro w hSw; (try dsimp only at hSw); go_simp; first | done | with_reducible rfl))
            (try simp only [Act.put]); (try simp only [List.getElem_toArray]); (try simp only [List.getElem_cons_succ]); (try simp only [List.getElem_cons_zero]); (try simp only [List.setIfInBounds_toArray]); (try simp only [List.set_cons_succ]); (try simp only [List.set_cons_zero])
            (refine wpAnyH_take (i := 1) (v := ?_) rfl (by kernel_rfl) (by kernel_rfl) (by kernel_rfl) (fun _ _ _ h => h) (Or.inl ⟨by kernel_rfl, ?_⟩) (by assumption) ?_; rotate_left; · (intro w hSw; (try dsimp only at hSw); go_simp; first | done | with_reducible rfl))
            (try simp only [Act.put]); (try simp only [List.getElem_toArray]); (try simp only [List.getElem_cons_succ]); (try simp only [List.getElem_cons_zero]); (try simp only [List.setIfInBounds_toArray]); (try simp only [List.set_cons_succ]); (try simp only [List.set_cons_zero])
            (refine wpAnyH_take (i := 2) (v := ?_) rfl (by kernel_rfl) (by kernel_rfl) (by kernel_rfl) (fun _ _ _ h => h) (Or.inl ⟨by kernel_rfl, ?_⟩) (by assumption) ?_; rotate_left; · (intro w hSw; (try dsimp only at hSw); go_simp; first | done | with_reducible rfl))
            (try simp only [Act.put]); (try simp only [List.getElem_toArray]); (try simp only [List.getElem_cons_succ]); (try simp only [List.getElem_cons_zero]); (try simp only [List.setIfInBounds_toArray]); (try simp only [List.set_cons_succ]); (try simp only [List.set_cons_zero])
            (refine wpAnyH_take (i := 3) (v := ?_) rfl (by kernel_rfl) (by kernel_rfl) (by kernel_rfl) (fun _ _ _ h => h) (Or.inl ⟨by kernel_rfl, ?_⟩) (by assumption) ?_; rotate_left; · (intro w hSw; (try dsimp only at hSw); go_simp; first | done | with_reducible rfl))
            (try simp only [Act.put]); (try simp only [List.getElem_toArray]); (try simp only [List.getElem_cons_succ]); (try simp only [List.getElem_cons_zero]); (try simp only [List.setIfInBounds_toArray]); (try simp only [List.set_cons_succ]); (try simp only [List.set_cons_zero])
            (refine wpAnyH_take (i := 4) (v := ?_) rfl (by kernel_rfl) (by kernel_rfl) (by kernel_rfl) (fun _ _ _ h => h) (Or.inl ⟨by kernel_rfl, ?_⟩) (by assumption) ?_; rotate_left; · (intro w hSw; (try dsimp only at hSw); go_simp; first | done | with_reducible rfl))
            (try simp only [Act.put]); (try simp only [List.getElem_toArray]); (try simp only [List.getElem_cons_succ]); (try simp only [List.getElem_cons_zero]); (try simp only [List.setIfInBounds_toArray]); (try simp only [List.set_cons_succ]); (try simp only [List.set_cons_zero])
            (refine wpAnyH_ready (rs := [5]) (by kernel_rfl) (by simp) (AllReadyH.cons rfl (fun K hK => ?_) AllReadyH.nil); go_simp; (go_at_call 68; refine (HLc.out _ (HI.out.2.trans ((show _ from (by assumption : AgS wr tb sb i f u c _)).1.out.1.mono HI.out.2.size))).mono ?_; rintro e w5 ⟨rfl, hb5⟩); refine hK.out _ _ ?_ (fun hHeld => ?_))
            · exact ags_call (by assumption) hb5
            clear hK K
            (try simp only [Act.put]); (try simp only [List.getElem_toArray]); (try simp only [List.getElem_cons_succ]); (try simp only [List.getElem_cons_zero]); (try simp only [List.setIfInBounds_toArray]); (try simp only [List.set_cons_succ]); (try simp only [List.set_cons_zero])
            refine wpAnyH_done (by kernel_rfl) ?_ _
            have HZ := hid (HI.out.2.trans (hHeld.1.out.1.mono HI.out.2.size))
            have HC9 := hid (HI.out.1.below hHeld.1.out.1)
            clear hHeld HTT
            go_wp2
            go_roundw
            case rel => exact ⟨i + 1, _, by omega, by go_num, rfl, by have := HFs.out; rw [if_neg (by simp)] at this; rw [this]; exact HC9.out, HZ.out⟩
            case measure => simp [intOf]; omega
          | true =>
            rw [hq] at HLc HFs
            go_upto_region 16 with (fail)
            refine wp_region_held_drew (S := (fun W => Hid (Below wr.heap.size wr W ∧ tb < wr.heap.size ∧ sb < wr.heap.size) ∧ (W.cell? ⟨tb, 0, none⟩ = some u ∧ W.cell? ⟨tb, 1, none⟩ = some (.string f.fr) ∧ W.cell? ⟨tb, 2, none⟩ = some (.string f.tq) ∧ W.cell? ⟨tb, 3, none⟩ = some (.int .i64 f.si) ∧ W.cell? ⟨tb, 4, none⟩ = some (.int .i64 f.un) ∧ W.cell? ⟨tb, 5, none⟩ = some (.int .i64 f.ve) ∧ W.cell? ⟨tb, 6, none⟩ = some (.int .i64 f.ro)) ∧ (W.cell? ⟨sb, i * 8, none⟩ = some (.string c.r) ∧ W.cell? ⟨sb, i * 8 + 1, none⟩ = some (.string c.f) ∧ W.cell? ⟨sb, i * 8 + 2, none⟩ = some (.string c.q) ∧ W.cell? ⟨sb, i * 8 + 3, none⟩ = some (.int .i64 c.t) ∧ W.cell? ⟨sb, i * 8 + 4, none⟩ = some (.int .i64 c.k) ∧ W.cell? ⟨sb, i * 8 + 5, none⟩ = some (.int .i64 c.vk) ∧ W.cell? ⟨sb, i * 8 + 6, none⟩ = some (.int .i64 c.vn) ∧ W.cell? ⟨sb, i * 8 + 7, none⟩ = some (.string c.s)))) (by kernel_rfl) ?_ (fun hHeld => ?_)
            (exact ags_drew HTT.out)
            (refine wpAnyH_take (i := 0) (v := ?_) rfl (by kernel_rfl) (by kernel_rfl) (by kernel_rfl) (fun _ _ _ h => h) (Or.inl ⟨by kernel_rfl, ?_⟩) (by assumption) ?_; rotate_left; · (intro w hSw; (try dsimp only at hSw); go_simp; first | done | with_reducible rfl))
            (try simp only [Act.put]); (try simp only [List.getElem_toArray]); (try simp only [List.getElem_cons_succ]); (try simp only [List.getElem_cons_zero]); (try simp only [List.setIfInBounds_toArray]); (try simp only [List.set_cons_succ]); (try simp only [List.set_cons_zero])
            (refine wpAnyH_take (i := 1) (v := ?_) rfl (by kernel_rfl) (by kernel_rfl) (by kernel_rfl) (fun _ _ _ h => h) (Or.inl ⟨by kernel_rfl, ?_⟩) (by assumption) ?_; rotate_left; · (intro w hSw; (try dsimp only at hSw); go_simp; first | done | with_reducible rfl))
            (try simp only [Act.put]); (try simp only [List.getElem_toArray]); (try simp only [List.getElem_cons_succ]); (try simp only [List.getElem_cons_zero]); (try simp only [List.setIfInBounds_toArray]); (try simp only [List.set_cons_succ]); (try simp only [List.set_cons_zero])
            (refine wpAnyH_take (i := 2) (v := ?_) rfl (by kernel_rfl) (by kernel_rfl) (by kernel_rfl) (fun _ _ _ h => h) (Or.inl ⟨by kernel_rfl, ?_⟩) (by assumption) ?_; rotate_left; · (intro w hSw; (try dsimp only at hSw); go_simp; first | done | with_reducible rfl))
            (try simp only [Act.put]); (try simp only [List.getElem_toArray]); (try simp only [List.getElem_cons_succ]); (try simp only [List.getElem_cons_zero]); (try simp only [List.setIfInBounds_toArray]); (try simp only [List.set_cons_succ]); (try simp only [List.set_cons_zero])
            (refine wpAnyH_take (i := 3) (v := ?_) rfl (by kernel_rfl) (by kernel_rfl) (by kernel_rfl) (fun _ _ _ h => h) (Or.inl ⟨by kernel_rfl, ?_⟩) (by assumption) ?_; rotate_left; · (intro w hSw; (try dsimp only at hSw); go_simp; first | done | with_reducible rfl))
            (try simp only [Act.put]); (try simp only [List.getElem_toArray]); (try simp only [List.getElem_cons_succ]); (try simp only [List.getElem_cons_zero]); (try simp only [List.setIfInBounds_toArray]); (try simp only [List.set_cons_succ]); (try simp only [List.set_cons_zero])
            (refine wpAnyH_take (i := 4) (v := ?_) rfl (by kernel_rfl) (by kernel_rfl) (by kernel_rfl) (fun _ _ _ h => h) (Or.inl ⟨by kernel_rfl, ?_⟩) (by assumption) ?_; rotate_left; · (intro w hSw; (try dsimp only at hSw); go_simp; first | done | with_reducible rfl))
            (try simp only [Act.put]); (try simp only [List.getElem_toArray]); (try simp only [List.getElem_cons_succ]); (try simp only [List.getElem_cons_zero]); (try simp only [List.setIfInBounds_toArray]); (try simp only [List.set_cons_succ]); (try simp only [List.set_cons_zero])
            (refine wpAnyH_ready (rs := [5]) (by kernel_rfl) (by simp) (AllReadyH.cons rfl (fun K hK => ?_) AllReadyH.nil); go_simp; (go_at_call 68; refine (HLc.out _ (HI.out.2.trans ((show _ from (by assumption : AgS wr tb sb i f u c _)).1.out.1.mono HI.out.2.size))).mono ?_; rintro e w5 ⟨rfl, hb5⟩); refine hK.out _ _ ?_ (fun hHeld => ?_))
            · exact ags_call (by assumption) hb5
            clear hK K
            (try simp only [Act.put]); (try simp only [List.getElem_toArray]); (try simp only [List.getElem_cons_succ]); (try simp only [List.getElem_cons_zero]); (try simp only [List.setIfInBounds_toArray]); (try simp only [List.set_cons_succ]); (try simp only [List.set_cons_zero])
            refine wpAnyH_done (by kernel_rfl) ?_ _
            have HZ := hid (HI.out.2.trans (hHeld.1.out.1.mono HI.out.2.size))
            have HC9 := hid (HI.out.1.below hHeld.1.out.1)
            clear HTT y0 y1 y2 y3 y4 y5 y6 x0 x1 x2 x3 x4 x5 x6 x7
            obtain ⟨-, -, ⟨x0, x1, x2, x3, x4, x5, x6, x7⟩⟩ := hHeld
            go_upto_region 15 with (first
              | (at_builtin; go_loud (refine wpList_append_cell rfl (.tmp 48) (.tmp 53) rfl _ W9.heap.size _ O rfl (HC9.out.below (below_new _ _)) _ 1 rfl c (fun j v hj => ct_dw (Blk.new _ _ _) j v hj) (by omega) (by have := HZ.out.size; simp; omega) ?_; intro v7 w7 hr7 hb7 _)))
            go_wp2
            go_roundw
            case rel => exact ⟨i + 1, v7, by omega, by go_num, rfl, by have := HFs.out; rw [if_pos (by simp)] at this; rw [this]; exact hr7, (HZ.out.trans ((below_new _ _).mono HZ.out.size)).trans hb7⟩
            case measure => simp [intOf]; omega
        · obtain rfl : i = N := by omega
          have ht : S.take i = S := by rw [← HN.out, List.take_length]
          have h9 := HI.out
          rw [ht] at h9
          have HI2 := hid h9
          clear h9 ht HI
          obtain ⟨y0, y1, y2, y3, y4, y5, y6⟩ : wr.cell? ⟨gb, 0, none⟩ = some (.slice A8 f.fams.length c8) ∧ wr.cell? ⟨gb, 1, none⟩ = some (.string f.fr) ∧ wr.cell? ⟨gb, 2, none⟩ = some (.string f.tq) ∧ wr.cell? ⟨gb, 3, none⟩ = some (.int .i64 f.si) ∧ wr.cell? ⟨gb, 4, none⟩ = some (.int .i64 f.un) ∧ wr.cell? ⟨gb, 5, none⟩ = some (.int .i64 0) ∧ wr.cell? ⟨gb, 6, none⟩ = some (.int .i64 0) := (H9.out.1.below HI2.out.2).words
          have hbw := HB9.out wr HI2.out.2
          have hA9 := HApp.out f.free (.slice A8 f.fams.length c8) rfl wr (.slice As i cs9) S (HS4.out wr hbw).2 (H9.out.2.1.below HI2.out.2) (HS4.out wr hbw).1 (by rw [HN.out]; exact hsl)
          rw [apL_all HFr.out] at hA9
          have HA9 : Hid (Calls Tryd.prog 69 #[.agg #[.slice A8 f.fams.length c8, .string f.fr, .string f.tq, .int .i64 f.si, .int .i64 f.un, .int .i64 0, .int .i64 0], .slice As i cs9] wr fun e w' => ∃ v', e = .returned v' ∧ CRow w' wr.heap.size v' (S.filter f.lets) ∧ Below wr.heap.size wr w') := hA9
          clear hA9
          have HEnd : Hid (∀ W, Below wr.heap.size wr W → Below B0 w W) := fun W hW => (HX.out W (HS4.out W (hbw.trans (hW.mono hbw.size))).2).1
          have HSa : Hid (∀ (W : World) (v2 : Value), Below wr.heap.size wr W → ClA W v2 (S.filter f.lets) → Calls Tryd.prog 38 #[v2, vz] W fun e w' => e = .returned (.bool true) ∧ Below W.heap.size W w') := fun W v2 hW hv2 => (samecells_any _ _ _ _ W hv2 (HI2.out.1.cla.below hW)).mono fun e w' ⟨he, hb⟩ => ⟨by rw [he, decide_eq_true rfl], hb⟩
          clear hbw
          go_wp2_with (first
            | (go_at_call 69; refine HA9.out.mono ?_; rintro e W6 ⟨v6, rfl, hr6, hb6⟩)
            | (go_at_call 38; refine (HSa.out _ _ hb6 hr6.cla).mono ?_; rintro e W7 ⟨rfl, hb7⟩))
          go_ret
          exact ⟨rfl, HEnd.out _ (hb6.trans (hb7.mono hb6.size))⟩
end Go.Proofs.YtgfkobfkncpmoaaDoor
