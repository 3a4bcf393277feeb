/- joistlaw05.StoreLasts. Conditions: the slice holds its calls. -/
import Derived.Test.YtkdegdpkhldgbaaStYa
import Derived.Test.YtkdegdpkhldgbaaStV
namespace Go.Proofs.Ytkdegdpkhldgbaa
open Go.RowKit

/-- The calls so far, and what lasts of a name. -/
structure LtS (w W : World) (B db mb : Nat) (fs : List Fl) (z : Int) (u i n : Nat) (x : ByteArray) (s : Nat) : Prop where
  lp : LpS w W B db mb fs z u i n
  sf : Safe x s (viewF fs)
theorem LtS.below {w W W' : World} {B db mb : Nat} {fs : List Fl} {z : Int} {u i n s : Nat} {x : ByteArray} (h : LtS w W B db mb fs z u i n x s) (hb : Below W.heap.size W W') : LtS w W' B db mb fs z u i n x s := ⟨h.lp.below hb, h.sf⟩

theorem str_ne {x y : ByteArray} (h : ¬ x = y) : (x.toList == y.toList) = false := by
  rw [ByteArray.toList_eq, ByteArray.toList_eq]
  exact beq_eq_false_iff_ne.2 fun e => h (ba_ext e)

set_option maxRecDepth 100000 in
set_option maxHeartbeats 32000000 in
theorem lasts_ok (v : Value) (cs : List Cl) (hnz : ∀ c ∈ cs, c.nm.size ≤ maxLen ∧ c.tg.size ≤ maxLen ∧ c.d.length ≤ 4611686018427387904) (hn : ∀ c ∈ cs, -9223372036854775808 ≤ c.n ∧ c.n < 9223372036854775808) (x : ByteArray) (hx : x.size ≤ maxLen) (K : Int) (hK : -9223372036854775808 ≤ K ∧ K < 9223372036854775808) (w : World) (h : CArg w v cs) :
    Calls Try.prog 4 #[v, .string x, .int .i64 K] w fun e w' => e = .returned (.bool true) ∧ Below w.heap.size w w' := by
  have HAl := hid (alive_ok w)
  have HGr := hid fun W (hW : Below w.heap.size w W) => great_ok v cs hnz W (h.below hW)
  have HNn := hid hn
  have HKk := hid hK
  have hx9 : x.size ≤ 9223372036854775807 := by unfold maxLen at hx; omega
  clear hnz hn hK
  by_cases hs : SmallP cs
  · have HS := hid hs
    by_cases hx1 : x.size < 1
    · have H := hid h
      clear hs h hx
      go_enter Try.func4, Try.ntmps4
      go_upto_region 3 with (go_at_call 7; refine HAl.out.mono ?_; rintro e w1 ⟨rfl, hb⟩; have B1 := hid hb; clear hb)
      go_wp2_with (go_at_call 8; refine (HGr.out _ B1.out).mono ?_; intro e w2 hg; obtain ⟨he, hb⟩ := gr_yes hg HS.out; subst he; have B2 := hid (B1.out.trans (hb.mono B1.out.size)); clear hb hg)
      go_ret
      exact ⟨rfl, B2.out⟩
    · by_cases hx2 : 16 < x.size
      · have H := hid h
        clear hs h hx
        go_enter Try.func4, Try.ntmps4
        go_upto_region 3 with (go_at_call 7; refine HAl.out.mono ?_; rintro e w1 ⟨rfl, hb⟩; have B1 := hid hb; clear hb)
        go_wp2_with (go_at_call 8; refine (HGr.out _ B1.out).mono ?_; intro e w2 hg; obtain ⟨he, hb⟩ := gr_yes hg HS.out; subst he; have B2 := hid (B1.out.trans (hb.mono B1.out.size)); clear hb hg)
        go_ret
        exact ⟨rfl, B2.out⟩
      · obtain ⟨A, c, rfl, hl, hh⟩ := h
        have HH := hid hh
        obtain ⟨n, hn⟩ : ∃ n, cs.length = n := ⟨_, rfl⟩
        have HN := hid hn
        rw [hn] at hl HGr ⊢
        have hn80 : n ≤ 80 := by rw [← hn]; exact hs.len
        have HX := hid hx
        clear hn hh hs hx
        go_enter Try.func4, Try.ntmps4
        go_upto_region 3 with (go_at_call 7; refine HAl.out.mono ?_; rintro e w1 ⟨rfl, hb⟩; have B1 := hid hb; clear hb)
        go_upto_region 5 with (go_at_call 8; refine (HGr.out _ B1.out).mono ?_; intro e w2 hg; obtain ⟨he, hb⟩ := gr_yes hg HS.out; subst he; have B2 := hid (B1.out.trans (hb.mono B1.out.size)); clear hb hg)
        go_upto_region 8 with (go_at_call 9; refine (new_yes 16777216 (by decide) (by decide) _).mono ?_; rintro e w3 ⟨rfl, hd, hb⟩; have HA0 : Hid (LtS w w3 w2.heap.size (w2.heap.size + 1) w2.heap.size [] 16777216 0 0 0 x 0) := ⟨⟨lws_start B2.out (by decide) hd hb, Nat.le_refl _⟩, .inl rfl⟩; clear hd hb)
        obtain ⟨B, hB⟩ : ∃ B, w2.heap.size = B := ⟨_, rfl⟩
        obtain ⟨db, hdb⟩ : ∃ db, w2.heap.size + 1 = db := ⟨_, rfl⟩
        obtain ⟨mb, hmb⟩ : ∃ mb, mb = w2.heap.size := ⟨_, rfl⟩
        have HA : Hid (LtS w w3 B db mb [] 16777216 0 0 0 x 0) := by rw [← hB, ← hdb, hmb]; exact HA0
        rw [hdb]
        clear HA0 hB hdb hmb HGr HAl B1 B2
        go_wp2
        go_loopw [9, 10] (fun vs vi wr => ∃ (k : Nat) (fs : List Fl) (u s : Nat), vs = .int .i64 (s : Int) ∧ vi = .int .i64 (k : Int) ∧ k ≤ n ∧ s ≤ 3000 ∧ Hid (LtS w wr B db mb fs 16777216 u k (datN (cs.take k)) x s)) (fun _ vi _ => n - (intOf vi).toNat)
        case atStart => exact ⟨0, [], 0, 0, rfl, rfl, Nat.zero_le _, Nat.zero_le _, HA.out⟩
        case round =>
          obtain ⟨k, fs, u, s, rfl, rfl, hk, hs3, HL⟩ := hrel
          by_cases hkn : k < n
          · have hkl : k < cs.length := by rw [HN.out]; exact hkn
            obtain ⟨b, o, rfl, hc⟩ := HH.out k hkl
            have hcw := hc.below HL.out.lp.lw.b
            have hok := HS.out.each k hkl
            have hdt := datN_take hkl
            have hnn := HNn.out cs[k] (List.getElem_mem hkl)
            have hd3 := dat_small HS.out (k + 1) hkl
            obtain ⟨y, hy⟩ : ∃ y, cs[k] = y := ⟨_, rfl⟩
            rw [hy] at hcw hok hdt hnn
            have HO : Hid (y.ok) := ⟨by have := hok.2.1; omega, by have := hok.2.2; omega, hnn.1, hnn.2⟩
            have c0 := hcw.c0
            have c1 := hcw.c1
            have c2 := hcw.c2
            have c3 := hcw.c3
            have c4 := hcw.c4
            have HSl := hid hcw.sl
            obtain ⟨Ad, cd, ed, _⟩ := hcw.sl
            obtain ⟨nd, hnd⟩ : ∃ nd, y.d.length = nd := ⟨_, rfl⟩
            rw [hnd] at ed
            rw [ed] at c3
            have HED := hid ed
            have HD := hid hdt
            have HD3 := hid hd3
            clear hc hcw hok hdt hnn hy ed hnd hkl hd3
            go_upto_region 13 with (fail)
            obtain ⟨G, hG⟩ : ∃ G, wr.heap.size = G := ⟨_, rfl⟩
            have hG1 : G < (wr.alloc (.cells #[.int .i64 y.wh, .string y.nm, .string y.tg, .slice Ad nd cd, .int .i64 y.n] 34)).heap.size := by rw [World.size_alloc, hG]; exact Nat.lt_succ_self _
            have HB1 := hid (below_new wr (.cells #[.int .i64 y.wh, .string y.nm, .string y.tg, .slice Ad nd cd, .int .i64 y.n] 34))
            have d0 : (wr.alloc (.cells #[.int .i64 y.wh, .string y.nm, .string y.tg, .slice Ad nd cd, .int .i64 y.n] 34)).cell? ⟨G, 0, none⟩ = some (.int .i64 y.wh) := World.cell?_alloc_at _ _ _ _ hG.symm
            have d1 : (wr.alloc (.cells #[.int .i64 y.wh, .string y.nm, .string y.tg, .slice Ad nd cd, .int .i64 y.n] 34)).cell? ⟨G, 1, none⟩ = some (.string y.nm) := World.cell?_alloc_at _ _ _ _ hG.symm
            have d2 : (wr.alloc (.cells #[.int .i64 y.wh, .string y.nm, .string y.tg, .slice Ad nd cd, .int .i64 y.n] 34)).cell? ⟨G, 2, none⟩ = some (.string y.tg) := World.cell?_alloc_at _ _ _ _ hG.symm
            have d3 : (wr.alloc (.cells #[.int .i64 y.wh, .string y.nm, .string y.tg, .slice Ad nd cd, .int .i64 y.n] 34)).cell? ⟨G, 3, none⟩ = some (.slice Ad nd cd) := World.cell?_alloc_at _ _ _ _ hG.symm
            have d4 : (wr.alloc (.cells #[.int .i64 y.wh, .string y.nm, .string y.tg, .slice Ad nd cd, .int .i64 y.n] 34)).cell? ⟨G, 4, none⟩ = some (.int .i64 y.n) := World.cell?_alloc_at _ _ _ _ hG.symm
            have HFt : Hid (¬ Ft db mb fs G) := fun q => by
              have := (HL.out.lp.lw.dk.ft q).2
              omega
            rw [hG]
            obtain ⟨W1, hW1⟩ : ∃ W1, (wr.alloc (.cells #[.int .i64 y.wh, .string y.nm, .string y.tg, .slice Ad nd cd, .int .i64 y.n] 34)) = W1 := ⟨_, rfl⟩
            rw [hW1] at d0 d1 d2 d3 d4 hG1 HB1 ⊢
            have HL1 := hid (HL.out.below HB1.out)
            have HC := hid (lp_do HL1.out.lp (by omega) ⟨by decide, by decide⟩ y HO.out (HSl.out.below HB1.out))
            rw [HED.out] at HC
            have HG1 := hid hG1
            have HD0 := hid d0
            have HD1 := hid d1
            have HD2 := hid d2
            clear hW1 hG hG1 HL HB1 c0 c1 c2 c3 c4 HSl HED
            go_upto_region 14 with (go_at_call 12; refine HC.out.mono ?_; rintro e w4 ⟨q, fs', u', rfl, hE, h1⟩; have HP4 : Hid (LpS w w4 B db mb fs' 16777216 u' (k + 1) (datN (cs.take (k + 1)))) := (by rw [HD.out]; exact h1); have HDi := hid hE.did; have e0 := (World.cell?_of_block (hE.ch.block G HG1.out HFt.out)).trans HD0.out; have e1 := (World.cell?_of_block (hE.ch.block G HG1.out HFt.out)).trans HD1.out; have e2 := (World.cell?_of_block (hE.ch.block G HG1.out HFt.out)).trans HD2.out; clear hE h1)
            clear d0 d1 d2 d3 d4 HD0 HD1 HD2 HG1 HFt HC HO HD
            have HMd : Hid (∀ f ∈ viewF fs, f.m ≤ f.d.length) := fun f hf => by
              have : f.m + sumR f.l = f.d.length := (HL1.out.lp.lw.gd.fl f hf).ok
              omega
            have HSf : Hid (Safe x s (viewF fs)) := HL1.out.sf
            clear HL1
            obtain ⟨wh, hwh⟩ : ∃ wh, y.wh = wh := ⟨_, rfl⟩
            obtain ⟨nm, hnm⟩ : ∃ nm, y.nm = nm := ⟨_, rfl⟩
            obtain ⟨tg, htg⟩ : ∃ tg, y.tg = tg := ⟨_, rfl⟩
            rw [hwh] at e0
            rw [hnm] at e1
            rw [htg] at e2
            have HWh := hid hwh
            have HNm := hid hnm
            have HTg := hid htg
            clear hwh hnm htg
            by_cases hq : q = 0
            · subst hq
              by_cases h2 : wh = 2
              · subst h2
                by_cases hx : nm = x
                · subst hx
                  go_wp2
                  go_roundw
                  case rel => exact ⟨k + 1, fs', u', 0, rfl, by go_num, by omega, Nat.zero_le _, HP4.out, .inl rfl⟩
                  case measure => simp [intOf]; omega
                · have gx : (nm.toList == x.toList) = false := str_ne hx
                  have HX2 := hid hx
                  have HSN : Hid (Safe x s (viewF fs')) := did_safe HDi.out HSf.out (by rw [HWh.out]; decide) HMd.out (fun _ => ⟨fun h => by rw [HWh.out] at h; rw [HNm.out]; exact HX2.out, fun h => by rw [HWh.out] at h; omega⟩)
                  go_wp2
                  go_roundw
                  case rel => exact ⟨k + 1, fs', u', s, rfl, by go_num, by omega, hs3, HP4.out, HSN.out⟩
                  case measure => simp [intOf]; omega
              · by_cases h3 : wh = 3
                · subst h3
                  by_cases hx : nm = x
                  · subst hx
                    go_wp2
                    go_roundw
                    case rel => exact ⟨k + 1, fs', u', 0, rfl, by go_num, by omega, Nat.zero_le _, HP4.out, .inl rfl⟩
                    case measure => simp [intOf]; omega
                  · have gx : (nm.toList == x.toList) = false := str_ne hx
                    by_cases hy : tg = x
                    · subst hy
                      go_wp2
                      go_roundw
                      case rel => exact ⟨k + 1, fs', u', 0, rfl, by go_num, by omega, Nat.zero_le _, HP4.out, .inl rfl⟩
                      case measure => simp [intOf]; omega
                    · have gy : (tg.toList == x.toList) = false := str_ne hy
                      have HX2 := hid hx
                      have HX3 := hid hy
                      have HSN : Hid (Safe x s (viewF fs')) := did_safe HDi.out HSf.out (by rw [HWh.out]; decide) HMd.out (fun _ => ⟨fun h => by rw [HWh.out] at h; omega, fun h => by rw [HWh.out] at h; rw [HNm.out, HTg.out]; exact ⟨HX2.out, HX3.out⟩⟩)
                      go_wp2
                      go_roundw
                      case rel => exact ⟨k + 1, fs', u', s, rfl, by go_num, by omega, hs3, HP4.out, HSN.out⟩
                      case measure => simp [intOf]; omega
                · by_cases h1 : wh = 1
                  · subst h1
                    by_cases hx : nm = x
                    · obtain ⟨g, hg, hgn, hgm⟩ := did_sync HDi.out HWh.out rfl
                      have hgx : g.n = x := hgn.trans (HNm.out.trans hx)
                      have hgl : g.d.length ≤ 3000 := Nat.le_trans (size_each HP4.out.sz hg) HD3.out
                      have hgs : Safe x g.d.length (viewF fs') := .inr ⟨g.v, List.mem_map_of_mem hg, hgx, Nat.le_of_eq hgm.symm⟩
                      have HRd : Hid (Calls Try.prog 26 #[.pointer (some ⟨db, 0, none⟩), .string x] w4 fun e w' => ∃ v, e = .returned (.tuple #[v, .bool true]) ∧ Row w' w4.heap.size v g.d ∧ Below w4.heap.size w4 w') := by
                        obtain ⟨A', C', hAC⟩ := List.append_of_mem hg
                        have h2 := HP4.out.lw.dk
                        rw [hAC] at h2
                        have := read_some h2 (by rw [hgx]; exact HX.out) (by omega)
                        rw [hgx] at this
                        exact this
                      obtain ⟨nl, hnl⟩ : ∃ nl, g.d.length = nl := ⟨_, rfl⟩
                      rw [hnl] at hgl hgs
                      have HNl := hid hnl
                      have HGs := hid hgs
                      clear hgs hgm hgn hg hgx hnl
                      subst hx
                      go_wp2_with (go_at_call 26; refine HRd.out.mono ?_; rintro e w5 ⟨v1, rfl, hr, hb⟩; obtain ⟨A5, c5, rfl⟩ := row_form hr HNl.out; have HB5 := hid hb; clear hr hb)
                      go_roundw
                      case rel => exact ⟨k + 1, fs', u', nl, rfl, by go_num, by omega, hgl, HP4.out.below HB5.out, HGs.out⟩
                      case measure => simp [intOf]; omega
                    · have gx : (nm.toList == x.toList) = false := str_ne hx
                      have HSN : Hid (Safe x s (viewF fs')) := did_safe HDi.out HSf.out (by rw [HWh.out]; decide) HMd.out (fun _ => ⟨fun h => by rw [HWh.out] at h; omega, fun h => by rw [HWh.out] at h; omega⟩)
                      go_wp2
                      go_roundw
                      case rel => exact ⟨k + 1, fs', u', s, rfl, by go_num, by omega, hs3, HP4.out, HSN.out⟩
                      case measure => simp [intOf]; omega
                  · by_cases h4 : wh = 4
                    · subst h4
                      go_wp2
                      go_roundw
                      case rel => exact ⟨k + 1, fs', u', 0, rfl, by go_num, by omega, Nat.zero_le _, HP4.out, .inl rfl⟩
                      case measure => simp [intOf]; omega
                    · have HN4 := hid h4
                      have HN2 := hid h2
                      have HN3 := hid h3
                      have HSN : Hid (Safe x s (viewF fs')) := did_safe HDi.out HSf.out (by rw [HWh.out]; exact HN4.out) HMd.out (fun _ => ⟨fun h => by rw [HWh.out] at h; exact absurd h HN2.out, fun h => by rw [HWh.out] at h; exact absurd h HN3.out⟩)
                      go_wp2
                      go_roundw
                      case rel => exact ⟨k + 1, fs', u', s, rfl, by go_num, by omega, hs3, HP4.out, HSN.out⟩
                      case measure => simp [intOf]; omega
            · have h4 : ¬ wh = 4 := fun h => hq (safe_crash_c HDi.out (HWh.out.trans h))
              have HSN : Hid (Safe x s (viewF fs')) := did_safe HDi.out HSf.out (by rw [HWh.out]; exact h4) HMd.out (fun h => absurd h hq)
              go_wp2
              go_roundw
              case rel => exact ⟨k + 1, fs', u', s, rfl, by go_num, by omega, hs3, HP4.out, HSN.out⟩
              case measure => simp [intOf]; omega
          · obtain rfl : k = n := by omega
            have HG := hid (good_fs HL.out.lp.lw.gd (by omega) (by decide))
            have HAp : Hid (fs.Pairwise Fl.apart) := HL.out.lp.lw.dk.ap
            have HSz : Hid (sizeF fs ≤ 3000) := Nat.le_trans HL.out.lp.sz (dat_small HS.out k (by rw [HN.out]; exact Nat.le_refl _))
            have HFt : Hid (∀ q, Ft db mb fs q → q < wr.heap.size) := fun q hq => (HL.out.lp.lw.dk.ft hq).2
            have HSf := hid HL.out.sf
            rcases part x HG.out.2.2.2.2.2.2 with ⟨P, f, C, hPC, hfn⟩ | ⟨P, C, hPC, hP, hC⟩
            · have hfm : f ∈ fs := by rw [hPC]; simp
              have hfd : f.d.length ≤ 3000 := size_each HSz.out hfm
              have HRd : Hid (Calls Try.prog 26 #[.pointer (some ⟨db, 0, none⟩), .string x] wr fun e w' => ∃ v, e = .returned (.tuple #[v, .bool true]) ∧ Row w' wr.heap.size v f.d ∧ Below wr.heap.size wr w') := by
                have h2 := HL.out.lp.lw.dk
                rw [hPC] at h2
                have := read_some h2 (by rw [hfn]; exact HX.out) (by omega)
                rw [hfn] at this
                exact this
              have HFm : Hid (f ∈ fs ∧ f.n = x) := ⟨hfm, hfn⟩
              obtain ⟨d, hd⟩ : ∃ d, f.d = d := ⟨_, rfl⟩
              rw [hd] at HRd hfd
              obtain ⟨nd, hnd⟩ : ∃ nd, d.length = nd := ⟨_, rfl⟩
              rw [hnd] at hfd
              have HDe := hid hd
              have HNd := hid hnd
              clear hPC hfn hfm hd hnd
              go_upto_region 21 with (go_at_call 26; refine HRd.out.mono ?_; rintro e w5 ⟨v1, rfl, hr, hb⟩; obtain ⟨A5, c5, rfl⟩ := row_form hr HNd.out; have HR5 := hid hr; have HL5 := hid (HL.out.below hb); clear hr hb)
              have HC := hid (crash_lw HL5.out.lp.lw (by omega) (by decide) K HKk.out.1 HKk.out.2)
              go_upto_region 22 with (go_at_call 28; refine HC.out.mono ?_; rintro e w6 ⟨rfl, l, p1, p2, q1, q2, q3⟩; have HL6 := hid q1; have HR6 := hid (sla_keep HR5.out q2 HFt.out); have HCs := hid (crash_safe (K := K) HG.out.2.2.2.2.2.2 p1 HAp.out (fun f hf => (HG.out.2.2.2.2.2.1 f hf).2.1) HSf.out); have HLo : Hid (looseF (crF fs l K) = 0) := crash_tight fs l K; have HZ6 : Hid (sizeF (crF fs l K) ≤ 3000) := Nat.le_trans q3 HSz.out; clear p1 p2 q1 q2 q3)
              have hcs : (((∀ g ∈ crF fs l K, g.n ≠ x) ∧ s = 0) ∨ ∃ A' f' C' k, crF fs l K = A' ++ f' :: C' ∧ f'.n = x ∧ f'.d = d.take k ∧ s ≤ k ∧ k ≤ nd) := by
                rcases HCs.out with ⟨h1, _⟩ | ⟨P2, f2, C2, e2, n2, h⟩
                · exact absurd HFm.out.2 (h1 f HFm.out.1)
                · have huq : f2 = f := by
                    have hr := HG.out.2.2.2.2.2.2
                    rw [e2] at hr
                    obtain ⟨r1, r2, _⟩ := rise_mid hr
                    have hm := HFm.out.1
                    rw [e2] at hm
                    rcases List.mem_append.1 hm with q | q
                    · exact absurd (HFm.out.2.trans n2.symm) (bef_ne (r1 f q))
                    · rcases List.mem_cons.1 q with q | q
                      · exact q.symm
                      · exact absurd (HFm.out.2.trans n2.symm).symm (bef_ne (r2 f q))
                  subst huq
                  rw [HDe.out] at h
                  rcases h with h | ⟨A', f', C', k', h1, h2, h3, h4, h5⟩
                  · exact .inl h
                  · rw [HNd.out] at h5
                    exact .inr ⟨A', f', C', k', h1, h2, h3, h4, h5⟩
              obtain ⟨f1, hf1⟩ : ∃ f1, crF fs l K = f1 := ⟨_, rfl⟩
              rw [hf1] at hcs HL6 HLo HZ6
              have HL6g := hid (good_fs HL6.out.gd (by omega) (by decide))
              have HLs : Hid (∀ W, Below w6.heap.size w6 W → Calls Try.prog 25 #[.pointer (some ⟨db, 0, none⟩)] W fun e w' => e = .returned (.int .i64 0) ∧ Below W.heap.size W w') := fun W hW => by
                have := loose_ok (HL6.out.dk.below hW) (by have := HZ6.out; omega) (fun f hf => (HL6g.out.2.2.2.2.2.1 f hf).2.2.1)
                rw [HLo.out] at this
                exact this
              have HB6 := hid HL6.out.b
              clear hf1 HC HRd HR5 HL5 HL HCs HFm HDe HFt HAp HSf HG HA
              rcases hcs with ⟨hno, rfl⟩ | ⟨A', f', C', k', h1, h2, h3, h4, h5⟩
              · have HRn := hid (read_none HL6.out.dk x hno HX.out)
                clear hno
                go_upto_region 23 with (go_at_call 26; refine HRn.out.mono ?_; rintro e w7 ⟨rfl, hb⟩; have HB7 := hid hb; clear hb)
                have HS2 := hid fun W (hW : Below w6.heap.size w6 W) => same_sla (.slice none 0 0) (.slice A5 0 c5) [] [] (by decide) W (sla_nothing W) (by have := sla_take (k := 0) (HR6.out.sla.below hW) (Nat.zero_le _); rw [List.take_zero] at this; exact this)
                have hc5 : 0 ≤ c5 := Nat.zero_le _
                go_wp2_with (first
                  | (go_at_call 25; refine (HLs.out _ HB7.out).mono ?_; rintro e w8 ⟨rfl, hb⟩; have HB8 := hid (HB7.out.trans (hb.mono HB7.out.size)); clear hb)
                  | (go_at_call 18; refine (HS2.out _ HB8.out).mono ?_; rintro e w9 ⟨rfl, hb⟩; have HB9 := hid (HB8.out.trans (hb.mono HB8.out.size)); clear hb))
                go_ret
                exact ⟨rfl, HB6.out.trans (HB9.out.mono HB6.out.size)⟩
              · have hdk : (d.take k').length = k' := by rw [List.length_take, HNd.out]; omega
                have HRn : Hid (Calls Try.prog 26 #[.pointer (some ⟨db, 0, none⟩), .string x] w6 fun e w' => ∃ v, e = .returned (.tuple #[v, .bool true]) ∧ Row w' w6.heap.size v (d.take k') ∧ Below w6.heap.size w6 w') := by
                  have h6 := HL6.out.dk
                  rw [h1] at h6
                  have := read_some h6 (by rw [h2]; exact HX.out) (by rw [h3, hdk]; omega)
                  rw [h2, h3] at this
                  exact this
                have HDk := hid hdk
                have hkc : k' ≤ 1000000 := by omega
                have HSt : Hid (SlA w6 (.slice A5 k' c5) (d.take k')) := sla_take HR6.out.sla (by rw [HNd.out]; exact h5)
                have hc5 : k' ≤ c5 := by
                  obtain ⟨A9, c9, e9, h9, _⟩ := HR6.out.sla
                  injection e9 with _ e9 e10
                  rw [HNd.out] at h9
                  omega
                have hcm : c5 ≤ 9223372036854775807 := by
                  obtain ⟨A9, c9, e9, _, h9, _⟩ := HR6.out.sla
                  injection e9 with _ _ e10
                  omega
                clear h1 h2 h3 hdk
                go_upto_region 23 with (go_at_call 26; refine HRn.out.mono ?_; rintro e w7 ⟨v7, rfl, hr, hb⟩; obtain ⟨A7, c7, rfl⟩ := row_form hr HDk.out; have HB7 := hid hb; have HS7 := hid hr.sla; clear hr hb)
                have HS2 := hid fun W (hW : Below w7.heap.size w7 W) => same_sla (.slice A7 k' c7) (.slice A5 k' c5) (d.take k') (d.take k') (by rw [HDk.out]; exact hkc) W (HS7.out.below hW) (HSt.out.below (HB7.out.trans (hW.mono HB7.out.size)))
                rw [decide_eq_true rfl] at HS2
                go_wp2_with (first
                  | (go_at_call 25; refine (HLs.out _ HB7.out).mono ?_; rintro e w8 ⟨rfl, hb⟩; have HB8 := hid hb; clear hb)
                  | (go_at_call 18; refine (HS2.out _ HB8.out).mono ?_; rintro e w9 ⟨rfl, hb⟩; have HB9 := hid (HB8.out.trans (hb.mono HB8.out.size)); clear hb))
                go_ret
                exact ⟨rfl, HB6.out.trans ((HB7.out.trans (HB9.out.mono HB7.out.size)).mono HB6.out.size)⟩
            · have hno : ∀ g ∈ fs, g.n ≠ x := fun g hg => by
                rw [hPC] at hg
                rcases List.mem_append.1 hg with q | q
                · exact bef_ne (hP g q)
                · exact fun h => bef_ne (hC g q) h.symm
              have HNo := hid hno
              have HRd := hid (read_none HL.out.lp.lw.dk x hno HX.out)
              clear hno hPC hP hC
              go_upto_region 21 with (go_at_call 26; refine HRd.out.mono ?_; rintro e w5 ⟨rfl, hb⟩; have HL5 := hid (HL.out.below hb); clear hb)
              have HC := hid (crash_lw HL5.out.lp.lw (by omega) (by decide) K HKk.out.1 HKk.out.2)
              go_upto_region 22 with (go_at_call 28; refine HC.out.mono ?_; rintro e w6 ⟨rfl, l, p1, p2, q1, q2, q3⟩; have HL6 := hid q1; have HCs := hid (crash_safe (K := K) HG.out.2.2.2.2.2.2 p1 HAp.out (fun f hf => (HG.out.2.2.2.2.2.1 f hf).2.1) HSf.out); have HLo : Hid (looseF (crF fs l K) = 0) := crash_tight fs l K; have HZ6 : Hid (sizeF (crF fs l K) ≤ 3000) := Nat.le_trans q3 HSz.out; clear p1 p2 q1 q2 q3)
              have hcs : (∀ g ∈ crF fs l K, g.n ≠ x) ∧ s = 0 := by
                rcases HCs.out with ⟨_, h1, h2⟩ | ⟨P2, f2, C2, e2, n2, h⟩
                · exact ⟨h1, h2⟩
                · exact absurd n2 (HNo.out f2 (by rw [e2]; simp))
              obtain ⟨f1, hf1⟩ : ∃ f1, crF fs l K = f1 := ⟨_, rfl⟩
              rw [hf1] at hcs HL6 HLo HZ6
              have HL6g := hid (good_fs HL6.out.gd (by omega) (by decide))
              have HLs : Hid (∀ W, Below w6.heap.size w6 W → Calls Try.prog 25 #[.pointer (some ⟨db, 0, none⟩)] W fun e w' => e = .returned (.int .i64 0) ∧ Below W.heap.size W w') := fun W hW => by
                have := loose_ok (HL6.out.dk.below hW) (by have := HZ6.out; omega) (fun f hf => (HL6g.out.2.2.2.2.2.1 f hf).2.2.1)
                rw [HLo.out] at this
                exact this
              have HB6 := hid HL6.out.b
              obtain ⟨hno, rfl⟩ := hcs
              have HRn := hid (read_none HL6.out.dk x hno HX.out)
              clear hf1 HC HRd HL5 HL HCs HFt HAp HSf HG HA hno
              go_upto_region 23 with (go_at_call 26; refine HRn.out.mono ?_; rintro e w7 ⟨rfl, hb⟩; have HB7 := hid hb; clear hb)
              have HS2 := hid fun W => same_sla (.slice none 0 0) (.slice none 0 0) [] [] (by decide) W (sla_nothing W) (sla_nothing W)
              go_wp2_with (first
                | (go_at_call 25; refine (HLs.out _ HB7.out).mono ?_; rintro e w8 ⟨rfl, hb⟩; have HB8 := hid (HB7.out.trans (hb.mono HB7.out.size)); clear hb)
                | (go_at_call 18; refine (HS2.out _).mono ?_; rintro e w9 ⟨rfl, hb⟩; have HB9 := hid (HB8.out.trans (hb.mono HB8.out.size)); clear hb))
              go_ret
              exact ⟨rfl, HB6.out.trans (HB9.out.mono HB6.out.size)⟩
  · have HS := hid hs
    have H := hid h
    clear hs h hx
    go_enter Try.func4, Try.ntmps4
    go_upto_region 3 with (go_at_call 7; refine HAl.out.mono ?_; rintro e w1 ⟨rfl, hb⟩; have B1 := hid hb; clear hb)
    go_wp2_with (go_at_call 8; refine (HGr.out _ B1.out).mono ?_; intro e w2 hg; obtain ⟨he, hb⟩ := gr_no hg HS.out; subst he; have B2 := hid (B1.out.trans (hb.mono B1.out.size)); clear hb hg)
    go_ret
    exact ⟨rfl, B2.out⟩
end Go.Proofs.Ytkdegdpkhldgbaa
