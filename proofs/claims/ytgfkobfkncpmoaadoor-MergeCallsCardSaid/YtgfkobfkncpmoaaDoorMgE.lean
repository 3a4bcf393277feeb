/- sink: a run changes places until none below it is ahead. Conditions: the merger stands; not more runs than memory bears. -/
import Derived.Test.YtgfkobfkncpmoaaDoorMgD
namespace Go.Proofs.YtgfkobfkncpmoaaDoor
open Go.RowKit

set_option maxRecDepth 100000 in
set_option maxHeartbeats 16000000 in
theorem sink_any {B mb g cap C n k0 i0 : Nat} {l0 : List Mx} (w : World) (h : MAg w B mb g cap C l0 n) (hS : Sk CT.cmp k0 i0 (l0.map Mx.r)) (hb : l0.length ≤ 1000000000000000) (hi : i0 ≤ l0.length) :
    Calls Tryd.prog 183 #[.pointer (some ⟨mb, 0, none⟩), .int .i64 (i0 : Int)] w fun e w' => e = .returned (.tuple #[]) ∧ ∃ l, Hid (l.Perm l0 ∧ Hp CT.cmp k0 (l.map Mx.r)) ∧ Hid (MAg w' B mb g cap C l n ∧ Chx g w w') := by
  have mixed : Tryd.prog.follows .mixedOrders = true := by kernel_rfl
  obtain ⟨L, hL⟩ : ∃ L, l0.length = L := ⟨_, rfl⟩
  rw [hL] at hb hi
  have H0 := hid h
  have HS0 := hid hS
  have HL0 := hid hL
  clear h hS hL
  go_enter Tryd.func183, Tryd.ntmps183
  go_wp2
  go_loopw [1] (fun vi wr => ∃ (i : Nat) (l : List Mx), vi = .int .i64 (i : Int) ∧ i ≤ L ∧ Hid (l.Perm l0 ∧ Sk CT.cmp k0 i (l.map Mx.r)) ∧ Hid (MAg wr B mb g cap C l n ∧ Chx g w wr)) (fun vi _ => L + 1 - (intOf vi).toNat)
  case atStart => exact ⟨i0, l0, rfl, hi, ⟨List.Perm.refl _, HS0.out⟩, H0.out, Chx.refl _ _⟩
  case round =>
    clear H0 HS0
    obtain ⟨i, l, rfl, hi, HP, HM⟩ := hrel
    have HL : Hid (l.length = L) := HP.out.1.length_eq.trans HL0.out
    obtain ⟨wm, hwm⟩ : ∃ wm, wm = wr := ⟨_, rfl⟩
    subst hwm
    go_upto_region 2 with (fail)
    go_loopw [4, 5] (fun vj vk wq => ∃ j k : Nat, vj = .int .i64 (j : Int) ∧ vk = .int .i64 (k : Int) ∧ j ≤ 2 * i + 2 ∧ k ≤ 2 * i + 3 ∧ (j = i ∨ j < L) ∧ Hid (Lst l i k j) ∧ Hid (Below wm.heap.size wm wq)) (fun _ vk _ => 2 * i + 4 - (intOf vk).toNat)
    case atStart => exact ⟨i, 2 * i + 1, rfl, by go_num, by omega, by omega, .inl rfl, lst_start l i, Below.refl _ _⟩
    case round =>
      obtain ⟨j, k, rfl, rfl, hj, hk, hjo, HLs, HB⟩ := hrel
      have HMq := hid (HM.out.1.below HB.out)
      have m0 : wr.cell? ⟨mb, 0, none⟩ = some (.slice (some ⟨g, 0, none⟩) L cap) := by
        have := HMq.out.blk.cell 0
        rw [HL.out] at this
        exact this
      by_cases hkk : k ≤ 2 * i + 2 ∧ k < L
      · obtain ⟨hk1, hk2⟩ := hkk
        have hk1z : (k : Int) ≤ 2 * (i : Int) + 2 := by omega
        have hk2z : (k : Int) < (L : Int) := by omega
        have hjL : j < L := by
          have h1 := HLs.out.pl
          have h2 := HLs.out.kk
          unfold chd at h1
          omega
        have hkl : k < l.length := by rw [HL.out]; exact hk2
        have hjl : j < l.length := by rw [HL.out]; exact hjL
        have p := HMq.out.row.words k hkl
        have q := HMq.out.row.words j hjl
        obtain ⟨x, hx⟩ : ∃ x, l[k] = x := ⟨_, rfl⟩
        obtain ⟨y, hy⟩ : ∃ y, l[j] = y := ⟨_, rfl⟩
        rw [hx] at p
        rw [hy] at q
        have hcx := HMq.out.cl x (hx ▸ List.getElem_mem hkl)
        have hcy := HMq.out.cl y (hy ▸ List.getElem_mem hjl)
        have hxs : l[k]? = some x := by rw [List.getElem?_eq_getElem hkl, hx]
        have hys : l[j]? = some y := by rw [List.getElem?_eq_getElem hjl, hy]
        obtain ⟨d, hd⟩ : ∃ d, bfr CT.cmp x.r y.r = d := ⟨_, rfl⟩
        have HYes : Hid (d = true → Lst l i (k + 1) k) := fun e => lst_yes HLs.out hk1 hxs hys (hd.trans e)
        have HNo : Hid (d = false → Lst l i (k + 1) j) := fun e => lst_no HLs.out hk1 hxs hys (hd.trans e)
        have HA : Hid (∀ W, Below wr.heap.size wr W → Calls Tryd.prog 206 #[.agg #[x.u, .int .i64 (x.r.i : Int)], .agg #[y.u, .int .i64 (y.r.i : Int)]] W fun e w' => e = .returned (.bool d) ∧ Below W.heap.size W w') := fun W hW => by rw [← hd]; exact ahead_any x y W (hcx.below hW) (hcy.below hW)
        obtain ⟨ux, ⟨hx1, tx, ix⟩⟩ := x
        obtain ⟨uy, ⟨hy1, ty, iy⟩⟩ := y
        dsimp only [Rn.cs] at p q hcx hcy HA
        obtain ⟨b1, o1, c1, rfl, _, _, _⟩ := cla_words hcx
        obtain ⟨b2, o2, c2, rfl, _, _, _⟩ := cla_words hcy
        obtain ⟨p0, p1⟩ := p
        obtain ⟨q0, q1⟩ := q
        clear hd hxs hys hcx hcy hx hy hkl hjl HLs
        go_upto_region 4 with (fail)
        go_region_with (go_simp; go_at_call 206; refine (HA.out _ (Below.refl _ _).drew).mono ?_; rintro e w5 ⟨rfl, hb5⟩)
        all_goals (
          have HB5 := hid (HB.out.trans (((Below.refl _ wr).drew.trans hb5).mono HB.out.size))
          clear hb5 p0 p1 q0 q1 m0 HA
          cases d with
          | true =>
            go_wp2
            go_roundw
            case rel => exact ⟨k, k + 1, rfl, by go_num, hk1, by omega, .inr hk2, HYes.out rfl, HB5.out⟩
            case measure => simp [intOf]; omega
          | false =>
            go_wp2
            go_roundw
            case rel => exact ⟨j, k + 1, rfl, by go_num, hj, by omega, hjo, HNo.out rfl, HB5.out⟩
            case measure => simp [intOf]; omega)
      · have hdone : Hid (k = 2 * i + 3 ∨ l.length ≤ k) := by rw [HL.out]; unfold Hid; omega
        have hstop : ¬ (k : Int) ≤ 2 * (i : Int) + 2 ∨ ((k : Int) ≤ 2 * (i : Int) + 2 ∧ ¬ (k : Int) < (L : Int)) := by omega
        clear hkk
        have HC := hid (HM.out.2.trans (Chx.of HB.out))
        rcases hstop with g1 | ⟨g1, g2⟩ <;> (go_upto_region 6 with (fail))
        all_goals (
          (try clear g2)
          clear g1
          by_cases hji : j = i
          · subst hji
            go_wp2
            refine bodyPost_ret (v := .tuple #[]) (results_none rfl _ _ _) rfl ?_
            exact ⟨rfl, l, ⟨HP.out.1, sink_stop HP.out.2 HLs.out hdone.out⟩, HMq.out, HC.out⟩
          · have hjiz : ¬ ((j : Int) = (i : Int)) := by omega
            have hjL : j < L ∧ i < j := by
              have h1 := HLs.out.pl
              have h3 := hjo.elim (fun q => absurd q hji) id
              unfold chd at h1
              omega
            obtain ⟨hjL, hij⟩ := hjL
            have hil : i < l.length := by rw [HL.out]; omega
            have hjl : j < l.length := by rw [HL.out]; exact hjL
            have p := HMq.out.row.words i hil
            have q := HMq.out.row.words j hjl
            obtain ⟨x, hx⟩ : ∃ x, l[i] = x := ⟨_, rfl⟩
            obtain ⟨y, hy⟩ : ∃ y, l[j] = y := ⟨_, rfl⟩
            rw [hx] at p
            rw [hy] at q
            have hcx := HMq.out.cl x (hx ▸ List.getElem_mem hil)
            have hcy := HMq.out.cl y (hy ▸ List.getElem_mem hjl)
            have hxs : l[i]? = some x := by rw [List.getElem?_eq_getElem hil, hx]
            have hys : l[j]? = some y := by rw [List.getElem?_eq_getElem hjl, hy]
            have HSw := hid (HMq.out.swap hil hjl hx hy)
            have HPw := hid ((swx_perm hil hjl hx hy).trans HP.out.1)
            have HSk := hid (sink_go HP.out.2 HLs.out hdone.out hji hxs hys)
            have hfr : ∀ o, wr.frozen? ⟨g, o, none⟩ = false := fun o => HMq.out.row.free o
            have O0 := HMq.out.row.own
            obtain ⟨ux, ⟨hx1, tx, ix⟩⟩ := x
            obtain ⟨uy, ⟨hy1, ty, iy⟩⟩ := y
            dsimp only [Rn.cs] at p q hcx hcy
            obtain ⟨b1, o1, c1, rfl, _, _, _⟩ := cla_words hcx
            obtain ⟨b2, o2, c2, rfl, _, _, _⟩ := cla_words hcy
            obtain ⟨n1, hn1⟩ : ∃ n, tx.length + 1 = n := ⟨_, rfl⟩
            obtain ⟨n2, hn2⟩ : ∃ n, ty.length + 1 = n := ⟨_, rfl⟩
            rw [hn1] at p
            rw [hn2] at q
            obtain ⟨p0, p1⟩ := p
            obtain ⟨q0, q1⟩ := q
            rw [HL.out] at O0
            have O1 := O0.set (i * 2) (.slice (some ⟨b2, o2, none⟩) n2 c2)
            have O2 := O1.set (i * 2 + 1) (.int .i64 (iy : Int))
            obtain ⟨u0, y0⟩ := O2.get (j * 2) (by omega)
            have O3 := O2.set (j * 2) (.slice (some ⟨b1, o1, none⟩) n1 c1)
            obtain ⟨u1, y1⟩ := O3.get (j * 2 + 1) (by omega)
            have HF : Hid (MAg (((((wr.setCell ⟨g, i * 2, none⟩ (.slice (some ⟨b2, o2, none⟩) n2 c2)).setCell ⟨g, i * 2 + 1, none⟩ (.int .i64 (iy : Int))).setCell ⟨g, j * 2, none⟩ (.slice (some ⟨b1, o1, none⟩) n1 c1)).setCell ⟨g, j * 2 + 1, none⟩ (.int .i64 (ix : Int))).drew) B mb g cap C (swX l i j ⟨.slice (some ⟨b1, o1, none⟩) n1 c1, ⟨hx1, tx, ix⟩⟩ ⟨.slice (some ⟨b2, o2, none⟩) n2 c2, ⟨hy1, ty, iy⟩⟩) n ∧ Chx g w (((((wr.setCell ⟨g, i * 2, none⟩ (.slice (some ⟨b2, o2, none⟩) n2 c2)).setCell ⟨g, i * 2 + 1, none⟩ (.int .i64 (iy : Int))).setCell ⟨g, j * 2, none⟩ (.slice (some ⟨b1, o1, none⟩) n1 c1)).setCell ⟨g, j * 2 + 1, none⟩ (.int .i64 (ix : Int))).drew)) := by
              have e := HSw.out
              rw [hn1, hn2] at e
              exact ⟨e.1.below (Below.refl _ _).drew, (HC.out.trans e.2).trans (Chx.of (Below.refl _ _).drew)⟩
            have HP3 : Hid ((swX l i j ⟨.slice (some ⟨b1, o1, none⟩) n1 c1, ⟨hx1, tx, ix⟩⟩ ⟨.slice (some ⟨b2, o2, none⟩) n2 c2, ⟨hy1, ty, iy⟩⟩).Perm l0 ∧ Sk CT.cmp k0 j ((swX l i j ⟨.slice (some ⟨b1, o1, none⟩) n1 c1, ⟨hx1, tx, ix⟩⟩ ⟨.slice (some ⟨b2, o2, none⟩) n2 c2, ⟨hy1, ty, iy⟩⟩).map Mx.r)) := by
              have e1 := HPw.out
              have e2 := HSk.out
              rw [hn1, hn2] at e1 e2
              exact ⟨e1, e2⟩
            clear hn1 hn2 hcx hcy hxs hys hx hy hil hjl HSw HPw HSk O0 O1 O2 O3 HC HMq HB HLs hdone HL hjo
            have hiz : (i : Int) < (L : Int) := by omega
            have hjz : (j : Int) < (L : Int) := by omega
            go_upto_region 7 with (fail)
            go_region
            go_wp2
            go_roundw
            case rel => exact ⟨j, _, rfl, by omega, HP3.out, HF.out⟩
            case measure => simp [intOf]; omega)
end Go.Proofs.YtgfkobfkncpmoaaDoor
