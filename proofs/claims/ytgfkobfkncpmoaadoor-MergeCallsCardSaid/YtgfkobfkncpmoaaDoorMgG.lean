/- drop passes over cells of the first run. Conditions: the merger stands; the first run has so many cells. -/
import Derived.Test.YtgfkobfkncpmoaaDoorMgF
namespace Go.Proofs.YtgfkobfkncpmoaaDoor
open Go.RowKit

set_option maxRecDepth 100000 in
set_option maxHeartbeats 16000000 in
theorem drop_any {B mb g cap C n k : Nat} {x : Mx} {t : List Mx} (w : World) (h : MAg w B mb g cap C (x :: t) (n + k)) (hH : Hp CT.cmp 0 ((x :: t).map Mx.r)) (hk : k ≤ x.r.cs.length) (hb : t.length ≤ 100000000000000) (hn : n + k ≤ 9223372036854775807) :
    Calls Tryd.prog 128 #[.pointer (some ⟨mb, 0, none⟩), .int .i64 (k : Int)] w fun e w' => e = .returned (.tuple #[]) ∧ ∃ l, Hid ((l.map Mx.r).Perm ((ofL (x.r.cs.drop k) x.r.i).toList ++ t.map Mx.r) ∧ Hp CT.cmp 0 (l.map Mx.r)) ∧ Hid (MAg w' B mb g cap C l n ∧ Chy g mb w w') := by
  have mixed : Tryd.prog.follows .mixedOrders = true := by kernel_rfl
  have HE : Hid (∀ (l : List Mx) (W : World), MAg W B mb g cap C l n → Chy g mb w W → Sk CT.cmp 0 0 (l.map Mx.r) → l.length ≤ 1000000000000000 → (l.map Mx.r).Perm ((ofL (x.r.cs.drop k) x.r.i).toList ++ t.map Mx.r) → Calls Tryd.prog 183 #[.pointer (some ⟨mb, 0, none⟩), .int .i64 0] W fun e w' => e = .returned (.tuple #[]) ∧ ∃ l, Hid ((l.map Mx.r).Perm ((ofL (x.r.cs.drop k) x.r.i).toList ++ t.map Mx.r) ∧ Hp CT.cmp 0 (l.map Mx.r)) ∧ Hid (MAg w' B mb g cap C l n ∧ Chy g mb w w')) := fun l W h1 h2 h3 h4 h5 => by
    refine (sink_any (i0 := 0) W h1 h3 h4 (Nat.zero_le _)).mono ?_
    rintro e w' ⟨rfl, l2, h6, h7⟩
    exact ⟨rfl, l2, ⟨(h6.out.1.map _).trans h5, h6.out.2⟩, h7.out.1, h2.trans h7.out.2.y⟩
  obtain ⟨M, hM⟩ : ∃ M, t.length = M := ⟨_, rfl⟩
  have H0 := hid h
  have HH := hid hH
  have HM := hid hM
  have hMb : M ≤ 100000000000000 := by rw [← hM]; exact hb
  have hcl := h.cl x (by simp)
  have hap := h.ap x (by simp)
  have m0 : w.cell? ⟨mb, 0, none⟩ = some (.slice (some ⟨g, 0, none⟩) (M + 1) cap) := by
    have := h.blk.cell 0
    rw [show (x :: t).length = M + 1 by rw [List.length_cons, hM]] at this
    exact this
  have m1 : w.cell? ⟨mb, 1, none⟩ = some (.int .i64 ((n : Int) + (k : Int))) := by
    have := h.blk.cell 1
    rw [this]
    show some (Value.int .i64 (((n + k : Nat) : Int))) = _
    rw [Int.natCast_add]
  have hf1 := h.blk.free 1
  obtain ⟨ux, ⟨hx, tx, ix⟩⟩ := x
  dsimp only [Rn.cs] at hcl hk HE
  obtain ⟨b1, o1, c1, rfl, q1, q2, hc1⟩ := cla_words hcl
  obtain ⟨n1, hn1⟩ : ∃ n, tx.length + 1 = n := ⟨_, rfl⟩
  rw [show (hx :: tx).length = n1 by rw [← hn1]; rfl] at hk
  clear h hH hM hcl
  go_enter Tryd.func128, Tryd.ntmps128
  go_upto_region 1 with (fail)
  have HL0 := hid (H0.out.left n)
  rw [hn1] at HL0
  obtain ⟨W0, hW0⟩ : ∃ W, w.setCell ⟨mb, 1, none⟩ (.int .i64 (n : Int)) = W := ⟨_, rfl⟩
  rw [hW0] at HL0 ⊢
  have s0 : W0.cell? ⟨mb, 0, none⟩ = some (.slice (some ⟨g, 0, none⟩) (M + 1) cap) := by
    have := HL0.out.1.blk.cell 0
    rw [show (⟨.slice (some ⟨b1, o1, none⟩) n1 c1, ⟨hx, tx, ix⟩⟩ :: t : List Mx).length = M + 1 by rw [List.length_cons, HM.out]] at this
    exact this
  have p := HL0.out.1.row.words 0 (by simp)
  dsimp only [List.getElem_cons_zero] at p
  rw [Nat.zero_mul, Nat.zero_add] at p
  obtain ⟨r0, r1⟩ := p
  have hfr : ∀ o, W0.frozen? ⟨g, o, none⟩ = false := fun o => HL0.out.1.row.free o
  clear hW0 m0 m1 hf1
  by_cases hkn : k < n1
  · have hck : ¬ c1 = k := by omega
    obtain ⟨h2, t2, hd⟩ : ∃ h2 t2, (hx :: tx).drop k = h2 :: t2 := by
      cases hd : (hx :: tx).drop k with
      | nil =>
        have := congrArg List.length hd
        rw [List.length_drop, List.length_cons] at this
        simp at this
        omega
      | cons a b => exact ⟨a, b, rfl⟩
    have HC1 := hid (HL0.out.1.cut hn1 hkn hd)
    have HD := hid hd
    go_region
    obtain ⟨m, hm⟩ : ∃ m, n1 - k = m := ⟨_, rfl⟩
    have hm0 : ¬ ((m : Int) = 0) := by omega
    rw [hm] at HC1 ⊢
    obtain ⟨W1, hW1⟩ : ∃ W, (W0.setCell ⟨g, 0, none⟩ (.slice (some ⟨b1, o1 + k * 8, none⟩) m (c1 - k))).drew = W := ⟨_, rfl⟩
    rw [hW1] at HC1 ⊢
    clear hW1 s0 r0 r1 hfr hd hc1
    have s0 : W1.cell? ⟨mb, 0, none⟩ = some (.slice (some ⟨g, 0, none⟩) (M + 1) cap) := by
      have := HC1.out.1.blk.cell 0
      rw [show (⟨.slice (some ⟨b1, o1 + k * 8, none⟩) m (c1 - k), ⟨h2, t2, ix⟩⟩ :: t : List Mx).length = M + 1 by rw [List.length_cons, HM.out]] at this
      exact this
    have p := HC1.out.1.row.words 0 (by simp)
    dsimp only [List.getElem_cons_zero] at p
    rw [Nat.zero_mul, Nat.zero_add] at p
    obtain ⟨r0, r1⟩ := p
    have HF := hid (HE.out (⟨.slice (some ⟨b1, o1 + k * 8, none⟩) m (c1 - k), ⟨h2, t2, ix⟩⟩ :: t) W1 HC1.out.1 (HL0.out.2.trans HC1.out.2.y) (sk_root HH.out fun _ _ q => q) (by rw [List.length_cons]; omega) (by rw [HD.out]; exact List.Perm.refl _))
    clear HE HC1 HL0 HH HD H0
    go_wp2_with (go_at_call 183; refine HF.out.mono ?_; rintro e w5 ⟨rfl, HZ⟩)
    go_end0
    exact ⟨rfl, HZ⟩
  · obtain rfl : k = n1 := by omega
    have HPn : Hid ((ofL ((hx :: tx).drop k) ix).toList = []) := by
      unfold Hid
      rw [List.drop_of_length_le (by rw [List.length_cons]; omega)]
      rfl
    have HR : ∀ oo cc, Hid (RowX ((W0.setCell ⟨g, 0, none⟩ (.slice (some ⟨b1, oo, none⟩) 0 cc)).drew) g cap (⟨.slice (some ⟨b1, oo, none⟩) 0 cc, ⟨hx, tx, ix⟩⟩ :: t) ∧ Chx g W0 ((W0.setCell ⟨g, 0, none⟩ (.slice (some ⟨b1, oo, none⟩) 0 cc)).drew)) := fun oo cc =>
      ⟨(HL0.out.1.row.put 0 (.slice (some ⟨b1, oo, none⟩) 0 cc) (⟨.slice (some ⟨b1, oo, none⟩) 0 cc, ⟨hx, tx, ix⟩⟩ :: t) rfl rfl).keep (Below.refl _ _).drew, (Chx.set _ _ _ _).trans (Chx.of (Below.refl _ _).drew)⟩
    have HF : Hid (∀ (l : List Mx) (W : World), MAg W B mb g cap C l n → Chy g mb w W → Sk CT.cmp 0 0 (l.map Mx.r) → l.length ≤ 1000000000000000 → (l.map Mx.r).Perm (t.map Mx.r) → Calls Tryd.prog 183 #[.pointer (some ⟨mb, 0, none⟩), .int .i64 0] W fun e w' => e = .returned (.tuple #[]) ∧ ∃ l, Hid ((l.map Mx.r).Perm ((ofL ((hx :: tx).drop k) ix).toList ++ t.map Mx.r) ∧ Hp CT.cmp 0 (l.map Mx.r)) ∧ Hid (MAg w' B mb g cap C l n ∧ Chy g mb w w')) := fun l W h1 h2 h3 h4 h5 => HE.out l W h1 h2 h3 h4 (by rw [HPn.out]; exact h5)
    clear HE HPn
    have hcap : M + 1 ≤ cap := by
      obtain ⟨cur, _, _, q, _⟩ := HL0.out.1.row
      rw [List.length_cons, HM.out] at q
      exact q
    have hMcz : (M : Int) ≤ (cap : Int) := by omega
    rcases Classical.em (c1 = k) with hck | hck <;> (go_region; go_upto_region 2 with (fail); refine wp_lt9 (fun W => ∃ oo cc, Hid (RowX W g cap (⟨.slice (some ⟨b1, oo, none⟩) 0 cc, ⟨hx, tx, ix⟩⟩ :: t) ∧ Chx g W0 W)) ⟨_, _, HR _ _⟩ ?_)
    all_goals (
      clear hck HR r0 r1 hc1
      rintro W1 ⟨oo, cc, HR1⟩
      have p := HR1.out.1.words 0 (by simp)
      dsimp only [List.getElem_cons_zero] at p
      rw [Nat.zero_mul, Nat.zero_add] at p
      obtain ⟨r0, r1⟩ := p
      have hMl : M < (⟨.slice (some ⟨b1, oo, none⟩) 0 cc, ⟨hx, tx, ix⟩⟩ :: t : List Mx).length := by rw [List.length_cons, HM.out]; omega
      have q := HR1.out.1.words M hMl
      obtain ⟨z, hz⟩ : ∃ z, (⟨.slice (some ⟨b1, oo, none⟩) 0 cc, ⟨hx, tx, ix⟩⟩ :: t : List Mx)[M] = z := ⟨_, rfl⟩
      rw [hz] at q
      have HZ : Hid ((⟨.slice (some ⟨b1, oo, none⟩) 0 cc, ⟨hx, tx, ix⟩⟩ :: t : List Mx)[t.length]? = some z) := by
        unfold Hid
        rw [HM.out, List.getElem?_eq_getElem hMl, hz]
      have hzs : ∃ A n c, z.u = .slice A n c := by
        have h1 : z ∈ (⟨.slice (some ⟨b1, oo, none⟩) 0 cc, ⟨hx, tx, ix⟩⟩ :: t : List Mx) := hz ▸ List.getElem_mem hMl
        rcases List.mem_cons.1 h1 with rfl | h1
        · exact ⟨_, _, _, rfl⟩
        · obtain ⟨A, c, e, _⟩ := HL0.out.1.cl z (List.mem_cons_of_mem _ h1)
          exact ⟨A, _, c, e⟩
      obtain ⟨uz, rz⟩ := z
      obtain ⟨Az, nz, cz, ez⟩ := hzs
      dsimp only at ez
      subst ez
      dsimp only at q
      obtain ⟨q0, q1⟩ := q
      have hs0 : ∀ W, Chx g W0 W → W.cell? ⟨mb, 0, none⟩ = some (.slice (some ⟨g, 0, none⟩) (M + 1) cap) := fun W hW => (World.cell?_of_block (w := W0) (hW.block mb HL0.out.1.blk.lt (Ne.symm HL0.out.1.ne))).trans s0
      have HS := hid hs0
      clear s0 hs0 hz hMl
      have s1 := HS.out W1 HR1.out.2
      have hfr1 : ∀ o, W1.frozen? ⟨g, o, none⟩ = false := fun o => HR1.out.1.free o
      have HR2 : Hid (RowX ((W1.setCell ⟨g, 0, none⟩ (.slice Az nz cz)).setCell ⟨g, 1, none⟩ (.int .i64 (rz.i : Int))).drew g cap ((⟨.slice (some ⟨b1, oo, none⟩) 0 cc, ⟨hx, tx, ix⟩⟩ :: t : List Mx).set 0 ⟨.slice Az nz cz, rz⟩) ∧ Chx g W0 ((W1.setCell ⟨g, 0, none⟩ (.slice Az nz cz)).setCell ⟨g, 1, none⟩ (.int .i64 (rz.i : Int))).drew) :=
        ⟨(HR1.out.1.set 0 (by simp) ⟨.slice Az nz cz, rz⟩).keep (Below.refl _ _).drew, (HR1.out.2.trans ((Chx.set W1 g 0 _).trans (Chx.set _ g 1 _))).trans (Chx.of (Below.refl _ _).drew)⟩
      go_upto_region 4 with (fail)
      go_region
      go_upto_region 5 with (fail)
      refine wp_lt9 (fun W => Hid (RowX W g cap ((⟨.slice (some ⟨b1, oo, none⟩) 0 cc, ⟨hx, tx, ix⟩⟩ :: t : List Mx).set 0 ⟨.slice Az nz cz, rz⟩) ∧ Chx g W0 W)) HR2 ?_
      clear HR2 s1 hfr1 r0 r1 q0 q1
      rintro W2 HR2
      have hMl2 : M < ((⟨.slice (some ⟨b1, oo, none⟩) 0 cc, ⟨hx, tx, ix⟩⟩ :: t : List Mx).set 0 ⟨.slice Az nz cz, rz⟩).length := by rw [List.length_set, List.length_cons, HM.out]; omega
      obtain ⟨y0, y1⟩ := HR2.out.1.words M hMl2
      obtain ⟨u0, hu0⟩ : ∃ u, ((⟨.slice (some ⟨b1, oo, none⟩) 0 cc, ⟨hx, tx, ix⟩⟩ :: t : List Mx).set 0 ⟨.slice Az nz cz, rz⟩)[M].u = u := ⟨_, rfl⟩
      obtain ⟨u1, hu1⟩ : ∃ u, Value.int .i64 (((⟨.slice (some ⟨b1, oo, none⟩) 0 cc, ⟨hx, tx, ix⟩⟩ :: t : List Mx).set 0 ⟨.slice Az nz cz, rz⟩)[M].r.i : Int) = u := ⟨_, rfl⟩
      rw [hu0] at y0
      rw [hu1] at y1
      have hfr2 : ∀ o, W2.frozen? ⟨g, o, none⟩ = false := fun o => HR2.out.1.free o
      have s2 := HS.out W2 HR2.out.2
      have HR3 : Hid (RowX ((W2.setCell ⟨g, M * 2, none⟩ (.slice none 0 0)).setCell ⟨g, M * 2 + 1, none⟩ (.int .i64 0)) g cap (((⟨.slice (some ⟨b1, oo, none⟩) 0 cc, ⟨hx, tx, ix⟩⟩ :: t : List Mx).set 0 ⟨.slice Az nz cz, rz⟩).take t.length) ∧ Chx g W0 ((W2.setCell ⟨g, M * 2, none⟩ (.slice none 0 0)).setCell ⟨g, M * 2 + 1, none⟩ (.int .i64 0))) := by
        refine ⟨?_, HR2.out.2.trans ((Chx.set W2 g _ _).trans (Chx.set _ g _ _))⟩
        have e := (HR2.out.1.set M hMl2 ⟨.slice none 0 0, ⟨hx, [], 0⟩⟩).take t.length (by rw [List.length_set, List.length_set, List.length_cons]; omega)
        rw [take_set2, List.set_eq_of_length_le (by rw [List.length_take, HM.out]; omega)] at e
        exact e
      clear hMl2 hu0 hu1
      go_upto_region 6 with (fail)
      refine wp_lt9 (fun W => Hid (RowX W g cap (((⟨.slice (some ⟨b1, oo, none⟩) 0 cc, ⟨hx, tx, ix⟩⟩ :: t : List Mx).set 0 ⟨.slice Az nz cz, rz⟩).take t.length) ∧ Chx g W0 W)) HR3 ?_
      clear HR3 s2 hfr2 y0 y1 HR2
      rintro W3 HR3
      have s3 := HS.out W3 HR3.out.2
      have hfm : W3.frozen? ⟨mb, 0, none⟩ = false := (HL0.out.1.blk.stay9 (HR3.out.2.block mb HL0.out.1.blk.lt (Ne.symm HL0.out.1.ne))).free 0
      have HQ := hid (HL0.out.1.shift HH.out HZ.out HR3.out.1 HR3.out.2)
      rw [HM.out] at HQ
      obtain ⟨l4, hl4⟩ : ∃ l, ((⟨.slice (some ⟨b1, oo, none⟩) 0 cc, ⟨hx, tx, ix⟩⟩ :: t : List Mx).set 0 ⟨.slice Az nz cz, rz⟩).take M = l := ⟨_, rfl⟩
      rw [hl4] at HQ
      have HG := hid (HF.out l4 _ HQ.out.1 (HL0.out.2.trans HQ.out.2.1) HQ.out.2.2.1 (by have := HQ.out.2.2.2.length_eq; rw [List.length_map, List.length_map, HM.out] at this; omega) HQ.out.2.2.2)
      clear HQ HF HR3 HS HZ hl4 HR1 HL0 HH H0 hap
      go_wp2_with (go_at_call 183; refine HG.out.mono ?_; rintro e w5 ⟨rfl, HZ⟩)
      go_end0
      exact ⟨rfl, HZ⟩)
end Go.Proofs.YtgfkobfkncpmoaaDoor
