/- Several texts in one: StN StO StPa MfN. Conditions: as each theorem names them. -/
import Derived.Test.YtofkfafdodhmdaaGreatDoorNL
/- (*store.Disk).Crash. Conditions: the disk stands; each file's runs are what doesn't last of it; less than a hundred thousand runs. -/
namespace Go.Proofs.YtofkfafdodhmdaaGreatDoor
open Go.RowKit

theorem flat_m {w : World} {B : Nat} {f : Fl} (h : FlAt w B f) (m : Nat) : FlAt (w.setCell ⟨f.b, 1, none⟩ (.int .i64 (m : Int))) B { f with m := m } ∧ Chg f.has w (w.setCell ⟨f.b, 1, none⟩ (.int .i64 (m : Int))) := by
  have k1 := h.blk.set 1 (.int .i64 (m : Int))
  have hk : ∀ k, k ≠ f.b → (w.setCell ⟨f.b, 1, none⟩ (.int .i64 (m : Int))).heap[k]? = w.heap[k]? := fun k q => Below.heap_setCell _ _ _ _ q
  refine ⟨⟨h.lo, k1, own_block0 h.row fun g q => hk g ?_, own_block0 h.run fun g q => hk g ?_⟩, Chg.of_set w f.b 1 _ (S := f.has) (.inl rfl)⟩
  · obtain ⟨cur, hc⟩ := own_blk h.row q
    exact blk_ne0 hc h.blk (by decide)
  · obtain ⟨cur, hc⟩ := own_blk h.run q
    exact blk_ne0 hc h.blk (by decide)
theorem PHold.chg {w wr w' : World} {v : Value} {l : List Pc} (h : PHold wr w.heap.size v l) (hb : ∀ k, w.heap.size ≤ k → k < wr.heap.size → w'.heap[k]? = wr.heap[k]?) : PHold w' w.heap.size v l := by
  obtain ⟨A, c, e, hh⟩ := h
  refine ⟨A, c, e, fun i hi => ?_⟩
  obtain ⟨b, e1, hB, c0, c1, c2⟩ := hh i hi
  have hlt := cell_lt c0
  have hk := hb b hB hlt
  exact ⟨b, e1, hB, (World.cell?_of_block hk).trans c0, (World.cell?_of_block hk).trans c1, (World.cell?_of_block hk).trans c2⟩
/-- Where Crash is while pieces are gone through. -/
structure C1S (w wr : World) (B db mb : Nat) (fs : List Fl) (z s u K : Int) (v : Value) (l : List Pc) (k : Nat) : Prop where
  dk : Dk wr B db mb (fs.map (mF (l.take k) K)) z s u
  ph : PHold wr w.heap.size v l
  ch : Chg (Ft db mb fs) w wr
theorem ft_map {db mb : Nat} {fs : List Fl} (F : Fl → Fl) (h : ∀ f k, (F f).has k → f.has k) {k : Nat} (hk : Ft db mb (fs.map F) k) : Ft db mb fs k := by
  rcases hk with q | q | ⟨g, hg, q⟩
  · exact .inl q
  · exact .inr (.inl q)
  · obtain ⟨f, hf, rfl⟩ := List.mem_map.1 hg
    exact .inr (.inr ⟨f, hf, h f k q⟩)
theorem C1S.below {w wr w' : World} {B db mb : Nat} {fs : List Fl} {z s u K : Int} {v : Value} {l : List Pc} {k : Nat} (h : C1S w wr B db mb fs z s u K v l k) (hb : Below wr.heap.size wr w') : C1S w w' B db mb fs z s u K v l k :=
  ⟨h.dk.below hb, h.ph.chg fun j _ h2 => hb.block j h2, h.ch.trans (Chg.of_below (Ft db mb fs) hb) fun _ q => .inl q⟩
theorem C1S.step {w wr : World} {B db mb : Nat} {fs : List Fl} {z s u K : Int} {v : Value} {l : List Pc} {k : Nat} (h : C1S w wr B db mb fs z s u K v l k) (hlt : ∀ k, Ft db mb fs k → k < w.heap.size) (hap : fs.Pairwise Fl.apart) (hk : k < l.length) {A C : List Fl} {f : Fl} (e : fs = A ++ f :: C) (hp : l[k].1 = f.b) {m : Nat} (hm : (mF (l.take k) K f).m + kp (kpl (l.take k) K) l[k].2.2 = m) :
    C1S w (wr.setCell ⟨f.b, 1, none⟩ (.int .i64 (m : Int))) B db mb fs z s u K v l (k + 1) := by
  subst hm
  have hd := h.dk
  have em : fs.map (mF (l.take k) K) = A.map (mF (l.take k) K) ++ mF (l.take k) K f :: C.map (mF (l.take k) K) := by rw [e, List.map_append, List.map_cons]
  rw [em] at hd
  have hF := flat_m (hd.fl (mF (l.take k) K f) (by simp)) ((mF (l.take k) K f).m + kp (kpl (l.take k) K) l[k].2.2)
  have hU := hd.upd hF.2 hF.1 rfl rfl fun j q => .inl q
  have etk : l.take (k + 1) = l.take k ++ [l[k]] := List.take_succ_eq_append_getElem hk
  refine ⟨?_, h.ph.chg fun j h1 h2 => ?_, ?_⟩
  · rw [etk, e, mF_step (by rw [← e]; exact hap) _ _ _ hp]
    exact hU
  · have hne : ¬ f.has j := fun q => by
      have := hlt j (.inr (.inr ⟨f, by rw [e]; simp, q⟩))
      omega
    exact hF.2.block j h2 hne
  · exact h.ch.trans hF.2 fun j q => .inl (.inr (.inr ⟨f, by rw [e]; simp, q⟩))
theorem kpl_step (l : List Pc) (K : Int) {k : Nat} (hk : k < l.length) : kpl (l.take (k + 1)) K = kpl (l.take k) K - (kp (kpl (l.take k) K) l[k].2.2 : Int) := by
  rw [List.take_succ_eq_append_getElem hk, kpl_snoc]

theorem sumP_app (a b : List Pc) (x : Nat) : sumP (a ++ b) x = sumP a x + sumP b x := by unfold sumP; rw [List.filter_append, List.map_append, List.sum_append_nat]
theorem m_bound {fs : List Fl} {l : List Pc} (hpm : l.Perm (allP fs)) (hap : fs.Pairwise Fl.apart) {f : Fl} (hf : f ∈ fs) (hok : f.m + sumR f.l = f.d.length) (K : Int) {k : Nat} (hk : k < l.length) (hp : l[k].1 = f.b) : (mF (l.take k) K f).m + l[k].2.2 ≤ f.d.length := by
  have h1 := inc_le (l.take k) f.b K
  have h2 := sum_perm hpm f.b
  rw [sum_all hap hf] at h2
  have h3 : l = l.take k ++ ([l[k]] ++ l.drop (k + 1)) := by simp
  have h4 := congrArg (fun t => sumP t f.b) h3
  simp only [sumP_app] at h4
  have h5 : sumP [l[k]] f.b = l[k].2.2 := by
    unfold sumP
    rw [List.filter_cons, if_pos (decide_eq_true hp)]
    simp
  show f.m + incP (l.take k) K f.b + l[k].2.2 ≤ _
  omega
theorem mF_bound {fs : List Fl} {l : List Pc} (hpm : l.Perm (allP fs)) (hap : fs.Pairwise Fl.apart) {f : Fl} (hf : f ∈ fs) (hok : f.m + sumR f.l = f.d.length) (K : Int) : (mF l K f).m ≤ f.d.length := by
  have h1 := inc_le l f.b K
  have h2 := sum_perm hpm f.b
  rw [sum_all hap hf] at h2
  show f.m + incP l K f.b ≤ _
  omega
/-- Where Crash is while files are gone through; w: the world where the range began. -/
structure C2S (w wr : World) (B db mb : Nat) (fs : List Fl) (z s u : Int) (left : Lit → Bool) (cnt : Nat) : Prop where
  rg : wr.ranges Tryz.prog 9 Rp mb w.heap.size fs.length (mapD (kpF left fs)) left cnt
  fl : ∀ f ∈ fs, FlAt wr B (if left f.key = true then f else cutF f)
  blk : Blk wr db 90 #[.map (some mb), .int .i64 z, .int .i64 s, .int .i64 u]
  ch : Chg (Ft db mb fs) w wr
theorem has_st {left : Lit → Bool} {f : Fl} {k : Nat} (h : (if left f.key = true then f else cutF f).has k) : f.has k := by
  by_cases q : left f.key = true
  · rw [if_pos q] at h; exact h
  · rw [if_neg q] at h; exact cut_has h
/-- One file has been gone through: turned are the iterator, the map, the file's own block. -/
theorem C2S.step {w wr w2 w3 : World} {B db mb : Nat} {fs : List Fl} {z s u : Int} {left : Lit → Bool} {cnt cnt2 : Nat} {f : Fl} (hD : Dk w B db mb fs z s u) (h : C2S w wr B db mb fs z s u left cnt) (hf : f ∈ fs) (hl : left f.key = true) (hm : f.m ≤ f.d.length)
    (hrg : w2.ranges Tryz.prog 9 Rp mb w.heap.size fs.length (mapD (kpF (fun z => left z && !z.sameKey f.key) fs)) (fun z => left z && !z.sameKey f.key) cnt2) (hc : Chg (fun k => k = w.heap.size ∨ k = mb) wr w2)
    (hw3 : ∃ W, Below w2.heap.size w2 W ∧ w3 = (W.setCell ⟨f.b, 0, none⟩ (cutS f)).setCell ⟨f.b, 2, none⟩ (.slice none 0 0)) :
    C2S w w3 B db mb fs z s u (fun z => left z && !z.sameKey f.key) cnt2 := by
  obtain ⟨W, hW, rfl⟩ := hw3
  have hmb := hD.map.lt
  have hsz := h.ch.size
  have hr2 := hrg.lt
  have hfk : ∀ g ∈ fs, ∀ k, g.has k → k < w.heap.size ∧ k ≠ mb ∧ k ≠ db := fun g hg k q => ⟨hD.lts hg q, (hD.db_ne hg q).2, (hD.db_ne hg q).1⟩
  have k2 : ∀ g ∈ fs, ∀ k, g.has k → w2.heap[k]? = wr.heap[k]? := fun g hg k q => hc.block k (Nat.lt_of_lt_of_le (hfk g hg k q).1 hsz) fun r => by
    have := hfk g hg k q
    rcases r with r | r
    · omega
    · exact this.2.1 r
  have kW : ∀ k, k < w.heap.size → W.heap[k]? = w2.heap[k]? := fun k q => hW.block k (by have := hc.size; omega)
  have hF : FlAt W B f := by
    have := h.fl f hf
    rw [if_pos hl] at this
    exact this.keep fun k q => (kW k (hfk f hf k q).1).trans (k2 f hf k q)
  obtain ⟨c1, c2, c3⟩ := flat_cut hF hm
  have hfb := hfk f hf f.b (.inl rfl)
  refine ⟨?_, fun g hg => ?_, ?_, ?_⟩
  · have hmb2 := hrg.owns.lt
    obtain ⟨es, clock, since, seen, c0, hb1, F, hs, hDm, hr1, rest⟩ := hrg
    have hrne : w.heap.size ≠ f.b := by omega
    exact ⟨es, clock, since, seen, c0, ((c2 mb hfb.2.1.symm).trans (hW.block mb hmb2)).trans hb1, F, hs, hDm, ((c2 _ hrne).trans (hW.block _ hr2)).trans hr1, rest⟩
  · by_cases e : g.n = f.n
    · have egf : g = f := by
        obtain ⟨A, C, rfl⟩ := List.append_of_mem hf
        obtain ⟨h1, h2, _⟩ := rise_mid hD.ri
        rcases List.mem_append.1 hg with q | q
        · exact absurd e (bef_ne (h1 g q))
        · rcases List.mem_cons.1 q with q | q
          · exact q
          · exact absurd e.symm (bef_ne (h2 g q))
      have sf : f.key.sameKey f.key = true := by
        show (Lit.string f.n.data.toList).sameKey (.string f.n.data.toList) = true
        rw [sameKey_str, decide_eq_true rfl]
      rw [egf, if_neg (by rw [sf]; simp)]
      exact c1
    · have hgf : ∀ k, g.has k → k ≠ f.b := fun k q e2 => by
        obtain ⟨A, C, rfl⟩ := List.append_of_mem hf
        have hin : g ∈ A ++ C := by
          rcases List.mem_append.1 hg with p | p
          · exact List.mem_append_left _ p
          · rcases List.mem_cons.1 p with p | p
            · exact absurd (by rw [p]) e
            · exact List.mem_append_right _ p
        exact (ap_mid.1 hD.ap).2 g hin k (e2 ▸ .inl rfl) q
      have e1 : (left g.key && !g.key.sameKey f.key) = left g.key := by rw [key_ne e]; simp
      have := h.fl g hg
      show FlAt _ B (if (left g.key && !g.key.sameKey f.key) = true then g else cutF g)
      rw [e1]
      exact this.keep fun k q => (c2 k (hgf k (has_st q))).trans ((kW k (hfk g hg k (has_st q)).1).trans (k2 g hg k (has_st q)))
  · have hdb := hD.blk.lt
    have e1 : w2.heap[db]? = wr.heap[db]? := hc.block db (Nat.lt_of_lt_of_le hdb hsz) fun r => by
      rcases r with r | r
      · omega
      · exact hD.mb_ne hD.blk r
    exact ((c2 db hfb.2.2.symm).trans ((kW db hdb).trans e1)).trans h.blk
  · refine ((h.ch.trans hc fun k q => ?_).trans (Chg.of_below (Ft db mb fs) hW) fun k q => .inl q).trans c3 fun k q => .inl (.inr (.inr ⟨f, hf, q ▸ .inl rfl⟩))
    rcases q with q | q
    · exact .inr (Nat.le_of_eq q.symm)
    · exact .inl (.inr (.inl q))
theorem C2S.fin {w wr : World} {B db mb : Nat} {fs : List Fl} {z s u : Int} {left : Lit → Bool} {cnt : Nat} (hD : Dk w B db mb fs z s u) (h : C2S w wr B db mb fs z s u left cnt) (hl : ∀ kl, left kl = false) : Dk wr B db mb ((fs.filter keepB).map cutF) z s u := by
  refine ⟨hD.lo, h.blk, ?_, fun g hg => ?_, ?_, ?_⟩
  · have ho := h.rg.owns
    rw [kp_end hl] at ho
    refine omap_tight (n := fs.length) ?_
    rw [map_ent cutF fun f _ => ⟨rfl, rfl⟩]
    exact ho
  · obtain ⟨f, hf, rfl⟩ := List.mem_map.1 hg
    have := h.fl f (List.mem_filter.1 hf).1
    rw [if_neg (by rw [hl]; decide)] at this
    exact this
  · refine List.pairwise_map.2 ((hD.ap.filter _).imp fun {f g} q k q1 q2 => q k (cut_has q1) (cut_has q2))
  · exact List.pairwise_map.2 (hD.ri.filter _)

theorem cut_size (fs : List Fl) : sizeF ((fs.filter keepB).map cutF) ≤ sizeF fs := by
  unfold sizeF
  rw [List.map_map]
  induction fs with
  | nil => exact Nat.le_refl _
  | cons a t ih =>
    rw [List.filter_cons]
    have ha : ((fun f => f.d.length) ∘ cutF) a ≤ a.d.length := by show (a.d.take a.m).length ≤ _; rw [List.length_take]; omega
    split
    · rw [List.map_cons, List.map_cons, List.sum_cons, List.sum_cons]; omega
    · rw [List.map_cons, List.sum_cons]; omega

theorem C2S.drew {w wr : World} {B db mb : Nat} {fs : List Fl} {z s u : Int} {left : Lit → Bool} {cnt : Nat} (h : C2S w wr B db mb fs z s u left cnt) : C2S w wr.drew B db mb fs z s u left cnt :=
  ⟨h.rg, fun f hf => (h.fl f hf).keep fun _ _ => rfl, h.blk, h.ch.drew⟩
theorem keep_m {f : Fl} (h : f.m ≠ 0) : keepB f = true := by unfold keepB; rw [decide_eq_false h]; rfl
theorem keep_h {f : Fl} (h : f.h = true) : keepB f = true := by unfold keepB; rw [h, Bool.not_true, Bool.and_false]; rfl
theorem keep_no {f : Fl} (h : f.m = 0) (h2 : f.h = false) : keepB f = false := by unfold keepB; rw [decide_eq_true h, h2]; rfl

set_option maxRecDepth 100000 in
set_option maxHeartbeats 8000000 in
theorem crash_ok {B db mb : Nat} {fs : List Fl} {z u : Int} {w : World} (h : DkAt w B db mb fs z u) (K : Int) (hK1 : -9223372036854775808 ≤ K) (hK2 : K < 9223372036854775808) (hz : sizeF fs ≤ 16777216) (hok : ∀ f ∈ fs, f.m + sumR f.l = f.d.length) (hq : sumQ (fun f => f.l.length) fs ≤ 100000) (hns : ∀ f ∈ fs, f.n.size ≤ maxLen) :
    Calls Tryz.prog 26 #[.pointer (some ⟨db, 0, none⟩), .int .i64 K] w fun e w' => e = .returned (.tuple #[]) ∧ ∃ l, l.Perm (allP fs) ∧ l.Pairwise (fun x y => x.2.1 ≤ y.2.1) ∧ DkAt w' B db mb (((fs.map (mF l K)).filter keepB).map cutF) z u ∧ Chg (Ft db mb fs) w w' := by
  have HD := hid h
  have HW := hid (waiting_ok h hq)
  have HLT : Hid (∀ k, Ft db mb fs k → k < w.heap.size) := fun k q => (h.ft q).2
  have HZ := hid hz
  have HOk := hid hok
  have HK : Hid (-9223372036854775808 ≤ K ∧ K < 9223372036854775808) := ⟨hK1, hK2⟩
  have HQ := hid hq
  clear h hq hz hok hK1 hK2
  go_enter Tryz.func26, Tryz.ntmps26
  go_wp2_with (go_at_call 63; refine HW.out.mono ?_; rintro e w1 ⟨v, l, rfl, hph, hpm, hpw, hb1⟩; have HPm := hid hpm; have HPw := hid hpw; have B1 := hid hb1; have HPh := hid hph; obtain ⟨A0, c0, e0, _⟩ := hph; obtain ⟨n, hn⟩ : ∃ n, l.length = n := ⟨_, rfl⟩; rw [hn] at e0; subst e0; have HN := hid hn; clear hpm hpw hb1 hn)
  have HST : Hid (C1S w w1 B db mb fs z (sizeF fs : Int) u K (.slice A0 n c0) l 0) := ⟨by rw [List.take_zero, show fs.map (mF [] K) = fs by rw [show mF [] K = id from rfl, List.map_id]]; exact HD.out.below B1.out, HPh.out, Chg.of_below _ B1.out⟩
  have hnb : Hid (n ≤ 1000000) := by
    have h1 := HPm.out.length_eq
    rw [allP_len, HN.out] at h1
    have := HQ.out
    unfold Hid
    omega
  clear HPh
  go_loopw [1, 12] (fun vk vi wr => ∃ k : Nat, vi = .int .i64 (k : Int) ∧ k ≤ n ∧ vk = .int .i64 (kpl (l.take k) K) ∧ Hid (C1S w wr B db mb fs z (sizeF fs : Int) u K (.slice A0 n c0) l k)) (fun _ vi _ => n - (intOf vi).toNat)
  case atStart => exact ⟨0, rfl, Nat.zero_le _, rfl, HST⟩
  case round =>
    obtain ⟨k, rfl, hk, rfl, HC⟩ := hrel
    by_cases hkn : k < n
    · have hkb : k < 1000001 := by have := hnb.out; omega
      have hkl : k < l.length := by rw [HN.out]; exact hkn
      obtain ⟨A2, f, C2, ef, hp⟩ := pc_mem (HPm.out.mem_iff.1 (List.getElem_mem hkl))
      obtain ⟨A3, c3, e3, hh⟩ := HC.out.ph
      obtain ⟨g, e4, hgB, x0, x1, x2⟩ := hh k hkl
      rw [hp] at x0
      have e5 : A0 = some ⟨g, 0, none⟩ := by injection e3 with e6 _ _; rw [e6, e4]
      subst e5
      have hF := HC.out.dk.fl (mF (l.take k) K f) (List.mem_map_of_mem (by rw [ef]; simp))
      obtain ⟨M, hM⟩ : ∃ M, (mF (l.take k) K f).m = M := ⟨_, rfl⟩
      obtain ⟨S, hS⟩ : ∃ S, l[k].2.2 = S := ⟨_, rfl⟩
      obtain ⟨KK, hKK⟩ : ∃ KK, kpl (l.take k) K = KK := ⟨_, rfl⟩
      have hcell : wr.cell? ⟨f.b, 1, none⟩ = some (.int .i64 (M : Int)) := by rw [← hM]; exact hF.blk.cell 1
      have hfr : wr.frozen? ⟨f.b, 1, none⟩ = false := hF.blk.free 1
      rw [hS] at x2
      have hrng := kpl_range (l.take k) K HK.out.1 HK.out.2
      rw [hKK] at hrng
      have hmm := kp_eq KK S
      obtain ⟨mn, hmn⟩ : ∃ mn, min KK (S : Int) = mn := ⟨_, rfl⟩
      rw [hmn] at hmm
      have hkS := kp_le KK S
      obtain ⟨P, hP⟩ : ∃ P, kp KK S = P := ⟨_, rfl⟩
      rw [hP] at hmm hkS
      have hMS : M + S ≤ 16777216 := by
        have hfin : f ∈ fs := by rw [ef]; simp
        have h1 := m_bound HPm.out HD.out.ap hfin (HOk.out f hfin) K hkl hp
        rw [hM, hS] at h1
        have h2 := sizeF_le hfin
        have h3 := HZ.out
        omega
      have hw1 : IntKind.i64.wrap ((M : Int) + (P : Int)) = ((M + P : Nat) : Int) := by rw [IntKind.wrap_i64]; omega
      have hw2 : IntKind.i64.wrap (KK - (P : Int)) = KK - (P : Int) := by rw [IntKind.wrap_i64]; omega
      have HE := hid hp
      have HEf := hid ef
      have HM2 := hid hM
      have HS2 := hid hS
      have HKK := hid hKK
      have HP2 := hid hP
      have hflt := hF.blk.lt
      obtain ⟨x0b, hx0b⟩ : ∃ q : Int, (l[k].2.1 : Int) = q := ⟨_, rfl⟩
      rw [hx0b] at x1
      rw [hKK]
      have HKL := hid hkl
      clear ef hp e3 hh e4 hF hM hS hKK hP hrng hMS hkS hx0b
      go_upto_region 4 with (fail)
      obtain ⟨nb, hnbk⟩ : ∃ nb, wr.heap.size = nb := ⟨_, rfl⟩
      refine wp_ltc (fun W => Hid (C1S w W B db mb fs z (sizeF fs : Int) u K (.slice (some ⟨g, 0, none⟩) n c0) l k ∧ Blk W wr.heap.size 117 #[.pointer (some ⟨f.b, 0, none⟩), .int .i64 x0b, .int .i64 (S : Int)])) ⟨HC.out.below (below_new wr _), Blk.new wr 117 _⟩ (fun W HX => ?_)
      rw [hnbk] at HX ⊢
      have n0 : W.cell? ⟨nb, 0, none⟩ = some (.pointer (some ⟨f.b, 0, none⟩)) := HX.out.2.cell 0
      have hF := HX.out.1.dk.fl (mF (l.take k) K f) (List.mem_map_of_mem (by rw [HEf.out]; simp))
      have n1 : W.cell? ⟨f.b, 1, none⟩ = some (.int .i64 (M : Int)) := by rw [← HM2.out]; exact hF.blk.cell 1
      have n2 : W.frozen? ⟨f.b, 1, none⟩ = false := hF.blk.free 1
      clear hnbk hcell hfr x0 x1 x2 hF HC hflt
      go_wp2
      go_roundw
      case rel =>
        refine ⟨k + 1, by go_num, by omega, ?_, HX.out.1.step HLT.out HD.out.ap HKL.out HEf.out HE.out (by rw [HM2.out, HS2.out, HKK.out, HP2.out])⟩
        rw [kpl_step l K HKL.out, HKK.out, HS2.out, HP2.out]
      case measure => simp [intOf]; omega
    · obtain rfl : k = n := by omega
      go_upto_region 7 with (fail)
      have etk : l.take k = l := List.take_of_length_le (by rw [HN.out]; exact Nat.le_refl _)
      obtain ⟨d1, d2, d3⟩ := HC.out
      rw [etk] at d1
      obtain ⟨fs2, hfs2⟩ : ∃ fs2, fs.map (mF l K) = fs2 := ⟨_, rfl⟩
      have hmd : ∀ f ∈ fs2, f.m ≤ f.d.length := fun f hf => by
        rw [← hfs2] at hf
        obtain ⟨g, hg, rfl⟩ := List.mem_map.1 hf
        exact mF_bound HPm.out HD.out.ap hg (HOk.out g hg) K
      have hsz2 : sizeF fs2 = sizeF fs := by rw [← hfs2]; unfold sizeF; rw [List.map_map]; rfl
      have hft : ∀ k, Ft db mb fs2 k → Ft db mb fs k := fun k q => by rw [← hfs2] at q; exact ft_map (mF l K) (fun _ _ r => r) q
      rw [hfs2] at d1
      have D1 := hid d1
      have C1 := hid d3
      have HMD := hid hmd
      have HSZ := hid hsz2
      have HFT := hid hft
      have HFS := hid hfs2
      have HNS : Hid (∀ f ∈ fs2, f.n.size ≤ maxLen) := fun f hf => by
        rw [← hfs2] at hf
        obtain ⟨g, hg, rfl⟩ := List.mem_map.1 hf
        exact hns g hg
      have m0 : wr.cell? ⟨db, 0, none⟩ = some (.map (some mb)) := d1.blk.cell 0
      clear d1 d2 d3 etk hmd hsz2 hft HC
      obtain ⟨W2, hW2⟩ : ∃ W2, W2 = wr := ⟨_, rfl⟩
      subst hW2
      go_wp2_with (first | (at_range; refine wpList_range_own _ rfl _ 88 rfl 9 99 strK Tryz.underlying88 Rp mb _ _ rfl D1.out.map ?_; intro w0 hrg0 hg0 hs0) | go_in)
      go_frame
      have HST2 : Hid (C2S W2 w0 B db mb fs2 z (sizeF fs : Int) u (Maps.has (mapD fs2)) (Maps.size (mapD fs2))) := ⟨by rw [kp_start]; exact hrg0, fun f hf => by
        rw [if_pos (show Maps.has (mapD fs2) f.key = true from (has_iff fs2 f.n).2 ⟨f, hf, rfl⟩)]
        exact (D1.out.fl f hf).keep fun k q => hg0.block k (D1.out.lts hf q) (by simp), (hg0.block db D1.out.blk.lt (by simp)).trans D1.out.blk, Chg.of_grown hg0 fun k e => by cases e⟩
      clear hrg0 hg0 hs0 m0
      go_loopw [7] (fun _ wr => ∃ (left : Lit → Bool) (cnt : Nat), Hid (C2S W2 wr B db mb fs2 z (sizeF fs : Int) u left cnt)) (fun _ wr => wr.rangeLeft mb W2.heap.size)
      case atStart => exact ⟨_, _, HST2⟩
      case round =>
        obtain ⟨left, cnt, HR⟩ := hrel
        obtain ⟨wo, hwo⟩ : ∃ x, x = wr := ⟨_, rfl⟩
        subst hwo
        go_wp2_with (at_next; refine wpList_next_ranges _ rfl _ rfl 9 strK Rp Go.Proofs.encStr ptrB (fun key kl hk => by obtain ⟨x, hx, _⟩ := Maps.keyOf_str Tryz.underlying9 hk; exact ⟨x, hx⟩) (fun v y hv => Rp_inv hv) mb W2.heap.size fs2.length (mapD (kpF left fs2)) left cnt rfl HR.out.rg ?_ ?_)
        · intro hc0 hl0
          have hfin := HR.out.fin D1.out hl0
          have HFin := hid hfin
          have hsz3 := cut_size fs2
          have HT := hid (total_size hfin (by show sizeF _ ≤ _; have := HZ.out; have := HSZ.out; omega))
          clear hc0 hfin hsz3
          go_wp2_with (go_at_call 64; refine HT.out.mono ?_; rintro e w3 ⟨rfl, hb3⟩; have B3 := hid hb3; have c2 : w3.cell? ⟨db, 2, none⟩ = some (.int .i64 (sizeF fs : Int)) := (HFin.out.below hb3).blk.cell 2; have f2 : w3.frozen? ⟨db, 2, none⟩ = false := (HFin.out.below hb3).blk.free 2; clear hb3)
          go_end0
          have hE := (HFin.out.below B3.out).own (z' := z) (s' := ((sizeF ((fs2.filter keepB).map cutF) : Nat) : Int)) (u' := u) 2 (.int .i64 ((sizeF ((fs2.filter keepB).map cutF) : Nat) : Int)) rfl
          refine ⟨rfl, l, HPm.out, HPw.out, ?_, ?_⟩
          · rw [HFS.out]; exact hE.1
          · exact ((C1.out.trans (HR.out.ch.mono fun k q => HFT.out k q) fun k q => .inl q).trans (Chg.of_below (Ft db mb fs) B3.out) fun k q => .inl q).trans hE.2 fun k q => .inl (.inl q)
        · intro x cc kl y1 y2 w1 cnt1 hkey hlk hv hat hrg1 hlt hg1 hs1 hen
          obtain ⟨A1, f, C1', e1, e2, e3, e4⟩ := next_file (y := (y1, y2)) (kp_rise D1.out.ri left) hkey hv hat
          subst e4
          have hen2 : (Instr.entry (.pointer (some ⟨W2.heap.size, 0, none⟩))).run Tryz.prog w1 = .ok (.tuple #[.string f.n, .pointer (some ⟨f.b, 0, none⟩)]) w1 := by rw [e2]; exact hen
          clear hen
          have hff : f ∈ fs2 := (List.mem_filter.1 (by rw [show fs2.filter (fun f => left f.key || keepB f) = A1 ++ f :: C1' from e1]; simp : f ∈ fs2.filter (fun f => left f.key || keepB f))).1
          rw [e3] at hlk hrg1
          have hFw : FlAt w1 B f := by
            have := HR.out.fl f hff
            rw [if_pos hlk] at this
            refine this.keep fun k q => hg1.block k (this.lt q).2 fun e => ?_
            have := D1.out.lts hff q
            have := Option.some.inj e
            omega
          have HFw := hid hFw
          have hml := HMD.out f hff
          obtain ⟨Ad, qd, ed, qd1, _, _, qd2⟩ := hFw.row.sla
          obtain ⟨nd, hnd⟩ : ∃ nd, f.d.length = nd := ⟨_, rfl⟩
          rw [hnd] at ed hml qd1
          obtain ⟨mm, hmm⟩ : ∃ mm, f.m = mm := ⟨_, rfl⟩
          have hcut : cutS f = .slice Ad mm qd := by unfold cutS; rw [ed, hmm]
          have HCut := hid hcut
          have HLTm := hid (show w1.rangeLeft mb W2.heap.size < wo.rangeLeft mb W2.heap.size by rw [hrg1.left_eq, HR.out.rg.left_eq]; exact hlt)
          have HRg := hid hrg1
          have HG1 := hid hg1
          have HFF := hid hff
          have HLK := hid hlk
          have HE1 := hid e1
          have HKeq := hid e3
          have md0 : w1.cell? ⟨db, 0, none⟩ = some (.map (some mb)) := (World.cell?_of_block (hg1.block db HR.out.blk.lt fun e => by have := Option.some.inj e; have := D1.out.blk.lt; omega)).trans (HR.out.blk.cell 0)
          have HMM := hid hmm
          have HND := hid hnd
          have HED := hid ed
          have m1 : w1.cell? ⟨f.b, 1, none⟩ = some (.int .i64 (mm : Int)) := by rw [← hmm]; exact hFw.blk.cell 1
          have m3 : w1.cell? ⟨f.b, 3, none⟩ = some (.bool f.h) := hFw.blk.cell 3
          have m00 : w1.cell? ⟨f.b, 0, none⟩ = some (.slice Ad nd qd) := by rw [← ed]; exact hFw.blk.cell 0
          have hle : mm ≤ qd := by rw [hmm] at hml; omega
          clear hkey hlk hv hat hrg1 hlt hg1 hs1 e1 e2 e3 hff hFw hcut hmm hnd ed hml qd1
          have mixed : Tryz.prog.follows .mixedOrders = true := by kernel_rfl
          have late : Tryz.prog.follows .lateStores = true := by kernel_rfl
          have HLTm2 := HLTm
          rcases Nat.eq_zero_or_pos mm with hm0 | hm0
          · obtain ⟨hh, hhe⟩ : ∃ hh, f.h = hh := ⟨_, rfl⟩
            rw [hhe] at m3
            have HHE := hid hhe
            clear hhe
            have HM0 := hid hm0
            clear hm0
            have m1z : w1.cell? ⟨f.b, 1, none⟩ = some (.int .i64 0) := by rw [m1, HM0.out]; rfl
            have HKY : Hid (keyOf Tryz.prog 9 (.string f.n) = some f.key) := hid (keyS f.n (HNS.out f HFF.out))
            cases hh
            · skip
              go_upto_region 12 with (at_delete; refine wpList_delete_ranges _ rfl (.tmp 60) (.tmp 61) 88 9 rfl 99 strK Tryz.underlying88 Rp mb W2.heap.size fs2.length _ _ cnt1 rfl HRg.out (.string f.n) f.key rfl HKY.out ?_; intro w5 cnt2 hrg2 hle2 hturn; rw [Maps.strike_twice] at hrg2; have HR2 := hid hrg2; have HT2 := hid hturn.grown; have HL2 := hid hle2; clear hrg2 hle2 hturn)
              have HF5 : Hid (FlAt w5 B f) := HFw.out.keep fun k q => HT2.out.block k (HFw.out.lt q).2 fun e => (D1.out.db_ne HFF.out q).2 (Option.some.inj e)
              have n1 : w5.cell? ⟨f.b, 1, none⟩ = some (.int .i64 0) := by have := HF5.out.blk.cell 1; rw [HMM.out, HM0.out] at this; exact this
              have n00 : w5.cell? ⟨f.b, 0, none⟩ = some (.slice Ad nd qd) := by have := HF5.out.blk.cell 0; rw [HED.out] at this; exact this
              have hzz : mm = 0 := HM0.out
              have HX : Hid (C2S W2 ((w5.setCell ⟨f.b, 0, none⟩ (.slice Ad 0 qd)).setCell ⟨f.b, 2, none⟩ (.slice none 0 0)) B db mb fs2 z (sizeF fs : Int) u (fun z => left z && !z.sameKey f.key) cnt2) := C2S.step (w2 := w5) D1.out HR.out HFF.out HLK.out (HMD.out f HFF.out) (by
                have hd := HR2.out
                have hri := kp_rise D1.out.ri left
                rw [HE1.out] at hri hd
                rw [kp_go D1.out.ri HE1.out (keep_no (by rw [HMM.out, HM0.out]) HHE.out)]
                have e7 : (mapD (A1 ++ f :: C1')).del f.key = mapD (A1 ++ C1') := del_some hri
                rw [e7] at hd
                exact hd) ((Chg.of_grown (S := fun k => k = W2.heap.size ∨ k = mb) HG1.out fun k e => .inl (.inl (Option.some.inj e).symm)).trans (Chg.of_grown (S := fun k => k = W2.heap.size ∨ k = mb) HT2.out fun k e => .inl (.inr (Option.some.inj e).symm)) fun k q => .inl q) ⟨w5, Below.refl _ _, by rw [HCut.out, hzz]⟩
              clear hzz
              have m2 : w5.cell? ⟨f.b, 2, none⟩ = some f.lv := HF5.out.blk.cell 2
              have f0 : w5.frozen? ⟨f.b, 0, none⟩ = false := HF5.out.blk.free 0
              have f2 : w5.frozen? ⟨f.b, 2, none⟩ = false := HF5.out.blk.free 2
              go_region
              all_goals (
                go_wp2
                go_roundw
                case rel => exact ⟨_, _, HX.out.drew⟩
                case measure =>
                  have e1 := HX.out.drew.rg.left_eq
                  have := HLTm.out
                  rw [HRg.out.left_eq] at this
                  rw [e1]
                  have := HL2.out
                  omega)
            · skip
              have HX : Hid (C2S W2 ((w1.setCell ⟨f.b, 0, none⟩ (.slice Ad 0 qd)).setCell ⟨f.b, 2, none⟩ (.slice none 0 0)) B db mb fs2 z (sizeF fs : Int) u (fun z => left z && !z.sameKey f.key) cnt1) := C2S.step (w2 := w1) D1.out HR.out HFF.out HLK.out (HMD.out f HFF.out) (by rw [kp_stay HFF.out D1.out.ri (keep_h HHE.out)]; exact HRg.out) (Chg.of_grown HG1.out fun k e => .inl (.inl (Option.some.inj e).symm)) ⟨w1, Below.refl _ _, by rw [HCut.out, HM0.out]⟩
              go_upto_region 12 with (fail)
              have m2 : w1.cell? ⟨f.b, 2, none⟩ = some f.lv := HFw.out.blk.cell 2
              have f0 : w1.frozen? ⟨f.b, 0, none⟩ = false := HFw.out.blk.free 0
              have f2 : w1.frozen? ⟨f.b, 2, none⟩ = false := HFw.out.blk.free 2
              go_region
              all_goals (
                go_wp2
                go_roundw
                case rel => exact ⟨_, _, HX.out.drew⟩
                case measure =>
                  have e1 := HX.out.drew.rg.left_eq
                  have := HLTm.out
                  rw [HRg.out.left_eq] at this
                  rw [e1]
                  omega)
          · have hb0 : ((mm : Int) == 0) = false := by rw [beq_eq_false_iff_ne]; omega
            have HX : Hid (C2S W2 ((w1.setCell ⟨f.b, 0, none⟩ (.slice Ad mm qd)).setCell ⟨f.b, 2, none⟩ (.slice none 0 0)) B db mb fs2 z (sizeF fs : Int) u (fun z => left z && !z.sameKey f.key) cnt1) := C2S.step (w2 := w1) D1.out HR.out HFF.out HLK.out (HMD.out f HFF.out) (by rw [kp_stay HFF.out D1.out.ri (keep_m (by rw [HMM.out]; omega))]; exact HRg.out) (Chg.of_grown HG1.out fun k e => .inl (.inl (Option.some.inj e).symm)) ⟨w1, Below.refl _ _, by rw [HCut.out]⟩
            go_upto_region 12 with (fail)
            have m2 : w1.cell? ⟨f.b, 2, none⟩ = some f.lv := HFw.out.blk.cell 2
            have f0 : w1.frozen? ⟨f.b, 0, none⟩ = false := HFw.out.blk.free 0
            have f2 : w1.frozen? ⟨f.b, 2, none⟩ = false := HFw.out.blk.free 2
            go_region
            all_goals (
              go_wp2
              go_roundw
              case rel => exact ⟨_, _, HX.out.drew⟩
              case measure =>
                have e1 := HX.out.drew.rg.left_eq
                have := HLTm.out
                rw [HRg.out.left_eq] at this
                rw [e1]
                omega)
end Go.Proofs.YtofkfafdodhmdaaGreatDoor

/- What calls do to a disk by names alone; what stays true of it. Conditions: none. -/
namespace Go.Proofs.YtofkfafdodhmdaaGreatDoor
open Go.RowKit

theorem partV (x : ByteArray) : ∀ {vs : Vs}, RisV vs → (∃ A f C, vs = A ++ f :: C ∧ f.n = x) ∨ (∃ A C, vs = A ++ C ∧ (∀ a ∈ A, bef a.n x = true) ∧ ∀ c ∈ C, bef x c.n = true)
  | [], _ => .inr ⟨[], [], rfl, fun _ h => (by cases h), fun _ h => (by cases h)⟩
  | f :: t, h => by
    obtain ⟨h1, h2⟩ := List.pairwise_cons.1 h
    by_cases q : f.n = x
    · exact .inl ⟨[], f, t, rfl, q⟩
    · rcases bef_tot q with q | q
      · rcases partV x h2 with ⟨A, g, C, rfl, e⟩ | ⟨A, C, rfl, hA, hC⟩
        · exact .inl ⟨f :: A, g, C, rfl, e⟩
        · refine .inr ⟨f :: A, C, rfl, fun a ha => ?_, hC⟩
          rcases List.mem_cons.1 ha with rfl | ha
          · exact q
          · exact hA a ha
      · refine .inr ⟨[], f :: t, rfl, (fun _ h => (by cases h)), fun c hc => ?_⟩
        rcases List.mem_cons.1 hc with rfl | hc
        · exact q
        · exact bef_trans q (h1 c hc)
theorem midV {A C : Vs} {f : Fv} (h : RisV (A ++ f :: C)) : (∀ a ∈ A, bef a.n f.n = true) ∧ (∀ c ∈ C, bef f.n c.n = true) ∧ RisV (A ++ C) := by
  obtain ⟨h1, h2, h3⟩ := List.pairwise_append.1 h
  obtain ⟨h4, h5⟩ := List.pairwise_cons.1 h2
  exact ⟨fun a ha => h3 a ha f List.mem_cons_self, h4, List.pairwise_append.2 ⟨h1, h5, fun a ha c hc => h3 a ha c (List.mem_cons_of_mem _ hc)⟩⟩
theorem putVr {A C : Vs} {f : Fv} (h : RisV (A ++ C)) (hA : ∀ a ∈ A, bef a.n f.n = true) (hC : ∀ c ∈ C, bef f.n c.n = true) : RisV (A ++ f :: C) := by
  obtain ⟨h1, h2, h3⟩ := List.pairwise_append.1 h
  refine List.pairwise_append.2 ⟨h1, List.pairwise_cons.2 ⟨hC, h2⟩, fun a ha c hc => ?_⟩
  rcases List.mem_cons.1 hc with rfl | hc
  · exact hA a ha
  · exact h3 a ha c hc
theorem upd_mid {A C : Vs} {f : Fv} (h : RisV (A ++ f :: C)) (F : Fv → Fv) : updV f.n F (A ++ f :: C) = A ++ F f :: C := by
  obtain ⟨h1, h2, _⟩ := midV h
  unfold updV
  have a : ∀ l : Vs, (∀ g ∈ l, g.n ≠ f.n) → l.map (fun g => if g.n = f.n then F g else g) = l := fun l hl => by
    conv => rhs; rw [← List.map_id l]
    exact List.map_congr_left fun g hg => if_neg (hl g hg)
  rw [List.map_append, List.map_cons, a A fun g hg => bef_ne (h1 g hg), a C fun g hg e => bef_ne (h2 g hg) e.symm, if_pos rfl]
theorem drop_mid {A C : Vs} {f : Fv} (h : RisV (A ++ f :: C)) : dropV f.n (A ++ f :: C) = A ++ C := by
  obtain ⟨h1, h2, _⟩ := midV h
  unfold dropV
  have hA : A.filter (fun g => decide (g.n ≠ f.n)) = A := List.filter_eq_self.2 fun g hg => decide_eq_true (bef_ne (h1 g hg))
  have hC : C.filter (fun g => decide (g.n ≠ f.n)) = C := List.filter_eq_self.2 fun g hg => decide_eq_true fun e => bef_ne (h2 g hg) e.symm
  rw [List.filter_append, List.filter_cons, if_neg (by simp), hA, hC]
theorem drop_out {A C : Vs} {x : ByteArray} (hA : ∀ a ∈ A, bef a.n x = true) (hC : ∀ c ∈ C, bef x c.n = true) : dropV x (A ++ C) = A ++ C := by
  unfold dropV
  rw [List.filter_eq_self]
  intro g hg
  rw [decide_eq_true_iff]
  rcases List.mem_append.1 hg with q | q
  · exact bef_ne (hA g q)
  · exact fun e => bef_ne (hC g q) e.symm
theorem get_mid {A C : Vs} {f : Fv} (h : RisV (A ++ f :: C)) : getV f.n (A ++ f :: C) = some f := by
  obtain ⟨h1, _, _⟩ := midV h
  unfold getV
  rw [List.find?_append, List.find?_cons]
  have e1 : A.find? (fun g => decide (g.n = f.n)) = none := by
    rw [List.find?_eq_none]
    intro g hg
    rw [decide_eq_true_iff]
    exact bef_ne (h1 g hg)
  have e2 : decide (f.n = f.n) = true := decide_eq_true rfl
  rw [e1, e2]
  rfl
theorem get_out {A C : Vs} {x : ByteArray} (hA : ∀ a ∈ A, bef a.n x = true) (hC : ∀ c ∈ C, bef x c.n = true) : getV x (A ++ C) = none := by
  unfold getV
  rw [List.find?_eq_none]
  intro g hg
  rw [decide_eq_true_iff]
  rcases List.mem_append.1 hg with q | q
  · exact bef_ne (hA g q)
  · exact fun e => bef_ne (hC g q) e.symm
theorem get_mem {vs : Vs} {x : ByteArray} {v : Fv} (h : getV x vs = some v) : v ∈ vs ∧ v.n = x := by
  unfold getV at h
  have h2 := List.find?_some h
  exact ⟨List.mem_of_find?_eq_some h, of_decide_eq_true h2⟩
theorem drop_rise {vs : Vs} (h : RisV vs) (x : ByteArray) : RisV (dropV x vs) := h.filter _
theorem drop_sub {vs : Vs} {x : ByteArray} {g : Fv} (h : g ∈ dropV x vs) : g ∈ vs ∧ g.n ≠ x := by
  unfold dropV at h
  rw [List.mem_filter, decide_eq_true_iff] at h
  exact h
/-- A place for a name that isn't there. -/
theorem ins_at {vs : Vs} (h : RisV vs) (v : Fv) (hx : ∀ g ∈ vs, g.n ≠ v.n) : ∃ A C, vs = A ++ C ∧ insV v vs = A ++ v :: C ∧ RisV (A ++ v :: C) := by
  rcases partV v.n h with ⟨A, f, C, rfl, e⟩ | ⟨A, C, rfl, hA, hC⟩
  · exact absurd e (hx f (by simp))
  · exact ⟨A, C, rfl, ins_split hA hC, putVr h hA hC⟩
theorem size_mid (A C : Vs) (f : Fv) : sizeV (A ++ f :: C) = sizeV (A ++ C) + f.d.length := by unfold sizeV; simp; omega
theorem size_drop (vs : Vs) (x : ByteArray) : sizeV (dropV x vs) ≤ sizeV vs := by
  unfold dropV sizeV
  induction vs with
  | nil => exact Nat.le_refl _
  | cons a t ih =>
    rw [List.filter_cons]
    by_cases q : decide (a.n ≠ x) = true
    · rw [if_pos q]; simp only [List.map_cons, List.sum_cons]; omega
    · rw [if_neg q]; simp only [List.map_cons, List.sum_cons]; omega
def runsV (vs : Vs) : Nat := (vs.map fun f => f.l.length).sum
theorem runs_mid (A C : Vs) (f : Fv) : runsV (A ++ f :: C) = runsV (A ++ C) + f.l.length := by unfold runsV; simp; omega
theorem runs_drop (vs : Vs) (x : ByteArray) : runsV (dropV x vs) ≤ runsV vs := by
  unfold dropV runsV
  induction vs with
  | nil => exact Nat.le_refl _
  | cons a t ih =>
    rw [List.filter_cons]
    by_cases q : decide (a.n ≠ x) = true
    · rw [if_pos q]; simp only [List.map_cons, List.sum_cons]; omega
    · rw [if_neg q]; simp only [List.map_cons, List.sum_cons]; omega
theorem view_runs (fs : List Fl) : runsV (viewF fs) = sumQ (fun f => f.l.length) fs := by unfold runsV sumQ viewF; rw [List.map_map]; rfl

/-- What stays true of a file, so many bytes having been written. -/
structure FOk (u : Nat) (f : Fv) : Prop where
  nm : rightB f.n = true
  ok : f.m + sumR f.l = f.d.length
  rb : ∀ r ∈ f.l, r.1 + r.2 ≤ u
/-- What stays true of a disk behind i calls. -/
structure GoodV (vs : Vs) (z : Int) (u i : Nat) : Prop where
  fl : ∀ f ∈ vs, FOk u f
  len : vs.length ≤ i
  rn : runsV vs ≤ i
  ub : u ≤ i * 16777216
  sz : (sizeV vs : Int) ≤ z
  ri : RisV vs
theorem FOk.mono {u u' : Nat} {f : Fv} (h : FOk u f) (hu : u ≤ u') : FOk u' f := ⟨h.nm, h.ok, fun r hr => Nat.le_trans (h.rb r hr) hu⟩
theorem ub_step {u i : Nat} (h : u ≤ i * 16777216) : u ≤ (i + 1) * 16777216 := Nat.le_trans h (Nat.mul_le_mul_right _ (Nat.le_succ i))
theorem GoodV.more {vs : Vs} {z : Int} {u i : Nat} (h : GoodV vs z u i) : GoodV vs z u (i + 1) := ⟨h.fl, Nat.le_succ_of_le h.len, Nat.le_succ_of_le h.rn, ub_step h.ub, h.sz, h.ri⟩
theorem good_nil (z : Int) (hz : 0 ≤ z) : GoodV [] z 0 0 := ⟨(fun f hf => by cases hf), Nat.le_refl _, Nat.le_refl _, Nat.zero_le _, hz, List.Pairwise.nil⟩
theorem sumR_app (l m : List (Nat × Nat)) : sumR (l ++ m) = sumR l + sumR m := by unfold sumR; simp
theorem addR_sum (l : List (Nat × Nat)) (u n : Nat) : sumR (addR l u n) = sumR l + n := by
  rcases List.eq_nil_or_concat l with rfl | ⟨r, ⟨a, s⟩, rfl⟩
  · show n + 0 = 0 + n
    omega
  · rw [List.concat_eq_append, addR_snoc]
    split
    · rw [sumR_app, sumR_app]; show _ + (s + n + 0) = _ + (s + 0) + n; omega
    · rw [sumR_app, sumR_app]; show _ + (n + 0) = _ + n; omega
theorem addR_len (l : List (Nat × Nat)) (u n : Nat) : (addR l u n).length ≤ l.length + 1 := by
  rcases List.eq_nil_or_concat l with rfl | ⟨r, ⟨a, s⟩, rfl⟩
  · exact Nat.le_refl _
  · rw [List.concat_eq_append, addR_snoc]
    split <;> simp
theorem addR_rb (l : List (Nat × Nat)) (u n : Nat) (h : ∀ r ∈ l, r.1 + r.2 ≤ u) : ∀ r ∈ addR l u n, r.1 + r.2 ≤ u + n := by
  rcases List.eq_nil_or_concat l with rfl | ⟨t, ⟨a, s⟩, rfl⟩
  · intro r hr
    obtain rfl := List.mem_singleton.1 (show r ∈ [(u, n)] from hr)
    exact Nat.le_refl _
  · rw [List.concat_eq_append] at h ⊢
    rw [addR_snoc]
    have h2 := h (a, s) (by simp)
    intro r hr
    split at hr
    · rcases List.mem_append.1 hr with q | q
      · have := h r (List.mem_append_left _ q); omega
      · obtain rfl := List.mem_singleton.1 q
        have : a + s ≤ u := h2
        show a + (s + n) ≤ u + n
        omega
    · rcases List.mem_append.1 hr with q | q
      · have := h r q; omega
      · obtain rfl := List.mem_singleton.1 q
        exact Nat.le_refl _
theorem FOk.add {u : Nat} {f : Fv} (h : FOk u f) (b : List UInt8) : FOk (u + b.length) (f.add b u) := by
  unfold Fv.add
  split
  · exact h.mono (Nat.le_add_right _ _)
  · refine ⟨h.nm, ?_, addR_rb f.l u b.length h.rb⟩
    show f.m + sumR (addR f.l u b.length) = (f.d ++ b).length
    rw [addR_sum, List.length_append]
    have := h.ok
    omega
theorem add_l (f : Fv) (b : List UInt8) (u : Nat) : (f.add b u).l.length ≤ f.l.length + 1 := by
  unfold Fv.add
  split
  · exact Nat.le_succ _
  · exact addR_len _ _ _
theorem good_write {vs : Vs} {z : Int} {u i : Nat} (h : GoodV vs z u i) (x : ByteArray) (hx : rightB x = true) (b : List UInt8) (hb : (sizeV vs : Int) + (b.length : Int) ≤ z) (hz : z ≤ 16777216) : GoodV (wrV x b u vs) z (u + b.length) (i + 1) := by
  have hub : u + b.length ≤ (i + 1) * 16777216 := by
    have h1 := h.ub
    have h2 : (i + 1) * 16777216 = i * 16777216 + 16777216 := Nat.succ_mul _ _
    omega
  unfold wrV
  rcases partV x h.ri with ⟨A, f, C, rfl, rfl⟩ | ⟨A, C, rfl, hA, hC⟩
  · rw [get_mid h.ri]
    show GoodV (updV f.n (Fv.add b u) (A ++ f :: C)) z _ _
    rw [upd_mid h.ri]
    obtain ⟨h1, h2, h3⟩ := midV h.ri
    refine ⟨fun g hg => ?_, by have := h.len; simp at this ⊢; omega, ?_, hub, ?_, putVr h3 (by rw [add_n]; exact h1) (by rw [add_n]; exact h2)⟩
    · rcases List.mem_append.1 hg with q | q
      · exact (h.fl g (List.mem_append_left _ q)).mono (Nat.le_add_right _ _)
      · rcases List.mem_cons.1 q with q | q
        · rw [q]; exact (h.fl f (by simp)).add b
        · exact (h.fl g (List.mem_append_right _ (List.mem_cons_of_mem _ q))).mono (Nat.le_add_right _ _)
    · have := h.rn
      rw [runs_mid] at this ⊢
      have := add_l f b u
      omega
    · rw [size_mid] at hb
      rw [size_mid, add_d, List.length_append]
      omega
  · rw [get_out hA hC]
    show GoodV (insV ((newV x).add b u) (A ++ C)) z _ _
    rw [ins_split (by rw [add_n]; exact hA) (by rw [add_n]; exact hC)]
    refine ⟨fun g hg => ?_, by have := h.len; simp at this ⊢; omega, ?_, hub, ?_, putVr h.ri (by rw [add_n]; exact hA) (by rw [add_n]; exact hC)⟩
    · have h0 : FOk u (newV x) := ⟨hx, rfl, fun r hr => by cases hr⟩
      rcases List.mem_append.1 hg with q | q
      · exact (h.fl g (List.mem_append_left _ q)).mono (Nat.le_add_right _ _)
      · rcases List.mem_cons.1 q with q | q
        · rw [q]; exact h0.add b
        · exact (h.fl g (List.mem_append_right _ q)).mono (Nat.le_add_right _ _)
    · have := h.rn
      rw [runs_mid]
      have : ((newV x).add b u).l.length ≤ 0 + 1 := add_l (newV x) b u
      omega
    · rw [size_mid, add_d]
      show ((sizeV (A ++ C) + ([] ++ b).length : Nat) : Int) ≤ z
      rw [List.nil_append]
      omega
theorem good_sync {vs : Vs} {z : Int} {u i : Nat} (h : GoodV vs z u i) (x : ByteArray) : GoodV (updV x Fv.sync vs) z u (i + 1) := by
  have hm : ∀ g ∈ updV x Fv.sync vs, ∃ f ∈ vs, g = f ∨ g = f.sync := fun g hg => by
    obtain ⟨f, hf, e⟩ := List.mem_map.1 hg
    by_cases q : f.n = x
    · rw [if_pos q] at e; exact ⟨f, hf, .inr e.symm⟩
    · rw [if_neg q] at e; exact ⟨f, hf, .inl e.symm⟩
  refine ⟨fun g hg => ?_, by unfold updV; rw [List.length_map]; exact Nat.le_succ_of_le h.len, ?_, ub_step h.ub, ?_, ?_⟩
  · obtain ⟨f, hf, rfl | rfl⟩ := hm g hg
    · exact h.fl _ hf
    · exact ⟨(h.fl f hf).nm, by show f.d.length + 0 = f.d.length; omega, fun r hr => by cases hr⟩
  · have : runsV (updV x Fv.sync vs) ≤ runsV vs := by
      unfold updV runsV
      rw [List.map_map]
      clear h hm
      induction vs with
      | nil => exact Nat.le_refl _
      | cons a t ih =>
        simp only [List.map_cons, List.sum_cons]
        have : ((fun f => f.l.length) ∘ fun g => if g.n = x then g.sync else g) a ≤ a.l.length := by
          show (if a.n = x then a.sync else a).l.length ≤ _
          split
          · exact Nat.zero_le _
          · exact Nat.le_refl _
        omega
    have := h.rn
    omega
  · have : sizeV (updV x Fv.sync vs) = sizeV vs := by
      unfold updV sizeV
      rw [List.map_map]
      congr 1
      refine List.map_congr_left fun a _ => ?_
      show (if a.n = x then a.sync else a).d.length = _
      split <;> rfl
    rw [this]
    exact h.sz
  · unfold updV
    refine List.pairwise_map.2 (h.ri.imp fun {a b} q => ?_)
    have e : ∀ a : Fv, (if a.n = x then a.sync else a).n = a.n := fun a => by split <;> rfl
    rw [e, e]
    exact q
theorem good_drop {vs : Vs} {z : Int} {u i : Nat} (h : GoodV vs z u i) (x : ByteArray) : GoodV (dropV x vs) z u i :=
  ⟨fun g hg => h.fl g (drop_sub hg).1, Nat.le_trans (List.length_filter_le _ _) h.len, Nat.le_trans (runs_drop _ _) h.rn, h.ub, by have := size_drop vs x; have := h.sz; omega, drop_rise h.ri x⟩
theorem good_call {vs : Vs} {z : Int} {u i : Nat} (h : GoodV vs z u i) (x y : ByteArray) {v : Fv} (hv : getV x vs = some v) (hy : rightB y = true) : GoodV (insV (v.call y) (dropV y (dropV x vs))) z u (i + 1) := by
  obtain ⟨hm, hn⟩ := get_mem hv
  have hF := h.fl v hm
  have hd := good_drop (good_drop h x) y
  obtain ⟨A, C, e1, e2, e3⟩ := ins_at hd.ri (v.call y) fun g hg => (drop_sub hg).2
  rw [e2]
  have h1 : runsV (dropV y (dropV x vs)) + v.l.length ≤ runsV vs ∧ sizeV (dropV y (dropV x vs)) + v.d.length ≤ sizeV vs ∧ (dropV y (dropV x vs)).length + 1 ≤ vs.length := by
    rcases partV x h.ri with ⟨A1, f, C1, rfl, e⟩ | ⟨A1, C1, rfl, hA, hC⟩
    · subst e
      rw [get_mid h.ri] at hv
      cases hv
      rw [drop_mid h.ri]
      have a1 := runs_drop (A1 ++ C1) y
      have a2 := size_drop (A1 ++ C1) y
      have a3 : (dropV y (A1 ++ C1)).length ≤ (A1 ++ C1).length := List.length_filter_le _ _
      rw [runs_mid, size_mid]
      refine ⟨by omega, by omega, ?_⟩
      simp at a3 ⊢
      omega
    · rw [get_out hA hC] at hv
      cases hv
  rw [e1] at h1
  have hrn := h.rn
  have hsz := h.sz
  have hln := h.len
  refine ⟨fun g hg => ?_, by have := h1.2.2; simp at this ⊢; omega, by rw [runs_mid]; show _ + v.l.length ≤ _; omega, ub_step h.ub, by rw [size_mid]; show ((_ + v.d.length : Nat) : Int) ≤ z; omega, e3⟩
  rcases List.mem_append.1 hg with q | q
  · exact hd.fl g (by rw [e1]; exact List.mem_append_left _ q)
  · rcases List.mem_cons.1 q with q | q
    · rw [q]; exact ⟨hy, hF.ok, hF.rb⟩
    · exact hd.fl g (by rw [e1]; exact List.mem_append_right _ q)
theorem good_crash {fs : List Fl} {z : Int} {u i : Nat} (h : GoodV (viewF fs) z u i) {l : List Pc} (hpm : l.Perm (allP fs)) (hap : fs.Pairwise Fl.apart) (K : Int) : GoodV (viewF (((fs.map (mF l K)).filter keepB).map cutF)) z u (i + 1) := by
  have hlen : (((fs.map (mF l K)).filter keepB).map cutF).length ≤ fs.length := by
    rw [List.length_map]
    refine Nat.le_trans (List.length_filter_le _ _) ?_
    rw [List.length_map]
    exact Nat.le_refl _
  have hl : (viewF fs).length = fs.length := List.length_map _
  refine ⟨fun g hg => ?_, ?_, ?_, ub_step h.ub, ?_, ?_⟩
  · obtain ⟨g1, hg1, rfl⟩ := List.mem_map.1 hg
    obtain ⟨g2, hg2, rfl⟩ := List.mem_map.1 hg1
    obtain ⟨f, hf, rfl⟩ := List.mem_map.1 (List.mem_filter.1 hg2).1
    have hF := h.fl f.v (List.mem_map_of_mem hf)
    have hb := mF_bound hpm hap hf hF.ok K
    refine ⟨hF.nm, ?_, fun r hr => by cases hr⟩
    show (mF l K f).m + 0 = (f.d.take (mF l K f).m).length
    rw [List.length_take]
    omega
  · unfold viewF
    rw [List.length_map]
    have := h.len
    omega
  · have : runsV (viewF (((fs.map (mF l K)).filter keepB).map cutF)) = 0 := by
      unfold runsV viewF
      rw [List.map_map, List.map_map]
      induction (fs.map (mF l K)).filter keepB with
      | nil => rfl
      | cons a t ih => rw [List.map_cons, List.sum_cons, ih]; rfl
    omega
  · have h1 := cut_size (fs.map (mF l K))
    have h2 : sizeF (fs.map (mF l K)) = sizeF fs := by unfold sizeF; rw [List.map_map]; rfl
    have h3 := h.sz
    rw [view_size] at h3 ⊢
    omega
  · have h1 : Ris fs := List.pairwise_map.1 h.ri
    exact view_rise (List.pairwise_map.2 ((List.pairwise_map.2 h1 : Ris (fs.map (mF l K))).filter _))
end Go.Proofs.YtofkfafdodhmdaaGreatDoor

/- Calls on a disk, and what each leaves. Conditions: the disk stands and is good behind at most a thousand calls; names of at most a thousand bytes. -/
namespace Go.Proofs.YtofkfafdodhmdaaGreatDoor
open Go.RowKit

/-- A call: what, on which names, with which bytes and number. -/
structure Cl where
  wh : Int
  nm : ByteArray
  tg : ByteArray
  dv : Value
  d : List UInt8
  n : Int
def Cl.e (c : Cl) : List Value := [.int .i64 c.wh, .string c.nm, .string c.tg, c.dv, .int .i64 c.n]
def Cl.v (c : Cl) : Value := .agg c.e.toArray
structure Cl.ok (c : Cl) : Prop where
  nm : c.nm.size ≤ 1000
  tg : c.tg.size ≤ 1000
  n1 : -9223372036854775808 ≤ c.n
  n2 : c.n < 9223372036854775808
/-- What a call did. -/
def Did (c : Cl) (q z : Int) (fs : List Fl) (u : Nat) (fs' : List Fl) (u' : Nat) : Prop :=
  (c.wh = 0 ∧ q = 0 ∧ rightB c.nm = true ∧ (sizeF fs : Int) + (c.d.length : Int) ≤ z ∧ viewF fs' = wrV c.nm c.d u (viewF fs) ∧ u' = u + c.d.length) ∨
  (c.wh = 0 ∧ ((q = 10 ∧ rightB c.nm = false) ∨ (q = 21 ∧ rightB c.nm = true ∧ z < (sizeF fs : Int) + (c.d.length : Int))) ∧ fs' = fs ∧ u' = u) ∨
  (c.wh = 1 ∧ u' = u ∧ ((q = 0 ∧ (∃ f, getV c.nm (viewF fs) = some f) ∧ viewF fs' = updV c.nm Fv.sync (viewF fs)) ∨ (q = 12 ∧ getV c.nm (viewF fs) = none ∧ fs' = fs))) ∨
  (c.wh = 2 ∧ u' = u ∧ ((q = 0 ∧ (∃ f, getV c.nm (viewF fs) = some f) ∧ viewF fs' = dropV c.nm (viewF fs)) ∨ (q = 12 ∧ getV c.nm (viewF fs) = none ∧ fs' = fs))) ∨
  (c.wh = 3 ∧ u' = u ∧ ((q = 0 ∧ rightB c.tg = true ∧ ∃ f, getV c.nm (viewF fs) = some f ∧ viewF fs' = insV (f.call c.tg) (dropV c.tg (dropV c.nm (viewF fs)))) ∨ (q = 10 ∧ rightB c.tg = false ∧ fs' = fs) ∨ (q = 12 ∧ rightB c.tg = true ∧ getV c.nm (viewF fs) = none ∧ fs' = fs))) ∨
  (c.wh = 4 ∧ q = 0 ∧ u' = u ∧ ∃ l : List Pc, l.Perm (allP fs) ∧ l.Pairwise (fun x y => x.2.1 ≤ y.2.1) ∧ fs' = ((fs.map (mF l c.n)).filter keepB).map cutF) ∨
  ((c.wh < 0 ∨ 4 < c.wh) ∧ q = 0 ∧ fs' = fs ∧ u' = u)
/-- What a call leaves. -/
structure DoE (w w' : World) (B db mb : Nat) (z : Int) (i : Nat) (c : Cl) (q : Int) (fs : List Fl) (u : Nat) (fs' : List Fl) (u' : Nat) : Prop where
  did : Did c q z fs u fs' u'
  dk : DkAt w' B db mb fs' z (u' : Int)
  good : GoodV (viewF fs') z u' (i + 1)
  ch : Chg (Ft db mb fs) w w'
  sub : ∀ k, Ft db mb fs' k → Ft db mb fs k ∨ w.heap.size ≤ k
theorem DoE.lift {w W w' : World} {B db mb : Nat} {z : Int} {i : Nat} {c : Cl} {q : Int} {fs fs' : List Fl} {u u' : Nat} (h : DoE W w' B db mb z i c q fs u fs' u') (hb : Below w.heap.size w W) : DoE w w' B db mb z i c q fs u fs' u' :=
  ⟨h.did, h.dk, h.good, (Chg.of_below (Ft db mb fs) hb).trans h.ch fun _ q => .inl q, fun k q => (h.sub k q).imp id fun r => Nat.le_trans hb.size r⟩
theorem doe_same {w w' : World} {B db mb : Nat} {z : Int} {i : Nat} {c : Cl} {q : Int} {fs : List Fl} {u : Nat} (h : DkAt w B db mb fs z (u : Int)) (hg : GoodV (viewF fs) z u i) (hb : Below w.heap.size w w') (hd : Did c q z fs u fs u) : DoE w w' B db mb z i c q fs u fs u :=
  ⟨hd, h.below hb, hg.more, Chg.of_below _ hb, fun _ q => .inl q⟩
theorem good_fs {fs : List Fl} {z : Int} {u i : Nat} (h : GoodV (viewF fs) z u i) (hi : i ≤ 1000) (hz : z ≤ 16777216) :
    u ≤ 1000000000000 ∧ sizeF fs ≤ 16777216 ∧ (sizeF fs : Int) ≤ z ∧ fs.length ≤ 1000 ∧ sumQ (fun f => f.l.length) fs ≤ 1000 ∧ (∀ f ∈ fs, f.n.size ≤ 16 ∧ f.m + sumR f.l = f.d.length ∧ f.m ≤ f.d.length ∧ f.d.length ≤ 16777216 ∧ f.l.length ≤ 1000 ∧ ∀ r ∈ f.l, r.1 + r.2 ≤ 1000000000000) ∧ Ris fs := by
  have hu : u ≤ 1000000000000 := by
    have h1 := h.ub
    have h2 : i * 16777216 ≤ 1000 * 16777216 := Nat.mul_le_mul_right _ hi
    omega
  have hs := h.sz
  rw [view_size] at hs
  have hl := h.len
  rw [show (viewF fs).length = fs.length from List.length_map _] at hl
  have hr := h.rn
  rw [view_runs] at hr
  refine ⟨hu, by omega, hs, by omega, by omega, fun f hf => ?_, List.pairwise_map.1 h.ri⟩
  have hF := h.fl f.v (List.mem_map_of_mem hf)
  have hnm : f.n.size ≤ 16 := by
    have := hF.nm
    unfold rightB at this
    rw [Bool.and_eq_true, decide_eq_true_iff, decide_eq_true_iff] at this
    exact this.2
  have hok : f.m + sumR f.l = f.d.length := hF.ok
  have hd := sizeF_le hf
  have hll : f.l.length ≤ sumQ (fun f => f.l.length) fs := by
    obtain ⟨A, C, rfl⟩ := List.append_of_mem hf
    unfold sumQ
    rw [List.map_append, List.map_cons, List.sum_append_nat, List.sum_cons]
    omega
  exact ⟨hnm, hok, by omega, by omega, by omega, fun r hr => Nat.le_trans (hF.rb r hr) hu⟩

theorem write_do {w : World} {B db mb : Nat} {z : Int} {i : Nat} (c : Cl) (hc : c.ok) (hwh : c.wh = 0) {fs : List Fl} {u : Nat} (h : DkAt w B db mb fs z (u : Int)) (hg : GoodV (viewF fs) z u i) (hi : i ≤ 1000) (hz : 0 ≤ z ∧ z ≤ 16777216) (hd : SlA w c.dv c.d) :
    Calls Tryz.prog 24 #[.pointer (some ⟨db, 0, none⟩), .string c.nm, c.dv] w fun e w' => ∃ q fs' u', e = .returned (.int .i64 q) ∧ DoE w w' B db mb z i c q fs u fs' u' := by
  obtain ⟨g1, g2, g3, g4, g5, g6, _⟩ := good_fs hg hi hz.2
  have hnm : c.nm.size ≤ maxLen := by have := hc.nm; unfold maxLen; omega
  cases hr : rightB c.nm with
  | false =>
    refine (write_form db c.nm c.dv hnm hr w).mono ?_
    rintro e w' ⟨rfl, hb⟩
    exact ⟨10, fs, u, rfl, doe_same h hg hb (.inr (.inl ⟨hwh, .inl ⟨rfl, hr⟩, rfl, rfl⟩))⟩
  | true =>
    by_cases hq : (sizeF fs : Int) + (c.d.length : Int) ≤ z
    · refine (write_ok h c.nm c.dv c.d hc.nm hr hd hz hq g1 (fun f hf => ⟨by have := (g6 f hf).2.2.2.2.1; omega, (g6 f hf).2.2.2.2.2⟩) (by omega)).mono ?_
      rintro e w' ⟨rfl, fs', h1, h2, h3, h4⟩
      refine ⟨0, fs', u + c.d.length, rfl, .inl ⟨hwh, rfl, hr, hq, h2, rfl⟩, h1, ?_, h3, h4⟩
      rw [h2]
      exact good_write hg c.nm hr c.d (by rw [view_size]; exact hq) hz.2
    · obtain ⟨A, c0, e0, _⟩ := hd
      rw [e0]
      refine (write_full h c.nm A c.d.length c0 hnm hr hz g3 (by omega)).mono ?_
      rintro e w' ⟨rfl, hb⟩
      exact ⟨21, fs, u, rfl, doe_same h hg hb (.inr (.inl ⟨hwh, .inr ⟨rfl, hr, by omega⟩, rfl, rfl⟩))⟩
theorem sync_do {w : World} {B db mb : Nat} {z : Int} {i : Nat} (c : Cl) (hc : c.ok) (hwh : c.wh = 1) {fs : List Fl} {u : Nat} (h : DkAt w B db mb fs z (u : Int)) (hg : GoodV (viewF fs) z u i) :
    Calls Tryz.prog 87 #[.pointer (some ⟨db, 0, none⟩), .string c.nm] w fun e w' => ∃ q fs' u', e = .returned (.int .i64 q) ∧ DoE w w' B db mb z i c q fs u fs' u' := by
  have hnm : c.nm.size ≤ maxLen := by have := hc.nm; unfold maxLen; omega
  rcases part c.nm h.ri with ⟨A, f, C, rfl, e⟩ | ⟨A, C, rfl, hA, hC⟩
  · rw [← e] at hnm ⊢
    refine (sync_some h hnm).mono ?_
    rintro e1 w' ⟨rfl, h1, h2⟩
    have hv : viewF (A ++ f.sync :: C) = updV c.nm Fv.sync (viewF (A ++ f :: C)) := by rw [← e]; exact view_upd h.ri rfl
    have hs : sizeF (A ++ f.sync :: C) = sizeF (A ++ f :: C) := by rw [sizeF_mid, sizeF_mid]; rfl
    refine ⟨0, A ++ f.sync :: C, u, rfl, .inr (.inr (.inl ⟨hwh, rfl, .inl ⟨rfl, ⟨f.v, by rw [← e]; exact get_some h.ri⟩, hv⟩⟩)), ?_, by rw [hv]; exact good_sync hg c.nm, h2.mono fun k q => ft_mid.2 (.inr q), fun k q => ?_⟩
    · show Dk w' B db mb _ z ((sizeF (A ++ f.sync :: C) : Nat) : Int) _
      rw [hs]; exact h1
    · rcases ft_mid.1 q with r | r
      · exact .inl (ft_mid.2 (.inl r))
      · refine .inl (ft_mid.2 (.inr ?_))
        rcases r with r | r | r
        · exact .inl r
        · exact .inr (.inl r)
        · cases r
  · refine (sync_none h c.nm (not_in hA hC) hnm).mono ?_
    rintro e1 w' ⟨rfl, hb⟩
    exact ⟨12, _, u, rfl, doe_same h hg hb (.inr (.inr (.inl ⟨hwh, rfl, .inr ⟨rfl, get_none (not_in hA hC), rfl⟩⟩)))⟩
theorem remove_do {w : World} {B db mb : Nat} {z : Int} {i : Nat} (c : Cl) (hc : c.ok) (hwh : c.wh = 2) {fs : List Fl} {u : Nat} (h : DkAt w B db mb fs z (u : Int)) (hg : GoodV (viewF fs) z u i) (hi : i ≤ 1000) (hz : 0 ≤ z ∧ z ≤ 16777216) :
    Calls Tryz.prog 85 #[.pointer (some ⟨db, 0, none⟩), .string c.nm] w fun e w' => ∃ q fs' u', e = .returned (.int .i64 q) ∧ DoE w w' B db mb z i c q fs u fs' u' := by
  obtain ⟨g1, g2, g3, g4, g5, g6, _⟩ := good_fs hg hi hz.2
  have hnm : c.nm.size ≤ maxLen := by have := hc.nm; unfold maxLen; omega
  rcases part c.nm h.ri with ⟨A, f, C, rfl, e⟩ | ⟨A, C, rfl, hA, hC⟩
  · rw [← e] at hnm ⊢
    have hsz := sizeF_mid A C f
    refine (remove_some h hnm (by omega) g2).mono ?_
    rintro e1 w' ⟨rfl, h1, h2⟩
    have hv : viewF (A ++ C) = dropV c.nm (viewF (A ++ f :: C)) := by rw [← e, ← drop_some h.ri, view_drop]
    refine ⟨0, A ++ C, u, rfl, .inr (.inr (.inr (.inl ⟨hwh, rfl, .inl ⟨rfl, ⟨f.v, by rw [← e]; exact get_some h.ri⟩, hv⟩⟩))), ?_, by rw [hv]; exact (good_drop hg c.nm).more, h2, fun k q => .inl (ft_mid.2 (.inl q))⟩
    show Dk w' B db mb _ z ((sizeF (A ++ C) : Nat) : Int) _
    rw [show sizeF (A ++ C) = sizeF (A ++ f :: C) - f.d.length by omega]
    exact h1
  · refine (remove_none h c.nm (not_in hA hC) hnm).mono ?_
    rintro e1 w' ⟨rfl, hb⟩
    exact ⟨12, _, u, rfl, doe_same h hg hb (.inr (.inr (.inr (.inl ⟨hwh, rfl, .inr ⟨rfl, get_none (not_in hA hC), rfl⟩⟩))))⟩
theorem rename_do {w : World} {B db mb : Nat} {z : Int} {i : Nat} (c : Cl) (hc : c.ok) (hwh : c.wh = 3) {fs : List Fl} {u : Nat} (h : DkAt w B db mb fs z (u : Int)) (hg : GoodV (viewF fs) z u i) (hi : i ≤ 1000) (hz : 0 ≤ z ∧ z ≤ 16777216) :
    Calls Tryz.prog 86 #[.pointer (some ⟨db, 0, none⟩), .string c.nm, .string c.tg] w fun e w' => ∃ q fs' u', e = .returned (.int .i64 q) ∧ DoE w w' B db mb z i c q fs u fs' u' := by
  obtain ⟨g1, g2, g3, g4, g5, g6, _⟩ := good_fs hg hi hz.2
  have hnm : c.nm.size ≤ maxLen := by have := hc.nm; unfold maxLen; omega
  have hto : c.tg.size ≤ maxLen := by have := hc.tg; unfold maxLen; omega
  cases hr : rightB c.tg with
  | false =>
    refine (rename_form db c.nm c.tg hto hr w).mono ?_
    rintro e w' ⟨rfl, hb⟩
    exact ⟨10, fs, u, rfl, doe_same h hg hb (.inr (.inr (.inr (.inr (.inl ⟨hwh, rfl, .inr (.inl ⟨rfl, hr, rfl⟩)⟩)))))⟩
  | true =>
    rcases part c.nm h.ri with ⟨A, f, C, rfl, e⟩ | ⟨A, C, rfl, hA, hC⟩
    · have hs : f.n.size ≤ 281474976710656 := by rw [e]; have := hc.nm; omega
      have ht : c.tg.size ≤ 281474976710656 := by have := hc.tg; omega
      have hR := rename_some h c.tg hs ht hr g2 (by omega)
      rw [e] at hR
      refine hR.mono ?_
      rintro e1 w' ⟨rfl, fs', h1, h2, h3, h4⟩
      have hget : getV c.nm (viewF (A ++ f :: C)) = some f.v := by rw [← e]; exact get_some h.ri
      refine ⟨0, fs', u, rfl, .inr (.inr (.inr (.inr (.inl ⟨hwh, rfl, .inl ⟨rfl, hr, f.v, hget, h2⟩⟩)))), h1, ?_, h3, fun k q => .inl (h4 k q)⟩
      rw [h2]
      exact good_call hg c.nm c.tg hget hr
    · refine (rename_none h c.nm c.tg (not_in hA hC) hnm hto hr).mono ?_
      rintro e1 w' ⟨rfl, hb⟩
      exact ⟨12, _, u, rfl, doe_same h hg hb (.inr (.inr (.inr (.inr (.inl ⟨hwh, rfl, .inr (.inr ⟨rfl, hr, get_none (not_in hA hC), rfl⟩)⟩)))))⟩
theorem crash_do {w : World} {B db mb : Nat} {z : Int} {i : Nat} (c : Cl) (hc : c.ok) (hwh : c.wh = 4) {fs : List Fl} {u : Nat} (h : DkAt w B db mb fs z (u : Int)) (hg : GoodV (viewF fs) z u i) (hi : i ≤ 1000) (hz : 0 ≤ z ∧ z ≤ 16777216) :
    Calls Tryz.prog 26 #[.pointer (some ⟨db, 0, none⟩), .int .i64 c.n] w fun e w' => e = .returned (.tuple #[]) ∧ ∃ fs' u', DoE w w' B db mb z i c 0 fs u fs' u' := by
  obtain ⟨g1, g2, g3, g4, g5, g6, _⟩ := good_fs hg hi hz.2
  refine (crash_ok h c.n hc.n1 hc.n2 g2 (fun f hf => (g6 f hf).2.1) (by omega) (fun f hf => by have := (g6 f hf).1; unfold maxLen; omega)).mono ?_
  rintro e w' ⟨rfl, l, h1, h2, h3, h4⟩
  refine ⟨rfl, _, u, .inr (.inr (.inr (.inr (.inr (.inl ⟨hwh, rfl, rfl, l, h1, h2, rfl⟩))))), h3, good_crash hg h1 h.ap c.n, h4, fun k q => .inl ?_⟩
  rcases q with q | q | ⟨g, hg2, q⟩
  · exact .inl q
  · exact .inr (.inl q)
  · obtain ⟨f, hf, rfl⟩ := List.mem_map.1 hg2
    obtain ⟨f0, hf0, rfl⟩ := List.mem_map.1 (List.mem_filter.1 hf).1
    exact .inr (.inr ⟨f0, hf0, (cut_has q : (mF l c.n f0).has k)⟩)
end Go.Proofs.YtofkfafdodhmdaaGreatDoor

/- What calls do to a disk's files, as functions; each call of package store in these words. Conditions: the disk stands and is good behind at most a thousand calls; names of at most a thousand bytes. -/
namespace Go.Proofs.YtofkfafdodhmdaaGreatDoor
open Go.RowKit

/-- Files by name, and how many bytes were ever written. -/
abbrev PV := Vs × Nat
def pWrite (x : ByteArray) (b : List UInt8) (z : Int) (p : PV) : Int × PV := if rightB x = true then (if (sizeV p.1 : Int) + (b.length : Int) ≤ z then (0, (wrV x b p.2 p.1, p.2 + b.length)) else (21, p)) else (10, p)
def pSync (x : ByteArray) (p : PV) : Int × PV := match getV x p.1 with
  | some _ => (0, (updV x Fv.sync p.1, p.2))
  | none => (12, p)
def pRem (x : ByteArray) (p : PV) : Int × PV := match getV x p.1 with
  | some _ => (0, (dropV x p.1, p.2))
  | none => (12, p)
def pRen (x y : ByteArray) (p : PV) : Int × PV := if rightB y = true then (match getV x p.1 with
  | some f => (0, (insV (f.call y) (dropV y (dropV x p.1)), p.2))
  | none => (12, p)) else (10, p)
def pAdd (x : ByteArray) (b : List UInt8) (z : Int) (p : PV) : Int × PV := if (pWrite x b z p).1 = 0 then pSync x (pWrite x b z p).2 else pWrite x b z p
abbrev mN : ByteArray := ⟨#[109]⟩
abbrev mT : ByteArray := ⟨#[109, 126]⟩
def pRepl (b : List UInt8) (z : Int) (p : PV) : Int × PV := if (pAdd mT b z (pRem mT p).2).1 = 0 then pRen mT mN (pAdd mT b z (pRem mT p).2).2 else pAdd mT b z (pRem mT p).2
def rdM (p : PV) : List UInt8 := ((getV mN p.1).map Fv.d).getD []

theorem did_write {x tg : ByteArray} {dv : Value} {b : List UInt8} {n q z : Int} {fs fs' : List Fl} {u u' : Nat} (h : Did ⟨0, x, tg, dv, b, n⟩ q z fs u fs' u') : (q, (viewF fs', u')) = pWrite x b z (viewF fs, u) := by
  unfold pWrite
  rw [show sizeV ((viewF fs, u) : PV).1 = sizeF fs from view_size fs]
  rcases h with ⟨_, rfl, h1, h2, h3, rfl⟩ | ⟨_, h1, rfl, rfl⟩ | ⟨h0, _⟩ | ⟨h0, _⟩ | ⟨h0, _⟩ | ⟨h0, _⟩ | ⟨h0, _⟩
  · rw [if_pos h1, if_pos h2, h3]
  · rcases h1 with ⟨rfl, h2⟩ | ⟨rfl, h2, h3⟩
    · dsimp only at h2
      rw [if_neg (by rw [h2]; decide)]
    · dsimp only at h2 h3
      rw [if_pos h2, if_neg (by omega)]
  all_goals (dsimp only at h0; omega)
theorem did_sync {x tg : ByteArray} {dv : Value} {b : List UInt8} {n q z : Int} {fs fs' : List Fl} {u u' : Nat} (h : Did ⟨1, x, tg, dv, b, n⟩ q z fs u fs' u') : (q, (viewF fs', u')) = pSync x (viewF fs, u) := by
  unfold pSync
  rcases h with ⟨h0, _⟩ | ⟨h0, _⟩ | ⟨_, rfl, h1⟩ | ⟨h0, _⟩ | ⟨h0, _⟩ | ⟨h0, _⟩ | ⟨h0, _⟩
  rotate_left 2
  · rcases h1 with ⟨rfl, ⟨f, h2⟩, h3⟩ | ⟨rfl, h2, rfl⟩
    · dsimp only at h2 h3
      rw [show getV x ((viewF fs, u') : PV).1 = some f from h2, h3]
    · dsimp only at h2
      rw [show getV x ((viewF fs', u') : PV).1 = none from h2]
  all_goals (dsimp only at h0; omega)
theorem did_rem {x tg : ByteArray} {dv : Value} {b : List UInt8} {n q z : Int} {fs fs' : List Fl} {u u' : Nat} (h : Did ⟨2, x, tg, dv, b, n⟩ q z fs u fs' u') : (q, (viewF fs', u')) = pRem x (viewF fs, u) := by
  unfold pRem
  rcases h with ⟨h0, _⟩ | ⟨h0, _⟩ | ⟨h0, _⟩ | ⟨_, rfl, h1⟩ | ⟨h0, _⟩ | ⟨h0, _⟩ | ⟨h0, _⟩
  rotate_left 3
  · rcases h1 with ⟨rfl, ⟨f, h2⟩, h3⟩ | ⟨rfl, h2, rfl⟩
    · dsimp only at h2 h3
      rw [show getV x ((viewF fs, u') : PV).1 = some f from h2, h3]
    · dsimp only at h2
      rw [show getV x ((viewF fs', u') : PV).1 = none from h2]
  all_goals (dsimp only at h0; omega)
theorem did_ren {x y : ByteArray} {dv : Value} {b : List UInt8} {n q z : Int} {fs fs' : List Fl} {u u' : Nat} (h : Did ⟨3, x, y, dv, b, n⟩ q z fs u fs' u') : (q, (viewF fs', u')) = pRen x y (viewF fs, u) := by
  unfold pRen
  rcases h with ⟨h0, _⟩ | ⟨h0, _⟩ | ⟨h0, _⟩ | ⟨h0, _⟩ | ⟨_, rfl, h1⟩ | ⟨h0, _⟩ | ⟨h0, _⟩
  rotate_left 4
  · rcases h1 with ⟨rfl, h4, f, h2, h3⟩ | ⟨rfl, h4, rfl⟩ | ⟨rfl, h4, h2, rfl⟩
    · dsimp only at h2 h3 h4
      rw [if_pos h4, show getV x ((viewF fs, u') : PV).1 = some f from h2, h3]
    · dsimp only at h4
      rw [if_neg (by rw [h4]; decide)]
    · dsimp only at h2 h4
      rw [if_pos h4, show getV x ((viewF fs', u') : PV).1 = none from h2]
  all_goals (dsimp only at h0; omega)

/-- Our disk in memory, with what it is by names. -/
structure Sd (w : World) (B db mb : Nat) (z : Int) (i : Nat) (fs : List Fl) (p : PV) : Prop where
  v : viewF fs = p.1
  dk : DkAt w B db mb fs z (p.2 : Int)
  good : GoodV p.1 z p.2 i
theorem Sd.below {w w' : World} {B db mb i : Nat} {z : Int} {fs : List Fl} {p : PV} (h : Sd w B db mb z i fs p) (hb : Below w.heap.size w w') : Sd w' B db mb z i fs p := ⟨h.v, h.dk.below hb, h.good⟩
theorem GoodV.upto {vs : Vs} {z : Int} {u i j : Nat} (h : GoodV vs z u i) (hij : i ≤ j) : GoodV vs z u j := ⟨h.fl, Nat.le_trans h.len hij, Nat.le_trans h.rn hij, Nat.le_trans h.ub (Nat.mul_le_mul_right _ hij), h.sz, h.ri⟩
theorem Sd.upto {w : World} {B db mb i j : Nat} {z : Int} {fs : List Fl} {p : PV} (h : Sd w B db mb z i fs p) (hij : i ≤ j) : Sd w B db mb z j fs p := ⟨h.v, h.dk, h.good.upto hij⟩
/-- What of memory a call on the disk may turn. -/
structure Mv (w w' : World) (db mb : Nat) (fs fs' : List Fl) : Prop where
  ch : Chg (Ft db mb fs) w w'
  sub : ∀ k, Ft db mb fs' k → Ft db mb fs k ∨ w.heap.size ≤ k
theorem Mv.trans {w w1 w2 : World} {db mb : Nat} {fs fs1 fs2 : List Fl} (h : Mv w w1 db mb fs fs1) (k : Mv w1 w2 db mb fs1 fs2) : Mv w w2 db mb fs fs2 :=
  ⟨h.ch.trans k.ch h.sub, fun j q => (k.sub j q).elim (h.sub j) fun r => .inr (Nat.le_trans h.ch.size r)⟩
theorem Mv.of_below {w w' : World} {db mb : Nat} {fs : List Fl} (h : Below w.heap.size w w') : Mv w w' db mb fs fs := ⟨Chg.of_below _ h, fun _ q => .inl q⟩
theorem Mv.below {w w1 w2 : World} {db mb : Nat} {fs fs1 : List Fl} (h : Mv w w1 db mb fs fs1) (k : Below w1.heap.size w1 w2) : Mv w w2 db mb fs fs1 := h.trans (Mv.of_below k)
theorem Mv.lift {w w1 w2 : World} {db mb : Nat} {fs fs1 : List Fl} (h : Mv w1 w2 db mb fs fs1) (k : Below w.heap.size w w1) : Mv w w2 db mb fs fs1 := (Mv.of_below k).trans h
theorem SlA.mv {w w' : World} {v : Value} {l : List UInt8} {db mb : Nat} {fs fs' : List Fl} (h : SlA w v l) (hc : Mv w w' db mb fs fs') (hs : ∀ g, v.ownBlock = some g → ¬ Ft db mb fs g) : SlA w' v l := by
  obtain ⟨A, c, e, h2, h3, h4, h5⟩ := h
  refine ⟨A, c, e, h2, h3, fun h0 => ?_, h5⟩
  obtain ⟨b, off, e2, hh⟩ := h4 h0
  refine ⟨b, off, e2, fun i hi => ?_⟩
  rw [World.cell?_of_block (hc.ch.block b (hh.lt h0) (hs b (by rw [e, e2]; rfl)))]
  exact hh i hi
/-- The disk's blocks stand in memory. -/
theorem Sd.lt {w : World} {B db mb i : Nat} {z : Int} {fs : List Fl} {p : PV} (h : Sd w B db mb z i fs p) {k : Nat} (hk : Ft db mb fs k) : B ≤ k ∧ k < w.heap.size := by
  rcases hk with rfl | rfl | ⟨f, hf, q⟩
  · exact ⟨h.dk.lo.1, h.dk.blk.lt⟩
  · obtain ⟨es, clk, e, _⟩ := h.dk.map
    refine ⟨h.dk.lo.2, ?_⟩
    rcases Nat.lt_or_ge k w.heap.size with r | r
    · exact r
    · rw [Array.getElem?_eq_none r] at e; cases e
  · exact (h.dk.fl f hf).lt q

section
variable {w : World} {B db mb i : Nat} {z : Int} {fs : List Fl} {p : PV}
theorem doe_sd {w' : World} {c : Cl} {q : Int} {u : Nat} {fs' : List Fl} {u' : Nat} {P : Int × PV} (h : DoE w w' B db mb z i c q fs u fs' u') (hP : (q, (viewF fs', u')) = P) : Sd w' B db mb z (i + 1) fs' P.2 ∧ Mv w w' db mb fs fs' := by
  subst hP
  exact ⟨⟨rfl, h.dk, h.good⟩, h.ch, h.sub⟩
theorem write9 (h : Sd w B db mb z i fs p) (hi : i ≤ 1000) (hz : 0 ≤ z ∧ z ≤ 16777216) (x : ByteArray) (hx : x.size ≤ 1000) (vb : Value) (b : List UInt8) (hb : SlA w vb b) :
    Calls Tryz.prog 24 #[.pointer (some ⟨db, 0, none⟩), .string x, vb] w fun e w' => e = .returned (.int .i64 (pWrite x b z p).1) ∧ ∃ fs', Sd w' B db mb z (i + 1) fs' (pWrite x b z p).2 ∧ Mv w w' db mb fs fs' := by
  obtain ⟨vs, u⟩ := p
  obtain rfl : viewF fs = vs := h.v
  refine (write_do ⟨0, x, ⟨#[]⟩, vb, b, 0⟩ ⟨hx, by show (0 : Nat) ≤ _; omega, by show (-9223372036854775808 : Int) ≤ 0; omega, by show (0 : Int) < _; omega⟩ rfl h.dk h.good hi hz hb).mono ?_
  rintro e w' ⟨q, fs', u', rfl, hE⟩
  have hP := did_write hE.did
  exact ⟨by rw [← hP], fs', doe_sd hE hP⟩
theorem sync9 (h : Sd w B db mb z i fs p) (x : ByteArray) (hx : x.size ≤ 1000) :
    Calls Tryz.prog 87 #[.pointer (some ⟨db, 0, none⟩), .string x] w fun e w' => e = .returned (.int .i64 (pSync x p).1) ∧ ∃ fs', Sd w' B db mb z (i + 1) fs' (pSync x p).2 ∧ Mv w w' db mb fs fs' := by
  obtain ⟨vs, u⟩ := p
  obtain rfl : viewF fs = vs := h.v
  refine (sync_do ⟨1, x, ⟨#[]⟩, .int .i64 0, [], 0⟩ ⟨hx, by show (0 : Nat) ≤ _; omega, by show (-9223372036854775808 : Int) ≤ 0; omega, by show (0 : Int) < _; omega⟩ rfl h.dk h.good).mono ?_
  rintro e w' ⟨q, fs', u', rfl, hE⟩
  have hP := did_sync hE.did
  exact ⟨by rw [← hP], fs', doe_sd hE hP⟩
theorem rem9 (h : Sd w B db mb z i fs p) (hi : i ≤ 1000) (hz : 0 ≤ z ∧ z ≤ 16777216) (x : ByteArray) (hx : x.size ≤ 1000) :
    Calls Tryz.prog 85 #[.pointer (some ⟨db, 0, none⟩), .string x] w fun e w' => e = .returned (.int .i64 (pRem x p).1) ∧ ∃ fs', Sd w' B db mb z (i + 1) fs' (pRem x p).2 ∧ Mv w w' db mb fs fs' := by
  obtain ⟨vs, u⟩ := p
  obtain rfl : viewF fs = vs := h.v
  refine (remove_do ⟨2, x, ⟨#[]⟩, .int .i64 0, [], 0⟩ ⟨hx, by show (0 : Nat) ≤ _; omega, by show (-9223372036854775808 : Int) ≤ 0; omega, by show (0 : Int) < _; omega⟩ rfl h.dk h.good hi hz).mono ?_
  rintro e w' ⟨q, fs', u', rfl, hE⟩
  have hP := did_rem hE.did
  exact ⟨by rw [← hP], fs', doe_sd hE hP⟩
theorem ren9 (h : Sd w B db mb z i fs p) (hi : i ≤ 1000) (hz : 0 ≤ z ∧ z ≤ 16777216) (x y : ByteArray) (hx : x.size ≤ 1000) (hy : y.size ≤ 1000) :
    Calls Tryz.prog 86 #[.pointer (some ⟨db, 0, none⟩), .string x, .string y] w fun e w' => e = .returned (.int .i64 (pRen x y p).1) ∧ ∃ fs', Sd w' B db mb z (i + 1) fs' (pRen x y p).2 ∧ Mv w w' db mb fs fs' := by
  obtain ⟨vs, u⟩ := p
  obtain rfl : viewF fs = vs := h.v
  refine (rename_do ⟨3, x, y, .int .i64 0, [], 0⟩ ⟨hx, hy, by show (-9223372036854775808 : Int) ≤ 0; omega, by show (0 : Int) < _; omega⟩ rfl h.dk h.good hi hz).mono ?_
  rintro e w' ⟨q, fs', u', rfl, hE⟩
  have hP := did_ren hE.did
  exact ⟨by rw [← hP], fs', doe_sd hE hP⟩
theorem read9m (h : Sd w B db mb z i fs p) (hl : (rdM p).length ≤ 1000000) :
    Calls Tryz.prog 30 #[.pointer (some ⟨db, 0, none⟩), .string mN] w fun e w' => ∃ v o, e = .returned (.tuple #[v, .bool o]) ∧ Row w' w.heap.size v (rdM p) ∧ Below w.heap.size w w' := by
  obtain ⟨vs, u⟩ := p
  obtain rfl : viewF fs = vs := h.v
  have hm : mN.size ≤ maxLen := by unfold maxLen; decide
  rcases part mN h.dk.ri with ⟨A, f, C, rfl, e⟩ | ⟨A, C, rfl, hA, hC⟩
  · have hr : rdM (viewF (A ++ f :: C), u) = f.d := by
      unfold rdM
      rw [show getV mN ((viewF (A ++ f :: C), u) : PV).1 = some f.v by rw [← e]; exact get_some h.dk.ri]
      rfl
    rw [hr] at hl ⊢
    have := read_some h.dk (by rw [e]; exact hm) hl
    rw [e] at this
    exact this.mono fun e w' ⟨v, h1, h2, h3⟩ => ⟨v, true, h1, h2, h3⟩
  · have hr : rdM (viewF (A ++ C), u) = [] := by
      unfold rdM
      rw [show getV mN ((viewF (A ++ C), u) : PV).1 = none from get_none (not_in hA hC)]
      rfl
    rw [hr]
    exact (read_none h.dk mN (not_in hA hC) hm).mono fun e w' ⟨h1, h2⟩ => ⟨_, false, h1, Row.none _ _, h2⟩
end
end Go.Proofs.YtofkfafdodhmdaaGreatDoor
