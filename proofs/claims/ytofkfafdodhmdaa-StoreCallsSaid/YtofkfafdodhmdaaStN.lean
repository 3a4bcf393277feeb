/- (*store.Disk).Crash. Conditions: the disk stands; each file's runs are what doesn't last of it; less than a hundred thousand runs. -/
import Derived.Test.YtofkfafdodhmdaaStM
namespace Go.Proofs.Ytofkfafdodhmdaa
open Go.RowKit

theorem flat_m {w : World} {B : Nat} {f : Fl} (h : FlAt w B f) (m : Nat) : FlAt (w.setCell ⟨f.b, 1, none⟩ (.int .i64 (m : Int))) B { f with m := m } ∧ Chg f.has w (w.setCell ⟨f.b, 1, none⟩ (.int .i64 (m : Int))) := by
  have k1 := h.blk.set 1 (.int .i64 (m : Int))
  have hk : ∀ k, k ≠ f.b → (w.setCell ⟨f.b, 1, none⟩ (.int .i64 (m : Int))).heap[k]? = w.heap[k]? := fun k q => Below.heap_setCell _ _ _ _ q
  refine ⟨⟨h.lo, k1, own_block0 h.row fun g q => hk g ?_, own_block0 h.run fun g q => hk g ?_⟩, Chg.of_set w f.b 1 _ (S := f.has) (.inl rfl)⟩
  · obtain ⟨cur, hc⟩ := own_blk h.row q
    exact blk_ne0 hc h.blk (by decide)
  · obtain ⟨cur, hc⟩ := own_blk h.run q
    exact blk_ne0 hc h.blk (by decide)
theorem PHold.chg {w wr w' : World} {v : Value} {l : List Pc} (h : PHold wr w.heap.size v l) (hb : ∀ k, w.heap.size ≤ k → k < wr.heap.size → w'.heap[k]? = wr.heap[k]?) : PHold w' w.heap.size v l := by
  obtain ⟨A, c, e, hh⟩ := h
  refine ⟨A, c, e, fun i hi => ?_⟩
  obtain ⟨b, e1, hB, c0, c1, c2⟩ := hh i hi
  have hlt := cell_lt c0
  have hk := hb b hB hlt
  exact ⟨b, e1, hB, (World.cell?_of_block hk).trans c0, (World.cell?_of_block hk).trans c1, (World.cell?_of_block hk).trans c2⟩
/-- Where Crash is while pieces are gone through. -/
structure C1S (w wr : World) (B db mb : Nat) (fs : List Fl) (z s u K : Int) (v : Value) (l : List Pc) (k : Nat) : Prop where
  dk : Dk wr B db mb (fs.map (mF (l.take k) K)) z s u
  ph : PHold wr w.heap.size v l
  ch : Chg (Ft db mb fs) w wr
theorem ft_map {db mb : Nat} {fs : List Fl} (F : Fl → Fl) (h : ∀ f k, (F f).has k → f.has k) {k : Nat} (hk : Ft db mb (fs.map F) k) : Ft db mb fs k := by
  rcases hk with q | q | ⟨g, hg, q⟩
  · exact .inl q
  · exact .inr (.inl q)
  · obtain ⟨f, hf, rfl⟩ := List.mem_map.1 hg
    exact .inr (.inr ⟨f, hf, h f k q⟩)
theorem C1S.below {w wr w' : World} {B db mb : Nat} {fs : List Fl} {z s u K : Int} {v : Value} {l : List Pc} {k : Nat} (h : C1S w wr B db mb fs z s u K v l k) (hb : Below wr.heap.size wr w') : C1S w w' B db mb fs z s u K v l k :=
  ⟨h.dk.below hb, h.ph.chg fun j _ h2 => hb.block j h2, h.ch.trans (Chg.of_below (Ft db mb fs) hb) fun _ q => .inl q⟩
theorem C1S.step {w wr : World} {B db mb : Nat} {fs : List Fl} {z s u K : Int} {v : Value} {l : List Pc} {k : Nat} (h : C1S w wr B db mb fs z s u K v l k) (hlt : ∀ k, Ft db mb fs k → k < w.heap.size) (hap : fs.Pairwise Fl.apart) (hk : k < l.length) {A C : List Fl} {f : Fl} (e : fs = A ++ f :: C) (hp : l[k].1 = f.b) {m : Nat} (hm : (mF (l.take k) K f).m + kp (kpl (l.take k) K) l[k].2.2 = m) :
    C1S w (wr.setCell ⟨f.b, 1, none⟩ (.int .i64 (m : Int))) B db mb fs z s u K v l (k + 1) := by
  subst hm
  have hd := h.dk
  have em : fs.map (mF (l.take k) K) = A.map (mF (l.take k) K) ++ mF (l.take k) K f :: C.map (mF (l.take k) K) := by rw [e, List.map_append, List.map_cons]
  rw [em] at hd
  have hF := flat_m (hd.fl (mF (l.take k) K f) (by simp)) ((mF (l.take k) K f).m + kp (kpl (l.take k) K) l[k].2.2)
  have hU := hd.upd hF.2 hF.1 rfl rfl fun j q => .inl q
  have etk : l.take (k + 1) = l.take k ++ [l[k]] := List.take_succ_eq_append_getElem hk
  refine ⟨?_, h.ph.chg fun j h1 h2 => ?_, ?_⟩
  · rw [etk, e, mF_step (by rw [← e]; exact hap) _ _ _ hp]
    exact hU
  · have hne : ¬ f.has j := fun q => by
      have := hlt j (.inr (.inr ⟨f, by rw [e]; simp, q⟩))
      omega
    exact hF.2.block j h2 hne
  · exact h.ch.trans hF.2 fun j q => .inl (.inr (.inr ⟨f, by rw [e]; simp, q⟩))
theorem kpl_step (l : List Pc) (K : Int) {k : Nat} (hk : k < l.length) : kpl (l.take (k + 1)) K = kpl (l.take k) K - (kp (kpl (l.take k) K) l[k].2.2 : Int) := by
  rw [List.take_succ_eq_append_getElem hk, kpl_snoc]

theorem sumP_app (a b : List Pc) (x : Nat) : sumP (a ++ b) x = sumP a x + sumP b x := by unfold sumP; rw [List.filter_append, List.map_append, List.sum_append_nat]
theorem m_bound {fs : List Fl} {l : List Pc} (hpm : l.Perm (allP fs)) (hap : fs.Pairwise Fl.apart) {f : Fl} (hf : f ∈ fs) (hok : f.m + sumR f.l = f.d.length) (K : Int) {k : Nat} (hk : k < l.length) (hp : l[k].1 = f.b) : (mF (l.take k) K f).m + l[k].2.2 ≤ f.d.length := by
  have h1 := inc_le (l.take k) f.b K
  have h2 := sum_perm hpm f.b
  rw [sum_all hap hf] at h2
  have h3 : l = l.take k ++ ([l[k]] ++ l.drop (k + 1)) := by simp
  have h4 := congrArg (fun t => sumP t f.b) h3
  simp only [sumP_app] at h4
  have h5 : sumP [l[k]] f.b = l[k].2.2 := by
    unfold sumP
    rw [List.filter_cons, if_pos (decide_eq_true hp)]
    simp
  show f.m + incP (l.take k) K f.b + l[k].2.2 ≤ _
  omega
theorem mF_bound {fs : List Fl} {l : List Pc} (hpm : l.Perm (allP fs)) (hap : fs.Pairwise Fl.apart) {f : Fl} (hf : f ∈ fs) (hok : f.m + sumR f.l = f.d.length) (K : Int) : (mF l K f).m ≤ f.d.length := by
  have h1 := inc_le l f.b K
  have h2 := sum_perm hpm f.b
  rw [sum_all hap hf] at h2
  show f.m + incP l K f.b ≤ _
  omega
/-- Where Crash is while files are gone through; w: the world where the range began. -/
structure C2S (w wr : World) (B db mb : Nat) (fs : List Fl) (z s u : Int) (left : Lit → Bool) (cnt : Nat) : Prop where
  rg : wr.ranges Try.prog 9 Rp mb w.heap.size fs.length (mapD (kpF left fs)) left cnt
  fl : ∀ f ∈ fs, FlAt wr B (if left f.key = true then f else cutF f)
  blk : Blk wr db 59 #[.map (some mb), .int .i64 z, .int .i64 s, .int .i64 u]
  ch : Chg (Ft db mb fs) w wr
theorem has_st {left : Lit → Bool} {f : Fl} {k : Nat} (h : (if left f.key = true then f else cutF f).has k) : f.has k := by
  by_cases q : left f.key = true
  · rw [if_pos q] at h; exact h
  · rw [if_neg q] at h; exact cut_has h
/-- One file has been gone through: turned are the iterator, the map, the file's own block. -/
theorem C2S.step {w wr w2 w3 : World} {B db mb : Nat} {fs : List Fl} {z s u : Int} {left : Lit → Bool} {cnt cnt2 : Nat} {f : Fl} (hD : Dk w B db mb fs z s u) (h : C2S w wr B db mb fs z s u left cnt) (hf : f ∈ fs) (hl : left f.key = true) (hm : f.m ≤ f.d.length)
    (hrg : w2.ranges Try.prog 9 Rp mb w.heap.size fs.length (mapD (kpF (fun z => left z && !z.sameKey f.key) fs)) (fun z => left z && !z.sameKey f.key) cnt2) (hc : Chg (fun k => k = w.heap.size ∨ k = mb) wr w2)
    (hw3 : ∃ W, Below w2.heap.size w2 W ∧ w3 = (W.setCell ⟨f.b, 0, none⟩ (cutS f)).setCell ⟨f.b, 2, none⟩ (.slice none 0 0)) :
    C2S w w3 B db mb fs z s u (fun z => left z && !z.sameKey f.key) cnt2 := by
  obtain ⟨W, hW, rfl⟩ := hw3
  have hmb := hD.map.lt
  have hsz := h.ch.size
  have hr2 := hrg.lt
  have hfk : ∀ g ∈ fs, ∀ k, g.has k → k < w.heap.size ∧ k ≠ mb ∧ k ≠ db := fun g hg k q => ⟨hD.lts hg q, (hD.db_ne hg q).2, (hD.db_ne hg q).1⟩
  have k2 : ∀ g ∈ fs, ∀ k, g.has k → w2.heap[k]? = wr.heap[k]? := fun g hg k q => hc.block k (Nat.lt_of_lt_of_le (hfk g hg k q).1 hsz) fun r => by
    have := hfk g hg k q
    rcases r with r | r
    · omega
    · exact this.2.1 r
  have kW : ∀ k, k < w.heap.size → W.heap[k]? = w2.heap[k]? := fun k q => hW.block k (by have := hc.size; omega)
  have hF : FlAt W B f := by
    have := h.fl f hf
    rw [if_pos hl] at this
    exact this.keep fun k q => (kW k (hfk f hf k q).1).trans (k2 f hf k q)
  obtain ⟨c1, c2, c3⟩ := flat_cut hF hm
  have hfb := hfk f hf f.b (.inl rfl)
  refine ⟨?_, fun g hg => ?_, ?_, ?_⟩
  · have hmb2 := hrg.owns.lt
    obtain ⟨es, clock, since, seen, c0, hb1, F, hs, hDm, hr1, rest⟩ := hrg
    have hrne : w.heap.size ≠ f.b := by omega
    exact ⟨es, clock, since, seen, c0, ((c2 mb hfb.2.1.symm).trans (hW.block mb hmb2)).trans hb1, F, hs, hDm, ((c2 _ hrne).trans (hW.block _ hr2)).trans hr1, rest⟩
  · by_cases e : g.n = f.n
    · have egf : g = f := by
        obtain ⟨A, C, rfl⟩ := List.append_of_mem hf
        obtain ⟨h1, h2, _⟩ := rise_mid hD.ri
        rcases List.mem_append.1 hg with q | q
        · exact absurd e (bef_ne (h1 g q))
        · rcases List.mem_cons.1 q with q | q
          · exact q
          · exact absurd e.symm (bef_ne (h2 g q))
      have sf : f.key.sameKey f.key = true := by
        show (Lit.string f.n.data.toList).sameKey (.string f.n.data.toList) = true
        rw [sameKey_str, decide_eq_true rfl]
      rw [egf, if_neg (by rw [sf]; simp)]
      exact c1
    · have hgf : ∀ k, g.has k → k ≠ f.b := fun k q e2 => by
        obtain ⟨A, C, rfl⟩ := List.append_of_mem hf
        have hin : g ∈ A ++ C := by
          rcases List.mem_append.1 hg with p | p
          · exact List.mem_append_left _ p
          · rcases List.mem_cons.1 p with p | p
            · exact absurd (by rw [p]) e
            · exact List.mem_append_right _ p
        exact (ap_mid.1 hD.ap).2 g hin k (e2 ▸ .inl rfl) q
      have e1 : (left g.key && !g.key.sameKey f.key) = left g.key := by rw [key_ne e]; simp
      have := h.fl g hg
      show FlAt _ B (if (left g.key && !g.key.sameKey f.key) = true then g else cutF g)
      rw [e1]
      exact this.keep fun k q => (c2 k (hgf k (has_st q))).trans ((kW k (hfk g hg k (has_st q)).1).trans (k2 g hg k (has_st q)))
  · have hdb := hD.blk.lt
    have e1 : w2.heap[db]? = wr.heap[db]? := hc.block db (Nat.lt_of_lt_of_le hdb hsz) fun r => by
      rcases r with r | r
      · omega
      · exact hD.mb_ne hD.blk r
    exact ((c2 db hfb.2.2.symm).trans ((kW db hdb).trans e1)).trans h.blk
  · refine ((h.ch.trans hc fun k q => ?_).trans (Chg.of_below (Ft db mb fs) hW) fun k q => .inl q).trans c3 fun k q => .inl (.inr (.inr ⟨f, hf, q ▸ .inl rfl⟩))
    rcases q with q | q
    · exact .inr (Nat.le_of_eq q.symm)
    · exact .inl (.inr (.inl q))
theorem C2S.fin {w wr : World} {B db mb : Nat} {fs : List Fl} {z s u : Int} {left : Lit → Bool} {cnt : Nat} (hD : Dk w B db mb fs z s u) (h : C2S w wr B db mb fs z s u left cnt) (hl : ∀ kl, left kl = false) : Dk wr B db mb ((fs.filter keepB).map cutF) z s u := by
  refine ⟨hD.lo, h.blk, ?_, fun g hg => ?_, ?_, ?_⟩
  · have ho := h.rg.owns
    rw [kp_end hl] at ho
    refine omap_tight (n := fs.length) ?_
    rw [map_ent cutF fun f _ => ⟨rfl, rfl⟩]
    exact ho
  · obtain ⟨f, hf, rfl⟩ := List.mem_map.1 hg
    have := h.fl f (List.mem_filter.1 hf).1
    rw [if_neg (by rw [hl]; decide)] at this
    exact this
  · refine List.pairwise_map.2 ((hD.ap.filter _).imp fun {f g} q k q1 q2 => q k (cut_has q1) (cut_has q2))
  · exact List.pairwise_map.2 (hD.ri.filter _)

theorem cut_size (fs : List Fl) : sizeF ((fs.filter keepB).map cutF) ≤ sizeF fs := by
  unfold sizeF
  rw [List.map_map]
  induction fs with
  | nil => exact Nat.le_refl _
  | cons a t ih =>
    rw [List.filter_cons]
    have ha : ((fun f => f.d.length) ∘ cutF) a ≤ a.d.length := by show (a.d.take a.m).length ≤ _; rw [List.length_take]; omega
    split
    · rw [List.map_cons, List.map_cons, List.sum_cons, List.sum_cons]; omega
    · rw [List.map_cons, List.sum_cons]; omega

theorem C2S.drew {w wr : World} {B db mb : Nat} {fs : List Fl} {z s u : Int} {left : Lit → Bool} {cnt : Nat} (h : C2S w wr B db mb fs z s u left cnt) : C2S w wr.drew B db mb fs z s u left cnt :=
  ⟨h.rg, fun f hf => (h.fl f hf).keep fun _ _ => rfl, h.blk, h.ch.drew⟩
theorem keep_m {f : Fl} (h : f.m ≠ 0) : keepB f = true := by unfold keepB; rw [decide_eq_false h]; rfl
theorem keep_h {f : Fl} (h : f.h = true) : keepB f = true := by unfold keepB; rw [h, Bool.not_true, Bool.and_false]; rfl
theorem keep_no {f : Fl} (h : f.m = 0) (h2 : f.h = false) : keepB f = false := by unfold keepB; rw [decide_eq_true h, h2]; rfl

set_option maxRecDepth 100000 in
set_option maxHeartbeats 8000000 in
theorem crash_ok {B db mb : Nat} {fs : List Fl} {z u : Int} {w : World} (h : DkAt w B db mb fs z u) (K : Int) (hK1 : -9223372036854775808 ≤ K) (hK2 : K < 9223372036854775808) (hz : sizeF fs ≤ 16777216) (hok : ∀ f ∈ fs, f.m + sumR f.l = f.d.length) (hq : sumQ (fun f => f.l.length) fs ≤ 100000) (hns : ∀ f ∈ fs, f.n.size ≤ maxLen) :
    Calls Try.prog 28 #[.pointer (some ⟨db, 0, none⟩), .int .i64 K] w fun e w' => e = .returned (.tuple #[]) ∧ ∃ l, l.Perm (allP fs) ∧ l.Pairwise (fun x y => x.2.1 ≤ y.2.1) ∧ DkAt w' B db mb (((fs.map (mF l K)).filter keepB).map cutF) z u ∧ Chg (Ft db mb fs) w w' := by
  have HD := hid h
  have HW := hid (waiting_ok h hq)
  have HLT : Hid (∀ k, Ft db mb fs k → k < w.heap.size) := fun k q => (h.ft q).2
  have HZ := hid hz
  have HOk := hid hok
  have HK : Hid (-9223372036854775808 ≤ K ∧ K < 9223372036854775808) := ⟨hK1, hK2⟩
  have HQ := hid hq
  clear h hq hz hok hK1 hK2
  go_enter Try.func28, Try.ntmps28
  go_wp2_with (go_at_call 43; refine HW.out.mono ?_; rintro e w1 ⟨v, l, rfl, hph, hpm, hpw, hb1⟩; have HPm := hid hpm; have HPw := hid hpw; have B1 := hid hb1; have HPh := hid hph; obtain ⟨A0, c0, e0, _⟩ := hph; obtain ⟨n, hn⟩ : ∃ n, l.length = n := ⟨_, rfl⟩; rw [hn] at e0; subst e0; have HN := hid hn; clear hpm hpw hb1 hn)
  have HST : Hid (C1S w w1 B db mb fs z (sizeF fs : Int) u K (.slice A0 n c0) l 0) := ⟨by rw [List.take_zero, show fs.map (mF [] K) = fs by rw [show mF [] K = id from rfl, List.map_id]]; exact HD.out.below B1.out, HPh.out, Chg.of_below _ B1.out⟩
  have hnb : Hid (n ≤ 1000000) := by
    have h1 := HPm.out.length_eq
    rw [allP_len, HN.out] at h1
    have := HQ.out
    unfold Hid
    omega
  clear HPh
  go_loopw [1, 12] (fun vk vi wr => ∃ k : Nat, vi = .int .i64 (k : Int) ∧ k ≤ n ∧ vk = .int .i64 (kpl (l.take k) K) ∧ Hid (C1S w wr B db mb fs z (sizeF fs : Int) u K (.slice A0 n c0) l k)) (fun _ vi _ => n - (intOf vi).toNat)
  case atStart => exact ⟨0, rfl, Nat.zero_le _, rfl, HST⟩
  case round =>
    obtain ⟨k, rfl, hk, rfl, HC⟩ := hrel
    by_cases hkn : k < n
    · have hkb : k < 1000001 := by have := hnb.out; omega
      have hkl : k < l.length := by rw [HN.out]; exact hkn
      obtain ⟨A2, f, C2, ef, hp⟩ := pc_mem (HPm.out.mem_iff.1 (List.getElem_mem hkl))
      obtain ⟨A3, c3, e3, hh⟩ := HC.out.ph
      obtain ⟨g, e4, hgB, x0, x1, x2⟩ := hh k hkl
      rw [hp] at x0
      have e5 : A0 = some ⟨g, 0, none⟩ := by injection e3 with e6 _ _; rw [e6, e4]
      subst e5
      have hF := HC.out.dk.fl (mF (l.take k) K f) (List.mem_map_of_mem (by rw [ef]; simp))
      obtain ⟨M, hM⟩ : ∃ M, (mF (l.take k) K f).m = M := ⟨_, rfl⟩
      obtain ⟨S, hS⟩ : ∃ S, l[k].2.2 = S := ⟨_, rfl⟩
      obtain ⟨KK, hKK⟩ : ∃ KK, kpl (l.take k) K = KK := ⟨_, rfl⟩
      have hcell : wr.cell? ⟨f.b, 1, none⟩ = some (.int .i64 (M : Int)) := by rw [← hM]; exact hF.blk.cell 1
      have hfr : wr.frozen? ⟨f.b, 1, none⟩ = false := hF.blk.free 1
      rw [hS] at x2
      have hrng := kpl_range (l.take k) K HK.out.1 HK.out.2
      rw [hKK] at hrng
      have hmm := kp_eq KK S
      obtain ⟨mn, hmn⟩ : ∃ mn, min KK (S : Int) = mn := ⟨_, rfl⟩
      rw [hmn] at hmm
      have hkS := kp_le KK S
      obtain ⟨P, hP⟩ : ∃ P, kp KK S = P := ⟨_, rfl⟩
      rw [hP] at hmm hkS
      have hMS : M + S ≤ 16777216 := by
        have hfin : f ∈ fs := by rw [ef]; simp
        have h1 := m_bound HPm.out HD.out.ap hfin (HOk.out f hfin) K hkl hp
        rw [hM, hS] at h1
        have h2 := sizeF_le hfin
        have h3 := HZ.out
        omega
      have hw1 : IntKind.i64.wrap ((M : Int) + (P : Int)) = ((M + P : Nat) : Int) := by rw [IntKind.wrap_i64]; omega
      have hw2 : IntKind.i64.wrap (KK - (P : Int)) = KK - (P : Int) := by rw [IntKind.wrap_i64]; omega
      have HE := hid hp
      have HEf := hid ef
      have HM2 := hid hM
      have HS2 := hid hS
      have HKK := hid hKK
      have HP2 := hid hP
      have hflt := hF.blk.lt
      obtain ⟨x0b, hx0b⟩ : ∃ q : Int, (l[k].2.1 : Int) = q := ⟨_, rfl⟩
      rw [hx0b] at x1
      rw [hKK]
      have HKL := hid hkl
      clear ef hp e3 hh e4 hF hM hS hKK hP hrng hMS hkS hx0b
      go_upto_region 4 with (fail)
      obtain ⟨nb, hnbk⟩ : ∃ nb, wr.heap.size = nb := ⟨_, rfl⟩
      refine wp_ltc (fun W => Hid (C1S w W B db mb fs z (sizeF fs : Int) u K (.slice (some ⟨g, 0, none⟩) n c0) l k ∧ Blk W wr.heap.size 83 #[.pointer (some ⟨f.b, 0, none⟩), .int .i64 x0b, .int .i64 (S : Int)])) ⟨HC.out.below (below_new wr _), Blk.new wr 83 _⟩ (fun W HX => ?_)
      rw [hnbk] at HX ⊢
      have n0 : W.cell? ⟨nb, 0, none⟩ = some (.pointer (some ⟨f.b, 0, none⟩)) := HX.out.2.cell 0
      have hF := HX.out.1.dk.fl (mF (l.take k) K f) (List.mem_map_of_mem (by rw [HEf.out]; simp))
      have n1 : W.cell? ⟨f.b, 1, none⟩ = some (.int .i64 (M : Int)) := by rw [← HM2.out]; exact hF.blk.cell 1
      have n2 : W.frozen? ⟨f.b, 1, none⟩ = false := hF.blk.free 1
      clear hnbk hcell hfr x0 x1 x2 hF HC hflt
      go_wp2
      go_roundw
      case rel =>
        refine ⟨k + 1, by go_num, by omega, ?_, HX.out.1.step HLT.out HD.out.ap HKL.out HEf.out HE.out (by rw [HM2.out, HS2.out, HKK.out, HP2.out])⟩
        rw [kpl_step l K HKL.out, HKK.out, HS2.out, HP2.out]
      case measure => simp [intOf]; omega
    · obtain rfl : k = n := by omega
      go_upto_region 7 with (fail)
      have etk : l.take k = l := List.take_of_length_le (by rw [HN.out]; exact Nat.le_refl _)
      obtain ⟨d1, d2, d3⟩ := HC.out
      rw [etk] at d1
      obtain ⟨fs2, hfs2⟩ : ∃ fs2, fs.map (mF l K) = fs2 := ⟨_, rfl⟩
      have hmd : ∀ f ∈ fs2, f.m ≤ f.d.length := fun f hf => by
        rw [← hfs2] at hf
        obtain ⟨g, hg, rfl⟩ := List.mem_map.1 hf
        exact mF_bound HPm.out HD.out.ap hg (HOk.out g hg) K
      have hsz2 : sizeF fs2 = sizeF fs := by rw [← hfs2]; unfold sizeF; rw [List.map_map]; rfl
      have hft : ∀ k, Ft db mb fs2 k → Ft db mb fs k := fun k q => by rw [← hfs2] at q; exact ft_map (mF l K) (fun _ _ r => r) q
      rw [hfs2] at d1
      have D1 := hid d1
      have C1 := hid d3
      have HMD := hid hmd
      have HSZ := hid hsz2
      have HFT := hid hft
      have HFS := hid hfs2
      have HNS : Hid (∀ f ∈ fs2, f.n.size ≤ maxLen) := fun f hf => by
        rw [← hfs2] at hf
        obtain ⟨g, hg, rfl⟩ := List.mem_map.1 hf
        exact hns g hg
      have m0 : wr.cell? ⟨db, 0, none⟩ = some (.map (some mb)) := d1.blk.cell 0
      clear d1 d2 d3 etk hmd hsz2 hft HC
      obtain ⟨W2, hW2⟩ : ∃ W2, W2 = wr := ⟨_, rfl⟩
      subst hW2
      go_wp2_with (first | (at_range; refine wpList_range_own _ rfl _ 57 rfl 9 72 strK Try.underlying57 Rp mb _ _ rfl D1.out.map ?_; intro w0 hrg0 hg0 hs0) | go_in)
      go_frame
      have HST2 : Hid (C2S W2 w0 B db mb fs2 z (sizeF fs : Int) u (Maps.has (mapD fs2)) (Maps.size (mapD fs2))) := ⟨by rw [kp_start]; exact hrg0, fun f hf => by
        rw [if_pos (show Maps.has (mapD fs2) f.key = true from (has_iff fs2 f.n).2 ⟨f, hf, rfl⟩)]
        exact (D1.out.fl f hf).keep fun k q => hg0.block k (D1.out.lts hf q) (by simp), (hg0.block db D1.out.blk.lt (by simp)).trans D1.out.blk, Chg.of_grown hg0 fun k e => by cases e⟩
      clear hrg0 hg0 hs0 m0
      go_loopw [7] (fun _ wr => ∃ (left : Lit → Bool) (cnt : Nat), Hid (C2S W2 wr B db mb fs2 z (sizeF fs : Int) u left cnt)) (fun _ wr => wr.rangeLeft mb W2.heap.size)
      case atStart => exact ⟨_, _, HST2⟩
      case round =>
        obtain ⟨left, cnt, HR⟩ := hrel
        obtain ⟨wo, hwo⟩ : ∃ x, x = wr := ⟨_, rfl⟩
        subst hwo
        go_wp2_with (at_next; refine wpList_next_ranges _ rfl _ rfl 9 strK Rp Go.Proofs.encStr ptrB (fun key kl hk => by obtain ⟨x, hx, _⟩ := Maps.keyOf_str Try.underlying9 hk; exact ⟨x, hx⟩) (fun v y hv => Rp_inv hv) mb W2.heap.size fs2.length (mapD (kpF left fs2)) left cnt rfl HR.out.rg ?_ ?_)
        · intro hc0 hl0
          have hfin := HR.out.fin D1.out hl0
          have HFin := hid hfin
          have hsz3 := cut_size fs2
          have HT := hid (total_size hfin (by show sizeF _ ≤ _; have := HZ.out; have := HSZ.out; omega))
          clear hc0 hfin hsz3
          go_wp2_with (go_at_call 40; refine HT.out.mono ?_; rintro e w3 ⟨rfl, hb3⟩; have B3 := hid hb3; have c2 : w3.cell? ⟨db, 2, none⟩ = some (.int .i64 (sizeF fs : Int)) := (HFin.out.below hb3).blk.cell 2; have f2 : w3.frozen? ⟨db, 2, none⟩ = false := (HFin.out.below hb3).blk.free 2; clear hb3)
          go_end0
          have hE := (HFin.out.below B3.out).own (z' := z) (s' := ((sizeF ((fs2.filter keepB).map cutF) : Nat) : Int)) (u' := u) 2 (.int .i64 ((sizeF ((fs2.filter keepB).map cutF) : Nat) : Int)) rfl
          refine ⟨rfl, l, HPm.out, HPw.out, ?_, ?_⟩
          · rw [HFS.out]; exact hE.1
          · exact ((C1.out.trans (HR.out.ch.mono fun k q => HFT.out k q) fun k q => .inl q).trans (Chg.of_below (Ft db mb fs) B3.out) fun k q => .inl q).trans hE.2 fun k q => .inl (.inl q)
        · intro x cc kl y1 y2 w1 cnt1 hkey hlk hv hat hrg1 hlt hg1 hs1 hen
          obtain ⟨A1, f, C1', e1, e2, e3, e4⟩ := next_file (y := (y1, y2)) (kp_rise D1.out.ri left) hkey hv hat
          subst e4
          have hen2 : (Instr.entry (.pointer (some ⟨W2.heap.size, 0, none⟩))).run Try.prog w1 = .ok (.tuple #[.string f.n, .pointer (some ⟨f.b, 0, none⟩)]) w1 := by rw [e2]; exact hen
          clear hen
          have hff : f ∈ fs2 := (List.mem_filter.1 (by rw [show fs2.filter (fun f => left f.key || keepB f) = A1 ++ f :: C1' from e1]; simp : f ∈ fs2.filter (fun f => left f.key || keepB f))).1
          rw [e3] at hlk hrg1
          have hFw : FlAt w1 B f := by
            have := HR.out.fl f hff
            rw [if_pos hlk] at this
            refine this.keep fun k q => hg1.block k (this.lt q).2 fun e => ?_
            have := D1.out.lts hff q
            have := Option.some.inj e
            omega
          have HFw := hid hFw
          have hml := HMD.out f hff
          obtain ⟨Ad, qd, ed, qd1, _, _, qd2⟩ := hFw.row.sla
          obtain ⟨nd, hnd⟩ : ∃ nd, f.d.length = nd := ⟨_, rfl⟩
          rw [hnd] at ed hml qd1
          obtain ⟨mm, hmm⟩ : ∃ mm, f.m = mm := ⟨_, rfl⟩
          have hcut : cutS f = .slice Ad mm qd := by unfold cutS; rw [ed, hmm]
          have HCut := hid hcut
          have HLTm := hid (show w1.rangeLeft mb W2.heap.size < wo.rangeLeft mb W2.heap.size by rw [hrg1.left_eq, HR.out.rg.left_eq]; exact hlt)
          have HRg := hid hrg1
          have HG1 := hid hg1
          have HFF := hid hff
          have HLK := hid hlk
          have HE1 := hid e1
          have HKeq := hid e3
          have md0 : w1.cell? ⟨db, 0, none⟩ = some (.map (some mb)) := (World.cell?_of_block (hg1.block db HR.out.blk.lt fun e => by have := Option.some.inj e; have := D1.out.blk.lt; omega)).trans (HR.out.blk.cell 0)
          have HMM := hid hmm
          have HND := hid hnd
          have HED := hid ed
          have m1 : w1.cell? ⟨f.b, 1, none⟩ = some (.int .i64 (mm : Int)) := by rw [← hmm]; exact hFw.blk.cell 1
          have m3 : w1.cell? ⟨f.b, 3, none⟩ = some (.bool f.h) := hFw.blk.cell 3
          have m00 : w1.cell? ⟨f.b, 0, none⟩ = some (.slice Ad nd qd) := by rw [← ed]; exact hFw.blk.cell 0
          have hle : mm ≤ qd := by rw [hmm] at hml; omega
          clear hkey hlk hv hat hrg1 hlt hg1 hs1 e1 e2 e3 hff hFw hcut hmm hnd ed hml qd1
          have mixed : Try.prog.follows .mixedOrders = true := by kernel_rfl
          have late : Try.prog.follows .lateStores = true := by kernel_rfl
          have HLTm2 := HLTm
          rcases Nat.eq_zero_or_pos mm with hm0 | hm0
          · obtain ⟨hh, hhe⟩ : ∃ hh, f.h = hh := ⟨_, rfl⟩
            rw [hhe] at m3
            have HHE := hid hhe
            clear hhe
            have HM0 := hid hm0
            clear hm0
            have m1z : w1.cell? ⟨f.b, 1, none⟩ = some (.int .i64 0) := by rw [m1, HM0.out]; rfl
            have HKY : Hid (keyOf Try.prog 9 (.string f.n) = some f.key) := hid (keyS f.n (HNS.out f HFF.out))
            cases hh
            · skip
              go_upto_region 12 with (at_delete; refine wpList_delete_ranges _ rfl (.tmp 60) (.tmp 61) 57 9 rfl 72 strK Try.underlying57 Rp mb W2.heap.size fs2.length _ _ cnt1 rfl HRg.out (.string f.n) f.key rfl HKY.out ?_; intro w5 cnt2 hrg2 hle2 hturn; rw [Maps.strike_twice] at hrg2; have HR2 := hid hrg2; have HT2 := hid hturn.grown; have HL2 := hid hle2; clear hrg2 hle2 hturn)
              have HF5 : Hid (FlAt w5 B f) := HFw.out.keep fun k q => HT2.out.block k (HFw.out.lt q).2 fun e => (D1.out.db_ne HFF.out q).2 (Option.some.inj e)
              have n1 : w5.cell? ⟨f.b, 1, none⟩ = some (.int .i64 0) := by have := HF5.out.blk.cell 1; rw [HMM.out, HM0.out] at this; exact this
              have n00 : w5.cell? ⟨f.b, 0, none⟩ = some (.slice Ad nd qd) := by have := HF5.out.blk.cell 0; rw [HED.out] at this; exact this
              have hzz : mm = 0 := HM0.out
              have HX : Hid (C2S W2 ((w5.setCell ⟨f.b, 0, none⟩ (.slice Ad 0 qd)).setCell ⟨f.b, 2, none⟩ (.slice none 0 0)) B db mb fs2 z (sizeF fs : Int) u (fun z => left z && !z.sameKey f.key) cnt2) := C2S.step (w2 := w5) D1.out HR.out HFF.out HLK.out (HMD.out f HFF.out) (by
                have hd := HR2.out
                have hri := kp_rise D1.out.ri left
                rw [HE1.out] at hri hd
                rw [kp_go D1.out.ri HE1.out (keep_no (by rw [HMM.out, HM0.out]) HHE.out)]
                have e7 : (mapD (A1 ++ f :: C1')).del f.key = mapD (A1 ++ C1') := del_some hri
                rw [e7] at hd
                exact hd) ((Chg.of_grown (S := fun k => k = W2.heap.size ∨ k = mb) HG1.out fun k e => .inl (.inl (Option.some.inj e).symm)).trans (Chg.of_grown (S := fun k => k = W2.heap.size ∨ k = mb) HT2.out fun k e => .inl (.inr (Option.some.inj e).symm)) fun k q => .inl q) ⟨w5, Below.refl _ _, by rw [HCut.out, hzz]⟩
              clear hzz
              have m2 : w5.cell? ⟨f.b, 2, none⟩ = some f.lv := HF5.out.blk.cell 2
              have f0 : w5.frozen? ⟨f.b, 0, none⟩ = false := HF5.out.blk.free 0
              have f2 : w5.frozen? ⟨f.b, 2, none⟩ = false := HF5.out.blk.free 2
              go_region
              all_goals (
                go_wp2
                go_roundw
                case rel => exact ⟨_, _, HX.out.drew⟩
                case measure =>
                  have e1 := HX.out.drew.rg.left_eq
                  have := HLTm.out
                  rw [HRg.out.left_eq] at this
                  rw [e1]
                  have := HL2.out
                  omega)
            · skip
              have HX : Hid (C2S W2 ((w1.setCell ⟨f.b, 0, none⟩ (.slice Ad 0 qd)).setCell ⟨f.b, 2, none⟩ (.slice none 0 0)) B db mb fs2 z (sizeF fs : Int) u (fun z => left z && !z.sameKey f.key) cnt1) := C2S.step (w2 := w1) D1.out HR.out HFF.out HLK.out (HMD.out f HFF.out) (by rw [kp_stay HFF.out D1.out.ri (keep_h HHE.out)]; exact HRg.out) (Chg.of_grown HG1.out fun k e => .inl (.inl (Option.some.inj e).symm)) ⟨w1, Below.refl _ _, by rw [HCut.out, HM0.out]⟩
              go_upto_region 12 with (fail)
              have m2 : w1.cell? ⟨f.b, 2, none⟩ = some f.lv := HFw.out.blk.cell 2
              have f0 : w1.frozen? ⟨f.b, 0, none⟩ = false := HFw.out.blk.free 0
              have f2 : w1.frozen? ⟨f.b, 2, none⟩ = false := HFw.out.blk.free 2
              go_region
              all_goals (
                go_wp2
                go_roundw
                case rel => exact ⟨_, _, HX.out.drew⟩
                case measure =>
                  have e1 := HX.out.drew.rg.left_eq
                  have := HLTm.out
                  rw [HRg.out.left_eq] at this
                  rw [e1]
                  omega)
          · have hb0 : ((mm : Int) == 0) = false := by rw [beq_eq_false_iff_ne]; omega
            have HX : Hid (C2S W2 ((w1.setCell ⟨f.b, 0, none⟩ (.slice Ad mm qd)).setCell ⟨f.b, 2, none⟩ (.slice none 0 0)) B db mb fs2 z (sizeF fs : Int) u (fun z => left z && !z.sameKey f.key) cnt1) := C2S.step (w2 := w1) D1.out HR.out HFF.out HLK.out (HMD.out f HFF.out) (by rw [kp_stay HFF.out D1.out.ri (keep_m (by rw [HMM.out]; omega))]; exact HRg.out) (Chg.of_grown HG1.out fun k e => .inl (.inl (Option.some.inj e).symm)) ⟨w1, Below.refl _ _, by rw [HCut.out]⟩
            go_upto_region 12 with (fail)
            have m2 : w1.cell? ⟨f.b, 2, none⟩ = some f.lv := HFw.out.blk.cell 2
            have f0 : w1.frozen? ⟨f.b, 0, none⟩ = false := HFw.out.blk.free 0
            have f2 : w1.frozen? ⟨f.b, 2, none⟩ = false := HFw.out.blk.free 2
            go_region
            all_goals (
              go_wp2
              go_roundw
              case rel => exact ⟨_, _, HX.out.drew⟩
              case measure =>
                have e1 := HX.out.drew.rg.left_eq
                have := HLTm.out
                rw [HRg.out.left_eq] at this
                rw [e1]
                omega)
end Go.Proofs.Ytofkfafdodhmdaa
