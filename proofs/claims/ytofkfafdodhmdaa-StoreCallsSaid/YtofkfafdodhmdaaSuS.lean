/- The document's Write where it writes. Conditions: the disk stands. -/
import Derived.Test.YtofkfafdodhmdaaSuR
import Derived.Test.YtofkfafdodhmdaaRgT
namespace Go.Proofs.Ytofkfafdodhmdaa
open Go.RowKit

/-- What a round reads. -/
abbrev LzS (rb g i bb o : Nat) (fv lv : Value) (no x : Int) (W : World) : Prop := W.cell? ⟨rb, 0, none⟩ = some fv ∧ W.cell? ⟨rb, 1, none⟩ = some lv ∧ W.cell? ⟨g, i * 4 + 1, none⟩ = some (.int .i64 no) ∧ W.cell? ⟨bb, o, none⟩ = some (.int .u8 x) ∧ W.frozen? ⟨rb, 1, none⟩ = false
theorem lzs_grown {W W' : World} {rb g i bb o : Nat} {fv lv : Value} {no x : Int} {r : Option Nat} (h : LzS rb g i bb o fv lv no x W) (hg : W.grownBy W' r) (hr : ∀ q, r = some q → q ≠ rb ∧ q ≠ g ∧ q ≠ bb) : LzS rb g i bb o fv lv no x W' := by
  obtain ⟨h0, h1, h2, h3, h4⟩ := h
  have k0 : W'.heap[rb]? = W.heap[rb]? := hg.block rb (cell_lt h0) fun e => (hr rb e.symm).1 rfl
  exact ⟨(World.cell?_of_block (a := ⟨rb, 0, none⟩) k0).trans h0, (World.cell?_of_block (a := ⟨rb, 1, none⟩) k0).trans h1, (World.cell?_of_block (a := ⟨g, i * 4 + 1, none⟩) (hg.block g (cell_lt h2) fun e => (hr g e.symm).2.1 rfl)).trans h2, (World.cell?_of_block (a := ⟨bb, o, none⟩) (hg.block bb (cell_lt h3) fun e => (hr bb e.symm).2.2 rfl)).trans h3, (World.frozen?_of_block (a := ⟨rb, 1, none⟩) k0).trans h4⟩
theorem lzs_below {W W' : World} {rb g i bb o : Nat} {fv lv : Value} {no x : Int} (h : LzS rb g i bb o fv lv no x W) (hb : Below W.heap.size W W') : LzS rb g i bb o fv lv no x W' := lzs_grown (r := none) h ⟨hb.os, hb.tape, hb.output, hb.size, fun k hk _ => hb.block k hk⟩ fun q e => (by cases e)
/-- One byte more that doesn't last. -/
theorem rke_lz {w wr w1 w2 : World} {B rb nx : Nat} {fv lv fv' lv' v2 : Value} {ms ms' : List Rm} {ls' ls2 : List Lm} {z : Int} (h : RkE w wr B rb fv lv ms fv' lv' ms' ls' z nx) (hb : Below wr.heap.size wr w1) (hr : LRow w2 B v2 ls2) (hg : w1.grownBy w2 lv'.ownBlock) (hl : v2.ownBlock = lv'.ownBlock ∨ v2.ownBlock = some w1.heap.size) :
    RkE w (w2.setCell ⟨rb, 1, none⟩ v2) B rb fv lv ms fv' v2 ms' ls2 z nx := by
  refine ⟨h.rk.bytes (fun k q => ?_) hr, h.ch.trans (((Chg.of_below (Rt rb fv' lv' ms') hb).trans (Chg.of_grown (S := Rt rb fv' lv' ms') hg fun k e => .inl (.inr (.inr (.inl e)))) fun k q => .inl q).trans (Chg.of_set w2 rb 1 v2 (S := Rt rb fv' lv' ms') (.inl rfl)) fun k q => .inl q) h.sub, fun k q => ?_⟩
  · have hk : k < wr.heap.size ∧ lv'.ownBlock ≠ some k := by
      rcases q with rfl | q | q | ⟨m, hm, q⟩
      · refine ⟨h.rk.blk.lt, fun e => ?_⟩
        obtain ⟨cur, hc⟩ := own_blk h.rk.lr e
        exact blk_ne0 hc h.rk.blk (by decide) rfl
      · obtain ⟨cur, hc⟩ := own_blk h.rk.fr q
        refine ⟨hc.lt, fun e => ?_⟩
        obtain ⟨cur2, hc2⟩ := own_blk h.rk.lr e
        exact blk_ne0 hc2 hc (by decide) rfl
      · cases q
      · obtain ⟨cur, hc⟩ := own_blk (h.rk.sr m hm) q
        refine ⟨hc.lt, fun e => ?_⟩
        obtain ⟨cur2, hc2⟩ := own_blk h.rk.lr e
        exact blk_ne0 hc2 hc (by decide) rfl
    exact (hg.block k (Nat.lt_of_lt_of_le hk.1 hb.size) fun e => hk.2 e.symm).trans (hb.block k hk.1)
  · rcases q with q | q | q | q
    · exact h.sub k (.inl q)
    · exact h.sub k (.inr (.inl q))
    · rcases hl with r | r
      · exact h.sub k (.inr (.inr (.inl (r ▸ q))))
      · rw [r] at q
        have := Option.some.inj q
        have h1 := h.ch.size
        have h2 := hb.size
        exact .inr (by omega)
    · exact h.sub k (.inr (.inr (.inr q)))
theorem sla_lt {w : World} {v : Value} {l : List UInt8} (h : SlA w v l) : ∀ k, v.ownBlock = some k → l.length = 0 ∨ k < w.heap.size := fun k hk => by
  obtain ⟨A, c, rfl, _, _, h4, _⟩ := h
  rcases Nat.eq_zero_or_pos l.length with e | e
  · exact .inl e
  · obtain ⟨b, off, rfl, hh⟩ := h4 e
    obtain rfl : b = k := by injection hk
    exact .inr (hh.lt e)
theorem lz_more (ls : List Lm) (b : List UInt8) (no k : Nat) (hk : k < b.length) : (ls ++ (b.take (k + 1)).map fun y => (no, y)) = (ls ++ (b.take k).map fun y => (no, y)) ++ [(no, b[k])] := by
  rw [List.take_succ_eq_append_getElem hk, List.map_append, List.append_assoc]
  rfl
theorem lz_new (W : World) (no : Nat) (y : UInt8) : ∀ j u, (encL (no, y))[j]? = some u → (W.alloc (.cells #[.int .i64 (no : Int), .int .u8 (y.toNat : Int)] 66)).cell? ((⟨W.heap.size, 0, Option.none⟩ : Addr).add j) = some u := fun j u hu => by
  rw [add_zero_off, Nat.zero_add, (Blk.new W 66 #[.int .i64 (no : Int), .int .u8 (y.toNat : Int)]).cell j, ← Array.getElem?_toList]
  exact hu

set_option maxRecDepth 100000 in
set_option maxHeartbeats 8000000 in
theorem rwrite_yes {w : World} {B rb nx : Nat} {fv lv : Value} {P Q : List Rm} {m : Rm} {ls : List Lm} {z : Int} (h : Rk w B rb fv lv (P ++ m :: Q) ls z nx) (hx : rightB m.n = true) (hn : ∀ m' ∈ P ++ m :: Q, m'.n.size ≤ maxLen) (hl : (P ++ m :: Q).length ≤ 100000) (hr : RisM (P ++ m :: Q)) (hz : 0 ≤ z ∧ z ≤ 16777216) (v : Value) (b : List UInt8) (hv : SlA w v b) (hvb : 0 < b.length → ∀ k, v.ownBlock = some k → ¬ Rt rb fv lv (P ++ m :: Q) k) (hf : (sizeM (P ++ m :: Q) ls : Int) + (b.length : Int) ≤ z) (hls : ls.length + b.length ≤ 1000000) :
    Calls Try.prog 13 #[.pointer (some ⟨rb, 0, none⟩), .string m.n, v] w fun e w' => e = .returned (.int .i64 0) ∧ ∃ lv', RkE w w' B rb fv lv (P ++ m :: Q) fv lv' (P ++ m :: Q) (ls ++ b.map fun y => (m.no, y)) z nx := by
  obtain ⟨x1, x2⟩ := right_in hx
  have HX : Hid (m.n.size ≤ maxLen) := by unfold Hid maxLen; omega
  have HF := hid fun W (hW : Below w.heap.size w W) => rfind_ok (h.below hW) m.n HX.out hn (by omega)
  have HFE := hid fun i ok (hE : FindE m.n (P ++ m :: Q) i ok) => find_yes hE hr rfl
  have hsz : sizeM (P ++ m :: Q) ls ≤ 16777216 := by omega
  have HSz := hid fun k => rsize_same (h.drewN k) (by omega) (by omega)
  have m2 : w.cell? ⟨rb, 2, none⟩ = some (.int .i64 z) := h.blk.cell 2
  obtain ⟨s, hs⟩ : ∃ s, sizeM (P ++ m :: Q) ls = s := ⟨_, rfl⟩
  rw [hs] at HSz hf hsz
  obtain ⟨n, hnn⟩ : ∃ n, b.length = n := ⟨_, rfl⟩
  have HN := hid hnn
  have HV := hid hv
  have HVb := hid hvb
  have HVl : Hid (∀ k, v.ownBlock = some k → b.length = 0 ∨ k < w.heap.size) := sla_lt hv
  have HLs := hid hls
  obtain ⟨A, c, rfl, _⟩ := hv
  rw [hnn] at hf HV HVb HVl ⊢
  have hlen : P.length < (P ++ m :: Q).length := by simp
  obtain ⟨nf, hnf⟩ : ∃ nf, (P ++ m :: Q).length = nf := ⟨_, rfl⟩
  obtain ⟨Af, cf, rfl⟩ := mrow_form h.fr hnf
  obtain ⟨g, rfl, _⟩ := mrow_at h.fr hlen
  rw [hnf] at hlen hl
  obtain ⟨i, hi⟩ : ∃ i, P.length = i := ⟨_, rfl⟩
  have HPi := hid hi
  rw [hi] at hlen HFE
  obtain ⟨no, hno⟩ : ∃ no, m.no = no := ⟨_, rfl⟩
  have HNo := hid hno
  rw [hno]
  obtain ⟨y, hy⟩ : ∃ y, m.n = y := ⟨_, rfl⟩
  rw [hy] at x1 x2 HF HFE ⊢
  have x3 : y.size ≤ 9223372036854775807 := by omega
  have w1 : IntKind.i64.wrap (z - (s : Int)) = z - (s : Int) := by rw [IntKind.wrap_i64]; omega
  have g1 : ¬ z - (s : Int) < (n : Int) := by omega
  have HK := hid h
  have hn1 : n ≤ 1000000 := by rw [← hnn]; omega
  clear h hx hs hnn hvb hls hnf hi hno hr hn hf hy HX
  go_enter Try.func13, Try.ntmps13
  go_upto_region 3 with (fail)
  go_quiet (first | (go_at_call 23; refine Calls.quiet_of_same (HSz.out _)))
  have HB1 := hid (Go.below_drewN (Below.refl w.heap.size w) nq)
  obtain ⟨W1, hW1⟩ : ∃ W1, w.drewN nq = W1 := ⟨_, rfl⟩
  rw [hW1] at HB1 ⊢
  clear hW1 m2
  go_upto_region 6 with (go_at_call 34; refine (HF.out _ HB1.out).mono ?_; rintro e w2 ⟨i', ok, rfl, hE, hb⟩; obtain ⟨rfl, rfl⟩ := HFE.out i' ok hE; have HB2 := hid (HB1.out.trans (hb.mono HB1.out.size)); clear hE hb)
  have HK0 : Hid (RkE w w2 B rb (.slice (some ⟨g, 0, none⟩) nf cf) lv (P ++ m :: Q) (.slice (some ⟨g, 0, none⟩) nf cf) lv (P ++ m :: Q) ls z nx) := ⟨HK.out.below HB2.out, Chg.of_below _ HB2.out, fun k q => .inl q⟩
  clear HF HFE HSz HB1 HB2
  go_wp2
  go_loopw [9] (fun vk wr => ∃ (k : Nat) (lv' : Value), vk = .int .i64 (k : Int) ∧ k ≤ n ∧ Hid (RkE w wr B rb (.slice (some ⟨g, 0, none⟩) nf cf) lv (P ++ m :: Q) (.slice (some ⟨g, 0, none⟩) nf cf) lv' (P ++ m :: Q) (ls ++ (b.take k).map fun y => (no, y)) z nx)) (fun vk _ => n - (intOf vk).toNat)
  case atStart => exact ⟨0, _, rfl, Nat.zero_le _, by rw [List.take_zero, List.map_nil, List.append_nil]; exact HK0.out⟩
  case round =>
    obtain ⟨k, lv', rfl, hk, HI⟩ := hrel
    by_cases hkn : k < n
    · have hkl : k < b.length := by rw [HN.out]; exact hkn
      have m0 := HI.out.rk.blk.cell 0
      have m1 := HI.out.rk.blk.cell 1
      have f1 := HI.out.rk.blk.free 1
      have hlen : P.length < (P ++ m :: Q).length := by simp
      obtain ⟨g', e, hc⟩ := mrow_at HI.out.rk.fr hlen
      obtain rfl : g = g' := by injection e with e; injection e
      have hat : (P ++ m :: Q)[P.length]'hlen = m := by simp
      rw [hat] at hc
      have x1 := hc 1 _ (by omega) rfl
      rw [HPi.out, HNo.out] at x1
      obtain ⟨bb, off, rfl, hh⟩ := (HV.out.chg HI.out.ch (HVb.out (by omega))).hold (by omega)
      have x2 := hh k hkl
      rw [List.getD_eq_getElem?_getD, List.getElem?_eq_getElem hkl, Option.getD_some] at x2
      have HMo := hid (lz_more ls b no k hkl)
      have HLR := hid HI.out.rk.lr
      obtain ⟨p, hp⟩ : ∃ p, (ls ++ (b.take k).map fun y => (no, y)).length = p := ⟨_, rfl⟩
      have hpb : p ≤ 2000000 := by
        rw [← hp, List.length_append, List.length_map, List.length_take]
        have := HLs.out
        omega
      obtain ⟨A2, c2, rfl⟩ := lrow_form HI.out.rk.lr hp
      have HPp := hid hp
      have NB : Hid (∀ q, (Value.slice A2 p c2).ownBlock = some q → q ≠ rb ∧ q ≠ g ∧ q ≠ bb) := fun q hq => by
        obtain ⟨cur, hcu⟩ := own_blk HI.out.rk.lr hq
        obtain ⟨cur2, hcu2⟩ := own_blk HI.out.rk.fr (g := g) rfl
        refine ⟨blk_ne0 hcu HI.out.rk.blk (by decide), blk_ne0 hcu hcu2 (by decide), fun e => ?_⟩
        subst e
        rcases HI.out.sub q (.inr (.inr (.inl hq))) with r | r
        · exact HVb.out (by omega) q rfl r
        · rcases HVl.out q rfl with r2 | r2
          · omega
          · exact absurd r2 (Nat.not_lt.2 r)
      obtain ⟨y, hy⟩ : ∃ y, b[k] = y := ⟨_, rfl⟩
      rw [hy] at x2 HMo
      have HS : LzS rb g i' bb (off + k) (.slice (some ⟨g, 0, none⟩) nf cf) (.slice A2 p c2) (no : Int) (y.toNat : Int) wr := ⟨m0, m1, x1, x2, f1⟩
      have HBs : Hid (B ≤ wr.heap.size) := Nat.le_trans HI.out.rk.lo (Nat.le_of_lt HI.out.rk.blk.lt)
      clear hp hy hc hat e hh hkl hlen m0 m1 f1 x1 x2
      go_upto_region 12 with (fail)
      refine wp_region_till 22 (LzS rb g i' bb (off + k) (.slice (some ⟨g, 0, none⟩) nf cf) (.slice A2 p c2) (no : Int) (y.toNat : Int)) (by kernel_rfl) (lzs_below HS (Below.refl _ _).drew) (fun hHeld => ?_)
      (refine wpAnyT_take (i := 0) (v := ?_) rfl (by kernel_rfl) (fun _ _ _ h => h) (Or.inl ⟨by kernel_rfl, ?_⟩) (by assumption) ?_; rotate_left; · (intro w hSw; (try dsimp only at hSw); go_split_ands; go_simp; first | done | with_reducible rfl))
      (try simp only [Act.put]); (try simp only [List.getElem_toArray]); (try simp only [List.getElem_cons_succ]); (try simp only [List.getElem_cons_zero]); (try simp only [List.setIfInBounds_toArray]); (try simp only [List.set_cons_succ]); (try simp only [List.set_cons_zero])
      (refine wpAnyT_take (i := 1) (v := ?_) rfl (by kernel_rfl) (fun _ _ _ h => h) (Or.inl ⟨by kernel_rfl, ?_⟩) (by assumption) ?_; rotate_left; · (intro w hSw; (try dsimp only at hSw); go_split_ands; go_simp; first | done | with_reducible rfl))
      (try simp only [Act.put]); (try simp only [List.getElem_toArray]); (try simp only [List.getElem_cons_succ]); (try simp only [List.getElem_cons_zero]); (try simp only [List.setIfInBounds_toArray]); (try simp only [List.set_cons_succ]); (try simp only [List.set_cons_zero])
      (refine wpAnyT_take (i := 2) (v := ?_) rfl (by kernel_rfl) (fun _ _ _ h => h) (Or.inl ⟨by kernel_rfl, ?_⟩) (by assumption) ?_; rotate_left; · (intro w hSw; (try dsimp only at hSw); go_split_ands; go_simp; first | done | with_reducible rfl))
      (try simp only [Act.put]); (try simp only [List.getElem_toArray]); (try simp only [List.getElem_cons_succ]); (try simp only [List.getElem_cons_zero]); (try simp only [List.setIfInBounds_toArray]); (try simp only [List.set_cons_succ]); (try simp only [List.set_cons_zero])
      (refine wpAnyT_take (i := 3) (v := ?_) rfl (by kernel_rfl) (fun _ _ _ h => h) (Or.inl ⟨by kernel_rfl, ?_⟩) (by assumption) ?_; rotate_left; · (intro w hSw; (try dsimp only at hSw); go_split_ands; go_simp; first | done | with_reducible rfl))
      (try simp only [Act.put]); (try simp only [List.getElem_toArray]); (try simp only [List.getElem_cons_succ]); (try simp only [List.getElem_cons_zero]); (try simp only [List.setIfInBounds_toArray]); (try simp only [List.set_cons_succ]); (try simp only [List.set_cons_zero])
      (refine wpAnyT_take (i := 4) (v := ?_) rfl (by kernel_rfl) (fun _ _ _ h => h) (Or.inl ⟨by kernel_rfl, ?_⟩) (by assumption) ?_; rotate_left; · (intro w hSw; (try dsimp only at hSw); go_split_ands; go_simp; first | done | with_reducible rfl))
      (try simp only [Act.put]); (try simp only [List.getElem_toArray]); (try simp only [List.getElem_cons_succ]); (try simp only [List.getElem_cons_zero]); (try simp only [List.setIfInBounds_toArray]); (try simp only [List.set_cons_succ]); (try simp only [List.set_cons_zero])
      (refine wpAnyT_take (i := 5) (v := ?_) rfl (by kernel_rfl) (fun _ _ _ h => h) (Or.inl ⟨by kernel_rfl, ?_⟩) (by assumption) ?_; rotate_left; · (intro w hSw; (try dsimp only at hSw); go_split_ands; go_simp; first | done | with_reducible rfl))
      (try simp only [Act.put]); (try simp only [List.getElem_toArray]); (try simp only [List.getElem_cons_succ]); (try simp only [List.getElem_cons_zero]); (try simp only [List.setIfInBounds_toArray]); (try simp only [List.set_cons_succ]); (try simp only [List.set_cons_zero])
      (refine wpAnyT_take (i := 6) (v := ?_) rfl (by kernel_rfl) (fun _ _ _ h => h) (Or.inl ⟨by kernel_rfl, ?_⟩) (by assumption) ?_; rotate_left; · (intro w hSw; (try dsimp only at hSw); go_split_ands; go_simp; first | done | with_reducible rfl))
      (try simp only [Act.put]); (try simp only [List.getElem_toArray]); (try simp only [List.getElem_cons_succ]); (try simp only [List.getElem_cons_zero]); (try simp only [List.setIfInBounds_toArray]); (try simp only [List.set_cons_succ]); (try simp only [List.set_cons_zero])
      (refine wpAnyT_take (i := 7) (v := ?_) rfl (by kernel_rfl) (fun _ _ _ h => h) (Or.inl ⟨by kernel_rfl, ?_⟩) (by assumption) ?_; rotate_left; · (intro w hSw; (try dsimp only at hSw); go_split_ands; go_simp; first | done | with_reducible rfl))
      (try simp only [Act.put]); (try simp only [List.getElem_toArray]); (try simp only [List.getElem_cons_succ]); (try simp only [List.getElem_cons_zero]); (try simp only [List.setIfInBounds_toArray]); (try simp only [List.set_cons_succ]); (try simp only [List.set_cons_zero])
      (refine wpAnyT_take (i := 8) (v := ?_) rfl (by kernel_rfl) (fun _ _ _ h => h) (Or.inl ⟨by kernel_rfl, ?_⟩) (by assumption) ?_; rotate_left; · (intro w hSw; (try dsimp only at hSw); go_split_ands; go_simp; first | done | with_reducible rfl))
      (try simp only [Act.put]); (try simp only [List.getElem_toArray]); (try simp only [List.getElem_cons_succ]); (try simp only [List.getElem_cons_zero]); (try simp only [List.setIfInBounds_toArray]); (try simp only [List.set_cons_succ]); (try simp only [List.set_cons_zero])
      (refine wpAnyT_take (i := 9) (v := ?_) rfl (by kernel_rfl) (fun _ _ _ h => h) (Or.inl ⟨by kernel_rfl, ?_⟩) (by assumption) ?_; rotate_left; · (intro w hSw; (try dsimp only at hSw); go_split_ands; go_simp; first | done | with_reducible rfl))
      (try simp only [Act.put]); (try simp only [List.getElem_toArray]); (try simp only [List.getElem_cons_succ]); (try simp only [List.getElem_cons_zero]); (try simp only [List.setIfInBounds_toArray]); (try simp only [List.set_cons_succ]); (try simp only [List.set_cons_zero])
      (refine wpAnyT_take (i := 10) (v := ?_) rfl (by kernel_rfl) (fun _ _ _ h => h) (Or.inl ⟨by kernel_rfl, ?_⟩) (by assumption) ?_; rotate_left; · (intro w hSw; (try dsimp only at hSw); go_split_ands; go_simp; first | done | with_reducible rfl))
      (try simp only [Act.put]); (try simp only [List.getElem_toArray]); (try simp only [List.getElem_cons_succ]); (try simp only [List.getElem_cons_zero]); (try simp only [List.setIfInBounds_toArray]); (try simp only [List.set_cons_succ]); (try simp only [List.set_cons_zero])
      (refine wpAnyT_take (i := 11) (v := ?_) rfl (by kernel_rfl) (fun _ _ _ h => h) (Or.inl ⟨by kernel_rfl, ?_⟩) (by assumption) ?_; rotate_left; · (intro w hSw; (try dsimp only at hSw); go_split_ands; go_simp; first | done | with_reducible rfl))
      (try simp only [Act.put]); (try simp only [List.getElem_toArray]); (try simp only [List.getElem_cons_succ]); (try simp only [List.getElem_cons_zero]); (try simp only [List.setIfInBounds_toArray]); (try simp only [List.set_cons_succ]); (try simp only [List.set_cons_zero])
      (refine wpAnyT_take (i := 12) (v := ?_) rfl (by kernel_rfl) (fun _ _ _ h => h) (Or.inl ⟨by kernel_rfl, ?_⟩) (by assumption) ?_; rotate_left; · (intro w hSw; (try dsimp only at hSw); go_split_ands; go_simp; first | done | with_reducible rfl))
      (try simp only [Act.put]); (try simp only [List.getElem_toArray]); (try simp only [List.getElem_cons_succ]); (try simp only [List.getElem_cons_zero]); (try simp only [List.setIfInBounds_toArray]); (try simp only [List.set_cons_succ]); (try simp only [List.set_cons_zero])
      (refine wpAnyT_take (i := 13) (v := ?_) rfl (by kernel_rfl) (fun _ _ _ h => h) (Or.inl ⟨by kernel_rfl, ?_⟩) (by assumption) ?_; rotate_left; · (intro w hSw; (try dsimp only at hSw); go_split_ands; go_simp; first | done | with_reducible rfl))
      (try simp only [Act.put]); (try simp only [List.getElem_toArray]); (try simp only [List.getElem_cons_succ]); (try simp only [List.getElem_cons_zero]); (try simp only [List.setIfInBounds_toArray]); (try simp only [List.set_cons_succ]); (try simp only [List.set_cons_zero])
      (refine wpAnyT_take (i := 14) (v := ?_) rfl (by kernel_rfl) (fun _ _ _ h => h) (Or.inl ⟨by kernel_rfl, ?_⟩) (by assumption) ?_; rotate_left; · (intro w hSw; (try dsimp only at hSw); go_split_ands; go_simp; first | done | with_reducible rfl))
      (try simp only [Act.put]); (try simp only [List.getElem_toArray]); (try simp only [List.getElem_cons_succ]); (try simp only [List.getElem_cons_zero]); (try simp only [List.setIfInBounds_toArray]); (try simp only [List.set_cons_succ]); (try simp only [List.set_cons_zero])
      (refine wpAnyT_take (i := 15) (v := ?_) rfl (by kernel_rfl) (fun _ _ _ h => h) (Or.inl ⟨by kernel_rfl, ?_⟩) (by assumption) ?_; rotate_left; · (intro w hSw; (try dsimp only at hSw); go_split_ands; go_simp; first | done | with_reducible rfl))
      (try simp only [Act.put]); (try simp only [List.getElem_toArray]); (try simp only [List.getElem_cons_succ]); (try simp only [List.getElem_cons_zero]); (try simp only [List.setIfInBounds_toArray]); (try simp only [List.set_cons_succ]); (try simp only [List.set_cons_zero])
      (refine wpAnyT_take (i := 16) (v := ?_) rfl (by kernel_rfl) (fun _ _ _ h => h) (Or.inl ⟨by kernel_rfl, ?_⟩) (by assumption) ?_; rotate_left; · (intro w hSw; (try dsimp only at hSw); go_split_ands; go_simp; first | done | with_reducible rfl))
      (try simp only [Act.put]); (try simp only [List.getElem_toArray]); (try simp only [List.getElem_cons_succ]); (try simp only [List.getElem_cons_zero]); (try simp only [List.setIfInBounds_toArray]); (try simp only [List.set_cons_succ]); (try simp only [List.set_cons_zero])
      (refine wpAnyT_take (i := 17) (v := ?_) rfl (by kernel_rfl) (fun _ _ _ h => h) (Or.inl ⟨by kernel_rfl, ?_⟩) (by assumption) ?_; rotate_left; · (intro w hSw; (try dsimp only at hSw); go_split_ands; go_simp; first | done | with_reducible rfl))
      (try simp only [Act.put]); (try simp only [List.getElem_toArray]); (try simp only [List.getElem_cons_succ]); (try simp only [List.getElem_cons_zero]); (try simp only [List.setIfInBounds_toArray]); (try simp only [List.set_cons_succ]); (try simp only [List.set_cons_zero])
      (refine wpAnyT_one (i := 18) (by kernel_rfl) rfl (fun K hK => ?_); go_simp; refine hK.out _ _ (.inr ?_) (fun hHeld => ?_))
      · exact lzs_below hHeld (below_new _ _)
      replace hHeld := hHeld.resolve_left (by decide)
      clear hK K
      (try simp only [Act.put]); (try simp only [List.getElem_toArray]); (try simp only [List.getElem_cons_succ]); (try simp only [List.getElem_cons_zero]); (try simp only [List.setIfInBounds_toArray]); (try simp only [List.set_cons_succ]); (try simp only [List.set_cons_zero])
      (refine wpAnyT_one (i := 19) (by kernel_rfl) rfl (fun K hK => ?_); refine step_append_lz rfl (.tmp 62) (.tmp 76) rfl _ B (.slice A2 p c2) (ls ++ (b.take k).map fun y => (no, y)) rfl (own_block0 HLR.out fun q hq => ((Below.refl _ wr).drew.trans (below_new wr.drew _)).block q (World.ownsRow.lt HLR.out q hq).2) _ 1 (no, y) rfl (lz_new _ no y) (by rw [HPp.out]; omega) (by have := HBs.out; simp; omega) ?_; intro v2 w2 hr2 hg2 hl2; obtain ⟨A3, c3, rfl⟩ := lrow_form hr2 (show ((ls ++ (b.take k).map fun y => (no, y)) ++ [(no, y)]).length = p + 1 by rw [List.length_append, HPp.out]; rfl); have HE := hid (rke_lz HI.out ((Below.refl _ wr).drew.trans (below_new wr.drew _)) hr2 hg2 hl2); have hS2 := lzs_grown hHeld hg2 NB.out; clear hr2 hg2 hl2; refine hK.out _ _ (.inr ?_) (fun hHeld => ?_))
      · exact hS2
      replace hHeld := hHeld.resolve_left (by decide)
      clear hK K
      (try simp only [Act.put]); (try simp only [List.getElem_toArray]); (try simp only [List.getElem_cons_succ]); (try simp only [List.getElem_cons_zero]); (try simp only [List.setIfInBounds_toArray]); (try simp only [List.set_cons_succ]); (try simp only [List.set_cons_zero])
      clear hS2
      (refine wpAnyT_one (i := 20) (by kernel_rfl) rfl (fun K hK => ?_); go_simp; refine hK.out _ _ (.inr ?_) (fun hHeld => ?_))
      · exact hHeld
      replace hHeld := hHeld.resolve_left (by decide)
      clear hK K
      (try simp only [Act.put]); (try simp only [List.getElem_toArray]); (try simp only [List.getElem_cons_succ]); (try simp only [List.getElem_cons_zero]); (try simp only [List.setIfInBounds_toArray]); (try simp only [List.set_cons_succ]); (try simp only [List.set_cons_zero])
      (refine wpAnyT_one (i := 21) (by kernel_rfl) rfl (fun K hK => ?_); go_simp; refine hK.out _ _ (.inr ?_) (fun hHeld => ?_))
      · exact hHeld
      replace hHeld := hHeld.resolve_left (by decide)
      clear hK K
      (try simp only [Act.put]); (try simp only [List.getElem_toArray]); (try simp only [List.getElem_cons_succ]); (try simp only [List.getElem_cons_zero]); (try simp only [List.setIfInBounds_toArray]); (try simp only [List.set_cons_succ]); (try simp only [List.set_cons_zero])
      (refine wpAnyT_one (i := 22) (by kernel_rfl) rfl (fun K hK => ?_); obtain ⟨r0, r1, r2, r3, r4⟩ := hHeld; go_simp; refine hK.out _ _ (.inl rfl) (fun _ => ?_))
      clear hK K
      (try simp only [Act.put]); (try simp only [List.getElem_toArray]); (try simp only [List.getElem_cons_succ]); (try simp only [List.getElem_cons_zero]); (try simp only [List.setIfInBounds_toArray]); (try simp only [List.set_cons_succ]); (try simp only [List.set_cons_zero])
      refine wpAnyT_done (by kernel_rfl) ?_ _
      rw [← HMo.out] at HE
      go_wp2
      go_roundw
      case rel => exact ⟨k + 1, _, by go_num, by omega, HE.out⟩
      case measure => simp [intOf]; omega
    · obtain rfl : k = n := by omega
      have hi := HI.out
      rw [List.take_of_length_le (by rw [HN.out]; exact Nat.le_refl _)] at hi
      have HIf := hid hi
      clear hi
      go_wp2
      go_ret
      exact ⟨rfl, _, HIf.out⟩

set_option maxRecDepth 100000 in
set_option maxHeartbeats 8000000 in
theorem rwrite_new {w : World} {B rb nx : Nat} {fv lv : Value} {P Q : List Rm} {ls : List Lm} {z : Int} (h : Rk w B rb fv lv (P ++ Q) ls z nx) (x : ByteArray) (hx : rightB x = true) (hn : ∀ m' ∈ P ++ Q, m'.n.size ≤ maxLen) (hl : (P ++ Q).length ≤ 90000) (hP : ∀ a ∈ P, bef a.n x = true) (hQ : ∀ c ∈ Q, bef x c.n = true) (hz : 0 ≤ z ∧ z ≤ 16777216) (hnx : nx ≤ 1000000) (v : Value) (b : List UInt8) (hv : SlA w v b) (hvb : 0 < b.length → ∀ k, v.ownBlock = some k → ¬ Rt rb fv lv (P ++ Q) k) (hf : (sizeM (P ++ Q) ls : Int) + (b.length : Int) ≤ z) (hls : ls.length + b.length ≤ 1000000) :
    Calls Try.prog 13 #[.pointer (some ⟨rb, 0, none⟩), .string x, v] w fun e w' => e = .returned (.int .i64 0) ∧ ∃ fv' lv', RkE w w' B rb fv lv (P ++ Q) fv' lv' (P ++ ⟨x, nx + 1, .slice none 0 0, [], false⟩ :: Q) (ls ++ b.map fun y => (nx + 1, y)) z (nx + 1) := by
  obtain ⟨x1, x2⟩ := right_in hx
  have HX : Hid (x.size ≤ maxLen) := by unfold Hid maxLen; omega
  have HF := hid fun W (hW : Below w.heap.size w W) => rfind_ok (h.below hW) x HX.out hn (by omega)
  have HFE := hid fun i ok (hE : FindE x (P ++ Q) i ok) => find_no hE hP hQ
  have hsz : sizeM (P ++ Q) ls ≤ 16777216 := by omega
  have HSz := hid fun k => rsize_same (h.drewN k) (by omega) (by omega)
  have m2 : w.cell? ⟨rb, 2, none⟩ = some (.int .i64 z) := h.blk.cell 2
  obtain ⟨s, hs⟩ : ∃ s, sizeM (P ++ Q) ls = s := ⟨_, rfl⟩
  rw [hs] at HSz hf hsz
  obtain ⟨n, hnn⟩ : ∃ n, b.length = n := ⟨_, rfl⟩
  have HN := hid hnn
  have HV := hid hv
  have HVb := hid hvb
  have HVl : Hid (∀ k, v.ownBlock = some k → b.length = 0 ∨ k < w.heap.size) := sla_lt hv
  have HLs := hid hls
  obtain ⟨A, c, rfl, _⟩ := hv
  rw [hnn] at hf HV HVb HVl ⊢
  obtain ⟨i, hi⟩ : ∃ i, P.length = i := ⟨_, rfl⟩
  have HPi := hid hi
  rw [hi] at HFE
  obtain ⟨no, hno⟩ : ∃ no, nx + 1 = no := ⟨_, rfl⟩
  obtain ⟨m, hm⟩ : ∃ m : Rm, m = ⟨x, no, .slice none 0 0, [], false⟩ := ⟨_, rfl⟩
  have HNo : Hid (m.no = no) := by rw [hm]; rfl
  have w4 : IntKind.i64.wrap ((nx : Int) + 1) = (no : Int) := by rw [IntKind.wrap_i64]; omega
  rw [hno, ← hm]
  have x3 : x.size ≤ 9223372036854775807 := by omega
  have w1 : IntKind.i64.wrap (z - (s : Int)) = z - (s : Int) := by rw [IntKind.wrap_i64]; omega
  have g1 : ¬ z - (s : Int) < (n : Int) := by omega
  have HK := hid h
  have HPu := hid fun (W : World) fv' lv' (hW : Rk W B rb fv' lv' (P ++ Q) ls z no) => rput_ok hW (by omega) m (by rw [hm]; exact Row.none W B) (fun q _ => by rw [hm]; exact ⟨fun k hk => (by cases hk), fun k hk e => (by cases e)⟩) i hi
  rw [hm] at HPu
  have HM := hid hm
  have hn1 : n ≤ 1000000 := by rw [← hnn]; omega
  clear h hx hs hnn hvb hls hi hno hn hf HX hP hQ hm hl
  go_enter Try.func13, Try.ntmps13
  go_upto_region 3 with (fail)
  go_quiet (first | (go_at_call 23; refine Calls.quiet_of_same (HSz.out _)))
  have HB1 := hid (Go.below_drewN (Below.refl w.heap.size w) nq)
  obtain ⟨W1, hW1⟩ : ∃ W1, w.drewN nq = W1 := ⟨_, rfl⟩
  rw [hW1] at HB1 ⊢
  clear hW1 m2
  go_upto_region 6 with (go_at_call 34; refine (HF.out _ HB1.out).mono ?_; rintro e w2 ⟨i', ok, rfl, hE, hb⟩; obtain ⟨rfl, rfl⟩ := HFE.out i' ok hE; have HB2 := hid (HB1.out.trans (hb.mono HB1.out.size)); clear hE hb)
  have HK2 := hid (HK.out.below HB2.out)
  have m3 : w2.cell? ⟨rb, 3, none⟩ = some (.int .i64 (nx : Int)) := HK2.out.blk.cell 3
  have f3 := HK2.out.blk.free 3
  clear HF HFE HSz HB1
  go_upto_region 8 with (fail)
  have HK3 := hid (HK2.out.next no)
  have HC3 : Hid (Chg (Rt rb fv lv (P ++ Q)) w (w2.setCell ⟨rb, 3, none⟩ (.int .i64 (no : Int)))) := (Chg.of_below _ HB2.out).trans (Chg.of_set w2 rb 3 _ (S := Rt rb fv lv (P ++ Q)) (.inl rfl)) fun k q => .inl q
  obtain ⟨W3, hW3⟩ : ∃ W3, w2.setCell ⟨rb, 3, none⟩ (.int .i64 (no : Int)) = W3 := ⟨_, rfl⟩
  rw [hW3] at HK3 HC3 ⊢
  have m4 : W3.cell? ⟨rb, 3, none⟩ = some (.int .i64 (no : Int)) := HK3.out.blk.cell 3
  clear hW3 m3 f3 w4
  go_upto_region 9 with (go_at_call 35; refine (HPu.out _ _ _ HK3.out).mono ?_; rintro e w4 ⟨rfl, v7, h1, h2, h3⟩; rw [← HM.out] at h1; have HK0' : Hid (RkE w w4 B rb fv lv (P ++ Q) v7 lv (P ++ m :: Q) ls z no) := ⟨h1, HC3.out.trans h2 fun k q => .inl (.inl q), fun k q => by
    rcases q with q | q | q | ⟨a, ha, q⟩
    · exact .inl (.inl q)
    · exact .inr (Nat.le_trans HC3.out.size (h3 k q))
    · exact .inl (.inr (.inr (.inl q)))
    · rcases List.mem_append.1 ha with r | r
      · exact .inl (.inr (.inr (.inr ⟨a, List.mem_append_left _ r, q⟩)))
      · rcases List.mem_cons.1 r with r | r
        · rw [r, HM.out] at q
          cases q
        · exact .inl (.inr (.inr (.inr ⟨a, List.mem_append_right _ r, q⟩)))⟩; clear h1 h2 h3)
  obtain ⟨nf, hnf⟩ : ∃ nf, (P ++ m :: Q).length = nf := ⟨_, rfl⟩
  obtain ⟨Af, cf, rfl⟩ := mrow_form HK0'.out.rk.fr hnf
  have hlen : P.length < (P ++ m :: Q).length := by simp
  obtain ⟨g, rfl, _⟩ := mrow_at HK0'.out.rk.fr hlen
  have HK0 := hid HK0'.out
  rw [hnf] at hlen
  have hl2 : i' < nf := by rw [← HPi.out]; exact hlen
  clear hnf hlen HK0' HPu HK2 HK3 HC3 HB2 m4
  go_wp2
  go_loopw [9] (fun vk wr => ∃ (k : Nat) (lv' : Value), vk = .int .i64 (k : Int) ∧ k ≤ n ∧ Hid (RkE w wr B rb fv lv (P ++ Q) (.slice (some ⟨g, 0, none⟩) nf cf) lv' (P ++ m :: Q) (ls ++ (b.take k).map fun y => (no, y)) z no)) (fun vk _ => n - (intOf vk).toNat)
  case atStart => exact ⟨0, _, rfl, Nat.zero_le _, by rw [List.take_zero, List.map_nil, List.append_nil]; exact HK0.out⟩
  case round =>
    obtain ⟨k, lv', rfl, hk, HI⟩ := hrel
    by_cases hkn : k < n
    · have hkl : k < b.length := by rw [HN.out]; exact hkn
      have m0 := HI.out.rk.blk.cell 0
      have m1 := HI.out.rk.blk.cell 1
      have f1 := HI.out.rk.blk.free 1
      have hlen : P.length < (P ++ m :: Q).length := by simp
      obtain ⟨g', e, hc⟩ := mrow_at HI.out.rk.fr hlen
      obtain rfl : g = g' := by injection e with e; injection e
      have hat : (P ++ m :: Q)[P.length]'hlen = m := by simp
      rw [hat] at hc
      have x1 := hc 1 _ (by omega) rfl
      rw [HPi.out, HNo.out] at x1
      obtain ⟨bb, off, rfl, hh⟩ := (HV.out.chg HI.out.ch (HVb.out (by omega))).hold (by omega)
      have x2 := hh k hkl
      rw [List.getD_eq_getElem?_getD, List.getElem?_eq_getElem hkl, Option.getD_some] at x2
      have HMo := hid (lz_more ls b no k hkl)
      have HLR := hid HI.out.rk.lr
      obtain ⟨p, hp⟩ : ∃ p, (ls ++ (b.take k).map fun y => (no, y)).length = p := ⟨_, rfl⟩
      have hpb : p ≤ 2000000 := by
        rw [← hp, List.length_append, List.length_map, List.length_take]
        have := HLs.out
        omega
      obtain ⟨A2, c2, rfl⟩ := lrow_form HI.out.rk.lr hp
      have HPp := hid hp
      have NB : Hid (∀ q, (Value.slice A2 p c2).ownBlock = some q → q ≠ rb ∧ q ≠ g ∧ q ≠ bb) := fun q hq => by
        obtain ⟨cur, hcu⟩ := own_blk HI.out.rk.lr hq
        obtain ⟨cur2, hcu2⟩ := own_blk HI.out.rk.fr (g := g) rfl
        refine ⟨blk_ne0 hcu HI.out.rk.blk (by decide), blk_ne0 hcu hcu2 (by decide), fun e => ?_⟩
        subst e
        rcases HI.out.sub q (.inr (.inr (.inl hq))) with r | r
        · exact HVb.out (by omega) q rfl r
        · rcases HVl.out q rfl with r2 | r2
          · omega
          · exact absurd r2 (Nat.not_lt.2 r)
      obtain ⟨y, hy⟩ : ∃ y, b[k] = y := ⟨_, rfl⟩
      rw [hy] at x2 HMo
      have HS : LzS rb g i' bb (off + k) (.slice (some ⟨g, 0, none⟩) nf cf) (.slice A2 p c2) (no : Int) (y.toNat : Int) wr := ⟨m0, m1, x1, x2, f1⟩
      have HBs : Hid (B ≤ wr.heap.size) := Nat.le_trans HI.out.rk.lo (Nat.le_of_lt HI.out.rk.blk.lt)
      clear hp hy hc hat e hh hkl hlen m0 m1 f1 x1 x2
      go_upto_region 12 with (fail)
      refine wp_region_till 22 (LzS rb g i' bb (off + k) (.slice (some ⟨g, 0, none⟩) nf cf) (.slice A2 p c2) (no : Int) (y.toNat : Int)) (by kernel_rfl) (lzs_below HS (Below.refl _ _).drew) (fun hHeld => ?_)
      (refine wpAnyT_take (i := 0) (v := ?_) rfl (by kernel_rfl) (fun _ _ _ h => h) (Or.inl ⟨by kernel_rfl, ?_⟩) (by assumption) ?_; rotate_left; · (intro w hSw; (try dsimp only at hSw); go_split_ands; go_simp; first | done | with_reducible rfl))
      (try simp only [Act.put]); (try simp only [List.getElem_toArray]); (try simp only [List.getElem_cons_succ]); (try simp only [List.getElem_cons_zero]); (try simp only [List.setIfInBounds_toArray]); (try simp only [List.set_cons_succ]); (try simp only [List.set_cons_zero])
      (refine wpAnyT_take (i := 1) (v := ?_) rfl (by kernel_rfl) (fun _ _ _ h => h) (Or.inl ⟨by kernel_rfl, ?_⟩) (by assumption) ?_; rotate_left; · (intro w hSw; (try dsimp only at hSw); go_split_ands; go_simp; first | done | with_reducible rfl))
      (try simp only [Act.put]); (try simp only [List.getElem_toArray]); (try simp only [List.getElem_cons_succ]); (try simp only [List.getElem_cons_zero]); (try simp only [List.setIfInBounds_toArray]); (try simp only [List.set_cons_succ]); (try simp only [List.set_cons_zero])
      (refine wpAnyT_take (i := 2) (v := ?_) rfl (by kernel_rfl) (fun _ _ _ h => h) (Or.inl ⟨by kernel_rfl, ?_⟩) (by assumption) ?_; rotate_left; · (intro w hSw; (try dsimp only at hSw); go_split_ands; go_simp; first | done | with_reducible rfl))
      (try simp only [Act.put]); (try simp only [List.getElem_toArray]); (try simp only [List.getElem_cons_succ]); (try simp only [List.getElem_cons_zero]); (try simp only [List.setIfInBounds_toArray]); (try simp only [List.set_cons_succ]); (try simp only [List.set_cons_zero])
      (refine wpAnyT_take (i := 3) (v := ?_) rfl (by kernel_rfl) (fun _ _ _ h => h) (Or.inl ⟨by kernel_rfl, ?_⟩) (by assumption) ?_; rotate_left; · (intro w hSw; (try dsimp only at hSw); go_split_ands; go_simp; first | done | with_reducible rfl))
      (try simp only [Act.put]); (try simp only [List.getElem_toArray]); (try simp only [List.getElem_cons_succ]); (try simp only [List.getElem_cons_zero]); (try simp only [List.setIfInBounds_toArray]); (try simp only [List.set_cons_succ]); (try simp only [List.set_cons_zero])
      (refine wpAnyT_take (i := 4) (v := ?_) rfl (by kernel_rfl) (fun _ _ _ h => h) (Or.inl ⟨by kernel_rfl, ?_⟩) (by assumption) ?_; rotate_left; · (intro w hSw; (try dsimp only at hSw); go_split_ands; go_simp; first | done | with_reducible rfl))
      (try simp only [Act.put]); (try simp only [List.getElem_toArray]); (try simp only [List.getElem_cons_succ]); (try simp only [List.getElem_cons_zero]); (try simp only [List.setIfInBounds_toArray]); (try simp only [List.set_cons_succ]); (try simp only [List.set_cons_zero])
      (refine wpAnyT_take (i := 5) (v := ?_) rfl (by kernel_rfl) (fun _ _ _ h => h) (Or.inl ⟨by kernel_rfl, ?_⟩) (by assumption) ?_; rotate_left; · (intro w hSw; (try dsimp only at hSw); go_split_ands; go_simp; first | done | with_reducible rfl))
      (try simp only [Act.put]); (try simp only [List.getElem_toArray]); (try simp only [List.getElem_cons_succ]); (try simp only [List.getElem_cons_zero]); (try simp only [List.setIfInBounds_toArray]); (try simp only [List.set_cons_succ]); (try simp only [List.set_cons_zero])
      (refine wpAnyT_take (i := 6) (v := ?_) rfl (by kernel_rfl) (fun _ _ _ h => h) (Or.inl ⟨by kernel_rfl, ?_⟩) (by assumption) ?_; rotate_left; · (intro w hSw; (try dsimp only at hSw); go_split_ands; go_simp; first | done | with_reducible rfl))
      (try simp only [Act.put]); (try simp only [List.getElem_toArray]); (try simp only [List.getElem_cons_succ]); (try simp only [List.getElem_cons_zero]); (try simp only [List.setIfInBounds_toArray]); (try simp only [List.set_cons_succ]); (try simp only [List.set_cons_zero])
      (refine wpAnyT_take (i := 7) (v := ?_) rfl (by kernel_rfl) (fun _ _ _ h => h) (Or.inl ⟨by kernel_rfl, ?_⟩) (by assumption) ?_; rotate_left; · (intro w hSw; (try dsimp only at hSw); go_split_ands; go_simp; first | done | with_reducible rfl))
      (try simp only [Act.put]); (try simp only [List.getElem_toArray]); (try simp only [List.getElem_cons_succ]); (try simp only [List.getElem_cons_zero]); (try simp only [List.setIfInBounds_toArray]); (try simp only [List.set_cons_succ]); (try simp only [List.set_cons_zero])
      (refine wpAnyT_take (i := 8) (v := ?_) rfl (by kernel_rfl) (fun _ _ _ h => h) (Or.inl ⟨by kernel_rfl, ?_⟩) (by assumption) ?_; rotate_left; · (intro w hSw; (try dsimp only at hSw); go_split_ands; go_simp; first | done | with_reducible rfl))
      (try simp only [Act.put]); (try simp only [List.getElem_toArray]); (try simp only [List.getElem_cons_succ]); (try simp only [List.getElem_cons_zero]); (try simp only [List.setIfInBounds_toArray]); (try simp only [List.set_cons_succ]); (try simp only [List.set_cons_zero])
      (refine wpAnyT_take (i := 9) (v := ?_) rfl (by kernel_rfl) (fun _ _ _ h => h) (Or.inl ⟨by kernel_rfl, ?_⟩) (by assumption) ?_; rotate_left; · (intro w hSw; (try dsimp only at hSw); go_split_ands; go_simp; first | done | with_reducible rfl))
      (try simp only [Act.put]); (try simp only [List.getElem_toArray]); (try simp only [List.getElem_cons_succ]); (try simp only [List.getElem_cons_zero]); (try simp only [List.setIfInBounds_toArray]); (try simp only [List.set_cons_succ]); (try simp only [List.set_cons_zero])
      (refine wpAnyT_take (i := 10) (v := ?_) rfl (by kernel_rfl) (fun _ _ _ h => h) (Or.inl ⟨by kernel_rfl, ?_⟩) (by assumption) ?_; rotate_left; · (intro w hSw; (try dsimp only at hSw); go_split_ands; go_simp; first | done | with_reducible rfl))
      (try simp only [Act.put]); (try simp only [List.getElem_toArray]); (try simp only [List.getElem_cons_succ]); (try simp only [List.getElem_cons_zero]); (try simp only [List.setIfInBounds_toArray]); (try simp only [List.set_cons_succ]); (try simp only [List.set_cons_zero])
      (refine wpAnyT_take (i := 11) (v := ?_) rfl (by kernel_rfl) (fun _ _ _ h => h) (Or.inl ⟨by kernel_rfl, ?_⟩) (by assumption) ?_; rotate_left; · (intro w hSw; (try dsimp only at hSw); go_split_ands; go_simp; first | done | with_reducible rfl))
      (try simp only [Act.put]); (try simp only [List.getElem_toArray]); (try simp only [List.getElem_cons_succ]); (try simp only [List.getElem_cons_zero]); (try simp only [List.setIfInBounds_toArray]); (try simp only [List.set_cons_succ]); (try simp only [List.set_cons_zero])
      (refine wpAnyT_take (i := 12) (v := ?_) rfl (by kernel_rfl) (fun _ _ _ h => h) (Or.inl ⟨by kernel_rfl, ?_⟩) (by assumption) ?_; rotate_left; · (intro w hSw; (try dsimp only at hSw); go_split_ands; go_simp; first | done | with_reducible rfl))
      (try simp only [Act.put]); (try simp only [List.getElem_toArray]); (try simp only [List.getElem_cons_succ]); (try simp only [List.getElem_cons_zero]); (try simp only [List.setIfInBounds_toArray]); (try simp only [List.set_cons_succ]); (try simp only [List.set_cons_zero])
      (refine wpAnyT_take (i := 13) (v := ?_) rfl (by kernel_rfl) (fun _ _ _ h => h) (Or.inl ⟨by kernel_rfl, ?_⟩) (by assumption) ?_; rotate_left; · (intro w hSw; (try dsimp only at hSw); go_split_ands; go_simp; first | done | with_reducible rfl))
      (try simp only [Act.put]); (try simp only [List.getElem_toArray]); (try simp only [List.getElem_cons_succ]); (try simp only [List.getElem_cons_zero]); (try simp only [List.setIfInBounds_toArray]); (try simp only [List.set_cons_succ]); (try simp only [List.set_cons_zero])
      (refine wpAnyT_take (i := 14) (v := ?_) rfl (by kernel_rfl) (fun _ _ _ h => h) (Or.inl ⟨by kernel_rfl, ?_⟩) (by assumption) ?_; rotate_left; · (intro w hSw; (try dsimp only at hSw); go_split_ands; go_simp; first | done | with_reducible rfl))
      (try simp only [Act.put]); (try simp only [List.getElem_toArray]); (try simp only [List.getElem_cons_succ]); (try simp only [List.getElem_cons_zero]); (try simp only [List.setIfInBounds_toArray]); (try simp only [List.set_cons_succ]); (try simp only [List.set_cons_zero])
      (refine wpAnyT_take (i := 15) (v := ?_) rfl (by kernel_rfl) (fun _ _ _ h => h) (Or.inl ⟨by kernel_rfl, ?_⟩) (by assumption) ?_; rotate_left; · (intro w hSw; (try dsimp only at hSw); go_split_ands; go_simp; first | done | with_reducible rfl))
      (try simp only [Act.put]); (try simp only [List.getElem_toArray]); (try simp only [List.getElem_cons_succ]); (try simp only [List.getElem_cons_zero]); (try simp only [List.setIfInBounds_toArray]); (try simp only [List.set_cons_succ]); (try simp only [List.set_cons_zero])
      (refine wpAnyT_take (i := 16) (v := ?_) rfl (by kernel_rfl) (fun _ _ _ h => h) (Or.inl ⟨by kernel_rfl, ?_⟩) (by assumption) ?_; rotate_left; · (intro w hSw; (try dsimp only at hSw); go_split_ands; go_simp; first | done | with_reducible rfl))
      (try simp only [Act.put]); (try simp only [List.getElem_toArray]); (try simp only [List.getElem_cons_succ]); (try simp only [List.getElem_cons_zero]); (try simp only [List.setIfInBounds_toArray]); (try simp only [List.set_cons_succ]); (try simp only [List.set_cons_zero])
      (refine wpAnyT_take (i := 17) (v := ?_) rfl (by kernel_rfl) (fun _ _ _ h => h) (Or.inl ⟨by kernel_rfl, ?_⟩) (by assumption) ?_; rotate_left; · (intro w hSw; (try dsimp only at hSw); go_split_ands; go_simp; first | done | with_reducible rfl))
      (try simp only [Act.put]); (try simp only [List.getElem_toArray]); (try simp only [List.getElem_cons_succ]); (try simp only [List.getElem_cons_zero]); (try simp only [List.setIfInBounds_toArray]); (try simp only [List.set_cons_succ]); (try simp only [List.set_cons_zero])
      (refine wpAnyT_one (i := 18) (by kernel_rfl) rfl (fun K hK => ?_); go_simp; refine hK.out _ _ (.inr ?_) (fun hHeld => ?_))
      · exact lzs_below hHeld (below_new _ _)
      replace hHeld := hHeld.resolve_left (by decide)
      clear hK K
      (try simp only [Act.put]); (try simp only [List.getElem_toArray]); (try simp only [List.getElem_cons_succ]); (try simp only [List.getElem_cons_zero]); (try simp only [List.setIfInBounds_toArray]); (try simp only [List.set_cons_succ]); (try simp only [List.set_cons_zero])
      (refine wpAnyT_one (i := 19) (by kernel_rfl) rfl (fun K hK => ?_); refine step_append_lz rfl (.tmp 62) (.tmp 76) rfl _ B (.slice A2 p c2) (ls ++ (b.take k).map fun y => (no, y)) rfl (own_block0 HLR.out fun q hq => ((Below.refl _ wr).drew.trans (below_new wr.drew _)).block q (World.ownsRow.lt HLR.out q hq).2) _ 1 (no, y) rfl (lz_new _ no y) (by rw [HPp.out]; omega) (by have := HBs.out; simp; omega) ?_; intro v2 w2 hr2 hg2 hl2; obtain ⟨A3, c3, rfl⟩ := lrow_form hr2 (show ((ls ++ (b.take k).map fun y => (no, y)) ++ [(no, y)]).length = p + 1 by rw [List.length_append, HPp.out]; rfl); have HE := hid (rke_lz HI.out ((Below.refl _ wr).drew.trans (below_new wr.drew _)) hr2 hg2 hl2); have hS2 := lzs_grown hHeld hg2 NB.out; clear hr2 hg2 hl2; refine hK.out _ _ (.inr ?_) (fun hHeld => ?_))
      · exact hS2
      replace hHeld := hHeld.resolve_left (by decide)
      clear hK K
      (try simp only [Act.put]); (try simp only [List.getElem_toArray]); (try simp only [List.getElem_cons_succ]); (try simp only [List.getElem_cons_zero]); (try simp only [List.setIfInBounds_toArray]); (try simp only [List.set_cons_succ]); (try simp only [List.set_cons_zero])
      clear hS2
      (refine wpAnyT_one (i := 20) (by kernel_rfl) rfl (fun K hK => ?_); go_simp; refine hK.out _ _ (.inr ?_) (fun hHeld => ?_))
      · exact hHeld
      replace hHeld := hHeld.resolve_left (by decide)
      clear hK K
      (try simp only [Act.put]); (try simp only [List.getElem_toArray]); (try simp only [List.getElem_cons_succ]); (try simp only [List.getElem_cons_zero]); (try simp only [List.setIfInBounds_toArray]); (try simp only [List.set_cons_succ]); (try simp only [List.set_cons_zero])
      (refine wpAnyT_one (i := 21) (by kernel_rfl) rfl (fun K hK => ?_); go_simp; refine hK.out _ _ (.inr ?_) (fun hHeld => ?_))
      · exact hHeld
      replace hHeld := hHeld.resolve_left (by decide)
      clear hK K
      (try simp only [Act.put]); (try simp only [List.getElem_toArray]); (try simp only [List.getElem_cons_succ]); (try simp only [List.getElem_cons_zero]); (try simp only [List.setIfInBounds_toArray]); (try simp only [List.set_cons_succ]); (try simp only [List.set_cons_zero])
      (refine wpAnyT_one (i := 22) (by kernel_rfl) rfl (fun K hK => ?_); obtain ⟨r0, r1, r2, r3, r4⟩ := hHeld; go_simp; refine hK.out _ _ (.inl rfl) (fun _ => ?_))
      clear hK K
      (try simp only [Act.put]); (try simp only [List.getElem_toArray]); (try simp only [List.getElem_cons_succ]); (try simp only [List.getElem_cons_zero]); (try simp only [List.setIfInBounds_toArray]); (try simp only [List.set_cons_succ]); (try simp only [List.set_cons_zero])
      refine wpAnyT_done (by kernel_rfl) ?_ _
      rw [← HMo.out] at HE
      go_wp2
      go_roundw
      case rel => exact ⟨k + 1, _, by go_num, by omega, HE.out⟩
      case measure => simp [intOf]; omega
    · obtain rfl : k = n := by omega
      have hi := HI.out
      rw [List.take_of_length_le (by rw [HN.out]; exact Nat.le_refl _)] at hi
      have HIf := hid hi
      clear hi
      go_wp2
      go_ret
      exact ⟨rfl, _, _, HIf.out⟩
end Go.Proofs.Ytofkfafdodhmdaa
