/- The document's Sync. Conditions: the disk stands. -/
import Derived.Test.YtofkfafdodhmdaaSuS
namespace Go.Proofs.Ytofkfafdodhmdaa
open Go.RowKit

/-- A file's words are turned in their row. -/
theorem rke_setm {w wr w1 : World} {B rb nx g n c : Nat} {fv lv lv' : Value} {ms0 P Q : List Rm} {m m' : Rm} {ls : List Lm} {z : Int} {S : Nat → Prop} (h : RkE w wr B rb fv lv ms0 (.slice (some ⟨g, 0, none⟩) n c) lv' (P ++ m :: Q) ls z nx) (hc : Chg S wr w1)
    (hS : ∀ k, S k → m.sv.ownBlock = some k) (hm' : Row w1 B m'.sv m'.s) (hs : ∀ k, m'.sv.ownBlock = some k → m.sv.ownBlock = some k ∨ wr.heap.size ≤ k) (j : Nat) (x : Value) (hj : j < 4) (he : (encM m).set j x = encM m') :
    RkE w (w1.setCell ⟨g, P.length * 4 + j, none⟩ x) B rb fv lv ms0 (.slice (some ⟨g, 0, none⟩) n c) lv' (P ++ m' :: Q) ls z nx := by
  obtain ⟨a1, a2⟩ := h.rk.setm hc hS hm' hs j x hj he
  refine ⟨a1, h.ch.trans a2 h.sub, fun k q => ?_⟩
  rcases q with q | q | q | ⟨a, ha, q⟩
  · exact h.sub k (.inl q)
  · exact h.sub k (.inr (.inl q))
  · exact h.sub k (.inr (.inr (.inl q)))
  · rcases List.mem_append.1 ha with r | r
    · exact h.sub k (.inr (.inr (.inr ⟨a, List.mem_append_left _ r, q⟩)))
    · rcases List.mem_cons.1 r with r | r
      · subst r
        rcases hs k q with r | r
        · exact h.sub k (.inr (.inr (.inr ⟨m, by simp, r⟩)))
        · exact .inr (Nat.le_trans h.ch.size r)
      · exact h.sub k (.inr (.inr (.inr ⟨a, List.mem_append_right _ (List.mem_cons_of_mem _ r), q⟩)))
/-- What the region reads. -/
abbrev SyS (rb g i : Nat) (fv sv : Value) (no : Int) (W : World) : Prop := W.cell? ⟨rb, 0, none⟩ = some fv ∧ W.cell? ⟨g, i * 4 + 2, none⟩ = some sv ∧ W.cell? ⟨g, i * 4 + 1, none⟩ = some (.int .i64 no) ∧ W.frozen? ⟨g, i * 4 + 2, none⟩ = false
theorem sys_chg {W W' : World} {rb g i : Nat} {fv sv : Value} {no : Int} {S : Nat → Prop} (h : SyS rb g i fv sv no W) (hc : Chg S W W') (h0 : W'.cell? ⟨rb, 0, none⟩ = some fv) (hS : ¬ S g) : SyS rb g i fv sv no W' := by
  obtain ⟨_, h1, h2, h3⟩ := h
  have k0 : W'.heap[g]? = W.heap[g]? := hc.block g (cell_lt h1) hS
  exact ⟨h0, (World.cell?_of_block (a := ⟨g, i * 4 + 2, none⟩) k0).trans h1, (World.cell?_of_block (a := ⟨g, i * 4 + 1, none⟩) k0).trans h2, (World.frozen?_of_block (a := ⟨g, i * 4 + 2, none⟩) k0).trans h3⟩
theorem bytesM_len (ls : List Lm) (no : Nat) : (bytesM ls no).length ≤ ls.length := by
  unfold bytesM
  rw [List.length_map]
  exact List.length_filter_le _ _
theorem sy_app {w3 w4 : World} {B rb nx g i n c : Nat} {lv sv : Value} {P Q : List Rm} {m : Rm} {ls : List Lm} {z no : Int} (h : Rk w3 B rb (.slice (some ⟨g, 0, none⟩) n c) lv (P ++ m :: Q) ls z nx) (hg : w3.grownBy w4 sv.ownBlock) (he : m.sv = sv) (hS : SyS rb g i (.slice (some ⟨g, 0, none⟩) n c) sv no w3) : SyS rb g i (.slice (some ⟨g, 0, none⟩) n c) sv no w4 := by
  have hc := Chg.of_grown (S := fun k => sv.ownBlock = some k) hg fun k e => .inl e
  have nb : ∀ {k : Nat} {T : TypeId} {xs : Array Value}, Blk w3 k T xs → T ≠ 5 → ¬ sv.ownBlock = some k := fun {k T xs} hb hT q => by
    rw [← he] at q
    obtain ⟨cur, hcu⟩ := own_blk (h.sr m (by simp)) q
    exact blk_ne0 hb hcu hT rfl
  obtain ⟨cg, hcg⟩ := own_blk h.fr (g := g) rfl
  exact sys_chg hS hc ((World.cell?_of_block (a := ⟨rb, 0, none⟩) (hc.block rb h.blk.lt (nb h.blk (by decide)))).trans hS.1) (nb hcg (by decide))
set_option maxHeartbeats 1000000 in
theorem rsync_no {w : World} {B rb nx : Nat} {fv lv : Value} {P Q : List Rm} {ls : List Lm} {z : Int} (h : Rk w B rb fv lv (P ++ Q) ls z nx) (x : ByteArray) (hx : x.size ≤ maxLen) (hn : ∀ m ∈ P ++ Q, m.n.size ≤ maxLen) (hl : (P ++ Q).length ≤ 100000) (hP : ∀ a ∈ P, bef a.n x = true) (hQ : ∀ c ∈ Q, bef x c.n = true) :
    Calls Try.prog 14 #[.pointer (some ⟨rb, 0, none⟩), .string x] w fun e w' => e = .returned (.int .i64 12) ∧ Below w.heap.size w w' := by
  have HF := hid (rfind_ok h x hx hn (by omega))
  have HP := hid hP
  have HQ := hid hQ
  clear h hP hQ hn hl
  go_enter Try.func14, Try.ntmps14
  go_wp2_with (go_at_call 34; refine HF.out.mono ?_; rintro e w1 ⟨i, ok, rfl, hE, hb⟩; obtain ⟨rfl, rfl⟩ := find_no hE HP.out HQ.out; have HB := hid hb; clear hE hb)
  go_ret
  exact ⟨rfl, HB.out⟩
/-- A file behind Sync. -/
def Rm.sync (m : Rm) (v : Value) (b : List UInt8) : Rm := { m with sv := v, s := m.s ++ b, h := true }
set_option maxRecDepth 100000 in
set_option maxHeartbeats 8000000 in
theorem rsync_yes {w : World} {B rb nx : Nat} {fv lv : Value} {P Q : List Rm} {m : Rm} {ls : List Lm} {z : Int} (h : Rk w B rb fv lv (P ++ m :: Q) ls z nx) (hx : m.n.size ≤ maxLen) (hn : ∀ m' ∈ P ++ m :: Q, m'.n.size ≤ maxLen) (hl : (P ++ m :: Q).length ≤ 100000) (hr : RisM (P ++ m :: Q)) (hls : ls.length ≤ 1000000) (hms : m.s.length ≤ 50000000) :
    Calls Try.prog 14 #[.pointer (some ⟨rb, 0, none⟩), .string m.n] w fun e w' => e = .returned (.int .i64 0) ∧ ∃ v lv', RkE w w' B rb fv lv (P ++ m :: Q) fv lv' (P ++ m.sync v (bytesM ls m.no) :: Q) (outM ls m.no) z nx := by
  have HF := hid (rfind_ok h m.n hx hn (by omega))
  have HFE := hid fun i ok (hE : FindE m.n (P ++ m :: Q) i ok) => find_yes hE hr rfl
  have hlen : P.length < (P ++ m :: Q).length := by simp
  obtain ⟨nf, hnf⟩ : ∃ nf, (P ++ m :: Q).length = nf := ⟨_, rfl⟩
  obtain ⟨Af, cf, rfl⟩ := mrow_form h.fr hnf
  obtain ⟨g, rfl, _⟩ := mrow_at h.fr hlen
  have HLn := hid hlen
  rw [hnf] at hlen hl
  obtain ⟨i, hi⟩ : ∃ i, P.length = i := ⟨_, rfl⟩
  have HPi := hid hi
  rw [hi] at hlen HFE
  obtain ⟨ns, hns⟩ : ∃ ns, m.s.length = ns := ⟨_, rfl⟩
  have HNs := hid hns
  obtain ⟨As, cs, es⟩ := row_form (h.sr m (by simp)) hns
  have HES := hid es
  have HK := hid h
  have HLs := hid hls
  have HMs := hid hms
  obtain ⟨no, hno⟩ : ∃ no, m.no = no := ⟨_, rfl⟩
  have HNo := hid hno
  rw [hno]
  obtain ⟨y, hy⟩ : ∃ y, m.n = y := ⟨_, rfl⟩
  rw [hy] at HF HFE hx ⊢
  unfold maxLen at hx
  clear h hls hms hnf hi hno hr hn hy hns es
  go_enter Try.func14, Try.ntmps14
  go_upto_region 2 with (go_at_call 34; refine HF.out.mono ?_; rintro e w2 ⟨i', ok, rfl, hE, hb⟩; obtain ⟨rfl, rfl⟩ := HFE.out i' ok hE; have HB2 := hid hb; clear hE hb)
  have HK2 := hid (HK.out.below HB2.out)
  have HT := hid fun W (hW : Below w2.heap.size w2 W) => rtake_ok (HK2.out.below hW) HLs.out no
  have HS : SyS rb g i' (.slice (some ⟨g, 0, none⟩) nf cf) (.slice As ns cs) (no : Int) w2 := by
    obtain ⟨g', e, hc⟩ := mrow_at HK2.out.fr HLn.out
    obtain rfl : g = g' := by injection e with e; injection e
    have hat : (P ++ m :: Q)[P.length]'HLn.out = m := by simp
    rw [hat, HPi.out] at hc
    have x1 := hc 1 _ (by omega) rfl
    have x2 := hc 2 _ (by omega) rfl
    rw [HNo.out] at x1
    rw [HES.out] at x2
    obtain ⟨cur, hcu⟩ := own_blk HK2.out.fr (g := g) rfl
    exact ⟨HK2.out.blk.cell 0, x2, x1, hcu.free _⟩
  have HG : Hid (g ≠ rb) := by
    obtain ⟨cur, hcu⟩ := own_blk HK2.out.fr (g := g) rfl
    exact blk_ne0 hcu HK2.out.blk (by decide)
  have HBb : Hid (B ≤ w2.heap.size) := Nat.le_trans HK2.out.lo (Nat.le_of_lt HK2.out.blk.lt)
  clear HF HFE
  go_upto_region 4 with (fail)
  refine wp_region_till 26 (SyS rb g i' (.slice (some ⟨g, 0, none⟩) nf cf) (.slice As ns cs) (no : Int)) (by kernel_rfl) (sys_chg HS (Chg.of_below (fun _ => False) (Below.refl _ _).drew) ((World.cell?_of_block rfl).trans HS.1) (fun q => q)) (fun hHeld => ?_)
  (refine wpAnyT_take (i := 0) (v := ?_) rfl (by kernel_rfl) (fun _ _ _ h => h) (Or.inl ⟨by kernel_rfl, ?_⟩) (by assumption) ?_; rotate_left; · (intro w hSw; (try dsimp only at hSw); go_split_ands; go_simp; first | done | with_reducible rfl))
  (try simp only [Act.put]); (try simp only [List.getElem_toArray]); (try simp only [List.getElem_cons_succ]); (try simp only [List.getElem_cons_zero]); (try simp only [List.setIfInBounds_toArray]); (try simp only [List.set_cons_succ]); (try simp only [List.set_cons_zero])
  (refine wpAnyT_take (i := 1) (v := ?_) rfl (by kernel_rfl) (fun _ _ _ h => h) (Or.inl ⟨by kernel_rfl, ?_⟩) (by assumption) ?_; rotate_left; · (intro w hSw; (try dsimp only at hSw); go_split_ands; go_simp; first | done | with_reducible rfl))
  (try simp only [Act.put]); (try simp only [List.getElem_toArray]); (try simp only [List.getElem_cons_succ]); (try simp only [List.getElem_cons_zero]); (try simp only [List.setIfInBounds_toArray]); (try simp only [List.set_cons_succ]); (try simp only [List.set_cons_zero])
  (refine wpAnyT_take (i := 2) (v := ?_) rfl (by kernel_rfl) (fun _ _ _ h => h) (Or.inl ⟨by kernel_rfl, ?_⟩) (by assumption) ?_; rotate_left; · (intro w hSw; (try dsimp only at hSw); go_split_ands; go_simp; first | done | with_reducible rfl))
  (try simp only [Act.put]); (try simp only [List.getElem_toArray]); (try simp only [List.getElem_cons_succ]); (try simp only [List.getElem_cons_zero]); (try simp only [List.setIfInBounds_toArray]); (try simp only [List.set_cons_succ]); (try simp only [List.set_cons_zero])
  (refine wpAnyT_take (i := 3) (v := ?_) rfl (by kernel_rfl) (fun _ _ _ h => h) (Or.inl ⟨by kernel_rfl, ?_⟩) (by assumption) ?_; rotate_left; · (intro w hSw; (try dsimp only at hSw); go_split_ands; go_simp; first | done | with_reducible rfl))
  (try simp only [Act.put]); (try simp only [List.getElem_toArray]); (try simp only [List.getElem_cons_succ]); (try simp only [List.getElem_cons_zero]); (try simp only [List.setIfInBounds_toArray]); (try simp only [List.set_cons_succ]); (try simp only [List.set_cons_zero])
  (refine wpAnyT_take (i := 4) (v := ?_) rfl (by kernel_rfl) (fun _ _ _ h => h) (Or.inl ⟨by kernel_rfl, ?_⟩) (by assumption) ?_; rotate_left; · (intro w hSw; (try dsimp only at hSw); go_split_ands; go_simp; first | done | with_reducible rfl))
  (try simp only [Act.put]); (try simp only [List.getElem_toArray]); (try simp only [List.getElem_cons_succ]); (try simp only [List.getElem_cons_zero]); (try simp only [List.setIfInBounds_toArray]); (try simp only [List.set_cons_succ]); (try simp only [List.set_cons_zero])
  (refine wpAnyT_take (i := 5) (v := ?_) rfl (by kernel_rfl) (fun _ _ _ h => h) (Or.inl ⟨by kernel_rfl, ?_⟩) (by assumption) ?_; rotate_left; · (intro w hSw; (try dsimp only at hSw); go_split_ands; go_simp; first | done | with_reducible rfl))
  (try simp only [Act.put]); (try simp only [List.getElem_toArray]); (try simp only [List.getElem_cons_succ]); (try simp only [List.getElem_cons_zero]); (try simp only [List.setIfInBounds_toArray]); (try simp only [List.set_cons_succ]); (try simp only [List.set_cons_zero])
  (refine wpAnyT_take (i := 6) (v := ?_) rfl (by kernel_rfl) (fun _ _ _ h => h) (Or.inl ⟨by kernel_rfl, ?_⟩) (by assumption) ?_; rotate_left; · (intro w hSw; (try dsimp only at hSw); go_split_ands; go_simp; first | done | with_reducible rfl))
  (try simp only [Act.put]); (try simp only [List.getElem_toArray]); (try simp only [List.getElem_cons_succ]); (try simp only [List.getElem_cons_zero]); (try simp only [List.setIfInBounds_toArray]); (try simp only [List.set_cons_succ]); (try simp only [List.set_cons_zero])
  (refine wpAnyT_take (i := 7) (v := ?_) rfl (by kernel_rfl) (fun _ _ _ h => h) (Or.inl ⟨by kernel_rfl, ?_⟩) (by assumption) ?_; rotate_left; · (intro w hSw; (try dsimp only at hSw); go_split_ands; go_simp; first | done | with_reducible rfl))
  (try simp only [Act.put]); (try simp only [List.getElem_toArray]); (try simp only [List.getElem_cons_succ]); (try simp only [List.getElem_cons_zero]); (try simp only [List.setIfInBounds_toArray]); (try simp only [List.set_cons_succ]); (try simp only [List.set_cons_zero])
  (refine wpAnyT_take (i := 8) (v := ?_) rfl (by kernel_rfl) (fun _ _ _ h => h) (Or.inl ⟨by kernel_rfl, ?_⟩) (by assumption) ?_; rotate_left; · (intro w hSw; (try dsimp only at hSw); go_split_ands; go_simp; first | done | with_reducible rfl))
  (try simp only [Act.put]); (try simp only [List.getElem_toArray]); (try simp only [List.getElem_cons_succ]); (try simp only [List.getElem_cons_zero]); (try simp only [List.setIfInBounds_toArray]); (try simp only [List.set_cons_succ]); (try simp only [List.set_cons_zero])
  (refine wpAnyT_take (i := 9) (v := ?_) rfl (by kernel_rfl) (fun _ _ _ h => h) (Or.inl ⟨by kernel_rfl, ?_⟩) (by assumption) ?_; rotate_left; · (intro w hSw; (try dsimp only at hSw); go_split_ands; go_simp; first | done | with_reducible rfl))
  (try simp only [Act.put]); (try simp only [List.getElem_toArray]); (try simp only [List.getElem_cons_succ]); (try simp only [List.getElem_cons_zero]); (try simp only [List.setIfInBounds_toArray]); (try simp only [List.set_cons_succ]); (try simp only [List.set_cons_zero])
  (refine wpAnyT_take (i := 10) (v := ?_) rfl (by kernel_rfl) (fun _ _ _ h => h) (Or.inl ⟨by kernel_rfl, ?_⟩) (by assumption) ?_; rotate_left; · (intro w hSw; (try dsimp only at hSw); go_split_ands; go_simp; first | done | with_reducible rfl))
  (try simp only [Act.put]); (try simp only [List.getElem_toArray]); (try simp only [List.getElem_cons_succ]); (try simp only [List.getElem_cons_zero]); (try simp only [List.setIfInBounds_toArray]); (try simp only [List.set_cons_succ]); (try simp only [List.set_cons_zero])
  (refine wpAnyT_take (i := 11) (v := ?_) rfl (by kernel_rfl) (fun _ _ _ h => h) (Or.inl ⟨by kernel_rfl, ?_⟩) (by assumption) ?_; rotate_left; · (intro w hSw; (try dsimp only at hSw); go_split_ands; go_simp; first | done | with_reducible rfl))
  (try simp only [Act.put]); (try simp only [List.getElem_toArray]); (try simp only [List.getElem_cons_succ]); (try simp only [List.getElem_cons_zero]); (try simp only [List.setIfInBounds_toArray]); (try simp only [List.set_cons_succ]); (try simp only [List.set_cons_zero])
  (refine wpAnyT_take (i := 12) (v := ?_) rfl (by kernel_rfl) (fun _ _ _ h => h) (Or.inl ⟨by kernel_rfl, ?_⟩) (by assumption) ?_; rotate_left; · (intro w hSw; (try dsimp only at hSw); go_split_ands; go_simp; first | done | with_reducible rfl))
  (try simp only [Act.put]); (try simp only [List.getElem_toArray]); (try simp only [List.getElem_cons_succ]); (try simp only [List.getElem_cons_zero]); (try simp only [List.setIfInBounds_toArray]); (try simp only [List.set_cons_succ]); (try simp only [List.set_cons_zero])
  (refine wpAnyT_take (i := 13) (v := ?_) rfl (by kernel_rfl) (fun _ _ _ h => h) (Or.inl ⟨by kernel_rfl, ?_⟩) (by assumption) ?_; rotate_left; · (intro w hSw; (try dsimp only at hSw); go_split_ands; go_simp; first | done | with_reducible rfl))
  (try simp only [Act.put]); (try simp only [List.getElem_toArray]); (try simp only [List.getElem_cons_succ]); (try simp only [List.getElem_cons_zero]); (try simp only [List.setIfInBounds_toArray]); (try simp only [List.set_cons_succ]); (try simp only [List.set_cons_zero])
  (refine wpAnyT_take (i := 14) (v := ?_) rfl (by kernel_rfl) (fun _ _ _ h => h) (Or.inl ⟨by kernel_rfl, ?_⟩) (by assumption) ?_; rotate_left; · (intro w hSw; (try dsimp only at hSw); go_split_ands; go_simp; first | done | with_reducible rfl))
  (try simp only [Act.put]); (try simp only [List.getElem_toArray]); (try simp only [List.getElem_cons_succ]); (try simp only [List.getElem_cons_zero]); (try simp only [List.setIfInBounds_toArray]); (try simp only [List.set_cons_succ]); (try simp only [List.set_cons_zero])
  (refine wpAnyT_take (i := 15) (v := ?_) rfl (by kernel_rfl) (fun _ _ _ h => h) (Or.inl ⟨by kernel_rfl, ?_⟩) (by assumption) ?_; rotate_left; · (intro w hSw; (try dsimp only at hSw); go_split_ands; go_simp; first | done | with_reducible rfl))
  (try simp only [Act.put]); (try simp only [List.getElem_toArray]); (try simp only [List.getElem_cons_succ]); (try simp only [List.getElem_cons_zero]); (try simp only [List.setIfInBounds_toArray]); (try simp only [List.set_cons_succ]); (try simp only [List.set_cons_zero])
  (refine wpAnyT_take (i := 16) (v := ?_) rfl (by kernel_rfl) (fun _ _ _ h => h) (Or.inl ⟨by kernel_rfl, ?_⟩) (by assumption) ?_; rotate_left; · (intro w hSw; (try dsimp only at hSw); go_split_ands; go_simp; first | done | with_reducible rfl))
  (try simp only [Act.put]); (try simp only [List.getElem_toArray]); (try simp only [List.getElem_cons_succ]); (try simp only [List.getElem_cons_zero]); (try simp only [List.setIfInBounds_toArray]); (try simp only [List.set_cons_succ]); (try simp only [List.set_cons_zero])
  (refine wpAnyT_take (i := 17) (v := ?_) rfl (by kernel_rfl) (fun _ _ _ h => h) (Or.inl ⟨by kernel_rfl, ?_⟩) (by assumption) ?_; rotate_left; · (intro w hSw; (try dsimp only at hSw); go_split_ands; go_simp; first | done | with_reducible rfl))
  (try simp only [Act.put]); (try simp only [List.getElem_toArray]); (try simp only [List.getElem_cons_succ]); (try simp only [List.getElem_cons_zero]); (try simp only [List.setIfInBounds_toArray]); (try simp only [List.set_cons_succ]); (try simp only [List.set_cons_zero])
  (refine wpAnyT_take (i := 18) (v := ?_) rfl (by kernel_rfl) (fun _ _ _ h => h) (Or.inl ⟨by kernel_rfl, ?_⟩) (by assumption) ?_; rotate_left; · (intro w hSw; (try dsimp only at hSw); go_split_ands; go_simp; first | done | with_reducible rfl))
  (try simp only [Act.put]); (try simp only [List.getElem_toArray]); (try simp only [List.getElem_cons_succ]); (try simp only [List.getElem_cons_zero]); (try simp only [List.setIfInBounds_toArray]); (try simp only [List.set_cons_succ]); (try simp only [List.set_cons_zero])
  (refine wpAnyT_take (i := 19) (v := ?_) rfl (by kernel_rfl) (fun _ _ _ h => h) (Or.inl ⟨by kernel_rfl, ?_⟩) (by assumption) ?_; rotate_left; · (intro w hSw; (try dsimp only at hSw); go_split_ands; go_simp; first | done | with_reducible rfl))
  (try simp only [Act.put]); (try simp only [List.getElem_toArray]); (try simp only [List.getElem_cons_succ]); (try simp only [List.getElem_cons_zero]); (try simp only [List.setIfInBounds_toArray]); (try simp only [List.set_cons_succ]); (try simp only [List.set_cons_zero])
  (refine wpAnyT_take (i := 20) (v := ?_) rfl (by kernel_rfl) (fun _ _ _ h => h) (Or.inl ⟨by kernel_rfl, ?_⟩) (by assumption) ?_; rotate_left; · (intro w hSw; (try dsimp only at hSw); go_split_ands; go_simp; first | done | with_reducible rfl))
  (try simp only [Act.put]); (try simp only [List.getElem_toArray]); (try simp only [List.getElem_cons_succ]); (try simp only [List.getElem_cons_zero]); (try simp only [List.setIfInBounds_toArray]); (try simp only [List.set_cons_succ]); (try simp only [List.set_cons_zero])
  (refine wpAnyT_take (i := 21) (v := ?_) rfl (by kernel_rfl) (fun _ _ _ h => h) (Or.inl ⟨by kernel_rfl, ?_⟩) (by assumption) ?_; rotate_left; · (intro w hSw; (try dsimp only at hSw); go_split_ands; go_simp; first | done | with_reducible rfl))
  (try simp only [Act.put]); (try simp only [List.getElem_toArray]); (try simp only [List.getElem_cons_succ]); (try simp only [List.getElem_cons_zero]); (try simp only [List.setIfInBounds_toArray]); (try simp only [List.set_cons_succ]); (try simp only [List.set_cons_zero])
  (refine wpAnyT_one (i := 22) (by kernel_rfl) rfl (fun K hK => ?_); (go_simp; go_at_call 36; refine (HT.out _ (Below.refl _ _).drew).mono ?_; rintro e w3 ⟨vt, v2, rfl, hrt, hk3, hc3, hn3⟩; obtain ⟨nt, hnt⟩ : ∃ nt, (bytesM ls no).length = nt := ⟨_, rfl⟩; obtain ⟨At, ct, rfl⟩ := row_form hrt hnt; have HNt := hid hnt; have HRt := hid hrt; have HK3 := hid hk3; have HC3 := hid hc3; have HN3 := hid hn3; have hS3 := sys_chg hHeld hc3 (hk3.blk.cell 0) HG.out; clear hrt hk3 hc3 hn3 hnt); refine hK.out _ _ (.inr ?_) (fun hHeld => ?_))
  · exact hS3
  replace hHeld := hHeld.resolve_left (by decide)
  clear hK K
  (try simp only [Act.put]); (try simp only [List.getElem_toArray]); (try simp only [List.getElem_cons_succ]); (try simp only [List.getElem_cons_zero]); (try simp only [List.setIfInBounds_toArray]); (try simp only [List.set_cons_succ]); (try simp only [List.set_cons_zero])
  clear hS3
  (refine wpAnyT_one (i := 23) (by kernel_rfl) rfl (fun K hK => ?_); (refine step_append_row rfl (.tmp 27) (.tmp 37) rfl rfl _ B (.slice As ns cs) m.s rfl (by have := HK3.out.sr m (by simp); rw [HES.out] at this; exact this) At nt ct (bytesM ls no) HNt.out rfl HRt.out.sla.hold (by have := HMs.out; have := bytesM_len ls no; have := HLs.out; omega) (by have := HBb.out; have := HC3.out.size; simp at this; omega) ?_; intro v4 w4 hr4 hg4 hl4; obtain ⟨n4, hn4⟩ : ∃ n4, (m.s ++ bytesM ls no).length = n4 := ⟨_, rfl⟩; obtain ⟨A4, c4, rfl⟩ := row_form hr4 hn4; have HR4 := hid hr4; have HG4 := hid hg4; have HL4 := hid hl4; have hS4 : SyS rb g i' (.slice (some ⟨g, 0, none⟩) nf cf) (.slice As ns cs) (no : Int) w4 := sy_app HK3.out hg4 HES.out hHeld; clear hr4 hg4 hl4 hn4); refine hK.out _ _ (.inr ?_) (fun hHeld => ?_))
  · exact hS4
  replace hHeld := hHeld.resolve_left (by decide)
  clear hK K
  (try simp only [Act.put]); (try simp only [List.getElem_toArray]); (try simp only [List.getElem_cons_succ]); (try simp only [List.getElem_cons_zero]); (try simp only [List.setIfInBounds_toArray]); (try simp only [List.set_cons_succ]); (try simp only [List.set_cons_zero])
  clear hS4
  (refine wpAnyT_one (i := 24) (by kernel_rfl) rfl (fun K hK => ?_); go_simp; refine hK.out _ _ (.inr ?_) (fun hHeld => ?_))
  · exact hHeld
  replace hHeld := hHeld.resolve_left (by decide)
  clear hK K
  (try simp only [Act.put]); (try simp only [List.getElem_toArray]); (try simp only [List.getElem_cons_succ]); (try simp only [List.getElem_cons_zero]); (try simp only [List.setIfInBounds_toArray]); (try simp only [List.set_cons_succ]); (try simp only [List.set_cons_zero])
  (refine wpAnyT_one (i := 25) (by kernel_rfl) rfl (fun K hK => ?_); go_simp; refine hK.out _ _ (.inr ?_) (fun hHeld => ?_))
  · exact hHeld
  replace hHeld := hHeld.resolve_left (by decide)
  clear hK K
  (try simp only [Act.put]); (try simp only [List.getElem_toArray]); (try simp only [List.getElem_cons_succ]); (try simp only [List.getElem_cons_zero]); (try simp only [List.setIfInBounds_toArray]); (try simp only [List.set_cons_succ]); (try simp only [List.set_cons_zero])
  (refine wpAnyT_one (i := 26) (by kernel_rfl) rfl (fun K hK => ?_); (obtain ⟨r0, r1, r2, r3⟩ := id hHeld; go_simp); refine hK.out _ _ (.inl rfl) (fun _ => ?_))
  clear hK K
  (try simp only [Act.put]); (try simp only [List.getElem_toArray]); (try simp only [List.getElem_cons_succ]); (try simp only [List.getElem_cons_zero]); (try simp only [List.setIfInBounds_toArray]); (try simp only [List.set_cons_succ]); (try simp only [List.set_cons_zero])
  refine wpAnyT_done (by kernel_rfl) ?_ _
  have HK5 : Hid (RkE w (w4.setCell ⟨g, i' * 4 + 2, none⟩ (.slice A4 n4 c4)) B rb (.slice (some ⟨g, 0, none⟩) nf cf) lv (P ++ m :: Q) (.slice (some ⟨g, 0, none⟩) nf cf) v2 (P ++ { m with sv := .slice A4 n4 c4, s := m.s ++ bytesM ls no } :: Q) (outM ls no) z nx) := by
    have h0 : RkE w w3 B rb (.slice (some ⟨g, 0, none⟩) nf cf) lv (P ++ m :: Q) (.slice (some ⟨g, 0, none⟩) nf cf) v2 (P ++ m :: Q) (outM ls no) z nx := (rke_take HK3.out HC3.out (lv := lv) (ms := P ++ m :: Q) HN3.out).lift (HB2.out.drew)
    have h1 := rke_setm (m' := { m with sv := .slice A4 n4 c4, s := m.s ++ bytesM ls no }) (S := fun k => m.sv.ownBlock = some k) h0 (Chg.of_grown (S := fun k => m.sv.ownBlock = some k) HG4.out fun k e => .inl (by rw [HES.out]; exact e)) (fun k e => e) HR4.out (fun k e => by
      rcases HL4.out with r | r
      · refine .inl ?_
        rw [HES.out]
        exact r ▸ e
      · have e2 : (Value.slice A4 n4 c4).ownBlock = some k := e
        rw [r] at e2
        exact .inr (Nat.le_of_eq (Option.some.inj e2))) 2 (.slice A4 n4 c4) (by decide) rfl
    rw [HPi.out] at h1
    exact h1
  obtain ⟨w5, hw5⟩ : ∃ w5, w4.setCell ⟨g, i' * 4 + 2, none⟩ (.slice A4 n4 c4) = w5 := ⟨_, rfl⟩
  rw [hw5] at HK5 ⊢
  have m5 := HK5.out.rk.blk.cell 0
  have hx5 : w5.cell? ⟨g, i' * 4 + 3, none⟩ = some (.bool m.h) ∧ w5.frozen? ⟨g, i' * 4 + 3, none⟩ = false := by
    have hln : P.length < (P ++ { m with sv := .slice A4 n4 c4, s := m.s ++ bytesM ls no } :: Q).length := by simp
    obtain ⟨g', e, hc⟩ := mrow_at HK5.out.rk.fr hln
    obtain rfl : g = g' := by injection e with e; injection e
    have hat : (P ++ { m with sv := .slice A4 n4 c4, s := m.s ++ bytesM ls no } :: Q)[P.length]'hln = { m with sv := .slice A4 n4 c4, s := m.s ++ bytesM ls no } := by simp
    rw [hat, HPi.out] at hc
    obtain ⟨cur, hcu⟩ := own_blk HK5.out.rk.fr (g := g) rfl
    exact ⟨hc 3 _ (by omega) rfl, hcu.free _⟩
  obtain ⟨x5, f5⟩ := hx5
  have HE := rke_setm (m' := m.sync (.slice A4 n4 c4) (bytesM ls no)) (S := fun _ => False) HK5.out (Chg.refl _ _) (fun _ e => e.elim) (HK5.out.rk.sr { m with sv := .slice A4 n4 c4, s := m.s ++ bytesM ls no } (by simp)) (fun k e => .inl e) 3 (.bool true) (by decide) rfl
  rw [HPi.out] at HE
  have HEh := hid HE
  clear hw5 HE HS hHeld
  go_wp2
  go_ret
  exact ⟨rfl, _, _, HEh.out⟩
end Go.Proofs.Ytofkfafdodhmdaa
