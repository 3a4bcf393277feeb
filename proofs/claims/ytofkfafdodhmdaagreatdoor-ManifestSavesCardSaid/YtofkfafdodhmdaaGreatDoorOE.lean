/- Several texts in one: SuT SuU. Conditions: as each theorem names them. -/
import Derived.Test.YtofkfafdodhmdaaGreatDoorOD
/- The document's Sync. Conditions: the disk stands. -/
namespace Go.Proofs.YtofkfafdodhmdaaGreatDoor
open Go.RowKit

/-- A file's words are turned in their row. -/
theorem rke_setm {w wr w1 : World} {B rb nx g n c : Nat} {fv lv lv' : Value} {ms0 P Q : List Rm} {m m' : Rm} {ls : List Lm} {z : Int} {S : Nat → Prop} (h : RkE w wr B rb fv lv ms0 (.slice (some ⟨g, 0, none⟩) n c) lv' (P ++ m :: Q) ls z nx) (hc : Chg S wr w1)
    (hS : ∀ k, S k → m.sv.ownBlock = some k) (hm' : Row w1 B m'.sv m'.s) (hs : ∀ k, m'.sv.ownBlock = some k → m.sv.ownBlock = some k ∨ wr.heap.size ≤ k) (j : Nat) (x : Value) (hj : j < 4) (he : (encM m).set j x = encM m') :
    RkE w (w1.setCell ⟨g, P.length * 4 + j, none⟩ x) B rb fv lv ms0 (.slice (some ⟨g, 0, none⟩) n c) lv' (P ++ m' :: Q) ls z nx := by
  obtain ⟨a1, a2⟩ := h.rk.setm hc hS hm' hs j x hj he
  refine ⟨a1, h.ch.trans a2 h.sub, fun k q => ?_⟩
  rcases q with q | q | q | ⟨a, ha, q⟩
  · exact h.sub k (.inl q)
  · exact h.sub k (.inr (.inl q))
  · exact h.sub k (.inr (.inr (.inl q)))
  · rcases List.mem_append.1 ha with r | r
    · exact h.sub k (.inr (.inr (.inr ⟨a, List.mem_append_left _ r, q⟩)))
    · rcases List.mem_cons.1 r with r | r
      · subst r
        rcases hs k q with r | r
        · exact h.sub k (.inr (.inr (.inr ⟨m, by simp, r⟩)))
        · exact .inr (Nat.le_trans h.ch.size r)
      · exact h.sub k (.inr (.inr (.inr ⟨a, List.mem_append_right _ (List.mem_cons_of_mem _ r), q⟩)))
/-- What the region reads. -/
abbrev SyS (rb g i : Nat) (fv sv : Value) (no : Int) (W : World) : Prop := W.cell? ⟨rb, 0, none⟩ = some fv ∧ W.cell? ⟨g, i * 4 + 2, none⟩ = some sv ∧ W.cell? ⟨g, i * 4 + 1, none⟩ = some (.int .i64 no) ∧ W.frozen? ⟨g, i * 4 + 2, none⟩ = false
theorem sys_chg {W W' : World} {rb g i : Nat} {fv sv : Value} {no : Int} {S : Nat → Prop} (h : SyS rb g i fv sv no W) (hc : Chg S W W') (h0 : W'.cell? ⟨rb, 0, none⟩ = some fv) (hS : ¬ S g) : SyS rb g i fv sv no W' := by
  obtain ⟨_, h1, h2, h3⟩ := h
  have k0 : W'.heap[g]? = W.heap[g]? := hc.block g (cell_lt h1) hS
  exact ⟨h0, (World.cell?_of_block (a := ⟨g, i * 4 + 2, none⟩) k0).trans h1, (World.cell?_of_block (a := ⟨g, i * 4 + 1, none⟩) k0).trans h2, (World.frozen?_of_block (a := ⟨g, i * 4 + 2, none⟩) k0).trans h3⟩
theorem bytesM_len (ls : List Lm) (no : Nat) : (bytesM ls no).length ≤ ls.length := by
  unfold bytesM
  rw [List.length_map]
  exact List.length_filter_le _ _
theorem sy_app {w3 w4 : World} {B rb nx g i n c : Nat} {lv sv : Value} {P Q : List Rm} {m : Rm} {ls : List Lm} {z no : Int} (h : Rk w3 B rb (.slice (some ⟨g, 0, none⟩) n c) lv (P ++ m :: Q) ls z nx) (hg : w3.grownBy w4 sv.ownBlock) (he : m.sv = sv) (hS : SyS rb g i (.slice (some ⟨g, 0, none⟩) n c) sv no w3) : SyS rb g i (.slice (some ⟨g, 0, none⟩) n c) sv no w4 := by
  have hc := Chg.of_grown (S := fun k => sv.ownBlock = some k) hg fun k e => .inl e
  have nb : ∀ {k : Nat} {T : TypeId} {xs : Array Value}, Blk w3 k T xs → T ≠ 5 → ¬ sv.ownBlock = some k := fun {k T xs} hb hT q => by
    rw [← he] at q
    obtain ⟨cur, hcu⟩ := own_blk (h.sr m (by simp)) q
    exact blk_ne0 hb hcu hT rfl
  obtain ⟨cg, hcg⟩ := own_blk h.fr (g := g) rfl
  exact sys_chg hS hc ((World.cell?_of_block (a := ⟨rb, 0, none⟩) (hc.block rb h.blk.lt (nb h.blk (by decide)))).trans hS.1) (nb hcg (by decide))
set_option maxHeartbeats 1000000 in
theorem rsync_no {w : World} {B rb nx : Nat} {fv lv : Value} {P Q : List Rm} {ls : List Lm} {z : Int} (h : Rk w B rb fv lv (P ++ Q) ls z nx) (x : ByteArray) (hx : x.size ≤ maxLen) (hn : ∀ m ∈ P ++ Q, m.n.size ≤ maxLen) (hl : (P ++ Q).length ≤ 100000) (hP : ∀ a ∈ P, bef a.n x = true) (hQ : ∀ c ∈ Q, bef x c.n = true) :
    Calls Tryz.prog 55 #[.pointer (some ⟨rb, 0, none⟩), .string x] w fun e w' => e = .returned (.int .i64 12) ∧ Below w.heap.size w w' := by
  have HF := hid (rfind_ok h x hx hn (by omega))
  have HP := hid hP
  have HQ := hid hQ
  clear h hP hQ hn hl
  go_enter Tryz.func55, Tryz.ntmps55
  go_wp2_with (go_at_call 61; refine HF.out.mono ?_; rintro e w1 ⟨i, ok, rfl, hE, hb⟩; obtain ⟨rfl, rfl⟩ := find_no hE HP.out HQ.out; have HB := hid hb; clear hE hb)
  go_ret
  exact ⟨rfl, HB.out⟩
/-- A file behind Sync. -/
def Rm.sync (m : Rm) (v : Value) (b : List UInt8) : Rm := { m with sv := v, s := m.s ++ b, h := true }
set_option maxRecDepth 100000 in
set_option maxHeartbeats 8000000 in
theorem rsync_yes {w : World} {B rb nx : Nat} {fv lv : Value} {P Q : List Rm} {m : Rm} {ls : List Lm} {z : Int} (h : Rk w B rb fv lv (P ++ m :: Q) ls z nx) (hx : m.n.size ≤ maxLen) (hn : ∀ m' ∈ P ++ m :: Q, m'.n.size ≤ maxLen) (hl : (P ++ m :: Q).length ≤ 100000) (hr : RisM (P ++ m :: Q)) (hls : ls.length ≤ 1000000) (hms : m.s.length ≤ 50000000) :
    Calls Tryz.prog 55 #[.pointer (some ⟨rb, 0, none⟩), .string m.n] w fun e w' => e = .returned (.int .i64 0) ∧ ∃ v lv', RkE w w' B rb fv lv (P ++ m :: Q) fv lv' (P ++ m.sync v (bytesM ls m.no) :: Q) (outM ls m.no) z nx := by
  have HF := hid (rfind_ok h m.n hx hn (by omega))
  have HFE := hid fun i ok (hE : FindE m.n (P ++ m :: Q) i ok) => find_yes hE hr rfl
  have hlen : P.length < (P ++ m :: Q).length := by simp
  obtain ⟨nf, hnf⟩ : ∃ nf, (P ++ m :: Q).length = nf := ⟨_, rfl⟩
  obtain ⟨Af, cf, rfl⟩ := mrow_form h.fr hnf
  obtain ⟨g, rfl, _⟩ := mrow_at h.fr hlen
  have HLn := hid hlen
  rw [hnf] at hlen hl
  obtain ⟨i, hi⟩ : ∃ i, P.length = i := ⟨_, rfl⟩
  have HPi := hid hi
  rw [hi] at hlen HFE
  obtain ⟨ns, hns⟩ : ∃ ns, m.s.length = ns := ⟨_, rfl⟩
  have HNs := hid hns
  obtain ⟨As, cs, es⟩ := row_form (h.sr m (by simp)) hns
  have HES := hid es
  have HK := hid h
  have HLs := hid hls
  have HMs := hid hms
  obtain ⟨no, hno⟩ : ∃ no, m.no = no := ⟨_, rfl⟩
  have HNo := hid hno
  rw [hno]
  obtain ⟨y, hy⟩ : ∃ y, m.n = y := ⟨_, rfl⟩
  rw [hy] at HF HFE hx ⊢
  unfold maxLen at hx
  clear h hls hms hnf hi hno hr hn hy hns es
  go_enter Tryz.func55, Tryz.ntmps55
  go_upto_region 2 with (go_at_call 61; refine HF.out.mono ?_; rintro e w2 ⟨i', ok, rfl, hE, hb⟩; obtain ⟨rfl, rfl⟩ := HFE.out i' ok hE; have HB2 := hid hb; clear hE hb)
  have HK2 := hid (HK.out.below HB2.out)
  have HT := hid fun W (hW : Below w2.heap.size w2 W) => rtake_ok (HK2.out.below hW) HLs.out no
  have HS : SyS rb g i' (.slice (some ⟨g, 0, none⟩) nf cf) (.slice As ns cs) (no : Int) w2 := by
    obtain ⟨g', e, hc⟩ := mrow_at HK2.out.fr HLn.out
    obtain rfl : g = g' := by injection e with e; injection e
    have hat : (P ++ m :: Q)[P.length]'HLn.out = m := by simp
    rw [hat, HPi.out] at hc
    have x1 := hc 1 _ (by omega) rfl
    have x2 := hc 2 _ (by omega) rfl
    rw [HNo.out] at x1
    rw [HES.out] at x2
    obtain ⟨cur, hcu⟩ := own_blk HK2.out.fr (g := g) rfl
    exact ⟨HK2.out.blk.cell 0, x2, x1, hcu.free _⟩
  have HG : Hid (g ≠ rb) := by
    obtain ⟨cur, hcu⟩ := own_blk HK2.out.fr (g := g) rfl
    exact blk_ne0 hcu HK2.out.blk (by decide)
  have HBb : Hid (B ≤ w2.heap.size) := Nat.le_trans HK2.out.lo (Nat.le_of_lt HK2.out.blk.lt)
  clear HF HFE
  go_upto_region 4 with (fail)
  refine wp_region_till 26 (SyS rb g i' (.slice (some ⟨g, 0, none⟩) nf cf) (.slice As ns cs) (no : Int)) (by kernel_rfl) (sys_chg HS (Chg.of_below (fun _ => False) (Below.refl _ _).drew) ((World.cell?_of_block rfl).trans HS.1) (fun q => q)) (fun hHeld => ?_)
  (refine wpAnyT_take (i := 0) (v := ?_) rfl (by kernel_rfl) (fun _ _ _ h => h) (Or.inl ⟨by kernel_rfl, ?_⟩) (by assumption) ?_; rotate_left; · (intro w hSw; (try dsimp only at hSw); go_split_ands; go_simp; first | done | with_reducible rfl))
  (try simp only [Act.put]); (try simp only [List.getElem_toArray]); (try simp only [List.getElem_cons_succ]); (try simp only [List.getElem_cons_zero]); (try simp only [List.setIfInBounds_toArray]); (try simp only [List.set_cons_succ]); (try simp only [List.set_cons_zero])
  (refine wpAnyT_take (i := 1) (v := ?_) rfl (by kernel_rfl) (fun _ _ _ h => h) (Or.inl ⟨by kernel_rfl, ?_⟩) (by assumption) ?_; rotate_left; · (intro w hSw; (try dsimp only at hSw); go_split_ands; go_simp; first | done | with_reducible rfl))
  (try simp only [Act.put]); (try simp only [List.getElem_toArray]); (try simp only [List.getElem_cons_succ]); (try simp only [List.getElem_cons_zero]); (try simp only [List.setIfInBounds_toArray]); (try simp only [List.set_cons_succ]); (try simp only [List.set_cons_zero])
  (refine wpAnyT_take (i := 2) (v := ?_) rfl (by kernel_rfl) (fun _ _ _ h => h) (Or.inl ⟨by kernel_rfl, ?_⟩) (by assumption) ?_; rotate_left; · (intro w hSw; (try dsimp only at hSw); go_split_ands; go_simp; first | done | with_reducible rfl))
  (try simp only [Act.put]); (try simp only [List.getElem_toArray]); (try simp only [List.getElem_cons_succ]); (try simp only [List.getElem_cons_zero]); (try simp only [List.setIfInBounds_toArray]); (try simp only [List.set_cons_succ]); (try simp only [List.set_cons_zero])
  (refine wpAnyT_take (i := 3) (v := ?_) rfl (by kernel_rfl) (fun _ _ _ h => h) (Or.inl ⟨by kernel_rfl, ?_⟩) (by assumption) ?_; rotate_left; · (intro w hSw; (try dsimp only at hSw); go_split_ands; go_simp; first | done | with_reducible rfl))
  (try simp only [Act.put]); (try simp only [List.getElem_toArray]); (try simp only [List.getElem_cons_succ]); (try simp only [List.getElem_cons_zero]); (try simp only [List.setIfInBounds_toArray]); (try simp only [List.set_cons_succ]); (try simp only [List.set_cons_zero])
  (refine wpAnyT_take (i := 4) (v := ?_) rfl (by kernel_rfl) (fun _ _ _ h => h) (Or.inl ⟨by kernel_rfl, ?_⟩) (by assumption) ?_; rotate_left; · (intro w hSw; (try dsimp only at hSw); go_split_ands; go_simp; first | done | with_reducible rfl))
  (try simp only [Act.put]); (try simp only [List.getElem_toArray]); (try simp only [List.getElem_cons_succ]); (try simp only [List.getElem_cons_zero]); (try simp only [List.setIfInBounds_toArray]); (try simp only [List.set_cons_succ]); (try simp only [List.set_cons_zero])
  (refine wpAnyT_take (i := 5) (v := ?_) rfl (by kernel_rfl) (fun _ _ _ h => h) (Or.inl ⟨by kernel_rfl, ?_⟩) (by assumption) ?_; rotate_left; · (intro w hSw; (try dsimp only at hSw); go_split_ands; go_simp; first | done | with_reducible rfl))
  (try simp only [Act.put]); (try simp only [List.getElem_toArray]); (try simp only [List.getElem_cons_succ]); (try simp only [List.getElem_cons_zero]); (try simp only [List.setIfInBounds_toArray]); (try simp only [List.set_cons_succ]); (try simp only [List.set_cons_zero])
  (refine wpAnyT_take (i := 6) (v := ?_) rfl (by kernel_rfl) (fun _ _ _ h => h) (Or.inl ⟨by kernel_rfl, ?_⟩) (by assumption) ?_; rotate_left; · (intro w hSw; (try dsimp only at hSw); go_split_ands; go_simp; first | done | with_reducible rfl))
  (try simp only [Act.put]); (try simp only [List.getElem_toArray]); (try simp only [List.getElem_cons_succ]); (try simp only [List.getElem_cons_zero]); (try simp only [List.setIfInBounds_toArray]); (try simp only [List.set_cons_succ]); (try simp only [List.set_cons_zero])
  (refine wpAnyT_take (i := 7) (v := ?_) rfl (by kernel_rfl) (fun _ _ _ h => h) (Or.inl ⟨by kernel_rfl, ?_⟩) (by assumption) ?_; rotate_left; · (intro w hSw; (try dsimp only at hSw); go_split_ands; go_simp; first | done | with_reducible rfl))
  (try simp only [Act.put]); (try simp only [List.getElem_toArray]); (try simp only [List.getElem_cons_succ]); (try simp only [List.getElem_cons_zero]); (try simp only [List.setIfInBounds_toArray]); (try simp only [List.set_cons_succ]); (try simp only [List.set_cons_zero])
  (refine wpAnyT_take (i := 8) (v := ?_) rfl (by kernel_rfl) (fun _ _ _ h => h) (Or.inl ⟨by kernel_rfl, ?_⟩) (by assumption) ?_; rotate_left; · (intro w hSw; (try dsimp only at hSw); go_split_ands; go_simp; first | done | with_reducible rfl))
  (try simp only [Act.put]); (try simp only [List.getElem_toArray]); (try simp only [List.getElem_cons_succ]); (try simp only [List.getElem_cons_zero]); (try simp only [List.setIfInBounds_toArray]); (try simp only [List.set_cons_succ]); (try simp only [List.set_cons_zero])
  (refine wpAnyT_take (i := 9) (v := ?_) rfl (by kernel_rfl) (fun _ _ _ h => h) (Or.inl ⟨by kernel_rfl, ?_⟩) (by assumption) ?_; rotate_left; · (intro w hSw; (try dsimp only at hSw); go_split_ands; go_simp; first | done | with_reducible rfl))
  (try simp only [Act.put]); (try simp only [List.getElem_toArray]); (try simp only [List.getElem_cons_succ]); (try simp only [List.getElem_cons_zero]); (try simp only [List.setIfInBounds_toArray]); (try simp only [List.set_cons_succ]); (try simp only [List.set_cons_zero])
  (refine wpAnyT_take (i := 10) (v := ?_) rfl (by kernel_rfl) (fun _ _ _ h => h) (Or.inl ⟨by kernel_rfl, ?_⟩) (by assumption) ?_; rotate_left; · (intro w hSw; (try dsimp only at hSw); go_split_ands; go_simp; first | done | with_reducible rfl))
  (try simp only [Act.put]); (try simp only [List.getElem_toArray]); (try simp only [List.getElem_cons_succ]); (try simp only [List.getElem_cons_zero]); (try simp only [List.setIfInBounds_toArray]); (try simp only [List.set_cons_succ]); (try simp only [List.set_cons_zero])
  (refine wpAnyT_take (i := 11) (v := ?_) rfl (by kernel_rfl) (fun _ _ _ h => h) (Or.inl ⟨by kernel_rfl, ?_⟩) (by assumption) ?_; rotate_left; · (intro w hSw; (try dsimp only at hSw); go_split_ands; go_simp; first | done | with_reducible rfl))
  (try simp only [Act.put]); (try simp only [List.getElem_toArray]); (try simp only [List.getElem_cons_succ]); (try simp only [List.getElem_cons_zero]); (try simp only [List.setIfInBounds_toArray]); (try simp only [List.set_cons_succ]); (try simp only [List.set_cons_zero])
  (refine wpAnyT_take (i := 12) (v := ?_) rfl (by kernel_rfl) (fun _ _ _ h => h) (Or.inl ⟨by kernel_rfl, ?_⟩) (by assumption) ?_; rotate_left; · (intro w hSw; (try dsimp only at hSw); go_split_ands; go_simp; first | done | with_reducible rfl))
  (try simp only [Act.put]); (try simp only [List.getElem_toArray]); (try simp only [List.getElem_cons_succ]); (try simp only [List.getElem_cons_zero]); (try simp only [List.setIfInBounds_toArray]); (try simp only [List.set_cons_succ]); (try simp only [List.set_cons_zero])
  (refine wpAnyT_take (i := 13) (v := ?_) rfl (by kernel_rfl) (fun _ _ _ h => h) (Or.inl ⟨by kernel_rfl, ?_⟩) (by assumption) ?_; rotate_left; · (intro w hSw; (try dsimp only at hSw); go_split_ands; go_simp; first | done | with_reducible rfl))
  (try simp only [Act.put]); (try simp only [List.getElem_toArray]); (try simp only [List.getElem_cons_succ]); (try simp only [List.getElem_cons_zero]); (try simp only [List.setIfInBounds_toArray]); (try simp only [List.set_cons_succ]); (try simp only [List.set_cons_zero])
  (refine wpAnyT_take (i := 14) (v := ?_) rfl (by kernel_rfl) (fun _ _ _ h => h) (Or.inl ⟨by kernel_rfl, ?_⟩) (by assumption) ?_; rotate_left; · (intro w hSw; (try dsimp only at hSw); go_split_ands; go_simp; first | done | with_reducible rfl))
  (try simp only [Act.put]); (try simp only [List.getElem_toArray]); (try simp only [List.getElem_cons_succ]); (try simp only [List.getElem_cons_zero]); (try simp only [List.setIfInBounds_toArray]); (try simp only [List.set_cons_succ]); (try simp only [List.set_cons_zero])
  (refine wpAnyT_take (i := 15) (v := ?_) rfl (by kernel_rfl) (fun _ _ _ h => h) (Or.inl ⟨by kernel_rfl, ?_⟩) (by assumption) ?_; rotate_left; · (intro w hSw; (try dsimp only at hSw); go_split_ands; go_simp; first | done | with_reducible rfl))
  (try simp only [Act.put]); (try simp only [List.getElem_toArray]); (try simp only [List.getElem_cons_succ]); (try simp only [List.getElem_cons_zero]); (try simp only [List.setIfInBounds_toArray]); (try simp only [List.set_cons_succ]); (try simp only [List.set_cons_zero])
  (refine wpAnyT_take (i := 16) (v := ?_) rfl (by kernel_rfl) (fun _ _ _ h => h) (Or.inl ⟨by kernel_rfl, ?_⟩) (by assumption) ?_; rotate_left; · (intro w hSw; (try dsimp only at hSw); go_split_ands; go_simp; first | done | with_reducible rfl))
  (try simp only [Act.put]); (try simp only [List.getElem_toArray]); (try simp only [List.getElem_cons_succ]); (try simp only [List.getElem_cons_zero]); (try simp only [List.setIfInBounds_toArray]); (try simp only [List.set_cons_succ]); (try simp only [List.set_cons_zero])
  (refine wpAnyT_take (i := 17) (v := ?_) rfl (by kernel_rfl) (fun _ _ _ h => h) (Or.inl ⟨by kernel_rfl, ?_⟩) (by assumption) ?_; rotate_left; · (intro w hSw; (try dsimp only at hSw); go_split_ands; go_simp; first | done | with_reducible rfl))
  (try simp only [Act.put]); (try simp only [List.getElem_toArray]); (try simp only [List.getElem_cons_succ]); (try simp only [List.getElem_cons_zero]); (try simp only [List.setIfInBounds_toArray]); (try simp only [List.set_cons_succ]); (try simp only [List.set_cons_zero])
  (refine wpAnyT_take (i := 18) (v := ?_) rfl (by kernel_rfl) (fun _ _ _ h => h) (Or.inl ⟨by kernel_rfl, ?_⟩) (by assumption) ?_; rotate_left; · (intro w hSw; (try dsimp only at hSw); go_split_ands; go_simp; first | done | with_reducible rfl))
  (try simp only [Act.put]); (try simp only [List.getElem_toArray]); (try simp only [List.getElem_cons_succ]); (try simp only [List.getElem_cons_zero]); (try simp only [List.setIfInBounds_toArray]); (try simp only [List.set_cons_succ]); (try simp only [List.set_cons_zero])
  (refine wpAnyT_take (i := 19) (v := ?_) rfl (by kernel_rfl) (fun _ _ _ h => h) (Or.inl ⟨by kernel_rfl, ?_⟩) (by assumption) ?_; rotate_left; · (intro w hSw; (try dsimp only at hSw); go_split_ands; go_simp; first | done | with_reducible rfl))
  (try simp only [Act.put]); (try simp only [List.getElem_toArray]); (try simp only [List.getElem_cons_succ]); (try simp only [List.getElem_cons_zero]); (try simp only [List.setIfInBounds_toArray]); (try simp only [List.set_cons_succ]); (try simp only [List.set_cons_zero])
  (refine wpAnyT_take (i := 20) (v := ?_) rfl (by kernel_rfl) (fun _ _ _ h => h) (Or.inl ⟨by kernel_rfl, ?_⟩) (by assumption) ?_; rotate_left; · (intro w hSw; (try dsimp only at hSw); go_split_ands; go_simp; first | done | with_reducible rfl))
  (try simp only [Act.put]); (try simp only [List.getElem_toArray]); (try simp only [List.getElem_cons_succ]); (try simp only [List.getElem_cons_zero]); (try simp only [List.setIfInBounds_toArray]); (try simp only [List.set_cons_succ]); (try simp only [List.set_cons_zero])
  (refine wpAnyT_take (i := 21) (v := ?_) rfl (by kernel_rfl) (fun _ _ _ h => h) (Or.inl ⟨by kernel_rfl, ?_⟩) (by assumption) ?_; rotate_left; · (intro w hSw; (try dsimp only at hSw); go_split_ands; go_simp; first | done | with_reducible rfl))
  (try simp only [Act.put]); (try simp only [List.getElem_toArray]); (try simp only [List.getElem_cons_succ]); (try simp only [List.getElem_cons_zero]); (try simp only [List.setIfInBounds_toArray]); (try simp only [List.set_cons_succ]); (try simp only [List.set_cons_zero])
  (refine wpAnyT_one (i := 22) (by kernel_rfl) rfl (fun K hK => ?_); (go_simp; go_at_call 90; refine (HT.out _ (Below.refl _ _).drew).mono ?_; rintro e w3 ⟨vt, v2, rfl, hrt, hk3, hc3, hn3⟩; obtain ⟨nt, hnt⟩ : ∃ nt, (bytesM ls no).length = nt := ⟨_, rfl⟩; obtain ⟨At, ct, rfl⟩ := row_form hrt hnt; have HNt := hid hnt; have HRt := hid hrt; have HK3 := hid hk3; have HC3 := hid hc3; have HN3 := hid hn3; have hS3 := sys_chg hHeld hc3 (hk3.blk.cell 0) HG.out; clear hrt hk3 hc3 hn3 hnt); refine hK.out _ _ (.inr ?_) (fun hHeld => ?_))
  · exact hS3
  replace hHeld := hHeld.resolve_left (by decide)
  clear hK K
  (try simp only [Act.put]); (try simp only [List.getElem_toArray]); (try simp only [List.getElem_cons_succ]); (try simp only [List.getElem_cons_zero]); (try simp only [List.setIfInBounds_toArray]); (try simp only [List.set_cons_succ]); (try simp only [List.set_cons_zero])
  clear hS3
  (refine wpAnyT_one (i := 23) (by kernel_rfl) rfl (fun K hK => ?_); (refine step_append_row rfl (.tmp 27) (.tmp 37) rfl rfl _ B (.slice As ns cs) m.s rfl (by have := HK3.out.sr m (by simp); rw [HES.out] at this; exact this) At nt ct (bytesM ls no) HNt.out rfl HRt.out.sla.hold (by have := HMs.out; have := bytesM_len ls no; have := HLs.out; omega) (by have := HBb.out; have := HC3.out.size; simp at this; omega) ?_; intro v4 w4 hr4 hg4 hl4; obtain ⟨n4, hn4⟩ : ∃ n4, (m.s ++ bytesM ls no).length = n4 := ⟨_, rfl⟩; obtain ⟨A4, c4, rfl⟩ := row_form hr4 hn4; have HR4 := hid hr4; have HG4 := hid hg4; have HL4 := hid hl4; have hS4 : SyS rb g i' (.slice (some ⟨g, 0, none⟩) nf cf) (.slice As ns cs) (no : Int) w4 := sy_app HK3.out hg4 HES.out hHeld; clear hr4 hg4 hl4 hn4); refine hK.out _ _ (.inr ?_) (fun hHeld => ?_))
  · exact hS4
  replace hHeld := hHeld.resolve_left (by decide)
  clear hK K
  (try simp only [Act.put]); (try simp only [List.getElem_toArray]); (try simp only [List.getElem_cons_succ]); (try simp only [List.getElem_cons_zero]); (try simp only [List.setIfInBounds_toArray]); (try simp only [List.set_cons_succ]); (try simp only [List.set_cons_zero])
  clear hS4
  (refine wpAnyT_one (i := 24) (by kernel_rfl) rfl (fun K hK => ?_); go_simp; refine hK.out _ _ (.inr ?_) (fun hHeld => ?_))
  · exact hHeld
  replace hHeld := hHeld.resolve_left (by decide)
  clear hK K
  (try simp only [Act.put]); (try simp only [List.getElem_toArray]); (try simp only [List.getElem_cons_succ]); (try simp only [List.getElem_cons_zero]); (try simp only [List.setIfInBounds_toArray]); (try simp only [List.set_cons_succ]); (try simp only [List.set_cons_zero])
  (refine wpAnyT_one (i := 25) (by kernel_rfl) rfl (fun K hK => ?_); go_simp; refine hK.out _ _ (.inr ?_) (fun hHeld => ?_))
  · exact hHeld
  replace hHeld := hHeld.resolve_left (by decide)
  clear hK K
  (try simp only [Act.put]); (try simp only [List.getElem_toArray]); (try simp only [List.getElem_cons_succ]); (try simp only [List.getElem_cons_zero]); (try simp only [List.setIfInBounds_toArray]); (try simp only [List.set_cons_succ]); (try simp only [List.set_cons_zero])
  (refine wpAnyT_one (i := 26) (by kernel_rfl) rfl (fun K hK => ?_); (obtain ⟨r0, r1, r2, r3⟩ := id hHeld; go_simp); refine hK.out _ _ (.inl rfl) (fun _ => ?_))
  clear hK K
  (try simp only [Act.put]); (try simp only [List.getElem_toArray]); (try simp only [List.getElem_cons_succ]); (try simp only [List.getElem_cons_zero]); (try simp only [List.setIfInBounds_toArray]); (try simp only [List.set_cons_succ]); (try simp only [List.set_cons_zero])
  refine wpAnyT_done (by kernel_rfl) ?_ _
  have HK5 : Hid (RkE w (w4.setCell ⟨g, i' * 4 + 2, none⟩ (.slice A4 n4 c4)) B rb (.slice (some ⟨g, 0, none⟩) nf cf) lv (P ++ m :: Q) (.slice (some ⟨g, 0, none⟩) nf cf) v2 (P ++ { m with sv := .slice A4 n4 c4, s := m.s ++ bytesM ls no } :: Q) (outM ls no) z nx) := by
    have h0 : RkE w w3 B rb (.slice (some ⟨g, 0, none⟩) nf cf) lv (P ++ m :: Q) (.slice (some ⟨g, 0, none⟩) nf cf) v2 (P ++ m :: Q) (outM ls no) z nx := (rke_take HK3.out HC3.out (lv := lv) (ms := P ++ m :: Q) HN3.out).lift (HB2.out.drew)
    have h1 := rke_setm (m' := { m with sv := .slice A4 n4 c4, s := m.s ++ bytesM ls no }) (S := fun k => m.sv.ownBlock = some k) h0 (Chg.of_grown (S := fun k => m.sv.ownBlock = some k) HG4.out fun k e => .inl (by rw [HES.out]; exact e)) (fun k e => e) HR4.out (fun k e => by
      rcases HL4.out with r | r
      · refine .inl ?_
        rw [HES.out]
        exact r ▸ e
      · have e2 : (Value.slice A4 n4 c4).ownBlock = some k := e
        rw [r] at e2
        exact .inr (Nat.le_of_eq (Option.some.inj e2))) 2 (.slice A4 n4 c4) (by decide) rfl
    rw [HPi.out] at h1
    exact h1
  obtain ⟨w5, hw5⟩ : ∃ w5, w4.setCell ⟨g, i' * 4 + 2, none⟩ (.slice A4 n4 c4) = w5 := ⟨_, rfl⟩
  rw [hw5] at HK5 ⊢
  have m5 := HK5.out.rk.blk.cell 0
  have hx5 : w5.cell? ⟨g, i' * 4 + 3, none⟩ = some (.bool m.h) ∧ w5.frozen? ⟨g, i' * 4 + 3, none⟩ = false := by
    have hln : P.length < (P ++ { m with sv := .slice A4 n4 c4, s := m.s ++ bytesM ls no } :: Q).length := by simp
    obtain ⟨g', e, hc⟩ := mrow_at HK5.out.rk.fr hln
    obtain rfl : g = g' := by injection e with e; injection e
    have hat : (P ++ { m with sv := .slice A4 n4 c4, s := m.s ++ bytesM ls no } :: Q)[P.length]'hln = { m with sv := .slice A4 n4 c4, s := m.s ++ bytesM ls no } := by simp
    rw [hat, HPi.out] at hc
    obtain ⟨cur, hcu⟩ := own_blk HK5.out.rk.fr (g := g) rfl
    exact ⟨hc 3 _ (by omega) rfl, hcu.free _⟩
  obtain ⟨x5, f5⟩ := hx5
  have HE := rke_setm (m' := m.sync (.slice A4 n4 c4) (bytesM ls no)) (S := fun _ => False) HK5.out (Chg.refl _ _) (fun _ e => e.elim) (HK5.out.rk.sr { m with sv := .slice A4 n4 c4, s := m.s ++ bytesM ls no } (by simp)) (fun k e => .inl e) 3 (.bool true) (by decide) rfl
  rw [HPi.out] at HE
  have HEh := hid HE
  clear hw5 HE HS hHeld
  go_wp2
  go_ret
  exact ⟨rfl, _, _, HEh.out⟩
end Go.Proofs.YtofkfafdodhmdaaGreatDoor

/- The document's Crash. Conditions: the disk stands. -/
namespace Go.Proofs.YtofkfafdodhmdaaGreatDoor
open Go.RowKit

/-- One byte that is kept. -/
def stepR (x : Lm) (r : Rs) : Rs := if r.no = x.1 then { r with s := r.s ++ [x.2], h := true } else r
def stepsR (l : List Lm) (r : Rs) : Rs := l.foldl (fun r x => stepR x r) r
theorem stepR_no (x : Lm) (r : Rs) : (stepR x r).no = r.no := by unfold stepR; split <;> rfl
theorem stepsR_snoc (l : List Lm) (x : Lm) (r : Rs) : stepsR (l ++ [x]) r = stepR x (stepsR l r) := by unfold stepsR; rw [List.foldl_append]; rfl
theorem stepsR_is (r : Rs) (l : List Lm) : stepsR l r = { r with s := r.s ++ bytesM l r.no, h := r.h || !(bytesM l r.no).isEmpty } := by
  suffices H : ∀ n (l : List Lm), l.length = n → stepsR l r = { r with s := r.s ++ bytesM l r.no, h := r.h || !(bytesM l r.no).isEmpty } from H _ l rfl
  intro n
  induction n with
  | zero =>
    intro l h
    have : l = [] := List.eq_nil_of_length_eq_zero h
    subst this
    show r = { r with s := r.s ++ [], h := r.h || false }
    rw [List.append_nil, Bool.or_false]
  | succ n ih =>
    intro l h
    rcases List.eq_nil_or_concat l with rfl | ⟨t, x, rfl⟩
    · cases h
    · rw [List.concat_eq_append] at h ⊢
      rw [stepsR_snoc, ih t (by simpa using h)]
      unfold stepR
      have hf : bytesM (t ++ [x]) r.no = bytesM t r.no ++ if r.no = x.1 then [x.2] else [] := by
        unfold bytesM
        rw [List.filter_append, List.map_append, List.filter_cons]
        by_cases q : r.no = x.1
        · rw [if_pos q, if_pos (show ofNo r.no x = true from decide_eq_true q.symm)]
          rfl
        · rw [if_neg q, if_neg (show ¬ ofNo r.no x = true by unfold ofNo; simpa using fun e => q (Eq.symm e))]
          rfl
      show (if r.no = x.1 then _ else _) = _
      rw [hf]
      by_cases q : r.no = x.1
      · rw [if_pos q, if_pos q]
        simp
      · rw [if_neg q, if_neg q, List.append_nil]
theorem rcr_is (lt : List Lz) (n : Nat) (r : Rs) : stepsR ((lt.map lzm).take n) r = rcr lt n r := by
  rw [stepsR_is, ← List.map_take, bytesM_lz]
  rfl
/-- What the region reads. -/
abbrev CrS (rb g i g2 k : Nat) (fv lv sv : Value) (x : Int) (W : World) : Prop := W.cell? ⟨rb, 0, none⟩ = some fv ∧ W.cell? ⟨rb, 1, none⟩ = some lv ∧ W.cell? ⟨g, i * 4 + 2, none⟩ = some sv ∧ W.cell? ⟨g2, k * 2 + 1, none⟩ = some (.int .u8 x) ∧ W.frozen? ⟨g, i * 4 + 2, none⟩ = false
theorem crs_chg {W W' : World} {rb g i g2 k : Nat} {fv lv sv : Value} {x : Int} {S : Nat → Prop} (h : CrS rb g i g2 k fv lv sv x W) (hc : Chg S W W') (h0 : ¬ S rb) (h1 : ¬ S g) (h2 : ¬ S g2) : CrS rb g i g2 k fv lv sv x W' := by
  obtain ⟨a0, a1, a2, a3, a4⟩ := h
  have k0 : W'.heap[rb]? = W.heap[rb]? := hc.block rb (cell_lt a0) h0
  have k1 : W'.heap[g]? = W.heap[g]? := hc.block g (cell_lt a2) h1
  have k2 : W'.heap[g2]? = W.heap[g2]? := hc.block g2 (cell_lt a3) h2
  exact ⟨(World.cell?_of_block (a := ⟨rb, 0, none⟩) k0).trans a0, (World.cell?_of_block (a := ⟨rb, 1, none⟩) k0).trans a1, (World.cell?_of_block (a := ⟨g, i * 4 + 2, none⟩) k1).trans a2, (World.cell?_of_block (a := ⟨g2, k * 2 + 1, none⟩) k2).trans a3, (World.frozen?_of_block (a := ⟨g, i * 4 + 2, none⟩) k1).trans a4⟩
theorem crs_app {w3 w4 : World} {B rb nx g g2 i k n c : Nat} {lv sv : Value} {P Q : List Rm} {m : Rm} {ls : List Lm} {z x : Int} (h : Rk w3 B rb (.slice (some ⟨g, 0, none⟩) n c) lv (P ++ m :: Q) ls z nx) (h2 : lv.ownBlock = some g2) (hg : w3.grownBy w4 sv.ownBlock) (he : m.sv = sv) (hS : CrS rb g i g2 k (.slice (some ⟨g, 0, none⟩) n c) lv sv x w3) : CrS rb g i g2 k (.slice (some ⟨g, 0, none⟩) n c) lv sv x w4 := by
  have hc := Chg.of_grown (S := fun k => sv.ownBlock = some k) hg fun k e => .inl e
  have nb : ∀ {k : Nat} {T : TypeId} {xs : Array Value}, Blk w3 k T xs → T ≠ 5 → ¬ sv.ownBlock = some k := fun {k T xs} hb hT q => by
    rw [← he] at q
    obtain ⟨cur, hcu⟩ := own_blk (h.sr m (by simp)) q
    exact blk_ne0 hb hcu hT rfl
  obtain ⟨cg, hcg⟩ := own_blk h.fr (g := g) rfl
  obtain ⟨cl, hcl⟩ := own_blk h.lr h2
  exact crs_chg hS hc (nb h.blk (by decide)) (nb hcg (by decide)) (nb hcl (by decide))
/-- The files so far: for the first i one byte more. -/
def midR (x : Lm) (i : Nat) (rs : List Rs) : List Rs := (rs.take i).map (stepR x) ++ rs.drop i
theorem midR_at {x : Lm} {i : Nat} {rs : List Rs} {ms : List Rm} (h : ms.map Rm.r = midR x i rs) (hi : i < rs.length) : ∃ P m Q, ms = P ++ m :: Q ∧ P.length = i ∧ rs[i]? = some m.r ∧ P.map Rm.r = (rs.take i).map (stepR x) ∧ Q.map Rm.r = rs.drop (i + 1) := by
  unfold midR at h
  rw [List.drop_eq_getElem_cons hi] at h
  obtain ⟨P, T, rfl, h1, h2⟩ := List.map_eq_append_iff.1 h
  obtain ⟨m, Q, rfl, h3, h4⟩ := List.map_eq_cons_iff.1 h2
  refine ⟨P, m, Q, rfl, ?_, by rw [List.getElem?_eq_getElem hi, h3], h1, h4⟩
  have := congrArg List.length h1
  rw [List.length_map, List.length_map, List.length_take] at this
  omega
theorem midR_next {x : Lm} {i : Nat} {rs : List Rs} (hi : i < rs.length) {P Q : List Rm} {m' : Rm} (h1 : P.map Rm.r = (rs.take i).map (stepR x)) (h2 : Q.map Rm.r = rs.drop (i + 1)) {r0 : Rs} (h0 : rs[i]? = some r0) (h3 : m'.r = stepR x r0) : (P ++ m' :: Q).map Rm.r = midR x (i + 1) rs := by
  rw [List.getElem?_eq_getElem hi] at h0
  rw [← Option.some.inj h0] at h3
  unfold midR
  rw [List.take_succ_eq_append_getElem hi, List.map_append, List.map_append, List.map_cons, h1, h2, h3, List.append_assoc]
  rfl
theorem midR_zero (x : Lm) (rs : List Rs) : midR x 0 rs = rs := rfl
theorem midR_all {x : Lm} {i : Nat} {rs : List Rs} (h : rs.length ≤ i) : midR x i rs = rs.map (stepR x) := by
  unfold midR
  rw [List.take_of_length_le h, List.drop_eq_nil_of_le h, List.append_nil]
theorem steps_next (rs : List Rs) (ls : List Lm) {k : Nat} (hk : k < ls.length) : (rs.map (stepsR (ls.take k))).map (stepR ls[k]) = rs.map (stepsR (ls.take (k + 1))) := by
  rw [List.map_map]
  refine List.map_congr_left fun r _ => ?_
  rw [List.take_succ_eq_append_getElem hk, stepsR_snoc]
  rfl
set_option maxRecDepth 100000 in
set_option maxHeartbeats 16000000 in
theorem rcrash_ok {w : World} {B rb nx : Nat} {fv lv : Value} {ms : List Rm} {ls : List Lm} {z : Int} (h : Rk w B rb fv lv ms ls z nx) (hl : ms.length ≤ 100000) (hls : ls.length ≤ 1000000) (hms : ∀ m ∈ ms, m.s.length ≤ 20000000) (K : Int) (hK1 : -9223372036854775808 ≤ K) (hK2 : K < 9223372036854775808) :
    Calls Tryz.prog 27 #[.pointer (some ⟨rb, 0, none⟩), .int .i64 K] w fun e w' => e = .returned (.tuple #[]) ∧ ∃ fv' ms', RkE w w' B rb fv lv ms fv' (.slice none 0 0) ms' [] z nx ∧ ms'.map Rm.r = ((ms.map Rm.r).map (stepsR (ls.take K.toNat))).filter Rs.h := by
  obtain ⟨nf, hnf⟩ : ∃ nf, ms.length = nf := ⟨_, rfl⟩
  obtain ⟨Af, cf, rfl⟩ := mrow_form h.fr hnf
  obtain ⟨p, hp⟩ : ∃ p, ls.length = p := ⟨_, rfl⟩
  obtain ⟨Al, cl, rfl⟩ := lrow_form h.lr hp
  have HP := hid hp
  have HNf := hid hnf
  have HMs := hid hms
  have HK := hid h
  rw [hnf] at hl
  rw [hp] at hls
  clear h hnf hp hms
  go_enter Tryz.func27, Tryz.ntmps27
  go_wp2
  go_loopw [4] (fun vk wr => ∃ (k : Nat) (ms' : List Rm), vk = .int .i64 (k : Int) ∧ k ≤ p ∧ Hid (k ≤ K.toNat ∧ RkE w wr B rb (.slice Af nf cf) (.slice Al p cl) ms (.slice Af nf cf) (.slice Al p cl) ms' ls z nx ∧ ms'.map Rm.r = (ms.map Rm.r).map (stepsR (ls.take k)))) (fun vk _ => p - (intOf vk).toNat)
  case atStart => exact ⟨0, ms, rfl, Nat.zero_le _, Nat.zero_le _, ⟨HK.out, Chg.refl _ _, fun k q => .inl q⟩, (List.map_id _).symm⟩
  case round =>
    obtain ⟨k, ms1, rfl, hk, HI⟩ := hrel
    have m1 := HI.out.2.1.rk.blk.cell 1
    by_cases hc : k < p ∧ (k : Int) < K
    · obtain ⟨hkp, hkK⟩ := hc
      have hkl : k < ls.length := by rw [HP.out]; exact hkp
      have HStN := hid (steps_next (ms.map Rm.r) ls hkl)
      obtain ⟨rs, hrs⟩ : ∃ rs, (ms.map Rm.r).map (stepsR (ls.take k)) = rs := ⟨_, rfl⟩
      have HRl : Hid (rs.length = nf) := by unfold Hid; rw [← hrs, List.length_map, List.length_map]; exact HNf.out
      have HI1 : Hid (RkE w wr B rb (.slice Af nf cf) (.slice Al p cl) ms (.slice Af nf cf) (.slice Al p cl) ms1 ls z nx ∧ ms1.map Rm.r = rs) := ⟨HI.out.2.1, hrs ▸ HI.out.2.2⟩
      have HSz : Hid (∀ r ∈ rs, r.s.length ≤ 20000000 + 1000000) := fun r hr => by
        rw [← hrs] at hr
        obtain ⟨r0, hr0, rfl⟩ := List.mem_map.1 hr
        obtain ⟨m0, hm0, rfl⟩ := List.mem_map.1 hr0
        rw [stepsR_is]
        have a1 := HMs.out m0 hm0
        have a2 := bytesM_len (ls.take k) m0.no
        have a3 : (ls.take k).length ≤ k := List.length_take_le _ _
        show (m0.s ++ bytesM (ls.take k) m0.no).length ≤ _
        rw [List.length_append]
        omega
      rw [hrs] at HStN
      obtain ⟨x, hx⟩ : ∃ x, ls[k] = x := ⟨_, rfl⟩
      rw [hx] at HStN
      obtain ⟨g2, e2, z0, z1⟩ := lrow_at HK.out.lr hkl
      subst e2
      have HXk : Hid (∀ h : k < ls.length, ls[k] = x) := fun _ => hx
      have HKl := hid hkl
      have HkK := hid (show k + 1 ≤ K.toNat by omega)
      clear hrs hx z0 z1 hkl
      go_wp2
      go_loopw [5] (fun vi wr => ∃ (i : Nat) (ms' : List Rm), vi = .int .i64 (i : Int) ∧ i ≤ nf ∧ Hid (RkE w wr B rb (.slice Af nf cf) (.slice (some ⟨g2, 0, none⟩) p cl) ms (.slice Af nf cf) (.slice (some ⟨g2, 0, none⟩) p cl) ms' ls z nx ∧ ms'.map Rm.r = midR x i rs)) (fun vi _ => nf - (intOf vi).toNat)
      case atStart => exact ⟨0, ms1, rfl, Nat.zero_le _, HI1.out.1, HI1.out.2⟩
      case round =>
        obtain ⟨i, ms2, rfl, hi, HJ⟩ := hrel
        have n0 := HJ.out.1.rk.blk.cell 0
        by_cases hin : i < nf
        · have hil : i < rs.length := by rw [HRl.out]; exact hin
          obtain ⟨P, m, Q, e, hPl, hmr, hP, hQ⟩ := midR_at HJ.out.2 hil
          subst e
          have HR := hid HJ.out.1
          have hlen : P.length < (P ++ m :: Q).length := by simp
          obtain ⟨g, eg, hc⟩ := mrow_at HR.out.rk.fr hlen
          subst eg
          have hat : (P ++ m :: Q)[P.length]'hlen = m := by simp
          rw [hat, hPl] at hc
          have x1 := hc 1 _ (by omega) rfl
          have x2 := hc 2 _ (by omega) rfl
          obtain ⟨gg, e3, z0, z1⟩ := lrow_at HR.out.rk.lr HKl.out
          obtain rfl : g2 = gg := by injection e3 with e3; injection e3
          rw [HXk.out HKl.out] at z0 z1
          have n1 := HR.out.rk.blk.cell 1
          obtain ⟨xn, xb⟩ := x
          obtain ⟨no, hno⟩ : ∃ no, m.no = no := ⟨_, rfl⟩
          rw [hno] at x1
          have HNo := hid hno
          have HPl := hid hPl
          have HMr := hid hmr
          have HPq := hid (And.intro hP hQ)
          have HIl := hid hil
          obtain ⟨ns, hns⟩ : ∃ ns, m.s.length = ns := ⟨_, rfl⟩
          obtain ⟨As, cs, es⟩ := row_form (HR.out.rk.sr m (by simp)) hns
          rw [es] at x2
          have HES := hid es
          have HMl : Hid (m.s.length ≤ 21000000) := HSz.out m.r (List.mem_of_getElem? hmr)
          clear hno hc hat e3 hlen hPl hmr hP hQ hil hns es
          by_cases hq : no = xn
          · have hq2 : ((no : Int) == (xn : Int)) = true := by simp [hq]
            have hq3 : (no : Int) = (xn : Int) := by rw [hq]
            have HQe := hid hq
            clear hq
            go_upto_region 6 with (fail)
            go_quiet (fail)
            obtain ⟨W2, hW2⟩ : ∃ W2, wr.drewN nq = W2 := ⟨_, rfl⟩
            have HB2 : Hid (Below wr.heap.size wr W2) := by rw [← hW2]; exact Go.below_drewN (Below.refl _ _) _
            rw [hW2]
            have HR2 : Hid (RkE w W2 B rb (.slice (some ⟨g, 0, none⟩) nf cf) (.slice (some ⟨g2, 0, none⟩) p cl) ms (.slice (some ⟨g, 0, none⟩) nf cf) (.slice (some ⟨g2, 0, none⟩) p cl) (P ++ m :: Q) ls z nx) := ⟨HR.out.rk.below HB2.out, HR.out.ch.trans (Chg.of_below (fun _ => False) HB2.out) (fun _ q => q.elim), HR.out.sub⟩
            have HS : CrS rb g i g2 k (.slice (some ⟨g, 0, none⟩) nf cf) (.slice (some ⟨g2, 0, none⟩) p cl) (.slice As ns cs) (xb.toNat : Int) W2 := by
              obtain ⟨cur, hcu⟩ := own_blk HR.out.rk.fr (g := g) rfl
              exact crs_chg (S := fun _ => False) ⟨n0, n1, x2, z1, hcu.free _⟩ (Chg.of_below _ HB2.out) (fun q => q) (fun q => q) (fun q => q)
            have HBb : Hid (B ≤ W2.heap.size) := Nat.le_trans HR2.out.rk.lo (Nat.le_of_lt HR2.out.rk.blk.lt)
            clear hW2 n0 n1 m1 x1 x2 z0 z1 hq2 hq3
            go_upto_region 7 with (fail)
            refine wp_region_till 25 (CrS rb g i g2 k (.slice (some ⟨g, 0, none⟩) nf cf) (.slice (some ⟨g2, 0, none⟩) p cl) (.slice As ns cs) (xb.toNat : Int)) (by kernel_rfl) (crs_chg (S := fun _ => False) HS (Chg.of_below _ (Below.refl _ _).drew) (fun q => q) (fun q => q) (fun q => q)) (fun hHeld => ?_)
            (refine wpAnyT_take (i := 0) (v := ?_) rfl (by kernel_rfl) (fun _ _ _ h => h) (Or.inl ⟨by kernel_rfl, ?_⟩) (by assumption) ?_; rotate_left; · (intro w hSw; (try dsimp only at hSw); go_split_ands; go_simp; first | done | with_reducible rfl))
            (try simp only [Act.put]); (try simp only [List.getElem_toArray]); (try simp only [List.getElem_cons_succ]); (try simp only [List.getElem_cons_zero]); (try simp only [List.setIfInBounds_toArray]); (try simp only [List.set_cons_succ]); (try simp only [List.set_cons_zero])
            (refine wpAnyT_take (i := 1) (v := ?_) rfl (by kernel_rfl) (fun _ _ _ h => h) (Or.inl ⟨by kernel_rfl, ?_⟩) (by assumption) ?_; rotate_left; · (intro w hSw; (try dsimp only at hSw); go_split_ands; go_simp; first | done | with_reducible rfl))
            (try simp only [Act.put]); (try simp only [List.getElem_toArray]); (try simp only [List.getElem_cons_succ]); (try simp only [List.getElem_cons_zero]); (try simp only [List.setIfInBounds_toArray]); (try simp only [List.set_cons_succ]); (try simp only [List.set_cons_zero])
            (refine wpAnyT_take (i := 2) (v := ?_) rfl (by kernel_rfl) (fun _ _ _ h => h) (Or.inl ⟨by kernel_rfl, ?_⟩) (by assumption) ?_; rotate_left; · (intro w hSw; (try dsimp only at hSw); go_split_ands; go_simp; first | done | with_reducible rfl))
            (try simp only [Act.put]); (try simp only [List.getElem_toArray]); (try simp only [List.getElem_cons_succ]); (try simp only [List.getElem_cons_zero]); (try simp only [List.setIfInBounds_toArray]); (try simp only [List.set_cons_succ]); (try simp only [List.set_cons_zero])
            (refine wpAnyT_take (i := 3) (v := ?_) rfl (by kernel_rfl) (fun _ _ _ h => h) (Or.inl ⟨by kernel_rfl, ?_⟩) (by assumption) ?_; rotate_left; · (intro w hSw; (try dsimp only at hSw); go_split_ands; go_simp; first | done | with_reducible rfl))
            (try simp only [Act.put]); (try simp only [List.getElem_toArray]); (try simp only [List.getElem_cons_succ]); (try simp only [List.getElem_cons_zero]); (try simp only [List.setIfInBounds_toArray]); (try simp only [List.set_cons_succ]); (try simp only [List.set_cons_zero])
            (refine wpAnyT_take (i := 4) (v := ?_) rfl (by kernel_rfl) (fun _ _ _ h => h) (Or.inl ⟨by kernel_rfl, ?_⟩) (by assumption) ?_; rotate_left; · (intro w hSw; (try dsimp only at hSw); go_split_ands; go_simp; first | done | with_reducible rfl))
            (try simp only [Act.put]); (try simp only [List.getElem_toArray]); (try simp only [List.getElem_cons_succ]); (try simp only [List.getElem_cons_zero]); (try simp only [List.setIfInBounds_toArray]); (try simp only [List.set_cons_succ]); (try simp only [List.set_cons_zero])
            (refine wpAnyT_take (i := 5) (v := ?_) rfl (by kernel_rfl) (fun _ _ _ h => h) (Or.inl ⟨by kernel_rfl, ?_⟩) (by assumption) ?_; rotate_left; · (intro w hSw; (try dsimp only at hSw); go_split_ands; go_simp; first | done | with_reducible rfl))
            (try simp only [Act.put]); (try simp only [List.getElem_toArray]); (try simp only [List.getElem_cons_succ]); (try simp only [List.getElem_cons_zero]); (try simp only [List.setIfInBounds_toArray]); (try simp only [List.set_cons_succ]); (try simp only [List.set_cons_zero])
            (refine wpAnyT_take (i := 6) (v := ?_) rfl (by kernel_rfl) (fun _ _ _ h => h) (Or.inl ⟨by kernel_rfl, ?_⟩) (by assumption) ?_; rotate_left; · (intro w hSw; (try dsimp only at hSw); go_split_ands; go_simp; first | done | with_reducible rfl))
            (try simp only [Act.put]); (try simp only [List.getElem_toArray]); (try simp only [List.getElem_cons_succ]); (try simp only [List.getElem_cons_zero]); (try simp only [List.setIfInBounds_toArray]); (try simp only [List.set_cons_succ]); (try simp only [List.set_cons_zero])
            (refine wpAnyT_take (i := 7) (v := ?_) rfl (by kernel_rfl) (fun _ _ _ h => h) (Or.inl ⟨by kernel_rfl, ?_⟩) (by assumption) ?_; rotate_left; · (intro w hSw; (try dsimp only at hSw); go_split_ands; go_simp; first | done | with_reducible rfl))
            (try simp only [Act.put]); (try simp only [List.getElem_toArray]); (try simp only [List.getElem_cons_succ]); (try simp only [List.getElem_cons_zero]); (try simp only [List.setIfInBounds_toArray]); (try simp only [List.set_cons_succ]); (try simp only [List.set_cons_zero])
            (refine wpAnyT_take (i := 8) (v := ?_) rfl (by kernel_rfl) (fun _ _ _ h => h) (Or.inl ⟨by kernel_rfl, ?_⟩) (by assumption) ?_; rotate_left; · (intro w hSw; (try dsimp only at hSw); go_split_ands; go_simp; first | done | with_reducible rfl))
            (try simp only [Act.put]); (try simp only [List.getElem_toArray]); (try simp only [List.getElem_cons_succ]); (try simp only [List.getElem_cons_zero]); (try simp only [List.setIfInBounds_toArray]); (try simp only [List.set_cons_succ]); (try simp only [List.set_cons_zero])
            (refine wpAnyT_take (i := 9) (v := ?_) rfl (by kernel_rfl) (fun _ _ _ h => h) (Or.inl ⟨by kernel_rfl, ?_⟩) (by assumption) ?_; rotate_left; · (intro w hSw; (try dsimp only at hSw); go_split_ands; go_simp; first | done | with_reducible rfl))
            (try simp only [Act.put]); (try simp only [List.getElem_toArray]); (try simp only [List.getElem_cons_succ]); (try simp only [List.getElem_cons_zero]); (try simp only [List.setIfInBounds_toArray]); (try simp only [List.set_cons_succ]); (try simp only [List.set_cons_zero])
            (refine wpAnyT_take (i := 10) (v := ?_) rfl (by kernel_rfl) (fun _ _ _ h => h) (Or.inl ⟨by kernel_rfl, ?_⟩) (by assumption) ?_; rotate_left; · (intro w hSw; (try dsimp only at hSw); go_split_ands; go_simp; first | done | with_reducible rfl))
            (try simp only [Act.put]); (try simp only [List.getElem_toArray]); (try simp only [List.getElem_cons_succ]); (try simp only [List.getElem_cons_zero]); (try simp only [List.setIfInBounds_toArray]); (try simp only [List.set_cons_succ]); (try simp only [List.set_cons_zero])
            (refine wpAnyT_take (i := 11) (v := ?_) rfl (by kernel_rfl) (fun _ _ _ h => h) (Or.inl ⟨by kernel_rfl, ?_⟩) (by assumption) ?_; rotate_left; · (intro w hSw; (try dsimp only at hSw); go_split_ands; go_simp; first | done | with_reducible rfl))
            (try simp only [Act.put]); (try simp only [List.getElem_toArray]); (try simp only [List.getElem_cons_succ]); (try simp only [List.getElem_cons_zero]); (try simp only [List.setIfInBounds_toArray]); (try simp only [List.set_cons_succ]); (try simp only [List.set_cons_zero])
            (refine wpAnyT_take (i := 12) (v := ?_) rfl (by kernel_rfl) (fun _ _ _ h => h) (Or.inl ⟨by kernel_rfl, ?_⟩) (by assumption) ?_; rotate_left; · (intro w hSw; (try dsimp only at hSw); go_split_ands; go_simp; first | done | with_reducible rfl))
            (try simp only [Act.put]); (try simp only [List.getElem_toArray]); (try simp only [List.getElem_cons_succ]); (try simp only [List.getElem_cons_zero]); (try simp only [List.setIfInBounds_toArray]); (try simp only [List.set_cons_succ]); (try simp only [List.set_cons_zero])
            (refine wpAnyT_take (i := 13) (v := ?_) rfl (by kernel_rfl) (fun _ _ _ h => h) (Or.inl ⟨by kernel_rfl, ?_⟩) (by assumption) ?_; rotate_left; · (intro w hSw; (try dsimp only at hSw); go_split_ands; go_simp; first | done | with_reducible rfl))
            (try simp only [Act.put]); (try simp only [List.getElem_toArray]); (try simp only [List.getElem_cons_succ]); (try simp only [List.getElem_cons_zero]); (try simp only [List.setIfInBounds_toArray]); (try simp only [List.set_cons_succ]); (try simp only [List.set_cons_zero])
            (refine wpAnyT_take (i := 14) (v := ?_) rfl (by kernel_rfl) (fun _ _ _ h => h) (Or.inl ⟨by kernel_rfl, ?_⟩) (by assumption) ?_; rotate_left; · (intro w hSw; (try dsimp only at hSw); go_split_ands; go_simp; first | done | with_reducible rfl))
            (try simp only [Act.put]); (try simp only [List.getElem_toArray]); (try simp only [List.getElem_cons_succ]); (try simp only [List.getElem_cons_zero]); (try simp only [List.setIfInBounds_toArray]); (try simp only [List.set_cons_succ]); (try simp only [List.set_cons_zero])
            (refine wpAnyT_take (i := 15) (v := ?_) rfl (by kernel_rfl) (fun _ _ _ h => h) (Or.inl ⟨by kernel_rfl, ?_⟩) (by assumption) ?_; rotate_left; · (intro w hSw; (try dsimp only at hSw); go_split_ands; go_simp; first | done | with_reducible rfl))
            (try simp only [Act.put]); (try simp only [List.getElem_toArray]); (try simp only [List.getElem_cons_succ]); (try simp only [List.getElem_cons_zero]); (try simp only [List.setIfInBounds_toArray]); (try simp only [List.set_cons_succ]); (try simp only [List.set_cons_zero])
            (refine wpAnyT_take (i := 16) (v := ?_) rfl (by kernel_rfl) (fun _ _ _ h => h) (Or.inl ⟨by kernel_rfl, ?_⟩) (by assumption) ?_; rotate_left; · (intro w hSw; (try dsimp only at hSw); go_split_ands; go_simp; first | done | with_reducible rfl))
            (try simp only [Act.put]); (try simp only [List.getElem_toArray]); (try simp only [List.getElem_cons_succ]); (try simp only [List.getElem_cons_zero]); (try simp only [List.setIfInBounds_toArray]); (try simp only [List.set_cons_succ]); (try simp only [List.set_cons_zero])
            (refine wpAnyT_take (i := 17) (v := ?_) rfl (by kernel_rfl) (fun _ _ _ h => h) (Or.inl ⟨by kernel_rfl, ?_⟩) (by assumption) ?_; rotate_left; · (intro w hSw; (try dsimp only at hSw); go_split_ands; go_simp; first | done | with_reducible rfl))
            (try simp only [Act.put]); (try simp only [List.getElem_toArray]); (try simp only [List.getElem_cons_succ]); (try simp only [List.getElem_cons_zero]); (try simp only [List.setIfInBounds_toArray]); (try simp only [List.set_cons_succ]); (try simp only [List.set_cons_zero])
            (refine wpAnyT_take (i := 18) (v := ?_) rfl (by kernel_rfl) (fun _ _ _ h => h) (Or.inl ⟨by kernel_rfl, ?_⟩) (by assumption) ?_; rotate_left; · (intro w hSw; (try dsimp only at hSw); go_split_ands; go_simp; first | done | with_reducible rfl))
            (try simp only [Act.put]); (try simp only [List.getElem_toArray]); (try simp only [List.getElem_cons_succ]); (try simp only [List.getElem_cons_zero]); (try simp only [List.setIfInBounds_toArray]); (try simp only [List.set_cons_succ]); (try simp only [List.set_cons_zero])
            (refine wpAnyT_take (i := 19) (v := ?_) rfl (by kernel_rfl) (fun _ _ _ h => h) (Or.inl ⟨by kernel_rfl, ?_⟩) (by assumption) ?_; rotate_left; · (intro w hSw; (try dsimp only at hSw); go_split_ands; go_simp; first | done | with_reducible rfl))
            (try simp only [Act.put]); (try simp only [List.getElem_toArray]); (try simp only [List.getElem_cons_succ]); (try simp only [List.getElem_cons_zero]); (try simp only [List.setIfInBounds_toArray]); (try simp only [List.set_cons_succ]); (try simp only [List.set_cons_zero])
            (refine wpAnyT_take (i := 20) (v := ?_) rfl (by kernel_rfl) (fun _ _ _ h => h) (Or.inl ⟨by kernel_rfl, ?_⟩) (by assumption) ?_; rotate_left; · (intro w hSw; (try dsimp only at hSw); go_split_ands; go_simp; first | done | with_reducible rfl))
            (try simp only [Act.put]); (try simp only [List.getElem_toArray]); (try simp only [List.getElem_cons_succ]); (try simp only [List.getElem_cons_zero]); (try simp only [List.setIfInBounds_toArray]); (try simp only [List.set_cons_succ]); (try simp only [List.set_cons_zero])
            (refine wpAnyT_one (i := 21) (by kernel_rfl) rfl (fun K hK => ?_); go_simp; refine hK.out _ _ (.inr ?_) (fun hHeld => ?_))
            · exact crs_chg (S := fun _ => False) hHeld (Chg.of_below _ (below_new _ _)) (fun q => q) (fun q => q) (fun q => q)
            replace hHeld := hHeld.resolve_left (by decide)
            clear hK K
            (try simp only [Act.put]); (try simp only [List.getElem_toArray]); (try simp only [List.getElem_cons_succ]); (try simp only [List.getElem_cons_zero]); (try simp only [List.setIfInBounds_toArray]); (try simp only [List.set_cons_succ]); (try simp only [List.set_cons_zero])
            have HBd := hid ((Below.refl _ W2).drew.trans (below_new W2.drew (.cells #[.int .u8 (xb.toNat : Int)] 5)))
            (refine wpAnyT_one (i := 22) (by kernel_rfl) rfl (fun K hK => ?_); (refine step_append_row rfl (.tmp 59) (.tmp 68) rfl rfl _ B (.slice As ns cs) m.s rfl (by have := (HR2.out.rk.below HBd.out).sr m (by simp); rw [HES.out] at this; exact this) _ 1 1 [xb] rfl rfl (holds_one _ _) (by have := HMl.out; simp only [List.length_cons, List.length_nil]; omega) (Nat.le_trans HBb.out HBd.out.size) ?_; intro v4 w4 hr4 hg4 hl4; obtain ⟨n4, hn4⟩ : ∃ n4, (m.s ++ [xb]).length = n4 := ⟨_, rfl⟩; obtain ⟨A4, c4, rfl⟩ := row_form hr4 hn4; have HR4 := hid hr4; have HG4 := hid hg4; have HL4 := hid hl4; have hS4 : CrS rb g i g2 k (.slice (some ⟨g, 0, none⟩) nf cf) (.slice (some ⟨g2, 0, none⟩) p cl) (.slice As ns cs) (xb.toNat : Int) w4 := crs_app (HR2.out.rk.below HBd.out) rfl hg4 HES.out hHeld; clear hr4 hg4 hl4 hn4); refine hK.out _ _ (.inr ?_) (fun hHeld => ?_))
            · exact hS4
            replace hHeld := hHeld.resolve_left (by decide)
            clear hK K
            (try simp only [Act.put]); (try simp only [List.getElem_toArray]); (try simp only [List.getElem_cons_succ]); (try simp only [List.getElem_cons_zero]); (try simp only [List.setIfInBounds_toArray]); (try simp only [List.set_cons_succ]); (try simp only [List.set_cons_zero])
            clear hS4
            (refine wpAnyT_one (i := 23) (by kernel_rfl) rfl (fun K hK => ?_); go_simp; refine hK.out _ _ (.inr ?_) (fun hHeld => ?_))
            · exact hHeld
            replace hHeld := hHeld.resolve_left (by decide)
            clear hK K
            (try simp only [Act.put]); (try simp only [List.getElem_toArray]); (try simp only [List.getElem_cons_succ]); (try simp only [List.getElem_cons_zero]); (try simp only [List.setIfInBounds_toArray]); (try simp only [List.set_cons_succ]); (try simp only [List.set_cons_zero])
            (refine wpAnyT_one (i := 24) (by kernel_rfl) rfl (fun K hK => ?_); go_simp; refine hK.out _ _ (.inr ?_) (fun hHeld => ?_))
            · exact hHeld
            replace hHeld := hHeld.resolve_left (by decide)
            clear hK K
            (try simp only [Act.put]); (try simp only [List.getElem_toArray]); (try simp only [List.getElem_cons_succ]); (try simp only [List.getElem_cons_zero]); (try simp only [List.setIfInBounds_toArray]); (try simp only [List.set_cons_succ]); (try simp only [List.set_cons_zero])
            (refine wpAnyT_one (i := 25) (by kernel_rfl) rfl (fun K hK => ?_); (obtain ⟨r0, r1, r2, r3, r4⟩ := id hHeld; go_simp); refine hK.out _ _ (.inl rfl) (fun _ => ?_))
            clear hK K
            (try simp only [Act.put]); (try simp only [List.getElem_toArray]); (try simp only [List.getElem_cons_succ]); (try simp only [List.getElem_cons_zero]); (try simp only [List.setIfInBounds_toArray]); (try simp only [List.set_cons_succ]); (try simp only [List.set_cons_zero])
            refine wpAnyT_done (by kernel_rfl) ?_ _
            have HK5 : Hid (RkE w (w4.setCell ⟨g, i * 4 + 2, none⟩ (.slice A4 n4 c4)) B rb (.slice (some ⟨g, 0, none⟩) nf cf) (.slice (some ⟨g2, 0, none⟩) p cl) ms (.slice (some ⟨g, 0, none⟩) nf cf) (.slice (some ⟨g2, 0, none⟩) p cl) (P ++ { m with sv := .slice A4 n4 c4, s := m.s ++ [xb] } :: Q) ls z nx) := by
              have h0 : RkE w (W2.drew.alloc (.cells #[.int .u8 (xb.toNat : Int)] 5)) B rb (.slice (some ⟨g, 0, none⟩) nf cf) (.slice (some ⟨g2, 0, none⟩) p cl) ms (.slice (some ⟨g, 0, none⟩) nf cf) (.slice (some ⟨g2, 0, none⟩) p cl) (P ++ m :: Q) ls z nx := ⟨HR2.out.rk.below HBd.out, HR2.out.ch.trans (Chg.of_below (fun _ => False) HBd.out) (fun _ q => q.elim), HR2.out.sub⟩
              have h1 := rke_setm (m' := { m with sv := .slice A4 n4 c4, s := m.s ++ [xb] }) (S := fun k => m.sv.ownBlock = some k) h0 (Chg.of_grown (S := fun k => m.sv.ownBlock = some k) HG4.out fun k e => .inl (by rw [HES.out]; exact e)) (fun k e => e) HR4.out (fun k e => by
                rcases HL4.out with r | r
                · refine .inl ?_
                  rw [HES.out]
                  exact r ▸ e
                · have e2 : (Value.slice A4 n4 c4).ownBlock = some k := e
                  rw [r] at e2
                  exact .inr (Nat.le_of_eq (Option.some.inj e2))) 2 (.slice A4 n4 c4) (by decide) rfl
              rw [HPl.out] at h1
              exact h1
            obtain ⟨w5, hw5⟩ : ∃ w5, w4.setCell ⟨g, i * 4 + 2, none⟩ (.slice A4 n4 c4) = w5 := ⟨_, rfl⟩
            rw [hw5] at HK5 ⊢
            have m5 := HK5.out.rk.blk.cell 0
            have hx5 : w5.cell? ⟨g, i * 4 + 3, none⟩ = some (.bool m.h) ∧ w5.frozen? ⟨g, i * 4 + 3, none⟩ = false := by
              have hln : P.length < (P ++ { m with sv := .slice A4 n4 c4, s := m.s ++ [xb] } :: Q).length := by simp
              obtain ⟨g', e, hc⟩ := mrow_at HK5.out.rk.fr hln
              obtain rfl : g = g' := by injection e with e; injection e
              have hat : (P ++ { m with sv := .slice A4 n4 c4, s := m.s ++ [xb] } :: Q)[P.length]'hln = { m with sv := .slice A4 n4 c4, s := m.s ++ [xb] } := by simp
              rw [hat, HPl.out] at hc
              obtain ⟨cur, hcu⟩ := own_blk HK5.out.rk.fr (g := g) rfl
              exact ⟨hc 3 _ (by omega) rfl, hcu.free _⟩
            obtain ⟨x5, f5⟩ := hx5
            have HE := rke_setm (m' := m.sync (.slice A4 n4 c4) [xb]) (S := fun _ => False) HK5.out (Chg.refl _ _) (fun _ e => e.elim) (HK5.out.rk.sr { m with sv := .slice A4 n4 c4, s := m.s ++ [xb] } (by simp)) (fun k e => .inl e) 3 (.bool true) (by decide) rfl
            rw [HPl.out] at HE
            have HEh := hid HE
            have HMn : Hid ((P ++ m.sync (.slice A4 n4 c4) [xb] :: Q).map Rm.r = midR (xn, xb) (i + 1) rs) := midR_next HIl.out HPq.out.1 HPq.out.2 HMr.out (by
              show _ = if m.no = xn then _ else _
              rw [if_pos (HNo.out.trans HQe.out)]
              rfl)
            clear hw5 HE HS hHeld
            go_wp2
            go_roundw
            case rel => exact ⟨i + 1, _, by go_num, by omega, HEh.out, HMn.out⟩
            case measure => simp [intOf]; omega
          · have hq3 : ¬ (no : Int) = (xn : Int) := by omega
            have HMn : Hid ((P ++ m :: Q).map Rm.r = midR (xn, xb) (i + 1) rs) := midR_next HIl.out HPq.out.1 HPq.out.2 HMr.out (by
              show _ = if m.no = xn then _ else _
              rw [if_neg (fun e => hq (HNo.out.symm.trans e))])
            clear hq
            go_upto_region 6 with (fail)
            go_quiet (fail)
            go_wp2
            go_roundw
            case rel => exact ⟨i + 1, _, by go_num, by omega, ⟨HR.out.rk.drewN _, HR.out.ch.trans (Chg.of_below (fun _ => False) (Go.below_drewN (Below.refl _ _) _)) (fun _ q => q.elim), HR.out.sub⟩, HMn.out⟩
            case measure => simp [intOf]; omega
        · obtain rfl : i = nf := by omega
          have HE : Hid (ms2.map Rm.r = (ms.map Rm.r).map (stepsR (ls.take (k + 1)))) := by
            have := HJ.out.2
            rw [midR_all (Nat.le_of_eq HRl.out), HStN.out] at this
            exact this
          go_wp2
          go_roundw
          case rel => exact ⟨k + 1, ms2, by go_num, by omega, HkK.out, HJ.out.1, HE.out⟩
          case measure => simp [intOf]; omega
    · have HE : Hid (RkE w wr B rb (.slice Af nf cf) (.slice Al p cl) ms (.slice Af nf cf) (.slice Al p cl) ms1 ls z nx ∧ ms1.map Rm.r = (ms.map Rm.r).map (stepsR (ls.take K.toNat))) := by
        refine ⟨HI.out.2.1, ?_⟩
        rw [HI.out.2.2]
        have hkk := HI.out.1
        have : ls.take k = ls.take K.toNat := by
          by_cases q : k = p
          · rw [List.take_of_length_le (by rw [HP.out]; omega), List.take_of_length_le (by rw [HP.out]; omega)]
          · have : k = K.toNat := by omega
            rw [this]
        rw [this]
      have HL1 : Hid (ms1.length = nf) := by
        have := congrArg List.length HE.out.2
        rw [List.length_map, List.length_map, List.length_map, HNf.out] at this
        exact this
      have f1 := HE.out.1.rk.blk.free 1
      have m0 := HE.out.1.rk.blk.cell 0
      have HK9 : Hid (RkE w (wr.setCell ⟨rb, 1, none⟩ (.slice none 0 0)) B rb (.slice Af nf cf) (.slice Al p cl) ms (.slice Af nf cf) (.slice none 0 0) ms1 [] z nx) := by
        refine ⟨HE.out.1.rk.bytes (fun k _ => rfl) ⟨rfl, .inl ⟨rfl, rfl⟩⟩, HE.out.1.ch.trans (Chg.of_set wr rb 1 _ (S := fun k => k = rb) rfl) (fun k q => .inl (.inl q)), fun k q => ?_⟩
        rcases q with q | q | q | q
        · exact .inl (.inl q)
        · exact HE.out.1.sub k (.inr (.inl q))
        · cases q
        · exact HE.out.1.sub k (.inr (.inr (.inr q)))
      have m9 := HK9.out.rk.blk.cell 0
      by_cases hkp : k < p
      · have hkK : ¬ (k : Int) < K := fun e => hc ⟨hkp, e⟩
        clear hc
        have HMq : Hid (ms1.map Rm.r = (ms.map Rm.r).map (stepsR (ls.take K.toNat))) := HE.out.2
        clear HI HE
        go_wp2
        clear m9 m1 f1
        go_loopw [6] (fun vi wr => ∃ (q : Int) (P R : List Rm) (fv' : Value), vi = .int .i64 q ∧ -1 ≤ q ∧ q ≤ 100000 ∧ Hid (q = (P.length : Int) - 1 ∧ ms1 = P ++ R ∧ RkE w wr B rb (.slice Af nf cf) (.slice Al p cl) ms fv' (.slice none 0 0) (P ++ R.filter Rm.h) [] z nx)) (fun vi _ => (intOf vi + 1).toNat)
        case atStart => exact ⟨_, ms1, [], _, rfl, by omega, by omega, by rw [HL1.out], (List.append_nil _).symm, by rw [List.filter_nil, List.append_nil]; exact HK9.out⟩
        case round =>
          obtain ⟨q, P, R, fv', rfl, hq1, hq2, HJ⟩ := hrel
          rcases List.eq_nil_or_concat P with rfl | ⟨P', m, rfl⟩
          · obtain rfl : q = -1 := by have := HJ.out.1; simpa using this
            have HF : Hid (RkE w wr B rb (.slice Af nf cf) (.slice Al p cl) ms fv' (.slice none 0 0) (ms1.filter Rm.h) [] z nx) := by
              obtain ⟨_, e, h1⟩ := HJ.out
              rw [e]
              exact h1
            go_wp2
            go_end0
            refine ⟨rfl, _, _, HF.out, ?_⟩
            rw [← HMq.out, List.filter_map]
            rfl
          · obtain ⟨i, hi⟩ : ∃ i, P'.length = i := ⟨_, rfl⟩
            obtain rfl : q = (i : Int) := by
              have := HJ.out.1
              rw [List.concat_eq_append, List.length_append, hi] at this
              simpa using this
            have HR : Hid (ms1 = P' ++ m :: R ∧ RkE w wr B rb (.slice Af nf cf) (.slice Al p cl) ms fv' (.slice none 0 0) (P' ++ m :: R.filter Rm.h) [] z nx) := by
              obtain ⟨_, e, h1⟩ := HJ.out
              rw [List.concat_eq_append, List.append_assoc] at e h1
              exact ⟨e, h1⟩
            have hlen : P'.length < (P' ++ m :: R.filter Rm.h).length := by simp
            obtain ⟨nq, hnq⟩ : ∃ nq, (P' ++ m :: R.filter Rm.h).length = nq := ⟨_, rfl⟩
            have hle : nq ≤ 100000 := by
              have e1 := congrArg List.length HR.out.1
              have e2 := List.length_filter_le Rm.h R
              rw [HL1.out] at e1
              rw [← hnq]
              rw [List.length_append, List.length_cons] at e1 ⊢
              omega
            obtain ⟨Aq, cq, rfl⟩ := mrow_form HR.out.2.rk.fr hnq
            obtain ⟨g, rfl, hc⟩ := mrow_at HR.out.2.rk.fr hlen
            have hat : (P' ++ m :: R.filter Rm.h)[P'.length]'hlen = m := by simp
            rw [hat, hi] at hc
            have x3 := hc 3 _ (by omega) rfl
            have n0 := HR.out.2.rk.blk.cell 0
            have HCu := hid (rcut_ok HR.out.2.rk (by omega) i hi)
            rw [hnq, hi] at hlen
            have HPi := hid hi
            clear hc hat hi hnq HJ m0
            cases hh : m.h with
            | true =>
              rw [hh] at x3
              have HE : Hid (ms1 = P' ++ (m :: R) ∧ RkE w wr B rb (.slice Af nf cf) (.slice Al p cl) ms (.slice (some ⟨g, 0, none⟩) nq cq) (.slice none 0 0) (P' ++ (m :: R).filter Rm.h) [] z nx) := by
                refine ⟨HR.out.1, ?_⟩
                rw [List.filter_cons, if_pos hh]
                exact HR.out.2
              clear hh HCu
              go_wp2
              go_roundw
              case rel => exact ⟨_, P', m :: R, _, rfl, by omega, by omega, by rw [HPi.out], HE.out.1, HE.out.2⟩
              case measure => first | (simp [intOf]; done) | (simp [intOf]; omega)
            | false =>
              rw [hh] at x3
              have HHh := hid hh
              clear hh
              go_wp2_with (go_at_call 66; refine HCu.out.mono ?_; rintro e w7 ⟨rfl, v7, h1, h2, h3⟩; have HE : Hid (ms1 = P' ++ (m :: R) ∧ RkE w w7 B rb (.slice Af nf cf) (.slice Al p cl) ms v7 (.slice none 0 0) (P' ++ (m :: R).filter Rm.h) [] z nx) := ⟨HR.out.1, by rw [List.filter_cons, if_neg (by rw [HHh.out]; decide)]; exact HR.out.2.trans (rke_cut h1 h2 h3 fun a ha => mem_mid2 ha)⟩; clear h1 h2 h3)
              go_roundw
              case rel => exact ⟨_, P', m :: R, _, rfl, by omega, by omega, by rw [HPi.out], HE.out.1, HE.out.2⟩
              case measure => first | (simp [intOf]; done) | (simp [intOf]; omega)
      · obtain rfl : p = k := by omega
        clear hc
        have HMq : Hid (ms1.map Rm.r = (ms.map Rm.r).map (stepsR (ls.take K.toNat))) := HE.out.2
        clear HI HE
        go_wp2
        clear m9 m1 f1
        go_loopw [6] (fun vi wr => ∃ (q : Int) (P R : List Rm) (fv' : Value), vi = .int .i64 q ∧ -1 ≤ q ∧ q ≤ 100000 ∧ Hid (q = (P.length : Int) - 1 ∧ ms1 = P ++ R ∧ RkE w wr B rb (.slice Af nf cf) (.slice Al p cl) ms fv' (.slice none 0 0) (P ++ R.filter Rm.h) [] z nx)) (fun vi _ => (intOf vi + 1).toNat)
        case atStart => exact ⟨_, ms1, [], _, rfl, by omega, by omega, by rw [HL1.out], (List.append_nil _).symm, by rw [List.filter_nil, List.append_nil]; exact HK9.out⟩
        case round =>
          obtain ⟨q, P, R, fv', rfl, hq1, hq2, HJ⟩ := hrel
          rcases List.eq_nil_or_concat P with rfl | ⟨P', m, rfl⟩
          · obtain rfl : q = -1 := by have := HJ.out.1; simpa using this
            have HF : Hid (RkE w wr B rb (.slice Af nf cf) (.slice Al p cl) ms fv' (.slice none 0 0) (ms1.filter Rm.h) [] z nx) := by
              obtain ⟨_, e, h1⟩ := HJ.out
              rw [e]
              exact h1
            go_wp2
            go_end0
            refine ⟨rfl, _, _, HF.out, ?_⟩
            rw [← HMq.out, List.filter_map]
            rfl
          · obtain ⟨i, hi⟩ : ∃ i, P'.length = i := ⟨_, rfl⟩
            obtain rfl : q = (i : Int) := by
              have := HJ.out.1
              rw [List.concat_eq_append, List.length_append, hi] at this
              simpa using this
            have HR : Hid (ms1 = P' ++ m :: R ∧ RkE w wr B rb (.slice Af nf cf) (.slice Al p cl) ms fv' (.slice none 0 0) (P' ++ m :: R.filter Rm.h) [] z nx) := by
              obtain ⟨_, e, h1⟩ := HJ.out
              rw [List.concat_eq_append, List.append_assoc] at e h1
              exact ⟨e, h1⟩
            have hlen : P'.length < (P' ++ m :: R.filter Rm.h).length := by simp
            obtain ⟨nq, hnq⟩ : ∃ nq, (P' ++ m :: R.filter Rm.h).length = nq := ⟨_, rfl⟩
            have hle : nq ≤ 100000 := by
              have e1 := congrArg List.length HR.out.1
              have e2 := List.length_filter_le Rm.h R
              rw [HL1.out] at e1
              rw [← hnq]
              rw [List.length_append, List.length_cons] at e1 ⊢
              omega
            obtain ⟨Aq, cq, rfl⟩ := mrow_form HR.out.2.rk.fr hnq
            obtain ⟨g, rfl, hc⟩ := mrow_at HR.out.2.rk.fr hlen
            have hat : (P' ++ m :: R.filter Rm.h)[P'.length]'hlen = m := by simp
            rw [hat, hi] at hc
            have x3 := hc 3 _ (by omega) rfl
            have n0 := HR.out.2.rk.blk.cell 0
            have HCu := hid (rcut_ok HR.out.2.rk (by omega) i hi)
            rw [hnq, hi] at hlen
            have HPi := hid hi
            clear hc hat hi hnq HJ m0
            cases hh : m.h with
            | true =>
              rw [hh] at x3
              have HE : Hid (ms1 = P' ++ (m :: R) ∧ RkE w wr B rb (.slice Af nf cf) (.slice Al p cl) ms (.slice (some ⟨g, 0, none⟩) nq cq) (.slice none 0 0) (P' ++ (m :: R).filter Rm.h) [] z nx) := by
                refine ⟨HR.out.1, ?_⟩
                rw [List.filter_cons, if_pos hh]
                exact HR.out.2
              clear hh HCu
              go_wp2
              go_roundw
              case rel => exact ⟨_, P', m :: R, _, rfl, by omega, by omega, by rw [HPi.out], HE.out.1, HE.out.2⟩
              case measure => first | (simp [intOf]; done) | (simp [intOf]; omega)
            | false =>
              rw [hh] at x3
              have HHh := hid hh
              clear hh
              go_wp2_with (go_at_call 66; refine HCu.out.mono ?_; rintro e w7 ⟨rfl, v7, h1, h2, h3⟩; have HE : Hid (ms1 = P' ++ (m :: R) ∧ RkE w w7 B rb (.slice Af nf cf) (.slice Al p cl) ms v7 (.slice none 0 0) (P' ++ (m :: R).filter Rm.h) [] z nx) := ⟨HR.out.1, by rw [List.filter_cons, if_neg (by rw [HHh.out]; decide)]; exact HR.out.2.trans (rke_cut h1 h2 h3 fun a ha => mem_mid2 ha)⟩; clear h1 h2 h3)
              go_roundw
              case rel => exact ⟨_, P', m :: R, _, rfl, by omega, by omega, by rw [HPi.out], HE.out.1, HE.out.2⟩
              case measure => first | (simp [intOf]; done) | (simp [intOf]; omega)
end Go.Proofs.YtofkfafdodhmdaaGreatDoor
