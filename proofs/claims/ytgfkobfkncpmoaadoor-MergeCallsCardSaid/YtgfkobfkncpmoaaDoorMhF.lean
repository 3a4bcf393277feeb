/- The document's Skip. Conditions: the merger stands, its cells are such as the laws look at. -/
import Derived.Test.YtgfkobfkncpmoaaDoorMhD
import Derived.Test.YtgfkobfkncpmoaaDoorPD
import Derived.Test.YtgfkobfkncpmoaaDoorRgT
namespace Go.Proofs.YtgfkobfkncpmoaaDoor
open Go.RowKit

section
variable {W0 W W' : World} {rb g i n c0 m cu bu ou cb : Nat} {h c : CT}
abbrev RS4 (W0 : World) (rb g i n c0 m cu bu ou cb : Nat) (h c : CT) (W : World) : Prop := Hid (Below W0.heap.size W0 W ∧ rb < W0.heap.size ∧ g < W0.heap.size ∧ bu < W0.heap.size ∧ cb < W0.heap.size) ∧ W.cell? ⟨rb, 0, none⟩ = some (.slice (some ⟨g, 0, none⟩) n c0) ∧ W.cell? ⟨g, i, none⟩ = some (.slice (some ⟨bu, ou, none⟩) m cu) ∧ (W.cell? ⟨bu, ou, none⟩ = some (.string h.r) ∧ W.cell? ⟨bu, ou + 1, none⟩ = some (.string h.f) ∧ W.cell? ⟨bu, ou + 2, none⟩ = some (.string h.q) ∧ W.cell? ⟨bu, ou + 3, none⟩ = some (.int .i64 h.t) ∧ W.cell? ⟨bu, ou + 4, none⟩ = some (.int .i64 h.k) ∧ W.cell? ⟨bu, ou + 5, none⟩ = some (.int .i64 h.vk) ∧ W.cell? ⟨bu, ou + 6, none⟩ = some (.int .i64 h.vn) ∧ W.cell? ⟨bu, ou + 7, none⟩ = some (.string h.s)) ∧ (W.cell? ⟨cb, 0, none⟩ = some (.string c.r) ∧ W.cell? ⟨cb, 1, none⟩ = some (.string c.f) ∧ W.cell? ⟨cb, 2, none⟩ = some (.string c.q) ∧ W.cell? ⟨cb, 3, none⟩ = some (.int .i64 c.t) ∧ W.cell? ⟨cb, 4, none⟩ = some (.int .i64 c.k) ∧ W.cell? ⟨cb, 5, none⟩ = some (.int .i64 c.vk) ∧ W.cell? ⟨cb, 6, none⟩ = some (.int .i64 c.vn) ∧ W.cell? ⟨cb, 7, none⟩ = some (.string c.s))
theorem rs4_call (hh : RS4 W0 rb g i n c0 m cu bu ou cb h c W) (hb : Below W.heap.size W W') : RS4 W0 rb g i n c0 m cu bu ou cb h c W' := by
  obtain ⟨hh, z0, z1, ⟨a0, a1, a2, a3, a4, a5, a6, a7⟩, ⟨b0, b1, b2, b3, b4, b5, b6, b7⟩⟩ := hh
  obtain ⟨hbw, h1, h2, h3, h4⟩ := hh.out
  have hz := hbw.size
  have hc : ∀ b o, b < W0.heap.size → W'.cell? ⟨b, o, none⟩ = W.cell? ⟨b, o, none⟩ := fun b o h => hb.cell (p := ⟨b, o, none⟩) (show b < W.heap.size by omega)
  refine ⟨hid ⟨hbw.trans (hb.mono hz), h1, h2, h3, h4⟩, ?_, ?_, ⟨?_, ?_, ?_, ?_, ?_, ?_, ?_, ?_⟩, ⟨?_, ?_, ?_, ?_, ?_, ?_, ?_, ?_⟩⟩ <;> (rw [hc _ _ (by omega)]; assumption)
theorem rs4_drew (hh : RS4 W0 rb g i n c0 m cu bu ou cb h c W) : RS4 W0 rb g i n c0 m cu bu ou cb h c W.drew := rs4_call hh (Below.refl _ _).drew
end
abbrev RsS (rb g i n c0 : Nat) (u : Value) (W : World) : Prop := W.cell? ⟨rb, 0, none⟩ = some (.slice (some ⟨g, 0, none⟩) n c0) ∧ W.cell? ⟨g, i, none⟩ = some u ∧ W.frozen? ⟨g, i, none⟩ = false
theorem rss_below {W W' : World} {rb g i n c0 : Nat} {u : Value} (h : RsS rb g i n c0 u W) (hb : Below W.heap.size W W') : RsS rb g i n c0 u W' := by
  obtain ⟨h0, h1, h2⟩ := h
  exact ⟨(hb.cell (p := ⟨rb, 0, none⟩) (cell_lt h0)).trans h0, (hb.cell (p := ⟨g, i, none⟩) (cell_lt h1)).trans h1, (World.frozen?_of_block (a := ⟨g, i, none⟩) (hb.block g (cell_lt h1))).trans h2⟩
/-- How many cells the run at i has, by the memory. -/
def lenC (g i : Nat) (w : World) : Nat := match w.cell? ⟨g, i, none⟩ with
  | some (.slice _ n _) => n
  | _ => 0
/-- Where the document's functions are. -/
structure RI (w W : World) (B C rb g n c0 cb : Nat) (c : CT) (ls : List (List CT)) : Prop where
  rm : RM W B C rb (some ⟨g, 0, none⟩) n c0 ls
  ce : DW W cb c
  be : Mdl B C w W
  bw : B ≤ w.heap.size
theorem RI.below {w W W2 : World} {B C rb g n c0 cb : Nat} {c : CT} {ls : List (List CT)} (h : RI w W B C rb g n c0 cb c ls) (hb : Below W.heap.size W W2) : RI w W2 B C rb g n c0 cb c ls :=
  ⟨h.rm.below hb, h.ce.below hb, h.be.trans (Mdl.of hb), h.bw⟩
theorem RI.lenC {w W : World} {B C rb g n c0 cb i : Nat} {c : CT} {ls : List (List CT)} {l : List CT} (h : RI w W B C rb g n c0 cb c ls) (hl : ls[i]? = some l) : lenC g i W = l.length := by
  obtain ⟨g', Au, cu, e, _, x0, _⟩ := h.rm.at hl
  injection e with e
  injection e with e
  subst e
  unfold Go.Proofs.YtgfkobfkncpmoaaDoor.lenC
  rw [x0]
theorem el_tail {w : World} {B C bu ou m cu : Nat} {h : CT} {t : List CT} (he : El w B C (.slice (some ⟨bu, ou, none⟩) m cu) (h :: t)) (A2 : Option Addr) (hA : (A2 = some ⟨bu, ou + 8, none⟩) ∨ (t = [] ∧ A2 = some ⟨bu, ou, none⟩)) : El w B C (.slice A2 (m - 1) (cu - 1)) t := by
  obtain ⟨⟨A, c, e, h1, h2, h3⟩, hb⟩ := he
  injection e with e1 e2 e3
  subst e1 e3
  rw [List.length_cons] at e2 h1
  refine ⟨⟨A2, cu - 1, by rw [e2]; rfl, by omega, by omega, fun h0 => ?_⟩, fun b hb2 => ?_⟩
  · obtain ⟨b, off, e, hh⟩ := h3 (by simp)
    injection e with e
    injection e with e1 e2
    subst e1 e2
    rcases hA with rfl | ⟨rfl, _⟩
    · refine ⟨bu, ou + 8, rfl, fun i hi j hj => ?_⟩
      have := hh (i + 1) (by simpa using hi) j hj
      rw [show ou + 8 + i * 8 + j = ou + (i + 1) * 8 + j by omega]
      exact this
    · simp at h0
  · have e : b = bu := by
      rcases hA with rfl | ⟨_, rfl⟩ <;> (injection hb2 with hb2; exact hb2.symm)
    subst e
    exact hb b rfl
theorem RI.set {w W : World} {B C rb g n c0 cb i : Nat} {c : CT} {ls : List (List CT)} {l l2 : List CT} {u : Value} (h : RI w W B C rb g n c0 cb c ls) (hl : ls[i]? = some l) (hu : El W B C u l2) : RI w (W.setCell ⟨g, i, none⟩ u) B C rb g n c0 cb c (ls.set i l2) := by
  have hi : i < n := by rw [← h.rm.len]; exact (List.getElem?_eq_some_iff.1 hl).1
  obtain ⟨g', cur, e, h1, h2, h3⟩ := h.rm.row (by omega)
  injection e with e
  injection e with e
  subst e
  have hs : ∀ k, k ≠ g → (W.setCell ⟨g, i, none⟩ u).heap[k]? = W.heap[k]? := fun k q => Below.heap_setCell _ _ _ _ fun e => q e
  have hce : Blk W cb 28 c.e.toArray := h.ce
  exact ⟨h.rm.set hl hu, (hs cb (x_ne0 hce h2 (by decide))).trans h.ce, h.be.trans ⟨rfl, rfl, rfl, by simp [World.setCell], fun k hk q => hs k (by omega)⟩, h.bw⟩
/-- So many runs have passed over what is ahead of c. -/
def drL (c : CT) (l : List CT) : List CT := l.dropWhile fun x => decide (CT.cmp x c < 0)
def skL (c : CT) (ls : List (List CT)) (i : Nat) : List (List CT) := (ls.take i).map (drL c) ++ ls.drop i
theorem skL_zero (c : CT) (ls : List (List CT)) : skL c ls 0 = ls := by unfold skL; simp
theorem skL_at {c : CT} {ls : List (List CT)} {i : Nat} {l : List CT} (hl : ls[i]? = some l) : (skL c ls i)[i]? = some l := by
  have hi := (List.getElem?_eq_some_iff.1 hl).1
  unfold skL
  rw [List.getElem?_append_right (by rw [List.length_map, List.length_take]; omega), List.length_map, List.length_take, Nat.min_eq_left (by omega), Nat.sub_self, List.getElem?_drop]
  exact hl
theorem skL_next {c : CT} {ls : List (List CT)} {i : Nat} {l : List CT} (hl : ls[i]? = some l) : (skL c ls i).set i (drL c l) = skL c ls (i + 1) := by
  obtain ⟨hi, e⟩ := List.getElem?_eq_some_iff.1 hl
  unfold skL
  rw [List.take_add_one, hl, List.map_append, List.set_append_right _ _ (by rw [List.length_map, List.length_take]; omega), List.length_map, List.length_take, Nat.min_eq_left (by omega), Nat.sub_self, List.drop_eq_getElem_cons hi, List.set_cons_zero, List.append_assoc]
  rfl
theorem skL_all (c : CT) (ls : List (List CT)) {i : Nat} (h : i = ls.length) : skL c ls i = ls.map (drL c) := by
  subst h
  unfold skL
  rw [List.take_length, List.drop_length, List.append_nil]
theorem skL_set {c : CT} {ls : List (List CT)} {i : Nat} {l m : List CT} (hl : ls[i]? = some l) : ((skL c ls i).set i m)[i]? = some m := by
  have h1 := skL_at (c := c) hl
  have h2 := (List.getElem?_eq_some_iff.1 h1).1
  rw [List.getElem?_set, if_pos rfl, if_pos h2]

set_option maxRecDepth 100000 in
set_option maxHeartbeats 16000000 in
theorem rskip_any {B C rb n c0 : Nat} {A : Option Addr} {ls : List (List CT)} (c : CT) (hc : Sm c) (w : World) (h : RM w B C rb A n c0 ls) (hs : ∀ l ∈ ls, ∀ d ∈ l, Sm d) (hn : n ≤ 1000) :
    Calls Tryd.prog 57 #[.pointer (some ⟨rb, 0, none⟩), c.v] w fun e w' => e = .returned (.tuple #[]) ∧ Hid (RM w' B C rb A n c0 (ls.map (drL c)) ∧ Mdl B C w w') := by
  have mixed : Tryd.prog.follows .mixedOrders = true := by kernel_rfl
  have HS := hid hs
  have HCs := hid hc
  have HB0 : Hid (B ≤ w.heap.size) := Nat.le_trans h.lo (Nat.le_of_lt h.blk.lt)
  rcases Nat.eq_zero_or_pos n with hn0 | hn0
  · subst hn0
    have hls : ls = [] := List.eq_nil_of_length_eq_zero h.len
    subst hls
    have HB := hid (below_new w (.cells #[.string c.r, .string c.f, .string c.q, .int .i64 c.t, .int .i64 c.k, .int .i64 c.vk, .int .i64 c.vn, .string c.s] 28))
    have HZ : Hid (RM (w.alloc (.cells #[.string c.r, .string c.f, .string c.q, .int .i64 c.t, .int .i64 c.k, .int .i64 c.vk, .int .i64 c.vn, .string c.s] 28)) B C rb A 0 c0 [] ∧ Mdl B C w (w.alloc (.cells #[.string c.r, .string c.f, .string c.q, .int .i64 c.t, .int .i64 c.k, .int .i64 c.vk, .int .i64 c.vn, .string c.s] 28))) := ⟨h.below HB.out, Mdl.of HB.out⟩
    have m0 : (w.alloc (.cells #[.string c.r, .string c.f, .string c.q, .int .i64 c.t, .int .i64 c.k, .int .i64 c.vk, .int .i64 c.vn, .string c.s] 28)).cell? ⟨rb, 0, none⟩ = some (.slice A 0 c0) := (h.below HB.out).blk.cell 0
    clear h hs hc
    go_enter Tryd.func57, Tryd.ntmps57
    go_wp2
    refine wp_loop_rounds 1 ?_
    rw [rounds_succ]; go_wp2
    refine bodyPost_end (results_none rfl _ _ _) rfl ?_
    exact ⟨rfl, HZ.out⟩
  · obtain ⟨g, cur, rfl, -⟩ := h.row hn0
    have HI0 : Hid (RI w (w.alloc (.cells #[.string c.r, .string c.f, .string c.q, .int .i64 c.t, .int .i64 c.k, .int .i64 c.vk, .int .i64 c.vn, .string c.s] 28)) B C rb g n c0 w.heap.size c (skL c ls 0)) := by
      have hb := below_new w (.cells #[.string c.r, .string c.f, .string c.q, .int .i64 c.t, .int .i64 c.k, .int .i64 c.vk, .int .i64 c.vn, .string c.s] 28)
      rw [skL_zero]
      exact ⟨h.below hb, Blk.new w _ _, Mdl.of hb, HB0.out⟩
    have HLn := hid h.len
    clear h hs hc
    go_enter Tryd.func57, Tryd.ntmps57
    go_upto_region 1 with (fail)
    obtain ⟨cb, hcb⟩ : ∃ cb, w.heap.size = cb := ⟨_, rfl⟩
    rw [hcb]
    refine wp_lt9 (fun W => Hid (RI w W B C rb g n c0 cb c (skL c ls 0))) (by rw [← hcb]; exact HI0) ?_
    clear HI0 hcb
    rintro W0 HI0
    go_wp2
    go_loopw [4] (fun vi wr => ∃ i : Nat, i ≤ n ∧ vi = .int .i64 i ∧ Hid (RI w wr B C rb g n c0 cb c (skL c ls i))) (fun vi _ => n - (intOf vi).toNat)
    case atStart => exact ⟨0, Nat.zero_le _, rfl, HI0⟩
    case round =>
      clear HI0
      obtain ⟨i, hi, rfl, HI⟩ := hrel
      have m0 : wr.cell? ⟨rb, 0, none⟩ = some (.slice (some ⟨g, 0, none⟩) n c0) := HI.out.rm.blk.cell 0
      by_cases hlt : i < n
      · have hltz : (i : Int) < (n : Int) := by omega
        have hil : i < ls.length := by rw [HLn.out]; exact hlt
        obtain ⟨l, hl⟩ : ∃ l, ls[i]? = some l := ⟨_, List.getElem?_eq_getElem hil⟩
        have HL := hid hl
        have HSl := hid (HS.out l (List.mem_of_getElem? hl))
        clear hl hil
        obtain ⟨wz, hwz⟩ : ∃ x, x = wr := ⟨_, rfl⟩
        subst hwz
        go_upto_region 4 with (fail)
        clear m0
        go_loopw [23] (fun _ wr => ∃ k : Nat, k ≤ l.length ∧ Hid (RI w wr B C rb g n c0 cb c ((skL c ls i).set i (l.drop k)) ∧ drL c (l.drop k) = drL c l)) (fun _ wr => lenC g i wr)
        case atStart => exact ⟨0, Nat.zero_le _, by rw [List.drop_zero, set_same9 _ _ _ (skL_at HL.out)]; exact HI.out, by rw [List.drop_zero]⟩
        case round =>
          clear HI
          obtain ⟨k, hk, HI⟩ := hrel
          have HAt := hid (skL_set (c := c) (m := l.drop k) HL.out)
          have HLe := hid (HI.out.1.lenC HAt.out)
          have m0 : wr.cell? ⟨rb, 0, none⟩ = some (.slice (some ⟨g, 0, none⟩) n c0) := HI.out.1.rm.blk.cell 0
          obtain ⟨g', Au, cu, eg, -, m1, hfr, hcu, hel, hh⟩ := HI.out.1.rm.at HAt.out
          injection eg with eg
          injection eg with eg
          subst eg
          have HEl := hid hel
          have HHh := hid hh
          clear hel hh
          cases hd : l.drop k with
          | nil =>
            rw [hd] at m1 hcu HI
            have HE : Hid (RI w wr B C rb g n c0 cb c (skL c ls (i + 1))) := by
              have h1 := HI.out.1
              have h2 := HI.out.2
              rw [← skL_next HL.out, ← h2]
              exact h1
            clear hd hfr HI HEl HHh HLe HAt
            dsimp only [List.length_nil] at m1 hcu
            go_upto_region 4 with (fail)
            refine wp_region_held_drew (S := (fun W' => Hid (Below wr.heap.size wr W') ∧ W'.cell? ⟨rb, 0, none⟩ = some (.slice (some ⟨g, 0, none⟩) n c0) ∧ W'.cell? ⟨g, i, none⟩ = some (.slice Au 0 cu))) (by kernel_rfl) ?_ (fun hHeld => ?_)
            (exact ⟨hid (Below.refl _ wr).drew, m0, m1⟩)
            (refine wpAnyH_take (i := 0) (v := ?_) rfl (by kernel_rfl) (by kernel_rfl) (by kernel_rfl) (fun _ _ _ h => h) (Or.inl ⟨by kernel_rfl, ?_⟩) (by assumption) ?_; rotate_left; · (intro w hSw; (try dsimp only at hSw); go_simp; first | done | with_reducible rfl))
            (try simp only [Act.put]); (try simp only [List.getElem_toArray]); (try simp only [List.getElem_cons_succ]); (try simp only [List.getElem_cons_zero]); (try simp only [List.setIfInBounds_toArray]); (try simp only [List.set_cons_succ]); (try simp only [List.set_cons_zero])
            (refine wpAnyH_take (i := 1) (v := ?_) rfl (by kernel_rfl) (by kernel_rfl) (by kernel_rfl) (fun _ _ _ h => h) (Or.inl ⟨by kernel_rfl, ?_⟩) (by assumption) ?_; rotate_left; · (intro w hSw; (try dsimp only at hSw); go_simp; first | done | with_reducible rfl))
            (try simp only [Act.put]); (try simp only [List.getElem_toArray]); (try simp only [List.getElem_cons_succ]); (try simp only [List.getElem_cons_zero]); (try simp only [List.setIfInBounds_toArray]); (try simp only [List.set_cons_succ]); (try simp only [List.set_cons_zero])
            (refine wpAnyH_take (i := 2) (v := ?_) rfl (by kernel_rfl) (by kernel_rfl) (by kernel_rfl) (fun _ _ _ h => h) (Or.inl ⟨by kernel_rfl, ?_⟩) (by assumption) ?_; rotate_left; · (intro w hSw; (try dsimp only at hSw); go_simp; first | done | with_reducible rfl))
            (try simp only [Act.put]); (try simp only [List.getElem_toArray]); (try simp only [List.getElem_cons_succ]); (try simp only [List.getElem_cons_zero]); (try simp only [List.setIfInBounds_toArray]); (try simp only [List.set_cons_succ]); (try simp only [List.set_cons_zero])
            (refine wpAnyH_take (i := 3) (v := ?_) rfl (by kernel_rfl) (by kernel_rfl) (by kernel_rfl) (fun _ _ _ h => h) (Or.inl ⟨by kernel_rfl, ?_⟩) (by assumption) ?_; rotate_left; · (intro w hSw; (try dsimp only at hSw); go_simp; first | done | with_reducible rfl))
            (try simp only [Act.put]); (try simp only [List.getElem_toArray]); (try simp only [List.getElem_cons_succ]); (try simp only [List.getElem_cons_zero]); (try simp only [List.setIfInBounds_toArray]); (try simp only [List.set_cons_succ]); (try simp only [List.set_cons_zero])
            (refine wpAnyH_take (i := 4) (v := ?_) rfl (by kernel_rfl) (by kernel_rfl) (by kernel_rfl) (fun _ _ _ h => h) (Or.inl ⟨by kernel_rfl, ?_⟩) (by assumption) ?_; rotate_left; · (intro w hSw; (try dsimp only at hSw); go_simp; first | done | with_reducible rfl))
            (try simp only [Act.put]); (try simp only [List.getElem_toArray]); (try simp only [List.getElem_cons_succ]); (try simp only [List.getElem_cons_zero]); (try simp only [List.setIfInBounds_toArray]); (try simp only [List.set_cons_succ]); (try simp only [List.set_cons_zero])
            (refine wpAnyH_take (i := 5) (v := ?_) rfl (by kernel_rfl) (by kernel_rfl) (by kernel_rfl) (fun _ _ _ h => h) (Or.inl ⟨by kernel_rfl, ?_⟩) (by assumption) ?_; rotate_left; · (intro w hSw; (try dsimp only at hSw); go_simp; first | done | with_reducible rfl))
            (try simp only [Act.put]); (try simp only [List.getElem_toArray]); (try simp only [List.getElem_cons_succ]); (try simp only [List.getElem_cons_zero]); (try simp only [List.setIfInBounds_toArray]); (try simp only [List.set_cons_succ]); (try simp only [List.set_cons_zero])
            (refine wpAnyH_take (i := 6) (v := ?_) rfl (by kernel_rfl) (by kernel_rfl) (by kernel_rfl) (fun _ _ _ h => h) (Or.inl ⟨by kernel_rfl, ?_⟩) (by assumption) ?_; rotate_left; · (intro w hSw; (try dsimp only at hSw); go_simp; first | done | with_reducible rfl))
            (try simp only [Act.put]); (try simp only [List.getElem_toArray]); (try simp only [List.getElem_cons_succ]); (try simp only [List.getElem_cons_zero]); (try simp only [List.setIfInBounds_toArray]); (try simp only [List.set_cons_succ]); (try simp only [List.set_cons_zero])
            (refine wpAnyH_take (i := 7) (v := ?_) rfl (by kernel_rfl) (by kernel_rfl) (by kernel_rfl) (fun _ _ _ h => h) (Or.inl ⟨by kernel_rfl, ?_⟩) (by assumption) ?_; rotate_left; · (intro w hSw; (try dsimp only at hSw); go_simp; first | done | with_reducible rfl))
            (try simp only [Act.put]); (try simp only [List.getElem_toArray]); (try simp only [List.getElem_cons_succ]); (try simp only [List.getElem_cons_zero]); (try simp only [List.setIfInBounds_toArray]); (try simp only [List.set_cons_succ]); (try simp only [List.set_cons_zero])
            (refine wpAnyH_take (i := 8) (v := ?_) rfl (by kernel_rfl) (by kernel_rfl) (by kernel_rfl) (fun _ _ _ h => h) (Or.inl ⟨by kernel_rfl, ?_⟩) (by assumption) ?_; rotate_left; · (intro w hSw; (try dsimp only at hSw); go_simp; first | done | with_reducible rfl))
            (try simp only [Act.put]); (try simp only [List.getElem_toArray]); (try simp only [List.getElem_cons_succ]); (try simp only [List.getElem_cons_zero]); (try simp only [List.setIfInBounds_toArray]); (try simp only [List.set_cons_succ]); (try simp only [List.set_cons_zero])
            (refine wpAnyH_take (i := 9) (v := ?_) rfl (by kernel_rfl) (by kernel_rfl) (by kernel_rfl) (fun _ _ _ h => h) (Or.inl ⟨by kernel_rfl, ?_⟩) (by assumption) ?_; rotate_left; · (intro w hSw; (try dsimp only at hSw); go_simp; first | done | with_reducible rfl))
            (try simp only [Act.put]); (try simp only [List.getElem_toArray]); (try simp only [List.getElem_cons_succ]); (try simp only [List.getElem_cons_zero]); (try simp only [List.setIfInBounds_toArray]); (try simp only [List.set_cons_succ]); (try simp only [List.set_cons_zero])
            (refine wpAnyH_take (i := 10) (v := undef) rfl (by kernel_rfl) (by kernel_rfl) (by kernel_rfl) (fun _ _ _ h => h) (Or.inr ⟨by kernel_rfl, rfl⟩) (by assumption) ?_; (try simp only [Act.put]); (try simp only [List.getElem_toArray]); (try simp only [List.getElem_cons_succ]); (try simp only [List.getElem_cons_zero]); (try simp only [List.setIfInBounds_toArray]); (try simp only [List.set_cons_succ]); (try simp only [List.set_cons_zero]))
            (refine wpAnyH_take (i := 11) (v := undef) rfl (by kernel_rfl) (by kernel_rfl) (by kernel_rfl) (fun _ _ _ h => h) (Or.inr ⟨by kernel_rfl, rfl⟩) (by assumption) ?_; (try simp only [Act.put]); (try simp only [List.getElem_toArray]); (try simp only [List.getElem_cons_succ]); (try simp only [List.getElem_cons_zero]); (try simp only [List.setIfInBounds_toArray]); (try simp only [List.set_cons_succ]); (try simp only [List.set_cons_zero]))
            (refine wpAnyH_take (i := 12) (v := undef) rfl (by kernel_rfl) (by kernel_rfl) (by kernel_rfl) (fun _ _ _ h => h) (Or.inr ⟨by kernel_rfl, rfl⟩) (by assumption) ?_; (try simp only [Act.put]); (try simp only [List.getElem_toArray]); (try simp only [List.getElem_cons_succ]); (try simp only [List.getElem_cons_zero]); (try simp only [List.setIfInBounds_toArray]); (try simp only [List.set_cons_succ]); (try simp only [List.set_cons_zero]))
            (refine wpAnyH_take (i := 13) (v := undef) rfl (by kernel_rfl) (by kernel_rfl) (by kernel_rfl) (fun _ _ _ h => h) (Or.inr ⟨by kernel_rfl, rfl⟩) (by assumption) ?_; (try simp only [Act.put]); (try simp only [List.getElem_toArray]); (try simp only [List.getElem_cons_succ]); (try simp only [List.getElem_cons_zero]); (try simp only [List.setIfInBounds_toArray]); (try simp only [List.set_cons_succ]); (try simp only [List.set_cons_zero]))
            (refine wpAnyH_take (i := 14) (v := undef) rfl (by kernel_rfl) (by kernel_rfl) (by kernel_rfl) (fun _ _ _ h => h) (Or.inr ⟨by kernel_rfl, rfl⟩) (by assumption) ?_; (try simp only [Act.put]); (try simp only [List.getElem_toArray]); (try simp only [List.getElem_cons_succ]); (try simp only [List.getElem_cons_zero]); (try simp only [List.setIfInBounds_toArray]); (try simp only [List.set_cons_succ]); (try simp only [List.set_cons_zero]))
            (refine wpAnyH_take (i := 15) (v := undef) rfl (by kernel_rfl) (by kernel_rfl) (by kernel_rfl) (fun _ _ _ h => h) (Or.inr ⟨by kernel_rfl, rfl⟩) (by assumption) ?_; (try simp only [Act.put]); (try simp only [List.getElem_toArray]); (try simp only [List.getElem_cons_succ]); (try simp only [List.getElem_cons_zero]); (try simp only [List.setIfInBounds_toArray]); (try simp only [List.set_cons_succ]); (try simp only [List.set_cons_zero]))
            (refine wpAnyH_take (i := 16) (v := undef) rfl (by kernel_rfl) (by kernel_rfl) (by kernel_rfl) (fun _ _ _ h => h) (Or.inr ⟨by kernel_rfl, rfl⟩) (by assumption) ?_; (try simp only [Act.put]); (try simp only [List.getElem_toArray]); (try simp only [List.getElem_cons_succ]); (try simp only [List.getElem_cons_zero]); (try simp only [List.setIfInBounds_toArray]); (try simp only [List.set_cons_succ]); (try simp only [List.set_cons_zero]))
            (refine wpAnyH_take (i := 17) (v := undef) rfl (by kernel_rfl) (by kernel_rfl) (by kernel_rfl) (fun _ _ _ h => h) (Or.inr ⟨by kernel_rfl, rfl⟩) (by assumption) ?_; (try simp only [Act.put]); (try simp only [List.getElem_toArray]); (try simp only [List.getElem_cons_succ]); (try simp only [List.getElem_cons_zero]); (try simp only [List.setIfInBounds_toArray]); (try simp only [List.set_cons_succ]); (try simp only [List.set_cons_zero]))
            (refine wpAnyH_take (i := 18) (v := undef) rfl (by kernel_rfl) (by kernel_rfl) (by kernel_rfl) (fun _ _ _ h => h) (Or.inr ⟨by kernel_rfl, rfl⟩) (by assumption) ?_; (try simp only [Act.put]); (try simp only [List.getElem_toArray]); (try simp only [List.getElem_cons_succ]); (try simp only [List.getElem_cons_zero]); (try simp only [List.setIfInBounds_toArray]); (try simp only [List.set_cons_succ]); (try simp only [List.set_cons_zero]))
            (refine wpAnyH_take (i := 19) (v := undef) rfl (by kernel_rfl) (by kernel_rfl) (by kernel_rfl) (fun _ _ _ h => h) (Or.inr ⟨by kernel_rfl, rfl⟩) (by assumption) ?_; (try simp only [Act.put]); (try simp only [List.getElem_toArray]); (try simp only [List.getElem_cons_succ]); (try simp only [List.getElem_cons_zero]); (try simp only [List.setIfInBounds_toArray]); (try simp only [List.set_cons_succ]); (try simp only [List.set_cons_zero]))
            (refine wpAnyH_take (i := 20) (v := undef) rfl (by kernel_rfl) (by kernel_rfl) (by kernel_rfl) (fun _ _ _ h => h) (Or.inr ⟨by kernel_rfl, rfl⟩) (by assumption) ?_; (try simp only [Act.put]); (try simp only [List.getElem_toArray]); (try simp only [List.getElem_cons_succ]); (try simp only [List.getElem_cons_zero]); (try simp only [List.setIfInBounds_toArray]); (try simp only [List.set_cons_succ]); (try simp only [List.set_cons_zero]))
            (refine wpAnyH_take (i := 21) (v := undef) rfl (by kernel_rfl) (by kernel_rfl) (by kernel_rfl) (fun _ _ _ h => h) (Or.inr ⟨by kernel_rfl, rfl⟩) (by assumption) ?_; (try simp only [Act.put]); (try simp only [List.getElem_toArray]); (try simp only [List.getElem_cons_succ]); (try simp only [List.getElem_cons_zero]); (try simp only [List.setIfInBounds_toArray]); (try simp only [List.set_cons_succ]); (try simp only [List.set_cons_zero]))
            (refine wpAnyH_take (i := 22) (v := ?_) rfl (by kernel_rfl) (by kernel_rfl) (by kernel_rfl) (fun _ _ _ h => h) (Or.inl ⟨by kernel_rfl, ?_⟩) (by assumption) ?_; rotate_left; · (intro w hSw; (try dsimp only at hSw); go_simp; first | done | with_reducible rfl))
            (try simp only [Act.put]); (try simp only [List.getElem_toArray]); (try simp only [List.getElem_cons_succ]); (try simp only [List.getElem_cons_zero]); (try simp only [List.setIfInBounds_toArray]); (try simp only [List.set_cons_succ]); (try simp only [List.set_cons_zero])
            refine wpAnyH_done (by kernel_rfl) ?_ _
            have HE2 := hid (HE.out.below hHeld.1.out)
            clear hHeld m0 m1
            go_wp2
            go_roundw
            case rel => exact ⟨i + 1, by omega, by go_num, HE2.out⟩
            case measure => simp [intOf]; omega
          | cons h t =>
            rw [hd] at m1 hcu HI HEl HHh HLe HAt
            have HDk : Hid (l.drop (k + 1) = t ∧ k < l.length) := by
              have h1 : k < l.length := by
                rcases Nat.lt_or_ge k l.length with q | q
                · exact q
                · rw [List.drop_of_length_le q] at hd; cases hd
              refine ⟨?_, h1⟩
              rw [List.drop_eq_getElem_cons h1] at hd
              injection hd
            have HhS : Hid (Sm h) := HSl.out h (List.mem_of_mem_drop (by rw [hd]; simp))
            obtain ⟨bu, ou, rfl, hhc, hbg, hbr⟩ := HHh.out (by simp)
            obtain ⟨m, hm⟩ : ∃ m, (h :: t).length = m := ⟨_, rfl⟩
            have hm0 : 0 < m := by rw [← hm]; simp
            have HMt : Hid (t.length + 1 = m) := hm
            rw [hm] at m1 hcu HEl HLe
            have hm0z : (0 : Int) < (m : Int) := by omega
            obtain ⟨o, ho⟩ : ∃ o, CT.cmp h c = o := ⟨_, rfl⟩
            have HO := hid ho
            have HOr : Hid (∀ W, Calls Tryd.prog 47 #[h.v, c.v] W fun e w' => e = .returned (.int .i64 o) ∧ Below W.heap.size W w') := fun W => by rw [← ho]; exact reforder_ct h c HhS.out HCs.out W
            have HT : Hid (RS4 wr rb g i n c0 m cu bu ou cb h c wr) := by
              have hp := ct_words hhc 0 (c := h) rfl
              rw [Nat.zero_mul, Nat.add_zero] at hp
              exact ⟨hid ⟨Below.refl _ _, HI.out.1.rm.blk.lt, cell_lt m1, hhc.lt (by simp), Blk.lt HI.out.1.ce⟩, m0, m1, hp, HI.out.1.ce.words⟩
            have HFr : Hid (wr.frozen? ⟨g, i, none⟩ = false) := hfr
            clear hd hfr hhc hbg hbr ho hm
            obtain ⟨-, -, -, ⟨x0, x1, x2, x3, x4, x5, x6, x7⟩, ⟨z0, z1, z2, z3, z4, z5, z6, z7⟩⟩ := HT.out
            go_upto_region 4 with (fail)
            refine wp_region_held_drew (S := (fun W' => Hid (Below wr.heap.size wr W' ∧ rb < wr.heap.size ∧ g < wr.heap.size ∧ bu < wr.heap.size ∧ cb < wr.heap.size) ∧ W'.cell? ⟨rb, 0, none⟩ = some (.slice (some ⟨g, 0, none⟩) n c0) ∧ W'.cell? ⟨g, i, none⟩ = some (.slice (some ⟨bu, ou, none⟩) m cu) ∧ (W'.cell? ⟨bu, ou, none⟩ = some (.string h.r) ∧ W'.cell? ⟨bu, ou + 1, none⟩ = some (.string h.f) ∧ W'.cell? ⟨bu, ou + 2, none⟩ = some (.string h.q) ∧ W'.cell? ⟨bu, ou + 3, none⟩ = some (.int .i64 h.t) ∧ W'.cell? ⟨bu, ou + 4, none⟩ = some (.int .i64 h.k) ∧ W'.cell? ⟨bu, ou + 5, none⟩ = some (.int .i64 h.vk) ∧ W'.cell? ⟨bu, ou + 6, none⟩ = some (.int .i64 h.vn) ∧ W'.cell? ⟨bu, ou + 7, none⟩ = some (.string h.s)) ∧ (W'.cell? ⟨cb, 0, none⟩ = some (.string c.r) ∧ W'.cell? ⟨cb, 1, none⟩ = some (.string c.f) ∧ W'.cell? ⟨cb, 2, none⟩ = some (.string c.q) ∧ W'.cell? ⟨cb, 3, none⟩ = some (.int .i64 c.t) ∧ W'.cell? ⟨cb, 4, none⟩ = some (.int .i64 c.k) ∧ W'.cell? ⟨cb, 5, none⟩ = some (.int .i64 c.vk) ∧ W'.cell? ⟨cb, 6, none⟩ = some (.int .i64 c.vn) ∧ W'.cell? ⟨cb, 7, none⟩ = some (.string c.s)))) (by kernel_rfl) ?_ (fun hHeld => ?_)
            (exact rs4_drew HT.out)
            (refine wpAnyH_take (i := 0) (v := ?_) rfl (by kernel_rfl) (by kernel_rfl) (by kernel_rfl) (fun _ _ _ h => h) (Or.inl ⟨by kernel_rfl, ?_⟩) (by assumption) ?_; rotate_left; · (intro w hSw; (try dsimp only at hSw); go_simp; first | done | with_reducible rfl))
            (try simp only [Act.put]); (try simp only [List.getElem_toArray]); (try simp only [List.getElem_cons_succ]); (try simp only [List.getElem_cons_zero]); (try simp only [List.setIfInBounds_toArray]); (try simp only [List.set_cons_succ]); (try simp only [List.set_cons_zero])
            (refine wpAnyH_take (i := 1) (v := ?_) rfl (by kernel_rfl) (by kernel_rfl) (by kernel_rfl) (fun _ _ _ h => h) (Or.inl ⟨by kernel_rfl, ?_⟩) (by assumption) ?_; rotate_left; · (intro w hSw; (try dsimp only at hSw); go_simp; first | done | with_reducible rfl))
            (try simp only [Act.put]); (try simp only [List.getElem_toArray]); (try simp only [List.getElem_cons_succ]); (try simp only [List.getElem_cons_zero]); (try simp only [List.setIfInBounds_toArray]); (try simp only [List.set_cons_succ]); (try simp only [List.set_cons_zero])
            (refine wpAnyH_take (i := 2) (v := ?_) rfl (by kernel_rfl) (by kernel_rfl) (by kernel_rfl) (fun _ _ _ h => h) (Or.inl ⟨by kernel_rfl, ?_⟩) (by assumption) ?_; rotate_left; · (intro w hSw; (try dsimp only at hSw); go_simp; first | done | with_reducible rfl))
            (try simp only [Act.put]); (try simp only [List.getElem_toArray]); (try simp only [List.getElem_cons_succ]); (try simp only [List.getElem_cons_zero]); (try simp only [List.setIfInBounds_toArray]); (try simp only [List.set_cons_succ]); (try simp only [List.set_cons_zero])
            (refine wpAnyH_take (i := 3) (v := ?_) rfl (by kernel_rfl) (by kernel_rfl) (by kernel_rfl) (fun _ _ _ h => h) (Or.inl ⟨by kernel_rfl, ?_⟩) (by assumption) ?_; rotate_left; · (intro w hSw; (try dsimp only at hSw); go_simp; first | done | with_reducible rfl))
            (try simp only [Act.put]); (try simp only [List.getElem_toArray]); (try simp only [List.getElem_cons_succ]); (try simp only [List.getElem_cons_zero]); (try simp only [List.setIfInBounds_toArray]); (try simp only [List.set_cons_succ]); (try simp only [List.set_cons_zero])
            (refine wpAnyH_take (i := 4) (v := ?_) rfl (by kernel_rfl) (by kernel_rfl) (by kernel_rfl) (fun _ _ _ h => h) (Or.inl ⟨by kernel_rfl, ?_⟩) (by assumption) ?_; rotate_left; · (intro w hSw; (try dsimp only at hSw); go_simp; first | done | with_reducible rfl))
            (try simp only [Act.put]); (try simp only [List.getElem_toArray]); (try simp only [List.getElem_cons_succ]); (try simp only [List.getElem_cons_zero]); (try simp only [List.setIfInBounds_toArray]); (try simp only [List.set_cons_succ]); (try simp only [List.set_cons_zero])
            (refine wpAnyH_take (i := 5) (v := ?_) rfl (by kernel_rfl) (by kernel_rfl) (by kernel_rfl) (fun _ _ _ h => h) (Or.inl ⟨by kernel_rfl, ?_⟩) (by assumption) ?_; rotate_left; · (intro w hSw; (try dsimp only at hSw); go_simp; first | done | with_reducible rfl))
            (try simp only [Act.put]); (try simp only [List.getElem_toArray]); (try simp only [List.getElem_cons_succ]); (try simp only [List.getElem_cons_zero]); (try simp only [List.setIfInBounds_toArray]); (try simp only [List.set_cons_succ]); (try simp only [List.set_cons_zero])
            (refine wpAnyH_take (i := 6) (v := ?_) rfl (by kernel_rfl) (by kernel_rfl) (by kernel_rfl) (fun _ _ _ h => h) (Or.inl ⟨by kernel_rfl, ?_⟩) (by assumption) ?_; rotate_left; · (intro w hSw; (try dsimp only at hSw); go_simp; first | done | with_reducible rfl))
            (try simp only [Act.put]); (try simp only [List.getElem_toArray]); (try simp only [List.getElem_cons_succ]); (try simp only [List.getElem_cons_zero]); (try simp only [List.setIfInBounds_toArray]); (try simp only [List.set_cons_succ]); (try simp only [List.set_cons_zero])
            (refine wpAnyH_take (i := 7) (v := ?_) rfl (by kernel_rfl) (by kernel_rfl) (by kernel_rfl) (fun _ _ _ h => h) (Or.inl ⟨by kernel_rfl, ?_⟩) (by assumption) ?_; rotate_left; · (intro w hSw; (try dsimp only at hSw); go_simp; first | done | with_reducible rfl))
            (try simp only [Act.put]); (try simp only [List.getElem_toArray]); (try simp only [List.getElem_cons_succ]); (try simp only [List.getElem_cons_zero]); (try simp only [List.setIfInBounds_toArray]); (try simp only [List.set_cons_succ]); (try simp only [List.set_cons_zero])
            (refine wpAnyH_take (i := 8) (v := ?_) rfl (by kernel_rfl) (by kernel_rfl) (by kernel_rfl) (fun _ _ _ h => h) (Or.inl ⟨by kernel_rfl, ?_⟩) (by assumption) ?_; rotate_left; · (intro w hSw; (try dsimp only at hSw); go_simp; first | done | with_reducible rfl))
            (try simp only [Act.put]); (try simp only [List.getElem_toArray]); (try simp only [List.getElem_cons_succ]); (try simp only [List.getElem_cons_zero]); (try simp only [List.setIfInBounds_toArray]); (try simp only [List.set_cons_succ]); (try simp only [List.set_cons_zero])
            (refine wpAnyH_take (i := 9) (v := ?_) rfl (by kernel_rfl) (by kernel_rfl) (by kernel_rfl) (fun _ _ _ h => h) (Or.inl ⟨by kernel_rfl, ?_⟩) (by assumption) ?_; rotate_left; · (intro w hSw; (try dsimp only at hSw); go_simp; first | done | with_reducible rfl))
            (try simp only [Act.put]); (try simp only [List.getElem_toArray]); (try simp only [List.getElem_cons_succ]); (try simp only [List.getElem_cons_zero]); (try simp only [List.setIfInBounds_toArray]); (try simp only [List.set_cons_succ]); (try simp only [List.set_cons_zero])
            (refine wpAnyH_take (i := 10) (v := ?_) rfl (by kernel_rfl) (by kernel_rfl) (by kernel_rfl) (fun _ _ _ h => h) (Or.inl ⟨by kernel_rfl, ?_⟩) (by assumption) ?_; rotate_left; · (intro w hSw; (try dsimp only at hSw); go_simp; first | done | with_reducible rfl))
            (try simp only [Act.put]); (try simp only [List.getElem_toArray]); (try simp only [List.getElem_cons_succ]); (try simp only [List.getElem_cons_zero]); (try simp only [List.setIfInBounds_toArray]); (try simp only [List.set_cons_succ]); (try simp only [List.set_cons_zero])
            (refine wpAnyH_take (i := 11) (v := ?_) rfl (by kernel_rfl) (by kernel_rfl) (by kernel_rfl) (fun _ _ _ h => h) (Or.inl ⟨by kernel_rfl, ?_⟩) (by assumption) ?_; rotate_left; · (intro w hSw; (try dsimp only at hSw); go_simp; first | done | with_reducible rfl))
            (try simp only [Act.put]); (try simp only [List.getElem_toArray]); (try simp only [List.getElem_cons_succ]); (try simp only [List.getElem_cons_zero]); (try simp only [List.setIfInBounds_toArray]); (try simp only [List.set_cons_succ]); (try simp only [List.set_cons_zero])
            (refine wpAnyH_take (i := 12) (v := ?_) rfl (by kernel_rfl) (by kernel_rfl) (by kernel_rfl) (fun _ _ _ h => h) (Or.inl ⟨by kernel_rfl, ?_⟩) (by assumption) ?_; rotate_left; · (intro w hSw; (try dsimp only at hSw); go_simp; first | done | with_reducible rfl))
            (try simp only [Act.put]); (try simp only [List.getElem_toArray]); (try simp only [List.getElem_cons_succ]); (try simp only [List.getElem_cons_zero]); (try simp only [List.setIfInBounds_toArray]); (try simp only [List.set_cons_succ]); (try simp only [List.set_cons_zero])
            (refine wpAnyH_take (i := 13) (v := ?_) rfl (by kernel_rfl) (by kernel_rfl) (by kernel_rfl) (fun _ _ _ h => h) (Or.inl ⟨by kernel_rfl, ?_⟩) (by assumption) ?_; rotate_left; · (intro w hSw; (try dsimp only at hSw); go_simp; first | done | with_reducible rfl))
            (try simp only [Act.put]); (try simp only [List.getElem_toArray]); (try simp only [List.getElem_cons_succ]); (try simp only [List.getElem_cons_zero]); (try simp only [List.setIfInBounds_toArray]); (try simp only [List.set_cons_succ]); (try simp only [List.set_cons_zero])
            (refine wpAnyH_take (i := 14) (v := ?_) rfl (by kernel_rfl) (by kernel_rfl) (by kernel_rfl) (fun _ _ _ h => h) (Or.inl ⟨by kernel_rfl, ?_⟩) (by assumption) ?_; rotate_left; · (intro w hSw; (try dsimp only at hSw); go_simp; first | done | with_reducible rfl))
            (try simp only [Act.put]); (try simp only [List.getElem_toArray]); (try simp only [List.getElem_cons_succ]); (try simp only [List.getElem_cons_zero]); (try simp only [List.setIfInBounds_toArray]); (try simp only [List.set_cons_succ]); (try simp only [List.set_cons_zero])
            (refine wpAnyH_take (i := 15) (v := ?_) rfl (by kernel_rfl) (by kernel_rfl) (by kernel_rfl) (fun _ _ _ h => h) (Or.inl ⟨by kernel_rfl, ?_⟩) (by assumption) ?_; rotate_left; · (intro w hSw; (try dsimp only at hSw); go_simp; first | done | with_reducible rfl))
            (try simp only [Act.put]); (try simp only [List.getElem_toArray]); (try simp only [List.getElem_cons_succ]); (try simp only [List.getElem_cons_zero]); (try simp only [List.setIfInBounds_toArray]); (try simp only [List.set_cons_succ]); (try simp only [List.set_cons_zero])
            (refine wpAnyH_take (i := 16) (v := ?_) rfl (by kernel_rfl) (by kernel_rfl) (by kernel_rfl) (fun _ _ _ h => h) (Or.inl ⟨by kernel_rfl, ?_⟩) (by assumption) ?_; rotate_left; · (intro w hSw; (try dsimp only at hSw); go_simp; first | done | with_reducible rfl))
            (try simp only [Act.put]); (try simp only [List.getElem_toArray]); (try simp only [List.getElem_cons_succ]); (try simp only [List.getElem_cons_zero]); (try simp only [List.setIfInBounds_toArray]); (try simp only [List.set_cons_succ]); (try simp only [List.set_cons_zero])
            (refine wpAnyH_take (i := 17) (v := ?_) rfl (by kernel_rfl) (by kernel_rfl) (by kernel_rfl) (fun _ _ _ h => h) (Or.inl ⟨by kernel_rfl, ?_⟩) (by assumption) ?_; rotate_left; · (intro w hSw; (try dsimp only at hSw); go_simp; first | done | with_reducible rfl))
            (try simp only [Act.put]); (try simp only [List.getElem_toArray]); (try simp only [List.getElem_cons_succ]); (try simp only [List.getElem_cons_zero]); (try simp only [List.setIfInBounds_toArray]); (try simp only [List.set_cons_succ]); (try simp only [List.set_cons_zero])
            (refine wpAnyH_take (i := 18) (v := ?_) rfl (by kernel_rfl) (by kernel_rfl) (by kernel_rfl) (fun _ _ _ h => h) (Or.inl ⟨by kernel_rfl, ?_⟩) (by assumption) ?_; rotate_left; · (intro w hSw; (try dsimp only at hSw); go_simp; first | done | with_reducible rfl))
            (try simp only [Act.put]); (try simp only [List.getElem_toArray]); (try simp only [List.getElem_cons_succ]); (try simp only [List.getElem_cons_zero]); (try simp only [List.setIfInBounds_toArray]); (try simp only [List.set_cons_succ]); (try simp only [List.set_cons_zero])
            (refine wpAnyH_take (i := 19) (v := ?_) rfl (by kernel_rfl) (by kernel_rfl) (by kernel_rfl) (fun _ _ _ h => h) (Or.inl ⟨by kernel_rfl, ?_⟩) (by assumption) ?_; rotate_left; · (intro w hSw; (try dsimp only at hSw); go_simp; first | done | with_reducible rfl))
            (try simp only [Act.put]); (try simp only [List.getElem_toArray]); (try simp only [List.getElem_cons_succ]); (try simp only [List.getElem_cons_zero]); (try simp only [List.setIfInBounds_toArray]); (try simp only [List.set_cons_succ]); (try simp only [List.set_cons_zero])
            (refine wpAnyH_ready (rs := [20]) (by kernel_rfl) (by simp) (AllReadyH.cons rfl (fun K hK => ?_) AllReadyH.nil); go_simp; (go_at_call 47; refine (HOr.out _).mono ?_; rintro e w5 ⟨rfl, hb5⟩); refine hK.out _ _ ?_ (fun hHeld => ?_))
            · exact rs4_call (by assumption) hb5
            clear hK K
            (try simp only [Act.put]); (try simp only [List.getElem_toArray]); (try simp only [List.getElem_cons_succ]); (try simp only [List.getElem_cons_zero]); (try simp only [List.setIfInBounds_toArray]); (try simp only [List.set_cons_succ]); (try simp only [List.set_cons_zero])
            (refine wpAnyH_take (i := 21) (v := ?_) rfl (by kernel_rfl) (by kernel_rfl) (by kernel_rfl) (fun _ _ _ h => h) (Or.inl ⟨by kernel_rfl, ?_⟩) (by assumption) ?_; rotate_left; · (intro w hSw; (try dsimp only at hSw); go_simp; first | done | with_reducible rfl))
            (try simp only [Act.put]); (try simp only [List.getElem_toArray]); (try simp only [List.getElem_cons_succ]); (try simp only [List.getElem_cons_zero]); (try simp only [List.setIfInBounds_toArray]); (try simp only [List.set_cons_succ]); (try simp only [List.set_cons_zero])
            (refine wpAnyH_take (i := 22) (v := ?_) rfl (by kernel_rfl) (by kernel_rfl) (by kernel_rfl) (fun _ _ _ h => h) (Or.inl ⟨by kernel_rfl, ?_⟩) (by assumption) ?_; rotate_left; · (intro w hSw; (try dsimp only at hSw); go_simp; first | done | with_reducible rfl))
            (try simp only [Act.put]); (try simp only [List.getElem_toArray]); (try simp only [List.getElem_cons_succ]); (try simp only [List.getElem_cons_zero]); (try simp only [List.setIfInBounds_toArray]); (try simp only [List.set_cons_succ]); (try simp only [List.set_cons_zero])
            refine wpAnyH_done (by kernel_rfl) ?_ _
            have HI5 := hid (And.intro (HI.out.1.below hHeld.1.out.1) HI.out.2)
            have HS5 : Hid (RsS rb g i n c0 (.slice (some ⟨bu, ou, none⟩) m cu) w5) := ⟨hHeld.2.1, hHeld.2.2.1, (World.frozen?_of_block (a := ⟨g, i, none⟩) (hHeld.1.out.1.block g hHeld.1.out.2.2.1)).trans HFr.out⟩
            have HEl5 : Hid (El w5 B C (.slice (some ⟨bu, ou, none⟩) m cu) (h :: t)) := HEl.out.keep fun k _ hk => hHeld.1.out.1.block k hk
            clear hHeld HT HFr
            clear x0 x1 x2 x3 x4 x5 x6 x7 z0 z1 z2 z3 z4 z5 z6 z7 m0 m1
            by_cases hon : o < 0
            · have HDr : Hid (drL c t = drL c l) := by
                have := HI5.out.2
                rw [← this]
                show _ = List.dropWhile _ (h :: t)
                rw [List.dropWhile_cons, if_pos (by rw [HO.out]; exact decide_eq_true hon)]
                rfl
              by_cases hc1 : cu = 1
              · subst hc1
                have hm1 : m = 1 := by omega
                subst hm1
                have HEt : Hid (El w5 B C (.slice (some ⟨bu, ou, none⟩) 0 0) t) := el_tail HEl5.out _ (.inr ⟨List.eq_nil_of_length_eq_zero (by have := HMt.out; omega), rfl⟩)
                go_upto_region 5 with (fail)
                refine wp_region_till 14 (RsS rb g i n c0 (.slice (some ⟨bu, ou, none⟩) 1 1)) (by kernel_rfl) (rss_below HS5.out (Below.refl _ _).drew) (fun hHeld => ?_)
                (refine wpAnyT_take (i := 0) (v := ?_) rfl (by kernel_rfl) (fun _ _ _ h => h) (Or.inl ⟨by kernel_rfl, ?_⟩) (by assumption) ?_; rotate_left; · (intro w hSw; (try dsimp only at hSw); go_split_ands; go_simp; first | done | with_reducible rfl))
                (try simp only [Act.put]); (try simp only [List.getElem_toArray]); (try simp only [List.getElem_cons_succ]); (try simp only [List.getElem_cons_zero]); (try simp only [List.setIfInBounds_toArray]); (try simp only [List.set_cons_succ]); (try simp only [List.set_cons_zero])
                (refine wpAnyT_take (i := 1) (v := ?_) rfl (by kernel_rfl) (fun _ _ _ h => h) (Or.inl ⟨by kernel_rfl, ?_⟩) (by assumption) ?_; rotate_left; · (intro w hSw; (try dsimp only at hSw); go_split_ands; go_simp; first | done | with_reducible rfl))
                (try simp only [Act.put]); (try simp only [List.getElem_toArray]); (try simp only [List.getElem_cons_succ]); (try simp only [List.getElem_cons_zero]); (try simp only [List.setIfInBounds_toArray]); (try simp only [List.set_cons_succ]); (try simp only [List.set_cons_zero])
                (refine wpAnyT_take (i := 2) (v := ?_) rfl (by kernel_rfl) (fun _ _ _ h => h) (Or.inl ⟨by kernel_rfl, ?_⟩) (by assumption) ?_; rotate_left; · (intro w hSw; (try dsimp only at hSw); go_split_ands; go_simp; first | done | with_reducible rfl))
                (try simp only [Act.put]); (try simp only [List.getElem_toArray]); (try simp only [List.getElem_cons_succ]); (try simp only [List.getElem_cons_zero]); (try simp only [List.setIfInBounds_toArray]); (try simp only [List.set_cons_succ]); (try simp only [List.set_cons_zero])
                (refine wpAnyT_take (i := 3) (v := ?_) rfl (by kernel_rfl) (fun _ _ _ h => h) (Or.inl ⟨by kernel_rfl, ?_⟩) (by assumption) ?_; rotate_left; · (intro w hSw; (try dsimp only at hSw); go_split_ands; go_simp; first | done | with_reducible rfl))
                (try simp only [Act.put]); (try simp only [List.getElem_toArray]); (try simp only [List.getElem_cons_succ]); (try simp only [List.getElem_cons_zero]); (try simp only [List.setIfInBounds_toArray]); (try simp only [List.set_cons_succ]); (try simp only [List.set_cons_zero])
                (refine wpAnyT_take (i := 4) (v := ?_) rfl (by kernel_rfl) (fun _ _ _ h => h) (Or.inl ⟨by kernel_rfl, ?_⟩) (by assumption) ?_; rotate_left; · (intro w hSw; (try dsimp only at hSw); go_split_ands; go_simp; first | done | with_reducible rfl))
                (try simp only [Act.put]); (try simp only [List.getElem_toArray]); (try simp only [List.getElem_cons_succ]); (try simp only [List.getElem_cons_zero]); (try simp only [List.setIfInBounds_toArray]); (try simp only [List.set_cons_succ]); (try simp only [List.set_cons_zero])
                (refine wpAnyT_take (i := 5) (v := ?_) rfl (by kernel_rfl) (fun _ _ _ h => h) (Or.inl ⟨by kernel_rfl, ?_⟩) (by assumption) ?_; rotate_left; · (intro w hSw; (try dsimp only at hSw); go_split_ands; go_simp; first | done | with_reducible rfl))
                (try simp only [Act.put]); (try simp only [List.getElem_toArray]); (try simp only [List.getElem_cons_succ]); (try simp only [List.getElem_cons_zero]); (try simp only [List.setIfInBounds_toArray]); (try simp only [List.set_cons_succ]); (try simp only [List.set_cons_zero])
                (refine wpAnyT_take (i := 6) (v := ?_) rfl (by kernel_rfl) (fun _ _ _ h => h) (Or.inl ⟨by kernel_rfl, ?_⟩) (by assumption) ?_; rotate_left; · (intro w hSw; (try dsimp only at hSw); go_split_ands; go_simp; first | done | with_reducible rfl))
                (try simp only [Act.put]); (try simp only [List.getElem_toArray]); (try simp only [List.getElem_cons_succ]); (try simp only [List.getElem_cons_zero]); (try simp only [List.setIfInBounds_toArray]); (try simp only [List.set_cons_succ]); (try simp only [List.set_cons_zero])
                (refine wpAnyT_take (i := 7) (v := ?_) rfl (by kernel_rfl) (fun _ _ _ h => h) (Or.inl ⟨by kernel_rfl, ?_⟩) (by assumption) ?_; rotate_left; · (intro w hSw; (try dsimp only at hSw); go_split_ands; go_simp; first | done | with_reducible rfl))
                (try simp only [Act.put]); (try simp only [List.getElem_toArray]); (try simp only [List.getElem_cons_succ]); (try simp only [List.getElem_cons_zero]); (try simp only [List.setIfInBounds_toArray]); (try simp only [List.set_cons_succ]); (try simp only [List.set_cons_zero])
                (refine wpAnyT_take (i := 8) (v := ?_) rfl (by kernel_rfl) (fun _ _ _ h => h) (Or.inl ⟨by kernel_rfl, ?_⟩) (by assumption) ?_; rotate_left; · (intro w hSw; (try dsimp only at hSw); go_split_ands; go_simp; first | done | with_reducible rfl))
                (try simp only [Act.put]); (try simp only [List.getElem_toArray]); (try simp only [List.getElem_cons_succ]); (try simp only [List.getElem_cons_zero]); (try simp only [List.setIfInBounds_toArray]); (try simp only [List.set_cons_succ]); (try simp only [List.set_cons_zero])
                (refine wpAnyT_take (i := 9) (v := ?_) rfl (by kernel_rfl) (fun _ _ _ h => h) (Or.inl ⟨by kernel_rfl, ?_⟩) (by assumption) ?_; rotate_left; · (intro w hSw; (try dsimp only at hSw); go_split_ands; go_simp; first | done | with_reducible rfl))
                (try simp only [Act.put]); (try simp only [List.getElem_toArray]); (try simp only [List.getElem_cons_succ]); (try simp only [List.getElem_cons_zero]); (try simp only [List.setIfInBounds_toArray]); (try simp only [List.set_cons_succ]); (try simp only [List.set_cons_zero])
                (refine wpAnyT_take (i := 10) (v := ?_) rfl (by kernel_rfl) (fun _ _ _ h => h) (Or.inl ⟨by kernel_rfl, ?_⟩) (by assumption) ?_; rotate_left; · (intro w hSw; (try dsimp only at hSw); go_split_ands; go_simp; first | done | with_reducible rfl))
                (try simp only [Act.put]); (try simp only [List.getElem_toArray]); (try simp only [List.getElem_cons_succ]); (try simp only [List.getElem_cons_zero]); (try simp only [List.setIfInBounds_toArray]); (try simp only [List.set_cons_succ]); (try simp only [List.set_cons_zero])
                (refine wpAnyT_take (i := 11) (v := ?_) rfl (by kernel_rfl) (fun _ _ _ h => h) (Or.inl ⟨by kernel_rfl, ?_⟩) (by assumption) ?_; rotate_left; · (intro w hSw; (try dsimp only at hSw); go_split_ands; go_simp; first | done | with_reducible rfl))
                (try simp only [Act.put]); (try simp only [List.getElem_toArray]); (try simp only [List.getElem_cons_succ]); (try simp only [List.getElem_cons_zero]); (try simp only [List.setIfInBounds_toArray]); (try simp only [List.set_cons_succ]); (try simp only [List.set_cons_zero])
                (refine wpAnyT_take (i := 12) (v := ?_) rfl (by kernel_rfl) (fun _ _ _ h => h) (Or.inl ⟨by kernel_rfl, ?_⟩) (by assumption) ?_; rotate_left; · (intro w hSw; (try dsimp only at hSw); go_split_ands; go_simp; first | done | with_reducible rfl))
                (try simp only [Act.put]); (try simp only [List.getElem_toArray]); (try simp only [List.getElem_cons_succ]); (try simp only [List.getElem_cons_zero]); (try simp only [List.setIfInBounds_toArray]); (try simp only [List.set_cons_succ]); (try simp only [List.set_cons_zero])
                (refine wpAnyT_take (i := 13) (v := ?_) rfl (by kernel_rfl) (fun _ _ _ h => h) (Or.inl ⟨by kernel_rfl, ?_⟩) (by assumption) ?_; rotate_left; · (intro w hSw; (try dsimp only at hSw); go_split_ands; go_simp; first | done | with_reducible rfl))
                (try simp only [Act.put]); (try simp only [List.getElem_toArray]); (try simp only [List.getElem_cons_succ]); (try simp only [List.getElem_cons_zero]); (try simp only [List.setIfInBounds_toArray]); (try simp only [List.set_cons_succ]); (try simp only [List.set_cons_zero])
                (refine wpAnyT_one (i := 14) (by kernel_rfl) rfl (fun K hK => ?_); obtain ⟨q0, q1, q2⟩ := hHeld; go_simp; refine hK.out _ _ (.inl rfl) (fun _ => ?_))
                clear hK K
                (try simp only [Act.put]); (try simp only [List.getElem_toArray]); (try simp only [List.getElem_cons_succ]); (try simp only [List.getElem_cons_zero]); (try simp only [List.setIfInBounds_toArray]); (try simp only [List.set_cons_succ]); (try simp only [List.set_cons_zero])
                refine wpAnyT_done (by kernel_rfl) ?_ _
                have HN := hid ((HI5.out.1.set HAt.out HEt.out).below (Below.refl _ _).drew)
                clear q0 q1 q2
                go_wp2
                go_roundw
                case rel => exact ⟨k + 1, HDk.out.2, by rw [HDk.out.1, ← List.set_set (h :: t)]; exact HN.out, by rw [HDk.out.1]; exact HDr.out⟩
                case measure => rw [HLe.out, HN.out.lenC (l := t) (by rw [List.getElem?_set, if_pos rfl, if_pos (List.getElem?_eq_some_iff.1 HAt.out).1])]; have := HMt.out; omega
              · have HEt : Hid (El w5 B C (.slice (some ⟨bu, ou + 8, none⟩) (m - 1) (cu - 1)) t) := el_tail HEl5.out _ (.inl rfl)
                have hcu1 : 1 ≤ cu := by omega
                have hm1z : (1 : Int) ≤ (m : Int) := by omega
                go_upto_region 5 with (fail)
                refine wp_region_till 14 (RsS rb g i n c0 (.slice (some ⟨bu, ou, none⟩) m cu)) (by kernel_rfl) (rss_below HS5.out (Below.refl _ _).drew) (fun hHeld => ?_)
                (refine wpAnyT_take (i := 0) (v := ?_) rfl (by kernel_rfl) (fun _ _ _ h => h) (Or.inl ⟨by kernel_rfl, ?_⟩) (by assumption) ?_; rotate_left; · (intro w hSw; (try dsimp only at hSw); go_split_ands; go_simp; first | done | with_reducible rfl))
                (try simp only [Act.put]); (try simp only [List.getElem_toArray]); (try simp only [List.getElem_cons_succ]); (try simp only [List.getElem_cons_zero]); (try simp only [List.setIfInBounds_toArray]); (try simp only [List.set_cons_succ]); (try simp only [List.set_cons_zero])
                (refine wpAnyT_take (i := 1) (v := ?_) rfl (by kernel_rfl) (fun _ _ _ h => h) (Or.inl ⟨by kernel_rfl, ?_⟩) (by assumption) ?_; rotate_left; · (intro w hSw; (try dsimp only at hSw); go_split_ands; go_simp; first | done | with_reducible rfl))
                (try simp only [Act.put]); (try simp only [List.getElem_toArray]); (try simp only [List.getElem_cons_succ]); (try simp only [List.getElem_cons_zero]); (try simp only [List.setIfInBounds_toArray]); (try simp only [List.set_cons_succ]); (try simp only [List.set_cons_zero])
                (refine wpAnyT_take (i := 2) (v := ?_) rfl (by kernel_rfl) (fun _ _ _ h => h) (Or.inl ⟨by kernel_rfl, ?_⟩) (by assumption) ?_; rotate_left; · (intro w hSw; (try dsimp only at hSw); go_split_ands; go_simp; first | done | with_reducible rfl))
                (try simp only [Act.put]); (try simp only [List.getElem_toArray]); (try simp only [List.getElem_cons_succ]); (try simp only [List.getElem_cons_zero]); (try simp only [List.setIfInBounds_toArray]); (try simp only [List.set_cons_succ]); (try simp only [List.set_cons_zero])
                (refine wpAnyT_take (i := 3) (v := ?_) rfl (by kernel_rfl) (fun _ _ _ h => h) (Or.inl ⟨by kernel_rfl, ?_⟩) (by assumption) ?_; rotate_left; · (intro w hSw; (try dsimp only at hSw); go_split_ands; go_simp; first | done | with_reducible rfl))
                (try simp only [Act.put]); (try simp only [List.getElem_toArray]); (try simp only [List.getElem_cons_succ]); (try simp only [List.getElem_cons_zero]); (try simp only [List.setIfInBounds_toArray]); (try simp only [List.set_cons_succ]); (try simp only [List.set_cons_zero])
                (refine wpAnyT_take (i := 4) (v := ?_) rfl (by kernel_rfl) (fun _ _ _ h => h) (Or.inl ⟨by kernel_rfl, ?_⟩) (by assumption) ?_; rotate_left; · (intro w hSw; (try dsimp only at hSw); go_split_ands; go_simp; first | done | with_reducible rfl))
                (try simp only [Act.put]); (try simp only [List.getElem_toArray]); (try simp only [List.getElem_cons_succ]); (try simp only [List.getElem_cons_zero]); (try simp only [List.setIfInBounds_toArray]); (try simp only [List.set_cons_succ]); (try simp only [List.set_cons_zero])
                (refine wpAnyT_take (i := 5) (v := ?_) rfl (by kernel_rfl) (fun _ _ _ h => h) (Or.inl ⟨by kernel_rfl, ?_⟩) (by assumption) ?_; rotate_left; · (intro w hSw; (try dsimp only at hSw); go_split_ands; go_simp; first | done | with_reducible rfl))
                (try simp only [Act.put]); (try simp only [List.getElem_toArray]); (try simp only [List.getElem_cons_succ]); (try simp only [List.getElem_cons_zero]); (try simp only [List.setIfInBounds_toArray]); (try simp only [List.set_cons_succ]); (try simp only [List.set_cons_zero])
                (refine wpAnyT_take (i := 6) (v := ?_) rfl (by kernel_rfl) (fun _ _ _ h => h) (Or.inl ⟨by kernel_rfl, ?_⟩) (by assumption) ?_; rotate_left; · (intro w hSw; (try dsimp only at hSw); go_split_ands; go_simp; first | done | with_reducible rfl))
                (try simp only [Act.put]); (try simp only [List.getElem_toArray]); (try simp only [List.getElem_cons_succ]); (try simp only [List.getElem_cons_zero]); (try simp only [List.setIfInBounds_toArray]); (try simp only [List.set_cons_succ]); (try simp only [List.set_cons_zero])
                (refine wpAnyT_take (i := 7) (v := ?_) rfl (by kernel_rfl) (fun _ _ _ h => h) (Or.inl ⟨by kernel_rfl, ?_⟩) (by assumption) ?_; rotate_left; · (intro w hSw; (try dsimp only at hSw); go_split_ands; go_simp; first | done | with_reducible rfl))
                (try simp only [Act.put]); (try simp only [List.getElem_toArray]); (try simp only [List.getElem_cons_succ]); (try simp only [List.getElem_cons_zero]); (try simp only [List.setIfInBounds_toArray]); (try simp only [List.set_cons_succ]); (try simp only [List.set_cons_zero])
                (refine wpAnyT_take (i := 8) (v := ?_) rfl (by kernel_rfl) (fun _ _ _ h => h) (Or.inl ⟨by kernel_rfl, ?_⟩) (by assumption) ?_; rotate_left; · (intro w hSw; (try dsimp only at hSw); go_split_ands; go_simp; first | done | with_reducible rfl))
                (try simp only [Act.put]); (try simp only [List.getElem_toArray]); (try simp only [List.getElem_cons_succ]); (try simp only [List.getElem_cons_zero]); (try simp only [List.setIfInBounds_toArray]); (try simp only [List.set_cons_succ]); (try simp only [List.set_cons_zero])
                (refine wpAnyT_take (i := 9) (v := ?_) rfl (by kernel_rfl) (fun _ _ _ h => h) (Or.inl ⟨by kernel_rfl, ?_⟩) (by assumption) ?_; rotate_left; · (intro w hSw; (try dsimp only at hSw); go_split_ands; go_simp; first | done | with_reducible rfl))
                (try simp only [Act.put]); (try simp only [List.getElem_toArray]); (try simp only [List.getElem_cons_succ]); (try simp only [List.getElem_cons_zero]); (try simp only [List.setIfInBounds_toArray]); (try simp only [List.set_cons_succ]); (try simp only [List.set_cons_zero])
                (refine wpAnyT_take (i := 10) (v := ?_) rfl (by kernel_rfl) (fun _ _ _ h => h) (Or.inl ⟨by kernel_rfl, ?_⟩) (by assumption) ?_; rotate_left; · (intro w hSw; (try dsimp only at hSw); go_split_ands; go_simp; first | done | with_reducible rfl))
                (try simp only [Act.put]); (try simp only [List.getElem_toArray]); (try simp only [List.getElem_cons_succ]); (try simp only [List.getElem_cons_zero]); (try simp only [List.setIfInBounds_toArray]); (try simp only [List.set_cons_succ]); (try simp only [List.set_cons_zero])
                (refine wpAnyT_take (i := 11) (v := ?_) rfl (by kernel_rfl) (fun _ _ _ h => h) (Or.inl ⟨by kernel_rfl, ?_⟩) (by assumption) ?_; rotate_left; · (intro w hSw; (try dsimp only at hSw); go_split_ands; go_simp; first | done | with_reducible rfl))
                (try simp only [Act.put]); (try simp only [List.getElem_toArray]); (try simp only [List.getElem_cons_succ]); (try simp only [List.getElem_cons_zero]); (try simp only [List.setIfInBounds_toArray]); (try simp only [List.set_cons_succ]); (try simp only [List.set_cons_zero])
                (refine wpAnyT_take (i := 12) (v := ?_) rfl (by kernel_rfl) (fun _ _ _ h => h) (Or.inl ⟨by kernel_rfl, ?_⟩) (by assumption) ?_; rotate_left; · (intro w hSw; (try dsimp only at hSw); go_split_ands; go_simp; first | done | with_reducible rfl))
                (try simp only [Act.put]); (try simp only [List.getElem_toArray]); (try simp only [List.getElem_cons_succ]); (try simp only [List.getElem_cons_zero]); (try simp only [List.setIfInBounds_toArray]); (try simp only [List.set_cons_succ]); (try simp only [List.set_cons_zero])
                (refine wpAnyT_take (i := 13) (v := ?_) rfl (by kernel_rfl) (fun _ _ _ h => h) (Or.inl ⟨by kernel_rfl, ?_⟩) (by assumption) ?_; rotate_left; · (intro w hSw; (try dsimp only at hSw); go_split_ands; go_simp; first | done | with_reducible rfl))
                (try simp only [Act.put]); (try simp only [List.getElem_toArray]); (try simp only [List.getElem_cons_succ]); (try simp only [List.getElem_cons_zero]); (try simp only [List.setIfInBounds_toArray]); (try simp only [List.set_cons_succ]); (try simp only [List.set_cons_zero])
                (refine wpAnyT_one (i := 14) (by kernel_rfl) rfl (fun K hK => ?_); obtain ⟨q0, q1, q2⟩ := hHeld; go_simp; refine hK.out _ _ (.inl rfl) (fun _ => ?_))
                clear hK K
                (try simp only [Act.put]); (try simp only [List.getElem_toArray]); (try simp only [List.getElem_cons_succ]); (try simp only [List.getElem_cons_zero]); (try simp only [List.setIfInBounds_toArray]); (try simp only [List.set_cons_succ]); (try simp only [List.set_cons_zero])
                refine wpAnyT_done (by kernel_rfl) ?_ _
                have HN := hid ((HI5.out.1.set HAt.out HEt.out).below (Below.refl _ _).drew)
                clear q0 q1 q2
                go_wp2
                go_roundw
                case rel => exact ⟨k + 1, HDk.out.2, by rw [HDk.out.1, ← List.set_set (h :: t)]; exact HN.out, by rw [HDk.out.1]; exact HDr.out⟩
                case measure => rw [HLe.out, HN.out.lenC (l := t) (by rw [List.getElem?_set, if_pos rfl, if_pos (List.getElem?_eq_some_iff.1 HAt.out).1])]; have := HMt.out; omega
            · have HE : Hid (RI w w5 B C rb g n c0 cb c (skL c ls (i + 1))) := by
                have h1 := HI5.out.1
                have h2 := HI5.out.2
                have h3 : drL c (h :: t) = h :: t := by
                  show List.dropWhile _ (h :: t) = _
                  rw [List.dropWhile_cons, if_neg (by rw [HO.out, decide_eq_true_iff]; exact hon)]
                rw [← skL_next HL.out, ← h2, h3]
                exact h1
              go_wp2
              go_roundw
              case rel => exact ⟨i + 1, by omega, by go_num, HE.out⟩
              case measure => simp [intOf]; omega
      · obtain rfl : i = n := by omega
        have HZ : Hid (RM wr B C rb (some ⟨g, 0, none⟩) i c0 (ls.map (drL c)) ∧ Mdl B C w wr) := by
          have h1 := HI.out.rm
          rw [skL_all c ls HLn.out.symm] at h1
          exact ⟨h1, HI.out.be⟩
        go_wp2
        refine bodyPost_end (results_none rfl _ _ _) rfl ?_
        exact ⟨rfl, HZ.out⟩
end Go.Proofs.YtgfkobfkncpmoaaDoor
