/- The document's put and cut. Conditions: the disk stands. -/
import Derived.Test.YtofkfafdodhmdaaSuH
namespace Go.Proofs.Ytofkfafdodhmdaa
open Go.RowKit

/-- Nothing is appended to a row of files. -/
theorem run_append_nofile (w : World) (B : Nat) (v : Value) (l : List Rm) (h : MRow w B v l) (c : Nat) : (Builtin.append_ #[46, 46] 46 #[v, .slice none 0 c]).run Try.prog w = .ok v w := by
  obtain ⟨i0, hi, hz0, hz1, hz2⟩ := info_parts info_file
  obtain ⟨h1, h2⟩ := h
  rcases h2 with ⟨rfl, h0⟩ | ⟨g, cap, cur, rfl, hB, hh, hn, hm, hs, ht⟩
  · have h1 := run_underlying (P := Try.prog) Try.underlying46
    have hlen : (Builtin.lenOf (.slice none 0 c)).run Try.prog w = .ok 0 w := rfl
    simp [Builtin.append_, h1, sizeOf, typeInfo, hi, Builtin.firstCells, hlen]
  · have := run_append_room_src (P := Try.prog) (w := w) 46 46 46 64 i0 Try.underlying46 hi g 0 l.length cap (.slice none 0 c) 0 [] (Src.ofNil w Try.underlying46 c) (by omega) (fun j hj => absurd hj (by simp)) (fun j hj => absurd hj (by simp))
    rw [this]
    rfl
/-- A slice holds files. -/
def HoldM (w : World) (A : Option Addr) (l : List Rm) : Prop := l ≠ [] → ∃ b o, A = some ⟨b, o, none⟩ ∧ ∀ j u, (flatM l)[j]? = some u → w.cell? ⟨b, o + j, none⟩ = some u
theorem HoldM.below {w w' : World} {A : Option Addr} {l : List Rm} (h : HoldM w A l) (hb : Below w.heap.size w w') : HoldM w' A l := fun h0 => by
  obtain ⟨b, o, e, hh⟩ := h h0
  exact ⟨b, o, e, fun j u hu => (hb.cell (p := ⟨b, o + j, none⟩) (cell_lt (hh j u hu))).trans (hh j u hu)⟩
theorem add_off (b o j : Nat) : (⟨b, o, none⟩ : Addr).add j = ⟨b, o + j, none⟩ := by
  by_cases h : j = 0
  · subst h; rfl
  · simp [Addr.add, h]
theorem encM_one {m : Rm} (hv : m.sv.oneCell' = true) : ∀ u ∈ encM m, u.oneCell' = true := fun u hu => by
  simp [encM] at hu
  rcases hu with rfl | rfl | rfl | rfl
  · rfl
  · rfl
  · exact hv
  · rfl
theorem row_one {w : World} {B : Nat} {v : Value} {l : List UInt8} (h : Row w B v l) : v.oneCell' = true := by
  obtain ⟨A, c, e⟩ := row_form h rfl
  rw [e]
  rfl
section
variable {ops : Array Oper} {rest : List Oper} {o : Oper} {a : Act} {Q : Exit → Act → World → Prop}
/-- append of files. -/
theorem wpList_append_fs (hgd : o.guard = Option.none) (s x : Operand)
    (ho : o.op = .call { callee := .builtin .append, args := #[s, x], argTypes := #[46, 46] }) (hty : o.type = 46)
    (w : World) (base : Nat) (v : Value) (l : List Rm) (hs : a.eval s = v) (hown : MRow w base v l)
    (A : Option Addr) (m c : Nat) (news : List Rm) (hm : news.length = m) (hx : a.eval x = .slice A m c) (hnews : HoldM w A news) (h1 : ∀ f ∈ news, f.sv.oneCell' = true)
    (hlen : l.length + m ≤ 1000000) (hbase : base ≤ w.heap.size)
    (h : ∀ v' w', MRow w' base v' (l ++ news) → w.grownBy w' v.ownBlock → wpList Try.prog ops Q rest (a.put o.dst v') w') : wpList Try.prog ops Q (o :: rest) a w := by
  obtain ⟨i0, hi, hz0, hz1, hz2⟩ := info_parts info_file
  have hone : ∀ u ∈ flatM news, u.oneCell' = true := fun u hu => by
    obtain ⟨f, hf, hu⟩ := List.mem_flatMap.1 hu
    exact encM_one (h1 f hf) u hu
  have fin : ∀ v' w', w'.ownsRow base 64 4 v' (l.length + m) (flatM l ++ flatM news) → w.grownBy w' v.ownBlock → wpList Try.prog ops Q rest (a.put o.dst v') w' := fun v' w' g1 g2 => by
    refine h v' w' ?_ g2
    unfold MRow
    rw [flatM_app, List.length_append, hm]
    exact g1
  match A, hx, hnews with
  | none, hx, hnews =>
    have h0 : news = [] := by
      cases news with
      | nil => rfl
      | cons y t => obtain ⟨b, o, e, _⟩ := hnews (by simp); cases e
    subst h0
    obtain rfl : m = 0 := hm.symm
    refine Lib.wpList_append_run w hgd s x 46 46 ho v _ hs hx v w ?_ (h v w (by rw [List.append_nil]; exact hown) (World.grownBy.refl _ _))
    rw [hty]
    exact run_append_nofile w base v l hown c
  | some ad, hx, hnews =>
    refine wpList_append_own_at w hgd s x 46 ho base 64 i0 _ 4 56 Try.underlying46 hi hz0 hz1 hz2 rfl (by decide) v l.length (flatM l) hs hown ad m c (flatM news) hx (by rw [flatM_len, hm]) (fun j u hu => ?_) hone (by unfold maxLen; omega) (by omega) hbase fun v' w' g1 g2 _ _ => fin v' w' g1 g2
    cases news with
    | nil => cases hu
    | cons y t =>
      obtain ⟨b', o', e, hh⟩ := hnews (by simp)
      cases e
      rw [add_off]
      exact hh j u hu
end
/-- The first files of a row. -/
theorem hold_left {w : World} {B n c : Nat} {A : Option Addr} {P Q : List Rm} (h : MRow w B (.slice A n c) (P ++ Q)) : HoldM w A P := fun h0 => by
  rcases h.2 with ⟨e, e2⟩ | ⟨g, cap, cur, e, _⟩
  · cases P with
    | nil => exact absurd rfl h0
    | cons y t => simp at e2
  · injection e with e1 e2 e3
    subst e1 e2 e3
    refine ⟨g, 0, rfl, fun j u hu => ?_⟩
    refine (own_cells h ?_).1
    rw [Nat.zero_add, flatM_app, List.getElem?_append_left]
    · exact hu
    · exact (List.getElem?_eq_some_iff.1 hu).1
/-- The last files of a row. -/
theorem hold_right {w : World} {B n c k : Nat} {g : Nat} {P Q : List Rm} (h : MRow w B (.slice (some ⟨g, 0, none⟩) n c) (P ++ Q)) (hk : k = P.length * 4) : HoldM w (some ⟨g, k, none⟩) Q := fun _ => by
  rcases h.2 with ⟨e, _⟩ | ⟨g', cap, cur, e, _⟩
  · cases e
  · injection e with e1 e2 e3
    subst e2 e3
    refine ⟨g, k, rfl, fun j u hu => ?_⟩
    refine (own_cells h ?_).1
    rw [flatM_app, List.getElem?_append_right (by rw [flatM_len]; omega), flatM_len, hk]
    rw [show P.length * 4 + j - P.length * 4 = j by omega]
    exact hu
theorem mrow_cap {w : World} {B n c : Nat} {A : Option Addr} {l : List Rm} (h : MRow w B (.slice A n c) l) (hn : l.length = n) : n ≤ c ∧ c ≤ 9223372036854775807 := by
  rcases h.2 with ⟨e, e2⟩ | ⟨g, cap, cur, e, _, _, h1, h2, _⟩
  · injection e with _ _ e3
    omega
  · injection e with _ _ e3
    unfold maxLen at h2
    omega
theorem mrow_some {w : World} {B n c : Nat} {A : Option Addr} {l : List Rm} (h : MRow w B (.slice A n c) l) : (A = none ∧ l = [] ∧ c = 0) ∨ ∃ g, A = some ⟨g, 0, none⟩ := by
  rcases h.2 with ⟨e, e2⟩ | ⟨g, cap, cur, e, _⟩
  · injection e with e1 _ e3
    exact .inl ⟨e1, List.eq_nil_of_length_eq_zero e2, e3⟩
  · injection e with e1
    exact .inr ⟨g, e1⟩
theorem hold_new (w : World) (m : Rm) (t : TypeId) : HoldM (w.alloc (.cells #[.string m.n, .int .i64 (m.no : Int), m.sv, .bool m.h] t)) (some ⟨w.heap.size, 0, none⟩) [m] := fun _ => ⟨w.heap.size, 0, rfl, fun j u hu => by
  have e : flatM [m] = [.string m.n, .int .i64 (m.no : Int), m.sv, .bool m.h] := by unfold flatM; simp [encM]
  rw [e] at hu
  rw [World.cell?_alloc_at _ _ _ _ rfl, Nat.zero_add]
  simpa using hu⟩
/-- Other files. -/
theorem Rk.files {w w1 : World} {B rb nx : Nat} {fv lv v : Value} {ms ms' : List Rm} {ls : List Lm} {z : Int} (h : Rk w B rb fv lv ms ls z nx) (hb : Below w.heap.size w w1) (hr : MRow w1 B v ms') (hs : ∀ m ∈ ms', Row w B m.sv m.s) (ha : ms'.Pairwise Rm.apart) :
    Rk (w1.setCell ⟨rb, 0, none⟩ v) B rb v lv ms' ls z nx := by
  have b1 : Blk w1 rb 49 #[fv, lv, .int .i64 z, .int .i64 (nx : Int)] := (hb.block rb h.blk.lt).trans h.blk
  have ks : ∀ k, k ≠ rb → (w1.setCell ⟨rb, 0, none⟩ v).heap[k]? = w1.heap[k]? := fun k q => Below.heap_setCell _ _ _ _ q
  refine ⟨h.lo, b1.set 0 v, own_block0 hr fun g q => ?_, own_block0 h.lr fun g q => ?_, fun m hm => own_block0 (hs m hm) fun g q => ?_, ha⟩
  · obtain ⟨cur, hc⟩ := own_blk hr q
    exact ks g (blk_ne0 hc b1 (by decide))
  · obtain ⟨cur, hc⟩ := own_blk h.lr q
    exact (ks g (blk_ne0 hc h.blk (by decide))).trans (hb.block g hc.lt)
  · obtain ⟨cur, hc⟩ := own_blk (hs m hm) q
    exact (ks g (blk_ne0 hc h.blk (by decide))).trans (hb.block g hc.lt)

set_option maxRecDepth 100000 in
set_option maxHeartbeats 4000000 in
theorem rput_ok {w : World} {B rb nx : Nat} {fv lv : Value} {P Q : List Rm} {ls : List Lm} {z : Int} (h : Rk w B rb fv lv (P ++ Q) ls z nx) (hl : (P ++ Q).length ≤ 100000) (m : Rm) (hm : Row w B m.sv m.s) (ha : ∀ q ∈ P ++ Q, m.apart q ∧ q.apart m) (i : Nat) (hi : P.length = i) :
    Calls Try.prog 35 #[.pointer (some ⟨rb, 0, none⟩), .int .i64 (i : Int), .agg #[.string m.n, .int .i64 (m.no : Int), m.sv, .bool m.h]] w fun e w' => e = .returned (.tuple #[]) ∧ ∃ v, Rk w' B rb v lv (P ++ m :: Q) ls z nx ∧ Chg (fun k => k = rb) w w' ∧ (∀ g, v.ownBlock = some g → w.heap.size ≤ g) := by
  obtain ⟨n, hn1⟩ : ∃ n, (P ++ Q).length = n := ⟨_, rfl⟩
  obtain ⟨A, c, rfl⟩ := mrow_form h.fr hn1
  have m0 : w.cell? ⟨rb, 0, none⟩ = some (.slice A n c) := h.blk.cell 0
  have H := hid h
  have HN1 := hid hn1
  have HP := hid hi
  have hin : i ≤ n := by rw [← hi, ← hn1, List.length_append]; exact Nat.le_add_right _ _
  rw [hn1] at hl
  obtain ⟨hcap, hc63⟩ := mrow_cap h.fr hn1
  have hic : i ≤ c := Nat.le_trans hin hcap
  have HAd : Hid ((A = none ∧ P ++ Q = [] ∧ c = 0) ∨ ∃ g, A = some ⟨g, 0, none⟩) := mrow_some h.fr
  obtain ⟨As, cs, es⟩ := row_form hm rfl
  obtain ⟨ns, hns⟩ : ∃ ns, m.s.length = ns := ⟨_, rfl⟩
  rw [hns] at es
  have HES := hid es
  have HM := hid hm
  have HA := hid ha
  rw [es]
  clear h hn1 hi hns es hm ha
  go_enter Try.func35, Try.ntmps35
  go_upto_region 2 with (fail)
  have hb0 : Below w.heap.size w ((w.alloc (.cells #[.string m.n, .int .i64 (m.no : Int), .slice As ns cs, .bool m.h] 64)).alloc (.cells #[] 64)) := (below_new w _).trans ((below_new _ _).mono (by simp))
  have hr0 : MRow ((w.alloc (.cells #[.string m.n, .int .i64 (m.no : Int), .slice As ns cs, .bool m.h] 64)).alloc (.cells #[] 64)) w.heap.size (.slice (some ⟨w.heap.size + 1, 0, none⟩) 0 0) [] := by
    have := own_made (w.alloc (.cells #[.string m.n, .int .i64 (m.no : Int), .slice As ns cs, .bool m.h] 64)) 64 4 w.heap.size (by simp) rfl
    rw [World.size_alloc] at this
    exact this
  have hx0 : Blk ((w.alloc (.cells #[.string m.n, .int .i64 (m.no : Int), .slice As ns cs, .bool m.h] 64)).alloc (.cells #[] 64)) w.heap.size 64 #[.string m.n, .int .i64 (m.no : Int), .slice As ns cs, .bool m.h] := ((below_new _ _).block w.heap.size (by simp)).trans (Blk.new w _ _)
  obtain ⟨W0, hW0⟩ : ∃ W0, ((w.alloc (.cells #[.string m.n, .int .i64 (m.no : Int), .slice As ns cs, .bool m.h] 64)).alloc (.cells #[] 64)) = W0 := ⟨_, rfl⟩
  obtain ⟨G, hG⟩ : ∃ G, w.heap.size = G := ⟨_, rfl⟩
  have HGe := hid hG
  rw [hW0] at hb0 hr0 hx0 ⊢
  rw [hG] at hr0 hx0 ⊢
  have HB0 := hid hb0
  have HR0 := hid hr0
  have HX0 := hid hx0
  have m2 : W0.cell? ⟨rb, 0, none⟩ = some (.slice A n c) := (hb0.cell (p := ⟨rb, 0, none⟩) (cell_lt m0)).trans m0
  clear hW0 hG hb0 hr0 hx0
  rcases HAd.out with ⟨rfl, hpq, hc0⟩ | ⟨g, rfl⟩
  · subst hc0
    have hn0 : n = 0 := by omega
    have hi0 : i = 0 := by omega
    subst hn0
    subst hi0
    go_upto_region 3 with (at_builtin; refine wpList_append_fs rfl _ _ rfl rfl _ G (.slice (some ⟨G + 1, 0, none⟩) 0 0) [] rfl HR0.out none 0 0 P HP.out rfl ((hold_left H.out.fr).below HB0.out) (fun f hf => row_one (H.out.sr f (List.mem_append_left _ hf))) (by first | (simp; done) | (simp; omega)) (by have := HB0.out.size; rw [HGe.out] at this; exact this) ?_; intro v1 w1 hr1 hg1; have HR1 := hid hr1; have HG1 := hid hg1; clear hr1 hg1)
    have hb1 : Below w.heap.size w w1 := HB0.out.grown HG1.out HB0.out.size fun k e => by cases e; rw [HGe.out]; exact Nat.le_succ _
    have hx1 : Blk w1 G 64 #[.string m.n, .int .i64 (m.no : Int), .slice As ns cs, .bool m.h] := (HG1.out.block G HX0.out.lt fun e => by cases e).trans HX0.out
    have x0 := hx1.cell 0
    have x1 := hx1.cell 1
    have x2 := hx1.cell 2
    have x3 := hx1.cell 3
    have hr1 := HR1.out
    rw [List.nil_append] at hr1
    obtain ⟨A1, q1, rfl⟩ := mrow_form hr1 HP.out
    have HB1 := hid hb1
    have HR1' := hid hr1
    have hsz1 : G ≤ w1.heap.size := Nat.le_of_lt hx1.lt
    have hgm : (m.sv = .slice As ns cs) := HES.out
    have HN1m := hid (hold_new w1 m 64)
    rw [hgm] at HN1m
    clear hb1 hr1 HR1 HG1 HB0 HR0 HX0 hx1 m2 hgm
    go_upto_region 4 with (at_builtin; refine wpList_append_fs rfl _ _ rfl rfl _ G (.slice A1 0 q1) P rfl (own_block0 HR1'.out fun g2 hg2 => (below_new w1 _).block g2 (World.ownsRow.lt HR1'.out g2 hg2).2) _ 1 1 [m] rfl rfl HN1m.out (fun f hf => by rw [List.mem_singleton] at hf; subst hf; exact row_one HM.out) (by rw [HP.out]; omega) (by first | (simp; done) | (simp; omega)) ?_; intro v2 w2 hr2 hg2; have HR2 := hid hr2; have HB2 : Hid (Below w.heap.size w w2) := ((HB1.out.trans ((below_new w1 _).mono HB1.out.size)).grown hg2 (by have := HB1.out.size; simp; omega) fun k e => by have := (World.ownsRow.lt HR1'.out k e).1; rw [HGe.out]; exact this); clear hr2 hg2)
    have hQ : Q.length = 0 - 0 := by
      have := HN1.out
      rw [List.length_append, HP.out] at this
      omega
    obtain ⟨A2, q2, rfl⟩ := mrow_form HR2.out (show (P ++ [m]).length = 0 + 1 by rw [List.length_append, HP.out]; rfl)
    have m3 : w2.cell? ⟨rb, 0, none⟩ = some (.slice none 0 0) := (HB2.out.cell (p := ⟨rb, 0, none⟩) (cell_lt m0)).trans m0
    have f3 : w2.frozen? ⟨rb, 0, none⟩ = false := (HB2.out.frozen (p := ⟨rb, 0, none⟩) (cell_lt m0)).trans (H.out.blk.free 0)
    have HQ := hid hQ
    have hsz2 : G ≤ w2.heap.size := by have := HB2.out.size; rw [HGe.out] at this; exact this
    have hHold : Hid (∀ A', HoldM w2 A' Q) := fun A' h0 => absurd (List.append_eq_nil_iff.1 hpq).2 h0
    have HOn : Hid (∀ f ∈ Q, f.sv.oneCell' = true) := fun f hf => row_one (H.out.sr f (List.mem_append_right _ hf))
    have HLen : Hid ((P ++ [m]).length = 0 + 1) := by unfold Hid; rw [List.length_append, HP.out]; rfl
    clear hQ x0 x1 x2 x3 hsz1 HR1' HN1m
    have fin : Hid (∀ (v3 : Value) (w3 : World), MRow w3 G v3 (P ++ [m] ++ Q) → w2.grownBy w3 (Value.slice A2 (0 + 1) q2).ownBlock → (∃ v, Rk (w3.setCell ⟨rb, 0, none⟩ v3) B rb v lv (P ++ m :: Q) ls z nx ∧ Chg (fun k => k = rb) w (w3.setCell ⟨rb, 0, none⟩ v3) ∧ (∀ g, v.ownBlock = some g → w.heap.size ≤ g)) ∧ w3.cell? ⟨rb, 0, none⟩ = some (.slice none 0 0) ∧ w3.frozen? ⟨rb, 0, none⟩ = false) := fun v3 w3 hr3 hg3 => by
      have hb3 : Below w.heap.size w w3 := HB2.out.grown hg3 HB2.out.size fun k e => by have := (World.ownsRow.lt HR2.out k e).1; rw [HGe.out]; exact this
      have hr4 : MRow w3 G v3 (P ++ m :: Q) := by rw [List.append_cons]; exact hr3
      refine ⟨⟨v3, H.out.files hb3 (own_low hr4 (by rw [← HGe.out]; exact Nat.le_trans H.out.lo (Nat.le_of_lt H.out.blk.lt))) (fun f hf => ?_) ?_, (Chg.of_below (fun q => q = rb) hb3).trans (Chg.of_set w3 rb 0 _ (S := fun q => q = rb) rfl) (fun q hq => .inl hq), fun k hk => by rw [HGe.out]; exact (World.ownsRow.lt hr4 k hk).1⟩, ?_, ?_⟩
      · rcases List.mem_append.1 hf with q | q
        · exact H.out.sr f (List.mem_append_left _ q)
        · rcases List.mem_cons.1 q with rfl | q
          · exact HM.out
          · exact H.out.sr f (List.mem_append_right _ q)
      · obtain ⟨p1, p2, p3⟩ := List.pairwise_append.1 H.out.ap
        refine List.pairwise_append.2 ⟨p1, List.pairwise_cons.2 ⟨fun b hb => (HA.out b (List.mem_append_right _ hb)).1, p2⟩, fun a ha b hb => ?_⟩
        rcases List.mem_cons.1 hb with rfl | hb
        · exact (HA.out a (List.mem_append_left _ ha)).2
        · exact p3 a ha b hb
      · exact (hb3.cell (p := ⟨rb, 0, none⟩) (cell_lt m0)).trans m0
      · exact (hb3.frozen (p := ⟨rb, 0, none⟩) (cell_lt m0)).trans (H.out.blk.free 0)
    obtain ⟨n3, hn3⟩ : ∃ n3, (P ++ [m] ++ Q).length = n3 := ⟨_, rfl⟩
    have HN3 := hid hn3
    clear hn3
    go_wp2_with (at_builtin; refine wpList_append_fs rfl _ _ rfl rfl _ G (.slice A2 (0 + 1) q2) (P ++ [m]) rfl HR2.out _ (0 - 0) (0 - 0) Q HQ.out rfl (hHold.out _) HOn.out (by rw [HLen.out]; omega) hsz2 ?_; intro v3 w3 hr3 hg3; obtain ⟨F1, m4, f4⟩ := fin.out v3 w3 hr3 hg3; obtain ⟨A3, q3, rfl⟩ := mrow_form hr3 HN3.out; have HF1 := hid F1; clear F1 hr3 hg3)
    all_goals
      go_end0
      exact ⟨rfl, HF1.out⟩
  · go_upto_region 3 with (at_builtin; refine wpList_append_fs rfl _ _ rfl rfl _ G (.slice (some ⟨G + 1, 0, none⟩) 0 0) [] rfl HR0.out (some ⟨g, 0, none⟩) i c P HP.out rfl ((hold_left H.out.fr).below HB0.out) (fun f hf => row_one (H.out.sr f (List.mem_append_left _ hf))) (by simp; omega) (by have := HB0.out.size; rw [HGe.out] at this; exact this) ?_; intro v1 w1 hr1 hg1; have HR1 := hid hr1; have HG1 := hid hg1; clear hr1 hg1)
    have hb1 : Below w.heap.size w w1 := HB0.out.grown HG1.out HB0.out.size fun k e => by cases e; rw [HGe.out]; exact Nat.le_succ _
    have hx1 : Blk w1 G 64 #[.string m.n, .int .i64 (m.no : Int), .slice As ns cs, .bool m.h] := (HG1.out.block G HX0.out.lt fun e => by cases e).trans HX0.out
    have x0 := hx1.cell 0
    have x1 := hx1.cell 1
    have x2 := hx1.cell 2
    have x3 := hx1.cell 3
    have hr1 := HR1.out
    rw [List.nil_append] at hr1
    obtain ⟨A1, q1, rfl⟩ := mrow_form hr1 HP.out
    have HB1 := hid hb1
    have HR1' := hid hr1
    have hsz1 : G ≤ w1.heap.size := Nat.le_of_lt hx1.lt
    have hgm : (m.sv = .slice As ns cs) := HES.out
    have HN1m := hid (hold_new w1 m 64)
    rw [hgm] at HN1m
    clear hb1 hr1 HR1 HG1 HB0 HR0 HX0 hx1 m2 hgm
    go_upto_region 4 with (at_builtin; refine wpList_append_fs rfl _ _ rfl rfl _ G (.slice A1 i q1) P rfl (own_block0 HR1'.out fun g2 hg2 => (below_new w1 _).block g2 (World.ownsRow.lt HR1'.out g2 hg2).2) _ 1 1 [m] rfl rfl HN1m.out (fun f hf => by rw [List.mem_singleton] at hf; subst hf; exact row_one HM.out) (by rw [HP.out]; omega) (by simp; omega) ?_; intro v2 w2 hr2 hg2; have HR2 := hid hr2; have HB2 : Hid (Below w.heap.size w w2) := ((HB1.out.trans ((below_new w1 _).mono HB1.out.size)).grown hg2 (by have := HB1.out.size; simp; omega) fun k e => by have := (World.ownsRow.lt HR1'.out k e).1; rw [HGe.out]; exact this); clear hr2 hg2)
    have hQ : Q.length = n - i := by
      have := HN1.out
      rw [List.length_append, HP.out] at this
      omega
    obtain ⟨A2, q2, rfl⟩ := mrow_form HR2.out (show (P ++ [m]).length = i + 1 by rw [List.length_append, HP.out]; rfl)
    have m3 : w2.cell? ⟨rb, 0, none⟩ = some (.slice (some ⟨g, 0, none⟩) n c) := (HB2.out.cell (p := ⟨rb, 0, none⟩) (cell_lt m0)).trans m0
    have f3 : w2.frozen? ⟨rb, 0, none⟩ = false := (HB2.out.frozen (p := ⟨rb, 0, none⟩) (cell_lt m0)).trans (H.out.blk.free 0)
    have HQ := hid hQ
    have hsz2 : G ≤ w2.heap.size := by have := HB2.out.size; rw [HGe.out] at this; exact this
    have hHold : Hid (∀ A', (c = i → A' = some ⟨g, 0, none⟩) → (c ≠ i → A' = some ⟨g, i * 4, none⟩) → HoldM w2 A' Q) := fun A' h1 h2 => by
      by_cases hci : c = i
      · intro h0
        have : Q = [] := List.eq_nil_of_length_eq_zero (by rw [HQ.out]; omega)
        exact absurd this h0
      · rw [h2 hci]
        exact (hold_right H.out.fr (by rw [HP.out])).below HB2.out
    have HOn : Hid (∀ f ∈ Q, f.sv.oneCell' = true) := fun f hf => row_one (H.out.sr f (List.mem_append_right _ hf))
    have HLen : Hid ((P ++ [m]).length = i + 1) := by unfold Hid; rw [List.length_append, HP.out]; rfl
    clear hQ x0 x1 x2 x3 hsz1 HR1' HN1m
    have fin : Hid (∀ (v3 : Value) (w3 : World), MRow w3 G v3 (P ++ [m] ++ Q) → w2.grownBy w3 (Value.slice A2 (i + 1) q2).ownBlock → (∃ v, Rk (w3.setCell ⟨rb, 0, none⟩ v3) B rb v lv (P ++ m :: Q) ls z nx ∧ Chg (fun k => k = rb) w (w3.setCell ⟨rb, 0, none⟩ v3) ∧ (∀ g, v.ownBlock = some g → w.heap.size ≤ g)) ∧ w3.cell? ⟨rb, 0, none⟩ = some (.slice (some ⟨g, 0, none⟩) n c) ∧ w3.frozen? ⟨rb, 0, none⟩ = false) := fun v3 w3 hr3 hg3 => by
      have hb3 : Below w.heap.size w w3 := HB2.out.grown hg3 HB2.out.size fun k e => by have := (World.ownsRow.lt HR2.out k e).1; rw [HGe.out]; exact this
      have hr4 : MRow w3 G v3 (P ++ m :: Q) := by rw [List.append_cons]; exact hr3
      refine ⟨⟨v3, H.out.files hb3 (own_low hr4 (by rw [← HGe.out]; exact Nat.le_trans H.out.lo (Nat.le_of_lt H.out.blk.lt))) (fun f hf => ?_) ?_, (Chg.of_below (fun q => q = rb) hb3).trans (Chg.of_set w3 rb 0 _ (S := fun q => q = rb) rfl) (fun q hq => .inl hq), fun k hk => by rw [HGe.out]; exact (World.ownsRow.lt hr4 k hk).1⟩, ?_, ?_⟩
      · rcases List.mem_append.1 hf with q | q
        · exact H.out.sr f (List.mem_append_left _ q)
        · rcases List.mem_cons.1 q with rfl | q
          · exact HM.out
          · exact H.out.sr f (List.mem_append_right _ q)
      · obtain ⟨p1, p2, p3⟩ := List.pairwise_append.1 H.out.ap
        refine List.pairwise_append.2 ⟨p1, List.pairwise_cons.2 ⟨fun b hb => (HA.out b (List.mem_append_right _ hb)).1, p2⟩, fun a ha b hb => ?_⟩
        rcases List.mem_cons.1 hb with rfl | hb
        · exact (HA.out a (List.mem_append_left _ ha)).2
        · exact p3 a ha b hb
      · exact (hb3.cell (p := ⟨rb, 0, none⟩) (cell_lt m0)).trans m0
      · exact (hb3.frozen (p := ⟨rb, 0, none⟩) (cell_lt m0)).trans (H.out.blk.free 0)
    obtain ⟨n3, hn3⟩ : ∃ n3, (P ++ [m] ++ Q).length = n3 := ⟨_, rfl⟩
    have HN3 := hid hn3
    clear hn3
    go_wp2_with (at_builtin; refine wpList_append_fs rfl _ _ rfl rfl _ G (.slice A2 (i + 1) q2) (P ++ [m]) rfl HR2.out _ (n - i) (c - i) Q HQ.out rfl (hHold.out _ (by intro e; simp [e]) (by intro e; simp [e])) HOn.out (by rw [HLen.out]; omega) hsz2 ?_; intro v3 w3 hr3 hg3; obtain ⟨F1, m4, f4⟩ := fin.out v3 w3 hr3 hg3; obtain ⟨A3, q3, rfl⟩ := mrow_form hr3 HN3.out; have HF1 := hid F1; clear F1 hr3 hg3)
    all_goals
      go_end0
      exact ⟨rfl, HF1.out⟩
end Go.Proofs.Ytofkfafdodhmdaa
