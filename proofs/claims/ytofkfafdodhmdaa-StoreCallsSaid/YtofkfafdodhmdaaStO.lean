/- What calls do to a disk by names alone; what stays true of it. Conditions: none. -/
import Derived.Test.YtofkfafdodhmdaaStN
namespace Go.Proofs.Ytofkfafdodhmdaa
open Go.RowKit

theorem partV (x : ByteArray) : ∀ {vs : Vs}, RisV vs → (∃ A f C, vs = A ++ f :: C ∧ f.n = x) ∨ (∃ A C, vs = A ++ C ∧ (∀ a ∈ A, bef a.n x = true) ∧ ∀ c ∈ C, bef x c.n = true)
  | [], _ => .inr ⟨[], [], rfl, fun _ h => (by cases h), fun _ h => (by cases h)⟩
  | f :: t, h => by
    obtain ⟨h1, h2⟩ := List.pairwise_cons.1 h
    by_cases q : f.n = x
    · exact .inl ⟨[], f, t, rfl, q⟩
    · rcases bef_tot q with q | q
      · rcases partV x h2 with ⟨A, g, C, rfl, e⟩ | ⟨A, C, rfl, hA, hC⟩
        · exact .inl ⟨f :: A, g, C, rfl, e⟩
        · refine .inr ⟨f :: A, C, rfl, fun a ha => ?_, hC⟩
          rcases List.mem_cons.1 ha with rfl | ha
          · exact q
          · exact hA a ha
      · refine .inr ⟨[], f :: t, rfl, (fun _ h => (by cases h)), fun c hc => ?_⟩
        rcases List.mem_cons.1 hc with rfl | hc
        · exact q
        · exact bef_trans q (h1 c hc)
theorem midV {A C : Vs} {f : Fv} (h : RisV (A ++ f :: C)) : (∀ a ∈ A, bef a.n f.n = true) ∧ (∀ c ∈ C, bef f.n c.n = true) ∧ RisV (A ++ C) := by
  obtain ⟨h1, h2, h3⟩ := List.pairwise_append.1 h
  obtain ⟨h4, h5⟩ := List.pairwise_cons.1 h2
  exact ⟨fun a ha => h3 a ha f List.mem_cons_self, h4, List.pairwise_append.2 ⟨h1, h5, fun a ha c hc => h3 a ha c (List.mem_cons_of_mem _ hc)⟩⟩
theorem putVr {A C : Vs} {f : Fv} (h : RisV (A ++ C)) (hA : ∀ a ∈ A, bef a.n f.n = true) (hC : ∀ c ∈ C, bef f.n c.n = true) : RisV (A ++ f :: C) := by
  obtain ⟨h1, h2, h3⟩ := List.pairwise_append.1 h
  refine List.pairwise_append.2 ⟨h1, List.pairwise_cons.2 ⟨hC, h2⟩, fun a ha c hc => ?_⟩
  rcases List.mem_cons.1 hc with rfl | hc
  · exact hA a ha
  · exact h3 a ha c hc
theorem upd_mid {A C : Vs} {f : Fv} (h : RisV (A ++ f :: C)) (F : Fv → Fv) : updV f.n F (A ++ f :: C) = A ++ F f :: C := by
  obtain ⟨h1, h2, _⟩ := midV h
  unfold updV
  have a : ∀ l : Vs, (∀ g ∈ l, g.n ≠ f.n) → l.map (fun g => if g.n = f.n then F g else g) = l := fun l hl => by
    conv => rhs; rw [← List.map_id l]
    exact List.map_congr_left fun g hg => if_neg (hl g hg)
  rw [List.map_append, List.map_cons, a A fun g hg => bef_ne (h1 g hg), a C fun g hg e => bef_ne (h2 g hg) e.symm, if_pos rfl]
theorem drop_mid {A C : Vs} {f : Fv} (h : RisV (A ++ f :: C)) : dropV f.n (A ++ f :: C) = A ++ C := by
  obtain ⟨h1, h2, _⟩ := midV h
  unfold dropV
  have hA : A.filter (fun g => decide (g.n ≠ f.n)) = A := List.filter_eq_self.2 fun g hg => decide_eq_true (bef_ne (h1 g hg))
  have hC : C.filter (fun g => decide (g.n ≠ f.n)) = C := List.filter_eq_self.2 fun g hg => decide_eq_true fun e => bef_ne (h2 g hg) e.symm
  rw [List.filter_append, List.filter_cons, if_neg (by simp), hA, hC]
theorem drop_out {A C : Vs} {x : ByteArray} (hA : ∀ a ∈ A, bef a.n x = true) (hC : ∀ c ∈ C, bef x c.n = true) : dropV x (A ++ C) = A ++ C := by
  unfold dropV
  rw [List.filter_eq_self]
  intro g hg
  rw [decide_eq_true_iff]
  rcases List.mem_append.1 hg with q | q
  · exact bef_ne (hA g q)
  · exact fun e => bef_ne (hC g q) e.symm
theorem get_mid {A C : Vs} {f : Fv} (h : RisV (A ++ f :: C)) : getV f.n (A ++ f :: C) = some f := by
  obtain ⟨h1, _, _⟩ := midV h
  unfold getV
  rw [List.find?_append, List.find?_cons]
  have e1 : A.find? (fun g => decide (g.n = f.n)) = none := by
    rw [List.find?_eq_none]
    intro g hg
    rw [decide_eq_true_iff]
    exact bef_ne (h1 g hg)
  have e2 : decide (f.n = f.n) = true := decide_eq_true rfl
  rw [e1, e2]
  rfl
theorem get_out {A C : Vs} {x : ByteArray} (hA : ∀ a ∈ A, bef a.n x = true) (hC : ∀ c ∈ C, bef x c.n = true) : getV x (A ++ C) = none := by
  unfold getV
  rw [List.find?_eq_none]
  intro g hg
  rw [decide_eq_true_iff]
  rcases List.mem_append.1 hg with q | q
  · exact bef_ne (hA g q)
  · exact fun e => bef_ne (hC g q) e.symm
theorem get_mem {vs : Vs} {x : ByteArray} {v : Fv} (h : getV x vs = some v) : v ∈ vs ∧ v.n = x := by
  unfold getV at h
  have h2 := List.find?_some h
  exact ⟨List.mem_of_find?_eq_some h, of_decide_eq_true h2⟩
theorem drop_rise {vs : Vs} (h : RisV vs) (x : ByteArray) : RisV (dropV x vs) := h.filter _
theorem drop_sub {vs : Vs} {x : ByteArray} {g : Fv} (h : g ∈ dropV x vs) : g ∈ vs ∧ g.n ≠ x := by
  unfold dropV at h
  rw [List.mem_filter, decide_eq_true_iff] at h
  exact h
/-- A place for a name that isn't there. -/
theorem ins_at {vs : Vs} (h : RisV vs) (v : Fv) (hx : ∀ g ∈ vs, g.n ≠ v.n) : ∃ A C, vs = A ++ C ∧ insV v vs = A ++ v :: C ∧ RisV (A ++ v :: C) := by
  rcases partV v.n h with ⟨A, f, C, rfl, e⟩ | ⟨A, C, rfl, hA, hC⟩
  · exact absurd e (hx f (by simp))
  · exact ⟨A, C, rfl, ins_split hA hC, putVr h hA hC⟩
theorem size_mid (A C : Vs) (f : Fv) : sizeV (A ++ f :: C) = sizeV (A ++ C) + f.d.length := by unfold sizeV; simp; omega
theorem size_drop (vs : Vs) (x : ByteArray) : sizeV (dropV x vs) ≤ sizeV vs := by
  unfold dropV sizeV
  induction vs with
  | nil => exact Nat.le_refl _
  | cons a t ih =>
    rw [List.filter_cons]
    by_cases q : decide (a.n ≠ x) = true
    · rw [if_pos q]; simp only [List.map_cons, List.sum_cons]; omega
    · rw [if_neg q]; simp only [List.map_cons, List.sum_cons]; omega
def runsV (vs : Vs) : Nat := (vs.map fun f => f.l.length).sum
theorem runs_mid (A C : Vs) (f : Fv) : runsV (A ++ f :: C) = runsV (A ++ C) + f.l.length := by unfold runsV; simp; omega
theorem runs_drop (vs : Vs) (x : ByteArray) : runsV (dropV x vs) ≤ runsV vs := by
  unfold dropV runsV
  induction vs with
  | nil => exact Nat.le_refl _
  | cons a t ih =>
    rw [List.filter_cons]
    by_cases q : decide (a.n ≠ x) = true
    · rw [if_pos q]; simp only [List.map_cons, List.sum_cons]; omega
    · rw [if_neg q]; simp only [List.map_cons, List.sum_cons]; omega
theorem view_runs (fs : List Fl) : runsV (viewF fs) = sumQ (fun f => f.l.length) fs := by unfold runsV sumQ viewF; rw [List.map_map]; rfl

/-- What stays true of a file, so many bytes having been written. -/
structure FOk (u : Nat) (f : Fv) : Prop where
  nm : rightB f.n = true
  ok : f.m + sumR f.l = f.d.length
  rb : ∀ r ∈ f.l, r.1 + r.2 ≤ u
/-- What stays true of a disk behind i calls. -/
structure GoodV (vs : Vs) (z : Int) (u i : Nat) : Prop where
  fl : ∀ f ∈ vs, FOk u f
  len : vs.length ≤ i
  rn : runsV vs ≤ i
  ub : u ≤ i * 16777216
  sz : (sizeV vs : Int) ≤ z
  ri : RisV vs
theorem FOk.mono {u u' : Nat} {f : Fv} (h : FOk u f) (hu : u ≤ u') : FOk u' f := ⟨h.nm, h.ok, fun r hr => Nat.le_trans (h.rb r hr) hu⟩
theorem ub_step {u i : Nat} (h : u ≤ i * 16777216) : u ≤ (i + 1) * 16777216 := Nat.le_trans h (Nat.mul_le_mul_right _ (Nat.le_succ i))
theorem GoodV.more {vs : Vs} {z : Int} {u i : Nat} (h : GoodV vs z u i) : GoodV vs z u (i + 1) := ⟨h.fl, Nat.le_succ_of_le h.len, Nat.le_succ_of_le h.rn, ub_step h.ub, h.sz, h.ri⟩
theorem good_nil (z : Int) (hz : 0 ≤ z) : GoodV [] z 0 0 := ⟨(fun f hf => by cases hf), Nat.le_refl _, Nat.le_refl _, Nat.zero_le _, hz, List.Pairwise.nil⟩
theorem sumR_app (l m : List (Nat × Nat)) : sumR (l ++ m) = sumR l + sumR m := by unfold sumR; simp
theorem addR_sum (l : List (Nat × Nat)) (u n : Nat) : sumR (addR l u n) = sumR l + n := by
  rcases List.eq_nil_or_concat l with rfl | ⟨r, ⟨a, s⟩, rfl⟩
  · show n + 0 = 0 + n
    omega
  · rw [List.concat_eq_append, addR_snoc]
    split
    · rw [sumR_app, sumR_app]; show _ + (s + n + 0) = _ + (s + 0) + n; omega
    · rw [sumR_app, sumR_app]; show _ + (n + 0) = _ + n; omega
theorem addR_len (l : List (Nat × Nat)) (u n : Nat) : (addR l u n).length ≤ l.length + 1 := by
  rcases List.eq_nil_or_concat l with rfl | ⟨r, ⟨a, s⟩, rfl⟩
  · exact Nat.le_refl _
  · rw [List.concat_eq_append, addR_snoc]
    split <;> simp
theorem addR_rb (l : List (Nat × Nat)) (u n : Nat) (h : ∀ r ∈ l, r.1 + r.2 ≤ u) : ∀ r ∈ addR l u n, r.1 + r.2 ≤ u + n := by
  rcases List.eq_nil_or_concat l with rfl | ⟨t, ⟨a, s⟩, rfl⟩
  · intro r hr
    obtain rfl := List.mem_singleton.1 (show r ∈ [(u, n)] from hr)
    exact Nat.le_refl _
  · rw [List.concat_eq_append] at h ⊢
    rw [addR_snoc]
    have h2 := h (a, s) (by simp)
    intro r hr
    split at hr
    · rcases List.mem_append.1 hr with q | q
      · have := h r (List.mem_append_left _ q); omega
      · obtain rfl := List.mem_singleton.1 q
        have : a + s ≤ u := h2
        show a + (s + n) ≤ u + n
        omega
    · rcases List.mem_append.1 hr with q | q
      · have := h r q; omega
      · obtain rfl := List.mem_singleton.1 q
        exact Nat.le_refl _
theorem FOk.add {u : Nat} {f : Fv} (h : FOk u f) (b : List UInt8) : FOk (u + b.length) (f.add b u) := by
  unfold Fv.add
  split
  · exact h.mono (Nat.le_add_right _ _)
  · refine ⟨h.nm, ?_, addR_rb f.l u b.length h.rb⟩
    show f.m + sumR (addR f.l u b.length) = (f.d ++ b).length
    rw [addR_sum, List.length_append]
    have := h.ok
    omega
theorem add_l (f : Fv) (b : List UInt8) (u : Nat) : (f.add b u).l.length ≤ f.l.length + 1 := by
  unfold Fv.add
  split
  · exact Nat.le_succ _
  · exact addR_len _ _ _
theorem good_write {vs : Vs} {z : Int} {u i : Nat} (h : GoodV vs z u i) (x : ByteArray) (hx : rightB x = true) (b : List UInt8) (hb : (sizeV vs : Int) + (b.length : Int) ≤ z) (hz : z ≤ 16777216) : GoodV (wrV x b u vs) z (u + b.length) (i + 1) := by
  have hub : u + b.length ≤ (i + 1) * 16777216 := by
    have h1 := h.ub
    have h2 : (i + 1) * 16777216 = i * 16777216 + 16777216 := Nat.succ_mul _ _
    omega
  unfold wrV
  rcases partV x h.ri with ⟨A, f, C, rfl, rfl⟩ | ⟨A, C, rfl, hA, hC⟩
  · rw [get_mid h.ri]
    show GoodV (updV f.n (Fv.add b u) (A ++ f :: C)) z _ _
    rw [upd_mid h.ri]
    obtain ⟨h1, h2, h3⟩ := midV h.ri
    refine ⟨fun g hg => ?_, by have := h.len; simp at this ⊢; omega, ?_, hub, ?_, putVr h3 (by rw [add_n]; exact h1) (by rw [add_n]; exact h2)⟩
    · rcases List.mem_append.1 hg with q | q
      · exact (h.fl g (List.mem_append_left _ q)).mono (Nat.le_add_right _ _)
      · rcases List.mem_cons.1 q with q | q
        · rw [q]; exact (h.fl f (by simp)).add b
        · exact (h.fl g (List.mem_append_right _ (List.mem_cons_of_mem _ q))).mono (Nat.le_add_right _ _)
    · have := h.rn
      rw [runs_mid] at this ⊢
      have := add_l f b u
      omega
    · rw [size_mid] at hb
      rw [size_mid, add_d, List.length_append]
      omega
  · rw [get_out hA hC]
    show GoodV (insV ((newV x).add b u) (A ++ C)) z _ _
    rw [ins_split (by rw [add_n]; exact hA) (by rw [add_n]; exact hC)]
    refine ⟨fun g hg => ?_, by have := h.len; simp at this ⊢; omega, ?_, hub, ?_, putVr h.ri (by rw [add_n]; exact hA) (by rw [add_n]; exact hC)⟩
    · have h0 : FOk u (newV x) := ⟨hx, rfl, fun r hr => by cases hr⟩
      rcases List.mem_append.1 hg with q | q
      · exact (h.fl g (List.mem_append_left _ q)).mono (Nat.le_add_right _ _)
      · rcases List.mem_cons.1 q with q | q
        · rw [q]; exact h0.add b
        · exact (h.fl g (List.mem_append_right _ q)).mono (Nat.le_add_right _ _)
    · have := h.rn
      rw [runs_mid]
      have : ((newV x).add b u).l.length ≤ 0 + 1 := add_l (newV x) b u
      omega
    · rw [size_mid, add_d]
      show ((sizeV (A ++ C) + ([] ++ b).length : Nat) : Int) ≤ z
      rw [List.nil_append]
      omega
theorem good_sync {vs : Vs} {z : Int} {u i : Nat} (h : GoodV vs z u i) (x : ByteArray) : GoodV (updV x Fv.sync vs) z u (i + 1) := by
  have hm : ∀ g ∈ updV x Fv.sync vs, ∃ f ∈ vs, g = f ∨ g = f.sync := fun g hg => by
    obtain ⟨f, hf, e⟩ := List.mem_map.1 hg
    by_cases q : f.n = x
    · rw [if_pos q] at e; exact ⟨f, hf, .inr e.symm⟩
    · rw [if_neg q] at e; exact ⟨f, hf, .inl e.symm⟩
  refine ⟨fun g hg => ?_, by unfold updV; rw [List.length_map]; exact Nat.le_succ_of_le h.len, ?_, ub_step h.ub, ?_, ?_⟩
  · obtain ⟨f, hf, rfl | rfl⟩ := hm g hg
    · exact h.fl _ hf
    · exact ⟨(h.fl f hf).nm, by show f.d.length + 0 = f.d.length; omega, fun r hr => by cases hr⟩
  · have : runsV (updV x Fv.sync vs) ≤ runsV vs := by
      unfold updV runsV
      rw [List.map_map]
      clear h hm
      induction vs with
      | nil => exact Nat.le_refl _
      | cons a t ih =>
        simp only [List.map_cons, List.sum_cons]
        have : ((fun f => f.l.length) ∘ fun g => if g.n = x then g.sync else g) a ≤ a.l.length := by
          show (if a.n = x then a.sync else a).l.length ≤ _
          split
          · exact Nat.zero_le _
          · exact Nat.le_refl _
        omega
    have := h.rn
    omega
  · have : sizeV (updV x Fv.sync vs) = sizeV vs := by
      unfold updV sizeV
      rw [List.map_map]
      congr 1
      refine List.map_congr_left fun a _ => ?_
      show (if a.n = x then a.sync else a).d.length = _
      split <;> rfl
    rw [this]
    exact h.sz
  · unfold updV
    refine List.pairwise_map.2 (h.ri.imp fun {a b} q => ?_)
    have e : ∀ a : Fv, (if a.n = x then a.sync else a).n = a.n := fun a => by split <;> rfl
    rw [e, e]
    exact q
theorem good_drop {vs : Vs} {z : Int} {u i : Nat} (h : GoodV vs z u i) (x : ByteArray) : GoodV (dropV x vs) z u i :=
  ⟨fun g hg => h.fl g (drop_sub hg).1, Nat.le_trans (List.length_filter_le _ _) h.len, Nat.le_trans (runs_drop _ _) h.rn, h.ub, by have := size_drop vs x; have := h.sz; omega, drop_rise h.ri x⟩
theorem good_call {vs : Vs} {z : Int} {u i : Nat} (h : GoodV vs z u i) (x y : ByteArray) {v : Fv} (hv : getV x vs = some v) (hy : rightB y = true) : GoodV (insV (v.call y) (dropV y (dropV x vs))) z u (i + 1) := by
  obtain ⟨hm, hn⟩ := get_mem hv
  have hF := h.fl v hm
  have hd := good_drop (good_drop h x) y
  obtain ⟨A, C, e1, e2, e3⟩ := ins_at hd.ri (v.call y) fun g hg => (drop_sub hg).2
  rw [e2]
  have h1 : runsV (dropV y (dropV x vs)) + v.l.length ≤ runsV vs ∧ sizeV (dropV y (dropV x vs)) + v.d.length ≤ sizeV vs ∧ (dropV y (dropV x vs)).length + 1 ≤ vs.length := by
    rcases partV x h.ri with ⟨A1, f, C1, rfl, e⟩ | ⟨A1, C1, rfl, hA, hC⟩
    · subst e
      rw [get_mid h.ri] at hv
      cases hv
      rw [drop_mid h.ri]
      have a1 := runs_drop (A1 ++ C1) y
      have a2 := size_drop (A1 ++ C1) y
      have a3 : (dropV y (A1 ++ C1)).length ≤ (A1 ++ C1).length := List.length_filter_le _ _
      rw [runs_mid, size_mid]
      refine ⟨by omega, by omega, ?_⟩
      simp at a3 ⊢
      omega
    · rw [get_out hA hC] at hv
      cases hv
  rw [e1] at h1
  have hrn := h.rn
  have hsz := h.sz
  have hln := h.len
  refine ⟨fun g hg => ?_, by have := h1.2.2; simp at this ⊢; omega, by rw [runs_mid]; show _ + v.l.length ≤ _; omega, ub_step h.ub, by rw [size_mid]; show ((_ + v.d.length : Nat) : Int) ≤ z; omega, e3⟩
  rcases List.mem_append.1 hg with q | q
  · exact hd.fl g (by rw [e1]; exact List.mem_append_left _ q)
  · rcases List.mem_cons.1 q with q | q
    · rw [q]; exact ⟨hy, hF.ok, hF.rb⟩
    · exact hd.fl g (by rw [e1]; exact List.mem_append_right _ q)
theorem good_crash {fs : List Fl} {z : Int} {u i : Nat} (h : GoodV (viewF fs) z u i) {l : List Pc} (hpm : l.Perm (allP fs)) (hap : fs.Pairwise Fl.apart) (K : Int) : GoodV (viewF (((fs.map (mF l K)).filter keepB).map cutF)) z u (i + 1) := by
  have hlen : (((fs.map (mF l K)).filter keepB).map cutF).length ≤ fs.length := by
    rw [List.length_map]
    refine Nat.le_trans (List.length_filter_le _ _) ?_
    rw [List.length_map]
    exact Nat.le_refl _
  have hl : (viewF fs).length = fs.length := List.length_map _
  refine ⟨fun g hg => ?_, ?_, ?_, ub_step h.ub, ?_, ?_⟩
  · obtain ⟨g1, hg1, rfl⟩ := List.mem_map.1 hg
    obtain ⟨g2, hg2, rfl⟩ := List.mem_map.1 hg1
    obtain ⟨f, hf, rfl⟩ := List.mem_map.1 (List.mem_filter.1 hg2).1
    have hF := h.fl f.v (List.mem_map_of_mem hf)
    have hb := mF_bound hpm hap hf hF.ok K
    refine ⟨hF.nm, ?_, fun r hr => by cases hr⟩
    show (mF l K f).m + 0 = (f.d.take (mF l K f).m).length
    rw [List.length_take]
    omega
  · unfold viewF
    rw [List.length_map]
    have := h.len
    omega
  · have : runsV (viewF (((fs.map (mF l K)).filter keepB).map cutF)) = 0 := by
      unfold runsV viewF
      rw [List.map_map, List.map_map]
      induction (fs.map (mF l K)).filter keepB with
      | nil => rfl
      | cons a t ih => rw [List.map_cons, List.sum_cons, ih]; rfl
    omega
  · have h1 := cut_size (fs.map (mF l K))
    have h2 : sizeF (fs.map (mF l K)) = sizeF fs := by unfold sizeF; rw [List.map_map]; rfl
    have h3 := h.sz
    rw [view_size] at h3 ⊢
    omega
  · have h1 : Ris fs := List.pairwise_map.1 h.ri
    exact view_rise (List.pairwise_map.2 ((List.pairwise_map.2 h1 : Ris (fs.map (mF l K))).filter _))
end Go.Proofs.Ytofkfafdodhmdaa
