/- What lasts behind calls and behind a crash. Conditions: none. -/
import Derived.Test.YtkdegdpkhldgbaaStU
namespace Go.Proofs.Ytkdegdpkhldgbaa
open Go.RowKit

/-- So many bytes of the file of that name last. -/
def Safe (x : ByteArray) (s : Nat) (vs : Vs) : Prop := s = 0 ∨ ∃ f ∈ vs, f.n = x ∧ s ≤ f.m
theorem mem_ins {v : Fv} : ∀ {vs : Vs} {f : Fv}, f ∈ vs → f ∈ insV v vs
  | g :: t, f, h => by
    unfold insV
    split
    · exact List.mem_cons_of_mem _ h
    · rcases List.mem_cons.1 h with rfl | h
      · exact List.mem_cons_self
      · exact List.mem_cons_of_mem _ (mem_ins h)
theorem safe_of {x : ByteArray} {s : Nat} {vs vs' : Vs} (h : Safe x s vs) (hm : ∀ f ∈ vs, f.n = x → ∃ g ∈ vs', g.n = x ∧ f.m ≤ g.m) : Safe x s vs' := by
  rcases h with h | ⟨f, hf, e, hs⟩
  · exact .inl h
  · obtain ⟨g, hg, e2, h2⟩ := hm f hf e
    exact .inr ⟨g, hg, e2, by omega⟩
theorem mem_upd {y : ByteArray} {F : Fv → Fv} {vs : Vs} {f : Fv} (h : f ∈ vs) : (if f.n = y then F f else f) ∈ updV y F vs := List.mem_map.2 ⟨f, h, rfl⟩
theorem mem_drop {y : ByteArray} {vs : Vs} {f : Fv} (h : f ∈ vs) (hn : f.n ≠ y) : f ∈ dropV y vs := List.mem_filter.2 ⟨h, decide_eq_true hn⟩
theorem add_mm (f : Fv) (b : List UInt8) (u : Nat) : (f.add b u).m = f.m := by unfold Fv.add; split <;> rfl
/-- A call that neither takes the name away nor crashes. -/
theorem did_safe {c : Cl} {q z : Int} {fs fs' : List Fl} {u u' : Nat} {x : ByteArray} {s : Nat} (h : Did c q z fs u fs' u') (hs : Safe x s (viewF fs)) (h4 : c.wh ≠ 4) (hok : ∀ f ∈ viewF fs, f.m ≤ f.d.length)
    (ht : q = 0 → (c.wh = 2 → c.nm ≠ x) ∧ (c.wh = 3 → c.nm ≠ x ∧ c.tg ≠ x)) : Safe x s (viewF fs') := by
  refine safe_of hs fun f hf e => ?_
  rcases h with ⟨_, _, hr, hle, hv, _⟩ | ⟨_, _, rfl, _⟩ | ⟨_, _, ⟨_, _, hv⟩ | ⟨_, _, rfl⟩⟩ | ⟨hw, _, ⟨hq, _, hv⟩ | ⟨_, _, rfl⟩⟩ | ⟨hw, _, ⟨hq, hr, f', hf', hv⟩ | ⟨_, _, rfl⟩ | ⟨_, _, _, rfl⟩⟩ | ⟨hw, _, _, l, hp, _, rfl⟩ | ⟨_, _, rfl, _⟩
  · rw [hv]
    unfold wrV
    split
    · refine ⟨_, mem_upd hf, ?_⟩
      split
      · exact ⟨(add_n f _ _).trans e, Nat.le_of_eq (add_mm f _ _).symm⟩
      · exact ⟨e, Nat.le_refl _⟩
    · exact ⟨f, mem_ins hf, e, Nat.le_refl _⟩
  · exact ⟨f, hf, e, Nat.le_refl _⟩
  · rw [hv]
    refine ⟨_, mem_upd hf, ?_⟩
    split
    · exact ⟨e, hok f hf⟩
    · exact ⟨e, Nat.le_refl _⟩
  · exact ⟨f, hf, e, Nat.le_refl _⟩
  · rw [hv]
    exact ⟨f, mem_drop hf fun h2 => (ht hq).1 hw (h2.symm.trans e), e, Nat.le_refl _⟩
  · exact ⟨f, hf, e, Nat.le_refl _⟩
  · rw [hv]
    obtain ⟨n1, n2⟩ := (ht hq).2 hw
    exact ⟨f, mem_ins (mem_drop (mem_drop hf fun h2 => n1 (h2.symm.trans e)) fun h2 => n2 (h2.symm.trans e)), e, Nat.le_refl _⟩
  · exact ⟨f, hf, e, Nat.le_refl _⟩
  · exact ⟨f, hf, e, Nat.le_refl _⟩
  · exact absurd hw h4
  · exact ⟨f, hf, e, Nat.le_refl _⟩
/-- What was synced lasts whole. -/
theorem did_sync {c : Cl} {q z : Int} {fs fs' : List Fl} {u u' : Nat} (h : Did c q z fs u fs' u') (hw : c.wh = 1) (hq : q = 0) : ∃ g ∈ fs', g.n = c.nm ∧ g.m = g.d.length := by
  rcases h with ⟨h1, _⟩ | ⟨h1, _⟩ | ⟨_, _, ⟨_, ⟨f, hf⟩, hv⟩ | ⟨h1, _⟩⟩ | ⟨h1, _⟩ | ⟨h1, _⟩ | ⟨h1, _⟩ | ⟨h1, _⟩
  · omega
  · omega
  · obtain ⟨f1, f2⟩ := get_mem hf
    have hm : f.sync ∈ viewF fs' := by
      rw [hv]
      have := mem_upd (y := c.nm) (F := Fv.sync) f1
      rw [if_pos f2] at this
      exact this
    obtain ⟨g, hg, e⟩ := List.mem_map.1 hm
    refine ⟨g, hg, ?_, ?_⟩
    · exact (congrArg Fv.n e).trans f2
    · have e1 : g.d = f.d := congrArg Fv.d e
      have e2 : g.m = f.d.length := congrArg Fv.m e
      rw [e1, e2]
  · omega
  · omega
  · omega
  · omega
  · omega
theorem safe_crash_c {c : Cl} {q z : Int} {fs fs' : List Fl} {u u' : Nat} (h : Did c q z fs u fs' u') (hw : c.wh = 4) : q = 0 := by
  rcases h with ⟨h1, _⟩ | ⟨h1, _⟩ | ⟨h1, _⟩ | ⟨h1, _⟩ | ⟨h1, _⟩ | ⟨_, h1, _⟩ | ⟨h1, _⟩ <;> omega
/-- What a name reads as, ahead of a crash and behind it. -/
theorem crash_safe {fs : List Fl} {l : List Pc} {K : Int} {x : ByteArray} {s : Nat} (hr : Ris fs) (hpm : l.Perm (allP fs)) (hap : fs.Pairwise Fl.apart) (hok : ∀ f ∈ fs, f.m + sumR f.l = f.d.length) (hs : Safe x s (viewF fs)) :
    ((∀ g ∈ fs, g.n ≠ x) ∧ (∀ g ∈ crF fs l K, g.n ≠ x) ∧ s = 0) ∨
    (∃ A f C, fs = A ++ f :: C ∧ f.n = x ∧ (((∀ g ∈ crF fs l K, g.n ≠ x) ∧ s = 0) ∨ ∃ A' f' C' k, crF fs l K = A' ++ f' :: C' ∧ f'.n = x ∧ f'.d = f.d.take k ∧ s ≤ k ∧ k ≤ f.d.length)) := by
  have hcr : ∀ g ∈ crF fs l K, ∃ g0 ∈ fs, g.n = g0.n ∧ keepB (mF l K g0) = true := fun g hg => by
    obtain ⟨g1, h1, rfl⟩ := List.mem_map.1 hg
    obtain ⟨h1, h2⟩ := List.mem_filter.1 h1
    obtain ⟨g0, h0, rfl⟩ := List.mem_map.1 h1
    exact ⟨g0, h0, rfl, h2⟩
  rcases part x hr with ⟨A, f, C, rfl, e⟩ | ⟨A, C, rfl, hA, hC⟩
  · refine .inr ⟨A, f, C, rfl, e, ?_⟩
    obtain ⟨r1, r2, _⟩ := rise_mid hr
    have huniq : ∀ g ∈ A ++ f :: C, g.n = x → g = f := fun g hg h => by
      rcases List.mem_append.1 hg with q | q
      · exact absurd (h.trans e.symm) (bef_ne (r1 g q))
      · rcases List.mem_cons.1 q with rfl | q
        · rfl
        · exact absurd (h.trans e.symm).symm (bef_ne (r2 g q))
    have hsf : s ≤ f.m := by
      rcases hs with h | ⟨v, hv, e2, h⟩
      · omega
      · obtain ⟨g, hg, rfl⟩ := List.mem_map.1 hv
        obtain rfl := huniq g hg e2
        exact h
    have hmf : f ∈ A ++ f :: C := by simp
    have hb := mF_bound hpm hap hmf (hok f hmf) K
    have hmm : f.m ≤ (mF l K f).m := Nat.le_add_right _ _
    cases hk : keepB (mF l K f) with
    | true =>
      refine .inr ⟨((A.map (mF l K)).filter keepB).map cutF, cutF (mF l K f), ((C.map (mF l K)).filter keepB).map cutF, (mF l K f).m, ?_, e, rfl, by omega, hb⟩
      unfold crF
      rw [List.map_append, List.map_cons, List.filter_append, List.filter_cons_of_pos hk, List.map_append, List.map_cons]
    | false =>
      refine .inl ⟨fun g hg h => ?_, ?_⟩
      · obtain ⟨g0, h0, e0, hk0⟩ := hcr g hg
        obtain rfl := huniq g0 h0 (e0.symm.trans h)
        rw [hk] at hk0
        cases hk0
      · by_cases h0 : (mF l K f).m = 0
        · omega
        · rw [keep_m h0] at hk
          cases hk
  · have hno : ∀ g ∈ A ++ C, g.n ≠ x := fun g hg => by
      rcases List.mem_append.1 hg with q | q
      · exact bef_ne (hA g q)
      · exact fun h => bef_ne (hC g q) h.symm
    refine .inl ⟨hno, fun g hg h => ?_, ?_⟩
    · obtain ⟨g0, h0, e0, _⟩ := hcr g hg
      exact hno g0 h0 (e0.symm.trans h)
    · rcases hs with h | ⟨v, hv, e2, _⟩
      · exact h
      · obtain ⟨g, hg, rfl⟩ := List.mem_map.1 hv
        exact absurd e2 (hno g hg)
theorem crash_tight (fs : List Fl) (l : List Pc) (K : Int) : looseF (crF fs l K) = 0 := by
  unfold looseF crF
  rw [List.map_map]
  induction (fs.map (mF l K)).filter keepB with
  | nil => rfl
  | cons a t ih =>
    rw [List.map_cons, List.sum_cons, ih]
    show (a.d.take a.m).length - a.m + 0 = 0
    rw [List.length_take]
    omega
/-- A beginning of a slice of bytes. -/
theorem sla_take {w : World} {A : Option Addr} {n c k : Nat} {l : List UInt8} (h : SlA w (.slice A n c) l) (hk : k ≤ l.length) : SlA w (.slice A k c) (l.take k) := by
  obtain ⟨A', c', e, h1, h2, h3, h4⟩ := h
  injection e with e1 e2 e3
  subst e1 e3
  have hl : (l.take k).length = k := by rw [List.length_take]; omega
  refine ⟨A, c, by rw [hl], by omega, h2, fun h0 => ?_, h4⟩
  rw [hl] at h0
  obtain ⟨b, o, e, hc⟩ := h3 (by omega)
  refine ⟨b, o, e, fun i hi => ?_⟩
  rw [hl] at hi
  rw [hc i (by omega)]
  simp only [List.getD_eq_getElem?_getD, List.getElem?_take_of_lt hi]
theorem sla_nothing (w : World) : SlA w (.slice none 0 0) [] := ⟨none, 0, rfl, by simp, by omega, fun h => absurd h (by simp), fun _ => rfl⟩
/-- A slice of bytes stands where its block is as it was. -/
theorem sla_keep {w w' : World} {v : Value} {l : List UInt8} {S : Nat → Prop} {N : Nat} (h : Row w N v l) (hc : Chg S w w') (hs : ∀ k, S k → k < N) : Row w' N v l := row_blk h fun k h1 h2 => hc.block k h2 fun q => absurd (hs k q) (Nat.not_lt.2 h1)
end Go.Proofs.Ytkdegdpkhldgbaa
