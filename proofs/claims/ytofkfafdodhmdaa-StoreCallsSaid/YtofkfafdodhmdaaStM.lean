/- What (*store.Disk).Crash comes to: mathematics of what lasts, and of files that go. Conditions: none. -/
import Derived.Test.YtofkfafdodhmdaaStL
namespace Go.Proofs.Ytofkfafdodhmdaa
open Go.RowKit

/-- How many bytes of a run last. -/
def kp (K : Int) (s : Nat) : Nat := (max 0 (min K (s : Int))).toNat
theorem kp_le (K : Int) (s : Nat) : kp K s ≤ s := by unfold kp; omega
theorem kp_eq (K : Int) (s : Nat) : max 0 (min K (s : Int)) = (kp K s : Int) := by unfold kp; omega
/-- What is left to be kept behind some runs. -/
def kpl : List Pc → Int → Int
  | [], K => K
  | p :: t, K => kpl t (K - (kp K p.2.2 : Int))
/-- How many bytes of a file last behind some runs. -/
def incP : List Pc → Int → Nat → Nat
  | [], _, _ => 0
  | p :: t, K, b => (if p.1 = b then kp K p.2.2 else 0) + incP t (K - (kp K p.2.2 : Int)) b
theorem kpl_snoc (l : List Pc) (p : Pc) : ∀ K, kpl (l ++ [p]) K = kpl l K - (kp (kpl l K) p.2.2 : Int) := by
  induction l with
  | nil => intro K; rfl
  | cons a t ih => intro K; exact ih _
theorem inc_snoc (l : List Pc) (p : Pc) (b : Nat) : ∀ K, incP (l ++ [p]) K b = incP l K b + if p.1 = b then kp (kpl l K) p.2.2 else 0 := by
  induction l with
  | nil => intro K; show (if p.1 = b then kp K p.2.2 else 0) + 0 = 0 + _; rw [Nat.zero_add, Nat.add_zero]; rfl
  | cons a t ih =>
    intro K
    show (if a.1 = b then kp K a.2.2 else 0) + incP (t ++ [p]) _ b = (if a.1 = b then kp K a.2.2 else 0) + incP t _ b + _
    rw [ih, Nat.add_assoc]
    rfl
/-- The bytes of a file's pieces. -/
def sumP (l : List Pc) (b : Nat) : Nat := ((l.filter fun p => decide (p.1 = b)).map fun p => p.2.2).sum
theorem inc_le (l : List Pc) (b : Nat) : ∀ K, incP l K b ≤ sumP l b := by
  unfold sumP
  induction l with
  | nil => intro K; exact Nat.le_refl _
  | cons a t ih =>
    intro K
    show (if a.1 = b then kp K a.2.2 else 0) + incP t _ b ≤ _
    have h := ih (K - (kp K a.2.2 : Int))
    have hk := kp_le K a.2.2
    rw [List.filter_cons]
    by_cases q : a.1 = b
    · rw [if_pos q, if_pos (decide_eq_true q), List.map_cons, List.sum_cons]; omega
    · rw [if_neg q, if_neg (by rw [decide_eq_false q]; decide)]; omega
theorem sum_perm {l m : List Pc} (h : l.Perm m) (b : Nat) : sumP l b = sumP m b := ((h.filter _).map _).sum_nat
theorem kpl_range (l : List Pc) : ∀ K : Int, -9223372036854775808 ≤ K → K < 9223372036854775808 → -9223372036854775808 ≤ kpl l K ∧ kpl l K < 9223372036854775808 := by
  induction l with
  | nil => intro K h1 h2; exact ⟨h1, h2⟩
  | cons a t ih =>
    intro K h1 h2
    refine ih _ ?_ ?_ <;> unfold kp <;> omega
/-- The file with more that lasts. -/
def mF (l : List Pc) (K : Int) (f : Fl) : Fl := { f with m := f.m + incP l K f.b }
theorem mF_nil (K : Int) (f : Fl) : mF [] K f = f := rfl
theorem mF_has (l : List Pc) (K : Int) (f : Fl) (k : Nat) : (mF l K f).has k ↔ f.has k := Iff.rfl
theorem sum_all {fs : List Fl} (hd : fs.Pairwise Fl.apart) {f : Fl} (hf : f ∈ fs) : sumP (allP fs) f.b = sumR f.l := by
  obtain ⟨A, C, rfl⟩ := List.append_of_mem hf
  have hap := (ap_mid.1 hd).2
  have zero : ∀ l : List Fl, (∀ g ∈ l, g.b ≠ f.b) → (allP l).filter (fun p => decide (p.1 = f.b)) = [] := fun l hl => by
    rw [List.filter_eq_nil_iff]
    intro p hp
    obtain ⟨g, hg, hp⟩ := List.mem_flatMap.1 hp
    obtain ⟨r, _, rfl⟩ := List.mem_map.1 hp
    rw [decide_eq_true_iff]
    exact hl g hg
  have nb : ∀ g ∈ A ++ C, g.b ≠ f.b := fun g hg e => hap g hg f.b (.inl rfl) (.inl e.symm)
  unfold sumP
  have e : allP (A ++ f :: C) = allP A ++ (pcsF f ++ allP C) := by unfold allP; rw [List.flatMap_append, List.flatMap_cons]
  rw [e, List.filter_append, List.filter_append, zero A fun g hg => nb g (List.mem_append_left _ hg), zero C fun g hg => nb g (List.mem_append_right _ hg), List.nil_append, List.append_nil]
  have e2 : (pcsF f).filter (fun p => decide (p.1 = f.b)) = pcsF f := by
    rw [List.filter_eq_self]
    intro p hp
    obtain ⟨r, _, rfl⟩ := List.mem_map.1 hp
    exact decide_eq_true rfl
  rw [e2]
  unfold pcsF sumR
  rw [List.map_map]
  rfl
theorem mF_step {A C : List Fl} {f : Fl} (hd : (A ++ f :: C).Pairwise Fl.apart) (l : List Pc) (K : Int) (p : Pc) (hp : p.1 = f.b) :
    (A ++ f :: C).map (mF (l ++ [p]) K) = A.map (mF l K) ++ { mF l K f with m := (mF l K f).m + kp (kpl l K) p.2.2 } :: C.map (mF l K) := by
  have hap := (ap_mid.1 hd).2
  have nb : ∀ g ∈ A ++ C, mF (l ++ [p]) K g = mF l K g := fun g hg => by
    have hne : p.1 ≠ g.b := fun e => hap g hg f.b (.inl rfl) (.inl (hp ▸ e))
    unfold mF
    rw [inc_snoc, if_neg hne, Nat.add_zero]
  rw [List.map_append, List.map_cons, List.map_congr_left fun g hg => nb g (List.mem_append_left _ hg), List.map_congr_left fun g hg => nb g (List.mem_append_right _ hg)]
  congr 2
  unfold mF
  rw [inc_snoc, if_pos hp, Nat.add_assoc]
theorem pc_mem {fs : List Fl} {p : Pc} (h : p ∈ allP fs) : ∃ A f C, fs = A ++ f :: C ∧ p.1 = f.b := by
  obtain ⟨f, hf, hp⟩ := List.mem_flatMap.1 h
  obtain ⟨r, _, rfl⟩ := List.mem_map.1 hp
  obtain ⟨A, C, e⟩ := List.append_of_mem hf
  exact ⟨A, f, C, e, rfl⟩

/-! ### the files that go -/
def keepB (f : Fl) : Bool := !(decide (f.m = 0) && !f.h)
def kpF (left : Lit → Bool) (fs : List Fl) : List Fl := fs.filter fun f => left f.key || keepB f
theorem kp_rise {fs : List Fl} (h : Ris fs) (left : Lit → Bool) : Ris (kpF left fs) := h.filter _
theorem kp_start (fs : List Fl) : kpF (Maps.has (mapD fs)) fs = fs := by
  unfold kpF
  rw [List.filter_eq_self]
  intro f hf
  have : Maps.has (mapD fs) f.key = true := (has_iff fs f.n).2 ⟨f, hf, rfl⟩
  rw [this]
  rfl
theorem kp_end {left : Lit → Bool} (h : ∀ kl, left kl = false) (fs : List Fl) : kpF left fs = fs.filter keepB := by
  unfold kpF
  refine List.filter_congr fun f _ => ?_
  rw [h]
  rfl
theorem kp_stay {left : Lit → Bool} {fs : List Fl} {f : Fl} (hf : f ∈ fs) (hr : Ris fs) (hk : keepB f = true) : kpF (fun z => left z && !z.sameKey f.key) fs = kpF left fs := by
  obtain ⟨A, C, rfl⟩ := List.append_of_mem hf
  obtain ⟨h1, h2, _⟩ := rise_mid hr
  unfold kpF
  refine List.filter_congr fun g hg => ?_
  show ((left g.key && !g.key.sameKey f.key) || keepB g) = _
  by_cases e : g.n = f.n
  · have : g = f := by
      rcases List.mem_append.1 hg with q | q
      · exact absurd e (bef_ne (h1 g q))
      · rcases List.mem_cons.1 q with q | q
        · exact q
        · exact absurd e.symm (bef_ne (h2 g q))
    rw [this, hk, Bool.or_true, Bool.or_true]
  · rw [key_ne e]
    simp
theorem kp_go {left : Lit → Bool} {fs A C : List Fl} {f : Fl} (hr : Ris fs) (e : kpF left fs = A ++ f :: C) (hk : keepB f = false) : kpF (fun z => left z && !z.sameKey f.key) fs = A ++ C := by
  have e1 : kpF (fun z => left z && !z.sameKey f.key) fs = (kpF left fs).filter (fun g => (left g.key && !g.key.sameKey f.key) || keepB g) := by
    unfold kpF
    rw [List.filter_filter]
    refine List.filter_congr fun g _ => ?_
    show ((left g.key && !g.key.sameKey f.key) || keepB g) = (((left g.key && !g.key.sameKey f.key) || keepB g) && (left g.key || keepB g))
    cases left g.key <;> cases keepB g <;> cases g.key.sameKey f.key <;> rfl
  have hr2 := kp_rise hr left
  have hmem : ∀ g ∈ A ++ f :: C, (left g.key || keepB g) = true := fun g hg => by
    rw [← e] at hg
    exact (List.mem_filter.1 hg).2
  rw [e] at hr2
  obtain ⟨h1, h2, _⟩ := rise_mid hr2
  have same : ∀ l : List Fl, (∀ g ∈ l, g.n ≠ f.n ∧ g ∈ A ++ f :: C) → l.filter (fun g => (left g.key && !g.key.sameKey f.key) || keepB g) = l := fun l hl => by
    rw [List.filter_eq_self]
    intro g hg
    obtain ⟨a1, a2⟩ := hl g hg
    rw [key_ne a1, Bool.not_false, Bool.and_true]
    exact hmem g a2
  have sf : f.key.sameKey f.key = true := by
    show (Lit.string f.n.data.toList).sameKey (.string f.n.data.toList) = true
    rw [sameKey_str, decide_eq_true rfl]
  rw [e1, e, List.filter_append, List.filter_cons, if_neg (by rw [sf, hk]; simp), same A fun g hg => ⟨bef_ne (h1 g hg), List.mem_append_left _ hg⟩, same C fun g hg => ⟨fun e => bef_ne (h2 g hg) e.symm, List.mem_append_right _ (List.mem_cons_of_mem _ hg)⟩]

/-- The slice of what lasts. -/
def cutS (f : Fl) : Value := match f.dv with
  | .slice A _ c => .slice A f.m c
  | x => x
def cutF (f : Fl) : Fl := { f with dv := cutS f, d := f.d.take f.m, lv := .slice none 0 0, l := [] }
theorem cut_has {f : Fl} {k : Nat} (h : (cutF f).has k) : f.has k := by
  rcases h with h | h | h
  · exact .inl h
  · refine .inr (.inl ?_)
    have h2 : (cutS f).ownBlock = some k := h
    unfold cutS at h2
    cases e : f.dv <;> rw [e] at h2 <;> first | exact h2 | (rename_i A n c; cases A <;> exact h2)
  · cases h
theorem cut_row {w : World} {B : Nat} {f : Fl} (h : Row w B f.dv f.d) (hm : f.m ≤ f.d.length) : Row w B (cutS f) (f.d.take f.m) := by
  obtain ⟨h1, h2⟩ := h
  have hl : (f.d.take f.m).length = f.m := by rw [List.length_take]; omega
  rcases h2 with ⟨e, e2⟩ | ⟨g, cap, cur, e, hB, hh, hn, hc, hs, ht⟩
  · have hm0 : f.m = 0 := by omega
    refine ⟨by rw [bc_len]; omega, .inl ⟨?_, by rw [hl]; exact hm0⟩⟩
    unfold cutS
    rw [e, hm0]
  · refine ⟨by rw [bc_len]; omega, .inr ⟨g, cap, cur, ?_, hB, hh, by omega, hc, hs, ?_⟩⟩
    · unfold cutS
      rw [e, hl]
    · rw [hl, Nat.mul_one]
      rw [Nat.mul_one] at ht
      have : bc (f.d.take f.m) = (bc f.d).take f.m := by unfold bc; rw [List.map_take]
      rw [this, ← ht, List.take_take, Nat.min_eq_left hm]
theorem flat_cut {w : World} {B : Nat} {f : Fl} (h : FlAt w B f) (hm : f.m ≤ f.d.length) : FlAt ((w.setCell ⟨f.b, 0, none⟩ (cutS f)).setCell ⟨f.b, 2, none⟩ (.slice none 0 0)) B (cutF f) ∧ (∀ k, k ≠ f.b → ((w.setCell ⟨f.b, 0, none⟩ (cutS f)).setCell ⟨f.b, 2, none⟩ (.slice none 0 0)).heap[k]? = w.heap[k]?) ∧ Chg (fun k => k = f.b) w ((w.setCell ⟨f.b, 0, none⟩ (cutS f)).setCell ⟨f.b, 2, none⟩ (.slice none 0 0)) := by
  have k1 := (h.blk.set 0 (cutS f)).set 2 (.slice none 0 0)
  have hk : ∀ k, k ≠ f.b → ((w.setCell ⟨f.b, 0, none⟩ (cutS f)).setCell ⟨f.b, 2, none⟩ (.slice none 0 0)).heap[k]? = w.heap[k]? := fun k q => by
    rw [Below.heap_setCell _ _ _ _ q, Below.heap_setCell _ _ _ _ q]
  refine ⟨⟨h.lo, k1, own_block0 (cut_row h.row hm) fun g q => hk g ?_, ⟨rfl, .inl ⟨rfl, rfl⟩⟩⟩, hk, (Chg.of_set w f.b 0 _ (S := fun k => k = f.b) rfl).trans (Chg.of_set _ f.b 2 _ (S := fun k => k = f.b) rfl) fun k q => .inl q⟩
  obtain ⟨cur, hc⟩ := own_blk (cut_row h.row hm) q
  exact blk_ne0 hc h.blk (by decide)
theorem map_ent {fs : List Fl} (F : Fl → Fl) (h : ∀ f ∈ fs, (F f).n = f.n ∧ (F f).b = f.b) : mapD (fs.map F) = mapD fs := by
  unfold mapD
  rw [List.map_map]
  congr 1
  refine List.map_congr_left fun f hf => ?_
  obtain ⟨e1, e2⟩ := h f hf
  show (F f).ent = f.ent
  unfold Fl.ent Fl.key
  rw [e1, e2]
end Go.Proofs.Ytofkfafdodhmdaa
