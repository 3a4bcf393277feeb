/- Plain mathematics of a stable merge in place: elements with tags; less, or alike and with the smaller tag. No program in it. -/
import Derived.Test.YtfcnobcpnhfgmaaDoorGB
namespace Go.Proofs.YtfcnobcpnhfgmaaDoor
open Go.Sort

section
variable {α : Type} {lt : α → α → Bool} {tg : α → Nat}

/-- Less, or alike and tagged ahead. -/
def RT (lt : α → α → Bool) (tg : α → Nat) (x y : α) : Prop := lt x y = true ∨ (lt y x = false ∧ tg x < tg y)
def RS [Inhabited α] (lt : α → α → Bool) (tg : α → Nat) (a b : Nat) (d : Array α) : Prop := ∀ i j, a ≤ i → i < j → j < b → RT lt tg d[i]! d[j]!
def TL [Inhabited α] (tg : α → Nat) (a m b : Nat) (d : Array α) : Prop := ∀ i j, a ≤ i → i < m → m ≤ j → j < b → tg d[i]! < tg d[j]!

theorem swo_asym (h : SWO lt) {x y : α} (h1 : lt x y = true) : lt y x = false := by
  cases h2 : lt y x
  · rfl
  · have := h.trans _ _ _ h1 h2
    rw [h.irrefl] at this; cases this
theorem RT.le (h : SWO lt) {x y : α} (h1 : RT lt tg x y) : lt y x = false := by
  rcases h1 with h1 | ⟨h1, _⟩
  · exact swo_asym h h1
  · exact h1
theorem swo_lt_le (h : SWO lt) {x y z : α} (h1 : lt x y = true) (h2 : lt z y = false) : lt x z = true := by
  cases h3 : lt x z
  · have := h.ntrans _ _ _ h3 h2
    rw [h1] at this; cases this
  · rfl
theorem swo_le_lt (h : SWO lt) {x y z : α} (h1 : lt y x = false) (h2 : lt y z = true) : lt x z = true := by
  cases h3 : lt x z
  · have := h.ntrans _ _ _ h1 h3
    rw [h2] at this; cases this
  · rfl
variable [Inhabited α]
theorem RS.le (h : SWO lt) {a b : Nat} {d : Array α} (hs : RS lt tg a b d) {i j : Nat} (h1 : a ≤ i) (h2 : i ≤ j) (h3 : j < b) : lt d[j]! d[i]! = false := by
  by_cases e : i = j
  · subst e; exact h.irrefl _
  · exact (hs i j h1 (by omega) h3).le h

/-- One element is moved up. -/
structure UpR (a i : Nat) (d d' : Array α) : Prop where
  size : d'.size = d.size
  perm : ∀ lo hi, lo ≤ a → i < hi → hi ≤ d.size → PermIn lo hi d d'
  mid : ∀ t, a ≤ t → t < i → d'[t]! = d[t + 1]!
  at' : d'[i]! = d[a]!
  other : ∀ t, t < a ∨ i < t → d'[t]! = d[t]!
theorem UpR.zero (a : Nat) (d : Array α) : UpR a a d d := ⟨rfl, fun lo hi _ _ _ => permIn_refl d lo hi, fun t h1 h2 => absurd h1 (by omega), rfl, fun _ _ => rfl⟩
theorem UpR.next {a i : Nat} {d dk : Array α} (h : UpR a i d dk) (hai : a ≤ i) (hi : i + 1 < d.size) : UpR a (i + 1) d (swp dk i (i + 1)) := by
  have hs := h.size
  have hg := fun k => swp_get dk (i := i) (j := i + 1) (by omega) (by omega) k
  refine ⟨by rw [size_swp, hs], fun lo hi h1 h2 h3 => permIn_trans _ _ _ lo hi (h.perm lo hi h1 (by omega) h3) (swp_permIn dk lo hi i (i + 1) (by omega) (by omega) (by omega) (by omega) (by omega)), fun t h1 h2 => ?_, ?_, fun t ht => ?_⟩
  · rw [hg]
    by_cases e : t = i
    · subst e
      first
        | (rw [if_pos rfl]; exact h.other _ (by omega))
        | (rw [if_neg (by omega), if_pos rfl]; exact h.other _ (by omega))
    · rw [if_neg (by omega), if_neg (by omega)]
      exact h.mid t h1 (by omega)
  · rw [hg]
    first
      | (rw [if_pos rfl]; exact h.at')
      | (rw [if_neg (by omega), if_pos rfl]; exact h.at')
  · rw [hg, if_neg (by omega), if_neg (by omega)]
    exact h.other t (by omega)
/-- One element is moved down, from m to i. -/
structure DnR (m i : Nat) (d d' : Array α) : Prop where
  size : d'.size = d.size
  perm : ∀ lo hi, lo ≤ i → m < hi → hi ≤ d.size → PermIn lo hi d d'
  mid : ∀ t, i ≤ t → t < m → d'[t + 1]! = d[t]!
  at' : d'[i]! = d[m]!
  other : ∀ t, t < i ∨ m < t → d'[t]! = d[t]!
theorem DnR.zero (m : Nat) (d : Array α) : DnR m m d d := ⟨rfl, fun lo hi _ _ _ => permIn_refl d lo hi, fun t h1 h2 => absurd h1 (by omega), rfl, fun _ _ => rfl⟩
theorem DnR.next {m i : Nat} {d dk : Array α} (h : DnR m (i + 1) d dk) (him : i + 1 ≤ m) (hm : m < d.size) : DnR m i d (swp dk (i + 1) i) := by
  have hs := h.size
  have hg := fun k => swp_get dk (i := i + 1) (j := i) (by omega) (by omega) k
  refine ⟨by rw [size_swp, hs], fun lo hi h1 h2 h3 => permIn_trans _ _ _ lo hi (h.perm lo hi (by omega) h2 h3) (swp_permIn dk lo hi (i + 1) i (by omega) (by omega) (by omega) (by omega) (by omega)), fun t h1 h2 => ?_, ?_, fun t ht => ?_⟩
  · rw [hg]
    by_cases e : t = i
    · subst e
      first
        | (rw [if_pos rfl]; exact h.other _ (by omega))
        | (rw [if_neg (by omega), if_pos rfl]; exact h.other _ (by omega))
    · rw [if_neg (by omega), if_neg (by omega)]
      exact h.mid t (by omega) h2
  · rw [hg]
    first
      | (rw [if_pos rfl]; exact h.at')
      | (rw [if_neg (by omega), if_pos rfl]; exact h.at')
  · rw [hg, if_neg (by omega), if_neg (by omega)]
    exact h.other t (by omega)

/-- What a merge ends in. -/
def Mrg (lt : α → α → Bool) (tg : α → Nat) (a b : Nat) (d d' : Array α) : Prop := PermIn a b d d' ∧ RS lt tg a b d'

theorem merge_up {a b i : Nat} {d d' : Array α} (hr : RS lt tg (a + 1) b d) (ht : TL tg a (a + 1) b d) (hb : b ≤ d.size) (hi1 : a + 1 ≤ i) (hi2 : i ≤ b)
    (h1 : ∀ x, a + 1 ≤ x → x < i → lt d[x]! d[a]! = true) (h2 : ∀ x, i ≤ x → x < b → lt d[x]! d[a]! = false) (hu : UpR a (i - 1) d d') : Mrg lt tg a b d d' := by
  refine ⟨hu.perm a b (Nat.le_refl _) (by omega) hb, fun x y hx hxy hy => ?_⟩
  by_cases c1 : y < i - 1
  · rw [hu.mid x hx (by omega), hu.mid y (by omega) c1]
    exact hr _ _ (by omega) (by omega) (by omega)
  · by_cases c2 : y = i - 1
    · subst c2
      rw [hu.mid x hx hxy, hu.at']
      exact .inl (h1 _ (by omega) (by omega))
    · rw [hu.other y (by omega)]
      by_cases c3 : x < i - 1
      · rw [hu.mid x hx c3]
        exact hr _ _ (by omega) (by omega) hy
      · by_cases c4 : x = i - 1
        · subst c4
          rw [hu.at']
          exact .inr ⟨h2 y (by omega) hy, ht a y (Nat.le_refl _) (by omega) (by omega) hy⟩
        · rw [hu.other x (by omega)]
          exact hr _ _ (by omega) hxy hy
theorem merge_dn {a m i : Nat} {d d' : Array α} (hl : RS lt tg a m d) (ht : TL tg a m (m + 1) d) (hm : m + 1 ≤ d.size) (hi1 : a ≤ i) (hi2 : i ≤ m)
    (h1 : ∀ x, a ≤ x → x < i → lt d[m]! d[x]! = false) (h2 : ∀ x, i ≤ x → x < m → lt d[m]! d[x]! = true) (hu : DnR m i d d') : Mrg lt tg a (m + 1) d d' := by
  refine ⟨hu.perm a (m + 1) hi1 (by omega) hm, fun x y hx hxy hy => ?_⟩
  by_cases c1 : y < i
  · rw [hu.other x (by omega), hu.other y (by omega)]
    exact hl _ _ hx hxy (by omega)
  · by_cases c2 : y = i
    · subst c2
      rw [hu.other x (by omega), hu.at']
      exact .inr ⟨h1 x hx hxy, ht x m hx (by omega) (Nat.le_refl _) (by omega)⟩
    · have hy' := hu.mid (y - 1) (by omega) (by omega)
      rw [show y - 1 + 1 = y by omega] at hy'
      rw [hy']
      by_cases c3 : x < i
      · rw [hu.other x (by omega)]
        exact hl _ _ hx (by omega) (by omega)
      · by_cases c4 : x = i
        · subst c4
          rw [hu.at']
          exact .inl (h2 _ (by omega) (by omega))
        · have hx' := hu.mid (x - 1) (by omega) (by omega)
          rw [show x - 1 + 1 = x by omega] at hx'
          rw [hx']
          exact hl _ _ (by omega) (by omega) (by omega)

/-- Where a merge is cut: what stays to the left isn't greater than what stays to the right, what changes sides is less. -/
structure Cut (lt : α → α → Bool) (a m b s e : Nat) (d : Array α) : Prop where
  h1 : a ≤ s
  h2 : s ≤ m
  h3 : m ≤ e
  h4 : e ≤ b
  c1 : ∀ x y, a ≤ x → x < s → e ≤ y → y < b → lt d[y]! d[x]! = false
  c2 : ∀ x y, s ≤ x → x < m → m ≤ y → y < e → lt d[y]! d[x]! = true

theorem rot_at {s m e : Nat} {d d1 : Array α} (hr : RotR s m e d d1) (h3 : m ≤ e) (x : Nat) :
    (s ≤ x ∧ x < s + (e - m) ∧ d1[x]! = d[m + (x - s)]!) ∨ (s + (e - m) ≤ x ∧ x < e ∧ d1[x]! = d[s + (x - (s + (e - m)))]!) ∨ ((x < s ∨ e ≤ x) ∧ d1[x]! = d[x]!) := by
  by_cases c1 : x < s ∨ e ≤ x
  · exact .inr (.inr ⟨c1, hr.other x c1⟩)
  · by_cases c2 : x < s + (e - m)
    · refine .inl ⟨by omega, c2, ?_⟩
      have := hr.fst (x - s) (by omega)
      rwa [show s + (x - s) = x by omega] at this
    · refine .inr (.inl ⟨by omega, by omega, ?_⟩)
      have := hr.snd (x - (s + (e - m))) (by omega)
      rwa [show s + (e - m) + (x - (s + (e - m))) = x by omega] at this

/-- What a cut and its rotation leave to the two halves' merges. -/
theorem cut_left {a m b s e : Nat} {d d1 : Array α} (hc : Cut lt a m b s e d) (hl : RS lt tg a m d) (hr : RS lt tg m b d) (ht : TL tg a m b d) (hR : RotR s m e d d1) :
    RS lt tg a s d1 ∧ RS lt tg s (s + (e - m)) d1 ∧ TL tg a s (s + (e - m)) d1 := by
  obtain ⟨q1, q2, q3, q4, _, _⟩ := hc
  refine ⟨fun x y hx hxy hy => ?_, fun x y hx hxy hy => ?_, fun x y hx hxs hy hy2 => ?_⟩
  · rw [hR.other x (by omega), hR.other y (by omega)]
    exact hl x y hx hxy (by omega)
  · rcases rot_at hR q3 x with ⟨_, _, e1⟩ | ⟨_, _, _⟩ | ⟨_, _⟩
    · rcases rot_at hR q3 y with ⟨_, _, e2⟩ | ⟨_, _, _⟩ | ⟨_, _⟩
      · rw [e1, e2]
        exact hr _ _ (by omega) (by omega) (by omega)
      · omega
      · omega
    · omega
    · omega
  · rcases rot_at hR q3 y with ⟨_, _, e2⟩ | ⟨_, _, _⟩ | ⟨_, _⟩
    · rw [hR.other x (by omega), e2]
      exact ht _ _ hx (by omega) (by omega) (by omega)
    · omega
    · omega
theorem cut_right {a m b s e : Nat} {d d1 d2 : Array α} (hc : Cut lt a m b s e d) (hl : RS lt tg a m d) (hr : RS lt tg m b d) (ht : TL tg a m b d) (hR : RotR s m e d d1) (h12 : ∀ i, s + (e - m) ≤ i → d2[i]! = d1[i]!) :
    RS lt tg (s + (e - m)) e d2 ∧ RS lt tg e b d2 ∧ TL tg (s + (e - m)) e b d2 := by
  obtain ⟨q1, q2, q3, q4, _, _⟩ := hc
  refine ⟨fun x y hx hxy hy => ?_, fun x y hx hxy hy => ?_, fun x y hx hxs hy hy2 => ?_⟩
  · rw [h12 x hx, h12 y (by omega)]
    rcases rot_at hR q3 x with ⟨_, _, _⟩ | ⟨_, _, e1⟩ | ⟨_, _⟩
    · omega
    · rcases rot_at hR q3 y with ⟨_, _, _⟩ | ⟨_, _, e2⟩ | ⟨_, _⟩
      · omega
      · rw [e1, e2]
        exact hl _ _ (by omega) (by omega) (by omega)
      · omega
    · omega
  · rw [h12 x (by omega), h12 y (by omega), hR.other x (by omega), hR.other y (by omega)]
    exact hr _ _ (by omega) hxy hy
  · rw [h12 x hx, h12 y (by omega), hR.other y (by omega)]
    rcases rot_at hR q3 x with ⟨_, _, _⟩ | ⟨_, _, e1⟩ | ⟨_, _⟩
    · omega
    · rw [e1]
      exact ht _ _ (by omega) (by omega) (by omega) hy2
    · omega
theorem cut_fin {a m b s e : Nat} {d d1 d2 d3 : Array α} (hb : b ≤ d.size) (hc : Cut lt a m b s e d) (hl : RS lt tg a m d) (hr : RS lt tg m b d) (ht : TL tg a m b d) (hR : RotR s m e d d1)
    (hL : Mrg lt tg a (s + (e - m)) d1 d2) (hRt : Mrg lt tg (s + (e - m)) b d2 d3) : Mrg lt tg a b d d3 := by
  have hc' := hc
  obtain ⟨q1, q2, q3, q4, c1, c2⟩ := hc'
  have z1 : d1.size = d.size := hR.size
  have z2 : d2.size = d1.size := hL.1.1
  refine ⟨permIn_trans _ _ _ a b (hR.perm a b q1 q4 hb) (permIn_trans _ _ _ a b (permIn_mono _ _ _ _ _ _ (Nat.le_refl _) (by omega) (by omega) hL.1) (permIn_mono _ _ _ _ _ _ (by omega) (Nat.le_refl _) (by omega) hRt.1)), fun x y hx hxy hy => ?_⟩
  by_cases cy : y < s + (e - m)
  · rw [hRt.1.2.1 x (by omega), hRt.1.2.1 y (by omega)]
    exact hL.2 x y hx hxy cy
  · by_cases cx : s + (e - m) ≤ x
    · exact hRt.2 x y cx hxy hy
    · rw [hRt.1.2.1 x (by omega)]
      have key : ∀ u v, a ≤ u → u < s + (e - m) → s + (e - m) ≤ v → v < b → RT lt tg d1[u]! d1[v]! := fun u v hu hu2 hv hv2 => by
        rcases rot_at hR q3 u with ⟨_, _, e1⟩ | ⟨_, _, _⟩ | ⟨cu, e1⟩
        · rcases rot_at hR q3 v with ⟨_, _, _⟩ | ⟨_, _, e2⟩ | ⟨cv, e2⟩
          · omega
          · rw [e1, e2]
            exact .inl (c2 _ _ (by omega) (by omega) (by omega) (by omega))
          · rw [e1, e2]
            exact hr _ _ (by omega) (by omega) hv2
        · omega
        · rcases rot_at hR q3 v with ⟨_, _, _⟩ | ⟨_, _, e2⟩ | ⟨cv, e2⟩
          · omega
          · rw [e1, e2]
            exact hl _ _ hu (by omega) (by omega)
          · rw [e1, e2]
            exact .inr ⟨c1 u v hu (by omega) (by omega) hv2, ht u v hu (by omega) (by omega) hv2⟩
      have k2 : ∀ v, s + (e - m) ≤ v → v < b → RT lt tg d2[x]! d1[v]! := fun v hv hv2 =>
        permIn_all d1 d2 a (s + (e - m)) (fun z => RT lt tg z d1[v]!) (by omega) hL.1 (fun u hu hu2 => key u v hu hu2 hv hv2) x hx (by omega)
      exact permIn_all d2 d3 (s + (e - m)) b (fun z => RT lt tg d2[x]! z) (by omega) hRt.1 (fun v hv hv2 => by rw [hL.1.2.1 v (by omega)]; exact k2 v hv hv2) y (by omega) hy
end
end Go.Proofs.YtfcnobcpnhfgmaaDoor
