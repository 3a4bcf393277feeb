/- The statement of layer 6: with what is needed alone the same is seen, now and later. Conditions: the argument stands, its numbers are of 64 bits; the tables of utf8 read as they are laid. -/
import Derived.Test.YtlkbhohpgfhbmaaDoorT3
namespace Go.Proofs.YtlkbhohpgfhbmaaDoor
open Go.RowKit

theorem seenL_sub (ver life now : Int) (s : List CT) : ∀ c ∈ seenL ver life now s, c ∈ s := by
  have go : ∀ (m : List CT) (g : SG), ∀ c ∈ seenF ver life now g m, c ∈ m := by
    intro m
    induction m with
    | nil => intro g c hc; cases hc
    | cons a m ih =>
      intro g c hc
      have hc : c ∈ (if (g.lets a ver life now).2 = true then a :: seenF ver life now (g.lets a ver life now).1 m else seenF ver life now (g.lets a ver life now).1 m) := hc
      split at hc
      · rcases List.mem_cons.1 hc with rfl | hc
        · exact List.mem_cons_self
        · exact List.mem_cons_of_mem _ (ih _ c hc)
      · exact List.mem_cons_of_mem _ (ih _ c hc)
  intro c hc
  unfold seenL at hc
  split at hc
  · exact go s _ c hc
  · cases hc

set_option maxHeartbeats 4000000 in
set_option maxRecDepth 100000 in
theorem cellsame_any (v : Value) (l : List CT) (ver life now later : Int) (w : World) (h : ClA w v l) (hv : ∀ c ∈ l, inI c.vn) (hL : LaidU w) :
    Calls Tryd.prog 5 #[v, .int .i64 ver, .int .i64 life, .int .i64 now, .int .i64 later] w fun e w' => e = .returned (.bool true) ∧ Below w.heap.size w w' := by
  have mixed : Tryd.prog.follows .mixedOrders = true := by kernel_rfl
  have HA := hid (alive_any w hL)
  have HLg : Hid (∀ W, Below w.heap.size w W → Calls Tryd.prog 25 #[v] W fun e w' => e = .returned (.bool (longC l)) ∧ Below W.heap.size W w') := fun W hb => long_any v l W (h.below hb)
  cases hg : longC l with
  | true =>
    rw [hg] at HLg
    clear h hv hL hg
    go_enter Tryd.func5, Tryd.ntmps5
    go_wp2_with (first | (go_at_call 24; refine HA.out.mono ?_; rintro e w5 ⟨rfl, hb5⟩) | (go_at_call 25; refine (HLg.out _ hb5).mono ?_; rintro e w6 ⟨rfl, hb6⟩; have BW := hid (hb5.trans (hb6.mono hb5.size))))
    all_goals (go_ret; exact ⟨rfl, BW.out⟩)
  | false =>
    rw [hg] at HLg
    by_cases gd : now < 0 ∨ 1125899906842624 < now ∨ later < now ∨ 1125899906842624 < later ∨ 1125899906842624 < life
    · clear h hv hL hg
      go_enter Tryd.func5, Tryd.ntmps5
      rcases gd with g | g | g | g | g
      all_goals (
        go_wp2_with (first | (go_at_call 24; refine HA.out.mono ?_; rintro e w5 ⟨rfl, hb5⟩) | (go_at_call 25; refine (HLg.out _ hb5).mono ?_; rintro e w6 ⟨rfl, hb6⟩; have BW := hid (hb5.trans (hb6.mono hb5.size))))
        all_goals (go_ret; exact ⟨rfl, BW.out⟩))
    · have g1 : ¬ now < 0 := fun q => gd (.inl q)
      have g2 : ¬ 1125899906842624 < now := fun q => gd (.inr (.inl q))
      have g3 : ¬ later < now := fun q => gd (.inr (.inr (.inl q)))
      have g4 : ¬ 1125899906842624 < later := fun q => gd (.inr (.inr (.inr (.inl q))))
      have g5 : ¬ 1125899906842624 < life := fun q => gd (.inr (.inr (.inr (.inr q))))
      have okl := (longC_ok hg hv).2
      have lnl := (longC_ok hg hv).1
      have HOk : Hid (∀ x s, SortOf l s → (seenL ver life x s).length ≤ 100000 ∧ ∀ c ∈ seenL ver life x s, okC c) := fun x s hs => ⟨Nat.le_trans (seenL_len ver life x s) (Nat.le_trans hs.len lnl), fun c hc => okl c (hs.mem (seenL_sub ver life x s c hc)).1⟩
      have HS : Hid (∀ (x : Int) (W : World), Below w.heap.size w W → Calls Tryd.prog 31 #[v, .int .i64 ver, .int .i64 life, .int .i64 x] W fun e w' => ∃ v' s, e = .returned v' ∧ CRow w' W.heap.size v' (seenL ver life x s) ∧ Hid (SortOf l s) ∧ Below W.heap.size W w') := fun x W hb => (cseen_any v l lnl ver life x W (h.below hb) okl (hL.below hb)).mono fun _ _ ⟨v', s, h1, h2, h3, h4⟩ => ⟨v', s, h1, h3, h2, h4⟩
      have HN : Hid (∀ (x : Int) (W : World), Below w.heap.size w W → Calls Tryd.prog 32 #[v, .int .i64 ver, .int .i64 life, .int .i64 x] W fun e w' => ∃ v' s, e = .returned v' ∧ CRow w' W.heap.size v' (seenL ver life x s) ∧ Hid (SortOf l s) ∧ Below W.heap.size W w') := fun x W hb => (cneeded_any v l lnl ver life x W (h.below hb) okl (hL.below hb)).mono fun _ _ ⟨v', s, h1, h2, h3, h4⟩ => ⟨v', s, h1, h3, h2, h4⟩
      have HT : Hid (∀ (x y : Int) (s : List CT) (W : World) (vm : Value), SortOf l s → Below w.heap.size w W → ClA W vm (seenL ver life x s) → Calls Tryd.prog 31 #[vm, .int .i64 ver, .int .i64 life, .int .i64 y] W fun e w' => ∃ v' t, e = .returned v' ∧ CRow w' W.heap.size v' (seenL ver life y t) ∧ Hid (SortOf (seenL ver life x s) t) ∧ Below W.heap.size W w') := fun x y s W vm hs hb hc => (cseen_any vm _ (HOk.out x s hs).1 ver life y W hc (HOk.out x s hs).2 (hL.below hb)).mono fun _ _ ⟨v', t, h1, h2, h3, h4⟩ => ⟨v', t, h1, h3, h2, h4⟩
      have HQ1 : Hid (∀ s t, SortOf l s → SortOf (seenL ver life now s) t → decide (seenL ver life now t = seenL ver life now s) = true) := fun s t h1 h2 => decide_eq_true (same_all h1 (Int.le_refl _) (by omega) h2)
      have HQ2 : Hid (∀ s s' t, SortOf l s → SortOf l s' → SortOf (seenL ver life now s) t → decide (seenL ver life later t = seenL ver life later s') = true) := fun s s' t h1 h1' h2 => decide_eq_true (by rw [h1'.uniq h1]; exact same_all h1 (by omega) (by omega) h2)
      have HSC := hid samecells_any
      clear h hv hL hg gd okl lnl
      go_enter Tryd.func5, Tryd.ntmps5
      go_wp2_with (first
        | (go_at_call 24; refine HA.out.mono ?_; rintro e w5 ⟨rfl, hb5⟩)
        | (go_at_call 25; refine (HLg.out _ hb5).mono ?_; rintro e w6 ⟨rfl, hb6⟩; have B6 := hid (hb5.trans (hb6.mono hb5.size)); clear HA HLg)
        | (go_at_call 32; refine (HN.out _ _ B7.out).mono ?_; rintro e w8 ⟨v8, s8, rfl, hr8, hq8, hb8⟩; have R8 := hid hr8; have R78 := hid (R7.out.below hb8); have B8 := hid (B7.out.trans (hb8.mono B7.out.size)); clear hr8 hb8)
        | (go_at_call 30; refine (HSC.out _ _ _ _ _ R1011.out.cla R11.out.cla).mono ?_; rintro e w12 ⟨rfl, hb12⟩; rw [HQ2.out _ _ _ hq8.out hq11.out hq10.out]; have B12 := hid (B11.out.trans (hb12.mono B11.out.size)))
        | (go_at_call 30; refine (HSC.out _ _ _ _ _ R9.out.cla R79.out.cla).mono ?_; rintro e w10 ⟨rfl, hb10⟩; rw [HQ1.out _ _ hq7.out hq9.out]; have R810 := hid (R89.out.below hb10); have B10 := hid (B9.out.trans (hb10.mono B9.out.size)); clear R9 R79 R89 hb10)
        | (go_at_call 31; refine (HS.out _ _ B11p.out).mono ?_; rintro e w11 ⟨v11, s11, rfl, hr11, hq11, hb11⟩; have R11 := hid hr11; have R1011 := hid (R10.out.below hb11); have B11 := hid (B11p.out.trans (hb11.mono B11p.out.size)); clear hr11 hb11)
        | (go_at_call 31; refine (HT.out _ _ _ _ _ hq8.out B10.out R810.out.cla).mono ?_; rintro e w11 ⟨v10, t10, rfl, hr10, hq10, hb10⟩; have R10 := hid hr10; have B11p := hid (B10.out.trans (hb10.mono B10.out.size)); clear hr10 hb10)
        | (go_at_call 31; refine (HT.out _ _ _ _ _ hq7.out B8.out R78.out.cla).mono ?_; rintro e w9 ⟨v9, t9, rfl, hr9, hq9, hb9⟩; have R9 := hid hr9; have R79 := hid (R78.out.below hb9); have R89 := hid (R8.out.below hb9); have B9 := hid (B8.out.trans (hb9.mono B8.out.size)); clear hr9 hb9)
        | (go_at_call 31; refine (HS.out _ _ B6.out).mono ?_; rintro e w7 ⟨v7, s7, rfl, hr7, hq7, hb7⟩; have R7 := hid hr7; have B7 := hid (B6.out.trans (hb7.mono B6.out.size)); clear hr7 hb7))
      all_goals (go_ret; exact ⟨rfl, by first | exact B12.out | exact B10.out | exact B6.out⟩)
end Go.Proofs.YtlkbhohpgfhbmaaDoor
