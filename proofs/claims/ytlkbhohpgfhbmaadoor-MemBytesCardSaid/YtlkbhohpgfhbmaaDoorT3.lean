/- Several texts in one: ID IE JA JB JF JC JD KA KB. Conditions: as each theorem names them. -/
import Derived.Test.YtlkbhohpgfhbmaaDoorT2
import Derived.Deep.QuietTactic
/- What is let of sorted cells: of each column no more than so many, the latest first. -/
namespace Go.Proofs.YtlkbhohpgfhbmaaDoor
open Go.RowKit

theorem cmp_lex (x y : CT) : CT.cmp x y = (if Lib.compareBytes x.r.data.toList y.r.data.toList = 0 then (if Lib.compareBytes x.f.data.toList y.f.data.toList = 0 then (if Lib.compareInt (rankC x.k) (rankC y.k) = 0 then (if Lib.compareBytes x.q.data.toList y.q.data.toList = 0 then (if Lib.compareInt (-x.t) (-y.t) = 0 then (if Lib.compareInt (-x.k) (-y.k) = 0 then 0 else Lib.compareInt (-x.k) (-y.k)) else Lib.compareInt (-x.t) (-y.t)) else Lib.compareBytes x.q.data.toList y.q.data.toList) else Lib.compareInt (rankC x.k) (rankC y.k)) else Lib.compareBytes x.f.data.toList y.f.data.toList) else Lib.compareBytes x.r.data.toList y.r.data.toList) := by
  have n1 : ∀ a b : Int, Lib.compareInt b a = Lib.compareInt (-a) (-b) := fun a b => by unfold Lib.compareInt; split <;> (try split) <;> (try split) <;> (try split) <;> omega
  unfold CT.cmp cOrd
  simp only [orI_cons, n1 x.t y.t, n1 x.k y.k]
  rfl
theorem lex_le {f g : Int} (h : (if f = 0 then g else f) ≤ 0) : f ≤ 0 ∧ (f = 0 → g ≤ 0) := by
  split at h
  · exact ⟨by omega, fun _ => h⟩
  · exact ⟨h, fun e => by omega⟩
theorem ba_eq {x y : ByteArray} (h : x.data.toList = y.data.toList) : x = y := by
  apply ByteArray.ext
  exact Array.toList_inj.1 h
theorem ba_between {x y : ByteArray} (h1 : Lib.compareBytes x.data.toList y.data.toList ≤ 0) (h2 : Lib.compareBytes y.data.toList x.data.toList ≤ 0) : x = y := by
  have := cmpB_neg x.data.toList y.data.toList
  exact ba_eq (cmpB_zero _ _ (by omega))
theorem int_le {a b : Int} (h : Lib.compareInt a b ≤ 0) : a ≤ b := by
  unfold Lib.compareInt at h
  split at h
  · omega
  · split at h <;> omega
theorem int_self (a : Int) : Lib.compareInt a a = 0 := by
  unfold Lib.compareInt
  split
  · omega
  · rfl
theorem int_lt {a b : Int} (h : Lib.compareInt a b < 0) : a < b := by
  unfold Lib.compareInt at h
  split at h
  · assumption
  · split at h <;> omega

/-- Of one column. -/
abbrev colC (c d : CT) : Prop := c.r = d.r ∧ c.f = d.f ∧ c.q = d.q
/-- What stands between a column's put and another cell of the column is of the column. -/
theorem col_between {d a c : CT} (h : colC c d) (hk : d.k = 1) (h1 : CT.cmp d a ≤ 0) (h2 : CT.cmp a c ≤ 0) : colC c a ∧ c.k ≠ 4 := by
  obtain ⟨hr, hf, hq⟩ := h
  rw [cmp_lex] at h1 h2
  obtain ⟨r1, h1⟩ := lex_le h1
  obtain ⟨r2, h2⟩ := lex_le h2
  rw [hr] at r2
  have er : d.r = a.r := ba_between r1 r2
  have h1 := h1 (by rw [er]; exact cmpB_self _)
  have h2 := h2 (by rw [hr, er]; exact cmpB_self _)
  obtain ⟨f1, h1⟩ := lex_le h1
  obtain ⟨f2, h2⟩ := lex_le h2
  rw [hf] at f2
  have ef : d.f = a.f := ba_between f1 f2
  have h1 := h1 (by rw [ef]; exact cmpB_self _)
  have h2 := h2 (by rw [hf, ef]; exact cmpB_self _)
  obtain ⟨k1, h1⟩ := lex_le h1
  obtain ⟨k2, h2⟩ := lex_le h2
  have k1 := int_le k1
  have k2 := int_le k2
  have kd : rankC d.k = 1 := by rw [hk]; rfl
  have ka : rankC a.k ≤ 1 := by unfold rankC; split <;> omega
  have kc : rankC c.k ≤ 1 := by unfold rankC; split <;> omega
  have h1 := h1 (by rw [show rankC a.k = rankC d.k by omega]; exact int_self _)
  have h2 := h2 (by rw [show rankC c.k = rankC a.k by omega]; exact int_self _)
  obtain ⟨q1, _⟩ := lex_le h1
  obtain ⟨q2, _⟩ := lex_le h2
  rw [hq] at q2
  have eq : d.q = a.q := ba_between q1 q2
  refine ⟨⟨hr.trans er, hf.trans ef, hq.trans eq⟩, fun h4 => ?_⟩
  have : rankC c.k = 0 := by rw [h4]; rfl
  omega
theorem col_time {d c : CT} (h : colC c d) (hd : d.k = 1) (hc : c.k = 1) (h1 : CT.cmp d c < 0) : c.t < d.t := by
  obtain ⟨hr, hf, hq⟩ := h
  rw [cmp_lex, hr, hf, hq, hd, hc, if_pos (cmpB_self _), if_pos (cmpB_self _), if_pos (int_self _), if_pos (cmpB_self _)] at h1
  have := lex_le (Int.le_of_lt h1)
  by_cases e : Lib.compareInt (-d.t) (-c.t) = 0
  · rw [if_pos e, if_pos (int_self _)] at h1; omega
  · have := int_lt (a := -d.t) (b := -c.t) (by omega)
    omega

/-- The statement's walk: the last cell, how many of its column there are. -/
def fewM (ver : Int) : Option CT → Int → List CT → Bool
  | _, _, [] => true
  | p, n, c :: l =>
    if c.k ≠ 1 then false
    else match p with
      | some d => if colC c d then (if d.t ≤ c.t then false else if ver < IntKind.i64.wrap (n + 1) then false else fewM ver (some c) (IntKind.i64.wrap (n + 1)) l) else if ver < 1 then false else fewM ver (some c) 1 l
      | none => if ver < 1 then false else fewM ver (some c) 1 l

/-- How the sight stands to what has been let. -/
def FewI (g : SG) (p : Option CT) (n : Int) (m : List CT) : Prop :=
  0 ≤ g.seen ∧ g.seen ≤ 8 ∧ (p = none → g.seen = 0) ∧ ∀ d, p = some d → d.k = 1 ∧ CT.cmp d g.at' ≤ 0 ∧ (∀ c ∈ m, CT.cmp g.at' c < 0) ∧ (if colC g.at' d then g.seen = n else g.seen = 0)

theorem move_seen (g : SG) (c : CT) : (g.move c).at' = c ∧ (g.move c).seen = if colC c g.at' then g.seen else 0 := by
  unfold SG.move
  by_cases h1 : c.r ≠ g.at'.r ∨ c.f ≠ g.at'.f
  · rw [if_pos h1, if_neg (by rintro ⟨a, b, _⟩; rcases h1 with h | h <;> contradiction)]
    exact ⟨rfl, rfl⟩
  · rw [if_neg h1]
    by_cases h2 : c.q ≠ g.at'.q
    · rw [if_pos h2, if_neg (by rintro ⟨_, _, b⟩; contradiction)]
      exact ⟨rfl, rfl⟩
    · rw [if_neg h2, if_pos (by
        refine ⟨?_, ?_, ?_⟩
        · false_or_by_contra; rename_i q; exact h1 (.inl q)
        · false_or_by_contra; rename_i q; exact h1 (.inr q)
        · false_or_by_contra; rename_i q; exact h2 q)]
      exact ⟨rfl, rfl⟩
theorem lets_seen (g : SG) (c : CT) (ver life now : Int) : (g.lets c ver life now).1.at' = c ∧
    (((g.lets c ver life now).2 = true ∧ c.k = 1 ∧ (g.move c).seen < ver ∧ (g.lets c ver life now).1.seen = IntKind.i64.wrap ((g.move c).seen + 1)) ∨ ((g.lets c ver life now).2 = false ∧ (g.lets c ver life now).1.seen = (g.move c).seen)) := by
  have hm := (move_seen g c).1
  unfold SG.lets
  simp only
  split
  · exact ⟨hm, .inr ⟨rfl, rfl⟩⟩
  · split
    · exact ⟨hm, .inr ⟨rfl, rfl⟩⟩
    · split
      · exact ⟨hm, .inr ⟨rfl, rfl⟩⟩
      · split
        · rename_i h
          exact ⟨hm, .inl ⟨rfl, h.1, h.2.2.2, rfl⟩⟩
        · exact ⟨hm, .inr ⟨rfl, rfl⟩⟩

theorem few_go (ver life now : Int) (h8 : ver ≤ 8) : ∀ (m : List CT) (g : SG) (p : Option CT) (n : Int), m.Pairwise (fun x y => CT.cmp x y < 0) → FewI g p n m → fewM ver p n (seenF ver life now g m) = true
  | [], _, _, _, _, _ => rfl
  | c :: m, g, p, n, hp, hI => by
    obtain ⟨hc, hp'⟩ := List.pairwise_cons.1 hp
    obtain ⟨i0, i8, iN, iS⟩ := hI
    obtain ⟨ha, hs⟩ := lets_seen g c ver life now
    have hmv := (move_seen g c).2
    obtain ⟨G, hG⟩ : ∃ G, (g.lets c ver life now).1 = G := ⟨_, rfl⟩
    show fewM ver p n (if (g.lets c ver life now).2 = true then c :: seenF ver life now (g.lets c ver life now).1 m else seenF ver life now (g.lets c ver life now).1 m) = true
    rw [hG] at ha hs ⊢
    have m0 : 0 ≤ (g.move c).seen ∧ (g.move c).seen ≤ 8 := by rw [hmv]; split <;> omega
    rcases hs with ⟨h2, hk, hlt, hse⟩ | ⟨h2, hse⟩
    · rw [if_pos h2]
      have hw : IntKind.i64.wrap ((g.move c).seen + 1) = (g.move c).seen + 1 := by rw [IntKind.wrap_i64]; omega
      rw [hw] at hse
      have next : ∀ n', G.seen = n' → FewI G (some c) n' m := fun n' hn => by
        refine ⟨by omega, by omega, (fun h => by cases h), fun d hd => ?_⟩
        cases hd
        refine ⟨hk, by rw [ha, ct_c3.zero]; omega, fun x hx => by rw [ha]; exact hc x hx, ?_⟩
        rw [ha, if_pos ⟨rfl, rfl, rfl⟩]
        exact hn
      unfold fewM
      rw [if_neg (by omega)]
      cases p with
      | none =>
        have z := iN rfl
        have z2 : (g.move c).seen = 0 := by rw [hmv]; split <;> omega
        simp only
        rw [if_neg (by omega)]
        exact few_go ver life now h8 m G (some c) 1 hp' (next 1 (by omega))
      | some d =>
        obtain ⟨dk, d1, d2, d3⟩ := iS d rfl
        have hdc : CT.cmp d c < 0 := ct_c3.le_lt d1 (d2 c List.mem_cons_self)
        simp only
        by_cases hcol : colC c d
        · rw [if_pos hcol]
          have ht := col_time hcol dk hk hdc
          rw [if_neg (by omega)]
          have hca := (col_between hcol dk d1 (Int.le_of_lt (d2 c List.mem_cons_self))).1
          rw [if_pos ⟨hca.1.symm.trans hcol.1, hca.2.1.symm.trans hcol.2.1, hca.2.2.symm.trans hcol.2.2⟩] at d3
          rw [if_pos hca] at hmv
          have hw2 : IntKind.i64.wrap (n + 1) = n + 1 := by rw [IntKind.wrap_i64]; omega
          rw [hw2, if_neg (by omega)]
          exact few_go ver life now h8 m G (some c) (n + 1) hp' (next (n + 1) (by omega))
        · rw [if_neg hcol]
          have z2 : (g.move c).seen = 0 := by
            rw [hmv]
            by_cases hca : colC c g.at'
            · rw [if_pos hca]
              rw [if_neg (fun q => hcol ⟨hca.1.trans q.1, hca.2.1.trans q.2.1, hca.2.2.trans q.2.2⟩)] at d3
              exact d3
            · rw [if_neg hca]
          rw [if_neg (by omega)]
          exact few_go ver life now h8 m G (some c) 1 hp' (next 1 (by omega))
    · rw [if_neg (by rw [h2]; decide)]
      refine few_go ver life now h8 m G p n hp' ⟨by omega, by omega, fun h => ?_, fun d hd => ?_⟩
      · have z := iN h
        rw [hse, hmv]; split <;> omega
      · obtain ⟨dk, d1, d2, d3⟩ := iS d hd
        have hac := d2 c List.mem_cons_self
        refine ⟨dk, by rw [ha]; exact Int.le_of_lt (ct_c3.le_lt d1 hac), fun x hx => by rw [ha]; exact hc x hx, ?_⟩
        rw [ha, hse, hmv]
        by_cases hcol : colC c d
        · rw [if_pos hcol]
          have hca := (col_between hcol dk d1 (Int.le_of_lt hac)).1
          rw [if_pos ⟨hca.1.symm.trans hcol.1, hca.2.1.symm.trans hcol.2.1, hca.2.2.symm.trans hcol.2.2⟩] at d3
          rw [if_pos hca]
          exact d3
        · rw [if_neg hcol]
          by_cases hca : colC c g.at'
          · rw [if_pos hca]
            rw [if_neg (fun q => hcol ⟨hca.1.trans q.1, hca.2.1.trans q.2.1, hca.2.2.trans q.2.2⟩)] at d3
            exact d3
          · rw [if_neg hca]
/-- Of each column no more than so many, the latest first. -/
theorem few_all {l s : List CT} (h : SortOf l s) (ver life now : Int) : fewM ver none 0 (seenL ver life now s) = true := by
  unfold seenL
  split
  · rename_i hr
    have h8 : ver ≤ 8 := by
      unfold rightM at hr
      simp only [Bool.and_eq_true, decide_eq_true_eq] at hr
      exact hr.2.1
    exact few_go ver life now h8 s SG.zero none 0 h.rise ⟨by decide, by decide, fun _ => rfl, fun d hd => by cases hd⟩
  · rfl
end Go.Proofs.YtlkbhohpgfhbmaaDoor

/- The statement of layer 6: no column has more than so many versions to be seen. Conditions: the arguments stand, their numbers are of 64 bits; the tables of utf8 read as they are laid. -/
namespace Go.Proofs.YtlkbhohpgfhbmaaDoor
open Go.RowKit

set_option maxHeartbeats 1000000 in
theorem long_any (v : Value) (l : List CT) (w : World) (h : ClA w v l) :
    Calls Tryd.prog 25 #[v] w fun e w' => e = .returned (.bool (longC l)) ∧ Below w.heap.size w w' := by
  have HL := hid (longcells_any v l w h)
  clear h
  go_enter Tryd.func25, Tryd.ntmps25
  go_wp2_with (go_at_call 35; refine HL.out.mono ?_; rintro e w5 ⟨rfl, hb5⟩)
  go_ret
  exact ⟨rfl, hb5⟩
theorem longC_ok {l : List CT} (h : longC l = false) (hv : ∀ c ∈ l, inI c.vn) : l.length ≤ 100000 ∧ ∀ c ∈ l, okC c := by
  unfold longC at h
  rw [Bool.or_eq_false_iff] at h
  obtain ⟨h1, h2⟩ := h
  have h1 := of_decide_eq_false h1
  refine ⟨by omega, fun c hc => ?_⟩
  have h3 : longC1 c = false := by
    cases e : longC1 c with
    | false => rfl
    | true =>
      rw [List.any_eq_true.2 ⟨c, hc, e⟩] at h2
      cases h2
  unfold longC1 at h3
  simp only [Bool.or_eq_false_iff, decide_eq_false_iff_not] at h3
  exact ⟨by omega, by omega, hv c hc⟩

set_option maxHeartbeats 4000000 in
set_option maxRecDepth 100000 in
theorem cellfew_any (v : Value) (l : List CT) (ver life now : Int) (w : World) (h : ClA w v l) (hv : ∀ c ∈ l, inI c.vn) (hL : LaidU w) :
    Calls Tryd.prog 7 #[v, .int .i64 ver, .int .i64 life, .int .i64 now] w fun e w' => e = .returned (.bool true) ∧ Below w.heap.size w w' := by
  have mixed : Tryd.prog.follows .mixedOrders = true := by kernel_rfl
  have HA := hid (alive_any w hL)
  have HLg : Hid (∀ W, Below w.heap.size w W → Calls Tryd.prog 25 #[v] W fun e w' => e = .returned (.bool (longC l)) ∧ Below W.heap.size W w') := fun W hb => long_any v l W (h.below hb)
  cases hg : longC l with
  | true =>
    rw [hg] at HLg
    clear h hv hL hg
    go_enter Tryd.func7, Tryd.ntmps7
    go_wp2_with (first | (go_at_call 24; refine HA.out.mono ?_; rintro e w5 ⟨rfl, hb5⟩) | (go_at_call 25; refine (HLg.out _ hb5).mono ?_; rintro e w6 ⟨rfl, hb6⟩))
    go_ret
    exact ⟨rfl, hb5.trans (hb6.mono hb5.size)⟩
  | false =>
    rw [hg] at HLg
    have HS : Hid (∀ W, Below w.heap.size w W → Calls Tryd.prog 31 #[v, .int .i64 ver, .int .i64 life, .int .i64 now] W fun e w' => ∃ v' u, e = .returned v' ∧ CRow w' W.heap.size v' u ∧ Hid (fewM ver none 0 u = true ∧ u.length ≤ 100000) ∧ Below W.heap.size W w') := fun W hb => (cseen_any v l (longC_ok hg hv).1 ver life now W (h.below hb) (longC_ok hg hv).2 (hL.below hb)).mono fun _ _ ⟨v', s, h1, h2, h3, h4⟩ => ⟨v', _, h1, h3, ⟨few_all h2 ver life now, Nat.le_trans (seenL_len ver life now s) (Nat.le_trans h2.len (longC_ok hg hv).1)⟩, h4⟩
    clear h hv hL hg
    go_enter Tryd.func7, Tryd.ntmps7
    go_wp2_with (first | (go_at_call 24; refine HA.out.mono ?_; rintro e w5 ⟨rfl, hb5⟩) | (go_at_call 25; refine (HLg.out _ hb5).mono ?_; rintro e w6 ⟨rfl, hb6⟩) | (go_at_call 31; refine (HS.out _ (hb5.trans (hb6.mono hb5.size))).mono ?_; rintro e w7 ⟨v7, u, rfl, hr7, hF, hb7⟩; have K7 := hid hr7.cla; have BW := hid ((hb5.trans (hb6.mono hb5.size)).trans (hb7.mono (Nat.le_trans hb5.size hb6.size))); clear hr7; obtain ⟨A7, c7, rfl, hc7, hm7, hh7⟩ := K7.out; have HH := hid hh7; clear hh7 K7; obtain ⟨m, hm⟩ : ∃ m, u.length = m := ⟨_, rfl⟩; have HM := hid hm; rw [hm] at hc7 ⊢; clear hm))
    all_goals first
      | (go_ret; exact ⟨rfl, hb5.trans (hb6.mono hb5.size)⟩)
      | skip
    have hmL : m ≤ 100000 := by rw [← HM.out]; exact hF.out.2
    clear HA HLg HS
    go_loopw [10, 11] (fun vn vi wr => Hid (Below w7.heap.size w7 wr) ∧ ∃ (i : Nat) (n : Int) (p : Option CT), i ≤ m ∧ vn = .int .i64 n ∧ vi = .int .i64 i ∧ Hid (fewM ver p n (u.drop i) = true) ∧ ((i = 0 ∧ p = none) ∨ ∃ j, i = j + 1 ∧ Hid (∀ h : j < u.length, p = some u[j]))) (fun _ vi _ => m - (intOf vi).toNat)
    case atStart => exact ⟨Below.refl _ _, 0, 0, none, Nat.zero_le _, rfl, rfl, hF.out.1, .inl ⟨rfl, rfl⟩⟩
    case round =>
      obtain ⟨HB, i, n, p, hi, rfl, rfl, HF, hp⟩ := hrel
      by_cases hlt : i < m
      · have him : i < u.length := by rw [HM.out]; exact hlt
        obtain ⟨b, off, rfl, hhc⟩ := HH.out (by rw [HM.out]; omega)
        have hbw : b < w7.heap.size := hhc.lt (by omega)
        obtain ⟨c, hc⟩ : ∃ c, u[i] = c := ⟨_, rfl⟩
        have P : wr.cell? ⟨b, off + i * 8, none⟩ = some (.string c.r) ∧ wr.cell? ⟨b, off + i * 8 + 1, none⟩ = some (.string c.f) ∧ wr.cell? ⟨b, off + i * 8 + 2, none⟩ = some (.string c.q) ∧ wr.cell? ⟨b, off + i * 8 + 3, none⟩ = some (.int .i64 c.t) ∧ wr.cell? ⟨b, off + i * 8 + 4, none⟩ = some (.int .i64 c.k) ∧ wr.cell? ⟨b, off + i * 8 + 5, none⟩ = some (.int .i64 c.vk) ∧ wr.cell? ⟨b, off + i * 8 + 6, none⟩ = some (.int .i64 c.vn) ∧ wr.cell? ⟨b, off + i * 8 + 7, none⟩ = some (.string c.s) := by
          rw [← hc]
          exact (hhc.below HB.out hbw).words i him
        have HF0 : Hid (fewM ver p n (c :: u.drop (i + 1)) = true) := by
          unfold Hid
          rw [← hc, ← List.drop_eq_getElem_cons him]
          exact HF.out
        have hk : c.k = 1 := by
          false_or_by_contra
          rename_i q
          have := HF0.out
          unfold fewM at this
          rw [if_pos q] at this
          cases this
        have hk1 : (c.k != 1) = false := by simpa using hk
        rcases hp with ⟨rfl, rfl⟩ | ⟨j, rfl, hpj⟩
        · have HF2 : Hid (¬ ver < 1 ∧ fewM ver (some c) 1 (u.drop 1) = true) := by
            have hF := HF0.out
            unfold fewM at hF
            rw [if_neg (by omega)] at hF
            simp only at hF
            by_cases hv1 : ver < 1
            · rw [if_pos hv1] at hF; cases hF
            · rw [if_neg hv1] at hF; exact ⟨hv1, hF⟩
          have hv1 : ¬ ver < 1 := HF2.out.1
          have HCc : Hid (∀ h : 0 < u.length, some c = some u[0]) := fun h => by rw [hc]
          have hltz : (0 : Int) < (m : Int) := by omega
          rw [Nat.zero_mul, Nat.add_zero] at P
          obtain ⟨p0, p1, p2, p3, p4, p5, p6, p7⟩ := P
          clear hc hhc HF0 HF hk
          go_upto_region 12 with (fail)
          go_quiet (fail)
          go_wp2
          go_roundw
          case rel => exact ⟨below_drewN HB.out _, 1, 1, some c, by omega, rfl, by go_num, HF2.out.2, .inr ⟨0, rfl, HCc.out⟩⟩
          case measure => simp [intOf]; omega
        · have hju : j < u.length := by omega
          obtain ⟨d, hd⟩ : ∃ d, u[j] = d := ⟨_, rfl⟩
          have hpd := hpj.out hju
          rw [hd] at hpd
          subst hpd
          have Pd : wr.cell? ⟨b, off + j * 8, none⟩ = some (.string d.r) ∧ wr.cell? ⟨b, off + j * 8 + 1, none⟩ = some (.string d.f) ∧ wr.cell? ⟨b, off + j * 8 + 2, none⟩ = some (.string d.q) ∧ wr.cell? ⟨b, off + j * 8 + 3, none⟩ = some (.int .i64 d.t) ∧ wr.cell? ⟨b, off + j * 8 + 4, none⟩ = some (.int .i64 d.k) ∧ wr.cell? ⟨b, off + j * 8 + 5, none⟩ = some (.int .i64 d.vk) ∧ wr.cell? ⟨b, off + j * 8 + 6, none⟩ = some (.int .i64 d.vn) ∧ wr.cell? ⟨b, off + j * 8 + 7, none⟩ = some (.string d.s) := by
            rw [← hd]
            exact (hhc.below HB.out hbw).words j hju
          have HCc : Hid (∀ h : j + 1 < u.length, some c = some u[j + 1]) := fun h => by rw [hc]
          have HF : Hid ((if colC c d then (if d.t ≤ c.t then false else if ver < IntKind.i64.wrap (n + 1) then false else fewM ver (some c) (IntKind.i64.wrap (n + 1)) (u.drop (j + 1 + 1))) else if ver < 1 then false else fewM ver (some c) 1 (u.drop (j + 1 + 1))) = true) := by
            have hF := HF0.out
            unfold fewM at hF
            rw [if_neg (by omega)] at hF
            exact hF
          have hltz : (j : Int) + 1 < (m : Int) := by omega
          have hltp : (0 : Int) < (j : Int) + 1 := by omega
          have hge : (0 : Int) ≤ (j : Int) + 1 := by omega
          have htn : ((j : Int) + 1).toNat = j + 1 := by omega
          have hwj : IntKind.i64.wrap (j : Int) = (j : Int) := by rw [IntKind.wrap_i64]; omega
          have hwj1 : IntKind.i64.wrap ((j : Int) + 1 - 1) = (j : Int) := by rw [IntKind.wrap_i64]; omega
          have hjm : (j : Int) < (m : Int) := by omega
          obtain ⟨p0, p1, p2, p3, p4, p5, p6, p7⟩ := P
          obtain ⟨d0, d1, d2, d3, d4, d5, d6, d7⟩ := Pd
          clear hc hhc HF0 hk hd hpj
          by_cases h1 : c.r = d.r
          · have q1 : (c.r.toList == d.r.toList) = true := by rw [h1]; simp
            by_cases h2 : c.f = d.f
            · have q2 : (c.f.toList == d.f.toList) = true := by rw [h2]; simp
              by_cases h3 : c.q = d.q
              · have q3 : (c.q.toList == d.q.toList) = true := by rw [h3]; simp
                obtain ⟨x, hx⟩ : ∃ x, IntKind.i64.wrap (n + 1) = x := ⟨_, rfl⟩
                have HF2 : Hid (¬ d.t ≤ c.t ∧ ¬ ver < x ∧ fewM ver (some c) x (u.drop (j + 1 + 1)) = true) := by
                  have hF := HF.out
                  rw [if_pos ⟨h1, h2, h3⟩, hx] at hF
                  by_cases a1 : d.t ≤ c.t
                  · rw [if_pos a1] at hF; cases hF
                  · rw [if_neg a1] at hF
                    by_cases a2 : ver < x
                    · rw [if_pos a2] at hF; cases hF
                    · rw [if_neg a2] at hF; exact ⟨a1, a2, hF⟩
                have a1 : ¬ d.t ≤ c.t := HF2.out.1
                have a2 : ¬ ver < x := HF2.out.2.1
                clear h1 h2 h3
                go_upto_region 12 with (fail)
                go_quiet (fail)
                go_upto_region 14 with (fail)
                go_quiet (fail)
                go_wp2
                go_roundw
                case rel => exact ⟨below_drewN HB.out _, j + 1 + 1, x, some c, by omega, rfl, by go_num, HF2.out.2.2, .inr ⟨j + 1, rfl, HCc.out⟩⟩
                case measure => simp [intOf]; omega
              · have q3 : (c.q.toList == d.q.toList) = false := ba_ne h3
                have HF2 : Hid (¬ ver < 1 ∧ fewM ver (some c) 1 (u.drop (j + 1 + 1)) = true) := by
                  have hF := HF.out
                  rw [if_neg (fun h => h3 h.2.2)] at hF
                  by_cases hv1 : ver < 1
                  · rw [if_pos hv1] at hF; cases hF
                  · rw [if_neg hv1] at hF; exact ⟨hv1, hF⟩
                have hv1 : ¬ ver < 1 := HF2.out.1
                clear h1 h2 h3
                go_upto_region 12 with (fail)
                go_quiet (fail)
                go_wp2
                go_roundw
                case rel => exact ⟨below_drewN HB.out _, j + 1 + 1, 1, some c, by omega, rfl, by go_num, HF2.out.2, .inr ⟨j + 1, rfl, HCc.out⟩⟩
                case measure => simp [intOf]; omega
            · have q2 : (c.f.toList == d.f.toList) = false := ba_ne h2
              have HF2 : Hid (¬ ver < 1 ∧ fewM ver (some c) 1 (u.drop (j + 1 + 1)) = true) := by
                have hF := HF.out
                rw [if_neg (fun h => h2 h.2.1)] at hF
                by_cases hv1 : ver < 1
                · rw [if_pos hv1] at hF; cases hF
                · rw [if_neg hv1] at hF; exact ⟨hv1, hF⟩
              have hv1 : ¬ ver < 1 := HF2.out.1
              clear h1 h2
              go_upto_region 12 with (fail)
              go_quiet (fail)
              go_wp2
              go_roundw
              case rel => exact ⟨below_drewN HB.out _, j + 1 + 1, 1, some c, by omega, rfl, by go_num, HF2.out.2, .inr ⟨j + 1, rfl, HCc.out⟩⟩
              case measure => simp [intOf]; omega
          · have q1 : (c.r.toList == d.r.toList) = false := ba_ne h1
            have HF2 : Hid (¬ ver < 1 ∧ fewM ver (some c) 1 (u.drop (j + 1 + 1)) = true) := by
              have hF := HF.out
              rw [if_neg (fun h => h1 h.1)] at hF
              by_cases hv1 : ver < 1
              · rw [if_pos hv1] at hF; cases hF
              · rw [if_neg hv1] at hF; exact ⟨hv1, hF⟩
            have hv1 : ¬ ver < 1 := HF2.out.1
            clear h1
            go_upto_region 12 with (fail)
            go_quiet (fail)
            go_wp2
            go_roundw
            case rel => exact ⟨below_drewN HB.out _, j + 1 + 1, 1, some c, by omega, rfl, by go_num, HF2.out.2, .inr ⟨j + 1, rfl, HCc.out⟩⟩
            case measure => simp [intOf]; omega
      · obtain rfl : i = m := by omega
        go_wp2
        go_ret
        exact ⟨rfl, BW.out.trans (HB.out.mono BW.out.size)⟩
end Go.Proofs.YtlkbhohpgfhbmaaDoor

/- With one version less: what is let is among what is let with it, in order, and it is half of it at least. -/
namespace Go.Proofs.YtlkbhohpgfhbmaaDoor
open Go.RowKit

/-- Is the first list found in the second, in order? The statement's walk. -/
def subM {α : Type} [DecidableEq α] : List α → List α → Bool
  | [], _ => true
  | _ :: _, [] => false
  | x :: a, y :: b => if y = x then subM a b else subM (x :: a) b
theorem subM_of {α : Type} [DecidableEq α] : ∀ (b a : List α), a.Sublist b → subM a b = true
  | _, [], _ => by unfold subM; rfl
  | [], _ :: _, h => by cases h
  | y :: b, x :: a, h => by
    unfold subM
    by_cases e : y = x
    · rw [if_pos e]
      refine subM_of b a ?_
      cases h with
      | cons _ h => exact (List.sublist_cons_self x a).trans h
      | cons_cons _ h => exact h
    · rw [if_neg e]
      refine subM_of b (x :: a) ?_
      cases h with
      | cons _ h => exact h
      | cons_cons _ h => exact absurd rfl e

/-- How the two sights stand to each other. -/
structure LessI (ver : Int) (g h : SG) : Prop where
  at' : g.at' = h.at'
  fam : g.fam = h.fam
  col : g.col = h.col
  cell : g.cell = h.cell
  lo : 0 ≤ g.seen
  seen : (g.seen < ver ∧ h.seen = g.seen) ∨ (g.seen = ver ∧ (h.seen = ver ∨ h.seen = ver + 1))
def slack (ver : Int) (g h : SG) : Nat := if 1 ≤ g.seen ∧ h.seen ≤ ver then 1 else 0
theorem less_move {ver : Int} {g h : SG} (hv : 1 ≤ ver) (i : LessI ver g h) (c : CT) : LessI ver (g.move c) (h.move c) ∧ slack ver (g.move c) (h.move c) ≤ slack ver g h := by
  unfold SG.move
  rw [i.at']
  by_cases h1 : c.r ≠ h.at'.r ∨ c.f ≠ h.at'.f
  · rw [if_pos h1, if_pos h1]
    refine ⟨⟨rfl, rfl, rfl, rfl, by show (0 : Int) ≤ 0; omega, .inl ⟨by show (0 : Int) < ver; omega, rfl⟩⟩, ?_⟩
    unfold slack
    rw [if_neg (by show ¬ ((1 : Int) ≤ 0 ∧ _); omega)]
    exact Nat.zero_le _
  · rw [if_neg h1, if_neg h1]
    by_cases h2 : c.q ≠ h.at'.q
    · rw [if_pos h2, if_pos h2]
      refine ⟨⟨rfl, i.fam, rfl, rfl, by show (0 : Int) ≤ 0; omega, .inl ⟨by show (0 : Int) < ver; omega, rfl⟩⟩, ?_⟩
      unfold slack
      rw [if_neg (by show ¬ ((1 : Int) ≤ 0 ∧ _); omega)]
      exact Nat.zero_le _
    · rw [if_neg h2, if_neg h2]
      exact ⟨⟨rfl, i.fam, i.col, i.cell, i.lo, i.seen⟩, Nat.le_refl _⟩
theorem less_go (ver life now : Int) (hv : 1 ≤ ver) (h8 : ver ≤ 7) : ∀ (m : List CT) (g h : SG), LessI ver g h →
    (seenF ver life now g m).Sublist (seenF (ver + 1) life now h m) ∧ (seenF (ver + 1) life now h m).length ≤ 2 * (seenF ver life now g m).length + slack ver g h
  | [], g, h, _ => ⟨List.Sublist.refl _, by show 0 ≤ _; omega⟩
  | c :: m, g, h, i => by
    obtain ⟨j, hsl⟩ := less_move hv i c
    have step : ((g.lets c ver life now).2 = (h.lets c (ver + 1) life now).2 ∧ LessI ver (g.lets c ver life now).1 (h.lets c (ver + 1) life now).1 ∧ ((g.lets c ver life now).2 = false → slack ver (g.lets c ver life now).1 (h.lets c (ver + 1) life now).1 ≤ slack ver (g.move c) (h.move c))) ∨
        ((g.lets c ver life now).2 = false ∧ (h.lets c (ver + 1) life now).2 = true ∧ LessI ver (g.lets c ver life now).1 (h.lets c (ver + 1) life now).1 ∧ slack ver (g.move c) (h.move c) = 1 ∧ slack ver (g.lets c ver life now).1 (h.lets c (ver + 1) life now).1 = 0) := by
      have hhas : (h.move c).has c.t = (g.move c).has c.t := by unfold SG.has; rw [j.col, j.fam, j.cell]
      have jl := j.lo
      have js := j.seen
      unfold SG.lets
      simp only
      rw [hhas]
      by_cases k4 : c.k = 4
      · rw [if_pos k4, if_pos k4]
        exact .inl ⟨rfl, ⟨j.at', by show max _ _ = max _ _; rw [j.fam], j.col, j.cell, j.lo, j.seen⟩, fun _ => Nat.le_refl _⟩
      rw [if_neg k4, if_neg k4]
      by_cases k3 : c.k = 3
      · rw [if_pos k3, if_pos k3]
        exact .inl ⟨rfl, ⟨j.at', j.fam, rfl, j.cell, j.lo, j.seen⟩, fun _ => Nat.le_refl _⟩
      rw [if_neg k3, if_neg k3]
      by_cases k2 : c.k = 2
      · rw [if_pos k2, if_pos k2]
        exact .inl ⟨rfl, ⟨j.at', j.fam, j.col, rfl, j.lo, j.seen⟩, fun _ => Nat.le_refl _⟩
      rw [if_neg k2, if_neg k2]
      by_cases hc : c.k = 1 ∧ (g.move c).has c.t = true ∧ livesM life now c.t = true
      · obtain ⟨a1, a2, a3⟩ := hc
        rcases js with ⟨s1, s2⟩ | ⟨s1, s2 | s2⟩
        · rw [if_pos ⟨a1, a2, a3, s1⟩, if_pos ⟨a1, a2, a3, by omega⟩]
          have w1 : IntKind.i64.wrap ((g.move c).seen + 1) = (g.move c).seen + 1 := by rw [IntKind.wrap_i64]; omega
          refine .inl ⟨rfl, ⟨j.at', j.fam, j.col, j.cell, ?_, ?_⟩, fun q => by cases q⟩
          · show 0 ≤ IntKind.i64.wrap ((g.move c).seen + 1)
            rw [w1]; omega
          · show (IntKind.i64.wrap ((g.move c).seen + 1) < ver ∧ IntKind.i64.wrap ((h.move c).seen + 1) = IntKind.i64.wrap ((g.move c).seen + 1)) ∨ (IntKind.i64.wrap ((g.move c).seen + 1) = ver ∧ (IntKind.i64.wrap ((h.move c).seen + 1) = ver ∨ IntKind.i64.wrap ((h.move c).seen + 1) = ver + 1))
            rw [s2, w1]; omega
        · rw [if_neg (by rintro ⟨-, -, -, q⟩; omega), if_pos ⟨a1, a2, a3, by omega⟩]
          have w1 : IntKind.i64.wrap ((h.move c).seen + 1) = (h.move c).seen + 1 := by rw [IntKind.wrap_i64]; omega
          refine .inr ⟨rfl, rfl, ⟨j.at', j.fam, j.col, j.cell, j.lo, .inr ⟨s1, .inr ?_⟩⟩, ?_, ?_⟩
          · show IntKind.i64.wrap ((h.move c).seen + 1) = ver + 1
            rw [w1]; omega
          · unfold slack; rw [if_pos ⟨by omega, by omega⟩]
          · unfold slack
            rw [if_neg]
            rintro ⟨-, q⟩
            have q : IntKind.i64.wrap ((h.move c).seen + 1) ≤ ver := q
            rw [w1] at q; omega
        · rw [if_neg (by rintro ⟨-, -, -, q⟩; omega), if_neg (by rintro ⟨-, -, -, q⟩; omega)]
          exact .inl ⟨rfl, j, fun _ => Nat.le_refl _⟩
      · rw [if_neg (fun q => hc ⟨q.1, q.2.1, q.2.2.1⟩), if_neg (fun q => hc ⟨q.1, q.2.1, q.2.2.1⟩)]
        exact .inl ⟨rfl, j, fun _ => Nat.le_refl _⟩
    show (if (g.lets c ver life now).2 = true then c :: seenF ver life now (g.lets c ver life now).1 m else seenF ver life now (g.lets c ver life now).1 m).Sublist (if (h.lets c (ver + 1) life now).2 = true then c :: seenF (ver + 1) life now (h.lets c (ver + 1) life now).1 m else seenF (ver + 1) life now (h.lets c (ver + 1) life now).1 m) ∧ (if (h.lets c (ver + 1) life now).2 = true then c :: seenF (ver + 1) life now (h.lets c (ver + 1) life now).1 m else seenF (ver + 1) life now (h.lets c (ver + 1) life now).1 m).length ≤ 2 * (if (g.lets c ver life now).2 = true then c :: seenF ver life now (g.lets c ver life now).1 m else seenF ver life now (g.lets c ver life now).1 m).length + slack ver g h
    rcases step with ⟨e, ji, hs⟩ | ⟨e1, e2, ji, z1, z2⟩
    · obtain ⟨r1, r2⟩ := less_go ver life now hv h8 m _ _ ji
      have s1 : slack ver (g.lets c ver life now).1 (h.lets c (ver + 1) life now).1 ≤ 1 := by unfold slack; split <;> omega
      rw [← e]
      cases hb : (g.lets c ver life now).2 with
      | true =>
        simp only [if_true]
        exact ⟨List.Sublist.cons_cons _ r1, by simp only [List.length_cons]; omega⟩
      | false =>
        have := hs hb
        rw [if_neg (by decide), if_neg (by decide)]
        exact ⟨r1, by omega⟩
    · obtain ⟨r1, r2⟩ := less_go ver life now hv h8 m _ _ ji
      rw [e1, e2, if_neg (by decide), if_pos rfl]
      exact ⟨r1.cons _, by simp only [List.length_cons]; omega⟩
theorem less_all (ver life now : Int) (hv : 1 ≤ ver) (h8 : ver ≤ 7) (s : List CT) : (seenL ver life now s).Sublist (seenL (ver + 1) life now s) ∧ (seenL (ver + 1) life now s).length ≤ 2 * (seenL ver life now s).length := by
  unfold seenL
  have e : rightM (ver + 1) life = rightM ver life := by
    unfold rightM
    rw [decide_eq_true hv, decide_eq_true (by omega : 1 ≤ ver + 1), decide_eq_true (by omega : ver ≤ 8), decide_eq_true (by omega : ver + 1 ≤ 8)]
  rw [e]
  split
  · have := less_go ver life now hv h8 s SG.zero SG.zero ⟨rfl, rfl, rfl, rfl, by decide, .inl ⟨by show (0 : Int) < ver; omega, rfl⟩⟩
    have z : slack ver SG.zero SG.zero = 0 := rfl
    rw [z] at this
    exact this
  · exact ⟨List.Sublist.refl _, Nat.zero_le _⟩
end Go.Proofs.YtlkbhohpgfhbmaaDoor

/- The statement of layer 6: with one version less, what is seen is among what is seen with it. Conditions: the arguments stand, their numbers are of 64 bits; the tables of utf8 read as they are laid. -/
namespace Go.Proofs.YtlkbhohpgfhbmaaDoor
open Go.RowKit

deriving instance DecidableEq for CT
theorem ba_ne2 {x y : ByteArray} (h : x ≠ y) : ¬ x.toList = y.toList := fun e => by
  have := ba_ne h
  rw [e] at this
  simp at this

set_option maxHeartbeats 4000000 in
set_option maxRecDepth 100000 in
theorem cellless_any (v : Value) (l : List CT) (ver life now : Int) (w : World) (h : ClA w v l) (hv : ∀ c ∈ l, inI c.vn) (hL : LaidU w) :
    Calls Tryd.prog 9 #[v, .int .i64 ver, .int .i64 life, .int .i64 now] w fun e w' => e = .returned (.bool true) ∧ Below w.heap.size w w' := by
  have mixed : Tryd.prog.follows .mixedOrders = true := by kernel_rfl
  have HA := hid (alive_any w hL)
  have HLg : Hid (∀ W, Below w.heap.size w W → Calls Tryd.prog 25 #[v] W fun e w' => e = .returned (.bool (longC l)) ∧ Below W.heap.size W w') := fun W hb => long_any v l W (h.below hb)
  by_cases hg : longC l = false ∧ 1 ≤ ver ∧ ver ≤ 7
  · obtain ⟨hg, hv1, hv7⟩ := hg
    rw [hg] at HLg
    have g1 : ¬ ver < 1 := by omega
    have g7 : ¬ 7 < ver := by omega
    have hwv : IntKind.i64.wrap (ver + 1) = ver + 1 := by rw [IntKind.wrap_i64]; omega
    have HS : Hid (∀ (x : Int) (W : World), Below w.heap.size w W → Calls Tryd.prog 31 #[v, .int .i64 x, .int .i64 life, .int .i64 now] W fun e w' => ∃ v' s, e = .returned v' ∧ CRow w' W.heap.size v' (seenL x life now s) ∧ Hid (SortOf l s ∧ (seenL x life now s).length ≤ 100000) ∧ Below W.heap.size W w') := fun x W hb => (cseen_any v l (longC_ok hg hv).1 x life now W (h.below hb) (longC_ok hg hv).2 (hL.below hb)).mono fun _ _ ⟨v', s, h1, h2, h3, h4⟩ => ⟨v', s, h1, h3, ⟨h2, Nat.le_trans (seenL_len x life now s) (Nat.le_trans h2.len (longC_ok hg hv).1)⟩, h4⟩
    have HLe : Hid (∀ s t, SortOf l s → SortOf l t → subM (seenL ver life now s) (seenL (ver + 1) life now t) = true ∧ (seenL (ver + 1) life now t).length ≤ 2 * (seenL ver life now s).length) := fun s t h1 h2 => by
      rw [h2.uniq h1]
      have := less_all ver life now hv1 hv7 s
      exact ⟨subM_of _ _ this.1, this.2⟩
    clear h hv hL hg hv1 hv7
    go_enter Tryd.func9, Tryd.ntmps9
    go_wp2_with (first
      | (go_at_call 24; refine HA.out.mono ?_; rintro e w5 ⟨rfl, hb5⟩)
      | (go_at_call 25; refine (HLg.out _ hb5).mono ?_; rintro e w6 ⟨rfl, hb6⟩; have BW := hid (hb5.trans (hb6.mono hb5.size)))
      | (go_at_call 31; refine (HS.out _ _ BW7.out).mono ?_; rintro e w8 ⟨v8, s8, rfl, hr8, hq8, hb8⟩; have HF := hid (HLe.out _ _ hq7.out.1 hq8.out.1); have hlu := hq7.out.2; have hlt := hq8.out.2; have K7 := hid (hr7.cla.below hb8); have K8 := hid hr8.cla; have BW8 := hid (BW7.out.trans (hb8.mono BW7.out.size)); obtain ⟨u, hu⟩ : ∃ u, seenL ver life now s7 = u := ⟨_, rfl⟩; rw [hu] at HF K7 hlu; obtain ⟨t, ht⟩ : ∃ t, seenL (ver + 1) life now s8 = t := ⟨_, rfl⟩; rw [ht] at HF K8 hlt; clear hu ht hr7 hr8 hq7 hq8 hb8; obtain ⟨A7, c7, rfl, hc7, hm7, hh7⟩ := K7.out; obtain ⟨A8, c8, rfl, hc8, hm8, hh8⟩ := K8.out; have H7 := hid hh7; have H8 := hid hh8; clear hh7 hh8 K7 K8; obtain ⟨ma, hma⟩ : ∃ ma, u.length = ma := ⟨_, rfl⟩; have HMa := hid hma; rw [hma] at hc7 hlu ⊢; obtain ⟨mb, hmb⟩ : ∃ mb, t.length = mb := ⟨_, rfl⟩; have HMb := hid hmb; rw [hmb] at hc8 hlt ⊢; clear hma hmb)
      | (go_at_call 31; refine (HS.out _ _ BW.out).mono ?_; rintro e w7 ⟨v7, s7, rfl, hr7, hq7, hb7⟩; have BW7 := hid (BW.out.trans (hb7.mono BW.out.size))))
    all_goals first
      | (go_ret; exact ⟨rfl, BW.out⟩)
      | skip
    have hle : mb ≤ 2 * ma := by have := HF.out.2; rw [HMa.out, HMb.out] at this; exact this
    clear HA HLg HS HLe
    go_loopw [11, 12] (fun vk vi wr => Hid (Below w8.heap.size w8 wr) ∧ ∃ i k : Nat, i ≤ ma ∧ k ≤ mb ∧ vk = .int .i64 k ∧ vi = .int .i64 i ∧ Hid (subM (u.drop i) (t.drop k) = true)) (fun _ vi _ => ma - (intOf vi).toNat)
    case atStart => exact ⟨Below.refl _ _, 0, 0, Nat.zero_le _, Nat.zero_le _, rfl, rfl, HF.out.1⟩
    case round =>
      obtain ⟨HB, i, k, hi, hk, rfl, rfl, HU⟩ := hrel
      by_cases hlt2 : i < ma
      · have him : i < u.length := by rw [HMa.out]; exact hlt2
        have hiz : (i : Int) < (ma : Int) := by omega
        obtain ⟨b, off, rfl, hhc⟩ := H7.out (by rw [HMa.out]; omega)
        have hbw : b < w8.heap.size := hhc.lt (by omega)
        obtain ⟨c, hc⟩ : ∃ c, u[i] = c := ⟨_, rfl⟩
        have HP : Hid (∀ W, Below w8.heap.size w8 W → W.cell? ⟨b, off + i * 8, none⟩ = some (.string c.r) ∧ W.cell? ⟨b, off + i * 8 + 1, none⟩ = some (.string c.f) ∧ W.cell? ⟨b, off + i * 8 + 2, none⟩ = some (.string c.q) ∧ W.cell? ⟨b, off + i * 8 + 3, none⟩ = some (.int .i64 c.t) ∧ W.cell? ⟨b, off + i * 8 + 4, none⟩ = some (.int .i64 c.k) ∧ W.cell? ⟨b, off + i * 8 + 5, none⟩ = some (.int .i64 c.vk) ∧ W.cell? ⟨b, off + i * 8 + 6, none⟩ = some (.int .i64 c.vn) ∧ W.cell? ⟨b, off + i * 8 + 7, none⟩ = some (.string c.s)) := fun W hW => by
          rw [← hc]
          exact (hhc.below hW hbw).words i him
        have HU0 : Hid (subM (c :: u.drop (i + 1)) (t.drop k) = true) := by
          unfold Hid
          rw [← hc, ← List.drop_eq_getElem_cons him]
          exact HU.out
        clear hc hhc HU
        go_wp2
        go_loopw [11] (fun vk wr => Hid (Below w8.heap.size w8 wr) ∧ ∃ k : Nat, k ≤ mb ∧ vk = .int .i64 k ∧ Hid (subM (c :: u.drop (i + 1)) (t.drop k) = true)) (fun vk _ => mb - (intOf vk).toNat)
        case atStart => exact ⟨HB.out, k, hk, rfl, HU0.out⟩
        case round =>
          obtain ⟨HB, k, hk, rfl, HU⟩ := hrel
          have hkm : k < mb := by
            false_or_by_contra
            rename_i q
            have h0 := HU.out
            rw [show t.drop k = [] from List.drop_of_length_le (by rw [HMb.out]; omega)] at h0
            have h1 : false = true := h0
            cases h1
          have hkt : k < t.length := by rw [HMb.out]; exact hkm
          have hkz : (k : Int) < (mb : Int) := by omega
          have hkne : ((k : Int) == (mb : Int)) = false := by simp; omega
          obtain ⟨b8, off8, rfl, hhd⟩ := H8.out (by rw [HMb.out]; omega)
          have hbw8 : b8 < w8.heap.size := hhd.lt (by omega)
          obtain ⟨d, hd⟩ : ∃ d, t[k] = d := ⟨_, rfl⟩
          have Pd : wr.cell? ⟨b8, off8 + k * 8, none⟩ = some (.string d.r) ∧ wr.cell? ⟨b8, off8 + k * 8 + 1, none⟩ = some (.string d.f) ∧ wr.cell? ⟨b8, off8 + k * 8 + 2, none⟩ = some (.string d.q) ∧ wr.cell? ⟨b8, off8 + k * 8 + 3, none⟩ = some (.int .i64 d.t) ∧ wr.cell? ⟨b8, off8 + k * 8 + 4, none⟩ = some (.int .i64 d.k) ∧ wr.cell? ⟨b8, off8 + k * 8 + 5, none⟩ = some (.int .i64 d.vk) ∧ wr.cell? ⟨b8, off8 + k * 8 + 6, none⟩ = some (.int .i64 d.vn) ∧ wr.cell? ⟨b8, off8 + k * 8 + 7, none⟩ = some (.string d.s) := by
            rw [← hd]
            exact (hhd.below HB.out hbw8).words k hkt
          have HU1 : Hid ((if d = c then subM (u.drop (i + 1)) (t.drop (k + 1)) else subM (c :: u.drop (i + 1)) (t.drop (k + 1))) = true) := by
            have := HU.out
            rw [List.drop_eq_getElem_cons hkt, hd] at this
            exact this
          obtain ⟨p0, p1, p2, p3, p4, p5, p6, p7⟩ := HP.out wr HB.out
          obtain ⟨d0, d1, d2, d3, d4, d5, d6, d7⟩ := Pd
          clear hd hhd HU
          by_cases he : d = c
          · have HU2 : Hid (subM (u.drop (i + 1)) (t.drop (k + 1)) = true) := by
              have := HU1.out
              rwa [if_pos he] at this
            subst he
            go_upto_region 11 with (fail)
            go_quiet (fail)
            go_wp2
            go_roundw
            case rel => exact ⟨below_drewN HB.out _, i + 1, k + 1, by omega, by omega, by go_num, by go_num, HU2.out⟩
            case measure => simp [intOf]; omega
          · have HU2 : Hid (subM (c :: u.drop (i + 1)) (t.drop (k + 1)) = true) := by
              have := HU1.out
              rwa [if_neg he] at this
            by_cases e0 : d.r = c.r
            · have n0 : d.r.toList = c.r.toList := by rw [e0]
              by_cases e1 : d.f = c.f
              · have n1 : d.f.toList = c.f.toList := by rw [e1]
                by_cases e2 : d.q = c.q
                · have n2 : d.q.toList = c.q.toList := by rw [e2]
                  by_cases e3 : d.t = c.t
                  · have n3 : d.t = c.t := e3
                    by_cases e4 : d.k = c.k
                    · have n4 : d.k = c.k := e4
                      by_cases e5 : d.vk = c.vk
                      · have n5 : d.vk = c.vk := e5
                        by_cases e6 : d.vn = c.vn
                        · have n6 : d.vn = c.vn := e6
                          by_cases e7 : d.s = c.s
                          · have n7 : d.s.toList = c.s.toList := by rw [e7]
                            exfalso
                            apply he
                            cases d; cases c; simp only at e0 e1 e2 e3 e4 e5 e6 e7; subst e0 e1 e2 e3 e4 e5 e6 e7; rfl
                          · have n7 : ¬ d.s.toList = c.s.toList := ba_ne2 e7
                            clear he e0 e1 e2 e3 e4 e5 e6 e7
                            go_upto_region 11 with (fail)
                            go_quiet (fail)
                            go_wp2
                            go_roundw
                            case rel => exact ⟨below_drewN HB.out _, k + 1, by omega, by go_num, HU2.out⟩
                            case measure => simp [intOf]; omega
                        · have n6 : ¬ d.vn = c.vn := e6
                          clear he e0 e1 e2 e3 e4 e5 e6
                          go_upto_region 11 with (fail)
                          go_quiet (fail)
                          go_wp2
                          go_roundw
                          case rel => exact ⟨below_drewN HB.out _, k + 1, by omega, by go_num, HU2.out⟩
                          case measure => simp [intOf]; omega
                      · have n5 : ¬ d.vk = c.vk := e5
                        clear he e0 e1 e2 e3 e4 e5
                        go_upto_region 11 with (fail)
                        go_quiet (fail)
                        go_wp2
                        go_roundw
                        case rel => exact ⟨below_drewN HB.out _, k + 1, by omega, by go_num, HU2.out⟩
                        case measure => simp [intOf]; omega
                    · have n4 : ¬ d.k = c.k := e4
                      clear he e0 e1 e2 e3 e4
                      go_upto_region 11 with (fail)
                      go_quiet (fail)
                      go_wp2
                      go_roundw
                      case rel => exact ⟨below_drewN HB.out _, k + 1, by omega, by go_num, HU2.out⟩
                      case measure => simp [intOf]; omega
                  · have n3 : ¬ d.t = c.t := e3
                    clear he e0 e1 e2 e3
                    go_upto_region 11 with (fail)
                    go_quiet (fail)
                    go_wp2
                    go_roundw
                    case rel => exact ⟨below_drewN HB.out _, k + 1, by omega, by go_num, HU2.out⟩
                    case measure => simp [intOf]; omega
                · have n2 : ¬ d.q.toList = c.q.toList := ba_ne2 e2
                  clear he e0 e1 e2
                  go_upto_region 11 with (fail)
                  go_quiet (fail)
                  go_wp2
                  go_roundw
                  case rel => exact ⟨below_drewN HB.out _, k + 1, by omega, by go_num, HU2.out⟩
                  case measure => simp [intOf]; omega
              · have n1 : ¬ d.f.toList = c.f.toList := ba_ne2 e1
                clear he e0 e1
                go_upto_region 11 with (fail)
                go_quiet (fail)
                go_wp2
                go_roundw
                case rel => exact ⟨below_drewN HB.out _, k + 1, by omega, by go_num, HU2.out⟩
                case measure => simp [intOf]; omega
            · have n0 : ¬ d.r.toList = c.r.toList := ba_ne2 e0
              clear he e0
              go_upto_region 11 with (fail)
              go_quiet (fail)
              go_wp2
              go_roundw
              case rel => exact ⟨below_drewN HB.out _, k + 1, by omega, by go_num, HU2.out⟩
              case measure => simp [intOf]; omega
      · obtain rfl : i = ma := by omega
        have hlz : (mb : Int) ≤ 2 * (i : Int) := by omega
        have hw2 : IntKind.i64.wrap (2 * (i : Int)) = 2 * (i : Int) := by rw [IntKind.wrap_i64]; omega
        go_wp2
        go_ret
        exact ⟨rfl, BW8.out.trans (HB.out.mono BW8.out.size)⟩
  · cases e : longC l with
    | true =>
      rw [e] at HLg
      clear e hg
      clear h hv hL
      go_enter Tryd.func9, Tryd.ntmps9
      go_wp2_with (first | (go_at_call 24; refine HA.out.mono ?_; rintro e w5 ⟨rfl, hb5⟩) | (go_at_call 25; refine (HLg.out _ hb5).mono ?_; rintro e w6 ⟨rfl, hb6⟩; have BW := hid (hb5.trans (hb6.mono hb5.size))))
      all_goals (go_ret; exact ⟨rfl, BW.out⟩)
    | false =>
      rw [e] at HLg
      by_cases g1 : ver < 1
      · clear e hg
        clear h hv hL
        go_enter Tryd.func9, Tryd.ntmps9
        go_wp2_with (first | (go_at_call 24; refine HA.out.mono ?_; rintro e w5 ⟨rfl, hb5⟩) | (go_at_call 25; refine (HLg.out _ hb5).mono ?_; rintro e w6 ⟨rfl, hb6⟩; have BW := hid (hb5.trans (hb6.mono hb5.size))))
        all_goals (go_ret; exact ⟨rfl, BW.out⟩)
      · have g7 : 7 < ver := by
          false_or_by_contra
          rename_i q
          exact hg ⟨e, by omega, by omega⟩
        clear e hg
        clear h hv hL
        go_enter Tryd.func9, Tryd.ntmps9
        go_wp2_with (first | (go_at_call 24; refine HA.out.mono ?_; rintro e w5 ⟨rfl, hb5⟩) | (go_at_call 25; refine (HLg.out _ hb5).mono ?_; rintro e w6 ⟨rfl, hb6⟩; have BW := hid (hb5.trans (hb6.mono hb5.size))))
        all_goals (go_ret; exact ⟨rfl, BW.out⟩)
end Go.Proofs.YtlkbhohpgfhbmaaDoor

/- The statements' own comparison of two lists of cells. Conditions: both stand. -/
namespace Go.Proofs.YtlkbhohpgfhbmaaDoor
open Go.RowKit

set_option maxHeartbeats 4000000 in
set_option maxRecDepth 100000 in
theorem samecells_any (v1 v2 : Value) (u t : List CT) (w : World) (h1 : ClA w v1 u) (h2 : ClA w v2 t) :
    Calls Tryd.prog 30 #[v1, v2] w fun e w' => e = .returned (.bool (decide (u = t))) ∧ Below w.heap.size w w' := by
  have mixed : Tryd.prog.follows .mixedOrders = true := by kernel_rfl
  obtain ⟨A1, c1, rfl, hc1, hm1, hh1⟩ := h1
  obtain ⟨A2, c2, rfl, hc2, hm2, hh2⟩ := h2
  have H1 := hid hh1
  have H2 := hid hh2
  clear hh1 hh2
  obtain ⟨n, hn⟩ : ∃ n, u.length = n := ⟨_, rfl⟩
  have HN := hid hn
  rw [hn] at hc1 ⊢
  clear hn
  by_cases hl : t.length = n
  · have HT := hid hl
    rw [hl] at hc2 ⊢
    clear hl
    go_enter Tryd.func30, Tryd.ntmps30
    go_wp2
    go_loopw [5] (fun vi wr => Hid (Below w.heap.size w wr) ∧ ∃ i : Nat, i ≤ n ∧ vi = .int .i64 i ∧ Hid (u.take i = t.take i)) (fun vi _ => n - (intOf vi).toNat)
    case atStart => exact ⟨Below.refl _ _, 0, Nat.zero_le _, rfl, rfl⟩
    case round =>
      obtain ⟨HB, i, hi, rfl, HE⟩ := hrel
      by_cases hlt : i < n
      · have hiu : i < u.length := by rw [HN.out]; exact hlt
        have hit : i < t.length := by rw [HT.out]; exact hlt
        have hiz : (i : Int) < (n : Int) := by omega
        obtain ⟨b, off, rfl, hhc⟩ := H1.out (by omega)
        obtain ⟨b8, off8, rfl, hhd⟩ := H2.out (by omega)
        have hbw : b < w.heap.size := hhc.lt (by omega)
        have hbw8 : b8 < w.heap.size := hhd.lt (by omega)
        obtain ⟨c, hc⟩ : ∃ c, u[i] = c := ⟨_, rfl⟩
        obtain ⟨d, hd⟩ : ∃ d, t[i] = d := ⟨_, rfl⟩
        have P : wr.cell? ⟨b, off + i * 8, none⟩ = some (.string c.r) ∧ wr.cell? ⟨b, off + i * 8 + 1, none⟩ = some (.string c.f) ∧ wr.cell? ⟨b, off + i * 8 + 2, none⟩ = some (.string c.q) ∧ wr.cell? ⟨b, off + i * 8 + 3, none⟩ = some (.int .i64 c.t) ∧ wr.cell? ⟨b, off + i * 8 + 4, none⟩ = some (.int .i64 c.k) ∧ wr.cell? ⟨b, off + i * 8 + 5, none⟩ = some (.int .i64 c.vk) ∧ wr.cell? ⟨b, off + i * 8 + 6, none⟩ = some (.int .i64 c.vn) ∧ wr.cell? ⟨b, off + i * 8 + 7, none⟩ = some (.string c.s) := by
          rw [← hc]
          exact (hhc.below HB.out hbw).words i hiu
        have Pd : wr.cell? ⟨b8, off8 + i * 8, none⟩ = some (.string d.r) ∧ wr.cell? ⟨b8, off8 + i * 8 + 1, none⟩ = some (.string d.f) ∧ wr.cell? ⟨b8, off8 + i * 8 + 2, none⟩ = some (.string d.q) ∧ wr.cell? ⟨b8, off8 + i * 8 + 3, none⟩ = some (.int .i64 d.t) ∧ wr.cell? ⟨b8, off8 + i * 8 + 4, none⟩ = some (.int .i64 d.k) ∧ wr.cell? ⟨b8, off8 + i * 8 + 5, none⟩ = some (.int .i64 d.vk) ∧ wr.cell? ⟨b8, off8 + i * 8 + 6, none⟩ = some (.int .i64 d.vn) ∧ wr.cell? ⟨b8, off8 + i * 8 + 7, none⟩ = some (.string d.s) := by
          rw [← hd]
          exact (hhd.below HB.out hbw8).words i hit
        obtain ⟨p0, p1, p2, p3, p4, p5, p6, p7⟩ := P
        obtain ⟨d0, d1, d2, d3, d4, d5, d6, d7⟩ := Pd
        by_cases he : c = d
        · have HE2 : Hid (u.take (i + 1) = t.take (i + 1)) := by
            unfold Hid
            rw [List.take_add_one, List.take_add_one, HE.out, List.getElem?_eq_getElem hiu, List.getElem?_eq_getElem hit, hc, hd, he]
          clear hc hd hhc hhd HE
          subst he
          go_upto_region 6 with (fail); go_quiet (fail); go_wp2
          go_roundw
          case rel => exact ⟨below_drewN HB.out _, i + 1, by omega, by go_num, HE2.out⟩
          case measure => simp [intOf]; omega
        · have HNE : Hid (decide (u = t) = false) := by
            refine decide_eq_false fun e => he ?_
            subst e
            rw [← hc, ← hd]
          clear hc hd hhc hhd HE
          by_cases e0 : c.r = d.r
          · have n0 : c.r.toList = d.r.toList := by rw [e0]
            by_cases e1 : c.f = d.f
            · have n1 : c.f.toList = d.f.toList := by rw [e1]
              by_cases e2 : c.q = d.q
              · have n2 : c.q.toList = d.q.toList := by rw [e2]
                by_cases e3 : c.t = d.t
                · have n3 : c.t = d.t := e3
                  by_cases e4 : c.k = d.k
                  · have n4 : c.k = d.k := e4
                    by_cases e5 : c.vk = d.vk
                    · have n5 : c.vk = d.vk := e5
                      by_cases e6 : c.vn = d.vn
                      · have n6 : c.vn = d.vn := e6
                        by_cases e7 : c.s = d.s
                        · have n7 : c.s.toList = d.s.toList := by rw [e7]
                          exfalso
                          apply he
                          cases d; cases c; simp only at e0 e1 e2 e3 e4 e5 e6 e7; subst e0 e1 e2 e3 e4 e5 e6 e7; rfl
                        · have n7 : ¬ c.s.toList = d.s.toList := ba_ne2 e7
                          clear he e0 e1 e2 e3 e4 e5 e6 e7
                          go_upto_region 6 with (fail); go_quiet (fail); go_wp2
                          go_ret
                          refine ⟨?_, below_drewN HB.out _⟩
                          rw [HNE.out]
                          rfl
                      · have n6 : ¬ c.vn = d.vn := e6
                        clear he e0 e1 e2 e3 e4 e5 e6
                        go_upto_region 6 with (fail); go_quiet (fail); go_wp2
                        go_ret
                        refine ⟨?_, below_drewN HB.out _⟩
                        rw [HNE.out]
                        rfl
                    · have n5 : ¬ c.vk = d.vk := e5
                      clear he e0 e1 e2 e3 e4 e5
                      go_upto_region 6 with (fail); go_quiet (fail); go_wp2
                      go_ret
                      refine ⟨?_, below_drewN HB.out _⟩
                      rw [HNE.out]
                      rfl
                  · have n4 : ¬ c.k = d.k := e4
                    clear he e0 e1 e2 e3 e4
                    go_upto_region 6 with (fail); go_quiet (fail); go_wp2
                    go_ret
                    refine ⟨?_, below_drewN HB.out _⟩
                    rw [HNE.out]
                    rfl
                · have n3 : ¬ c.t = d.t := e3
                  clear he e0 e1 e2 e3
                  go_upto_region 6 with (fail); go_quiet (fail); go_wp2
                  go_ret
                  refine ⟨?_, below_drewN HB.out _⟩
                  rw [HNE.out]
                  rfl
              · have n2 : ¬ c.q.toList = d.q.toList := ba_ne2 e2
                clear he e0 e1 e2
                go_upto_region 6 with (fail); go_quiet (fail); go_wp2
                go_ret
                refine ⟨?_, below_drewN HB.out _⟩
                rw [HNE.out]
                rfl
            · have n1 : ¬ c.f.toList = d.f.toList := ba_ne2 e1
              clear he e0 e1
              go_upto_region 6 with (fail); go_quiet (fail); go_wp2
              go_ret
              refine ⟨?_, below_drewN HB.out _⟩
              rw [HNE.out]
              rfl
          · have n0 : ¬ c.r.toList = d.r.toList := ba_ne2 e0
            clear he e0
            go_upto_region 6 with (fail); go_quiet (fail); go_wp2
            go_ret
            refine ⟨?_, below_drewN HB.out _⟩
            rw [HNE.out]
            rfl
      · obtain rfl : i = n := by omega
        have HQ : Hid (decide (u = t) = true) := by
          have h := HE.out
          rw [List.take_of_length_le (by rw [HN.out]; exact Nat.le_refl _), List.take_of_length_le (by rw [HT.out]; exact Nat.le_refl _)] at h
          exact decide_eq_true h
        go_wp2
        go_ret
        exact ⟨by rw [HQ.out]; rfl, HB.out⟩
  · have HQ : Hid (decide (u = t) = false) := decide_eq_false fun e => hl (by rw [← e]; exact HN.out)
    obtain ⟨m, hm⟩ : ∃ m, t.length = m := ⟨_, rfl⟩
    rw [hm] at hl hc2 ⊢
    have hne : ((n : Int) == (m : Int)) = false := by simp; omega
    have hne2 : ((n : Int) != (m : Int)) = true := by simp; omega
    clear hl hm
    go_enter Tryd.func30, Tryd.ntmps30
    go_wp2
    go_ret
    exact ⟨by rw [HQ.out]; rfl, Below.refl _ _⟩
end Go.Proofs.YtlkbhohpgfhbmaaDoor

/- What sorted cells are: they rise, and hold just the right cells behind which no right cell of their place stands. -/
namespace Go.Proofs.YtlkbhohpgfhbmaaDoor
open Go.RowKit

/-- c stands in f, and none of its place behind it. -/
def LastIn (f : List CT) (c : CT) : Prop := ∃ a b, f = a ++ c :: b ∧ ∀ d ∈ b, CT.cmp c d ≠ 0

theorem lasts_iff : ∀ (m : List CT), m.Pairwise (fun x y => CT.cmp x y ≤ 0) → ∀ c, c ∈ lastsM m ↔ LastIn m c
  | [], _, c => ⟨(fun h => by cases h), (fun ⟨a, b, h, _⟩ => by cases a <;> cases h)⟩
  | [x], _, c => by
    constructor
    · intro h
      rcases List.mem_singleton.1 h with rfl
      exact ⟨[], [], rfl, fun d hd => by cases hd⟩
    · rintro ⟨a, b, h, _⟩
      cases a with
      | nil => cases h; exact List.mem_singleton.2 rfl
      | cons y a => injection h with h1 h2; cases a <;> cases h2
  | x :: y :: t, hp, c => by
    obtain ⟨hx, hp'⟩ := List.pairwise_cons.1 hp
    obtain ⟨hy, _⟩ := List.pairwise_cons.1 hp'
    have ih := lasts_iff (y :: t) hp' c
    show c ∈ (if CT.cmp x y = 0 then lastsM (y :: t) else x :: lastsM (y :: t)) ↔ _
    have push : LastIn (y :: t) c → LastIn (x :: y :: t) c := fun ⟨a, b, h, hb⟩ => ⟨x :: a, b, by rw [h]; rfl, hb⟩
    have pull : LastIn (x :: y :: t) c → LastIn (y :: t) c ∨ (c = x ∧ ∀ d ∈ y :: t, CT.cmp c d ≠ 0) := fun ⟨a, b, h, hb⟩ => by
      cases a with
      | nil => injection h with h1 h2; subst h1; rw [h2]; exact .inr ⟨rfl, hb⟩
      | cons z a => injection h with h1 h2; exact .inl ⟨a, b, h2, hb⟩
    by_cases e : CT.cmp x y = 0
    · rw [if_pos e, ih]
      refine ⟨push, fun h => ?_⟩
      rcases pull h with h | ⟨rfl, h2⟩
      · exact h
      · exact absurd e (h2 y List.mem_cons_self)
    · rw [if_neg e, List.mem_cons, ih]
      constructor
      · rintro (rfl | h)
        · refine ⟨[], y :: t, rfl, fun d hd => ?_⟩
          have hxy : CT.cmp c y < 0 := by have := hx y List.mem_cons_self; omega
          rcases List.mem_cons.1 hd with rfl | hd
          · exact e
          · have := ct_c3.lt_le hxy (hy d hd); omega
        · exact push h
      · intro h
        rcases pull h with h | ⟨rfl, _⟩
        · exact .inr h
        · exact .inl rfl
theorem last_zip {f : List CT} {c : CT} : LastIn f c ↔ ∃ t, (c, t) ∈ f.zipIdx ∧ ∀ d u, (d, u) ∈ f.zipIdx → t < u → CT.cmp c d ≠ 0 := by
  constructor
  · rintro ⟨a, b, rfl, hb⟩
    refine ⟨a.length, ?_, fun d u hd hu => ?_⟩
    · rw [List.mk_mem_zipIdx_iff_getElem?]; simp
    · rw [List.mk_mem_zipIdx_iff_getElem?, List.getElem?_append_right (by omega)] at hd
      obtain ⟨k, hk⟩ : ∃ k, u - a.length = k + 1 := ⟨u - a.length - 1, by omega⟩
      rw [hk, List.getElem?_cons_succ] at hd
      exact hb d (List.mem_of_getElem? hd)
  · rintro ⟨t, ht, h⟩
    rw [List.mk_mem_zipIdx_iff_getElem?] at ht
    obtain ⟨hlt, hc⟩ := List.getElem?_eq_some_iff.1 ht
    refine ⟨f.take t, f.drop (t + 1), ?_, fun d hd => ?_⟩
    · rw [← hc, ← List.drop_eq_getElem_cons hlt, List.take_append_drop]
    · obtain ⟨k, hk, rfl⟩ := List.getElem_of_mem hd
      rw [List.getElem_drop]
      refine h _ (t + 1 + k) ?_ (by omega)
      rw [List.mk_mem_zipIdx_iff_getElem?]
      exact List.getElem?_eq_getElem _
theorem stb_last {f : List CT} {l' : List TT} (h : StbL f l') (c : CT) : LastIn (l'.map Prod.fst) c ↔ LastIn f c := by
  have hs : Sort.SWO (ltOf tcF) := c3_swo tc3
  have c0 : ∀ x y : TT, CT.cmp x.1 y.1 = 0 → ltOf tcF x y = false ∧ ltOf tcF y x = false := fun x y e => by
    have a := ct_c3.anti x.1 y.1
    constructor
    · show decide (CT.cmp x.1 y.1 < 0) = false
      exact decide_eq_false (by omega)
    · show decide (CT.cmp y.1 x.1 < 0) = false
      exact decide_eq_false (by omega)
  rw [last_zip (f := f)]
  constructor
  · rintro ⟨a, b, hm, hb⟩
    obtain ⟨a', b', rfl, rfl, hcb⟩ := List.map_eq_append_iff.1 hm
    obtain ⟨x, b'', rfl, rfl, rfl⟩ := List.map_eq_cons_iff.1 hcb
    refine ⟨x.2, h.perm.mem_iff.1 (by simp), fun d u hd hu e => ?_⟩
    have hd := h.perm.mem_iff.2 hd
    obtain ⟨p1, p2, p3⟩ := List.pairwise_append.1 h.sorted
    rcases List.mem_append.1 hd with hd | hd
    · have := p3 _ hd x List.mem_cons_self
      obtain ⟨q1, q2⟩ := c0 x (d, u) e
      rcases this with q | ⟨_, q⟩
      · rw [q] at q2; cases q2
      · have q : u < x.2 := q; omega
    · rcases List.mem_cons.1 hd with rfl | hd
      · exact absurd hu (Nat.lt_irrefl _)
      · exact hb d (List.mem_map.2 ⟨(d, u), hd, rfl⟩) e
  · rintro ⟨t, ht, hl⟩
    have ht := h.perm.mem_iff.2 ht
    obtain ⟨a, b, rfl⟩ := List.append_of_mem ht
    refine ⟨a.map Prod.fst, b.map Prod.fst, by simp, fun d hd e => ?_⟩
    obtain ⟨y, hy, rfl⟩ := List.mem_map.1 hd
    obtain ⟨_, p2, _⟩ := List.pairwise_append.1 h.sorted
    have hq := (List.pairwise_cons.1 p2).1 y hy
    obtain ⟨q1, q2⟩ := c0 (c, t) y e
    rcases hq with q | ⟨_, q⟩
    · rw [q] at q1; cases q1
    · exact hl y.1 y.2 (h.perm.mem_iff.1 (by simp [hy])) q e
/-- What sorted cells hold. -/
theorem SortOf.holds {l s : List CT} (h : SortOf l s) (c : CT) : c ∈ s ↔ LastIn (l.filter CT.ok) c := by
  obtain ⟨l', h1, rfl⟩ := h
  rw [lasts_iff _ h1.le, stb_last h1]
/-- Two lists that rise and hold the same are one. -/
theorem rise_uniq {s t : List CT} (h1 : s.Pairwise (fun x y => CT.cmp x y < 0)) (h2 : t.Pairwise (fun x y => CT.cmp x y < 0)) (h : ∀ c, c ∈ s ↔ c ∈ t) : s = t := by
  have nd : ∀ {m : List CT}, m.Pairwise (fun x y => CT.cmp x y < 0) → m.Nodup := fun hm => hm.imp fun {a b} hab e => by
    subst e
    have := ct_c3.zero a
    omega
  refine List.Perm.eq_of_pairwise (le := fun x y => CT.cmp x y < 0) (fun a b _ _ hab hba => ?_) h1 h2 ((List.perm_ext_iff_of_nodup (nd h1) (nd h2)).2 h)
  have := ct_c3.anti a b
  omega
end Go.Proofs.YtlkbhohpgfhbmaaDoor

/- Sorted cells of a part of the places. -/
namespace Go.Proofs.YtlkbhohpgfhbmaaDoor
open Go.RowKit

theorem last_filter {f : List CT} {P : CT → Bool} (hP : ∀ x y, CT.cmp x y = 0 → P x = P y) (c : CT) : LastIn (f.filter P) c ↔ LastIn f c ∧ P c = true := by
  constructor
  · rintro ⟨a, b, h, hb⟩
    obtain ⟨l1, l2, rfl, h1, h2⟩ := List.filter_eq_append_iff.1 h
    obtain ⟨m1, m2, rfl, hm, hc, h3⟩ := List.filter_eq_cons_iff.1 h2
    refine ⟨⟨l1 ++ m1, m2, by simp, fun d hd e => ?_⟩, hc⟩
    refine hb d ?_ e
    rw [← h3]
    exact List.mem_filter.2 ⟨hd, by rw [← hP c d e]; exact hc⟩
  · rintro ⟨⟨a, b, rfl, hb⟩, hc⟩
    refine ⟨a.filter P, b.filter P, by rw [List.filter_append, List.filter_cons, if_pos hc], fun d hd => hb d (List.mem_filter.1 hd).1⟩
/-- Sorting the cells of a part of the places is taking that part of the sorted ones. -/
theorem SortOf.part {l s t : List CT} {P : CT → Bool} (hP : ∀ x y, CT.cmp x y = 0 → P x = P y) (h : SortOf l s) (h2 : SortOf (l.filter P) t) : t = s.filter P := by
  refine rise_uniq h2.rise (h.rise.filter _) fun c => ?_
  rw [h2.holds, List.mem_filter, h.holds, ← last_filter hP]
  rw [show (l.filter P).filter CT.ok = (l.filter CT.ok).filter P by rw [List.filter_filter, List.filter_filter]; congr 1; funext x; exact Bool.and_comm _ _]
/-- Sorting a list that holds the same right cells, no two of one place, gives the same. -/
theorem SortOf.apart {l m s t : List CT} (h : SortOf l s) (h2 : SortOf m t) (hm : m.Perm s) (hr : ∀ c ∈ s, c.ok = true) : t = s := by
  refine rise_uniq h2.rise h.rise fun c => ?_
  have hok : m.filter CT.ok = m := List.filter_eq_self.2 fun x hx => hr x (hm.mem_iff.1 hx)
  rw [h2.holds, hok]
  have nd : ∀ a b : CT, a ∈ s → b ∈ s → CT.cmp a b = 0 → a = b := fun a b ha hb e => by
    obtain ⟨p, q, rfl⟩ := List.append_of_mem ha
    obtain ⟨r1, r2, r3⟩ := List.pairwise_append.1 h.rise
    rcases List.mem_append.1 hb with hb | hb
    · have := r3 b hb a List.mem_cons_self
      have := ct_c3.anti a b
      omega
    · rcases List.mem_cons.1 hb with rfl | hb
      · rfl
      · have := (List.pairwise_cons.1 r2).1 b hb
        omega
  have ndm : m.Nodup := hm.nodup_iff.2 (h.rise.imp fun {a b} hab e => by
    subst e
    have := ct_c3.zero a
    omega)
  constructor
  · rintro ⟨a, b, rfl, _⟩
    exact hm.mem_iff.1 (by simp)
  · intro hc
    obtain ⟨a, b, rfl⟩ := List.append_of_mem (hm.mem_iff.2 hc)
    refine ⟨a, b, rfl, fun d hd e => ?_⟩
    have hd2 : d ∈ s := hm.mem_iff.1 (by simp [hd])
    have := nd c d hc hd2 e
    subst this
    have h3 := (List.nodup_append.1 ndm).2.1
    exact (List.nodup_cons.1 h3).1 hd
end Go.Proofs.YtlkbhohpgfhbmaaDoor

/- Which of sorted cells are let, in the document's words: puts that no cell tells to be gone, that live, and of whose column fewer than so many such puts stand ahead. -/
namespace Go.Proofs.YtlkbhohpgfhbmaaDoor
open Go.RowKit

/-- Does d tell that c is gone? -/
def HitC (d c : CT) : Prop := d.r = c.r ∧ d.f = c.f ∧ ((d.k = 4 ∧ c.t ≤ d.t) ∨ (d.k = 3 ∧ c.q = d.q ∧ c.t ≤ d.t) ∨ (d.k = 2 ∧ c.q = d.q ∧ c.t = d.t))
instance (d c : CT) : Decidable (HitC d c) := by unfold HitC; infer_instance
/-- A put that no cell of s tells to be gone, and that lives. -/
def letB (s : List CT) (life now : Int) (c : CT) : Bool := decide (c.k = 1 ∧ (∀ d ∈ s, ¬ HitC d c) ∧ livesM life now c.t = true)
/-- How many such puts of x's column there are in p. -/
def cntB (s : List CT) (life now : Int) (p : List CT) (x : CT) : Nat := (p.filter (fun e => letB s life now e && decide (colC x e))).length
/-- How many such puts of c's column stand ahead of it. -/
def rankN (s : List CT) (life now : Int) (c : CT) : Nat := cntB s life now (s.filter (fun d => decide (CT.cmp d c < 0))) c
def seeB (s : List CT) (ver life now : Int) (c : CT) : Bool := letB s life now c && decide ((rankN s life now c : Int) < ver)

theorem pre_fam {d a x : CT} (hr : x.r = d.r) (hf : x.f = d.f) (h1 : CT.cmp d a ≤ 0) (h2 : CT.cmp a x ≤ 0) : x.r = a.r ∧ x.f = a.f ∧ rankC d.k ≤ rankC a.k ∧ rankC a.k ≤ rankC x.k := by
  rw [cmp_lex] at h1 h2
  obtain ⟨r1, h1⟩ := lex_le h1
  obtain ⟨r2, h2⟩ := lex_le h2
  rw [hr] at r2
  have er : d.r = a.r := ba_between r1 r2
  have h1 := h1 (by rw [er]; exact cmpB_self _)
  have h2 := h2 (by rw [hr, er]; exact cmpB_self _)
  obtain ⟨f1, h1⟩ := lex_le h1
  obtain ⟨f2, h2⟩ := lex_le h2
  rw [hf] at f2
  have ef : d.f = a.f := ba_between f1 f2
  have h1 := h1 (by rw [ef]; exact cmpB_self _)
  have h2 := h2 (by rw [hf, ef]; exact cmpB_self _)
  obtain ⟨k1, h1⟩ := lex_le h1
  obtain ⟨k2, h2⟩ := lex_le h2
  exact ⟨hr.trans er, hf.trans ef, int_le k1, int_le k2⟩
theorem rank_four (k : Int) : rankC k ≤ 1 ∧ 0 ≤ rankC k ∧ (rankC k = 1 ↔ k ≠ 4) := by
  unfold rankC
  split
  · exact ⟨by omega, by omega, (fun h => by omega), (fun h => absurd ‹k = 4› h)⟩
  · exact ⟨by omega, by omega, (fun _ => by assumption), (fun _ => rfl)⟩
/-- In a column what isn't a family's stands by time. -/
theorem pre_time {d x : CT} (h : colC x d) (hd : d.k ≠ 4) (h1 : CT.cmp d x ≤ 0) : x.k ≠ 4 ∧ x.t ≤ d.t := by
  obtain ⟨hr, hf, hq⟩ := h
  rw [cmp_lex, hr, hf, hq, if_pos (cmpB_self _), if_pos (cmpB_self _)] at h1
  obtain ⟨k1, h1⟩ := lex_le h1
  have k1 := int_le k1
  have a1 := rank_four d.k
  have a2 := rank_four x.k
  have e1 := a1.2.2.2 hd
  have hx : x.k ≠ 4 := a2.2.2.1 (by omega)
  have h1 := h1 (by rw [show rankC x.k = rankC d.k by have := a2.2.2.2 hx; omega]; exact int_self _)
  rw [if_pos (cmpB_self _)] at h1
  obtain ⟨t1, _⟩ := lex_le h1
  have := int_le t1
  exact ⟨hx, by omega⟩
theorem pre_col {d a x : CT} (h : colC x d) (hd : d.k ≠ 4) (h1 : CT.cmp d a ≤ 0) (h2 : CT.cmp a x ≤ 0) : colC x a ∧ a.k ≠ 4 ∧ x.k ≠ 4 ∧ a.t ≤ d.t ∧ x.t ≤ a.t := by
  obtain ⟨er, ef, k1, k2⟩ := pre_fam h.1 h.2.1 h1 h2
  have a1 := rank_four d.k
  have a2 := rank_four a.k
  have a3 := rank_four x.k
  have e1 := a1.2.2.2 hd
  have ha : a.k ≠ 4 := a2.2.2.1 (by omega)
  have hx : x.k ≠ 4 := a3.2.2.1 (by omega)
  have ka := a2.2.2.2 ha
  have kx := a3.2.2.2 hx
  have hda : d.r = a.r ∧ d.f = a.f := ⟨h.1.symm.trans er, h.2.1.symm.trans ef⟩
  have eq : x.q = a.q := by
    have c1 := h1
    have c2 := h2
    rw [cmp_lex, hda.1, hda.2, if_pos (cmpB_self _), if_pos (cmpB_self _), show rankC d.k = rankC a.k by omega, if_pos (int_self _)] at c1
    rw [cmp_lex, er, ef, if_pos (cmpB_self _), if_pos (cmpB_self _), show rankC a.k = rankC x.k by omega, if_pos (int_self _)] at c2
    obtain ⟨q1, _⟩ := lex_le c1
    obtain ⟨q2, _⟩ := lex_le c2
    rw [h.2.2] at q2
    exact h.2.2.trans (ba_between q1 q2)
  have hc : colC x a := ⟨er, ef, eq⟩
  have hca : colC a d := ⟨er.symm.trans h.1, ef.symm.trans h.2.1, eq.symm.trans h.2.2⟩
  exact ⟨hc, ha, hx, (pre_time hca hd h1).2, (pre_time hc ha h2).2⟩
/-- What stands behind a put doesn't tell that it is gone. -/
theorem after_hit {x d : CT} (hx : x.k = 1) (h : CT.cmp x d < 0) : ¬ HitC d x := by
  rintro ⟨hr, hf, hh⟩
  rcases hh with ⟨k, _⟩ | ⟨k, hq, ht⟩ | ⟨k, hq, ht⟩
  · rw [cmp_lex, hr, hf, if_pos (cmpB_self _), if_pos (cmpB_self _), hx, k] at h
    have e : Lib.compareInt (rankC 1) (rankC 4) = 1 := by decide
    rw [e, if_neg (by decide)] at h
    omega
  · have h2 := (pre_time (d := x) (x := d) ⟨hr, hf, hq.symm⟩ (by omega) (by omega)).2
    rw [cmp_lex, hr, hf, hq, if_pos (cmpB_self _), if_pos (cmpB_self _), hx, k, show rankC 1 = rankC 3 by decide, if_pos (int_self _), if_pos (cmpB_self _), show x.t = d.t by omega, if_pos (int_self _)] at h
    revert h; decide
  · rw [cmp_lex, hr, hf, hq, if_pos (cmpB_self _), if_pos (cmpB_self _), hx, k, show rankC 1 = rankC 2 by decide, if_pos (int_self _), if_pos (cmpB_self _), ht, if_pos (int_self _)] at h
    revert h; decide

/-- How the sight, moved to x, stands to the cells p ahead of it. -/
structure PreS (s : List CT) (ver life now : Int) (p : List CT) (g : SG) (x : CT) : Prop where
  fam : ∀ t, 0 ≤ t → ((g.move x).fam < t ↔ ∀ d ∈ p, d.k = 4 → x.r = d.r → x.f = d.f → d.t < t)
  col : (g.move x).col = true ↔ ∃ d ∈ p, d.k = 3 ∧ colC x d
  cel : (g.move x).cell = -1 ∨ ∃ d ∈ p, d.k = 2 ∧ colC x d ∧ d.t = (g.move x).cell
  cel2 : ∀ d ∈ p, d.k = 2 → colC x d → d.t = x.t → (g.move x).cell = x.t
  seen : (g.move x).seen = min ver (cntB s life now p x)

theorem move_zero (x : CT) (hx : 1 ≤ x.r.data.toList.length) : SG.zero.move x = ⟨x, -1, false, -1, 0⟩ := by
  have h : x.r ≠ SG.zero.at'.r := fun e => by
    rw [e] at hx
    exact absurd hx (by decide)
  unfold SG.move
  rw [if_pos (.inl h)]
theorem pres_zero (s : List CT) (ver life now : Int) (hv : 1 ≤ ver) (x : CT) (hx : 1 ≤ x.r.data.toList.length) : PreS s ver life now [] SG.zero x := by
  have e := move_zero x hx
  constructor
  · intro t ht
    rw [e]
    exact ⟨(fun _ d hd => by cases hd), (fun _ => by show (-1 : Int) < t; omega)⟩
  · rw [e]
    exact ⟨(fun h => by cases h), (fun ⟨d, hd, _⟩ => by cases hd)⟩
  · rw [e]; exact .inl rfl
  · intro d hd; cases hd
  · rw [e]; show (0 : Int) = min ver (0 : Nat); omega

/-- The decision, in the document's words. -/
theorem pres_lets {s p m : List CT} {ver life now : Int} {g : SG} {x : CT} (h : PreS s ver life now p g x) (hs : s = p ++ x :: m) (hr : s.Pairwise (fun x y => CT.cmp x y < 0)) (ht : 0 ≤ x.t) :
    (g.lets x ver life now).2 = (letB s life now x && decide ((cntB s life now p x : Int) < ver)) := by
  by_cases k1 : x.k = 1
  · have hhas : (g.move x).has x.t = true ↔ ∀ d ∈ s, ¬ HitC d x := by
      rw [hs] at hr
      obtain ⟨r1, r2, r3⟩ := List.pairwise_append.1 hr
      have r4 := (List.pairwise_cons.1 r2).1
      have hb : ∀ d ∈ p, CT.cmp d x < 0 := fun d hd => r3 d hd x List.mem_cons_self
      unfold SG.has
      rw [Bool.and_eq_true, Bool.and_eq_true, Bool.not_eq_true', decide_eq_true_iff, decide_eq_true_iff]
      constructor
      · rintro ⟨c1, c2, c3⟩ d hd hh
        rw [hs] at hd
        rcases List.mem_append.1 hd with hd | hd
        · obtain ⟨er, ef, hh⟩ := hh
          rcases hh with ⟨k, q⟩ | ⟨k, q, _⟩ | ⟨k, q, qt⟩
          · have := (h.fam x.t ht).1 c2 d hd k er.symm ef.symm
            omega
          · have := h.col.2 ⟨d, hd, k, er.symm, ef.symm, q⟩
            rw [this] at c1; cases c1
          · exact c3 (h.cel2 d hd k ⟨er.symm, ef.symm, q⟩ qt.symm).symm
        · rcases List.mem_cons.1 hd with rfl | hd
          · obtain ⟨_, _, ⟨k, _⟩ | ⟨k, _⟩ | ⟨k, _⟩⟩ := hh <;> omega
          · exact after_hit k1 (r4 d hd) hh
      · intro hh
        refine ⟨?_, ?_, ?_⟩
        · cases e : (g.move x).col with
          | false => rfl
          | true =>
            obtain ⟨d, hd, k, c⟩ := h.col.1 e
            exact absurd ⟨c.1.symm, c.2.1.symm, .inr (.inl ⟨k, c.2.2, (pre_time c (by omega) (Int.le_of_lt (hb d hd))).2⟩)⟩ (hh d (by rw [hs]; exact List.mem_append_left _ hd))
        · refine (h.fam x.t ht).2 fun d hd k er ef => ?_
          false_or_by_contra
          rename_i q
          exact hh d (by rw [hs]; exact List.mem_append_left _ hd) ⟨er.symm, ef.symm, .inl ⟨k, by omega⟩⟩
        · intro e
          rcases h.cel with q | ⟨d, hd, k, c, q⟩
          · omega
          · exact hh d (by rw [hs]; exact List.mem_append_left _ hd) ⟨c.1.symm, c.2.1.symm, .inr (.inr ⟨k, c.2.2, by omega⟩)⟩
    have hsn : (g.move x).seen < ver ↔ (cntB s life now p x : Int) < ver := by rw [h.seen]; omega
    unfold SG.lets
    simp only
    rw [if_neg (by omega), if_neg (by omega), if_neg (by omega)]
    unfold letB
    by_cases q : x.k = 1 ∧ (g.move x).has x.t = true ∧ livesM life now x.t = true ∧ (g.move x).seen < ver
    · rw [if_pos q, decide_eq_true ⟨k1, hhas.1 q.2.1, q.2.2.1⟩, decide_eq_true (hsn.1 q.2.2.2)]
      rfl
    · rw [if_neg q]
      symm
      show _ = false
      rw [Bool.and_eq_false_iff]
      by_cases q2 : (cntB s life now p x : Int) < ver
      · exact .inl (decide_eq_false fun z => q ⟨k1, hhas.2 z.2.1, z.2.2, hsn.2 q2⟩)
      · exact .inr (decide_eq_false q2)
  · have e : letB s life now x = false := decide_eq_false fun z => k1 z.1
    rw [e, Bool.false_and]
    unfold SG.lets
    simp only
    split
    · rfl
    · split
      · rfl
      · split
        · rfl
        · rw [if_neg fun z => k1 z.1]

/-- Where the sight stands behind a cell. -/
theorem lets_parts (g : SG) (a : CT) (ver life now : Int) :
    (g.lets a ver life now).1.at' = a ∧ (g.lets a ver life now).1.fam = (if a.k = 4 then max (g.move a).fam a.t else (g.move a).fam) ∧ (g.lets a ver life now).1.col = ((g.move a).col || decide (a.k = 3)) ∧
    (g.lets a ver life now).1.cell = (if a.k = 2 then a.t else (g.move a).cell) ∧ (g.lets a ver life now).1.seen = (if (g.lets a ver life now).2 = true then IntKind.i64.wrap ((g.move a).seen + 1) else (g.move a).seen) := by
  have hm := (move_seen g a).1
  unfold SG.lets
  simp only
  by_cases k4 : a.k = 4
  · rw [if_pos k4, if_pos k4, if_neg (by omega)]
    exact ⟨hm, rfl, by rw [decide_eq_false (by omega), Bool.or_false], rfl, rfl⟩
  · rw [if_neg k4, if_neg k4]
    by_cases k3 : a.k = 3
    · rw [if_pos k3, if_neg (by omega)]
      exact ⟨hm, rfl, by rw [decide_eq_true k3, Bool.or_true], rfl, rfl⟩
    · rw [if_neg k3, decide_eq_false k3, Bool.or_false]
      by_cases k2 : a.k = 2
      · rw [if_pos k2, if_pos k2]
        exact ⟨hm, rfl, rfl, rfl, rfl⟩
      · rw [if_neg k2, if_neg k2]
        split
        · exact ⟨hm, rfl, rfl, rfl, rfl⟩
        · exact ⟨hm, rfl, rfl, rfl, rfl⟩

theorem cnt_snoc (s : List CT) (life now : Int) (p : List CT) (a x : CT) : cntB s life now (p ++ [a]) x = cntB s life now p x + (if letB s life now a = true ∧ colC x a then 1 else 0) := by
  unfold cntB
  rw [List.filter_append, List.length_append, List.filter_cons, List.filter_nil]
  by_cases h : letB s life now a = true ∧ colC x a
  · rw [if_pos h, if_pos (by rw [h.1, decide_eq_true h.2]; rfl)]
    rfl
  · rw [if_neg h, if_neg (by rw [Bool.and_eq_true, decide_eq_true_iff]; exact h)]
    rfl
theorem cnt_col (s : List CT) (life now : Int) (p : List CT) (a x : CT) (h : colC x a) : cntB s life now p x = cntB s life now p a := by
  unfold cntB
  congr 2
  funext e
  congr 1
  apply decide_eq_decide.2
  exact ⟨(fun q => ⟨h.1.symm.trans q.1, h.2.1.symm.trans q.2.1, h.2.2.symm.trans q.2.2⟩), (fun q => ⟨h.1.trans q.1, h.2.1.trans q.2.1, h.2.2.trans q.2.2⟩)⟩
theorem cnt_zero (s : List CT) (life now : Int) (p : List CT) (x : CT) (h : ∀ e ∈ p, e.k = 1 → ¬ colC x e) : cntB s life now p x = 0 := by
  unfold cntB
  rw [List.filter_eq_nil_iff.2]
  · rfl
  · intro e he q
    rw [Bool.and_eq_true, decide_eq_true_iff] at q
    exact h e he (of_decide_eq_true q.1).1 q.2

/-- One cell on. -/
theorem pres_step {s p m : List CT} {ver life now : Int} {g : SG} {a : CT} (hv : 1 ≤ ver) (h8 : ver ≤ 8) (h : PreS s ver life now p g a) (hs : s = p ++ a :: m) (hr : s.Pairwise (fun x y => CT.cmp x y < 0)) (ht : 0 ≤ a.t) (x : CT) (hx : x ∈ m) :
    PreS s ver life now (p ++ [a]) (g.lets a ver life now).1 x := by
  have hl := pres_lets h hs hr ht
  obtain ⟨g1, g2, g3, g4, g5⟩ := lets_parts g a ver life now
  rw [hs] at hr
  obtain ⟨r1, r2, r3⟩ := List.pairwise_append.1 hr
  have hax : CT.cmp a x < 0 := (List.pairwise_cons.1 r2).1 x hx
  have hle : ∀ d ∈ p ++ [a], CT.cmp d a ≤ 0 := fun d hd => by
    rcases List.mem_append.1 hd with hd | hd
    · exact Int.le_of_lt (r3 d hd a List.mem_cons_self)
    · rcases List.mem_singleton.1 hd with rfl
      rw [ct_c3.zero]; omega
  have pf : ∀ d ∈ p ++ [a], x.r = d.r → x.f = d.f → x.r = a.r ∧ x.f = a.f := fun d hd e1 e2 =>
    have := pre_fam e1 e2 (hle d hd) (Int.le_of_lt hax)
    ⟨this.1, this.2.1⟩
  have pc : ∀ d ∈ p ++ [a], colC x d → d.k ≠ 4 → colC x a ∧ a.k ≠ 4 ∧ x.k ≠ 4 ∧ a.t ≤ d.t ∧ x.t ≤ a.t := fun d hd c k => pre_col c k (hle d hd) (Int.le_of_lt hax)
  have F : x.r = a.r → x.f = a.f → ∀ t, 0 ≤ t → ((g.lets a ver life now).1.fam < t ↔ ∀ d ∈ p ++ [a], d.k = 4 → x.r = d.r → x.f = d.f → d.t < t) := by
    intro er ef t ht0
    rw [g2]
    have hf := h.fam t ht0
    constructor
    · intro q d hd k e1 e2
      rcases List.mem_append.1 hd with hd | hd
      · exact hf.1 (by split at q <;> omega) d hd k (er.symm.trans e1) (ef.symm.trans e2)
      · rcases List.mem_singleton.1 hd with rfl
        rw [if_pos k] at q; omega
    · intro q
      have q1 := hf.2 fun d hd k e1 e2 => q d (List.mem_append_left _ hd) k (er.trans e1) (ef.trans e2)
      split
      · rename_i k
        have := q a (List.mem_append_right _ (List.mem_singleton.2 rfl)) k er ef
        omega
      · exact q1
  generalize (g.lets a ver life now).1 = G at *
  obtain ⟨ga, gf, gc, ge, gs⟩ := G
  simp only at g1 g2 g3 g4 g5 F
  subst g1
  by_cases c1 : x.r ≠ ga.r ∨ x.f ≠ ga.f
  · have e : SG.move ⟨ga, gf, gc, ge, gs⟩ x = ⟨x, -1, false, -1, 0⟩ := by unfold SG.move; rw [if_pos c1]
    have no : ∀ d ∈ p ++ [ga], x.r = d.r → x.f = d.f → False := fun d hd e1 e2 => by
      have := pf d hd e1 e2
      rcases c1 with c | c
      · exact c this.1
      · exact c this.2
    constructor
    · intro t ht0
      rw [e]
      exact ⟨(fun _ d hd _ e1 e2 => (no d hd e1 e2).elim), (fun _ => by show (-1 : Int) < t; omega)⟩
    · rw [e]
      exact ⟨(fun z => by cases z), (fun ⟨d, hd, _, c⟩ => (no d hd c.1 c.2.1).elim)⟩
    · rw [e]; exact .inl rfl
    · intro d hd _ c
      exact (no d hd c.1 c.2.1).elim
    · rw [e, cnt_zero s life now _ x fun d hd _ c => no d hd c.1 c.2.1]
      show (0 : Int) = min ver (0 : Nat); omega
  · have er : x.r = ga.r := by false_or_by_contra; rename_i q; exact c1 (.inl q)
    have ef : x.f = ga.f := by false_or_by_contra; rename_i q; exact c1 (.inr q)
    by_cases c2 : x.q ≠ ga.q
    · have e : SG.move ⟨ga, gf, gc, ge, gs⟩ x = ⟨x, gf, false, -1, 0⟩ := by unfold SG.move; rw [if_neg c1, if_pos c2]
      have no : ∀ d ∈ p ++ [ga], d.k ≠ 4 → colC x d → False := fun d hd k c => c2 (pc d hd c k).1.2.2
      constructor
      · rw [e]; exact F er ef
      · rw [e]
        exact ⟨(fun z => by cases z), (fun ⟨d, hd, k, c⟩ => (no d hd (by omega) c).elim)⟩
      · rw [e]; exact .inl rfl
      · intro d hd k c
        exact (no d hd (by omega) c).elim
      · rw [e, cnt_zero s life now _ x fun d hd k c => no d hd (by omega) c]
        show (0 : Int) = min ver (0 : Nat); omega
    · have eq : x.q = ga.q := by false_or_by_contra; rename_i q; exact c2 q
      have e : SG.move ⟨ga, gf, gc, ge, gs⟩ x = ⟨x, gf, gc, ge, gs⟩ := by unfold SG.move; rw [if_neg c1, if_neg c2]
      have hc : colC x ga := ⟨er, ef, eq⟩
      have cc : ∀ d, colC x d → colC ga d := fun d q => ⟨er.symm.trans q.1, ef.symm.trans q.2.1, eq.symm.trans q.2.2⟩
      have cc2 : ∀ d, colC ga d → colC x d := fun d q => ⟨er.trans q.1, ef.trans q.2.1, eq.trans q.2.2⟩
      have la : ga ∈ p ++ [ga] := List.mem_append_right _ (List.mem_singleton.2 rfl)
      constructor
      · rw [e]; exact F er ef
      · rw [e]
        show gc = true ↔ _
        rw [g3, Bool.or_eq_true, decide_eq_true_iff, h.col]
        constructor
        · rintro (⟨d, hd, k, c⟩ | k)
          · exact ⟨d, List.mem_append_left _ hd, k, cc2 d c⟩
          · exact ⟨ga, la, k, hc⟩
        · rintro ⟨d, hd, k, c⟩
          rcases List.mem_append.1 hd with hd | hd
          · exact .inl ⟨d, hd, k, cc d c⟩
          · rcases List.mem_singleton.1 hd with rfl
            exact .inr k
      · rw [e]
        show ge = -1 ∨ ∃ d ∈ p ++ [ga], d.k = 2 ∧ colC x d ∧ d.t = ge
        rw [g4]
        split
        · rename_i k
          exact .inr ⟨ga, la, k, hc, rfl⟩
        · rcases h.cel with q | ⟨d, hd, k, c, q⟩
          · exact .inl q
          · exact .inr ⟨d, List.mem_append_left _ hd, k, cc2 d c, q⟩
      · intro d hd k c q
        rw [e]
        show ge = x.t
        obtain ⟨_, _, _, t1, t2⟩ := pc d hd c (by omega)
        rw [g4]
        split
        · omega
        · rename_i k2
          rcases List.mem_append.1 hd with hd | hd
          · have := h.cel2 d hd k (cc d c) (by omega)
            omega
          · rcases List.mem_singleton.1 hd with rfl
            exact absurd k k2
      · rw [e]
        show gs = _
        rw [g5, cnt_snoc, cnt_col s life now p ga x hc, h.seen, hl]
        by_cases b1 : letB s life now ga = true
        · have b0 : letB s life now ga = true ∧ colC x ga := ⟨b1, hc⟩
          rw [if_pos b0, b1, Bool.true_and]
          by_cases b2 : (cntB s life now p ga : Int) < ver
          · rw [if_pos (decide_eq_true b2), IntKind.wrap_i64]
            omega
          · rw [if_neg (by rw [decide_eq_true_iff]; exact b2)]
            omega
        · have b0 : ¬ (letB s life now ga = true ∧ colC x ga) := fun z => b1 z.1
          have b2 : letB s life now ga = false := by simpa using b1
          rw [if_neg b0, b2, Bool.false_and, if_neg (by decide)]
          omega

theorem rise_before {s p m : List CT} {c : CT} (hs : s = p ++ c :: m) (hr : s.Pairwise (fun x y => CT.cmp x y < 0)) : s.filter (fun d => decide (CT.cmp d c < 0)) = p := by
  subst hs
  obtain ⟨r1, r2, r3⟩ := List.pairwise_append.1 hr
  rw [List.filter_append, List.filter_eq_self.2 (fun d hd => decide_eq_true (r3 d hd c List.mem_cons_self)), List.filter_eq_nil_iff.2, List.append_nil]
  intro d hd q
  have q := of_decide_eq_true q
  rcases List.mem_cons.1 hd with rfl | hd
  · rw [ct_c3.zero] at q; omega
  · have := (List.pairwise_cons.1 r2).1 d hd
    have := ct_c3.anti c d
    omega
theorem seenF_go {s : List CT} {ver life now : Int} (hv : 1 ≤ ver) (h8 : ver ≤ 8) (hr : s.Pairwise (fun x y => CT.cmp x y < 0)) (hok : ∀ c ∈ s, 0 ≤ c.t) :
    ∀ (m p : List CT) (g : SG), s = p ++ m → (∀ x ∈ m, PreS s ver life now p g x) → seenF ver life now g m = m.filter (seeB s ver life now)
  | [], _, _, _, _ => rfl
  | a :: m, p, g, hs, hp => by
    have ht : 0 ≤ a.t := hok a (by rw [hs]; simp)
    have h := hp a List.mem_cons_self
    have hl := pres_lets h hs hr ht
    have ih := seenF_go hv h8 hr hok m (p ++ [a]) (g.lets a ver life now).1 (by rw [hs]; simp) (fun x hx => pres_step hv h8 h hs hr ht x hx)
    have e : seeB s ver life now a = (g.lets a ver life now).2 := by
      rw [hl]
      unfold seeB rankN
      rw [rise_before hs hr]
    show (if (g.lets a ver life now).2 = true then a :: seenF ver life now (g.lets a ver life now).1 m else seenF ver life now (g.lets a ver life now).1 m) = _
    rw [ih, List.filter_cons, e]
theorem ok_parts {c : CT} (h : c.ok = true) : 1 ≤ c.r.data.toList.length ∧ 0 ≤ c.t ∧ c.t ≤ 1099511627776 := by
  unfold CT.ok cRight cHead at h
  simp only [Bool.and_eq_true, decide_eq_true_iff] at h
  omega
/-- What is to be seen of sorted cells. -/
theorem seenL_is {s : List CT} (ver life now : Int) (hr : s.Pairwise (fun x y => CT.cmp x y < 0)) (hok : ∀ c ∈ s, c.ok = true) : seenL ver life now s = if rightM ver life = true then s.filter (seeB s ver life now) else [] := by
  unfold seenL
  split
  · rename_i q
    unfold rightM at q
    simp only [Bool.and_eq_true, decide_eq_true_iff] at q
    exact seenF_go q.1 q.2.1 hr (fun c hc => (ok_parts (hok c hc)).2.1) s [] SG.zero rfl (fun x hx => pres_zero s ver life now q.1 x (ok_parts (hok x hx)).1)
  · rfl
end Go.Proofs.YtlkbhohpgfhbmaaDoor

/- With what was seen alone the same is seen, now and later; what a cell tells to be gone isn't seen behind it, all else is. -/
namespace Go.Proofs.YtlkbhohpgfhbmaaDoor
open Go.RowKit

theorem rise_sort {n t : List CT} (hr : n.Pairwise (fun x y => CT.cmp x y < 0)) (hok : ∀ c ∈ n, c.ok = true) (h : SortOf n t) : t = n := by
  refine rise_uniq h.rise hr fun c => ?_
  rw [h.holds, List.filter_eq_self.2 hok]
  constructor
  · rintro ⟨a, b, rfl, _⟩; simp
  · intro hc
    obtain ⟨a, b, rfl⟩ := List.append_of_mem hc
    exact ⟨a, b, rfl, fun d hd e => by
      have := (List.pairwise_cons.1 (List.pairwise_append.1 hr).2.1).1 d hd
      omega⟩
theorem lives_now {life now later t : Int} (h : now ≤ later) (hl : livesM life later t = true) : livesM life now t = true := by
  unfold livesM at *
  rw [Bool.or_eq_true, decide_eq_true_iff, decide_eq_true_iff] at *
  omega
theorem lives_time {life now t t' : Int} (h : t ≤ t') (h0 : 0 ≤ t) (h1 : t' ≤ 1099511627776) (hl0 : 0 ≤ life) (hl1 : life ≤ 1125899906842624) (hl : livesM life now t = true) : livesM life now t' = true := by
  unfold livesM at *
  rw [Bool.or_eq_true, decide_eq_true_iff, decide_eq_true_iff] at *
  rw [IntKind.wrap_i64] at *
  omega
theorem rank_count (s : List CT) (life now : Int) (c : CT) : rankN s life now c = s.countP (fun e => letB s life now e && decide (colC c e) && decide (CT.cmp e c < 0)) := by
  unfold rankN cntB
  rw [List.filter_filter, List.countP_eq_length_filter]
theorem and_three (a b c : Bool) : (a && b && c) = true ↔ a = true ∧ (b && c) = true := by rw [Bool.and_assoc, Bool.and_eq_true]
theorem see_later {s : List CT} {ver life now later : Int} (hok : ∀ c ∈ s, c.ok = true) (hn : now ≤ later) (hl0 : 0 ≤ life) (hl1 : life ≤ 1125899906842624) {c : CT} (hc : c ∈ s) :
    seeB s ver life later c = (livesM life later c.t && seeB s ver life now c) := by
  cases hl : livesM life later c.t with
  | false =>
    have e : letB s life later c = false := decide_eq_false fun z => by rw [hl] at z; cases z.2.2
    unfold seeB
    rw [e, Bool.false_and, Bool.false_and]
  | true =>
    have same : ∀ e ∈ s, c.t ≤ e.t → letB s life later e = letB s life now e := fun e he ht => by
      have p := ok_parts (hok e he)
      have pc := ok_parts (hok c hc)
      have h1 := lives_time (now := later) ht pc.2.1 p.2.2 hl0 hl1 hl
      have h2 := lives_now hn h1
      unfold letB
      rw [h1, h2]
    have er : rankN s life later c = rankN s life now c := by
      rw [rank_count, rank_count]
      refine List.countP_congr fun e he => ?_
      have key : (decide (colC c e) && decide (CT.cmp e c < 0)) = true → e.k = 1 → c.t ≤ e.t := fun h k => by
        rw [Bool.and_eq_true, decide_eq_true_iff, decide_eq_true_iff] at h
        exact (pre_time h.1 (by omega) (Int.le_of_lt h.2)).2
      rw [and_three, and_three]
      constructor
      · rintro ⟨h1, h2⟩
        have k := (of_decide_eq_true h1).1
        exact ⟨by rw [← same e he (key h2 k)]; exact h1, h2⟩
      · rintro ⟨h1, h2⟩
        have k := (of_decide_eq_true h1).1
        exact ⟨by rw [same e he (key h2 k)]; exact h1, h2⟩
    unfold seeB
    rw [er, same c hc (Int.le_refl _), Bool.true_and]
theorem hit_put {d c : CT} (h : d.k = 1) : ¬ HitC d c := by
  rintro ⟨_, _, ⟨k, _⟩ | ⟨k, _⟩ | ⟨k, _⟩⟩ <;> omega
theorem seen_filter {s : List CT} {ver life now later : Int} (hok : ∀ c ∈ s, c.ok = true) (hn : now ≤ later) (hl0 : 0 ≤ life) (hl1 : life ≤ 1125899906842624) :
    (s.filter (seeB s ver life now)).filter (seeB (s.filter (seeB s ver life now)) ver life later) = s.filter (seeB s ver life later) := by
  have put : ∀ e ∈ s.filter (seeB s ver life now), e.k = 1 := fun e he => by
    have := (List.mem_filter.1 he).2
    unfold seeB at this
    rw [Bool.and_eq_true] at this
    exact (of_decide_eq_true this.1).1
  have lt : ∀ e ∈ s.filter (seeB s ver life now), letB (s.filter (seeB s ver life now)) life later e = livesM life later e.t := fun e he => by
    unfold letB
    cases hl : livesM life later e.t with
    | false => exact decide_eq_false fun z => by cases z.2.2
    | true => exact decide_eq_true ⟨put e he, fun d hd => hit_put (put d hd), rfl⟩
  have e1 : (s.filter (seeB s ver life now)).filter (seeB (s.filter (seeB s ver life now)) ver life later) = (s.filter (seeB s ver life now)).filter (fun c => livesM life later c.t) := by
    refine List.filter_congr fun c hc => ?_
    have hs := (List.mem_filter.1 hc).2
    have hrk : rankN (s.filter (seeB s ver life now)) life later c ≤ rankN s life now c := by
      rw [rank_count, rank_count]
      refine Nat.le_trans (List.countP_mono_left (q := fun e => letB s life now e && decide (colC c e) && decide (CT.cmp e c < 0)) fun e he h => ?_) (List.filter_sublist.countP_le)
      have hse := (List.mem_filter.1 he).2
      unfold seeB at hse
      simp only [Bool.and_eq_true] at h hse ⊢
      exact ⟨⟨hse.1, h.1.2⟩, h.2⟩
    unfold seeB at hs
    rw [Bool.and_eq_true, decide_eq_true_iff] at hs
    show (letB (s.filter (seeB s ver life now)) life later c && decide ((rankN (s.filter (seeB s ver life now)) life later c : Int) < ver)) = _
    rw [lt c hc, decide_eq_true (by omega), Bool.and_true]
  rw [e1, List.filter_filter]
  refine List.filter_congr fun c hc => ?_
  rw [see_later hok hn hl0 hl1 hc]
/-- What was seen, sorted again and seen later. -/
theorem same_all {l s t : List CT} {ver life now later : Int} (h : SortOf l s) (hn : now ≤ later) (hl1 : life ≤ 1125899906842624) (h2 : SortOf (seenL ver life now s) t) : seenL ver life later t = seenL ver life later s := by
  have hr := h.rise
  have hok : ∀ c ∈ s, c.ok = true := fun c hc => (h.mem hc).2
  have hk : t = seenL ver life now s := by
    refine rise_sort ?_ ?_ h2
    · rw [seenL_is ver life now hr hok]
      split
      · exact hr.filter _
      · exact List.Pairwise.nil
    · intro c hc
      rw [seenL_is ver life now hr hok] at hc
      split at hc
      · exact hok c (List.mem_filter.1 hc).1
      · cases hc
  rw [seenL_is ver life later h2.rise (fun c hc => (h2.mem hc).2), seenL_is ver life later hr hok, hk, seenL_is ver life now hr hok]
  split
  · rename_i q
    unfold rightM at q
    simp only [Bool.and_eq_true, decide_eq_true_iff] at q
    exact seen_filter hok hn q.2.2 hl1
  · rfl

theorem place_eq {e d : CT} (h : CT.cmp e d = 0) : e.r = d.r ∧ e.f = d.f ∧ e.q = d.q ∧ e.t = d.t ∧ e.k = d.k := by
  have i0 : ∀ a b : Int, Lib.compareInt a b = 0 → a = b := fun a b q => by
    have h1 := int_le (a := a) (b := b) (by omega)
    have h2 : ¬ a < b := fun z => by
      unfold Lib.compareInt at q
      rw [if_pos z] at q
      omega
    omega
  rw [cmp_lex] at h
  by_cases h1 : Lib.compareBytes e.r.data.toList d.r.data.toList = 0
  · rw [if_pos h1] at h
    by_cases h2 : Lib.compareBytes e.f.data.toList d.f.data.toList = 0
    · rw [if_pos h2] at h
      by_cases h3 : Lib.compareInt (rankC e.k) (rankC d.k) = 0
      · rw [if_pos h3] at h
        by_cases h4 : Lib.compareBytes e.q.data.toList d.q.data.toList = 0
        · rw [if_pos h4] at h
          by_cases h5 : Lib.compareInt (-e.t) (-d.t) = 0
          · rw [if_pos h5] at h
            by_cases h6 : Lib.compareInt (-e.k) (-d.k) = 0
            · have a5 := i0 _ _ h5
              have a6 := i0 _ _ h6
              exact ⟨ba_eq (cmpB_zero _ _ h1), ba_eq (cmpB_zero _ _ h2), ba_eq (cmpB_zero _ _ h4), by omega, by omega⟩
            · rw [if_neg h6] at h; contradiction
          · rw [if_neg h5] at h; contradiction
        · rw [if_neg h4] at h; contradiction
      · rw [if_neg h3] at h; contradiction
    · rw [if_neg h2] at h; contradiction
  · rw [if_neg h1] at h; contradiction
theorem hit_place {e d c : CT} (h : CT.cmp e d = 0) (hh : HitC e c) : HitC d c := by
  obtain ⟨a1, a2, a3, a4, a5⟩ := place_eq h
  obtain ⟨b1, b2, b3⟩ := hh
  refine ⟨a1 ▸ b1, a2 ▸ b2, ?_⟩
  rw [a3, a4, a5] at b3
  exact b3
/-- What a cell tells to be gone isn't seen; of the rest nothing goes. -/
theorem gone_all {l s s' : List CT} {d : CT} {now : Int} (h : SortOf l s) (h2 : SortOf (l ++ [d]) s') (hd : d.ok = true) (hk : d.k ≠ 1) :
    (∀ c ∈ seenL 8 0 now s', ¬ HitC d c) ∧ ((seenL 8 0 now s).filter (fun c => decide (¬ HitC d c))).Sublist (seenL 8 0 now s') := by
  have hr := h.rise
  have hok : ∀ c ∈ s, c.ok = true := fun c hc => (h.mem hc).2
  have hr2 := h2.rise
  have hok2 : ∀ c ∈ s', c.ok = true := fun c hc => (h2.mem hc).2
  have hm : ∀ c, c ∈ s' ↔ c = d ∨ (c ∈ s ∧ CT.cmp c d ≠ 0) := fun c => by
    rw [h2.holds, h.holds, List.filter_append, List.filter_cons, if_pos hd, List.filter_nil]
    constructor
    · rintro ⟨a, b, e, hb⟩
      rcases List.eq_nil_or_concat b with rfl | ⟨b', z, rfl⟩
      · have := List.append_inj' e rfl
        exact .inl (by have := this.2; injection this with q _; exact q.symm)
      · rw [List.concat_eq_append, ← List.cons_append, ← List.append_assoc] at e
        have e2 := List.append_inj' e rfl
        have ez : d = z := by have := e2.2; injection this
        subst ez
        exact .inr ⟨⟨a, b', e2.1, fun y hy => hb y (by simp [hy])⟩, hb d (by simp)⟩
    · rintro (rfl | ⟨⟨a, b, e, hb⟩, hz⟩)
      · exact ⟨_, [], rfl, fun y hy => by cases hy⟩
      · refine ⟨a, b ++ [d], by rw [e]; simp, fun y hy => ?_⟩
        rcases List.mem_append.1 hy with hy | hy
        · exact hb y hy
        · rcases List.mem_singleton.1 hy with rfl
          exact hz
  have puts : s'.filter (fun c => decide (c.k = 1)) = s.filter (fun c => decide (c.k = 1)) := by
    refine rise_uniq (hr2.filter _) (hr.filter _) fun c => ?_
    rw [List.mem_filter, List.mem_filter, hm, decide_eq_true_iff]
    constructor
    · rintro ⟨rfl | ⟨h1, _⟩, k⟩
      · exact absurd k hk
      · exact ⟨h1, k⟩
    · rintro ⟨h1, k⟩
      exact ⟨.inr ⟨h1, fun e => hk ((place_eq e).2.2.2.2 ▸ k)⟩, k⟩
  have hlet : ∀ c, letB s' 0 now c = (letB s 0 now c && decide (¬ HitC d c)) := fun c => by
    unfold letB
    rw [← Bool.decide_and]
    apply decide_eq_decide.2
    constructor
    · rintro ⟨a, b, e⟩
      refine ⟨⟨a, fun x hx hh => ?_, e⟩, b d ((hm d).2 (.inl rfl))⟩
      by_cases z : CT.cmp x d = 0
      · exact b d ((hm d).2 (.inl rfl)) (hit_place z hh)
      · exact b x ((hm x).2 (.inr ⟨hx, z⟩)) hh
    · rintro ⟨⟨a, b, e⟩, f⟩
      refine ⟨a, fun x hx => ?_, e⟩
      rcases (hm x).1 hx with rfl | ⟨hx, _⟩
      · exact f
      · exact b x hx
  have cnt1 : ∀ (u : List CT) (P : CT → Bool), (∀ e, P e = true → e.k = 1) → u.countP P = (u.filter (fun c => decide (c.k = 1))).countP P := fun u P hP => by
    rw [List.countP_filter]
    refine List.countP_congr fun e _ => ?_
    rw [Bool.and_eq_true, decide_eq_true_iff]
    exact ⟨(fun q => ⟨q, hP e q⟩), (fun q => q.1)⟩
  have fil1 : ∀ (u : List CT) (P : CT → Bool), (∀ e, P e = true → e.k = 1) → u.filter P = (u.filter (fun c => decide (c.k = 1))).filter P := fun u P hP => by
    rw [List.filter_filter]
    refine List.filter_congr fun e _ => ?_
    rw [Bool.eq_iff_iff, Bool.and_eq_true, decide_eq_true_iff]
    exact ⟨(fun q => ⟨q, hP e q⟩), (fun q => q.1)⟩
  have letk : ∀ (u : List CT) e, letB u 0 now e = true → e.k = 1 := fun u e q => (of_decide_eq_true q).1
  have hrk : ∀ c, rankN s' 0 now c ≤ rankN s 0 now c := fun c => by
    rw [rank_count, rank_count, cnt1 s' _ (fun e q => by simp only [Bool.and_eq_true] at q; exact letk s' e q.1.1), cnt1 s _ (fun e q => by simp only [Bool.and_eq_true] at q; exact letk s e q.1.1), puts]
    refine List.countP_mono_left fun e _ q => ?_
    rw [hlet] at q
    simp only [Bool.and_eq_true] at q ⊢
    exact ⟨⟨q.1.1.1, q.1.2⟩, q.2⟩
  have R : rightM 8 0 = true := by decide
  rw [seenL_is 8 0 now hr hok, seenL_is 8 0 now hr2 hok2, if_pos R, if_pos R]
  have seek : ∀ (u : List CT) e, seeB u 8 0 now e = true → e.k = 1 := fun u e q => by
    unfold seeB at q
    rw [Bool.and_eq_true] at q
    exact letk u e q.1
  constructor
  · intro c hc
    have := (List.mem_filter.1 hc).2
    unfold seeB at this
    rw [Bool.and_eq_true, hlet, Bool.and_eq_true, decide_eq_true_iff] at this
    exact this.1.2
  · rw [fil1 s' _ (seek s'), puts, ← fil1 s _ (seek s'), List.filter_filter]
    have e : s.filter (fun c => decide (¬ HitC d c) && seeB s 8 0 now c) = (s.filter (seeB s' 8 0 now)).filter (fun c => decide (¬ HitC d c) && seeB s 8 0 now c) := by
      rw [List.filter_filter]
      refine List.filter_congr fun c _ => ?_
      refine Bool.eq_iff_iff.2 ⟨fun q => Bool.and_eq_true_iff.2 ⟨q, ?_⟩, fun q => (Bool.and_eq_true_iff.1 q).1⟩
      unfold seeB at q ⊢
      simp only [Bool.and_eq_true] at q ⊢
      refine ⟨by rw [hlet, q.2.1, q.1]; rfl, ?_⟩
      have q3 := of_decide_eq_true q.2.2
      exact decide_eq_true (by have := hrk c; omega)
    rw [e]
    exact List.filter_sublist
end Go.Proofs.YtlkbhohpgfhbmaaDoor
