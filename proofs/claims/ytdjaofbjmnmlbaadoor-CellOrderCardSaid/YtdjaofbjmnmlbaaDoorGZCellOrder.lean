/- Several texts in one: KD KI CX IG IF PCOrd. Conditions: as each theorem names them. -/
import Derived.Test.YtdjaofbjmnmlbaaDoorG2CellOrder
import Derived.Deep.AppendSrc
import Derived.Test.YtdjaofbjmnmlbaaDoorG3CellOrder
import Derived.Deep.RegionLaw
import Derived.Deep.RegionHeld3
import Derived.Deep.QuietTactic
import Derived.Test.YtdjaofbjmnmlbaaDoorVLa
import Derived.Test.YtdjaofbjmnmlbaaDoorFN
import Derived.Test.YtdjaofbjmnmlbaaDoorShelf
import Derived.Test.YtdjaofbjmnmlbaaDoorCards
import Derived.Test.YtdjaofbjmnmlbaaDoorTie
import Derived.WalkKit
import Derived.ProofKit
import Derived.OpenShut
import Derived.LaidLaws
import Derived.Deep.DeepHandedRow
import Derived.Lib.LaidTab
import Derived.Lib.LaidU8T
import Derived.Test.YtdjaofbjmnmlbaaDoorHA
/- joistref00.CopyCells, and what is appended to lists of cells. Conditions: the slices hold their cells, a hundred thousand at most. -/
namespace Go.Proofs.YtdjaofbjmnmlbaaDoor
open Go.RowKit

/-- Nothing is appended. -/
theorem run_append_nocell (w : World) (B : Nat) (v : Value) (l : List CT) (h : CRow w B v l) (c : Nat) : (Builtin.append_ #[39, 39] 39 #[v, .slice none 0 c]).run Tryd.prog w = .ok v w := by
  obtain ⟨i0, hi, hz0, hz1, hz2⟩ := info_parts info_cell
  obtain ⟨h1, h2⟩ := h
  rcases h2 with ⟨rfl, h0⟩ | ⟨g, cap, cur, rfl, hB, hh, hn, hm, hs, ht⟩
  · have h1 := run_underlying (P := Tryd.prog) Tryd.underlying39
    have hlen : (Builtin.lenOf (.slice none 0 c)).run Tryd.prog w = .ok 0 w := rfl
    simp [Builtin.append_, h1, sizeOf, typeInfo, hi, Builtin.firstCells, hlen]
  · have := run_append_room_src (P := Tryd.prog) (w := w) 39 39 39 28 i0 Tryd.underlying39 hi g 0 l.length cap (.slice none 0 c) 0 [] (Src.ofNil w Tryd.underlying39 c) (by omega) (fun j hj => absurd hj (by simp)) (fun j hj => absurd hj (by simp))
    rw [this]
    rfl

section
variable {ops : Array Oper} {rest : List Oper} {o : Oper} {a : Act} {Q : Exit → Act → World → Prop}
/-- append of a slice that holds some cells, or none, to a row of the call's own. -/
theorem wpList_append_cells (hgd : o.guard = Option.none) (s x : Operand)
    (ho : o.op = .call { callee := .builtin .append, args := #[s, x], argTypes := #[39, 39] }) (hty : o.type = 39)
    (w : World) (base : Nat) (v : Value) (l : List CT) (hs : a.eval s = v) (hown : CRow w base v l)
    (m : Value) (news : List CT) (hx : a.eval x = m) (hnews : ClA w m news)
    (hlen : l.length + news.length ≤ 1466015503700) (hbase : base ≤ w.heap.size)
    (h : ∀ v' w', CRow w' base v' (l ++ news) → Below base w w' → w.grownBy w' v.ownBlock → wpList Tryd.prog ops Q rest (a.put o.dst v') w') : wpList Tryd.prog ops Q (o :: rest) a w := by
  obtain ⟨i0, hi, hz0, hz1, hz2⟩ := info_parts info_cell
  obtain ⟨A, c, rfl, hc1, hc2, hh⟩ := hnews
  match A, hx, hh with
  | none, hx, hh =>
    have h0 : news = [] := by
      cases news with
      | nil => rfl
      | cons y t => obtain ⟨b, off, e, _⟩ := hh (by simp); cases e
    subst h0
    refine Lib.wpList_append_run w hgd s x 39 39 ho v _ hs hx v w ?_ (h v w (by rwa [List.append_nil]) (Below.refl _ _) ⟨rfl, rfl, rfl, Nat.le_refl _, fun _ _ _ => rfl⟩)
    rw [hty]
    exact run_append_nocell w base v l hown c
  | some ad, hx, hh =>
    refine wpList_append_own w hgd s x 39 ho base 28 i0 _ 8 96 Tryd.underlying39 hi hz0 hz1 hz2 rfl (by decide) v l.length (flatC l) hs hown ad news.length c (flatC news) hx (flatC_len news) (fun j u hu => ?_) (fun u hu => ?_) (by unfold maxLen; omega) (by omega) hbase ?_
    · have hj : j < (flatC news).length := by
        rcases Nat.lt_or_ge j (flatC news).length with h1 | h1
        · exact h1
        · rw [List.getElem?_eq_none h1] at hu; cases hu
      rw [flatC_len] at hj
      obtain ⟨b, off, e, hh2⟩ := hh (by omega)
      cases e
      have hi8 : j / 8 < news.length := by omega
      have h1 := hh2 (j / 8) hi8 (j % 8) (by omega)
      have h2 := flatC_at news (j / 8) (j % 8) hi8 (by omega)
      rw [show off + j / 8 * 8 + j % 8 = off + j by omega] at h1
      rw [show j / 8 * 8 + j % 8 = j by omega] at h2
      rw [add_zero_off, h1, ← h2]
      exact hu
    · have : ∀ (t : List CT), ∀ u ∈ flatC t, u.oneCell' = true := by
        intro t
        induction t with
        | nil => intro u hu; cases hu
        | cons y t ih =>
          intro u hu
          rcases List.mem_append.1 hu with hu | hu
          · exact y.e_one u hu
          · exact ih u hu
      exact this news u hu
    · intro v' w' h1 h2 _
      refine h v' w' ?_ ((Below.refl _ _).grown h2 hbase fun k hk => (World.ownsRow.lt hown k hk).1) h2
      unfold CRow
      rw [flatC_app, List.length_append]
      exact h1
end

theorem empty_crow (W : World) (B : Nat) (hB : B ≤ W.heap.size) : CRow (W.alloc (.cells #[] 28)) B (.slice (some ⟨W.heap.size, 0, none⟩) 0 0) [] := ⟨rfl, .inr ⟨W.heap.size, 0, #[], rfl, hB, Blk.new _ _ _, Nat.le_refl _, by unfold maxLen; omega, rfl, rfl⟩⟩
set_option maxHeartbeats 1000000 in
theorem copycells_any (v : Value) (l : List CT) (hl : l.length ≤ 1466015503658) (w : World) (h : ClA w v l) :
    Calls Tryd.prog 28 #[v] w fun e w' => ∃ v', e = .returned v' ∧ CRow w' w.heap.size v' l ∧ Below w.heap.size w w' := by
  have HS := hid h
  have HR := hid (empty_crow w w.heap.size (Nat.le_refl _))
  have HL := hid hl
  obtain ⟨A, c, rfl, _⟩ := h
  clear hl
  go_enter Tryd.func28, Tryd.ntmps28
  go_wp2_with (at_builtin; refine wpList_append_cells rfl (.tmp 5) (.tmp 6) rfl rfl _ w.heap.size _ [] rfl HR.out _ l rfl (HS.out.below (below_new w _)) (by have := HL.out; simp only [List.length_nil]; omega) (by simp) ?_; intro v' w' hR' hb' _)
  go_ret
  exact ⟨_, rfl, hR', (below_new w _).trans hb'⟩
end Go.Proofs.YtdjaofbjmnmlbaaDoor

/- The statement of layer 6: what is seen doesn't hang on the order of cells. Conditions: the arguments stand, their numbers are of 64 bits; the tables of utf8 read as they are laid. -/
namespace Go.Proofs.YtdjaofbjmnmlbaaDoor
open Go.RowKit

set_option maxHeartbeats 16000000 in
set_option maxRecDepth 100000 in
theorem cellorder_any (v v2 : Value) (l : List CT) (zs : List Int) (ver life now : Int) (w : World) (h : ClA w v l) (hv : ∀ c ∈ l, inI c.vn) (h2 : IntA w v2 zs) (hz : ∀ i, inI (zs.getD i 0)) (hL : LaidU w) :
    Calls Tryd.prog 4 #[v, v2, .int .i64 ver, .int .i64 life, .int .i64 now] w fun e w' => e = .returned (.bool true) ∧ Below w.heap.size w w' := by
  have mixed : Tryd.prog.follows .mixedOrders = true := by kernel_rfl
  have HA := hid (alive_any w hL)
  have HLg : Hid (∀ W, Below w.heap.size w W → Calls Tryd.prog 24 #[v] W fun e w' => e = .returned (.bool (longC l)) ∧ Below W.heap.size W w') := fun W hb => long_any v l W (h.below hb)
  have HZ := hid h2
  obtain ⟨A2, k2, rfl, hk1, hk2, hh2⟩ := h2
  have HZ2 := hid hh2
  clear hh2
  obtain ⟨nz, hnz⟩ : ∃ nz, zs.length = nz := ⟨_, rfl⟩
  have HNZ := hid hnz
  rw [hnz] at hk1 HZ ⊢
  clear hnz
  cases hg : longC l with
  | true =>
    rw [hg] at HLg
    clear h hv hL hg hz HZ HNZ hk1 hk2 HZ2
    go_enter Tryd.func4, Tryd.ntmps4
    go_wp2_with (first | (go_at_call 23; refine HA.out.mono ?_; rintro e w5 ⟨rfl, hb5⟩) | (go_at_call 24; refine (HLg.out _ hb5).mono ?_; rintro e w6 ⟨rfl, hb6⟩; have BW := hid (hb5.trans (hb6.mono hb5.size))))
    all_goals (go_ret; exact ⟨rfl, BW.out⟩)
  | false =>
    by_cases gd : 100 < nz ∨ now < 0 ∨ 1125899906842624 < now ∨ 1125899906842624 < life
    · rw [hg] at HLg
      clear h hv hL hg hz HZ HNZ hk1 hk2 HZ2
      go_enter Tryd.func4, Tryd.ntmps4
      rcases gd with g | g | g | g
      all_goals (
        first | (have gz : (100 : Int) < (nz : Int) := by omega) | skip
        go_wp2_with (first | (go_at_call 23; refine HA.out.mono ?_; rintro e w5 ⟨rfl, hb5⟩) | (go_at_call 24; refine (HLg.out _ hb5).mono ?_; rintro e w6 ⟨rfl, hb6⟩; have BW := hid (hb5.trans (hb6.mono hb5.size))))
        all_goals (go_ret; exact ⟨rfl, BW.out⟩))
    · have g1 : nz ≤ 100 := by
        false_or_by_contra
        exact gd (.inl (by omega))
      have g1z : ¬ (100 : Int) < (nz : Int) := by omega
      have g2 : ¬ now < 0 := fun q => gd (.inr (.inl q))
      have g3 : ¬ 1125899906842624 < now := fun q => gd (.inr (.inr (.inl q)))
      have g4 : ¬ 1125899906842624 < life := fun q => gd (.inr (.inr (.inr q)))
      clear gd
      have okl := (longC_ok hg hv).2
      have lnl := (longC_ok hg hv).1
      have smL := (longC_sm hg hv).2
      rw [hg] at HLg
      have HSo : Hid (∀ W, Below w.heap.size w W → Calls Tryd.prog 25 #[v] W fun e w' => ∃ v' s, e = .returned v' ∧ SortOf l s ∧ CRow w' W.heap.size v' s ∧ Below W.heap.size W w') := fun W hb => sort_any v l lnl W (h.below hb) okl (hL.below hb)
      have HSe : Hid (∀ W, Below w.heap.size w W → Calls Tryd.prog 30 #[v, .int .i64 ver, .int .i64 life, .int .i64 now] W fun e w' => ∃ v' s, e = .returned v' ∧ CRow w' W.heap.size v' (seenL ver life now s) ∧ Hid (SortOf l s) ∧ Below W.heap.size W w') := fun W hb => (cseen_any v l lnl ver life now W (h.below hb) okl (hL.below hb)).mono fun _ _ ⟨v', s, h1, h2, h3, h4⟩ => ⟨v', s, h1, h3, h2, h4⟩
      have HS2 : Hid (∀ m v2 W, m.length ≤ 60 → (∀ c ∈ m, okC c) → ClA W v2 m → Below w.heap.size w W → Calls Tryd.prog 25 #[v2] W fun e w' => ∃ v' s, e = .returned v' ∧ SortOf m s ∧ CRow w' W.heap.size v' s ∧ Below W.heap.size W w') := fun m v2 W hm hok hc hb => sort_any v2 m (by omega) W hc hok (hL.below hb)
      have HE2 : Hid (∀ m v2 W, m.length ≤ 60 → (∀ c ∈ m, okC c) → ClA W v2 m → Below w.heap.size w W → Calls Tryd.prog 30 #[v2, .int .i64 ver, .int .i64 life, .int .i64 now] W fun e w' => ∃ v' s, e = .returned v' ∧ CRow w' W.heap.size v' (seenL ver life now s) ∧ Hid (SortOf m s) ∧ Below W.heap.size W w') := fun m v2 W hm hok hc hb => (cseen_any v2 m (by omega) ver life now W hc hok (hL.below hb)).mono fun _ _ ⟨v', s, h1, h2, h3, h4⟩ => ⟨v', s, h1, h3, h2, h4⟩
      have HSm := hid smL
      have HO := hid okl
      have HLl := hid (longC_sm hg hv).1
      have HZz := hid hz
      clear h hv hL hg okl lnl smL hz
      go_enter Tryd.func4, Tryd.ntmps4
      go_upto_region 6 with (first
        | (go_at_call 23; refine HA.out.mono ?_; rintro e w5 ⟨rfl, hb5⟩)
        | (go_at_call 24; refine (HLg.out _ hb5).mono ?_; rintro e w6 ⟨rfl, hb6⟩; have B6 := hid (hb5.trans (hb6.mono hb5.size)))
        | (go_at_call 25; refine (HSo.out _ B6.out).mono ?_; rintro e w7 ⟨v7, s, rfl, hs7, hr7, hb7⟩))
      have B7 : Hid (Below w.heap.size w w7) := B6.out.trans (hb7.mono B6.out.size)
      have HSs := hid hs7
      have HSmS : Hid (∀ c ∈ s, Sm c ∧ c.ok = true ∧ okC c) := fun c hc => ⟨HSm.out c (hs7.mem hc).1, (hs7.mem hc).2, HO.out c (hs7.mem hc).1⟩
      have HRi := hid hs7.rise
      have hls : s.length ≤ 60 := Nat.le_trans hs7.len HLl.out
      have HCS := hid hr7.cla
      clear hb5 hb6 hb7 hr7 hs7 HSo HA HLg B6 HSm
      obtain ⟨A7, c7, rfl, hc7, hm7, hh7⟩ := HCS.out
      have HH := hid hh7
      clear hh7
      obtain ⟨m, hm⟩ : ∃ m, s.length = m := ⟨_, rfl⟩
      have HM := hid hm
      rw [hm] at hc7 hls HCS ⊢
      clear hm
      have HRr : Hid (∀ c ∈ s, ∀ W, Calls Tryd.prog 26 #[c.v] W fun e w' => e = .returned (.bool true) ∧ Below W.heap.size W w') := fun c hc W => by
        have := refright_ct c (HSmS.out c hc).1 W
        rwa [(HSmS.out c hc).2.1] at this
      go_wp2
      go_loopw [12] (fun vi wr => ∃ i : Nat, i ≤ m ∧ vi = .int .i64 i ∧ Hid (Below w7.heap.size w7 wr)) (fun vi _ => m - (intOf vi).toNat)
      case atStart => exact ⟨0, Nat.zero_le _, rfl, Below.refl _ _⟩
      case round =>
        obtain ⟨i, hi, rfl, HB⟩ := hrel
        by_cases hlt : i < m
        · have him : i < s.length := by rw [HM.out]; exact hlt
          obtain ⟨b, off, rfl, hhc⟩ := HH.out (by rw [HM.out]; omega)
          have hbw : b < w7.heap.size := hhc.lt (by rw [HM.out]; omega)
          obtain ⟨y, hy⟩ : ∃ y, s[i]? = some y := ⟨_, List.getElem?_eq_getElem him⟩
          have HRy := hid (HRr.out y (List.mem_of_getElem? hy))
          cases i with
          | zero =>
            have hltz : (0 : Int) < (m : Int) := by omega
            have P := ct_words (hhc.below HB.out hbw) 0 hy
            rw [Nat.zero_mul, Nat.add_zero] at P
            have HT : Hid (SingW wr b off y wr) := ⟨hid ⟨Below.refl _ _, Nat.lt_of_lt_of_le hbw HB.out.size⟩, P⟩
            obtain ⟨y0, y1, y2, y3, y4, y5, y6, y7⟩ := P
            clear hhc hy him hlt
            go_upto_region 9 with (fail)
            refine wp_region_held_drew (S := (fun W' => Hid (Below wr.heap.size wr W' ∧ b < wr.heap.size) ∧ (W'.cell? ⟨b, off, none⟩ = some (.string y.r) ∧ W'.cell? ⟨b, off + 1, none⟩ = some (.string y.f) ∧ W'.cell? ⟨b, off + 2, none⟩ = some (.string y.q) ∧ W'.cell? ⟨b, off + 3, none⟩ = some (.int .i64 y.t) ∧ W'.cell? ⟨b, off + 4, none⟩ = some (.int .i64 y.k) ∧ W'.cell? ⟨b, off + 5, none⟩ = some (.int .i64 y.vk) ∧ W'.cell? ⟨b, off + 6, none⟩ = some (.int .i64 y.vn) ∧ W'.cell? ⟨b, off + 7, none⟩ = some (.string y.s)))) (by kernel_rfl) ?_ (fun hHeld => ?_)
            (exact sing_drew HT.out)
            (refine wpAnyH_take (i := 0) (v := ?_) rfl (by kernel_rfl) (by kernel_rfl) (by kernel_rfl) (fun _ _ _ h => h) (Or.inl ⟨by kernel_rfl, ?_⟩) (by assumption) ?_; rotate_left; · (intro w hSw; (try dsimp only at hSw); go_simp; first | done | with_reducible rfl))
            (try simp only [Act.put]); (try simp only [List.getElem_toArray]); (try simp only [List.getElem_cons_succ]); (try simp only [List.getElem_cons_zero]); (try simp only [List.setIfInBounds_toArray]); (try simp only [List.set_cons_succ]); (try simp only [List.set_cons_zero])
            (refine wpAnyH_take (i := 1) (v := ?_) rfl (by kernel_rfl) (by kernel_rfl) (by kernel_rfl) (fun _ _ _ h => h) (Or.inl ⟨by kernel_rfl, ?_⟩) (by assumption) ?_; rotate_left; · (intro w hSw; (try dsimp only at hSw); go_simp; first | done | with_reducible rfl))
            (try simp only [Act.put]); (try simp only [List.getElem_toArray]); (try simp only [List.getElem_cons_succ]); (try simp only [List.getElem_cons_zero]); (try simp only [List.setIfInBounds_toArray]); (try simp only [List.set_cons_succ]); (try simp only [List.set_cons_zero])
            (refine wpAnyH_take (i := 2) (v := ?_) rfl (by kernel_rfl) (by kernel_rfl) (by kernel_rfl) (fun _ _ _ h => h) (Or.inl ⟨by kernel_rfl, ?_⟩) (by assumption) ?_; rotate_left; · (intro w hSw; (try dsimp only at hSw); go_simp; first | done | with_reducible rfl))
            (try simp only [Act.put]); (try simp only [List.getElem_toArray]); (try simp only [List.getElem_cons_succ]); (try simp only [List.getElem_cons_zero]); (try simp only [List.setIfInBounds_toArray]); (try simp only [List.set_cons_succ]); (try simp only [List.set_cons_zero])
            (refine wpAnyH_take (i := 3) (v := ?_) rfl (by kernel_rfl) (by kernel_rfl) (by kernel_rfl) (fun _ _ _ h => h) (Or.inl ⟨by kernel_rfl, ?_⟩) (by assumption) ?_; rotate_left; · (intro w hSw; (try dsimp only at hSw); go_simp; first | done | with_reducible rfl))
            (try simp only [Act.put]); (try simp only [List.getElem_toArray]); (try simp only [List.getElem_cons_succ]); (try simp only [List.getElem_cons_zero]); (try simp only [List.setIfInBounds_toArray]); (try simp only [List.set_cons_succ]); (try simp only [List.set_cons_zero])
            (refine wpAnyH_ready (rs := [4]) (by kernel_rfl) (by simp) (AllReadyH.cons rfl (fun K hK => ?_) AllReadyH.nil); go_simp; (go_at_call 26; refine (HRy.out _).mono ?_; rintro e w5 ⟨rfl, hb5⟩); refine hK.out _ _ ?_ (fun hHeld => ?_))
            · exact sing_call (by assumption) hb5
            clear hK K
            (try simp only [Act.put]); (try simp only [List.getElem_toArray]); (try simp only [List.getElem_cons_succ]); (try simp only [List.getElem_cons_zero]); (try simp only [List.setIfInBounds_toArray]); (try simp only [List.set_cons_succ]); (try simp only [List.set_cons_zero])
            (refine wpAnyH_take (i := 5) (v := ?_) rfl (by kernel_rfl) (by kernel_rfl) (by kernel_rfl) (fun _ _ _ h => h) (Or.inl ⟨by kernel_rfl, ?_⟩) (by assumption) ?_; rotate_left; · (intro w hSw; (try dsimp only at hSw); go_simp; first | done | with_reducible rfl))
            (try simp only [Act.put]); (try simp only [List.getElem_toArray]); (try simp only [List.getElem_cons_succ]); (try simp only [List.getElem_cons_zero]); (try simp only [List.setIfInBounds_toArray]); (try simp only [List.set_cons_succ]); (try simp only [List.set_cons_zero])
            (refine wpAnyH_take (i := 6) (v := ?_) rfl (by kernel_rfl) (by kernel_rfl) (by kernel_rfl) (fun _ _ _ h => h) (Or.inl ⟨by kernel_rfl, ?_⟩) (by assumption) ?_; rotate_left; · (intro w hSw; (try dsimp only at hSw); go_simp; first | done | with_reducible rfl))
            (try simp only [Act.put]); (try simp only [List.getElem_toArray]); (try simp only [List.getElem_cons_succ]); (try simp only [List.getElem_cons_zero]); (try simp only [List.setIfInBounds_toArray]); (try simp only [List.set_cons_succ]); (try simp only [List.set_cons_zero])
            (refine wpAnyH_take (i := 7) (v := ?_) rfl (by kernel_rfl) (by kernel_rfl) (by kernel_rfl) (fun _ _ _ h => h) (Or.inl ⟨by kernel_rfl, ?_⟩) (by assumption) ?_; rotate_left; · (intro w hSw; (try dsimp only at hSw); go_simp; first | done | with_reducible rfl))
            (try simp only [Act.put]); (try simp only [List.getElem_toArray]); (try simp only [List.getElem_cons_succ]); (try simp only [List.getElem_cons_zero]); (try simp only [List.setIfInBounds_toArray]); (try simp only [List.set_cons_succ]); (try simp only [List.set_cons_zero])
            (refine wpAnyH_take (i := 8) (v := ?_) rfl (by kernel_rfl) (by kernel_rfl) (by kernel_rfl) (fun _ _ _ h => h) (Or.inl ⟨by kernel_rfl, ?_⟩) (by assumption) ?_; rotate_left; · (intro w hSw; (try dsimp only at hSw); go_simp; first | done | with_reducible rfl))
            (try simp only [Act.put]); (try simp only [List.getElem_toArray]); (try simp only [List.getElem_cons_succ]); (try simp only [List.getElem_cons_zero]); (try simp only [List.setIfInBounds_toArray]); (try simp only [List.set_cons_succ]); (try simp only [List.set_cons_zero])
            (refine wpAnyH_take (i := 9) (v := ?_) rfl (by kernel_rfl) (by kernel_rfl) (by kernel_rfl) (fun _ _ _ h => h) (Or.inl ⟨by kernel_rfl, ?_⟩) (by assumption) ?_; rotate_left; · (intro w hSw; (try dsimp only at hSw); go_simp; first | done | with_reducible rfl))
            (try simp only [Act.put]); (try simp only [List.getElem_toArray]); (try simp only [List.getElem_cons_succ]); (try simp only [List.getElem_cons_zero]); (try simp only [List.setIfInBounds_toArray]); (try simp only [List.set_cons_succ]); (try simp only [List.set_cons_zero])
            (refine wpAnyH_take (i := 10) (v := undef) rfl (by kernel_rfl) (by kernel_rfl) (by kernel_rfl) (fun _ _ _ h => h) (Or.inr ⟨by kernel_rfl, rfl⟩) (by assumption) ?_; (try simp only [Act.put]); (try simp only [List.getElem_toArray]); (try simp only [List.getElem_cons_succ]); (try simp only [List.getElem_cons_zero]); (try simp only [List.setIfInBounds_toArray]); (try simp only [List.set_cons_succ]); (try simp only [List.set_cons_zero]))
            (refine wpAnyH_take (i := 11) (v := undef) rfl (by kernel_rfl) (by kernel_rfl) (by kernel_rfl) (fun _ _ _ h => h) (Or.inr ⟨by kernel_rfl, rfl⟩) (by assumption) ?_; (try simp only [Act.put]); (try simp only [List.getElem_toArray]); (try simp only [List.getElem_cons_succ]); (try simp only [List.getElem_cons_zero]); (try simp only [List.setIfInBounds_toArray]); (try simp only [List.set_cons_succ]); (try simp only [List.set_cons_zero]))
            (refine wpAnyH_take (i := 12) (v := undef) rfl (by kernel_rfl) (by kernel_rfl) (by kernel_rfl) (fun _ _ _ h => h) (Or.inr ⟨by kernel_rfl, rfl⟩) (by assumption) ?_; (try simp only [Act.put]); (try simp only [List.getElem_toArray]); (try simp only [List.getElem_cons_succ]); (try simp only [List.getElem_cons_zero]); (try simp only [List.setIfInBounds_toArray]); (try simp only [List.set_cons_succ]); (try simp only [List.set_cons_zero]))
            (refine wpAnyH_take (i := 13) (v := undef) rfl (by kernel_rfl) (by kernel_rfl) (by kernel_rfl) (fun _ _ _ h => h) (Or.inr ⟨by kernel_rfl, rfl⟩) (by assumption) ?_; (try simp only [Act.put]); (try simp only [List.getElem_toArray]); (try simp only [List.getElem_cons_succ]); (try simp only [List.getElem_cons_zero]); (try simp only [List.setIfInBounds_toArray]); (try simp only [List.set_cons_succ]); (try simp only [List.set_cons_zero]))
            (refine wpAnyH_take (i := 14) (v := undef) rfl (by kernel_rfl) (by kernel_rfl) (by kernel_rfl) (fun _ _ _ h => h) (Or.inr ⟨by kernel_rfl, rfl⟩) (by assumption) ?_; (try simp only [Act.put]); (try simp only [List.getElem_toArray]); (try simp only [List.getElem_cons_succ]); (try simp only [List.getElem_cons_zero]); (try simp only [List.setIfInBounds_toArray]); (try simp only [List.set_cons_succ]); (try simp only [List.set_cons_zero]))
            (refine wpAnyH_take (i := 15) (v := undef) rfl (by kernel_rfl) (by kernel_rfl) (by kernel_rfl) (fun _ _ _ h => h) (Or.inr ⟨by kernel_rfl, rfl⟩) (by assumption) ?_; (try simp only [Act.put]); (try simp only [List.getElem_toArray]); (try simp only [List.getElem_cons_succ]); (try simp only [List.getElem_cons_zero]); (try simp only [List.setIfInBounds_toArray]); (try simp only [List.set_cons_succ]); (try simp only [List.set_cons_zero]))
            (refine wpAnyH_take (i := 16) (v := undef) rfl (by kernel_rfl) (by kernel_rfl) (by kernel_rfl) (fun _ _ _ h => h) (Or.inr ⟨by kernel_rfl, rfl⟩) (by assumption) ?_; (try simp only [Act.put]); (try simp only [List.getElem_toArray]); (try simp only [List.getElem_cons_succ]); (try simp only [List.getElem_cons_zero]); (try simp only [List.setIfInBounds_toArray]); (try simp only [List.set_cons_succ]); (try simp only [List.set_cons_zero]))
            (refine wpAnyH_take (i := 17) (v := undef) rfl (by kernel_rfl) (by kernel_rfl) (by kernel_rfl) (fun _ _ _ h => h) (Or.inr ⟨by kernel_rfl, rfl⟩) (by assumption) ?_; (try simp only [Act.put]); (try simp only [List.getElem_toArray]); (try simp only [List.getElem_cons_succ]); (try simp only [List.getElem_cons_zero]); (try simp only [List.setIfInBounds_toArray]); (try simp only [List.set_cons_succ]); (try simp only [List.set_cons_zero]))
            (refine wpAnyH_take (i := 18) (v := undef) rfl (by kernel_rfl) (by kernel_rfl) (by kernel_rfl) (fun _ _ _ h => h) (Or.inr ⟨by kernel_rfl, rfl⟩) (by assumption) ?_; (try simp only [Act.put]); (try simp only [List.getElem_toArray]); (try simp only [List.getElem_cons_succ]); (try simp only [List.getElem_cons_zero]); (try simp only [List.setIfInBounds_toArray]); (try simp only [List.set_cons_succ]); (try simp only [List.set_cons_zero]))
            (refine wpAnyH_take (i := 19) (v := undef) rfl (by kernel_rfl) (by kernel_rfl) (by kernel_rfl) (fun _ _ _ h => h) (Or.inr ⟨by kernel_rfl, rfl⟩) (by assumption) ?_; (try simp only [Act.put]); (try simp only [List.getElem_toArray]); (try simp only [List.getElem_cons_succ]); (try simp only [List.getElem_cons_zero]); (try simp only [List.setIfInBounds_toArray]); (try simp only [List.set_cons_succ]); (try simp only [List.set_cons_zero]))
            (refine wpAnyH_take (i := 20) (v := undef) rfl (by kernel_rfl) (by kernel_rfl) (by kernel_rfl) (fun _ _ _ h => h) (Or.inr ⟨by kernel_rfl, rfl⟩) (by assumption) ?_; (try simp only [Act.put]); (try simp only [List.getElem_toArray]); (try simp only [List.getElem_cons_succ]); (try simp only [List.getElem_cons_zero]); (try simp only [List.setIfInBounds_toArray]); (try simp only [List.set_cons_succ]); (try simp only [List.set_cons_zero]))
            (refine wpAnyH_take (i := 21) (v := ?_) rfl (by kernel_rfl) (by kernel_rfl) (by kernel_rfl) (fun _ _ _ h => h) (Or.inl ⟨by kernel_rfl, ?_⟩) (by assumption) ?_; rotate_left; · (intro w hSw; (try dsimp only at hSw); go_simp; first | done | with_reducible rfl))
            (try simp only [Act.put]); (try simp only [List.getElem_toArray]); (try simp only [List.getElem_cons_succ]); (try simp only [List.getElem_cons_zero]); (try simp only [List.setIfInBounds_toArray]); (try simp only [List.set_cons_succ]); (try simp only [List.set_cons_zero])
            (refine wpAnyH_take (i := 22) (v := ?_) rfl (by kernel_rfl) (by kernel_rfl) (by kernel_rfl) (fun _ _ _ h => h) (Or.inl ⟨by kernel_rfl, ?_⟩) (by assumption) ?_; rotate_left; · (intro w hSw; (try dsimp only at hSw); go_simp; first | done | with_reducible rfl))
            (try simp only [Act.put]); (try simp only [List.getElem_toArray]); (try simp only [List.getElem_cons_succ]); (try simp only [List.getElem_cons_zero]); (try simp only [List.setIfInBounds_toArray]); (try simp only [List.set_cons_succ]); (try simp only [List.set_cons_zero])
            refine wpAnyH_done (by kernel_rfl) ?_ _
            have HB2 := hid (HB.out.trans (hHeld.1.out.1.mono HB.out.size))
            clear hHeld HT
            clear y0 y1 y2 y3 y4 y5 y6 y7
            go_wp2
            go_roundw
            case rel => exact ⟨1, by omega, by go_num, HB2.out⟩
            case measure => simp [intOf]; omega
          | succ k =>
            have hkm : k < s.length := by omega
            obtain ⟨x, hx⟩ : ∃ x, s[k]? = some x := ⟨_, List.getElem?_eq_getElem hkm⟩
            have HOr : Hid (∃ o : Int, o < 0 ∧ ∀ W, Calls Tryd.prog 27 #[x.v, y.v] W fun e w' => e = .returned (.int .i64 o) ∧ Below W.heap.size W w') := ⟨CT.cmp x y, rise_at HRi.out hx hy, fun W => reforder_ct x y (HSmS.out x (List.mem_of_getElem? hx)).1 (HSmS.out y (List.mem_of_getElem? hy)).1 W⟩
            obtain ⟨o, ho, HOq⟩ := HOr.out
            have HOx := hid HOq
            clear HOq HOr
            have hltz : (k : Int) + 1 < (m : Int) := by omega
            have hltp : (0 : Int) < (k : Int) + 1 := by omega
            have hge : (0 : Int) ≤ (k : Int) + 1 := by omega
            have htn : ((k : Int) + 1).toNat = k + 1 := by omega
            have hwj : IntKind.i64.wrap (k : Int) = (k : Int) := by rw [IntKind.wrap_i64]; omega
            have hwj1 : IntKind.i64.wrap ((k : Int) + 1 - 1) = (k : Int) := by rw [IntKind.wrap_i64]; omega
            have hjm : (k : Int) < (m : Int) := by omega
            have hno : ¬ (0 : Int) ≤ o := by omega
            have HT : Hid (PairW wr b (off + k * 8) (off + (k + 1) * 8) x y wr) := ⟨hid ⟨Below.refl _ _, Nat.lt_of_lt_of_le hbw HB.out.size⟩, ct_words (hhc.below HB.out hbw) k hx, ct_words (hhc.below HB.out hbw) (k + 1) hy⟩
            obtain ⟨-, ⟨x0, x1, x2, x3, x4, x5, x6, x7⟩, ⟨y0, y1, y2, y3, y4, y5, y6, y7⟩⟩ := HT.out
            clear hhc hy hx him hkm hlt
            go_upto_region 9 with (fail)
            go_region_held3 (fun W' => Hid (Below wr.heap.size wr W' ∧ b < wr.heap.size) ∧ (W'.cell? ⟨b, off + k * 8, none⟩ = some (.string x.r) ∧ W'.cell? ⟨b, off + k * 8 + 1, none⟩ = some (.string x.f) ∧ W'.cell? ⟨b, off + k * 8 + 2, none⟩ = some (.string x.q) ∧ W'.cell? ⟨b, off + k * 8 + 3, none⟩ = some (.int .i64 x.t) ∧ W'.cell? ⟨b, off + k * 8 + 4, none⟩ = some (.int .i64 x.k) ∧ W'.cell? ⟨b, off + k * 8 + 5, none⟩ = some (.int .i64 x.vk) ∧ W'.cell? ⟨b, off + k * 8 + 6, none⟩ = some (.int .i64 x.vn) ∧ W'.cell? ⟨b, off + k * 8 + 7, none⟩ = some (.string x.s)) ∧ (W'.cell? ⟨b, off + (k + 1) * 8, none⟩ = some (.string y.r) ∧ W'.cell? ⟨b, off + (k + 1) * 8 + 1, none⟩ = some (.string y.f) ∧ W'.cell? ⟨b, off + (k + 1) * 8 + 2, none⟩ = some (.string y.q) ∧ W'.cell? ⟨b, off + (k + 1) * 8 + 3, none⟩ = some (.int .i64 y.t) ∧ W'.cell? ⟨b, off + (k + 1) * 8 + 4, none⟩ = some (.int .i64 y.k) ∧ W'.cell? ⟨b, off + (k + 1) * 8 + 5, none⟩ = some (.int .i64 y.vk) ∧ W'.cell? ⟨b, off + (k + 1) * 8 + 6, none⟩ = some (.int .i64 y.vn) ∧ W'.cell? ⟨b, off + (k + 1) * 8 + 7, none⟩ = some (.string y.s)))
              (first | exact HT.out | exact pair_drew HT.out | exact pair_call (by assumption) hb3 | exact pair_drew (by assumption) | assumption)
              (first | (go_at_call 26; refine (HRy.out _).mono ?_; rintro e w3 ⟨rfl, hb3⟩) | (go_at_call 27; refine (HOx.out _).mono ?_; rintro e w3 ⟨rfl, hb3⟩))
            rename_i hLast
            have HZ3 := hid (HB.out.trans (hLast.1.out.1.mono HB.out.size))
            clear hLast HT x0 x1 x2 x3 x4 x5 x6 x7 y0 y1 y2 y3 y4 y5 y6 y7
            go_wp2
            go_roundw
            case rel => exact ⟨k + 1 + 1, by omega, by go_num, HZ3.out⟩
            case measure => simp [intOf]; omega
        · obtain rfl : i = m := by omega
          clear HRr
          obtain ⟨wm, hwm⟩ : ∃ wm, wm = wr := ⟨_, rfl⟩
          subst hwm
          have HBw : Hid (Below w.heap.size w wm) := B7.out.trans (HB.out.mono B7.out.size)
          have HCr : Hid (ClA wm (.slice A7 i c7) s) := HCS.out.below HB.out
          have HCp : Hid (Calls Tryd.prog 28 #[.slice A7 i c7] wm fun e w' => ∃ v', e = .returned v' ∧ CRow w' wm.heap.size v' s ∧ Below wm.heap.size wm w') := copycells_any _ s (by rw [HM.out]; omega) wm HCr.out
          clear HB B7
          go_upto_region 12 with (go_at_call 28; refine HCp.out.mono ?_; rintro e w8 ⟨v8, rfl, hr8, hb8⟩)
          have HB8 := hid hb8
          have HR8 := hid hr8
          clear hb8 hr8 HCp
          obtain ⟨A8, c8, rfl, hc8, hm8⟩ := HR8.out.len
          rw [HM.out] at HR8 hc8 ⊢
          have HBw8 : Hid (Below w.heap.size w w8) := HBw.out.trans (HB8.out.mono HBw.out.size)
          go_wp2
          go_loopw [14] (fun vi wq => ∃ (j : Nat) (q : List CT), j ≤ nz ∧ vi = .int .i64 j ∧ Hid (CRow wq wm.heap.size (.slice A8 i c8) q ∧ q.Perm s) ∧ Hid (Below wm.heap.size wm wq)) (fun vi _ => nz - (intOf vi).toNat)
          case atStart => exact ⟨0, s, Nat.zero_le _, rfl, ⟨HR8.out, List.Perm.refl _⟩, HB8.out⟩
          case round =>
            clear HR8 HB8
            obtain ⟨j, q, hj, rfl, HQ, HBq⟩ := hrel
            have hql : q.length = i := HQ.out.2.length_eq.trans HM.out
            by_cases hlt : j < nz ∧ 0 < i
            · obtain ⟨hjn, hi0⟩ := hlt
              have hjz : (j : Int) < (nz : Int) := by omega
              have hiz : (0 : Int) < (i : Int) := by omega
              obtain ⟨b2, off2, rfl, hb2, hzc⟩ := HZ2.out (by rw [HNZ.out]; omega)
              have z0 : wr.cell? ⟨b2, off2 + j, none⟩ = some (.int .i64 (zs.getD j 0)) := by
                rw [(HBw.out.trans (HBq.out.mono HBw.out.size)).cell (p := ⟨b2, off2 + j, none⟩) hb2]
                exact hzc j (by rw [HNZ.out]; exact hjn)
              obtain ⟨z, hz⟩ : ∃ z, zs.getD j 0 = z := ⟨_, rfl⟩
              rw [hz] at z0
              clear hzc hz
              obtain ⟨x, hx⟩ : ∃ x, bits .and .i64 z 1023 = x := ⟨_, rfl⟩
              have hx0 : 0 ≤ x ∧ x ≤ 1023 := hx ▸ and_1023 z
              obtain ⟨hx1, hx2⟩ := hx0
              go_upto_region 17 with (fail)
              obtain ⟨a, ha⟩ : ∃ a : Nat, x % (i : Int) = (a : Int) := ⟨(x % (i : Int)).toNat, by have := Int.emod_nonneg x (b := (i : Int)) (by omega); omega⟩
              have hai : a < i := by have := Int.emod_lt_of_pos x hiz; omega
              obtain ⟨d, hd⟩ : ∃ d : Nat, (j : Int) % (i : Int) = (d : Int) := ⟨j % i, by simp⟩
              have hdi : d < i := by have := Int.emod_lt_of_pos (j : Int) hiz; omega
              rw [ha, hd]
              clear ha hd hx hx1 hx2 z0
              obtain ⟨g, rfl, hrow, hwg, -⟩ := crow_rowB HQ.out.1 (by omega)
              have hqa : a < q.length := by omega
              have hqd : d < q.length := by omega
              obtain ⟨ca, hca⟩ : ∃ c, q[a] = c := ⟨_, rfl⟩
              obtain ⟨cd, hcd⟩ : ∃ c, q[d] = c := ⟨_, rfl⟩
              have HR2 := hid (hrow.swap hqa hqd hca hcd)
              have HP2 := hid ((swap_perm hqa hqd).trans HQ.out.2)
              have P := hrow.words a hqa
              have Pd := hrow.words d hqd
              rw [hca] at P
              rw [hcd] at Pd
              have hfr : ∀ o, wr.frozen? ⟨g, o, none⟩ = false := fun o => hrow.free o
              have HBs : Hid (Below wm.heap.size wm (set8 (set8 wr g (a * 8) cd) g (d * 8) ca)) := below_set8 (below_set8 HBq.out hwg) hwg
              obtain ⟨p0, p1, p2, p3, p4, p5, p6, p7⟩ := P
              obtain ⟨d0, d1, d2, d3, d4, d5, d6, d7⟩ := Pd
              have haz : (a : Int) < (i : Int) := by omega
              have hdz : (d : Int) < (i : Int) := by omega
              have O0 := hrow.own
              have O1 := O0.set (a * 8) (.string cd.r)
              obtain ⟨u0, y0⟩ := O1.get (d * 8) (by omega)
              have O2 := O1.set (a * 8 + 1) (.string cd.f)
              obtain ⟨u1, y1⟩ := O2.get (d * 8 + 1) (by omega)
              have O3 := O2.set (a * 8 + 2) (.string cd.q)
              obtain ⟨u2, y2⟩ := O3.get (d * 8 + 2) (by omega)
              have O4 := O3.set (a * 8 + 3) (.int .i64 cd.t)
              obtain ⟨u3, y3⟩ := O4.get (d * 8 + 3) (by omega)
              have O5 := O4.set (a * 8 + 4) (.int .i64 cd.k)
              obtain ⟨u4, y4⟩ := O5.get (d * 8 + 4) (by omega)
              have O6 := O5.set (a * 8 + 5) (.int .i64 cd.vk)
              obtain ⟨u5, y5⟩ := O6.get (d * 8 + 5) (by omega)
              have O7 := O6.set (a * 8 + 6) (.int .i64 cd.vn)
              obtain ⟨u6, y6⟩ := O7.get (d * 8 + 6) (by omega)
              have O8 := O7.set (a * 8 + 7) (.string cd.s)
              obtain ⟨u7, y7⟩ := O8.get (d * 8 + 7) (by omega)
              clear O0 O1 O2 O3 O4 O5 O6 O7 O8
              have HC3 : Hid (CRow (set8 (set8 wr g (a * 8) cd) g (d * 8) ca).drew wm.heap.size (.slice (some ⟨g, 0, none⟩) i c8) (swapC q a d)) := by
                have h3 := (HR2.out.keep (Below.refl _ _).drew).row hwg
                rw [swap_len, hql] at h3
                exact h3
              have HBs3 := hid HBs.out.drew
              clear hca hcd hrow hwg hqa hqd hql HQ HR2 HBs
              go_region
              go_wp2
              go_roundw
              case rel => exact ⟨j + 1, swapC q a d, by omega, by go_num, ⟨HC3.out, HP2.out⟩, HBs3.out⟩
              case measure => simp [intOf]; omega
            · have hq60 : q.length ≤ 60 := by rw [hql]; exact hls
              have hqok : ∀ c ∈ q, okC c := fun c hc => (HSmS.out c (HQ.out.2.mem_iff.1 hc)).2.2
              have HBw9 : Hid (Below w.heap.size w wr) := HBw.out.trans (HBq.out.mono HBw.out.size)
              have HKq := hid HQ.out.1.cla
              have HKs : Hid (ClA wr (.slice A7 i c7) s) := HCr.out.below HBq.out
              have HSq := hid (HS2.out q _ wr hq60 hqok HKq.out HBw9.out)
              have HEq : Hid (∀ W, Below wr.heap.size wr W → Calls Tryd.prog 30 #[.slice A8 i c8, .int .i64 ver, .int .i64 life, .int .i64 now] W fun e w' => ∃ v' s, e = .returned v' ∧ CRow w' W.heap.size v' (seenL ver life now s) ∧ Hid (SortOf q s) ∧ Below W.heap.size W w') := fun W hb => HE2.out q _ W hq60 hqok (HKq.out.below hb) (HBw9.out.trans (hb.mono HBw9.out.size))
              have HEl : Hid (∀ W, Below wr.heap.size wr W → Calls Tryd.prog 30 #[v, .int .i64 ver, .int .i64 life, .int .i64 now] W fun e w' => ∃ v' s, e = .returned v' ∧ CRow w' W.heap.size v' (seenL ver life now s) ∧ Hid (SortOf l s) ∧ Below W.heap.size W w') := fun W hb => HSe.out W (HBw9.out.trans (hb.mono HBw9.out.size))
              have HAp : Hid (∀ t, SortOf q t → t = s) := fun t ht => SortOf.apart HSs.out ht HQ.out.2 (fun c hc => (HSmS.out c hc).2.1)
              have HUn : Hid (∀ t, SortOf l t → t = s) := fun t ht => SortOf.uniq ht HSs.out
              have hstop : ¬ (j : Int) < (nz : Int) ∨ ((j : Int) < (nz : Int) ∧ ¬ (0 : Int) < (i : Int)) := by omega
              clear hq60 hqok HQ HBq HS2 HE2 HSe hlt hql HSs HSmS HRi HH HM HO HLl HBw HCr HBw8 HNZ
              rcases hstop with g | ⟨g, g9⟩
              all_goals (
                go_wp2_with (first
                  | (go_at_call 25; have hq := HSq.out; refine hq.mono ?_; clear hq; rintro e w9 ⟨v9, t9, rfl, hs9, hr9, hb9⟩; have hK9 := hid hr9.cla; have hE9 := hid (HAp.out _ hs9); have hB9 := hid hb9; clear hs9 hr9 hb9)
                  | (go_at_call 29; have hq := samecells_any _ _ _ _ w11 (hK10.out.below hB11.out) hK11.out; rw [show decide (seenL ver life now s10 = seenL ver life now s11) = true from decide_eq_true (by rw [hE10.out, hE11.out])] at hq; refine hq.mono ?_; clear hq; rintro e w12 ⟨rfl, hb12⟩; have hB12 := hid hb12; clear hb12)
                  | (go_at_call 29; have hq := samecells_any _ _ _ _ w9 hK9.out (HKs.out.below hB9.out); rw [show decide (t9 = s) = true from decide_eq_true hE9.out] at hq; refine hq.mono ?_; clear hq; rintro e wA ⟨rfl, hbA⟩; have hBA := hid (hB9.out.trans (hbA.mono hB9.out.size)); clear hbA)
                  | (go_at_call 30; have hq := HEl.out w10 hBX.out; refine hq.mono ?_; clear hq; rintro e w11 ⟨v11, s11, rfl, hr11, hs11, hb11⟩; have hK11 := hid hr11.cla; have hE11 := hid (HUn.out _ hs11.out); have hB11 := hid hb11; have hBY := hid (hBX.out.trans (hb11.mono hBX.out.size)); clear hs11 hr11 hb11)
                  | (go_at_call 30; have hq := HEq.out wA hBA.out; refine hq.mono ?_; clear hq; rintro e w10 ⟨v10, s10, rfl, hr10, hs10, hb10⟩; have hK10 := hid hr10.cla; have hE10 := hid (HAp.out _ hs10.out); have hBX := hid (hBA.out.trans (hb10.mono hBA.out.size)); clear hs10 hr10 hb10))
                go_ret
                exact ⟨rfl, HBw9.out.trans ((hBY.out.trans (hB12.out.mono hBY.out.size)).mono HBw9.out.size)⟩)
end Go.Proofs.YtdjaofbjmnmlbaaDoor

/- A world in which the listed variables of layer 3's laws are laid, for the witness; what they give; a cell of the law's, shut. -/
namespace Go.Proofs.YtdjaofbjmnmlbaaDoor
open Go.ChangeShapes Go.WideShapes Go.ChangeAt Go.RowKit Go.Joins

theorem seat_own : ownKnob Tryd.prog.godebug = none := by kernel_rfl
theorem laid_out : laidOutB Tryd.prog = true := by kernel_rfl
def seatLaid5 : List (String × DataW Unit) := [("unicode/utf8.acceptRanges", Rows.laid_unicode_utf8_acceptRanges), ("bytes.ErrTooLarge", Rows.laid_bytes_ErrTooLarge), ("unicode/utf8.first", Rows.laid_unicode_utf8_first)]
theorem seat_met5 {W : World} (h : laidMetH Tryd.prog seatLaid5 W) : laidMet Tryd.prog seatLaid5 W := h
theorem accept_is : (Rows.laid_unicode_utf8_acceptRanges : DataW Unit) = Lib.acceptData := by kernel_rfl
theorem first_is : (Rows.laid_unicode_utf8_first : DataW Unit) = Lib.firstData := by kernel_rfl
theorem u8extra : U8Extra Tryd.prog Tryd.lays196_ren where
  n3 := by kernel_rfl
  n4 := by kernel_rfl
  y3 := by kernel_rfl
  y4 := by kernel_rfl
  c5 := by kernel_rfl
  c119 := by kernel_rfl
  c138 := by kernel_rfl
theorem laid_u {W : World} (h : laidMet Tryd.prog seatLaid5 W) : LaidU W := ⟨by
    have h3 := Lib.laidMet.reads h (n := "unicode/utf8.first") (d := Rows.laid_unicode_utf8_first) (by simp [seatLaid5])
    have h4 := Lib.laidMet.reads h (n := "unicode/utf8.acceptRanges") (d := Rows.laid_unicode_utf8_acceptRanges) (by simp [seatLaid5])
    rw [first_is] at h3
    rw [accept_is] at h4
    exact utf8Tabs_of_readsT (U8Types.of196 Tryd.lays196) u8extra h3 h4⟩

/-- A world for the witness: the settled one, one block more for the error's text, the listed variables holding what their initialisers lay. -/
noncomputable def laidWorld5 (os : Os) : World :=
  let w0 := World.holding Tryd.prog os ⟨#[.cells #[.string ⟨#[98, 121, 116, 101, 115, 46, 66, 117, 102, 102, 101, 114, 58, 32, 116, 111, 111, 32, 108, 97, 114, 103, 101]⟩] 222], #[], []⟩
  { w0 with heap := ((w0.heap.modify 1 fun
      | .cells _ t frozen => .cells #[.iface 208 (.pointer (some ⟨(World.settled Tryd.prog os).heap.size, 0, none⟩))] t frozen
      | o => o).modify 3 fun
      | .cells _ t frozen => .cells ((List.range 16).flatMap fun i => [Value.int .u8 (Lib.accLo i), Value.int .u8 (Lib.accHi i)]).toArray t frozen
      | o => o).modify 2 fun
      | .cells _ t frozen => .cells (Lib.firstTab.map fun z => Value.int .u8 z).toArray t frozen
      | o => o }
set_option maxRecDepth 1000000 in
theorem laid_met5 (os : Os) (args : Array Value) : laidMet Tryd.prog seatLaid5 ((laidWorld5 os).forCall (fun _ _ => 0) ⟨#[], args, []⟩).memory :=
  laidMet_of_run' 8 (by kernel_rfl) (by kernel_rfl)
theorem inI_of_wf {n : Int} (h : (Lit.int .i64 n).wf = true) : inI n := by
  unfold inI
  simp [Lit.wf] at h
  have h1 : IntKind.i64.min = -9223372036854775808 := rfl
  have h2 : IntKind.i64.max = 9223372036854775807 := rfl
  omega
theorem size_of {n : Nat} (h : n ≤ maxLen) : n ≤ 9223372036854775807 := by unfold maxLen at h; omega

section
variable {H : Type} {enc : TypeId × Value → H} {W : World} {sp : Nat → Bool}
set_option maxRecDepth 100000 in
/-- A cell that came in, shut. -/
theorem shut_cell (r f q : ByteArray) (t k vk vn : Int) (s : ByteArray) (w0 : r.size ≤ maxLen) (w1 : f.size ≤ maxLen) (w2 : q.size ≤ maxLen) (w3 : (Lit.int .i64 t).wf = true) (w4 : (Lit.int .i64 k).wf = true) (w5 : (Lit.int .i64 vk).wf = true) (w6 : (Lit.int .i64 vn).wf = true) (w7 : s.size ≤ maxLen) (b1 : Nat) :
    DataW.Trod enc Tryd.prog W b1 sp true 28 (.agg #[.string r, .string f, .string q, .int .i64 t, .int .i64 k, .int .i64 vk, .int .i64 vn, .string s]) (.agg [.lit (.string r.data.toList), .lit (.string f.data.toList), .lit (.string q.data.toList), .lit (.int .i64 t), .lit (.int .i64 k), .agg [.lit (.int .i64 vk), .lit (.int .i64 vn), .lit (.string s.data.toList)]]) [] := by
  have hv : DataW.trod enc Tryd.prog W b1 sp true 2 26 [.int .i64 vk, .int .i64 vn, .string s] = some (.agg [.lit (.int .i64 vk), .lit (.int .i64 vn), .lit (.string s.data.toList)], []) := by
    have := trod_struct_mk (enc := enc) (w := W) (base := b1) (spare := sp) (held := true) (n := 1) (cs := [.int .i64 vk, .int .i64 vn, .string s]) (xs := [(.lit (.int .i64 vk), []), (.lit (.int .i64 vn), []), (.lit (.string s.data.toList), [])]) Tryd.underlying26 (by simp [cellsV3]) (by simp [DataW.trod, Tryd.underlying3, Tryd.underlying9, cellsS1, cellsI1, w5, w6, w7])
    simpa using this
  have := trod_struct_mk (enc := enc) (w := W) (base := b1) (spare := sp) (held := true) (n := 2) (cs := [.string r, .string f, .string q, .int .i64 t, .int .i64 k, .int .i64 vk, .int .i64 vn, .string s]) (xs := [(.lit (.string r.data.toList), []), (.lit (.string f.data.toList), []), (.lit (.string q.data.toList), []), (.lit (.int .i64 t), []), (.lit (.int .i64 k), []), (.agg [.lit (.int .i64 vk), .lit (.int .i64 vn), .lit (.string s.data.toList)], [])]) Tryd.underlying28 (by simp [cellsC]) (by
      simp [cellsS1, cellsI1, cellsV3, hv]
      simp [DataW.trod, Tryd.underlying3, Tryd.underlying9, w0, w1, w2, w3, w4])
  exact ⟨3, by simpa [Value.cells] using this⟩
end
end Go.Proofs.YtdjaofbjmnmlbaaDoor

/- The listed variables of layer 6's laws: the two tables of utf8 alone. -/
namespace Go.Proofs.YtdjaofbjmnmlbaaDoor
open Go.ChangeShapes Go.WideShapes Go.ChangeAt Go.RowKit Go.Joins

def seatLaid6 : List (String × DataW Unit) := [("unicode/utf8.acceptRanges", Rows.laid_unicode_utf8_acceptRanges), ("unicode/utf8.first", Rows.laid_unicode_utf8_first)]
theorem seat_met6 {W : World} (h : laidMetH Tryd.prog seatLaid6 W) : laidMet Tryd.prog seatLaid6 W := h
theorem laid_u6 {W : World} (h : laidMet Tryd.prog seatLaid6 W) : LaidU W := ⟨by
    have h3 := Lib.laidMet.reads h (n := "unicode/utf8.first") (d := Rows.laid_unicode_utf8_first) (by simp [seatLaid6])
    have h4 := Lib.laidMet.reads h (n := "unicode/utf8.acceptRanges") (d := Rows.laid_unicode_utf8_acceptRanges) (by simp [seatLaid6])
    rw [first_is] at h3
    rw [accept_is] at h4
    exact utf8Tabs_of_readsT (U8Types.of196 Tryd.lays196) u8extra h3 h4⟩
set_option maxRecDepth 1000000 in
theorem laid_met6 (os : Os) (args : Array Value) : laidMet Tryd.prog seatLaid6 ((laidWorld5 os).forCall (fun _ _ => 0) ⟨#[], args, []⟩).memory :=
  laidMet_of_run' 8 (by kernel_rfl) (by kernel_rfl)
end Go.Proofs.YtdjaofbjmnmlbaaDoor

/- Lists of cells that came in, opened. Conditions: the reading's own reach. -/
namespace Go.Proofs.YtdjaofbjmnmlbaaDoor
open Go.ChangeShapes Go.WideShapes Go.ChangeAt Go.RowKit Go.Joins

theorem inI_of_wf2 {n : Int} (h : (Lit.int .i64 n).wf = true) : inI n := by
  unfold inI
  simp [Lit.wf] at h
  have h1 : IntKind.i64.min = -9223372036854775808 := rfl
  have h2 : IntKind.i64.max = 9223372036854775807 := rfl
  omega

section
variable {H : Type} {enc : TypeId × Value → H} {W : World} {sp : Nat → Bool}
set_option maxRecDepth 100000 in
/-- Eight words that read as a cell are one. -/
theorem cell_words {b1 fuel : Nat} {cs : List Value} {x : DataW H × List MemPlace} (hl : cs.length = 8) (hf : DataW.trod enc Tryd.prog W b1 sp true fuel 28 cs = some x) : ∃ c : CT, cs = c.e ∧ inI c.vn := by
  match cs, hl with
  | [c0, c1, c2, c3, c4, c5, c6, c7], _ =>
    obtain ⟨xs, n, _, hx, _, hlen, hg⟩ := DataW.trod_struct Tryd.underlying28 hf
    match xs, hlen with
    | [y0, y1, y2, y3, y4, y5], _ =>
      have h0 := hg 0 _ rfl
      have h1 := hg 1 _ rfl
      have h2 := hg 2 _ rfl
      have h3 := hg 3 _ rfl
      have h4 := hg 4 _ rfl
      have h5 := hg 5 _ rfl
      simp [cellsS1, cellsI1, cellsV3] at h0 h1 h2 h3 h4 h5
      obtain ⟨r, e0, z0, w0⟩ := DataW.trod_string Tryd.underlying9 h0
      obtain ⟨f, e1, z1, w1⟩ := DataW.trod_string Tryd.underlying9 h1
      obtain ⟨q, e2, z2, w2⟩ := DataW.trod_string Tryd.underlying9 h2
      obtain ⟨t, e3, z3, w3⟩ := DataW.trod_int Tryd.underlying3 h3
      obtain ⟨k, e4, z4, w4⟩ := DataW.trod_int Tryd.underlying3 h4
      obtain ⟨ys, n', _, hx', _, hlen', hg'⟩ := DataW.trod_struct Tryd.underlying26 h5
      match ys, hlen' with
      | [u0, u1, u2], _ =>
        have g0 := hg' 0 _ rfl
        have g1 := hg' 1 _ rfl
        have g2 := hg' 2 _ rfl
        simp [cellsS1, cellsI1] at g0 g1 g2
        obtain ⟨vk, e5, z5, w5⟩ := DataW.trod_int Tryd.underlying3 g0
        obtain ⟨vn, e6, z6, w6⟩ := DataW.trod_int Tryd.underlying3 g1
        obtain ⟨s, e7, z7, w7⟩ := DataW.trod_string Tryd.underlying9 g2
        simp at e0 e1 e2 e3 e4 e5 e6 e7
        subst e0 e1 e2 e3 e4 e5 e6 e7
        exact ⟨⟨r, f, q, t, k, vk, vn, s⟩, rfl, inI_of_wf2 w6⟩
theorem addr_at (b off n : Nat) : (⟨b, off, none⟩ : Addr).add n = ⟨b, off + n, none⟩ := by
  by_cases h : n = 0
  · subst h; rfl
  · simp [Addr.add, h]
theorem bind_some {α β : Type} {o : Option α} {g : α → Option β} {y : β} (h : o.bind g = some y) : ∃ x, o = some x ∧ g x = some y := by
  cases o with
  | none => cases h
  | some x => exact ⟨x, rfl, h⟩
/-- A choice for each of the first n numbers is a list. -/
theorem list_of {P : Nat → CT → Prop} : ∀ n : Nat, (∀ i, i < n → ∃ c, P i c) → ∃ l : List CT, l.length = n ∧ ∀ i (h : i < l.length), P i l[i]
  | 0, _ => ⟨[], rfl, fun i h => absurd h (by simp)⟩
  | n + 1, h => by
    obtain ⟨l, h1, h2⟩ := list_of n (fun i hi => h i (by omega))
    obtain ⟨c, hc⟩ := h n (by omega)
    refine ⟨l ++ [c], by simp [h1], fun i hi => ?_⟩
    rcases Nat.lt_or_ge i l.length with h3 | h3
    · rw [List.getElem_append_left h3]; exact h2 i h3
    · have : i = n := by simp at hi; omega
      subst this
      rw [List.getElem_append_right h3]
      simp only [h1, Nat.sub_self, List.getElem_cons_zero]
      exact hc
set_option maxRecDepth 100000 in
/-- A list of cells that came in. -/
theorem open_cla {r : Reach} {b0 b1 : Nat} {v : Value} {d : DataW H} {p : List MemPlace} (hv : Value.okWide Tryd.prog W r b0 39 v) (h : DataW.Trod enc Tryd.prog W b1 (fun _ => true) true 39 v d p) : ∃ l, ClA W v l ∧ ∀ c ∈ l, inI c.vn := by
  obtain ⟨a0, len, cap, rfl⟩ := okWide_slice Tryd.underlying39 hv
  obtain ⟨fuel, hf⟩ := h
  rcases DataW.trod_slice Tryd.underlying39 hf with ⟨hcs, hx⟩ | ⟨a, len', cap', elems, rest, n, hfu, hcs, hx, hb, hl, hm, he, hi, _, _⟩
  · simp [Value.cells] at hcs
    obtain ⟨rfl, rfl, rfl⟩ := hcs
    exact ⟨[], cla_nil W, fun c h => by cases h⟩
  · simp [Value.cells] at hcs
    obtain ⟨rfl, rfl, rfl⟩ := hcs
    rw [cellsC] at hi
    have hP : ∀ i, i < len → ∃ c : CT, (∀ j, j < 8 → W.cell? (a.add (i * 8 + j)) = c.e[j]?) ∧ inI c.vn := fun i hi' => by
      have h1 := hi i hi'
      rw [List.getElem?_eq_getElem (by omega)] at h1
      obtain ⟨cs, hcs, htr⟩ := bind_some h1
      obtain ⟨_, hlen, hcell⟩ := World.cells?_some hcs
      obtain ⟨c, rfl, hvn⟩ := cell_words hlen htr
      refine ⟨c, fun j hj => ?_, hvn⟩
      have := hcell j hj
      rw [Addr.add_add] at this
      exact this
    obtain ⟨l, hlen, hall⟩ := list_of len hP
    have hmx : cap ≤ 9223372036854775807 := by unfold maxLen at hm; omega
    refine ⟨l, ⟨some a, cap, by rw [hlen], by omega, hmx, fun h0 => ?_⟩, fun c hc => ?_⟩
    · obtain ⟨b, off, spot⟩ := a
      have h00 := (hall 0 h0).1 0 (by omega)
      have hspot : spot = none := by
        have h0' : W.cell? ((⟨b, off, spot⟩ : Addr).add 0) = some (.string l[0].r) := h00
        simpa [Addr.add] using World.cell?_spot h0'
      subst hspot
      refine ⟨b, off, rfl, fun i hi' j hj => ?_⟩
      have := (hall i hi').1 j hj
      rw [← this]
      rw [addr_at, Nat.add_assoc]
    · obtain ⟨i, hi', rfl⟩ := List.getElem_of_mem hc
      exact (hall i hi').2
end
end Go.Proofs.YtdjaofbjmnmlbaaDoor

/- CellOrder: what is seen does not hang on the order of cells. The row and its tied card. Conditions: none but the card's own (the listed variables of the library are laid by the program's text). -/
namespace Go.Proofs.YtdjaofbjmnmlbaaDoor.cellOrder
open Go.ChangeShapes Go.WideShapes Go.ChangeAt Go.RowKit

set_option maxRecDepth 100000 in
/-- What the walk gives, for every argument and every world that holds the listed variables. -/
theorem contract (H : Type) (enc : TypeId × Value → H) (W : World) (base : Nat) (args : Array Value) (ds gs : List (DataW H)) (before : List MemPlace)
    (hval : ∀ (j : Nat) t v, Tryd.f4.params[j]? = some t → args[j]? = some v → Value.okWide Tryd.prog W .any base t v)
    (hW : DataW.Whole enc Tryd.prog Tryd.f4.params.toList Rows.cellOrderSpec.vars false W args.toList ds gs before) (hL : laidMetH Tryd.prog Rows.cellOrderRow.laid W) :
    Calls Tryd.prog 4 args W fun e W' => ∃ v, e = .returned v ∧ Rows.cellOrderSpec.post enc Tryd.prog Tryd.f4 false true false false W args v W' := by
  have hW' := hW
  obtain ⟨p, q, hA0, hV, rfl, hfz, hnd⟩ := hW
  have hA : DataW.TrodAll enc Tryd.prog W 0 (fun _ => true) true Tryd.f4.params.toList args.toList ds p := hA0
  rw [Tryd.params4] at hA hval
  obtain ⟨v0, vs0, d0, ds0, p0, q_0, hargs, rfl, rfl, h0, r_0⟩ := trodAll_cons hA
  obtain ⟨v1, vs1, d1, ds1, p1, q_1, rfl, rfl, rfl, h1, r_1⟩ := trodAll_cons r_0
  obtain ⟨v2, vs2, d2, ds2, p2, q_2, rfl, rfl, rfl, h2, r_2⟩ := trodAll_cons r_1
  obtain ⟨v3, vs3, d3, ds3, p3, q_3, rfl, rfl, rfl, h3, r_3⟩ := trodAll_cons r_2
  obtain ⟨v4, vs4, d4, ds4, p4, q_4, rfl, rfl, rfl, h4, r_4⟩ := trodAll_cons r_3
  obtain ⟨rfl, rfl, rfl⟩ := trodAll_nil r_4
  obtain rfl : args = #[v0, v1, v2, v3, v4] := by cases args; simp_all
  obtain ⟨rfl, rfl⟩ := trodVars_none hV
  obtain ⟨l0, hs0, hv0⟩ := open_cla (hval 0 39 v0 rfl rfl) h0
  obtain ⟨l1, hs1, hv1⟩ := open_inta (hval 1 40 v1 rfl rfl) h1
  obtain ⟨c2, rfl, rfl, rfl, wc2⟩ := open_int Tryd.underlying3 (hval 2 3 v2 rfl rfl) h2
  obtain ⟨c3, rfl, rfl, rfl, wc3⟩ := open_int Tryd.underlying3 (hval 3 3 v3 rfl rfl) h3
  obtain ⟨c4, rfl, rfl, rfl, wc4⟩ := open_int Tryd.underlying3 (hval 4 3 v4 rfl rfl) h4
  clear hA0
  simp only [List.append_nil] at hW'
  have hL2 : LaidU W := laid_u6 (seat_met6 hL)
  have hlt0 : ∀ x ∈ p0, x.block < W.heap.size := fun x hx => by simpa using hW'.lt x (by simp [hx])
  have hlt1 : ∀ x ∈ p1, x.block < W.heap.size := fun x hx => by simpa using hW'.lt x (by simp [hx])
  refine (cellorder_any v0 v1 l0 l1 c2 c3 c4 W hs0 hv0 hs1 hv1 hL2).mono fun e W' ⟨he, hg⟩ => ?_
  subst he
  exact ⟨_, rfl, _, _, _, [], (p0 ++ (p1 ++ ([] ++ ([] ++ ([] ++ []))))), [], hW', trodAll_cons_mk (shut_bool Tryd.underlying4 _) trodAll_mk0, (trodAll_cons_mk (Below.trod laid_out (by kernel_rfl) (of_decide_eq_true (by kernel_rfl)) h0 hg hlt0) (trodAll_cons_mk (Below.trod laid_out (by kernel_rfl) (of_decide_eq_true (by kernel_rfl)) h1 hg hlt1) (trodAll_cons_mk (shut_int Tryd.underlying3 wc2) (trodAll_cons_mk (shut_int Tryd.underlying3 wc3) (trodAll_cons_mk (shut_int Tryd.underlying3 wc4) trodAll_mk0))))), rfl, hg.frame _, fun h => by cases h⟩

theorem reads (os : Os) (H : Type) (enc : TypeId × Value → H) : ∃ places, DataW.whole enc Tryd.prog ((laidWorld5 os).forCall (fun _ _ => 0) ⟨#[], #[.slice none 0 0, .slice none 0 0, .int .i64 0, .int .i64 0, .int .i64 0], []⟩).memory Tryd.f4.params.toList Rows.cellOrderSpec.vars false #[Value.slice none 0 0, Value.slice none 0 0, Value.int .i64 0, Value.int .i64 0, Value.int .i64 0].toList 12 = some ([.nil, .nil, .lit (.int .i64 0), .lit (.int .i64 0), .lit (.int .i64 0)], [], places) :=
  ⟨[], by kernel_rfl⟩

set_option maxRecDepth 100000 in
theorem lifted (os : Os) (started : os.Started) (H : Type) (enc : TypeId × Value → H) (F : Stop.Interp) :
    ReturnsInHanded {} Tryd.checked os 4 .any ((OpenSpec.ofChange Rows.cellOrderSpec).preRow enc Tryd.prog Tryd.f4 Rows.cellOrderRow.domain false Rows.cellOrderRow.laid) (((OpenSpec.ofChange Rows.cellOrderSpec).at F).post enc Tryd.prog Tryd.f4 false true false false) := by
  obtain ⟨places, hx⟩ := reads os H enc
  refine returnsInHanded_of_row (C := Tryd.checked) (s := OpenSpec.ofChange Rows.cellOrderSpec) seat_own started (by kernel_rfl) Tryd.func4
    (witness_row_at (enc := enc) (C := Tryd.checked) false (laidWorld5 os) #[.slice none 0 0, .slice none 0 0, .int .i64 0, .int .i64 0, .int .i64 0] rfl (by kernel_rfl) (by kernel_rfl) (by kernel_rfl)
      (OpenSpec.preRow_of_cond 12 hx (by kernel_rfl) (fun k hk => by cases hk) (by kernel_rfl) (laid_met6 os _))) ?_
  intro W base args ds gs before hval hW _ _ _ hL _ _
  exact contract H enc W base args ds gs before hval hW hL

theorem said : Rows.CellOrderSaid :=
  OpenClaim.holds_of_cond 4 Tryd.f4 rfl rfl rfl rfl rfl rfl rfl ⟨rfl, rfl, rfl, rfl, rfl⟩ rfl rfl rfl rfl rfl (by kernel_rfl) Tryd.func4 (by kernel_rfl)
    (of_decide_eq_true (by kernel_rfl)) (by unfold Func.isWrapper; first | (rw [if_pos (by decide +kernel)]; kernel_rfl) | (rw [if_neg (by decide +kernel)]; exact ⟨rfl, rfl⟩))
    (fun os started H enc _ F => by rw [OpenClaim.pre_eq_preRow]; exact lifted os started H enc F)

theorem plain (f : FuncId) (fn : Func) (hf : Tryd.pinned.checked.prog.funcNamed "joist/joistlaw06.CellOrder" = some f) (hfn : Tryd.pinned.checked.prog.funcs[f]? = some fn) :
    true = Tryd.pinned.checked.prog.looks [] ∧ ∀ (j : Nat) t, fn.params[j]? = some t → Tryd.pinned.checked.prog.wantsStandIn t = false := by
  obtain rfl : f = 4 := Option.some.inj ((show Tryd.prog.funcNamed "joist/joistlaw06.CellOrder" = some 4 by kernel_rfl).symm.trans hf) |>.symm
  obtain rfl : fn = Tryd.f4 := (Option.some.inj (Tryd.func4.symm.trans hfn)).symm
  refine ⟨by kernel_rfl, fun j t ht => ?_⟩
  rw [Tryd.params4] at ht
  have hm := Array.mem_of_getElem? ht
  rcases (show t = 39 ∨ t = 40 ∨ t = 3 ∨ t = 3 ∨ t = 3 by simpa using hm) with rfl | rfl | rfl | rfl | rfl
  · exact (show Tryd.prog.wantsStandIn 39 = false by kernel_rfl)
  · exact (show Tryd.prog.wantsStandIn 40 = false by kernel_rfl)
  · exact (show Tryd.prog.wantsStandIn 3 = false by kernel_rfl)
  · exact (show Tryd.prog.wantsStandIn 3 = false by kernel_rfl)
  · exact (show Tryd.prog.wantsStandIn 3 = false by kernel_rfl)

/-- THE CARD. -/
theorem card : Rows.CellOrderCardSaid :=
  Claim7.holds_tied_plain_at .later [] _ _ _ _ said (fun _ h => by cases h) (by kernel_rfl) (fun _ h => by cases h) cellOrder_row_tie rfl ⟨rfl, rfl⟩ (by kernel_rfl) rfl plain (by kernel_rfl)
end Go.Proofs.YtdjaofbjmnmlbaaDoor.cellOrder
namespace Go.Proofs.YtdjaofbjmnmlbaaDoor
theorem cellOrder_card : Rows.CellOrderCardSaid := cellOrder.card
end Go.Proofs.YtdjaofbjmnmlbaaDoor
