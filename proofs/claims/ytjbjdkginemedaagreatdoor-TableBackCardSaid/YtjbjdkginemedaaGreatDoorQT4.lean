/- Several texts in one: NVb TA TB TD. Conditions: as each theorem names them. -/
import Derived.Test.YtjbjdkginemedaaGreatDoorQ9
import Derived.Test.YtjbjdkginemedaaGreatDoorNR
import Derived.Test.YtjbjdkginemedaaGreatDoorQK
import Derived.Deep.RegionHeld3
import Derived.RegionTactic
import Derived.Test.YtjbjdkginemedaaGreatDoorQ1
import Derived.Test.YtjbjdkginemedaaGreatDoorQ4
import Derived.Test.YtjbjdkginemedaaGreatDoorQT0
import Derived.Test.YtjbjdkginemedaaGreatDoorQE1
/- Plain mathematics: where a look at cells in order is. Conditions: as each theorem names them. -/
namespace Go.Proofs.YtjbjdkginemedaaGreatDoor
open Go.RowKit

/-- Where Fine is: so many cells are right and rise; what is to be said hangs on the others. -/
structure FinI (l : List CT) (F : Bool) (i : Nat) : Prop where
  ok : ∀ (j : Nat) (c : CT), j < i → l[j]? = some c → c.ok = true
  eq : F = fineK (lastK [] (l.take i)) (l.drop i)
theorem fini_zero (l : List CT) : FinI l (fineK [] l) 0 := ⟨fun j c h => by omega, rfl⟩
theorem fini_no {l : List CT} {F : Bool} {i : Nat} {y : CT} (h : FinI l F i) (hy : l[i]? = some y) (ho : y.ok = false) : F = false := by
  obtain ⟨hi, e⟩ := List.getElem?_eq_some_iff.1 hy
  rw [h.eq, List.drop_eq_getElem_cons hi, e, fineK, ho]
  rfl
theorem fini_next {l : List CT} {F : Bool} {i : Nat} {y : CT} (h : FinI l F i) (hy : l[i]? = some y) (ho : y.ok = true) (hl : Lib.compareBytes (lastK [] (l.take i)) (keyL y) < 0) : FinI l F (i + 1) := by
  obtain ⟨hi, e⟩ := List.getElem?_eq_some_iff.1 hy
  refine ⟨fun j c hj hc => ?_, ?_⟩
  · rcases Nat.lt_or_ge j i with q | q
    · exact h.ok j c q hc
    · obtain rfl : j = i := by omega
      rw [hy] at hc
      cases hc
      exact ho
  · rw [h.eq, List.drop_eq_getElem_cons hi, e, fineK, ho, decide_eq_true hl, List.take_add_one, hy]
    show fineK (keyL y) (l.drop (i + 1)) = fineK (lastK [] (l.take i ++ [y])) (l.drop (i + 1))
    rw [lastK_snoc]
theorem fini_last {l : List CT} {k : Nat} {x : CT} (hx : l[k]? = some x) : lastK [] (l.take (k + 1)) = keyL x := by
  rw [List.take_add_one, hx]
  exact lastK_snoc _ _ _
theorem fini_ge {l : List CT} {F : Bool} {k : Nat} {x y : CT} (h : FinI l F (k + 1)) (hx : l[k]? = some x) (hy : l[k + 1]? = some y) (ho : y.ok = true) (hc : ¬ CT.cmp x y < 0) : F = false := by
  obtain ⟨hi, e⟩ := List.getElem?_eq_some_iff.1 hy
  rw [h.eq, List.drop_eq_getElem_cons hi, e, fineK, fini_last hx, key_cmp (h.ok k x (by omega) hx) ho, decide_eq_false hc]
  simp
theorem fini_lt {l : List CT} {F : Bool} {k : Nat} {x y : CT} (h : FinI l F (k + 1)) (hx : l[k]? = some x) (hy : l[k + 1]? = some y) (ho : y.ok = true) (hc : CT.cmp x y < 0) : FinI l F (k + 1 + 1) :=
  fini_next h hy ho (by rw [fini_last hx, key_cmp (h.ok k x (by omega) hx) ho]; exact hc)
theorem fini_all {l : List CT} {F : Bool} (h : FinI l F l.length) : F = true := by
  rw [h.eq, List.drop_length]
  rfl
end Go.Proofs.YtjbjdkginemedaaGreatDoor

/- table.ordered at every list of cells. Conditions: the argument stands, its numbers are of 64 bits; the tables of utf8 read as they are laid. -/
namespace Go.Proofs.YtjbjdkginemedaaGreatDoor
open Go.RowKit

theorem pax_bel {W0 : World} {b o b2 p : Nat} {x y : CT} {W : World} (h : PaX W0 b o b2 p x y W) : Below W0.heap.size W0 W := h.1.out.1
set_option maxRecDepth 100000 in
set_option maxHeartbeats 8000000 in
theorem ordered_any (v : Value) (l : List CT) (w : World) (h : ClA w v l) (hs : ∀ c ∈ l, okC c) (hL : LaidU w) :
    Calls Tryz.prog 61 #[v] w fun e w' => e = .returned (.bool (fineK [] l)) ∧ Below w.heap.size w w' := by
  have mixed : Tryz.prog.follows .mixedOrders = true := by kernel_rfl
  have HV := hid h
  obtain ⟨A, cap, rfl, hc1, hc2, hh⟩ := h
  have HH := hid hh
  clear hh
  obtain ⟨m, hm⟩ : ∃ m, l.length = m := ⟨_, rfl⟩
  have HM := hid hm
  rw [hm] at HV hc1 ⊢
  clear hm
  have HRt : Hid (∀ c ∈ l, ∀ W, Below w.heap.size w W → Calls Tryz.prog 98 #[c.v] W fun e w' => e = .returned (.bool c.ok) ∧ Below W.heap.size W w') := fun c hc W hW => cright_any c.r c.f c.q c.s c.t c.k c.vk (hs c hc).2.2 (hs c hc).1 (hs c hc).2.1 W (hL.below hW)
  have HOr : Hid (∀ x y W, Calls Tryz.prog 50 #[x.v, y.v] W fun e w' => e = .returned (.int .i64 (CT.cmp x y)) ∧ Below W.heap.size W w') := fun x y W => ordc_any x y W
  have HF0 := hid (fini_zero l)
  obtain ⟨F, hF⟩ : ∃ F, fineK [] l = F := ⟨_, rfl⟩
  rw [hF] at HF0 ⊢
  clear hF hs hL
  go_enter Tryz.func61, Tryz.ntmps61
  go_wp2
  go_loopw [7] (fun vi wr => ∃ i : Nat, i ≤ m ∧ vi = .int .i64 i ∧ Hid (Below w.heap.size w wr) ∧ Hid (FinI l F i)) (fun vi _ => m - (intOf vi).toNat)
  case atStart => exact ⟨0, Nat.zero_le _, rfl, Below.refl _ _, HF0.out⟩
  case round =>
    obtain ⟨i, hi, rfl, HB, HI⟩ := hrel
    by_cases hlt : i < m
    · have him : i < l.length := by rw [HM.out]; exact hlt
      have hltz : (i : Int) < (m : Int) := by omega
      obtain ⟨b, off, rfl, hhc⟩ := HH.out (by omega)
      have hbw : b < w.heap.size := hhc.lt (by omega)
      obtain ⟨y, hy⟩ : ∃ y, l[i]? = some y := ⟨_, List.getElem?_eq_getElem him⟩
      have HRy0 := hid (HRt.out y (List.mem_of_getElem? hy))
      obtain ⟨a0, a1, a2, a3, a4, a5, a6, a7⟩ := ct_words (hhc.below HB.out hbw) i hy
      go_upto_region 4 with (fail)
      obtain ⟨W1, hW1⟩ : ∃ W1, wr.alloc (.cells #[.string y.r, .string y.f, .string y.q, .int .i64 y.t, .int .i64 y.k, .int .i64 y.vk, .int .i64 y.vn, .string y.s] 26) = W1 := ⟨_, rfl⟩
      obtain ⟨bx, hbx⟩ : ∃ bx, wr.heap.size = bx := ⟨_, rfl⟩
      have HW1 : Hid (Below wr.heap.size wr W1 ∧ DW W1 bx y ∧ Below w.heap.size w W1) := by
        rw [← hW1, ← hbx]
        exact ⟨below_new _ _, Blk.new _ _ _, HB.out.trans ((below_new _ _).mono HB.out.size)⟩
      rw [hW1, hbx]
      clear hW1 hbx a0 a1 a2 a3 a4 a5 a6 a7
      have HC1 : Hid (HC W1 b off l ∧ b < W1.heap.size) := ⟨hhc.below HW1.out.2.2 hbw, Nat.lt_of_lt_of_le hbw HW1.out.2.2.size⟩
      cases hok : y.ok with
      | false =>
        obtain rfl : F = false := fini_no HI.out hy hok
        have HRy : Hid (∀ W, Below W1.heap.size W1 W → Calls Tryz.prog 98 #[y.v] W fun e w' => e = .returned (.bool false) ∧ Below W.heap.size W w') := by rw [← hok]; exact fun W hW => HRy0.out W (HW1.out.2.2.trans (hW.mono HW1.out.2.2.size))
        have P := DW.words HW1.out.2.1
        have HT : Hid (SingW W1 bx 0 y W1) := ⟨hid ⟨Below.refl _ _, HW1.out.2.1.lt⟩, P⟩
        obtain ⟨y0, y1, y2, y3, y4, y5, y6, y7⟩ := P
        clear hhc hy him hlt hok HRy0
        refine wp_region_held_drew (S := (fun W' => Hid (Below W1.heap.size W1 W' ∧ bx < W1.heap.size) ∧ (W'.cell? ⟨bx, 0, none⟩ = some (.string y.r) ∧ W'.cell? ⟨bx, 1, none⟩ = some (.string y.f) ∧ W'.cell? ⟨bx, 2, none⟩ = some (.string y.q) ∧ W'.cell? ⟨bx, 3, none⟩ = some (.int .i64 y.t) ∧ W'.cell? ⟨bx, 4, none⟩ = some (.int .i64 y.k) ∧ W'.cell? ⟨bx, 5, none⟩ = some (.int .i64 y.vk) ∧ W'.cell? ⟨bx, 6, none⟩ = some (.int .i64 y.vn) ∧ W'.cell? ⟨bx, 7, none⟩ = some (.string y.s)))) (by kernel_rfl) ?_ (fun hHeld => ?_)
        (exact sing_drew HT.out)
        (refine wpAnyH_take (i := 0) (v := ?_) rfl (by kernel_rfl) (by kernel_rfl) (by kernel_rfl) (fun _ _ _ h => h) (Or.inl ⟨by kernel_rfl, ?_⟩) (by assumption) ?_; rotate_left; · (intro w hSw; (try dsimp only at hSw); go_simp; first | done | with_reducible rfl))
        (try simp only [Act.put]); (try simp only [List.getElem_toArray]); (try simp only [List.getElem_cons_succ]); (try simp only [List.getElem_cons_zero]); (try simp only [List.setIfInBounds_toArray]); (try simp only [List.set_cons_succ]); (try simp only [List.set_cons_zero])
        (refine wpAnyH_ready (rs := [1]) (by kernel_rfl) (by simp) (AllReadyH.cons rfl (fun K hK => ?_) AllReadyH.nil); go_simp; (go_at_call 98; refine (HRy.out _ hHeld.1.out.1).mono ?_; rintro e w5 ⟨rfl, hb5⟩); refine hK.out _ _ ?_ (fun hHeld => ?_))
        · exact sing_call (by assumption) hb5
        clear hK K
        (try simp only [Act.put]); (try simp only [List.getElem_toArray]); (try simp only [List.getElem_cons_succ]); (try simp only [List.getElem_cons_zero]); (try simp only [List.setIfInBounds_toArray]); (try simp only [List.set_cons_succ]); (try simp only [List.set_cons_zero])
        (refine wpAnyH_take (i := 2) (v := ?_) rfl (by kernel_rfl) (by kernel_rfl) (by kernel_rfl) (fun _ _ _ h => h) (Or.inl ⟨by kernel_rfl, ?_⟩) (by assumption) ?_; rotate_left; · (intro w hSw; (try dsimp only at hSw); go_simp; first | done | with_reducible rfl))
        (try simp only [Act.put]); (try simp only [List.getElem_toArray]); (try simp only [List.getElem_cons_succ]); (try simp only [List.getElem_cons_zero]); (try simp only [List.setIfInBounds_toArray]); (try simp only [List.set_cons_succ]); (try simp only [List.set_cons_zero])
        (refine wpAnyH_take (i := 3) (v := ?_) rfl (by kernel_rfl) (by kernel_rfl) (by kernel_rfl) (fun _ _ _ h => h) (Or.inl ⟨by kernel_rfl, ?_⟩) (by assumption) ?_; rotate_left; · (intro w hSw; (try dsimp only at hSw); go_simp; first | done | with_reducible rfl))
        (try simp only [Act.put]); (try simp only [List.getElem_toArray]); (try simp only [List.getElem_cons_succ]); (try simp only [List.getElem_cons_zero]); (try simp only [List.setIfInBounds_toArray]); (try simp only [List.set_cons_succ]); (try simp only [List.set_cons_zero])
        (refine wpAnyH_take (i := 4) (v := undef) rfl (by kernel_rfl) (by kernel_rfl) (by kernel_rfl) (fun _ _ _ h => h) (Or.inr ⟨by kernel_rfl, rfl⟩) (by assumption) ?_; (try simp only [Act.put]); (try simp only [List.getElem_toArray]); (try simp only [List.getElem_cons_succ]); (try simp only [List.getElem_cons_zero]); (try simp only [List.setIfInBounds_toArray]); (try simp only [List.set_cons_succ]); (try simp only [List.set_cons_zero]))
        (refine wpAnyH_take (i := 5) (v := undef) rfl (by kernel_rfl) (by kernel_rfl) (by kernel_rfl) (fun _ _ _ h => h) (Or.inr ⟨by kernel_rfl, rfl⟩) (by assumption) ?_; (try simp only [Act.put]); (try simp only [List.getElem_toArray]); (try simp only [List.getElem_cons_succ]); (try simp only [List.getElem_cons_zero]); (try simp only [List.setIfInBounds_toArray]); (try simp only [List.set_cons_succ]); (try simp only [List.set_cons_zero]))
        (refine wpAnyH_take (i := 6) (v := undef) rfl (by kernel_rfl) (by kernel_rfl) (by kernel_rfl) (fun _ _ _ h => h) (Or.inr ⟨by kernel_rfl, rfl⟩) (by assumption) ?_; (try simp only [Act.put]); (try simp only [List.getElem_toArray]); (try simp only [List.getElem_cons_succ]); (try simp only [List.getElem_cons_zero]); (try simp only [List.setIfInBounds_toArray]); (try simp only [List.set_cons_succ]); (try simp only [List.set_cons_zero]))
        (refine wpAnyH_take (i := 7) (v := undef) rfl (by kernel_rfl) (by kernel_rfl) (by kernel_rfl) (fun _ _ _ h => h) (Or.inr ⟨by kernel_rfl, rfl⟩) (by assumption) ?_; (try simp only [Act.put]); (try simp only [List.getElem_toArray]); (try simp only [List.getElem_cons_succ]); (try simp only [List.getElem_cons_zero]); (try simp only [List.setIfInBounds_toArray]); (try simp only [List.set_cons_succ]); (try simp only [List.set_cons_zero]))
        (refine wpAnyH_take (i := 8) (v := undef) rfl (by kernel_rfl) (by kernel_rfl) (by kernel_rfl) (fun _ _ _ h => h) (Or.inr ⟨by kernel_rfl, rfl⟩) (by assumption) ?_; (try simp only [Act.put]); (try simp only [List.getElem_toArray]); (try simp only [List.getElem_cons_succ]); (try simp only [List.getElem_cons_zero]); (try simp only [List.setIfInBounds_toArray]); (try simp only [List.set_cons_succ]); (try simp only [List.set_cons_zero]))
        (refine wpAnyH_take (i := 9) (v := undef) rfl (by kernel_rfl) (by kernel_rfl) (by kernel_rfl) (fun _ _ _ h => h) (Or.inr ⟨by kernel_rfl, rfl⟩) (by assumption) ?_; (try simp only [Act.put]); (try simp only [List.getElem_toArray]); (try simp only [List.getElem_cons_succ]); (try simp only [List.getElem_cons_zero]); (try simp only [List.setIfInBounds_toArray]); (try simp only [List.set_cons_succ]); (try simp only [List.set_cons_zero]))
        (refine wpAnyH_take (i := 10) (v := undef) rfl (by kernel_rfl) (by kernel_rfl) (by kernel_rfl) (fun _ _ _ h => h) (Or.inr ⟨by kernel_rfl, rfl⟩) (by assumption) ?_; (try simp only [Act.put]); (try simp only [List.getElem_toArray]); (try simp only [List.getElem_cons_succ]); (try simp only [List.getElem_cons_zero]); (try simp only [List.setIfInBounds_toArray]); (try simp only [List.set_cons_succ]); (try simp only [List.set_cons_zero]))
        (refine wpAnyH_take (i := 11) (v := undef) rfl (by kernel_rfl) (by kernel_rfl) (by kernel_rfl) (fun _ _ _ h => h) (Or.inr ⟨by kernel_rfl, rfl⟩) (by assumption) ?_; (try simp only [Act.put]); (try simp only [List.getElem_toArray]); (try simp only [List.getElem_cons_succ]); (try simp only [List.getElem_cons_zero]); (try simp only [List.setIfInBounds_toArray]); (try simp only [List.set_cons_succ]); (try simp only [List.set_cons_zero]))
        (refine wpAnyH_take (i := 12) (v := undef) rfl (by kernel_rfl) (by kernel_rfl) (by kernel_rfl) (fun _ _ _ h => h) (Or.inr ⟨by kernel_rfl, rfl⟩) (by assumption) ?_; (try simp only [Act.put]); (try simp only [List.getElem_toArray]); (try simp only [List.getElem_cons_succ]); (try simp only [List.getElem_cons_zero]); (try simp only [List.setIfInBounds_toArray]); (try simp only [List.set_cons_succ]); (try simp only [List.set_cons_zero]))
        (refine wpAnyH_take (i := 13) (v := undef) rfl (by kernel_rfl) (by kernel_rfl) (by kernel_rfl) (fun _ _ _ h => h) (Or.inr ⟨by kernel_rfl, rfl⟩) (by assumption) ?_; (try simp only [Act.put]); (try simp only [List.getElem_toArray]); (try simp only [List.getElem_cons_succ]); (try simp only [List.getElem_cons_zero]); (try simp only [List.setIfInBounds_toArray]); (try simp only [List.set_cons_succ]); (try simp only [List.set_cons_zero]))
        (refine wpAnyH_take (i := 14) (v := undef) rfl (by kernel_rfl) (by kernel_rfl) (by kernel_rfl) (fun _ _ _ h => h) (Or.inr ⟨by kernel_rfl, rfl⟩) (by assumption) ?_; (try simp only [Act.put]); (try simp only [List.getElem_toArray]); (try simp only [List.getElem_cons_succ]); (try simp only [List.getElem_cons_zero]); (try simp only [List.setIfInBounds_toArray]); (try simp only [List.set_cons_succ]); (try simp only [List.set_cons_zero]))
        (refine wpAnyH_take (i := 15) (v := undef) rfl (by kernel_rfl) (by kernel_rfl) (by kernel_rfl) (fun _ _ _ h => h) (Or.inr ⟨by kernel_rfl, rfl⟩) (by assumption) ?_; (try simp only [Act.put]); (try simp only [List.getElem_toArray]); (try simp only [List.getElem_cons_succ]); (try simp only [List.getElem_cons_zero]); (try simp only [List.setIfInBounds_toArray]); (try simp only [List.set_cons_succ]); (try simp only [List.set_cons_zero]))
        (refine wpAnyH_take (i := 16) (v := ?_) rfl (by kernel_rfl) (by kernel_rfl) (by kernel_rfl) (fun _ _ _ h => h) (Or.inl ⟨by kernel_rfl, ?_⟩) (by assumption) ?_; rotate_left; · (intro w hSw; (try dsimp only at hSw); go_simp; first | done | with_reducible rfl))
        (try simp only [Act.put]); (try simp only [List.getElem_toArray]); (try simp only [List.getElem_cons_succ]); (try simp only [List.getElem_cons_zero]); (try simp only [List.setIfInBounds_toArray]); (try simp only [List.set_cons_succ]); (try simp only [List.set_cons_zero])
        refine wpAnyH_done (by kernel_rfl) ?_ _
        have HB2 := hid (HW1.out.2.2.trans (hHeld.1.out.1.mono HW1.out.2.2.size))
        clear hHeld HT
        clear y0 y1 y2 y3 y4 y5 y6 y7
        go_wp2
        go_ret
        exact ⟨rfl, HB2.out⟩
      | true =>
        have HRy : Hid (∀ W, Below W1.heap.size W1 W → Calls Tryz.prog 98 #[y.v] W fun e w' => e = .returned (.bool true) ∧ Below W.heap.size W w') := by rw [← hok]; exact fun W hW => HRy0.out W (HW1.out.2.2.trans (hW.mono HW1.out.2.2.size))
        by_cases hi0 : i = 0
        · subst hi0
          have HIn := hid (fini_next HI.out hy hok key_first)
          have P := DW.words HW1.out.2.1
          have HT : Hid (SingW W1 bx 0 y W1) := ⟨hid ⟨Below.refl _ _, HW1.out.2.1.lt⟩, P⟩
          obtain ⟨y0, y1, y2, y3, y4, y5, y6, y7⟩ := P
          clear hhc hy him hok HRy0
          refine wp_region_held_drew (S := (fun W' => Hid (Below W1.heap.size W1 W' ∧ bx < W1.heap.size) ∧ (W'.cell? ⟨bx, 0, none⟩ = some (.string y.r) ∧ W'.cell? ⟨bx, 1, none⟩ = some (.string y.f) ∧ W'.cell? ⟨bx, 2, none⟩ = some (.string y.q) ∧ W'.cell? ⟨bx, 3, none⟩ = some (.int .i64 y.t) ∧ W'.cell? ⟨bx, 4, none⟩ = some (.int .i64 y.k) ∧ W'.cell? ⟨bx, 5, none⟩ = some (.int .i64 y.vk) ∧ W'.cell? ⟨bx, 6, none⟩ = some (.int .i64 y.vn) ∧ W'.cell? ⟨bx, 7, none⟩ = some (.string y.s)))) (by kernel_rfl) ?_ (fun hHeld => ?_)
          (exact sing_drew HT.out)
          (refine wpAnyH_take (i := 0) (v := ?_) rfl (by kernel_rfl) (by kernel_rfl) (by kernel_rfl) (fun _ _ _ h => h) (Or.inl ⟨by kernel_rfl, ?_⟩) (by assumption) ?_; rotate_left; · (intro w hSw; (try dsimp only at hSw); go_simp; first | done | with_reducible rfl))
          (try simp only [Act.put]); (try simp only [List.getElem_toArray]); (try simp only [List.getElem_cons_succ]); (try simp only [List.getElem_cons_zero]); (try simp only [List.setIfInBounds_toArray]); (try simp only [List.set_cons_succ]); (try simp only [List.set_cons_zero])
          (refine wpAnyH_ready (rs := [1]) (by kernel_rfl) (by simp) (AllReadyH.cons rfl (fun K hK => ?_) AllReadyH.nil); go_simp; (go_at_call 98; refine (HRy.out _ hHeld.1.out.1).mono ?_; rintro e w5 ⟨rfl, hb5⟩); refine hK.out _ _ ?_ (fun hHeld => ?_))
          · exact sing_call (by assumption) hb5
          clear hK K
          (try simp only [Act.put]); (try simp only [List.getElem_toArray]); (try simp only [List.getElem_cons_succ]); (try simp only [List.getElem_cons_zero]); (try simp only [List.setIfInBounds_toArray]); (try simp only [List.set_cons_succ]); (try simp only [List.set_cons_zero])
          (refine wpAnyH_take (i := 2) (v := ?_) rfl (by kernel_rfl) (by kernel_rfl) (by kernel_rfl) (fun _ _ _ h => h) (Or.inl ⟨by kernel_rfl, ?_⟩) (by assumption) ?_; rotate_left; · (intro w hSw; (try dsimp only at hSw); go_simp; first | done | with_reducible rfl))
          (try simp only [Act.put]); (try simp only [List.getElem_toArray]); (try simp only [List.getElem_cons_succ]); (try simp only [List.getElem_cons_zero]); (try simp only [List.setIfInBounds_toArray]); (try simp only [List.set_cons_succ]); (try simp only [List.set_cons_zero])
          (refine wpAnyH_take (i := 3) (v := ?_) rfl (by kernel_rfl) (by kernel_rfl) (by kernel_rfl) (fun _ _ _ h => h) (Or.inl ⟨by kernel_rfl, ?_⟩) (by assumption) ?_; rotate_left; · (intro w hSw; (try dsimp only at hSw); go_simp; first | done | with_reducible rfl))
          (try simp only [Act.put]); (try simp only [List.getElem_toArray]); (try simp only [List.getElem_cons_succ]); (try simp only [List.getElem_cons_zero]); (try simp only [List.setIfInBounds_toArray]); (try simp only [List.set_cons_succ]); (try simp only [List.set_cons_zero])
          (refine wpAnyH_take (i := 4) (v := ?_) rfl (by kernel_rfl) (by kernel_rfl) (by kernel_rfl) (fun _ _ _ h => h) (Or.inl ⟨by kernel_rfl, ?_⟩) (by assumption) ?_; rotate_left; · (intro w hSw; (try dsimp only at hSw); go_simp; first | done | with_reducible rfl))
          (try simp only [Act.put]); (try simp only [List.getElem_toArray]); (try simp only [List.getElem_cons_succ]); (try simp only [List.getElem_cons_zero]); (try simp only [List.setIfInBounds_toArray]); (try simp only [List.set_cons_succ]); (try simp only [List.set_cons_zero])
          (refine wpAnyH_take (i := 5) (v := ?_) rfl (by kernel_rfl) (by kernel_rfl) (by kernel_rfl) (fun _ _ _ h => h) (Or.inl ⟨by kernel_rfl, ?_⟩) (by assumption) ?_; rotate_left; · (intro w hSw; (try dsimp only at hSw); go_simp; first | done | with_reducible rfl))
          (try simp only [Act.put]); (try simp only [List.getElem_toArray]); (try simp only [List.getElem_cons_succ]); (try simp only [List.getElem_cons_zero]); (try simp only [List.setIfInBounds_toArray]); (try simp only [List.set_cons_succ]); (try simp only [List.set_cons_zero])
          (refine wpAnyH_take (i := 6) (v := ?_) rfl (by kernel_rfl) (by kernel_rfl) (by kernel_rfl) (fun _ _ _ h => h) (Or.inl ⟨by kernel_rfl, ?_⟩) (by assumption) ?_; rotate_left; · (intro w hSw; (try dsimp only at hSw); go_simp; first | done | with_reducible rfl))
          (try simp only [Act.put]); (try simp only [List.getElem_toArray]); (try simp only [List.getElem_cons_succ]); (try simp only [List.getElem_cons_zero]); (try simp only [List.setIfInBounds_toArray]); (try simp only [List.set_cons_succ]); (try simp only [List.set_cons_zero])
          (refine wpAnyH_take (i := 7) (v := undef) rfl (by kernel_rfl) (by kernel_rfl) (by kernel_rfl) (fun _ _ _ h => h) (Or.inr ⟨by kernel_rfl, rfl⟩) (by assumption) ?_; (try simp only [Act.put]); (try simp only [List.getElem_toArray]); (try simp only [List.getElem_cons_succ]); (try simp only [List.getElem_cons_zero]); (try simp only [List.setIfInBounds_toArray]); (try simp only [List.set_cons_succ]); (try simp only [List.set_cons_zero]))
          (refine wpAnyH_take (i := 8) (v := undef) rfl (by kernel_rfl) (by kernel_rfl) (by kernel_rfl) (fun _ _ _ h => h) (Or.inr ⟨by kernel_rfl, rfl⟩) (by assumption) ?_; (try simp only [Act.put]); (try simp only [List.getElem_toArray]); (try simp only [List.getElem_cons_succ]); (try simp only [List.getElem_cons_zero]); (try simp only [List.setIfInBounds_toArray]); (try simp only [List.set_cons_succ]); (try simp only [List.set_cons_zero]))
          (refine wpAnyH_take (i := 9) (v := undef) rfl (by kernel_rfl) (by kernel_rfl) (by kernel_rfl) (fun _ _ _ h => h) (Or.inr ⟨by kernel_rfl, rfl⟩) (by assumption) ?_; (try simp only [Act.put]); (try simp only [List.getElem_toArray]); (try simp only [List.getElem_cons_succ]); (try simp only [List.getElem_cons_zero]); (try simp only [List.setIfInBounds_toArray]); (try simp only [List.set_cons_succ]); (try simp only [List.set_cons_zero]))
          (refine wpAnyH_take (i := 10) (v := undef) rfl (by kernel_rfl) (by kernel_rfl) (by kernel_rfl) (fun _ _ _ h => h) (Or.inr ⟨by kernel_rfl, rfl⟩) (by assumption) ?_; (try simp only [Act.put]); (try simp only [List.getElem_toArray]); (try simp only [List.getElem_cons_succ]); (try simp only [List.getElem_cons_zero]); (try simp only [List.setIfInBounds_toArray]); (try simp only [List.set_cons_succ]); (try simp only [List.set_cons_zero]))
          (refine wpAnyH_take (i := 11) (v := undef) rfl (by kernel_rfl) (by kernel_rfl) (by kernel_rfl) (fun _ _ _ h => h) (Or.inr ⟨by kernel_rfl, rfl⟩) (by assumption) ?_; (try simp only [Act.put]); (try simp only [List.getElem_toArray]); (try simp only [List.getElem_cons_succ]); (try simp only [List.getElem_cons_zero]); (try simp only [List.setIfInBounds_toArray]); (try simp only [List.set_cons_succ]); (try simp only [List.set_cons_zero]))
          (refine wpAnyH_take (i := 12) (v := undef) rfl (by kernel_rfl) (by kernel_rfl) (by kernel_rfl) (fun _ _ _ h => h) (Or.inr ⟨by kernel_rfl, rfl⟩) (by assumption) ?_; (try simp only [Act.put]); (try simp only [List.getElem_toArray]); (try simp only [List.getElem_cons_succ]); (try simp only [List.getElem_cons_zero]); (try simp only [List.setIfInBounds_toArray]); (try simp only [List.set_cons_succ]); (try simp only [List.set_cons_zero]))
          (refine wpAnyH_take (i := 13) (v := undef) rfl (by kernel_rfl) (by kernel_rfl) (by kernel_rfl) (fun _ _ _ h => h) (Or.inr ⟨by kernel_rfl, rfl⟩) (by assumption) ?_; (try simp only [Act.put]); (try simp only [List.getElem_toArray]); (try simp only [List.getElem_cons_succ]); (try simp only [List.getElem_cons_zero]); (try simp only [List.setIfInBounds_toArray]); (try simp only [List.set_cons_succ]); (try simp only [List.set_cons_zero]))
          (refine wpAnyH_take (i := 14) (v := undef) rfl (by kernel_rfl) (by kernel_rfl) (by kernel_rfl) (fun _ _ _ h => h) (Or.inr ⟨by kernel_rfl, rfl⟩) (by assumption) ?_; (try simp only [Act.put]); (try simp only [List.getElem_toArray]); (try simp only [List.getElem_cons_succ]); (try simp only [List.getElem_cons_zero]); (try simp only [List.setIfInBounds_toArray]); (try simp only [List.set_cons_succ]); (try simp only [List.set_cons_zero]))
          (refine wpAnyH_take (i := 15) (v := ?_) rfl (by kernel_rfl) (by kernel_rfl) (by kernel_rfl) (fun _ _ _ h => h) (Or.inl ⟨by kernel_rfl, ?_⟩) (by assumption) ?_; rotate_left; · (intro w hSw; (try dsimp only at hSw); go_simp; first | done | with_reducible rfl))
          (try simp only [Act.put]); (try simp only [List.getElem_toArray]); (try simp only [List.getElem_cons_succ]); (try simp only [List.getElem_cons_zero]); (try simp only [List.setIfInBounds_toArray]); (try simp only [List.set_cons_succ]); (try simp only [List.set_cons_zero])
          (refine wpAnyH_take (i := 16) (v := ?_) rfl (by kernel_rfl) (by kernel_rfl) (by kernel_rfl) (fun _ _ _ h => h) (Or.inl ⟨by kernel_rfl, ?_⟩) (by assumption) ?_; rotate_left; · (intro w hSw; (try dsimp only at hSw); go_simp; first | done | with_reducible rfl))
          (try simp only [Act.put]); (try simp only [List.getElem_toArray]); (try simp only [List.getElem_cons_succ]); (try simp only [List.getElem_cons_zero]); (try simp only [List.setIfInBounds_toArray]); (try simp only [List.set_cons_succ]); (try simp only [List.set_cons_zero])
          refine wpAnyH_done (by kernel_rfl) ?_ _
          have HB2 := hid (HW1.out.2.2.trans (hHeld.1.out.1.mono HW1.out.2.2.size))
          clear hHeld HT
          clear y0 y1 y2 y3 y4 y5 y6 y7
          go_wp2
          go_roundw
          case rel => exact ⟨1, by omega, by go_num, HB2.out, HIn.out⟩
          case measure => simp [intOf]; omega
        · obtain ⟨k, hk⟩ : ∃ k, i = k + 1 := ⟨i - 1, by omega⟩
          subst hk
          have hkm : k < l.length := by omega
          obtain ⟨x, hx⟩ : ∃ x, l[k]? = some x := ⟨_, List.getElem?_eq_getElem hkm⟩
          obtain ⟨o, ho⟩ : ∃ o, CT.cmp x y = o := ⟨_, rfl⟩
          have HOx := hid (HOr.out x y)
          rw [ho] at HOx
          have HGe : Hid (¬ o < 0 → F = false) := fun q => fini_ge HI.out hx hy hok (by rw [ho]; exact q)
          have HLt : Hid (o < 0 → FinI l F (k + 1 + 1)) := fun q => fini_lt HI.out hx hy hok (by rw [ho]; exact q)
          have hltz2 : (k : Int) + 1 < (m : Int) := by omega
          have hltp : (0 : Int) < (k : Int) + 1 := by omega
          have hge : (0 : Int) ≤ (k : Int) + 1 := by omega
          have htn : ((k : Int) + 1).toNat = k + 1 := by omega
          have hwj : IntKind.i64.wrap (k : Int) = (k : Int) := by rw [IntKind.wrap_i64]; omega
          have hwj1 : IntKind.i64.wrap ((k : Int) + 1 - 1) = (k : Int) := by rw [IntKind.wrap_i64]; omega
          have hjm : (k : Int) < (m : Int) := by omega
          have HT : Hid (PaX W1 b (off + k * 8) bx 0 x y W1) := ⟨hid ⟨Below.refl _ _, HC1.out.2, HW1.out.2.1.lt⟩, ct_words HC1.out.1 k hx, DW.words HW1.out.2.1⟩
          obtain ⟨-, ⟨x0, x1, x2, x3, x4, x5, x6, x7⟩, ⟨y0, y1, y2, y3, y4, y5, y6, y7⟩⟩ := HT.out
          clear hhc hy hx him hkm hlt hok HRy0 ho hi0
          by_cases ho : o < 0
          · have hno : ¬ (0 : Int) ≤ o := by omega
            have HL2 := hid (HLt.out ho)
            go_region_held3 (fun W' => Hid (Below W1.heap.size W1 W' ∧ b < W1.heap.size ∧ bx < W1.heap.size) ∧ (W'.cell? ⟨b, off + k * 8, none⟩ = some (.string x.r) ∧ W'.cell? ⟨b, off + k * 8 + 1, none⟩ = some (.string x.f) ∧ W'.cell? ⟨b, off + k * 8 + 2, none⟩ = some (.string x.q) ∧ W'.cell? ⟨b, off + k * 8 + 3, none⟩ = some (.int .i64 x.t) ∧ W'.cell? ⟨b, off + k * 8 + 4, none⟩ = some (.int .i64 x.k) ∧ W'.cell? ⟨b, off + k * 8 + 5, none⟩ = some (.int .i64 x.vk) ∧ W'.cell? ⟨b, off + k * 8 + 6, none⟩ = some (.int .i64 x.vn) ∧ W'.cell? ⟨b, off + k * 8 + 7, none⟩ = some (.string x.s)) ∧ (W'.cell? ⟨bx, 0, none⟩ = some (.string y.r) ∧ W'.cell? ⟨bx, 1, none⟩ = some (.string y.f) ∧ W'.cell? ⟨bx, 2, none⟩ = some (.string y.q) ∧ W'.cell? ⟨bx, 3, none⟩ = some (.int .i64 y.t) ∧ W'.cell? ⟨bx, 4, none⟩ = some (.int .i64 y.k) ∧ W'.cell? ⟨bx, 5, none⟩ = some (.int .i64 y.vk) ∧ W'.cell? ⟨bx, 6, none⟩ = some (.int .i64 y.vn) ∧ W'.cell? ⟨bx, 7, none⟩ = some (.string y.s)))
              (first | exact HT.out | exact pax_drew HT.out | exact pax_call (by assumption) hb3 | exact pax_drew (by assumption) | assumption)
              (first | (go_at_call 98; refine (HRy.out _ (pax_bel (b := b) (o := off + k * 8) (b2 := bx) (p := 0) (x := x) (y := y) (by assumption))).mono ?_; rintro e w3 ⟨rfl, hb3⟩) | (go_at_call 50; refine (HOx.out _).mono ?_; rintro e w3 ⟨rfl, hb3⟩))
            rename_i hLast
            have HZ3 := hid (HW1.out.2.2.trans (hLast.1.out.1.mono HW1.out.2.2.size))
            clear hLast HT x0 x1 x2 x3 x4 x5 x6 x7 y0 y1 y2 y3 y4 y5 y6 y7
            go_wp2
            go_roundw
            case rel => exact ⟨k + 1 + 1, by omega, by go_num, HZ3.out, HL2.out⟩
            case measure => simp [intOf]; omega
          · have hno : (0 : Int) ≤ o := by omega
            obtain rfl : F = false := HGe.out ho
            go_region_held3 (fun W' => Hid (Below W1.heap.size W1 W' ∧ b < W1.heap.size ∧ bx < W1.heap.size) ∧ (W'.cell? ⟨b, off + k * 8, none⟩ = some (.string x.r) ∧ W'.cell? ⟨b, off + k * 8 + 1, none⟩ = some (.string x.f) ∧ W'.cell? ⟨b, off + k * 8 + 2, none⟩ = some (.string x.q) ∧ W'.cell? ⟨b, off + k * 8 + 3, none⟩ = some (.int .i64 x.t) ∧ W'.cell? ⟨b, off + k * 8 + 4, none⟩ = some (.int .i64 x.k) ∧ W'.cell? ⟨b, off + k * 8 + 5, none⟩ = some (.int .i64 x.vk) ∧ W'.cell? ⟨b, off + k * 8 + 6, none⟩ = some (.int .i64 x.vn) ∧ W'.cell? ⟨b, off + k * 8 + 7, none⟩ = some (.string x.s)) ∧ (W'.cell? ⟨bx, 0, none⟩ = some (.string y.r) ∧ W'.cell? ⟨bx, 1, none⟩ = some (.string y.f) ∧ W'.cell? ⟨bx, 2, none⟩ = some (.string y.q) ∧ W'.cell? ⟨bx, 3, none⟩ = some (.int .i64 y.t) ∧ W'.cell? ⟨bx, 4, none⟩ = some (.int .i64 y.k) ∧ W'.cell? ⟨bx, 5, none⟩ = some (.int .i64 y.vk) ∧ W'.cell? ⟨bx, 6, none⟩ = some (.int .i64 y.vn) ∧ W'.cell? ⟨bx, 7, none⟩ = some (.string y.s)))
              (first | exact HT.out | exact pax_drew HT.out | exact pax_call (by assumption) hb3 | exact pax_drew (by assumption) | assumption)
              (first | (go_at_call 98; refine (HRy.out _ (pax_bel (b := b) (o := off + k * 8) (b2 := bx) (p := 0) (x := x) (y := y) (by assumption))).mono ?_; rintro e w3 ⟨rfl, hb3⟩) | (go_at_call 50; refine (HOx.out _).mono ?_; rintro e w3 ⟨rfl, hb3⟩))
            rename_i hLast
            have HZ3 := hid (HW1.out.2.2.trans (hLast.1.out.1.mono HW1.out.2.2.size))
            clear hLast HT x0 x1 x2 x3 x4 x5 x6 x7 y0 y1 y2 y3 y4 y5 y6 y7
            go_wp2
            go_ret
            exact ⟨rfl, HZ3.out⟩
    · obtain rfl : i = m := by omega
      obtain rfl : F = true := by have := HI.out; rw [← HM.out] at this; exact fini_all this
      go_wp2
      go_ret
      exact ⟨rfl, HB.out⟩
end Go.Proofs.YtjbjdkginemedaaGreatDoor

/- table.bytesOf and table.placeOf. Conditions: a place below 2^60; eight bytes. -/
namespace Go.Proofs.YtjbjdkginemedaaGreatDoor
open Go.RowKit

theorem bo_step {r i : Nat} {xs : Array Value} (hs : xs.size = 8) (hi : i < 8) (h : xs.toList.take i = (bc (byW 8 r)).take i) :
    (xs.setIfInBounds i (Value.int .u8 ((UInt8.ofNat (r / 256 ^ (7 - i) % 256)).toNat : Int))).toList.take (i + 1) = (bc (byW 8 r)).take (i + 1) := by
  have e : (bc (byW 8 r))[i]? = some (Value.int .u8 ((UInt8.ofNat (r / 256 ^ (7 - i) % 256)).toNat : Int)) := by
    unfold bc
    rw [List.getElem?_map, byW_at 8 r i hi]
    rfl
  rw [Array.toList_setIfInBounds, List.take_add_one, List.take_add_one, e, List.getElem?_set_self (by simpa using (by omega : i < xs.size)), List.take_set, List.set_eq_of_length_le (by rw [List.length_take]; omega), h]
def BOv (r b : Nat) (w0 : World) (vi : Value) (wr : World) : Prop :=
  ∃ (i : Nat) (xs : Array Value), i ≤ 8 ∧ vi = .int .i64 i ∧ Hid (Blk wr b 5 xs ∧ xs.size = 8 ∧ xs.toList.take i = (bc (byW 8 r)).take i) ∧ Hid (Below b w0 wr)

set_option maxRecDepth 100000 in
set_option maxHeartbeats 4000000 in
theorem bytesof_any (r : Nat) (hr : r < 1152921504606846976) (w : World) :
    Calls Tryz.prog 65 #[.int .i64 (r : Int)] w fun e w' => ∃ v, e = .returned v ∧ Row w' w.heap.size v (byW 8 r) ∧ Below w.heap.size w w' := by
  have hmk : ∀ W, (Instr.makeSlice 30 (.int .i64 8) (.int .i64 8)).run Tryz.prog W = .ok (.slice (some ⟨W.heap.size, 0, none⟩) 8 8) (W.alloc (.cells #[.int .u8 0, .int .u8 0, .int .u8 0, .int .u8 0, .int .u8 0, .int .u8 0, .int .u8 0, .int .u8 0] 5)) := fun _ => by kernel_rfl
  go_enter Tryz.func65, Tryz.ntmps65
  go_wp2
  go_loopw [8] (fun vi wr => BOv r w.heap.size w vi wr) (fun vi _ => 8 - (intOf vi).toNat)
  case atStart => exact ⟨0, _, by omega, rfl, ⟨Blk.new _ _ _, rfl, rfl⟩, (Below.refl _ _).alloc (Nat.le_refl _) _⟩
  case round =>
    obtain ⟨i, xs, hi, rfl, HX, HB⟩ := hrel
    by_cases hlt : i < 8
    · obtain ⟨v0, hcell⟩ : ∃ v, wr.cell? ⟨w.heap.size, i, none⟩ = some v := ⟨xs[i]'(by have := HX.out.2.1; omega), by rw [HX.out.1.cell, Array.getElem?_eq_getElem]⟩
      have hfree := HX.out.1.free i
      clear hmk
      have HV : ∀ v, v = Value.int .u8 ((UInt8.ofNat (r / 256 ^ (7 - i) % 256)).toNat : Int) → Hid (BOv r w.heap.size w (.int .i64 ((i + 1 : Nat) : Int)) (wr.setCell ⟨w.heap.size, i, none⟩ v)) := fun v hv => by
        subst hv
        exact ⟨i + 1, _, by omega, rfl, ⟨HX.out.1.set i _, by rw [Array.size_setIfInBounds]; exact HX.out.2.1, bo_step HX.out.2.1 hlt HX.out.2.2⟩, HB.out.setCell (Nat.le_refl _) _⟩
      obtain rfl | rfl | rfl | rfl | rfl | rfl | rfl | rfl : i = 0 ∨ i = 1 ∨ i = 2 ∨ i = 3 ∨ i = 4 ∨ i = 5 ∨ i = 6 ∨ i = 7 := by omega
      all_goals
        go_wp2
        go_roundw
        case rel =>
          refine (HV _ ?_).out
          refine congrArg (Value.int .u8) ?_
          rw [UInt8.toNat_ofNat']
          simp only [Nat.reducePow, Nat.reduceSub]
          omega
        case measure => simp [intOf]
    · obtain rfl : i = 8 := by omega
      have HD : Hid (Blk wr w.heap.size 5 (bc (byW 8 r)).toArray) := by
        have e : xs.toList = bc (byW 8 r) := by
          have h1 := HX.out.2.2
          rwa [List.take_of_length_le (by simp [HX.out.2.1]), List.take_of_length_le (by rw [bc_len, byW_len]; exact Nat.le_refl _)] at h1
        rw [← e]
        exact HX.out.1
      clear hmk
      go_wp2
      go_ret
      refine ⟨_, rfl, ?_, HB.out⟩
      refine ⟨by rw [bc_len, byW_len], .inr ⟨w.heap.size, 8, (bc (byW 8 r)).toArray, rfl, Nat.le_refl _, HD.out, by rw [byW_len]; exact Nat.le_refl _, by unfold maxLen; simp, by simp [bc_len, byW_len], ?_⟩⟩
      simp [byW_len, List.take_of_length_le, bc_len]

set_option maxRecDepth 100000 in
set_option maxHeartbeats 4000000 in
theorem placeof_any (r : Nat) (hr : r < 1152921504606846976) (A : Option Addr) (c : Nat) (w : World) (h : SlA w (.slice A 8 c) (byW 8 r)) :
    Calls Tryz.prog 69 #[.slice A 8 c] w fun e w' => e = .returned (.int .i64 (r : Int)) ∧ Below w.heap.size w w' := by
  obtain ⟨A', c', e, hc1, hc2, hh, _⟩ := h
  injection e with e1 e2 e3
  subst e1 e3
  obtain ⟨b, off, rfl, h8⟩ := hh (by rw [byW_len]; omega)
  have HH := hid h8
  clear hh h8 hc1 e2
  go_enter Tryz.func69, Tryz.ntmps69
  go_wp2
  go_loopw [3, 8] (fun vp vi wr => ∃ (i P : Nat), i ≤ 8 ∧ vi = .int .i64 i ∧ vp = .int .i64 (P : Int) ∧ Hid (P = r / 256 ^ (8 - i)) ∧ wr = w) (fun _ vi _ => 8 - (intOf vi).toNat)
  case atStart => exact ⟨0, 0, by omega, rfl, rfl, by show 0 = _; simp only [Nat.sub_zero, Nat.reducePow]; omega, rfl⟩
  case round =>
    obtain ⟨i, P, hi, rfl, rfl, HP, rfl⟩ := hrel
    by_cases hlt : i < 8
    · obtain ⟨x, hx⟩ : ∃ x : Nat, r / 256 ^ (8 - 1 - i) % 256 = x := ⟨_, rfl⟩
      have hx256 : x < 256 := by omega
      have Q : wr.cell? ⟨b, off + i, none⟩ = some (.int .u8 (x : Int)) := by
        have h1 := HH.out i (by rw [byW_len]; exact hlt)
        rw [List.getD_eq_getElem?_getD, byW_at 8 r i hlt] at h1
        rw [h1, Option.getD_some, UInt8.toNat_ofNat', ← hx]
        simp
      have HX := hid hx
      have hPb : P < 4503599627370496 := by
        have h1 := HP.out
        obtain rfl | rfl | rfl | rfl | rfl | rfl | rfl | rfl : i = 0 ∨ i = 1 ∨ i = 2 ∨ i = 3 ∨ i = 4 ∨ i = 5 ∨ i = 6 ∨ i = 7 := by omega
        all_goals (simp only [Nat.reducePow, Nat.reduceSub] at h1; omega)
      have HN : Hid (P * 256 + x = r / 256 ^ (8 - (i + 1))) := by
        have h1 := HP.out
        have h2 := HX.out
        show _ = _
        obtain rfl | rfl | rfl | rfl | rfl | rfl | rfl | rfl : i = 0 ∨ i = 1 ∨ i = 2 ∨ i = 3 ∨ i = 4 ∨ i = 5 ∨ i = 6 ∨ i = 7 := by omega
        all_goals (simp only [Nat.reducePow, Nat.reduceSub, Nat.reduceAdd] at h1 h2 ⊢; omega)
      have hor : bits .or .i64 ((P : Int) * 256) (x : Int) = ((P * 256 + x : Nat) : Int) := by
        have h1 := i64_or_nat (P * 256) x (by omega) (by omega)
        rw [show (((P * 256 : Nat)) : Int) = (P : Int) * 256 by omega] at h1
        rw [h1]
        congr 1
        have h2 := Nat.two_pow_add_eq_or_of_lt (i := 8) (b := x) (by omega) P
        rw [Nat.mul_comm P 256]
        exact h2.symm
      clear hx
      go_wp2
      go_roundw
      case rel =>
        exact ⟨i + 1, P * 256 + x, by omega, by go_num, by first | rfl | trivial, HN.out, by first | rfl | trivial⟩
      case measure => simp [intOf]; omega
    · obtain rfl : i = 8 := by omega
      go_wp2
      go_ret
      refine ⟨?_, Below.refl _ _⟩
      have h1 := HP.out
      simp only [Nat.reduceSub, Nat.pow_zero, Nat.div_one] at h1
      rw [h1]
      rfl
end Go.Proofs.YtjbjdkginemedaaGreatDoor

/- table.Build at every list of cells. Conditions: the argument stands, 120 cells at most, their texts no longer than the laws look at; the tables of utf8 read as they are laid. -/
namespace Go.Proofs.YtjbjdkginemedaaGreatDoor
open Go.RowKit

theorem prowt_at {w : World} {B P c : Nat} {A : Option Addr} {ps : List (List CT)} (h : PRow w B (.slice A P c) ps) {i : Nat} {x : List CT} (hx : ps[i]? = some x) :
    ∃ g Au cu, A = some ⟨g, 0, none⟩ ∧ w.cell? ⟨g, i, none⟩ = some (.slice Au x.length cu) ∧ ClA w (.slice Au x.length cu) x ∧ g < w.heap.size := by
  obtain ⟨vs, ho, hr⟩ := h
  obtain ⟨u, hu, hc⟩ := hr i x hx
  have hi : i < ps.length := (List.getElem?_eq_some_iff.1 hx).1
  obtain ⟨Au, cu, rfl, _⟩ := hc.len
  have ho' := ho
  rcases ho'.2 with ⟨_, h0⟩ | ⟨g, cap, cur, e, _, hh, _⟩
  · omega
  · injection e with e1 e2 e3
    subst e1 e3
    refine ⟨g, Au, cu, rfl, ?_, hc.cla, ?_⟩
    · have h1 := World.ownsRow.cells ho (g := g) rfl i _ hu
      rwa [add_zero_off, Nat.zero_add] at h1
    · rcases Nat.lt_or_ge g w.heap.size with h' | h'
      · exact h'
      · rw [Array.getElem?_eq_none h'] at hh; cases hh
/-- What Build leaves. -/
def TbEnd (F : Bool) (l : List CT) (w : World) (e : Ending) (w' : World) : Prop := if F = true then ∃ v', e = .returned (.tuple #[v', .bool true]) ∧ Row w' w.heap.size v' (tabB (cutL 256 l)) else e = .returned (.tuple #[.slice none 0 0, .bool false])
theorem blkF_len : ∀ (ps : List (List CT)), (∀ p ∈ ps, ∀ c ∈ p, Bc c) → (∀ p ∈ ps, p.length ≤ 140) → (blkF ps).length ≤ ps.length * 30 + ps.flatten.length * 300
  | [], _, _ => by simp [blkF, framesM]
  | p :: ps, h, hl => by
    have h1 := blkF_len ps (fun q hq => h q (List.mem_cons_of_mem _ hq)) (fun q hq => hl q (List.mem_cons_of_mem _ hq))
    have h2 := rest_len p [] (h p List.mem_cons_self)
    have h3 := hl p List.mem_cons_self
    have h4 := numW_len9 p.length (by omega)
    have h5 : (blockB p).length = (numW p.length).length + (restB [] p).length := by unfold blockB; rw [List.length_append]
    have h6 := numW_len9 (blockB p).length (by omega)
    have h7 : blkF (p :: ps) = frameM (blockB p) ++ blkF ps := rfl
    rw [h7, List.length_append, frame_len, List.flatten_cons, List.length_append, List.length_cons]
    omega
theorem idx_len : ∀ (ps : List (List CT)) (n : Nat), (∀ p ∈ ps, ∀ c ∈ p, Bc c) → (∀ p ∈ ps, 0 < p.length) → n + (blkF ps).length < 9223372036854775808 → (rowsM (idxL n ps)).length ≤ ps.length * 130 ∧ ∀ x ∈ idxL n ps, x.length ≤ 100
  | [], n, _, _, _ => ⟨by simp [idxL, rowsM], fun x hx => by cases hx⟩
  | p :: ps, n, h, h0, hb => by
    have h7 : blkF (p :: ps) = frameM (blockB p) ++ blkF ps := rfl
    rw [h7, List.length_append] at hb
    obtain ⟨h1, h2⟩ := idx_len ps (n + (frameM (blockB p)).length) (fun q hq => h q (List.mem_cons_of_mem _ hq)) (fun q hq => h0 q (List.mem_cons_of_mem _ hq)) (by omega)
    have h3 : (headK p).length ≤ 100 := by
      have h4 := h0 p List.mem_cons_self
      cases p with
      | nil => cases h4
      | cons c q => exact (bc_tight (h (c :: q) List.mem_cons_self c List.mem_cons_self)).1
    have h5 := numW_len9 (headK p).length (by omega)
    have h6 := numW_len9 n (by omega)
    have h8 := numW_len9 (numW n).length (by omega)
    refine ⟨?_, fun x hx => ?_⟩
    · show (numW (headK p).length ++ (headK p ++ (numW (numW n).length ++ (numW n ++ rowsM (idxL _ ps))))).length ≤ (ps.length + 1) * 130
      simp only [List.length_append]
      omega
    · rcases List.mem_cons.1 hx with rfl | hx
      · exact h3
      · rcases List.mem_cons.1 hx with rfl | hx
        · omega
        · exact h2 x hx

set_option maxRecDepth 100000 in
set_option maxHeartbeats 16000000 in
theorem tbuild_any (v : Value) (l : List CT) (hl : l.length ≤ 120) (w : World) (h : ClA w v l) (hs : ∀ c ∈ l, Sm c) (hL : LaidU w) :
    Calls Tryz.prog 24 #[v] w fun e w' => Below w.heap.size w w' ∧ TbEnd (fineK [] l) l w e w' := by
  have mixed : Tryz.prog.follows .mixedOrders = true := by kernel_rfl
  have HOd : Hid (Calls Tryz.prog 61 #[v] w fun e w' => e = .returned (.bool (fineK [] l)) ∧ Below w.heap.size w w') := ordered_any v l w h (fun c hc => (hs c hc).1) hL
  cases hF : fineK [] l with
  | false =>
    rw [hF] at HOd
    clear hF h hs hL
    go_enter Tryz.func24, Tryz.ntmps24
    go_wp2_with (go_at_call 61; refine HOd.out.mono ?_; rintro e w1 ⟨rfl, hb1⟩)
    go_ret2
    refine ⟨hb1, ?_⟩
    unfold TbEnd; rw [if_neg (by simp)]
    rfl
  | true =>
    rw [hF] at HOd
    have hcut := cuts_all 256 l.length l (Nat.le_refl _) (by omega)
    have hbc0 : ∀ c ∈ l, Bc c := fun c hc => ⟨((fineK_iff l).1 hF).1 c hc, (hs c hc).1.2.2, by have := (hs c hc).2.2.2.2; omega⟩
    have hrise := ((fineK_iff l).1 hF).2
    obtain ⟨ps, hps⟩ : ∃ ps, cutL 256 l = ps := ⟨_, rfl⟩
    rw [hps] at hcut
    obtain ⟨P, hP⟩ : ∃ P, ps.length = P := ⟨_, rfl⟩
    have HPs : Hid (ps.length = P ∧ cutL 256 l = ps) := ⟨hP, hps⟩
    have hmem : ∀ p ∈ ps, ∀ c ∈ p, c ∈ l := fun p hp c hc => by rw [← hcut.flat]; exact List.mem_flatten.2 ⟨p, hp, hc⟩
    have hpl : ∀ p ∈ ps, 0 < p.length ∧ p.length ≤ 120 := fun p hp => by
      obtain ⟨i, hi, e⟩ := List.mem_iff_getElem.1 hp
      have h1 := (hcut.one i p (by rw [List.getElem?_eq_getElem hi, e])).1
      have h2 : p.length ≤ ps.flatten.length := (List.sublist_flatten_of_mem hp).length_le
      rw [hcut.flat] at h2
      exact ⟨h1, by omega⟩
    have hpf : ∀ p ∈ ps, fineK [] p = true := fun p hp => by
      refine (fineK_iff p).2 ⟨fun c hc => (hbc0 c (hmem p hp c hc)).1, ?_⟩
      have h1 : p.Sublist l := by rw [← hcut.flat]; exact List.sublist_flatten_of_mem hp
      exact hrise.sublist h1
    have hPl : P ≤ 120 := by
      have h2 : ∀ (qs : List (List CT)), (∀ p ∈ qs, 0 < p.length) → qs.length ≤ qs.flatten.length := by
        intro qs
        induction qs with
        | nil => intro _; exact Nat.le_refl _
        | cons p qs ih =>
          intro hq
          have h3 := hq p List.mem_cons_self
          have h4 := ih fun q hq2 => hq q (List.mem_cons_of_mem _ hq2)
          rw [List.flatten_cons, List.length_append, List.length_cons]
          omega
      have h5 := h2 ps fun p hp => (hpl p hp).1
      rw [hcut.flat] at h5
      omega
    have HLen : Hid (∀ i, (blkF (ps.take i)).length ≤ 40000) := fun i => by
      have h1 := blkF_len (ps.take i) (fun p hp c hc => hbc0 c (hmem p (List.mem_of_mem_take hp) c hc)) (fun p hp => by have := (hpl p (List.mem_of_mem_take hp)).2; omega)
      have h2 : (ps.take i).flatten.length ≤ ps.flatten.length := by
        conv => rhs; rw [← List.take_append_drop i ps, List.flatten_append, List.length_append]
        omega
      rw [hcut.flat] at h2
      rw [List.length_take] at h1
      omega
    have HIx : Hid ((rowsM (idxL 0 ps)).length ≤ 15600 ∧ ∀ x ∈ idxL 0 ps, x.length ≤ 100) := by
      have h0 := HLen.out P
      rw [← hP, List.take_length] at h0
      have h1 := idx_len ps 0 (fun p hp c hc => hbc0 c (hmem p hp c hc)) (fun p hp => (hpl p hp).1) (by omega)
      exact ⟨by have := h1.1; omega, h1.2⟩
    have HPt : Hid (∀ i x, ps[i]? = some x → 0 < x.length ∧ x.length ≤ 120 ∧ fineK [] x = true ∧ (∀ c ∈ x, Sm c) ∧ ∀ c ∈ x, Bc c) := fun i x hx => by
      have hm := List.mem_of_getElem? hx
      exact ⟨(hpl x hm).1, (hpl x hm).2, hpf x hm, fun c hc => hs c (hmem x hm c hc), fun c hc => hbc0 c (hmem x hm c hc)⟩
    have HCu : Hid (∀ W, Below w.heap.size w W → Calls Tryz.prog 16 #[v, .int .i64 256] W fun e w' => ∃ A c, e = .returned (.slice A P c) ∧ PRow w' W.heap.size (.slice A P c) ps ∧ Below W.heap.size W w') := fun W hW => by
      refine (cut_any v l 256 (by omega) W (h.below hW) (fun c hc => ⟨(hs c hc).1, by have := (hs c hc).2.2.2.2; omega⟩) (hL.below hW)).mono fun e w' ⟨v', he, hr, hb⟩ => ?_
      rw [hps] at hr
      obtain ⟨A, c, rfl⟩ := hr.len
      rw [hP] at he hr
      exact ⟨A, c, he, hr, hb⟩
    have HL := hid hL
    clear hF h hs hL hcut hbc0 hrise hps hP hmem hpl hpf
    go_enter Tryz.func24, Tryz.ntmps24
    go_wp2_with (first
      | (go_at_call 61; refine HOd.out.mono ?_; rintro e w1 ⟨rfl, hb1⟩; have HB1 := hid hb1; clear hb1)
      | (go_at_call 16; refine (HCu.out _ HB1.out).mono ?_; rintro e w2 ⟨Ac, cc, rfl, hp2, hb2⟩; have HB2 := hid (HB1.out.trans (hb2.mono HB1.out.size)); have HP2 := hid hp2; clear hp2 hb2))
    have HT0 : Hid (TbS w2 w2 (.slice none 0 0) [] (.slice none 0 0) (idxL 0 (ps.take 0))) := ⟨Below.refl _ _, Row.none _ _, fun _ => rfl, [], World.ownsRow_nil _ _ _ _, fun i x hx => by rw [List.take_zero] at hx; cases hx⟩
    go_loopw [4, 5, 22] (fun vb vp vi wr => ∃ (i : Nat) (Ab Ap : Option Addr) (cb nb cp np : Nat), i ≤ P ∧ vi = .int .i64 i ∧ vb = .slice Ab nb cb ∧ vp = .slice Ap np cp ∧ Hid ((blkF (ps.take i)).length = nb) ∧ Hid ((idxL 0 (ps.take i)).length = np) ∧ Hid (TbS w2 wr (.slice Ab nb cb) (blkF (ps.take i)) (.slice Ap np cp) (idxL 0 (ps.take i)))) (fun _ _ vi _ => P - (intOf vi).toNat)
    case atStart => exact ⟨0, none, none, 0, 0, 0, 0, Nat.zero_le _, rfl, rfl, rfl, by rw [List.take_zero]; rfl, by rw [List.take_zero]; rfl, by rw [List.take_zero] at HT0 ⊢; exact HT0.out⟩
    case round =>
      clear HT0
      obtain ⟨i, Ab, Ap, cb, nb, cp, np, hi, rfl, rfl, rfl, HNb, HNp, HT⟩ := hrel
      by_cases hlt : i < P
      · have hltz : (i : Int) < (P : Int) := by omega
        obtain ⟨x, hx⟩ : ∃ x, ps[i]? = some x := ⟨_, List.getElem?_eq_getElem (by rw [HPs.out.1]; exact hlt)⟩
        obtain ⟨q1, q2, q3, q4, q5⟩ := HPt.out i x hx
        obtain ⟨gp, Au, cu, ea, p1, p2, p3⟩ := prowt_at HP2.out hx
        subst ea
        have HU2 := hid p2
        obtain ⟨c0, hc0⟩ : ∃ c0, x[0]? = some c0 := ⟨_, List.getElem?_eq_getElem q1⟩
        have hcm := List.mem_of_getElem? hc0
        have HHk : Hid (headK x = keyL c0) := by
          cases x with
          | nil => cases hc0
          | cons y r =>
            obtain rfl : y = c0 := by simpa using hc0
            rfl
        have HTk : Hid (ps.take (i + 1) = ps.take i ++ [x]) := by show _ = _; rw [List.take_add_one, hx]; rfl
        have g1 : wr.cell? ⟨gp, i, none⟩ = some (.slice Au x.length cu) := (HT.out.bel.cell (p := ⟨gp, i, none⟩) p3).trans p1
        obtain ⟨_, _, e1, hm1, hm2, hm3⟩ := p2
        injection e1 with e1 e2 e3
        subst e1 e3
        obtain ⟨bu, ou, rfl, hhc⟩ := hm3 q1
        have P0 := ct_words (hhc.below HT.out.bel (hhc.lt q1)) 0 hc0
        rw [Nat.zero_mul, Nat.add_zero] at P0
        obtain ⟨a0, a1, a2, a3, a4, a5, a6, a7⟩ := P0
        obtain ⟨xl, hxl⟩ : ∃ xl, x.length = xl := ⟨_, rfl⟩
        have HXl := hid hxl
        rw [hxl] at g1 q1 q2 hm1 HU2
        have hq1z : (0 : Int) < (xl : Int) := by omega
        obtain ⟨kl, hkl⟩ : ∃ kl, (keyL c0).length = kl := ⟨_, rfl⟩
        have HKy : Hid (∀ W, Below w.heap.size w W → Calls Tryz.prog 39 #[c0.v] W fun e w' => ∃ gk ck, e = .returned (.tuple #[.slice (some ⟨gk, 0, none⟩) kl ck, .bool true]) ∧ Hid (Row w' W.heap.size (.slice (some ⟨gk, 0, none⟩) kl ck) (keyL c0) ∧ Below W.heap.size W w')) := fun W hW => by
          refine (keyc_yes c0 (q4 c0 hcm).1 (q5 c0 hcm).1 W (HL.out.below hW)).mono fun e w' ⟨v, he, hr, hb⟩ => ?_
          obtain ⟨gk, ck, rfl, hG⟩ := hr.toG (keyL_pos c0)
          rw [hkl] at he hr
          exact ⟨gk, ck, he, hr, hb⟩
        have hnb : nb ≤ 40000 := by rw [← HNb.out]; exact HLen.out i
        obtain ⟨N, hN⟩ : ∃ N, numW nb = N := ⟨_, rfl⟩
        have HNN := hid hN
        have HNm : Hid (∀ W, Calls Tryz.prog 38 #[.int .i64 (nb : Int)] W fun e w' => ∃ gn cn, e = .returned (.slice (some ⟨gn, 0, none⟩) N.length cn) ∧ Hid (Row w' W.heap.size (.slice (some ⟨gn, 0, none⟩) N.length cn) N ∧ Below W.heap.size W w')) := fun W => by
          rw [← hN]
          refine (num_any nb (by omega) W).mono fun e w' ⟨v, he, hr, hb⟩ => ?_
          obtain ⟨gn, cn, rfl, hG⟩ := hr.toG (numW_pos nb)
          exact ⟨gn, cn, he, hr, hb⟩
        have HBu : Hid (∀ (W : World) (u : Value), Below w.heap.size w W → ClA W u x → Calls Tryz.prog 12 #[u] W fun e w' => ∃ v', e = .returned (.tuple #[v', .bool true]) ∧ Hid (Row w' W.heap.size v' (blockB x) ∧ Below W.heap.size W w')) := fun W u hW hu => by
          refine (build_any u x (by omega) W hu q4 (HL.out.below hW)).mono fun e w' ⟨hb, hx⟩ => ?_
          unfold BuEnd at hx
          rw [if_pos q3] at hx
          obtain ⟨v', he, hr⟩ := hx
          exact ⟨v', he, hr, hb⟩
        have hbl : (blockB x).length ≤ 50000 := block_len q5 (by omega)
        obtain ⟨fl, hfl⟩ : ∃ fl, (frameM (blockB x)).length = fl := ⟨_, rfl⟩
        have hfl6 : fl ≤ 60000 := by
          have h1 := numW_len9 (blockB x).length (by omega)
          rw [← hfl, frame_len]
          omega
        have hfl0 : 0 < fl := by rw [← hfl, frame_len]; omega
        have HFl := hid hfl
        have HFr : Hid (∀ (W : World) (u : Value), Row W W.heap.size u (blockB x) ∨ SlA W u (blockB x) → Calls Tryz.prog 62 #[u] W fun e w' => ∃ gf cf, e = .returned (.tuple #[.slice (some ⟨gf, 0, none⟩) fl cf, .bool true]) ∧ Hid (RowG w' W.heap.size gf cf (frameM (blockB x)) ∧ Below W.heap.size W w')) := fun W u hu => by
          have hu2 : SlA W u (blockB x) := by rcases hu with hu | hu; exact hu.sla; exact hu
          refine (frame_any u (blockB x) (by omega) W hu2).mono fun e w' ⟨v', he, hr, hb⟩ => ?_
          obtain ⟨gf, cf, rfl, hG⟩ := hr.toG (by rw [hfl]; exact hfl0)
          rw [hfl] at he
          exact ⟨gf, cf, he, hG, hb⟩
        clear hx q3 q4 q5 p1 p3 e2 hm3 hhc hxl hkl hN hfl hbl hc0 hcm
        go_upto_region 9 with (go_at_call 39; refine (HKy.out _ (HB2.out.trans (HT.out.bel.mono HB2.out.size))).mono ?_; rintro e w3 ⟨gk, ck, rfl, hk3⟩; have HK3 := hid hk3.out.1; have HW3 := hid hk3.out.2; have HT3 := hid (HT.out.below hk3.out.2); clear hk3)
        clear a0 a1 a2 a3 a4 a5 a6 a7
        go_upto_region 10 with (first
          | (go_at_call 38; refine (HNm.out _).mono ?_; rintro e w4 ⟨gn, cn, rfl, hn4⟩; have HN4 := hid (And.intro (hn4.out.1.le HW3.out.size) (HK3.out.keep hn4.out.2 HK3.out.block_lt)); have HT4 := hid (HT3.out.below hn4.out.2); clear hn4)
          | (at_builtin; have hTa := HT4.out.below (below_new w4 (.cells #[.slice (some ⟨gk, 0, none⟩) kl ck, .slice (some ⟨gn, 0, none⟩) N.length cn] 30)); obtain ⟨vs4, ho4, hx4⟩ := hTa.pr; have ho5 := ho4; rw [HNp.out] at ho5; refine wpList_append_two rfl (.tmp 33) (.tmp 38) rfl _ w2.heap.size _ np vs4 rfl ho5 w4.heap.size 2 (.slice (some ⟨gk, 0, none⟩) kl ck) (.slice (some ⟨gn, 0, none⟩) N.length cn) rfl (by simp) (by simp) rfl rfl (by have := HNp.out; rw [idxL_len] at this; have := List.length_take_le i ps; have := HPs.out.1; omega) (by have := HT4.out.bel.size; simp; omega) ?_; intro gp5 cp5 w5 hr5 hb5 hg5; rw [← HNp.out] at hr5; have HT5 := hid (hTa.more ho4 hx4 (HN4.out.2.alloc _) (HN4.out.1.alloc _) (fun k hk => HT.out.b.block_lt k hk) HT.out.bel.size hr5 hg5 (hTa.bel.trans hb5)); rw [HNp.out] at HT5; clear hTa ho4 hx4 ho5 hr5 hb5 hg5))
        go_wp2_with (first
          | (go_at_call 12; refine (HBu.out _ (.slice (some ⟨bu, ou, none⟩) xl cu) (HB2.out.trans (HT5.out.bel.mono HB2.out.size)) (HU2.out.below HT5.out.bel)).mono ?_; rintro e w6 ⟨vf, rfl, hf6⟩; have HF6 := hid hf6.out.1.sla; have HT6 := hid (HT5.out.below hf6.out.2); clear hf6)
          | (go_at_call 62; refine (HFr.out _ _ (.inr HF6.out)).mono ?_; rintro e w7 ⟨gf, cf, rfl, hg7⟩; have HG7 := hid hg7.out.1; have HT7 := hid (HT6.out.below hg7.out.2); clear hg7)
          | (at_builtin; refine wpList_append_n rfl (.tmp 50) (.tmp 51) rfl _ w2.heap.size _ (blkF (ps.take i)) rfl HT7.out.b HT7.out.nil gf 0 fl cf (frameM (blockB x)) HFl.out.symm rfl (by have := HFl.out; omega) HG7.out.holds (by have := HFl.out; have := HLen.out i; omega) HT7.out.bel.size ?_; intro Ab8 cb8 w8 nb8 hn8 hr8 hg8 hd8; have HT8 := hid (HT7.out.bytes hr8 (by have := HFl.out; rw [List.length_append]; omega) hg8 hd8 (HT7.out.bel.grown hg8 HT7.out.bel.size (fun k hk => (World.ownsRow.lt HT7.out.b k hk).1))); clear hr8 hg8 hd8))
        go_roundw
        case rel =>
          have ho : blkF (ps.take i) ++ frameM (blockB x) = blkF (ps.take (i + 1)) := by rw [HTk.out, blkF_snoc]
          have hi2 : idxL 0 (ps.take i) ++ [keyL c0, N] = idxL 0 (ps.take (i + 1)) := by
            rw [HTk.out, idxL_snoc, Nat.zero_add, HNb.out, HNN.out, HHk.out]
          have h8 := HT8.out
          have h9 := hn8.out
          rw [ho, hi2] at h8
          rw [ho] at h9
          refine ⟨i + 1, _, _, _, _, _, _, by omega, by go_num, rfl, rfl, hid h9, ?_, hid h8⟩
          refine hid ?_
          rw [← hi2, List.length_append, HNp.out]; rfl
        case measure => simp only [intOf]; omega
      · obtain rfl : i = P := by omega
        have htp : ps.take i = ps := by rw [← HPs.out.1, List.take_length]
        rw [htp] at HNb HNp HT
        have hnb : nb ≤ 40000 := by have h1 := HLen.out i; rw [htp, HNb.out] at h1; exact h1
        have HLi : Hid (∀ W, TbS w2 W (.slice Ab nb cb) (blkF ps) (.slice Ap np cp) (idxL 0 ps) → Calls Tryz.prog 63 #[.slice Ap np cp] W fun e w' => ∃ v', e = .returned v' ∧ Hid (SlA w' v' (listM (idxL 0 ps)) ∧ Below W.heap.size W w')) := fun W hW => by
          refine (list_any _ (idxL 0 ps) (by rw [idxL_len, HPs.out.1]; omega) (by have := HIx.out.1; omega) W hW.lsb.lsb).mono fun e w' ⟨v', he, hr, hb⟩ => ⟨v', he, hr.sla, hb⟩
        have hll : (listM (idxL 0 ps)).length ≤ 16000 := by
          have h1 := HIx.out.1
          have h2 := numW_len9 (idxL 0 ps).length (by rw [idxL_len, HPs.out.1]; omega)
          show (numW (idxL 0 ps).length ++ rowsM (idxL 0 ps)).length ≤ _
          rw [List.length_append]; omega
        have HFi : Hid (∀ W u, SlA W u (listM (idxL 0 ps)) → Calls Tryz.prog 62 #[u] W fun e w' => ∃ v', e = .returned (.tuple #[v', .bool true]) ∧ Hid (SlA w' v' (frameM (listM (idxL 0 ps))) ∧ Below W.heap.size W w')) := fun W u hu => by
          refine (frame_any u _ (by omega) W hu).mono fun e w' ⟨v', he, hr, hb⟩ => ⟨v', he, hr.sla, hb⟩
        have HBo : Hid (∀ W, Calls Tryz.prog 65 #[.int .i64 (nb : Int)] W fun e w' => ∃ v', e = .returned v' ∧ Hid (SlA w' v' (byW 8 (blkF ps).length) ∧ Below W.heap.size W w')) := fun W => by
          rw [HNb.out]
          exact (bytesof_any nb (by omega) W).mono fun e w' ⟨v', he, hr, hb⟩ => ⟨v', he, hr.sla, hb⟩
        have HC : Hid (∀ (W : World) (v2 v3 : Value), SlA W (.slice Ab nb cb) (blkF ps) → SlA W v2 (frameM (listM (idxL 0 ps))) → SlA W v3 (byW 8 (blkF ps).length) → w.heap.size ≤ W.heap.size →
            Calls Tryz.prog 64 #[.slice (some ⟨W.heap.size, 0, none⟩) 3 3] (W.alloc (.cells #[.slice Ab nb cb, v2, v3] 30)) fun e w' => ∃ v, e = .returned v ∧ Hid (Row w' w.heap.size v (tabB ps) ∧ Below w.heap.size (W.alloc (.cells #[.slice Ab nb cb, v2, v3] 30)) w')) := by
          intro W v2 v3 q1 q2 q3 hs
          obtain ⟨A1, A2, A3, c1, c2, c3, hC⟩ := c3_new W _ v2 v3 _ _ _ q1 q2 q3 30
          have hnl : (numW (listM (idxL 0 ps)).length).length ≤ 9 := numW_len9 _ (by omega)
          refine (concat3 W.heap.size A1 A2 A3 c1 c2 c3 _ _ _ (by rw [byW_len, frame_len]; have := HNb.out; omega) _ hC).mono fun e w' ⟨v, he, hR, hb⟩ => ⟨v, he, ?_, hb.mono (by simp; omega)⟩
          unfold tabB
          rw [← List.append_assoc]
          exact hR.le (by simp; omega)
        clear HPt HLen HIx hnb hll
        go_wp2_with (first
          | (go_at_call 63; refine (HLi.out _ HT.out).mono ?_; rintro e w3 ⟨v3, rfl, h3⟩; have HT3 := hid (HT.out.below h3.out.2); have HR3 := hid h3.out.1; clear h3)
          | (go_at_call 62; refine (HFi.out _ _ HR3.out).mono ?_; rintro e w4 ⟨v4, rfl, h4⟩; have HT4 := hid (HT3.out.below h4.out.2); have HR4 := hid h4.out.1; obtain ⟨A4, c4, rfl, _⟩ := h4.out.1; clear h4)
          | (go_at_call 65; refine (HBo.out _).mono ?_; rintro e w5 ⟨v5, rfl, h5⟩; have HT5 := hid (HT4.out.below h5.out.2); have HR5 := hid (And.intro (HR4.out.below h5.out.2) h5.out.1); obtain ⟨A5, c5, rfl, _⟩ := h5.out.1; clear h5)
          | (go_at_call 64; refine (HC.out w5 _ _ HT5.out.b.sla HR5.out.1 HR5.out.2 (Nat.le_trans HB2.out.size HT5.out.bel.size)).mono ?_; rintro e w6 ⟨v6, rfl, h6⟩))
        go_ret2
        refine ⟨((HB2.out.trans (HT5.out.bel.mono HB2.out.size)).alloc (Nat.le_trans HB2.out.size HT5.out.bel.size) _).trans h6.out.2, ?_⟩
        unfold TbEnd; rw [if_pos rfl, HPs.out.2]
        exact ⟨_, rfl, h6.out.1⟩
end Go.Proofs.YtjbjdkginemedaaGreatDoor
