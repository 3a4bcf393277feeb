/- Several texts in one: NVa NV NW. Conditions: as each theorem names them. -/
import Derived.Test.YtfcnobcpnhfgmaaGreatDoorQ4
import Derived.Test.YtfcnobcpnhfgmaaGreatDoorQ2
import Derived.Test.YtfcnobcpnhfgmaaGreatDoorQ9
import Derived.Test.YtfcnobcpnhfgmaaGreatDoorII
import Derived.Deep.RegionHeld3
import Derived.RegionTactic
import Derived.Test.YtfcnobcpnhfgmaaGreatDoorNR
import Derived.Test.YtfcnobcpnhfgmaaGreatDoorQI
import Derived.Deep.QuietTactic
import Derived.BigQuiet
/- The document's CopyBytes and Num at any bytes. Conditions: the slices hold their bytes, a million at most. -/
namespace Go.Proofs.YtfcnobcpnhfgmaaGreatDoor
open Go.RowKit

theorem empty_rowd (W : World) (B : Nat) (hB : B ≤ W.heap.size) : Row (W.alloc (.cells #[] 5)) B (.slice (some ⟨W.heap.size, 0, none⟩) 0 0) [] := Row.new W B hB [] (by unfold maxLen; simp)
theorem sla_had {w : World} {A : Option Addr} {c : Nat} {l : List UInt8} (h : SlA w (.slice A l.length c) l) : HoldsA w A l := by
  obtain ⟨A', c', e, _, _, h4, _⟩ := h
  injection e with e1
  subst e1
  exact h4
set_option maxHeartbeats 1000000 in
theorem copyd_any (v : Value) (l : List UInt8) (hl : l.length ≤ 1000000) (w : World) (h : SlA w v l) :
    Calls Tryz.prog 58 #[v] w fun e w' => ∃ v', e = .returned v' ∧ Row w' w.heap.size v' l ∧ Below w.heap.size w w' := by
  have HS := hid h
  obtain ⟨A, c, rfl, _⟩ := h
  have HR := hid (empty_rowd w w.heap.size (Nat.le_refl _))
  have HL := hid hl
  clear hl
  go_enter Tryz.func58, Tryz.ntmps58
  go_wp2_with (at_builtin; refine wpList_append_any rfl (.tmp 5) (.tmp 6) rfl rfl _ w.heap.size _ [] rfl HR.out A c l rfl (sla_had (HS.out.below (below_new w _))) (by have := HL.out; simp only [List.length_nil]; omega) (by simp) ?_; intro v' w' hR' hb')
  go_ret
  exact ⟨_, rfl, hR', (below_new w _).trans hb'⟩

set_option maxRecDepth 100000 in
set_option maxHeartbeats 2000000 in
theorem refnumd_any (n : Nat) (hn : n < 9223372036854775808) (w : World) :
    Calls Tryz.prog 45 #[.int .i64 n] w fun e w' => ∃ v, e = .returned v ∧ Row w' w.heap.size v (numW n) ∧ Below w.heap.size w w' := by
  have hlen := hid (numW_len9 n hn)
  have HR := hid (empty_rowd w w.heap.size (Nat.le_refl _))
  obtain ⟨y, hy⟩ : ∃ y : Int, (n : Int) = y := ⟨_, rfl⟩
  have HY := hid (And.intro hy.symm hn)
  rw [hy]
  have H0 : 0 ≤ y := by omega
  clear hy hn
  go_enter Tryz.func45, Tryz.ntmps45
  go_wp2
  go_loopw [0, 3] (fun vn va wr => ∃ (m : Nat) (x : Int) (pre : List UInt8), Hid (x = (m : Int) ∧ m < 9223372036854775808) ∧ 0 ≤ x ∧ vn = .int .i64 x ∧ Hid (numW n = pre ++ numW m) ∧ Row wr w.heap.size va pre ∧ Below w.heap.size w wr) (fun vn _ _ => (intOf vn).toNat)
  case atStart => exact ⟨n, y, [], HY, H0, rfl, rfl, HR.out, below_new w _⟩
  case round =>
    obtain ⟨m, x, pre, HX, h0, rfl, HP, hR, hb⟩ := hrel
    have hpl : pre.length ≤ 9 := by have h1 := hlen.out; have h2 := congrArg List.length HP.out; rw [List.length_append] at h2; omega
    have HPL := hid hpl
    have HR2 := hid hR
    have hbs := hb.size
    clear hR hpl
    by_cases h128 : x < 128
    · have HE : Hid (x = ((UInt8.ofNat m).toNat : Int)) := by unfold Hid; have := HX.out; rw [UInt8.toNat_ofNat']; omega
      have HN : Hid (numW m = [UInt8.ofNat m]) := numW_small (by have := HX.out; omega)
      go_wp2_with (at_builtin; refine wpList_append_bytes rfl (.tmp 19) (.tmp 22) rfl _ w.heap.size _ pre rfl (HR2.out.alloc _) ⟨wr.heap.size, 0, none⟩ 1 1 [UInt8.ofNat m] rfl rfl (one_new' _ _ _ _ HE.out) (by have := HPL.out; simp only [List.length_cons, List.length_nil]; omega) (by simp; omega) ?_; intro v' w' hR' hb')
      go_ret
      refine ⟨_, rfl, ?_, (hb.alloc hbs _).trans hb'⟩
      rw [HP.out, HN.out]
      exact hR'
    · have HE : Hid (128 + x % 128 = ((UInt8.ofNat (128 + m % 128)).toNat : Int)) := by unfold Hid; have := HX.out; rw [UInt8.toNat_ofNat']; omega
      have HN : Hid (numW m = UInt8.ofNat (128 + m % 128) :: numW (m / 128)) := numW_big (by have := HX.out; omega)
      have HD : Hid (wrap64 (x.tdiv 128) = x / 128) := by
        unfold Hid
        have := HX.out
        rw [Int.tdiv_eq_ediv_of_nonneg h0]
        unfold wrap64
        omega
      go_wp2_with (at_builtin; refine wpList_append_bytes rfl (.tmp 10) (.tmp 15) rfl _ w.heap.size _ pre rfl (HR2.out.alloc _) ⟨wr.heap.size, 0, none⟩ 1 1 [UInt8.ofNat (128 + m % 128)] rfl rfl (one_new' _ _ _ _ HE.out) (by have := HPL.out; simp only [List.length_cons, List.length_nil]; omega) (by simp; omega) ?_; intro v' w' hR' hb')
      go_roundw
      case rel =>
        refine ⟨m / 128, x / 128, pre ++ [UInt8.ofNat (128 + m % 128)], ?_, by omega, congrArg (Value.int .i64) HD.out, ?_, hR', (hb.alloc hbs _).trans hb'⟩
        · unfold Hid; have := HX.out; omega
        · unfold Hid; rw [HP.out, HN.out, List.append_assoc]; rfl
      case measure => rw [HD.out]; simp [intOf]; omega
end Go.Proofs.YtfcnobcpnhfgmaaGreatDoor

/- The document's Fine of layer 8 at every list of cells. Conditions: the argument stands, its texts are short, its numbers are of 64 bits. -/
namespace Go.Proofs.YtfcnobcpnhfgmaaGreatDoor
open Go.RowKit

/-- A cell that the document's functions are told of. -/
def Dc (c : CT) : Prop := c.r.size ≤ 1000 ∧ c.f.size ≤ 1000 ∧ c.q.size ≤ 1000 ∧ c.s.size ≤ 1000 ∧ inI c.vn
theorem Sm.dc {c : CT} (h : Sm c) : Dc c := by
  obtain ⟨⟨_, _, h3⟩, h4, h5, h6, h7⟩ := h
  exact ⟨by omega, by omega, by omega, by omega, h3⟩
theorem Bc.dc {c : CT} (h : Bc c) : Dc c := by
  obtain ⟨_, h2, _, h4, h5, _⟩ := cright_parts h.1
  have e1 : c.r.data.toList.length = c.r.size := rfl
  have e2 : c.f.data.toList.length = c.f.size := rfl
  have e3 : c.q.data.toList.length = c.q.size := rfl
  have := h.2.2
  exact ⟨by omega, by omega, by omega, by omega, h.2.1⟩
theorem dorder_any (x y : CT) (hx : Dc x) (hy : Dc y) (w : World) :
    Calls Tryz.prog 31 #[x.v, y.v] w fun e w' => e = .returned (.int .i64 (CT.cmp x y)) ∧ Below w.heap.size w w' := by
  obtain ⟨h1, h2, h3, _⟩ := hx
  obtain ⟨g1, g2, g3, _⟩ := hy
  exact refcorder_any x.r x.f x.q x.s x.t x.k x.vk x.vn y.r y.f y.q y.s y.t y.k y.vk y.vn (by omega) (by omega) (by omega) (by omega) (by omega) (by omega) w
theorem dright_any (c : CT) (h : Dc c) (w : World) : Calls Tryz.prog 82 #[c.v] w fun e w' => e = .returned (.bool c.ok) ∧ Below w.heap.size w w' :=
  refcright_any c.r c.f c.q c.s c.t c.k c.vk c.vn (by have := h.2.1; omega) (by have := h.2.2.2.1; omega) w

/-- Where Fine is: so many cells are right and rise; what is to be said hangs on the others. -/
structure FinI (l : List CT) (F : Bool) (i : Nat) : Prop where
  ok : ∀ (j : Nat) (c : CT), j < i → l[j]? = some c → c.ok = true
  eq : F = fineK (lastK [] (l.take i)) (l.drop i)
theorem fini_zero (l : List CT) : FinI l (fineK [] l) 0 := ⟨fun j c h => by omega, rfl⟩
theorem fini_no {l : List CT} {F : Bool} {i : Nat} {y : CT} (h : FinI l F i) (hy : l[i]? = some y) (ho : y.ok = false) : F = false := by
  obtain ⟨hi, e⟩ := List.getElem?_eq_some_iff.1 hy
  rw [h.eq, List.drop_eq_getElem_cons hi, e, fineK, ho]
  rfl
theorem fini_next {l : List CT} {F : Bool} {i : Nat} {y : CT} (h : FinI l F i) (hy : l[i]? = some y) (ho : y.ok = true) (hl : Lib.compareBytes (lastK [] (l.take i)) (keyL y) < 0) : FinI l F (i + 1) := by
  obtain ⟨hi, e⟩ := List.getElem?_eq_some_iff.1 hy
  refine ⟨fun j c hj hc => ?_, ?_⟩
  · rcases Nat.lt_or_ge j i with q | q
    · exact h.ok j c q hc
    · obtain rfl : j = i := by omega
      rw [hy] at hc
      cases hc
      exact ho
  · rw [h.eq, List.drop_eq_getElem_cons hi, e, fineK, ho, decide_eq_true hl, List.take_add_one, hy]
    show fineK (keyL y) (l.drop (i + 1)) = fineK (lastK [] (l.take i ++ [y])) (l.drop (i + 1))
    rw [lastK_snoc]
theorem fini_last {l : List CT} {k : Nat} {x : CT} (hx : l[k]? = some x) : lastK [] (l.take (k + 1)) = keyL x := by
  rw [List.take_add_one, hx]
  exact lastK_snoc _ _ _
theorem fini_ge {l : List CT} {F : Bool} {k : Nat} {x y : CT} (h : FinI l F (k + 1)) (hx : l[k]? = some x) (hy : l[k + 1]? = some y) (ho : y.ok = true) (hc : ¬ CT.cmp x y < 0) : F = false := by
  obtain ⟨hi, e⟩ := List.getElem?_eq_some_iff.1 hy
  rw [h.eq, List.drop_eq_getElem_cons hi, e, fineK, fini_last hx, key_cmp (h.ok k x (by omega) hx) ho, decide_eq_false hc]
  simp
theorem fini_lt {l : List CT} {F : Bool} {k : Nat} {x y : CT} (h : FinI l F (k + 1)) (hx : l[k]? = some x) (hy : l[k + 1]? = some y) (ho : y.ok = true) (hc : CT.cmp x y < 0) : FinI l F (k + 1 + 1) :=
  fini_next h hy ho (by rw [fini_last hx, key_cmp (h.ok k x (by omega) hx) ho]; exact hc)
theorem fini_all {l : List CT} {F : Bool} (h : FinI l F l.length) : F = true := by
  rw [h.eq, List.drop_length]
  rfl

set_option maxRecDepth 100000 in
set_option maxHeartbeats 8000000 in
theorem reffine_any (v : Value) (l : List CT) (w : World) (h : ClA w v l) (hs : ∀ c ∈ l, Dc c) :
    Calls Tryz.prog 44 #[v] w fun e w' => e = .returned (.bool (fineK [] l)) ∧ Below w.heap.size w w' := by
  have mixed : Tryz.prog.follows .mixedOrders = true := by kernel_rfl
  have HV := hid h
  obtain ⟨A, cap, rfl, hc1, hc2, hh⟩ := h
  have HH := hid hh
  clear hh
  obtain ⟨m, hm⟩ : ∃ m, l.length = m := ⟨_, rfl⟩
  have HM := hid hm
  rw [hm] at HV hc1 ⊢
  clear hm
  have HRt : Hid (∀ c ∈ l, ∀ W, Calls Tryz.prog 82 #[c.v] W fun e w' => e = .returned (.bool c.ok) ∧ Below W.heap.size W w') := fun c hc W => dright_any c (hs c hc) W
  have HOr : Hid (∀ x ∈ l, ∀ y ∈ l, ∀ W, Calls Tryz.prog 31 #[x.v, y.v] W fun e w' => e = .returned (.int .i64 (CT.cmp x y)) ∧ Below W.heap.size W w') := fun x hx y hy W => dorder_any x y (hs x hx) (hs y hy) W
  have HF0 := hid (fini_zero l)
  obtain ⟨F, hF⟩ : ∃ F, fineK [] l = F := ⟨_, rfl⟩
  rw [hF] at HF0 ⊢
  clear hF hs
  go_enter Tryz.func44, Tryz.ntmps44
  go_wp2
  go_loopw [3] (fun vi wr => ∃ i : Nat, i ≤ m ∧ vi = .int .i64 i ∧ Hid (Below w.heap.size w wr) ∧ Hid (FinI l F i)) (fun vi _ => m - (intOf vi).toNat)
  case atStart => exact ⟨0, Nat.zero_le _, rfl, Below.refl _ _, HF0.out⟩
  case round =>
    obtain ⟨i, hi, rfl, HB, HI⟩ := hrel
    by_cases hlt : i < m
    · have him : i < l.length := by rw [HM.out]; exact hlt
      obtain ⟨b, off, rfl, hhc⟩ := HH.out (by omega)
      have hbw : b < w.heap.size := hhc.lt (by omega)
      obtain ⟨y, hy⟩ : ∃ y, l[i]? = some y := ⟨_, List.getElem?_eq_getElem him⟩
      have HRy0 := hid (HRt.out y (List.mem_of_getElem? hy))
      cases hok : y.ok with
      | false =>
        have hltz : (i : Int) < (m : Int) := by omega
        obtain rfl : F = false := fini_no HI.out hy hok
        have HRy : Hid (∀ W, Calls Tryz.prog 82 #[y.v] W fun e w' => e = .returned (.bool false) ∧ Below W.heap.size W w') := by rw [← hok]; exact HRy0.out
        have P := ct_words (hhc.below HB.out hbw) i hy
        have HT : Hid (SingW wr b (off + i * 8) y wr) := ⟨hid ⟨Below.refl _ _, Nat.lt_of_lt_of_le hbw HB.out.size⟩, P⟩
        obtain ⟨y0, y1, y2, y3, y4, y5, y6, y7⟩ := P
        clear hhc hy him hlt hok HRy0
        go_upto_region 4 with (fail)
        refine wp_region_held_drew (S := (fun W' => Hid (Below wr.heap.size wr W' ∧ b < wr.heap.size) ∧ (W'.cell? ⟨b, off + i * 8, none⟩ = some (.string y.r) ∧ W'.cell? ⟨b, off + i * 8 + 1, none⟩ = some (.string y.f) ∧ W'.cell? ⟨b, off + i * 8 + 2, none⟩ = some (.string y.q) ∧ W'.cell? ⟨b, off + i * 8 + 3, none⟩ = some (.int .i64 y.t) ∧ W'.cell? ⟨b, off + i * 8 + 4, none⟩ = some (.int .i64 y.k) ∧ W'.cell? ⟨b, off + i * 8 + 5, none⟩ = some (.int .i64 y.vk) ∧ W'.cell? ⟨b, off + i * 8 + 6, none⟩ = some (.int .i64 y.vn) ∧ W'.cell? ⟨b, off + i * 8 + 7, none⟩ = some (.string y.s)))) (by kernel_rfl) ?_ (fun hHeld => ?_)
        (exact sing_drew HT.out)
        (refine wpAnyH_take (i := 0) (v := ?_) rfl (by kernel_rfl) (by kernel_rfl) (by kernel_rfl) (fun _ _ _ h => h) (Or.inl ⟨by kernel_rfl, ?_⟩) (by assumption) ?_; rotate_left; · (intro w hSw; (try dsimp only at hSw); go_simp; first | done | with_reducible rfl))
        (try simp only [Act.put]); (try simp only [List.getElem_toArray]); (try simp only [List.getElem_cons_succ]); (try simp only [List.getElem_cons_zero]); (try simp only [List.setIfInBounds_toArray]); (try simp only [List.set_cons_succ]); (try simp only [List.set_cons_zero])
        (refine wpAnyH_take (i := 1) (v := ?_) rfl (by kernel_rfl) (by kernel_rfl) (by kernel_rfl) (fun _ _ _ h => h) (Or.inl ⟨by kernel_rfl, ?_⟩) (by assumption) ?_; rotate_left; · (intro w hSw; (try dsimp only at hSw); go_simp; first | done | with_reducible rfl))
        (try simp only [Act.put]); (try simp only [List.getElem_toArray]); (try simp only [List.getElem_cons_succ]); (try simp only [List.getElem_cons_zero]); (try simp only [List.setIfInBounds_toArray]); (try simp only [List.set_cons_succ]); (try simp only [List.set_cons_zero])
        (refine wpAnyH_take (i := 2) (v := ?_) rfl (by kernel_rfl) (by kernel_rfl) (by kernel_rfl) (fun _ _ _ h => h) (Or.inl ⟨by kernel_rfl, ?_⟩) (by assumption) ?_; rotate_left; · (intro w hSw; (try dsimp only at hSw); go_simp; first | done | with_reducible rfl))
        (try simp only [Act.put]); (try simp only [List.getElem_toArray]); (try simp only [List.getElem_cons_succ]); (try simp only [List.getElem_cons_zero]); (try simp only [List.setIfInBounds_toArray]); (try simp only [List.set_cons_succ]); (try simp only [List.set_cons_zero])
        (refine wpAnyH_take (i := 3) (v := ?_) rfl (by kernel_rfl) (by kernel_rfl) (by kernel_rfl) (fun _ _ _ h => h) (Or.inl ⟨by kernel_rfl, ?_⟩) (by assumption) ?_; rotate_left; · (intro w hSw; (try dsimp only at hSw); go_simp; first | done | with_reducible rfl))
        (try simp only [Act.put]); (try simp only [List.getElem_toArray]); (try simp only [List.getElem_cons_succ]); (try simp only [List.getElem_cons_zero]); (try simp only [List.setIfInBounds_toArray]); (try simp only [List.set_cons_succ]); (try simp only [List.set_cons_zero])
        (refine wpAnyH_ready (rs := [4]) (by kernel_rfl) (by simp) (AllReadyH.cons rfl (fun K hK => ?_) AllReadyH.nil); go_simp; (go_at_call 82; refine (HRy.out _).mono ?_; rintro e w5 ⟨rfl, hb5⟩); refine hK.out _ _ ?_ (fun hHeld => ?_))
        · exact sing_call (by assumption) hb5
        clear hK K
        (try simp only [Act.put]); (try simp only [List.getElem_toArray]); (try simp only [List.getElem_cons_succ]); (try simp only [List.getElem_cons_zero]); (try simp only [List.setIfInBounds_toArray]); (try simp only [List.set_cons_succ]); (try simp only [List.set_cons_zero])
        (refine wpAnyH_take (i := 5) (v := ?_) rfl (by kernel_rfl) (by kernel_rfl) (by kernel_rfl) (fun _ _ _ h => h) (Or.inl ⟨by kernel_rfl, ?_⟩) (by assumption) ?_; rotate_left; · (intro w hSw; (try dsimp only at hSw); go_simp; first | done | with_reducible rfl))
        (try simp only [Act.put]); (try simp only [List.getElem_toArray]); (try simp only [List.getElem_cons_succ]); (try simp only [List.getElem_cons_zero]); (try simp only [List.setIfInBounds_toArray]); (try simp only [List.set_cons_succ]); (try simp only [List.set_cons_zero])
        (refine wpAnyH_take (i := 6) (v := ?_) rfl (by kernel_rfl) (by kernel_rfl) (by kernel_rfl) (fun _ _ _ h => h) (Or.inl ⟨by kernel_rfl, ?_⟩) (by assumption) ?_; rotate_left; · (intro w hSw; (try dsimp only at hSw); go_simp; first | done | with_reducible rfl))
        (try simp only [Act.put]); (try simp only [List.getElem_toArray]); (try simp only [List.getElem_cons_succ]); (try simp only [List.getElem_cons_zero]); (try simp only [List.setIfInBounds_toArray]); (try simp only [List.set_cons_succ]); (try simp only [List.set_cons_zero])
        (refine wpAnyH_take (i := 7) (v := undef) rfl (by kernel_rfl) (by kernel_rfl) (by kernel_rfl) (fun _ _ _ h => h) (Or.inr ⟨by kernel_rfl, rfl⟩) (by assumption) ?_; (try simp only [Act.put]); (try simp only [List.getElem_toArray]); (try simp only [List.getElem_cons_succ]); (try simp only [List.getElem_cons_zero]); (try simp only [List.setIfInBounds_toArray]); (try simp only [List.set_cons_succ]); (try simp only [List.set_cons_zero]))
        (refine wpAnyH_take (i := 8) (v := undef) rfl (by kernel_rfl) (by kernel_rfl) (by kernel_rfl) (fun _ _ _ h => h) (Or.inr ⟨by kernel_rfl, rfl⟩) (by assumption) ?_; (try simp only [Act.put]); (try simp only [List.getElem_toArray]); (try simp only [List.getElem_cons_succ]); (try simp only [List.getElem_cons_zero]); (try simp only [List.setIfInBounds_toArray]); (try simp only [List.set_cons_succ]); (try simp only [List.set_cons_zero]))
        (refine wpAnyH_take (i := 9) (v := undef) rfl (by kernel_rfl) (by kernel_rfl) (by kernel_rfl) (fun _ _ _ h => h) (Or.inr ⟨by kernel_rfl, rfl⟩) (by assumption) ?_; (try simp only [Act.put]); (try simp only [List.getElem_toArray]); (try simp only [List.getElem_cons_succ]); (try simp only [List.getElem_cons_zero]); (try simp only [List.setIfInBounds_toArray]); (try simp only [List.set_cons_succ]); (try simp only [List.set_cons_zero]))
        (refine wpAnyH_take (i := 10) (v := undef) rfl (by kernel_rfl) (by kernel_rfl) (by kernel_rfl) (fun _ _ _ h => h) (Or.inr ⟨by kernel_rfl, rfl⟩) (by assumption) ?_; (try simp only [Act.put]); (try simp only [List.getElem_toArray]); (try simp only [List.getElem_cons_succ]); (try simp only [List.getElem_cons_zero]); (try simp only [List.setIfInBounds_toArray]); (try simp only [List.set_cons_succ]); (try simp only [List.set_cons_zero]))
        (refine wpAnyH_take (i := 11) (v := undef) rfl (by kernel_rfl) (by kernel_rfl) (by kernel_rfl) (fun _ _ _ h => h) (Or.inr ⟨by kernel_rfl, rfl⟩) (by assumption) ?_; (try simp only [Act.put]); (try simp only [List.getElem_toArray]); (try simp only [List.getElem_cons_succ]); (try simp only [List.getElem_cons_zero]); (try simp only [List.setIfInBounds_toArray]); (try simp only [List.set_cons_succ]); (try simp only [List.set_cons_zero]))
        (refine wpAnyH_take (i := 12) (v := undef) rfl (by kernel_rfl) (by kernel_rfl) (by kernel_rfl) (fun _ _ _ h => h) (Or.inr ⟨by kernel_rfl, rfl⟩) (by assumption) ?_; (try simp only [Act.put]); (try simp only [List.getElem_toArray]); (try simp only [List.getElem_cons_succ]); (try simp only [List.getElem_cons_zero]); (try simp only [List.setIfInBounds_toArray]); (try simp only [List.set_cons_succ]); (try simp only [List.set_cons_zero]))
        (refine wpAnyH_take (i := 13) (v := undef) rfl (by kernel_rfl) (by kernel_rfl) (by kernel_rfl) (fun _ _ _ h => h) (Or.inr ⟨by kernel_rfl, rfl⟩) (by assumption) ?_; (try simp only [Act.put]); (try simp only [List.getElem_toArray]); (try simp only [List.getElem_cons_succ]); (try simp only [List.getElem_cons_zero]); (try simp only [List.setIfInBounds_toArray]); (try simp only [List.set_cons_succ]); (try simp only [List.set_cons_zero]))
        (refine wpAnyH_take (i := 14) (v := undef) rfl (by kernel_rfl) (by kernel_rfl) (by kernel_rfl) (fun _ _ _ h => h) (Or.inr ⟨by kernel_rfl, rfl⟩) (by assumption) ?_; (try simp only [Act.put]); (try simp only [List.getElem_toArray]); (try simp only [List.getElem_cons_succ]); (try simp only [List.getElem_cons_zero]); (try simp only [List.setIfInBounds_toArray]); (try simp only [List.set_cons_succ]); (try simp only [List.set_cons_zero]))
        (refine wpAnyH_take (i := 15) (v := undef) rfl (by kernel_rfl) (by kernel_rfl) (by kernel_rfl) (fun _ _ _ h => h) (Or.inr ⟨by kernel_rfl, rfl⟩) (by assumption) ?_; (try simp only [Act.put]); (try simp only [List.getElem_toArray]); (try simp only [List.getElem_cons_succ]); (try simp only [List.getElem_cons_zero]); (try simp only [List.setIfInBounds_toArray]); (try simp only [List.set_cons_succ]); (try simp only [List.set_cons_zero]))
        (refine wpAnyH_take (i := 16) (v := undef) rfl (by kernel_rfl) (by kernel_rfl) (by kernel_rfl) (fun _ _ _ h => h) (Or.inr ⟨by kernel_rfl, rfl⟩) (by assumption) ?_; (try simp only [Act.put]); (try simp only [List.getElem_toArray]); (try simp only [List.getElem_cons_succ]); (try simp only [List.getElem_cons_zero]); (try simp only [List.setIfInBounds_toArray]); (try simp only [List.set_cons_succ]); (try simp only [List.set_cons_zero]))
        (refine wpAnyH_take (i := 17) (v := undef) rfl (by kernel_rfl) (by kernel_rfl) (by kernel_rfl) (fun _ _ _ h => h) (Or.inr ⟨by kernel_rfl, rfl⟩) (by assumption) ?_; (try simp only [Act.put]); (try simp only [List.getElem_toArray]); (try simp only [List.getElem_cons_succ]); (try simp only [List.getElem_cons_zero]); (try simp only [List.setIfInBounds_toArray]); (try simp only [List.set_cons_succ]); (try simp only [List.set_cons_zero]))
        (refine wpAnyH_take (i := 18) (v := undef) rfl (by kernel_rfl) (by kernel_rfl) (by kernel_rfl) (fun _ _ _ h => h) (Or.inr ⟨by kernel_rfl, rfl⟩) (by assumption) ?_; (try simp only [Act.put]); (try simp only [List.getElem_toArray]); (try simp only [List.getElem_cons_succ]); (try simp only [List.getElem_cons_zero]); (try simp only [List.setIfInBounds_toArray]); (try simp only [List.set_cons_succ]); (try simp only [List.set_cons_zero]))
        (refine wpAnyH_take (i := 19) (v := undef) rfl (by kernel_rfl) (by kernel_rfl) (by kernel_rfl) (fun _ _ _ h => h) (Or.inr ⟨by kernel_rfl, rfl⟩) (by assumption) ?_; (try simp only [Act.put]); (try simp only [List.getElem_toArray]); (try simp only [List.getElem_cons_succ]); (try simp only [List.getElem_cons_zero]); (try simp only [List.setIfInBounds_toArray]); (try simp only [List.set_cons_succ]); (try simp only [List.set_cons_zero]))
        (refine wpAnyH_take (i := 20) (v := undef) rfl (by kernel_rfl) (by kernel_rfl) (by kernel_rfl) (fun _ _ _ h => h) (Or.inr ⟨by kernel_rfl, rfl⟩) (by assumption) ?_; (try simp only [Act.put]); (try simp only [List.getElem_toArray]); (try simp only [List.getElem_cons_succ]); (try simp only [List.getElem_cons_zero]); (try simp only [List.setIfInBounds_toArray]); (try simp only [List.set_cons_succ]); (try simp only [List.set_cons_zero]))
        (refine wpAnyH_take (i := 21) (v := undef) rfl (by kernel_rfl) (by kernel_rfl) (by kernel_rfl) (fun _ _ _ h => h) (Or.inr ⟨by kernel_rfl, rfl⟩) (by assumption) ?_; (try simp only [Act.put]); (try simp only [List.getElem_toArray]); (try simp only [List.getElem_cons_succ]); (try simp only [List.getElem_cons_zero]); (try simp only [List.setIfInBounds_toArray]); (try simp only [List.set_cons_succ]); (try simp only [List.set_cons_zero]))
        (refine wpAnyH_take (i := 22) (v := ?_) rfl (by kernel_rfl) (by kernel_rfl) (by kernel_rfl) (fun _ _ _ h => h) (Or.inl ⟨by kernel_rfl, ?_⟩) (by assumption) ?_; rotate_left; · (intro w hSw; (try dsimp only at hSw); go_simp; first | done | with_reducible rfl))
        (try simp only [Act.put]); (try simp only [List.getElem_toArray]); (try simp only [List.getElem_cons_succ]); (try simp only [List.getElem_cons_zero]); (try simp only [List.setIfInBounds_toArray]); (try simp only [List.set_cons_succ]); (try simp only [List.set_cons_zero])
        refine wpAnyH_done (by kernel_rfl) ?_ _
        have HB2 := hid (HB.out.trans (hHeld.1.out.1.mono HB.out.size))
        clear hHeld HT
        clear y0 y1 y2 y3 y4 y5 y6 y7
        go_wp2
        go_ret
        exact ⟨rfl, HB2.out⟩
      | true =>
        have HRy : Hid (∀ W, Calls Tryz.prog 82 #[y.v] W fun e w' => e = .returned (.bool true) ∧ Below W.heap.size W w') := by rw [← hok]; exact HRy0.out
        cases i with
        | zero =>
          have hltz : (0 : Int) < (m : Int) := by omega
          have HIn := hid (fini_next HI.out hy hok key_first)
          have P := ct_words (hhc.below HB.out hbw) 0 hy
          rw [Nat.zero_mul, Nat.add_zero] at P
          have HT : Hid (SingW wr b off y wr) := ⟨hid ⟨Below.refl _ _, Nat.lt_of_lt_of_le hbw HB.out.size⟩, P⟩
          obtain ⟨y0, y1, y2, y3, y4, y5, y6, y7⟩ := P
          clear hhc hy him hlt hok HRy0
          go_upto_region 4 with (fail)
          refine wp_region_held_drew (S := (fun W' => Hid (Below wr.heap.size wr W' ∧ b < wr.heap.size) ∧ (W'.cell? ⟨b, off, none⟩ = some (.string y.r) ∧ W'.cell? ⟨b, off + 1, none⟩ = some (.string y.f) ∧ W'.cell? ⟨b, off + 2, none⟩ = some (.string y.q) ∧ W'.cell? ⟨b, off + 3, none⟩ = some (.int .i64 y.t) ∧ W'.cell? ⟨b, off + 4, none⟩ = some (.int .i64 y.k) ∧ W'.cell? ⟨b, off + 5, none⟩ = some (.int .i64 y.vk) ∧ W'.cell? ⟨b, off + 6, none⟩ = some (.int .i64 y.vn) ∧ W'.cell? ⟨b, off + 7, none⟩ = some (.string y.s)))) (by kernel_rfl) ?_ (fun hHeld => ?_)
          (exact sing_drew HT.out)
          (refine wpAnyH_take (i := 0) (v := ?_) rfl (by kernel_rfl) (by kernel_rfl) (by kernel_rfl) (fun _ _ _ h => h) (Or.inl ⟨by kernel_rfl, ?_⟩) (by assumption) ?_; rotate_left; · (intro w hSw; (try dsimp only at hSw); go_simp; first | done | with_reducible rfl))
          (try simp only [Act.put]); (try simp only [List.getElem_toArray]); (try simp only [List.getElem_cons_succ]); (try simp only [List.getElem_cons_zero]); (try simp only [List.setIfInBounds_toArray]); (try simp only [List.set_cons_succ]); (try simp only [List.set_cons_zero])
          (refine wpAnyH_take (i := 1) (v := ?_) rfl (by kernel_rfl) (by kernel_rfl) (by kernel_rfl) (fun _ _ _ h => h) (Or.inl ⟨by kernel_rfl, ?_⟩) (by assumption) ?_; rotate_left; · (intro w hSw; (try dsimp only at hSw); go_simp; first | done | with_reducible rfl))
          (try simp only [Act.put]); (try simp only [List.getElem_toArray]); (try simp only [List.getElem_cons_succ]); (try simp only [List.getElem_cons_zero]); (try simp only [List.setIfInBounds_toArray]); (try simp only [List.set_cons_succ]); (try simp only [List.set_cons_zero])
          (refine wpAnyH_take (i := 2) (v := ?_) rfl (by kernel_rfl) (by kernel_rfl) (by kernel_rfl) (fun _ _ _ h => h) (Or.inl ⟨by kernel_rfl, ?_⟩) (by assumption) ?_; rotate_left; · (intro w hSw; (try dsimp only at hSw); go_simp; first | done | with_reducible rfl))
          (try simp only [Act.put]); (try simp only [List.getElem_toArray]); (try simp only [List.getElem_cons_succ]); (try simp only [List.getElem_cons_zero]); (try simp only [List.setIfInBounds_toArray]); (try simp only [List.set_cons_succ]); (try simp only [List.set_cons_zero])
          (refine wpAnyH_take (i := 3) (v := ?_) rfl (by kernel_rfl) (by kernel_rfl) (by kernel_rfl) (fun _ _ _ h => h) (Or.inl ⟨by kernel_rfl, ?_⟩) (by assumption) ?_; rotate_left; · (intro w hSw; (try dsimp only at hSw); go_simp; first | done | with_reducible rfl))
          (try simp only [Act.put]); (try simp only [List.getElem_toArray]); (try simp only [List.getElem_cons_succ]); (try simp only [List.getElem_cons_zero]); (try simp only [List.setIfInBounds_toArray]); (try simp only [List.set_cons_succ]); (try simp only [List.set_cons_zero])
          (refine wpAnyH_ready (rs := [4]) (by kernel_rfl) (by simp) (AllReadyH.cons rfl (fun K hK => ?_) AllReadyH.nil); go_simp; (go_at_call 82; refine (HRy.out _).mono ?_; rintro e w5 ⟨rfl, hb5⟩); refine hK.out _ _ ?_ (fun hHeld => ?_))
          · exact sing_call (by assumption) hb5
          clear hK K
          (try simp only [Act.put]); (try simp only [List.getElem_toArray]); (try simp only [List.getElem_cons_succ]); (try simp only [List.getElem_cons_zero]); (try simp only [List.setIfInBounds_toArray]); (try simp only [List.set_cons_succ]); (try simp only [List.set_cons_zero])
          (refine wpAnyH_take (i := 5) (v := ?_) rfl (by kernel_rfl) (by kernel_rfl) (by kernel_rfl) (fun _ _ _ h => h) (Or.inl ⟨by kernel_rfl, ?_⟩) (by assumption) ?_; rotate_left; · (intro w hSw; (try dsimp only at hSw); go_simp; first | done | with_reducible rfl))
          (try simp only [Act.put]); (try simp only [List.getElem_toArray]); (try simp only [List.getElem_cons_succ]); (try simp only [List.getElem_cons_zero]); (try simp only [List.setIfInBounds_toArray]); (try simp only [List.set_cons_succ]); (try simp only [List.set_cons_zero])
          (refine wpAnyH_take (i := 6) (v := ?_) rfl (by kernel_rfl) (by kernel_rfl) (by kernel_rfl) (fun _ _ _ h => h) (Or.inl ⟨by kernel_rfl, ?_⟩) (by assumption) ?_; rotate_left; · (intro w hSw; (try dsimp only at hSw); go_simp; first | done | with_reducible rfl))
          (try simp only [Act.put]); (try simp only [List.getElem_toArray]); (try simp only [List.getElem_cons_succ]); (try simp only [List.getElem_cons_zero]); (try simp only [List.setIfInBounds_toArray]); (try simp only [List.set_cons_succ]); (try simp only [List.set_cons_zero])
          (refine wpAnyH_take (i := 7) (v := ?_) rfl (by kernel_rfl) (by kernel_rfl) (by kernel_rfl) (fun _ _ _ h => h) (Or.inl ⟨by kernel_rfl, ?_⟩) (by assumption) ?_; rotate_left; · (intro w hSw; (try dsimp only at hSw); go_simp; first | done | with_reducible rfl))
          (try simp only [Act.put]); (try simp only [List.getElem_toArray]); (try simp only [List.getElem_cons_succ]); (try simp only [List.getElem_cons_zero]); (try simp only [List.setIfInBounds_toArray]); (try simp only [List.set_cons_succ]); (try simp only [List.set_cons_zero])
          (refine wpAnyH_take (i := 8) (v := ?_) rfl (by kernel_rfl) (by kernel_rfl) (by kernel_rfl) (fun _ _ _ h => h) (Or.inl ⟨by kernel_rfl, ?_⟩) (by assumption) ?_; rotate_left; · (intro w hSw; (try dsimp only at hSw); go_simp; first | done | with_reducible rfl))
          (try simp only [Act.put]); (try simp only [List.getElem_toArray]); (try simp only [List.getElem_cons_succ]); (try simp only [List.getElem_cons_zero]); (try simp only [List.setIfInBounds_toArray]); (try simp only [List.set_cons_succ]); (try simp only [List.set_cons_zero])
          (refine wpAnyH_take (i := 9) (v := ?_) rfl (by kernel_rfl) (by kernel_rfl) (by kernel_rfl) (fun _ _ _ h => h) (Or.inl ⟨by kernel_rfl, ?_⟩) (by assumption) ?_; rotate_left; · (intro w hSw; (try dsimp only at hSw); go_simp; first | done | with_reducible rfl))
          (try simp only [Act.put]); (try simp only [List.getElem_toArray]); (try simp only [List.getElem_cons_succ]); (try simp only [List.getElem_cons_zero]); (try simp only [List.setIfInBounds_toArray]); (try simp only [List.set_cons_succ]); (try simp only [List.set_cons_zero])
          (refine wpAnyH_take (i := 10) (v := undef) rfl (by kernel_rfl) (by kernel_rfl) (by kernel_rfl) (fun _ _ _ h => h) (Or.inr ⟨by kernel_rfl, rfl⟩) (by assumption) ?_; (try simp only [Act.put]); (try simp only [List.getElem_toArray]); (try simp only [List.getElem_cons_succ]); (try simp only [List.getElem_cons_zero]); (try simp only [List.setIfInBounds_toArray]); (try simp only [List.set_cons_succ]); (try simp only [List.set_cons_zero]))
          (refine wpAnyH_take (i := 11) (v := undef) rfl (by kernel_rfl) (by kernel_rfl) (by kernel_rfl) (fun _ _ _ h => h) (Or.inr ⟨by kernel_rfl, rfl⟩) (by assumption) ?_; (try simp only [Act.put]); (try simp only [List.getElem_toArray]); (try simp only [List.getElem_cons_succ]); (try simp only [List.getElem_cons_zero]); (try simp only [List.setIfInBounds_toArray]); (try simp only [List.set_cons_succ]); (try simp only [List.set_cons_zero]))
          (refine wpAnyH_take (i := 12) (v := undef) rfl (by kernel_rfl) (by kernel_rfl) (by kernel_rfl) (fun _ _ _ h => h) (Or.inr ⟨by kernel_rfl, rfl⟩) (by assumption) ?_; (try simp only [Act.put]); (try simp only [List.getElem_toArray]); (try simp only [List.getElem_cons_succ]); (try simp only [List.getElem_cons_zero]); (try simp only [List.setIfInBounds_toArray]); (try simp only [List.set_cons_succ]); (try simp only [List.set_cons_zero]))
          (refine wpAnyH_take (i := 13) (v := undef) rfl (by kernel_rfl) (by kernel_rfl) (by kernel_rfl) (fun _ _ _ h => h) (Or.inr ⟨by kernel_rfl, rfl⟩) (by assumption) ?_; (try simp only [Act.put]); (try simp only [List.getElem_toArray]); (try simp only [List.getElem_cons_succ]); (try simp only [List.getElem_cons_zero]); (try simp only [List.setIfInBounds_toArray]); (try simp only [List.set_cons_succ]); (try simp only [List.set_cons_zero]))
          (refine wpAnyH_take (i := 14) (v := undef) rfl (by kernel_rfl) (by kernel_rfl) (by kernel_rfl) (fun _ _ _ h => h) (Or.inr ⟨by kernel_rfl, rfl⟩) (by assumption) ?_; (try simp only [Act.put]); (try simp only [List.getElem_toArray]); (try simp only [List.getElem_cons_succ]); (try simp only [List.getElem_cons_zero]); (try simp only [List.setIfInBounds_toArray]); (try simp only [List.set_cons_succ]); (try simp only [List.set_cons_zero]))
          (refine wpAnyH_take (i := 15) (v := undef) rfl (by kernel_rfl) (by kernel_rfl) (by kernel_rfl) (fun _ _ _ h => h) (Or.inr ⟨by kernel_rfl, rfl⟩) (by assumption) ?_; (try simp only [Act.put]); (try simp only [List.getElem_toArray]); (try simp only [List.getElem_cons_succ]); (try simp only [List.getElem_cons_zero]); (try simp only [List.setIfInBounds_toArray]); (try simp only [List.set_cons_succ]); (try simp only [List.set_cons_zero]))
          (refine wpAnyH_take (i := 16) (v := undef) rfl (by kernel_rfl) (by kernel_rfl) (by kernel_rfl) (fun _ _ _ h => h) (Or.inr ⟨by kernel_rfl, rfl⟩) (by assumption) ?_; (try simp only [Act.put]); (try simp only [List.getElem_toArray]); (try simp only [List.getElem_cons_succ]); (try simp only [List.getElem_cons_zero]); (try simp only [List.setIfInBounds_toArray]); (try simp only [List.set_cons_succ]); (try simp only [List.set_cons_zero]))
          (refine wpAnyH_take (i := 17) (v := undef) rfl (by kernel_rfl) (by kernel_rfl) (by kernel_rfl) (fun _ _ _ h => h) (Or.inr ⟨by kernel_rfl, rfl⟩) (by assumption) ?_; (try simp only [Act.put]); (try simp only [List.getElem_toArray]); (try simp only [List.getElem_cons_succ]); (try simp only [List.getElem_cons_zero]); (try simp only [List.setIfInBounds_toArray]); (try simp only [List.set_cons_succ]); (try simp only [List.set_cons_zero]))
          (refine wpAnyH_take (i := 18) (v := undef) rfl (by kernel_rfl) (by kernel_rfl) (by kernel_rfl) (fun _ _ _ h => h) (Or.inr ⟨by kernel_rfl, rfl⟩) (by assumption) ?_; (try simp only [Act.put]); (try simp only [List.getElem_toArray]); (try simp only [List.getElem_cons_succ]); (try simp only [List.getElem_cons_zero]); (try simp only [List.setIfInBounds_toArray]); (try simp only [List.set_cons_succ]); (try simp only [List.set_cons_zero]))
          (refine wpAnyH_take (i := 19) (v := undef) rfl (by kernel_rfl) (by kernel_rfl) (by kernel_rfl) (fun _ _ _ h => h) (Or.inr ⟨by kernel_rfl, rfl⟩) (by assumption) ?_; (try simp only [Act.put]); (try simp only [List.getElem_toArray]); (try simp only [List.getElem_cons_succ]); (try simp only [List.getElem_cons_zero]); (try simp only [List.setIfInBounds_toArray]); (try simp only [List.set_cons_succ]); (try simp only [List.set_cons_zero]))
          (refine wpAnyH_take (i := 20) (v := undef) rfl (by kernel_rfl) (by kernel_rfl) (by kernel_rfl) (fun _ _ _ h => h) (Or.inr ⟨by kernel_rfl, rfl⟩) (by assumption) ?_; (try simp only [Act.put]); (try simp only [List.getElem_toArray]); (try simp only [List.getElem_cons_succ]); (try simp only [List.getElem_cons_zero]); (try simp only [List.setIfInBounds_toArray]); (try simp only [List.set_cons_succ]); (try simp only [List.set_cons_zero]))
          (refine wpAnyH_take (i := 21) (v := ?_) rfl (by kernel_rfl) (by kernel_rfl) (by kernel_rfl) (fun _ _ _ h => h) (Or.inl ⟨by kernel_rfl, ?_⟩) (by assumption) ?_; rotate_left; · (intro w hSw; (try dsimp only at hSw); go_simp; first | done | with_reducible rfl))
          (try simp only [Act.put]); (try simp only [List.getElem_toArray]); (try simp only [List.getElem_cons_succ]); (try simp only [List.getElem_cons_zero]); (try simp only [List.setIfInBounds_toArray]); (try simp only [List.set_cons_succ]); (try simp only [List.set_cons_zero])
          (refine wpAnyH_take (i := 22) (v := ?_) rfl (by kernel_rfl) (by kernel_rfl) (by kernel_rfl) (fun _ _ _ h => h) (Or.inl ⟨by kernel_rfl, ?_⟩) (by assumption) ?_; rotate_left; · (intro w hSw; (try dsimp only at hSw); go_simp; first | done | with_reducible rfl))
          (try simp only [Act.put]); (try simp only [List.getElem_toArray]); (try simp only [List.getElem_cons_succ]); (try simp only [List.getElem_cons_zero]); (try simp only [List.setIfInBounds_toArray]); (try simp only [List.set_cons_succ]); (try simp only [List.set_cons_zero])
          refine wpAnyH_done (by kernel_rfl) ?_ _
          have HB2 := hid (HB.out.trans (hHeld.1.out.1.mono HB.out.size))
          clear hHeld HT
          clear y0 y1 y2 y3 y4 y5 y6 y7
          go_wp2
          go_roundw
          case rel => exact ⟨1, by omega, by go_num, HB2.out, HIn.out⟩
          case measure => simp [intOf]; omega
        | succ k =>
          have hkm : k < l.length := by omega
          obtain ⟨x, hx⟩ : ∃ x, l[k]? = some x := ⟨_, List.getElem?_eq_getElem hkm⟩
          obtain ⟨o, ho⟩ : ∃ o, CT.cmp x y = o := ⟨_, rfl⟩
          have HOx := hid (HOr.out x (List.mem_of_getElem? hx) y (List.mem_of_getElem? hy))
          rw [ho] at HOx
          have HGe : Hid (¬ o < 0 → F = false) := fun q => fini_ge HI.out hx hy hok (by rw [ho]; exact q)
          have HLt : Hid (o < 0 → FinI l F (k + 1 + 1)) := fun q => fini_lt HI.out hx hy hok (by rw [ho]; exact q)
          have hltz : (k : Int) + 1 < (m : Int) := by omega
          have hltp : (0 : Int) < (k : Int) + 1 := by omega
          have hge : (0 : Int) ≤ (k : Int) + 1 := by omega
          have htn : ((k : Int) + 1).toNat = k + 1 := by omega
          have hwj : IntKind.i64.wrap (k : Int) = (k : Int) := by rw [IntKind.wrap_i64]; omega
          have hwj1 : IntKind.i64.wrap ((k : Int) + 1 - 1) = (k : Int) := by rw [IntKind.wrap_i64]; omega
          have hjm : (k : Int) < (m : Int) := by omega
          have HT : Hid (PairW wr b (off + k * 8) (off + (k + 1) * 8) x y wr) := ⟨hid ⟨Below.refl _ _, Nat.lt_of_lt_of_le hbw HB.out.size⟩, ct_words (hhc.below HB.out hbw) k hx, ct_words (hhc.below HB.out hbw) (k + 1) hy⟩
          obtain ⟨-, ⟨x0, x1, x2, x3, x4, x5, x6, x7⟩, ⟨y0, y1, y2, y3, y4, y5, y6, y7⟩⟩ := HT.out
          clear hhc hy hx him hkm hlt hok HRy0 ho
          by_cases ho : o < 0
          · have hno : ¬ (0 : Int) ≤ o := by omega
            have HL2 := hid (HLt.out ho)
            go_upto_region 4 with (fail)
            go_region_held3 (fun W' => Hid (Below wr.heap.size wr W' ∧ b < wr.heap.size) ∧ (W'.cell? ⟨b, off + k * 8, none⟩ = some (.string x.r) ∧ W'.cell? ⟨b, off + k * 8 + 1, none⟩ = some (.string x.f) ∧ W'.cell? ⟨b, off + k * 8 + 2, none⟩ = some (.string x.q) ∧ W'.cell? ⟨b, off + k * 8 + 3, none⟩ = some (.int .i64 x.t) ∧ W'.cell? ⟨b, off + k * 8 + 4, none⟩ = some (.int .i64 x.k) ∧ W'.cell? ⟨b, off + k * 8 + 5, none⟩ = some (.int .i64 x.vk) ∧ W'.cell? ⟨b, off + k * 8 + 6, none⟩ = some (.int .i64 x.vn) ∧ W'.cell? ⟨b, off + k * 8 + 7, none⟩ = some (.string x.s)) ∧ (W'.cell? ⟨b, off + (k + 1) * 8, none⟩ = some (.string y.r) ∧ W'.cell? ⟨b, off + (k + 1) * 8 + 1, none⟩ = some (.string y.f) ∧ W'.cell? ⟨b, off + (k + 1) * 8 + 2, none⟩ = some (.string y.q) ∧ W'.cell? ⟨b, off + (k + 1) * 8 + 3, none⟩ = some (.int .i64 y.t) ∧ W'.cell? ⟨b, off + (k + 1) * 8 + 4, none⟩ = some (.int .i64 y.k) ∧ W'.cell? ⟨b, off + (k + 1) * 8 + 5, none⟩ = some (.int .i64 y.vk) ∧ W'.cell? ⟨b, off + (k + 1) * 8 + 6, none⟩ = some (.int .i64 y.vn) ∧ W'.cell? ⟨b, off + (k + 1) * 8 + 7, none⟩ = some (.string y.s)))
              (first | exact HT.out | exact pair_drew HT.out | exact pair_call (by assumption) hb3 | exact pair_drew (by assumption) | assumption)
              (first | (go_at_call 82; refine (HRy.out _).mono ?_; rintro e w3 ⟨rfl, hb3⟩) | (go_at_call 31; refine (HOx.out _).mono ?_; rintro e w3 ⟨rfl, hb3⟩))
            rename_i hLast
            have HZ3 := hid (HB.out.trans (hLast.1.out.1.mono HB.out.size))
            clear hLast HT x0 x1 x2 x3 x4 x5 x6 x7 y0 y1 y2 y3 y4 y5 y6 y7
            go_wp2
            go_roundw
            case rel => exact ⟨k + 1 + 1, by omega, by go_num, HZ3.out, HL2.out⟩
            case measure => simp [intOf]; omega
          · have hno : (0 : Int) ≤ o := by omega
            obtain rfl : F = false := HGe.out ho
            go_upto_region 4 with (fail)
            go_region_held3 (fun W' => Hid (Below wr.heap.size wr W' ∧ b < wr.heap.size) ∧ (W'.cell? ⟨b, off + k * 8, none⟩ = some (.string x.r) ∧ W'.cell? ⟨b, off + k * 8 + 1, none⟩ = some (.string x.f) ∧ W'.cell? ⟨b, off + k * 8 + 2, none⟩ = some (.string x.q) ∧ W'.cell? ⟨b, off + k * 8 + 3, none⟩ = some (.int .i64 x.t) ∧ W'.cell? ⟨b, off + k * 8 + 4, none⟩ = some (.int .i64 x.k) ∧ W'.cell? ⟨b, off + k * 8 + 5, none⟩ = some (.int .i64 x.vk) ∧ W'.cell? ⟨b, off + k * 8 + 6, none⟩ = some (.int .i64 x.vn) ∧ W'.cell? ⟨b, off + k * 8 + 7, none⟩ = some (.string x.s)) ∧ (W'.cell? ⟨b, off + (k + 1) * 8, none⟩ = some (.string y.r) ∧ W'.cell? ⟨b, off + (k + 1) * 8 + 1, none⟩ = some (.string y.f) ∧ W'.cell? ⟨b, off + (k + 1) * 8 + 2, none⟩ = some (.string y.q) ∧ W'.cell? ⟨b, off + (k + 1) * 8 + 3, none⟩ = some (.int .i64 y.t) ∧ W'.cell? ⟨b, off + (k + 1) * 8 + 4, none⟩ = some (.int .i64 y.k) ∧ W'.cell? ⟨b, off + (k + 1) * 8 + 5, none⟩ = some (.int .i64 y.vk) ∧ W'.cell? ⟨b, off + (k + 1) * 8 + 6, none⟩ = some (.int .i64 y.vn) ∧ W'.cell? ⟨b, off + (k + 1) * 8 + 7, none⟩ = some (.string y.s)))
              (first | exact HT.out | exact pair_drew HT.out | exact pair_call (by assumption) hb3 | exact pair_drew (by assumption) | assumption)
              (first | (go_at_call 82; refine (HRy.out _).mono ?_; rintro e w3 ⟨rfl, hb3⟩) | (go_at_call 31; refine (HOx.out _).mono ?_; rintro e w3 ⟨rfl, hb3⟩))
            rename_i hLast
            have HZ3 := hid (HB.out.trans (hLast.1.out.1.mono HB.out.size))
            clear hLast HT x0 x1 x2 x3 x4 x5 x6 x7 y0 y1 y2 y3 y4 y5 y6 y7
            go_wp2
            go_ret
            exact ⟨rfl, HZ3.out⟩
    · obtain rfl : i = m := by omega
      obtain rfl : F = true := by have := HI.out; rw [← HM.out] at this; exact fini_all this
      go_wp2
      go_ret
      exact ⟨rfl, HB.out⟩
end Go.Proofs.YtfcnobcpnhfgmaaGreatDoor

/- The document's Build of layer 8 at every list of cells. Conditions: the argument stands, a thousand cells at most, their texts are short, their numbers are of 64 bits. -/
namespace Go.Proofs.YtfcnobcpnhfgmaaGreatDoor
open Go.RowKit

theorem dkey_yes (c : CT) (h : Dc c) (hok : c.ok = true) (w : World) :
    Calls Tryz.prog 46 #[c.v] w fun e w' => ∃ v, e = .returned (.tuple #[v, .bool true]) ∧ Row w' w.heap.size v (keyL c) ∧ Below w.heap.size w w' :=
  refkey_yes c.r c.f c.q c.s c.t c.k c.vk c.vn h.1 h.2.1 h.2.2.1 (by have := h.2.2.2.1; omega) w hok
theorem dvenc_yes (c : CT) (h : Dc c) (hok : c.ok = true) (hk : c.k = 1) (w : World) :
    Calls Tryz.prog 47 #[.agg #[.int .i64 c.vk, .int .i64 c.vn, .string c.s]] w fun e w' => ∃ v, e = .returned (.tuple #[v, .bool true]) ∧ Row w' w.heap.size v (valL c) ∧ Below w.heap.size w w' := by
  obtain ⟨_, _, _, _, _, _, _, _, _, _, p1, _⟩ := cright_parts hok
  exact refEncode_yes c.vk h.2.2.2.2 c.s (by have := h.2.2.2.1; omega) (p1 hk) w

/-- Within a round of the document's Build: the bytes, the new key. -/
structure BuD (w W : World) (g cap : Nat) (out : List UInt8) (gk capk : Nat) (k : List UInt8) : Prop where
  bel : Below w.heap.size w W
  row : RowG W w.heap.size g cap out
  key : RowG W w.heap.size gk capk k
  ne : gk ≠ g
section
variable {w W W' : World} {g cap gk capk g' cap' : Nat} {out out' k : List UInt8}
theorem BuD.below (h : BuD w W g cap out gk capk k) (hb : Below W.heap.size W W') : BuD w W' g cap out gk capk k :=
  ⟨h.bel.trans (hb.mono h.bel.size), h.row.below hb, h.key.below hb, h.ne⟩
theorem BuD.step (h : BuD w W g cap out gk capk k) (hr : RowG W' w.heap.size g' cap' out') (hg : W.grownBy W' (some g)) (hd : g' = g ∨ W.heap.size ≤ g') : BuD w W' g' cap' out' gk capk k := by
  have h1 := h.row.lt
  have h2 := h.key.lt
  have hne := h.ne
  refine ⟨h.bel.grown hg h.bel.size (fun j hj => ?_), hr, ⟨h.key.1, World.ownsRow.kept h.key.2 hg (.inr ?_)⟩, ?_⟩
  · injection hj with hj
    omega
  · intro e
    injection e with e
    exact hne e
  · rcases hd with rfl | hd <;> omega
theorem BuD.next (h : BuD w W g cap out gk capk k) (hk : k.length ≤ 3000) : BuI w W g cap out (.slice (some ⟨gk, 0, none⟩) k.length capk) k :=
  ⟨h.bel, h.row, ⟨_, _, rfl, fun _ => ⟨gk, 0, rfl, h.key.holds⟩, fun b o e => by
    injection e with e
    injection e with e
    subst e
    exact ⟨h.ne, h.key.lt.2⟩⟩, hk⟩
end
theorem preL_any {l m : List UInt8} {j : Nat} : preL (l.drop j) (m.drop j) = 0 ∨ ∃ x, l[j]? = some x ∧ m[j]? = some x := by
  rcases Nat.lt_or_ge j l.length with h1 | h1
  · rcases Nat.lt_or_ge j m.length with h2 | h2
    · by_cases e : l[j] = m[j]
      · exact .inr ⟨_, List.getElem?_eq_getElem h1, by rw [List.getElem?_eq_getElem h2, e]⟩
      · exact .inl (preL_other (List.getElem?_eq_getElem h1) (List.getElem?_eq_getElem h2) e)
    · exact .inl (preL_end (.inr h2))
  · exact .inl (preL_end (.inl h1))

theorem keyst_at {W : World} {g la ca j : Nat} {Aa : Option Addr} {k : List UInt8} (h : KeySt W g (.slice Aa la ca) k) (hl : k.length = la) (hj : j < la) : ∃ b o, Aa = some ⟨b, o, none⟩ ∧ la ≤ la ∧ W.cell? ⟨b, o + j, none⟩ = some (.int .u8 ((k.getD j 0).toNat : Int)) := by
  obtain ⟨A', c', e, hh, _⟩ := h
  injection e with e1 e2 e3
  subst e1
  obtain ⟨b, o, e, h2⟩ := hh (by omega)
  exact ⟨b, o, e, Nat.le_refl _, h2 j (by omega)⟩
theorem getd_some {l : List UInt8} {j : Nat} {x : UInt8} (h : l[j]? = some x) : l.getD j 0 = x := by
  rw [List.getD_eq_getElem?_getD, h]
  rfl
theorem out_putd {n p kl vl i : Nat} {l : List CT} {c : CT} (ht : l.take (i + 1) = l.take i ++ [c]) (hp : preL (lastK [] (l.take i)) (keyL c) = p) (hk : (keyL c).length = kl) (hv : (valL c).length = vl) (h1 : c.k = 1) : numW n ++ restB [] (l.take i) ++ numW p ++ numW (kl - p) ++ (keyL c).drop p ++ numW vl ++ valL c = numW n ++ restB [] (l.take (i + 1)) := by
  rw [ht, restB_snoc]
  unfold oneB
  rw [hp, hk, hv, if_pos h1]
  simp only [List.append_assoc]
theorem out_otherd {n p kl i : Nat} {l : List CT} {c : CT} (ht : l.take (i + 1) = l.take i ++ [c]) (hp : preL (lastK [] (l.take i)) (keyL c) = p) (hk : (keyL c).length = kl) (h1 : ¬ c.k = 1) : numW n ++ restB [] (l.take i) ++ numW p ++ numW (kl - p) ++ (keyL c).drop p = numW n ++ restB [] (l.take (i + 1)) := by
  rw [ht, restB_snoc]
  unfold oneB
  rw [hp, hk, if_neg h1]
  simp only [List.append_assoc, List.append_nil]
theorem out_len {n nb i : Nat} {l : List CT} {c : CT} (ht : l.take (i + 1) = l.take i ++ [c]) (h1 : (numW n ++ restB [] (l.take i)).length = nb) (h2 : nb ≤ 9 + i * 300) (h3 : (oneB (lastK [] (l.take i)) c).length ≤ 300) : (numW n ++ restB [] (l.take (i + 1))).length ≤ 9 + (i + 1) * 300 := by
  rw [ht, restB_snoc, ← List.append_assoc, List.length_append]
  omega

set_option maxRecDepth 100000 in
set_option maxHeartbeats 16000000 in
theorem refbuild_any (v : Value) (l : List CT) (hl : l.length ≤ 1000) (w : World) (h : ClA w v l) (hs : ∀ c ∈ l, Dc c) :
    Calls Tryz.prog 13 #[v] w fun e w' => Below w.heap.size w w' ∧ BuEnd (fineK [] l) l w e w' := by
  have mixed : Tryz.prog.follows .mixedOrders = true := by kernel_rfl
  have HFi : Hid (Calls Tryz.prog 44 #[v] w fun e w' => e = .returned (.bool (fineK [] l)) ∧ Below w.heap.size w w') := reffine_any v l w h hs
  obtain ⟨A, cc, rfl, hc1, hc2, hh⟩ := h
  have HH := hid hh
  clear hh
  obtain ⟨n, hn⟩ : ∃ n, l.length = n := ⟨_, rfl⟩
  have HN := hid hn
  rw [hn] at hc1 hl HFi ⊢
  clear hn
  have hz : ¬ 1000 < (n : Int) := by omega
  cases hF : fineK [] l with
  | false =>
    rw [hF] at HFi
    clear hs hF
    go_enter Tryz.func13, Tryz.ntmps13
    go_wp2_with (first | (go_at_call 44; refine HFi.out.mono ?_; rintro e w1 ⟨rfl, hb1⟩))
    go_ret2
    refine ⟨hb1, ?_⟩
    unfold BuEnd; rw [if_neg (by simp)]
    rfl
  | true =>
    rw [hF] at HFi
    have HBc : Hid (∀ c ∈ l, Bc c ∧ Dc c) := fun c hc => ⟨⟨((fineK_iff l).1 hF).1 c hc, (hs c hc).2.2.2.2, (hs c hc).2.2.2.1⟩, hs c hc⟩
    have HF := hid hF
    clear hs hF
    have HNu : Hid (∀ W, Calls Tryz.prog 45 #[.int .i64 n] W fun e w' => ∃ v, e = .returned v ∧ Row w' W.heap.size v (numW n) ∧ Below W.heap.size W w') := fun W => refnumd_any n (by omega) W
    have HNp := hid (numW_pos n)
    have HN9 := hid (numW_len9 n (by omega))
    go_enter Tryz.func13, Tryz.ntmps13
    go_wp2_with (first
      | (go_at_call 44; refine HFi.out.mono ?_; rintro e w0 ⟨rfl, hb0⟩; have HB0 := hid hb0; clear hb0)
      | (go_at_call 45; refine (HNu.out _).mono ?_; rintro e w1 ⟨v1, rfl, hR1, hb1⟩; obtain ⟨g1, cap1, rfl, hG1⟩ := hR1.toG HNp.out))
    have HI : Hid (BuI w (w1.alloc (.cells #[] 5)) g1 cap1 (numW n ++ restB [] (l.take 0)) (.slice (some ⟨w1.heap.size, 0, none⟩) 0 0) []) := by
      refine ⟨(HB0.out.trans (hb1.mono HB0.out.size)).trans ((below_new w1 _).mono (HB0.out.trans (hb1.mono HB0.out.size)).size), ?_, ⟨some ⟨w1.heap.size, 0, none⟩, 0, rfl, fun h => absurd h (by simp), fun b o e => ?_⟩, by simp⟩
      · rw [List.take_zero]
        show RowG _ _ _ _ (_ ++ [])
        rw [List.append_nil]
        exact RowG.below ⟨hG1.1, hG1.2.le HB0.out.size⟩ (below_new w1 _)
      · cases e
        exact ⟨by have := hG1.lt.2; omega, by simp⟩
    have HIl : Hid ((numW n ++ restB [] (l.take 0)).length = (numW n).length) := by
      show _ = _
      rw [List.take_zero]
      show (_ ++ []).length = _
      rw [List.append_nil]
    clear hR1 hb1 hG1 HFi HB0
    go_loopw [4, 5, 6] (fun vb va vi wr => ∃ (i : Nat) (g cap nb : Nat), i ≤ n ∧ vi = .int .i64 i ∧ vb = .slice (some ⟨g, 0, none⟩) nb cap ∧ Hid (BuI w wr g cap (numW n ++ restB [] (l.take i)) va (lastK [] (l.take i)) ∧ (numW n ++ restB [] (l.take i)).length = nb ∧ nb ≤ 9 + i * 300)) (fun _ _ vi _ => n - (intOf vi).toNat)
    case atStart => exact ⟨0, g1, cap1, _, Nat.zero_le _, rfl, rfl, HI.out, HIl.out, by have := HN9.out; omega⟩
    case round =>
      clear HI HIl
      obtain ⟨i, g, cap, nb, hi, rfl, rfl, HI⟩ := hrel
      obtain ⟨Aa, ca, ea, _⟩ := HI.out.1.key
      subst ea
      obtain ⟨la, hla⟩ : ∃ la, (lastK [] (l.take i)).length = la := ⟨_, rfl⟩
      have HLa := hid hla
      rw [hla] at HI ⊢
      clear hla
      by_cases hlt : i < n
      · have hin : i < l.length := by rw [HN.out]; exact hlt
        have hltz : (i : Int) < (n : Int) := by omega
        obtain ⟨b, off, rfl, hhc⟩ := HH.out (by omega)
        have hbw : b < w.heap.size := hhc.lt (by omega)
        obtain ⟨c, hc⟩ : ∃ c, l[i]? = some c := ⟨_, List.getElem?_eq_getElem hin⟩
        obtain ⟨hbc, hdc⟩ := HBc.out c (List.mem_of_getElem? hc)
        have HTk : Hid (l.take (i + 1) = l.take i ++ [c]) := by show _ = _; rw [List.take_add_one, hc]; rfl
        have HLt : Hid (Lib.compareBytes (lastK [] (l.take i)) (keyL c) < 0) := (fineK_stop l i c hc HF.out).2
        have HX : Hid (HC w b off l ∧ l[i]? = some c ∧ b < w.heap.size) := ⟨hhc, hc, hbw⟩
        obtain ⟨a0, a1, a2, a3, a4, a5, a6, a7⟩ := ct_words (hhc.below HI.out.1.bel hbw) i hc
        clear hhc hc hin hbw
        obtain ⟨kl, hkl⟩ : ∃ kl, (keyL c).length = kl := ⟨_, rfl⟩
        have HKl := hid hkl
        have hk3 : kl ≤ 3000 := by rw [← hkl]; exact (bc_small hbc).1
        have HKt : Hid (Calls Tryz.prog 46 #[c.v] wr fun e w' => ∃ gk capk, e = .returned (.tuple #[.slice (some ⟨gk, 0, none⟩) kl capk, .bool true]) ∧ Hid (BuD w w' g cap (numW n ++ restB [] (l.take i)) gk capk (keyL c) ∧ KeySt w' g (.slice Aa la ca) (lastK [] (l.take i)))) := by
          refine (dkey_yes c hdc hbc.1 wr).mono fun e w' ⟨v, he, hr, hb⟩ => ?_
          obtain ⟨gk, capk, rfl, hG⟩ := hr.toG (keyL_pos c)
          have h1 := hG.lt
          have h2 := HI.out.1.row.lt
          have h4 : KeySt wr g (.slice Aa la ca) (lastK [] (l.take i)) := HI.out.1.key
          rw [hkl] at he
          exact ⟨gk, capk, he, ⟨HI.out.1.bel.trans (hb.mono HI.out.1.bel.size), HI.out.1.row.below hb, ⟨hG.1, hG.2.le HI.out.1.bel.size⟩, by omega⟩, KeySt.below h4 hb⟩
        obtain ⟨p, hp⟩ : ∃ p, preL (lastK [] (l.take i)) (keyL c) = p := ⟨_, rfl⟩
        have HP := hid hp
        have hpl : p < kl := by have := pre_lt HLt.out; rw [hkl, hp] at this; exact this
        have hpa : p ≤ la := by have := (preL_le (lastK [] (l.take i)) (keyL c)).1; rw [HLa.out, hp] at this; exact this
        have hla3 : la ≤ 3000 := by have := HI.out.1.len; rw [HLa.out] at this; exact this
        have hnb : nb ≤ 300009 := by have := HI.out.2.2; omega
        have HDl : Hid (((keyL c).drop p).length = kl - p) := by show _ = _; rw [List.length_drop, hkl]
        have HOn : Hid ((oneB (lastK [] (l.take i)) c).length ≤ 300) := one_len hbc
        have HBcc := hid hbc
        have HDcc := hid hdc
        obtain ⟨N, hN⟩ : ∃ N, numW p = N := ⟨_, rfl⟩
        obtain ⟨M, hM⟩ : ∃ M, numW (kl - p) = M := ⟨_, rfl⟩
        have HNN := hid hN
        have HMM := hid hM
        have HNm : Hid (∀ W, Calls Tryz.prog 45 #[.int .i64 (p : Int)] W fun e w' => ∃ g5 cap5, e = .returned (.slice (some ⟨g5, 0, none⟩) N.length cap5) ∧ Hid (RowG w' W.heap.size g5 cap5 N ∧ Below W.heap.size W w')) := fun W => by
          rw [← hN]
          refine (refnumd_any p (by omega) W).mono fun e w' ⟨v, he, hr, hb⟩ => ?_
          obtain ⟨g5, cap5, rfl, hG⟩ := hr.toG (numW_pos p)
          exact ⟨g5, cap5, he, hG, hb⟩
        have HMm : Hid (∀ W, Calls Tryz.prog 45 #[.int .i64 ((kl : Int) - (p : Int))] W fun e w' => ∃ g5 cap5, e = .returned (.slice (some ⟨g5, 0, none⟩) M.length cap5) ∧ Hid (RowG w' W.heap.size g5 cap5 M ∧ Below W.heap.size W w')) := fun W => by
          rw [← hM, show (kl : Int) - (p : Int) = ((kl - p : Nat) : Int) by omega]
          refine (refnumd_any (kl - p) (by omega) W).mono fun e w' ⟨v, he, hr, hb⟩ => ?_
          obtain ⟨g5, cap5, rfl, hG⟩ := hr.toG (numW_pos (kl - p))
          exact ⟨g5, cap5, he, hG, hb⟩
        have HNl : Hid (N.length ≤ 9 ∧ 0 < N.length ∧ M.length ≤ 9 ∧ 0 < M.length) := by rw [← hN, ← hM]; exact ⟨numW_len9 p (by omega), numW_pos p, numW_len9 (kl - p) (by omega), numW_pos (kl - p)⟩
        clear hkl hp hN hM hbc hdc
        go_upto_region 10 with (first
          | (go_at_call 46; refine HKt.out.mono ?_; rintro e w2 ⟨gk, capk, rfl, H2⟩; have hcapk : kl ≤ capk := (by have := H2.out.1.key.caps.1; rw [HKl.out] at this; exact this); have hcapm : capk ≤ 9223372036854775807 := H2.out.1.key.caps.2))
        have HK2 := hid H2.out.1
        have HS2 := hid H2.out.2
        have HP0 : Hid (p = 0 + preL ((lastK [] (l.take i)).drop 0) ((keyL c).drop 0)) := by show _ = _; rw [List.drop_zero, List.drop_zero, HP.out]; omega
        clear a0 a1 a2 a3 a4 a5 a6 a7 HKt H2
        obtain ⟨wo, hwo⟩ : ∃ x, x = wr := ⟨_, rfl⟩
        subst hwo
        go_wp2
        go_loopw [9] (fun vn wi => ∃ j : Nat, j ≤ p ∧ vn = .int .i64 j ∧ Hid (p = j + preL ((lastK [] (l.take i)).drop j) ((keyL c).drop j)) ∧ Hid (Below w2.heap.size w2 wi)) (fun vn _ => p - (intOf vn).toNat)
        case atStart => exact ⟨0, Nat.zero_le _, rfl, HP0.out, Below.refl _ _⟩
        case round =>
          clear HP0
          obtain ⟨j, hj, rfl, HJ, HBi⟩ := hrel
          have hjk : (j : Int) < (kl : Int) := by omega
          have Q1 : wr.cell? ⟨gk, j, none⟩ = some (.int .u8 (((keyL c).getD j 0).toNat : Int)) := by
            have h1 := (HK2.out.below HBi.out).key.holds j (by rw [HKl.out]; omega)
            rwa [Nat.zero_add] at h1
          rcases preL_any (l := lastK [] (l.take i)) (m := keyL c) (j := j) with h0 | ⟨x, hx1, hx2⟩
          · have hjp : j = p := by have := HJ.out; rw [h0] at this; omega
            subst hjp
            have HD : Hid (∀ x, (lastK [] (l.take i))[j]? = some x → (keyL c)[j]? = some x → False) := fun x h1 h2 => by
              rw [preL_next h1 h2] at h0
              omega
            clear h0 HJ
            have hcase : (la : Int) ≤ (j : Int) ∨ ((j : Int) < (la : Int) ∧ ∃ b o, Aa = some ⟨b, o, none⟩ ∧ wr.cell? ⟨b, o + j, none⟩ = some (.int .u8 (((lastK [] (l.take i)).getD j 0).toNat : Int)) ∧ (((((keyL c).getD j 0).toNat : Nat) : Int) == ((((lastK [] (l.take i)).getD j 0).toNat : Nat) : Int)) = false) := by
              rcases Nat.lt_or_ge j la with h1 | h1
              · obtain ⟨b, o, e, _, h2⟩ := keyst_at (KeySt.below HS2.out HBi.out) HLa.out h1
                refine .inr ⟨by omega, b, o, e, h2, ?_⟩
                obtain ⟨x, hx⟩ : ∃ x, (lastK [] (l.take i))[j]? = some x := ⟨_, List.getElem?_eq_getElem (by rw [HLa.out]; exact h1)⟩
                obtain ⟨y, hy⟩ : ∃ y, (keyL c)[j]? = some y := ⟨_, List.getElem?_eq_getElem (by rw [HKl.out]; omega)⟩
                rw [getd_some hx, getd_some hy]
                have hxy : y ≠ x := fun e => HD.out x hx (by rw [← e]; exact hy)
                rw [beq_eq_false_iff_ne]
                exact fun e => hxy (UInt8.toNat_inj.1 (by omega))
              · exact .inl (by omega)
            obtain ⟨u, hu⟩ : ∃ u : Int, (((keyL c).getD j 0).toNat : Int) = u := ⟨_, rfl⟩
            rw [hu] at Q1 hcase
            obtain ⟨z, hz⟩ : ∃ z : Int, ((((lastK [] (l.take i)).getD j 0).toNat : Nat) : Int) = z := ⟨_, rfl⟩
            rw [hz] at hcase
            clear hu hz HD
            have HX2 := HX
            rcases hcase with hge | ⟨hlt2, ba, oa, eA, Q2, hne⟩
            · have hnl : ¬ (j : Int) < (la : Int) := by omega
              go_upto_region 10 with (fail)
              go_quiet (fail)
              obtain ⟨W3, hW3⟩ : ∃ W3, wr.drewN nq = W3 := ⟨_, rfl⟩
              have H3 : Hid (BuD w W3 g cap (numW n ++ restB [] (l.take i)) gk capk (keyL c)) := by rw [← hW3]; exact HK2.out.below (Go.below_drewN HBi.out _)
              rw [hW3]
              clear hW3 Q1 HBi HK2 HS2
              go_upto_region 13 with (first
                | (go_at_call 45; refine (HNm.out _).mono ?_; rintro e w5 ⟨g5, cap5, rfl, H5⟩; have H5b := hid (H3.out.below H5.out.2))
                | (at_builtin; refine wpList_append_g rfl (.tmp 61) (.tmp 63) rfl w5 w.heap.size g cap _ nb HI.out.2.1.symm ?_ H5b.out.row g5 0 N.length cap5 N rfl ?_ HNl.out.2.1 H5.out.1.holds (by have := HI.out.2.1; have := HNl.out; omega) H5b.out.bel.size ?_; rfl; rfl; intro g6 cap6 w6 n6 hn6 hG6 hg6 hd6; have H6 := hid (H5b.out.step hG6 hg6 hd6); have hl6 : n6 ≤ 300018 := (by have h6 := hn6.out; rw [List.length_append, HI.out.2.1] at h6; have := HNl.out; omega); clear hG6 hg6 hd6))
              go_upto_region 14 with (first
                | (go_at_call 45; refine (HMm.out _).mono ?_; rintro e w7 ⟨g7, cap7, rfl, H7⟩; have H7b := hid (H6.out.below H7.out.2))
                | (at_builtin; refine wpList_append_g rfl (.tmp 65) (.tmp 70) rfl w7 w.heap.size g6 cap6 _ n6 hn6.out.symm ?_ H7b.out.row g7 0 M.length cap7 M rfl ?_ HNl.out.2.2.2 H7.out.1.holds (by have := hn6.out; have := HNl.out; omega) H7b.out.bel.size ?_; rfl; rfl; intro g8 cap8 w8 n8 hn8 hG8 hg8 hd8; have H8 := hid (H7b.out.step hG8 hg8 hd8); have hl8 : n8 ≤ 300027 := (by have h6 := hn8.out; rw [List.length_append, hn6.out] at h6; have := HNl.out; omega); clear hG8 hg8 hd8))
              go_upto_region 15 with (at_builtin; refine wpList_append_g rfl (.tmp 72) (.tmp 75) rfl w8 w.heap.size g8 cap8 _ n8 hn8.out.symm ?_ H8.out.row gk j (kl - j) (capk - j) ((keyL c).drop j) HDl.out.symm ?_ (by have := HDl.out; omega) (by have h1 := H8.out.key.holds.drop j; rwa [Nat.zero_add] at h1) (by have := hn8.out; have := HDl.out; omega) H8.out.bel.size ?_; rfl; rfl; intro g9 cap9 w9 n9 hn9 hG9 hg9 hd9; have H9 := hid (H8.out.step hG9 hg9 hd9); have hl9 : n9 ≤ 303027 := (by have h6 := hn9.out; rw [List.length_append, hn8.out, HDl.out] at h6; omega); clear hG9 hg9 hd9)
              obtain ⟨a0, a1, a2, a3, a4, a5, a6, a7⟩ := ct_words (HX.out.1.below H9.out.bel HX.out.2.2) i HX.out.2.1
              clear H3 H5 H5b H6 H7 H7b H8 hl6 hl8
              by_cases hk1 : c.k = 1
              · obtain ⟨vl, hvl⟩ : ∃ vl, (valL c).length = vl := ⟨_, rfl⟩
                have HVL := hid hvl
                have HK1 := hid hk1
                have hke : ((c.k : Int) == 1) = true := by simp [hk1]
                have hvl3 : vl ≤ 3000 := by rw [← hvl]; exact (bc_small HBcc.out).2
                have hvl0 : 0 < vl := by rw [← hvl]; exact valL_pos c
                have HVe : Hid (∀ W, Calls Tryz.prog 47 #[.agg #[.int .i64 c.vk, .int .i64 c.vn, .string c.s]] W fun e w' => ∃ gv capv, e = .returned (.tuple #[.slice (some ⟨gv, 0, none⟩) vl capv, .bool true]) ∧ Hid (RowG w' W.heap.size gv capv (valL c) ∧ Below W.heap.size W w')) := fun W => by
                  refine (dvenc_yes c HDcc.out HBcc.out.1 hk1 W).mono fun e w' ⟨v, he, hr, hb⟩ => ?_
                  obtain ⟨gv, capv, rfl, hG⟩ := hr.toG (valL_pos c)
                  rw [hvl] at he
                  exact ⟨gv, capv, he, hG, hb⟩
                obtain ⟨V, hV⟩ : ∃ V, numW vl = V := ⟨_, rfl⟩
                have HVV := hid hV
                have HVm : Hid (∀ W, Calls Tryz.prog 45 #[.int .i64 (vl : Int)] W fun e w' => ∃ g5 cap5, e = .returned (.slice (some ⟨g5, 0, none⟩) V.length cap5) ∧ Hid (RowG w' W.heap.size g5 cap5 V ∧ Below W.heap.size W w')) := fun W => by
                  rw [← hV]
                  refine (refnumd_any vl (by omega) W).mono fun e w' ⟨v, he, hr, hb⟩ => ?_
                  obtain ⟨g5, cap5, rfl, hG⟩ := hr.toG (numW_pos vl)
                  exact ⟨g5, cap5, he, hG, hb⟩
                have HVl : Hid (V.length ≤ 9 ∧ 0 < V.length) := by rw [← hV]; exact ⟨numW_len9 vl (by omega), numW_pos vl⟩
                clear hvl hk1 hV
                go_upto_region 17 with (go_at_call 47; refine (HVe.out _).mono ?_; rintro e w10 ⟨gv, capv, rfl, H10a⟩; have H10 := hid (H9.out.below H10a.out.2))
                go_upto_region 18 with (first
                  | (go_at_call 45; refine (HVm.out _).mono ?_; rintro e w11 ⟨g11, cap11, rfl, H11⟩; have H11b := hid (H10.out.below H11.out.2))
                  | (at_builtin; refine wpList_append_g rfl (.tmp 92) (.tmp 95) rfl w11 w.heap.size g9 cap9 _ n9 hn9.out.symm ?_ H11b.out.row g11 0 V.length cap11 V rfl ?_ HVl.out.2 H11.out.1.holds (by have := hn9.out; have := HVl.out; omega) H11b.out.bel.size ?_; rfl; rfl; intro g12 cap12 w12 n12 hn12 hG12 hg12 hd12; have H12 := hid (H11b.out.step hG12 hg12 hd12); have hl12 : n12 ≤ 303036 := (by have h6 := hn12.out; rw [List.length_append, hn9.out] at h6; have := HVl.out; omega); have HVh : Hid (Holds w12 gv 0 (valL c)) := ((H10a.out.1.below H11.out.2).holds).grown hg12 (fun e => by have h7 := Option.some.inj e; have h8 := H10a.out.1.lt; have h9 := H9.out.row.lt.2; omega); clear hG12 hg12 hd12))
                go_wp2_with (at_builtin; refine wpList_append_g rfl (.tmp 97) (.tmp 98) rfl w12 w.heap.size g12 cap12 _ n12 hn12.out.symm ?_ H12.out.row gv 0 vl capv (valL c) HVL.out.symm ?_ (by have := HVL.out; omega) HVh.out (by have := hn12.out; have := HVL.out; omega) H12.out.bel.size ?_; rfl; rfl; intro g14 cap14 w14 n14 hn14 hG14 hg14 hd14; have H14 := hid (H12.out.step hG14 hg14 hd14); clear hG14 hg14 hd14)
                go_roundw
                case rel =>
                  refine ⟨i + 1, _, _, _, by omega, by go_num, rfl, ?_⟩
                  have ho : _ = numW n ++ restB [] (l.take (i + 1)) := out_putd HTk.out HP.out HKl.out HVL.out HK1.out
                  have hl1 : lastK [] (l.take (i + 1)) = keyL c := by rw [HTk.out, lastK_snoc]
                  have h1 := hn14.out
                  have h2 := BuD.next H14.out (by rw [HKl.out]; exact hk3)
                  rw [← HNN.out, ← HMM.out, ← HVV.out] at h1 h2
                  rw [ho] at h1 h2
                  rw [HKl.out] at h2
                  rw [hl1]
                  exact ⟨h2, h1, by rw [← h1]; exact out_len HTk.out HI.out.2.1 HI.out.2.2 HOn.out⟩
                case measure => simp [intOf]; omega
              · have HK1 := hid hk1
                have hke : ((c.k : Int) == 1) = false := by simp [hk1]
                clear hk1
                go_wp2
                go_roundw
                case rel =>
                  refine ⟨i + 1, _, _, _, by omega, by go_num, rfl, ?_⟩
                  have ho : _ = numW n ++ restB [] (l.take (i + 1)) := out_otherd HTk.out HP.out HKl.out HK1.out
                  have hl1 : lastK [] (l.take (i + 1)) = keyL c := by rw [HTk.out, lastK_snoc]
                  have h1 := hn9.out
                  have h2 := BuD.next H9.out (by rw [HKl.out]; exact hk3)
                  rw [← HNN.out, ← HMM.out] at h1 h2
                  rw [ho] at h1 h2
                  rw [HKl.out] at h2
                  rw [hl1]
                  exact ⟨h2, h1, by rw [← h1]; exact out_len HTk.out HI.out.2.1 HI.out.2.2 HOn.out⟩
                case measure => simp [intOf]; omega
            · subst eA
              go_upto_region 10 with (fail)
              go_quiet (fail)
              obtain ⟨W3, hW3⟩ : ∃ W3, wr.drewN nq = W3 := ⟨_, rfl⟩
              have H3 : Hid (BuD w W3 g cap (numW n ++ restB [] (l.take i)) gk capk (keyL c)) := by rw [← hW3]; exact HK2.out.below (Go.below_drewN HBi.out _)
              rw [hW3]
              clear hW3 Q1 HBi HK2 HS2
              go_upto_region 13 with (first
                | (go_at_call 45; refine (HNm.out _).mono ?_; rintro e w5 ⟨g5, cap5, rfl, H5⟩; have H5b := hid (H3.out.below H5.out.2))
                | (at_builtin; refine wpList_append_g rfl (.tmp 61) (.tmp 63) rfl w5 w.heap.size g cap _ nb HI.out.2.1.symm ?_ H5b.out.row g5 0 N.length cap5 N rfl ?_ HNl.out.2.1 H5.out.1.holds (by have := HI.out.2.1; have := HNl.out; omega) H5b.out.bel.size ?_; rfl; rfl; intro g6 cap6 w6 n6 hn6 hG6 hg6 hd6; have H6 := hid (H5b.out.step hG6 hg6 hd6); have hl6 : n6 ≤ 300018 := (by have h6 := hn6.out; rw [List.length_append, HI.out.2.1] at h6; have := HNl.out; omega); clear hG6 hg6 hd6))
              go_upto_region 14 with (first
                | (go_at_call 45; refine (HMm.out _).mono ?_; rintro e w7 ⟨g7, cap7, rfl, H7⟩; have H7b := hid (H6.out.below H7.out.2))
                | (at_builtin; refine wpList_append_g rfl (.tmp 65) (.tmp 70) rfl w7 w.heap.size g6 cap6 _ n6 hn6.out.symm ?_ H7b.out.row g7 0 M.length cap7 M rfl ?_ HNl.out.2.2.2 H7.out.1.holds (by have := hn6.out; have := HNl.out; omega) H7b.out.bel.size ?_; rfl; rfl; intro g8 cap8 w8 n8 hn8 hG8 hg8 hd8; have H8 := hid (H7b.out.step hG8 hg8 hd8); have hl8 : n8 ≤ 300027 := (by have h6 := hn8.out; rw [List.length_append, hn6.out] at h6; have := HNl.out; omega); clear hG8 hg8 hd8))
              go_upto_region 15 with (at_builtin; refine wpList_append_g rfl (.tmp 72) (.tmp 75) rfl w8 w.heap.size g8 cap8 _ n8 hn8.out.symm ?_ H8.out.row gk j (kl - j) (capk - j) ((keyL c).drop j) HDl.out.symm ?_ (by have := HDl.out; omega) (by have h1 := H8.out.key.holds.drop j; rwa [Nat.zero_add] at h1) (by have := hn8.out; have := HDl.out; omega) H8.out.bel.size ?_; rfl; rfl; intro g9 cap9 w9 n9 hn9 hG9 hg9 hd9; have H9 := hid (H8.out.step hG9 hg9 hd9); have hl9 : n9 ≤ 303027 := (by have h6 := hn9.out; rw [List.length_append, hn8.out, HDl.out] at h6; omega); clear hG9 hg9 hd9)
              obtain ⟨a0, a1, a2, a3, a4, a5, a6, a7⟩ := ct_words (HX.out.1.below H9.out.bel HX.out.2.2) i HX.out.2.1
              clear H3 H5 H5b H6 H7 H7b H8 hl6 hl8
              by_cases hk1 : c.k = 1
              · obtain ⟨vl, hvl⟩ : ∃ vl, (valL c).length = vl := ⟨_, rfl⟩
                have HVL := hid hvl
                have HK1 := hid hk1
                have hke : ((c.k : Int) == 1) = true := by simp [hk1]
                have hvl3 : vl ≤ 3000 := by rw [← hvl]; exact (bc_small HBcc.out).2
                have hvl0 : 0 < vl := by rw [← hvl]; exact valL_pos c
                have HVe : Hid (∀ W, Calls Tryz.prog 47 #[.agg #[.int .i64 c.vk, .int .i64 c.vn, .string c.s]] W fun e w' => ∃ gv capv, e = .returned (.tuple #[.slice (some ⟨gv, 0, none⟩) vl capv, .bool true]) ∧ Hid (RowG w' W.heap.size gv capv (valL c) ∧ Below W.heap.size W w')) := fun W => by
                  refine (dvenc_yes c HDcc.out HBcc.out.1 hk1 W).mono fun e w' ⟨v, he, hr, hb⟩ => ?_
                  obtain ⟨gv, capv, rfl, hG⟩ := hr.toG (valL_pos c)
                  rw [hvl] at he
                  exact ⟨gv, capv, he, hG, hb⟩
                obtain ⟨V, hV⟩ : ∃ V, numW vl = V := ⟨_, rfl⟩
                have HVV := hid hV
                have HVm : Hid (∀ W, Calls Tryz.prog 45 #[.int .i64 (vl : Int)] W fun e w' => ∃ g5 cap5, e = .returned (.slice (some ⟨g5, 0, none⟩) V.length cap5) ∧ Hid (RowG w' W.heap.size g5 cap5 V ∧ Below W.heap.size W w')) := fun W => by
                  rw [← hV]
                  refine (refnumd_any vl (by omega) W).mono fun e w' ⟨v, he, hr, hb⟩ => ?_
                  obtain ⟨g5, cap5, rfl, hG⟩ := hr.toG (numW_pos vl)
                  exact ⟨g5, cap5, he, hG, hb⟩
                have HVl : Hid (V.length ≤ 9 ∧ 0 < V.length) := by rw [← hV]; exact ⟨numW_len9 vl (by omega), numW_pos vl⟩
                clear hvl hk1 hV
                go_upto_region 17 with (go_at_call 47; refine (HVe.out _).mono ?_; rintro e w10 ⟨gv, capv, rfl, H10a⟩; have H10 := hid (H9.out.below H10a.out.2))
                go_upto_region 18 with (first
                  | (go_at_call 45; refine (HVm.out _).mono ?_; rintro e w11 ⟨g11, cap11, rfl, H11⟩; have H11b := hid (H10.out.below H11.out.2))
                  | (at_builtin; refine wpList_append_g rfl (.tmp 92) (.tmp 95) rfl w11 w.heap.size g9 cap9 _ n9 hn9.out.symm ?_ H11b.out.row g11 0 V.length cap11 V rfl ?_ HVl.out.2 H11.out.1.holds (by have := hn9.out; have := HVl.out; omega) H11b.out.bel.size ?_; rfl; rfl; intro g12 cap12 w12 n12 hn12 hG12 hg12 hd12; have H12 := hid (H11b.out.step hG12 hg12 hd12); have hl12 : n12 ≤ 303036 := (by have h6 := hn12.out; rw [List.length_append, hn9.out] at h6; have := HVl.out; omega); have HVh : Hid (Holds w12 gv 0 (valL c)) := ((H10a.out.1.below H11.out.2).holds).grown hg12 (fun e => by have h7 := Option.some.inj e; have h8 := H10a.out.1.lt; have h9 := H9.out.row.lt.2; omega); clear hG12 hg12 hd12))
                go_wp2_with (at_builtin; refine wpList_append_g rfl (.tmp 97) (.tmp 98) rfl w12 w.heap.size g12 cap12 _ n12 hn12.out.symm ?_ H12.out.row gv 0 vl capv (valL c) HVL.out.symm ?_ (by have := HVL.out; omega) HVh.out (by have := hn12.out; have := HVL.out; omega) H12.out.bel.size ?_; rfl; rfl; intro g14 cap14 w14 n14 hn14 hG14 hg14 hd14; have H14 := hid (H12.out.step hG14 hg14 hd14); clear hG14 hg14 hd14)
                go_roundw
                case rel =>
                  refine ⟨i + 1, _, _, _, by omega, by go_num, rfl, ?_⟩
                  have ho : _ = numW n ++ restB [] (l.take (i + 1)) := out_putd HTk.out HP.out HKl.out HVL.out HK1.out
                  have hl1 : lastK [] (l.take (i + 1)) = keyL c := by rw [HTk.out, lastK_snoc]
                  have h1 := hn14.out
                  have h2 := BuD.next H14.out (by rw [HKl.out]; exact hk3)
                  rw [← HNN.out, ← HMM.out, ← HVV.out] at h1 h2
                  rw [ho] at h1 h2
                  rw [HKl.out] at h2
                  rw [hl1]
                  exact ⟨h2, h1, by rw [← h1]; exact out_len HTk.out HI.out.2.1 HI.out.2.2 HOn.out⟩
                case measure => simp [intOf]; omega
              · have HK1 := hid hk1
                have hke : ((c.k : Int) == 1) = false := by simp [hk1]
                clear hk1
                go_wp2
                go_roundw
                case rel =>
                  refine ⟨i + 1, _, _, _, by omega, by go_num, rfl, ?_⟩
                  have ho : _ = numW n ++ restB [] (l.take (i + 1)) := out_otherd HTk.out HP.out HKl.out HK1.out
                  have hl1 : lastK [] (l.take (i + 1)) = keyL c := by rw [HTk.out, lastK_snoc]
                  have h1 := hn9.out
                  have h2 := BuD.next H9.out (by rw [HKl.out]; exact hk3)
                  rw [← HNN.out, ← HMM.out] at h1 h2
                  rw [ho] at h1 h2
                  rw [HKl.out] at h2
                  rw [hl1]
                  exact ⟨h2, h1, by rw [← h1]; exact out_len HTk.out HI.out.2.1 HI.out.2.2 HOn.out⟩
                case measure => simp [intOf]; omega
          · have hj1 : j < p := by have := HJ.out; rw [preL_next hx1 hx2] at this; omega
            have hla : j < la := by rw [← HLa.out]; exact (List.getElem?_eq_some_iff.1 hx1).1
            have hlaz : (j : Int) < (la : Int) := by omega
            obtain ⟨ba, oa, eA, _, Q2⟩ := keyst_at (KeySt.below HS2.out HBi.out) HLa.out hla
            subst eA
            rw [getd_some hx1] at Q2
            rw [getd_some hx2] at Q1
            have HJ2 : Hid (p = (j + 1) + preL ((lastK [] (l.take i)).drop (j + 1)) ((keyL c).drop (j + 1))) := by
              have := HJ.out
              rw [preL_next hx1 hx2] at this
              show p = _
              omega
            obtain ⟨u, hu⟩ : ∃ u : Int, ((x.toNat : Nat) : Int) = u := ⟨_, rfl⟩
            rw [hu] at Q1 Q2
            have hb : (u == u) = true := by simp
            clear hu hx1 hx2 HJ
            go_upto_region 10 with (fail)
            go_quiet (fail)
            go_wp2
            go_roundw
            case rel => exact ⟨j + 1, by omega, by go_num, HJ2.out, Go.below_drewN HBi.out _⟩
            case measure => simp [intOf]; omega
      · obtain rfl : i = n := by omega
        have HE : Hid (numW i ++ restB [] (l.take i) = blockB l) := by
          show _ = _
          unfold blockB
          rw [← HN.out, List.take_length]
        go_wp2
        go_ret2
        refine ⟨HI.out.1.bel, ?_⟩
        unfold BuEnd; rw [if_pos rfl]
        have h1 := HI.out.1.row.2
        rw [HI.out.2.1, HE.out] at h1
        exact ⟨_, rfl, h1⟩
end Go.Proofs.YtfcnobcpnhfgmaaGreatDoor
