/- Lists of package codec: the bytes of a list, and the list of bytes; the reader's some bytes and its list at any bytes; codec.Parts. Conditions: the reader holds the bytes, a hundred thousand at most. -/
import Derived.Test.YtfcnobcpnhfgmaaGreatDoorQB
import Derived.Test.YtfcnobcpnhfgmaaGreatDoorSLb
namespace Go.Proofs.YtfcnobcpnhfgmaaGreatDoor
open Go.RowKit

def rowsM : List (List UInt8) → List UInt8
  | [] => []
  | x :: t => numW x.length ++ (x ++ rowsM t)
/-- A list's bytes. -/
def listM (ls : List (List UInt8)) : List UInt8 := numW ls.length ++ rowsM ls
def ptM : Nat → List UInt8 → Option (List (List UInt8) × List UInt8)
  | 0, l => some ([], l)
  | n + 1, l => match tk l with
    | none => none
    | some (k, r) => if k ≤ r.length then (ptM n (r.drop k)).map fun p => (r.take k :: p.1, p.2) else none
/-- The list of bytes. -/
def partsM (l : List UInt8) : Option (List (List UInt8)) := match tk l with
  | none => none
  | some (n, r) => match ptM n r with
    | some (ls, []) => some ls
    | _ => none
theorem ptM_rows : ∀ (ls : List (List UInt8)) (u : List UInt8), (∀ x ∈ ls, x.length < 9223372036854775808) → ptM ls.length (rowsM ls ++ u) = some (ls, u)
  | [], u, _ => rfl
  | x :: t, u, h => by
    have hx := h x (List.mem_cons_self ..)
    show ptM (t.length + 1) _ = _
    rw [ptM]
    have e : rowsM (x :: t) ++ u = numW x.length ++ (x ++ (rowsM t ++ u)) := by
      show (numW x.length ++ (x ++ rowsM t)) ++ u = _
      simp [List.append_assoc]
    rw [e, tk_num _ hx]
    simp only []
    rw [if_pos (by simp), List.drop_left, List.take_left, ptM_rows t u (fun y hy => h y (List.mem_cons_of_mem _ hy))]
    rfl
theorem parts_list (ls : List (List UInt8)) (h : ∀ x ∈ ls, x.length < 9223372036854775808) (hl : ls.length < 9223372036854775808) : partsM (listM ls) = some ls := by
  unfold partsM listM
  rw [tk_num _ hl]
  have := ptM_rows ls [] h
  rw [List.append_nil] at this
  simp only [this]

set_option maxHeartbeats 1000000 in
theorem some_z0 (rb : Nat) (A : Option Addr) (w : World) (h0 : w.cell? ⟨rb, 0, none⟩ = some (.slice A 0 0)) (hf : w.frozen? ⟨rb, 0, none⟩ = false) :
    Calls Tryz.prog 182 #[.pointer (some ⟨rb, 0, none⟩), .int .i64 0] w fun e w' => e = .returned (.slice A 0 0) ∧ w' = w.setCell ⟨rb, 0, none⟩ (.slice A 0 0) := by
  cases A with
  | none =>
    go_enter Tryz.func182, Tryz.ntmps182
    go_wp2_with (go_at_call 171; refine (want_yes _ _).mono ?_; rintro e w1 ⟨rfl, rfl⟩)
    go_ret
    exact ⟨rfl, rfl⟩
  | some ad =>
    go_enter Tryz.func182, Tryz.ntmps182
    go_wp2_with (go_at_call 171; refine (want_yes _ _).mono ?_; rintro e w1 ⟨rfl, rfl⟩)
    go_ret
    exact ⟨rfl, rfl⟩
set_option maxHeartbeats 1000000 in
theorem some_z1 (rb c : Nat) (A : Option Addr) (hc : 0 < c) (_hc2 : c ≤ 9223372036854775807) (w : World) (h0 : w.cell? ⟨rb, 0, none⟩ = some (.slice A 0 c)) (hf : w.frozen? ⟨rb, 0, none⟩ = false) :
    Calls Tryz.prog 182 #[.pointer (some ⟨rb, 0, none⟩), .int .i64 0] w fun e w' => e = .returned (.slice A 0 c) ∧ w' = w.setCell ⟨rb, 0, none⟩ (.slice A 0 c) := by
  cases A with
  | none =>
    go_enter Tryz.func182, Tryz.ntmps182
    go_wp2_with (go_at_call 171; refine (want_yes _ _).mono ?_; rintro e w1 ⟨rfl, rfl⟩)
    go_ret
    exact ⟨rfl, rfl⟩
  | some ad =>
    go_enter Tryz.func182, Tryz.ntmps182
    go_wp2_with (go_at_call 171; refine (want_yes _ _).mono ?_; rintro e w1 ⟨rfl, rfl⟩)
    go_ret
    exact ⟨rfl, rfl⟩

def SoEndC (w : World) (rb : Nat) (l : List UInt8) (k : Nat) (e : Ending) (w' : World) : Prop :=
  But w.heap.size rb w w' ∧ if k ≤ l.length then (∃ A c, e = .returned (.slice A k c) ∧ HoldsA w' A (l.take k)) ∧ St w' rb (l.drop k) else e = otherP
theorem some_any (rb k : Nat) (l : List UInt8) (w : World) (h : St w rb l) :
    Calls Tryz.prog 182 #[.pointer (some ⟨rb, 0, none⟩), .int .i64 k] w (SoEndC w rb l k) := by
  obtain ⟨⟨v, h0, A, c, rfl, h2, h3, h4⟩, hf, hlt⟩ := id h
  unfold SoEndC
  by_cases hk : k ≤ l.length
  · by_cases hl : 0 < l.length
    · obtain ⟨b, off, rfl, hb, hh⟩ := h4 hl
      have hB : ∀ v, But w.heap.size rb w (w.setCell ⟨rb, 0, none⟩ v) := fun v => (But.refl _ _ _).setCell _ _
      have hR : Rd w rb (restV b off l.length c k) (l.drop k) := rd_rest hk h2 h3 hb hh
      have fin : ∀ w' e c', e = .returned (.slice (some ⟨b, off, none⟩) k c') → w' = w.setCell ⟨rb, 0, none⟩ (restV b off l.length c k) → But w.heap.size rb w w' ∧ if k ≤ l.length then (∃ A c, e = .returned (.slice A k c) ∧ HoldsA w' A (l.take k)) ∧ St w' rb (l.drop k) else e = otherP := by
        intro w' e c' he hw
        subst hw
        rw [if_pos hk]
        refine ⟨hB _, ⟨⟨_, c', he, fun _ => ⟨b, off, rfl, fun i hi => ?_⟩⟩, ⟨⟨_, cell_set_rb h0 _, hR.below ((hB _).low hlt)⟩, by rw [World.frozen?_setCell]; exact hf, by simpa using hlt⟩⟩⟩
        have hik : i < k := by rw [List.length_take] at hi; omega
        rw [World.cell?_setCell_other _ _ _ _ (by intro e; have := congrArg Addr.block e; simp at this; omega), hh i (by omega)]
        simp only [List.getD_eq_getElem?_getD, List.getElem?_take_of_lt hik]
      by_cases hkc : k < c
      · refine (some_in rb b off l.length c k hkc hk h2 h3 w h0 hf).mono fun e w' ⟨he, hw⟩ => fin w' e c he ?_
        unfold restV; rw [if_pos hkc]; exact hw
      · have e1 : c = k := by omega
        have e2 : l.length = k := by omega
        have h0' : w.cell? ⟨rb, 0, none⟩ = some (.slice (some ⟨b, off, none⟩) k k) := by rw [h0, e1, e2]
        refine (some_all rb b off k (by omega) w h0' hf).mono fun e w' ⟨he, hw⟩ => fin w' e k he ?_
        unfold restV; rw [if_neg hkc]; exact hw
    · have hl0 : l = [] := List.eq_nil_of_length_eq_zero (by omega)
      subst hl0
      obtain rfl : k = 0 := by simpa using hk
      have fin : ∀ w' e, e = .returned (.slice A 0 c) → w' = w.setCell ⟨rb, 0, none⟩ (.slice A 0 c) → But w.heap.size rb w w' ∧ if (0 : Nat) ≤ ([] : List UInt8).length then (∃ A c, e = .returned (.slice A 0 c) ∧ HoldsA w' A (([] : List UInt8).take 0)) ∧ St w' rb (([] : List UInt8).drop 0) else e = otherP := by
        intro w' e he hw
        subst hw
        rw [if_pos (by simp)]
        have hB : But w.heap.size rb w (w.setCell ⟨rb, 0, none⟩ (.slice A 0 c)) := (But.refl _ _ _).setCell _ _
        exact ⟨hB, ⟨_, c, he, fun h => absurd h (by simp)⟩, ⟨⟨_, cell_set_rb h0 _, A, c, rfl, by simp, h3, fun h => absurd h (by simp)⟩, by rw [World.frozen?_setCell]; exact hf, by simpa using hlt⟩⟩
      by_cases hc : 0 < c
      · exact (some_z1 rb c A hc h3 w h0 hf).mono fun e w' ⟨he, hw⟩ => fin w' e he hw
      · obtain rfl : c = 0 := by omega
        exact (some_z0 rb A w h0 hf).mono fun e w' ⟨he, hw⟩ => fin w' e he hw
  · exact (some_no rb l.length c k A (by omega) w h0).mono fun e w' ⟨he, hw⟩ => ⟨by rw [← hw]; exact But.refl _ _ _, by rw [if_neg hk]; exact he⟩

theorem RowL.but {w w' : World} {B rb : Nat} {v : Value} {xs : List (List UInt8)} (h : RowL w B v xs) (hb : But w.heap.size rb w w') (hr : rb < B) : RowL w' B v xs := by
  obtain ⟨vs, ho, hx⟩ := h
  refine ⟨vs, ?_, fun i x hi => ?_⟩
  · refine ⟨ho.1, ?_⟩
    rcases ho.2 with h2 | ⟨g, cap, cur, rfl, hB, hh, hrest⟩
    · exact .inl h2
    · have hg : g < w.heap.size := by
        rcases Nat.lt_or_ge g w.heap.size with h' | h'
        · exact h'
        · rw [Array.getElem?_eq_none h'] at hh; cases hh
      exact .inr ⟨g, cap, cur, rfl, hB, by rw [hb.block g hg (by omega)]; exact hh, hrest⟩
  · obtain ⟨u, hu, hR⟩ := hx i x hi
    exact ⟨u, hu, hR.but hb hr⟩

def LiEnd (w : World) (rb : Nat) (l : List UInt8) (e : Ending) (w' : World) : Prop :=
  But w.heap.size rb w w' ∧ match partsM l with
    | some ls => ∃ v, e = .returned v ∧ RowL w' w.heap.size v ls
    | none => e = otherP
theorem LiEnd.no {w w' : World} {rb : Nat} {l : List UInt8} (h : partsM l = none) (hb : But w.heap.size rb w w') : LiEnd w rb l otherP w' := by
  unfold LiEnd; rw [h]; exact ⟨hb, rfl⟩
theorem ptM_some {n : Nat} {l r : List UInt8} {k : Nat} (ht : tk l = some (k, r)) (hk : k ≤ r.length) : ptM (n + 1) l = (ptM n (r.drop k)).map fun p => (r.take k :: p.1, p.2) := by
  rw [ptM, ht]; simp only []; rw [if_pos hk]

set_option maxRecDepth 100000 in
set_option maxHeartbeats 4000000 in
theorem rlist_any (rb : Nat) (l : List UInt8) (hl : l.length ≤ 100000) (w : World) (h : St w rb l) :
    Calls Tryz.prog 160 #[.pointer (some ⟨rb, 0, none⟩)] w (LiEnd w rb l) := by
  have HLT := hid h.2.2
  have HN := number_any rb l w h
  unfold NEnd at HN
  cases ht : tk l with
  | none =>
    rw [ht] at HN
    have HN := hid HN
    have HP : Hid (partsM l = none) := by unfold Hid partsM; rw [ht]
    clear h ht
    go_enter Tryz.func160, Tryz.ntmps160
    go_wp2_with (go_at_call 151; refine HN.out.mono ?_; rintro e w1 ⟨hb1, rfl⟩)
    refine ⟨rfl, ?_⟩
    exact LiEnd.no HP.out hb1
  | some p =>
    obtain ⟨n, r0⟩ := p
    rw [ht] at HN
    obtain ⟨j, hj1, _, hj2, hr0, hn128⟩ := tkGo_rest _ _ _ _ _ ht
    have hr0l : r0.length ≤ 100000 := by rw [hr0, List.length_drop]; omega
    have hnb : n < 9223372036854775808 := by
      have hj9 : j ≤ 9 := by omega
      have : 128 ^ j ≤ 128 ^ 9 := Nat.pow_le_pow_right (by decide) hj9
      have : (128 : Nat) ^ 9 = 9223372036854775808 := by decide
      omega
    obtain ⟨y, hy⟩ : ∃ y : Int, (n : Int) = y := ⟨_, rfl⟩
    have HY := hid (And.intro hy hnb)
    have HN : Hid (Calls Tryz.prog 151 #[.pointer (some ⟨rb, 0, none⟩)] w fun e w' => But w.heap.size rb w w' ∧ e = .returned (.int .i64 y) ∧ St w' rb r0) := by rw [← hy]; exact HN
    have HP : Hid (∀ q, ptM n r0 = q → partsM l = match q with | some (ls, []) => some ls | _ => none) := fun q hq => by unfold partsM; rw [ht]; simp only []; rw [hq]
    have HR0 := hid hr0l
    have hy0 : 0 ≤ y := by omega
    have hyb : y ≤ 9223372036854775807 := by omega
    clear h ht hj1 hj2 hr0 hn128 hr0l hy hnb
    go_enter Tryz.func160, Tryz.ntmps160
    go_wp2_with (go_at_call 151; refine HN.out.mono ?_; rintro e w1 ⟨hb1, rfl, hS1⟩)
    clear HN
    have HB1 := hid hb1
    have HS1 := hid hS1
    clear hb1 hS1
    go_loopw [3, 6] (fun vl vi wr => ∃ (i : Nat) (x : Int) (xs : List (List UInt8)) (t : List UInt8), vi = .int .i64 x ∧ 0 ≤ x ∧ x ≤ y ∧ Hid (x = (i : Int)) ∧ Hid (RowL wr w.heap.size vl xs) ∧ Hid (ptM n r0 = (ptM (n - i) t).map fun p => (xs ++ p.1, p.2)) ∧ Hid (St wr rb t) ∧ Hid (But w.heap.size rb w wr) ∧ Hid (xs.length + t.length ≤ 100000)) (fun _ vi _ => y.toNat - (intOf vi).toNat)
    case atStart => exact ⟨0, 0, [], r0, rfl, by omega, hy0, rfl, RowL.none _ _, by unfold Hid; rw [Nat.sub_zero]; cases ptM n r0 <;> simp, HS1.out, HB1.out, by unfold Hid; have := HR0.out; simp; omega⟩
    case round =>
      obtain ⟨i, x, xs, t, rfl, hx0, hxy, HI, HR, HT, HS, HB, HL⟩ := hrel
      by_cases hlt : x < y
      · have HNN : Hid (n - i = (n - (i + 1)) + 1) := by have := HI.out; have := HY.out.1; unfold Hid; omega
        have HO := number_any rb t wr HS.out
        unfold NEnd at HO
        cases ht : tk t with
        | none =>
          rw [ht] at HO
          have HO := hid HO
          have HE : Hid (partsM l = none) := by
            have h1 := HT.out
            rw [HNN.out, ptM, ht] at h1
            exact HP.out _ h1
          clear ht
          go_wp2_with (go_at_call 151; refine HO.out.mono ?_; rintro e w2 ⟨hb2, rfl⟩)
          refine ⟨rfl, ?_⟩
          exact LiEnd.no HE.out (HB.out.trans (hb2.mono HB.out.size))
        | some p =>
          obtain ⟨k, r⟩ := p
          rw [ht] at HO
          obtain ⟨j, hj1, _, hj2, hr0, hk128⟩ := tkGo_rest _ _ _ _ _ ht
          have hrl : r.length + 1 ≤ t.length := by rw [hr0, List.length_drop]; omega
          obtain ⟨z, hz⟩ : ∃ z : Int, (k : Int) = z := ⟨_, rfl⟩
          have HO : Hid (Calls Tryz.prog 151 #[.pointer (some ⟨rb, 0, none⟩)] wr fun e w' => But wr.heap.size rb wr w' ∧ e = .returned (.int .i64 z) ∧ St w' rb r) := by rw [← hz]; exact HO
          by_cases hk : k ≤ r.length
          · have HM : Hid (∀ W, St W rb r → Calls Tryz.prog 182 #[.pointer (some ⟨rb, 0, none⟩), .int .i64 z] W fun e w' => But W.heap.size rb W w' ∧ (∃ A c, e = .returned (.slice A k c) ∧ HoldsA w' A (r.take k)) ∧ St w' rb (r.drop k)) := fun W hW => by
              rw [← hz]
              refine (some_any rb k r W hW).mono fun e w' h => ?_
              unfold SoEndC at h
              rwa [if_pos hk] at h
            have HCl : Hid (∀ W A c, HoldsA W A (r.take k) → Calls Tryz.prog 72 #[.slice A k c] W fun e w' => ∃ v, e = .returned v ∧ Row w' W.heap.size v (r.take k) ∧ Below W.heap.size W w') := fun W A c hA => by
              have h := clone_any A c (r.take k) (by have := HL.out; simp; omega) W hA
              rwa [show (r.take k).length = k by simp; omega] at h
            have HT2 : Hid (ptM n r0 = (ptM (n - (i + 1)) (r.drop k)).map fun p => ((xs ++ [r.take k]) ++ p.1, p.2)) := by
              unfold Hid
              rw [HT.out, HNN.out, ptM_some ht hk, Option.map_map]
              congr 1
              funext p
              simp
            have HL2 : Hid ((xs ++ [r.take k]).length + (r.drop k).length ≤ 100000) := by
              have := HL.out
              unfold Hid
              simp only [List.length_append, List.length_cons, List.length_nil, List.length_drop]
              omega
            have HXL : Hid (xs.length ≤ 1000000) := by have := HL.out; unfold Hid; omega
            clear ht hz hj1 hj2 hr0 hk128 hrl hk
            generalize r.take k = Y at HM HCl HT2 HL2
            go_wp2_with (first
              | (go_at_call 151; refine HO.out.mono ?_; rintro e w2 ⟨hb2, rfl, hS2⟩)
              | (go_at_call 182; refine (HM.out _ hS2).mono ?_; rintro e w3 ⟨hb3, ⟨A3, c3, rfl, hA3⟩, hS3⟩)
              | (go_at_call 72; refine (HCl.out _ _ _ hA3).mono ?_; rintro e w4 ⟨v4, rfl, hR4, hb4⟩; have HR4 := hid hR4; obtain ⟨A4, c4, rfl, _⟩ := hR4.sla)
              | (at_builtin; (refine wpList_append_row rfl (.tmp 8) (.tmp 14) rfl _ w.heap.size _ xs rfl ((((HR.out.but hb2 HLT.out).but hb3 HLT.out).below hb4).below (below_new _ _)) w4.heap.size 1 _ Y rfl (cell_one _ _ _) ((HR4.out.le (Nat.le_trans (Nat.le_trans HB.out.size hb2.size) hb3.size)).alloc _) HXL.out (by have := HB.out.size; have := hb2.size; have := hb3.size; have := hb4.size; simp; omega) ?_; intro v5 w5 hR5 hb5)))
            have hz3 : w.heap.size ≤ w3.heap.size := Nat.le_trans (Nat.le_trans HB.out.size hb2.size) hb3.size
            have hz4 : w.heap.size ≤ w4.heap.size := Nat.le_trans hz3 hb4.size
            have hk5 : Below w.heap.size w3 w5 := ((hb4.mono hz3).alloc hz4 _).trans hb5
            go_roundw
            case rel => exact ⟨i + 1, x + 1, xs ++ [Y], r.drop k, by go_num, by omega, by omega, by unfold Hid; have := HI.out; omega, hR5, HT2.out, hS3.keep (hk5.mono HLT.out), ((HB.out.trans (hb2.mono HB.out.size)).trans (hb3.mono (Nat.le_trans HB.out.size hb2.size))).trans (But.of_below hk5 rb), HL2.out⟩
            case measure => simp [intOf]; omega
          · have HM : Hid (∀ W, St W rb r → Calls Tryz.prog 182 #[.pointer (some ⟨rb, 0, none⟩), .int .i64 z] W fun e w' => But W.heap.size rb W w' ∧ e = otherP) := fun W hW => by
              rw [← hz]
              refine (some_any rb k r W hW).mono fun e w' h => ?_
              unfold SoEndC at h
              rwa [if_neg hk] at h
            have HE : Hid (partsM l = none) := by
              have h1 := HT.out
              rw [HNN.out, ptM, ht] at h1
              simp only [] at h1
              rw [if_neg hk] at h1
              exact HP.out _ h1
            clear ht hz hj1 hj2 hr0 hk128 hrl hk
            go_wp2_with (first
              | (go_at_call 151; refine HO.out.mono ?_; rintro e w2 ⟨hb2, rfl, hS2⟩)
              | (go_at_call 182; refine (HM.out _ hS2).mono ?_; rintro e w3 ⟨hb3, rfl⟩))
            refine ⟨rfl, ?_⟩
            exact LiEnd.no HE.out ((HB.out.trans (hb2.mono HB.out.size)).trans (hb3.mono (Nat.le_trans HB.out.size hb2.size)))
      · have HZ : Hid (n - i = 0) := by have := HI.out; have := HY.out.1; unfold Hid; omega
        have hst := HS.out
        obtain ⟨⟨v, hv, A, c, rfl, hs2, hs3, hs4⟩, hs5, hs6⟩ := hst
        cases t with
        | nil =>
          have hv : wr.cell? ⟨rb, 0, none⟩ = some (.slice A 0 c) := hv
          have HE : Hid (partsM l = some xs) := by
            have h1 := HT.out
            rw [HZ.out, ptM] at h1
            have h2 := HP.out _ h1
            unfold Hid
            simpa using h2
          clear hs2 hs3 hs4 hs5 hs6
          go_wp2_with (go_at_call 171; ((with_reducible refine (want_yes _ _).mono ?_); rintro e w9 ⟨rfl, rfl⟩))
          go_ret
          unfold LiEnd
          rw [HE.out]
          exact ⟨HB.out, _, rfl, HR.out⟩
        | cons y' t =>
          have hv : wr.cell? ⟨rb, 0, none⟩ = some (.slice A (t.length + 1) c) := hv
          have q9 : ((t.length : Int) + 1 == 0) = false := by simp; omega
          have HE : Hid (partsM l = none) := by
            have h1 := HT.out
            rw [HZ.out, ptM] at h1
            have h2 := HP.out _ h1
            unfold Hid
            simpa using h2
          clear hs2 hs3 hs4 hs5 hs6
          go_wp2_with (go_at_call 171; ((with_reducible refine (want_no _ _).mono ?_); rintro e w9 ⟨rfl, rfl⟩))
          refine ⟨rfl, ?_⟩
          exact LiEnd.no HE.out HB.out
end Go.Proofs.YtfcnobcpnhfgmaaGreatDoor
