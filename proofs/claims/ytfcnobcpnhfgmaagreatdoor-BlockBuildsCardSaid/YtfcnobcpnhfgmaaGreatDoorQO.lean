/- Several texts in one: NXa NX NPb NY NZ. Conditions: as each theorem names them. -/
import Derived.Test.YtfcnobcpnhfgmaaGreatDoorNE
import Derived.Test.YtfcnobcpnhfgmaaGreatDoorEI
import Derived.Deep.RegionHeld3
import Derived.RegionTactic
import Derived.Deep.QuietTactic
import Derived.BigQuiet
import Derived.Test.YtfcnobcpnhfgmaaGreatDoorQN
import Derived.Test.YtfcnobcpnhfgmaaGreatDoorEH
import Derived.Test.YtfcnobcpnhfgmaaGreatDoorQD
import Derived.Test.YtfcnobcpnhfgmaaGreatDoorQK
import Derived.Test.YtfcnobcpnhfgmaaGreatDoorNR
/- The document's piece of layer 8 at any bytes. Conditions: the slice holds its bytes, a hundred thousand at most. -/
namespace Go.Proofs.YtfcnobcpnhfgmaaGreatDoor
open Go.RowKit

/-- A slice that holds l, and stands in no block below B. -/
def SlF (W : World) (B : Nat) (v : Value) (l : List UInt8) : Prop := SlA W v l ∧ ∀ a n c, v = .slice (some a) n c → B ≤ a.block ∧ a.block < W.heap.size
theorem SlF.below {W W' : World} {B : Nat} {v : Value} {l : List UInt8} (h : SlF W B v l) (hb : Below W.heap.size W W') : SlF W' B v l :=
  ⟨h.1.below hb, fun a n c e => ⟨(h.2 a n c e).1, Nat.lt_of_lt_of_le (h.2 a n c e).2 hb.size⟩⟩
theorem SlF.le {W : World} {B B' : Nat} {v : Value} {l : List UInt8} (h : SlF W B v l) (hB : B' ≤ B) : SlF W B' v l :=
  ⟨h.1, fun a n c e => ⟨Nat.le_trans hB (h.2 a n c e).1, (h.2 a n c e).2⟩⟩
theorem SlF.grown {W W' : World} {B : Nat} {v : Value} {l : List UInt8} {row : Option Nat} (h : SlF W B v l) (hg : W.grownBy W' row) (hr : ∀ k, row = some k → k < B) : SlF W' B v l := by
  obtain ⟨⟨A, c, e, h1, h2, h3, h4⟩, h5⟩ := h
  refine ⟨⟨A, c, e, h1, h2, fun h0 => ?_, h4⟩, fun a n c' e' => ⟨(h5 a n c' e').1, Nat.lt_of_lt_of_le (h5 a n c' e').2 hg.size⟩⟩
  obtain ⟨b, off, eA, hh⟩ := h3 h0
  have h6 := h5 ⟨b, off, none⟩ l.length c (by rw [e, eA])
  exact ⟨b, off, eA, hh.grown hg (fun e2 => by have h7 := hr b e2.symm; have h8 : B ≤ b := h6.1; omega)⟩
theorem Row.slf {W : World} {B : Nat} {v : Value} {l : List UInt8} (h : Row W B v l) : SlF W B v l :=
  ⟨h.sla, fun a n c e => by subst e; exact World.ownsRow.lt h a.block rfl⟩
theorem slf_nil (W : World) (B : Nat) : SlF W B (.slice none 0 0) [] := ⟨⟨none, 0, rfl, by simp, by omega, fun h => absurd h (by simp), fun _ => rfl⟩, fun a n c e => by cases e⟩
theorem slf_zero {W : World} {B g o : Nat} (h1 : B ≤ g) (h2 : g < W.heap.size) : SlF W B (.slice (some ⟨g, o, none⟩) 0 0) [] := ⟨⟨_, 0, rfl, by simp, by omega, fun h => absurd h (by simp), fun e => by cases e⟩, fun a n c e => by injection e with e1; injection e1 with e1; subst e1; exact ⟨h1, h2⟩⟩
theorem row_cuts {W : World} {B g rl c : Nat} {r : List UInt8} (h : Row W B (.slice (some ⟨g, 0, none⟩) rl c) r) (hrl : r.length = rl) (hc : rl ≤ c) (hc2 : c ≤ 9223372036854775807) (n : Nat) (hn : n ≤ rl) :
    SlF W B (.slice (some ⟨g, 0, none⟩) n c) (r.take n) ∧ SlF W B (.slice (some ⟨g, n, none⟩) (rl - n) (c - n)) (r.drop n) := by
  have hlt := World.ownsRow.lt h g rfl
  have hh : Holds W g 0 r := by
    rcases Nat.eq_zero_or_pos r.length with h0 | h0
    · intro i hi
      omega
    · obtain ⟨g', cap', e, _, _, _, hcell⟩ := h.form h0
      injection e with e1
      injection e1 with e1
      injection e1 with e1
      subst e1
      intro i hi
      rw [Nat.zero_add]
      exact hcell i hi
  refine ⟨⟨⟨_, c, ?_, ?_, hc2, fun _ => ⟨g, 0, rfl, fun i hi => ?_⟩, fun e => by cases e⟩, fun a m c' e => ?_⟩, ⟨⟨_, c - n, ?_, ?_, by omega, fun _ => ⟨g, n, rfl, fun i hi => ?_⟩, fun e => by cases e⟩, fun a m c' e => ?_⟩⟩
  · rw [List.length_take, hrl, Nat.min_eq_left hn]
  · rw [List.length_take]; omega
  · rw [List.length_take] at hi
    rw [hh i (by omega)]
    simp only [List.getD_eq_getElem?_getD, List.getElem?_take_of_lt (show i < n by omega)]
  · injection e with e1
    injection e1 with e1
    subst e1
    exact hlt
  · rw [List.length_drop, hrl]
  · rw [List.length_drop]; omega
  · rw [List.length_drop] at hi
    have := hh (n + i) (by omega)
    rw [Nat.zero_add] at this
    rw [this]
    simp only [List.getD_eq_getElem?_getD, List.getElem?_drop]
  · injection e with e1
    injection e1 with e1
    subst e1
    exact hlt
/-- What piece leaves. -/
def PcE (w : World) : Option (List UInt8 × List UInt8) → Ending → World → Prop
  | some p, e, w' => ∃ v1 v2, e = .returned (.tuple #[v1, v2, .bool true]) ∧ SlF w' w.heap.size v1 p.1 ∧ SlF w' w.heap.size v2 p.2 ∧ Below w.heap.size w w'
  | none, e, w' => e = .returned (.tuple #[.slice none 0 0, .slice none 0 0, .bool false]) ∧ Below w.heap.size w w'

set_option maxRecDepth 100000 in
set_option maxHeartbeats 4000000 in
theorem piece_any (v : Value) (l : List UInt8) (hl : l.length ≤ 100000) (w : World) (h : SlA w v l) :
    Calls Tryz.prog 57 #[v] w (PcE w (cntT l)) := by
  have mixed : Tryz.prog.follows .mixedOrders = true := by kernel_rfl
  have HT0 := reftake3_any v l (by omega) w h
  cases ht : tk l with
  | none =>
    have e : cntT l = none := by unfold cntT; rw [ht]
    rw [e]
    rw [ht] at HT0
    have HT : Hid (Calls Tryz.prog 56 #[v] w fun e w' => e = .returned (.tuple #[.int .i64 0, .slice none 0 0, .bool false]) ∧ Below w.heap.size w w') := HT0
    clear h ht HT0 e
    go_enter Tryz.func57, Tryz.ntmps57
    go_wp2_with (go_at_call 56; refine HT.out.mono ?_; rintro e w1 ⟨rfl, hb1⟩)
    go_ret3
    exact ⟨rfl, hb1⟩
  | some p =>
    obtain ⟨n, r⟩ := p
    rw [ht] at HT0
    have HT : Hid (Calls Tryz.prog 56 #[v] w fun e w' => ∃ v1, e = .returned (.tuple #[.int .i64 (n : Int), v1, .bool true]) ∧ Row w' w.heap.size v1 r ∧ Below w.heap.size w w') := HT0
    have hlt := tk_less ht
    by_cases hn : n ≤ r.length
    · have e : cntT l = some (r.take n, r.drop n) := by unfold cntT; rw [ht]; simp only; rw [if_pos hn]
      rw [e]
      clear h ht HT0 e
      obtain ⟨rl, hrl⟩ : ∃ rl, r.length = rl := ⟨_, rfl⟩
      have HRl := hid hrl
      rw [hrl] at hn hlt
      clear hrl
      go_enter Tryz.func57, Tryz.ntmps57
      go_upto_region 2 with (go_at_call 56; refine HT.out.mono ?_; rintro e w1 ⟨v1, rfl, hr1, hb1⟩)
      have HB := hid hb1
      have HR := hid hr1
      clear hr1 hb1 HT
      have hng : ¬ (rl : Int) < (n : Int) := by omega
      rcases row_form3 HR.out with ⟨rfl, hz⟩ | ⟨g, c, rfl, hc1, hc2⟩
      · obtain rfl : rl = 0 := by rw [← HRl.out, hz]; rfl
        obtain rfl : n = 0 := by omega
        have HZ := hid hz
        clear hz
        go_upto_region 4 with (fail)
        go_region
        all_goals
          go_wp2
          go_ret3
          refine ⟨_, _, rfl, ?_, ?_, (by repeat' (first | exact HB.out | exact Below.refl _ _ | apply Below.drew | apply Go.below_drewN))⟩
          · rw [HZ.out]; exact slf_nil _ _
          · rw [HZ.out]; exact slf_nil _ _
      · rw [HRl.out] at hc1 HR ⊢
        have HCu := hid (row_cuts HR.out HRl.out hc1 hc2 n hn)
        have hn0 : (0 : Int) ≤ (n : Int) := by omega
        have hnr : (n : Int) ≤ (rl : Int) := by omega
        have hnc : (n : Int) ≤ (c : Int) := by omega
        by_cases hcc : n < c
        · go_upto_region 4 with (fail)
          go_region
          all_goals
            go_wp2
            go_ret3
            exact ⟨_, _, rfl, SlF.below HCu.out.1 (by repeat' (first | exact HB.out | exact Below.refl _ _ | apply Below.drew | apply Go.below_drewN)), SlF.below HCu.out.2 (by repeat' (first | exact HB.out | exact Below.refl _ _ | apply Below.drew | apply Go.below_drewN)), (by repeat' (first | exact HB.out | exact Below.refl _ _ | apply Below.drew | apply Go.below_drewN))⟩
        · obtain rfl : n = c := by omega
          obtain rfl : rl = n := by omega
          go_upto_region 4 with (fail)
          go_region
          all_goals
            go_wp2
            go_ret3
            refine ⟨_, _, rfl, SlF.below HCu.out.1 (by repeat' (first | exact HB.out | exact Below.refl _ _ | apply Below.drew | apply Go.below_drewN)), ?_, (by repeat' (first | exact HB.out | exact Below.refl _ _ | apply Below.drew | apply Go.below_drewN))⟩
            rw [List.drop_of_length_le (Nat.le_of_eq HRl.out)]
            exact slf_zero (World.ownsRow.lt HR.out g rfl).1 (World.ownsRow.lt HR.out g rfl).2
    · have e : cntT l = none := by unfold cntT; rw [ht]; simp only; rw [if_neg hn]
      rw [e]
      clear h ht HT0 e
      obtain ⟨rl, hrl⟩ : ∃ rl, r.length = rl := ⟨_, rfl⟩
      have HRl := hid hrl
      rw [hrl] at hn hlt
      clear hrl
      have hng : (rl : Int) < (n : Int) := by omega
      go_enter Tryz.func57, Tryz.ntmps57
      go_upto_region 2 with (go_at_call 56; refine HT.out.mono ?_; rintro e w1 ⟨v1, rfl, hr1, hb1⟩)
      obtain ⟨A1, c1, e1, _⟩ := hr1.sla
      rw [HRl.out] at e1
      subst e1
      go_wp2
      go_ret3
      exact ⟨rfl, hb1⟩
end Go.Proofs.YtfcnobcpnhfgmaaGreatDoor

/- The document's Parse of layer 8 at any bytes. Conditions: the slice holds its bytes, sixty thousand at most; they are a block's, or two thousand at most. -/
namespace Go.Proofs.YtfcnobcpnhfgmaaGreatDoor
open Go.RowKit

/-- A block of right cells in order whose bytes are l. -/
def GoodB (l : List UInt8) (ds : List CT) : Prop := (∀ c ∈ ds, Bc c) ∧ fineK [] ds = true ∧ ds.length ≤ 1000 ∧ blockB ds = l
theorem none_good {l : List UInt8} (h : ∀ ds, ¬ GoodB l ds) : NoBlock l := fun ds g1 g2 g3 g4 => h ds ⟨g1, g2, g3, g4⟩
/-- What the document's Parse has read. -/
structure DRd (l : List UInt8) (n : Nat) (cs : List CT) (rest last : List UInt8) : Prop where
  n1 : n ≤ 1000
  bc : ∀ c ∈ cs, Bc c
  good : ∀ ds, GoodB l ds → ds.length = n ∧ last = lastK [] cs ∧ ∃ m, ds = cs ++ m ∧ rest = restB last m ∧ fineK last m = true
theorem drd_start {l r : List UInt8} {n : Nat} (h : tk l = some (n, r)) (hn : n ≤ 1000) : DRd l n [] r [] := by
  refine ⟨hn, fun c hc => by (cases hc), fun ds hd => ?_⟩
  obtain ⟨g1, g2, g3, g4⟩ := hd
  rw [← g4] at h
  unfold blockB at h
  rw [tk_num ds.length (by omega)] at h
  cases h
  exact ⟨rfl, rfl, ds, rfl, rfl, g2⟩
/-- How a cell's bytes are read. -/
structure OneRd (a : List UInt8) (c : CT) (rest r1 r2 R : List UInt8) (k : Nat) (x : List UInt8) : Prop where
  t1 : tk rest = some (k, r1)
  p1 : k ≤ a.length
  t2 : cntT r1 = some (x, r2)
  ne : x.length ≠ 0
  key : a.take k ++ x = keyL c
  put : c.k = 1 → cntT r2 = some (valL c, R)
  oth : ¬ c.k = 1 → r2 = R
theorem one_read {a R : List UInt8} {c : CT} (h : Bc c) (hlt : Lib.compareBytes a (keyL c) < 0) : OneRd a c (oneB a c ++ R) (numW ((keyL c).length - preL a (keyL c)) ++ ((keyL c).drop (preL a (keyL c)) ++ (vpB c ++ R))) (vpB c ++ R) R (preL a (keyL c)) ((keyL c).drop (preL a (keyL c))) := by
  obtain ⟨h1, h2⟩ := bc_small h
  have h3 := pre_lt hlt
  have h4 := preL_le a (keyL c)
  have e : (keyL c).length - preL a (keyL c) = ((keyL c).drop (preL a (keyL c))).length := by rw [List.length_drop]
  refine ⟨by rw [oneB_app, tk_num _ (by omega)], h4.1, ?_, by rw [List.length_drop]; omega, by rw [preL_take, List.take_append_drop], fun hk => ?_, fun hk => ?_⟩
  · rw [e, cnt_yes (by rw [List.length_drop]; omega)]
  · unfold vpB
    rw [if_pos hk, List.append_assoc, cnt_yes (by omega)]
  · unfold vpB
    rw [if_neg hk, List.nil_append]
/-- What is so of the next cell, where there is one. -/
structure NextG (l : List UInt8) (n : Nat) (cs : List CT) (last rest : List UInt8) (ds : List CT) (c : CT) (m : List CT) (r1 r2 : List UInt8) (k : Nat) (x : List UInt8) : Prop where
  len : ds.length = n
  eq : ds = cs ++ c :: m
  bc : Bc c
  lst : last = lastK [] cs
  fine : fineK (keyL c) m = true
  rd : OneRd last c rest r1 r2 (restB (keyL c) m) k x
theorem drd_next {l : List UInt8} {n : Nat} {cs : List CT} {rest last : List UInt8} (h : DRd l n cs rest last) (hlt : cs.length < n) (ds : List CT) (hd : GoodB l ds) : ∃ c m r1 r2 k x, NextG l n cs last rest ds c m r1 r2 k x := by
  obtain ⟨h1, h2, m, h3, h4, h5⟩ := h.good ds hd
  cases m with
  | nil =>
    rw [h3, List.append_nil] at h1
    omega
  | cons c m =>
    obtain ⟨_, p2, p3⟩ := fineK_cons h5
    have hc : Bc c := hd.1 c (by rw [h3]; exact List.mem_append_right _ List.mem_cons_self)
    have h6 := one_read (a := last) (R := restB (keyL c) m) hc p2
    have h7 : rest = oneB last c ++ restB (keyL c) m := h4
    rw [← h7] at h6
    exact ⟨c, m, _, _, _, _, h1, h3, hc, h2, p3, h6⟩
theorem last_kind {c : CT} (h : c.ok = true) {L : List UInt8} (e : L = keyL c) {z : UInt8} (hz : L[L.length - 1]? = some z) : (c.k = 1 ↔ z.toNat = 254) := by
  subst e
  have h1 := keyL_last c
  rw [List.getLast?_eq_getElem?, hz] at h1
  have h2 := Option.some.inj h1
  obtain ⟨_, _, _, _, _, _, _, p1, p4, _⟩ := cright_parts h
  rw [h2, UInt8.toNat_ofNat']
  omega
theorem drd_go {l : List UInt8} {n : Nat} {cs : List CT} {rest last L2 r3 : List UInt8} {X : CT} (h : DRd l n cs rest last) (hX : Bc X)
    (hg : ∀ ds, GoodB l ds → ∃ m, ds = cs ++ X :: m ∧ L2 = keyL X ∧ r3 = restB (keyL X) m ∧ fineK (keyL X) m = true) : DRd l n (cs ++ [X]) r3 L2 := by
  refine ⟨h.n1, fun c hc => ?_, fun ds hd => ?_⟩
  · rcases List.mem_append.1 hc with hc | hc
    · exact h.bc c hc
    · rw [List.mem_singleton.1 hc]; exact hX
  · obtain ⟨m, e1, e2, e3, e4⟩ := hg ds hd
    exact ⟨(h.good ds hd).1, by rw [lastK_snoc, e2], m, by rw [e1, List.append_assoc]; rfl, by rw [e2, e3], by rw [e2]; exact e4⟩

theorem drefdec (v : Value) (l : List UInt8) (hl : l.length ≤ 4000) (w : World) (h : SlA w v l) :
    Calls Tryz.prog 59 #[v] w fun e w' => ∃ (x : CT) (ok : Bool), e = .returned (.tuple #[x.v, .bool ok]) ∧ Below w.heap.size w w' ∧ ((ok = true ∧ Bc x ∧ encB x = l) ∨ (ok = false ∧ NoCell l)) := by
  refine (refdecode3_any v l hl w h).mono fun e w' ⟨hb, hd⟩ => ?_
  rcases hd with ⟨r, f, q, t, k, vk, vn, vs, h1, h2, h3, he⟩ | ⟨hno, he⟩
  · exact ⟨⟨⟨r.toArray⟩, ⟨f.toArray⟩, ⟨q.toArray⟩, t, k, vk, vn, ⟨vs.toArray⟩⟩, true, he, hb, .inl ⟨rfl, bc_right h1 h2, h3⟩⟩
  · exact ⟨⟨⟨#[]⟩, ⟨#[]⟩, ⟨#[]⟩, 0, 0, 0, 0, ⟨#[]⟩⟩, false, he, hb, .inr ⟨rfl, hno⟩⟩
theorem no_enc {c : CT} (h : Bc c) {l : List UInt8} (hn : NoCell l) (e : encB c = l) : False := hn _ _ _ _ _ _ _ _ h.1 h.2.1 e

/-- Where the loop of the document's Parse is. -/
structure DPi (l : List UInt8) (n : Nat) (w W : World) (i : Nat) (vr vo : Value) (lb lo lc : Nat) (cs : List CT) (rest last : List UInt8) : Prop where
  bel : Below w.heap.size w W
  row : CRow W w.heap.size vo cs
  ls : Holds W lb lo last
  lb : lb < W.heap.size
  lc : last.length ≤ lc ∧ lc ≤ 9223372036854775807
  rs : SlA W vr rest
  ln : cs.length = i
  bd : last.length + rest.length ≤ l.length
  rd : DRd l n cs rest last
theorem cnt_less {l x r : List UInt8} (h : cntT l = some (x, r)) : x.length + r.length ≤ l.length := by
  have := congrArg List.length (cnt_back h)
  rw [List.length_append, List.length_append] at this
  omega
set_option maxRecDepth 100000 in
set_option maxHeartbeats 16000000 in
theorem refparse_any (v : Value) (l : List UInt8) (hl : l.length ≤ 60000) (hgd : l.length ≤ 2000 ∨ ∃ ds, GoodB l ds) (w : World) (h : SlA w v l) :
    Calls Tryz.prog 21 #[v] w (PaEnd8 l w) := by
  have mixed : Tryz.prog.follows .mixedOrders = true := by kernel_rfl
  have HT0 := reftake3_any v l (by omega) w h
  cases ht : tk l with
  | none =>
    rw [ht] at HT0
    have HT : Hid (Calls Tryz.prog 56 #[v] w fun e w' => e = .returned (.tuple #[.int .i64 0, .slice none 0 0, .bool false]) ∧ Below w.heap.size w w') := HT0
    have hno := hid (no_num ht)
    clear h ht HT0 hl hgd
    go_enter Tryz.func21, Tryz.ntmps21
    go_wp2_with (go_at_call 56; refine HT.out.mono ?_; rintro e w1 ⟨rfl, hb1⟩)
    go_ret2
    exact ⟨hb1, .inr ⟨rfl, hno.out⟩⟩
  | some p =>
    obtain ⟨n, r⟩ := p
    rw [ht] at HT0
    have HT : Hid (Calls Tryz.prog 56 #[v] w fun e w' => ∃ v1, e = .returned (.tuple #[.int .i64 (n : Int), v1, .bool true]) ∧ Row w' w.heap.size v1 r ∧ Below w.heap.size w w') := HT0
    by_cases hn : 1000 < n
    · have hno := hid (no_great ht hn)
      have hnz : 1000 < (n : Int) := by omega
      clear h ht HT0 hl hgd
      go_enter Tryz.func21, Tryz.ntmps21
      go_wp2_with (go_at_call 56; refine HT.out.mono ?_; rintro e w1 ⟨v1, rfl, hr1, hb1⟩)
      go_ret2
      exact ⟨hb1, .inr ⟨rfl, hno.out⟩⟩
    · have hnz : ¬ 1000 < (n : Int) := by omega
      have hn2 : n ≤ 1000 := by omega
      have HRd := hid (drd_start ht hn2)
      have HRl : Hid (r.length ≤ l.length) := by have := tk_less ht; show _ ≤ _; omega
      have HL2 := hid hl
      have HV := hid h
      have HGd := hid hgd
      clear h ht HT0 hl hn hgd
      go_enter Tryz.func21, Tryz.ntmps21
      go_upto_region 6 with (go_at_call 56; refine HT.out.mono ?_; rintro e w1 ⟨v1, rfl, hr1, hb1⟩)
      obtain ⟨W0, hW0⟩ : ∃ W0, (w1.alloc (.cells #[] 26)).alloc (.cells #[] 5) = W0 := ⟨_, rfl⟩
      have HI : Hid (DPi l n w W0 0 v1 (.slice (some ⟨w1.heap.size, 0, none⟩) 0 0) (w1.heap.size + 1) 0 0 [] r []) := by
        rw [← hW0]
        have h1 := below_new w1 (.cells #[] 26)
        have h2 := below_new (w1.alloc (.cells #[] 26)) (.cells #[] 5)
        have h3 : Below w1.heap.size w1 ((w1.alloc (.cells #[] 26)).alloc (.cells #[] 5)) := h1.trans (h2.mono h1.size)
        exact ⟨hb1.trans (h3.mono hb1.size), CRow.below (empty_crow w1 w.heap.size hb1.size) h2, fun i hi => by simp at hi, by simp, by simp, hr1.sla.below h3, rfl, by have := HRl.out; simpa using this, HRd.out⟩
      rw [hW0]
      clear hW0 hr1 hb1 HT HRl HRd
      go_wp2
      go_loopw [5, 7, 8, 9] (fun vr vo vl vi wr => ∃ (i : Nat) (cs : List CT) (rest last : List UInt8) (lb lo lc la : Nat), i ≤ n ∧ vi = .int .i64 i ∧ vl = .slice (some ⟨lb, lo, none⟩) la lc ∧ Hid (last.length = la) ∧ Hid (DPi l n w wr i vr vo lb lo lc cs rest last)) (fun _ _ _ vi _ => n - (intOf vi).toNat)
      case atStart => exact ⟨0, [], r, [], _, 0, 0, 0, Nat.zero_le _, rfl, rfl, rfl, HI.out⟩
      case round =>
        clear HI
        obtain ⟨i, cs, rest, last, lb, lo, lc, la, hi, rfl, rfl, HLa, H⟩ := hrel
        by_cases hlt : i < n
        · have hltz : (i : Int) < (n : Int) := by omega
          have HNx : Hid (∀ ds, GoodB l ds → ∃ c m r1 r2 k x, NextG l n cs last rest ds c m r1 r2 k x) := drd_next H.out.rd (by rw [H.out.ln]; exact hlt)
          have hb2 : la + rest.length ≤ 60000 := by have := H.out.bd; have := HL2.out; have := HLa.out; omega
          have HK0 := reftake3_any u5 rest (by omega) wr H.out.rs
          cases h1 : tk rest with
          | none =>
            rw [h1] at HK0
            have HK : Hid (Calls Tryz.prog 56 #[u5] wr fun e w' => e = .returned (.tuple #[.int .i64 0, .slice none 0 0, .bool false]) ∧ Below wr.heap.size wr w') := HK0
            have hno : Hid (NoBlock l) := none_good fun ds hd => by
              obtain ⟨c, m, r1, r2, k, x, g⟩ := HNx.out ds hd
              have := g.rd.t1
              rw [h1] at this
              cases this
            clear h1 HK0
            go_wp2_with (go_at_call 56; refine HK.out.mono ?_; rintro e w2 ⟨rfl, hb3⟩)
            go_ret2
            exact ⟨H.out.bel.trans (hb3.mono H.out.bel.size), .inr ⟨rfl, hno.out⟩⟩
          | some p =>
            obtain ⟨k, r1⟩ := p
            rw [h1] at HK0
            have HK : Hid (Calls Tryz.prog 56 #[u5] wr fun e w' => ∃ v1, e = .returned (.tuple #[.int .i64 (k : Int), v1, .bool true]) ∧ Row w' wr.heap.size v1 r1 ∧ Below wr.heap.size wr w') := HK0
            have hr1 := tk_less h1
            have HN1 : Hid (∀ ds, GoodB l ds → ∃ c m r2 x, NextG l n cs last rest ds c m r1 r2 k x) := fun ds hd => by
              obtain ⟨c, m, r1', r2, k', x, g⟩ := HNx.out ds hd
              have e := g.rd.t1
              rw [h1] at e
              cases e
              exact ⟨c, m, r2, x, g⟩
            clear h1 HK0 HNx
            by_cases hk : la < k
            · have hkz : (la : Int) < (k : Int) := by omega
              have hno : Hid (NoBlock l) := none_good fun ds hd => by
                obtain ⟨c, m, r2, x, g⟩ := HN1.out ds hd
                have := g.rd.p1
                rw [HLa.out] at this
                omega
              go_wp2_with (go_at_call 56; refine HK.out.mono ?_; rintro e w2 ⟨v2, rfl, hr2, hb3⟩)
              go_ret2
              exact ⟨H.out.bel.trans (hb3.mono H.out.bel.size), .inr ⟨rfl, hno.out⟩⟩
            · have hkz : ¬ (la : Int) < (k : Int) := by omega
              have HP0 : ∀ (W : World) (u : Value), SlA W u r1 → Calls Tryz.prog 57 #[u] W (PcE W (cntT r1)) := fun W u hu => piece_any u r1 (by omega) W hu
              cases h2 : cntT r1 with
              | none =>
                rw [h2] at HP0
                have HP : Hid (∀ (W : World) (u : Value), SlA W u r1 → Calls Tryz.prog 57 #[u] W fun e w' => e = .returned (.tuple #[.slice none 0 0, .slice none 0 0, .bool false]) ∧ Below W.heap.size W w') := HP0
                have hno : Hid (NoBlock l) := none_good fun ds hd => by
                  obtain ⟨c, m, r2, x, g⟩ := HN1.out ds hd
                  have e := g.rd.t2
                  rw [h2] at e
                  cases e
                clear h2 HP0
                go_wp2_with (first
                  | (go_at_call 56; refine HK.out.mono ?_; rintro e w2 ⟨v2, rfl, hr2, hb3⟩)
                  | (go_at_call 57; refine (HP.out _ _ hr2.sla).mono ?_; rintro e w3 ⟨rfl, hb4⟩))
                go_ret2
                exact ⟨H.out.bel.trans ((hb3.trans (hb4.mono hb3.size)).mono H.out.bel.size), .inr ⟨rfl, hno.out⟩⟩
              | some p =>
                obtain ⟨x, r2⟩ := p
                rw [h2] at HP0
                have HP : Hid (∀ (W : World) (u : Value), SlA W u r1 → Calls Tryz.prog 57 #[u] W fun e w' => ∃ v1 v2, e = .returned (.tuple #[v1, v2, .bool true]) ∧ SlF w' W.heap.size v1 x ∧ SlF w' W.heap.size v2 r2 ∧ Below W.heap.size W w') := HP0
                have hx2 := cnt_less h2
                have HN2 : Hid (∀ ds, GoodB l ds → ∃ c m, NextG l n cs last rest ds c m r1 r2 k x) := fun ds hd => by
                  obtain ⟨c, m, r2', x', g⟩ := HN1.out ds hd
                  have e := g.rd.t2
                  rw [h2] at e
                  cases e
                  exact ⟨c, m, g⟩
                obtain ⟨xl, hxl⟩ : ∃ xl, x.length = xl := ⟨_, rfl⟩
                have HXl := hid hxl
                rw [hxl] at hx2
                clear h2 HP0 HN1 hxl
                go_upto_region 13 with (first
                  | (go_at_call 56; refine HK.out.mono ?_; rintro e w2 ⟨v2, rfl, hr2, hb3⟩; have HB2 := hid hb3; have HR2 := hid hr2; clear hb3 hr2)
                  | (go_at_call 57; refine (HP.out _ _ HR2.out.sla).mono ?_; rintro e w3 ⟨v3, v4, rfl, h3, h4, hb4⟩; have HB3 := hid (HB2.out.trans (hb4.mono HB2.out.size)); have HX3 := hid (h3.le HB2.out.size); have HM3 := hid (h4.le HB2.out.size); clear h3 h4 hb4))
                obtain ⟨Ax, cx, ex, hx5, hx6, hx7⟩ := HX3.out.1
                rw [HXl.out] at ex hx5
                subst ex
                have HXa := hid hx7.1
                clear hx7 HP HK
                by_cases hx0 : xl = 0
                · subst hx0
                  have hno : Hid (NoBlock l) := none_good fun ds hd => by
                    obtain ⟨c, m, g⟩ := HN2.out ds hd
                    exact g.rd.ne HXl.out
                  go_wp2
                  go_ret2
                  exact ⟨H.out.bel.trans (HB3.out.mono H.out.bel.size), .inr ⟨rfl, hno.out⟩⟩
                · have hxz : ((xl : Int) == 0) = false := by rw [beq_eq_false_iff_ne]; omega
                  have hkl : (k : Int) ≤ (la : Int) := by omega
                  have hklc : (k : Int) ≤ (lc : Int) := by have := H.out.lc.1; have := HLa.out; omega
                  have HTk : Hid ((last.take k).length = k) := by show _ = _; rw [List.length_take, HLa.out]; omega
                  have HCp : Hid (Calls Tryz.prog 58 #[.slice (some ⟨lb, lo, none⟩) k lc] w3 fun e w' => ∃ v', e = .returned v' ∧ Row w' w3.heap.size v' (last.take k) ∧ Below w3.heap.size w3 w') := by
                    refine copyd_any _ (last.take k) (by rw [HTk.out]; omega) w3 ⟨_, lc, by rw [HTk.out], by rw [HTk.out]; omega, H.out.lc.2, fun _ => ⟨lb, lo, rfl, fun j hj => ?_⟩, fun e => by cases e⟩
                    rw [List.length_take] at hj
                    rw [(H.out.ls.below HB3.out H.out.lb) j (by omega)]
                    simp only [List.getD_eq_getElem?_getD, List.getElem?_take_of_lt (show j < k by omega)]
                  obtain ⟨L2, hL2⟩ : ∃ L2, last.take k ++ x = L2 := ⟨_, rfl⟩
                  have HL := hid hL2
                  have hl2 : L2.length = k + xl := by rw [← hL2, List.length_append, HTk.out, HXl.out]
                  obtain ⟨n2, hn2⟩ : ∃ n2, L2.length = n2 := ⟨_, rfl⟩
                  have HN2l := hid hn2
                  rw [hn2] at hl2
                  have hn20 : 0 < n2 := by omega
                  have hn2b : n2 ≤ 60000 := by omega
                  have HLn2 := hid hl2
                  clear hL2 hn2 hl2
                  go_upto_region 16 with (first
                    | (go_at_call 58; refine HCp.out.mono ?_; rintro e w4 ⟨v5, rfl, hr5, hb5⟩; have HB4 := hid (HB3.out.trans (hb5.mono HB3.out.size)); have HR5 := hid hr5; have HB5 := hid hb5; clear hr5 hb5)
                    | (at_builtin; refine wpList_append_any rfl (.tmp 66) (.tmp 67) rfl rfl _ w3.heap.size _ (last.take k) rfl HR5.out Ax cx x (by rw [HXl.out]; rfl) (HXa.out.below HB5.out) (by rw [HTk.out, HXl.out]; omega) HB5.out.size ?_; intro v6 w6 hr6 hb6; rw [HL.out] at hr6; have HR6 := hid hr6; have HB6 := hid (HB5.out.trans hb6); clear hr6 hb6))
                  obtain ⟨g6, cap6, e6, hG6⟩ := Row.toG HR6.out (by rw [HN2l.out]; omega)
                  rw [HN2l.out] at e6
                  subst e6
                  have HG6 := hid hG6
                  have hcap6 : n2 ≤ cap6 := by have := hG6.caps.1; rw [HN2l.out] at this; exact this
                  have hcap6m : cap6 ≤ 9223372036854775807 := hG6.caps.2
                  clear hG6
                  have HBr : Hid (Below wr.heap.size wr (w6.alloc (.cells #[] 5))) := (HB3.out.trans (HB6.out.mono HB3.out.size)).trans ((below_new w6 _).mono (HB3.out.trans (HB6.out.mono HB3.out.size)).size)
                  have HG7 : Hid (RowG (w6.alloc (.cells #[] 5)) wr.heap.size g6 cap6 L2) := RowG.below ⟨HG6.out.1, HG6.out.2.le HB3.out.size⟩ (below_new w6 _)
                  have HM7 : Hid (SlF (w6.alloc (.cells #[] 5)) wr.heap.size v4 r2) := (HM3.out.below HB6.out).below (below_new w6 _)
                  go_upto_region 17 with (fail)
                  obtain ⟨W7, hW7⟩ : ∃ W7, w6.alloc (.cells #[] 5) = W7 := ⟨_, rfl⟩
                  obtain ⟨b7, hb7⟩ : ∃ b7, w6.heap.size = b7 := ⟨_, rfl⟩
                  have HE7 : Hid (SlF W7 wr.heap.size (.slice (some ⟨b7, 0, none⟩) 0 0) []) := by
                    rw [← hW7, ← hb7]
                    exact slf_zero (HB3.out.trans (HB6.out.mono HB3.out.size)).size (by simp)
                  rw [hW7] at HBr HG7 HM7 ⊢
                  rw [hb7]
                  clear hW7 hb7 HB2 HB3 HB4 HB5 HB6 HR2 HR5 HR6 HG6 HX3 HM3 HXa HCp hx5 hx6
                  obtain ⟨z, hz⟩ : ∃ z, L2[L2.length - 1]? = some z := ⟨_, List.getElem?_eq_getElem (by rw [HN2l.out]; omega)⟩
                  obtain ⟨p2, hp2⟩ : ∃ p2, n2 = p2 + 1 := ⟨n2 - 1, by omega⟩
                  subst hp2
                  have Q7 : W7.cell? ⟨g6, p2, none⟩ = some (.int .u8 ((z.toNat : Nat) : Int)) := by
                    have h8 := HG7.out.holds p2 (by rw [HN2l.out]; omega)
                    rw [HN2l.out, Nat.add_sub_cancel] at hz
                    rw [Nat.zero_add, getd_some hz] at h8
                    exact h8
                  have HZ := hid hz
                  clear hz
                  have hwj : IntKind.i64.wrap (p2 : Int) = (p2 : Int) := by rw [IntKind.wrap_i64]; omega
                  have hwj1 : IntKind.i64.wrap ((p2 : Int) + 1 - 1) = (p2 : Int) := by rw [IntKind.wrap_i64]; omega
                  have hjm : (p2 : Int) < (p2 : Int) + 1 := by omega
                  have HbL : Hid (p2 + 1 + r2.length ≤ last.length + rest.length) := by show _ ≤ _; rw [HLa.out]; have := HLn2.out; omega
                  obtain ⟨u, hu⟩ : ∃ u : Int, ((z.toNat : Nat) : Int) = u := ⟨_, rfl⟩
                  have HU := hid hu
                  rw [hu] at Q7
                  clear hu
                  by_cases hk1 : u = 254
                  · have hke : (u == 254) = true := by simp [hk1]
                    have HP0 : ∀ (W : World) (u : Value), SlA W u r2 → Calls Tryz.prog 57 #[u] W (PcE W (cntT r2)) := fun W u hu => piece_any u r2 (by omega) W hu
                    have HK1 := hid hk1
                    clear hk1
                    cases h3 : cntT r2 with
                    | none =>
                      rw [h3] at HP0
                      have HP : Hid (∀ (W : World) (u : Value), SlA W u r2 → Calls Tryz.prog 57 #[u] W fun e w' => e = .returned (.tuple #[.slice none 0 0, .slice none 0 0, .bool false]) ∧ Below W.heap.size W w') := HP0
                      have hno : Hid (NoBlock l) := none_good fun ds hd => by
                        obtain ⟨c, m, g⟩ := HN2.out ds hd
                        have e := g.rd.put ((last_kind g.bc.1 (HL.out.symm.trans g.rd.key) HZ.out).2 (by have := HU.out; have := HK1.out; omega))
                        rw [h3] at e
                        cases e
                      clear h3 HP0
                      go_wp2_with (go_at_call 57; refine (HP.out _ _ HM7.out.1).mono ?_; rintro e w8 ⟨rfl, hb8⟩)
                      go_ret2
                      exact ⟨H.out.bel.trans ((HBr.out.trans (hb8.mono HBr.out.size)).mono H.out.bel.size), .inr ⟨rfl, hno.out⟩⟩
                    | some p =>
                      obtain ⟨V, r3⟩ := p
                      rw [h3] at HP0
                      have HP : Hid (∀ (W : World) (u : Value), SlA W u r2 → Calls Tryz.prog 57 #[u] W fun e w' => ∃ v1 v2, e = .returned (.tuple #[v1, v2, .bool true]) ∧ SlF w' W.heap.size v1 V ∧ SlF w' W.heap.size v2 r3 ∧ Below W.heap.size W w') := HP0
                      have hx8 := cnt_less h3
                      have HN3 : Hid (∀ ds, GoodB l ds → ∃ c m, Bc c ∧ ds = cs ++ c :: m ∧ L2 = keyL c ∧ L2 ++ V = encB c ∧ r3 = restB (keyL c) m ∧ fineK (keyL c) m = true) := fun ds hd => by
                        obtain ⟨c, m, g⟩ := HN2.out ds hd
                        have hk := (last_kind g.bc.1 (HL.out.symm.trans g.rd.key) HZ.out).2 (by have := HU.out; have := HK1.out; omega)
                        have e := g.rd.put hk
                        rw [h3] at e
                        cases e
                        have e2 := HL.out.symm.trans g.rd.key
                        exact ⟨c, m, g.bc, g.eq, e2, by rw [encB_is, if_pos hk, e2], rfl, g.fine⟩
                      clear h3 HP0
                      go_upto_region 21 with (go_at_call 57; refine (HP.out _ _ HM7.out.1).mono ?_; rintro e w8 ⟨v8, v9, rfl, h8, h9, hb8⟩; have HV8 := hid (h8.le HBr.out.size); have HM8 := hid (h9.le HBr.out.size); have HG8 := hid (HG7.out.below hb8); have HB8 := hid (HBr.out.trans (hb8.mono HBr.out.size)); clear h8 h9 hb8)
                      obtain ⟨Av, cv, ev, hv5, hv6, hv7⟩ := HV8.out.1
                      obtain ⟨vn, hvn⟩ : ∃ vn, V.length = vn := ⟨_, rfl⟩
                      have HVn := hid hvn
                      have HVh := hid hv7.1
                      rw [hvn] at ev hv5
                      subst ev
                      clear hv5 hv6 hv7
                      have HCp : Hid (Calls Tryz.prog 58 #[.slice (some ⟨g6, 0, none⟩) (p2 + 1) cap6] w8 fun e w' => ∃ v', e = .returned v' ∧ Row w' w8.heap.size v' L2 ∧ Below w8.heap.size w8 w') := by
                        have := copyd_any _ L2 (by rw [HN2l.out]; omega) w8 HG8.out.2.sla
                        rw [HN2l.out] at this
                        exact this
                      have hdl : (L2 ++ V).length ≤ 4000 := by
                        rcases HGd.out with h9 | ⟨ds, hd⟩
                        · have := HbL.out
                          have := H.out.bd
                          rw [List.length_append, HN2l.out]
                          omega
                        · obtain ⟨c, m, g1, _, _, g4, _⟩ := HN3.out ds hd
                          rw [g4, encB_is, List.length_append]
                          obtain ⟨t1, t2⟩ := bc_tight g1
                          split
                          · omega
                          · simp only [List.length_nil]; omega
                      have HDc : Hid (∀ W u, SlA W u (L2 ++ V) → Calls Tryz.prog 59 #[u] W fun e w' => ∃ (x : CT) (ok : Bool), e = .returned (.tuple #[x.v, .bool ok]) ∧ Below W.heap.size W w' ∧ ((ok = true ∧ Bc x ∧ encB x = L2 ++ V) ∨ (ok = false ∧ NoCell (L2 ++ V)))) := fun W u hu => drefdec u (L2 ++ V) hdl W hu
                      clear hvn hdl
                      go_upto_region 22 with (first
                        | (go_at_call 58; refine HCp.out.mono ?_; rintro e w10 ⟨v10, rfl, hr10, hb10⟩; have HR10 := hid hr10; have HB10 := hid hb10; clear hr10 hb10)
                        | (at_builtin; refine wpList_append_any rfl (.tmp 87) (.tmp 88) rfl rfl _ w8.heap.size _ L2 rfl HR10.out Av cv V (by rw [HVn.out]; rfl) (HVh.out.below HB10.out) (by rw [HN2l.out, HVn.out]; have := HVn.out; omega) HB10.out.size ?_; intro v11 w11 hr11 hb11; have HR11 := hid hr11; have HB11 := hid (HB10.out.trans hb11); clear hr11 hb11)
                        | (go_at_call 59; refine (HDc.out _ _ HR11.out.sla).mono ?_; rintro e w12 ⟨X, ok, rfl, hb12, hX⟩; have HX := hid hX; have HB12 := hid (HB11.out.trans (hb12.mono HB11.out.size)); clear hX hb12))
                      obtain ⟨W13, hW13⟩ : ∃ W13, w12.alloc (.cells #[.string X.r, .string X.f, .string X.q, .int .i64 X.t, .int .i64 X.k, .int .i64 X.vk, .int .i64 X.vn, .string X.s] 26) = W13 := ⟨_, rfl⟩
                      have H13 : Hid (Below w12.heap.size w12 W13 ∧ Blk W13 w12.heap.size 26 X.e.toArray) := by
                        rw [← hW13]
                        exact ⟨below_new _ _, Blk.new w12 _ _⟩
                      rw [hW13]
                      clear hW13
                      obtain ⟨b13, hb13⟩ : ∃ b13, w12.heap.size = b13 := ⟨_, rfl⟩
                      have HB13 : Hid (Below w8.heap.size w8 W13) := HB12.out.trans (H13.out.1.mono HB12.out.size)
                      have HX13 : Hid (Blk W13 b13 26 X.e.toArray) := by rw [← hb13]; exact H13.out.2
                      rw [hb13]
                      clear hb13 H13 HR10 HB10 HR11 HB11 HB12 HDc HCp
                      cases ok with
                      | false =>
                        have hno : Hid (NoBlock l) := none_good fun ds hd => by
                          obtain ⟨c, m, g1, _, _, g4, _⟩ := HN3.out ds hd
                          rcases HX.out with ⟨e, _⟩ | ⟨_, hn⟩
                          · cases e
                          · exact no_enc g1 hn g4.symm
                        go_wp2
                        go_ret2
                        exact ⟨H.out.bel.trans ((HB8.out.trans (HB13.out.mono HB8.out.size)).mono H.out.bel.size), .inr ⟨rfl, hno.out⟩⟩
                      | true =>
                        have HXb : Hid (Bc X ∧ encB X = L2 ++ V) := by
                          rcases HX.out with ⟨_, h⟩ | ⟨e, _⟩
                          · exact h
                          · cases e
                        have HRd : Hid (DRd l n (cs ++ [X]) r3 L2) := drd_go H.out.rd HXb.out.1 fun ds hd => by
                          obtain ⟨c, m, g1, g2, g3, g4, g5, g6⟩ := HN3.out ds hd
                          obtain rfl : c = X := enc_one g1 HXb.out.1 (g4.symm.trans HXb.out.2.symm)
                          exact ⟨m, g2, g3, g5, g6⟩
                        obtain ⟨y0, y1, y2, y3, y4, y5, y6, y7⟩ := blkc_words HX13.out
                        have HBq : Hid (Below wr.heap.size wr W13) := HB8.out.trans (HB13.out.mono HB8.out.size)
                        have HRow : Hid (CRow W13 w.heap.size u7 cs) := H.out.row.below HBq.out
                        obtain ⟨Ao, co, eo, _⟩ := HRow.out.len
                        have hln := H.out.ln
                        go_wp2_with (at_builtin; refine wpList_append_cell rfl (.tmp 95) (.tmp 97) rfl _ w.heap.size _ cs rfl (HRow.out.below (below_new _ _)) _ 1 rfl X (ct_new X _ _) (by rw [H.out.ln]; omega) (by have := H.out.bel.size; have := HBq.out.size; simp; omega) ?_; intro v17 w17 h17 hb17 hg17)
                        go_roundw
                        case rel =>
                          have hb18 : Below w.heap.size w w17 := (H.out.bel.trans ((HBq.out.trans ((below_new W13 _).mono HBq.out.size)).mono H.out.bel.size)).trans hb17
                          have hown : ∀ q, u7.ownBlock = some q → q < wr.heap.size := fun q hq => (World.ownsRow.lt H.out.row q hq).2
                          have hG9 : RowG W13 wr.heap.size g6 cap6 L2 := HG8.out.below HB13.out
                          have hG10 := RowG.below hG9 (below_new W13 (.cells #[.string X.r, .string X.f, .string X.q, .int .i64 X.t, .int .i64 X.k, .int .i64 X.vk, .int .i64 X.vn, .string X.s] 26))
                          have hG11 : RowG w17 wr.heap.size g6 cap6 L2 := ⟨hG10.1, World.ownsRow.kept hG10.2 hg17 (.inr fun e => by have h1 := hown g6 e.symm; have h2 := hG10.lt.1; omega)⟩
                          have hM9 := (HM8.out.below HB13.out).below (below_new W13 (.cells #[.string X.r, .string X.f, .string X.q, .int .i64 X.t, .int .i64 X.k, .int .i64 X.vk, .int .i64 X.vn, .string X.s] 26))
                          have hM10 := SlF.grown hM9 hg17 hown
                          refine ⟨i + 1, cs ++ [X], r3, L2, g6, 0, cap6, p2 + 1, by omega, by go_num, rfl, HN2l.out, ⟨hb18, h17, hG11.holds, hG11.lt.2, hG11.caps, hM10.1, by rw [List.length_append, List.length_singleton, H.out.ln], ?_, HRd.out⟩⟩
                          have := HbL.out
                          have := H.out.bd
                          rw [HN2l.out]
                          omega
                        case measure => simp [intOf]; omega
                  · have hke : (u == 254) = false := by rw [beq_eq_false_iff_ne]; exact hk1
                    obtain ⟨V, hV⟩ : ∃ V : List UInt8, V = [] := ⟨_, rfl⟩
                    have hx8 : V.length + r2.length ≤ r2.length := by rw [hV]; simp
                    have HK1 := hid hk1
                    clear hk1
                    have HN3 : Hid (∀ ds, GoodB l ds → ∃ c m, Bc c ∧ ds = cs ++ c :: m ∧ L2 = keyL c ∧ L2 ++ V = encB c ∧ r2 = restB (keyL c) m ∧ fineK (keyL c) m = true) := fun ds hd => by
                      obtain ⟨c, m, g⟩ := HN2.out ds hd
                      have hk : ¬ c.k = 1 := fun hk => by
                        have := (last_kind g.bc.1 (HL.out.symm.trans g.rd.key) HZ.out).1 hk
                        have := HU.out
                        exact HK1.out (by omega)
                      have e2 := HL.out.symm.trans g.rd.key
                      exact ⟨c, m, g.bc, g.eq, e2, by rw [encB_is, if_neg hk, e2, hV], g.rd.oth hk, g.fine⟩
                    have HV8 : Hid (SlF W7 wr.heap.size (.slice (some ⟨b7, 0, none⟩) 0 0) V) := by rw [hV]; exact HE7.out
                    clear hV
                    have HM8 := HM7
                    have HG8 := HG7
                    have HB8 := HBr
                    go_upto_region 21 with (fail)
                    obtain ⟨Av, cv, ev, hv5, hv6, hv7⟩ := HV8.out.1
                    obtain ⟨vn, hvn⟩ : ∃ vn, V.length = vn := ⟨_, rfl⟩
                    have HVn := hid hvn
                    have HVh : Hid (HoldsA W7 (some ⟨b7, 0, none⟩) V) := by injection ev with e1 e2 e3; rw [e1]; exact hv7.1
                    rw [hvn] at ev hv5
                    obtain rfl : vn = 0 := by injection ev with e1 e2 e3; omega
                    clear hv5 hv6 hv7
                    have HCp : Hid (Calls Tryz.prog 58 #[.slice (some ⟨g6, 0, none⟩) (p2 + 1) cap6] W7 fun e w' => ∃ v', e = .returned v' ∧ Row w' W7.heap.size v' L2 ∧ Below W7.heap.size W7 w') := by
                      have := copyd_any _ L2 (by rw [HN2l.out]; omega) W7 HG8.out.2.sla
                      rw [HN2l.out] at this
                      exact this
                    have hdl : (L2 ++ V).length ≤ 4000 := by
                      rcases HGd.out with h9 | ⟨ds, hd⟩
                      · have := HbL.out
                        have := H.out.bd
                        rw [List.length_append, HN2l.out]
                        omega
                      · obtain ⟨c, m, g1, _, _, g4, _⟩ := HN3.out ds hd
                        rw [g4, encB_is, List.length_append]
                        obtain ⟨t1, t2⟩ := bc_tight g1
                        split
                        · omega
                        · simp only [List.length_nil]; omega
                    have HDc : Hid (∀ W u, SlA W u (L2 ++ V) → Calls Tryz.prog 59 #[u] W fun e w' => ∃ (x : CT) (ok : Bool), e = .returned (.tuple #[x.v, .bool ok]) ∧ Below W.heap.size W w' ∧ ((ok = true ∧ Bc x ∧ encB x = L2 ++ V) ∨ (ok = false ∧ NoCell (L2 ++ V)))) := fun W u hu => drefdec u (L2 ++ V) hdl W hu
                    clear hvn hdl
                    go_upto_region 22 with (first
                      | (go_at_call 58; refine HCp.out.mono ?_; rintro e w10 ⟨v10, rfl, hr10, hb10⟩; have HR10 := hid hr10; have HB10 := hid hb10; clear hr10 hb10)
                      | (at_builtin; refine wpList_append_any rfl (.tmp 87) (.tmp 88) rfl rfl _ W7.heap.size _ L2 rfl HR10.out (some ⟨b7, 0, none⟩) 0 V (by rw [HVn.out]; rfl) (HVh.out.below HB10.out) (by rw [HN2l.out, HVn.out]; have := HVn.out; omega) HB10.out.size ?_; intro v11 w11 hr11 hb11; have HR11 := hid hr11; have HB11 := hid (HB10.out.trans hb11); clear hr11 hb11)
                      | (go_at_call 59; refine (HDc.out _ _ HR11.out.sla).mono ?_; rintro e w12 ⟨X, ok, rfl, hb12, hX⟩; have HX := hid hX; have HB12 := hid (HB11.out.trans (hb12.mono HB11.out.size)); clear hX hb12))
                    obtain ⟨W13, hW13⟩ : ∃ W13, w12.alloc (.cells #[.string X.r, .string X.f, .string X.q, .int .i64 X.t, .int .i64 X.k, .int .i64 X.vk, .int .i64 X.vn, .string X.s] 26) = W13 := ⟨_, rfl⟩
                    have H13 : Hid (Below w12.heap.size w12 W13 ∧ Blk W13 w12.heap.size 26 X.e.toArray) := by
                      rw [← hW13]
                      exact ⟨below_new _ _, Blk.new w12 _ _⟩
                    rw [hW13]
                    clear hW13
                    obtain ⟨b13, hb13⟩ : ∃ b13, w12.heap.size = b13 := ⟨_, rfl⟩
                    have HB13 : Hid (Below W7.heap.size W7 W13) := HB12.out.trans (H13.out.1.mono HB12.out.size)
                    have HX13 : Hid (Blk W13 b13 26 X.e.toArray) := by rw [← hb13]; exact H13.out.2
                    rw [hb13]
                    clear hb13 H13 HR10 HB10 HR11 HB11 HB12 HDc HCp
                    cases ok with
                    | false =>
                      have hno : Hid (NoBlock l) := none_good fun ds hd => by
                        obtain ⟨c, m, g1, _, _, g4, _⟩ := HN3.out ds hd
                        rcases HX.out with ⟨e, _⟩ | ⟨_, hn⟩
                        · cases e
                        · exact no_enc g1 hn g4.symm
                      go_wp2
                      go_ret2
                      exact ⟨H.out.bel.trans ((HB8.out.trans (HB13.out.mono HB8.out.size)).mono H.out.bel.size), .inr ⟨rfl, hno.out⟩⟩
                    | true =>
                      have HXb : Hid (Bc X ∧ encB X = L2 ++ V) := by
                        rcases HX.out with ⟨_, h⟩ | ⟨e, _⟩
                        · exact h
                        · cases e
                      have HRd : Hid (DRd l n (cs ++ [X]) r2 L2) := drd_go H.out.rd HXb.out.1 fun ds hd => by
                        obtain ⟨c, m, g1, g2, g3, g4, g5, g6⟩ := HN3.out ds hd
                        obtain rfl : c = X := enc_one g1 HXb.out.1 (g4.symm.trans HXb.out.2.symm)
                        exact ⟨m, g2, g3, g5, g6⟩
                      obtain ⟨y0, y1, y2, y3, y4, y5, y6, y7⟩ := blkc_words HX13.out
                      have HBq : Hid (Below wr.heap.size wr W13) := HB8.out.trans (HB13.out.mono HB8.out.size)
                      have HRow : Hid (CRow W13 w.heap.size u7 cs) := H.out.row.below HBq.out
                      obtain ⟨Ao, co, eo, _⟩ := HRow.out.len
                      have hln := H.out.ln
                      go_wp2_with (at_builtin; refine wpList_append_cell rfl (.tmp 95) (.tmp 97) rfl _ w.heap.size _ cs rfl (HRow.out.below (below_new _ _)) _ 1 rfl X (ct_new X _ _) (by rw [H.out.ln]; omega) (by have := H.out.bel.size; have := HBq.out.size; simp; omega) ?_; intro v17 w17 h17 hb17 hg17)
                      go_roundw
                      case rel =>
                        have hb18 : Below w.heap.size w w17 := (H.out.bel.trans ((HBq.out.trans ((below_new W13 _).mono HBq.out.size)).mono H.out.bel.size)).trans hb17
                        have hown : ∀ q, u7.ownBlock = some q → q < wr.heap.size := fun q hq => (World.ownsRow.lt H.out.row q hq).2
                        have hG9 : RowG W13 wr.heap.size g6 cap6 L2 := HG8.out.below HB13.out
                        have hG10 := RowG.below hG9 (below_new W13 (.cells #[.string X.r, .string X.f, .string X.q, .int .i64 X.t, .int .i64 X.k, .int .i64 X.vk, .int .i64 X.vn, .string X.s] 26))
                        have hG11 : RowG w17 wr.heap.size g6 cap6 L2 := ⟨hG10.1, World.ownsRow.kept hG10.2 hg17 (.inr fun e => by have h1 := hown g6 e.symm; have h2 := hG10.lt.1; omega)⟩
                        have hM9 := (HM8.out.below HB13.out).below (below_new W13 (.cells #[.string X.r, .string X.f, .string X.q, .int .i64 X.t, .int .i64 X.k, .int .i64 X.vk, .int .i64 X.vn, .string X.s] 26))
                        have hM10 := SlF.grown hM9 hg17 hown
                        refine ⟨i + 1, cs ++ [X], r2, L2, g6, 0, cap6, p2 + 1, by omega, by go_num, rfl, HN2l.out, ⟨hb18, h17, hG11.holds, hG11.lt.2, hG11.caps, hM10.1, by rw [List.length_append, List.length_singleton, H.out.ln], ?_, HRd.out⟩⟩
                        have := HbL.out
                        have := H.out.bd
                        rw [HN2l.out]
                        omega
                      case measure => simp [intOf]; omega
        · obtain rfl : i = n := by omega
          have HBu : Hid (Calls Tryz.prog 13 #[u7] wr fun e w' => Below wr.heap.size wr w' ∧ BuEnd (fineK [] cs) cs wr e w') := refbuild_any u7 cs (by rw [H.out.ln]; exact hn2) wr H.out.row.cla (fun c hc => (H.out.rd.bc c hc).dc)
          have hno1 : Hid (∀ ds, GoodB l ds → ds = cs) := fun ds hd => by
            obtain ⟨g1, _, m, g2, _, _⟩ := H.out.rd.good ds hd
            have h5 : m = [] := List.eq_nil_of_length_eq_zero (by have := H.out.ln; rw [g2, List.length_append] at g1; omega)
            rw [g2, h5, List.append_nil]
          cases hf : fineK [] cs with
          | false =>
            rw [hf] at HBu
            have hno : Hid (NoBlock l) := none_good fun ds hd => by
              have h6 := hd.2.1
              rw [hno1.out ds hd, hf] at h6
              cases h6
            clear hf
            go_wp2_with (go_at_call 13; refine HBu.out.mono ?_; rintro e w2 ⟨hb2, hx2⟩; unfold BuEnd at hx2; rw [if_neg (by simp)] at hx2; subst hx2)
            go_ret2
            exact ⟨H.out.bel.trans (hb2.mono H.out.bel.size), .inr ⟨rfl, hno.out⟩⟩
          | true =>
            rw [hf] at HBu
            have hbl : (blockB cs).length ≤ 1000000 := by
              have h6 := rest_len cs [] H.out.rd.bc
              have h7 := numW_len9 cs.length (by rw [H.out.ln]; omega)
              have h8 := H.out.ln
              unfold blockB
              rw [List.length_append]
              omega
            have HSm : Hid (∀ W u, Below w.heap.size w W → Row W wr.heap.size u (blockB cs) → Calls Tryz.prog 18 #[u, v] W fun e w' => e = .returned (.bool (decide (blockB cs = l))) ∧ Below W.heap.size W w') := fun W u hW hu => same_sla u v _ l hbl W hu.sla (HV.out.below hW)
            by_cases he : blockB cs = l
            · rw [decide_eq_true he] at HSm
              have HE := hid he
              have HF := hid hf
              clear he hf hbl
              go_wp2_with (first
                | (go_at_call 13; refine HBu.out.mono ?_; rintro e w2 ⟨hb2, hx2⟩; unfold BuEnd at hx2; rw [if_pos rfl] at hx2; obtain ⟨u2, rfl, hr2⟩ := hx2; have HB2 := hid hb2; have HR2 := hid hr2; have HW2 := hid (H.out.bel.trans (hb2.mono H.out.bel.size)); clear hb2 hr2)
                | (go_at_call 18; refine (HSm.out _ _ HW2.out HR2.out).mono ?_; rintro e w3 ⟨rfl, hb3⟩))
              go_ret2
              exact ⟨HW2.out.trans (hb3.mono HW2.out.size), .inl ⟨_, cs, rfl, (H.out.row.below HB2.out).below hb3, H.out.rd.bc, HF.out, by rw [H.out.ln]; exact hn2, HE.out⟩⟩
            · rw [decide_eq_false he] at HSm
              have hno : Hid (NoBlock l) := none_good fun ds hd => by
                have h6 := hd.2.2.2
                rw [hno1.out ds hd] at h6
                exact he h6
              clear he hf hbl
              go_wp2_with (first
                | (go_at_call 13; refine HBu.out.mono ?_; rintro e w2 ⟨hb2, hx2⟩; unfold BuEnd at hx2; rw [if_pos rfl] at hx2; obtain ⟨u2, rfl, hr2⟩ := hx2; have HB2 := hid hb2; have HR2 := hid hr2; have HW2 := hid (H.out.bel.trans (hb2.mono H.out.bel.size)); clear hb2 hr2)
                | (go_at_call 18; refine (HSm.out _ _ HW2.out HR2.out).mono ?_; rintro e w3 ⟨rfl, hb3⟩))
              go_ret2
              exact ⟨HW2.out.trans (hb3.mono HW2.out.size), .inr ⟨rfl, hno.out⟩⟩
end Go.Proofs.YtfcnobcpnhfgmaaGreatDoor

/- block.Find over whatever Parse leaves. Conditions: as the theorem names them. -/
namespace Go.Proofs.YtfcnobcpnhfgmaaGreatDoor
open Go.RowKit

set_option maxRecDepth 100000 in
set_option maxHeartbeats 8000000 in
theorem find_of (v : Value) (l : List UInt8) (c : CT) (w : World) (h : SlA w v l) (hP : ∀ W, Below w.heap.size w W → Calls Tryz.prog 20 #[v] W (PaEnd8 l W)) :
    Calls Tryz.prog 14 #[v, c.v] w fun e w' => Below w.heap.size w w' ∧ ∃ cs, BlockOf l cs ∧ e = .returned (.tuple #[((findL cs c).getD default).v, .bool (findL cs c).isSome]) := by
  have HP : Hid (∀ W, Below w.heap.size w W → Calls Tryz.prog 20 #[v] W fun e w' => ∃ Al nl cl ok cs, e = .returned (.tuple #[.slice Al nl cl, .bool ok]) ∧ Hid (Below W.heap.size W w' ∧ BlockOf l cs ∧ cs.length = nl ∧ ClA w' (.slice Al nl cl) cs)) := fun W hW => by
    refine (hP W hW).mono fun e w' ⟨hb, hc⟩ => ?_
    rcases hc with ⟨u, cs, he, hr, h1, h2, h3, h4⟩ | ⟨he, hno⟩
    · obtain ⟨Al, cl, rfl, _, _⟩ := hr.len
      exact ⟨Al, _, cl, true, cs, he, hb, .inl ⟨h1, h2, h3, h4⟩, rfl, hr.cla⟩
    · exact ⟨none, 0, 0, false, [], he, hb, .inr ⟨rfl, hno⟩, rfl, cla_nil _⟩
  have HI : Hid (∀ (W : World) (u : Value) (cs : List CT) (g : Nat), cs.length ≤ 1000 → ClA W u cs → DW W g c → Calls Tryz.prog 48 #[u, .func (.func 49) #[] #[.pointer (some ⟨g, 0, none⟩)]] W fun e w' => Below W.heap.size W w' ∧ ((∃ (i : Nat) (x : CT), cs[i]? = some x ∧ findL cs c = some x ∧ e = .returned (.int .i64 (i : Int))) ∨ (findL cs c = none ∧ e = .returned (.int .i64 (-1))))) := fun W u cs g h1 h2 h3 => index_any u cs c g (by omega) W h2 h3
  obtain ⟨A, cap, rfl, _⟩ := h
  obtain ⟨m, hm⟩ : ∃ m, l.length = m := ⟨_, rfl⟩
  rw [hm] at HP ⊢
  clear hm hP
  have H0 : Hid (∀ W0 : World, W0 = (w.alloc (.cells #[.string c.r, .string c.f, .string c.q, .int .i64 c.t, .int .i64 c.k, .int .i64 c.vk, .int .i64 c.vn, .string c.s] 26)).alloc (.cells zeroA 26) → Below w.heap.size w W0 ∧ DW W0 w.heap.size c ∧ Blk W0 (w.heap.size + 1) 26 (default : CT).e.toArray) := by
    rintro _ rfl
    have h1 : DW (w.alloc (.cells #[.string c.r, .string c.f, .string c.q, .int .i64 c.t, .int .i64 c.k, .int .i64 c.vk, .int .i64 c.vn, .string c.s] 26)) w.heap.size c := Blk.new w _ _
    refine ⟨(below_new w _).alloc (by simp) _, h1.below (below_new _ _), ?_⟩
    have h2 := Blk.new (w.alloc (.cells #[.string c.r, .string c.f, .string c.q, .int .i64 c.t, .int .i64 c.k, .int .i64 c.vk, .int .i64 c.vn, .string c.s] 26)) 26 (default : CT).e.toArray
    rw [World.size_alloc] at h2
    exact h2
  have hmf : ∀ (fn : Fn) (first cap : Array Value) (w : World), (Instr.makeFunc fn first cap).run Tryz.prog w = .ok (.func fn first cap) w := fun _ _ _ _ => rfl
  go_enter Tryz.func14, Tryz.ntmps14
  go_upto_region 2 with (first
    | (go_at_call 20; refine (HP.out _ (H0.out _ rfl).1).mono ?_; rintro e w1 ⟨Al, nl, cl, ok, cs, rfl, H1⟩; have HD1 : Hid (Below w.heap.size w w1 ∧ DW w1 w.heap.size c ∧ Blk w1 (w.heap.size + 1) 26 (default : CT).e.toArray) := (by obtain ⟨q1, q2, q3⟩ := H0.out _ rfl; exact ⟨q1.trans (H1.out.1.mono q1.size), q2.below H1.out.1, q3.keep H1.out.1 q3.lt⟩)))
  have HLc : Hid (cs.length ≤ 1000) := by
    rcases H1.out.2.1 with h | ⟨h, _⟩
    · exact h.2.2.1
    · rw [h]; show (0 : Nat) ≤ _; omega
  cases hf : findL cs c with
  | none =>
    have HIn : Hid (Calls Tryz.prog 48 #[.slice Al nl cl, .func (.func 49) #[] #[.pointer (some ⟨w.heap.size, 0, none⟩)]] w1 fun e w' => Below w1.heap.size w1 w' ∧ e = .returned (.int .i64 (-1))) := by
      refine (HI.out w1 _ cs w.heap.size HLc.out H1.out.2.2.2 HD1.out.2.1).mono fun e w' ⟨hb, hc⟩ => ⟨hb, ?_⟩
      rcases hc with ⟨i, x, _, h2, _⟩ | ⟨_, h2⟩
      · rw [hf] at h2; cases h2
      · exact h2
    have HFi := hid hf
    clear hf
    go_upto_region 3 with (first
      | (go_at_call 48; refine HIn.out.mono ?_; rintro e w2 ⟨hb2, rfl⟩))
    have HZ2 := hid (HD1.out.2.2.keep hb2 HD1.out.2.2.lt)
    have HB2 := hid (HD1.out.1.trans (hb2.mono HD1.out.1.size))
    clear hb2
    obtain ⟨r0, r1, r2, r3, r4, r5, r6, r7⟩ := blkc_words HZ2.out
    have zf : ∀ j, w2.frozen? ⟨w.heap.size + 1, j, none⟩ = false := fun j => HZ2.out.free j
    go_wp2
    refine bodyPost_ret (v := .tuple #[(default : CT).v, .bool false]) (by simp [results, Tryz.results14, go_sem, cell_set_same, r0, r1, r2, r3, r4, r5, r6, r7]; exact ⟨rfl, rfl, rfl, rfl, rfl, rfl, rfl, rfl⟩) rfl ?_
    refine ⟨?_, cs, H1.out.2.1, by rw [HFi.out]; rfl⟩
    exact ((((((((HB2.out.setCell (p := ⟨w.heap.size + 1, 0, none⟩) (by simp) _).setCell (p := ⟨w.heap.size + 1, 1, none⟩) (by simp) _).setCell (p := ⟨w.heap.size + 1, 2, none⟩) (by simp) _).setCell (p := ⟨w.heap.size + 1, 3, none⟩) (by simp) _).setCell (p := ⟨w.heap.size + 1, 4, none⟩) (by simp) _).setCell (p := ⟨w.heap.size + 1, 5, none⟩) (by simp) _).setCell (p := ⟨w.heap.size + 1, 6, none⟩) (by simp) _).setCell (p := ⟨w.heap.size + 1, 7, none⟩) (by simp) _)
  | some x =>
    have HIn : Hid (Calls Tryz.prog 48 #[.slice Al nl cl, .func (.func 49) #[] #[.pointer (some ⟨w.heap.size, 0, none⟩)]] w1 fun e w' => Below w1.heap.size w1 w' ∧ ∃ i : Nat, e = .returned (.int .i64 (i : Int)) ∧ cs[i]? = some x) := by
      refine (HI.out w1 _ cs w.heap.size HLc.out H1.out.2.2.2 HD1.out.2.1).mono fun e w' ⟨hb, hc⟩ => ⟨hb, ?_⟩
      rcases hc with ⟨i, y, h1, h2, h3⟩ | ⟨h2, _⟩
      · rw [hf] at h2
        cases h2
        exact ⟨i, h3, h1⟩
      · rw [hf] at h2; cases h2
    have HFi := hid hf
    clear hf
    go_upto_region 3 with (first
      | (go_at_call 48; refine HIn.out.mono ?_; rintro e w2 ⟨hb2, i, rfl, hi⟩))
    have HZ2 := hid (HD1.out.2.2.keep hb2 HD1.out.2.2.lt)
    have HB2 := hid (HD1.out.1.trans (hb2.mono HD1.out.1.size))
    obtain ⟨_, _, ea, hcl1, hcl2, hhc⟩ := H1.out.2.2.2
    injection ea with ea1 ea2 ea3
    subst ea1 ea3
    have hin : i < cs.length := (List.getElem?_eq_some_iff.1 hi).1
    obtain ⟨b, off, rfl, hhd⟩ := hhc (by omega)
    have hnl : i < nl := by have := H1.out.2.2.1; omega
    have hnc : nl ≤ 1000 := by have := H1.out.2.2.1; have := HLc.out; omega
    have hiz : (i : Int) < (nl : Int) := by omega
    have hi0 : ¬ (i : Int) < 0 := by omega
    obtain ⟨y0, y1, y2, y3, y4, y5, y6, y7⟩ := ct_words (hhd.below hb2 (hhd.lt (by omega))) i hi
    clear hb2 hi hin hhc hhd ea2 hcl1 hcl2
    obtain ⟨r0, r1, r2, r3, r4, r5, r6, r7⟩ := blkc_words HZ2.out
    have zf : ∀ j, w2.frozen? ⟨w.heap.size + 1, j, none⟩ = false := fun j => HZ2.out.free j
    go_wp2
    refine bodyPost_ret (v := .tuple #[x.v, .bool true]) (by simp [results, Tryz.results14, go_sem, cell_set_same, r0, r1, r2, r3, r4, r5, r6, r7]) rfl ?_
    refine ⟨?_, cs, H1.out.2.1, by rw [HFi.out]; rfl⟩
    exact ((((((((HB2.out.setCell (p := ⟨w.heap.size + 1, 0, none⟩) (by simp) _).setCell (p := ⟨w.heap.size + 1, 1, none⟩) (by simp) _).setCell (p := ⟨w.heap.size + 1, 2, none⟩) (by simp) _).setCell (p := ⟨w.heap.size + 1, 3, none⟩) (by simp) _).setCell (p := ⟨w.heap.size + 1, 4, none⟩) (by simp) _).setCell (p := ⟨w.heap.size + 1, 5, none⟩) (by simp) _).setCell (p := ⟨w.heap.size + 1, 6, none⟩) (by simp) _).setCell (p := ⟨w.heap.size + 1, 7, none⟩) (by simp) _)
end Go.Proofs.YtfcnobcpnhfgmaaGreatDoor

/- block.Parse and block.Find of any slice; the document's Find. Conditions: the slice holds its bytes; the tables of utf8 read as they are laid. -/
namespace Go.Proofs.YtfcnobcpnhfgmaaGreatDoor
open Go.RowKit

set_option maxRecDepth 100000 in
set_option maxHeartbeats 2000000 in
theorem parse_empty (A : Option Addr) (c : Nat) (hc : c ≤ 9223372036854775807) (hA : A = none → c = 0) (w : World) :
    Calls Tryz.prog 20 #[.slice A 0 c] w (PaEnd8 [] w) := by
  have mixed : Tryz.prog.follows .mixedOrders = true := by kernel_rfl
  have h0 : tk [] = none := rfl
  have HT : ∀ W, Calls Tryz.prog 113 #[.slice A 0 c] W (TEndO W (tk [])) := fun W => take_any A c [] (by simp) (by simp) hc W (fun h => absurd h (by simp))
  rw [h0] at HT
  have hno := hid (no_num h0)
  have HB := Blk.new w 70 #[.slice A 0 c, .bool false]
  have HBl := hid HB
  have HNu : Hid (Calls Tryz.prog 54 #[.pointer (some ⟨w.heap.size, 0, none⟩)] (w.alloc (.cells #[.slice A 0 c, .bool false] 70)) fun e w' => e = .returned (.int .i64 0) ∧ Hid (Blk w' w.heap.size 70 #[.slice A 0 c, .bool true] ∧ Below w.heap.size w w')) := by
    refine (bnumber_no w.heap.size 0 0 c A rfl (Nat.zero_le _) hc hA false (w.alloc (.cells #[.slice A 0 c, .bool false] 70)) (HB.cell 0) (HB.cell 1) (HB.free 1) HB.lt (fun W hW => (HT W).mono fun e w' ⟨he, hb⟩ => ⟨he, hW.trans (hb.mono hW.size)⟩)).mono fun e w' ⟨he, w1, hb1, hw⟩ => ⟨he, ?_⟩
    rw [hw]
    exact ⟨(HBl.out.keep hb1 HBl.out.lt).set 1 _, Below.setCell ((below_new w _).trans (hb1.mono (by simp))) (Nat.le_refl _) _⟩
  clear HT HB h0
  go_enter Tryz.func20, Tryz.ntmps20
  go_wp2_with (go_at_call 54; refine HNu.out.mono ?_; rintro e w2 ⟨rfl, HB2⟩)
  have q0 : w2.cell? ⟨w.heap.size, 0, none⟩ = some (.slice A 0 c) := HB2.out.1.cell 0
  have q1 : w2.cell? ⟨w.heap.size, 1, none⟩ = some (.bool true) := HB2.out.1.cell 1
  refine wp_loop_rounds 1 ?_
  rw [rounds_succ]; go_wp2
  go_ret2
  exact ⟨HB2.out.2, .inr ⟨rfl, hno.out⟩⟩
theorem parse_sla (v : Value) (l : List UInt8) (hl : l.length ≤ 100000) (w : World) (h : SlA w v l) (hL : LaidU w) :
    Calls Tryz.prog 20 #[v] w (PaEnd8 l w) := by
  rcases Nat.eq_zero_or_pos l.length with h0 | h0
  · obtain rfl := List.eq_nil_of_length_eq_zero h0
    obtain ⟨A, c, rfl, _, h2, _, h4⟩ := h
    exact parse_empty A c h2 h4 w
  · refine parse_any v l hl w ?_ hL
    obtain ⟨A, c, e, h1, h2, h3, h4⟩ := h
    obtain ⟨b, off, eA, hh⟩ := h3 h0
    exact ⟨A, c, e, h1, h2, h4, fun _ => ⟨b, off, eA, by have := hh.lt h0; omega, hh.lt h0, hh⟩⟩
theorem find_sla (v : Value) (l : List UInt8) (c : CT) (hl : l.length ≤ 100000) (w : World) (h : SlA w v l) (hL : LaidU w) :
    Calls Tryz.prog 14 #[v, c.v] w fun e w' => Below w.heap.size w w' ∧ ∃ cs, BlockOf l cs ∧ e = .returned (.tuple #[((findL cs c).getD default).v, .bool (findL cs c).isSome]) :=
  find_of v l c w h fun W hW => parse_sla v l hl W (h.below hW) (hL.below hW)

theorem findl_cons (x : CT) (t : List CT) (d : CT) : findL (x :: t) d = if 0 ≤ CT.cmp x d then some x else findL t d := by
  unfold findL
  rw [List.find?_cons]
  by_cases h : 0 ≤ CT.cmp x d
  · rw [if_pos h, decide_eq_true h]
  · rw [if_neg h, decide_eq_false h]
theorem findl_drop {s : List CT} {i : Nat} {x d : CT} (h : s[i]? = some x) : findL (s.drop i) d = if 0 ≤ CT.cmp x d then some x else findL (s.drop (i + 1)) d := by
  obtain ⟨hi, hx⟩ := List.getElem?_eq_some_iff.1 h
  rw [List.drop_eq_getElem_cons hi, hx, findl_cons]

set_option maxRecDepth 100000 in
set_option maxHeartbeats 8000000 in
theorem reffind_any (v : Value) (l : List UInt8) (d : CT) (hd : Dc d) (w : World) (h : SlA w v l) (hP : ∀ W, Below w.heap.size w W → Calls Tryz.prog 21 #[v] W (PaEnd8 l W)) :
    Calls Tryz.prog 15 #[v, d.v] w fun e w' => Below w.heap.size w w' ∧ ∃ cs, BlockOf l cs ∧ e = .returned (.tuple #[((findL cs d).getD default).v, .bool (findL cs d).isSome]) := by
  have mixed : Tryz.prog.follows .mixedOrders = true := by kernel_rfl
  have HP : Hid (∀ W, Below w.heap.size w W → Calls Tryz.prog 21 #[v] W fun e w' => ∃ Al nl cl ok cs, e = .returned (.tuple #[.slice Al nl cl, .bool ok]) ∧ Hid (Below W.heap.size W w' ∧ BlockOf l cs ∧ cs.length = nl ∧ ClA w' (.slice Al nl cl) cs)) := fun W hW => by
    refine (hP W hW).mono fun e w' ⟨hb, hc⟩ => ?_
    rcases hc with ⟨u, cs, he, hr, h1, h2, h3, h4⟩ | ⟨he, hno⟩
    · obtain ⟨Al, cl, rfl, _, _⟩ := hr.len
      exact ⟨Al, _, cl, true, cs, he, hb, .inl ⟨h1, h2, h3, h4⟩, rfl, hr.cla⟩
    · exact ⟨none, 0, 0, false, [], he, hb, .inr ⟨rfl, hno⟩, rfl, cla_nil _⟩
  have HDd := hid hd
  obtain ⟨A, cap, rfl, _⟩ := h
  obtain ⟨m, hm⟩ : ∃ m, l.length = m := ⟨_, rfl⟩
  rw [hm] at HP ⊢
  clear hm hP hd
  have H0 : Hid (∀ W0 : World, W0 = (w.alloc (.cells #[.string d.r, .string d.f, .string d.q, .int .i64 d.t, .int .i64 d.k, .int .i64 d.vk, .int .i64 d.vn, .string d.s] 26)).alloc (.cells zeroA 26) → Below w.heap.size w W0 ∧ DW W0 w.heap.size d ∧ Blk W0 (w.heap.size + 1) 26 (default : CT).e.toArray) := by
    rintro _ rfl
    have h1 : DW (w.alloc (.cells #[.string d.r, .string d.f, .string d.q, .int .i64 d.t, .int .i64 d.k, .int .i64 d.vk, .int .i64 d.vn, .string d.s] 26)) w.heap.size d := Blk.new w _ _
    refine ⟨(below_new w _).alloc (by simp) _, h1.below (below_new _ _), ?_⟩
    have h2 := Blk.new (w.alloc (.cells #[.string d.r, .string d.f, .string d.q, .int .i64 d.t, .int .i64 d.k, .int .i64 d.vk, .int .i64 d.vn, .string d.s] 26)) 26 (default : CT).e.toArray
    rw [World.size_alloc] at h2
    exact h2
  go_enter Tryz.func15, Tryz.ntmps15
  go_upto_region 2 with (go_at_call 21; refine (HP.out _ (H0.out _ rfl).1).mono ?_; rintro e w1 ⟨Al, nl, cl, ok, cs, rfl, H1⟩; have HD1 : Hid (Below w.heap.size w w1 ∧ DW w1 w.heap.size d ∧ Blk w1 (w.heap.size + 1) 26 (default : CT).e.toArray) := (by obtain ⟨q1, q2, q3⟩ := H0.out _ rfl; exact ⟨q1.trans (H1.out.1.mono q1.size), q2.below H1.out.1, q3.keep H1.out.1 q3.lt⟩))
  have hnl : nl ≤ 1000 := by
    rw [← H1.out.2.2.1]
    rcases H1.out.2.1 with h | ⟨h, _⟩
    · exact h.2.2.1
    · rw [h]; show (0 : Nat) ≤ _; omega
  have HLn : Hid (cs.length = nl) := H1.out.2.2.1
  have HOf := hid H1.out.2.1
  have HCl := hid H1.out.2.2.2
  have HOr : Hid (∀ x ∈ cs, ∀ W, Calls Tryz.prog 31 #[x.v, d.v] W fun e w' => e = .returned (.int .i64 (CT.cmp x d)) ∧ Below W.heap.size W w') := fun x hx W => by
    rcases HOf.out with h | ⟨h, _⟩
    · exact dorder_any x d (h.1 x hx).dc HDd.out W
    · rw [h] at hx; cases hx
  clear H1 HP H0
  go_wp2
  go_loopw [8] (fun vi wr => ∃ i : Nat, i ≤ nl ∧ vi = .int .i64 i ∧ Hid (Below w1.heap.size w1 wr) ∧ Hid (findL cs d = findL (cs.drop i) d)) (fun vi _ => nl - (intOf vi).toNat)
  case atStart => exact ⟨0, Nat.zero_le _, rfl, Below.refl _ _, rfl⟩
  case round =>
    obtain ⟨i, hi, rfl, HB, HN⟩ := hrel
    have HBw : Hid (Below w.heap.size w wr) := HD1.out.1.trans (HB.out.mono HD1.out.1.size)
    by_cases hlt : i < nl
    · have hltz : (i : Int) < (nl : Int) := by omega
      have hin : i < cs.length := by rw [HLn.out]; exact hlt
      have hsz := HB.out.size
      obtain ⟨_, _, ea, hcl1, hcl2, hhc⟩ := HCl.out
      injection ea with ea1 ea2 ea3
      subst ea1 ea3
      obtain ⟨b, off, rfl, hhd⟩ := hhc (by omega)
      have hbw : b < w1.heap.size := hhd.lt (by omega)
      obtain ⟨x, hx⟩ : ∃ x, cs[i]? = some x := ⟨_, List.getElem?_eq_getElem hin⟩
      have HT : Hid (PaX wr b (off + i * 8) w.heap.size 0 x d wr) := by
        obtain ⟨d0, d1, d2, d3, d4, d5, d6, d7⟩ := DW.words (DW.below HD1.out.2.1 HB.out)
        exact ⟨hid ⟨Below.refl _ _, by omega, by have := HD1.out.2.1.lt; omega⟩, ct_words (hhd.below HB.out hbw) i hx, d0, d1, d2, d3, d4, d5, d6, d7⟩
      have HOx := hid (HOr.out x (List.mem_of_getElem? hx))
      have HX := hid hx
      have HHd : Hid (HC w1 b off cs ∧ b < w1.heap.size) := ⟨hhd, hbw⟩
      clear hhc hhd hcl1 hcl2 ea2 hin
      obtain ⟨-, ⟨x0, x1, x2, x3, x4, x5, x6, x7⟩, ⟨y0, y1, y2, y3, y4, y5, y6, y7⟩⟩ := HT.out
      obtain ⟨o, ho⟩ : ∃ o, CT.cmp x d = o := ⟨_, rfl⟩
      rw [ho] at HOx
      have HO := hid ho
      clear ho hx
      go_upto_region 5 with (fail)
      by_cases ho : 0 ≤ o
      · have hF : findL cs d = some x := by rw [HN.out, findl_drop HX.out, if_pos (by rw [HO.out]; exact ho)]
        have HFi := hid hF
        clear hF HN
        go_region_held3 (fun W' => Hid (Below wr.heap.size wr W' ∧ b < wr.heap.size ∧ w.heap.size < wr.heap.size) ∧ (W'.cell? ⟨b, off + i * 8, none⟩ = some (.string x.r) ∧ W'.cell? ⟨b, off + i * 8 + 1, none⟩ = some (.string x.f) ∧ W'.cell? ⟨b, off + i * 8 + 2, none⟩ = some (.string x.q) ∧ W'.cell? ⟨b, off + i * 8 + 3, none⟩ = some (.int .i64 x.t) ∧ W'.cell? ⟨b, off + i * 8 + 4, none⟩ = some (.int .i64 x.k) ∧ W'.cell? ⟨b, off + i * 8 + 5, none⟩ = some (.int .i64 x.vk) ∧ W'.cell? ⟨b, off + i * 8 + 6, none⟩ = some (.int .i64 x.vn) ∧ W'.cell? ⟨b, off + i * 8 + 7, none⟩ = some (.string x.s)) ∧ (W'.cell? ⟨w.heap.size, 0, none⟩ = some (.string d.r) ∧ W'.cell? ⟨w.heap.size, 1, none⟩ = some (.string d.f) ∧ W'.cell? ⟨w.heap.size, 2, none⟩ = some (.string d.q) ∧ W'.cell? ⟨w.heap.size, 3, none⟩ = some (.int .i64 d.t) ∧ W'.cell? ⟨w.heap.size, 4, none⟩ = some (.int .i64 d.k) ∧ W'.cell? ⟨w.heap.size, 5, none⟩ = some (.int .i64 d.vk) ∧ W'.cell? ⟨w.heap.size, 6, none⟩ = some (.int .i64 d.vn) ∧ W'.cell? ⟨w.heap.size, 7, none⟩ = some (.string d.s)))
          (first | exact HT.out | exact pax_drew HT.out | exact pax_call (by assumption) hb3 | exact pax_drew (by assumption) | assumption)
          (first | (go_at_call 31; refine (HOx.out _).mono ?_; rintro e w9 ⟨rfl, hb3⟩))
        rename_i hLast
        have HZ := hid hLast.1.out.1
        clear HT x0 x1 x2 x3 x4 x5 x6 x7 y0 y1 y2 y3 y4 y5 y6 y7
        have HB9 := hid (HB.out.trans (HZ.out.mono HB.out.size))
        have HZ2 := hid (HD1.out.2.2.keep HB9.out HD1.out.2.2.lt)
        obtain ⟨x0, x1, x2, x3, x4, x5, x6, x7⟩ := hLast.2.1
        obtain ⟨r0, r1, r2, r3, r4, r5, r6, r7⟩ := blkc_words HZ2.out
        have zf := fun j => HZ2.out.free j
        clear hLast
        go_wp2
        refine bodyPost_ret (v := .tuple #[x.v, .bool true]) (by simp [results, Tryz.results15, go_sem, cell_set_same, r0, r1, r2, r3, r4, r5, r6, r7]) rfl ?_
        refine ⟨?_, cs, HOf.out, by rw [HFi.out]; rfl⟩
        have HB8 := hid (HD1.out.1.trans (HB9.out.mono HD1.out.1.size))
        exact ((((((((HB8.out.setCell (p := ⟨w.heap.size + 1, 0, none⟩) (by simp) _).setCell (p := ⟨w.heap.size + 1, 1, none⟩) (by simp) _).setCell (p := ⟨w.heap.size + 1, 2, none⟩) (by simp) _).setCell (p := ⟨w.heap.size + 1, 3, none⟩) (by simp) _).setCell (p := ⟨w.heap.size + 1, 4, none⟩) (by simp) _).setCell (p := ⟨w.heap.size + 1, 5, none⟩) (by simp) _).setCell (p := ⟨w.heap.size + 1, 6, none⟩) (by simp) _).setCell (p := ⟨w.heap.size + 1, 7, none⟩) (by simp) _)
      · have HN2 : Hid (findL cs d = findL (cs.drop (i + 1)) d) := by
          have := HN.out
          rw [findl_drop HX.out, if_neg (by rw [HO.out]; exact ho)] at this
          exact this
        clear HN HX HO
        go_region_held3 (fun W' => Hid (Below wr.heap.size wr W' ∧ b < wr.heap.size ∧ w.heap.size < wr.heap.size) ∧ (W'.cell? ⟨b, off + i * 8, none⟩ = some (.string x.r) ∧ W'.cell? ⟨b, off + i * 8 + 1, none⟩ = some (.string x.f) ∧ W'.cell? ⟨b, off + i * 8 + 2, none⟩ = some (.string x.q) ∧ W'.cell? ⟨b, off + i * 8 + 3, none⟩ = some (.int .i64 x.t) ∧ W'.cell? ⟨b, off + i * 8 + 4, none⟩ = some (.int .i64 x.k) ∧ W'.cell? ⟨b, off + i * 8 + 5, none⟩ = some (.int .i64 x.vk) ∧ W'.cell? ⟨b, off + i * 8 + 6, none⟩ = some (.int .i64 x.vn) ∧ W'.cell? ⟨b, off + i * 8 + 7, none⟩ = some (.string x.s)) ∧ (W'.cell? ⟨w.heap.size, 0, none⟩ = some (.string d.r) ∧ W'.cell? ⟨w.heap.size, 1, none⟩ = some (.string d.f) ∧ W'.cell? ⟨w.heap.size, 2, none⟩ = some (.string d.q) ∧ W'.cell? ⟨w.heap.size, 3, none⟩ = some (.int .i64 d.t) ∧ W'.cell? ⟨w.heap.size, 4, none⟩ = some (.int .i64 d.k) ∧ W'.cell? ⟨w.heap.size, 5, none⟩ = some (.int .i64 d.vk) ∧ W'.cell? ⟨w.heap.size, 6, none⟩ = some (.int .i64 d.vn) ∧ W'.cell? ⟨w.heap.size, 7, none⟩ = some (.string d.s)))
          (first | exact HT.out | exact pax_drew HT.out | exact pax_call (by assumption) hb3 | exact pax_drew (by assumption) | assumption)
          (first | (go_at_call 31; refine (HOx.out _).mono ?_; rintro e w9 ⟨rfl, hb3⟩))
        rename_i hLast
        have HZ := hid hLast.1.out.1
        clear HT x0 x1 x2 x3 x4 x5 x6 x7 y0 y1 y2 y3 y4 y5 y6 y7 hLast
        have HB3 := hid (HB.out.trans (HZ.out.mono HB.out.size))
        go_wp2
        go_roundw
        case rel => exact ⟨i + 1, by omega, by go_num, HB3.out, HN2.out⟩
        case measure => simp [intOf]; omega
    · obtain rfl : i = nl := by omega
      have hF : findL cs d = none := by
        rw [HN.out, List.drop_of_length_le (by rw [HLn.out]; exact Nat.le_refl _)]
        rfl
      have HFi := hid hF
      clear hF HN
      have HZ2 := hid (HD1.out.2.2.keep HB.out HD1.out.2.2.lt)
      obtain ⟨r0, r1, r2, r3, r4, r5, r6, r7⟩ := blkc_words HZ2.out
      have zf : ∀ j, wr.frozen? ⟨w.heap.size + 1, j, none⟩ = false := fun j => HZ2.out.free j
      go_wp2
      refine bodyPost_ret (v := .tuple #[(default : CT).v, .bool false]) (by simp [results, Tryz.results15, go_sem, cell_set_same, r0, r1, r2, r3, r4, r5, r6, r7]; exact ⟨rfl, rfl, rfl, rfl, rfl, rfl, rfl, rfl⟩) rfl ?_
      refine ⟨?_, cs, HOf.out, by rw [HFi.out]; rfl⟩
      exact ((((((((HBw.out.setCell (p := ⟨w.heap.size + 1, 0, none⟩) (by simp) _).setCell (p := ⟨w.heap.size + 1, 1, none⟩) (by simp) _).setCell (p := ⟨w.heap.size + 1, 2, none⟩) (by simp) _).setCell (p := ⟨w.heap.size + 1, 3, none⟩) (by simp) _).setCell (p := ⟨w.heap.size + 1, 4, none⟩) (by simp) _).setCell (p := ⟨w.heap.size + 1, 5, none⟩) (by simp) _).setCell (p := ⟨w.heap.size + 1, 6, none⟩) (by simp) _).setCell (p := ⟨w.heap.size + 1, 7, none⟩) (by simp) _)
end Go.Proofs.YtfcnobcpnhfgmaaGreatDoor

/- The statement of layer 8: every Parse and Find of any bytes answers what the document says. Conditions: the arguments stand, their numbers are of 64 bits; the tables of utf8 read as they are laid. -/
namespace Go.Proofs.YtfcnobcpnhfgmaaGreatDoor
open Go.RowKit

theorem one_cla (W : World) (a : CT) : ClA (W.alloc (.cells #[.string a.r, .string a.f, .string a.q, .int .i64 a.t, .int .i64 a.k, .int .i64 a.vk, .int .i64 a.vn, .string a.s] 26)) (.slice (some ⟨W.heap.size, 0, none⟩) 1 1) [a] := by
  refine ⟨_, 1, rfl, Nat.le_refl _, by omega, fun _ => ⟨W.heap.size, 0, rfl, fun i hi j hj => ?_⟩⟩
  rw [Nat.zero_add, (Blk.new W _ _).cell]
  have hi2 : i < 1 := hi
  obtain rfl : i = 0 := by omega
  obtain rfl | rfl | rfl | rfl | rfl | rfl | rfl | rfl : j = 0 ∨ j = 1 ∨ j = 2 ∨ j = 3 ∨ j = 4 ∨ j = 5 ∨ j = 6 ∨ j = 7 := by omega
  all_goals rfl
theorem good_one {l : List UInt8} {cs ds : List CT} (h1 : GoodB l cs) (h2 : GoodB l ds) : ds = cs :=
  block_same h2.2.2.1 h1.2.2.1 h2.1 h1.1 h2.2.1 h1.2.1 (h2.2.2.2.trans h1.2.2.2.symm)
/-- The cells that bytes are a block of; is there one? -/
def IsB (l : List UInt8) (cs : List CT) (okb : Bool) : Prop := (GoodB l cs ∧ okb = true) ∨ (NoBlock l ∧ cs = [] ∧ okb = false)
theorem isb_ex (l : List UInt8) : ∃ cs okb, IsB l cs okb := by
  by_cases h : ∃ cs, GoodB l cs
  · obtain ⟨cs, h⟩ := h
    exact ⟨cs, true, .inl ⟨h, rfl⟩⟩
  · exact ⟨[], false, .inr ⟨none_good fun ds hd => h ⟨ds, hd⟩, rfl, rfl⟩⟩
theorem isb_parse {l : List UInt8} {cs : List CT} {okb : Bool} (h : IsB l cs okb) {w w' : World} {e : Ending} (hp : PaEnd8 l w e w') : ∃ A c, e = .returned (.tuple #[.slice A cs.length c, .bool okb]) ∧ ClA w' (.slice A cs.length c) cs ∧ Below w.heap.size w w' := by
  obtain ⟨hb, hc⟩ := hp
  rcases hc with ⟨u, ds, he, hr, g1, g2, g3, g4⟩ | ⟨he, hno⟩
  · rcases h with ⟨hg, rfl⟩ | ⟨hno, _⟩
    · obtain rfl := good_one hg ⟨g1, g2, g3, g4⟩
      obtain ⟨A, c, rfl, _⟩ := hr.len
      exact ⟨A, c, he, hr.cla, hb⟩
    · exact absurd g4 (hno ds g1 g2 g3)
  · rcases h with ⟨hg, rfl⟩ | ⟨_, rfl, rfl⟩
    · exact absurd hg.2.2.2 (hno cs hg.1 hg.2.1 hg.2.2.1)
    · exact ⟨none, 0, he, cla_nil _, hb⟩
theorem isb_find {l : List UInt8} {cs ds : List CT} {okb : Bool} (h : IsB l cs okb) (hd : BlockOf l ds) : ds = cs := by
  rcases hd with hd | ⟨rfl, hno⟩
  · rcases h with ⟨hg, _⟩ | ⟨hno, _⟩
    · exact good_one hg hd
    · exact absurd hd.2.2.2 (hno ds hd.1 hd.2.1 hd.2.2.1)
  · rcases h with ⟨hg, _⟩ | ⟨_, h, _⟩
    · exact absurd hg.2.2.2 (hno cs hg.1 hg.2.1 hg.2.2.1)
    · exact h.symm

set_option maxHeartbeats 8000000 in
set_option maxRecDepth 100000 in
theorem blockparses_any (v : Value) (l : List UInt8) (d : CT) (w : World) (h : SlA w v l) (hvd : inI d.vn) (hL : LaidU w) :
    Calls Tryz.prog 4 #[v, d.v] w fun e w' => e = .returned (.bool true) ∧ Below w.heap.size w w' := by
  have mixed : Tryz.prog.follows .mixedOrders = true := by kernel_rfl
  have HA := hid fun W (hb : Below w.heap.size w W) => alive8_any W (hL.below hb)
  have HLg : Hid (∀ W v', ClA W v' [d] → Calls Tryz.prog 10 #[v'] W fun e w' => e = .returned (.bool (longM 100 [d])) ∧ Below W.heap.size W w') := fun W v' h => long8_any v' [d] W h
  have HV := hid h
  obtain ⟨A, cap, rfl, _⟩ := h
  obtain ⟨n, hn⟩ : ∃ n, l.length = n := ⟨_, rfl⟩
  have HN := hid hn
  rw [hn] at HV ⊢
  clear hn
  by_cases hn2 : 2000 < n
  · have hz : (2000 : Int) < (n : Int) := by omega
    clear hvd hL
    go_enter Tryz.func4, Tryz.ntmps4
    go_wp2_with (go_at_call 9; refine (HA.out _ (below_new _ _)).mono ?_; rintro e w5 ⟨rfl, hb5⟩)
    go_ret
    exact ⟨rfl, (below_new w _).trans (hb5.mono (by simp))⟩
  · have hz : ¬ (2000 : Int) < (n : Int) := by omega
    cases hg : longM 100 [d] with
    | true =>
      rw [hg] at HLg
      clear hvd hL hg
      go_enter Tryz.func4, Tryz.ntmps4
      go_upto_region 3 with (go_at_call 9; refine (HA.out _ (below_new _ _)).mono ?_; rintro e w5 ⟨rfl, hb5⟩)
      have HB5 : Hid (Below w.heap.size w w5) := (below_new w _).trans (hb5.mono (by simp))
      have HD5 : Hid (DW w5 w.heap.size d) := DW.below (Blk.new w _ _) hb5
      clear hb5
      obtain ⟨x0, x1, x2, x3, x4, x5, x6, x7⟩ := DW.words HD5.out
      go_wp2_with (go_at_call 10; refine (HLg.out _ _ (one_cla _ _)).mono ?_; rintro e w6 ⟨rfl, hb6⟩)
      go_ret
      exact ⟨rfl, HB5.out.trans (((below_new w5 _).trans (hb6.mono (by simp))).mono HB5.out.size)⟩
    | false =>
      rw [hg] at HLg
      have hds : Sm d := (longM_sm hg (fun c hc => by rw [List.mem_singleton.1 hc]; exact hvd)).2 d (by simp)
      have hl2 : l.length ≤ 2000 := by rw [HN.out]; omega
      obtain ⟨cs, okb, hI⟩ := isb_ex l
      obtain ⟨nl, hnl⟩ : ∃ nl, cs.length = nl := ⟨_, rfl⟩
      have HPc : Hid (∀ W, Below w.heap.size w W → Calls Tryz.prog 20 #[.slice A n cap] W fun e w' => ∃ A c, e = .returned (.tuple #[.slice A nl c, .bool okb]) ∧ ClA w' (.slice A nl c) cs ∧ Below W.heap.size W w') := fun W hW => by
        rw [← hnl]
        exact (parse_sla _ l (by omega) W (HV.out.below hW) (hL.below hW)).mono fun e w' hp => isb_parse hI hp
      have hrp : ∀ W, Below w.heap.size w W → Calls Tryz.prog 21 #[.slice A n cap] W (PaEnd8 l W) := fun W hW => refparse_any _ l (by omega) (.inl hl2) W (HV.out.below hW)
      have HPr : Hid (∀ W, Below w.heap.size w W → Calls Tryz.prog 21 #[.slice A n cap] W fun e w' => ∃ A c, e = .returned (.tuple #[.slice A nl c, .bool okb]) ∧ ClA w' (.slice A nl c) cs ∧ Below W.heap.size W w') := fun W hW => by
        rw [← hnl]
        exact (hrp W hW).mono fun e w' hp => isb_parse hI hp
      obtain ⟨fx, hfx⟩ : ∃ fx, (findL cs d).getD default = fx := ⟨_, rfl⟩
      obtain ⟨fb, hfb⟩ : ∃ fb, (findL cs d).isSome = fb := ⟨_, rfl⟩
      have HFc : Hid (∀ W, Below w.heap.size w W → Calls Tryz.prog 14 #[.slice A n cap, d.v] W fun e w' => e = .returned (.tuple #[fx.v, .bool fb]) ∧ Below W.heap.size W w') := fun W hW =>
        (find_sla _ l d (by omega) W (HV.out.below hW) (hL.below hW)).mono fun e w' ⟨hb, ds, hd, he⟩ => by
          obtain rfl := isb_find hI hd
          exact ⟨by rw [he, hfx, hfb], hb⟩
      have HFr : Hid (∀ W, Below w.heap.size w W → Calls Tryz.prog 15 #[.slice A n cap, d.v] W fun e w' => e = .returned (.tuple #[fx.v, .bool fb]) ∧ Below W.heap.size W w') := fun W hW =>
        (reffind_any _ l d hds.dc W (HV.out.below hW) (fun W' hW' => hrp W' (hW.trans (hW'.mono hW.size)))).mono fun e w' ⟨hb, ds, hd, he⟩ => by
          obtain rfl := isb_find hI hd
          exact ⟨by rw [he, hfx, hfb], hb⟩
      have HSa : Hid (∀ W v1 v2, ClA W v1 cs → ClA W v2 cs → Calls Tryz.prog 19 #[v1, v2] W fun e w' => e = .returned (.bool true) ∧ Below W.heap.size W w') := fun W v1 v2 h1 h2 => by
        have := samecells_any v1 v2 cs cs W h1 h2
        rwa [decide_eq_true rfl] at this
      clear hvd hL hg hds hl2 hI hnl hrp hfx hfb
      go_enter Tryz.func4, Tryz.ntmps4
      go_upto_region 3 with (go_at_call 9; refine (HA.out _ (below_new _ _)).mono ?_; rintro e w5 ⟨rfl, hb5⟩)
      have HB5 : Hid (Below w.heap.size w w5) := (below_new w _).trans (hb5.mono (by simp))
      have HD5 : Hid (DW w5 w.heap.size d) := DW.below (Blk.new w _ _) hb5
      clear hb5
      obtain ⟨x0, x1, x2, x3, x4, x5, x6, x7⟩ := DW.words HD5.out
      go_upto_region 5 with (go_at_call 10; refine (HLg.out _ _ (one_cla _ _)).mono ?_; rintro e w6 ⟨rfl, hb6⟩; have HB6 : Hid (Below w.heap.size w w6) := HB5.out.trans (((below_new w5 _).trans (hb6.mono (by simp))).mono HB5.out.size); have HD6 : Hid (DW w6 w.heap.size d) := DW.below (DW.below HD5.out (below_new w5 _)) hb6; clear hb6)
      clear x0 x1 x2 x3 x4 x5 x6 x7 HB5 HD5
      go_upto_region 7 with (first
        | (go_at_call 20; refine (HPc.out _ HB6.out).mono ?_; rintro e w7 ⟨A7, c7, rfl, hc7, hb7⟩; have HB7 := hid (HB6.out.trans (hb7.mono HB6.out.size)); have HD7 := hid (DW.below HD6.out hb7); have HC7 := hid hc7; clear hc7 hb7)
        | (go_at_call 21; refine (HPr.out _ HB7.out).mono ?_; rintro e w8 ⟨A8, c8, rfl, hc8, hb8⟩; have HB8 := hid (HB7.out.trans (hb8.mono HB7.out.size)); have HD8 := hid (DW.below HD7.out hb8); have HC8 := hid (And.intro (HC7.out.below hb8) hc8); clear hc8 hb8))
      obtain ⟨x0, x1, x2, x3, x4, x5, x6, x7⟩ := DW.words HD8.out
      go_upto_region 8 with (go_at_call 14; refine (HFc.out _ HB8.out).mono ?_; rintro e w9 ⟨rfl, hb9⟩)
      have HX9 : Hid (Below w8.heap.size w8 (w9.alloc (.cells #[.string fx.r, .string fx.f, .string fx.q, .int .i64 fx.t, .int .i64 fx.k, .int .i64 fx.vk, .int .i64 fx.vn, .string fx.s] 26)) ∧ DW (w9.alloc (.cells #[.string fx.r, .string fx.f, .string fx.q, .int .i64 fx.t, .int .i64 fx.k, .int .i64 fx.vk, .int .i64 fx.vn, .string fx.s] 26)) w9.heap.size fx) := ⟨hb9.trans ((below_new w9 _).mono hb9.size), Blk.new w9 _ _⟩
      clear hb9
      obtain ⟨W9, hW9⟩ : ∃ W9, w9.alloc (.cells #[.string fx.r, .string fx.f, .string fx.q, .int .i64 fx.t, .int .i64 fx.k, .int .i64 fx.vk, .int .i64 fx.vn, .string fx.s] 26) = W9 := ⟨_, rfl⟩
      obtain ⟨b9, hb9⟩ : ∃ b9, w9.heap.size = b9 := ⟨_, rfl⟩
      rw [hW9, hb9] at HX9 ⊢
      clear hW9 hb9 x0 x1 x2 x3 x4 x5 x6 x7
      have HB9 : Hid (Below w.heap.size w W9) := HB8.out.trans (HX9.out.1.mono HB8.out.size)
      obtain ⟨x0, x1, x2, x3, x4, x5, x6, x7⟩ := DW.words (DW.below HD8.out HX9.out.1)
      go_upto_region 9 with (go_at_call 15; refine (HFr.out _ HB9.out).mono ?_; rintro e w10 ⟨rfl, hb10⟩)
      have HX10 : Hid (Below W9.heap.size W9 (w10.alloc (.cells #[.string fx.r, .string fx.f, .string fx.q, .int .i64 fx.t, .int .i64 fx.k, .int .i64 fx.vk, .int .i64 fx.vn, .string fx.s] 26)) ∧ DW (w10.alloc (.cells #[.string fx.r, .string fx.f, .string fx.q, .int .i64 fx.t, .int .i64 fx.k, .int .i64 fx.vk, .int .i64 fx.vn, .string fx.s] 26)) w10.heap.size fx) := ⟨hb10.trans ((below_new w10 _).mono hb10.size), Blk.new w10 _ _⟩
      clear hb10
      obtain ⟨W10, hW10⟩ : ∃ W10, w10.alloc (.cells #[.string fx.r, .string fx.f, .string fx.q, .int .i64 fx.t, .int .i64 fx.k, .int .i64 fx.vk, .int .i64 fx.vn, .string fx.s] 26) = W10 := ⟨_, rfl⟩
      obtain ⟨b10, hb10⟩ : ∃ b10, w10.heap.size = b10 := ⟨_, rfl⟩
      rw [hW10, hb10] at HX10 ⊢
      clear hW10 hb10 x0 x1 x2 x3 x4 x5 x6 x7
      have HB10 : Hid (Below w.heap.size w W10) := HB9.out.trans (HX10.out.1.mono HB9.out.size)
      have HC10 : Hid (ClA W10 (.slice A7 nl c7) cs ∧ ClA W10 (.slice A8 nl c8) cs) := ⟨(HC8.out.1.below HX9.out.1).below HX10.out.1, (HC8.out.2.below HX9.out.1).below HX10.out.1⟩
      have HD10 : Hid (DW W10 b9 fx ∧ DW W10 b10 fx) := ⟨DW.below HX9.out.2 HX10.out.1, HX10.out.2⟩
      clear HX9 HX10 HB6 HB7 HB8 HB9 HD6 HD7 HD8 HC7 HC8
      go_wp2_with (go_at_call 19; refine (HSa.out _ _ _ HC10.out.1 HC10.out.2).mono ?_; rintro e w11 ⟨rfl, hb11⟩; obtain ⟨y0, y1, y2, y3, y4, y5, y6, y7⟩ := DW.words (DW.below HD10.out.1 hb11); obtain ⟨z0, z1, z2, z3, z4, z5, z6, z7⟩ := DW.words (DW.below HD10.out.2 hb11))
      go_ret
      exact ⟨rfl, HB10.out.trans (hb11.mono HB10.out.size)⟩
end Go.Proofs.YtfcnobcpnhfgmaaGreatDoor
