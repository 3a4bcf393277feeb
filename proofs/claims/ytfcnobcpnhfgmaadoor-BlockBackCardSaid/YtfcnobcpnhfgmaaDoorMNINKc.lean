/- Several texts in one: NI NJ SHa NKa NKb NK NKc. Conditions: as each theorem names them. -/
import Derived.Test.YtfcnobcpnhfgmaaDoorMCPNH
import Derived.Deep.Upon
import Derived.Deep.AppendSrc
import Derived.Lib.Bytealg
import Derived.Test.YtfcnobcpnhfgmaaDoorMIICQ
import Derived.Test.YtfcnobcpnhfgmaaDoorSLa
import Derived.Laws.BytesArg
import Derived.Laws.MakeOwn
import Derived.LoopN
import Derived.Lib.AppendZeros
import Derived.Shelf.Bytes.SlSmallAll
import Derived.Deep.RegionHeld3
/- bytes.Compare at slices; append to a slice that is cut at its capacity. Conditions: the slices hold their bytes, a million together at most. -/
namespace Go.Proofs.YtfcnobcpnhfgmaaDoor
open Go.RowKit

theorem run_loadBytes (w : World) : ∀ (l : List UInt8) (b off : Nat) (acc : ByteArray), Holds w b off l → (Extern.Bytes.loadBytes ⟨b, off, none⟩ l.length acc).run Tryd.prog w = .ok ⟨acc.data ++ l.toArray⟩ w
  | [], b, off, acc, _ => by
    show (pure acc : Sem ByteArray).run Tryd.prog w = _
    rw [Sem.run_pure]
    cases acc
    simp
  | x :: l, b, off, acc, h => by
    have hx := h 0 (by simp)
    simp only [List.getD_cons_zero, Nat.add_zero] at hx
    have ht : Holds w b (off + 1) l := h.drop 1
    have ih := run_loadBytes w l b (off + 1) (acc.push x) ht
    show (Extern.Bytes.loadBytes ⟨b, off, none⟩ (l.length + 1) acc).run Tryd.prog w = _
    unfold Extern.Bytes.loadBytes
    have hl : (load ⟨b, off, none⟩).run Tryd.prog w = .ok (.int .u8 (x.toNat : Int)) w := by rw [run_load, hx]
    rw [Sem.run_bind, hl]
    simp only [Result.andThen]
    have e : (((x.toNat : Int)).toNat.toUInt8) = x := by simp
    rw [e, add_zero_off, ih]
    congr 1
    cases acc
    simp [ByteArray.push]
theorem run_bytesOf {w : World} {A : Option Addr} {c : Nat} {l : List UInt8} (h : HoldsA w A l) : (Extern.Bytes.bytesOf (.slice A l.length c)).run Tryd.prog w = .ok ⟨l.toArray⟩ w := by
  cases A with
  | none =>
    have h0 : l = [] := by
      cases l with
      | nil => rfl
      | cons y t => obtain ⟨b, off, e, _⟩ := h (by simp); cases e
    subst h0
    rfl
  | some a =>
    by_cases h0 : 0 < l.length
    · obtain ⟨b, off, e, hh⟩ := h h0
      cases e
      have := run_loadBytes w l b off .empty hh
      show (Extern.Bytes.loadBytes ⟨b, off, none⟩ l.length .empty).run Tryd.prog w = _
      rw [this]
      simp [ByteArray.empty, ByteArray.emptyWithCapacity]
      rfl
    · have h0 : l = [] := List.eq_nil_of_length_eq_zero (by omega)
      subst h0
      rfl
theorem run_compareBytes {w : World} {A1 A2 : Option Addr} {c1 c2 : Nat} {l1 l2 : List UInt8} (h1 : HoldsA w A1 l1) (h2 : HoldsA w A2 l2) :
    (Extern.BytealgCompare.compare #[.slice A1 l1.length c1, .slice A2 l2.length c2]).run Tryd.prog w = .ok (.int .i64 (Lib.compareBytes l1 l2)) w := by
  change Sem.run Tryd.prog (do pure (goInt (Extern.BytealgCompare.cmp (← Extern.Bytes.bytesOf (.slice A1 l1.length c1)) (← Extern.Bytes.bytesOf (.slice A2 l2.length c2))))) w = _
  rw [Sem.run_bind, run_bytesOf h1]
  simp only [Result.andThen]
  rw [Sem.run_bind, run_bytesOf h2]
  simp only [Result.andThen, Sem.run_pure]
  rw [Lib.cmp_eq]
  rfl
set_option maxRecDepth 100000 in
set_option maxHeartbeats 1000000 in
theorem bcompare_any (A1 A2 : Option Addr) (c1 c2 : Nat) (l1 l2 : List UInt8) (w : World) (h1 : HoldsA w A1 l1) (h2 : HoldsA w A2 l2) :
    Calls Tryd.prog 45 #[.slice A1 l1.length c1, .slice A2 l2.length c2] w fun e w' => e = .returned (.int .i64 (Lib.compareBytes l1 l2)) ∧ w' = w := by
  have hrun := run_compareBytes (c1 := c1) (c2 := c2) h1 h2
  obtain ⟨n1, hn1⟩ : ∃ n, l1.length = n := ⟨_, rfl⟩
  obtain ⟨n2, hn2⟩ : ∃ n, l2.length = n := ⟨_, rfl⟩
  obtain ⟨o, ho⟩ : ∃ o, Lib.compareBytes l1 l2 = o := ⟨_, rfl⟩
  rw [hn1, hn2, ho] at hrun
  rw [hn1, hn2, ho]
  clear hn1 hn2 ho h1 h2
  go_enter Tryd.func45, Tryd.ntmps45
  go_wp2
  rw [run_callFunc_extern Tryd.func93 (by kernel_rfl) (by kernel_rfl) (by kernel_rfl) (e := Extern.BytealgCompare.compare) (by kernel_rfl), hrun]
  simp only [Result.andThen]
  rw [Oper.upon_value]
  go_wp2
  go_ret
  exact ⟨rfl, rfl⟩

/-- append to a slice that has no room behind it: nothing happens, or a new row is made. -/
theorem run_append_cut (w : World) (ty : TypeId) (A : Option Addr) (n : Nat) (olds : List UInt8) (ho : olds.length = n) (hA : HoldsA w A olds) (hnil : A = none → n = 0) (A2 : Option Addr) (m c2 : Nat) (left : List UInt8) (hm : left.length = m) (h2 : HoldsA w A2 left) (hlen : n + m ≤ 1000000) :
    ∃ v' w', (Builtin.append_ #[26, 26] ty #[.slice A n n, .slice A2 m c2]).run Tryd.prog w = .ok v' w' ∧ Below w.heap.size w w' ∧ ((left = [] ∧ v' = .slice A n n ∧ w' = w) ∨ (left ≠ [] ∧ Row w' w.heap.size v' (olds ++ left))) := by
  obtain ⟨i0, hi, hz0, hz1, hz2⟩ := info_parts info_u8
  by_cases hl : left = []
  · subst hl
    subst hm
    refine ⟨_, w, ?_, Below.refl _ _, .inl ⟨rfl, rfl, rfl⟩⟩
    have hs : Src Tryd.prog i0.size 26 (.slice A2 0 c2) 0 [] w := by
      cases A2 with
      | none => exact Src.ofNil w Tryd.underlying26 c2
      | some a => exact Src.ofSlice w Tryd.underlying26 a 0 c2 [] (by simp) (fun j u h => by simp at h) (fun u h => by cases h)
    exact run_append_nothing (P := Tryd.prog) w 26 26 ty 5 i0 Tryd.underlying26 hi A n n (Nat.le_refl _) (.slice A2 0 c2) hs
  · have hpos : 0 < left.length := List.length_pos_iff.2 hl
    obtain ⟨b2, o2, e2, hh2⟩ := h2 hpos
    subst e2
    have cells : ∀ (l : List UInt8) (b off : Nat), Holds w b off l → ∀ j u, (bc l)[j]? = some u → w.cell? ((⟨b, off, none⟩ : Addr).add j) = some u := fun l b off hh j u hj => by
      have hjn : j < l.length := by
        rcases Nat.lt_or_ge j l.length with h1 | h1
        · exact h1
        · rw [bc_at, List.getElem?_eq_none h1] at hj; cases hj
      rw [add_zero_off, hh j hjn, ← hj, bc_at, List.getElem?_eq_getElem hjn, List.getD_eq_getElem?_getD, List.getElem?_eq_getElem hjn]
      rfl
    have fin : ∀ (W : World) (cap : Nat) (hcap : n + m ≤ cap) (hcap2 : cap ≤ maxLen), Row (W.alloc (.cells ((bc (olds ++ left)).toArray ++ Builtin.zeroCells (Value.int .u8 0).cells (cap - (n + m))) 5)) W.heap.size (.slice (some ⟨W.heap.size, 0, none⟩) (n + m) cap) (olds ++ left) := fun W cap hcap hcap2 => by
      refine ⟨by rw [bc_len]; omega, .inr ⟨W.heap.size, cap, _, by rw [List.length_append, ho, hm], Nat.le_refl _, heap_alloc_new W _, by rw [List.length_append]; omega, hcap2, ?_, ?_⟩⟩
      · simp [Builtin.zeroCells, bc_len, ho, hm, Value.cells]; omega
      · rw [Array.toList_append, List.take_append_of_le_length (by simp [bc_len, ho, hm]), List.take_of_length_le (by simp [bc_len, ho, hm])]
    have hgc : ∀ old, grownCap w (n + m) old 5 ≤ maxLen := fun old => grownCap_le_maxLen w _ old 5 (by unfold maxLen; omega)
    by_cases hn0 : A = none
    · have h0 := hnil hn0
      subst hn0
      have eo : olds = [] := List.eq_nil_of_length_eq_zero (by omega)
      subst h0
      subst eo
      have hr := run_append_nil (P := Tryd.prog) w 26 ty 5 i0 (.int .u8 0) Tryd.underlying26 hi hz0 ⟨b2, o2, none⟩ m c2 (bc left) (by rw [hz1, bc_len]; omega) (cells left b2 o2 hh2) (by omega) (by omega) (by rw [hz2]; omega)
      refine ⟨_, _, hr, (Below.drew (Below.refl _ _)).alloc (by simp) _, .inr ⟨hl, ?_⟩⟩
      have := fin w.drew (grownCap w m 0 5) (by have := grownCap_ge w m 0 5; omega) (by have := hgc 0; rwa [Nat.zero_add] at this)
      simpa using this
    · obtain ⟨a, ea⟩ : ∃ a, A = some a := by
        cases A with
        | none => exact absurd rfl hn0
        | some a => exact ⟨a, rfl⟩
      subst ea
      have hco : ∀ j u, (bc olds)[j]? = some u → w.cell? (a.add j) = some u := fun j u hj => by
        have hjn : 0 < olds.length := by
          rcases Nat.eq_zero_or_pos olds.length with h1 | h1
          · rw [bc_at, List.getElem?_eq_none (by omega)] at hj; cases hj
          · exact h1
        obtain ⟨b, off, e, hh⟩ := hA hjn
        cases e
        exact cells olds b off hh j u hj
      have hr := run_append_grow (P := Tryd.prog) w 26 ty 5 i0 (.int .u8 0) Tryd.underlying26 hi hz0 a n n (bc olds) (by rw [hz1, bc_len]; omega) hco ⟨b2, o2, none⟩ m c2 (bc left) (by rw [hz1, bc_len]; omega) (cells left b2 o2 hh2) (by omega) (by omega) (by rw [hz2]; exact growslice_fits (by omega) (by omega))
      refine ⟨_, _, hr, (Below.drew (Below.refl _ _)).alloc (by simp) _, .inr ⟨hl, ?_⟩⟩
      have := fin w.drew (grownCap w (n + m) n 5) (by have := grownCap_ge w (n + m) n 5; omega) (hgc n)
      rw [bc_app] at this
      simpa using this
end Go.Proofs.YtfcnobcpnhfgmaaDoor

/- The block's reader: the next key, by the key ahead of it. Conditions: the reader holds its bytes, the key ahead stands, a million bytes together at most. -/
namespace Go.Proofs.YtfcnobcpnhfgmaaDoor
open Go.RowKit

section
variable {rb n m c k : Nat} {A : Option Addr} {w : World} {Q1 : World → Prop} {Q2 Q3 : Option Addr → Nat → World → Prop}
set_option maxRecDepth 100000 in
set_option maxHeartbeats 2000000 in
theorem bkey_great (hn : m < n)
    (HN : Calls Tryd.prog 49 #[.pointer (some ⟨rb, 0, none⟩)] w fun e w' => e = .returned (.int .i64 (n : Int)) ∧ Q1 w')
    (HC : ∀ W, Q1 W → Calls Tryd.prog 101 #[.pointer (some ⟨rb, 0, none⟩)] W fun e w' => ∃ A2 c2, e = .returned (.slice A2 k c2) ∧ Q2 A2 c2 w')
    (HF : ∀ A2 c2 W, Q2 A2 c2 W → W.frozen? ⟨rb, 1, none⟩ = false ∧ ∃ x, W.cell? ⟨rb, 1, none⟩ = some (.bool x)) :
    Calls Tryd.prog 99 #[.pointer (some ⟨rb, 0, none⟩), .slice A m c] w fun e w' => e = .returned (.slice none 0 0) ∧ ∃ A2 c2 W, Q2 A2 c2 W ∧ w' = W.setCell ⟨rb, 1, none⟩ (.bool true) := by
  have hz : (m : Int) < (n : Int) := by omega
  have HN := hid HN
  have HC := hid HC
  have HF := hid HF
  go_enter Tryd.func99, Tryd.ntmps99
  go_wp2_with (first
    | (go_at_call 49; refine HN.out.mono ?_; rintro e w1 ⟨rfl, h1⟩)
    | (go_at_call 101; refine (HC.out _ h1).mono ?_; rintro e w2 ⟨A2, c2, rfl, h2⟩; have hq2 := hid h2; obtain ⟨f1, x1, g1⟩ := HF.out _ _ _ h2; clear h2))
  go_ret
  exact ⟨rfl, _, _, _, hq2.out, rfl⟩

/-- The walk of key where the number is that of bytes of the key ahead. -/
structure KyH (rb n m k k3 : Nat) (c : Nat) (A : Option Addr) (o : Int) (p : Nat) (w : World) (Q1 : World → Prop) (Q2 Q3 : Option Addr → Nat → World → Prop) : Prop where
  num : Calls Tryd.prog 49 #[.pointer (some ⟨rb, 0, none⟩)] w fun e w' => e = .returned (.int .i64 (n : Int)) ∧ Q1 w'
  cou : ∀ W, Q1 W → Calls Tryd.prog 101 #[.pointer (some ⟨rb, 0, none⟩)] W fun e w' => ∃ A2 c2, e = .returned (.slice A2 k c2) ∧ Q2 A2 c2 w'
  app : ∀ A2 c2 W, Q2 A2 c2 W → ∃ A3 c3 W', (Builtin.append_ #[26, 26] 26 #[.slice A n n, .slice A2 k c2]).run Tryd.prog W = .ok (.slice A3 k3 c3) W' ∧ Q3 A3 c3 W'
  ali : ∀ A3 c3 W, Q3 A3 c3 W → Calls Tryd.prog 46 #[.slice A m c, .slice A3 k3 c3] W fun e w' => e = .returned (.int .i64 (p : Int)) ∧ Q3 A3 c3 w'
  cmp : ∀ A3 c3 W, Q3 A3 c3 W → Calls Tryd.prog 45 #[.slice A m c, .slice A3 k3 c3] W fun e w' => e = .returned (.int .i64 o) ∧ Q3 A3 c3 w'
  drw : ∀ A3 c3 W, Q3 A3 c3 W → Q3 A3 c3 W.drew
  fre : ∀ A3 c3 W, Q3 A3 c3 W → W.frozen? ⟨rb, 1, none⟩ = false ∧ ∃ x, W.cell? ⟨rb, 1, none⟩ = some (.bool x)
set_option maxRecDepth 100000 in
set_option maxHeartbeats 2000000 in
theorem bkey_good {k3 p : Nat} {o : Int} (hn : n ≤ m) (hm : m ≤ c) (hc : c ≤ 9223372036854775807) (hA : A = none → c = 0) (hp : p = n) (ho : o < 0) (H : KyH rb n m k k3 c A o p w Q1 Q2 Q3) :
    Calls Tryd.prog 99 #[.pointer (some ⟨rb, 0, none⟩), .slice A m c] w fun e w' => ∃ A3 c3, e = .returned (.slice A3 k3 c3) ∧ Q3 A3 c3 w' := by
  subst hp
  have hz : ¬ (m : Int) < (p : Int) := by omega
  have hoz : ¬ 0 ≤ o := by omega
  have H := hid H
  cases A with
  | none =>
    obtain rfl := hA rfl
    obtain rfl : m = 0 := by omega
    obtain rfl : p = 0 := by omega
    clear hA hn hm
    go_enter Tryd.func99, Tryd.ntmps99
    go_wp2_with (first
      | (go_at_call 49; refine H.out.num.mono ?_; rintro e w1 ⟨rfl, h1⟩)
      | (go_at_call 101; refine (H.out.cou _ h1).mono ?_; rintro e w2 ⟨A2, c2, rfl, h2⟩; obtain ⟨A3, c3, w3, hrun, h3⟩ := H.out.app _ _ _ h2)
      | (at_builtin; refine Lib.wpList_append_run _ rfl (.tmp 22) (.tmp 23) 26 26 rfl _ _ rfl rfl _ w3 hrun ?_)
      | (go_at_call 46; refine (H.out.ali _ _ _ h3).mono ?_; rintro e w4 ⟨rfl, h4⟩)
      | (go_at_call 45; refine (H.out.cmp _ _ _ h4).mono ?_; rintro e w5 ⟨rfl, h5⟩))
    go_ret
    exact ⟨_, _, rfl, h5⟩
  | some ad =>
    clear hA
    go_enter Tryd.func99, Tryd.ntmps99
    go_wp2_with (first
      | (go_at_call 49; refine H.out.num.mono ?_; rintro e w1 ⟨rfl, h1⟩)
      | (go_at_call 101; refine (H.out.cou _ h1).mono ?_; rintro e w2 ⟨A2, c2, rfl, h2⟩; obtain ⟨A3, c3, w3, hrun, h3⟩ := H.out.app _ _ _ h2)
      | (at_builtin; refine Lib.wpList_append_run _ rfl (.tmp 22) (.tmp 23) 26 26 rfl _ _ rfl rfl _ w3 hrun ?_)
      | (go_at_call 46; refine (H.out.ali _ _ _ h3).mono ?_; rintro e w4 ⟨rfl, h4⟩)
      | (go_at_call 45; refine (H.out.cmp _ _ _ h4).mono ?_; rintro e w5 ⟨rfl, h5⟩))
    go_ret
    exact ⟨_, _, rfl, h5⟩
set_option maxRecDepth 100000 in
set_option maxHeartbeats 2000000 in
theorem bkey_less {k3 p : Nat} {o : Int} (hn : n ≤ m) (hm : m ≤ c) (hc : c ≤ 9223372036854775807) (hA : A = none → c = 0) (hp : p = n) (ho : 0 ≤ o) (H : KyH rb n m k k3 c A o p w Q1 Q2 Q3) :
    Calls Tryd.prog 99 #[.pointer (some ⟨rb, 0, none⟩), .slice A m c] w fun e w' => ∃ A3 c3, e = .returned (.slice A3 k3 c3) ∧ ∃ W, Q3 A3 c3 W ∧ w' = W.setCell ⟨rb, 1, none⟩ (.bool true) := by
  subst hp
  have hz : ¬ (m : Int) < (p : Int) := by omega
  have H := hid H
  cases A with
  | none =>
    obtain rfl := hA rfl
    obtain rfl : m = 0 := by omega
    obtain rfl : p = 0 := by omega
    clear hA hn hm
    go_enter Tryd.func99, Tryd.ntmps99
    go_wp2_with (first
      | (go_at_call 49; refine H.out.num.mono ?_; rintro e w1 ⟨rfl, h1⟩)
      | (go_at_call 101; refine (H.out.cou _ h1).mono ?_; rintro e w2 ⟨A2, c2, rfl, h2⟩; obtain ⟨A3, c3, w3, hrun, h3⟩ := H.out.app _ _ _ h2)
      | (at_builtin; refine Lib.wpList_append_run _ rfl (.tmp 22) (.tmp 23) 26 26 rfl _ _ rfl rfl _ w3 hrun ?_)
      | (go_at_call 46; refine (H.out.ali _ _ _ h3).mono ?_; rintro e w4 ⟨rfl, h4⟩)
      | (go_at_call 45; refine (H.out.cmp _ _ _ h4).mono ?_; rintro e w5 ⟨rfl, h5⟩; obtain ⟨f5, x5, g5⟩ := H.out.fre _ _ _ h5))
    go_ret
    exact ⟨_, _, rfl, _, h5, rfl⟩
  | some ad =>
    clear hA
    go_enter Tryd.func99, Tryd.ntmps99
    go_wp2_with (first
      | (go_at_call 49; refine H.out.num.mono ?_; rintro e w1 ⟨rfl, h1⟩)
      | (go_at_call 101; refine (H.out.cou _ h1).mono ?_; rintro e w2 ⟨A2, c2, rfl, h2⟩; obtain ⟨A3, c3, w3, hrun, h3⟩ := H.out.app _ _ _ h2)
      | (at_builtin; refine Lib.wpList_append_run _ rfl (.tmp 22) (.tmp 23) 26 26 rfl _ _ rfl rfl _ w3 hrun ?_)
      | (go_at_call 46; refine (H.out.ali _ _ _ h3).mono ?_; rintro e w4 ⟨rfl, h4⟩)
      | (go_at_call 45; refine (H.out.cmp _ _ _ h4).mono ?_; rintro e w5 ⟨rfl, h5⟩; obtain ⟨f5, x5, g5⟩ := H.out.fre _ _ _ h5))
    go_ret
    exact ⟨_, _, rfl, _, h5, rfl⟩
set_option maxRecDepth 100000 in
set_option maxHeartbeats 2000000 in
theorem bkey_other {k3 p : Nat} {o : Int} (hn : n ≤ m) (hm : m ≤ c) (hc : c ≤ 9223372036854775807) (hA : A = none → c = 0) (hp : p ≠ n) (H : KyH rb n m k k3 c A o p w Q1 Q2 Q3) :
    Calls Tryd.prog 99 #[.pointer (some ⟨rb, 0, none⟩), .slice A m c] w fun e w' => ∃ A3 c3, e = .returned (.slice A3 k3 c3) ∧ ∃ W, Q3 A3 c3 W ∧ w' = W.setCell ⟨rb, 1, none⟩ (.bool true) := by
  have hz : ¬ (m : Int) < (n : Int) := by omega
  have hpz : ((p : Int) != (n : Int)) = true := by simp; omega
  have H := hid H
  cases A with
  | none =>
    obtain rfl := hA rfl
    obtain rfl : m = 0 := by omega
    obtain rfl : n = 0 := by omega
    clear hA hn hm
    go_enter Tryd.func99, Tryd.ntmps99
    go_wp2_with (first
      | (go_at_call 49; refine H.out.num.mono ?_; rintro e w1 ⟨rfl, h1⟩)
      | (go_at_call 101; refine (H.out.cou _ h1).mono ?_; rintro e w2 ⟨A2, c2, rfl, h2⟩; obtain ⟨A3, c3, w3, hrun, h3⟩ := H.out.app _ _ _ h2)
      | (at_builtin; refine Lib.wpList_append_run _ rfl (.tmp 22) (.tmp 23) 26 26 rfl _ _ rfl rfl _ w3 hrun ?_)
      | (go_at_call 46; refine (H.out.ali _ _ _ h3).mono ?_; rintro e w4 ⟨rfl, h4⟩; obtain ⟨f4, x4, g4⟩ := H.out.fre _ _ _ h4))
    go_ret
    exact ⟨_, _, rfl, _, h4, rfl⟩
  | some ad =>
    clear hA
    go_enter Tryd.func99, Tryd.ntmps99
    go_wp2_with (first
      | (go_at_call 49; refine H.out.num.mono ?_; rintro e w1 ⟨rfl, h1⟩)
      | (go_at_call 101; refine (H.out.cou _ h1).mono ?_; rintro e w2 ⟨A2, c2, rfl, h2⟩; obtain ⟨A3, c3, w3, hrun, h3⟩ := H.out.app _ _ _ h2)
      | (at_builtin; refine Lib.wpList_append_run _ rfl (.tmp 22) (.tmp 23) 26 26 rfl _ _ rfl rfl _ w3 hrun ?_)
      | (go_at_call 46; refine (H.out.ali _ _ _ h3).mono ?_; rintro e w4 ⟨rfl, h4⟩; obtain ⟨f4, x4, g4⟩ := H.out.fre _ _ _ h4))
    go_ret
    exact ⟨_, _, rfl, _, h4, rfl⟩
end

/-- The slice stands in memory from block B on. -/
def FrV (B : Nat) (v : Value) : Prop := ∀ a m c, v = .slice (some a) m c → B ≤ a.block
theorem cmp_take : ∀ (a : List UInt8) (n : Nat), ¬ Lib.compareBytes a (a.take n) < 0
  | [], n => by rw [List.take_nil]; unfold Lib.compareBytes; omega
  | x :: a, 0 => by rw [List.take_zero]; unfold Lib.compareBytes; omega
  | x :: a, n + 1 => by
    rw [List.take_succ_cons]
    unfold Lib.compareBytes
    rw [if_neg (by simp), if_neg (by simp)]
    exact cmp_take a n
/-- What key leaves: where no such key stands there, the reader is bad. -/
def KyEnd (rb : Nat) (a l : List UInt8) (bad : Bool) (w : World) (e : Ending) (w' : World) : Prop :=
  But w.heap.size rb w w' ∧ match keyT a l with
    | some (k, s) => ∃ v, e = .returned v ∧ Sx w' rb v k ∧ Rs w' rb s bad ∧ FrV w.heap.size v
    | none => ∃ v k r, e = .returned v ∧ Sx w' rb v k ∧ Rs w' rb r true ∧ k.length + r.length ≤ a.length + l.length
theorem Rs.b1 {w : World} {rb : Nat} {l : List UInt8} {bad : Bool} (h : Rs w rb l bad) : w.frozen? ⟨rb, 1, none⟩ = false ∧ ∃ x, w.cell? ⟨rb, 1, none⟩ = some (.bool x) := by
  obtain ⟨v, h, _⟩ := h
  exact ⟨h.free 1, bad, h.cell 1⟩
theorem Rs.spoil {w : World} {rb : Nat} {l : List UInt8} {bad : Bool} (h : Rs w rb l bad) : Rs (w.setCell ⟨rb, 1, none⟩ (.bool true)) rb l true ∧ But w.heap.size rb w (w.setCell ⟨rb, 1, none⟩ (.bool true)) := by
  obtain ⟨v, h, hx⟩ := h
  have hb : But w.heap.size rb w (w.setCell ⟨rb, 1, none⟩ (.bool true)) := (But.refl _ _ _).setCell 1 _
  exact ⟨⟨v, h.set 1 _, hx.but hb⟩, hb⟩
/-- The number and what is counted, of whatever bytes. -/
def twoT (l : List UInt8) : Nat × List UInt8 × List UInt8 × Bool := match tk l with
  | none => (0, [], l, false)
  | some (n, r) => match cntT r with
    | none => (n, [], r, false)
    | some (x, s) => (n, x, s, true)
theorem key_two (a l : List UInt8) : keyT a l = if (twoT l).2.2.2 = true ∧ (twoT l).1 ≤ a.length ∧ preL a (a.take (twoT l).1 ++ (twoT l).2.1) = (twoT l).1 ∧ Lib.compareBytes a (a.take (twoT l).1 ++ (twoT l).2.1) < 0 then some (a.take (twoT l).1 ++ (twoT l).2.1, (twoT l).2.2.1) else none := by
  unfold keyT twoT
  cases tk l with
  | none => simp
  | some p =>
    obtain ⟨n, r⟩ := p
    simp only
    cases cntT r with
    | none => simp
    | some q =>
      obtain ⟨x, s⟩ := q
      simp only [true_and]
      by_cases h1 : n ≤ a.length
      · simp only [h1, if_true, true_and]
      · simp only [h1, if_false, false_and]

theorem bkey_any (rb : Nat) (a l : List UInt8) (bad : Bool) (v : Value) (hal : a.length + l.length ≤ 1000000) (w : World) (h : Rs w rb l bad) (ha : Sx w rb v a) :
    Calls Tryd.prog 99 #[.pointer (some ⟨rb, 0, none⟩), v] w (KyEnd rb a l bad w) := by
  have ha' := ha
  obtain ⟨A, c, rfl, hc1, hc2, hnil, hA⟩ := ha.form
  have hHA : ∀ W, But w.heap.size rb w W → HoldsA W A a := fun W hW => (ha'.but hW).holds.2.2.2.2
  -- the number, and what is counted
  have HN : Calls Tryd.prog 49 #[.pointer (some ⟨rb, 0, none⟩)] w fun e w' => e = .returned (.int .i64 ((twoT l).1 : Int)) ∧ (But w.heap.size rb w w' ∧ match tk l with | some (_, r) => Rs w' rb r bad | none => Rs w' rb l true) := by
    refine (bnumber_any rb l bad w h).mono fun e w' hn => ?_
    unfold NuEnd at hn
    unfold twoT
    cases ht : tk l with
    | none => rw [ht] at hn; exact ⟨hn.2.1, hn.1, hn.2.2⟩
    | some p =>
      obtain ⟨n, r⟩ := p
      rw [ht] at hn
      refine ⟨?_, hn.1, hn.2.2⟩
      rw [hn.2.1]
      simp only
      cases cntT r with
      | none => rfl
      | some q => rfl
  have HC : ∀ W, (But w.heap.size rb w W ∧ match tk l with | some (_, r) => Rs W rb r bad | none => Rs W rb l true) → Calls Tryd.prog 101 #[.pointer (some ⟨rb, 0, none⟩)] W fun e w' => ∃ A2 c2, e = .returned (.slice A2 (twoT l).2.1.length c2) ∧ (But w.heap.size rb w w' ∧ Sx w' rb (.slice A2 (twoT l).2.1.length c2) (twoT l).2.1 ∧ ∃ r b, Rs w' rb r b ∧ ((twoT l).2.2.2 = true → r = (twoT l).2.2.1 ∧ b = bad) ∧ ((twoT l).2.2.2 = false → b = true ∧ r.length ≤ l.length)) := by
    rintro W ⟨hW, hR⟩
    have fin : ∀ (w' : World) (x : List UInt8) (v : Value), Sx w' rb v x → ∃ A2 c2, v = .slice A2 x.length c2 := fun w' x v hx => by
      obtain ⟨A, c, e, _⟩ := hx
      exact ⟨A, c, e⟩
    unfold twoT
    cases ht : tk l with
    | none =>
      rw [ht] at hR
      refine (bcounted_any rb l true W hR).mono fun e w' hx => ?_
      unfold CoEnd at hx
      have hc0 : cntT l = none := by unfold cntT; rw [ht]
      rw [hc0] at hx
      obtain ⟨hb, u, r, he, hs, hr, hrl⟩ := hx
      obtain ⟨A2, c2, rfl⟩ := fin _ _ _ hs
      exact ⟨A2, c2, he, hW.trans (hb.mono hW.size), hs, r, true, hr, (fun e => by cases e), (fun _ => ⟨rfl, hrl⟩)⟩
    | some p =>
      obtain ⟨n, r0⟩ := p
      rw [ht] at hR
      have hrl0 : r0.length ≤ l.length := by have := congrArg List.length (tk_back ht); rw [List.length_append] at this; omega
      refine (bcounted_any rb r0 bad W hR).mono fun e w' hx => ?_
      unfold CoEnd at hx
      simp only
      cases hc0 : cntT r0 with
      | none =>
        rw [hc0] at hx
        obtain ⟨hb, u, r, he, hs, hr, hrl⟩ := hx
        obtain ⟨A2, c2, rfl⟩ := fin _ _ _ hs
        exact ⟨A2, c2, he, hW.trans (hb.mono hW.size), hs, r, true, hr, fun e => (by cases e), fun _ => ⟨rfl, by omega⟩⟩
      | some q =>
        obtain ⟨x, s⟩ := q
        rw [hc0] at hx
        obtain ⟨hb, u, he, hs, hr⟩ := hx
        obtain ⟨A2, c2, rfl⟩ := fin _ _ _ hs
        exact ⟨A2, c2, he, hW.trans (hb.mono hW.size), hs, s, bad, hr, fun _ => ⟨rfl, rfl⟩, fun e => (by cases e)⟩
  have hlen2 : (twoT l).2.1.length + (if (twoT l).2.2.2 = true then (twoT l).2.2.1.length else 0) ≤ l.length := by
    unfold twoT
    cases ht : tk l with
    | none => simp
    | some p =>
      obtain ⟨n, r0⟩ := p
      have hrl0 : r0.length ≤ l.length := by have := congrArg List.length (tk_back ht); rw [List.length_append] at this; omega
      simp only
      cases hc0 : cntT r0 with
      | none => simp
      | some q =>
        obtain ⟨x, s⟩ := q
        have := congrArg List.length (cnt_back hc0)
        simp only [List.length_append] at this
        simp only [if_true]
        omega
  have hx0 : (twoT l).2.2.2 = false → (twoT l).2.1 = [] := by
    unfold twoT
    cases tk l with
    | none => intro _; rfl
    | some p =>
      obtain ⟨n, r0⟩ := p
      simp only
      cases cntT r0 with
      | none => intro _; rfl
      | some q => intro e; cases e
  unfold KyEnd
  rw [key_two]
  obtain ⟨⟨n, x, s, g⟩, hT⟩ : ∃ T, twoT l = T := ⟨_, rfl⟩
  rw [hT] at HN HC hlen2 hx0 ⊢
  simp only at HN HC hlen2 hx0 ⊢
  by_cases hn : n ≤ a.length
  · have H : KyH rb n a.length x.length (n + x.length) c A (Lib.compareBytes a (a.take n ++ x)) (preL a (a.take n ++ x)) w (fun W => But w.heap.size rb w W ∧ match tk l with | some (_, r) => Rs W rb r bad | none => Rs W rb l true) (fun A2 c2 W => But w.heap.size rb w W ∧ Sx W rb (.slice A2 x.length c2) x ∧ ∃ r b, Rs W rb r b ∧ (g = true → r = s ∧ b = bad) ∧ (g = false → b = true ∧ r.length ≤ l.length)) (fun A3 c3 W => But w.heap.size rb w W ∧ Sx W rb (.slice A3 (n + x.length) c3) (a.take n ++ x) ∧ (x = [] ∨ FrV w.heap.size (.slice A3 (n + x.length) c3)) ∧ ∃ r b, Rs W rb r b ∧ (g = true → r = s ∧ b = bad) ∧ (g = false → b = true ∧ r.length ≤ l.length)) := by
      have hkl : (a.take n ++ x).length = n + x.length := by rw [List.length_append, List.length_take]; omega
      refine ⟨HN, HC, ?_, ?_, ?_, ?_, ?_⟩
      · rintro A2 c2 W ⟨hb, hs, r, b, hr, hg⟩
        obtain ⟨v', W', hrun, hbw, hcase⟩ := run_append_cut W 26 A n (a.take n) (by rw [List.length_take]; omega) (fun h0 => by
          have hl0 : 0 < a.length := by rw [List.length_take] at h0; omega
          obtain ⟨b', o', e, hh⟩ := hHA W hb hl0
          refine ⟨b', o', e, fun i hi => ?_⟩
          rw [List.length_take] at hi
          rw [hh i (by omega)]
          simp only [List.getD_eq_getElem?_getD, List.getElem?_take_of_lt (show i < n by omega)]) (fun e => by have := hnil e; omega) A2 x.length c2 x rfl hs.holds.2.2.2.2 (by omega)
        have hrb : rb < W.heap.size := hr.lt
        rcases hcase with ⟨rfl, rfl, rfl⟩ | ⟨hne, hrow⟩
        · refine ⟨A, n, W', by simpa using hrun, hb, ?_, .inl rfl, r, b, hr, hg⟩
          rw [List.append_nil]
          obtain ⟨A', c', e, g2, g3, g4, g5⟩ := ha'.but hb
          injection e with e1 e2 e3
          subst e1 e3
          refine ⟨A, n, by rw [List.length_take]; simp; omega, by rw [List.length_take]; omega, by omega, fun e => (by have := hnil e; omega), fun h0 => ?_⟩
          obtain ⟨b', o', e, k1, k2, k3⟩ := g5 h0
          refine ⟨b', o', e, k1, k2, fun i hi => ?_⟩
          rw [List.length_take] at hi
          rw [k3 i (by omega)]
          simp only [List.getD_eq_getElem?_getD, List.getElem?_take_of_lt (show i < n by omega)]
        · have hsx := hrow.sx hrb
          have hfr : FrV w.heap.size v' := fun a' m' c' e => by
            subst e
            have := (World.ownsRow.lt hrow a'.block rfl).1
            have := hb.size
            omega
          obtain ⟨A3, c3, rfl, _⟩ := hsx.form
          rw [hkl] at hrun hsx hfr
          exact ⟨A3, c3, W', hrun, hb.trans ((But.of_below hbw rb).mono hb.size), hsx, .inr hfr, r, b, hr.below hbw, hg⟩
      · rintro A3 c3 W ⟨hb, hs, hf, r, b, hr, hg⟩
        have := alike_any A A3 c c3 a (a.take n ++ x) (by omega) W (hHA W hb) hs.holds.2.2.2.2
        rw [hkl] at this
        exact this.mono fun e w' ⟨he, hbw⟩ => ⟨he, hb.trans ((But.of_below hbw rb).mono hb.size), hs.below hbw, hf, r, b, hr.below hbw, hg⟩
      · rintro A3 c3 W ⟨hb, hs, hf, r, b, hr, hg⟩
        have := bcompare_any A A3 c c3 a (a.take n ++ x) W (hHA W hb) hs.holds.2.2.2.2
        rw [hkl] at this
        exact this.mono fun e w' ⟨he, hw⟩ => ⟨he, by rw [hw]; exact ⟨hb, hs, hf, r, b, hr, hg⟩⟩
      · rintro A3 c3 W ⟨hb, hs, hf, r, b, hr, hg⟩
        have hbw : Below W.heap.size W W.drew := (Below.refl _ _).drew
        exact ⟨hb.trans ((But.of_below hbw rb).mono hb.size), hs.below hbw, hf, r, b, hr.below hbw, hg⟩
      · rintro A3 c3 W ⟨hb, hs, hf, r, b, hr, hg⟩
        exact hr.b1
    have hfin : ∀ (A3 : Option Addr) (c3 : Nat) (e : Ending) (w' : World), e = .returned (.slice A3 (n + x.length) c3) → (∃ W, (But w.heap.size rb w W ∧ Sx W rb (.slice A3 (n + x.length) c3) (a.take n ++ x) ∧ (x = [] ∨ FrV w.heap.size (.slice A3 (n + x.length) c3)) ∧ ∃ r b, Rs W rb r b ∧ (g = true → r = s ∧ b = bad) ∧ (g = false → b = true ∧ r.length ≤ l.length)) ∧ w' = W.setCell ⟨rb, 1, none⟩ (.bool true)) → But w.heap.size rb w w' ∧ ∃ v k r, e = .returned v ∧ Sx w' rb v k ∧ Rs w' rb r true ∧ k.length + r.length ≤ a.length + l.length := by
      rintro A3 c3 e w' he ⟨W, ⟨hb, hs, _, r, b, hr, hg1, hg2⟩, rfl⟩
      obtain ⟨h1, h2⟩ := hr.spoil
      refine ⟨hb.trans (h2.mono hb.size), _, _, r, he, hs.but h2, h1, ?_⟩
      rw [List.length_append, List.length_take]
      cases g with
      | true => rw [(hg1 rfl).1]; simp only [if_true] at hlen2; omega
      | false =>
        have h3 := (hg2 rfl).2
        have h4 := hx0 rfl
        subst h4
        simp only [List.length_nil]
        omega
    by_cases hp : preL a (a.take n ++ x) = n
    · by_cases ho : Lib.compareBytes a (a.take n ++ x) < 0
      · refine (bkey_good hn hc1 hc2 hnil hp ho H).mono fun e w' ⟨A3, c3, he, hb, hs, hf, r, b, hr, hg1, hg2⟩ => ⟨hb, ?_⟩
        cases g with
        | true =>
          rw [if_pos ⟨rfl, hn, hp, ho⟩]
          obtain ⟨rfl, rfl⟩ := hg1 rfl
          refine ⟨_, he, hs, hr, ?_⟩
          rcases hf with hf | hf
          · exfalso
            rw [hf, List.append_nil] at ho
            exact cmp_take _ _ ho
          · exact hf
        | false =>
          rw [if_neg (fun h => by cases h.1)]
          obtain ⟨rfl, h3⟩ := hg2 rfl
          refine ⟨_, _, r, he, hs, hr, ?_⟩
          have h4 := hx0 rfl
          subst h4
          rw [List.append_nil, List.length_take]
          omega
      · refine (bkey_less hn hc1 hc2 hnil hp (by omega) H).mono fun e w' ⟨A3, c3, he, hW⟩ => ?_
        rw [if_neg (fun h => ho h.2.2.2)]
        exact hfin A3 c3 e w' he hW
    · refine (bkey_other hn hc1 hc2 hnil hp H).mono fun e w' ⟨A3, c3, he, hW⟩ => ?_
      rw [if_neg (fun h => hp h.2.2.1)]
      exact hfin A3 c3 e w' he hW
  · refine (bkey_great (by omega) HN HC (fun A2 c2 W ⟨_, _, r, b, hr, _⟩ => hr.b1)).mono fun e w' ⟨he, A2, c2, W, ⟨hb, hs, r, b, hr, hg1, hg2⟩, hw⟩ => ?_
    subst hw
    rw [if_neg (fun h => hn h.2.1)]
    obtain ⟨h1, h2⟩ := hr.spoil
    refine ⟨hb.trans (h2.mono hb.size), _, [], r, he, sx_nil _ _, h1, ?_⟩
    cases g with
    | true => rw [(hg1 rfl).1]; simp only [if_true] at hlen2; simp only [List.length_nil]; omega
    | false =>
      have h3 := (hg2 rfl).2
      simp only [List.length_nil]
      omega
end Go.Proofs.YtfcnobcpnhfgmaaDoor

/- bytes.Equal, slices.Grow at nothing, slices.Concat of three slices. Conditions: the slices hold their bytes, a million together at most. -/
namespace Go.Proofs.YtfcnobcpnhfgmaaDoor
open Go.RowKit

theorem nums_str (l : List UInt8) : strOfNums (l.map fun x => (x.toNat : Int)) = ⟨l.toArray⟩ := by
  unfold strOfNums
  congr 2
  rw [List.map_map]
  apply List.ext_getElem
  · simp
  · intro i h1 h2; simp
theorem conv_any {A : Option Addr} {c : Nat} {l : List UInt8} {w : World} (h : HoldsA w A l) : (convert 26 9 (.slice A l.length c)).run Tryd.prog w = .ok (.string ⟨l.toArray⟩) w := by
  by_cases h0 : 0 < l.length
  · obtain ⟨b, off, rfl, hh⟩ := h h0
    rw [← nums_str]
    refine run_convert_bytes_arg w 26 5 Tryd.underlying26 Tryd.underlying5 b off l.length c _ (by simp) ?_ 9 Tryd.underlying9
    intro i hi
    rw [hh i hi]
    simp [List.getD_eq_getElem?_getD, List.getElem?_eq_getElem hi]
  · have : l = [] := List.eq_nil_of_length_eq_zero (by omega)
    subst this
    exact run_convert_bytes_zero w 26 5 Tryd.underlying26 Tryd.underlying5 A c 9 Tryd.underlying9

set_option maxHeartbeats 1000000 in
theorem equal_any (A1 A2 : Option Addr) (c1 c2 : Nat) (l1 l2 : List UInt8) (w : World) (h1 : HoldsA w A1 l1) (h2 : HoldsA w A2 l2) :
    Calls Tryd.prog 102 #[.slice A1 l1.length c1, .slice A2 l2.length c2] w fun e w' => e = .returned (.bool (decide (l1 = l2))) ∧ w' = w := by
  have e1 := conv_any (c := c1) h1
  have e2 := conv_any (c := c2) h2
  have HD : Hid ((l1 == l2) = decide (l1 = l2)) := by unfold Hid; rw [Bool.eq_iff_iff]; simp
  clear h1 h2
  go_enter Tryd.func102, Tryd.ntmps102
  go_wp2
  go_ret
  rw [← HD.out]
  exact ⟨rfl, rfl⟩

/-- Nothing is appended. -/
theorem run_append_nothing (w : World) (B : Nat) (v : Value) (l : List UInt8) (h : Row w B v l) (c : Nat) : (Builtin.append_ #[26, 26] 26 #[v, .slice none 0 c]).run Tryd.prog w = .ok v w := by
  obtain ⟨i0, hi, hz0, hz1, hz2⟩ := info_parts info_u8
  obtain ⟨h1, h2⟩ := h
  rcases h2 with ⟨rfl, h0⟩ | ⟨g, cap, cur, rfl, hB, hh, hn, hm, hs, ht⟩
  · have h1 := run_underlying (P := Tryd.prog) Tryd.underlying26
    have hlen : (Builtin.lenOf (.slice none 0 c)).run Tryd.prog w = .ok 0 w := rfl
    simp [Builtin.append_, h1, sizeOf, typeInfo, hi, Builtin.firstCells, hlen]
  · have := run_append_room_src (P := Tryd.prog) (w := w) 26 26 26 5 i0 Tryd.underlying26 hi g 0 l.length cap (.slice none 0 c) 0 [] (Src.ofNil w Tryd.underlying26 c) (by omega) (fun j hj => absurd hj (by simp)) (fun j hj => absurd hj (by simp))
    rw [this]
    rfl

section
variable {ops : Array Oper} {rest : List Oper} {o : Oper} {a : Act} {Q : Exit → Act → World → Prop}
/-- append of a slice that holds some bytes, or none, to a row of the call's own. -/
theorem wpList_append_any (hgd : o.guard = Option.none) (s x : Operand)
    (ho : o.op = .call { callee := .builtin .append, args := #[s, x], argTypes := #[26, 26] }) (hty : o.type = 26)
    (w : World) (base : Nat) (v : Value) (l : List UInt8) (hs : a.eval s = v) (hown : Row w base v l)
    (A : Option Addr) (c : Nat) (news : List UInt8) (hx : a.eval x = .slice A news.length c) (hnews : HoldsA w A news)
    (hlen : l.length + news.length ≤ 1000000) (hbase : base ≤ w.heap.size)
    (h : ∀ v' w', Row w' base v' (l ++ news) → Below base w w' → wpList Tryd.prog ops Q rest (a.put o.dst v') w') : wpList Tryd.prog ops Q (o :: rest) a w := by
  match A, hx, hnews with
  | none, hx, hnews =>
    have h0 : news = [] := by
      cases news with
      | nil => rfl
      | cons y t => obtain ⟨b, off, e, _⟩ := hnews (by simp); cases e
    subst h0
    refine Lib.wpList_append_run w hgd s x 26 26 ho v _ hs hx v w ?_ (h v w (by rwa [List.append_nil]) (Below.refl _ _))
    rw [hty]
    exact run_append_nothing w base v l hown c
  | some ad, hx, hnews =>
    refine wpList_append_bytes hgd s x ho w base v l hs hown ad news.length c news rfl hx (fun j u hu => ?_) hlen hbase h
    have hj : j < news.length := by
      rcases Nat.lt_or_ge j news.length with h1 | h1
      · exact h1
      · rw [bc_at, List.getElem?_eq_none h1] at hu; cases hu
    obtain ⟨b, off, e, hh⟩ := hnews (by omega)
    cases e
    rw [add_zero_off, hh j hj, ← hu, bc_at, List.getElem?_eq_getElem hj, List.getD_eq_getElem?_getD, List.getElem?_eq_getElem hj]
    rfl
end

set_option maxRecDepth 100000 in
set_option maxHeartbeats 4000000 in
theorem grow_some (n : Nat) (h0 : 1 ≤ n) (hn : n ≤ 1000000) (w : World) :
    Calls Tryd.prog 137 #[.slice none 0 0, .int .i64 n] w fun e w' => ∃ v, e = .returned v ∧ Row w' w.heap.size v [] ∧ Below w.heap.size w w' := by
  obtain ⟨i0, hi, hz0, hz1, hz2⟩ := info_parts info_u8
  have happ := Lib.run_append_nil_zeros (P := Tryd.prog) w 26 3 26 5 i0 (.int .u8 0) .i64 .i64 Tryd.underlying26 Tryd.underlying3 hi hz0 n (by omega) (by omega) (by omega) (by rw [hz2]; omega)
  generalize hcap : grownCap w n 0 5 = cap2 at happ
  have hcapge : n ≤ cap2 := by rw [← hcap]; exact grownCap_ge w _ 0 5
  have hcaple : cap2 ≤ maxLen := by rw [← hcap]; exact grownCap_le_maxLen w _ 0 5 (by unfold maxLen; omega)
  generalize hZ : (Builtin.zeroCells (Value.int .u8 0).cells n ++ Builtin.zeroCells (Value.int .u8 0).cells (cap2 - n)) = Z at happ
  have hZs : Z.size = cap2 := by rw [← hZ]; simp [size_zeroCells, Value.cells]; omega
  have HR : Hid (∀ W : World, W.heap = (w.alloc (.cells Z 5)).heap → Row W w.heap.size (.slice (some ⟨w.heap.size, 0, none⟩) 0 cap2) []) := by
    intro W hW
    exact ⟨rfl, .inr ⟨w.heap.size, cap2, Z, rfl, Nat.le_refl _, by rw [hW]; exact heap_alloc_new w _, Nat.zero_le _, hcaple, by omega, by simp [bc]⟩⟩
  have hg : ¬ ((n : Int) < 0) := by omega
  clear hcap hZ hZs hi hz0 hz1 hz2
  unfold maxLen at hcaple
  go_enter Tryd.func137, Tryd.ntmps137
  go_wp2_with (at_builtin; refine Lib.wpList_append_run _ rfl (.tmp 20) (.tmp 21) _ _ rfl _ _ rfl rfl _ _ happ ?_)
  go_ret
  exact ⟨_, rfl, HR.out _ rfl, ((below_new w _).drew)⟩

set_option maxHeartbeats 1000000 in
theorem grow_zero (w : World) :
    Calls Tryd.prog 137 #[.slice none 0 0, .int .i64 0] w fun e w' => ∃ v, e = .returned v ∧ Row w' w.heap.size v [] ∧ Below w.heap.size w w' := by
  go_enter Tryd.func137, Tryd.ntmps137
  go_wp2
  go_ret
  exact ⟨_, rfl, Row.none _ _, Below.refl _ _⟩

theorem grow_any (z : Int) (h0 : 0 ≤ z) (h1 : z ≤ 1000000) (w : World) :
    Calls Tryd.prog 137 #[.slice none 0 0, .int .i64 z] w fun e w' => ∃ v, e = .returned v ∧ Row w' w.heap.size v [] ∧ Below w.heap.size w w' := by
  by_cases hz : z = 0
  · subst hz; exact grow_zero w
  · obtain ⟨n, rfl⟩ : ∃ n : Nat, z = n := ⟨z.toNat, by omega⟩
    exact grow_some n (by omega) (by omega) w

/-- What the second loop of Concat stands on: the list's cells and what they hold, in any world behind. -/
structure Cat3 (w : World) (s : Nat) (A1 A2 A3 : Option Addr) (c1 c2 c3 : Nat) (l1 l2 l3 : List UInt8) (W : World) : Prop where
  below : Below w.heap.size w W
  k1 : W.cell? ⟨s, 0, none⟩ = some (.slice A1 l1.length c1)
  k2 : W.cell? ⟨s, 1, none⟩ = some (.slice A2 l2.length c2)
  k3 : W.cell? ⟨s, 2, none⟩ = some (.slice A3 l3.length c3)
  h1 : HoldsA W A1 l1
  h2 : HoldsA W A2 l2
  h3 : HoldsA W A3 l3
section
variable {w W W' : World} {s : Nat} {A1 A2 A3 : Option Addr} {c1 c2 c3 : Nat} {l1 l2 l3 : List UInt8}
theorem Cat3.go (h0 : Cat3 w s A1 A2 A3 c1 c2 c3 l1 l2 l3 w) (hb : Below w.heap.size w W) : Cat3 w s A1 A2 A3 c1 c2 c3 l1 l2 l3 W :=
  ⟨hb, (hb.cell (p := ⟨s, 0, none⟩) (cell_lt h0.k1)).trans h0.k1, (hb.cell (p := ⟨s, 1, none⟩) (cell_lt h0.k2)).trans h0.k2, (hb.cell (p := ⟨s, 2, none⟩) (cell_lt h0.k3)).trans h0.k3, h0.h1.below hb, h0.h2.below hb, h0.h3.below hb⟩
end

set_option maxRecDepth 100000 in
set_option maxHeartbeats 4000000 in
theorem concat3 (s : Nat) (A1 A2 A3 : Option Addr) (c1 c2 c3 : Nat) (l1 l2 l3 : List UInt8) (hl : l1.length + l2.length + l3.length ≤ 1000000) (w : World) (h : Cat3 w s A1 A2 A3 c1 c2 c3 l1 l2 l3 w) :
    Calls Tryd.prog 100 #[.slice (some ⟨s, 0, none⟩) 3 3] w fun e w' => ∃ v, e = .returned v ∧ Row w' w.heap.size v (l1 ++ l2 ++ l3) ∧ Below w.heap.size w w' := by
  have HH := hid h
  obtain ⟨_, k1, k2, k3, _, _, _⟩ := h
  have HL := hid hl
  obtain ⟨n1, e1⟩ : ∃ n, l1.length = n := ⟨_, rfl⟩
  obtain ⟨n2, e2⟩ : ∃ n, l2.length = n := ⟨_, rfl⟩
  obtain ⟨n3, e3⟩ : ∃ n, l3.length = n := ⟨_, rfl⟩
  rw [e1] at k1; rw [e2] at k2; rw [e3] at k3
  have b1 : n1 ≤ 1000000 := by omega
  have b2 : n2 ≤ 1000000 := by omega
  have b3 : n3 ≤ 1000000 := by omega
  have b4 : n1 + n2 + n3 ≤ 1000000 := by omega
  have E1 := hid e1; have E2 := hid e2; have E3 := hid e3
  clear e1 e2 e3 hl
  go_enter Tryd.func100, Tryd.ntmps100
  go_wp2
  refine wp_loop_rounds 4 ?_
  rw [rounds_succ]; go_wp2
  rw [rounds_succ]; go_wp2
  rw [rounds_succ]; go_wp2
  rw [rounds_succ]; go_wp2_with (go_at_call 137; refine (grow_any _ (by omega) (by omega) _).mono ?_; rintro e w1 ⟨v1, rfl, hR1, hb1⟩; have HC1 := hid (HH.out.go hb1); obtain ⟨_, m1, m2, m3, _, _, _⟩ := HC1.out)
  refine wp_loop_rounds 4 ?_
  rw [rounds_succ]; go_wp2_with (at_builtin; refine wpList_append_any rfl (.tmp 31) (.tmp 32) rfl rfl _ w.heap.size _ [] rfl hR1 A1 c1 l1 rfl HC1.out.h1 (by have := HL.out; simp only [List.length_nil]; omega) HC1.out.below.size ?_; intro v2 w2 hR2 hb2; have HC2 := hid (HH.out.go (HC1.out.below.trans hb2)); obtain ⟨_, m1, m2, m3, _, _, _⟩ := HC2.out)
  rw [rounds_succ]; go_wp2_with (at_builtin; refine wpList_append_any rfl (.tmp 31) (.tmp 32) rfl rfl _ w.heap.size _ ([] ++ l1) rfl hR2 A2 c2 l2 rfl HC2.out.h2 (by have := HL.out; simp only [List.length_append, List.length_nil]; omega) HC2.out.below.size ?_; intro v3 w3 hR3 hb3; have HC3 := hid (HH.out.go (HC2.out.below.trans hb3)); obtain ⟨_, m1, m2, m3, _, _, _⟩ := HC3.out)
  rw [rounds_succ]; go_wp2_with (at_builtin; refine wpList_append_any rfl (.tmp 31) (.tmp 32) rfl rfl _ w.heap.size _ ([] ++ l1 ++ l2) rfl hR3 A3 c3 l3 rfl HC3.out.h3 (by have := HL.out; simp only [List.length_append, List.length_nil]; omega) HC3.out.below.size ?_; intro v4 w4 hR4 hb4; have HC4 := hid (HH.out.go (HC3.out.below.trans hb4)); obtain ⟨_, m1, m2, m3, _, _, _⟩ := HC4.out)
  rw [rounds_succ]; go_wp2
  go_ret
  refine ⟨_, rfl, ?_, HC4.out.below⟩
  rw [List.nil_append] at hR4
  exact hR4
end Go.Proofs.YtfcnobcpnhfgmaaDoor

/- slices.Concat of two slices of bytes; Decode and Key at whatever bytes and cells; whose bytes stand next. Conditions: the slices hold their bytes, a hundred thousand together at most. -/
namespace Go.Proofs.YtfcnobcpnhfgmaaDoor
open Go.RowKit

structure Cat2 (w : World) (s : Nat) (A1 A2 : Option Addr) (c1 c2 : Nat) (l1 l2 : List UInt8) (W : World) : Prop where
  below : Below w.heap.size w W
  k1 : W.cell? ⟨s, 0, none⟩ = some (.slice A1 l1.length c1)
  k2 : W.cell? ⟨s, 1, none⟩ = some (.slice A2 l2.length c2)
  h1 : HoldsA W A1 l1
  h2 : HoldsA W A2 l2
section
variable {w W W' : World} {s : Nat} {A1 A2 : Option Addr} {c1 c2 : Nat} {l1 l2 : List UInt8}
theorem Cat2.go (h0 : Cat2 w s A1 A2 c1 c2 l1 l2 w) (hb : Below w.heap.size w W) : Cat2 w s A1 A2 c1 c2 l1 l2 W :=
  ⟨hb, (hb.cell (p := ⟨s, 0, none⟩) (cell_lt h0.k1)).trans h0.k1, (hb.cell (p := ⟨s, 1, none⟩) (cell_lt h0.k2)).trans h0.k2, h0.h1.below hb, h0.h2.below hb⟩
end

set_option maxRecDepth 100000 in
set_option maxHeartbeats 4000000 in
theorem concat2 (s : Nat) (A1 A2 : Option Addr) (c1 c2 : Nat) (l1 l2 : List UInt8) (hl : l1.length + l2.length ≤ 1000000) (w : World) (h : Cat2 w s A1 A2 c1 c2 l1 l2 w) :
    Calls Tryd.prog 100 #[.slice (some ⟨s, 0, none⟩) 2 2] w fun e w' => ∃ v, e = .returned v ∧ Row w' w.heap.size v (l1 ++ l2) ∧ Below w.heap.size w w' := by
  have HH := hid h
  obtain ⟨_, k1, k2, _, _⟩ := h
  have HL := hid hl
  obtain ⟨n1, e1⟩ : ∃ n, l1.length = n := ⟨_, rfl⟩
  obtain ⟨n2, e2⟩ : ∃ n, l2.length = n := ⟨_, rfl⟩
  rw [e1] at k1; rw [e2] at k2
  have b1 : n1 ≤ 1000000 := by omega
  have b2 : n2 ≤ 1000000 := by omega
  have b4 : n1 + n2 ≤ 1000000 := by omega
  have E1 := hid e1; have E2 := hid e2
  clear e1 e2 hl
  go_enter Tryd.func100, Tryd.ntmps100
  go_wp2
  refine wp_loop_rounds 3 ?_
  rw [rounds_succ]; go_wp2
  rw [rounds_succ]; go_wp2
  rw [rounds_succ]; go_wp2_with (go_at_call 137; refine (grow_any _ (by omega) (by omega) _).mono ?_; rintro e w1 ⟨v1, rfl, hR1, hb1⟩; have HC1 := hid (HH.out.go hb1); obtain ⟨_, m1, m2, _, _⟩ := HC1.out)
  refine wp_loop_rounds 3 ?_
  rw [rounds_succ]; go_wp2_with (at_builtin; refine wpList_append_any rfl (.tmp 31) (.tmp 32) rfl rfl _ w.heap.size _ [] rfl hR1 A1 c1 l1 rfl HC1.out.h1 (by have := HL.out; simp only [List.length_nil]; omega) HC1.out.below.size ?_; intro v2 w2 hR2 hb2; have HC2 := hid (HH.out.go (HC1.out.below.trans hb2)); obtain ⟨_, m1, m2, _, _⟩ := HC2.out)
  rw [rounds_succ]; go_wp2_with (at_builtin; refine wpList_append_any rfl (.tmp 31) (.tmp 32) rfl rfl _ w.heap.size _ ([] ++ l1) rfl hR2 A2 c2 l2 rfl HC2.out.h2 (by have := HL.out; simp only [List.length_append, List.length_nil]; omega) HC2.out.below.size ?_; intro v3 w3 hR3 hb3; have HC3 := hid (HH.out.go (HC2.out.below.trans hb3)); obtain ⟨_, m1, m2, _, _⟩ := HC3.out)
  rw [rounds_succ]; go_wp2
  go_ret
  refine ⟨_, rfl, ?_, HC3.out.below⟩
  rw [List.nil_append] at hR3
  exact hR3

theorem vr_small {k n : Int} {s : List UInt8} (h : vRight k n s = true) : s.length ≤ 1000 := by
  have := right_len h
  omega
theorem bc_right {r f q vs : List UInt8} {t k vk vn : Int} (h : cRight r f q t k vk vn vs = true) (hn : inI vn) : Bc ⟨⟨r.toArray⟩, ⟨f.toArray⟩, ⟨q.toArray⟩, t, k, vk, vn, ⟨vs.toArray⟩⟩ := by
  refine ⟨h, hn, ?_⟩
  obtain ⟨_, _, _, _, _, _, _, _, _, _, p1, p2⟩ := cright_parts h
  show vs.toArray.size ≤ 1000
  rw [List.size_toArray]
  by_cases hk : k = 1
  · exact vr_small (p1 hk)
  · rw [(p2 hk).2.2]; simp
theorem bc_ok {c : CT} (h : Bc c) : okC c := by
  obtain ⟨_, _, _, h4, _⟩ := cright_parts h.1
  have e4 : c.f.data.toList.length = c.f.size := rfl
  have := h.2.2
  exact ⟨by omega, by omega, h.2.1⟩
/-- Decode at whatever bytes. -/
theorem dec_any (A : Option Addr) (c : Nat) (l : List UInt8) (hl : l.length ≤ 100000) (hc : l.length ≤ c) (hc2 : c ≤ 9223372036854775807) (w : World) (h : HoldsA w A l) (hL : LaidU w) :
    Calls Tryd.prog 22 #[.slice A l.length c] w fun e w' => ∃ (x : CT) (ok : Bool), e = .returned (.tuple #[x.v, .bool ok]) ∧ Below w.heap.size w w' ∧ okC x ∧ ((ok = true ∧ Bc x ∧ encB x = l) ∨ (ok = false ∧ NoCell l ∧ x = default)) := by
  refine (cdecode_any A c l hl hc hc2 w h hL).mono fun e w' ⟨hb, hd⟩ => ?_
  rcases hd with ⟨r, f, q, t, k, vk, vn, vs, h1, h2, h3, he⟩ | ⟨hno, he⟩
  · have hB := bc_right h1 h2
    exact ⟨⟨⟨r.toArray⟩, ⟨f.toArray⟩, ⟨q.toArray⟩, t, k, vk, vn, ⟨vs.toArray⟩⟩, true, he, hb, bc_ok hB, .inl ⟨rfl, hB, h3⟩⟩
  · exact ⟨⟨⟨#[]⟩, ⟨#[]⟩, ⟨#[]⟩, 0, 0, 0, 0, ⟨#[]⟩⟩, false, he, hb, ⟨by decide, by decide, by unfold inI; decide⟩, .inr ⟨rfl, hno, rfl⟩⟩
/-- Key at whatever cell. -/
theorem keyc_any (c : CT) (h : okC c) (w : World) (hL : LaidU w) :
    Calls Tryd.prog 44 #[c.v] w fun e w' => ∃ v, e = .returned (.tuple #[v, .bool c.ok]) ∧ Row w' w.heap.size v (if c.ok = true then keyL c else []) ∧ Below w.heap.size w w' := by
  cases hok : c.ok with
  | true => exact key_yes c.r c.f c.q c.s c.t c.k c.vk h.2.2 h.1 h.2.1 w hL hok
  | false =>
    refine (key_no c.r c.f c.q c.s c.t c.k c.vk h.2.2 h.1 h.2.1 w hL hok).mono fun e w' ⟨he, hb⟩ => ⟨_, he, ?_, hb⟩
    rw [if_neg (by simp)]
    exact Row.none _ _

section
variable {a l k s x r : List UInt8} {c y : CT}
theorem last_put {c : CT} (h : Bc c) : (keyL c).getLast? = some 254 ↔ c.k = 1 := by
  obtain ⟨_, _, _, _, _, _, _, p1, p4, _⟩ := cright_parts h.1
  rw [keyL_last]
  constructor
  · intro e
    have e2 := congrArg UInt8.toNat (Option.some.inj e)
    rw [UInt8.toNat_ofNat'] at e2
    have : (254 : UInt8).toNat = 254 := rfl
    omega
  · intro e
    rw [e]
    rfl
/-- No key stands there: no cell does. -/
theorem no_key (h : keyT a l = none) : NoOne a l := fun c r hc hk e => by
  rw [e, one_key hc hk] at h
  cases h
theorem key_in (h : keyT a l = some (k, s)) {c : CT} {r : List UInt8} (hc : Bc c) (hk : Lib.compareBytes a (keyL c) < 0) (e : l = oneB a c ++ r) : k = keyL c ∧ s = vpB c ++ r := by
  rw [e, one_key hc hk] at h
  injection h with h
  injection h with h1 h2
  exact ⟨h1.symm, h2.symm⟩
theorem no_val (h : keyT a l = some (k, s)) (hp : k.getLast? = some 254) (hx : cntT s = none) : NoOne a l := fun c r hc hk e => by
  obtain ⟨rfl, rfl⟩ := key_in h hc hk e
  have h1 := (last_put hc).1 hp
  unfold vpB at hx
  rw [if_pos h1, List.append_assoc, cnt_yes (by have := (bc_small hc).2; omega)] at hx
  cases hx
/-- A put stands there. -/
theorem one_put (h : keyT a l = some (k, s)) (hp : k.getLast? = some 254) (hx : cntT s = some (x, r)) (hy : Bc y) (he : encB y = k ++ x) (hk : keyL y = k) : Lib.compareBytes a (keyL y) < 0 ∧ l = oneB a y ++ r := by
  subst hk
  have h1 := (last_put hy).1 hp
  obtain ⟨h2, h3⟩ := keyT_back h
  refine ⟨h2, ?_⟩
  rw [encB_is, if_pos h1] at he
  have ev : valL y = x := List.append_cancel_left he
  rw [oneB_app, h3, cnt_back hx]
  unfold vpB
  rw [if_pos h1, ev]
  simp only [List.append_assoc]
theorem no_put (h : keyT a l = some (k, s)) (hp : k.getLast? = some 254) (hx : cntT s = some (x, r)) (hn : NoCell (k ++ x) ∨ (Bc y ∧ encB y = k ++ x ∧ keyL y ≠ k)) : NoOne a l := fun c r' hc hk e => by
  obtain ⟨rfl, rfl⟩ := key_in h hc hk e
  have h1 := (last_put hc).1 hp
  unfold vpB at hx
  rw [if_pos h1, List.append_assoc, cnt_yes (by have := (bc_small hc).2; omega)] at hx
  injection hx with hx
  injection hx with hx1 hx2
  have ec : encB c = keyL c ++ x := by rw [encB_is, if_pos h1, hx1]
  rcases hn with hn | ⟨hy, he, hne⟩
  · exact hn _ _ _ _ _ _ _ _ hc.1 hc.2.1 ec
  · have := enc_one hy hc (he.trans ec.symm)
    rw [this] at hne
    exact hne rfl
/-- A cell that is no put stands there. -/
theorem one_other (h : keyT a l = some (k, s)) (hp : k.getLast? ≠ some 254) (hy : Bc y) (he : encB y = k) (hk : keyL y = k) : Lib.compareBytes a (keyL y) < 0 ∧ l = oneB a y ++ s := by
  subst hk
  have h1 : ¬ y.k = 1 := fun e => hp ((last_put hy).2 e)
  obtain ⟨h2, h3⟩ := keyT_back h
  refine ⟨h2, ?_⟩
  rw [oneB_app, h3]
  unfold vpB
  rw [if_neg h1, List.nil_append]
theorem no_other (h : keyT a l = some (k, s)) (hp : k.getLast? ≠ some 254) (hn : NoCell k ∨ (Bc y ∧ encB y = k ∧ keyL y ≠ k)) : NoOne a l := fun c r' hc hk e => by
  obtain ⟨rfl, rfl⟩ := key_in h hc hk e
  have h1 : ¬ c.k = 1 := fun e => hp ((last_put hc).2 e)
  have ec : encB c = keyL c := by rw [encB_is, if_neg h1, List.append_nil]
  rcases hn with hn | ⟨hy, he, hne⟩
  · exact hn _ _ _ _ _ _ _ _ hc.1 hc.2.1 ec
  · have := enc_one hy hc (he.trans ec.symm)
    rw [this] at hne
    exact hne rfl
end
end Go.Proofs.YtfcnobcpnhfgmaaDoor

/- The block's reader: the next cell, by the key ahead of it. Conditions: the reader holds its bytes, the key ahead stands, a hundred thousand bytes together at most; the tables of utf8 read as they are laid. -/
namespace Go.Proofs.YtfcnobcpnhfgmaaDoor
open Go.RowKit

theorem wp_ltk {P : Program} {c : Code} {Q : Exit → Act → World → Prop} {a : Act} {w : World} (F : World → Prop) (h0 : F w) (h : ∀ W, F W → c.wp P Q a W) : c.wp P Q a w := h w h0
/-- Where cell is: the reader, a key, the cell's own block. -/
structure Ck (w0 W : World) (rb cb : Nat) (kv : Value) (k r : List UInt8) (b : Bool) (X : CT) : Prop where
  but : But w0.heap.size rb w0 W
  kx : Sx W rb kv k
  rs : Rs W rb r b
  dw : Blk W cb 40 X.e.toArray
  lo : rb < cb
  hi : w0.heap.size ≤ cb
theorem Ck.below {w0 W W' : World} {rb cb : Nat} {kv : Value} {k r : List UInt8} {b : Bool} {X : CT} (h : Ck w0 W rb cb kv k r b X) (hb : Below W.heap.size W W') : Ck w0 W' rb cb kv k r b X :=
  ⟨h.but.trans ((But.of_below hb rb).mono h.but.size), h.kx.below hb, h.rs.below hb, h.dw.keep hb h.dw.lt, h.lo, h.hi⟩
theorem sx_box {W W' : World} {rb cb : Nat} {v : Value} {l : List UInt8} {X : CT} (h : Sx W rb v l) (hd : Blk W cb 40 X.e.toArray) (hb : But W.heap.size cb W W') : Sx W' rb v l := by
  obtain ⟨A, c, h1, h2, h3, h4, h5⟩ := h
  refine ⟨A, c, h1, h2, h3, h4, fun h0 => ?_⟩
  obtain ⟨b, off, e, hne, hlt, hh⟩ := h5 h0
  refine ⟨b, off, e, hne, Nat.lt_of_lt_of_le hlt hb.size, fun i hi => ?_⟩
  have hx := hh i hi
  by_cases hbc : b = cb
  · exfalso
    subst hbc
    rw [hd.cell, List.getElem?_toArray] at hx
    have hm := List.mem_of_getElem? hx
    simp [CT.e] at hm
  · rw [hb.cell hlt hbc]
    exact hx
theorem sb_box {W W' : World} {rb cb : Nat} {v : Value} {l : List UInt8} {X : CT} (h : Sb W rb v l) (hd : Blk W cb 40 X.e.toArray) (hb : But W.heap.size cb W W') : Sb W' rb v l := by
  obtain ⟨A, c, h1, h2, h3, h4, h5⟩ := h
  refine ⟨A, c, h1, h2, h3, h4, fun h0 => ?_⟩
  obtain ⟨b, off, e, hne, hlt, hh⟩ := h5 h0
  refine ⟨b, off, e, hne, Nat.lt_of_lt_of_le hlt hb.size, fun i hi => ?_⟩
  have hx := hh i hi
  by_cases hbc : b = cb
  · exfalso
    subst hbc
    rw [hd.cell, List.getElem?_toArray] at hx
    have hm := List.mem_of_getElem? hx
    simp [CT.e] at hm
  · rw [hb.cell hlt hbc]
    exact hx
theorem Ck.box {w0 W W' : World} {rb cb : Nat} {kv : Value} {k r : List UInt8} {b : Bool} {X Y : CT} (h : Ck w0 W rb cb kv k r b Y) (hb : But W.heap.size cb W W') (hd : Blk W' cb 40 X.e.toArray) : Ck w0 W' rb cb kv k r b X := by
  have hlo := h.lo
  have hhi := h.hi
  refine ⟨⟨hb.os.trans h.but.os, hb.tape.trans h.but.tape, hb.output.trans h.but.output, Nat.le_trans h.but.size hb.size, fun j hj hr => ?_⟩, sx_box h.kx h.dw hb, ?_, hd, h.lo, h.hi⟩
  · exact (hb.block j (Nat.lt_of_lt_of_le hj h.but.size) (by omega)).trans (h.but.block j hj hr)
  · obtain ⟨v, h1, h2⟩ := h.rs
    refine ⟨v, ?_, sb_box h2 h.dw hb⟩
    unfold Blk at h1 ⊢
    rw [hb.block rb (Nat.lt_of_lt_of_le hlo (Nat.le_of_lt h.dw.lt)) (by omega)]
    exact h1
theorem Ck.words {w0 W : World} {rb cb : Nat} {kv : Value} {k r : List UInt8} {b : Bool} {X : CT} (h : Ck w0 W rb cb kv k r b X) : W.cell? ⟨cb, 0, none⟩ = some (.string X.r) ∧ W.cell? ⟨cb, 1, none⟩ = some (.string X.f) ∧ W.cell? ⟨cb, 2, none⟩ = some (.string X.q) ∧ W.cell? ⟨cb, 3, none⟩ = some (.int .i64 X.t) ∧ W.cell? ⟨cb, 4, none⟩ = some (.int .i64 X.k) ∧ W.cell? ⟨cb, 5, none⟩ = some (.int .i64 X.vk) ∧ W.cell? ⟨cb, 6, none⟩ = some (.int .i64 X.vn) ∧ W.cell? ⟨cb, 7, none⟩ = some (.string X.s) := by
  have h := h.dw
  exact ⟨h.cell 0, h.cell 1, h.cell 2, h.cell 3, h.cell 4, h.cell 5, h.cell 6, h.cell 7⟩
theorem blkc_words {W : World} {cb : Nat} {X : CT} (h : Blk W cb 40 X.e.toArray) : W.cell? ⟨cb, 0, none⟩ = some (.string X.r) ∧ W.cell? ⟨cb, 1, none⟩ = some (.string X.f) ∧ W.cell? ⟨cb, 2, none⟩ = some (.string X.q) ∧ W.cell? ⟨cb, 3, none⟩ = some (.int .i64 X.t) ∧ W.cell? ⟨cb, 4, none⟩ = some (.int .i64 X.k) ∧ W.cell? ⟨cb, 5, none⟩ = some (.int .i64 X.vk) ∧ W.cell? ⟨cb, 6, none⟩ = some (.int .i64 X.vn) ∧ W.cell? ⟨cb, 7, none⟩ = some (.string X.s) :=
  ⟨h.cell 0, h.cell 1, h.cell 2, h.cell 3, h.cell 4, h.cell 5, h.cell 6, h.cell 7⟩
theorem Ck.set8 {w0 W : World} {rb cb : Nat} {kv : Value} {k r : List UInt8} {b : Bool} {Y : CT} (X : CT) (h : Ck w0 W rb cb kv k r b Y) :
    Ck w0 ((((((((W.setCell ⟨cb, 0, none⟩ (.string X.r)).setCell ⟨cb, 1, none⟩ (.string X.f)).setCell ⟨cb, 2, none⟩ (.string X.q)).setCell ⟨cb, 3, none⟩ (.int .i64 X.t)).setCell ⟨cb, 4, none⟩ (.int .i64 X.k)).setCell ⟨cb, 5, none⟩ (.int .i64 X.vk)).setCell ⟨cb, 6, none⟩ (.int .i64 X.vn)).setCell ⟨cb, 7, none⟩ (.string X.s)) rb cb kv k r b X := by
  refine h.box ((((((((But.refl _ _ _).setCell 0 _).setCell 1 _).setCell 2 _).setCell 3 _).setCell 4 _).setCell 5 _).setCell 6 _ |>.setCell 7 _) ?_
  have e : ((((((((Y.e.toArray.setIfInBounds 0 (.string X.r)).setIfInBounds 1 (.string X.f)).setIfInBounds 2 (.string X.q)).setIfInBounds 3 (.int .i64 X.t)).setIfInBounds 4 (.int .i64 X.k)).setIfInBounds 5 (.int .i64 X.vk)).setIfInBounds 6 (.int .i64 X.vn)).setIfInBounds 7 (.string X.s)) = X.e.toArray := by simp [CT.e]
  rw [← e]
  have m0 := h.dw.set 0 (.string X.r)
  have m1 := m0.set 1 (.string X.f)
  have m2 := m1.set 2 (.string X.q)
  have m3 := m2.set 3 (.int .i64 X.t)
  have m4 := m3.set 4 (.int .i64 X.k)
  have m5 := m4.set 5 (.int .i64 X.vk)
  have m6 := m5.set 6 (.int .i64 X.vn)
  exact m6.set 7 (.string X.s)
theorem Ck.spoil {w0 W : World} {rb cb : Nat} {kv : Value} {k r : List UInt8} {b : Bool} {X : CT} (h : Ck w0 W rb cb kv k r b X) : Ck w0 (W.setCell ⟨rb, 1, none⟩ (.bool true)) rb cb kv k r true X := by
  obtain ⟨s1, s2⟩ := h.rs.spoil
  refine ⟨h.but.trans (s2.mono h.but.size), h.kx.but s2, s1, ?_, h.lo, h.hi⟩
  have := h.dw
  unfold Blk at this ⊢
  rw [s2.block cb h.dw.lt (by have := h.lo; omega)]
  exact this
theorem last_cell {W : World} {rb c : Nat} {A : Option Addr} {k : List UInt8} {n : Nat} (h : Sx W rb (.slice A n c) k) (hn : 0 < n) : ∃ b off y, A = some ⟨b, off, none⟩ ∧ W.cell? ⟨b, off + (n - 1), none⟩ = some (.int .u8 ((y : UInt8).toNat : Int)) ∧ k.getLast? = some y := by
  obtain ⟨e, _, _, _, hh⟩ := h.holds
  subst e
  obtain ⟨b, off, rfl, hh2⟩ := hh hn
  have h1 : k.length - 1 < k.length := by omega
  refine ⟨b, off, k[k.length - 1], rfl, ?_, ?_⟩
  · rw [hh2 _ h1, List.getD_eq_getElem?_getD, List.getElem?_eq_getElem h1, Option.getD_some]
  · rw [List.getLast?_eq_getElem?, List.getElem?_eq_getElem h1]

/-- What cell leaves. -/
def CeEnd (rb : Nat) (a l : List UInt8) (bad : Bool) (w : World) (e : Ending) (w' : World) : Prop :=
  But w.heap.size rb w w' ∧ ∃ (X : CT) (kv : Value) (k r : List UInt8) (b : Bool), e = .returned (.tuple #[X.v, kv]) ∧ Sx w' rb kv k ∧ Rs w' rb r b ∧ k.length + r.length ≤ a.length + l.length ∧ ((b = bad ∧ Bc X ∧ k = keyL X ∧ Lib.compareBytes a (keyL X) < 0 ∧ l = oneB a X ++ r ∧ FrV w.heap.size kv) ∨ (b = true ∧ NoOne a l))
/-- What is known of the key, and of what is left. -/
def KeyQ (a l : List UInt8) (bad : Bool) (k r : List UInt8) (b : Bool) : Prop := k.length + r.length ≤ a.length + l.length ∧ ((b = bad ∧ keyT a l = some (k, r)) ∨ (b = true ∧ keyT a l = none))
/-- What is known of what is counted. -/
def CouQ (r : List UInt8) (b : Bool) (x r2 : List UInt8) (b2 : Bool) : Prop := x.length + r2.length ≤ r.length ∧ ((b2 = b ∧ cntT r = some (x, r2)) ∨ (b2 = true ∧ cntT r = none))
/-- What is known of what Decode has read. -/
def DecQ (l : List UInt8) (X : CT) (ok : Bool) : Prop := okC X ∧ ((ok = true ∧ Bc X ∧ encB X = l) ∨ (ok = false ∧ NoCell l))
theorem key_some {a l : List UInt8} {X : CT} {r : List UInt8} (h1 : Bc X) (h2 : Lib.compareBytes a (keyL X) < 0) (h3 : l = oneB a X ++ r) : keyT a l ≠ none := fun h => no_key h X r h1 h2 h3
theorem end_fr {a l k r : List UInt8} {bad b : Bool} {X : CT} {B B2 : Nat} {v : Value} (hf : keyT a l ≠ none → FrV B2 v) (hB : B ≤ B2) (h : (b = bad ∧ Bc X ∧ k = keyL X ∧ Lib.compareBytes a (keyL X) < 0 ∧ l = oneB a X ++ r) ∨ (b = true ∧ NoOne a l)) : (b = bad ∧ Bc X ∧ k = keyL X ∧ Lib.compareBytes a (keyL X) < 0 ∧ l = oneB a X ++ r ∧ FrV B v) ∨ (b = true ∧ NoOne a l) := by
  rcases h with ⟨h1, h2, h3, h4, h5⟩ | h
  · exact .inl ⟨h1, h2, h3, h4, h5, fun a m c e => Nat.le_trans hB (hf (key_some h2 h4 h5) a m c e)⟩
  · exact .inr h
theorem end_put {a l k r x r2 : List UInt8} {bad b b2 ok : Bool} {X : CT} (h1 : KeyQ a l bad k r b) (h2 : k.getLast? = some 254) (h3 : CouQ r b x r2 b2) (h4 : DecQ (k ++ x) X ok) :
    (ok = true ∧ decide ((if X.ok = true then keyL X else []) = k) = true → (b2 = bad ∧ Bc X ∧ k = keyL X ∧ Lib.compareBytes a (keyL X) < 0 ∧ l = oneB a X ++ r2) ∨ (b2 = true ∧ NoOne a l)) ∧ (ok = false ∨ decide ((if X.ok = true then keyL X else []) = k) = false → NoOne a l) := by
  rcases h1.2 with ⟨hb, hk⟩ | ⟨hb, hk⟩
  · rcases h3.2 with ⟨hb2, hc⟩ | ⟨hb2, hc⟩
    · rcases h4.2 with ⟨ho, hB, he⟩ | ⟨ho, hno⟩
      · have e : (if X.ok = true then keyL X else []) = keyL X := if_pos hB.1
        rw [e]
        refine ⟨fun h => .inl ?_, fun h => ?_⟩
        · have hkk := of_decide_eq_true h.2
          obtain ⟨g1, g2⟩ := one_put hk h2 hc hB he hkk
          exact ⟨by rw [hb2, hb], hB, hkk.symm, g1, g2⟩
        · rcases h with h | h
          · rw [ho] at h; cases h
          · exact no_put hk h2 hc (.inr ⟨hB, he, of_decide_eq_false h⟩)
      · exact ⟨fun h => (by rw [ho] at h; cases h.1), fun _ => no_put (y := X) hk h2 hc (.inl hno)⟩
    · have := no_val hk h2 hc
      exact ⟨fun _ => .inr ⟨hb2, this⟩, fun _ => this⟩
  · have hn := no_key hk
    refine ⟨fun _ => .inr ⟨?_, hn⟩, fun _ => hn⟩
    rcases h3.2 with ⟨hb2, _⟩ | ⟨hb2, _⟩
    · rw [hb2, hb]
    · exact hb2
theorem end_other {a l k r : List UInt8} {bad b ok : Bool} {X : CT} (h1 : KeyQ a l bad k r b) (h2 : k.getLast? ≠ some 254) (h4 : DecQ k X ok) :
    (ok = true ∧ decide ((if X.ok = true then keyL X else []) = k) = true → (b = bad ∧ Bc X ∧ k = keyL X ∧ Lib.compareBytes a (keyL X) < 0 ∧ l = oneB a X ++ r) ∨ (b = true ∧ NoOne a l)) ∧ (ok = false ∨ decide ((if X.ok = true then keyL X else []) = k) = false → NoOne a l) := by
  rcases h1.2 with ⟨hb, hk⟩ | ⟨hb, hk⟩
  · rcases h4.2 with ⟨ho, hB, he⟩ | ⟨ho, hno⟩
    · have e : (if X.ok = true then keyL X else []) = keyL X := if_pos hB.1
      rw [e]
      refine ⟨fun h => .inl ?_, fun h => ?_⟩
      · have hkk := of_decide_eq_true h.2
        obtain ⟨g1, g2⟩ := one_other hk h2 hB he hkk
        exact ⟨hb, hB, hkk.symm, g1, g2⟩
      · rcases h with h | h
        · rw [ho] at h; cases h
        · exact no_other hk h2 (.inr ⟨hB, he, of_decide_eq_false h⟩)
    · exact ⟨fun h => (by rw [ho] at h; cases h.1), fun _ => no_other (y := X) hk h2 (.inl hno)⟩
  · have hn := no_key hk
    exact ⟨fun _ => .inr ⟨hb, hn⟩, fun _ => hn⟩
theorem bkey_ck (rb : Nat) (a l : List UInt8) (bad : Bool) (v : Value) (hal : a.length + l.length ≤ 1000000) (w0 w : World) (cb : Nat) (X : CT) (kv : Value) (h : Ck w0 w rb cb kv a l bad X) (hv : kv = v) :
    Calls Tryd.prog 99 #[.pointer (some ⟨rb, 0, none⟩), v] w fun e w' => ∃ A1 c1 n k r b, e = .returned (.slice A1 n c1) ∧ Hid (k.length = n ∧ Ck w0 w' rb cb (.slice A1 n c1) k r b X ∧ KeyQ a l bad k r b ∧ (keyT a l ≠ none → FrV w.heap.size (.slice A1 n c1))) := by
  subst hv
  refine (bkey_any rb a l bad kv hal w h.rs h.kx).mono fun e w' hx => ?_
  unfold KyEnd at hx
  obtain ⟨hb, hm⟩ := hx
  have hd : Blk w' cb 40 X.e.toArray := by
    have := h.dw
    unfold Blk at this ⊢
    rw [hb.block cb h.dw.lt (by have := h.lo; omega)]
    exact this
  have hbb := h.but.trans (hb.mono h.but.size)
  cases hk : keyT a l with
  | none =>
    rw [hk] at hm
    obtain ⟨v, k, r, he, hs, hr, hlen⟩ := hm
    obtain ⟨A1, c1, rfl, _⟩ := hs.form
    exact ⟨A1, c1, k.length, k, r, true, he, rfl, ⟨hbb, hs, hr, hd, h.lo, h.hi⟩, ⟨hlen, .inr ⟨rfl, hk⟩⟩, fun h => absurd rfl h⟩
  | some p =>
    obtain ⟨k, r⟩ := p
    rw [hk] at hm
    obtain ⟨v, he, hs, hr, hf⟩ := hm
    obtain ⟨A1, c1, rfl, _⟩ := hs.form
    refine ⟨A1, c1, k.length, k, r, bad, he, rfl, ⟨hbb, hs, hr, hd, h.lo, h.hi⟩, ⟨?_, .inl ⟨rfl, hk⟩⟩, fun _ => hf⟩
    have hkb := (keyT_back hk).2
    have := preL_le a k
    have e := congrArg List.length hkb
    simp only [List.length_append, List.length_drop] at e
    omega
theorem bcou_ck (rb : Nat) (k r : List UInt8) (b : Bool) (v : Value) (w0 w : World) (cb : Nat) (X : CT) (h : Ck w0 w rb cb v k r b X) :
    Calls Tryd.prog 101 #[.pointer (some ⟨rb, 0, none⟩)] w fun e w' => ∃ A2 c2 n x r2 b2, e = .returned (.slice A2 n c2) ∧ Hid (x.length = n ∧ Ck w0 w' rb cb v k r2 b2 X ∧ Sx w' rb (.slice A2 n c2) x ∧ CouQ r b x r2 b2) := by
  refine (bcounted_any rb r b w h.rs).mono fun e w' hx => ?_
  unfold CoEnd at hx
  obtain ⟨hb, hm⟩ := hx
  have hd : Blk w' cb 40 X.e.toArray := by
    have := h.dw
    unfold Blk at this ⊢
    rw [hb.block cb h.dw.lt (by have := h.lo; omega)]
    exact this
  have hbb := h.but.trans (hb.mono h.but.size)
  cases hk : cntT r with
  | none =>
    rw [hk] at hm
    obtain ⟨v2, r2, he, hs, hr, hlen⟩ := hm
    obtain ⟨A1, c1, rfl, _⟩ := hs.form
    exact ⟨A1, c1, _, [], r2, true, he, rfl, ⟨hbb, h.kx.but hb, hr, hd, h.lo, h.hi⟩, hs, by simpa using hlen, .inr ⟨rfl, hk⟩⟩
  | some p =>
    obtain ⟨x, r2⟩ := p
    rw [hk] at hm
    obtain ⟨v2, he, hs, hr⟩ := hm
    obtain ⟨A1, c1, rfl, _⟩ := hs.form
    refine ⟨A1, c1, x.length, x, r2, b, he, rfl, ⟨hbb, h.kx.but hb, hr, hd, h.lo, h.hi⟩, hs, ?_, .inl ⟨rfl, hk⟩⟩
    have e := congrArg List.length (cnt_back hk)
    simp only [List.length_append] at e
    omega
theorem concat_ck (rb : Nat) (k r x : List UInt8) (b : Bool) (A1 A2 : Option Addr) (n1 c1 n2 c2 : Nat) (w0 w : World) (cb : Nat) (X : CT) (T : TypeId) (hk : k.length = n1) (hx : x.length = n2) (hl : k.length + x.length ≤ 1000000) (h : Ck w0 w rb cb (.slice A1 n1 c1) k r b X) (h2 : Sx w rb (.slice A2 n2 c2) x) :
    Calls Tryd.prog 100 #[.slice (some ⟨w.heap.size, 0, none⟩) 2 2] (w.alloc (.cells #[.slice A1 n1 c1, .slice A2 n2 c2] T)) fun e w' => ∃ A3 c3 n3, e = .returned (.slice A3 n3 c3) ∧ Hid ((k ++ x).length = n3 ∧ Ck w0 w' rb cb (.slice A1 n1 c1) k r b X ∧ Sx w' rb (.slice A3 n3 c3) (k ++ x)) := by
  subst hk hx
  have hb := below_new w (.cells #[.slice A1 k.length c1, .slice A2 x.length c2] T)
  have hB : Blk (w.alloc (.cells #[.slice A1 k.length c1, .slice A2 x.length c2] T)) w.heap.size T _ := Blk.new w T _
  have hC : Cat2 (w.alloc (.cells #[.slice A1 k.length c1, .slice A2 x.length c2] T)) w.heap.size A1 A2 c1 c2 k x (w.alloc (.cells #[.slice A1 k.length c1, .slice A2 x.length c2] T)) := ⟨Below.refl _ _, hB.cell 0, hB.cell 1, (h.kx.below hb).holds.2.2.2.2, (h2.below hb).holds.2.2.2.2⟩
  refine (concat2 w.heap.size A1 A2 c1 c2 k x hl _ hC).mono fun e w' ⟨v, he, hr, hb2⟩ => ?_
  have hrb : rb < (w.alloc (.cells #[.slice A1 k.length c1, .slice A2 x.length c2] T)).heap.size := (h.rs.below hb).lt
  have hs := hr.sx hrb
  obtain ⟨A3, c3, rfl, _⟩ := hs.form
  exact ⟨A3, c3, _, he, rfl, (h.below hb).below hb2, hs⟩
theorem dec_ck (rb : Nat) (k r l : List UInt8) (b : Bool) (v : Value) (A3 : Option Addr) (n3 c3 : Nat) (w0 w : World) (cb : Nat) (Y : CT) (hl : l.length ≤ 100000) (h : Ck w0 w rb cb v k r b Y) (h2 : Sx w rb (.slice A3 n3 c3) l) (hL : LaidU w) :
    Calls Tryd.prog 22 #[.slice A3 n3 c3] w fun e w' => ∃ X ok, e = .returned (.tuple #[X.v, .bool ok]) ∧ Hid (Below w.heap.size w w' ∧ Ck w0 w' rb cb v k r b Y ∧ DecQ l X ok) := by
  obtain ⟨e, h3, h4, _, hh⟩ := h2.holds
  subst e
  refine (dec_any A3 c3 l hl h3 h4 w hh hL).mono fun e w' ⟨X, ok, he, hb, h1, h2⟩ => ⟨X, ok, he, hb, h.below hb, h1, ?_⟩
  rcases h2 with h2 | ⟨h2, h3, _⟩
  · exact .inl h2
  · exact .inr ⟨h2, h3⟩
theorem key_ck (rb : Nat) (k r : List UInt8) (b : Bool) (v : Value) (w0 w : World) (cb : Nat) (X Y : CT) (hX : okC X) (h : Ck w0 w rb cb v k r b Y) (hL : LaidU w) :
    Calls Tryd.prog 44 #[X.v] w fun e w' => ∃ A5 c5 n5 b5, e = .returned (.tuple #[.slice A5 n5 c5, .bool b5]) ∧ Hid (Below w.heap.size w w' ∧ Ck w0 w' rb cb v k r b Y ∧ Sx w' rb (.slice A5 n5 c5) (if X.ok = true then keyL X else [])) := by
  refine (keyc_any X hX w hL).mono fun e w' ⟨u, he, hr, hb⟩ => ?_
  have hs := hr.sx h.rs.lt
  obtain ⟨A5, c5, rfl, _⟩ := hs.form
  exact ⟨A5, c5, _, X.ok, he, hb, h.below hb, hs⟩
theorem equal_ck (rb : Nat) (k r o : List UInt8) (b : Bool) (A1 A5 : Option Addr) (n1 c1 n5 c5 : Nat) (w0 w : World) (cb : Nat) (X : CT) (h : Ck w0 w rb cb (.slice A1 n1 c1) k r b X) (h5 : Sx w rb (.slice A5 n5 c5) o) :
    Calls Tryd.prog 102 #[.slice A5 n5 c5, .slice A1 n1 c1] w fun e w' => e = .returned (.bool (decide (o = k))) ∧ w' = w := by
  obtain ⟨e1, _, _, _, h1⟩ := h.kx.holds
  obtain ⟨e5, _, _, _, h5'⟩ := h5.holds
  subst e1 e5
  exact equal_any A5 A1 c5 c1 o k w h5' h1
end Go.Proofs.YtfcnobcpnhfgmaaDoor

/- block.Build at every list of cells. Conditions: the argument stands, 140 cells at most, their texts no longer than the laws look at. -/
namespace Go.Proofs.YtfcnobcpnhfgmaaDoor
open Go.RowKit

theorem keyc_yes (c : CT) (h : okC c) (hok : c.ok = true) (w : World) (hL : LaidU w) :
    Calls Tryd.prog 44 #[c.v] w fun e w' => ∃ v, e = .returned (.tuple #[v, .bool true]) ∧ Row w' w.heap.size v (keyL c) ∧ Below w.heap.size w w' := key_yes c.r c.f c.q c.s c.t c.k c.vk h.2.2 h.1 h.2.1 w hL hok
theorem keyc_no (c : CT) (h : okC c) (hok : c.ok = false) (w : World) (hL : LaidU w) :
    Calls Tryd.prog 44 #[c.v] w fun e w' => e = .returned (.tuple #[.slice none 0 0, .bool false]) ∧ Below w.heap.size w w' := key_no c.r c.f c.q c.s c.t c.k c.vk h.2.2 h.1 h.2.1 w hL hok

theorem abytes_at (B g cap : Nat) (l : List UInt8) (b off c : Nat) (part : List UInt8) (nl np : Nat) (h1 : l.length = nl) (h2 : part.length = np) (h0 : 0 < np) (hlen : nl + np ≤ 900000) (w : World) (h : RowG w B g cap l) (hp : Holds w b off part) (hne : b ≠ g) (hB : B ≤ w.heap.size) :
    Calls Tryd.prog 47 #[.slice (some ⟨g, 0, none⟩) nl cap, .slice (some ⟨b, off, none⟩) np c] w fun e w' => ∃ g' cap' n', e = .returned (.slice (some ⟨g', 0, none⟩) n' cap') ∧ Hid ((l ++ (numW np ++ part)).length = n' ∧ RowG w' B g' cap' (l ++ (numW np ++ part)) ∧ w.grownBy w' (some g) ∧ (g' = g ∨ w.heap.size ≤ g')) := by
  subst h1 h2
  exact (abytes_any B g cap l b off c part h0 hlen w h hp hne hB).mono fun e w' ⟨g', cap', he, h1, h2, h3⟩ => ⟨g', cap', _, he, rfl, h1, h2, h3⟩
/-- A key that stands, elsewhere than in block g. -/
def KeySt (W : World) (g : Nat) (v : Value) (k : List UInt8) : Prop := ∃ A c, v = .slice A k.length c ∧ HoldsA W A k ∧ (∀ b o, A = some ⟨b, o, none⟩ → b ≠ g ∧ b < W.heap.size)
theorem KeySt.below {W W' : World} {g : Nat} {v : Value} {k : List UInt8} (h : KeySt W g v k) (hb : Below W.heap.size W W') : KeySt W' g v k := by
  obtain ⟨A, c, e, hh, hn⟩ := h
  refine ⟨A, c, e, fun h0 => ?_, fun b o e => ⟨(hn b o e).1, Nat.lt_of_lt_of_le (hn b o e).2 hb.size⟩⟩
  obtain ⟨b, off, e2, h2⟩ := hh h0
  exact ⟨b, off, e2, h2.below hb (hn b off e2).2⟩
/-- Build's loop: some bytes, the key ahead. -/
structure BuI (w W : World) (g cap : Nat) (out : List UInt8) (va : Value) (a : List UInt8) : Prop where
  bel : Below w.heap.size w W
  row : RowG W w.heap.size g cap out
  key : KeySt W g va a
  len : a.length ≤ 3000
/-- Within a round: the bytes, the new key, the cell's own block. -/
structure BuR (w W : World) (g cap : Nat) (out : List UInt8) (gk capk : Nat) (k : List UInt8) (xb : Nat) (c : CT) : Prop where
  bel : Below w.heap.size w W
  row : RowG W w.heap.size g cap out
  key : RowG W w.heap.size gk capk k
  ne : gk ≠ g
  box : Blk W xb 40 c.e.toArray
  nb : xb ≠ g
section
variable {w W W' : World} {g cap gk capk xb g' cap' : Nat} {out out' k : List UInt8} {c : CT}
theorem BuR.below (h : BuR w W g cap out gk capk k xb c) (hb : Below W.heap.size W W') : BuR w W' g cap out gk capk k xb c :=
  ⟨h.bel.trans (hb.mono h.bel.size), h.row.below hb, h.key.below hb, h.ne, h.box.keep hb h.box.lt, h.nb⟩
theorem BuR.step (h : BuR w W g cap out gk capk k xb c) (hr : RowG W' w.heap.size g' cap' out') (hg : W.grownBy W' (some g)) (hd : g' = g ∨ W.heap.size ≤ g') : BuR w W' g' cap' out' gk capk k xb c := by
  have h1 := h.row.lt
  have h2 := h.key.lt
  have h3 := h.box.lt
  have hne := h.ne
  have hnb := h.nb
  refine ⟨h.bel.grown hg h.bel.size (fun j hj => ?_), hr, ⟨h.key.1, World.ownsRow.kept h.key.2 hg (.inr ?_)⟩, ?_, ?_, ?_⟩
  · injection hj with hj
    omega
  · intro e
    injection e with e
    exact hne e
  · rcases hd with rfl | hd <;> omega
  · unfold Blk at *
    rw [hg.block xb h3 (fun e => hnb (Option.some.inj e))]
    exact h.box
  · rcases hd with rfl | hd <;> omega
theorem BuR.next (h : BuR w W g cap out gk capk k xb c) (hk : k.length ≤ 3000) : BuI w W g cap out (.slice (some ⟨gk, 0, none⟩) k.length capk) k :=
  ⟨h.bel, h.row, ⟨_, _, rfl, fun _ => ⟨gk, 0, rfl, h.key.holds⟩, fun b o e => by
    injection e with e
    injection e with e
    subst e
    exact ⟨h.ne, h.key.lt.2⟩⟩, hk⟩
end
theorem fineK_stop {a : List UInt8} : ∀ (l : List CT) (i : Nat) (c : CT), l[i]? = some c → fineK a l = true → c.ok = true ∧ Lib.compareBytes (lastK a (l.take i)) (keyL c) < 0 := fun l i c hc hf => by
  obtain ⟨hi, rfl⟩ := List.getElem?_eq_some_iff.1 hc
  have e : l = (l.take i ++ [l[i]]) ++ l.drop (i + 1) := by rw [List.append_assoc, List.singleton_append, ← List.drop_eq_getElem_cons hi, List.take_append_drop]
  have h2 : ∀ (p q : List CT) (a : List UInt8), fineK a (p ++ q) = true → fineK a p = true := by
    intro p
    induction p with
    | nil => intro q a _; rfl
    | cons d p ih =>
      intro q a h
      have h' : (d.ok && (decide (Lib.compareBytes a (keyL d) < 0) && fineK (keyL d) (p ++ q))) = true := h
      show (d.ok && (decide (Lib.compareBytes a (keyL d) < 0) && fineK (keyL d) p)) = true
      simp only [Bool.and_eq_true] at h' ⊢
      exact ⟨h'.1, h'.2.1, ih q _ h'.2.2⟩
  rw [e] at hf
  have h3 := h2 _ _ a hf
  rw [fineK_snoc] at h3
  simp only [Bool.and_eq_true, decide_eq_true_eq] at h3
  exact h3.2
theorem venc_c {c : CT} (hk : c.k = 1) (hok : c.ok = true) (h : okC c) (w : World) (hL : LaidU w) :
    Calls Tryd.prog 48 #[.agg #[.int .i64 c.vk, .int .i64 c.vn, .string c.s]] w fun e w' => ∃ v, e = .returned (.tuple #[v, .bool true]) ∧ Row w' w.heap.size v (valL c) ∧ Below w.heap.size w w' := by
  obtain ⟨_, _, _, _, _, _, _, _, _, _, p1, _⟩ := cright_parts hok
  exact vencode_yes c.vk h.2.2 c.s h.2.1 (p1 hk) w hL
theorem valL_pos (c : CT) : 0 < (valL c).length := by
  unfold valL vEnc
  simp
theorem keyL_pos (c : CT) : 0 < (keyL c).length := by
  have := keyL_last c
  rcases Nat.eq_zero_or_pos (keyL c).length with h | h
  · rw [List.eq_nil_of_length_eq_zero h] at this; cases this
  · exact h
theorem pre_lt {a k : List UInt8} (h : Lib.compareBytes a k < 0) : preL a k < k.length := by
  have h1 := (preL_le a k).2
  rcases Nat.lt_or_ge (preL a k) k.length with h2 | h2
  · exact h2
  · exfalso
    have h3 := preL_take a k
    rw [show preL a k = k.length by omega, List.take_length] at h3
    rw [← h3] at h
    exact cmp_take a _ h

/-- What Build leaves. -/
def BuEnd (F : Bool) (l : List CT) (w : World) (e : Ending) (w' : World) : Prop := if F = true then ∃ v', e = .returned (.tuple #[v', .bool true]) ∧ Row w' w.heap.size v' (blockB l) else e = .returned (.tuple #[.slice none 0 0, .bool false])
theorem out_put {n p kl vl i : Nat} {l : List CT} {c : CT} (ht : l.take (i + 1) = l.take i ++ [c]) (hp : preL (lastK [] (l.take i)) (keyL c) = p) (hk : (keyL c).length = kl) (hv : (valL c).length = vl) (h1 : c.k = 1) : numW n ++ restB [] (l.take i) ++ numW p ++ (numW (kl - p) ++ (keyL c).drop p) ++ (numW vl ++ valL c) = numW n ++ restB [] (l.take (i + 1)) := by
  rw [ht, restB_snoc]
  unfold oneB
  rw [hp, hk, hv, if_pos h1]
  simp only [List.append_assoc]
theorem out_other {n p kl i : Nat} {l : List CT} {c : CT} (ht : l.take (i + 1) = l.take i ++ [c]) (hp : preL (lastK [] (l.take i)) (keyL c) = p) (hk : (keyL c).length = kl) (h1 : ¬ c.k = 1) : numW n ++ restB [] (l.take i) ++ numW p ++ (numW (kl - p) ++ (keyL c).drop p) = numW n ++ restB [] (l.take (i + 1)) := by
  rw [ht, restB_snoc]
  unfold oneB
  rw [hp, hk, if_neg h1]
  simp only [List.append_assoc, List.append_nil]
set_option maxRecDepth 100000 in
set_option maxHeartbeats 16000000 in
theorem build_any (v : Value) (l : List CT) (hl : l.length ≤ 140) (w : World) (h : ClA w v l) (hs : ∀ c ∈ l, Sm c) (hL : LaidU w) :
    Calls Tryd.prog 12 #[v] w fun e w' => Below w.heap.size w w' ∧ BuEnd (fineK [] l) l w e w' := by
  have mixed : Tryd.prog.follows .mixedOrders = true := by kernel_rfl
  obtain ⟨A, cc, rfl, hc1, hc2, hh⟩ := h
  have HH := hid hh
  have HSm := hid hs
  have HL := hid hL
  clear hh hs hL
  obtain ⟨n, hn⟩ : ∃ n, l.length = n := ⟨_, rfl⟩
  have HN := hid hn
  rw [hn] at hc1 hl ⊢
  have HNu := hid (num_any n (by omega) w)
  have HNp := hid (numW_pos n)
  have HN9 := hid (numW_len9 n (by omega))
  clear hn
  have hz : ¬ 1000 < (n : Int) := by omega
  obtain ⟨F, hF⟩ : ∃ F, F = fineK [] l := ⟨_, rfl⟩
  have HF := hid hF
  rw [← hF]
  clear hF
  go_enter Tryd.func12, Tryd.ntmps12
  go_wp2_with (first | (go_at_call 43; refine HNu.out.mono ?_; rintro e w1 ⟨v1, rfl, hR1, hb1⟩; obtain ⟨g1, cap1, rfl, hG1⟩ := hR1.toG HNp.out))
  have HI : Hid (BuI w w1 g1 cap1 (numW n ++ restB [] (l.take 0)) (.slice none 0 0) []) := by
    refine ⟨hb1, ?_, ⟨none, 0, rfl, fun h => absurd h (by simp), fun b o e => by cases e⟩, by simp⟩
    rw [List.take_zero]
    show RowG _ _ _ _ (_ ++ [])
    rw [List.append_nil]
    exact hG1
  have HIl : Hid ((numW n ++ restB [] (l.take 0)).length = (numW n).length) := by
    show _ = _
    rw [List.take_zero]
    show (_ ++ []).length = _
    rw [List.append_nil]
  clear hR1 hb1 hG1 HNu
  go_loopw [4, 5, 21] (fun vb va vi wr => ∃ (i : Nat) (g cap nb : Nat), i ≤ n ∧ vi = .int .i64 i ∧ vb = .slice (some ⟨g, 0, none⟩) nb cap ∧ Hid (BuI w wr g cap (numW n ++ restB [] (l.take i)) va (lastK [] (l.take i)) ∧ (numW n ++ restB [] (l.take i)).length = nb ∧ nb ≤ 9 + i * 6100 ∧ fineK [] (l.take i) = true)) (fun _ _ vi _ => n - (intOf vi).toNat)
  case atStart => exact ⟨0, g1, cap1, _, Nat.zero_le _, rfl, rfl, HI.out, HIl.out, by have := HN9.out; omega, rfl⟩
  case round =>
    clear HI HIl
    obtain ⟨i, g, cap, nb, hi, rfl, rfl, HI⟩ := hrel
    obtain ⟨Aa, ca, ea, _⟩ := HI.out.1.key
    subst ea
    obtain ⟨la, hla⟩ : ∃ la, (lastK [] (l.take i)).length = la := ⟨_, rfl⟩
    have HLa := hid hla
    rw [hla] at HI ⊢
    clear hla
    by_cases hlt : i < n
    · have hin : i < l.length := by rw [HN.out]; exact hlt
      have hltz : (i : Int) < (n : Int) := by omega
      obtain ⟨b, off, rfl, hhc⟩ := HH.out (by omega)
      have hbw : b < w.heap.size := hhc.lt (by omega)
      obtain ⟨c, hc⟩ : ∃ c, l[i]? = some c := ⟨_, List.getElem?_eq_getElem hin⟩
      have HC := hid hc
      have HCs : Hid (Sm c) := HSm.out c (List.mem_of_getElem? hc)
      have HTk : Hid (l.take (i + 1) = l.take i ++ [c]) := by show _ = _; rw [List.take_add_one, hc]; rfl
      obtain ⟨a0, a1, a2, a3, a4, a5, a6, a7⟩ := ct_words (hhc.below HI.out.1.bel hbw) i hc
      clear hhc hc hin
      have HKy : Hid (∀ W, Below w.heap.size w W → Calls Tryd.prog 44 #[c.v] W fun e w' => ∃ v, e = .returned (.tuple #[v, .bool c.ok]) ∧ Row w' W.heap.size v (if c.ok = true then keyL c else []) ∧ Below W.heap.size W w') := fun W hW => keyc_any c HCs.out.1 W (HL.out.below hW)
      go_upto_region 8 with (fail)
      obtain ⟨xb, hxb⟩ : ∃ xb, wr.heap.size = xb := ⟨_, rfl⟩
      obtain ⟨W1, hW1⟩ : ∃ W1, wr.alloc (.cells #[.string c.r, .string c.f, .string c.q, .int .i64 c.t, .int .i64 c.k, .int .i64 c.vk, .int .i64 c.vn, .string c.s] 40) = W1 := ⟨_, rfl⟩
      have HW1 : Hid (Below wr.heap.size wr W1 ∧ Blk W1 xb 40 c.e.toArray ∧ g < xb) := by
        rw [← hW1, ← hxb]
        exact ⟨below_new _ _, Blk.new _ _ _, HI.out.1.row.lt.2⟩
      rw [hW1, hxb]
      clear hW1 hxb a0 a1 a2 a3 a4 a5 a6 a7
      obtain ⟨y0, y1, y2, y3, y4, y5, y6, y7⟩ := blkc_words HW1.out.2.1
      cases hok : c.ok with
      | false =>
        have HKf := hid (HKy.out W1 (HI.out.1.bel.trans (HW1.out.1.mono HI.out.1.bel.size)))
        rw [hok] at HKf
        have HFf : Hid (¬ F = true) := fun e => by
          have h1 := (fineK_stop l i c HC.out (HF.out.symm.trans e)).1
          rw [hok] at h1
          cases h1
        clear hok HKy
        go_wp2_with (first
          | (go_at_call 44; refine HKf.out.mono ?_; rintro e w2 ⟨kv, rfl, hR2, hb2⟩; have HB2 := hid hb2; clear hR2 hb2))
        go_ret2
        have hb := HI.out.1.bel.trans (HW1.out.1.mono HI.out.1.bel.size)
        refine ⟨hb.trans (HB2.out.mono hb.size), ?_⟩
        unfold BuEnd; rw [if_neg HFf.out]
        rfl
      | true =>
        have HKt : Hid (Calls Tryd.prog 44 #[c.v] W1 fun e w' => ∃ gk capk, e = .returned (.tuple #[.slice (some ⟨gk, 0, none⟩) (keyL c).length capk, .bool true]) ∧ Hid (BuR w w' g cap (numW n ++ restB [] (l.take i)) gk capk (keyL c) xb c ∧ KeySt w' g (.slice Aa la ca) (lastK [] (l.take i)))) := by
          have hb0 := HI.out.1.bel.trans (HW1.out.1.mono HI.out.1.bel.size)
          refine (HKy.out W1 hb0).mono fun e w' ⟨v, he, hr, hb⟩ => ?_
          rw [hok] at he
          rw [if_pos hok] at hr
          obtain ⟨gk, capk, rfl, hG⟩ := hr.toG (keyL_pos c)
          have h1 := hG.lt
          have h2 := HI.out.1.row.lt
          have h3 := HW1.out.1.size
          have h4 : KeySt wr g (.slice Aa la ca) (lastK [] (l.take i)) := HI.out.1.key
          refine ⟨gk, capk, he, ⟨hb0.trans (hb.mono hb0.size), (HI.out.1.row.below HW1.out.1).below hb, ⟨hG.1, hG.2.le hb0.size⟩, by omega, HW1.out.2.1.keep hb HW1.out.2.1.lt, by have := HW1.out.2.2; omega⟩, KeySt.below (KeySt.below h4 HW1.out.1) hb⟩
        have HFo : Hid (F = true → Lib.compareBytes (lastK [] (l.take i)) (keyL c) < 0) := fun e => (fineK_stop l i c HC.out (HF.out.symm.trans e)).2
        have HOk := hid hok
        clear hok HKy
        obtain ⟨kl, hkl⟩ : ∃ kl, (keyL c).length = kl := ⟨_, rfl⟩
        have HKl := hid hkl
        rw [hkl] at HKt
        clear hkl y0 y1 y2 y3 y4 y5 y6 y7
        obtain ⟨y0, y1, y2, y3, y4, y5, y6, y7⟩ := blkc_words HW1.out.2.1
        obtain ⟨o, ho⟩ : ∃ o, Lib.compareBytes (lastK [] (l.take i)) (keyL c) = o := ⟨_, rfl⟩
        have HO := hid ho
        have HCm : Hid (∀ W gk capk, KeySt W g (.slice Aa la ca) (lastK [] (l.take i)) → RowG W w.heap.size gk capk (keyL c) → Calls Tryd.prog 45 #[.slice Aa la ca, .slice (some ⟨gk, 0, none⟩) kl capk] W fun e w' => e = .returned (.int .i64 o) ∧ w' = W) := fun W gk capk h1 h2 => by
          obtain ⟨A', c', e, hh, _⟩ := h1
          injection e with e1 e2 e3
          subst e1 e3
          have := bcompare_any Aa (some ⟨gk, 0, none⟩) ca capk (lastK [] (l.take i)) (keyL c) W hh (fun _ => ⟨gk, 0, rfl, h2.holds⟩)
          rw [HLa.out, HKl.out, HO.out] at this
          exact this
        clear ho
        by_cases hlt0 : o < 0
        · have hoz : ¬ 0 ≤ o := by omega
          obtain ⟨p, hp⟩ : ∃ p, preL (lastK [] (l.take i)) (keyL c) = p := ⟨_, rfl⟩
          have HP := hid hp
          have hpl : p < kl := by have := pre_lt (by rw [HO.out]; exact hlt0 : Lib.compareBytes (lastK [] (l.take i)) (keyL c) < 0); rw [HKl.out, hp] at this; exact this
          have hbc := bc_small (c := c) ⟨HOk.out, HCs.out.1.2.2, by have := HCs.out.2.2.2.2; omega⟩
          rw [HKl.out] at hbc
          have hk3 : kl ≤ 3000 := hbc.1
          have HVl := hid hbc.2
          clear hbc hp
          have HAl : Hid (∀ W gk capk, KeySt W g (.slice Aa la ca) (lastK [] (l.take i)) → RowG W w.heap.size gk capk (keyL c) → Calls Tryd.prog 46 #[.slice Aa la ca, .slice (some ⟨gk, 0, none⟩) kl capk] W fun e w' => e = .returned (.int .i64 (p : Int)) ∧ Below W.heap.size W w') := fun W gk capk h1 h2 => by
            obtain ⟨A', c', e, hh, _⟩ := h1
            injection e with e1 e2 e3
            subst e1 e3
            have hll : (lastK [] (l.take i)).length ≤ 1000000 := by have := HI.out.1.len; omega
            have := alike_any Aa (some ⟨gk, 0, none⟩) ca capk (lastK [] (l.take i)) (keyL c) hll W hh (fun _ => ⟨gk, 0, rfl, h2.holds⟩)
            rw [HLa.out, HKl.out, HP.out] at this
            exact this
          obtain ⟨N, hN⟩ : ∃ N, numW p = N := ⟨_, rfl⟩
          have HNN := hid hN
          have HNm : Hid (∀ W, Calls Tryd.prog 43 #[.int .i64 (p : Int)] W fun e w' => ∃ g5 cap5, e = .returned (.slice (some ⟨g5, 0, none⟩) N.length cap5) ∧ Hid (RowG w' W.heap.size g5 cap5 N ∧ Below W.heap.size W w')) := fun W => by
            rw [← hN]
            refine (num_any p (by omega) W).mono fun e w' ⟨v, he, hr, hb⟩ => ?_
            obtain ⟨g5, cap5, rfl, hG⟩ := hr.toG (numW_pos p)
            exact ⟨g5, cap5, he, hG, hb⟩
          have HNl : Hid (N.length ≤ 9 ∧ 0 < N.length) := by rw [← hN]; exact ⟨numW_len9 p (by omega), numW_pos p⟩
          have hN9 := HNl.out.1
          have hnb : nb ≤ 9 + 140 * 6100 := by have := HI.out.2.2.1; omega
          have hdl : ((keyL c).drop p).length = kl - p := by rw [List.length_drop, HKl.out]
          have HDl := hid hdl
          clear hN hdl hN9
          by_cases hk1 : c.k = 1
          · obtain ⟨vl, hvl⟩ : ∃ vl, (valL c).length = vl := ⟨_, rfl⟩
            have HVL := hid hvl
            have HK1 := hid hk1
            have hke : ((c.k : Int) == 1) = true := by simp [hk1]
            have HVe : Hid (∀ W, Below w.heap.size w W → Calls Tryd.prog 48 #[.agg #[.int .i64 c.vk, .int .i64 c.vn, .string c.s]] W fun e w' => ∃ gv capv, e = .returned (.tuple #[.slice (some ⟨gv, 0, none⟩) vl capv, .bool true]) ∧ Hid (RowG w' W.heap.size gv capv (valL c) ∧ Below W.heap.size W w')) := fun W hW => by
              refine (venc_c hk1 HOk.out HCs.out.1 W (HL.out.below hW)).mono fun e w' ⟨v, he, hr, hb⟩ => ?_
              obtain ⟨gv, capv, rfl, hG⟩ := hr.toG (valL_pos c)
              rw [hvl] at he
              exact ⟨gv, capv, he, hG, hb⟩
            have HB9 : Hid (∀ n6 n7, (numW n ++ restB [] (l.take i) ++ N).length = n6 → (numW n ++ restB [] (l.take i) ++ N ++ (numW (kl - p) ++ (keyL c).drop p)).length = n7 → n7 + vl ≤ 900000) := fun n6 n7 h1 h2 => by
              have h3 := HI.out.2.1
              have h4 := HVl.out
              have h5 := HNl.out.1
              have h6 := numW_len9 (kl - p) (by omega)
              have h7 := HDl.out
              rw [hvl] at h4
              simp only [List.length_append] at h1 h2 h3
              omega
            clear hvl hk1
            go_upto_region 16 with (first
              | (go_at_call 44; refine HKt.out.mono ?_; rintro e w2 ⟨gk, capk, rfl, H2⟩; have hcapk : kl ≤ capk := (by have := H2.out.1.key.caps.1; rw [HKl.out] at this; exact this); have hcapm : capk ≤ 9223372036854775807 := H2.out.1.key.caps.2)
              | (go_at_call 45; refine (HCm.out _ _ _ H2.out.2 H2.out.1.key).mono ?_; rintro e w3 ⟨rfl, rfl⟩)
              | (go_at_call 46; refine (HAl.out _ _ _ H2.out.2 H2.out.1.key).mono ?_; rintro e w4 ⟨rfl, hb4⟩; have H4 := hid (H2.out.1.below hb4); clear hb4)
              | (go_at_call 43; refine (HNm.out _).mono ?_; rintro e w5 ⟨g5, cap5, rfl, H5⟩; have H5b := hid (H4.out.below H5.out.2))
              | (at_builtin; refine wpList_append_g rfl (.tmp 41) (.tmp 43) rfl w5 w.heap.size g cap _ nb HI.out.2.1.symm ?_ H5b.out.row g5 0 N.length cap5 N rfl ?_ HNl.out.2 H5.out.1.holds (by have := HI.out.2.1; have := HNl.out; omega) H5b.out.bel.size ?_; rfl; rfl; intro g6 cap6 w6 n6 hn6 hG6 hg6 hd6; have H6 := hid (H5b.out.step hG6 hg6 hd6); clear hG6 hg6 hd6)
              | (go_at_call 47; have hq7 := abytes_at w.heap.size g6 cap6 _ gk p (capk - p) ((keyL c).drop p) n6 (kl - p) hn6.out HDl.out (by omega) (by have h1 := hn6.out; rw [List.length_append, HI.out.2.1] at h1; have := HNl.out.1; omega) w6 H6.out.row (by have h1 := H6.out.key.holds.drop p; rwa [Nat.zero_add] at h1) H6.out.ne H6.out.bel.size; refine hq7.mono ?_; rintro e w7 ⟨g7, cap7, n7, rfl, H7a⟩; have H7 := hid (H6.out.step H7a.out.2.1 H7a.out.2.2.1 H7a.out.2.2.2); obtain ⟨z0, z1, z2, z3, z4, z5, z6, z7⟩ := blkc_words H7.out.box)
              | (go_at_call 48; refine (HVe.out w7 H7.out.bel).mono ?_; rintro e w8 ⟨gv, capv, rfl, H8a⟩; have H8 := hid (H7.out.below H8a.out.2)))
            go_wp2_with (first
              | (go_at_call 47; have hq9 := abytes_at w.heap.size g7 cap7 _ gv 0 capv (valL c) n7 vl H7a.out.1 HVL.out (by have := valL_pos c; have := HVL.out; omega) (HB9.out n6 n7 hn6.out H7a.out.1) w8 H8.out.row H8a.out.1.holds (by have := H8a.out.1.lt.1; have := H7.out.row.lt.2; omega) H8.out.bel.size; refine hq9.mono ?_; rintro e w9 ⟨g9, cap9, n9, rfl, H9a⟩; have H9 := hid (H8.out.step H9a.out.2.1 H9a.out.2.2.1 H9a.out.2.2.2)))
            go_roundw
            case rel =>
              refine ⟨i + 1, _, _, _, by omega, by go_num, rfl, ?_⟩
              have ho : _ = numW n ++ restB [] (l.take (i + 1)) := out_put HTk.out HP.out HKl.out HVL.out HK1.out
              have hl1 : lastK [] (l.take (i + 1)) = keyL c := by rw [HTk.out, lastK_snoc]
              have h1 := H9a.out.1
              have h2 := BuR.next H9.out (by rw [HKl.out]; exact hk3)
              rw [HNN.out.symm] at h1 h2
              rw [ho] at h1 h2
              rw [HKl.out] at h2
              rw [hl1]
              refine ⟨h2, h1, ?_, ?_⟩
              · have h3 := congrArg List.length ho
                rw [h1] at h3
                simp only [List.length_append] at h3
                have h4 := HI.out.2.1
                simp only [List.length_append] at h4
                have h5 := HI.out.2.2.1
                have := HNl.out.1
                have h6 := HNN.out
                have := numW_len9 (kl - p) (by omega)
                have := HDl.out
                have := HVl.out; have := HVL.out; have := numW_len9 vl (by omega)
                rw [h6] at h3
                omega
              · rw [HTk.out, fineK_snoc, HI.out.2.2.2, HOk.out, decide_eq_true (by rw [HO.out]; exact hlt0)]
                rfl
            case measure => simp [intOf]; omega
          · have HK1 := hid hk1
            have hke : ((c.k : Int) == 1) = false := by simp [hk1]
            clear hk1
            go_wp2_with (first
              | (go_at_call 44; refine HKt.out.mono ?_; rintro e w2 ⟨gk, capk, rfl, H2⟩; have hcapk : kl ≤ capk := (by have := H2.out.1.key.caps.1; rw [HKl.out] at this; exact this); have hcapm : capk ≤ 9223372036854775807 := H2.out.1.key.caps.2)
              | (go_at_call 45; refine (HCm.out _ _ _ H2.out.2 H2.out.1.key).mono ?_; rintro e w3 ⟨rfl, rfl⟩)
              | (go_at_call 46; refine (HAl.out _ _ _ H2.out.2 H2.out.1.key).mono ?_; rintro e w4 ⟨rfl, hb4⟩; have H4 := hid (H2.out.1.below hb4); clear hb4)
              | (go_at_call 43; refine (HNm.out _).mono ?_; rintro e w5 ⟨g5, cap5, rfl, H5⟩; have H5b := hid (H4.out.below H5.out.2))
              | (at_builtin; refine wpList_append_g rfl (.tmp 41) (.tmp 43) rfl w5 w.heap.size g cap _ nb HI.out.2.1.symm ?_ H5b.out.row g5 0 N.length cap5 N rfl ?_ HNl.out.2 H5.out.1.holds (by have := HI.out.2.1; have := HNl.out; omega) H5b.out.bel.size ?_; rfl; rfl; intro g6 cap6 w6 n6 hn6 hG6 hg6 hd6; have H6 := hid (H5b.out.step hG6 hg6 hd6); clear hG6 hg6 hd6)
              | (go_at_call 47; have hq7 := abytes_at w.heap.size g6 cap6 _ gk p (capk - p) ((keyL c).drop p) n6 (kl - p) hn6.out HDl.out (by omega) (by have h1 := hn6.out; rw [List.length_append, HI.out.2.1] at h1; have := HNl.out.1; omega) w6 H6.out.row (by have h1 := H6.out.key.holds.drop p; rwa [Nat.zero_add] at h1) H6.out.ne H6.out.bel.size; refine hq7.mono ?_; rintro e w7 ⟨g7, cap7, n7, rfl, H7a⟩; have H7 := hid (H6.out.step H7a.out.2.1 H7a.out.2.2.1 H7a.out.2.2.2); obtain ⟨z0, z1, z2, z3, z4, z5, z6, z7⟩ := blkc_words H7.out.box))
            go_roundw
            case rel =>
              refine ⟨i + 1, _, _, _, by omega, by go_num, rfl, ?_⟩
              have ho : _ = numW n ++ restB [] (l.take (i + 1)) := out_other HTk.out HP.out HKl.out HK1.out
              have hl1 : lastK [] (l.take (i + 1)) = keyL c := by rw [HTk.out, lastK_snoc]
              have h1 := H7a.out.1
              have h2 := BuR.next H7.out (by rw [HKl.out]; exact hk3)
              rw [HNN.out.symm] at h1 h2
              rw [ho] at h1 h2
              rw [HKl.out] at h2
              rw [hl1]
              refine ⟨h2, h1, ?_, ?_⟩
              · have h3 := congrArg List.length ho
                rw [h1] at h3
                simp only [List.length_append] at h3
                have h4 := HI.out.2.1
                simp only [List.length_append] at h4
                have h5 := HI.out.2.2.1
                have := HNl.out.1
                have h6 := HNN.out
                have := numW_len9 (kl - p) (by omega)
                have := HDl.out
                skip
                rw [h6] at h3
                omega
              · rw [HTk.out, fineK_snoc, HI.out.2.2.2, HOk.out, decide_eq_true (by rw [HO.out]; exact hlt0)]
                rfl
            case measure => simp [intOf]; omega
        · have hoz : 0 ≤ o := by omega
          have HFf : Hid (¬ F = true) := fun e => by
            have := HFo.out e
            rw [HO.out] at this
            exact hlt0 this
          go_wp2_with (first
            | (go_at_call 44; refine HKt.out.mono ?_; rintro e w2 ⟨gk, capk, rfl, H2⟩)
            | (go_at_call 45; refine (HCm.out _ _ _ H2.out.2 H2.out.1.key).mono ?_; rintro e w3 ⟨rfl, rfl⟩))
          go_ret2
          refine ⟨H2.out.1.bel, ?_⟩
          unfold BuEnd; rw [if_neg HFf.out]
          rfl
    · obtain rfl : i = n := by omega
      have HE : Hid (numW i ++ restB [] (l.take i) = blockB l ∧ F = true) := by
        have e : l.take i = l := by rw [← HN.out, List.take_length]
        have h1 := HI.out.2.2.2
        rw [e] at h1 ⊢
        exact ⟨by unfold blockB; rw [HN.out], HF.out.trans h1⟩
      go_wp2
      go_ret2
      refine ⟨HI.out.1.bel, ?_⟩
      unfold BuEnd
      rw [if_pos HE.out.2]
      refine ⟨_, rfl, ?_⟩
      have h1 := HI.out.1.row.2
      rw [HI.out.2.1, HE.out.1] at h1
      exact h1
end Go.Proofs.YtfcnobcpnhfgmaaDoor

/- The block's reader: the next cell; its walk. Conditions: the reader holds its bytes, the key ahead stands, a hundred thousand bytes together at most; the tables of utf8 read as they are laid. -/
namespace Go.Proofs.YtfcnobcpnhfgmaaDoor
open Go.RowKit

set_option maxRecDepth 100000 in
set_option maxHeartbeats 16000000 in
theorem bcell_any (rb : Nat) (a l : List UInt8) (bad : Bool) (v : Value) (hal : a.length + l.length ≤ 100000) (w : World) (h : Rs w rb l bad) (ha : Sx w rb v a) (hL : ∀ W, But w.heap.size rb w W → LaidU W) :
    Calls Tryd.prog 50 #[.pointer (some ⟨rb, 0, none⟩), v] w (CeEnd rb a l bad w) := by
  have HLw := hid hL
  have HAL := hid hal
  have H0 : Hid (Ck w (w.alloc (.cells zeroA 40)) rb w.heap.size v a l bad default) := by
    have hb := below_new w (.cells zeroA 40)
    exact ⟨But.of_below hb rb, ha.below hb, h.below hb, Blk.new w _ _, h.lt, Nat.le_refl _⟩
  obtain ⟨A, c, rfl, _⟩ := ha
  obtain ⟨m, hm⟩ : ∃ m, a.length = m := ⟨_, rfl⟩
  rw [hm] at H0 ⊢
  clear hm h hL hal
  go_enter Tryd.func50, Tryd.ntmps50
  go_upto_region 3 with (first
    | (go_at_call 99; refine (bkey_ck rb a l bad _ (by have := HAL.out; omega) w _ w.heap.size default _ H0.out rfl).mono ?_; rintro e w1 ⟨A1, c1, n1, k, r, b, rfl, H1⟩))
  clear H0
  by_cases hk0 : n1 = 0
  · subst hk0
    have HLK : Hid (k.getLast? ≠ some 254) := by
      have : k = [] := List.eq_nil_of_length_eq_zero H1.out.1
      rw [this]
      show ([] : List UInt8).getLast? ≠ _
      simp
    go_upto_region 5 with (fail)
    go_upto_region 6 with (first
      | (go_at_call 22; refine (dec_ck rb k r k b _ _ _ _ w _ w.heap.size default (by have := H1.out.2.2.1.1; have := HAL.out; omega) H1.out.2.1 H1.out.2.1.kx (HLw.out _ H1.out.2.1.but)).mono ?_; rintro e w4 ⟨X, ok, rfl, HD⟩))
    obtain ⟨xb, hxb⟩ : ∃ xb, w4.heap.size = xb := ⟨_, rfl⟩
    obtain ⟨W5, hW5⟩ : ∃ W5, w4.alloc (.cells #[.string X.r, .string X.f, .string X.q, .int .i64 X.t, .int .i64 X.k, .int .i64 X.vk, .int .i64 X.vn, .string X.s] 40) = W5 := ⟨_, rfl⟩
    have HW : Hid (Ck w W5 rb w.heap.size (.slice A1 0 c1) k r b default ∧ Blk W5 xb 40 X.e.toArray ∧ rb ≠ xb ∧ w.heap.size ≠ xb) := by
      rw [← hW5, ← hxb]
      have h1 := HD.out.2.1.rs.lt
      have h2 := HD.out.2.1.dw.lt
      exact ⟨HD.out.2.1.below (below_new _ _), Blk.new w4 _ _, by omega, by omega⟩
    rw [hW5, hxb]
    clear hW5 hxb
    obtain ⟨y0, y1, y2, y3, y4, y5, y6, y7⟩ := blkc_words HW.out.2.1
    go_upto_region 7 with (first
      | (go_at_call 44; refine (key_ck rb k r b _ w _ w.heap.size X default HD.out.2.2.1 HW.out.1 (HLw.out _ HW.out.1.but)).mono ?_; rintro e w6 ⟨A5, c5, n5, b5, rfl, H5⟩))
    have HX := hid (HW.out.2.1.keep H5.out.1 HW.out.2.1.lt)
    clear y0 y1 y2 y3 y4 y5 y6 y7
    obtain ⟨y0, y1, y2, y3, y4, y5, y6, y7⟩ := blkc_words HX.out
    obtain ⟨z0, z1, z2, z3, z4, z5, z6, z7⟩ := blkc_words H5.out.2.1.dw
    obtain ⟨f1, x1, g1⟩ := H5.out.2.1.rs.b1
    have fz : ∀ j, w6.frozen? ⟨w.heap.size, j, none⟩ = false := fun j => H5.out.2.1.dw.free j
    obtain ⟨hn1, hn2⟩ := HW.out.2.2
    have hn3 : rb ≠ w.heap.size := by have := H5.out.2.1.lo; omega
    have hn4 : w.heap.size ≠ rb := fun e => hn3 e.symm
    have hn5 : xb ≠ rb := fun e => hn1 e.symm
    cases ok with
    | false =>
      have hN := hid ((end_other H1.out.2.2.1 HLK.out HD.out.2.2).2 (.inl rfl))
      go_wp2
      have hC := H5.out.2.1.spoil
      generalize (w6.setCell ⟨rb, 1, none⟩ (.bool true)) = W7 at *
      obtain ⟨r0, r1, r2, r3, r4, r5, r6, r7⟩ := blkc_words hC.dw
      refine bodyPost_ret (v := .tuple #[X.v, .slice A1 0 c1]) (by simp [results, Tryd.results50, go_sem, cell_set_same, r0, r1, r2, r3, r4, r5, r6, r7]) rfl ?_
      have hD := hC.set8 X
      exact ⟨hD.but, X, _, k, r, true, rfl, hD.kx, hD.rs, H1.out.2.2.1.1, .inr ⟨rfl, hN.out⟩⟩
    | true =>
      have HE := hid (equal_ck rb k r (if X.ok = true then keyL X else []) b A1 A5 0 c1 n5 c5 w w6 w.heap.size default H5.out.2.1 H5.out.2.2)
      have hF := hid (end_other H1.out.2.2.1 HLK.out HD.out.2.2)
      cases hq : decide ((if X.ok = true then keyL X else []) = k) with
      | false =>
        rw [hq] at HE
        have hN := hid (hF.out.2 (.inr hq))
        clear hq hF
        go_wp2_with (first
          | (go_at_call 102; refine HE.out.mono ?_; rintro e w7 ⟨rfl, rfl⟩))
        have hC := H5.out.2.1.spoil
        generalize (w7.setCell ⟨rb, 1, none⟩ (.bool true)) = W7 at *
        obtain ⟨r0, r1, r2, r3, r4, r5, r6, r7⟩ := blkc_words hC.dw
        refine bodyPost_ret (v := .tuple #[X.v, .slice A1 0 c1]) (by simp [results, Tryd.results50, go_sem, cell_set_same, r0, r1, r2, r3, r4, r5, r6, r7]) rfl ?_
        have hD := hC.set8 X
        exact ⟨hD.but, X, _, k, r, true, rfl, hD.kx, hD.rs, H1.out.2.2.1.1, .inr ⟨rfl, hN.out⟩⟩
      | true =>
        rw [hq] at HE
        have hN := hid (hF.out.1 ⟨rfl, hq⟩)
        clear hq hF
        go_wp2_with (first
          | (go_at_call 102; refine HE.out.mono ?_; rintro e w7 ⟨rfl, rfl⟩))
        have hC := H5.out.2.1
        generalize w7 = W7 at *
        obtain ⟨r0, r1, r2, r3, r4, r5, r6, r7⟩ := blkc_words hC.dw
        refine bodyPost_ret (v := .tuple #[X.v, .slice A1 0 c1]) (by simp [results, Tryd.results50, go_sem, cell_set_same, r0, r1, r2, r3, r4, r5, r6, r7]) rfl ?_
        have hD := hC.set8 X
        exact ⟨hD.but, X, _, k, r, b, rfl, hD.kx, hD.rs, H1.out.2.2.1.1, end_fr H1.out.2.2.2 (by simp) hN.out⟩
  · have hk1 : 1 ≤ n1 := by omega
    obtain ⟨b1, o1, y, rfl, g1, hy⟩ := last_cell H1.out.2.1.kx hk1
    have hkz : (0 : Int) < (n1 : Int) := by omega
    have hkb : n1 ≤ 100000 := by have := H1.out.1; have := H1.out.2.2.1.1; have := HAL.out; omega
    have hks : (n1 : Int) - 1 = ((n1 - 1 : Nat) : Int) := by omega
    have hkl : n1 - 1 < n1 := by omega
    obtain ⟨j, hj⟩ : ∃ j, n1 - 1 = j := ⟨_, rfl⟩
    rw [hj] at g1 hks hkl
    have hjw : IntKind.i64.wrap ((j : Nat) : Int) = (j : Int) := by rw [IntKind.wrap_i64]; omega
    have hjz : (j : Int) < (n1 : Int) := by omega
    clear hj
    by_cases hp : y = 254
    · subst hp
      have HY := hid hy
      clear hy
      rw [show (((254 : UInt8).toNat : Nat) : Int) = 254 from rfl] at g1
      go_upto_region 5 with (first
        | (go_at_call 101; refine (bcou_ck rb k r b _ w _ w.heap.size default H1.out.2.1).mono ?_; rintro e w2 ⟨A2, c2, n2, x, rr, b2, rfl, H2⟩)
        | (go_at_call 100; refine (concat_ck rb k rr x b2 _ A2 n1 c1 n2 c2 w w2 w.heap.size default _ H1.out.1 H2.out.1 (by have := H1.out.2.2.1.1; have := H2.out.2.2.2.1; have := HAL.out; omega) H2.out.2.1 H2.out.2.2.1).mono ?_; rintro e w3 ⟨A3, c3, n3, rfl, H3⟩))
      go_upto_region 6 with (first
        | (go_at_call 22; refine (dec_ck rb k rr (k ++ x) b2 _ _ _ _ w _ w.heap.size default (by rw [List.length_append]; have := H1.out.2.2.1.1; have := H2.out.2.2.2.1; have := HAL.out; omega) H3.out.2.1 H3.out.2.2 (HLw.out _ H3.out.2.1.but)).mono ?_; rintro e w4 ⟨X, ok, rfl, HD⟩))
      obtain ⟨xb, hxb⟩ : ∃ xb, w4.heap.size = xb := ⟨_, rfl⟩
      obtain ⟨W5, hW5⟩ : ∃ W5, w4.alloc (.cells #[.string X.r, .string X.f, .string X.q, .int .i64 X.t, .int .i64 X.k, .int .i64 X.vk, .int .i64 X.vn, .string X.s] 40) = W5 := ⟨_, rfl⟩
      have HW : Hid (Ck w W5 rb w.heap.size (.slice (some ⟨b1, o1, none⟩) n1 c1) k rr b2 default ∧ Blk W5 xb 40 X.e.toArray ∧ rb ≠ xb ∧ w.heap.size ≠ xb) := by
        rw [← hW5, ← hxb]
        have h1 := HD.out.2.1.rs.lt
        have h2 := HD.out.2.1.dw.lt
        exact ⟨HD.out.2.1.below (below_new _ _), Blk.new w4 _ _, by omega, by omega⟩
      rw [hW5, hxb]
      clear hW5 hxb
      obtain ⟨y0, y1, y2, y3, y4, y5, y6, y7⟩ := blkc_words HW.out.2.1
      go_upto_region 7 with (first
        | (go_at_call 44; refine (key_ck rb k rr b2 _ w _ w.heap.size X default HD.out.2.2.1 HW.out.1 (HLw.out _ HW.out.1.but)).mono ?_; rintro e w6 ⟨A5, c5, n5, b5, rfl, H5⟩))
      have HX := hid (HW.out.2.1.keep H5.out.1 HW.out.2.1.lt)
      clear y0 y1 y2 y3 y4 y5 y6 y7
      obtain ⟨y0, y1, y2, y3, y4, y5, y6, y7⟩ := blkc_words HX.out
      obtain ⟨z0, z1, z2, z3, z4, z5, z6, z7⟩ := blkc_words H5.out.2.1.dw
      obtain ⟨f1, x1, g1⟩ := H5.out.2.1.rs.b1
      have fz : ∀ j, w6.frozen? ⟨w.heap.size, j, none⟩ = false := fun j => H5.out.2.1.dw.free j
      obtain ⟨hn1, hn2⟩ := HW.out.2.2
      have hn3 : rb ≠ w.heap.size := by have := H5.out.2.1.lo; omega
      have hn4 : w.heap.size ≠ rb := fun e => hn3 e.symm
      have hn5 : xb ≠ rb := fun e => hn1 e.symm
      cases ok with
      | false =>
        have hN := hid ((end_put H1.out.2.2.1 HY.out H2.out.2.2.2 HD.out.2.2).2 (.inl rfl))
        go_wp2
        have hC := H5.out.2.1.spoil
        generalize (w6.setCell ⟨rb, 1, none⟩ (.bool true)) = W7 at *
        obtain ⟨r0, r1, r2, r3, r4, r5, r6, r7⟩ := blkc_words hC.dw
        refine bodyPost_ret (v := .tuple #[X.v, (.slice (some ⟨b1, o1, none⟩) n1 c1)]) (by simp [results, Tryd.results50, go_sem, cell_set_same, r0, r1, r2, r3, r4, r5, r6, r7]) rfl ?_
        have hD := hC.set8 X
        exact ⟨hD.but, X, _, k, rr, true, rfl, hD.kx, hD.rs, (by have := H1.out.2.2.1.1; have := H2.out.2.2.2.1; omega), .inr ⟨rfl, hN.out⟩⟩
      | true =>
        have HE := hid (equal_ck rb k rr (if X.ok = true then keyL X else []) b2 _ A5 n1 c1 n5 c5 w w6 w.heap.size default H5.out.2.1 H5.out.2.2)
        have hF := hid (end_put H1.out.2.2.1 HY.out H2.out.2.2.2 HD.out.2.2)
        cases hq : decide ((if X.ok = true then keyL X else []) = k) with
        | false =>
          rw [hq] at HE
          have hN := hid (hF.out.2 (.inr hq))
          clear hq hF
          go_wp2_with (first
            | (go_at_call 102; refine HE.out.mono ?_; rintro e w7 ⟨rfl, rfl⟩))
          have hC := H5.out.2.1.spoil
          generalize (w7.setCell ⟨rb, 1, none⟩ (.bool true)) = W7 at *
          obtain ⟨r0, r1, r2, r3, r4, r5, r6, r7⟩ := blkc_words hC.dw
          refine bodyPost_ret (v := .tuple #[X.v, (.slice (some ⟨b1, o1, none⟩) n1 c1)]) (by simp [results, Tryd.results50, go_sem, cell_set_same, r0, r1, r2, r3, r4, r5, r6, r7]) rfl ?_
          have hD := hC.set8 X
          exact ⟨hD.but, X, _, k, rr, true, rfl, hD.kx, hD.rs, (by have := H1.out.2.2.1.1; have := H2.out.2.2.2.1; omega), .inr ⟨rfl, hN.out⟩⟩
        | true =>
          rw [hq] at HE
          have hN := hid (hF.out.1 ⟨rfl, hq⟩)
          clear hq hF
          go_wp2_with (first
            | (go_at_call 102; refine HE.out.mono ?_; rintro e w7 ⟨rfl, rfl⟩))
          have hC := H5.out.2.1
          generalize w7 = W7 at *
          obtain ⟨r0, r1, r2, r3, r4, r5, r6, r7⟩ := blkc_words hC.dw
          refine bodyPost_ret (v := .tuple #[X.v, (.slice (some ⟨b1, o1, none⟩) n1 c1)]) (by simp [results, Tryd.results50, go_sem, cell_set_same, r0, r1, r2, r3, r4, r5, r6, r7]) rfl ?_
          have hD := hC.set8 X
          exact ⟨hD.but, X, _, k, rr, b2, rfl, hD.kx, hD.rs, (by have := H1.out.2.2.1.1; have := H2.out.2.2.2.1; omega), end_fr H1.out.2.2.2 (by simp) hN.out⟩
    · have HLK : Hid (k.getLast? ≠ some 254) := by
        show k.getLast? ≠ _
        rw [hy]
        intro e
        exact hp (Option.some.inj e)
      clear hy
      obtain ⟨z, hz⟩ : ∃ z : Int, (y.toNat : Int) = z := ⟨_, rfl⟩
      have hzz : (z == 254) = false := by
        have : y.toNat ≠ 254 := fun e => hp (UInt8.toNat_inj.1 e)
        simp
        omega
      rw [hz] at g1
      clear hz hp
      go_upto_region 5 with (fail)
      go_upto_region 6 with (first
        | (go_at_call 22; refine (dec_ck rb k r k b _ _ _ _ w _ w.heap.size default (by have := H1.out.2.2.1.1; have := HAL.out; omega) H1.out.2.1 H1.out.2.1.kx (HLw.out _ H1.out.2.1.but)).mono ?_; rintro e w4 ⟨X, ok, rfl, HD⟩))
      obtain ⟨xb, hxb⟩ : ∃ xb, w4.heap.size = xb := ⟨_, rfl⟩
      obtain ⟨W5, hW5⟩ : ∃ W5, w4.alloc (.cells #[.string X.r, .string X.f, .string X.q, .int .i64 X.t, .int .i64 X.k, .int .i64 X.vk, .int .i64 X.vn, .string X.s] 40) = W5 := ⟨_, rfl⟩
      have HW : Hid (Ck w W5 rb w.heap.size (.slice (some ⟨b1, o1, none⟩) n1 c1) k r b default ∧ Blk W5 xb 40 X.e.toArray ∧ rb ≠ xb ∧ w.heap.size ≠ xb) := by
        rw [← hW5, ← hxb]
        have h1 := HD.out.2.1.rs.lt
        have h2 := HD.out.2.1.dw.lt
        exact ⟨HD.out.2.1.below (below_new _ _), Blk.new w4 _ _, by omega, by omega⟩
      rw [hW5, hxb]
      clear hW5 hxb
      obtain ⟨y0, y1, y2, y3, y4, y5, y6, y7⟩ := blkc_words HW.out.2.1
      go_upto_region 7 with (first
        | (go_at_call 44; refine (key_ck rb k r b _ w _ w.heap.size X default HD.out.2.2.1 HW.out.1 (HLw.out _ HW.out.1.but)).mono ?_; rintro e w6 ⟨A5, c5, n5, b5, rfl, H5⟩))
      have HX := hid (HW.out.2.1.keep H5.out.1 HW.out.2.1.lt)
      clear y0 y1 y2 y3 y4 y5 y6 y7
      obtain ⟨y0, y1, y2, y3, y4, y5, y6, y7⟩ := blkc_words HX.out
      obtain ⟨z0, z1, z2, z3, z4, z5, z6, z7⟩ := blkc_words H5.out.2.1.dw
      obtain ⟨f1, x1, g1⟩ := H5.out.2.1.rs.b1
      have fz : ∀ j, w6.frozen? ⟨w.heap.size, j, none⟩ = false := fun j => H5.out.2.1.dw.free j
      obtain ⟨hn1, hn2⟩ := HW.out.2.2
      have hn3 : rb ≠ w.heap.size := by have := H5.out.2.1.lo; omega
      have hn4 : w.heap.size ≠ rb := fun e => hn3 e.symm
      have hn5 : xb ≠ rb := fun e => hn1 e.symm
      cases ok with
      | false =>
        have hN := hid ((end_other H1.out.2.2.1 HLK.out HD.out.2.2).2 (.inl rfl))
        go_wp2
        have hC := H5.out.2.1.spoil
        generalize (w6.setCell ⟨rb, 1, none⟩ (.bool true)) = W7 at *
        obtain ⟨r0, r1, r2, r3, r4, r5, r6, r7⟩ := blkc_words hC.dw
        refine bodyPost_ret (v := .tuple #[X.v, (.slice (some ⟨b1, o1, none⟩) n1 c1)]) (by simp [results, Tryd.results50, go_sem, cell_set_same, r0, r1, r2, r3, r4, r5, r6, r7]) rfl ?_
        have hD := hC.set8 X
        exact ⟨hD.but, X, _, k, r, true, rfl, hD.kx, hD.rs, H1.out.2.2.1.1, .inr ⟨rfl, hN.out⟩⟩
      | true =>
        have HE := hid (equal_ck rb k r (if X.ok = true then keyL X else []) b _ A5 n1 c1 n5 c5 w w6 w.heap.size default H5.out.2.1 H5.out.2.2)
        have hF := hid (end_other H1.out.2.2.1 HLK.out HD.out.2.2)
        cases hq : decide ((if X.ok = true then keyL X else []) = k) with
        | false =>
          rw [hq] at HE
          have hN := hid (hF.out.2 (.inr hq))
          clear hq hF
          go_wp2_with (first
            | (go_at_call 102; refine HE.out.mono ?_; rintro e w7 ⟨rfl, rfl⟩))
          have hC := H5.out.2.1.spoil
          generalize (w7.setCell ⟨rb, 1, none⟩ (.bool true)) = W7 at *
          obtain ⟨r0, r1, r2, r3, r4, r5, r6, r7⟩ := blkc_words hC.dw
          refine bodyPost_ret (v := .tuple #[X.v, (.slice (some ⟨b1, o1, none⟩) n1 c1)]) (by simp [results, Tryd.results50, go_sem, cell_set_same, r0, r1, r2, r3, r4, r5, r6, r7]) rfl ?_
          have hD := hC.set8 X
          exact ⟨hD.but, X, _, k, r, true, rfl, hD.kx, hD.rs, H1.out.2.2.1.1, .inr ⟨rfl, hN.out⟩⟩
        | true =>
          rw [hq] at HE
          have hN := hid (hF.out.1 ⟨rfl, hq⟩)
          clear hq hF
          go_wp2_with (first
            | (go_at_call 102; refine HE.out.mono ?_; rintro e w7 ⟨rfl, rfl⟩))
          have hC := H5.out.2.1
          generalize w7 = W7 at *
          obtain ⟨r0, r1, r2, r3, r4, r5, r6, r7⟩ := blkc_words hC.dw
          refine bodyPost_ret (v := .tuple #[X.v, (.slice (some ⟨b1, o1, none⟩) n1 c1)]) (by simp [results, Tryd.results50, go_sem, cell_set_same, r0, r1, r2, r3, r4, r5, r6, r7]) rfl ?_
          have hD := hC.set8 X
          exact ⟨hD.but, X, _, k, r, b, rfl, hD.kx, hD.rs, H1.out.2.2.1.1, end_fr H1.out.2.2.2 (by simp) hN.out⟩
end Go.Proofs.YtfcnobcpnhfgmaaDoor
