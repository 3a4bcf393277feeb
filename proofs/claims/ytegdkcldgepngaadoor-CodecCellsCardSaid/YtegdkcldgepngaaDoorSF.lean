/- What holds does of a reading closure that ends or panics; bytes.Clone; codec.Take at any bytes. Conditions: the slice holds its bytes, a million at most. -/
import Derived.Test.YtegdkcldgepngaaDoorSE
import Derived.Lib.SliceRun
import Derived.Deep.RegionHeld3
namespace Go.Proofs.YtegdkcldgepngaaDoor
open Go.RowKit

set_option maxHeartbeats 1000000 in
theorem catch_other (older : List PanicEntry) (w : World) :
    CallsD Tryd.prog 76 #[] (.panicking ({ v := .iface 98 (.agg #[]), recovered := false } :: older)) w fun e u' w' =>
      e = .returned (.tuple #[]) ∧ u' = .panicking ({ v := .iface 98 (.agg #[]), recovered := true } :: older) ∧ Below w.heap.size w w' := by
  have h1 : ∀ w : World, (binOp BinOp.eql 20 (.iface 98 (.agg #[])) .nilIface).run Tryd.prog w = .ok (.bool false) w := fun _ => by kernel_rfl
  have h2 : ∀ w : World, (Instr.typeAssert (.iface 98 (.agg #[])) 20 98 true).run Tryd.prog w = .ok (.tuple #[.agg #[], .bool true]) w := fun _ => by kernel_rfl
  refine callsD_of_wpS Tryd.func76 rfl fun c₀ cs hu => ?_
  apply wpS_seq
  apply wpS_region
  simp [wpOpsS, go_sem, recoverD, hu, Tryd.ntmps76, Exit.thenS]
  refine wpS_of_wp ?_
  simp only [Array.replicate_succ, Array.replicate_zero, List.push_toArray, List.nil_append, List.cons_append, List.setIfInBounds_toArray, List.set_cons_succ, List.set_cons_zero]
  clear hu
  go_wp2
  cases c₀
  simp_all [bodyPostS, results, Tryd.results76]
  exact below_new w _

theorem catch_none (w : World) :
    CallsD Tryd.prog 76 #[] .returning w fun e u' w' => e = .returned (.tuple #[]) ∧ u' = .returning ∧ w' = w := by
  refine callsD_of_wpS Tryd.func76 rfl fun c₀ cs hu => ?_
  apply wpS_seq
  apply wpS_region
  simp [wpOpsS, go_sem, recoverD, hu, Tryd.ntmps76, Exit.thenS]
  refine wpS_of_wp ?_
  simp only [Array.replicate_succ, Array.replicate_zero, List.push_toArray, List.nil_append, List.cons_append, List.setIfInBounds_toArray, List.set_cons_succ, List.set_cons_zero]
  go_wp2
  cases c₀
  simp_all [bodyPostS, results, Tryd.results76]

set_option maxHeartbeats 1000000 in
theorem clone_nil (c : Nat) (w : World) : Calls Tryd.prog 57 #[.slice none 0 c] w fun e w' => ∃ v, e = .returned v ∧ Row w' w.heap.size v [] ∧ Below w.heap.size w w' := by
  have q29 : ∀ (w : World) (a : Option Addr) (n c n' c' : Nat), (binOp .eql 29 (.slice a n c) (.slice none n' c')).run Tryd.prog w = .ok (.bool a.isNone) w := fun w a n c n' c' => Lib.run_eql_slice_nil w _ _ a n c n' c' Tryd.underlying29
  go_enter Tryd.func57, Tryd.ntmps57
  go_wp2
  go_ret
  exact ⟨_, rfl, Row.none _ _, Below.refl _ _⟩

set_option maxHeartbeats 1000000 in
theorem clone_some (ad : Addr) (c : Nat) (l : List UInt8) (hl : l.length ≤ 1000000) (w : World) (hc : ∀ j u, (bc l)[j]? = some u → w.cell? (ad.add j) = some u) :
    Calls Tryd.prog 57 #[.slice (some ad) l.length c] w fun e w' => ∃ v, e = .returned v ∧ Row w' w.heap.size v l ∧ Below w.heap.size w w' := by
  have hR : Hid (Row (w.alloc (.cells #[] 5)) w.heap.size (.slice (some ⟨w.heap.size, 0, none⟩) 0 0) []) := Row.new w w.heap.size (Nat.le_refl _) [] (by unfold maxLen; simp)
  have HC : Hid (∀ (o : Obj) (j : Nat) (u : Value), (bc l)[j]? = some u → (w.alloc o).cell? (ad.add j) = some u) := fun _ j u hu => Lib.cell?_alloc_some _ (hc j u hu)
  have HL := hid hl
  clear hc hl
  have q29 : ∀ (w : World) (a : Option Addr) (n c n' c' : Nat), (binOp .eql 29 (.slice a n c) (.slice none n' c')).run Tryd.prog w = .ok (.bool a.isNone) w := fun w a n c n' c' => Lib.run_eql_slice_nil w _ _ a n c n' c' Tryd.underlying29
  go_enter Tryd.func57, Tryd.ntmps57
  go_wp2_with (at_builtin; refine wpList_append_bytes rfl (.tmp 5) (.tmp 6) rfl _ w.heap.size _ [] rfl hR.out ad l.length c l rfl rfl (HC.out _) (by have := HL.out; simp only [List.length_nil]; omega) (by simp) ?_; intro v' w' hR' hb')
  go_ret
  exact ⟨_, rfl, hR', ((Below.refl _ _).alloc (Nat.le_refl _) _).trans hb'⟩

/-- bytes.Clone of a slice that holds l. -/
theorem clone_any (A : Option Addr) (c : Nat) (l : List UInt8) (hl : l.length ≤ 1000000) (w : World) (h : HoldsA w A l) :
    Calls Tryd.prog 57 #[.slice A l.length c] w fun e w' => ∃ v, e = .returned v ∧ Row w' w.heap.size v l ∧ Below w.heap.size w w' := by
  match A, h with
  | none, h =>
    have h0 : l = [] := by
      cases l with
      | nil => rfl
      | cons x t => obtain ⟨b, off, e, _⟩ := h (by simp); cases e
    subst h0
    exact clone_nil c w
  | some ad, h =>
    refine clone_some ad c l hl w fun j u hu => ?_
    have hj : j < l.length := by
      rcases Nat.lt_or_ge j l.length with h1 | h1
      · exact h1
      · rw [bc_at, List.getElem?_eq_none h1] at hu; cases hu
    obtain ⟨b, off, e, hh⟩ := h (by omega)
    cases e
    have h3 := hh j hj
    rw [add_zero_off]
    rw [h3, ← hu, bc_at, List.getElem?_eq_getElem hj, List.getD_eq_getElem?_getD, List.getElem?_eq_getElem hj]
    rfl

/-- What Take's closure leaves. -/
def CEndO (w : World) (rb : Nat) : Option (Nat × List UInt8) → Ending → World → Prop
  | some p, e, w' => Below rb w w' ∧ e = .returned (.tuple #[]) ∧ St w' rb p.2 ∧ w'.cell? ⟨rb + 1, 0, none⟩ = some (.int .i64 (p.1 : Int))
  | none, e, w' => Below rb w w' ∧ e = otherP
set_option maxHeartbeats 1000000 in
theorem takeclo_any (rb : Nat) (l : List UInt8) (w : World) (h : St w rb l) (hn : w.cell? ⟨rb + 1, 0, none⟩ = some (.int .i64 0)) (hf : w.frozen? ⟨rb + 1, 0, none⟩ = false) :
    Calls Tryd.prog 55 #[.pointer (some ⟨rb, 0, none⟩), .pointer (some ⟨rb + 1, 0, none⟩)] w (CEndO w rb (tk l)) := by
  have HN := number_any rb l w h
  have hlt := h.2.2
  have hlt2 := cell_lt hn
  unfold NEnd at HN
  cases hk : tk l with
  | none =>
    rw [hk] at HN
    have HN := hid HN
    clear h hk
    go_enter Tryd.func55, Tryd.ntmps55
    go_wp2_with (go_at_call 56; refine HN.out.mono ?_; rintro e w1 ⟨hb, rfl⟩)
    refine ⟨rfl, ?_⟩
    exact ⟨(hb.mono (Nat.le_of_lt hlt)).below (Nat.le_refl _), rfl⟩
  | some p =>
    rw [hk] at HN
    obtain ⟨n, t⟩ := p
    obtain ⟨y, hy⟩ : ∃ y : Int, (n : Int) = y := ⟨_, rfl⟩
    have HN : Hid (Calls Tryd.prog 56 #[.pointer (some ⟨rb, 0, none⟩)] w fun e w' => But w.heap.size rb w w' ∧ e = .returned (.int .i64 y) ∧ St w' rb t) := by rw [← hy]; exact HN
    have HY := hid hy
    clear h hk hy
    go_enter Tryd.func55, Tryd.ntmps55
    go_wp2_with (go_at_call 56; refine HN.out.mono ?_; rintro e w1 ⟨hb, rfl, hS⟩; have hc1 := (hb.cell hlt2 (by omega) 0).trans hn; have hf1 := (hb.frozen hlt2 (by omega) 0).trans hf)
    go_end0
    refine ⟨((hb.mono (Nat.le_of_lt hlt)).below (Nat.le_refl _)).setCell (p := ⟨rb + 1, 0, none⟩) (by simp) _, rfl, ?_, ?_⟩
    · exact hS.keep ((Below.refl _ _).setCell (p := ⟨rb + 1, 0, none⟩) (by simp) _)
    · rw [HY.out]; exact World.cell?_setCell_same' _ _ _ (by rw [hc1]; rfl)

set_option maxHeartbeats 1000000 in
/-- holds over Take's closure: it ended. -/
theorem holds_yes (rb : Nat) (t : List UInt8) (n : Nat) (w : World) (H : Calls Tryd.prog 55 #[.pointer (some ⟨rb, 0, none⟩), .pointer (some ⟨rb + 1, 0, none⟩)] w (CEndO w rb (some (n, t)))) :
    Calls Tryd.prog 50 #[.func (.func 55) #[] #[.pointer (some ⟨rb, 0, none⟩), .pointer (some ⟨rb + 1, 0, none⟩)]] w fun e w' => e = .returned (.bool true) ∧ Below rb w w' ∧ St w' rb t ∧ w'.cell? ⟨rb + 1, 0, none⟩ = some (.int .i64 (n : Int)) := by
  have H := hid H
  go_enter_defers Tryd.func50, Tryd.ntmps50
  go_wp2_with (go_at_call 55; refine H.out.mono ?_; rintro e w1 ⟨hb, rfl, hS, hc⟩)
  refine leaves_cons (f := 76) (args := #[]) (by simp) (by simp [go_sem]) ?_
  refine (catch_none _).mono ?_
  rintro e u' w2 ⟨rfl, rfl, rfl⟩
  simp only [Leaves, settle, results, Tryd.results50, go_sem]
  simp
  exact ⟨hb, hS, hc⟩

set_option maxHeartbeats 1000000 in
/-- holds over Take's closure: it met something else. -/
theorem holds_no (rb : Nat) (w : World) (hlt : rb < w.heap.size) (H : Calls Tryd.prog 55 #[.pointer (some ⟨rb, 0, none⟩), .pointer (some ⟨rb + 1, 0, none⟩)] w (CEndO w rb none)) :
    Calls Tryd.prog 50 #[.func (.func 55) #[] #[.pointer (some ⟨rb, 0, none⟩), .pointer (some ⟨rb + 1, 0, none⟩)]] w fun e w' => e = .returned (.bool false) ∧ Below rb w w' := by
  have H := hid H
  go_enter_defers Tryd.func50, Tryd.ntmps50
  go_wp2_with (go_at_call 55; refine H.out.mono ?_; rintro e w1 ⟨hb, rfl⟩)
  refine leaves_cons (f := 76) (args := #[]) (by simp) (by simp [go_sem]) ?_
  refine (catch_other [] _).mono ?_
  rintro e u' w2 ⟨rfl, rfl, hb2⟩
  simp [Leaves, settle, results, Tryd.results50, go_sem]
  exact hb.trans (hb2.mono (Nat.le_trans (Nat.le_of_lt hlt) hb.size))

/-- What Take answers. -/
def TEndO (w : World) : Option (Nat × List UInt8) → Ending → World → Prop
  | some p, e, w' => ∃ v, e = .returned (.tuple #[.int .i64 (p.1 : Int), v, .bool true]) ∧ Row w' w.heap.size v p.2 ∧ Below w.heap.size w w'
  | none, e, w' => e = .returned (.tuple #[.int .i64 0, .slice none 0 0, .bool false]) ∧ Below w.heap.size w w'

/-- Where the reader and its number stand, in a world behind the beginning. -/
abbrev TkS (w : World) (n : Int) (A : Option Addr) (m c : Nat) (w' : World) : Prop :=
  Hid (Below w.heap.size w w' ∧ w.heap.size + 1 < w'.heap.size) ∧ w'.cell? ⟨w.heap.size + 1, 0, none⟩ = some (.int .i64 n) ∧ w'.cell? ⟨w.heap.size, 0, none⟩ = some (.slice A m c)
section
variable {w W W' : World} {n : Int} {A : Option Addr} {m c : Nat}
theorem tk_drew (h : TkS w n A m c W) : TkS w n A m c W.drew := ⟨hid ⟨h.1.out.1.drew, h.1.out.2⟩, h.2⟩
theorem tk_call (h : TkS w n A m c W) (hb : Below W.heap.size W W') : TkS w n A m c W' := by
  obtain ⟨hh, h1, h2⟩ := h
  have hz := hh.out.2
  exact ⟨hid ⟨hh.out.1.trans (hb.mono (by omega)), Nat.lt_of_lt_of_le hz hb.size⟩, (hb.cell (p := ⟨w.heap.size + 1, 0, none⟩) hz).trans h1, (hb.cell (p := ⟨w.heap.size, 0, none⟩) (show w.heap.size < W.heap.size by omega)).trans h2⟩
end
theorem two_cells (w : World) (x y : Value) (T U : TypeId) : let W := (w.alloc (.cells #[x] T)).alloc (.cells #[y] U)
    W.cell? ⟨w.heap.size, 0, none⟩ = some x ∧ W.cell? ⟨w.heap.size + 1, 0, none⟩ = some y ∧ W.frozen? ⟨w.heap.size, 0, none⟩ = false ∧ W.frozen? ⟨w.heap.size + 1, 0, none⟩ = false ∧ W.heap.size = w.heap.size + 2 ∧ Below w.heap.size w W := by
  have b1 : Blk (w.alloc (.cells #[x] T)) w.heap.size T #[x] := Blk.new w T #[x]
  have b2 : Blk ((w.alloc (.cells #[x] T)).alloc (.cells #[y] U)) (w.heap.size + 1) U #[y] := by have := Blk.new (w.alloc (.cells #[x] T)) U #[y]; simpa using this
  have b3 := b1.keep (below_new (w.alloc (.cells #[x] T)) (.cells #[y] U)) (by simp)
  exact ⟨b3.cell 0, b2.cell 0, b3.free 0, b2.free 0, by simp, (below_new w _).alloc (by simp) _⟩

set_option maxHeartbeats 1000000 in
theorem take_no (A : Option Addr) (m c : Nat) (w : World)
    (HH : Calls Tryd.prog 50 #[.func (.func 55) #[] #[.pointer (some ⟨w.heap.size, 0, none⟩), .pointer (some ⟨w.heap.size + 1, 0, none⟩)]] ((w.alloc (.cells #[.slice A m c] 77)).alloc (.cells #[.int .i64 0] 3)) fun e w' => e = .returned (.bool false) ∧ Below w.heap.size ((w.alloc (.cells #[.slice A m c] 77)).alloc (.cells #[.int .i64 0] 3)) w') :
    Calls Tryd.prog 23 #[.slice A m c] w (TEndO w none) := by
  have hmf : ∀ (fn : Fn) (first cap : Array Value) (w : World), (Instr.makeFunc fn first cap).run Tryd.prog w = .ok (.func fn first cap) w := fun _ _ _ _ => rfl
  have HH := hid HH
  go_enter Tryd.func23, Tryd.ntmps23
  go_wp2_with (go_at_call 50; refine HH.out.mono ?_; rintro e w1 ⟨rfl, hb⟩)
  go_wp2
  refine bodyPost_ret (results_tmp3 rfl _ _ _) rfl ?_
  exact ⟨rfl, ((below_new w _).alloc (by simp) _).trans hb⟩

set_option maxHeartbeats 1000000 in
theorem take_yes (A : Option Addr) (m c n : Nat) (t : List UInt8) (ht : t.length ≤ 1000000) (w : World)
    (HH : Calls Tryd.prog 50 #[.func (.func 55) #[] #[.pointer (some ⟨w.heap.size, 0, none⟩), .pointer (some ⟨w.heap.size + 1, 0, none⟩)]] ((w.alloc (.cells #[.slice A m c] 77)).alloc (.cells #[.int .i64 0] 3)) fun e w' => e = .returned (.bool true) ∧ Below w.heap.size ((w.alloc (.cells #[.slice A m c] 77)).alloc (.cells #[.int .i64 0] 3)) w' ∧ St w' w.heap.size t ∧ w'.cell? ⟨w.heap.size + 1, 0, none⟩ = some (.int .i64 (n : Int))) :
    Calls Tryd.prog 23 #[.slice A m c] w (TEndO w (some (n, t))) := by
  have hmf : ∀ (fn : Fn) (first cap : Array Value) (w : World), (Instr.makeFunc fn first cap).run Tryd.prog w = .ok (.func fn first cap) w := fun _ _ _ _ => rfl
  obtain ⟨y, hy⟩ : ∃ y : Int, (n : Int) = y := ⟨_, rfl⟩
  rw [hy] at HH
  unfold TEndO
  simp only [hy]
  have HH : Hid (Calls Tryd.prog 50 #[.func (.func 55) #[] #[.pointer (some ⟨w.heap.size, 0, none⟩), .pointer (some ⟨w.heap.size + 1, 0, none⟩)]] ((w.alloc (.cells #[.slice A m c] 77)).alloc (.cells #[.int .i64 0] 3)) fun e w' => e = .returned (.bool true) ∧ ∃ A' c', TkS w y A' t.length c' w' ∧ Hid (HoldsA w A' t)) := by
    refine HH.mono ?_
    rintro e w' ⟨he, hb, ⟨⟨v, h1, A', c', rfl, h2, h3, h4⟩, h5, h6⟩, h7⟩
    have hB := ((below_new w (.cells #[.slice A m c] 77)).alloc (by simp) (.cells #[.int .i64 0] 3)).trans hb
    refine ⟨he, A', c', ⟨⟨hB, cell_lt h7⟩, h7, h1⟩, fun hl => ?_⟩
    obtain ⟨b, off, e1, e2, e3⟩ := h4 hl
    exact ⟨b, off, e1, fun i hi => by rw [← hB.cell (p := ⟨b, off + i, none⟩) e2]; exact e3 i hi⟩
  have HC : Hid (∀ (A' : Option Addr) (c' : Nat) (W : World), HoldsA w A' t → Below w.heap.size w W → Calls Tryd.prog 57 #[.slice A' t.length c'] W fun e w' => ∃ v, e = .returned v ∧ Row w' W.heap.size v t ∧ Below W.heap.size W w') := by
    intro A' c' W h hb
    refine clone_any A' c' t ht W fun hl => ?_
    obtain ⟨b, off, e1, e3⟩ := h hl
    exact ⟨b, off, e1, e3.below hb (e3.lt hl)⟩
  clear hy ht
  go_enter Tryd.func23, Tryd.ntmps23
  go_wp2_with (go_at_call 50; refine HH.out.mono ?_; rintro e w1 ⟨rfl, A', c', hS, hA⟩)
  have HN := hid hS
  obtain ⟨_, p0, p1⟩ := hS
  go_region_held3 (fun w' => Hid (Below w.heap.size w w' ∧ w.heap.size + 1 < w'.heap.size) ∧ w'.cell? ⟨w.heap.size + 1, 0, none⟩ = some (.int .i64 y) ∧ w'.cell? ⟨w.heap.size, 0, none⟩ = some (.slice A' t.length c'))
    (first | exact HN.out | exact tk_drew HN.out | exact tk_call (by assumption) hbo | exact tk_drew (by assumption) | assumption)
    ((go_at_call 57; ((with_reducible refine (HC.out _ _ _ hA.out ?_).mono ?_); (first | exact HN.out.1.out.1 | exact HN.out.1.out.1.drew); rintro e w5 ⟨v, rfl, hR, hbo⟩)))
  rename_i hHeld
  go_wp2
  refine bodyPost_ret (results_tmp3 rfl _ _ _) rfl ?_
  exact ⟨_, rfl, hR.le HN.1.out.1.size, hHeld.1.out.1⟩

theorem take_any (A : Option Addr) (c : Nat) (l : List UInt8) (hl : l.length ≤ 1000000) (hc : l.length ≤ c) (hc2 : c ≤ 9223372036854775807) (w : World) (h : HoldsA w A l) :
    Calls Tryd.prog 23 #[.slice A l.length c] w (TEndO w (tk l)) := by
  obtain ⟨h1, h2, h3, h4, h5, h6⟩ := two_cells w (.slice A l.length c) (.int .i64 0) 77 3
  have hS : St ((w.alloc (.cells #[.slice A l.length c] 77)).alloc (.cells #[.int .i64 0] 3)) w.heap.size l := by
    refine ⟨⟨_, h1, A, c, rfl, hc, hc2, fun h0 => ?_⟩, h3, by rw [h5]; omega⟩
    obtain ⟨b, off, e1, e2⟩ := h h0
    exact ⟨b, off, e1, e2.lt h0, e2.below h6 (e2.lt h0)⟩
  have H := takeclo_any w.heap.size l _ hS h2 h4
  cases hk : tk l with
  | none =>
    rw [hk] at H
    exact take_no A l.length c w ((holds_no w.heap.size _ hS.2.2 H).mono fun e w' ⟨he, hb⟩ => ⟨he, hb⟩)
  | some p =>
    obtain ⟨n, t⟩ := p
    rw [hk] at H
    obtain ⟨k, _, _, _, ht, _⟩ := tkGo_rest _ _ _ _ _ hk
    exact take_yes A l.length c n t (by rw [ht, List.length_drop]; omega) w (holds_yes w.heap.size t n _ H)
end Go.Proofs.YtegdkcldgepngaaDoor
