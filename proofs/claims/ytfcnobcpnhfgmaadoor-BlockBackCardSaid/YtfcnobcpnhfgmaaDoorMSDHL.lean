/- Several texts in one: SD HG HH HI HJ HK KD CF CG CHa YIa HL. Conditions: as each theorem names them. -/
import Derived.Test.YtfcnobcpnhfgmaaDoorSC
import Derived.Defers
import Derived.Recover
import Derived.Test.YtfcnobcpnhfgmaaDoorHF
import Derived.Deep.RegionHeld3
import Derived.RegionTactic
import Derived.Deep.AppendSrc
import Derived.Test.YtfcnobcpnhfgmaaDoorVD
import Derived.Lib.BufferKept
import Derived.Test.YtfcnobcpnhfgmaaDoorCM
import Derived.Test.YtfcnobcpnhfgmaaDoorHFa
import Derived.Deep.QuietTactic
import Derived.BigQuiet
/- The reader of package codec: a byte, some bytes, a number; each ends in what it reads or in the panic that tells of something else. Conditions: the slice that is read holds its bytes. -/
namespace Go.Proofs.YtfcnobcpnhfgmaaDoor
open Go.RowKit

/-- The panic of a reader that meets something else. -/
abbrev otherP : Ending := .panicked [{ v := .iface 136 (.agg #[]), recovered := false }]

set_option maxHeartbeats 400000 in
theorem want_yes (rb : Nat) (w : World) : Calls Tryd.prog 117 #[.pointer (some ⟨rb, 0, none⟩), .bool true] w fun e w' => e = .returned (.tuple #[]) ∧ w = w' := by
  go_enter Tryd.func117, Tryd.ntmps117
  go_wp2
  go_end0
  exact ⟨rfl, rfl⟩

set_option maxHeartbeats 400000 in
theorem want_no (rb : Nat) (w : World) : Calls Tryd.prog 117 #[.pointer (some ⟨rb, 0, none⟩), .bool false] w fun e w' => e = otherP ∧ w = w' := by
  go_enter Tryd.func117, Tryd.ntmps117
  go_wp2
  refine ⟨rfl, ?_⟩
  exact ⟨rfl, rfl⟩

set_option maxHeartbeats 1000000 in
theorem some_in (rb b off m c k : Nat) (hk : k < c) (hm : k ≤ m) (_hmc : m ≤ c) (hc : c ≤ 9223372036854775807) (w : World) (h0 : w.cell? ⟨rb, 0, none⟩ = some (.slice (some ⟨b, off, none⟩) m c)) (hf : w.frozen? ⟨rb, 0, none⟩ = false) :
    Calls Tryd.prog 120 #[.pointer (some ⟨rb, 0, none⟩), .int .i64 k] w fun e w' => e = .returned (.slice (some ⟨b, off, none⟩) k c) ∧ w' = w.setCell ⟨rb, 0, none⟩ (.slice (some ⟨b, off + k, none⟩) (m - k) (c - k)) := by
  go_enter Tryd.func120, Tryd.ntmps120
  go_wp2_with (go_at_call 117; refine (want_yes _ _).mono ?_; rintro e w1 ⟨rfl, rfl⟩)
  go_ret
  exact ⟨rfl, rfl⟩

set_option maxHeartbeats 1000000 in
/-- All bytes up to the capacity: what is left is nothing, at the address where it was. -/
theorem some_all (rb b off k : Nat) (_hc : k ≤ 9223372036854775807) (w : World) (h0 : w.cell? ⟨rb, 0, none⟩ = some (.slice (some ⟨b, off, none⟩) k k)) (hf : w.frozen? ⟨rb, 0, none⟩ = false) :
    Calls Tryd.prog 120 #[.pointer (some ⟨rb, 0, none⟩), .int .i64 k] w fun e w' => e = .returned (.slice (some ⟨b, off, none⟩) k k) ∧ w' = w.setCell ⟨rb, 0, none⟩ (.slice (some ⟨b, off, none⟩) 0 0) := by
  go_enter Tryd.func120, Tryd.ntmps120
  go_wp2_with (go_at_call 117; refine (want_yes _ _).mono ?_; rintro e w1 ⟨rfl, rfl⟩)
  go_ret
  exact ⟨rfl, rfl⟩

set_option maxHeartbeats 1000000 in
theorem some_no (rb m c k : Nat) (A : Option Addr) (hk : m < k) (w : World) (h0 : w.cell? ⟨rb, 0, none⟩ = some (.slice A m c)) :
    Calls Tryd.prog 120 #[.pointer (some ⟨rb, 0, none⟩), .int .i64 k] w fun e w' => e = otherP ∧ w = w' := by
  have hk' : ¬ k ≤ m := by omega
  go_enter Tryd.func120, Tryd.ntmps120
  go_wp2_with (go_at_call 117; refine (want_no _ _).mono ?_; rintro e w1 ⟨rfl, rfl⟩)
  refine ⟨rfl, ?_⟩
  exact ⟨rfl, rfl⟩

/-- What is left of the slice behind k of its bytes. -/
def restV (b off m c k : Nat) : Value := if k < c then .slice (some ⟨b, off + k, none⟩) (m - k) (c - k) else .slice (some ⟨b, off, none⟩) 0 0

set_option maxHeartbeats 1000000 in
theorem one_yes (rb b off m c x : Nat) (hm : 1 ≤ m) (hmc : m ≤ c) (hc : c ≤ 9223372036854775807) (w : World) (h0 : w.cell? ⟨rb, 0, none⟩ = some (.slice (some ⟨b, off, none⟩) m c)) (hf : w.frozen? ⟨rb, 0, none⟩ = false) (hx : w.cell? ⟨b, off, none⟩ = some (.int .u8 (x : Int))) (hne : b ≠ rb) :
    Calls Tryd.prog 116 #[.pointer (some ⟨rb, 0, none⟩)] w fun e w' => e = .returned (.int .u8 (x : Int)) ∧ w' = w.setCell ⟨rb, 0, none⟩ (restV b off m c 1) := by
  have HS : Calls Tryd.prog 120 #[.pointer (some ⟨rb, 0, none⟩), .int .i64 1] w fun e w' => ∃ c', 1 ≤ c' ∧ e = .returned (.slice (some ⟨b, off, none⟩) 1 c') ∧ w' = w.setCell ⟨rb, 0, none⟩ (restV b off m c 1) := by
    by_cases h1 : 1 < c
    · refine (some_in rb b off m c 1 h1 hm hmc hc w h0 hf).mono fun e w' ⟨he, hw⟩ => ⟨c, by omega, he, ?_⟩
      unfold restV; rw [if_pos h1]; exact hw
    · obtain rfl : c = 1 := by omega
      obtain rfl : m = 1 := by omega
      refine (some_all rb b off 1 (by omega) w h0 hf).mono fun e w' ⟨he, hw⟩ => ⟨1, by omega, he, ?_⟩
      unfold restV; rw [if_neg h1]; exact hw
  have HX : (w.setCell ⟨rb, 0, none⟩ (restV b off m c 1)).cell? ⟨b, off, none⟩ = some (.int .u8 (x : Int)) := by
    rw [World.cell?_setCell_other _ _ _ _ (by intro e; exact hne (by simpa using (congrArg Addr.block e).symm))]; exact hx
  obtain ⟨W, hW⟩ : ∃ W, w.setCell ⟨rb, 0, none⟩ (restV b off m c 1) = W := ⟨_, rfl⟩
  rw [hW] at HS HX
  rw [hW]
  have HH := hid HS
  clear h0 hf hx hW HS
  go_enter Tryd.func116, Tryd.ntmps116
  go_wp2_with (go_at_call 120; refine HH.out.mono ?_; rintro e w1 ⟨c', hc', rfl, rfl⟩)
  go_ret
  exact ⟨rfl, rfl⟩

set_option maxHeartbeats 1000000 in
theorem one_no (rb c : Nat) (A : Option Addr) (w : World) (h0 : w.cell? ⟨rb, 0, none⟩ = some (.slice A 0 c)) :
    Calls Tryd.prog 116 #[.pointer (some ⟨rb, 0, none⟩)] w fun e w' => e = otherP ∧ w = w' := by
  go_enter Tryd.func116, Tryd.ntmps116
  go_wp2_with (go_at_call 120; refine (some_no rb 0 c 1 A (by decide) _ h0).mono ?_; rintro e w1 ⟨rfl, rfl⟩)
  refine ⟨rfl, ?_⟩
  exact ⟨rfl, rfl⟩

/-- What lay below B is as it was, but for block rb. -/
structure But (B rb : Nat) (w w' : World) : Prop where
  os : w'.os = w.os
  tape : w'.tape = w.tape
  output : w'.output = w.output
  size : w.heap.size ≤ w'.heap.size
  block : ∀ k, k < B → k ≠ rb → w'.heap[k]? = w.heap[k]?
section
variable {B rb : Nat} {w w1 w' : World}
theorem But.refl (B rb : Nat) (w : World) : But B rb w w := ⟨rfl, rfl, rfl, Nat.le_refl _, fun _ _ _ => rfl⟩
theorem But.trans (h : But B rb w w1) (k : But B rb w1 w') : But B rb w w' := ⟨k.os.trans h.os, k.tape.trans h.tape, k.output.trans h.output, Nat.le_trans h.size k.size, fun j hj hr => (k.block j hj hr).trans (h.block j hj hr)⟩
theorem But.mono {B' : Nat} (h : But B rb w w') (hb : B' ≤ B) : But B' rb w w' := ⟨h.os, h.tape, h.output, h.size, fun j hj => h.block j (Nat.lt_of_lt_of_le hj hb)⟩
theorem But.setCell (h : But B rb w w1) (o : Nat) (v : Value) : But B rb w (w1.setCell ⟨rb, o, none⟩ v) :=
  ⟨h.os, h.tape, h.output, by simpa using h.size, fun j hj hr => (Below.heap_setCell _ _ _ _ hr).trans (h.block j hj hr)⟩
theorem But.of_below (h : Below B w w') (rb : Nat) : But B rb w w' := ⟨h.os, h.tape, h.output, h.size, fun j hj _ => h.block j hj⟩
theorem But.below (h : But B rb w w') (hb : B ≤ rb) : Below B w w' := ⟨h.os, h.tape, h.output, h.size, fun j hj => h.block j hj (by omega)⟩
theorem But.cell (h : But B rb w w') {k : Nat} (hk : k < B) (hr : k ≠ rb) (o : Nat) : w'.cell? ⟨k, o, none⟩ = w.cell? ⟨k, o, none⟩ := World.cell?_of_block (w := w) (h.block k hk hr)
theorem But.frozen (h : But B rb w w') {k : Nat} (hk : k < B) (hr : k ≠ rb) (o : Nat) : w'.frozen? ⟨k, o, none⟩ = w.frozen? ⟨k, o, none⟩ := World.frozen?_of_block (w := w) (h.block k hk hr)
end

/-- A reader in block rb: the bytes l are left. -/
def Rd (w : World) (rb : Nat) (v : Value) (l : List UInt8) : Prop :=
  ∃ A c, v = .slice A l.length c ∧ l.length ≤ c ∧ c ≤ 9223372036854775807 ∧ (0 < l.length → ∃ b off, A = some ⟨b, off, none⟩ ∧ b < rb ∧ Holds w b off l)
def St (w : World) (rb : Nat) (l : List UInt8) : Prop := (∃ v, w.cell? ⟨rb, 0, none⟩ = some v ∧ Rd w rb v l) ∧ w.frozen? ⟨rb, 0, none⟩ = false ∧ rb < w.heap.size
theorem Rd.below {w w' : World} {rb : Nat} {v : Value} {l : List UInt8} (h : Rd w rb v l) (hb : Below rb w w') : Rd w' rb v l := by
  obtain ⟨A, c, h1, h2, h3, h4⟩ := h
  refine ⟨A, c, h1, h2, h3, fun hl => ?_⟩
  obtain ⟨b, off, h5, h6, h8⟩ := h4 hl
  exact ⟨b, off, h5, h6, h8.below hb h6⟩
theorem But.low {rb : Nat} {w w' : World} (h : But w.heap.size rb w w') (hlt : rb < w.heap.size) : Below rb w w' := (h.mono (Nat.le_of_lt hlt)).below (Nat.le_refl _)
/-- What leaves the reader's block alone, and all below it, leaves the reader as it was. -/
theorem St.keep {w w' : World} {rb : Nat} {l : List UInt8} (h : St w rb l) (hb : Below (rb + 1) w w') : St w' rb l := by
  obtain ⟨⟨v, h1, h2⟩, h3, h4⟩ := h
  exact ⟨⟨v, (hb.cell (p := ⟨rb, 0, none⟩) (by simp)).trans h1, h2.below (hb.mono (by omega))⟩, (hb.frozen (p := ⟨rb, 0, none⟩) (by simp)).trans h3, Nat.lt_of_lt_of_le h4 hb.size⟩
theorem cell_set_rb {w : World} {rb : Nat} {v0 : Value} (h : w.cell? ⟨rb, 0, none⟩ = some v0) (v : Value) : (w.setCell ⟨rb, 0, none⟩ v).cell? ⟨rb, 0, none⟩ = some v :=
  World.cell?_setCell_same' _ _ _ (by rw [h]; rfl)
theorem rd_rest {w : World} {rb b off c k : Nat} {l : List UInt8} (hk : k ≤ l.length) (hc : l.length ≤ c) (hc2 : c ≤ 9223372036854775807) (hb : b < rb) (hh : Holds w b off l) : Rd w rb (restV b off l.length c k) (l.drop k) := by
  unfold restV
  by_cases h1 : k < c
  · rw [if_pos h1]
    exact ⟨_, c - k, by rw [List.length_drop], by rw [List.length_drop]; omega, by omega, fun _ => ⟨b, off + k, rfl, hb, hh.drop k⟩⟩
  · rw [if_neg h1]
    have : l.drop k = [] := List.drop_eq_nil_of_le (by omega)
    rw [this]
    exact ⟨_, 0, rfl, by simp, by omega, fun h => absurd h (by simp)⟩

def OneEnd (w : World) (rb : Nat) : List UInt8 → Ending → World → Prop
  | [], e, w' => But w.heap.size rb w w' ∧ e = otherP
  | x :: t, e, w' => But w.heap.size rb w w' ∧ e = .returned (.int .u8 (x.toNat : Int)) ∧ St w' rb t
theorem one_any (rb : Nat) (l : List UInt8) (w : World) (h : St w rb l) :
    Calls Tryd.prog 116 #[.pointer (some ⟨rb, 0, none⟩)] w (OneEnd w rb l) := by
  obtain ⟨⟨v, h0, A, c, rfl, h2, h3, h4⟩, hf, hlt⟩ := h
  match l, h2, h4, h0 with
  | [], h2, h4, h0 =>
    exact (one_no rb c A w h0).mono fun e w' ⟨he, hw⟩ => ⟨by subst hw; exact But.refl _ _ _, he⟩
  | x :: t, h2, h4, h0 =>
    obtain ⟨b, off, rfl, hb, hh⟩ := h4 (by simp)
    have hx := hh 0 (by simp)
    refine (one_yes rb b off (x :: t).length c x.toNat (by simp) h2 h3 w h0 hf (by simpa using hx) (by omega)).mono fun e w' ⟨he, hw⟩ => ?_
    have hB : But w.heap.size rb w w' := by rw [hw]; exact (But.refl _ _ _).setCell _ _
    refine ⟨hB, he, ⟨_, by rw [hw]; exact cell_set_rb h0 _, ?_⟩, ?_, ?_⟩
    · have := rd_rest (w := w) (rb := rb) (k := 1) (l := x :: t) (by simp) h2 h3 hb hh
      exact this.below (hB.low hlt)
    · rw [hw, World.frozen?_setCell]; exact hf
    · exact Nat.lt_of_lt_of_le hlt hB.size
end Go.Proofs.YtfcnobcpnhfgmaaDoor

/- What package cell's sight does with a cell: has, move, lets, and the rules' right and lives. Conditions: the sight stands in a block of its own. -/
namespace Go.Proofs.YtfcnobcpnhfgmaaDoor
open Go.RowKit

/-- A sight. -/
structure SG where
  at' : CT
  fam : Int
  col : Bool
  cell : Int
  seen : Int
/-- Its twelve words. -/
def SG.a (g : SG) : Array Value := #[.string g.at'.r, .string g.at'.f, .string g.at'.q, .int .i64 g.at'.t, .int .i64 g.at'.k, .int .i64 g.at'.vk, .int .i64 g.at'.vn, .string g.at'.s, .int .i64 g.fam, .bool g.col, .int .i64 g.cell, .int .i64 g.seen]
def SG.zero : SG := ⟨default, 0, false, 0, 0⟩
/-- What was told of another family, or another column, is forgotten. -/
def SG.move (g : SG) (c : CT) : SG :=
  if c.r ≠ g.at'.r ∨ c.f ≠ g.at'.f then ⟨c, -1, false, -1, 0⟩ else if c.q ≠ g.at'.q then ⟨c, g.fam, false, -1, 0⟩ else ⟨c, g.fam, g.col, g.cell, g.seen⟩
def SG.has (g : SG) (t : Int) : Bool := !g.col && (decide (g.fam < t) && decide (t ≠ g.cell))
def livesM (life now t : Int) : Bool := decide (life = 0) || decide (now < IntKind.i64.wrap (t + life))
def rightM (ver life : Int) : Bool := decide (1 ≤ ver) && (decide (ver ≤ 8) && decide (0 ≤ life))
/-- The next cell: is it a put that is to be seen? -/
def SG.lets (g0 : SG) (c : CT) (ver life now : Int) : SG × Bool :=
  let g := g0.move c
  if c.k = 4 then (⟨g.at', max g.fam c.t, g.col, g.cell, g.seen⟩, false)
  else if c.k = 3 then (⟨g.at', g.fam, true, g.cell, g.seen⟩, false)
  else if c.k = 2 then (⟨g.at', g.fam, g.col, c.t, g.seen⟩, false)
  else if c.k = 1 ∧ g.has c.t = true ∧ livesM life now c.t = true ∧ g.seen < ver then (⟨g.at', g.fam, g.col, g.cell, IntKind.i64.wrap (g.seen + 1)⟩, true)
  else (g, false)

set_option maxHeartbeats 1000000 in
theorem has_any (g : SG) (t : Int) (sb : Nat) (w : World) (h : Blk w sb 150 g.a) :
    Calls Tryd.prog 148 #[.pointer (some ⟨sb, 0, none⟩), .int .i64 t] w fun e w' => e = .returned (.bool (g.has t)) ∧ w' = w := by
  have c8 : w.cell? ⟨sb, 8, none⟩ = some (.int .i64 g.fam) := h.cell 8
  have c9 : w.cell? ⟨sb, 9, none⟩ = some (.bool g.col) := h.cell 9
  have c10 : w.cell? ⟨sb, 10, none⟩ = some (.int .i64 g.cell) := h.cell 10
  unfold SG.has
  obtain ⟨at', fam, col, cell, seen⟩ := g
  clear h
  simp only at c8 c9 c10 ⊢
  cases col with
  | true =>
    go_enter Tryd.func148, Tryd.ntmps148
    go_wp2
    go_ret
    exact ⟨rfl, rfl⟩
  | false =>
    by_cases h1 : fam < t
    · have hd : decide (fam < t) = true := decide_eq_true h1
      by_cases h2 : t = cell
      · have q2 : (t != cell) = false := by simpa using h2
        have hd2 : decide (t ≠ cell) = false := decide_eq_false (by simpa using h2)
        rw [hd2]
        subst h2
        go_enter Tryd.func148, Tryd.ntmps148
        go_wp2
        go_ret
        exact ⟨by simp, rfl⟩
      · have q2 : (t != cell) = true := by simpa using h2
        have hd2 : decide (t ≠ cell) = true := decide_eq_true h2
        rw [hd2, hd]
        clear h2 hd2
        go_enter Tryd.func148, Tryd.ntmps148
        go_wp2
        go_ret
        exact ⟨rfl, rfl⟩
    · have hd : decide (fam < t) = false := decide_eq_false h1
      rw [hd]
      go_enter Tryd.func148, Tryd.ntmps148
      go_wp2
      go_ret
      exact ⟨rfl, rfl⟩

set_option maxHeartbeats 1000000 in
theorem lives_any (ver life now t : Int) (w : World) :
    Calls Tryd.prog 149 #[.agg #[.int .i64 ver, .int .i64 life, .int .i64 now], .int .i64 t] w fun e w' => e = .returned (.bool (livesM life now t)) ∧ Below w.heap.size w w' := by
  unfold livesM
  by_cases h1 : life = 0
  · subst h1
    go_enter Tryd.func149, Tryd.ntmps149
    go_wp2
    go_ret
    exact ⟨rfl, below_new _ _⟩
  · have q1 : (life == 0) = false := by simpa using h1
    have hd : decide (life = 0) = false := decide_eq_false h1
    rw [hd]
    clear h1 hd
    obtain ⟨x, hx⟩ : ∃ x, IntKind.i64.wrap (t + life) = x := ⟨_, rfl⟩
    rw [hx]
    by_cases h2 : now < x
    · have hd : decide (now < x) = true := decide_eq_true h2
      rw [hd]
      go_enter Tryd.func149, Tryd.ntmps149
      go_wp2
      go_ret
      exact ⟨by simp, below_new _ _⟩
    · have hd : decide (now < x) = false := decide_eq_false h2
      rw [hd]
      go_enter Tryd.func149, Tryd.ntmps149
      go_wp2
      go_ret
      exact ⟨by simp, below_new _ _⟩

set_option maxHeartbeats 1000000 in
theorem cright_rules (ver life now : Int) (w : World) :
    Calls Tryd.prog 127 #[.agg #[.int .i64 ver, .int .i64 life, .int .i64 now]] w fun e w' => e = .returned (.bool (rightM ver life)) ∧ Below w.heap.size w w' := by
  unfold rightM
  by_cases h1 : 1 ≤ ver
  · by_cases h2 : ver ≤ 8
    · by_cases h3 : 0 ≤ life
      · rw [decide_eq_true h1, decide_eq_true h2, decide_eq_true h3]
        go_enter Tryd.func127, Tryd.ntmps127
        go_wp2
        go_ret
        exact ⟨rfl, below_new _ _⟩
      · rw [decide_eq_true h1, decide_eq_true h2, decide_eq_false h3]
        go_enter Tryd.func127, Tryd.ntmps127
        go_wp2
        go_ret
        exact ⟨rfl, below_new _ _⟩
    · rw [decide_eq_true h1, decide_eq_false h2]
      go_enter Tryd.func127, Tryd.ntmps127
      go_wp2
      go_ret
      exact ⟨rfl, below_new _ _⟩
  · rw [decide_eq_false h1]
    go_enter Tryd.func127, Tryd.ntmps127
    go_wp2
    go_ret
    exact ⟨rfl, below_new _ _⟩
end Go.Proofs.YtfcnobcpnhfgmaaDoor

/- What package cell's sight does with a cell: move. Conditions: the sight stands in a block of its own. -/
namespace Go.Proofs.YtfcnobcpnhfgmaaDoor
open Go.RowKit

theorem ba_ne {x y : ByteArray} (h : x ≠ y) : (x.toList == y.toList) = false := by
  rw [Bool.eq_false_iff]
  intro e
  have e := eq_of_beq e
  apply h
  apply ByteArray.ext
  rw [ByteArray.toList_eq, ByteArray.toList_eq] at e
  exact Array.toList_inj.1 e

/-- Where a sight stands. -/
structure MS (w : World) (sb : Nat) (W : World) (xs : Array Value) : Prop where
  b : Blk W sb 150 xs
  o : But w.heap.size sb w W
theorem MS.set {w W : World} {sb : Nat} {xs : Array Value} (h : MS w sb W xs) (j : Nat) (v : Value) : MS w sb (W.setCell ⟨sb, j, none⟩ v) (xs.setIfInBounds j v) := ⟨h.b.set j v, h.o.setCell j v⟩
theorem MS.drewN {w W : World} {sb : Nat} {xs : Array Value} (h : MS w sb W xs) (n : Nat) : MS w sb (W.drewN n) xs := ⟨h.b, h.o.trans (But.of_below (below_drewN (Below.refl _ _) n) sb)⟩
theorem MS.below {w W W' : World} {sb : Nat} {xs : Array Value} (h : MS w sb W xs) (hb : Below W.heap.size W W') : MS w sb W' xs := ⟨h.b.keep hb h.b.lt, h.o.trans (But.of_below (hb.mono h.o.size) sb)⟩
theorem MS.sets12 {w W : World} {sb : Nat} {x0 x1 x2 x3 x4 x5 x6 x7 x8 x9 x10 x11 : Value} (h : MS w sb W #[x0, x1, x2, x3, x4, x5, x6, x7, x8, x9, x10, x11]) (v0 v1 v2 v3 v4 v5 v6 v7 v8 v9 v10 v11 : Value) : MS w sb ((((((((((((W.setCell ⟨sb, 0, none⟩ v0).setCell ⟨sb, 1, none⟩ v1).setCell ⟨sb, 2, none⟩ v2).setCell ⟨sb, 3, none⟩ v3).setCell ⟨sb, 4, none⟩ v4).setCell ⟨sb, 5, none⟩ v5).setCell ⟨sb, 6, none⟩ v6).setCell ⟨sb, 7, none⟩ v7).setCell ⟨sb, 8, none⟩ v8).setCell ⟨sb, 9, none⟩ v9).setCell ⟨sb, 10, none⟩ v10).setCell ⟨sb, 11, none⟩ v11) #[v0, v1, v2, v3, v4, v5, v6, v7, v8, v9, v10, v11] := by
  have m0 : MS w sb _ #[v0, x1, x2, x3, x4, x5, x6, x7, x8, x9, x10, x11] := h.set 0 v0
  have m1 : MS w sb _ #[v0, v1, x2, x3, x4, x5, x6, x7, x8, x9, x10, x11] := m0.set 1 v1
  have m2 : MS w sb _ #[v0, v1, v2, x3, x4, x5, x6, x7, x8, x9, x10, x11] := m1.set 2 v2
  have m3 : MS w sb _ #[v0, v1, v2, v3, x4, x5, x6, x7, x8, x9, x10, x11] := m2.set 3 v3
  have m4 : MS w sb _ #[v0, v1, v2, v3, v4, x5, x6, x7, x8, x9, x10, x11] := m3.set 4 v4
  have m5 : MS w sb _ #[v0, v1, v2, v3, v4, v5, x6, x7, x8, x9, x10, x11] := m4.set 5 v5
  have m6 : MS w sb _ #[v0, v1, v2, v3, v4, v5, v6, x7, x8, x9, x10, x11] := m5.set 6 v6
  have m7 : MS w sb _ #[v0, v1, v2, v3, v4, v5, v6, v7, x8, x9, x10, x11] := m6.set 7 v7
  have m8 : MS w sb _ #[v0, v1, v2, v3, v4, v5, v6, v7, v8, x9, x10, x11] := m7.set 8 v8
  have m9 : MS w sb _ #[v0, v1, v2, v3, v4, v5, v6, v7, v8, v9, x10, x11] := m8.set 9 v9
  have m10 : MS w sb _ #[v0, v1, v2, v3, v4, v5, v6, v7, v8, v9, v10, x11] := m9.set 10 v10
  have m11 : MS w sb _ #[v0, v1, v2, v3, v4, v5, v6, v7, v8, v9, v10, v11] := m10.set 11 v11
  exact m11
theorem MS.sets8 {w W : World} {sb : Nat} {x0 x1 x2 x3 x4 x5 x6 x7 x8 x9 x10 x11 : Value} (h : MS w sb W #[x0, x1, x2, x3, x4, x5, x6, x7, x8, x9, x10, x11]) (v0 v1 v2 v3 v4 v5 v6 v7 : Value) : MS w sb ((((((((W.setCell ⟨sb, 0, none⟩ v0).setCell ⟨sb, 1, none⟩ v1).setCell ⟨sb, 2, none⟩ v2).setCell ⟨sb, 3, none⟩ v3).setCell ⟨sb, 4, none⟩ v4).setCell ⟨sb, 5, none⟩ v5).setCell ⟨sb, 6, none⟩ v6).setCell ⟨sb, 7, none⟩ v7) #[v0, v1, v2, v3, v4, v5, v6, v7, x8, x9, x10, x11] := by
  have m0 : MS w sb _ #[v0, x1, x2, x3, x4, x5, x6, x7, x8, x9, x10, x11] := h.set 0 v0
  have m1 : MS w sb _ #[v0, v1, x2, x3, x4, x5, x6, x7, x8, x9, x10, x11] := m0.set 1 v1
  have m2 : MS w sb _ #[v0, v1, v2, x3, x4, x5, x6, x7, x8, x9, x10, x11] := m1.set 2 v2
  have m3 : MS w sb _ #[v0, v1, v2, v3, x4, x5, x6, x7, x8, x9, x10, x11] := m2.set 3 v3
  have m4 : MS w sb _ #[v0, v1, v2, v3, v4, x5, x6, x7, x8, x9, x10, x11] := m3.set 4 v4
  have m5 : MS w sb _ #[v0, v1, v2, v3, v4, v5, x6, x7, x8, x9, x10, x11] := m4.set 5 v5
  have m6 : MS w sb _ #[v0, v1, v2, v3, v4, v5, v6, x7, x8, x9, x10, x11] := m5.set 6 v6
  have m7 : MS w sb _ #[v0, v1, v2, v3, v4, v5, v6, v7, x8, x9, x10, x11] := m6.set 7 v7
  exact m7
theorem MS.sets3 {w W : World} {sb : Nat} {x0 x1 x2 x3 x4 x5 x6 x7 x8 x9 x10 x11 : Value} (h : MS w sb W #[x0, x1, x2, x3, x4, x5, x6, x7, x8, x9, x10, x11]) (v9 v10 v11 : Value) : MS w sb (((W.setCell ⟨sb, 9, none⟩ v9).setCell ⟨sb, 10, none⟩ v10).setCell ⟨sb, 11, none⟩ v11) #[x0, x1, x2, x3, x4, x5, x6, x7, x8, v9, v10, v11] := by
  have m0 : MS w sb _ #[x0, x1, x2, x3, x4, x5, x6, x7, x8, v9, x10, x11] := h.set 9 v9
  have m1 : MS w sb _ #[x0, x1, x2, x3, x4, x5, x6, x7, x8, v9, v10, x11] := m0.set 10 v10
  have m2 : MS w sb _ #[x0, x1, x2, x3, x4, x5, x6, x7, x8, v9, v10, v11] := m1.set 11 v11
  exact m2
theorem MS.start {w : World} {sb : Nat} {xs : Array Value} (h : Blk w sb 150 xs) : MS w sb w xs := ⟨h, But.refl _ _ _⟩

set_option maxHeartbeats 4000000 in
set_option maxRecDepth 100000 in
theorem move_any (g : SG) (c : CT) (sb : Nat) (w : World) (h : Blk w sb 150 g.a) :
    Calls Tryd.prog 147 #[.pointer (some ⟨sb, 0, none⟩), c.v] w fun e w' => e = .returned (.tuple #[]) ∧ Blk w' sb 150 (g.move c).a ∧ But w.heap.size sb w w' := by
  have mixed : Tryd.prog.follows .mixedOrders = true := by kernel_rfl
  have a0 : w.cell? ⟨sb, 0, none⟩ = some (.string g.at'.r) := h.cell 0; have a1 : w.cell? ⟨sb, 1, none⟩ = some (.string g.at'.f) := h.cell 1; have a2 : w.cell? ⟨sb, 2, none⟩ = some (.string g.at'.q) := h.cell 2; have a3 : w.cell? ⟨sb, 3, none⟩ = some (.int .i64 g.at'.t) := h.cell 3; have a4 : w.cell? ⟨sb, 4, none⟩ = some (.int .i64 g.at'.k) := h.cell 4; have a5 : w.cell? ⟨sb, 5, none⟩ = some (.int .i64 g.at'.vk) := h.cell 5; have a6 : w.cell? ⟨sb, 6, none⟩ = some (.int .i64 g.at'.vn) := h.cell 6; have a7 : w.cell? ⟨sb, 7, none⟩ = some (.string g.at'.s) := h.cell 7; have a8 : w.cell? ⟨sb, 8, none⟩ = some (.int .i64 g.fam) := h.cell 8; have a9 : w.cell? ⟨sb, 9, none⟩ = some (.bool g.col) := h.cell 9; have a10 : w.cell? ⟨sb, 10, none⟩ = some (.int .i64 g.cell) := h.cell 10; have a11 : w.cell? ⟨sb, 11, none⟩ = some (.int .i64 g.seen) := h.cell 11
  have hf : ∀ j, w.frozen? ⟨sb, j, none⟩ = false := fun j => h.free j
  have hlt : sb < w.heap.size := h.lt
  have HB := hid h
  clear h
  unfold SG.move
  by_cases h1 : c.r ≠ g.at'.r ∨ c.f ≠ g.at'.f
  · rw [if_pos h1]
    by_cases h2 : c.r = g.at'.r
    · have h3 : c.f ≠ g.at'.f := by
        rcases h1 with h | h
        · exact absurd h2 h
        · exact h
      have q1 : (c.r.toList == g.at'.r.toList) = true := by rw [h2]; simp
      have q2 : (c.f.toList == g.at'.f.toList) = false := ba_ne h3
      clear h1 h2 h3
      go_enter Tryd.func147, Tryd.ntmps147
      go_upto_region 1 with (fail)
      go_quiet (fail)
      go_wp2
      go_end0
      have m0 : MS w sb ((w.alloc (.cells #[.string c.r, .string c.f, .string c.q, .int .i64 c.t, .int .i64 c.k, .int .i64 c.vk, .int .i64 c.vn, .string c.s] 40)).drewN nq) #[.string g.at'.r, .string g.at'.f, .string g.at'.q, .int .i64 g.at'.t, .int .i64 g.at'.k, .int .i64 g.at'.vk, .int .i64 g.at'.vn, .string g.at'.s, .int .i64 g.fam, .bool g.col, .int .i64 g.cell, .int .i64 g.seen] := ((MS.start HB.out).below (below_new _ _)).drewN _
      have m2 := MS.sets8 (MS.sets12 m0 (.string ⟨#[]⟩) (.string ⟨#[]⟩) (.string ⟨#[]⟩) (.int .i64 0) (.int .i64 0) (.int .i64 0) (.int .i64 0) (.string ⟨#[]⟩) (.int .i64 (-1)) (.bool false) (.int .i64 (-1)) (.int .i64 0)) (.string c.r) (.string c.f) (.string c.q) (.int .i64 c.t) (.int .i64 c.k) (.int .i64 c.vk) (.int .i64 c.vn) (.string c.s)
      exact ⟨rfl, m2.b, m2.o⟩
    · have q1 : (c.r.toList == g.at'.r.toList) = false := ba_ne h2
      clear h1 h2
      go_enter Tryd.func147, Tryd.ntmps147
      go_upto_region 1 with (fail)
      go_quiet (fail)
      go_wp2
      go_end0
      have m0 : MS w sb ((w.alloc (.cells #[.string c.r, .string c.f, .string c.q, .int .i64 c.t, .int .i64 c.k, .int .i64 c.vk, .int .i64 c.vn, .string c.s] 40)).drewN nq) #[.string g.at'.r, .string g.at'.f, .string g.at'.q, .int .i64 g.at'.t, .int .i64 g.at'.k, .int .i64 g.at'.vk, .int .i64 g.at'.vn, .string g.at'.s, .int .i64 g.fam, .bool g.col, .int .i64 g.cell, .int .i64 g.seen] := ((MS.start HB.out).below (below_new _ _)).drewN _
      have m2 := MS.sets8 (MS.sets12 m0 (.string ⟨#[]⟩) (.string ⟨#[]⟩) (.string ⟨#[]⟩) (.int .i64 0) (.int .i64 0) (.int .i64 0) (.int .i64 0) (.string ⟨#[]⟩) (.int .i64 (-1)) (.bool false) (.int .i64 (-1)) (.int .i64 0)) (.string c.r) (.string c.f) (.string c.q) (.int .i64 c.t) (.int .i64 c.k) (.int .i64 c.vk) (.int .i64 c.vn) (.string c.s)
      exact ⟨rfl, m2.b, m2.o⟩
  · rw [if_neg h1]
    have e1 : c.r = g.at'.r := by
      false_or_by_contra
      rename_i h
      exact h1 (.inl h)
    have e2 : c.f = g.at'.f := by
      false_or_by_contra
      rename_i h
      exact h1 (.inr h)
    have q1 : (c.r.toList == g.at'.r.toList) = true := by rw [e1]; simp
    have q2 : (c.f.toList == g.at'.f.toList) = true := by rw [e2]; simp
    clear h1 e1 e2
    by_cases h3 : c.q = g.at'.q
    · have q3 : (c.q.toList == g.at'.q.toList) = true := by rw [h3]; simp
      rw [if_neg (by simpa using h3)]
      clear h3
      go_enter Tryd.func147, Tryd.ntmps147
      go_upto_region 1 with (fail)
      go_quiet (fail)
      go_upto_region 3 with (fail)
      obtain ⟨bb, hbb⟩ : ∃ bb, w.heap.size = bb := ⟨_, rfl⟩
      refine wp_ltc (fun W => Hid (MS w sb W g.a) ∧ W.cell? ⟨bb, 0, none⟩ = some (.string c.r) ∧ W.cell? ⟨bb, 1, none⟩ = some (.string c.f) ∧ W.cell? ⟨bb, 2, none⟩ = some (.string c.q) ∧ W.cell? ⟨bb, 3, none⟩ = some (.int .i64 c.t) ∧ W.cell? ⟨bb, 4, none⟩ = some (.int .i64 c.k) ∧ W.cell? ⟨bb, 5, none⟩ = some (.int .i64 c.vk) ∧ W.cell? ⟨bb, 6, none⟩ = some (.int .i64 c.vn) ∧ W.cell? ⟨bb, 7, none⟩ = some (.string c.s)) (by rw [← hbb]; exact ⟨((MS.start HB.out).below (below_new _ _)).drewN _, blk_words (show Blk _ _ _ c.e.toArray from Blk.new w 40 c.e.toArray)⟩) (fun W hW => ?_)
      rw [hbb]
      obtain ⟨HW, b0, b1, b2, b3, b4, b5, b6, b7⟩ := hW
      clear a0 a1 a2 a3 a4 a5 a6 a7 a8 a9 a10 a11 hf
      have a2 : W.cell? ⟨sb, 2, none⟩ = some (.string g.at'.q) := HW.out.b.cell 2
      have a0 : W.cell? ⟨sb, 0, none⟩ = some (.string g.at'.r) := HW.out.b.cell 0; have a1 : W.cell? ⟨sb, 1, none⟩ = some (.string g.at'.f) := HW.out.b.cell 1; have a3 : W.cell? ⟨sb, 3, none⟩ = some (.int .i64 g.at'.t) := HW.out.b.cell 3; have a4 : W.cell? ⟨sb, 4, none⟩ = some (.int .i64 g.at'.k) := HW.out.b.cell 4; have a5 : W.cell? ⟨sb, 5, none⟩ = some (.int .i64 g.at'.vk) := HW.out.b.cell 5; have a6 : W.cell? ⟨sb, 6, none⟩ = some (.int .i64 g.at'.vn) := HW.out.b.cell 6; have a7 : W.cell? ⟨sb, 7, none⟩ = some (.string g.at'.s) := HW.out.b.cell 7; have a8 : W.cell? ⟨sb, 8, none⟩ = some (.int .i64 g.fam) := HW.out.b.cell 8; have a9 : W.cell? ⟨sb, 9, none⟩ = some (.bool g.col) := HW.out.b.cell 9; have a10 : W.cell? ⟨sb, 10, none⟩ = some (.int .i64 g.cell) := HW.out.b.cell 10; have a11 : W.cell? ⟨sb, 11, none⟩ = some (.int .i64 g.seen) := HW.out.b.cell 11
      have hf : ∀ j, W.frozen? ⟨sb, j, none⟩ = false := fun j => HW.out.b.free j
      go_quiet (fail)
      go_wp2
      go_end0
      have m0 : MS w sb (W.drewN nq) #[.string g.at'.r, .string g.at'.f, .string g.at'.q, .int .i64 g.at'.t, .int .i64 g.at'.k, .int .i64 g.at'.vk, .int .i64 g.at'.vn, .string g.at'.s, .int .i64 g.fam, .bool g.col, .int .i64 g.cell, .int .i64 g.seen] := HW.out.drewN _
      have m2 := MS.sets8 m0 (.string c.r) (.string c.f) (.string c.q) (.int .i64 c.t) (.int .i64 c.k) (.int .i64 c.vk) (.int .i64 c.vn) (.string c.s)
      exact ⟨rfl, m2.b, m2.o⟩
    · have q3 : (c.q.toList == g.at'.q.toList) = false := ba_ne h3
      rw [if_pos h3]
      clear h3
      go_enter Tryd.func147, Tryd.ntmps147
      go_upto_region 1 with (fail)
      go_quiet (fail)
      go_upto_region 3 with (fail)
      obtain ⟨bb, hbb⟩ : ∃ bb, w.heap.size = bb := ⟨_, rfl⟩
      refine wp_ltc (fun W => Hid (MS w sb W g.a) ∧ W.cell? ⟨bb, 0, none⟩ = some (.string c.r) ∧ W.cell? ⟨bb, 1, none⟩ = some (.string c.f) ∧ W.cell? ⟨bb, 2, none⟩ = some (.string c.q) ∧ W.cell? ⟨bb, 3, none⟩ = some (.int .i64 c.t) ∧ W.cell? ⟨bb, 4, none⟩ = some (.int .i64 c.k) ∧ W.cell? ⟨bb, 5, none⟩ = some (.int .i64 c.vk) ∧ W.cell? ⟨bb, 6, none⟩ = some (.int .i64 c.vn) ∧ W.cell? ⟨bb, 7, none⟩ = some (.string c.s)) (by rw [← hbb]; exact ⟨((MS.start HB.out).below (below_new _ _)).drewN _, blk_words (show Blk _ _ _ c.e.toArray from Blk.new w 40 c.e.toArray)⟩) (fun W hW => ?_)
      rw [hbb]
      obtain ⟨HW, b0, b1, b2, b3, b4, b5, b6, b7⟩ := hW
      clear a0 a1 a2 a3 a4 a5 a6 a7 a8 a9 a10 a11 hf
      have a2 : W.cell? ⟨sb, 2, none⟩ = some (.string g.at'.q) := HW.out.b.cell 2
      have a0 : W.cell? ⟨sb, 0, none⟩ = some (.string g.at'.r) := HW.out.b.cell 0; have a1 : W.cell? ⟨sb, 1, none⟩ = some (.string g.at'.f) := HW.out.b.cell 1; have a3 : W.cell? ⟨sb, 3, none⟩ = some (.int .i64 g.at'.t) := HW.out.b.cell 3; have a4 : W.cell? ⟨sb, 4, none⟩ = some (.int .i64 g.at'.k) := HW.out.b.cell 4; have a5 : W.cell? ⟨sb, 5, none⟩ = some (.int .i64 g.at'.vk) := HW.out.b.cell 5; have a6 : W.cell? ⟨sb, 6, none⟩ = some (.int .i64 g.at'.vn) := HW.out.b.cell 6; have a7 : W.cell? ⟨sb, 7, none⟩ = some (.string g.at'.s) := HW.out.b.cell 7; have a8 : W.cell? ⟨sb, 8, none⟩ = some (.int .i64 g.fam) := HW.out.b.cell 8; have a9 : W.cell? ⟨sb, 9, none⟩ = some (.bool g.col) := HW.out.b.cell 9; have a10 : W.cell? ⟨sb, 10, none⟩ = some (.int .i64 g.cell) := HW.out.b.cell 10; have a11 : W.cell? ⟨sb, 11, none⟩ = some (.int .i64 g.seen) := HW.out.b.cell 11
      have hf : ∀ j, W.frozen? ⟨sb, j, none⟩ = false := fun j => HW.out.b.free j
      go_quiet (fail)
      go_wp2
      go_end0
      have m0 : MS w sb (W.drewN nq) #[.string g.at'.r, .string g.at'.f, .string g.at'.q, .int .i64 g.at'.t, .int .i64 g.at'.k, .int .i64 g.at'.vk, .int .i64 g.at'.vn, .string g.at'.s, .int .i64 g.fam, .bool g.col, .int .i64 g.cell, .int .i64 g.seen] := HW.out.drewN _
      have m2 := MS.sets8 (MS.sets3 m0 (.bool false) (.int .i64 (-1)) (.int .i64 0)) (.string c.r) (.string c.f) (.string c.q) (.int .i64 c.t) (.int .i64 c.k) (.int .i64 c.vk) (.int .i64 c.vn) (.string c.s)
      exact ⟨rfl, m2.b, m2.o⟩
end Go.Proofs.YtfcnobcpnhfgmaaDoor

/- What package cell's sight does with a cell: lets. Conditions: the sight stands in a block of its own. -/
namespace Go.Proofs.YtfcnobcpnhfgmaaDoor
open Go.RowKit

/-- Behind a move: the sight, the boxed cell, the boxed rules. -/
structure LtS (w W : World) (sb : Nat) (G : SG) (c : CT) (ver life now : Int) : Prop where
  m : MS w sb W G.a
  b : Blk W w.heap.size 40 c.e.toArray
  r : Blk W (w.heap.size + 1) 100 #[.int .i64 ver, .int .i64 life, .int .i64 now]
theorem LtS.below {w W W' : World} {sb : Nat} {G : SG} {c : CT} {ver life now : Int} (h : LtS w W sb G c ver life now) (hb : Below W.heap.size W W') : LtS w W' sb G c ver life now := ⟨h.m.below hb, h.b.keep hb h.b.lt, h.r.keep hb h.r.lt⟩

theorem lets_start (g : SG) (c : CT) (ver life now : Int) (sb : Nat) (w W1 : World) (h : Blk w sb 150 g.a) (h1 : Blk W1 sb 150 (g.move c).a)
    (h2 : But ((w.alloc (.cells c.e.toArray 40)).alloc (.cells #[.int .i64 ver, .int .i64 life, .int .i64 now] 100)).heap.size sb ((w.alloc (.cells c.e.toArray 40)).alloc (.cells #[.int .i64 ver, .int .i64 life, .int .i64 now] 100)) W1) : LtS w W1 sb (g.move c) c ver life now := by
  have hlt := h.lt
  have b2 : Blk ((w.alloc (.cells c.e.toArray 40)).alloc (.cells #[.int .i64 ver, .int .i64 life, .int .i64 now] 100)) (w.heap.size + 1) 100 #[.int .i64 ver, .int .i64 life, .int .i64 now] := by have := Blk.new (w.alloc (.cells c.e.toArray 40)) 100 #[.int .i64 ver, .int .i64 life, .int .i64 now]; simpa using this
  have b1 := (Blk.new w 40 c.e.toArray).keep (below_new _ (.cells #[.int .i64 ver, .int .i64 life, .int .i64 now] 100)) (by simp)
  have bk : ∀ {k : Nat} {T : TypeId} {xs : Array Value}, Blk ((w.alloc (.cells c.e.toArray 40)).alloc (.cells #[.int .i64 ver, .int .i64 life, .int .i64 now] 100)) k T xs → k ≠ sb → Blk W1 k T xs := fun hb hne => by
    have hl := hb.lt
    unfold Blk at *
    rw [h2.block _ hl hne]; exact hb
  refine ⟨⟨h1, ?_⟩, bk b1 (by omega), bk b2 (by omega)⟩
  exact (But.of_below ((below_new w (.cells c.e.toArray 40)).alloc (by simp) _) sb).trans (h2.mono (by simp; omega))

/-- What the walk over the last test holds. -/
abbrev LtT (W0 : World) (sb bb : Nat) (G : SG) (c : CT) (ver life now : Int) (W : World) : Prop := Hid (Below W0.heap.size W0 W ∧ bb + 1 < W0.heap.size ∧ sb < W0.heap.size ∧ Blk W0 sb 150 G.a) ∧ W.cell? ⟨bb, 3, none⟩ = some (.int .i64 c.t) ∧ W.cell? ⟨bb + 1, 0, none⟩ = some (.int .i64 ver) ∧ W.cell? ⟨bb + 1, 1, none⟩ = some (.int .i64 life) ∧ W.cell? ⟨bb + 1, 2, none⟩ = some (.int .i64 now) ∧ W.cell? ⟨sb, 11, none⟩ = some (.int .i64 G.seen)
section
variable {W0 W W' : World} {sb bb : Nat} {G : SG} {c : CT} {ver life now : Int}
theorem ltt_blk (h : LtT W0 sb bb G c ver life now W) : Blk W sb 150 G.a := h.1.out.2.2.2.keep h.1.out.1 h.1.out.2.2.1
theorem ltt_drew (h : LtT W0 sb bb G c ver life now W) : LtT W0 sb bb G c ver life now W.drew := ⟨hid ⟨h.1.out.1.drew, h.1.out.2⟩, h.2⟩
theorem ltt_call (h : LtT W0 sb bb G c ver life now W) (hb : Below W.heap.size W W') : LtT W0 sb bb G c ver life now W' := by
  obtain ⟨hh, a0, a1, a2, a3, a4⟩ := h
  obtain ⟨hbw, h1, h2, h3⟩ := hh.out
  have hz := hbw.size
  have hc : ∀ b o, b < W0.heap.size → W'.cell? ⟨b, o, none⟩ = W.cell? ⟨b, o, none⟩ := fun b o h => hb.cell (p := ⟨b, o, none⟩) (show b < W.heap.size by omega)
  refine ⟨hid ⟨hbw.trans (hb.mono hz), h1, h2, h3⟩, ?_, ?_, ?_, ?_, ?_⟩ <;> (rw [hc _ _ (by omega)]; assumption)
end

set_option maxHeartbeats 4000000 in
set_option maxRecDepth 100000 in
theorem lets_any (g : SG) (c : CT) (ver life now : Int) (sb : Nat) (w : World) (h : Blk w sb 150 g.a) :
    Calls Tryd.prog 128 #[.pointer (some ⟨sb, 0, none⟩), c.v, .agg #[.int .i64 ver, .int .i64 life, .int .i64 now]] w fun e w' => e = .returned (.bool (g.lets c ver life now).2) ∧ Blk w' sb 150 (g.lets c ver life now).1.a ∧ But w.heap.size sb w w' := by
  have mixed : Tryd.prog.follows .mixedOrders = true := by kernel_rfl
  have HB := hid h
  have HM : Hid (∀ W, Blk W sb 150 g.a → Calls Tryd.prog 147 #[.pointer (some ⟨sb, 0, none⟩), c.v] W fun e w' => e = .returned (.tuple #[]) ∧ Blk w' sb 150 (g.move c).a ∧ But W.heap.size sb W w') := fun W hW => move_any g c sb W hW
  have HS : Hid (∀ W1, Blk W1 sb 150 (g.move c).a → But ((w.alloc (.cells c.e.toArray 40)).alloc (.cells #[.int .i64 ver, .int .i64 life, .int .i64 now] 100)).heap.size sb ((w.alloc (.cells c.e.toArray 40)).alloc (.cells #[.int .i64 ver, .int .i64 life, .int .i64 now] 100)) W1 → LtS w W1 sb (g.move c) c ver life now) := fun W1 h1 h2 => lets_start g c ver life now sb w W1 h h1 h2
  have HBk : Hid (Blk ((w.alloc (.cells c.e.toArray 40)).alloc (.cells #[.int .i64 ver, .int .i64 life, .int .i64 now] 100)) sb 150 g.a) := h.keep ((below_new w _).alloc (by simp) _) h.lt
  have hlt := h.lt
  unfold SG.lets
  obtain ⟨G, hG⟩ : ∃ G, g.move c = G := ⟨_, rfl⟩
  rw [hG] at HM HS ⊢
  clear h hG
  simp only
  obtain ⟨R, hR⟩ : ∃ R, (if c.k = 4 then ((⟨G.at', max G.fam c.t, G.col, G.cell, G.seen⟩, false) : SG × Bool) else if c.k = 3 then (⟨G.at', G.fam, true, G.cell, G.seen⟩, false) else if c.k = 2 then (⟨G.at', G.fam, G.col, c.t, G.seen⟩, false) else if c.k = 1 ∧ G.has c.t = true ∧ livesM life now c.t = true ∧ G.seen < ver then (⟨G.at', G.fam, G.col, G.cell, IntKind.i64.wrap (G.seen + 1)⟩, true) else (G, false)) = R := ⟨_, rfl⟩
  rw [hR]
  have HR := hid hR
  clear hR
  go_enter Tryd.func128, Tryd.ntmps128
  go_upto_region 2 with (go_at_call 147; refine (HM.out _ HBk.out).mono ?_; rintro e w1 ⟨rfl, h1, h2⟩; have HL := hid (HS.out w1 h1 h2); clear h1 h2)
  obtain ⟨bb, hbb⟩ : ∃ bb, w.heap.size = bb := ⟨_, rfl⟩
  rw [hbb]
  have HBB := hid hbb
  have b3 : w1.cell? ⟨bb, 3, none⟩ = some (.int .i64 c.t) := by rw [← hbb]; exact HL.out.b.cell 3
  have b4 : w1.cell? ⟨bb, 4, none⟩ = some (.int .i64 c.k) := by rw [← hbb]; exact HL.out.b.cell 4
  have r0 : w1.cell? ⟨bb + 1, 0, none⟩ = some (.int .i64 ver) := by rw [← hbb]; exact HL.out.r.cell 0
  have r1 : w1.cell? ⟨bb + 1, 1, none⟩ = some (.int .i64 life) := by rw [← hbb]; exact HL.out.r.cell 1
  have r2 : w1.cell? ⟨bb + 1, 2, none⟩ = some (.int .i64 now) := by rw [← hbb]; exact HL.out.r.cell 2
  have a8 : w1.cell? ⟨sb, 8, none⟩ = some (.int .i64 G.fam) := HL.out.m.b.cell 8
  have a9 : w1.cell? ⟨sb, 9, none⟩ = some (.bool G.col) := HL.out.m.b.cell 9
  have a10 : w1.cell? ⟨sb, 10, none⟩ = some (.int .i64 G.cell) := HL.out.m.b.cell 10
  have a11 : w1.cell? ⟨sb, 11, none⟩ = some (.int .i64 G.seen) := HL.out.m.b.cell 11
  have hf : ∀ j, w1.frozen? ⟨sb, j, none⟩ = false := fun j => HL.out.m.b.free j
  have HBbw : Hid (bb + 1 < w1.heap.size ∧ sb < w1.heap.size) := by have h1 := HL.out.r.lt; have h2 := HL.out.m.b.lt; rw [hbb] at h1; exact ⟨h1, h2⟩
  clear hbb HM HS HBk HB hlt
  by_cases k4 : c.k = 4
  · have HRk : Hid (R = _) := hid (HR.out.symm.trans (if_pos k4))
    have q4 : (c.k == 4) = true := by simpa using k4
    clear k4
    go_upto_region 4 with (fail)
    go_region
    go_wp2
    go_ret
    rw [HRk.out]
    have m := (HL.out.m.drewN 1).set 8 (.int .i64 (max G.fam c.t))
    exact ⟨rfl, m.b, m.o⟩
  have HR := hid ((if_neg k4).symm.trans HR.out)
  have q4 : (c.k == 4) = false := by simpa using k4
  clear k4
  by_cases k3 : c.k = 3
  · have HRk : Hid (R = _) := hid (HR.out.symm.trans (if_pos k3))
    have q3 : (c.k == 3) = true := by simpa using k3
    clear k3
    go_wp2
    go_ret
    rw [HRk.out]
    have m := HL.out.m.set 9 (.bool true)
    exact ⟨rfl, m.b, m.o⟩
  have HR := hid ((if_neg k3).symm.trans HR.out)
  have q3 : (c.k == 3) = false := by simpa using k3
  clear k3
  by_cases k2 : c.k = 2
  · have HRk : Hid (R = _) := hid (HR.out.symm.trans (if_pos k2))
    have q2 : (c.k == 2) = true := by simpa using k2
    clear k2
    go_wp2
    go_ret
    rw [HRk.out]
    have m := HL.out.m.set 10 (.int .i64 c.t)
    exact ⟨rfl, m.b, m.o⟩
  have HR := hid ((if_neg k2).symm.trans HR.out)
  have q2 : (c.k == 2) = false := by simpa using k2
  clear k2
  by_cases k1 : c.k = 1
  · have q1 : (c.k == 1) = true := by simpa using k1
    have HK1 := hid k1
    clear k1
    have hH : Hid (∀ W, Blk W sb 150 G.a → Calls Tryd.prog 148 #[.pointer (some ⟨sb, 0, none⟩), .int .i64 c.t] W fun e w' => e = .returned (.bool (G.has c.t)) ∧ w' = W) := fun W hW => has_any G c.t sb W hW
    have hL : Hid (∀ W, Calls Tryd.prog 149 #[.agg #[.int .i64 ver, .int .i64 life, .int .i64 now], .int .i64 c.t] W fun e w' => e = .returned (.bool (livesM life now c.t)) ∧ Below W.heap.size W w') := fun W => lives_any ver life now c.t W
    obtain ⟨bh, hbh⟩ : ∃ bh, G.has c.t = bh := ⟨_, rfl⟩
    obtain ⟨bl, hbl⟩ : ∃ bl, livesM life now c.t = bl := ⟨_, rfl⟩
    rw [hbh] at hH
    rw [hbl] at hL
    rw [hbh, hbl] at HR
    clear hbh hbl
    have HT : Hid (LtT w1 sb bb G c ver life now w1) := ⟨hid ⟨Below.refl _ _, HBbw.out.1, HBbw.out.2, HL.out.m.b⟩, b3, r0, r1, r2, a11⟩
    go_upto_region 10 with (fail)
    cases bh with
    | false =>
      have HRk : Hid (R = _) := hid (HR.out.symm.trans (if_neg (by simp)))
      have HS1 : Hid (Blk w1 sb 150 G.a) := HL.out.m.b
      have hH2 : Hid (∀ n, Calls Tryd.prog 148 #[.pointer (some ⟨sb, 0, none⟩), .int .i64 c.t] (w1.drewN n) fun e w' => e = .returned (.bool false) ∧ w' = w1.drewN n) := fun n => hH.out _ HS1.out
      go_quiet ((go_at_call 148; with_reducible exact Calls.quiet_of_same (hH2.out _)))
      go_wp2
      go_ret
      rw [HRk.out]
      have m := HL.out.m.drewN nq
      exact ⟨rfl, m.b, m.o⟩
    | true =>
      cases bl with
      | false =>
        have HRk : Hid (R = _) := hid (HR.out.symm.trans (if_neg (by simp)))
        refine wp_region_held_drew (S := (fun W' => Hid (Below w1.heap.size w1 W' ∧ bb + 1 < w1.heap.size ∧ sb < w1.heap.size ∧ Blk w1 sb 150 G.a) ∧ W'.cell? ⟨bb, 3, none⟩ = some (.int .i64 c.t) ∧ W'.cell? ⟨bb + 1, 0, none⟩ = some (.int .i64 ver) ∧ W'.cell? ⟨bb + 1, 1, none⟩ = some (.int .i64 life) ∧ W'.cell? ⟨bb + 1, 2, none⟩ = some (.int .i64 now) ∧ W'.cell? ⟨sb, 11, none⟩ = some (.int .i64 G.seen))) (by kernel_rfl) ?_ (fun hHeld => ?_)
        (exact ltt_drew HT.out)
        (refine wpAnyH_take (i := 0) (v := ?_) rfl (by kernel_rfl) (by kernel_rfl) (by kernel_rfl) (fun _ _ _ h => h) (Or.inl ⟨by kernel_rfl, ?_⟩) (by assumption) ?_; rotate_left; · (intro w hSw; (try dsimp only at hSw); go_simp; first | done | with_reducible rfl))
        (try simp only [Act.put]); (try simp only [List.getElem_toArray]); (try simp only [List.getElem_cons_succ]); (try simp only [List.getElem_cons_zero]); (try simp only [List.setIfInBounds_toArray]); (try simp only [List.set_cons_succ]); (try simp only [List.set_cons_zero])
        (refine wpAnyH_take (i := 1) (v := ?_) rfl (by kernel_rfl) (by kernel_rfl) (by kernel_rfl) (fun _ _ _ h => h) (Or.inl ⟨by kernel_rfl, ?_⟩) (by assumption) ?_; rotate_left; · (intro w hSw; (try dsimp only at hSw); go_simp; first | done | with_reducible rfl))
        (try simp only [Act.put]); (try simp only [List.getElem_toArray]); (try simp only [List.getElem_cons_succ]); (try simp only [List.getElem_cons_zero]); (try simp only [List.setIfInBounds_toArray]); (try simp only [List.set_cons_succ]); (try simp only [List.set_cons_zero])
        (refine wpAnyH_take (i := 2) (v := ?_) rfl (by kernel_rfl) (by kernel_rfl) (by kernel_rfl) (fun _ _ _ h => h) (Or.inl ⟨by kernel_rfl, ?_⟩) (by assumption) ?_; rotate_left; · (intro w hSw; (try dsimp only at hSw); go_simp; first | done | with_reducible rfl))
        (try simp only [Act.put]); (try simp only [List.getElem_toArray]); (try simp only [List.getElem_cons_succ]); (try simp only [List.getElem_cons_zero]); (try simp only [List.setIfInBounds_toArray]); (try simp only [List.set_cons_succ]); (try simp only [List.set_cons_zero])
        (refine wpAnyH_ready (rs := [3]) (by kernel_rfl) (by simp) (AllReadyH.cons rfl (fun K hK => ?_) AllReadyH.nil); go_simp; (go_at_call 148; refine (hH.out _ (ltt_blk (by assumption))).mono ?_; rintro e w5 ⟨rfl, rfl⟩); refine hK.out _ _ ?_ (fun hHeld => ?_))
        · assumption
        clear hK K
        (try simp only [Act.put]); (try simp only [List.getElem_toArray]); (try simp only [List.getElem_cons_succ]); (try simp only [List.getElem_cons_zero]); (try simp only [List.setIfInBounds_toArray]); (try simp only [List.set_cons_succ]); (try simp only [List.set_cons_zero])
        (refine wpAnyH_take (i := 4) (v := ?_) rfl (by kernel_rfl) (by kernel_rfl) (by kernel_rfl) (fun _ _ _ h => h) (Or.inl ⟨by kernel_rfl, ?_⟩) (by assumption) ?_; rotate_left; · (intro w hSw; (try dsimp only at hSw); go_simp; first | done | with_reducible rfl))
        (try simp only [Act.put]); (try simp only [List.getElem_toArray]); (try simp only [List.getElem_cons_succ]); (try simp only [List.getElem_cons_zero]); (try simp only [List.setIfInBounds_toArray]); (try simp only [List.set_cons_succ]); (try simp only [List.set_cons_zero])
        (refine wpAnyH_take (i := 5) (v := ?_) rfl (by kernel_rfl) (by kernel_rfl) (by kernel_rfl) (fun _ _ _ h => h) (Or.inl ⟨by kernel_rfl, ?_⟩) (by assumption) ?_; rotate_left; · (intro w hSw; (try dsimp only at hSw); go_simp; first | done | with_reducible rfl))
        (try simp only [Act.put]); (try simp only [List.getElem_toArray]); (try simp only [List.getElem_cons_succ]); (try simp only [List.getElem_cons_zero]); (try simp only [List.setIfInBounds_toArray]); (try simp only [List.set_cons_succ]); (try simp only [List.set_cons_zero])
        (refine wpAnyH_take (i := 6) (v := ?_) rfl (by kernel_rfl) (by kernel_rfl) (by kernel_rfl) (fun _ _ _ h => h) (Or.inl ⟨by kernel_rfl, ?_⟩) (by assumption) ?_; rotate_left; · (intro w hSw; (try dsimp only at hSw); go_simp; first | done | with_reducible rfl))
        (try simp only [Act.put]); (try simp only [List.getElem_toArray]); (try simp only [List.getElem_cons_succ]); (try simp only [List.getElem_cons_zero]); (try simp only [List.setIfInBounds_toArray]); (try simp only [List.set_cons_succ]); (try simp only [List.set_cons_zero])
        (refine wpAnyH_take (i := 7) (v := ?_) rfl (by kernel_rfl) (by kernel_rfl) (by kernel_rfl) (fun _ _ _ h => h) (Or.inl ⟨by kernel_rfl, ?_⟩) (by assumption) ?_; rotate_left; · (intro w hSw; (try dsimp only at hSw); go_simp; first | done | with_reducible rfl))
        (try simp only [Act.put]); (try simp only [List.getElem_toArray]); (try simp only [List.getElem_cons_succ]); (try simp only [List.getElem_cons_zero]); (try simp only [List.setIfInBounds_toArray]); (try simp only [List.set_cons_succ]); (try simp only [List.set_cons_zero])
        (refine wpAnyH_ready (rs := [8]) (by kernel_rfl) (by simp) (AllReadyH.cons rfl (fun K hK => ?_) AllReadyH.nil); go_simp; (go_at_call 149; refine (hL.out _).mono ?_; rintro e w5 ⟨rfl, hb5⟩); refine hK.out _ _ ?_ (fun hHeld => ?_))
        · exact ltt_call (by assumption) hb5
        clear hK K
        (try simp only [Act.put]); (try simp only [List.getElem_toArray]); (try simp only [List.getElem_cons_succ]); (try simp only [List.getElem_cons_zero]); (try simp only [List.setIfInBounds_toArray]); (try simp only [List.set_cons_succ]); (try simp only [List.set_cons_zero])
        (refine wpAnyH_take (i := 9) (v := ?_) rfl (by kernel_rfl) (by kernel_rfl) (by kernel_rfl) (fun _ _ _ h => h) (Or.inl ⟨by kernel_rfl, ?_⟩) (by assumption) ?_; rotate_left; · (intro w hSw; (try dsimp only at hSw); go_simp; first | done | with_reducible rfl))
        (try simp only [Act.put]); (try simp only [List.getElem_toArray]); (try simp only [List.getElem_cons_succ]); (try simp only [List.getElem_cons_zero]); (try simp only [List.setIfInBounds_toArray]); (try simp only [List.set_cons_succ]); (try simp only [List.set_cons_zero])
        (refine wpAnyH_take (i := 10) (v := ?_) rfl (by kernel_rfl) (by kernel_rfl) (by kernel_rfl) (fun _ _ _ h => h) (Or.inl ⟨by kernel_rfl, ?_⟩) (by assumption) ?_; rotate_left; · (intro w hSw; (try dsimp only at hSw); go_simp; first | done | with_reducible rfl))
        (try simp only [Act.put]); (try simp only [List.getElem_toArray]); (try simp only [List.getElem_cons_succ]); (try simp only [List.getElem_cons_zero]); (try simp only [List.setIfInBounds_toArray]); (try simp only [List.set_cons_succ]); (try simp only [List.set_cons_zero])
        (refine wpAnyH_take (i := 11) (v := undef) rfl (by kernel_rfl) (by kernel_rfl) (by kernel_rfl) (fun _ _ _ h => h) (Or.inr ⟨by kernel_rfl, rfl⟩) (by assumption) ?_; (try simp only [Act.put]); (try simp only [List.getElem_toArray]); (try simp only [List.getElem_cons_succ]); (try simp only [List.getElem_cons_zero]); (try simp only [List.setIfInBounds_toArray]); (try simp only [List.set_cons_succ]); (try simp only [List.set_cons_zero]))
        (refine wpAnyH_take (i := 12) (v := undef) rfl (by kernel_rfl) (by kernel_rfl) (by kernel_rfl) (fun _ _ _ h => h) (Or.inr ⟨by kernel_rfl, rfl⟩) (by assumption) ?_; (try simp only [Act.put]); (try simp only [List.getElem_toArray]); (try simp only [List.getElem_cons_succ]); (try simp only [List.getElem_cons_zero]); (try simp only [List.setIfInBounds_toArray]); (try simp only [List.set_cons_succ]); (try simp only [List.set_cons_zero]))
        (refine wpAnyH_take (i := 13) (v := undef) rfl (by kernel_rfl) (by kernel_rfl) (by kernel_rfl) (fun _ _ _ h => h) (Or.inr ⟨by kernel_rfl, rfl⟩) (by assumption) ?_; (try simp only [Act.put]); (try simp only [List.getElem_toArray]); (try simp only [List.getElem_cons_succ]); (try simp only [List.getElem_cons_zero]); (try simp only [List.setIfInBounds_toArray]); (try simp only [List.set_cons_succ]); (try simp only [List.set_cons_zero]))
        (refine wpAnyH_take (i := 14) (v := undef) rfl (by kernel_rfl) (by kernel_rfl) (by kernel_rfl) (fun _ _ _ h => h) (Or.inr ⟨by kernel_rfl, rfl⟩) (by assumption) ?_; (try simp only [Act.put]); (try simp only [List.getElem_toArray]); (try simp only [List.getElem_cons_succ]); (try simp only [List.getElem_cons_zero]); (try simp only [List.setIfInBounds_toArray]); (try simp only [List.set_cons_succ]); (try simp only [List.set_cons_zero]))
        (refine wpAnyH_take (i := 15) (v := undef) rfl (by kernel_rfl) (by kernel_rfl) (by kernel_rfl) (fun _ _ _ h => h) (Or.inr ⟨by kernel_rfl, rfl⟩) (by assumption) ?_; (try simp only [Act.put]); (try simp only [List.getElem_toArray]); (try simp only [List.getElem_cons_succ]); (try simp only [List.getElem_cons_zero]); (try simp only [List.setIfInBounds_toArray]); (try simp only [List.set_cons_succ]); (try simp only [List.set_cons_zero]))
        (refine wpAnyH_take (i := 16) (v := undef) rfl (by kernel_rfl) (by kernel_rfl) (by kernel_rfl) (fun _ _ _ h => h) (Or.inr ⟨by kernel_rfl, rfl⟩) (by assumption) ?_; (try simp only [Act.put]); (try simp only [List.getElem_toArray]); (try simp only [List.getElem_cons_succ]); (try simp only [List.getElem_cons_zero]); (try simp only [List.setIfInBounds_toArray]); (try simp only [List.set_cons_succ]); (try simp only [List.set_cons_zero]))
        (refine wpAnyH_take (i := 17) (v := undef) rfl (by kernel_rfl) (by kernel_rfl) (by kernel_rfl) (fun _ _ _ h => h) (Or.inr ⟨by kernel_rfl, rfl⟩) (by assumption) ?_; (try simp only [Act.put]); (try simp only [List.getElem_toArray]); (try simp only [List.getElem_cons_succ]); (try simp only [List.getElem_cons_zero]); (try simp only [List.setIfInBounds_toArray]); (try simp only [List.set_cons_succ]); (try simp only [List.set_cons_zero]))
        (refine wpAnyH_take (i := 18) (v := ?_) rfl (by kernel_rfl) (by kernel_rfl) (by kernel_rfl) (fun _ _ _ h => h) (Or.inl ⟨by kernel_rfl, ?_⟩) (by assumption) ?_; rotate_left; · (intro w hSw; (try dsimp only at hSw); go_simp; first | done | with_reducible rfl))
        (try simp only [Act.put]); (try simp only [List.getElem_toArray]); (try simp only [List.getElem_cons_succ]); (try simp only [List.getElem_cons_zero]); (try simp only [List.setIfInBounds_toArray]); (try simp only [List.set_cons_succ]); (try simp only [List.set_cons_zero])
        refine wpAnyH_done (by kernel_rfl) ?_ _
        have hLast := hHeld
        go_wp2
        go_ret
        rw [HRk.out]
        have m := HL.out.m.below hLast.1.out.1
        exact ⟨rfl, m.b, m.o⟩
      | true =>
        by_cases hs : G.seen < ver
        · have HRk : Hid (R = _) := hid (HR.out.symm.trans (if_pos ⟨HK1.out, rfl, rfl, hs⟩))
          obtain ⟨x, hx⟩ : ∃ x, IntKind.i64.wrap (G.seen + 1) = x := ⟨_, rfl⟩
          rw [hx] at HRk
          go_region_held3 (fun W' => Hid (Below w1.heap.size w1 W' ∧ bb + 1 < w1.heap.size ∧ sb < w1.heap.size ∧ Blk w1 sb 150 G.a) ∧ W'.cell? ⟨bb, 3, none⟩ = some (.int .i64 c.t) ∧ W'.cell? ⟨bb + 1, 0, none⟩ = some (.int .i64 ver) ∧ W'.cell? ⟨bb + 1, 1, none⟩ = some (.int .i64 life) ∧ W'.cell? ⟨bb + 1, 2, none⟩ = some (.int .i64 now) ∧ W'.cell? ⟨sb, 11, none⟩ = some (.int .i64 G.seen))
            (first | exact HT.out | exact ltt_drew HT.out | exact ltt_call (by assumption) hb5 | exact ltt_drew (by assumption) | assumption)
            (first | (go_at_call 148; refine (hH.out _ (ltt_blk (by assumption))).mono ?_; rintro e w5 ⟨rfl, rfl⟩) | (go_at_call 149; refine (hL.out _).mono ?_; rintro e w5 ⟨rfl, hb5⟩))
          rename_i hLast
          have hf : w5.frozen? ⟨sb, 11, none⟩ = false := (HL.out.m.below hLast.1.out.1).b.free 11
          have a11 := hLast.2.2.2.2.2
          have HX := hid (HL.out.m.below hLast.1.out.1)
          clear hLast
          go_wp2
          go_ret
          rw [HRk.out]
          have m := HX.out.set 11 (.int .i64 x)
          exact ⟨rfl, m.b, m.o⟩
        · have HRk : Hid (R = _) := hid (HR.out.symm.trans (if_neg (by rintro ⟨-, -, -, h⟩; exact hs h)))
          go_region_held3 (fun W' => Hid (Below w1.heap.size w1 W' ∧ bb + 1 < w1.heap.size ∧ sb < w1.heap.size ∧ Blk w1 sb 150 G.a) ∧ W'.cell? ⟨bb, 3, none⟩ = some (.int .i64 c.t) ∧ W'.cell? ⟨bb + 1, 0, none⟩ = some (.int .i64 ver) ∧ W'.cell? ⟨bb + 1, 1, none⟩ = some (.int .i64 life) ∧ W'.cell? ⟨bb + 1, 2, none⟩ = some (.int .i64 now) ∧ W'.cell? ⟨sb, 11, none⟩ = some (.int .i64 G.seen))
            (first | exact HT.out | exact ltt_drew HT.out | exact ltt_call (by assumption) hb5 | exact ltt_drew (by assumption) | assumption)
            (first | (go_at_call 148; refine (hH.out _ (ltt_blk (by assumption))).mono ?_; rintro e w5 ⟨rfl, rfl⟩) | (go_at_call 149; refine (hL.out _).mono ?_; rintro e w5 ⟨rfl, hb5⟩))
          rename_i hLast
          go_wp2
          go_ret
          rw [HRk.out]
          have m := HL.out.m.below hLast.1.out.1
          exact ⟨rfl, m.b, m.o⟩
  · have q1 : (c.k == 1) = false := by simpa using k1
    have HRk : Hid (R = _) := hid (HR.out.symm.trans (if_neg (by rintro ⟨h, -⟩; exact k1 h)))
    clear k1
    go_wp2
    go_ret
    rw [HRk.out]
    exact ⟨rfl, HL.out.m.b, HL.out.m.o⟩
end Go.Proofs.YtfcnobcpnhfgmaaDoor

/- cell.seen at cells in order: what the sight lets. Conditions: a hundred thousand cells at most. -/
namespace Go.Proofs.YtfcnobcpnhfgmaaDoor
open Go.RowKit

/-- Of a list of cells those that the sight lets. -/
def seenF (ver life now : Int) : SG → List CT → List CT
  | _, [] => []
  | g, c :: l => if (g.lets c ver life now).2 = true then c :: seenF ver life now (g.lets c ver life now).1 l else seenF ver life now (g.lets c ver life now).1 l
/-- Where the sight stands behind a list of cells. -/
def sightF (ver life now : Int) : SG → List CT → SG
  | g, [] => g
  | g, c :: l => sightF ver life now (g.lets c ver life now).1 l
theorem seenF_app (ver life now : Int) : ∀ (g : SG) (l m : List CT), seenF ver life now g (l ++ m) = seenF ver life now g l ++ seenF ver life now (sightF ver life now g l) m
  | g, [], m => rfl
  | g, c :: l, m => by
    show (if (g.lets c ver life now).2 = true then c :: seenF ver life now (g.lets c ver life now).1 (l ++ m) else seenF ver life now (g.lets c ver life now).1 (l ++ m)) = (if (g.lets c ver life now).2 = true then c :: seenF ver life now (g.lets c ver life now).1 l else seenF ver life now (g.lets c ver life now).1 l) ++ seenF ver life now (sightF ver life now (g.lets c ver life now).1 l) m
    rw [seenF_app]
    split
    · rw [List.cons_append]
    · rfl
theorem sightF_app (ver life now : Int) : ∀ (g : SG) (l m : List CT), sightF ver life now g (l ++ m) = sightF ver life now (sightF ver life now g l) m
  | g, [], m => rfl
  | g, c :: l, m => by
    show sightF ver life now (g.lets c ver life now).1 (l ++ m) = sightF ver life now (sightF ver life now (g.lets c ver life now).1 l) m
    rw [sightF_app]
theorem seenF_len (ver life now : Int) : ∀ (g : SG) (l : List CT), (seenF ver life now g l).length ≤ l.length
  | g, [] => Nat.le_refl _
  | g, c :: l => by
    have := seenF_len ver life now (g.lets c ver life now).1 l
    show (if (g.lets c ver life now).2 = true then c :: seenF ver life now (g.lets c ver life now).1 l else seenF ver life now (g.lets c ver life now).1 l).length ≤ l.length + 1
    split
    · simp only [List.length_cons]; omega
    · omega
/-- What cell.seen answers. -/
def seenL (ver life now : Int) (l : List CT) : List CT := if rightM ver life = true then seenF ver life now SG.zero l else []
/-- One cell more. -/
theorem seenF_snoc (ver life now : Int) (g : SG) (l : List CT) (c : CT) : seenF ver life now g (l ++ [c]) = seenF ver life now g l ++ (if ((sightF ver life now g l).lets c ver life now).2 = true then [c] else []) := by
  rw [seenF_app]
  rfl
theorem sightF_snoc (ver life now : Int) (g : SG) (l : List CT) (c : CT) : sightF ver life now g (l ++ [c]) = ((sightF ver life now g l).lets c ver life now).1 := by
  rw [sightF_app]
  rfl

theorem CRow.but {w w' : World} {B sb : Nat} {v : Value} {l : List CT} {xs : Array Value} (h : CRow w B v l) (hs : Blk w sb 150 xs) (hb : But w.heap.size sb w w') : CRow w' B v l := by
  refine ⟨h.1, ?_⟩
  rcases h.2 with h | ⟨g, cap, cur, e, h1, h2, hr⟩
  · exact .inl h
  · have hg : g < w.heap.size := by
      rcases Nat.lt_or_ge g w.heap.size with h' | h'
      · exact h'
      · rw [Array.getElem?_eq_none h'] at h2; cases h2
    have hne : g ≠ sb := by
      rintro rfl
      unfold Blk at hs
      rw [hs] at h2
      cases h2
    exact .inr ⟨g, cap, cur, e, h1, by rw [hb.block g hg hne]; exact h2, hr⟩
theorem Blk.butC {w w' : World} {sb k : Nat} {T : TypeId} {xs : Array Value} (h : Blk w k T xs) (hb : But w.heap.size sb w w') (hne : k ≠ sb) : Blk w' k T xs := by
  have hl := h.lt
  unfold Blk at *
  rw [hb.block k hl hne]; exact h
/-- Where cell.seen is. -/
structure SnS (w W : World) (rb sb : Nat) (G : SG) (ver life now : Int) : Prop where
  s : Blk W sb 150 G.a
  r : Blk W rb 100 #[.int .i64 ver, .int .i64 life, .int .i64 now]
  b : Below w.heap.size w W
theorem SnS.below {w W W' : World} {rb sb : Nat} {G : SG} {ver life now : Int} (h : SnS w W rb sb G ver life now) (hb : Below W.heap.size W W') : SnS w W' rb sb G ver life now := ⟨h.s.keep hb h.s.lt, h.r.keep hb h.r.lt, h.b.trans (hb.mono h.b.size)⟩
theorem SnS.but {w W W' : World} {rb sb : Nat} {G G' : SG} {ver life now : Int} (h : SnS w W rb sb G ver life now) (hne : rb ≠ sb) (hsb : w.heap.size ≤ sb) (h1 : Blk W' sb 150 G'.a) (hb : But W.heap.size sb W W') : SnS w W' rb sb G' ver life now := by
  refine ⟨h1, ?_, h.b.trans ((hb.mono h.b.size).below hsb)⟩
  have hl := h.r.lt
  have hr := h.r
  unfold Blk at *
  rw [hb.block rb hl hne]; exact hr

/-- Behind an append to a row of cells another block is as it was. -/
theorem CRow.apart {w w' : World} {B k : Nat} {v : Value} {l : List CT} {T : TypeId} {xs : Array Value} (h : CRow w B v l) (hk : Blk w k T xs) (hT : T ≠ 40) (hg : w.grownBy w' v.ownBlock) : Blk w' k T xs := by
  have hne : some k ≠ v.ownBlock := by
    rcases h.2 with ⟨e, _⟩ | ⟨g, cap, cur, e, h1, h2, hr⟩
    · rw [e]; intro q; cases q
    · rw [e]; intro q; cases q
      unfold Blk at hk
      rw [hk] at h2
      cases h2
      exact hT rfl
  have hl := hk.lt
  unfold Blk at *
  rw [hg.block k hl hne]; exact hk
theorem SnS.grown {w W W' : World} {rb sb : Nat} {G : SG} {ver life now : Int} {v : Value} {l : List CT} (h : SnS w W rb sb G ver life now) (hc : CRow W w.heap.size v l) (o : Obj) (hb : Below w.heap.size (W.alloc o) W') (hg : (W.alloc o).grownBy W' v.ownBlock) : SnS w W' rb sb G ver life now :=
  have hc' := hc.below (below_new W o)
  ⟨hc'.apart (h.s.keep (below_new W o) h.s.lt) (by decide) hg, hc'.apart (h.r.keep (below_new W o) h.r.lt) (by decide) hg, (h.b.alloc h.b.size _).trans hb⟩

set_option maxHeartbeats 4000000 in
set_option maxRecDepth 100000 in
theorem seen_any (v : Value) (l : List CT) (hl : l.length ≤ 100000) (ver life now : Int) (w : World) (h : ClA w v l) :
    Calls Tryd.prog 79 #[v, .agg #[.int .i64 ver, .int .i64 life, .int .i64 now]] w fun e w' => ∃ v', e = .returned v' ∧ CRow w' w.heap.size v' (seenL ver life now l) ∧ Below w.heap.size w w' := by
  have HR : Hid (∀ W, Calls Tryd.prog 127 #[.agg #[.int .i64 ver, .int .i64 life, .int .i64 now]] W fun e w' => e = .returned (.bool (rightM ver life)) ∧ Below W.heap.size W w') := fun W => cright_rules ver life now W
  have HN0 := hid (CRow.none w w.heap.size)
  unfold seenL
  obtain ⟨A, cc, rfl, hc1, hc2, hh⟩ := h
  obtain ⟨n, hn⟩ : ∃ n, l.length = n := ⟨_, rfl⟩
  have HN := hid hn
  rw [hn] at hl hc1 hh ⊢
  have HH := hid hh
  clear hn hh
  cases hr : rightM ver life with
  | false =>
    rw [hr] at HR
    rw [if_neg (by decide)]
    clear hr
    go_enter Tryd.func79, Tryd.ntmps79
    go_wp2_with (go_at_call 127; refine (HR.out _).mono ?_; rintro e w5 ⟨rfl, hb5⟩)
    go_ret
    exact ⟨_, rfl, (HN0.out.below (((Below.refl _ _).alloc (Nat.le_refl _) _).trans (hb5.mono (by simp)))), ((Below.refl _ _).alloc (Nat.le_refl _) _).trans (hb5.mono (by simp))⟩
  | true =>
    rw [hr] at HR
    rw [if_pos rfl]
    clear hr
    have HL := hid lets_any
    go_enter Tryd.func79, Tryd.ntmps79
    go_wp2_with (go_at_call 127; refine (HR.out _).mono ?_; rintro e w5 ⟨rfl, hb5⟩)
    obtain ⟨rb, hrb⟩ : ∃ rb, w.heap.size = rb := ⟨_, rfl⟩
    obtain ⟨sb, hsb⟩ : ∃ sb, w5.heap.size = sb := ⟨_, rfl⟩
    have HB5 : Hid (Below w.heap.size w w5) := ((Below.refl _ _).alloc (Nat.le_refl _) _).trans (hb5.mono (by simp))
    have HR5 : Hid (Blk w5 w.heap.size 100 #[.int .i64 ver, .int .i64 life, .int .i64 now]) := (Blk.new w _ _).keep hb5 (by simp)
    have HS0 : Hid (SnS w (w5.alloc (.cells SG.zero.a 150)) rb sb SG.zero ver life now) := by
      rw [← hrb, ← hsb]
      exact ⟨Blk.new _ _ _, HR5.out.keep (below_new _ _) HR5.out.lt, HB5.out.alloc HB5.out.size _⟩
    have HC0 : Hid (CRow (w5.alloc (.cells SG.zero.a 150)) w.heap.size (.slice none 0 0) []) := (HN0.out.below HB5.out).below (below_new _ _)
    have HNE : Hid (rb ≠ sb ∧ w.heap.size ≤ sb) := by
      have h1 := HR5.out.lt
      exact ⟨by omega, by omega⟩
    rw [hrb, hsb]
    clear hb5 hrb hsb HB5 HR5 HR
    go_loopw [5, 14] (fun vo vi wr => ∃ i : Nat, i ≤ n ∧ vi = .int .i64 i ∧ Hid (CRow wr w.heap.size vo (seenF ver life now SG.zero (l.take i))) ∧ Hid (SnS w wr rb sb (sightF ver life now SG.zero (l.take i)) ver life now)) (fun _ vi _ => n - (intOf vi).toNat)
    case atStart => exact ⟨0, Nat.zero_le _, rfl, HC0.out, HS0.out⟩
    case round =>
      obtain ⟨i, hi, rfl, HO, HS⟩ := hrel
      by_cases hlt : i < n
      · have hin : i < l.length := by rw [HN.out]; exact hlt
        have hltz : (i : Int) < (n : Int) := by omega
        obtain ⟨b, off, rfl, hhc⟩ := HH.out (by omega)
        have hbw : b < w.heap.size := hhc.lt (by omega)
        obtain ⟨c, hc⟩ : ∃ c, l[i] = c := ⟨_, rfl⟩
        have P : wr.cell? ⟨b, off + i * 8, none⟩ = some (.string c.r) ∧ wr.cell? ⟨b, off + i * 8 + 1, none⟩ = some (.string c.f) ∧ wr.cell? ⟨b, off + i * 8 + 2, none⟩ = some (.string c.q) ∧ wr.cell? ⟨b, off + i * 8 + 3, none⟩ = some (.int .i64 c.t) ∧ wr.cell? ⟨b, off + i * 8 + 4, none⟩ = some (.int .i64 c.k) ∧ wr.cell? ⟨b, off + i * 8 + 5, none⟩ = some (.int .i64 c.vk) ∧ wr.cell? ⟨b, off + i * 8 + 6, none⟩ = some (.int .i64 c.vn) ∧ wr.cell? ⟨b, off + i * 8 + 7, none⟩ = some (.string c.s) := by
          rw [← hc]
          exact (hhc.below HS.out.b hbw).words i hin
        obtain ⟨G, hG⟩ : ∃ G, sightF ver life now SG.zero (l.take i) = G := ⟨_, rfl⟩
        have HT1 : Hid (seenF ver life now SG.zero (l.take (i + 1)) = seenF ver life now SG.zero (l.take i) ++ (if (G.lets c ver life now).2 = true then [c] else [])) := by
          unfold Hid
          rw [List.take_add_one, List.getElem?_eq_getElem hin, hc]
          show seenF ver life now SG.zero (l.take i ++ [c]) = _
          rw [seenF_snoc, hG]
        have HT2 : Hid (sightF ver life now SG.zero (l.take (i + 1)) = (G.lets c ver life now).1) := by
          unfold Hid
          rw [List.take_add_one, List.getElem?_eq_getElem hin, hc]
          show sightF ver life now SG.zero (l.take i ++ [c]) = _
          rw [sightF_snoc, hG]
        have HLn : Hid ((seenF ver life now SG.zero (l.take i)).length ≤ 100000) := by
          have := seenF_len ver life now SG.zero (l.take i)
          rw [List.length_take] at this
          unfold Hid; omega
        rw [hG] at HS
        obtain ⟨p0, p1, p2, p3, p4, p5, p6, p7⟩ := P
        clear hc hhc hG
        go_upto_region 8 with (fail)
        obtain ⟨bb, hbb⟩ : ∃ bb, wr.heap.size = bb := ⟨_, rfl⟩
        refine wp_ltc (fun W => Hid (Blk W bb 40 c.e.toArray ∧ Below wr.heap.size wr W ∧ bb = wr.heap.size) ∧ W.cell? ⟨bb, 0, none⟩ = some (.string c.r) ∧ W.cell? ⟨bb, 1, none⟩ = some (.string c.f) ∧ W.cell? ⟨bb, 2, none⟩ = some (.string c.q) ∧ W.cell? ⟨bb, 3, none⟩ = some (.int .i64 c.t) ∧ W.cell? ⟨bb, 4, none⟩ = some (.int .i64 c.k) ∧ W.cell? ⟨bb, 5, none⟩ = some (.int .i64 c.vk) ∧ W.cell? ⟨bb, 6, none⟩ = some (.int .i64 c.vn) ∧ W.cell? ⟨bb, 7, none⟩ = some (.string c.s)) (by rw [← hbb]; have hB := Blk.new wr 40 c.e.toArray; exact ⟨⟨hB, below_new _ _, rfl⟩, blk_words hB⟩) (fun W hW => ?_)
        rw [hbb]
        obtain ⟨HW, b0, b1, b2, b3, b4, b5, b6, b7⟩ := hW
        have HS2 : Hid (SnS w W rb sb G ver life now) := HS.out.below HW.out.2.1
        have HO2 : Hid (CRow W w.heap.size _ (seenF ver life now SG.zero (l.take i))) := HO.out.below HW.out.2.1
        have r0 : W.cell? ⟨rb, 0, none⟩ = some (.int .i64 ver) := HS2.out.r.cell 0
        have r1 : W.cell? ⟨rb, 1, none⟩ = some (.int .i64 life) := HS2.out.r.cell 1
        have r2 : W.cell? ⟨rb, 2, none⟩ = some (.int .i64 now) := HS2.out.r.cell 2
        have HBN : Hid (bb ≠ sb) := by
          have h1 := HS.out.s.lt
          have h2 := HW.out.2.2
          unfold Hid; omega
        have hL := HL.out G c ver life now sb W HS2.out.s
        clear p0 p1 p2 p3 p4 p5 p6 p7 hbb HO HS
        cases hck : (G.lets c ver life now).2 with
        | false =>
          rw [hck] at hL HT1
          have HL2 := hid hL
          have HT3 : Hid (seenF ver life now SG.zero (l.take (i + 1)) = seenF ver life now SG.zero (l.take i)) := by have := HT1.out; rwa [if_neg (by decide), List.append_nil] at this
          clear hL hck
          go_wp2_with (go_at_call 128; refine HL2.out.mono ?_; rintro e w6 ⟨rfl, hk6, hb6⟩)
          go_roundw
          case rel => exact ⟨i + 1, by omega, by go_num, by rw [HT3.out]; exact HO2.out.but HS2.out.s hb6, by rw [HT2.out]; exact HS2.out.but HNE.out.1 HNE.out.2 hk6 hb6⟩
          case measure => simp [intOf]; omega
        | true =>
          rw [hck] at hL HT1
          have HL2 := hid hL
          have HT3 : Hid (seenF ver life now SG.zero (l.take (i + 1)) = seenF ver life now SG.zero (l.take i) ++ [c]) := by have := HT1.out; rwa [if_pos rfl] at this
          clear hL hck
          have HX : Hid (∀ w6, Blk w6 sb 150 (G.lets c ver life now).1.a → But W.heap.size sb W w6 → SnS w w6 rb sb (G.lets c ver life now).1 ver life now ∧ Blk w6 bb 40 c.e.toArray ∧ CRow w6 w.heap.size u5 (seenF ver life now SG.zero (l.take i))) := fun w6 hk6 hb6 => ⟨HS2.out.but HNE.out.1 HNE.out.2 hk6 hb6, (HW.out.1 : Blk _ _ _ _).butC hb6 HBN.out, HO2.out.but HS2.out.s hb6⟩
          go_wp2_with (first
            | (go_at_call 128; refine HL2.out.mono ?_; rintro e w6 ⟨rfl, hk6, hb6⟩; have HX6 := hid (HX.out w6 hk6 hb6); obtain ⟨e0, e1, e2, e3, e4, e5, e6, e7⟩ := blk_words HX6.out.2.1)
            | (at_builtin; refine wpList_append_cell rfl (.tmp 21) (.tmp 23) rfl _ w.heap.size _ _ rfl (HX6.out.2.2.below (below_new _ _)) _ 1 rfl c (ct_new c _ _) HLn.out (by have := HX6.out.1.b.size; simp; omega) ?_; intro v7 w7 h7 hb7 hm7))
          go_roundw
          case rel =>
            exact ⟨i + 1, by omega, by go_num, by rw [HT3.out]; exact h7, by rw [HT2.out]; exact HX6.out.1.grown HX6.out.2.2 _ hb7 hm7⟩
          case measure => simp [intOf]; omega
      · obtain rfl : i = n := by omega
        have hO2 := HO.out
        rw [List.take_of_length_le (by rw [HN.out]; exact Nat.le_refl _)] at hO2
        have HO2 := hid hO2
        clear hO2
        go_wp2
        go_ret
        exact ⟨_, rfl, HO2.out, HS.out.b⟩
end Go.Proofs.YtfcnobcpnhfgmaaDoor

/- cell.Seen and cell.Needed at every list of cells. Conditions: as cell.Sort's. -/
namespace Go.Proofs.YtfcnobcpnhfgmaaDoor
open Go.RowKit

/-- s is l sorted: of a list of cells the right ones in order, of each place the last one. -/
def SortOf (l s : List CT) : Prop := ∃ l', StbL (l.filter CT.ok) l' ∧ s = lastsM (l'.map Prod.fst)
theorem SortOf.len {l s : List CT} (h : SortOf l s) : s.length ≤ l.length := by
  obtain ⟨l', h1, rfl⟩ := h
  have h2 := lasts_len (l'.map Prod.fst)
  have h3 := h1.perm.length_eq
  have h4 := List.length_filter_le CT.ok l
  rw [List.length_map] at h2
  rw [List.length_zipIdx] at h3
  omega
theorem sort_any (v : Value) (l : List CT) (hl : l.length ≤ 100000) (w : World) (h : ClA w v l) (hok : ∀ c ∈ l, okC c) (hL : LaidU w) :
    Calls Tryd.prog 74 #[v] w fun e w' => ∃ v' s, e = .returned v' ∧ SortOf l s ∧ CRow w' w.heap.size v' s ∧ Below w.heap.size w w' :=
  (csort_any v l hl w h hok hL).mono fun _ _ ⟨v', l', h1, h2, h3, h4⟩ => ⟨v', _, h1, ⟨l', h2, rfl⟩, h3, h4⟩

set_option maxHeartbeats 1000000 in
theorem cseen_any (v : Value) (l : List CT) (hl : l.length ≤ 100000) (ver life now : Int) (w : World) (h : ClA w v l) (hok : ∀ c ∈ l, okC c) (hL : LaidU w) :
    Calls Tryd.prog 33 #[v, .int .i64 ver, .int .i64 life, .int .i64 now] w fun e w' => ∃ v' s, e = .returned v' ∧ SortOf l s ∧ CRow w' w.heap.size v' (seenL ver life now s) ∧ Below w.heap.size w w' := by
  have HS := hid (sort_any v l hl w h hok hL)
  have HSn : Hid (∀ (W : World) (v5 : Value) (s : List CT), SortOf l s → CRow W w.heap.size v5 s → Calls Tryd.prog 79 #[v5, .agg #[.int .i64 ver, .int .i64 life, .int .i64 now]] W fun e w' => ∃ v', e = .returned v' ∧ CRow w' W.heap.size v' (seenL ver life now s) ∧ Below W.heap.size W w') := fun W v5 s h1 h2 => seen_any v5 s (Nat.le_trans h1.len hl) ver life now W h2.cla
  clear h hok hL
  go_enter Tryd.func33, Tryd.ntmps33
  go_wp2_with (first
    | (go_at_call 74; refine HS.out.mono ?_; rintro e w5 ⟨v5, s5, rfl, hq5, hr5, hb5⟩)
    | (go_at_call 79; refine (HSn.out _ _ _ hq5 hr5).mono ?_; rintro e w6 ⟨v6, rfl, hr6, hb6⟩))
  go_ret
  exact ⟨_, s5, rfl, hq5, hr6.le hb5.size, hb5.trans (hb6.mono hb5.size)⟩

set_option maxHeartbeats 1000000 in
theorem cneeded_any (v : Value) (l : List CT) (hl : l.length ≤ 100000) (ver life now : Int) (w : World) (h : ClA w v l) (hok : ∀ c ∈ l, okC c) (hL : LaidU w) :
    Calls Tryd.prog 76 #[v, .int .i64 ver, .int .i64 life, .int .i64 now] w fun e w' => ∃ v' s, e = .returned v' ∧ SortOf l s ∧ CRow w' w.heap.size v' (seenL ver life now s) ∧ Below w.heap.size w w' := by
  have HS := hid (cseen_any v l hl ver life now w h hok hL)
  clear h hok hL
  go_enter Tryd.func76, Tryd.ntmps76
  go_wp2_with (go_at_call 33; refine HS.out.mono ?_; rintro e w5 ⟨v5, s5, rfl, hq5, hr5, hb5⟩)
  go_ret
  exact ⟨_, s5, rfl, hq5, hr5, hb5⟩
end Go.Proofs.YtfcnobcpnhfgmaaDoor

/- joistref00.CopyCells, and what is appended to lists of cells. Conditions: the slices hold their cells, a hundred thousand at most. -/
namespace Go.Proofs.YtfcnobcpnhfgmaaDoor
open Go.RowKit

/-- Nothing is appended. -/
theorem run_append_nocell (w : World) (B : Nat) (v : Value) (l : List CT) (h : CRow w B v l) (c : Nat) : (Builtin.append_ #[22, 22] 22 #[v, .slice none 0 c]).run Tryd.prog w = .ok v w := by
  obtain ⟨i0, hi, hz0, hz1, hz2⟩ := info_parts info_cell
  obtain ⟨h1, h2⟩ := h
  rcases h2 with ⟨rfl, h0⟩ | ⟨g, cap, cur, rfl, hB, hh, hn, hm, hs, ht⟩
  · have h1 := run_underlying (P := Tryd.prog) Tryd.underlying22
    have hlen : (Builtin.lenOf (.slice none 0 c)).run Tryd.prog w = .ok 0 w := rfl
    simp [Builtin.append_, h1, sizeOf, typeInfo, hi, Builtin.firstCells, hlen]
  · have := run_append_room_src (P := Tryd.prog) (w := w) 22 22 22 40 i0 Tryd.underlying22 hi g 0 l.length cap (.slice none 0 c) 0 [] (Src.ofNil w Tryd.underlying22 c) (by omega) (fun j hj => absurd hj (by simp)) (fun j hj => absurd hj (by simp))
    rw [this]
    rfl

section
variable {ops : Array Oper} {rest : List Oper} {o : Oper} {a : Act} {Q : Exit → Act → World → Prop}
/-- append of a slice that holds some cells, or none, to a row of the call's own. -/
theorem wpList_append_cells (hgd : o.guard = Option.none) (s x : Operand)
    (ho : o.op = .call { callee := .builtin .append, args := #[s, x], argTypes := #[22, 22] }) (hty : o.type = 22)
    (w : World) (base : Nat) (v : Value) (l : List CT) (hs : a.eval s = v) (hown : CRow w base v l)
    (m : Value) (news : List CT) (hx : a.eval x = m) (hnews : ClA w m news)
    (hlen : l.length + news.length ≤ 1466015503700) (hbase : base ≤ w.heap.size)
    (h : ∀ v' w', CRow w' base v' (l ++ news) → Below base w w' → w.grownBy w' v.ownBlock → wpList Tryd.prog ops Q rest (a.put o.dst v') w') : wpList Tryd.prog ops Q (o :: rest) a w := by
  obtain ⟨i0, hi, hz0, hz1, hz2⟩ := info_parts info_cell
  obtain ⟨A, c, rfl, hc1, hc2, hh⟩ := hnews
  match A, hx, hh with
  | none, hx, hh =>
    have h0 : news = [] := by
      cases news with
      | nil => rfl
      | cons y t => obtain ⟨b, off, e, _⟩ := hh (by simp); cases e
    subst h0
    refine Lib.wpList_append_run w hgd s x 22 22 ho v _ hs hx v w ?_ (h v w (by rwa [List.append_nil]) (Below.refl _ _) ⟨rfl, rfl, rfl, Nat.le_refl _, fun _ _ _ => rfl⟩)
    rw [hty]
    exact run_append_nocell w base v l hown c
  | some ad, hx, hh =>
    refine wpList_append_own w hgd s x 22 ho base 40 i0 _ 8 96 Tryd.underlying22 hi hz0 hz1 hz2 rfl (by decide) v l.length (flatC l) hs hown ad news.length c (flatC news) hx (flatC_len news) (fun j u hu => ?_) (fun u hu => ?_) (by unfold maxLen; omega) (by omega) hbase ?_
    · have hj : j < (flatC news).length := by
        rcases Nat.lt_or_ge j (flatC news).length with h1 | h1
        · exact h1
        · rw [List.getElem?_eq_none h1] at hu; cases hu
      rw [flatC_len] at hj
      obtain ⟨b, off, e, hh2⟩ := hh (by omega)
      cases e
      have hi8 : j / 8 < news.length := by omega
      have h1 := hh2 (j / 8) hi8 (j % 8) (by omega)
      have h2 := flatC_at news (j / 8) (j % 8) hi8 (by omega)
      rw [show off + j / 8 * 8 + j % 8 = off + j by omega] at h1
      rw [show j / 8 * 8 + j % 8 = j by omega] at h2
      rw [add_zero_off, h1, ← h2]
      exact hu
    · have : ∀ (t : List CT), ∀ u ∈ flatC t, u.oneCell' = true := by
        intro t
        induction t with
        | nil => intro u hu; cases hu
        | cons y t ih =>
          intro u hu
          rcases List.mem_append.1 hu with hu | hu
          · exact y.e_one u hu
          · exact ih u hu
      exact this news u hu
    · intro v' w' h1 h2 _
      refine h v' w' ?_ ((Below.refl _ _).grown h2 hbase fun k hk => (World.ownsRow.lt hown k hk).1) h2
      unfold CRow
      rw [flatC_app, List.length_append]
      exact h1
end

theorem empty_crow (W : World) (B : Nat) (hB : B ≤ W.heap.size) : CRow (W.alloc (.cells #[] 40)) B (.slice (some ⟨W.heap.size, 0, none⟩) 0 0) [] := ⟨rfl, .inr ⟨W.heap.size, 0, #[], rfl, hB, Blk.new _ _ _, Nat.le_refl _, by unfold maxLen; omega, rfl, rfl⟩⟩
set_option maxHeartbeats 1000000 in
theorem copycells_any (v : Value) (l : List CT) (hl : l.length ≤ 1466015503658) (w : World) (h : ClA w v l) :
    Calls Tryd.prog 18 #[v] w fun e w' => ∃ v', e = .returned v' ∧ CRow w' w.heap.size v' l ∧ Below w.heap.size w w' := by
  have HS := hid h
  have HR := hid (empty_crow w w.heap.size (Nat.le_refl _))
  have HL := hid hl
  obtain ⟨A, c, rfl, _⟩ := h
  clear hl
  go_enter Tryd.func18, Tryd.ntmps18
  go_wp2_with (at_builtin; refine wpList_append_cells rfl (.tmp 5) (.tmp 6) rfl rfl _ w.heap.size _ [] rfl HR.out _ l rfl (HS.out.below (below_new w _)) (by have := HL.out; simp only [List.length_nil]; omega) (by simp) ?_; intro v' w' hR' hb' _)
  go_ret
  exact ⟨_, rfl, hR', (below_new w _).trans hb'⟩
end Go.Proofs.YtfcnobcpnhfgmaaDoor

/- The writer of package codec: what it leaves alone; a text's bytes, each 0 escaped, and a time, behind what a buffer holds. Conditions: buffers of at most a million bytes, texts of at most a thousand. -/
namespace Go.Proofs.YtfcnobcpnhfgmaaDoor
open Go.RowKit

/-- What a writer in block b does: nothing below B, and above it nothing but to its own block and to rows of bytes. -/
structure WF (B b : Nat) (w w' : World) : Prop where
  below : Below B w w'
  kept : Lib.OthersKept 5 (some b) w w'
section
variable {B b : Nat} {w w1 w' : World}
theorem WF.refl (B b : Nat) (w : World) : WF B b w w := ⟨Below.refl _ _, Lib.OthersKept.refl _ _ _⟩
theorem WF.trans (h : WF B b w w1) (k : WF B b w1 w') : WF B b w w' := ⟨h.below.trans k.below, h.kept.trans k.kept⟩
theorem WF.drew (h : WF B b w w1) : WF B b w w1.drew := ⟨h.below.drew, h.kept.drew⟩
theorem WF.size (h : WF B b w w1) : w.heap.size ≤ w1.heap.size := h.below.size
theorem WF.alloc (h : WF B b w w1) (hB : B ≤ w.heap.size) (o : Obj) : WF B b w (w1.alloc o) := ⟨h.below.alloc (Nat.le_trans hB h.size) o, h.kept.alloc o⟩
theorem WF.of_below (h : Below w.heap.size w w') (hB : B ≤ w.heap.size) : WF B b w w' := ⟨h.mono hB, (Lib.OthersKept.refl _ _ _).below h⟩
theorem WF.blk (h : WF B b w w') {k : Nat} {T : TypeId} {xs : Array Value} (hk : Blk w k T xs) (hb : k ≠ b) (hT : T ≠ 5) : Blk w' k T xs :=
  h.kept k _ hk (by simpa using hb) (by intro c fz e; injection e with _ e2 _; exact hT e2)
theorem WF.mono {B' : Nat} (h : WF B b w w') (hb : B' ≤ B) : WF B' b w w' := ⟨h.below.mono hb, h.kept⟩
theorem hwf_refl (B b : Nat) (w : World) : Hid (WF B b w w) := WF.refl B b w
theorem hwf_drew (h : Hid (WF B b w w1)) : Hid (WF B b w w1.drew) := h.out.drew
theorem hwf_call (h : Hid (WF B b w w1)) (k : WF B b w1 w') : Hid (WF B b w w') := h.out.trans k
end

theorem wbyte' (B b : Nat) (l : List UInt8) (hl : l.length ≤ 1000000) (c : UInt8) (x : Int) (hx : x = (c.toNat : Int)) (w : World) (h : Wr w B b l) (hB : B ≤ w.heap.size) :
    Calls Tryd.prog 131 #[.pointer (some ⟨b, 0, none⟩), .int .u8 x] w fun e w' => e = .returned .nilIface ∧ Wr w' B b (l ++ [c]) ∧ WF B b w w' := by
  subst hx
  refine (Tryd.Buffer_WriteByte_at 120 (fun _ => none) B b 0 (bc l) (c.toNat : Int) w h hB (bc_one l) (by rw [bc_len]; omega)).mono ?_
  rintro e w' ⟨rfl, h1, h2, h3⟩
  refine ⟨rfl, ?_, h2, h3⟩
  unfold Wr
  rw [bc_app]
  exact h1
theorem wwrite' (B b : Nat) (l cs : List UInt8) (hl : l.length + cs.length ≤ 1000000) (a : Addr) (n c : Nat) (hn : cs.length = n) (hab : a.block ≠ b) (w : World) (h : Wr w B b l) (hB : B ≤ w.heap.size) (hsrc : ∀ j u, (bc cs)[j]? = some u → w.cell? (a.add j) = some u) :
    Calls Tryd.prog 110 #[.pointer (some ⟨b, 0, none⟩), .slice (some a) n c] w fun e w' => e = .returned (.tuple #[.int .i64 n, .nilIface]) ∧ Wr w' B b (l ++ cs) ∧ WF B b w w' := by
  refine (Tryd.Buffer_Write_at 120 (fun _ => none) B b 0 (bc l) (bc cs) a n c w h hB (bc_one l) (by rw [bc_len]; exact hn) hab hsrc (bc_one cs) (by rw [bc_len]; omega)).mono ?_
  rintro e w' ⟨rfl, h1, h2, h3⟩
  refine ⟨rfl, ?_, h2, h3⟩
  unfold Wr
  rw [bc_app]
  exact h1
theorem Wr.lt {w : World} {B b : Nat} {l : List UInt8} (h : Wr w B b l) : b < w.heap.size := LibA.IsBuffer.lt h
theorem Wr.alloc {w : World} {B b : Nat} {l : List UInt8} (h : Wr w B b l) (o : Obj) : Wr (w.alloc o) B b l := LibA.IsBuffer.alloc h o

set_option maxRecDepth 100000 in
set_option maxHeartbeats 2000000 in
theorem wtext_any (B b : Nat) (s : ByteArray) (hs : s.size ≤ 1000) (l : List UInt8) (hl : l.length ≤ 10000) (w : World) (h : Wr w B b l) (hB : B ≤ w.heap.size) :
    Calls Tryd.prog 132 #[.pointer (some ⟨b, 0, none⟩), .string s] w fun e w' => e = .returned (.tuple #[]) ∧ Wr w' B b (l ++ (esc s.data.toList ++ [0, 1])) ∧ WF B b w w' := by
  have HBB := hid hB
  have HC : Hid (∀ (W : World) (c : UInt8) (x : Int) (m : List UInt8), m.length ≤ 100000 → x = (c.toNat : Int) → Wr W B b m → B ≤ W.heap.size → Calls Tryd.prog 131 #[.pointer (some ⟨b, 0, none⟩), .int .u8 x] W fun e w' => e = .returned .nilIface ∧ Wr w' B b (m ++ [c]) ∧ WF B b W w') :=
    fun W c x m h1 hx h2 h3 => wbyte' B b m (by omega) c x hx W h2 h3
  have HE : Hid (∀ (W : World) (m : List UInt8), m.length ≤ 100000 → Wr W B b m → B ≤ W.heap.size → Calls Tryd.prog 110 #[.pointer (some ⟨b, 0, none⟩), .slice (some ⟨W.heap.size, 0, none⟩) 2 2] (W.alloc (.cells #[.int .u8 0, .int .u8 1] 5)) fun e w' => e = .returned (.tuple #[.int .i64 2, .nilIface]) ∧ Wr w' B b (m ++ [0, 1]) ∧ WF B b (W.alloc (.cells #[.int .u8 0, .int .u8 1] 5)) w') :=
    fun W m h1 h2 h3 => wwrite' B b m [0, 1] (by simp only [List.length_cons, List.length_nil]; omega) _ 2 2 rfl (by have := Wr.lt h2; simp; omega) _ (Wr.alloc h2 _) (by simp; omega) (two_new W 0 1 _ 0 1 rfl rfl)
  have HW := hid h
  clear h hB
  go_enter Tryd.func132, Tryd.ntmps132
  go_wp2
  go_loopw [7] (fun vi wr => ∃ k : Nat, k ≤ s.size ∧ vi = .int .i64 k ∧ Hid (Wr wr B b (l ++ esc (s.data.toList.take k))) ∧ Hid (WF B b w wr)) (fun vi _ => s.size - (intOf vi).toNat)
  case atStart => exact ⟨0, by omega, rfl, by simpa [esc] using HW, WF.refl _ _ _⟩
  case round =>
    obtain ⟨k, hk, rfl, hR, hbel⟩ := hrel
    have HL : Hid ((l ++ esc (s.data.toList.take k)).length ≤ 13000) := by
      have := esc_take_len s k hk
      unfold Hid
      rw [List.length_append]
      omega
    have HBr : Hid (B ≤ wr.heap.size) := Nat.le_trans HBB.out hbel.out.size
    by_cases hlt : k < s.size
    · have HS := hid (esc_snoc s k hlt)
      go_wp2
      have HN := hwf_refl B b wr
      go_region_held3 (fun w' => Hid (WF B b wr w'))
        (first | exact HN | exact hwf_drew HN | exact hwf_call (by assumption) hbo | exact hwf_drew (by assumption) | assumption)
        ((go_at_call 131; ((with_reducible refine (HC.out _ s[k] _ (l ++ esc (s.data.toList.take k)) (by have := HL.out; omega) rfl ?_ ?_).mono ?_); (first | exact hR.out | exact LibA.IsBuffer.drew hR.out); exact HBr.out; rintro e w1 ⟨rfl, h1, hbo⟩)))
      rename_i hHeld
      have HS1 : Hid (B ≤ w1.heap.size) := Nat.le_trans HBr.out hHeld.out.size
      by_cases hz : s[k] = 0
      · have q0 : ((s[k].toNat : Int) == 0) = true := by rw [hz]; rfl
        go_wp2_with (go_at_call 131; refine (HC.out _ 255 _ _ (by have := HL.out; rw [List.length_append]; simp only [List.length_cons, List.length_nil]; omega) rfl h1 HS1.out).mono ?_; rintro e w2 ⟨rfl, h2, k2⟩)
        go_roundw
        case rel =>
          refine ⟨k + 1, by omega, by go_num, ?_, (hbel.out.trans hHeld.out).trans k2⟩
          rw [HS.out, if_pos hz]
          have := h2
          simp only [List.append_assoc, List.cons_append, List.nil_append] at this ⊢
          exact this
        case measure => simp [intOf]; omega
      · have q0 : ((s[k].toNat : Int) == 0) = false := by
          have : ¬ s[k].toNat = 0 := fun e => hz (UInt8.toNat_inj.1 e)
          simp; omega
        go_wp2
        go_roundw
        case rel =>
          refine ⟨k + 1, by omega, by go_num, ?_, hbel.out.trans hHeld.out⟩
          rw [HS.out, if_neg hz, ← List.append_assoc]
          exact h1
        case measure => simp [intOf]; omega
    · obtain rfl : k = s.size := by omega
      go_wp2_with (go_at_call 110; refine (HE.out _ _ (by have := HL.out; omega) hR.out HBr.out).mono ?_; rintro e w1 ⟨rfl, h1, h2⟩)
      go_end0
      refine ⟨rfl, ?_, (hbel.out.alloc HBB.out _).trans h2⟩
      have := h1
      rwa [List.take_of_length_le (by simp), List.append_assoc] at this
end Go.Proofs.YtfcnobcpnhfgmaaDoor

/- The writer's time and key. Conditions: buffers of at most ten thousand bytes; the parts as short as a right cell's are. -/
namespace Go.Proofs.YtfcnobcpnhfgmaaDoor
open Go.RowKit

theorem time_byte (r i : Nat) (hi : i < 8) : ((r : Int) / 2 ^ (8 * (7 - (i : Int))).toNat % 256) = ((UInt8.ofNat (r / 256 ^ (8 - 1 - i) % 256)).toNat : Int) := by
  have e : (8 * (7 - (i : Int))).toNat = 8 * (7 - i) := by omega
  rw [e, byte_at, show 8 - 1 - i = 7 - i by omega]

set_option maxRecDepth 100000 in
set_option maxHeartbeats 2000000 in
theorem wtime_any (B b : Nat) (t : Int) (h0 : 0 ≤ t) (h1 : t ≤ 1099511627776) (l : List UInt8) (hl : l.length ≤ 10000) (w : World) (h : Wr w B b l) (hB : B ≤ w.heap.size) :
    Calls Tryd.prog 133 #[.pointer (some ⟨b, 0, none⟩), .int .i64 t] w fun e w' => e = .returned (.tuple #[]) ∧ Wr w' B b (l ++ byW 8 (9223372036854775807 - t).toNat) ∧ WF B b w w' := by
  have HBB := hid hB
  have HW := hid h
  obtain ⟨r, hr⟩ : ∃ r : Nat, 9223372036854775807 - t = (r : Int) := ⟨(9223372036854775807 - t).toNat, by omega⟩
  have hr1 : r < 9223372036854775808 := by omega
  have HC : Hid (∀ (W : World) (i : Nat) (x : Int), i < 8 → x = ((r : Int) / 2 ^ (8 * (7 - (i : Int))).toNat % 256) → Wr W B b (l ++ (byW 8 r).take i) → B ≤ W.heap.size → Calls Tryd.prog 131 #[.pointer (some ⟨b, 0, none⟩), .int .u8 x] W fun e w' => e = .returned .nilIface ∧ Wr w' B b (l ++ (byW 8 r).take (i + 1)) ∧ WF B b W w') := by
    intro W i x hi hx h2 h3
    have := wbyte' B b (l ++ (byW 8 r).take i) (by have := byW_len 8 r; simp; omega) (UInt8.ofNat (r / 256 ^ (8 - 1 - i) % 256)) x (by rw [hx, time_byte r i hi]) W h2 h3
    rwa [List.append_assoc, ← byW_take 8 r i hi] at this
  rw [hr, Int.toNat_natCast]
  clear h hB
  go_enter Tryd.func133, Tryd.ntmps133
  go_wp2
  go_loopw [9] (fun vi wr => ∃ i : Nat, i ≤ 8 ∧ vi = .int .i64 i ∧ Hid (Wr wr B b (l ++ (byW 8 r).take i)) ∧ Hid (WF B b w wr)) (fun vi _ => 8 - (intOf vi).toNat)
  case atStart => exact ⟨0, by omega, rfl, by simpa using HW, WF.refl _ _ _⟩
  case round =>
    obtain ⟨i, hi, rfl, hR, hbel⟩ := hrel
    have HBr : Hid (B ≤ wr.heap.size) := Nat.le_trans HBB.out hbel.out.size
    by_cases hlt : i < 8
    · have HCi : Hid (∀ x : Int, x = ((r : Int) / 2 ^ (8 * (7 - (i : Int))).toNat % 256) → Calls Tryd.prog 131 #[.pointer (some ⟨b, 0, none⟩), .int .u8 x] wr fun e w' => e = .returned .nilIface ∧ Wr w' B b (l ++ (byW 8 r).take (i + 1)) ∧ WF B b wr w') := fun x hx => HC.out wr i x hlt hx hR.out HBr.out
      have HCd : Hid (∀ x : Int, x = ((r : Int) / 2 ^ (8 * (7 - (i : Int))).toNat % 256) → Calls Tryd.prog 131 #[.pointer (some ⟨b, 0, none⟩), .int .u8 x] wr.drew fun e w' => e = .returned .nilIface ∧ Wr w' B b (l ++ (byW 8 r).take (i + 1)) ∧ WF B b wr.drew w') := fun x hx => HC.out wr.drew i x hlt hx hR.out HBr.out
      have e11 : Hid (IntKind.u8.wrap ((r : Int) / 2 ^ (8 * (7 - (i : Int))).toNat) = (r : Int) / 2 ^ (8 * (7 - (i : Int))).toNat % 256) := by unfold Hid; rw [IntKind.wrap_u8]
      have e7 : IntKind.i64.wrap (7 - (i : Int)) = 7 - (i : Int) := by rw [IntKind.wrap_i64]; omega
      have e8 : IntKind.i64.wrap (8 * (7 - (i : Int))) = 8 * (7 - (i : Int)) := by rw [IntKind.wrap_i64]; omega
      have e9 : (0 : Int) ≤ 8 * (7 - (i : Int)) := by omega
      have e10 : ¬ (8 * (7 - (i : Int)) < 0) := by omega
      go_wp2
      have HN := hwf_refl B b wr
      go_region_held3 (fun w' => Hid (WF B b wr w'))
        (first | exact HN | exact hwf_drew HN | exact hwf_call (by assumption) hbo | exact hwf_drew (by assumption) | assumption)
        (first
          | (go_at_call 131; ((with_reducible refine (HCi.out _ e11.out).mono ?_); rintro e w1 ⟨rfl, h1, hbo⟩))
          | (go_at_call 131; ((with_reducible refine (HCd.out _ e11.out).mono ?_); rintro e w1 ⟨rfl, h1, hbo⟩)))
      rename_i hHeld
      go_wp2
      go_roundw
      case rel => exact ⟨i + 1, by omega, by go_num, h1, hbel.out.trans hHeld.out⟩
      case measure => simp [intOf]; omega
    · obtain rfl : i = 8 := by omega
      go_wp2
      go_end0
      refine ⟨rfl, ?_, hbel.out⟩
      have := hR.out
      rwa [List.take_of_length_le (by rw [byW_len]; exact Nat.le_refl _)] at this

/-- A cell in block cb, while a writer writes. -/
abbrev KeyS (B b cb : Nat) (xs : Array Value) (k : Int) (W0 w' : World) : Prop := Hid (WF B b W0 w' ∧ Blk w' cb 40 xs ∧ cb ≠ b ∧ xs[4]? = some (.int .i64 k)) ∧ w'.cell? ⟨cb, 4, none⟩ = some (.int .i64 k)
theorem keys_drew {B b cb : Nat} {xs : Array Value} {k : Int} {W0 W : World} (h : KeyS B b cb xs k W0 W) : KeyS B b cb xs k W0 W.drew := ⟨hid ⟨h.1.out.1.drew, h.1.out.2⟩, h.2⟩
theorem keys_call {B b cb : Nat} {xs : Array Value} {k : Int} {W0 W W' : World} (h : KeyS B b cb xs k W0 W) (hk : WF B b W W') : KeyS B b cb xs k W0 W' := by
  obtain ⟨h1, h2, h3, h4⟩ := h.1.out
  have hb := hk.blk h2 h3 (by decide)
  exact ⟨hid ⟨h1.trans hk, hb, h3, h4⟩, (hb.cell 4).trans h4⟩

set_option maxRecDepth 100000 in
set_option maxHeartbeats 4000000 in
theorem wkey_any (B b : Nat) (r f q vs : ByteArray) (t k vk vn : Int) (hr : r.size ≤ 16) (hf : f.size ≤ 8) (hq : q.size ≤ 12) (h0 : 0 ≤ t) (h1 : t ≤ 1099511627776) (hk1 : 1 ≤ k) (hk4 : k ≤ 4) (w : World) (h : Wr w B b []) (hB : B ≤ w.heap.size) :
    Calls Tryd.prog 92 #[.pointer (some ⟨b, 0, none⟩), cellV r f q t k vk vn vs] w fun e w' => e = .returned (.tuple #[]) ∧ Wr w' B b (keyM r.data.toList f.data.toList q.data.toList t k) ∧ WF B b w w' := by
  have HBB := hid hB
  have hbl := Wr.lt h
  have HNE : Hid (w.heap.size ≠ b) := by unfold Hid; omega
  have HL : ∀ s : ByteArray, (esc s.data.toList).length ≤ 2 * s.size := fun s => esc_len _
  have HT : Hid (∀ (W : World) (s : ByteArray) (m : List UInt8), s.size ≤ 16 → m.length ≤ 1000 → Wr W B b m → B ≤ W.heap.size → Calls Tryd.prog 132 #[.pointer (some ⟨b, 0, none⟩), .string s] W fun e w' => e = .returned (.tuple #[]) ∧ Wr w' B b (m ++ (esc s.data.toList ++ [0, 1])) ∧ WF B b W w') :=
    fun W s m hs hm h2 h3 => wtext_any B b s (by omega) m (by omega) W h2 h3
  have HM : Hid (∀ (W : World) (m : List UInt8), m.length ≤ 1000 → Wr W B b m → B ≤ W.heap.size → Calls Tryd.prog 133 #[.pointer (some ⟨b, 0, none⟩), .int .i64 t] W fun e w' => e = .returned (.tuple #[]) ∧ Wr w' B b (m ++ byW 8 (9223372036854775807 - t).toNat) ∧ WF B b W w') :=
    fun W m hm h2 h3 => wtime_any B b t h0 h1 m (by omega) W h2 h3
  have HK : Hid (∀ (W : World) (m : List UInt8) (x : Int), m.length ≤ 1000 → x = 255 - k → Wr W B b m → B ≤ W.heap.size → Calls Tryd.prog 131 #[.pointer (some ⟨b, 0, none⟩), .int .u8 x] W fun e w' => e = .returned .nilIface ∧ Wr w' B b (m ++ [UInt8.ofNat (255 - k).toNat]) ∧ WF B b W w') :=
    fun W m x hm hx h2 h3 => wbyte' B b m (by omega) _ x (by rw [hx, UInt8.toNat_ofNat']; omega) W h2 h3
  have HE : Hid (∀ (W : World) (m : List UInt8), m.length ≤ 1000 → Wr W B b m → B ≤ W.heap.size → Calls Tryd.prog 110 #[.pointer (some ⟨b, 0, none⟩), .slice (some ⟨W.heap.size, 0, none⟩) 2 2] (W.alloc (.cells #[.int .u8 0, .int .u8 0] 5)) fun e w' => e = .returned (.tuple #[.int .i64 2, .nilIface]) ∧ Wr w' B b (m ++ [0, 0]) ∧ WF B b (W.alloc (.cells #[.int .u8 0, .int .u8 0] 5)) w') :=
    fun W m h1 h2 h3 => wwrite' B b m [0, 0] (by simp only [List.length_cons, List.length_nil]; omega) _ 2 2 rfl (by have := Wr.lt h2; simp; omega) _ (Wr.alloc h2 _) (by simp; omega) (two_new W 0 0 _ 0 0 rfl rfl)
  have HA := hid (Wr.alloc h (.cells #[.string r, .string f, .string q, .int .i64 t, .int .i64 k, .int .i64 vk, .int .i64 vn, .string vs] 40))
  have B0 := hid (Blk.new w 40 #[.string r, .string f, .string q, .int .i64 t, .int .i64 k, .int .i64 vk, .int .i64 vn, .string vs])
  have HLr := hid (HL r)
  have HLf := hid (HL f)
  have HLq := hid (HL q)
  clear h hB hbl HL
  have HSZ : Hid (∀ W W' : World, WF B b W W' → B ≤ W.heap.size → B ≤ W'.heap.size) := fun W W' h h' => Nat.le_trans h' h.size
  have HS0 : Hid (B ≤ (w.alloc (.cells #[.string r, .string f, .string q, .int .i64 t, .int .i64 k, .int .i64 vk, .int .i64 vn, .string vs] 40)).heap.size) := by have := HBB.out; unfold Hid; simp; omega
  by_cases h4 : k = 4
  · subst h4
    go_enter Tryd.func92, Tryd.ntmps92
    go_wp2_with (first
      | (go_at_call 132; ((with_reducible refine (HT.out _ r [] hr (by decide) HA.out HS0.out).mono ?_); rintro e w1 ⟨rfl, h1, k1⟩; have HS1 := hid (HSZ.out _ _ k1 HS0.out); have B1 := hid (k1.blk B0.out HNE.out (by decide)); have g1 : w1.cell? ⟨w.heap.size, 1, none⟩ = some (.string f) := B1.out.cell 1))
      | (go_at_call 132; ((with_reducible refine (HT.out _ f _ (by omega) (by have := HLr.out; simp; omega) h1 HS1.out).mono ?_); rintro e w2 ⟨rfl, h2, k2⟩; have HS2 := hid (HSZ.out _ _ k2 HS1.out); have B2 := hid (k2.blk B1.out HNE.out (by decide)); have g2 : w2.cell? ⟨w.heap.size, 4, none⟩ = some (.int .i64 4) := B2.out.cell 4))
      | (go_at_call 110; ((refine (HE.out w2 _ (by have := HLr.out; have := HLf.out; simp; omega) h2 HS2.out).mono ?_); rintro e w3 ⟨rfl, h3, k3⟩; have HS3 := hid (HSZ.out _ _ k3 (by have := HS2.out; simp; omega)); have B3 := hid (k3.blk (B2.out.keep (below_new w2 _) B2.out.lt) HNE.out (by decide)); have g3 : w3.cell? ⟨w.heap.size, 3, none⟩ = some (.int .i64 t) := B3.out.cell 3))
      | (go_at_call 133; ((with_reducible refine (HM.out _ _ (by have := HLr.out; have := HLf.out; simp; omega) h3 HS3.out).mono ?_); rintro e w4 ⟨rfl, h4, k4⟩; have HS4 := hid (HSZ.out _ _ k4 HS3.out); have B4 := hid (k4.blk B3.out HNE.out (by decide)); have g4 : w4.cell? ⟨w.heap.size, 4, none⟩ = some (.int .i64 4) := B4.out.cell 4)))
    have HX : Hid (∀ W, Wr W B b ([] ++ (esc r.data.toList ++ [0, 1]) ++ (esc f.data.toList ++ [0, 1]) ++ [0, 0] ++ byW 8 (9223372036854775807 - t).toNat) → B ≤ W.heap.size → Calls Tryd.prog 131 #[.pointer (some ⟨b, 0, none⟩), .int .u8 (IntKind.u8.wrap (IntKind.i64.wrap 251))] W fun e w' => e = .returned .nilIface ∧ Wr w' B b (([] ++ (esc r.data.toList ++ [0, 1]) ++ (esc f.data.toList ++ [0, 1]) ++ [0, 0] ++ byW 8 (9223372036854775807 - t).toNat) ++ [UInt8.ofNat (255 - (4 : Int)).toNat]) ∧ WF B b W w') :=
      fun W hW hs => HK.out W _ _ (by have := HLr.out; have := HLf.out; simp [byW_len]; omega) rfl hW hs
    have HN : KeyS B b w.heap.size #[.string r, .string f, .string q, .int .i64 t, .int .i64 4, .int .i64 vk, .int .i64 vn, .string vs] 4 w4 w4 := ⟨hid ⟨WF.refl _ _ _, B4.out, HNE.out, rfl⟩, g4⟩
    go_region_held3 (fun w' => Hid (WF B b w4 w' ∧ Blk w' w.heap.size 40 #[.string r, .string f, .string q, .int .i64 t, .int .i64 4, .int .i64 vk, .int .i64 vn, .string vs] ∧ w.heap.size ≠ b ∧ (#[.string r, .string f, .string q, .int .i64 t, .int .i64 4, .int .i64 vk, .int .i64 vn, .string vs] : Array Value)[4]? = some (.int .i64 4)) ∧ w'.cell? ⟨w.heap.size, 4, none⟩ = some (.int .i64 4))
      (first | exact HN | exact keys_drew HN | exact keys_call (by assumption) hbo | exact keys_drew (by assumption) | assumption)
      ((go_at_call 131; ((with_reducible refine (HX.out _ ?_ ?_).mono ?_); (first | exact h4 | exact LibA.IsBuffer.drew h4); exact HS4.out; rintro e w5 ⟨rfl, h5, hbo⟩)))
    rename_i hHeld
    go_end0
    refine ⟨rfl, ?_, ((((WF.refl B b w).alloc HBB.out _).trans k1).trans k2).trans ((((WF.refl B b w2).alloc HS2.out _).trans k3).trans (k4.trans hHeld.1.out.1))⟩
    have := h5
    unfold keyM midM tailM
    rw [if_pos rfl]
    simpa using this
  · have q0 : (k == 4) = false := by simpa using h4
    have e12 : IntKind.i64.wrap (255 - k) = 255 - k := by rw [IntKind.wrap_i64]; omega
    go_enter Tryd.func92, Tryd.ntmps92
    go_wp2_with (first
      | (go_at_call 132; ((with_reducible refine (HT.out _ r [] hr (by decide) HA.out HS0.out).mono ?_); rintro e w1 ⟨rfl, h1, k1⟩; have HS1 := hid (HSZ.out _ _ k1 HS0.out); have B1 := hid (k1.blk B0.out HNE.out (by decide)); have g1 : w1.cell? ⟨w.heap.size, 1, none⟩ = some (.string f) := B1.out.cell 1))
      | (go_at_call 132; ((with_reducible refine (HT.out _ f _ (by omega) (by have := HLr.out; simp; omega) h1 HS1.out).mono ?_); rintro e w2 ⟨rfl, h2, k2⟩; have HS2 := hid (HSZ.out _ _ k2 HS1.out); have B2 := hid (k2.blk B1.out HNE.out (by decide)); have g2 : w2.cell? ⟨w.heap.size, 4, none⟩ = some (.int .i64 k) := B2.out.cell 4; have g2' : w2.cell? ⟨w.heap.size, 2, none⟩ = some (.string q) := B2.out.cell 2))
      | (go_at_call 132; ((with_reducible refine (HT.out _ q _ (by omega) (by have := HLr.out; have := HLf.out; simp; omega) h2 HS2.out).mono ?_); rintro e w3 ⟨rfl, h3, k3⟩; have HS3 := hid (HSZ.out _ _ k3 HS2.out); have B3 := hid (k3.blk B2.out HNE.out (by decide)); have g3 : w3.cell? ⟨w.heap.size, 3, none⟩ = some (.int .i64 t) := B3.out.cell 3))
      | (go_at_call 133; ((with_reducible refine (HM.out _ _ (by have := HLr.out; have := HLf.out; have := HLq.out; simp; omega) h3 HS3.out).mono ?_); rintro e w4 ⟨rfl, h4', k4⟩; have HS4 := hid (HSZ.out _ _ k4 HS3.out); have B4 := hid (k4.blk B3.out HNE.out (by decide)); have g4 : w4.cell? ⟨w.heap.size, 4, none⟩ = some (.int .i64 k) := B4.out.cell 4)))
    have HX : Hid (∀ W, Wr W B b ([] ++ (esc r.data.toList ++ [0, 1]) ++ (esc f.data.toList ++ [0, 1]) ++ (esc q.data.toList ++ [0, 1]) ++ byW 8 (9223372036854775807 - t).toNat) → B ≤ W.heap.size → Calls Tryd.prog 131 #[.pointer (some ⟨b, 0, none⟩), .int .u8 (IntKind.u8.wrap (255 - k))] W fun e w' => e = .returned .nilIface ∧ Wr w' B b (([] ++ (esc r.data.toList ++ [0, 1]) ++ (esc f.data.toList ++ [0, 1]) ++ (esc q.data.toList ++ [0, 1]) ++ byW 8 (9223372036854775807 - t).toNat) ++ [UInt8.ofNat (255 - k).toNat]) ∧ WF B b W w') :=
      fun W hW hs => HK.out W _ _ (by have := HLr.out; have := HLf.out; have := HLq.out; simp [byW_len]; omega) (by rw [IntKind.wrap_u8]; omega) hW hs
    have HN : KeyS B b w.heap.size #[.string r, .string f, .string q, .int .i64 t, .int .i64 k, .int .i64 vk, .int .i64 vn, .string vs] k w4 w4 := ⟨hid ⟨WF.refl _ _ _, B4.out, HNE.out, rfl⟩, g4⟩
    go_region_held3 (fun w' => Hid (WF B b w4 w' ∧ Blk w' w.heap.size 40 #[.string r, .string f, .string q, .int .i64 t, .int .i64 k, .int .i64 vk, .int .i64 vn, .string vs] ∧ w.heap.size ≠ b ∧ (#[.string r, .string f, .string q, .int .i64 t, .int .i64 k, .int .i64 vk, .int .i64 vn, .string vs] : Array Value)[4]? = some (.int .i64 k)) ∧ w'.cell? ⟨w.heap.size, 4, none⟩ = some (.int .i64 k))
      (first | exact HN | exact keys_drew HN | exact keys_call (by assumption) hbo | exact keys_drew (by assumption) | assumption)
      ((go_at_call 131; ((with_reducible refine (HX.out _ ?_ ?_).mono ?_); (first | exact h4' | exact LibA.IsBuffer.drew h4'); exact HS4.out; rintro e w5 ⟨rfl, h5, hbo⟩)))
    rename_i hHeld
    go_end0
    refine ⟨rfl, ?_, ((((WF.refl B b w).alloc HBB.out _).trans k1).trans k2).trans (k3.trans (k4.trans hHeld.1.out.1))⟩
    have := h5
    unfold keyM midM tailM
    rw [if_neg h4]
    simpa using this
end Go.Proofs.YtfcnobcpnhfgmaaDoor

/- codec.Encode: the bytes of every right cell. Conditions: the texts are no longer than any are, the number of the value one of 64 bits; the tables of utf8 read as they are laid. -/
namespace Go.Proofs.YtfcnobcpnhfgmaaDoor
open Go.RowKit

theorem wp_ltr {P : Program} {c : Code} {Q : Exit → Act → World → Prop} {a : Act} {w : World} (F : World → Prop) (h0 : F w) (h : ∀ W, F W → c.wp P Q a W) : c.wp P Q a w := h w h0
abbrev wr0 (W : World) : World := W.alloc (.cells #[.slice none 0 0, .int .i64 0, .int .i8 0] 120)

set_option maxRecDepth 100000 in
set_option maxHeartbeats 2000000 in
theorem encode_no (r f q vs : ByteArray) (t k vk : Int) {vn : Int} (hn : inI vn) (hf : f.size ≤ 9223372036854775807) (hv : vs.size ≤ 9223372036854775807) (w : World) (hL : LaidU w) (hr : cRight r.data.toList f.data.toList q.data.toList t k vk vn vs.data.toList = false) :
    Calls Tryd.prog 60 #[cellV r f q t k vk vn vs] w fun e w' => e = .returned (.tuple #[.slice none 0 0, .bool false]) ∧ Below w.heap.size w w' := by
  have HR : Hid (∀ W, Below w.heap.size w W → Calls Tryd.prog 61 #[cellV r f q t k vk vn vs] W fun e w' => e = .returned (.bool false) ∧ Below W.heap.size W w') := fun W hW => by
    have := cright_any r f q vs t k vk hn hf hv W (hL.below hW)
    rwa [hr] at this
  clear hL hr
  go_enter Tryd.func60, Tryd.ntmps60
  go_wp2_with (go_at_call 61; refine (HR.out _ (below_new _ _)).mono ?_; rintro e w1 ⟨rfl, hb⟩)
  go_ret2
  exact ⟨rfl, (below_new _ _).trans (hb.mono (by simp))⟩

theorem row_write {w : World} {B : Nat} {v : Value} {l : List UInt8} (h : Row w B v l) (hl : 0 < l.length) : ∃ g c, v = .slice (some ⟨g, 0, none⟩) l.length c ∧ B ≤ g ∧ ∀ j u, (bc l)[j]? = some u → w.cell? ((⟨g, 0, none⟩ : Addr).add j) = some u := by
  obtain ⟨g, c, rfl, hB, _, _, hc⟩ := h.form hl
  refine ⟨g, c, rfl, hB, fun j u hu => ?_⟩
  have hj : j < l.length := by
    rcases Nat.lt_or_ge j l.length with h1 | h1
    · exact h1
    · rw [bc_at, List.getElem?_eq_none h1] at hu; cases hu
  rw [add_zero_off, Nat.zero_add, hc j hj, ← hu, bc_at, List.getElem?_eq_getElem hj, List.getD_eq_getElem?_getD, List.getElem?_eq_getElem hj]
  rfl
set_option maxRecDepth 100000 in
set_option maxHeartbeats 4000000 in
theorem encode_other (r f q vs : ByteArray) (t k vk : Int) {vn : Int} (hn : inI vn) (hf : f.size ≤ 9223372036854775807) (hv : vs.size ≤ 9223372036854775807) (w : World) (hL : LaidU w) (hr : cRight r.data.toList f.data.toList q.data.toList t k vk vn vs.data.toList = true) (hk : ¬ k = 1) :
    Calls Tryd.prog 60 #[cellV r f q t k vk vn vs] w fun e w' => ∃ v, e = .returned (.tuple #[v, .bool true]) ∧ Row w' w.heap.size v (keyM r.data.toList f.data.toList q.data.toList t k) ∧ Below w.heap.size w w' := by
  obtain ⟨p1, p2, p3, p4, p5, p6, p7, p8, p9, pf, pv, pw⟩ := cright_parts hr
  have hr16 : r.size ≤ 16 := p2
  have hf8 : f.size ≤ 8 := p4
  have hq12 : q.size ≤ 12 := p5
  have HR : Hid (∀ W, Below w.heap.size w W → Calls Tryd.prog 61 #[cellV r f q t k vk vn vs] W fun e w' => e = .returned (.bool true) ∧ Below W.heap.size W w') := fun W hW => by
    have := cright_any r f q vs t k vk hn hf hv W (hL.below hW)
    rwa [hr] at this
  have HKy : Hid (∀ (W : World) (b : Nat), Wr W w.heap.size b [] → Calls Tryd.prog 92 #[.pointer (some ⟨b, 0, none⟩), cellV r f q t k vk vn vs] W fun e w' => e = .returned (.tuple #[]) ∧ Wr w' w.heap.size b (keyM r.data.toList f.data.toList q.data.toList t k) ∧ WF w.heap.size b W w') :=
    fun W b hW => wkey_any w.heap.size b r f q vs t k vk vn hr16 hf8 hq12 p6 p7 p8 p9 W hW (by have h1 := hW.1; have h2 := Wr.lt hW; omega)
  have HBL : Hid (∀ W W1 : World, W = w.alloc (.cells #[.string r, .string f, .string q, .int .i64 t, .int .i64 k, .int .i64 vk, .int .i64 vn, .string vs] 40) → Below W.heap.size W W1 → Blk (W1.alloc (.cells #[.slice none 0 0, .int .i64 0, .int .i8 0] 120)) w.heap.size 40 #[.string r, .string f, .string q, .int .i64 t, .int .i64 k, .int .i64 vk, .int .i64 vn, .string vs] ∧ w.heap.size < W1.heap.size ∧ Below w.heap.size w W1) := by
    intro W W1 e hb
    subst e
    have hz : w.heap.size < W1.heap.size := Nat.lt_of_lt_of_le (by simp) hb.size
    exact ⟨((Blk.new w _ _).keep hb (by simp)).keep (below_new _ _) hz, hz, (below_new _ _).trans (hb.mono (by simp))⟩
  have q0 : (k == 1) = false := by simpa using hk
  clear hL hr p1 p2 p3 p4 p5 p6 p7 p8 p9 pf pv pw
  go_enter Tryd.func60, Tryd.ntmps60
  go_upto_region 4 with (go_at_call 61; refine (HR.out _ (below_new _ _)).mono ?_; rintro e w1 ⟨rfl, hb⟩; have HB1 := hid (HBL.out _ _ rfl hb); clear hb)
  obtain ⟨b, hb⟩ : ∃ b, w1.heap.size = b := ⟨_, rfl⟩
  refine wp_ltr (fun W => Hid (Wr W w.heap.size b [] ∧ Blk W w.heap.size 40 #[.string r, .string f, .string q, .int .i64 t, .int .i64 k, .int .i64 vk, .int .i64 vn, .string vs] ∧ w.heap.size < b ∧ Below w.heap.size w W) ∧ W.cell? ⟨w.heap.size, 0, none⟩ = some (.string r) ∧ W.cell? ⟨w.heap.size, 1, none⟩ = some (.string f) ∧ W.cell? ⟨w.heap.size, 2, none⟩ = some (.string q) ∧ W.cell? ⟨w.heap.size, 3, none⟩ = some (.int .i64 t) ∧ W.cell? ⟨w.heap.size, 4, none⟩ = some (.int .i64 k) ∧ W.cell? ⟨w.heap.size, 5, none⟩ = some (.int .i64 vk) ∧ W.cell? ⟨w.heap.size, 6, none⟩ = some (.int .i64 vn) ∧ W.cell? ⟨w.heap.size, 7, none⟩ = some (.string vs)) ?_ (fun W hW => ?_)
  · obtain ⟨B1, z1, bw1⟩ := HB1.out
    exact ⟨⟨by rw [← hb]; exact wr_new w1 _ (Nat.le_of_lt z1), B1, by omega, bw1.alloc (Nat.le_of_lt z1) _⟩, B1.cell 0, B1.cell 1, B1.cell 2, B1.cell 3, B1.cell 4, B1.cell 5, B1.cell 6, B1.cell 7⟩
  obtain ⟨HW, g0, g1, g2, g3, g4, g5, g6, g7⟩ := hW
  rw [hb]
  clear HB1 hb
  go_wp2_with (first
    | (go_at_call 92; refine (HKy.out W b HW.out.1).mono ?_; rintro e w2 ⟨rfl, h2, k2⟩; clear g0 g1 g2 g3 g4 g5 g6 g7; have B2 := hid (k2.blk HW.out.2.1 (Nat.ne_of_lt HW.out.2.2.1) (by decide)); have g4 : w2.cell? ⟨w.heap.size, 4, none⟩ = some (.int .i64 k) := B2.out.cell 4)
    | (go_at_call 91; refine (wbytes_any _ _ _ _ h2).mono ?_; rintro e w3 ⟨v, rfl, h3, h4⟩))
  go_ret2
  have hz2 : w.heap.size ≤ w2.heap.size := Nat.le_trans HW.out.2.2.2.size k2.size
  exact ⟨_, rfl, h3, (HW.out.2.2.2.trans k2.below).trans (h4.mono hz2)⟩

set_option maxRecDepth 100000 in
set_option maxHeartbeats 4000000 in
theorem encode_put (r f q vs : ByteArray) (t vk : Int) {vn : Int} (hn : inI vn) (hf : f.size ≤ 9223372036854775807) (hv : vs.size ≤ 9223372036854775807) (w : World) (hL : LaidU w) (hr : cRight r.data.toList f.data.toList q.data.toList t 1 vk vn vs.data.toList = true) :
    Calls Tryd.prog 60 #[cellV r f q t 1 vk vn vs] w fun e w' => ∃ v, e = .returned (.tuple #[v, .bool true]) ∧ Row w' w.heap.size v (keyM r.data.toList f.data.toList q.data.toList t 1 ++ vEnc vk vn vs.data.toList) ∧ Below w.heap.size w w' := by
  obtain ⟨p1, p2, p3, p4, p5, p6, p7, p8, p9, pf, pv, pw⟩ := cright_parts hr
  have hr16 : r.size ≤ 16 := p2
  have hf8 : f.size ≤ 8 := p4
  have hq12 : q.size ≤ 12 := p5
  have HR : Hid (∀ W, Below w.heap.size w W → Calls Tryd.prog 61 #[cellV r f q t 1 vk vn vs] W fun e w' => e = .returned (.bool true) ∧ Below W.heap.size W w') := fun W hW => by
    have := cright_any r f q vs t 1 vk hn hf hv W (hL.below hW)
    rwa [hr] at this
  have HKy : Hid (∀ (W : World) (b : Nat), Wr W w.heap.size b [] → Calls Tryd.prog 92 #[.pointer (some ⟨b, 0, none⟩), cellV r f q t 1 vk vn vs] W fun e w' => e = .returned (.tuple #[]) ∧ Wr w' w.heap.size b (keyM r.data.toList f.data.toList q.data.toList t 1) ∧ WF w.heap.size b W w') :=
    fun W b hW => wkey_any w.heap.size b r f q vs t 1 vk vn hr16 hf8 hq12 p6 p7 p8 p9 W hW (by have h1 := hW.1; have h2 := Wr.lt hW; omega)
  have HBL : Hid (∀ W W1 : World, W = w.alloc (.cells #[.string r, .string f, .string q, .int .i64 t, .int .i64 1, .int .i64 vk, .int .i64 vn, .string vs] 40) → Below W.heap.size W W1 → Blk (W1.alloc (.cells #[.slice none 0 0, .int .i64 0, .int .i8 0] 120)) w.heap.size 40 #[.string r, .string f, .string q, .int .i64 t, .int .i64 1, .int .i64 vk, .int .i64 vn, .string vs] ∧ w.heap.size < W1.heap.size ∧ Below w.heap.size w W1) := by
    intro W W1 e hb
    subst e
    have hz : w.heap.size < W1.heap.size := Nat.lt_of_lt_of_le (by simp) hb.size
    exact ⟨((Blk.new w _ _).keep hb (by simp)).keep (below_new _ _) hz, hz, (below_new _ _).trans (hb.mono (by simp))⟩
  have hvr := pv rfl
  have HV : Hid (∀ W, Below w.heap.size w W → Calls Tryd.prog 48 #[.agg #[.int .i64 vk, .int .i64 vn, .string vs]] W fun e w' => ∃ v, e = .returned (.tuple #[v, .bool true]) ∧ Row w' W.heap.size v (vEnc vk vn vs.data.toList) ∧ Below W.heap.size W w') := fun W hW => vencode_yes vk hn vs hv hvr W (hL.below hW)
  have HLk : Hid ((keyM r.data.toList f.data.toList q.data.toList t 1).length + (vEnc vk vn vs.data.toList).length ≤ 1000000 ∧ 0 < (vEnc vk vn vs.data.toList).length) := by
    have h1 := enc_small hvr
    have h2 := enc_two hvr
    have h3 := esc_len r.data.toList
    have h4 := esc_len f.data.toList
    have h5 := esc_len q.data.toList
    have h6 := tail_len t 1
    refine ⟨?_, by omega⟩
    unfold keyM midM
    rw [if_neg (by decide)]
    simp only [List.length_append, List.length_cons, List.length_nil]
    omega
  clear hL hr p1 p2 p3 p4 p5 p6 p7 p8 p9 pf pv pw hvr
  go_enter Tryd.func60, Tryd.ntmps60
  go_upto_region 4 with (go_at_call 61; refine (HR.out _ (below_new _ _)).mono ?_; rintro e w1 ⟨rfl, hb⟩; have HB1 := hid (HBL.out _ _ rfl hb); clear hb)
  obtain ⟨b, hb⟩ : ∃ b, w1.heap.size = b := ⟨_, rfl⟩
  refine wp_ltr (fun W => Hid (Wr W w.heap.size b [] ∧ Blk W w.heap.size 40 #[.string r, .string f, .string q, .int .i64 t, .int .i64 1, .int .i64 vk, .int .i64 vn, .string vs] ∧ w.heap.size < b ∧ Below w.heap.size w W) ∧ W.cell? ⟨w.heap.size, 0, none⟩ = some (.string r) ∧ W.cell? ⟨w.heap.size, 1, none⟩ = some (.string f) ∧ W.cell? ⟨w.heap.size, 2, none⟩ = some (.string q) ∧ W.cell? ⟨w.heap.size, 3, none⟩ = some (.int .i64 t) ∧ W.cell? ⟨w.heap.size, 4, none⟩ = some (.int .i64 1) ∧ W.cell? ⟨w.heap.size, 5, none⟩ = some (.int .i64 vk) ∧ W.cell? ⟨w.heap.size, 6, none⟩ = some (.int .i64 vn) ∧ W.cell? ⟨w.heap.size, 7, none⟩ = some (.string vs)) ?_ (fun W hW => ?_)
  · obtain ⟨B1, z1, bw1⟩ := HB1.out
    exact ⟨⟨by rw [← hb]; exact wr_new w1 _ (Nat.le_of_lt z1), B1, by omega, bw1.alloc (Nat.le_of_lt z1) _⟩, B1.cell 0, B1.cell 1, B1.cell 2, B1.cell 3, B1.cell 4, B1.cell 5, B1.cell 6, B1.cell 7⟩
  obtain ⟨HW, g0, g1, g2, g3, g4, g5, g6, g7⟩ := hW
  rw [hb]
  clear HB1 hb
  go_wp2_with (first
    | (go_at_call 92; refine (HKy.out W b HW.out.1).mono ?_; rintro e w2 ⟨rfl, h2, k2⟩; clear g0 g1 g2 g3 g4 g5 g6 g7; have B2 := hid (k2.blk HW.out.2.1 (Nat.ne_of_lt HW.out.2.2.1) (by decide)); have hz2 : w.heap.size ≤ w2.heap.size := (Nat.le_trans HW.out.2.2.2.size k2.size); have hbw2 := hid (HW.out.2.2.2.trans k2.below); have g4 : w2.cell? ⟨w.heap.size, 4, none⟩ = some (.int .i64 1) := B2.out.cell 4; have g5 : w2.cell? ⟨w.heap.size, 5, none⟩ = some (.int .i64 vk) := B2.out.cell 5; have g6 : w2.cell? ⟨w.heap.size, 6, none⟩ = some (.int .i64 vn) := B2.out.cell 6; have g7 : w2.cell? ⟨w.heap.size, 7, none⟩ = some (.string vs) := B2.out.cell 7)
    | (go_at_call 48; refine (HV.out w2 hbw2.out).mono ?_; rintro e w3 ⟨v2, rfl, hR3, hb3⟩; obtain ⟨g, c, rfl, hg, hcell⟩ := row_write hR3 HLk.out.2; have HW3 := hid (LibA.IsBuffer.old h2 hb3))
    | (go_at_call 110; refine (wwrite' w.heap.size b _ _ HLk.out.1 ⟨g, 0, none⟩ _ c rfl (by have := Wr.lt h2; simp; omega) w3 HW3.out (by have := hb3.size; omega) hcell).mono ?_; rintro e w4 ⟨rfl, h4', k4⟩)
    | (go_at_call 91; refine (wbytes_any _ _ _ _ h4').mono ?_; rintro e w5 ⟨v, rfl, h3, h4⟩))
  go_ret2
  have hz4 : w.heap.size ≤ w4.heap.size := by have := k4.size; have := hb3.size; omega
  exact ⟨_, rfl, h3, ((hbw2.out.trans (hb3.mono hz2)).trans k4.below).trans (h4.mono hz4)⟩

/-- codec.Encode of a right cell. -/
theorem encode_yes (r f q vs : ByteArray) (t k vk : Int) {vn : Int} (hn : inI vn) (hf : f.size ≤ 9223372036854775807) (hv : vs.size ≤ 9223372036854775807) (w : World) (hL : LaidU w) (hr : cRight r.data.toList f.data.toList q.data.toList t k vk vn vs.data.toList = true) :
    Calls Tryd.prog 60 #[cellV r f q t k vk vn vs] w fun e w' => ∃ v, e = .returned (.tuple #[v, .bool true]) ∧ Row w' w.heap.size v (cEnc r.data.toList f.data.toList q.data.toList t k vk vn vs.data.toList) ∧ Below w.heap.size w w' := by
  unfold cEnc
  by_cases hk : k = 1
  · subst hk
    rw [if_pos rfl]
    exact encode_put r f q vs t vk hn hf hv w hL hr
  · rw [if_neg hk, List.append_nil]
    exact encode_other r f q vs t k vk hn hf hv w hL hr hk
end Go.Proofs.YtfcnobcpnhfgmaaDoor

/- Encode at every right cell; the cells with one put. Conditions: as each theorem names them. -/
namespace Go.Proofs.YtfcnobcpnhfgmaaDoor
open Go.RowKit

/-- How many bytes a cell has. -/
def encL (c : CT) : Nat := (cEnc c.r.data.toList c.f.data.toList c.q.data.toList c.t c.k c.vk c.vn c.s.data.toList).length
def bytesL (l : List CT) : Nat := (l.map encL).sum
theorem enc_yes (c : CT) (h : okC c) (hok : c.ok = true) (w : World) (hL : LaidU w) :
    Calls Tryd.prog 60 #[c.v] w fun e w' => ∃ g cap, e = .returned (.tuple #[.slice (some ⟨g, 0, none⟩) (encL c) cap, .bool true]) ∧ Below w.heap.size w w' := by
  refine (encode_yes c.r c.f c.q c.s c.t c.k c.vk h.2.2 h.1 h.2.1 w hL hok).mono fun e w' ⟨v, he, hr, hb⟩ => ?_
  have hp : 0 < (cEnc c.r.data.toList c.f.data.toList c.q.data.toList c.t c.k c.vk c.vn c.s.data.toList).length := by
    unfold cEnc keyM
    simp only [List.length_append, List.length_cons]
    omega
  obtain ⟨g, cap, rfl, _⟩ := hr.form hp
  exact ⟨g, cap, he, hb⟩
theorem enc_no (c : CT) (h : okC c) (hok : c.ok = false) (w : World) (hL : LaidU w) :
    Calls Tryd.prog 60 #[c.v] w fun e w' => e = .returned (.tuple #[.slice none 0 0, .bool false]) ∧ Below w.heap.size w w' := encode_no c.r c.f c.q c.s c.t c.k c.vk h.2.2 h.1 h.2.1 w hL hok
theorem ok_small {c : CT} (h : c.ok = true) : c.r.size ≤ 16 ∧ c.f.size ≤ 8 ∧ c.q.size ≤ 12 := by
  obtain ⟨_, h2, _, h4, h5, _⟩ := cright_parts h
  exact ⟨h2, h4, h5⟩

/-- The cells with c in its place. -/
def putL (l : List CT) (c : CT) : List CT := l.filter (fun x => decide (CT.cmp x c < 0)) ++ c :: l.filter (fun x => decide (0 < CT.cmp x c))
theorem putL_rise {l : List CT} (c : CT) (h : l.Pairwise (fun x y => CT.cmp x y < 0)) : (putL l c).Pairwise (fun x y => CT.cmp x y < 0) := by
  refine List.pairwise_append.2 ⟨h.filter _, List.pairwise_cons.2 ⟨fun y hy => ?_, h.filter _⟩, fun x hx y hy => ?_⟩
  · have := of_decide_eq_true (List.mem_filter.1 hy).2
    have := ct_c3.anti c y
    omega
  · have h1 := of_decide_eq_true (List.mem_filter.1 hx).2
    rcases List.mem_cons.1 hy with rfl | hy
    · exact h1
    · have h2 := of_decide_eq_true (List.mem_filter.1 hy).2
      have := ct_c3.anti c y
      exact ct_c3.lt_le h1 (by omega)
theorem putL_mem {l : List CT} {c x : CT} (h : x ∈ putL l c) : x = c ∨ x ∈ l := by
  rcases List.mem_append.1 h with h | h
  · exact .inr (List.mem_filter.1 h).1
  · rcases List.mem_cons.1 h with h | h
    · exact .inl h
    · exact .inr (List.mem_filter.1 h).1
/-- Parted at c's place. -/
theorem part_at {l : List CT} (c : CT) (h : l.Pairwise (fun x y => CT.cmp x y < 0)) : l = l.filter (fun x => decide (CT.cmp x c < 0)) ++ l.filter (fun x => !decide (CT.cmp x c < 0)) := by
  induction l with
  | nil => rfl
  | cons a l ih =>
    obtain ⟨h1, h2⟩ := List.pairwise_cons.1 h
    by_cases q : CT.cmp a c < 0
    · rw [List.filter_cons, if_pos (decide_eq_true q), List.filter_cons, if_neg (by rw [decide_eq_true q]; decide), List.cons_append, ← ih h2]
    · have hn : ∀ x ∈ l, ¬ CT.cmp x c < 0 := fun x hx z => q (ct_c3.lt_le (h1 x hx) (Int.le_of_lt z))
      rw [List.filter_cons, if_neg (by rw [decide_eq_true_iff]; exact q), List.filter_eq_nil_iff.2 (fun x hx => by rw [decide_eq_true_iff]; exact hn x hx), List.filter_eq_self.2]
      · rfl
      · intro x hx
        rcases List.mem_cons.1 hx with rfl | hx
        · rw [decide_eq_false q]; rfl
        · rw [decide_eq_false (hn x hx)]; rfl

theorem filter_two {p q : CT → Bool} : ∀ {l : List CT}, (∀ x, p x = true → q x = false) → (l.filter p).length + (l.filter q).length ≤ l.length
  | [], _ => Nat.le_refl _
  | x :: l, h => by
    have ih := filter_two (l := l) h
    rw [List.filter_cons, List.filter_cons, List.length_cons]
    cases hp : p x with
    | true => rw [h x hp]; simp only [if_true, List.length_cons, Bool.false_eq_true, if_false]; omega
    | false => cases hq : q x <;> simp only [if_true, List.length_cons, Bool.false_eq_true, if_false] <;> omega
end Go.Proofs.YtfcnobcpnhfgmaaDoor

/- cell.Value at every list of cells. Conditions: as cell.Sort's. -/
namespace Go.Proofs.YtfcnobcpnhfgmaaDoor
open Go.RowKit

/-- The first cell of the column in the first row. -/
def valueM (fam qual : ByteArray) (s : List CT) : List CT → Option CT
  | [] => none
  | c :: l => if c.r = (s.getD 0 default).r ∧ c.f = fam ∧ c.q = qual then some c else valueM fam qual s l
def valV : Option CT → Value
  | some c => .tuple #[.agg #[.int .i64 c.vk, .int .i64 c.vn, .string c.s], .bool true]
  | none => .tuple #[.agg #[.int .i64 0, .int .i64 0, .string ⟨#[]⟩], .bool false]
theorem seenL_len (ver life now : Int) (s : List CT) : (seenL ver life now s).length ≤ s.length := by
  unfold seenL
  split
  · exact seenF_len ver life now SG.zero s
  · exact Nat.zero_le _

set_option maxHeartbeats 4000000 in
set_option maxRecDepth 100000 in
theorem cvalue_any (v : Value) (l : List CT) (hl : l.length ≤ 100000) (fam qual : ByteArray) (ver life now : Int) (w : World) (h : ClA w v l) (hok : ∀ c ∈ l, okC c) (hL : LaidU w) :
    Calls Tryd.prog 73 #[v, .string fam, .string qual, .int .i64 ver, .int .i64 life, .int .i64 now] w fun e w' => ∃ s, e = .returned (valV (valueM fam qual s (seenL ver life now s))) ∧ SortOf l s ∧ Below w.heap.size w w' := by
  have mixed : Tryd.prog.follows .mixedOrders = true := by kernel_rfl
  have HS : Hid (∀ W, Below w.heap.size w W → Calls Tryd.prog 74 #[v] W fun e w' => ∃ v' s, e = .returned v' ∧ SortOf l s ∧ CRow w' W.heap.size v' s ∧ Below W.heap.size W w') := fun W hb => sort_any v l hl W (h.below hb) hok (hL.below hb)
  have HSn : Hid (∀ (W : World) (v5 : Value) (s : List CT) (B : Nat), SortOf l s → CRow W B v5 s → Calls Tryd.prog 79 #[v5, .agg #[.int .i64 ver, .int .i64 life, .int .i64 now]] W fun e w' => ∃ v', e = .returned v' ∧ CRow w' W.heap.size v' (seenL ver life now s) ∧ Below W.heap.size W w') := fun W v5 s B h1 h2 => seen_any v5 s (Nat.le_trans h1.len hl) ver life now W h2.cla
  have HB0 : Hid (Below w.heap.size w (w.alloc (.cells #[.int .i64 0, .int .i64 0, .string ⟨#[]⟩] 38))) := below_new _ _
  have HR0 : Hid (Blk (w.alloc (.cells #[.int .i64 0, .int .i64 0, .string ⟨#[]⟩] 38)) w.heap.size 38 #[.int .i64 0, .int .i64 0, .string ⟨#[]⟩]) := Blk.new _ _ _
  clear h hok hL
  go_enter Tryd.func73, Tryd.ntmps73
  go_wp2_with (first
    | (go_at_call 74; refine (HS.out _ HB0.out).mono ?_; rintro e w5 ⟨v5, s5, rfl, hq5, hr5, hb5⟩)
    | (go_at_call 79; refine (HSn.out _ _ _ _ hq5 hr5).mono ?_; rintro e w6 ⟨v6, rfl, hr6, hb6⟩; have K6 := hid hr6.cla; have K5 := hid (hr5.cla.below hb6); have KB := hid ((HR0.out.keep hb5 HR0.out.lt).keep hb6 (Nat.lt_of_lt_of_le HR0.out.lt hb5.size)); have BW := hid (HB0.out.trans ((hb5.mono HB0.out.size).trans (hb6.mono (Nat.le_trans HB0.out.size hb5.size)))); have HL6 := hid (seenL_len ver life now s5); obtain ⟨sl, hsl⟩ : ∃ sl, seenL ver life now s5 = sl := ⟨_, rfl⟩; have HSL := hid hsl; rw [hsl] at K6 HL6; clear hsl hr6 hr5 hb5 hb6; obtain ⟨A6, c6, rfl, hc6, hm6, hh6⟩ := K6.out; obtain ⟨A5, c5, rfl, hc5, hm5, hh5⟩ := K5.out; have HH6 := hid hh6; have HH5 := hid hh5; clear hh6 hh5 K6 K5; obtain ⟨m, hm⟩ : ∃ m, sl.length = m := ⟨_, rfl⟩; have HM := hid hm; obtain ⟨n5, hn5⟩ : ∃ n5, s5.length = n5 := ⟨_, rfl⟩; have HN5 := hid hn5; rw [hm] at hc6 ⊢; rw [hn5] at hc5 ⊢; clear hm hn5))
  obtain ⟨rb, hrb⟩ : ∃ rb, w.heap.size = rb := ⟨_, rfl⟩
  rw [hrb]
  have HRB := hid hrb
  clear hrb
  go_loopw [26] (fun vi wr => ∃ i : Nat, i ≤ m ∧ vi = .int .i64 i ∧ Hid (Below w6.heap.size w6 wr) ∧ Hid (valueM fam qual s5 sl = valueM fam qual s5 (sl.drop i))) (fun vi _ => m - (intOf vi).toNat)
  case atStart => exact ⟨0, Nat.zero_le _, rfl, Below.refl _ _, rfl⟩
  case round =>
    obtain ⟨i, hi, rfl, HB, HV⟩ := hrel
    by_cases hlt : i < m
    · have him : i < sl.length := by rw [HM.out]; exact hlt
      have hltz : (i : Int) < (m : Int) := by omega
      obtain ⟨b, off, rfl, hhc⟩ := HH6.out (by rw [HM.out]; omega)
      have h05 : 0 < s5.length := by have := HL6.out; omega
      have hn50 : (0 : Int) < (n5 : Int) := by have := HN5.out; omega
      obtain ⟨b5, off5, rfl, hhd⟩ := HH5.out h05
      have hbw : b < w6.heap.size := hhc.lt (by omega)
      have hbw5 : b5 < w6.heap.size := hhd.lt h05
      obtain ⟨c, hc⟩ : ∃ c, sl[i] = c := ⟨_, rfl⟩
      obtain ⟨d, hd⟩ : ∃ d, s5[0] = d := ⟨_, rfl⟩
      have HD : Hid (valueM fam qual s5 (sl.drop i) = if c.r = d.r ∧ c.f = fam ∧ c.q = qual then some c else valueM fam qual s5 (sl.drop (i + 1))) := by
        unfold Hid
        rw [List.drop_eq_getElem_cons him, hc]
        show (if c.r = (s5.getD 0 default).r ∧ c.f = fam ∧ c.q = qual then some c else _) = _
        rw [List.getD_eq_getElem?_getD, List.getElem?_eq_getElem h05, hd]
        rfl
      have P : wr.cell? ⟨b, off + i * 8, none⟩ = some (.string c.r) ∧ wr.cell? ⟨b, off + i * 8 + 1, none⟩ = some (.string c.f) ∧ wr.cell? ⟨b, off + i * 8 + 2, none⟩ = some (.string c.q) ∧ wr.cell? ⟨b, off + i * 8 + 3, none⟩ = some (.int .i64 c.t) ∧ wr.cell? ⟨b, off + i * 8 + 4, none⟩ = some (.int .i64 c.k) ∧ wr.cell? ⟨b, off + i * 8 + 5, none⟩ = some (.int .i64 c.vk) ∧ wr.cell? ⟨b, off + i * 8 + 6, none⟩ = some (.int .i64 c.vn) ∧ wr.cell? ⟨b, off + i * 8 + 7, none⟩ = some (.string c.s) := by
        rw [← hc]
        exact (hhc.below HB.out hbw).words i him
      have z0 : Hid (∀ W, Below wr.heap.size wr W → W.cell? ⟨b5, off5, none⟩ = some (.string d.r)) := fun W hW => by
        have := ((hhd.below HB.out hbw5).below hW (Nat.lt_of_lt_of_le hbw5 HB.out.size)).words 0 h05
        rw [Nat.zero_mul, Nat.add_zero, hd] at this
        exact this.1
      obtain ⟨p0, p1, p2, p3, p4, p5, p6, p7⟩ := P
      clear hc hhc hd hhd
      go_upto_region 5 with (fail)
      obtain ⟨bb, hbb⟩ : ∃ bb, wr.heap.size = bb := ⟨_, rfl⟩
      refine wp_ltc (fun W => Hid (Blk W bb 40 c.e.toArray ∧ Below wr.heap.size wr W) ∧ W.cell? ⟨bb, 0, none⟩ = some (.string c.r) ∧ W.cell? ⟨bb, 1, none⟩ = some (.string c.f) ∧ W.cell? ⟨bb, 2, none⟩ = some (.string c.q) ∧ W.cell? ⟨bb, 3, none⟩ = some (.int .i64 c.t) ∧ W.cell? ⟨bb, 4, none⟩ = some (.int .i64 c.k) ∧ W.cell? ⟨bb, 5, none⟩ = some (.int .i64 c.vk) ∧ W.cell? ⟨bb, 6, none⟩ = some (.int .i64 c.vn) ∧ W.cell? ⟨bb, 7, none⟩ = some (.string c.s)) (by rw [← hbb]; have hB := Blk.new wr 40 c.e.toArray; exact ⟨⟨hB, below_new _ _⟩, blk_words hB⟩) (fun W hW => ?_)
      rw [hbb]
      obtain ⟨HW, b0, b1, b2, b3, b4, b5, b6, b7⟩ := hW
      have d0 := z0.out W HW.out.2
      have HB2 : Hid (Below w6.heap.size w6 W) := HB.out.trans (HW.out.2.mono HB.out.size)
      clear p0 p1 p2 p3 p4 p5 p6 p7 hbb HB z0
      by_cases h1 : c.r = d.r
      · have q1 : (c.r.toList == d.r.toList) = true := by rw [h1]; simp
        by_cases h2 : c.f = fam
        · have q2 : (c.f.toList == fam.toList) = true := by rw [h2]; simp
          by_cases h3 : c.q = qual
          · have q3 : (c.q.toList == qual.toList) = true := by rw [h3]; simp
            have HV2 : Hid (valueM fam qual s5 sl = some c) := by
              unfold Hid
              rw [HV.out, HD.out]
              exact if_pos ⟨h1, h2, h3⟩
            have KB2 := KB.out.keep HB2.out KB.out.lt
            rw [HRB.out] at KB2
            have g0 : W.cell? ⟨rb, 0, none⟩ = some (.int .i64 0) := KB2.cell 0
            have g1 : W.cell? ⟨rb, 1, none⟩ = some (.int .i64 0) := KB2.cell 1
            have g2 : W.cell? ⟨rb, 2, none⟩ = some (.string ⟨#[]⟩) := KB2.cell 2
            have gf : ∀ j, W.frozen? ⟨rb, j, none⟩ = false := fun j => KB2.free j
            clear h1 h2 h3 KB2
            go_quiet (fail)
            go_wp2
            try simp only [Exit.inBlock, Exit.then]
            refine bodyPost_ret (v := .tuple #[.agg #[.int .i64 c.vk, .int .i64 c.vn, .string c.s], .bool true]) (by simp [results, Tryd.results73, go_sem, cell_set_same, g0, g1, g2]) rfl ?_
            refine ⟨s5, ?_, hq5, ?_⟩
            · rw [HSL.out, HV2.out]
              rfl
            · have hrb := HRB.out
              exact ((((BW.out.trans (HB2.out.mono BW.out.size)).trans (below_drewN (Below.refl _ _) _)).setCell (p := ⟨rb, 0, none⟩) (Nat.le_of_eq hrb) _).setCell (p := ⟨rb, 1, none⟩) (Nat.le_of_eq hrb) _).setCell (p := ⟨rb, 2, none⟩) (Nat.le_of_eq hrb) _
          · have q3 : (c.q.toList == qual.toList) = false := ba_ne h3
            
            have HV2 : Hid (valueM fam qual s5 sl = valueM fam qual s5 (sl.drop (i + 1))) := by
              unfold Hid
              rw [HV.out, HD.out]
              exact if_neg (fun h => h3 h.2.2)
            
            go_quiet (fail)
            go_wp2
            go_roundw
            case rel => exact ⟨i + 1, by omega, by go_num, below_drewN HB2.out _, HV2.out⟩
            case measure => simp [intOf]; omega
        · have q2 : (c.f.toList == fam.toList) = false := ba_ne h2
          
          have HV2 : Hid (valueM fam qual s5 sl = valueM fam qual s5 (sl.drop (i + 1))) := by
            unfold Hid
            rw [HV.out, HD.out]
            exact if_neg (fun h => h2 h.2.1)
          
          go_quiet (fail)
          go_wp2
          go_roundw
          case rel => exact ⟨i + 1, by omega, by go_num, below_drewN HB2.out _, HV2.out⟩
          case measure => simp [intOf]; omega
      · have q1 : (c.r.toList == d.r.toList) = false := ba_ne h1
        
        have HV2 : Hid (valueM fam qual s5 sl = valueM fam qual s5 (sl.drop (i + 1))) := by
          unfold Hid
          rw [HV.out, HD.out]
          exact if_neg (fun h => h1 h.1)
        
        go_quiet (fail)
        go_wp2
        go_roundw
        case rel => exact ⟨i + 1, by omega, by go_num, below_drewN HB2.out _, HV2.out⟩
        case measure => simp [intOf]; omega
    · obtain rfl : i = m := by omega
      have HV2 : Hid (valueM fam qual s5 sl = none) := by
        unfold Hid
        rw [HV.out, List.drop_of_length_le (by rw [HM.out]; exact Nat.le_refl _)]
        rfl
      have KB2 := KB.out.keep HB.out KB.out.lt
      rw [HRB.out] at KB2
      have g0 : wr.cell? ⟨rb, 0, none⟩ = some (.int .i64 0) := KB2.cell 0
      have g1 : wr.cell? ⟨rb, 1, none⟩ = some (.int .i64 0) := KB2.cell 1
      have g2 : wr.cell? ⟨rb, 2, none⟩ = some (.string ⟨#[]⟩) := KB2.cell 2
      have gf : ∀ j, wr.frozen? ⟨rb, j, none⟩ = false := fun j => KB2.free j
      clear KB2
      go_wp2
      try simp only [Exit.inBlock, Exit.then]
      refine bodyPost_ret (v := .tuple #[.agg #[.int .i64 0, .int .i64 0, .string ⟨#[]⟩], .bool false]) (by simp [results, Tryd.results73, go_sem, cell_set_same, g0, g1, g2]) rfl ?_
      refine ⟨s5, ?_, hq5, ?_⟩
      · rw [HSL.out, HV2.out]
        rfl
      · have hrb := HRB.out
        exact (((BW.out.trans (HB.out.mono BW.out.size)).setCell (p := ⟨rb, 0, none⟩) (Nat.le_of_eq hrb) _).setCell (p := ⟨rb, 1, none⟩) (Nat.le_of_eq hrb) _).setCell (p := ⟨rb, 2, none⟩) (Nat.le_of_eq hrb) _
end Go.Proofs.YtfcnobcpnhfgmaaDoor
