/- What package cell's sight does with a cell: has, move, lets, and the rules' right and lives. Conditions: the sight stands in a block of its own. -/
import Derived.Test.YtpjkhholpbfbpaaDoorHF
import Derived.Test.YtpjkhholpbfbpaaDoorMA
namespace Go.Proofs.YtpjkhholpbfbpaaDoor
open Go.RowKit

/-- A sight. -/
structure SG where
  at' : CT
  fam : Int
  col : Bool
  cell : Int
  seen : Int
/-- Its twelve words. -/
def SG.a (g : SG) : Array Value := #[.string g.at'.r, .string g.at'.f, .string g.at'.q, .int .i64 g.at'.t, .int .i64 g.at'.k, .int .i64 g.at'.vk, .int .i64 g.at'.vn, .string g.at'.s, .int .i64 g.fam, .bool g.col, .int .i64 g.cell, .int .i64 g.seen]
def SG.zero : SG := ⟨default, 0, false, 0, 0⟩
/-- What was told of another family, or another column, is forgotten. -/
def SG.move (g : SG) (c : CT) : SG :=
  if c.r ≠ g.at'.r ∨ c.f ≠ g.at'.f then ⟨c, -1, false, -1, 0⟩ else if c.q ≠ g.at'.q then ⟨c, g.fam, false, -1, 0⟩ else ⟨c, g.fam, g.col, g.cell, g.seen⟩
def SG.has (g : SG) (t : Int) : Bool := !g.col && (decide (g.fam < t) && decide (t ≠ g.cell))
def livesM (life now t : Int) : Bool := decide (life = 0) || decide (now < IntKind.i64.wrap (t + life))
def rightM (ver life : Int) : Bool := decide (1 ≤ ver) && (decide (ver ≤ 8) && decide (0 ≤ life))
/-- The next cell: is it a put that is to be seen? -/
def SG.lets (g0 : SG) (c : CT) (ver life now : Int) : SG × Bool :=
  let g := g0.move c
  if c.k = 4 then (⟨g.at', max g.fam c.t, g.col, g.cell, g.seen⟩, false)
  else if c.k = 3 then (⟨g.at', g.fam, true, g.cell, g.seen⟩, false)
  else if c.k = 2 then (⟨g.at', g.fam, g.col, c.t, g.seen⟩, false)
  else if c.k = 1 ∧ g.has c.t = true ∧ livesM life now c.t = true ∧ g.seen < ver then (⟨g.at', g.fam, g.col, g.cell, IntKind.i64.wrap (g.seen + 1)⟩, true)
  else (g, false)

set_option maxHeartbeats 1000000 in
theorem has_any (g : SG) (t : Int) (sb : Nat) (w : World) (h : Blk w sb 111 g.a) :
    Calls Tryd.prog 107 #[.pointer (some ⟨sb, 0, none⟩), .int .i64 t] w fun e w' => e = .returned (.bool (g.has t)) ∧ w' = w := by
  have c8 : w.cell? ⟨sb, 8, none⟩ = some (.int .i64 g.fam) := h.cell 8
  have c9 : w.cell? ⟨sb, 9, none⟩ = some (.bool g.col) := h.cell 9
  have c10 : w.cell? ⟨sb, 10, none⟩ = some (.int .i64 g.cell) := h.cell 10
  unfold SG.has
  obtain ⟨at', fam, col, cell, seen⟩ := g
  clear h
  simp only at c8 c9 c10 ⊢
  cases col with
  | true =>
    go_enter Tryd.func107, Tryd.ntmps107
    go_wp2
    go_ret
    exact ⟨rfl, rfl⟩
  | false =>
    by_cases h1 : fam < t
    · have hd : decide (fam < t) = true := decide_eq_true h1
      by_cases h2 : t = cell
      · have q2 : (t != cell) = false := by simpa using h2
        have hd2 : decide (t ≠ cell) = false := decide_eq_false (by simpa using h2)
        rw [hd2]
        subst h2
        go_enter Tryd.func107, Tryd.ntmps107
        go_wp2
        go_ret
        exact ⟨by simp, rfl⟩
      · have q2 : (t != cell) = true := by simpa using h2
        have hd2 : decide (t ≠ cell) = true := decide_eq_true h2
        rw [hd2, hd]
        clear h2 hd2
        go_enter Tryd.func107, Tryd.ntmps107
        go_wp2
        go_ret
        exact ⟨rfl, rfl⟩
    · have hd : decide (fam < t) = false := decide_eq_false h1
      rw [hd]
      go_enter Tryd.func107, Tryd.ntmps107
      go_wp2
      go_ret
      exact ⟨rfl, rfl⟩

set_option maxHeartbeats 1000000 in
theorem lives_any (ver life now t : Int) (w : World) :
    Calls Tryd.prog 108 #[.agg #[.int .i64 ver, .int .i64 life, .int .i64 now], .int .i64 t] w fun e w' => e = .returned (.bool (livesM life now t)) ∧ Below w.heap.size w w' := by
  unfold livesM
  by_cases h1 : life = 0
  · subst h1
    go_enter Tryd.func108, Tryd.ntmps108
    go_wp2
    go_ret
    exact ⟨rfl, below_new _ _⟩
  · have q1 : (life == 0) = false := by simpa using h1
    have hd : decide (life = 0) = false := decide_eq_false h1
    rw [hd]
    clear h1 hd
    obtain ⟨x, hx⟩ : ∃ x, IntKind.i64.wrap (t + life) = x := ⟨_, rfl⟩
    rw [hx]
    by_cases h2 : now < x
    · have hd : decide (now < x) = true := decide_eq_true h2
      rw [hd]
      go_enter Tryd.func108, Tryd.ntmps108
      go_wp2
      go_ret
      exact ⟨by simp, below_new _ _⟩
    · have hd : decide (now < x) = false := decide_eq_false h2
      rw [hd]
      go_enter Tryd.func108, Tryd.ntmps108
      go_wp2
      go_ret
      exact ⟨by simp, below_new _ _⟩

set_option maxHeartbeats 1000000 in
theorem cright_rules (ver life now : Int) (w : World) :
    Calls Tryd.prog 83 #[.agg #[.int .i64 ver, .int .i64 life, .int .i64 now]] w fun e w' => e = .returned (.bool (rightM ver life)) ∧ Below w.heap.size w w' := by
  unfold rightM
  by_cases h1 : 1 ≤ ver
  · by_cases h2 : ver ≤ 8
    · by_cases h3 : 0 ≤ life
      · rw [decide_eq_true h1, decide_eq_true h2, decide_eq_true h3]
        go_enter Tryd.func83, Tryd.ntmps83
        go_wp2
        go_ret
        exact ⟨rfl, below_new _ _⟩
      · rw [decide_eq_true h1, decide_eq_true h2, decide_eq_false h3]
        go_enter Tryd.func83, Tryd.ntmps83
        go_wp2
        go_ret
        exact ⟨rfl, below_new _ _⟩
    · rw [decide_eq_true h1, decide_eq_false h2]
      go_enter Tryd.func83, Tryd.ntmps83
      go_wp2
      go_ret
      exact ⟨rfl, below_new _ _⟩
  · rw [decide_eq_false h1]
    go_enter Tryd.func83, Tryd.ntmps83
    go_wp2
    go_ret
    exact ⟨rfl, below_new _ _⟩
end Go.Proofs.YtpjkhholpbfbpaaDoor
