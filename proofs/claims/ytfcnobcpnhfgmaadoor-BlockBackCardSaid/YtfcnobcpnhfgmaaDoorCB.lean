/- codec.Right at every cell. Conditions: the texts are no longer than any are, the numbers of 64 bits; the tables of utf8 read as they are laid. -/
import Derived.Test.YtfcnobcpnhfgmaaDoorCA
namespace Go.Proofs.YtfcnobcpnhfgmaaDoor
open Go.RowKit

/-- The value that is none. -/
def zeroV (k n : Int) (s : List UInt8) : Bool := decide (k = 0) && (decide (n = 0) && s.isEmpty)
def cHead (r f q : List UInt8) (t : Int) : Bool := (decide (1 ≤ r.length) && decide (r.length ≤ 16)) && (nameB f && (decide (q.length ≤ 12) && (decide (0 ≤ t) && decide (t ≤ 1099511627776))))
def cTail (q : List UInt8) (k vk vn : Int) (vs : List UInt8) : Bool := if k = 1 then vRight vk vn vs else if k = 2 ∨ k = 3 then zeroV vk vn vs else if k = 4 then q.isEmpty && zeroV vk vn vs else false
/-- Is a cell right? -/
def cRight (r f q : List UInt8) (t k vk vn : Int) (vs : List UInt8) : Bool := cHead r f q t && cTail q k vk vn vs

abbrev cellV (r f q : ByteArray) (t k vk vn : Int) (vs : ByteArray) : Value := .agg #[.string r, .string f, .string q, .int .i64 t, .int .i64 k, .int .i64 vk, .int .i64 vn, .string vs]

set_option maxRecDepth 100000 in
set_option maxHeartbeats 4000000 in
/-- Something ahead of the kind is wrong. -/
theorem cright_head (r f q vs : ByteArray) (t k vk vn : Int) (nf : Bool) (h : (r.size < 1 ∨ 16 < r.size) ∨ (¬ (r.size < 1 ∨ 16 < r.size) ∧ (nf = false ∨ (nf = true ∧ (12 < q.size ∨ (q.size ≤ 12 ∧ (t < 0 ∨ (0 ≤ t ∧ 1099511627776 < t)))))))) (w : World)
    (HN : ∀ W, Calls Tryd.prog 111 #[.string f] W fun e w' => e = .returned (.bool nf) ∧ w' = W) :
    Calls Tryd.prog 61 #[cellV r f q t k vk vn vs] w fun e w' => e = .returned (.bool false) ∧ Below w.heap.size w w' := by
  have HN := hid HN
  rcases h with (h | h) | ⟨h0, rfl | ⟨rfl, h | ⟨h1, h | ⟨h2, h3⟩⟩⟩⟩
  all_goals
    go_enter Tryd.func61, Tryd.ntmps61
    go_wp2_with (go_at_call 111; refine (HN.out _).mono ?_; rintro e w1 ⟨rfl, rfl⟩)
    all_goals go_ret
    all_goals exact ⟨rfl, below_new _ _⟩
set_option maxRecDepth 100000 in
set_option maxHeartbeats 4000000 in
/-- A put. -/
theorem cright_put (r f q vs : ByteArray) (t vk vn : Int) (vr : Bool) (h1 : 1 ≤ r.size) (h2 : r.size ≤ 16) (h3 : q.size ≤ 12) (h4 : 0 ≤ t) (h5 : t ≤ 1099511627776) (w : World)
    (HN : ∀ W, Calls Tryd.prog 111 #[.string f] W fun e w' => e = .returned (.bool true) ∧ w' = W)
    (HV : ∀ W, Below w.heap.size w W → Calls Tryd.prog 94 #[.agg #[.int .i64 vk, .int .i64 vn, .string vs]] W fun e w' => e = .returned (.bool vr) ∧ Below W.heap.size W w') :
    Calls Tryd.prog 61 #[cellV r f q t 1 vk vn vs] w fun e w' => e = .returned (.bool vr) ∧ Below w.heap.size w w' := by
  have HN := hid HN
  have HV := hid HV
  have h0 : ¬ (r.size < 1 ∨ 16 < r.size) := by omega
  go_enter Tryd.func61, Tryd.ntmps61
  go_wp2_with (first | (go_at_call 111; refine (HN.out _).mono ?_; rintro e w1 ⟨rfl, rfl⟩) | (go_at_call 94; refine (HV.out _ (below_new _ _)).mono ?_; rintro e w1 ⟨rfl, hb⟩))
  go_ret
  exact ⟨rfl, (below_new _ _).trans (hb.mono (below_new _ _).size)⟩

/-- A value that is none, or what of it is something. -/
def NoneOr (vk vn : Int) (vs : ByteArray) (z : Bool) : Prop :=
  (¬ vk = 0 ∧ (vk == 0) = false ∧ z = false) ∨ (vk = 0 ∧ ((¬ vn = 0 ∧ (vn == 0) = false ∧ z = false) ∨ (vn = 0 ∧ ((¬ vs.toList = [] ∧ z = false) ∨ (vs = ⟨#[]⟩ ∧ z = true)))))
theorem noneOr (vk vn : Int) (vs : ByteArray) : NoneOr vk vn vs (zeroV vk vn vs.data.toList) := by
  unfold NoneOr zeroV
  by_cases h1 : vk = 0
  · by_cases h2 : vn = 0
    · by_cases h3 : vs = ⟨#[]⟩
      · subst h1; subst h2; subst h3
        exact .inr ⟨rfl, .inr ⟨rfl, .inr ⟨rfl, rfl⟩⟩⟩
      · have : vs.data.toList ≠ [] := fun e => h3 (by cases vs; simp_all)
        refine .inr ⟨h1, .inr ⟨h2, .inl ⟨by rw [toList_eq]; exact this, ?_⟩⟩⟩
        cases hl : vs.data.toList with
        | nil => exact absurd hl this
        | cons => simp
    · exact .inr ⟨h1, .inl ⟨h2, by simpa using h2, by simp [h2]⟩⟩
  · exact .inl ⟨h1, by simpa using h1, by simp [h1]⟩

set_option maxRecDepth 100000 in
set_option maxHeartbeats 8000000 in
/-- A cell or a column is gone. -/
theorem cright_gone (r f q vs : ByteArray) (t k vk vn : Int) (z : Bool) (h1 : 1 ≤ r.size) (h2 : r.size ≤ 16) (h3 : q.size ≤ 12) (h4 : 0 ≤ t) (h5 : t ≤ 1099511627776) (hk : k = 2 ∨ k = 3) (hv : NoneOr vk vn vs z) (w : World)
    (HN : ∀ W, Calls Tryd.prog 111 #[.string f] W fun e w' => e = .returned (.bool true) ∧ w' = W) :
    Calls Tryd.prog 61 #[cellV r f q t k vk vn vs] w fun e w' => e = .returned (.bool z) ∧ Below w.heap.size w w' := by
  have HN := hid HN
  have h0 : ¬ (r.size < 1 ∨ 16 < r.size) := by omega
  rcases hk with rfl | rfl
  all_goals rcases hv with ⟨h, q0, rfl⟩ | ⟨rfl, ⟨h, q0, rfl⟩ | ⟨rfl, ⟨h, rfl⟩ | ⟨rfl, rfl⟩⟩⟩
  all_goals
    go_enter Tryd.func61, Tryd.ntmps61
    go_wp2_with (go_at_call 111; refine (HN.out _).mono ?_; rintro e w1 ⟨rfl, rfl⟩)
    go_ret
    exact ⟨rfl, below_new _ _⟩

set_option maxRecDepth 100000 in
set_option maxHeartbeats 8000000 in
/-- A family is gone. -/
theorem cright_fam (r f q vs : ByteArray) (t vk vn : Int) (z : Bool) (h1 : 1 ≤ r.size) (h2 : r.size ≤ 16) (h3 : q.size ≤ 12) (h4 : 0 ≤ t) (h5 : t ≤ 1099511627776) (hq : (¬ q.toList = [] ∧ z = false) ∨ (q = ⟨#[]⟩ ∧ NoneOr vk vn vs z)) (w : World)
    (HN : ∀ W, Calls Tryd.prog 111 #[.string f] W fun e w' => e = .returned (.bool true) ∧ w' = W) :
    Calls Tryd.prog 61 #[cellV r f q t 4 vk vn vs] w fun e w' => e = .returned (.bool z) ∧ Below w.heap.size w w' := by
  have HN := hid HN
  have h0 : ¬ (r.size < 1 ∨ 16 < r.size) := by omega
  rcases hq with ⟨h, rfl⟩ | ⟨rfl, hv⟩
  · go_enter Tryd.func61, Tryd.ntmps61
    go_wp2_with (go_at_call 111; refine (HN.out _).mono ?_; rintro e w1 ⟨rfl, rfl⟩)
    go_ret
    exact ⟨rfl, below_new _ _⟩
  rcases hv with ⟨h, q0, rfl⟩ | ⟨rfl, ⟨h, q0, rfl⟩ | ⟨rfl, ⟨h, rfl⟩ | ⟨rfl, rfl⟩⟩⟩
  all_goals
    go_enter Tryd.func61, Tryd.ntmps61
    go_wp2_with (go_at_call 111; refine (HN.out _).mono ?_; rintro e w1 ⟨rfl, rfl⟩)
    go_ret
    exact ⟨rfl, below_new _ _⟩

set_option maxRecDepth 100000 in
set_option maxHeartbeats 4000000 in
/-- No kind. -/
theorem cright_other (r f q vs : ByteArray) (t k vk vn : Int) (h1 : 1 ≤ r.size) (h2 : r.size ≤ 16) (h3 : q.size ≤ 12) (h4 : 0 ≤ t) (h5 : t ≤ 1099511627776) (k1 : ¬ k = 1) (k2 : ¬ k = 2) (k3 : ¬ k = 3) (k4 : ¬ k = 4) (w : World)
    (HN : ∀ W, Calls Tryd.prog 111 #[.string f] W fun e w' => e = .returned (.bool true) ∧ w' = W) :
    Calls Tryd.prog 61 #[cellV r f q t k vk vn vs] w fun e w' => e = .returned (.bool false) ∧ Below w.heap.size w w' := by
  have HN := hid HN
  have h0 : ¬ (r.size < 1 ∨ 16 < r.size) := by omega
  have e1 : (k == 1) = false := by simpa using k1
  have e2 : (k == 2) = false := by simpa using k2
  have e3 : (k == 3) = false := by simpa using k3
  have e4 : (k == 4) = false := by simpa using k4
  go_enter Tryd.func61, Tryd.ntmps61
  go_wp2_with (go_at_call 111; refine (HN.out _).mono ?_; rintro e w1 ⟨rfl, rfl⟩)
  go_ret
  exact ⟨rfl, below_new _ _⟩
end Go.Proofs.YtfcnobcpnhfgmaaDoor
