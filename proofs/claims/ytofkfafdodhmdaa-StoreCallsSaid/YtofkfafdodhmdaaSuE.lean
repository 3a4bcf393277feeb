/- The document's disk in memory. Conditions: none. -/
import Derived.Test.YtofkfafdodhmdaaMA
import Derived.Test.YtofkfafdodhmdaaStVa
namespace Go.Proofs.Ytofkfafdodhmdaa
open Go.RowKit

/-- A file of the document's in memory. -/
structure Rm where
  n : ByteArray
  no : Nat
  sv : Value
  s : List UInt8
  h : Bool
def Rm.r (m : Rm) : Rs := ⟨m.n, m.no, m.s, m.h⟩
def encM (m : Rm) : List Value := [.string m.n, .int .i64 (m.no : Int), m.sv, .bool m.h]
def flatM (l : List Rm) : List Value := l.flatMap encM
theorem flatM_len (l : List Rm) : (flatM l).length = l.length * 4 := by
  unfold flatM
  induction l with
  | nil => rfl
  | cons a t ih =>
    rw [List.flatMap_cons, List.length_append, ih, List.length_cons]
    show 4 + _ = _
    omega
theorem flatM_app (l m : List Rm) : flatM (l ++ m) = flatM l ++ flatM m := by unfold flatM; simp
theorem flatM_at : ∀ (l : List Rm) (i c : Nat) (hi : i < l.length), c < 4 → (flatM l)[i * 4 + c]? = (encM l[i])[c]?
  | [], i, _, hi, _ => absurd hi (by simp)
  | a :: t, 0, c, _, hc => by
    show (encM a ++ flatM t)[0 * 4 + c]? = (encM a)[c]?
    rw [List.getElem?_append_left (by show 0 * 4 + c < 4; omega), show 0 * 4 + c = c by omega]
  | a :: t, i + 1, c, hi, hc => by
    have hi' : i < t.length := by simpa using hi
    show (encM a ++ flatM t)[(i + 1) * 4 + c]? = (encM t[i])[c]?
    rw [List.getElem?_append_right (by show 4 ≤ _; omega), show (i + 1) * 4 + c - (encM a).length = i * 4 + c by show (i + 1) * 4 + c - 4 = _; omega]
    exact flatM_at t i c hi' hc
/-- A byte that doesn't last, in memory. -/
abbrev Lm := Nat × UInt8
def encL (x : Lm) : List Value := [.int .i64 (x.1 : Int), .int .u8 (x.2.toNat : Int)]
def flatL (l : List Lm) : List Value := l.flatMap encL
theorem flatL_len (l : List Lm) : (flatL l).length = l.length * 2 := by
  unfold flatL
  induction l with
  | nil => rfl
  | cons a t ih =>
    rw [List.flatMap_cons, List.length_append, ih, List.length_cons]
    show 2 + _ = _
    omega
theorem flatL_app (l m : List Lm) : flatL (l ++ m) = flatL l ++ flatL m := by unfold flatL; simp
theorem flatL_at : ∀ (l : List Lm) (i c : Nat) (hi : i < l.length), c < 2 → (flatL l)[i * 2 + c]? = (encL l[i])[c]?
  | [], i, _, hi, _ => absurd hi (by simp)
  | a :: t, 0, c, _, hc => by
    show (encL a ++ flatL t)[0 * 2 + c]? = (encL a)[c]?
    rw [List.getElem?_append_left (by show 0 * 2 + c < 2; omega), show 0 * 2 + c = c by omega]
  | a :: t, i + 1, c, hi, hc => by
    have hi' : i < t.length := by simpa using hi
    show (encL a ++ flatL t)[(i + 1) * 2 + c]? = (encL t[i])[c]?
    rw [List.getElem?_append_right (by show 2 ≤ _; omega), show (i + 1) * 2 + c - (encL a).length = i * 2 + c by show (i + 1) * 2 + c - 2 = _; omega]
    exact flatL_at t i c hi' hc
abbrev MRow (w : World) (B : Nat) (v : Value) (l : List Rm) : Prop := w.ownsRow B 64 4 v l.length (flatM l)
abbrev LRow (w : World) (B : Nat) (v : Value) (l : List Lm) : Prop := w.ownsRow B 66 2 v l.length (flatL l)
def Rm.apart (a b : Rm) : Prop := ∀ k, a.sv.ownBlock = some k → b.sv.ownBlock ≠ some k
/-- The document's disk: its block, its rows, each file's bytes. -/
structure Rk (w : World) (B rb : Nat) (fv lv : Value) (ms : List Rm) (ls : List Lm) (z : Int) (nx : Nat) : Prop where
  lo : B ≤ rb
  blk : Blk w rb 49 #[fv, lv, .int .i64 z, .int .i64 (nx : Int)]
  fr : MRow w B fv ms
  lr : LRow w B lv ls
  sr : ∀ m ∈ ms, Row w B m.sv m.s
  ap : ms.Pairwise Rm.apart
/-- Its blocks. -/
def Rt (rb : Nat) (fv lv : Value) (ms : List Rm) (k : Nat) : Prop := k = rb ∨ fv.ownBlock = some k ∨ lv.ownBlock = some k ∨ ∃ m ∈ ms, m.sv.ownBlock = some k
theorem Rk.rt {w : World} {B rb nx : Nat} {fv lv : Value} {ms : List Rm} {ls : List Lm} {z : Int} (h : Rk w B rb fv lv ms ls z nx) {k : Nat} (hk : Rt rb fv lv ms k) : B ≤ k ∧ k < w.heap.size := by
  rcases hk with rfl | q | q | ⟨m, hm, q⟩
  · exact ⟨h.lo, h.blk.lt⟩
  · exact World.ownsRow.lt h.fr k q
  · exact World.ownsRow.lt h.lr k q
  · exact World.ownsRow.lt (h.sr m hm) k q
theorem Rk.keep {w w' : World} {B rb nx : Nat} {fv lv : Value} {ms : List Rm} {ls : List Lm} {z : Int} (h : Rk w B rb fv lv ms ls z nx) (hk : ∀ k, Rt rb fv lv ms k → w'.heap[k]? = w.heap[k]?) : Rk w' B rb fv lv ms ls z nx :=
  ⟨h.lo, (hk _ (.inl rfl)).trans h.blk, own_block0 h.fr fun g q => hk g (.inr (.inl q)), own_block0 h.lr fun g q => hk g (.inr (.inr (.inl q))), fun m hm => own_block0 (h.sr m hm) fun g q => hk g (.inr (.inr (.inr ⟨m, hm, q⟩))), h.ap⟩
theorem Rk.below {w w' : World} {B rb nx : Nat} {fv lv : Value} {ms : List Rm} {ls : List Lm} {z : Int} (h : Rk w B rb fv lv ms ls z nx) (hb : Below w.heap.size w w') : Rk w' B rb fv lv ms ls z nx := h.keep fun k q => hb.block k (h.rt q).2
theorem mrow_form {w : World} {B : Nat} {v : Value} {l : List Rm} (h : MRow w B v l) {n : Nat} (hn : l.length = n) : ∃ A c, v = .slice A n c := by
  rcases h.2 with ⟨e, e2⟩ | ⟨g, cap, _, e, _⟩
  · exact ⟨none, 0, by rw [e, ← hn, e2]⟩
  · exact ⟨_, cap, by rw [e, hn]⟩
theorem lrow_form {w : World} {B : Nat} {v : Value} {l : List Lm} (h : LRow w B v l) {n : Nat} (hn : l.length = n) : ∃ A c, v = .slice A n c := by
  rcases h.2 with ⟨e, e2⟩ | ⟨g, cap, _, e, _⟩
  · exact ⟨none, 0, by rw [e, ← hn, e2]⟩
  · exact ⟨_, cap, by rw [e, hn]⟩
/-- A file's words. -/
theorem mrow_at {w : World} {B n c : Nat} {A : Option Addr} {l : List Rm} (h : MRow w B (.slice A n c) l) {i : Nat} (hi : i < l.length) : ∃ g, A = some ⟨g, 0, none⟩ ∧ ∀ j x, j < 4 → (encM l[i])[j]? = some x → w.cell? ⟨g, i * 4 + j, none⟩ = some x := by
  have hn : n = l.length := by
    rcases h.2 with ⟨e, e2⟩ | ⟨g, cap, _, e, _⟩
    · injection e with _ e3 _
      omega
    · injection e
  subst hn
  rcases h.2 with ⟨e, e2⟩ | ⟨g, cap, cur, e, _⟩
  · omega
  · injection e with e1 e2 e3
    subst e1 e3
    exact ⟨g, rfl, fun j x hj hx => (own_cells h (by rw [flatM_at l i j hi hj, hx])).1⟩
theorem lrow_at {w : World} {B n c : Nat} {A : Option Addr} {l : List Lm} (h : LRow w B (.slice A n c) l) {i : Nat} (hi : i < l.length) : ∃ g, A = some ⟨g, 0, none⟩ ∧ w.cell? ⟨g, i * 2, none⟩ = some (.int .i64 (l[i].1 : Int)) ∧ w.cell? ⟨g, i * 2 + 1, none⟩ = some (.int .u8 (l[i].2.toNat : Int)) := by
  have hn : n = l.length := by
    rcases h.2 with ⟨e, e2⟩ | ⟨g, cap, _, e, _⟩
    · injection e with _ e3 _
      omega
    · injection e
  subst hn
  rcases h.2 with ⟨e, e2⟩ | ⟨g, cap, cur, e, _⟩
  · omega
  · injection e with e1 e2 e3
    subst e1 e3
    exact ⟨g, rfl, (own_cells h (flatL_at l i 0 hi (by omega))).1, (own_cells h (by rw [flatL_at l i 1 hi (by omega)]; rfl)).1⟩
/-- All that the document's disk holds. -/
def sizeM (ms : List Rm) (ls : List Lm) : Nat := ls.length + (ms.map fun m => m.s.length).sum

set_option maxHeartbeats 1000000 in
theorem rnew_no (z : Int) (hz : z < 0 ∨ 16777216 < z) (w : World) : Calls Try.prog 10 #[.int .i64 z] w fun e w' => e = .returned (.tuple #[.pointer none, .int .i64 11]) ∧ Below w.heap.size w w' := by
  by_cases h1 : z < 0
  · clear hz
    go_enter Try.func10, Try.ntmps10
    go_wp2
    go_ret2
    exact ⟨rfl, Below.refl _ _⟩
  · have h2 : 16777216 < z := by omega
    clear hz
    go_enter Try.func10, Try.ntmps10
    go_wp2
    go_ret2
    exact ⟨rfl, Below.refl _ _⟩
set_option maxHeartbeats 1000000 in
theorem rnew_yes (z : Int) (h0 : 0 ≤ z) (h1 : z ≤ 16777216) (w : World) : Calls Try.prog 10 #[.int .i64 z] w fun e w' => e = .returned (.tuple #[.pointer (some ⟨w.heap.size, 0, none⟩), .int .i64 0]) ∧ Rk w' w.heap.size w.heap.size (.slice none 0 0) (.slice none 0 0) [] [] z 0 ∧ Below w.heap.size w w' := by
  have g1 : ¬ z < 0 := by omega
  have g2 : ¬ 16777216 < z := by omega
  clear h0 h1
  go_enter Try.func10, Try.ntmps10
  go_wp2
  go_ret2
  exact ⟨rfl, ⟨Nat.le_refl _, Blk.new w _ _, ⟨rfl, .inl ⟨rfl, rfl⟩⟩, ⟨rfl, .inl ⟨rfl, rfl⟩⟩, fun m hm => (by cases hm), List.Pairwise.nil⟩, below_new w _⟩
end Go.Proofs.Ytofkfafdodhmdaa
