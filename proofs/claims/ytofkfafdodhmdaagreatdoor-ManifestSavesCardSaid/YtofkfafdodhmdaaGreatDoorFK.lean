/- Words for memory: blocks of cells, rows of bytes that a call owns, appending to them; and plain mathematics of numbers as bytes, the highest first. Conditions: rows of at most a million bytes where bytes are appended. -/
import Derived.Test.YtofkfafdodhmdaaGreatDoorRows
import Derived.Test.YtofkfafdodhmdaaGreatDoorFH
import Derived.Deep.Light
import Derived.Lib.SmallJoins
import Derived.OwnWalk
import Derived.Deep.AppendLies
namespace Go.Proofs.YtofkfafdodhmdaaGreatDoor
open Go.RowKit

/-- Block b holds these cells, and may be written. -/
def Blk (w : World) (b : Nat) (T : TypeId) (xs : Array Value) : Prop := w.heap[b]? = some (.cells xs T (0, 0))
theorem Blk.lt {w : World} {b : Nat} {T : TypeId} {xs : Array Value} (h : Blk w b T xs) : b < w.heap.size := by
  rcases Nat.lt_or_ge b w.heap.size with h' | h'
  · exact h'
  · unfold Blk at h; simp [Array.getElem?_eq_none h'] at h
theorem Blk.cell {w : World} {b : Nat} {T : TypeId} {xs : Array Value} (h : Blk w b T xs) (i : Nat) : w.cell? ⟨b, i, none⟩ = xs[i]? := by unfold Blk at h; simp [World.cell?, h]
theorem Blk.free {w : World} {b : Nat} {T : TypeId} {xs : Array Value} (h : Blk w b T xs) (i : Nat) : w.frozen? ⟨b, i, none⟩ = false := by unfold Blk at h; simp [World.frozen?, h]
theorem Blk.set {w : World} {b : Nat} {T : TypeId} {xs : Array Value} (h : Blk w b T xs) (i : Nat) (u : Value) : Blk (w.setCell ⟨b, i, none⟩ u) b T (xs.setIfInBounds i u) := by
  have hlt := h.lt
  unfold Blk at *
  have h' : w.heap[b] = .cells xs T (0, 0) := by simpa [Array.getElem?_eq_getElem hlt] using h
  show (w.heap.modify b _)[b]? = _
  rw [Array.getElem?_eq_getElem (by simpa using hlt), Array.getElem_modify_self, h']
  rfl
theorem Blk.new (w : World) (T : TypeId) (xs : Array Value) : Blk (w.alloc (.cells xs T)) w.heap.size T xs := by unfold Blk; exact heap_alloc_new w _
theorem Blk.keep {w w' : World} {b B : Nat} {T : TypeId} {xs : Array Value} (h : Blk w b T xs) (hb : Below B w w') (hB : b < B) : Blk w' b T xs := by unfold Blk at *; rw [hb.block b hB]; exact h

theorem cell_lt {w : World} {b i : Nat} {v : Value} (h : w.cell? ⟨b, i, none⟩ = some v) : b < w.heap.size := by
  rcases Nat.lt_or_ge b w.heap.size with h' | h'
  · exact h'
  · simp [World.cell?, Array.getElem?_eq_none h'] at h

/-- The cells of a byte text. -/
def bc (l : List UInt8) : List Value := l.map fun c => Value.int .u8 (c.toNat : Int)

theorem add_zero_off (b o n : Nat) : (⟨b, o, none⟩ : Addr).add n = ⟨b, o + n, none⟩ := by
  unfold Addr.add
  split
  · subst_vars; rfl
  · rfl

/-- The last k bytes of r, the highest first. -/
def byW : Nat → Nat → List UInt8
  | 0, _ => []
  | k + 1, r => byW k (r / 256) ++ [UInt8.ofNat (r % 256)]
theorem byW_len (k r : Nat) : (byW k r).length = k := by
  induction k generalizing r with
  | zero => rfl
  | succ k ih => simp [byW, ih]
theorem byW_cons (k r : Nat) : byW (k + 1) r = UInt8.ofNat (r / 256 ^ k % 256) :: byW k r := by
  induction k generalizing r with
  | zero => simp [byW]
  | succ k ih =>
    rw [byW, ih (r / 256), byW]
    simp only [List.cons_append, List.cons.injEq, and_true]
    rw [Nat.div_div_eq_div_mul, Nat.pow_succ, Nat.mul_comm]

/-- The number of bytes, the highest first. -/
def foldB (l : List UInt8) : Nat := l.foldl (fun r x => r * 256 + x.toNat) 0
theorem foldB_snoc (l : List UInt8) (x : UInt8) : foldB (l ++ [x]) = foldB l * 256 + x.toNat := by unfold foldB; rw [List.foldl_append]; rfl
theorem foldB_lt (l : List UInt8) : foldB l < 256 ^ l.length := by
  induction h : l.length generalizing l with
  | zero => have : l = [] := List.length_eq_zero_iff.1 h
            subst this; decide
  | succ n ih =>
    obtain ⟨l', x, rfl⟩ : ∃ l' x, l = l' ++ [x] := ⟨l.dropLast, l.getLast (by intro e; rw [e] at h; simp at h), (List.dropLast_concat_getLast _).symm⟩
    have hl : l'.length = n := by simpa using h
    rw [foldB_snoc, Nat.pow_succ]
    have := ih l' hl
    have hx := x.toNat_lt
    omega
theorem foldB_take (l : List UInt8) (k : Nat) (h : k < l.length) : foldB (l.take (k + 1)) = foldB (l.take k) * 256 + (l.getD k 0).toNat := by
  rw [List.take_succ_eq_append_getElem h, foldB_snoc, List.getD_eq_getElem?_getD, List.getElem?_eq_getElem h, Option.getD_some]
theorem foldB_byW (k : Nat) : ∀ r, r < 256 ^ k → foldB (byW k r) = r := by
  induction k with
  | zero => intro r h; have : r = 0 := by simpa using h
            subst this; rfl
  | succ k ih =>
    intro r h
    have h2 : r / 256 < 256 ^ k := by rw [Nat.pow_succ] at h; omega
    rw [byW, foldB_snoc, ih _ h2, UInt8.toNat_ofNat']
    have : r % 256 % 2 ^ 8 = r % 256 := Nat.mod_eq_of_lt (by omega)
    rw [this]
    omega

theorem info_u8 : (Tryz.prog.info? 5).map (fun i => (i.zero, i.size, i.bytes)) = some (some (.int .u8 0), 1, 1) := by kernel_rfl

/-- The slice v holds the bytes l in a row that belongs to the call (from block B on). -/
def Row (w : World) (B : Nat) (v : Value) (l : List UInt8) : Prop := w.ownsRow B 5 1 v l.length (bc l)

theorem Row.alloc {w : World} {B : Nat} {v : Value} {l : List UInt8} (h : Row w B v l) (o : Obj) : Row (w.alloc o) B v l := World.ownsRow.alloc h o
theorem Row.none (w : World) (B : Nat) : Row w B (.slice none 0 0) [] := ⟨rfl, .inl ⟨rfl, rfl⟩⟩
theorem Row.le {w : World} {B B' : Nat} {v : Value} {l : List UInt8} (h : Row w B v l) (hb : B' ≤ B) : Row w B' v l := Joins.ownsRow_le h hb
theorem bc_len (l : List UInt8) : (bc l).length = l.length := by unfold bc; simp
theorem bc_app (l m : List UInt8) : bc (l ++ m) = bc l ++ bc m := by unfold bc; simp
theorem bc_at (l : List UInt8) (i : Nat) : (bc l)[i]? = (l[i]?).map fun x => Value.int .u8 (x.toNat : Int) := by unfold bc; simp
theorem bc_one (l : List UInt8) : ∀ u ∈ bc l, u.oneCell' = true := by
  intro u hu
  obtain ⟨x, _, rfl⟩ := List.mem_map.1 hu
  rfl
/-- The form of a row that isn't empty, and its cells. -/
theorem Row.form {w : World} {B : Nat} {v : Value} {l : List UInt8} (h : Row w B v l) (hl : 0 < l.length) :
    ∃ g cap, v = .slice (some ⟨g, 0, Option.none⟩) l.length cap ∧ B ≤ g ∧ g < w.heap.size ∧ l.length ≤ cap ∧ ∀ i, i < l.length → w.cell? ⟨g, i, Option.none⟩ = some (.int .u8 ((l.getD i 0).toNat : Int)) := by
  obtain ⟨h1, h2⟩ := h
  rcases h2 with ⟨_, h0⟩ | ⟨g, cap, cur, rfl, hB, hh, hn, hm, hs, ht⟩
  · omega
  · refine ⟨g, cap, rfl, hB, ?_, hn, fun i hi => ?_⟩
    · rcases Nat.lt_or_ge g w.heap.size with h' | h'
      · exact h'
      · rw [Array.getElem?_eq_none h'] at hh; cases hh
    · rw [cell_of_row w g i cur _ (0, 0) hh]
      have : (cur.toList.take (l.length * 1))[i]? = (bc l)[i]? := by rw [ht]
      rw [List.getElem?_take_of_lt (by omega), bc_at, List.getElem?_eq_getElem hi] at this
      rw [← Array.getElem?_toList, this]
      simp [List.getElem?_eq_getElem hi]
/-- A fresh row of known cells. -/
theorem Row.new (w : World) (B : Nat) (hB : B ≤ w.heap.size) (l : List UInt8) (hl : l.length ≤ maxLen) : Row (w.alloc (.cells (bc l).toArray 5)) B (.slice (some ⟨w.heap.size, 0, Option.none⟩) l.length l.length) l := by
  refine ⟨by rw [bc_len]; omega, .inr ⟨w.heap.size, l.length, (bc l).toArray, rfl, hB, ?_, Nat.le_refl _, hl, by simp [bc_len], ?_⟩⟩
  · exact heap_alloc_new w _
  · simp [← bc_len l]
/-- What lies below the row's block may change. -/
theorem Row.keep {w w' : World} {B B' : Nat} {v : Value} {l : List UInt8} (h : Row w B v l) (hb : Below B' w w') (hg : ∀ g, v.ownBlock = some g → g < B') : Row w' B v l := by
  obtain ⟨h1, h2⟩ := h
  refine ⟨h1, ?_⟩
  rcases h2 with h2 | ⟨g, cap, cur, rfl, hB, hh, hr⟩
  · exact .inl h2
  · exact .inr ⟨g, cap, cur, rfl, hB, by rw [hb.block g (hg g rfl)]; exact hh, hr⟩
theorem Row.block_lt {w : World} {B : Nat} {v : Value} {l : List UInt8} (h : Row w B v l) : ∀ g, v.ownBlock = some g → g < w.heap.size := fun g hg => (World.ownsRow.lt h g hg).2

section
variable {ops : Array Oper} {rest : List Oper} {o : Oper} {a : Act} {Q : Exit → Act → World → Prop}
/-- append of some bytes to a row of the call's own. -/
theorem wpList_append_bytes (hgd : o.guard = Option.none) (s x : Operand)
    (ho : o.op = .call { callee := .builtin .append, args := #[s, x], argTypes := #[25, 25] })
    (w : World) (base : Nat) (v : Value) (l : List UInt8) (hs : a.eval s = v) (hown : Row w base v l)
    (ad : Addr) (m c : Nat) (news : List UInt8) (hm : news.length = m) (hx : a.eval x = .slice (some ad) m c) (hnews : ∀ j u, (bc news)[j]? = some u → w.cell? (ad.add j) = some u)
    (hlen : l.length + news.length ≤ 1000000) (hbase : base ≤ w.heap.size)
    (h : ∀ v' w', Row w' base v' (l ++ news) → Below base w w' → wpList Tryz.prog ops Q rest (a.put o.dst v') w') : wpList Tryz.prog ops Q (o :: rest) a w := by
  obtain ⟨i0, hi, hz0, hz1, hz2⟩ := info_parts info_u8
  subst hm
  refine wpList_append_own w hgd s x 25 ho base 5 i0 (.int .u8 0) 1 1 Tryz.underlying25 hi hz0 hz1 hz2 rfl (by decide) v l.length (bc l) hs hown ad news.length c (bc news) hx (by rw [bc_len]; omega) hnews (bc_one _) (by unfold maxLen; omega) (by omega) hbase ?_
  intro v' w' h1 h2 _
  refine h v' w' ?_ ((Below.refl _ _).grown h2 hbase fun k hk => (World.ownsRow.lt hown k hk).1)
  unfold Row
  rw [bc_app, List.length_append]
  exact h1
end

theorem cell_one (w : World) (x : Value) (t : TypeId) : (w.alloc (.cells #[x] t)).cell? ⟨w.heap.size, 0, Option.none⟩ = some x := by
  rw [World.cell?_alloc_at _ _ _ _ rfl]; rfl

/-- One byte more, however its number is spelled. -/
theorem one_new' (w : World) (c : UInt8) (t : TypeId) (x : Int) (hx : x = (c.toNat : Int)) : ∀ j u, (bc [c])[j]? = some u → (w.alloc (.cells #[.int .u8 x] t)).cell? ((⟨w.heap.size, 0, Option.none⟩ : Addr).add j) = some u := by
  subst hx
  intro j u hu
  match j, hu with
  | 0, hu =>
    have : u = .int .u8 (c.toNat : Int) := by simpa [bc] using hu.symm
    subst this
    exact cell_one _ _ _
  | j + 1, hu => simp [bc] at hu
/-- One byte more. -/
theorem one_new (w : World) (c : UInt8) (t : TypeId) : ∀ j u, (bc [c])[j]? = some u → (w.alloc (.cells #[.int .u8 (c.toNat : Int)] t)).cell? ((⟨w.heap.size, 0, Option.none⟩ : Addr).add j) = some u := by
  intro j u hu
  match j, hu with
  | 0, hu =>
    have : u = .int .u8 (c.toNat : Int) := by simpa [bc] using hu.symm
    subst this
    exact cell_one _ _ _
  | j + 1, hu => simp [bc] at hu

theorem byW_at (k r : Nat) : ∀ i, i < k → (byW k r)[i]? = some (UInt8.ofNat (r / 256 ^ (k - 1 - i) % 256)) := by
  induction k with
  | zero => intro i hi; omega
  | succ k ih =>
    intro i hi
    rw [byW_cons]
    match i, hi with
    | 0, _ => rfl
    | i + 1, hi =>
      rw [List.getElem?_cons_succ, ih i (by omega)]
      congr 5
      omega
theorem byW_take (k r i : Nat) (h : i < k) : (byW k r).take (i + 1) = (byW k r).take i ++ [UInt8.ofNat (r / 256 ^ (k - 1 - i) % 256)] := by
  have hl : i < (byW k r).length := by rw [byW_len]; exact h
  rw [List.take_succ_eq_append_getElem hl]
  have := byW_at k r i h
  rw [List.getElem?_eq_getElem hl] at this
  rw [Option.some.inj this]

/-- The slice's cells. -/
def Holds (w : World) (b off : Nat) (l : List UInt8) : Prop := ∀ i, i < l.length → w.cell? ⟨b, off + i, none⟩ = some (.int .u8 ((l.getD i 0).toNat : Int))
theorem Holds.below {w w' : World} {b off B : Nat} {l : List UInt8} (h : Holds w b off l) (hb : Below B w w') (hB : b < B) : Holds w' b off l :=
  fun i hi => by rw [hb.cell (p := ⟨b, off + i, none⟩) hB]; exact h i hi
theorem Holds.drop {w : World} {b off : Nat} {l : List UInt8} (h : Holds w b off l) (k : Nat) : Holds w b (off + k) (l.drop k) := by
  intro i hi
  rw [List.length_drop] at hi
  have := h (k + i) (by omega)
  rw [show off + k + i = off + (k + i) by omega, this]
  simp
theorem Holds.lt {w : World} {b off : Nat} {l : List UInt8} (h : Holds w b off l) (hl : 0 < l.length) : b < w.heap.size := cell_lt (h 0 hl)
/-- The slice at A holds l; where l is empty, whatever A is. -/
def HoldsA (w : World) (A : Option Addr) (l : List UInt8) : Prop := 0 < l.length → ∃ b off, A = some ⟨b, off, none⟩ ∧ Holds w b off l

theorem below_new (w : World) (o : Obj) : Below w.heap.size w (w.alloc o) := (Below.refl _ _).alloc (Nat.le_refl _) _

end Go.Proofs.YtofkfafdodhmdaaGreatDoor
