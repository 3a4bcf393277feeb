/- Several texts in one: FH FK SA FM FL FG FN FQ FRa VM WD WE VLa FP. Conditions: as each theorem names them. -/
import Derived.Below
import Derived.RowKit
import Derived.Test.YtgfkobfkncpmoaaDoorRows
import Derived.Deep.Light
import Derived.Lib.SmallJoins
import Derived.OwnWalk
import Derived.Deep.AppendLies
import Derived.Laws.BitsAllLaws
import Derived.Laws.Bits64
import Derived.Laws.Cover2
import Derived.IntWalk
import Derived.WalkKit
import Derived.WalkSpells
import Derived.WalkLawsBesides
import Derived.Lib.ValidLaws
import Derived.Lib.Bytealg
import Derived.Shelf.Unicode.DecodeSlow
/- Plain mathematics of numbers to the base 16: digits, their text, and the number of a text. No program in it. -/
namespace Go.Proofs.YtgfkobfkncpmoaaDoor
open Go.RowKit

theorem hid {p : Prop} (h : p) : Hid p := h
/-- A digit's byte. -/
def dg (d : Nat) : UInt8 := if d < 10 then UInt8.ofNat (48 + d) else UInt8.ofNat (87 + d)
/-- The last k digits of u, the highest first. -/
def fixW : Nat → Nat → List UInt8
  | 0, _ => []
  | k + 1, u => fixW k (u / 16) ++ [dg (u % 16)]

theorem fixW_len (k u : Nat) : (fixW k u).length = k := by
  induction k generalizing u with
  | zero => rfl
  | succ k ih => simp [fixW, ih]

theorem fixW_cons (k u : Nat) : fixW (k + 1) u = dg (u / 16 ^ k % 16) :: fixW k u := by
  induction k generalizing u with
  | zero => simp [fixW]
  | succ k ih =>
    rw [fixW, ih (u / 16), fixW]
    simp only [List.cons_append, List.cons.injEq, and_true]
    rw [Nat.div_div_eq_div_mul, Nat.pow_succ, Nat.mul_comm]

/-- How many digits u has, at most 16 of them looked for. -/
def hexLen : Nat → Nat → Nat
  | 0, _ => 1
  | k + 1, u => if u < 16 then 1 else hexLen k (u / 16) + 1

def hexText (u : Nat) : List UInt8 := fixW (hexLen 15 u) u

theorem hexLen_pos (k u : Nat) : 1 ≤ hexLen k u := by cases k <;> simp [hexLen]; split <;> omega
theorem hexLen_le (k u : Nat) : hexLen k u ≤ k + 1 := by
  induction k generalizing u with
  | zero => simp [hexLen]
  | succ k ih => simp only [hexLen]; have := ih (u / 16); split <;> omega

/-- Where a loop that takes digits from below ends: j digits taken, what is left is one digit: it's all. -/
theorem hexLen_of (k : Nat) : ∀ (u j : Nat), j ≤ k → u / 16 ^ j < 16 → (j = 0 ∨ 16 ≤ u / 16 ^ (j - 1)) → hexLen k u = j + 1 := by
  induction k with
  | zero =>
    intro u j hj _ _
    obtain rfl : j = 0 := Nat.le_zero.1 hj
    simp [hexLen]
  | succ k ih =>
    intro u j hj h1 h2
    simp only [hexLen]
    by_cases hj0 : j = 0
    · subst hj0
      rw [if_pos (by simpa using h1)]
    · obtain ⟨i, rfl⟩ : ∃ i, j = i + 1 := ⟨j - 1, by omega⟩
      have h3 : 16 ≤ u / 16 ^ i := by rcases h2 with h2 | h2; · omega
                                      · simpa using h2
      have h4 : 16 ≤ u := Nat.le_trans h3 (Nat.div_le_self _ _)
      rw [if_neg (by omega)]
      have e : ∀ m, u / 16 / 16 ^ m = u / 16 ^ (m + 1) := fun m => by rw [Nat.div_div_eq_div_mul, Nat.pow_succ, Nat.mul_comm]
      rw [ih (u / 16) i (by omega) (by rw [e]; exact h1)]
      by_cases hi : i = 0
      · exact Or.inl hi
      · refine Or.inr ?_
        rw [e, show i - 1 + 1 = i by omega]
        exact h3

/-- Noughts ahead. -/
theorem fixW_zero (k u : Nat) (h : u < 16 ^ k) : ∀ m, fixW (m + k) u = List.replicate m (48 : UInt8) ++ fixW k u := by
  intro m
  induction m with
  | zero => simp
  | succ m ih =>
    have hz : u / 16 ^ (m + k) = 0 := Nat.div_eq_of_lt (Nat.lt_of_lt_of_le h (Nat.pow_le_pow_right (by omega) (by omega)))
    rw [show m + 1 + k = (m + k) + 1 by omega, fixW_cons, hz, ih, List.replicate_succ]
    rfl

theorem hexLen_bound (k : Nat) : ∀ u, u < 16 ^ (k + 1) → u < 16 ^ hexLen k u := by
  induction k with
  | zero => intro u h; simpa [hexLen] using h
  | succ k ih =>
    intro u h
    simp only [hexLen]
    split
    · simpa using by assumption
    · rw [Nat.pow_succ]
      have h2 : u / 16 < 16 ^ (k + 1) := by rw [Nat.pow_succ] at h; omega
      have h1 := ih (u / 16) h2
      omega

theorem pad16 (u : Nat) (h : u < 18446744073709551616) : List.replicate (16 - (hexText u).length) (48 : UInt8) ++ hexText u = fixW 16 u := by
  unfold hexText
  rw [fixW_len]
  have h1 := hexLen_le 15 u
  have h2 := hexLen_bound 15 u h
  rw [← fixW_zero _ _ h2, show 16 - hexLen 15 u + hexLen 15 u = 16 by omega]

/-- The text that FormatUint's loop reads its digits from. -/
def digitsText : ByteArray := ⟨#[48, 49, 50, 51, 52, 53, 54, 55, 56, 57, 97, 98, 99, 100, 101, 102, 103, 104, 105, 106, 107, 108, 109, 110, 111, 112, 113, 114, 115, 116, 117, 118, 119, 120, 121, 122]⟩
theorem digitsText_dg : ∀ d : Nat, d < 16 → digitsText.data[d]? = some (dg d) := by decide +kernel

/-- What reading digits to the base 16 comes to: a number, a wrong byte, or too great a number. -/
inductive HexR where
  | ok (n : Nat)
  | syn
  | rng

/-- A byte that is no capital letter any more. -/
def lowN (c : Nat) : Nat := c ||| 32
def hexD (c : UInt8) : Option Nat :=
  if 48 ≤ c.toNat ∧ c.toNat ≤ 57 then some (c.toNat - 48) else if 97 ≤ lowN c.toNat ∧ lowN c.toNat ≤ 122 then some (lowN c.toNat - 87) else none
def hexGo : List UInt8 → Nat → HexR
  | [], n => .ok n
  | c :: cs, n => match hexD c with
    | none => .syn
    | some d => if 16 ≤ d then .syn else if 1152921504606846976 ≤ n then .rng else hexGo cs (n * 16 + d)

theorem lowN_le : ∀ c : Nat, c < 256 → c ≤ lowN c ∧ lowN c ≤ c + 32 ∧ lowN c < 256 := by decide +kernel
theorem lowN_95 : lowN 95 = 127 := by decide

theorem hexGo_drop (l : List UInt8) (k n : Nat) (h : k < l.length) : hexGo (l.drop k) n = (match hexD (l.getD k 0) with
    | none => .syn
    | some d => if 16 ≤ d then .syn else if 1152921504606846976 ≤ n then .rng else hexGo (l.drop (k + 1)) (n * 16 + d)) := by
  rw [List.drop_eq_getElem_cons h]
  simp only [hexGo, List.getD_eq_getElem?_getD, List.getElem?_eq_getElem h, Option.getD_some]

/-- Digits that are written are read. -/
theorem hexD_dg : ∀ d : Nat, d < 16 → hexD (dg d) = some d := by decide +kernel
theorem hexGo_app (a : List UInt8) (b : List UInt8) (n m : Nat) (h : hexGo a n = .ok m) : hexGo (a ++ b) n = hexGo b m := by
  induction a generalizing n with
  | nil => simp only [hexGo, HexR.ok.injEq] at h; subst h; rfl
  | cons c cs ih =>
    simp only [List.cons_append, hexGo] at h ⊢
    cases hc : hexD c with
    | none => rw [hc] at h; simp at h
    | some d =>
      rw [hc] at h
      simp only at h ⊢
      by_cases h1 : 16 ≤ d
      · rw [if_pos h1] at h; cases h
      · rw [if_neg h1] at h ⊢
        by_cases h2 : 1152921504606846976 ≤ n
        · rw [if_pos h2] at h; cases h
        · rw [if_neg h2] at h ⊢
          exact ih _ h
theorem hexGo_fix (k : Nat) : ∀ u, u < 16 ^ k → k ≤ 16 → hexGo (fixW k u) 0 = .ok u := by
  induction k with
  | zero => intro u h _; have : u = 0 := by simpa using h
            subst this; rfl
  | succ k ih =>
    intro u h hk
    have h2 : u / 16 < 16 ^ k := by rw [Nat.pow_succ] at h; omega
    have h3 : 16 ^ k ≤ 16 ^ 15 := Nat.pow_le_pow_right (by omega) (by omega)
    rw [fixW, hexGo_app _ _ _ _ (ih (u / 16) h2 (by omega))]
    simp only [hexGo, hexD_dg (u % 16) (by omega)]
    rw [if_neg (by omega), if_neg (by omega)]
    congr 1
    omega

end Go.Proofs.YtgfkobfkncpmoaaDoor

/- Words for memory: blocks of cells, rows of bytes that a call owns, appending to them; and plain mathematics of numbers as bytes, the highest first. Conditions: rows of at most a million bytes where bytes are appended. -/
namespace Go.Proofs.YtgfkobfkncpmoaaDoor
open Go.RowKit

/-- Block b holds these cells, and may be written. -/
def Blk (w : World) (b : Nat) (T : TypeId) (xs : Array Value) : Prop := w.heap[b]? = some (.cells xs T (0, 0))
theorem Blk.lt {w : World} {b : Nat} {T : TypeId} {xs : Array Value} (h : Blk w b T xs) : b < w.heap.size := by
  rcases Nat.lt_or_ge b w.heap.size with h' | h'
  · exact h'
  · unfold Blk at h; simp [Array.getElem?_eq_none h'] at h
theorem Blk.cell {w : World} {b : Nat} {T : TypeId} {xs : Array Value} (h : Blk w b T xs) (i : Nat) : w.cell? ⟨b, i, none⟩ = xs[i]? := by unfold Blk at h; simp [World.cell?, h]
theorem Blk.free {w : World} {b : Nat} {T : TypeId} {xs : Array Value} (h : Blk w b T xs) (i : Nat) : w.frozen? ⟨b, i, none⟩ = false := by unfold Blk at h; simp [World.frozen?, h]
theorem Blk.set {w : World} {b : Nat} {T : TypeId} {xs : Array Value} (h : Blk w b T xs) (i : Nat) (u : Value) : Blk (w.setCell ⟨b, i, none⟩ u) b T (xs.setIfInBounds i u) := by
  have hlt := h.lt
  unfold Blk at *
  have h' : w.heap[b] = .cells xs T (0, 0) := by simpa [Array.getElem?_eq_getElem hlt] using h
  show (w.heap.modify b _)[b]? = _
  rw [Array.getElem?_eq_getElem (by simpa using hlt), Array.getElem_modify_self, h']
  rfl
theorem Blk.new (w : World) (T : TypeId) (xs : Array Value) : Blk (w.alloc (.cells xs T)) w.heap.size T xs := by unfold Blk; exact heap_alloc_new w _
theorem Blk.keep {w w' : World} {b B : Nat} {T : TypeId} {xs : Array Value} (h : Blk w b T xs) (hb : Below B w w') (hB : b < B) : Blk w' b T xs := by unfold Blk at *; rw [hb.block b hB]; exact h

theorem cell_lt {w : World} {b i : Nat} {v : Value} (h : w.cell? ⟨b, i, none⟩ = some v) : b < w.heap.size := by
  rcases Nat.lt_or_ge b w.heap.size with h' | h'
  · exact h'
  · simp [World.cell?, Array.getElem?_eq_none h'] at h

/-- The cells of a byte text. -/
def bc (l : List UInt8) : List Value := l.map fun c => Value.int .u8 (c.toNat : Int)

theorem add_zero_off (b o n : Nat) : (⟨b, o, none⟩ : Addr).add n = ⟨b, o + n, none⟩ := by
  unfold Addr.add
  split
  · subst_vars; rfl
  · rfl

/-- The last k bytes of r, the highest first. -/
def byW : Nat → Nat → List UInt8
  | 0, _ => []
  | k + 1, r => byW k (r / 256) ++ [UInt8.ofNat (r % 256)]
theorem byW_len (k r : Nat) : (byW k r).length = k := by
  induction k generalizing r with
  | zero => rfl
  | succ k ih => simp [byW, ih]
theorem byW_cons (k r : Nat) : byW (k + 1) r = UInt8.ofNat (r / 256 ^ k % 256) :: byW k r := by
  induction k generalizing r with
  | zero => simp [byW]
  | succ k ih =>
    rw [byW, ih (r / 256), byW]
    simp only [List.cons_append, List.cons.injEq, and_true]
    rw [Nat.div_div_eq_div_mul, Nat.pow_succ, Nat.mul_comm]

/-- The number of bytes, the highest first. -/
def foldB (l : List UInt8) : Nat := l.foldl (fun r x => r * 256 + x.toNat) 0
theorem foldB_snoc (l : List UInt8) (x : UInt8) : foldB (l ++ [x]) = foldB l * 256 + x.toNat := by unfold foldB; rw [List.foldl_append]; rfl
theorem foldB_lt (l : List UInt8) : foldB l < 256 ^ l.length := by
  induction h : l.length generalizing l with
  | zero => have : l = [] := List.length_eq_zero_iff.1 h
            subst this; decide
  | succ n ih =>
    obtain ⟨l', x, rfl⟩ : ∃ l' x, l = l' ++ [x] := ⟨l.dropLast, l.getLast (by intro e; rw [e] at h; simp at h), (List.dropLast_concat_getLast _).symm⟩
    have hl : l'.length = n := by simpa using h
    rw [foldB_snoc, Nat.pow_succ]
    have := ih l' hl
    have hx := x.toNat_lt
    omega
theorem foldB_take (l : List UInt8) (k : Nat) (h : k < l.length) : foldB (l.take (k + 1)) = foldB (l.take k) * 256 + (l.getD k 0).toNat := by
  rw [List.take_succ_eq_append_getElem h, foldB_snoc, List.getD_eq_getElem?_getD, List.getElem?_eq_getElem h, Option.getD_some]
theorem foldB_byW (k : Nat) : ∀ r, r < 256 ^ k → foldB (byW k r) = r := by
  induction k with
  | zero => intro r h; have : r = 0 := by simpa using h
            subst this; rfl
  | succ k ih =>
    intro r h
    have h2 : r / 256 < 256 ^ k := by rw [Nat.pow_succ] at h; omega
    rw [byW, foldB_snoc, ih _ h2, UInt8.toNat_ofNat']
    have : r % 256 % 2 ^ 8 = r % 256 := Nat.mod_eq_of_lt (by omega)
    rw [this]
    omega

theorem info_u8 : (Tryd.prog.info? 5).map (fun i => (i.zero, i.size, i.bytes)) = some (some (.int .u8 0), 1, 1) := by kernel_rfl

/-- The slice v holds the bytes l in a row that belongs to the call (from block B on). -/
def Row (w : World) (B : Nat) (v : Value) (l : List UInt8) : Prop := w.ownsRow B 5 1 v l.length (bc l)

theorem Row.alloc {w : World} {B : Nat} {v : Value} {l : List UInt8} (h : Row w B v l) (o : Obj) : Row (w.alloc o) B v l := World.ownsRow.alloc h o
theorem Row.none (w : World) (B : Nat) : Row w B (.slice none 0 0) [] := ⟨rfl, .inl ⟨rfl, rfl⟩⟩
theorem Row.le {w : World} {B B' : Nat} {v : Value} {l : List UInt8} (h : Row w B v l) (hb : B' ≤ B) : Row w B' v l := Joins.ownsRow_le h hb
theorem bc_len (l : List UInt8) : (bc l).length = l.length := by unfold bc; simp
theorem bc_app (l m : List UInt8) : bc (l ++ m) = bc l ++ bc m := by unfold bc; simp
theorem bc_at (l : List UInt8) (i : Nat) : (bc l)[i]? = (l[i]?).map fun x => Value.int .u8 (x.toNat : Int) := by unfold bc; simp
theorem bc_one (l : List UInt8) : ∀ u ∈ bc l, u.oneCell' = true := by
  intro u hu
  obtain ⟨x, _, rfl⟩ := List.mem_map.1 hu
  rfl
/-- The form of a row that isn't empty, and its cells. -/
theorem Row.form {w : World} {B : Nat} {v : Value} {l : List UInt8} (h : Row w B v l) (hl : 0 < l.length) :
    ∃ g cap, v = .slice (some ⟨g, 0, Option.none⟩) l.length cap ∧ B ≤ g ∧ g < w.heap.size ∧ l.length ≤ cap ∧ ∀ i, i < l.length → w.cell? ⟨g, i, Option.none⟩ = some (.int .u8 ((l.getD i 0).toNat : Int)) := by
  obtain ⟨h1, h2⟩ := h
  rcases h2 with ⟨_, h0⟩ | ⟨g, cap, cur, rfl, hB, hh, hn, hm, hs, ht⟩
  · omega
  · refine ⟨g, cap, rfl, hB, ?_, hn, fun i hi => ?_⟩
    · rcases Nat.lt_or_ge g w.heap.size with h' | h'
      · exact h'
      · rw [Array.getElem?_eq_none h'] at hh; cases hh
    · rw [cell_of_row w g i cur _ (0, 0) hh]
      have : (cur.toList.take (l.length * 1))[i]? = (bc l)[i]? := by rw [ht]
      rw [List.getElem?_take_of_lt (by omega), bc_at, List.getElem?_eq_getElem hi] at this
      rw [← Array.getElem?_toList, this]
      simp [List.getElem?_eq_getElem hi]
/-- A fresh row of known cells. -/
theorem Row.new (w : World) (B : Nat) (hB : B ≤ w.heap.size) (l : List UInt8) (hl : l.length ≤ maxLen) : Row (w.alloc (.cells (bc l).toArray 5)) B (.slice (some ⟨w.heap.size, 0, Option.none⟩) l.length l.length) l := by
  refine ⟨by rw [bc_len]; omega, .inr ⟨w.heap.size, l.length, (bc l).toArray, rfl, hB, ?_, Nat.le_refl _, hl, by simp [bc_len], ?_⟩⟩
  · exact heap_alloc_new w _
  · simp [← bc_len l]
/-- What lies below the row's block may change. -/
theorem Row.keep {w w' : World} {B B' : Nat} {v : Value} {l : List UInt8} (h : Row w B v l) (hb : Below B' w w') (hg : ∀ g, v.ownBlock = some g → g < B') : Row w' B v l := by
  obtain ⟨h1, h2⟩ := h
  refine ⟨h1, ?_⟩
  rcases h2 with h2 | ⟨g, cap, cur, rfl, hB, hh, hr⟩
  · exact .inl h2
  · exact .inr ⟨g, cap, cur, rfl, hB, by rw [hb.block g (hg g rfl)]; exact hh, hr⟩
theorem Row.block_lt {w : World} {B : Nat} {v : Value} {l : List UInt8} (h : Row w B v l) : ∀ g, v.ownBlock = some g → g < w.heap.size := fun g hg => (World.ownsRow.lt h g hg).2

section
variable {ops : Array Oper} {rest : List Oper} {o : Oper} {a : Act} {Q : Exit → Act → World → Prop}
/-- append of some bytes to a row of the call's own. -/
theorem wpList_append_bytes (hgd : o.guard = Option.none) (s x : Operand)
    (ho : o.op = .call { callee := .builtin .append, args := #[s, x], argTypes := #[22, 22] })
    (w : World) (base : Nat) (v : Value) (l : List UInt8) (hs : a.eval s = v) (hown : Row w base v l)
    (ad : Addr) (m c : Nat) (news : List UInt8) (hm : news.length = m) (hx : a.eval x = .slice (some ad) m c) (hnews : ∀ j u, (bc news)[j]? = some u → w.cell? (ad.add j) = some u)
    (hlen : l.length + news.length ≤ 1000000) (hbase : base ≤ w.heap.size)
    (h : ∀ v' w', Row w' base v' (l ++ news) → Below base w w' → wpList Tryd.prog ops Q rest (a.put o.dst v') w') : wpList Tryd.prog ops Q (o :: rest) a w := by
  obtain ⟨i0, hi, hz0, hz1, hz2⟩ := info_parts info_u8
  subst hm
  refine wpList_append_own w hgd s x 22 ho base 5 i0 (.int .u8 0) 1 1 Tryd.underlying22 hi hz0 hz1 hz2 rfl (by decide) v l.length (bc l) hs hown ad news.length c (bc news) hx (by rw [bc_len]; omega) hnews (bc_one _) (by unfold maxLen; omega) (by omega) hbase ?_
  intro v' w' h1 h2 _
  refine h v' w' ?_ ((Below.refl _ _).grown h2 hbase fun k hk => (World.ownsRow.lt hown k hk).1)
  unfold Row
  rw [bc_app, List.length_append]
  exact h1
end

theorem cell_one (w : World) (x : Value) (t : TypeId) : (w.alloc (.cells #[x] t)).cell? ⟨w.heap.size, 0, Option.none⟩ = some x := by
  rw [World.cell?_alloc_at _ _ _ _ rfl]; rfl

/-- One byte more, however its number is spelled. -/
theorem one_new' (w : World) (c : UInt8) (t : TypeId) (x : Int) (hx : x = (c.toNat : Int)) : ∀ j u, (bc [c])[j]? = some u → (w.alloc (.cells #[.int .u8 x] t)).cell? ((⟨w.heap.size, 0, Option.none⟩ : Addr).add j) = some u := by
  subst hx
  intro j u hu
  match j, hu with
  | 0, hu =>
    have : u = .int .u8 (c.toNat : Int) := by simpa [bc] using hu.symm
    subst this
    exact cell_one _ _ _
  | j + 1, hu => simp [bc] at hu
/-- One byte more. -/
theorem one_new (w : World) (c : UInt8) (t : TypeId) : ∀ j u, (bc [c])[j]? = some u → (w.alloc (.cells #[.int .u8 (c.toNat : Int)] t)).cell? ((⟨w.heap.size, 0, Option.none⟩ : Addr).add j) = some u := by
  intro j u hu
  match j, hu with
  | 0, hu =>
    have : u = .int .u8 (c.toNat : Int) := by simpa [bc] using hu.symm
    subst this
    exact cell_one _ _ _
  | j + 1, hu => simp [bc] at hu

theorem byW_at (k r : Nat) : ∀ i, i < k → (byW k r)[i]? = some (UInt8.ofNat (r / 256 ^ (k - 1 - i) % 256)) := by
  induction k with
  | zero => intro i hi; omega
  | succ k ih =>
    intro i hi
    rw [byW_cons]
    match i, hi with
    | 0, _ => rfl
    | i + 1, hi =>
      rw [List.getElem?_cons_succ, ih i (by omega)]
      congr 5
      omega
theorem byW_take (k r i : Nat) (h : i < k) : (byW k r).take (i + 1) = (byW k r).take i ++ [UInt8.ofNat (r / 256 ^ (k - 1 - i) % 256)] := by
  have hl : i < (byW k r).length := by rw [byW_len]; exact h
  rw [List.take_succ_eq_append_getElem hl]
  have := byW_at k r i h
  rw [List.getElem?_eq_getElem hl] at this
  rw [Option.some.inj this]

/-- The slice's cells. -/
def Holds (w : World) (b off : Nat) (l : List UInt8) : Prop := ∀ i, i < l.length → w.cell? ⟨b, off + i, none⟩ = some (.int .u8 ((l.getD i 0).toNat : Int))
theorem Holds.below {w w' : World} {b off B : Nat} {l : List UInt8} (h : Holds w b off l) (hb : Below B w w') (hB : b < B) : Holds w' b off l :=
  fun i hi => by rw [hb.cell (p := ⟨b, off + i, none⟩) hB]; exact h i hi
theorem Holds.drop {w : World} {b off : Nat} {l : List UInt8} (h : Holds w b off l) (k : Nat) : Holds w b (off + k) (l.drop k) := by
  intro i hi
  rw [List.length_drop] at hi
  have := h (k + i) (by omega)
  rw [show off + k + i = off + (k + i) by omega, this]
  simp
theorem Holds.lt {w : World} {b off : Nat} {l : List UInt8} (h : Holds w b off l) (hl : 0 < l.length) : b < w.heap.size := cell_lt (h 0 hl)
/-- The slice at A holds l; where l is empty, whatever A is. -/
def HoldsA (w : World) (A : Option Addr) (l : List UInt8) : Prop := 0 < l.length → ∃ b off, A = some ⟨b, off, none⟩ ∧ Holds w b off l

theorem below_new (w : World) (o : Obj) : Below w.heap.size w (w.alloc o) := (Below.refl _ _).alloc (Nat.le_refl _) _

end Go.Proofs.YtgfkobfkncpmoaaDoor

/- Plain mathematics of sums and frames: the two numbers of a sum, numbers as bytes, what stands at the beginning of bytes, and what a turned bit does. No program in it. -/
namespace Go.Proofs.YtgfkobfkncpmoaaDoor
open Go.RowKit

/-- The two numbers of bytes, not brought below the base. -/
def un : List UInt8 → Nat → Nat → Nat × Nat
  | [], x, y => (x, y)
  | c :: r, x, y => un r (x + c.toNat) (y + (x + c.toNat))
theorem un_app (a b : List UInt8) : ∀ x y, un (a ++ b) x y = un b (un a x y).1 (un a x y).2 := by
  induction a with
  | nil => intro x y; rfl
  | cons c r ih => intro x y; simp only [List.cons_append, un]; exact ih _ _
theorem un_mod (l : List UInt8) : ∀ x y x' y' : Nat, x % 65521 = x' % 65521 → y % 65521 = y' % 65521 → (un l x y).1 % 65521 = (un l x' y').1 % 65521 ∧ (un l x y).2 % 65521 = (un l x' y').2 % 65521 := by
  induction l with
  | nil => intro x y x' y' h1 h2; exact ⟨h1, h2⟩
  | cons c r ih => intro x y x' y' h1 h2; exact ih _ _ _ _ (by omega) (by omega)
def bsum : List UInt8 → Nat
  | [] => 0
  | c :: r => c.toNat + bsum r
theorem un_fst (l : List UInt8) : ∀ x y, (un l x y).1 = x + bsum l := by
  induction l with
  | nil => intro x y; rfl
  | cons c r ih => intro x y; simp only [un, bsum]; rw [ih]; omega
theorem u8_lt (c : UInt8) : c.toNat < 256 := c.toNat_lt
theorem bsum_le (l : List UInt8) : bsum l ≤ 255 * l.length := by
  induction l with
  | nil => simp [bsum]
  | cons c r ih => simp only [bsum, List.length_cons]; have := u8_lt c; omega
theorem un_snd (l : List UInt8) : ∀ x y, (un l x y).2 ≤ y + l.length * (x + 255 * l.length) := by
  induction l with
  | nil => intro x y; simp [un]
  | cons c r ih =>
    intro x y
    simp only [un, List.length_cons]
    have h := ih (x + c.toNat) (y + (x + c.toNat))
    have hc := u8_lt c
    have e1 : r.length * (x + c.toNat + 255 * r.length) ≤ r.length * (x + 255 * (r.length + 1)) := Nat.mul_le_mul_left _ (by omega)
    have e2 : (r.length + 1) * (x + 255 * (r.length + 1)) = r.length * (x + 255 * (r.length + 1)) + (x + 255 * (r.length + 1)) := by rw [Nat.add_mul, Nat.one_mul]
    omega
def sumN (l : List UInt8) : Nat := (un l 1 0).2 % 65521 * 65536 + (un l 1 0).1 % 65521
theorem sumN_lt (l : List UInt8) : sumN l < 4294967296 := by unfold sumN; omega
theorem sumN_nil : sumN [] = 1 := by decide

/-- A number's bytes. -/
def numW (n : Nat) : List UInt8 := if n < 128 then [UInt8.ofNat n] else UInt8.ofNat (128 + n % 128) :: numW (n / 128)
termination_by n
decreasing_by omega
theorem numW_small {n : Nat} (h : n < 128) : numW n = [UInt8.ofNat n] := by rw [numW, if_pos h]
theorem numW_big {n : Nat} (h : ¬ n < 128) : numW n = UInt8.ofNat (128 + n % 128) :: numW (n / 128) := by rw [numW, if_neg h]
theorem numW_len (k : Nat) : ∀ n, n < 128 ^ (k + 1) → (numW n).length ≤ k + 1 := by
  induction k with
  | zero => intro n h; rw [numW_small (by simpa using h)]; simp
  | succ k ih =>
    intro n h
    by_cases h1 : n < 128
    · rw [numW_small h1]; simp
    · rw [numW_big h1, List.length_cons]
      have := ih (n / 128) (by rw [Nat.div_lt_iff_lt_mul (by decide)]; rw [Nat.pow_succ] at h; exact h)
      omega
theorem numW_pos (n : Nat) : 1 ≤ (numW n).length := by rw [numW]; split <;> simp
/-- The number at the beginning of bytes: f bytes at most, i of them gone. -/
def tkGo : Nat → Nat → List UInt8 → Option (Nat × List UInt8)
  | 0, _, _ => none
  | _ + 1, _, [] => none
  | f + 1, i, x :: r => if x.toNat < 128 then (if x.toNat = 0 ∧ i ≠ 0 then none else some (x.toNat, r)) else (tkGo f (i + 1) r).map fun p => (x.toNat % 128 + 128 * p.1, p.2)
def tk (l : List UInt8) : Option (Nat × List UInt8) := tkGo 9 0 l
theorem tkGo_num (r : List UInt8) (f : Nat) : ∀ i n, n < 128 ^ (f + 1) → (i = 0 ∨ n ≠ 0) → tkGo (f + 1) i (numW n ++ r) = some (n, r) := by
  induction f with
  | zero =>
    intro i n h h2
    have h1 : n < 128 := by simpa using h
    have e : (UInt8.ofNat n).toNat = n := by rw [UInt8.toNat_ofNat']; omega
    rw [numW_small h1]
    simp only [List.cons_append, List.nil_append, tkGo, e]
    rw [if_pos h1, if_neg (by omega)]
  | succ f ih =>
    intro i n h h2
    by_cases h1 : n < 128
    · have e : (UInt8.ofNat n).toNat = n := by rw [UInt8.toNat_ofNat']; omega
      rw [numW_small h1]
      simp only [List.cons_append, List.nil_append, tkGo, e]
      rw [if_pos h1, if_neg (by omega)]
    · have e : (UInt8.ofNat (128 + n % 128)).toNat = 128 + n % 128 := by rw [UInt8.toNat_ofNat']; omega
      rw [numW_big h1]
      simp only [List.cons_append]
      rw [tkGo, e, if_neg (by omega), ih (i + 1) (n / 128) (by rw [Nat.div_lt_iff_lt_mul (by decide)]; rw [Nat.pow_succ] at h; exact h) (.inr (by omega))]
      simp only [Option.map_some, Option.some.injEq, Prod.mk.injEq, and_true]
      omega
theorem tk_num (n : Nat) (h : n < 9223372036854775808) (r : List UInt8) : tk (numW n ++ r) = some (n, r) := tkGo_num r 8 0 n h (.inl rfl)
/-- The bytes that are taken are the first ones, nine at most. -/
theorem tkGo_rest (f : Nat) : ∀ i l n r, tkGo f i l = some (n, r) → ∃ k, 1 ≤ k ∧ k ≤ f ∧ k ≤ l.length ∧ r = l.drop k ∧ n < 128 ^ k := by
  induction f with
  | zero => intro i l n r h; simp [tkGo] at h
  | succ f ih =>
    intro i l n r h
    cases l with
    | nil => simp [tkGo] at h
    | cons x t =>
      rw [tkGo] at h
      split at h
      · split at h
        · cases h
        · cases h
          refine ⟨1, by omega, by omega, by simp, by simp, by omega⟩
      · cases hm : tkGo f (i + 1) t with
        | none => rw [hm] at h; cases h
        | some p =>
          rw [hm] at h
          obtain ⟨k, h1, h2, h3, h4, h5⟩ := ih _ _ _ _ hm
          simp only [Option.map_some, Option.some.injEq, Prod.mk.injEq] at h
          refine ⟨k + 1, by omega, by omega, by simp only [List.length_cons]; omega, by rw [← h.2, h4]; simp, ?_⟩
          rw [← h.1, Nat.pow_succ]
          omega
/-- Only the first nine bytes count. -/
theorem tkGo_take (f : Nat) : ∀ i (l : List UInt8), (tkGo f i (l.take f)).map (·.1) = (tkGo f i l).map (·.1) := by
  induction f with
  | zero => intro i l; rfl
  | succ f ih =>
    intro i l
    cases l with
    | nil => rfl
    | cons x t =>
      rw [List.take_succ_cons, tkGo, tkGo]
      split
      · split <;> rfl
      · have := ih (i + 1) t
        cases h1 : tkGo f (i + 1) (t.take f) with
        | none =>
          rw [h1] at this
          cases h2 : tkGo f (i + 1) t with
          | none => rfl
          | some p => rw [h2] at this; cases this
        | some p =>
          rw [h1] at this
          cases h2 : tkGo f (i + 1) t with
          | none => rw [h2] at this; cases this
          | some q => rw [h2] at this; simp only [Option.map_some, Option.some.injEq] at this ⊢; rw [this]
def openB (l : List UInt8) : Bool := decide (l.length ≤ 8) && l.all fun x => decide (128 ≤ x.toNat)
theorem tkGo_open (f : Nat) : ∀ i (l : List UInt8), (l.all fun x => decide (128 ≤ x.toNat)) = true → tkGo f i l = none := by
  induction f with
  | zero => intro i l h; rfl
  | succ f ih =>
    intro i l h
    cases l with
    | nil => rfl
    | cons x t =>
      simp only [List.all_cons, Bool.and_eq_true, decide_eq_true_eq] at h
      rw [tkGo, if_neg (by omega), ih _ _ h.2]
      rfl
inductive Nx where
  | whole (x r : List UInt8)
  | torn
  | bad
/-- What stands at the beginning of bytes. -/
def nextM (l : List UInt8) : Nx :=
  if openB l = true then .torn else
  match tk l with
  | none => .bad
  | some (n, r) => if 65536 < n then .bad else if r.length < n + 4 then .torn else if byW 4 (sumN (r.take n)) = (r.drop n).take 4 then .whole (r.take n) (r.drop (n + 4)) else .bad
def frameM (b : List UInt8) : List UInt8 := numW b.length ++ b ++ byW 4 (sumN b)
theorem numW_notopen (n : Nat) (r : List UInt8) : openB (numW n ++ r) = false := by
  have : ∀ k n, n ≤ k → ((numW n).all fun x => decide (128 ≤ x.toNat)) = false := by
    intro k
    induction k with
    | zero => intro n h; have : n = 0 := by omega
              subst this; rw [numW_small (by decide)]; decide
    | succ k ih =>
      intro n h
      by_cases h1 : n < 128
      · have e : (UInt8.ofNat n).toNat = n := by rw [UInt8.toNat_ofNat']; omega
        rw [numW_small h1]
        simp only [List.all_cons, List.all_nil, Bool.and_true, e, decide_eq_false_iff_not]
        omega
      · rw [numW_big h1, List.all_cons, ih (n / 128) (by omega), Bool.and_false]
  unfold openB
  rw [List.all_append, this n n (Nat.le_refl n)]
  simp
theorem next_num (n : Nat) (h : n ≤ 65536) (r : List UInt8) : nextM (numW n ++ r) = if r.length < n + 4 then .torn else if byW 4 (sumN (r.take n)) = (r.drop n).take 4 then .whole (r.take n) (r.drop (n + 4)) else .bad := by
  unfold nextM
  rw [numW_notopen, tk_num n (by omega)]
  simp only [Bool.false_eq_true, if_false]
  rw [if_neg (by omega)]
theorem next_parts (b s r : List UInt8) (hb : b.length ≤ 65536) (hs : s.length = 4) : nextM (numW b.length ++ (b ++ (s ++ r))) = if byW 4 (sumN b) = s then .whole b r else .bad := by
  rw [next_num _ hb, if_neg (by simp only [List.length_append]; omega)]
  have e1 : (b ++ (s ++ r)).take b.length = b := by simp
  have e2 : ((b ++ (s ++ r)).drop b.length).take 4 = s := by rw [List.drop_left, ← hs, List.take_left]
  have e3 : (b ++ (s ++ r)).drop (b.length + 4) = r := by rw [← List.drop_drop, List.drop_left, ← hs, List.drop_left]
  rw [e1, e2, e3]
theorem next_frame (b r : List UInt8) (hb : b.length ≤ 65536) : nextM (frameM b ++ r) = .whole b r := by
  have := next_parts b (byW 4 (sumN b)) r hb (byW_len 4 _)
  rw [if_pos rfl] at this
  rw [← this]
  unfold frameM
  simp only [List.append_assoc]
theorem foldB_byW4 {a b : Nat} (ha : a < 4294967296) (hb : b < 4294967296) (h : byW 4 a = byW 4 b) : a = b := by
  have h1 := foldB_byW 4 a (by simpa using ha)
  have h2 := foldB_byW 4 b (by simpa using hb)
  rw [← h1, ← h2, h]
/-- A byte of the body is another one by a power of two up to 128: the sum is another one. -/
theorem bsum_set (l : List UInt8) : ∀ i (h : i < l.length) (c : UInt8), bsum (l.set i c) + (l[i]).toNat = bsum l + c.toNat := by
  induction l with
  | nil => intro i h; simp at h
  | cons x t ih =>
    intro i h c
    cases i with
    | zero => simp only [List.set_cons_zero, bsum, List.getElem_cons_zero]; omega
    | succ i => simp only [List.set_cons_succ, bsum, List.getElem_cons_succ]; have := ih i (by simpa using h) c; omega
theorem sum_set (l : List UInt8) (i : Nat) (h : i < l.length) (c : UInt8) (hc : c ≠ l[i]) : sumN (l.set i c) ≠ sumN l := by
  intro e
  have e1 : (un (l.set i c) 1 0).1 % 65521 = (un l 1 0).1 % 65521 := by unfold sumN at e; omega
  rw [un_fst, un_fst] at e1
  have e2 := bsum_set l i h c
  have h1 := u8_lt c
  have h2 := u8_lt l[i]
  have h3 : c.toNat ≠ (l[i]).toNat := fun e => hc (UInt8.toNat_inj.1 e)
  omega
/-- A frame of which a byte of the body or of the sum is another one is bad. -/
theorem next_turned (b : List UInt8) (hb : b.length ≤ 65536) (i : Nat) (hi : i < b.length + 4) (c : UInt8) (hc : c ≠ (b ++ byW 4 (sumN b))[i]'(by simp [byW_len]; omega)) :
    nextM ((frameM b).set ((numW b.length).length + i) c) = .bad := by
  have e0 : (frameM b).set ((numW b.length).length + i) c = numW b.length ++ (b ++ byW 4 (sumN b)).set i c := by
    unfold frameM
    rw [List.append_assoc, List.set_append_right _ _ (by omega), Nat.add_sub_cancel_left]
  rw [e0]
  by_cases h : i < b.length
  · rw [List.set_append_left _ _ h]
    have e1 : b.length = (b.set i c).length := by simp
    have := next_parts (b.set i c) (byW 4 (sumN b)) [] (by simpa using hb) (byW_len 4 _)
    rw [List.append_nil, ← e1] at this
    rw [this, if_neg]
    intro e
    have hci : c ≠ b[i] := by rw [List.getElem_append_left h] at hc; exact hc
    exact sum_set b i h c hci (foldB_byW4 (sumN_lt _) (sumN_lt _) e)
  · rw [List.set_append_right _ _ (by omega)]
    have := next_parts b ((byW 4 (sumN b)).set (i - b.length) c) [] hb (by simp [byW_len])
    rw [List.append_nil] at this
    rw [this, if_neg]
    intro e
    rw [List.getElem_append_right (by omega)] at hc
    apply hc
    have hl : i - b.length < (byW 4 (sumN b)).length := by rw [byW_len]; omega
    have e2 := congrArg (fun l : List UInt8 => l[i - b.length]?) e
    simp only [List.getElem?_set_self hl, List.getElem?_eq_getElem hl, Option.some.injEq] at e2
    exact e2.symm
end Go.Proofs.YtgfkobfkncpmoaaDoor

/- Plain mathematics of 64 bits as floats, without the program: NaN, the order of IEEE doubles by their bits, ranks, turned bits. No conditions but the ranges that each lemma names. -/
namespace Go.Proofs.YtgfkobfkncpmoaaDoor
open Go.RowKit (wrap64)

/-- Are these bits a NaN's? -/
def nanB (n : Int) : Bool := decide (9218868437227405312 < n % 9223372036854775808)
def canonI (n : Int) : Int := if nanB n = true then 9221120237041090560 else n
def rightB (n : Int) : Bool := (n == 9221120237041090560) || !nanB n
def rankI (n : Int) : Int := if n < 0 then -1 - n else n + 9223372036854775808
def cmpI (a b : Int) : Int := if a < b then -1 else if b < a then 1 else 0
def ordI (a b : Int) : Int := cmpI (rankI (canonI a)) (rankI (canonI b))
def wd (n : Int) : Nat := (n % 18446744073709551616).toNat
/-- The other sign. -/
def flipI (n : Int) : Int := if n < 0 then n + 9223372036854775808 else n - 9223372036854775808
def inI (n : Int) : Prop := -9223372036854775808 ≤ n ∧ n < 9223372036854775808

theorem wd_lt (n : Int) : wd n < 18446744073709551616 := by unfold wd; omega
theorem wd_u64 (n : Int) : (IntKind.u64.wrap n).toNat = wd n := by rw [IntKind.wrap_u64]; rfl
theorem wd_mod (n : Int) : ((wd n % 9223372036854775808 : Nat) : Int) = n % 9223372036854775808 := by unfold wd; omega
theorem wrap64_wd {n : Int} (h : inI n) : wrap64 (wd n : Int) = n := by unfold wd wrap64 inI at *; omega

theorem width63 : Ieee.double.signWeight = 9223372036854775808 := by decide
theorem inf_rung : Ieee.double.infRung = 9218868437227405312 := by decide
theorem binade52 : Ieee.double.binade = 4503599627370496 := by decide
theorem f64_format : FloatKind.f64.format = Ieee.double := rfl

/-- The size of the number of a rung, in units of the least number. -/
def mg (r : Nat) : Nat := if r < 4503599627370496 then r else (4503599627370496 + r % 4503599627370496) * 2 ^ (r / 4503599627370496 - 1)

theorem mg_mono {a b : Nat} (h : a < b) : mg a < mg b := by
  unfold mg
  by_cases ha : a < 4503599627370496
  · rw [if_pos ha]
    by_cases hb : b < 4503599627370496
    · rw [if_pos hb]; exact h
    · rw [if_neg hb]
      have : 1 ≤ 2 ^ (b / 4503599627370496 - 1) := Nat.one_le_two_pow
      calc a < 4503599627370496 := ha
        _ ≤ (4503599627370496 + b % 4503599627370496) * 1 := by omega
        _ ≤ _ := Nat.mul_le_mul_left _ this
  · rw [if_neg ha, if_neg (by omega)]
    obtain ⟨q, hq⟩ : ∃ q, a / 4503599627370496 = q + 1 := ⟨a / 4503599627370496 - 1, by omega⟩
    obtain ⟨q', hq'⟩ : ∃ q', b / 4503599627370496 = q' + 1 := ⟨b / 4503599627370496 - 1, by omega⟩
    rw [hq, hq', Nat.add_sub_cancel, Nat.add_sub_cancel]
    have hle : q ≤ q' := by omega
    by_cases he : q = q'
    · subst he
      exact Nat.mul_lt_mul_of_pos_right (by omega) (Nat.two_pow_pos _)
    · have h1 : 2 ^ (q + 1) ≤ 2 ^ q' := Nat.pow_le_pow_right (by omega) (by omega)
      have h2 : (4503599627370496 + a % 4503599627370496) * 2 ^ q < 4503599627370496 * 2 ^ (q + 1) := by
        rw [Nat.pow_succ, Nat.mul_comm (2 ^ q) 2, ← Nat.mul_assoc]
        exact Nat.mul_lt_mul_of_pos_right (by omega) (Nat.two_pow_pos _)
      calc _ < 4503599627370496 * 2 ^ (q + 1) := h2
        _ ≤ 4503599627370496 * 2 ^ q' := Nat.mul_le_mul_left _ h1
        _ ≤ _ := Nat.mul_le_mul_right _ (by omega)

/-- The signed size: what the number is, in units of the least number. -/
def sg (neg : Bool) (r : Nat) : Int := if neg then -(mg r : Int) else (mg r : Int)

theorem read_cases (u : Nat) :
    (∃ m p, Ieee.double.read u = .number (u / 9223372036854775808 % 2 == 1) m p ∧ u % 9223372036854775808 < 9218868437227405312 ∧ Ieee.double.leastPlace ≤ p ∧ m <<< (p - Ieee.double.leastPlace).toNat = mg (u % 9223372036854775808)) ∨
    (Ieee.double.read u = .infinity (u / 9223372036854775808 % 2 == 1) ∧ u % 9223372036854775808 = 9218868437227405312) ∨
    (∃ t, Ieee.double.read u = .nan (u / 9223372036854775808 % 2 == 1) t ∧ 9218868437227405312 < u % 9223372036854775808) := by
  have key : Ieee.double.read u = (if u % 9223372036854775808 < 4503599627370496 then .number (u / 9223372036854775808 % 2 == 1) (u % 9223372036854775808) Ieee.double.leastPlace
    else if u % 9223372036854775808 < 9218868437227405312 then
    .number (u / 9223372036854775808 % 2 == 1) (4503599627370496 + u % 9223372036854775808 % 4503599627370496) (Ieee.double.leastPlace + (u % 9223372036854775808 / 4503599627370496 - 1 : Nat))
  else if u % 9223372036854775808 = 9218868437227405312 then .infinity (u / 9223372036854775808 % 2 == 1)
  else .nan (u / 9223372036854775808 % 2 == 1) (u % 9223372036854775808 - 9218868437227405312)) := by
    unfold Ieee.Format.read
    rw [width63, inf_rung, binade52]
  rw [key]
  by_cases h1 : u % 9223372036854775808 < 4503599627370496
  · refine Or.inl ⟨u % 9223372036854775808, Ieee.double.leastPlace, by rw [if_pos h1], by omega, Int.le_refl _, ?_⟩
    unfold mg
    rw [if_pos h1, Int.sub_self]
    rfl
  · rw [if_neg h1]
    by_cases h2 : u % 9223372036854775808 < 9218868437227405312
    · refine Or.inl ⟨_, _, by rw [if_pos h2], h2, by omega, ?_⟩
      unfold mg
      rw [if_neg h1, Nat.shiftLeft_eq]
      congr 2
      omega
    · rw [if_neg h2]
      by_cases h3 : u % 9223372036854775808 = 9218868437227405312
      · exact Or.inr (Or.inl ⟨by rw [if_pos h3], h3⟩)
      · exact Or.inr (Or.inr ⟨_, by rw [if_neg h3], by omega⟩)

theorem order_nan (u : Nat) : (FloatKind.f64.format.order u u != some Ordering.eq) = nanB (u : Int) := by
  rw [f64_format]
  unfold Ieee.Format.order nanB
  have hc : ((u : Int) % 9223372036854775808) = ((u % 9223372036854775808 : Nat) : Int) := by omega
  rcases read_cases u with ⟨m, p, hr, hlt, _, _⟩ | ⟨hr, he⟩ | ⟨t, hr, hlt⟩
  · rw [hr, decide_eq_false (by omega)]
    simp [Ieee.Datum.order]
  · rw [hr, decide_eq_false (by omega)]
    simp [Ieee.Datum.order]
  · rw [hr, decide_eq_true (by omega)]
    simp [Ieee.Datum.order]

/-- The place in the language's order of what is no NaN: by sign and rung; the two noughts are one. -/
def sr (n : Int) : Int := if n < 0 then -(n % 9223372036854775808) else n % 9223372036854775808

theorem signed_eq (neg : Bool) (m : Nat) (p base : Int) (h : base ≤ p) (hb : Ieee.double.leastPlace ≤ base) {r : Nat} (hm : m <<< (p - Ieee.double.leastPlace).toNat = mg r) :
    Ieee.signed neg m (p - base).toNat * (2 ^ (base - Ieee.double.leastPlace).toNat : Nat) = sg neg r := by
  have e : (m <<< (p - base).toNat) * 2 ^ (base - Ieee.double.leastPlace).toNat = mg r := by
    rw [← hm, Nat.shiftLeft_eq, Nat.shiftLeft_eq, Nat.mul_assoc, ← Nat.pow_add]
    congr 2
    omega
  unfold Ieee.signed sg
  cases neg
  · simp only [Bool.false_eq_true, if_false]
    rw [← e]; push_cast; rfl
  · simp only [if_true]
    rw [← e, Int.neg_mul]; push_cast; rfl

theorem sg_lt {s t : Bool} {a b : Nat} : sg s a < sg t b ↔ (if s then -(a : Int) else (a : Int)) < (if t then -(b : Int) else (b : Int)) := by
  have h0 : mg 0 = 0 := rfl
  have mono := @mg_mono
  have lt_iff : ∀ x y : Nat, mg x < mg y ↔ x < y := fun x y => ⟨fun h => by
    rcases Nat.lt_trichotomy x y with h' | h' | h'
    · exact h'
    · subst h'; omega
    · have := mono h'; omega, fun h => mono h⟩
  have p0 : ∀ x : Nat, 0 < mg x ↔ 0 < x := fun x => by have := lt_iff 0 x; rwa [h0] at this
  unfold sg
  have l1 := lt_iff a b; have l2 := lt_iff b a; have q1 := p0 a; have q2 := p0 b
  cases s <;> cases t <;> simp only [Bool.false_eq_true, if_false, if_true] <;> omega

theorem compare_scale (x y : Int) (k : Nat) (hk : 0 < k) : compare (x * (k : Int)) (y * (k : Int)) = compare x y := by
  have hk' : (0 : Int) < (k : Int) := by omega
  simp only [compare, compareOfLessAndEq]
  by_cases h : x < y
  · rw [if_pos h, if_pos (Int.mul_lt_mul_of_pos_right h hk')]
  · rw [if_neg h, if_neg (fun h' => h (Int.lt_of_mul_lt_mul_right h' (Int.le_of_lt hk')))]
    by_cases e : x = y
    · subst e; simp
    · rw [if_neg e, if_neg (fun h' => e (Int.eq_of_mul_eq_mul_right (by omega) h'))]

theorem compare_sg (s t : Bool) (a b : Nat) : compare (sg s a) (sg t b) = compare (if s then -(a : Int) else (a : Int)) (if t then -(b : Int) else (b : Int)) := by
  have h1 := @sg_lt s t a b
  have h2 := @sg_lt t s b a
  simp only [compare, compareOfLessAndEq]
  generalize hx : (if s then -(a : Int) else (a : Int)) = x at *
  generalize hy : (if t then -(b : Int) else (b : Int)) = y at *
  by_cases h : sg s a < sg t b
  · rw [if_pos h, if_pos (h1.1 h)]
  · rw [if_neg h, if_neg (fun h' => h (h1.2 h'))]
    by_cases e : sg s a = sg t b
    · rw [if_pos e, if_pos (by omega)]
    · rw [if_neg e, if_neg (by omega)]

/-- A signed rung. -/
def sru (s : Bool) (r : Nat) : Int := if s then -(r : Int) else (r : Int)

theorem order_core (u v : Nat) (hu : ¬ 9218868437227405312 < u % 9223372036854775808) (hv : ¬ 9218868437227405312 < v % 9223372036854775808) :
    Ieee.double.order u v = some (compare (sru (u / 9223372036854775808 % 2 == 1) (u % 9223372036854775808)) (sru (v / 9223372036854775808 % 2 == 1) (v % 9223372036854775808))) := by
  unfold Ieee.Format.order
  have cmpLt : ∀ {x y : Int}, x < y → compare x y = .lt := fun h => by simp only [compare, compareOfLessAndEq]; rw [if_pos h]
  have cmpGt : ∀ {x y : Int}, y < x → compare x y = .gt := fun h => by simp only [compare, compareOfLessAndEq]; rw [if_neg (by omega), if_neg (by omega)]
  generalize hs : (u / 9223372036854775808 % 2 == 1) = s
  generalize ht : (v / 9223372036854775808 % 2 == 1) = t
  rcases read_cases u with ⟨m, p, hr, hlt, hp, hm⟩ | ⟨hr, he⟩ | ⟨_, _, h⟩
  · rcases read_cases v with ⟨n, q, kr, klt, kp, km⟩ | ⟨kr, ke⟩ | ⟨_, _, h⟩
    · rw [hr, kr, hs, ht]
      simp only [Ieee.Datum.order]
      rw [← compare_scale _ _ (2 ^ (min p q - Ieee.double.leastPlace).toNat) (Nat.two_pow_pos _),
        signed_eq s m p (min p q) (by omega) (by omega) hm, signed_eq t n q (min p q) (by omega) (by omega) km, compare_sg]
      rfl
    · rw [hr, kr, hs, ht]
      simp only [Ieee.Datum.order]
      cases t
      · rw [cmpLt]; · rfl
        unfold sru; cases s <;> simp <;> omega
      · rw [cmpGt]; · rfl
        unfold sru; cases s <;> simp <;> omega
    · exact absurd h hv
  · rcases read_cases v with ⟨n, q, kr, klt, kp, km⟩ | ⟨kr, ke⟩ | ⟨_, _, h⟩
    · rw [hr, kr, hs, ht]
      simp only [Ieee.Datum.order]
      cases s
      · rw [cmpGt]; · rfl
        unfold sru; cases t <;> simp <;> omega
      · rw [cmpLt]; · rfl
        unfold sru; cases t <;> simp <;> omega
    · rw [hr, kr, hs, ht, he, ke]
      simp only [Ieee.Datum.order]
      cases s <;> cases t <;> rfl
    · exact absurd h hv
  · exact absurd h hu

/-- THE LANGUAGE's ORDER OF TWO FLOATS THAT ARE NO NaN. -/
theorem order_sr {a b : Int} (ha : inI a) (hb : inI b) (na : nanB a = false) (nb : nanB b = false) :
    FloatKind.f64.format.order (wd a) (wd b) = some (compare (sr a) (sr b)) := by
  have srE : ∀ {n : Int}, inI n → sru (wd n / 9223372036854775808 % 2 == 1) (wd n % 9223372036854775808) = sr n := by
    intro n hn
    unfold inI at hn
    unfold sru sr
    rw [wd_mod]
    by_cases h : n < 0
    · rw [if_pos h, if_pos (by unfold wd; simp; omega)]
    · rw [if_neg h, if_neg (by unfold wd; simp; omega)]
  have na' : ¬ 9218868437227405312 < wd a % 9223372036854775808 := by have := of_decide_eq_false na; have := wd_mod a; omega
  have nb' : ¬ 9218868437227405312 < wd b % 9223372036854775808 := by have := of_decide_eq_false nb; have := wd_mod b; omega
  rw [f64_format, order_core _ _ na' nb', srE ha, srE hb]

/-- With a NaN there is no order. -/
theorem order_none {u v : Nat} (h : nanB (u : Int) = true ∨ nanB (v : Int) = true) : FloatKind.f64.format.order u v = none := by
  rw [f64_format]
  unfold Ieee.Format.order
  rcases h with h | h
  · have h' := of_decide_eq_true h
    rcases read_cases u with ⟨m, p, hr, hlt, _, _⟩ | ⟨hr, he⟩ | ⟨t, hr, hlt⟩
    · omega
    · omega
    · rw [hr]; cases Ieee.double.read v <;> rfl
  · have h' := of_decide_eq_true h
    rcases read_cases v with ⟨m, p, hr, hlt, _, _⟩ | ⟨hr, he⟩ | ⟨t, hr, hlt⟩
    · omega
    · omega
    · rw [hr]; cases Ieee.double.read u <;> rfl

theorem nanB_wd (n : Int) : nanB (wd n : Int) = nanB n := by unfold nanB wd; rw [Bool.eq_iff_iff]; simp; omega

theorem toNat_ofNat {x : Int} (h : 0 ≤ x) : ∃ k : Nat, x = k := ⟨x.toNat, by omega⟩

theorem topBit {n : Int} (h : inI n) : (bits .and .u64 (IntKind.u64.wrap n) 9223372036854775808 != 0) = decide (n < 0) := by
  unfold inI at h
  rw [IntKind.wrap_u64, u64_and _ _ (by omega) (by omega) (by omega) (by omega)]
  have e : (n % 18446744073709551616).toNat &&& (9223372036854775808 : Int).toNat = (n % 18446744073709551616).toNat / 2 ^ 63 % 2 * 2 ^ 63 := nat_bit 63 _
  rw [e]
  by_cases hn : n < 0
  · rw [decide_eq_true hn, bne_iff_ne]; omega
  · rw [decide_eq_false hn]; simp; omega

theorem turned {n : Int} (h : inI n) (hn : n < 0) : bits .xor .u64 IntKind.u64.max (IntKind.u64.wrap n) = rankI n := by
  unfold inI at h
  have hm : IntKind.u64.max = 18446744073709551615 := rfl
  rw [IntKind.wrap_u64, hm, u64_xor _ _ (by omega) (by omega) (by omega) (by omega)]
  obtain ⟨k, hk⟩ : ∃ k : Nat, n % 18446744073709551616 = k := ⟨(n % 18446744073709551616).toNat, by omega⟩
  have hk2 : k < 2 ^ 64 := by omega
  rw [hk]
  have e : (18446744073709551615 : Int).toNat ^^^ (k : Int).toNat = 2 ^ 64 - 1 - k := by
    have := Nat.xor_comm (2 ^ 64 - 1) k
    rw [show (18446744073709551615 : Int).toNat = 2 ^ 64 - 1 from rfl, Int.toNat_natCast]
    apply Nat.eq_of_testBit_eq
    intro i
    rw [Nat.testBit_xor, Nat.testBit_two_pow_sub_one, show 2 ^ 64 - 1 - k = 2 ^ 64 - (k + 1) by omega, Nat.testBit_two_pow_sub_succ hk2]
    by_cases hi : i < 64
    · simp [hi]
    · have : k.testBit i = false := Nat.testBit_lt_two_pow (Nat.lt_of_lt_of_le hk2 (Nat.pow_le_pow_right (by omega) (by omega)))
      simp [hi, this]
  rw [e]
  unfold rankI
  rw [if_pos hn]
  omega

theorem marked {n : Int} (h : inI n) (hn : ¬ n < 0) : bits .or .u64 (IntKind.u64.wrap n) 9223372036854775808 = rankI n := by
  unfold inI at h
  rw [IntKind.wrap_u64, u64_or _ _ (by omega) (by omega) (by omega) (by omega)]
  have e : (n % 18446744073709551616).toNat ||| (9223372036854775808 : Int).toNat = (n % 18446744073709551616).toNat + 9223372036854775808 := by
    rw [Nat.or_comm, show (9223372036854775808 : Int).toNat = 9223372036854775808 from rfl, nat_join 63 _ _ (by decide) (by omega), Nat.add_comm]
  rw [e]
  unfold rankI
  rw [if_neg hn]
  omega

theorem canon_in {n : Int} (h : inI n) : inI (canonI n) := by unfold canonI inI at *; split <;> omega
theorem rank_in {n : Int} (h : inI n) : 0 ≤ rankI n ∧ rankI n < 18446744073709551616 := by unfold rankI inI at *; split <;> omega

end Go.Proofs.YtgfkobfkncpmoaaDoor

/- What the small functions of package float do, for every argument: math.IsNaN, To, Right, rank. Conditions: an int is one of 64 bits. -/
namespace Go.Proofs.YtgfkobfkncpmoaaDoor
open Go.RowKit

theorem call34 (n : Int) (w : World) : (callFunc 231 #[.int .u64 n]).run Tryd.prog w = .ok (.value (.float .f64 n.toNat)) w := by
  rw [run_callFunc_extern (e := Extern.MathFloatBits.float64frombits) Tryd.func231 (by kernel_rfl) (by kernel_rfl) (by kernel_rfl) (by kernel_rfl)]
  rfl

set_option maxHeartbeats 400000 in
theorem to_any (n : Int) (w : World) :
    Calls Tryd.prog 213 #[.int .i64 n] w fun e w' => e = .returned (.float .f64 (wd n)) ∧ w = w' := by
  rw [← wd_u64]
  have h34 := call34
  go_enter Tryd.func213, Tryd.ntmps213
  go_wp2
  go_ret
  exact ⟨rfl, rfl⟩

set_option maxHeartbeats 400000 in
theorem isnan_any (u : Nat) (w : World) :
    Calls Tryd.prog 212 #[.float .f64 u] w fun e w' => e = .returned (.bool (nanB u)) ∧ w = w' := by
  rw [← order_nan]
  go_enter Tryd.func212, Tryd.ntmps212
  go_wp2
  go_ret
  exact ⟨rfl, rfl⟩

set_option maxHeartbeats 400000 in
theorem rank_any {n : Int} (h : inI n) (w : World) :
    Calls Tryd.prog 204 #[.int .i64 n] w fun e w' => e = .returned (.int .u64 (rankI n)) ∧ w = w' := by
  have hb := topBit h
  by_cases hn : n < 0
  · have ht := turned h hn
    rw [decide_eq_true hn] at hb
    rw [← ht]
    clear ht h hn
    go_enter Tryd.func204, Tryd.ntmps204
    go_wp2
    go_ret
    exact ⟨rfl, rfl⟩
  · have ht := marked h hn
    rw [decide_eq_false hn] at hb
    rw [← ht]
    clear ht h hn
    go_enter Tryd.func204, Tryd.ntmps204
    go_wp2
    go_ret
    exact ⟨rfl, rfl⟩

theorem ret_int {k : IntKind} {a b : Int} (h : a = b) : Ending.returned (.int k a) = .returned (.int k b) := by rw [h]

theorem wrap_nan {n : Int} (h : inI n) : (IntKind.u64.wrap n = 9221120237041090560) ↔ n = 9221120237041090560 := by
  rw [IntKind.wrap_u64]; unfold inI at h; omega

set_option maxHeartbeats 400000 in
theorem right_any {n : Int} (h : inI n) (w : World) :
    Calls Tryd.prog 194 #[.int .i64 n] w fun e w' => e = .returned (.bool (rightB n)) ∧ w = w' := by
  have hw := wrap_nan h
  by_cases hn : n = 9221120237041090560
  · have h1 := hw.2 hn
    have h2 : rightB n = true := by unfold rightB; simp [hn]
    rw [h2]
    clear h2 hw hn h
    go_enter Tryd.func194, Tryd.ntmps194
    go_wp2
    go_ret
    exact ⟨rfl, rfl⟩
  · have h1 : (IntKind.u64.wrap n == 9221120237041090560) = false := by simpa using fun h' => hn (hw.1 h')
    have h2 : rightB n = !nanB (wd n) := by unfold rightB; rw [nanB_wd]; simp [hn]
    rw [h2]
    clear h2 hw hn h
    go_enter Tryd.func194, Tryd.ntmps194
    go_wp2_with (first | (go_at_call 213; refine (to_any _ _).mono ?_; rintro e w' ⟨rfl, rfl⟩) | (go_at_call 212; refine (isnan_any _ _).mono ?_; rintro e w' ⟨rfl, rfl⟩))
    go_ret
    exact ⟨rfl, rfl⟩

theorem mk_toList (l : List UInt8) : (⟨l.toArray⟩ : ByteArray).toList = l := by rw [ByteArray.toList_eq]

end Go.Proofs.YtgfkobfkncpmoaaDoor

/- float.Bytes for every int: nothing for one that isn't right, else new memory with the eight bytes of its rank, the highest first. Conditions: an int of 64 bits. -/
namespace Go.Proofs.YtgfkobfkncpmoaaDoor
open Go.RowKit

set_option maxHeartbeats 400000 in
theorem bytes_no {n : Int} (h : inI n) (hr : rightB n = false) (w : World) :
    Calls Tryd.prog 172 #[.int .i64 n] w fun e w' => e = .returned (.slice none 0 0) ∧ w = w' := by
  go_enter Tryd.func172, Tryd.ntmps172
  go_wp2_with (go_at_call 194; refine (right_any h _).mono ?_; rintro e w' ⟨rfl, rfl⟩)
  go_ret
  exact ⟨rfl, rfl⟩

theorem byte_at (r i : Nat) : ((r : Int) / 2 ^ (8 * i) % 256) = ((UInt8.ofNat (r / 256 ^ i % 256)).toNat : Int) := by
  have e : (2 : Nat) ^ (8 * i) = 256 ^ i := by rw [Nat.pow_mul]
  have e2 : ((2 : Int) ^ (8 * i)) = ((256 ^ i : Nat) : Int) := by rw [← e, Int.natCast_pow]; rfl
  rw [e2, UInt8.toNat_ofNat']
  have : r / 256 ^ i % 256 % 2 ^ 8 = r / 256 ^ i % 256 := Nat.mod_eq_of_lt (by omega)
  rw [this, Int.natCast_emod, Int.natCast_ediv]
  rfl
theorem drop_set8 {xs : Array Value} {k j r : Nat} (hs : xs.size = 8) (hk : k ≤ 7) (hd : xs.toList.drop (k + 1) = bc (byW j r)) :
    (xs.setIfInBounds k (Value.int .u8 ((UInt8.ofNat (r / 256 ^ j % 256)).toNat : Int))).toList.drop k = bc (byW (j + 1) r) := by
  rw [byW_cons]
  unfold bc at *
  rw [List.map_cons, ← hd, Array.toList_setIfInBounds, List.drop_set, if_neg (by omega), Nat.sub_self]
  rw [List.drop_eq_getElem_cons (by simp; omega)]
  rfl

/-- What the loop knows: i bytes have been laid. -/
def BInv (r b : Nat) (w0 : World) (vi : Value) (wr : World) : Prop :=
  ∃ (i : Nat) (xs : Array Value), i ≤ 8 ∧ vi = .int .i64 i ∧ Blk wr b 5 xs ∧ xs.size = 8 ∧ xs.toList.drop (8 - i) = bc (byW i r) ∧ Below b w0 wr

set_option maxHeartbeats 1000000 in
theorem bytes_yes {n : Int} (h : inI n) (hr : rightB n = true) (w : World) :
    Calls Tryd.prog 172 #[.int .i64 n] w fun e w' => e = .returned (.slice (some ⟨w.heap.size, 0, none⟩) 8 8) ∧ Blk w' w.heap.size 5 (bc (byW 8 (rankI n).toNat)).toArray ∧ Below w.heap.size w w' := by
  have hmk : ∀ W, (Instr.makeSlice 22 (.int .i64 8) (.int .i64 8)).run Tryd.prog W = .ok (.slice (some ⟨W.heap.size, 0, none⟩) 8 8) (W.alloc (.cells #[.int .u8 0, .int .u8 0, .int .u8 0, .int .u8 0, .int .u8 0, .int .u8 0, .int .u8 0, .int .u8 0] 5)) := fun _ => by kernel_rfl
  obtain ⟨r0, r1⟩ := rank_in h
  have HRk : Hid (∀ W, Calls Tryd.prog 204 #[.int .i64 n] W fun e w' => e = .returned (.int .u64 (rankI n)) ∧ W = w') := fun W => rank_any h W
  have HRt : Hid (∀ W, Calls Tryd.prog 194 #[.int .i64 n] W fun e w' => e = .returned (.bool (rightB n)) ∧ W = w') := fun W => right_any h W
  obtain ⟨r, hrk⟩ := toNat_ofNat r0
  rw [hrk] at HRk r0 r1 ⊢
  rw [hr] at HRt
  rw [Int.toNat_natCast]
  clear hrk h hr
  go_enter Tryd.func172, Tryd.ntmps172
  go_wp2_with (first | (go_at_call 194; refine (HRt.out _).mono ?_; rintro e w' ⟨rfl, rfl⟩) | (go_at_call 204; refine (HRk.out _).mono ?_; rintro e w' ⟨rfl, rfl⟩))
  go_loopw [14] (fun vi wr => BInv r w.heap.size w vi wr) (fun vi _ => 8 - (intOf vi).toNat)
  case atStart => exact ⟨0, _, by omega, rfl, Blk.new _ _ _, rfl, rfl, (Below.refl _ _).alloc (Nat.le_refl _) _⟩
  case round =>
    obtain ⟨i, xs, hi, rfl, hB, hs, hdrop, hbel⟩ := hrel
    by_cases hlt : i < 8
    · have HB := hid hB
      have HS := hid hs
      have HD := hid hdrop
      obtain ⟨v0, hcell⟩ : ∃ v, wr.cell? ⟨w.heap.size, 7 - i, none⟩ = some v := ⟨xs[7 - i]'(by omega), by rw [hB.cell, Array.getElem?_eq_getElem]⟩
      have hfree := hB.free (7 - i)
      clear hB hs hdrop hmk r0 r1
      go_wp2
      go_roundw
      case rel =>
        refine ⟨i + 1, xs.setIfInBounds (7 - i) (Value.int .u8 ((UInt8.ofNat (r / 256 ^ i % 256)).toNat : Int)), by omega, by go_num, ?_, by rw [Array.size_setIfInBounds]; exact HS.out, ?_, hbel.setCell (Nat.le_refl _) _⟩
        · rw [← byte_at]
          exact HB.out.set (7 - i) _
        · rw [show 8 - (i + 1) = 7 - i by omega]
          exact drop_set8 HS.out (by omega) (by rw [show 7 - i + 1 = 8 - i by omega]; exact HD.out)
      case measure => simp [intOf]; omega
    · obtain rfl : i = 8 := by omega
      have HD : Hid (Blk wr w.heap.size 5 (bc (byW 8 r)).toArray) := by
        have e : xs.toList = bc (byW 8 r) := hdrop
        rw [← e]
        exact hB
      clear hB hs hdrop hmk r0 r1
      go_wp2
      go_ret
      exact ⟨rfl, HD.out, hbel⟩

end Go.Proofs.YtgfkobfkncpmoaaDoor

/- Plain mathematics of the order of floats by their bits: it is one, it is the language's, and the other sign turns it. Conditions: ints of 64 bits. -/
namespace Go.Proofs.YtgfkobfkncpmoaaDoor
open Go.RowKit (wrap64)

theorem cmpI_neg (a b : Int) : cmpI a b = -cmpI b a := by unfold cmpI; repeat' split <;> omega
theorem cmpI_self (a : Int) : cmpI a a = 0 := by unfold cmpI; rw [if_neg (Int.lt_irrefl a), if_neg (Int.lt_irrefl a)]
theorem cmpI_cases (a b : Int) : cmpI a b = -1 ∨ cmpI a b = 0 ∨ cmpI a b = 1 := by unfold cmpI; repeat' split <;> omega
theorem cmpI_lt {a b : Int} : cmpI a b = -1 ↔ a < b := by unfold cmpI; repeat' split <;> omega
theorem cmpI_gt {a b : Int} : cmpI a b = 1 ↔ b < a := by unfold cmpI; repeat' split <;> omega
theorem cmpI_eq {a b : Int} : cmpI a b = 0 ↔ a = b := by unfold cmpI; repeat' split <;> omega
theorem ordI_neg (a b : Int) : ordI a b = -ordI b a := cmpI_neg _ _
theorem ordI_self (a : Int) : ordI a a = 0 := cmpI_self _
theorem ordI_cases (a b : Int) : ordI a b = -1 ∨ ordI a b = 0 ∨ ordI a b = 1 := cmpI_cases _ _
theorem ordI_trans {a b c : Int} (h1 : ordI a b = -1) (h2 : ordI b c = -1) : ordI a c = -1 := cmpI_lt.2 (Int.lt_trans (cmpI_lt.1 h1) (cmpI_lt.1 h2))

theorem canon_id {n : Int} (h : nanB n = false) : canonI n = n := by unfold canonI; rw [if_neg (by rw [h]; decide)]

theorem ord_lt {a b : Int} (ha : inI a) (hb : inI b) (na : nanB a = false) (nb : nanB b = false) (h : sr a < sr b) : ordI a b = -1 := by
  unfold ordI
  rw [canon_id na, canon_id nb, cmpI_lt]
  have h1 := of_decide_eq_false na; have h2 := of_decide_eq_false nb
  unfold inI at ha hb
  unfold sr at h
  unfold rankI
  split at h <;> split at h <;> repeat' split <;> omega
theorem ord_gt {a b : Int} (ha : inI a) (hb : inI b) (na : nanB a = false) (nb : nanB b = false) (h : sr b < sr a) : ordI a b = 1 := by
  rw [ordI_neg, ord_lt hb ha nb na h]; rfl
theorem ord_eq {a b : Int} (ha : inI a) (hb : inI b) (na : nanB a = false) (nb : nanB b = false) : ordI a b = 0 ↔ a = b := by
  unfold ordI
  rw [canon_id na, canon_id nb, cmpI_eq]
  unfold inI at ha hb
  unfold rankI
  repeat' split <;> omega

/-- How the language's order and the order by bits stand to each other: five ways. -/
theorem order_ways {a b : Int} (ha : inI a) (hb : inI b) :
    (FloatKind.f64.format.order (wd a) (wd b) = none) ∨ (FloatKind.f64.format.order (wd a) (wd b) = some .lt ∧ ordI a b = -1) ∨ (FloatKind.f64.format.order (wd a) (wd b) = some .gt ∧ ordI a b = 1) ∨
    (FloatKind.f64.format.order (wd a) (wd b) = some .eq ∧ a = b ∧ ordI a b = 0) ∨ (FloatKind.f64.format.order (wd a) (wd b) = some .eq ∧ (a == b) = false ∧ (ordI a b = -1 ∨ ordI a b = 1)) := by
  cases na : nanB a
  · cases nb : nanB b
    · rw [order_sr ha hb na nb]
      have key : ∀ x y : Int, (x < y ∧ compare x y = .lt) ∨ (y < x ∧ compare x y = .gt) ∨ (x = y ∧ compare x y = .eq) := fun x y => by
        simp only [compare, compareOfLessAndEq]
        by_cases h1 : x < y
        · exact Or.inl ⟨h1, by rw [if_pos h1]⟩
        · by_cases h2 : x = y
          · exact Or.inr (Or.inr ⟨h2, by rw [if_neg h1, if_pos h2]⟩)
          · exact Or.inr (Or.inl ⟨by omega, by rw [if_neg h1, if_neg h2]⟩)
      rcases key (sr a) (sr b) with ⟨h, e⟩ | ⟨h, e⟩ | ⟨_, e⟩
      · exact Or.inr (Or.inl ⟨by rw [e], ord_lt ha hb na nb h⟩)
      · exact Or.inr (Or.inr (Or.inl ⟨by rw [e], ord_gt ha hb na nb h⟩))
      · by_cases hab : a = b
        · exact Or.inr (Or.inr (Or.inr (Or.inl ⟨by rw [e], hab, (ord_eq ha hb na nb).2 hab⟩)))
        · refine Or.inr (Or.inr (Or.inr (Or.inr ⟨by rw [e], by simpa using hab, ?_⟩)))
          have := mt (ord_eq ha hb na nb).1 hab
          rcases ordI_cases a b with h | h | h
          · exact Or.inl h
          · exact absurd h this
          · exact Or.inr h
    · exact Or.inl (order_none (Or.inr (by rw [nanB_wd]; exact nb)))
  · exact Or.inl (order_none (Or.inl (by rw [nanB_wd]; exact na)))

theorem flip_in {n : Int} (h : inI n) : inI (flipI n) := by unfold flipI inI at *; split <;> omega
theorem flip_nan {n : Int} (_h : inI n) : nanB (flipI n) = nanB n := by
  unfold nanB flipI
  rw [Bool.eq_iff_iff, decide_eq_true_iff, decide_eq_true_iff]
  split <;> omega
theorem flip_ord {a b : Int} (ha : inI a) (hb : inI b) (na : nanB a = false) (nb : nanB b = false) : ordI (flipI a) (flipI b) = -ordI a b := by
  have na' : nanB (flipI a) = false := by rw [flip_nan ha]; exact na
  have nb' : nanB (flipI b) = false := by rw [flip_nan hb]; exact nb
  unfold ordI
  rw [canon_id na, canon_id nb, canon_id na', canon_id nb', cmpI_neg]
  congr 1
  have e : ∀ {n : Int}, inI n → rankI (flipI n) = 18446744073709551615 - rankI n := fun {n} hn => by
    unfold inI at hn
    unfold rankI flipI
    repeat' split <;> omega
  rw [e ha, e hb]
  unfold cmpI
  repeat' split <;> omega

theorem xor_top (r : Nat) (h : r < 2 ^ 63) : r ^^^ 2 ^ 63 = r + 2 ^ 63 := by
  have e : r ^^^ 2 ^ 63 = 2 ^ 63 ||| r := by
    apply Nat.eq_of_testBit_eq
    intro i
    rw [Nat.testBit_xor, Nat.testBit_or, Nat.testBit_two_pow]
    by_cases hi : 63 = i
    · subst hi
      rw [Nat.testBit_lt_two_pow h]
      simp
    · simp [hi]
  rw [e, nat_join 63 _ _ (by decide) h, Nat.add_comm]

theorem ofInt64 (n : Int) : (BitVec.ofInt 64 n).toNat = wd n := by unfold wd; rw [BitVec.toNat_ofInt]; rfl

theorem xor_sign {n : Int} (h : inI n) : bits .xor .i64 n (-9223372036854775808) = flipI n := by
  unfold inI at h
  have e1 : (BitVec.ofInt 64 (-9223372036854775808)).toNat = 2 ^ 63 := by decide
  show IntKind.i64.wrap (((BitVec.ofInt 64 n) ^^^ (BitVec.ofInt 64 (-9223372036854775808))).toNat : Nat) = flipI n
  rw [BitVec.toNat_xor, ofInt64, e1]
  unfold flipI
  by_cases hn : n < 0
  · rw [if_pos hn]
    have hw : wd n = (n + 9223372036854775808).toNat + 2 ^ 63 := by unfold wd; omega
    rw [hw, ← xor_top _ (by omega), Nat.xor_assoc, Nat.xor_self, Nat.xor_zero, IntKind.wrap_i64]
    omega
  · rw [if_neg hn]
    have hw : wd n = n.toNat := by unfold wd; omega
    rw [hw, xor_top _ (by omega), IntKind.wrap_i64]
    omega

end Go.Proofs.YtgfkobfkncpmoaaDoor

/- float.From for every slice of bytes: the number of its eight bytes, or nought and false. Conditions: the slice holds those bytes. -/
namespace Go.Proofs.YtgfkobfkncpmoaaDoor
open Go.RowKit

def unrankI (r : Int) : Int := if r < 9223372036854775808 then -1 - r else r - 9223372036854775808
theorem unrank_rank {n : Int} (h : inI n) : unrankI (rankI n) = n := by unfold unrankI rankI inI at *; repeat' split <;> omega
theorem unrank_in {r : Int} (h0 : 0 ≤ r) (h : r < 18446744073709551616) : inI (unrankI r) := by unfold unrankI inI; split <;> omega

theorem topR {r : Int} (h0 : 0 ≤ r) (h : r < 18446744073709551616) : (bits .and .u64 r 9223372036854775808 != 0) = decide (9223372036854775808 ≤ r) := by
  rw [u64_and _ _ (by omega) (by omega) (by omega) (by omega)]
  have e : r.toNat &&& (9223372036854775808 : Int).toNat = r.toNat / 2 ^ 63 % 2 * 2 ^ 63 := nat_bit 63 _
  rw [e]
  by_cases hn : 9223372036854775808 ≤ r
  · rw [decide_eq_true hn, bne_iff_ne]; omega
  · rw [decide_eq_false hn]; simp; omega
theorem turnR {r : Int} (h0 : 0 ≤ r) (h : r < 18446744073709551616) : bits .xor .u64 IntKind.u64.max r = 18446744073709551615 - r := by
  have hm : IntKind.u64.max = 18446744073709551615 := rfl
  rw [hm, u64_xor _ _ (by omega) (by omega) (by omega) (by omega)]
  obtain ⟨k, rfl⟩ := toNat_ofNat h0
  have hk2 : k < 2 ^ 64 := by omega
  have e : (18446744073709551615 : Int).toNat ^^^ (k : Int).toNat = 2 ^ 64 - 1 - k := by
    rw [show (18446744073709551615 : Int).toNat = 2 ^ 64 - 1 from rfl, Int.toNat_natCast]
    apply Nat.eq_of_testBit_eq
    intro i
    rw [Nat.testBit_xor, Nat.testBit_two_pow_sub_one, show 2 ^ 64 - 1 - k = 2 ^ 64 - (k + 1) by omega, Nat.testBit_two_pow_sub_succ hk2]
    by_cases hi : i < 64
    · simp [hi]
    · have : k.testBit i = false := Nat.testBit_lt_two_pow (Nat.lt_of_lt_of_le hk2 (Nat.pow_le_pow_right (by omega) (by omega)))
      simp [hi, this]
  rw [e]
  omega
theorem clearR {r : Int} (h0 : 0 ≤ r) (h : r < 18446744073709551616) : bits .andNot .u64 r 9223372036854775808 = r % 9223372036854775808 := by
  rw [u64_andNot _ _ (by omega) (by omega) (by omega) (by omega)]
  have e : r.toNat &&& (18446744073709551615 - (9223372036854775808 : Int).toNat) = r.toNat % 2 ^ 63 := Nat.and_two_pow_sub_one_eq_mod _ 63
  rw [e]
  omega

set_option maxHeartbeats 400000 in
theorem unrank_any {r : Int} (h0 : 0 ≤ r) (h : r < 18446744073709551616) (w : World) :
    Calls Tryd.prog 232 #[.int .u64 r] w fun e w' => e = .returned (.int .i64 (unrankI r)) ∧ w = w' := by
  have ht := topR h0 h
  have hx := turnR h0 h
  have hcl := clearR h0 h
  by_cases hn : 9223372036854775808 ≤ r
  · rw [decide_eq_true hn] at ht
    have hw : wrap64 (bits .andNot .u64 r 9223372036854775808) = unrankI r := by rw [hcl]; unfold wrap64 unrankI; rw [if_neg (by omega)]; omega
    rw [← hw]
    clear hx hcl hn h h0 hw
    go_enter Tryd.func232, Tryd.ntmps232
    go_wp2
    go_ret
    exact ⟨rfl, rfl⟩
  · rw [decide_eq_false hn] at ht
    have hw : wrap64 (bits .xor .u64 IntKind.u64.max r) = unrankI r := by rw [hx]; unfold wrap64 unrankI; rw [if_pos (by omega)]; omega
    rw [← hw]
    clear hx hcl hn h h0 hw
    go_enter Tryd.func232, Tryd.ntmps232
    go_wp2
    go_ret
    exact ⟨rfl, rfl⟩

theorem or_byte {r : Int} (h0 : 0 ≤ r) (h : r < 72057594037927936) (x : Nat) (hx : x < 256) : bits .or .u64 (r * 256) (x : Int) = r * 256 + x := by
  rw [u64_or _ _ (by omega) (by omega) (by omega) (by omega), Int.toNat_natCast]
  have e := nat_join 8 (r * 256).toNat x (by omega) hx
  rw [e]
  omega

set_option maxHeartbeats 1000000 in
theorem from_no {a : Option Addr} (n c : Nat) (hn : n ≠ 8) (w : World) :
    Calls Tryd.prog 215 #[.slice a n c] w fun e w' => e = .returned (.tuple #[.int .i64 0, .bool false]) ∧ w = w' := by
  have h8 : ((n : Int) == 8) = false := by simpa using fun h => hn (by omega)
  go_enter Tryd.func215, Tryd.ntmps215
  go_wp2
  go_ret2
  exact ⟨rfl, rfl⟩

def fromEnd (n : Int) : Ending := if rightB n = true then .returned (.tuple #[.int .i64 n, .bool true]) else .returned (.tuple #[.int .i64 0, .bool false])

set_option maxHeartbeats 1000000 in
set_option maxRecDepth 100000 in
theorem from_yes (l : List UInt8) (hl : l.length = 8) (b c : Nat) (w : World) (hcells : ∀ i, i < 8 → w.cell? ⟨b, i, none⟩ = some (.int .u8 ((l.getD i 0).toNat : Int))) :
    Calls Tryd.prog 215 #[.slice (some ⟨b, 0, none⟩) 8 c] w fun e w' => e = fromEnd (unrankI (foldB l)) ∧ w = w' := by
  have HL := hid hl
  have HC := hid hcells
  clear hl hcells
  go_enter Tryd.func215, Tryd.ntmps215
  go_wp2
  go_loop [4, 13] (fun vr vi => ∃ (k : Nat) (r : Int), k ≤ 8 ∧ vr = .int .u64 r ∧ vi = .int .i64 k ∧ 0 ≤ r ∧ r = foldB (l.take k)) (fun _ vi => 8 - (intOf vi).toNat)
  case atStart => exact ⟨0, 0, by omega, rfl, rfl, by omega, rfl⟩
  case round =>
    obtain ⟨k, r, hk, rfl, rfl, hr0, hr⟩ := hrel
    by_cases hlt : k < 8
    · have hb : r < 72057594037927936 := by
        have h1 := foldB_lt (l.take k)
        have h2 : (l.take k).length ≤ 7 := by rw [List.length_take]; omega
        have h3 : 256 ^ (l.take k).length ≤ 256 ^ 7 := Nat.pow_le_pow_right (by omega) h2
        rw [hr]
        omega
      have hcell := HC.out k hlt
      have hx := (l.getD k 0).toNat_lt
      obtain ⟨x, hxe⟩ : ∃ x, (l.getD k 0).toNat = x := ⟨_, rfl⟩
      rw [hxe] at hcell hx
      have hor := or_byte hr0 hb x (by omega)
      have HN : Hid (r * 256 + x = ((foldB (l.take (k + 1)) : Nat) : Int)) := hid (by rw [foldB_take l k (by rw [HL.out]; exact hlt), hxe, hr]; omega)
      have hx2 : x ≤ 255 := by omega
      clear hr hxe hx
      go_wp2
      go_round
      case rel => exact ⟨k + 1, r * 256 + x, by omega, rfl, by go_num, by omega, HN.out⟩
      case measure => simp [intOf]; omega
    · obtain rfl : k = 8 := by omega
      have hr8 : r = foldB l := by rw [hr, List.take_of_length_le (by rw [HL.out]; omega)]
      have hb : r < 18446744073709551616 := by
        have h1 := foldB_lt l
        rw [HL.out] at h1
        rw [hr8]
        have : (256 : Nat) ^ 8 = 18446744073709551616 := by decide
        omega
      obtain ⟨n, hn⟩ : ∃ n, unrankI (foldB l) = n := ⟨_, rfl⟩
      have hun : unrankI r = n := by rw [hr8]; exact hn
      have HU : Hid (∀ W, Calls Tryd.prog 232 #[.int .u64 r] W fun e w' => e = .returned (.int .i64 n) ∧ W = w') := fun W => by rw [← hun]; exact unrank_any hr0 hb W
      have hin : inI n := by rw [← hun]; exact unrank_in hr0 hb
      clear hr hr8 hb hr0 hun
      cases hrt : rightB n
      · have HFE : Hid (fromEnd (unrankI (foldB l)) = .returned (.tuple #[.int .i64 0, .bool false])) := by show fromEnd (unrankI (foldB l)) = _; rw [hn]; unfold fromEnd; rw [if_neg (by rw [hrt]; decide)]
        clear hn
        go_wp2_with (first | (go_at_call 232; refine (HU.out _).mono ?_; rintro e w' ⟨rfl, rfl⟩) | (go_at_call 194; refine (right_any (by assumption) _).mono ?_; rintro e w' ⟨rfl, rfl⟩))
        go_ret2
        rw [HFE.out]
        exact ⟨rfl, rfl⟩
      · have HFE : Hid (fromEnd (unrankI (foldB l)) = .returned (.tuple #[.int .i64 n, .bool true])) := by show fromEnd (unrankI (foldB l)) = _; rw [hn]; unfold fromEnd; rw [if_pos hrt]
        clear hn
        go_wp2_with (first | (go_at_call 232; refine (HU.out _).mono ?_; rintro e w' ⟨rfl, rfl⟩) | (go_at_call 194; refine (right_any (by assumption) _).mono ?_; rintro e w' ⟨rfl, rfl⟩))
        go_ret2
        rw [HFE.out]
        exact ⟨rfl, rfl⟩

end Go.Proofs.YtgfkobfkncpmoaaDoor

/- Rows of bytes in order, and what Bytes, Show and Read of package float give in a later world. Conditions: the table of math/bits reads as it is laid. -/
namespace Go.Proofs.YtgfkobfkncpmoaaDoor
open Go.RowKit

/-- Where two rows of bytes part: below, level or above. -/
def lexC : List UInt8 → List UInt8 → Int
  | a :: u, b :: v => if a.toNat < b.toNat then -1 else if b.toNat < a.toNat then 1 else lexC u v
  | _, _ => 0

theorem foldB_cons (l : List UInt8) (x : UInt8) : foldB (x :: l) = x.toNat * 256 ^ l.length + foldB l := by
  induction h : l.length generalizing l with
  | zero => have : l = [] := List.length_eq_zero_iff.1 h
            subst this; simp [foldB]
  | succ n ih =>
    obtain ⟨l', y, rfl⟩ : ∃ l' y, l = l' ++ [y] := ⟨l.dropLast, l.getLast (by intro e; rw [e] at h; simp at h), (List.dropLast_concat_getLast _).symm⟩
    have hl : l'.length = n := by simpa using h
    rw [← List.cons_append, foldB_snoc, foldB_snoc, ih l' hl, Nat.pow_succ, Nat.add_mul, Nat.mul_assoc]
    omega

theorem lexC_fold (l m : List UInt8) (h : l.length = m.length) : lexC l m = cmpI (foldB l) (foldB m) := by
  induction l generalizing m with
  | nil => cases m with
    | nil => rfl
    | cons => simp at h
  | cons a u ih => cases m with
    | nil => simp at h
    | cons b bs =>
      have h' : u.length = bs.length := by simpa using h
      have h1 := foldB_lt u
      have h2 := foldB_lt bs
      rw [foldB_cons, foldB_cons, lexC, ih bs h', h']
      rw [h'] at h1
      generalize 256 ^ bs.length = P at *
      have ml : ∀ x y : Nat, x < y → x * P + P ≤ y * P := fun x y hxy => by
        have := Nat.mul_le_mul_right P (show x + 1 ≤ y from hxy)
        rw [Nat.add_mul, Nat.one_mul] at this
        exact this
      by_cases c1 : a.toNat < b.toNat
      · rw [if_pos c1]
        have := ml _ _ c1
        exact (cmpI_lt.2 (by omega)).symm
      · rw [if_neg c1]
        by_cases c2 : b.toNat < a.toNat
        · rw [if_pos c2]
          have := ml _ _ c2
          exact (cmpI_gt.2 (by omega)).symm
        · rw [if_neg c2]
          have e : a.toNat = b.toNat := by omega
          rw [e]
          unfold cmpI
          repeat' split <;> omega

theorem lexC_drop (l m : List UInt8) (k : Nat) (h : k < l.length) (h' : k < m.length) :
    lexC (l.drop k) (m.drop k) = if (l.getD k 0).toNat < (m.getD k 0).toNat then -1 else if (m.getD k 0).toNat < (l.getD k 0).toNat then 1 else lexC (l.drop (k + 1)) (m.drop (k + 1)) := by
  rw [List.drop_eq_getElem_cons h, List.drop_eq_getElem_cons h', lexC]
  simp only [List.getD_eq_getElem?_getD, List.getElem?_eq_getElem h, List.getElem?_eq_getElem h', Option.getD_some]

theorem right_canon {n : Int} (h : rightB n = true) : canonI n = n := by
  unfold rightB at h
  unfold canonI
  cases hb : nanB n
  · rw [if_neg (by decide)]
  · rw [hb] at h
    simp at h
    rw [if_pos rfl, h]

/-- The bytes of right numbers are in order as they are. -/
theorem lexC_order {a b : Int} (ha : inI a) (hb : inI b) (ra : rightB a = true) (rb : rightB b = true) : lexC (byW 8 (rankI a).toNat) (byW 8 (rankI b).toNat) = ordI a b := by
  obtain ⟨a0, a1⟩ := rank_in ha
  obtain ⟨b0, b1⟩ := rank_in hb
  have p : (256 : Nat) ^ 8 = 18446744073709551616 := by decide
  rw [lexC_fold _ _ (by rw [byW_len, byW_len]), foldB_byW 8 _ (by omega), foldB_byW 8 _ (by omega)]
  unfold ordI
  rw [right_canon ra, right_canon rb, Int.toNat_of_nonneg a0, Int.toNat_of_nonneg b0]

theorem from_bytes {n : Int} (h : inI n) (r : rightB n = true) : fromEnd (unrankI (foldB (byW 8 (rankI n).toNat))) = .returned (.tuple #[.int .i64 n, .bool true]) := by
  obtain ⟨a0, a1⟩ := rank_in h
  have p : (256 : Nat) ^ 8 = 18446744073709551616 := by decide
  rw [foldB_byW 8 _ (by omega), Int.toNat_of_nonneg a0, unrank_rank h]
  unfold fromEnd
  rw [if_pos r]

/-- A block that holds bytes: its cells. -/
theorem Blk.bytes {w : World} {b : Nat} {l : List UInt8} (h : Blk w b 5 (bc l).toArray) (i : Nat) (hi : i < l.length) : w.cell? ⟨b, i, none⟩ = some (.int .u8 ((l.getD i 0).toNat : Int)) := by
  rw [h.cell]
  simp [bc, List.getElem?_eq_getElem hi]

theorem bytes_carried {n : Int} (h : inI n) (r : rightB n = true) (w W : World) (hW : Below w.heap.size w W) :
    Calls Tryd.prog 172 #[.int .i64 n] W fun e w' => e = .returned (.slice (some ⟨W.heap.size, 0, none⟩) 8 8) ∧ Blk w' W.heap.size 5 (bc (byW 8 (rankI n).toNat)).toArray ∧ Below w.heap.size w w' ∧ Below W.heap.size W w' :=
  (bytes_yes h r W).mono fun _ _ ⟨he, hB, hb⟩ => ⟨he, hB, hW.trans (hb.mono hW.size), hb⟩
theorem canon_nan {n : Int} (h : nanB n = true) : canonI n = 9221120237041090560 := by unfold canonI; rw [if_pos h]
theorem canon_num {n : Int} (h : nanB n = false) : canonI n = n := by unfold canonI; rw [if_neg (by rw [h]; decide)]
theorem right_num {n : Int} (h : nanB n = false) : rightB n = true := by unfold rightB; rw [h]; simp
theorem right_other {n : Int} (h : nanB n = true) (hn : ¬ n = 9221120237041090560) : rightB n = false := by unfold rightB; rw [h]; simpa using hn
theorem in_nan : inI 9221120237041090560 := by unfold inI; omega
theorem right_nan : rightB 9221120237041090560 = true := by decide

theorem nan_of_right {n : Int} (h : rightB n = true) (hn : ¬ n = 9221120237041090560) : nanB n = false := by
  unfold rightB at h
  cases hb : nanB n
  · rfl
  · rw [hb] at h
    simp at h
    exact absurd h hn

end Go.Proofs.YtgfkobfkncpmoaaDoor

/- Plain mathematics of values of five kinds: which are right, their order, their bytes. No program in it. -/
namespace Go.Proofs.YtgfkobfkncpmoaaDoor
open Go.RowKit

/-- Is the value (kind k, number n, bytes s) right? -/
def vRight (k n : Int) (s : List UInt8) : Bool :=
  if k = 1 then s.isEmpty else if k = 2 then n == 0 && decide (s.length ≤ 32) else if k = 3 then n == 0 && decide (s.length ≤ 32) && Lib.validD s
  else if k = 4 then s.isEmpty && (n == 0 || n == 1) else if k = 5 then s.isEmpty && rightB n else false
def vNum (k a b : Int) : Int := if k = 5 then ordI a b else cmpI a b
def vOrd (k1 n1 : Int) (s1 : List UInt8) (k2 n2 : Int) (s2 : List UInt8) : Int :=
  if k1 = k2 then (if vNum k1 n1 n2 = 0 then Lib.compareBytes s1 s2 else vNum k1 n1 n2) else cmpI k1 k2

/-- Bytes in which each 0 is 0, 255. -/
def esc : List UInt8 → List UInt8
  | [] => []
  | c :: l => if c = 0 then 0 :: 255 :: esc l else c :: esc l
theorem esc_app (a b : List UInt8) : esc (a ++ b) = esc a ++ esc b := by
  induction a with
  | nil => rfl
  | cons c l ih => simp only [List.cons_append, esc, ih]; split <;> rfl
theorem esc_len (l : List UInt8) : (esc l).length ≤ 2 * l.length := by
  induction l with
  | nil => simp [esc]
  | cons c l ih => simp only [esc]; split <;> simp <;> omega

/-- The number of an int's eight bytes. -/
def upI (n : Int) : Nat := (n + 9223372036854775808).toNat
theorem upI_lt {n : Int} (h : inI n) : upI n < 18446744073709551616 := by unfold upI inI at *; omega
/-- The bytes behind the kind. -/
def vBody (k n : Int) (s : List UInt8) : List UInt8 :=
  if k = 1 then byW 8 (upI n) else if k = 5 then byW 8 (rankI n).toNat else if k = 4 then [UInt8.ofNat n.toNat] else esc s ++ [0, 1]
def vEnc (k n : Int) (s : List UInt8) : List UInt8 := UInt8.ofNat k.toNat :: vBody k n s

theorem right_kind {k n : Int} {s : List UInt8} (h : vRight k n s = true) : k = 1 ∨ k = 2 ∨ k = 3 ∨ k = 4 ∨ k = 5 := by
  unfold vRight at h
  by_cases h1 : k = 1; · omega
  by_cases h2 : k = 2; · omega
  by_cases h3 : k = 3; · omega
  by_cases h4 : k = 4; · omega
  by_cases h5 : k = 5; · omega
  rw [if_neg h1, if_neg h2, if_neg h3, if_neg h4, if_neg h5] at h
  cases h
theorem right_len {k n : Int} {s : List UInt8} (h : vRight k n s = true) : s.length ≤ 32 := by
  rcases right_kind h with rfl | rfl | rfl | rfl | rfl <;> simp [vRight] at h <;> simp [h] <;> omega

end Go.Proofs.YtgfkobfkncpmoaaDoor

/- Plain mathematics of the order of values: it is one, and level values that are right are one. No program in it. Conditions: the numbers are of 64 bits. -/
namespace Go.Proofs.YtgfkobfkncpmoaaDoor
open Go.RowKit

theorem cmpB_self : ∀ l : List UInt8, Lib.compareBytes l l = 0
  | [] => rfl
  | a :: l => by unfold Lib.compareBytes; simp [cmpB_self l]
theorem cmpB_neg : ∀ l m : List UInt8, Lib.compareBytes l m = -Lib.compareBytes m l
  | [], [] => rfl
  | [], _ :: _ => rfl
  | _ :: _, [] => rfl
  | a :: l, b :: m => by
    unfold Lib.compareBytes
    have ih := cmpB_neg l m
    by_cases h1 : a < b
    · have h2 : ¬ b < a := fun h => by rw [UInt8.lt_iff_toNat_lt] at h h1; omega
      rw [if_pos h1, if_neg h2, if_pos h1]
    · rw [if_neg h1]
      by_cases h2 : b < a
      · rw [if_pos h2, if_pos h2]; rfl
      · rw [if_neg h2, if_neg h2, if_neg h1]; exact ih
theorem cmpB_zero : ∀ l m : List UInt8, Lib.compareBytes l m = 0 → l = m
  | [], [], _ => rfl
  | [], _ :: _, h => by cases h
  | _ :: _, [], h => by cases h
  | a :: l, b :: m, h => by
    unfold Lib.compareBytes at h
    by_cases h1 : a < b
    · rw [if_pos h1] at h; cases h
    · rw [if_neg h1] at h
      by_cases h2 : b < a
      · rw [if_pos h2] at h; cases h
      · rw [if_neg h2] at h
        have e : a = b := UInt8.toNat_inj.1 (by rw [UInt8.lt_iff_toNat_lt] at h1 h2; omega)
        rw [e, cmpB_zero l m h]
theorem cmpB_trans : ∀ l m n : List UInt8, Lib.compareBytes l m ≤ 0 → Lib.compareBytes m n ≤ 0 → Lib.compareBytes l n ≤ 0
  | [], _, [], _, _ => by decide
  | [], _, _ :: _, _, _ => by unfold Lib.compareBytes; decide
  | a :: l, [], n, h, _ => by unfold Lib.compareBytes at h; omega
  | a :: l, b :: m, [], _, h => by unfold Lib.compareBytes at h; omega
  | a :: l, b :: m, c :: n, h1, h2 => by
    unfold Lib.compareBytes at h1 h2 ⊢
    have ih := cmpB_trans l m n
    simp only [UInt8.lt_iff_toNat_lt] at *
    by_cases x1 : a.toNat < b.toNat
    · by_cases y1 : b.toNat < c.toNat
      · rw [if_pos (by omega)]; decide
      · rw [if_neg y1] at h2
        by_cases y2 : c.toNat < b.toNat
        · rw [if_pos y2] at h2; omega
        · rw [if_pos (by omega)]; decide
    · rw [if_neg x1] at h1
      by_cases x2 : b.toNat < a.toNat
      · rw [if_pos x2] at h1; omega
      · rw [if_neg x2] at h1
        by_cases y1 : b.toNat < c.toNat
        · rw [if_pos (by omega)]; decide
        · rw [if_neg y1] at h2
          by_cases y2 : c.toNat < b.toNat
          · rw [if_pos y2] at h2; omega
          · rw [if_neg y2] at h2
            rw [if_neg (by omega), if_neg (by omega)]
            exact ih h1 h2

/-- A value's number in the order: of a float its place, else itself. -/
def vKey (k n : Int) : Int := if k = 5 then rankI (canonI n) else n
theorem vNum_key (k a b : Int) : vNum k a b = cmpI (vKey k a) (vKey k b) := by
  unfold vNum vKey ordI
  by_cases h : k = 5
  · rw [if_pos h, if_pos h, if_pos h]
  · rw [if_neg h, if_neg h, if_neg h]

theorem vOrd_self (k n : Int) (s : List UInt8) : vOrd k n s k n s = 0 := by
  unfold vOrd
  rw [if_pos rfl, vNum_key, cmpI_self, if_pos rfl, cmpB_self]
theorem vOrd_neg (k1 n1 : Int) (s1 : List UInt8) (k2 n2 : Int) (s2 : List UInt8) : vOrd k1 n1 s1 k2 n2 s2 = -vOrd k2 n2 s2 k1 n1 s1 := by
  unfold vOrd
  by_cases h : k1 = k2
  · subst h
    rw [if_pos rfl, if_pos rfl, vNum_key, vNum_key, cmpI_neg (vKey k1 n2) (vKey k1 n1)]
    by_cases h0 : cmpI (vKey k1 n1) (vKey k1 n2) = 0
    · rw [if_pos h0, if_pos (by omega)]; exact cmpB_neg s1 s2
    · rw [if_neg h0, if_neg (by omega)]; omega
  · rw [if_neg h, if_neg (fun e => h e.symm)]
    exact cmpI_neg k1 k2
theorem cmpI_le {a b : Int} : cmpI a b ≤ 0 ↔ a ≤ b := by unfold cmpI; split <;> (try split) <;> omega
theorem cmpI_z {a b : Int} : cmpI a b = 0 ↔ a = b := by unfold cmpI; split <;> (try split) <;> omega
theorem vOrd_le (k1 n1 : Int) (s1 : List UInt8) (k2 n2 : Int) (s2 : List UInt8) : vOrd k1 n1 s1 k2 n2 s2 ≤ 0 ↔ k1 < k2 ∨ (k1 = k2 ∧ (vKey k1 n1 < vKey k2 n2 ∨ (vKey k1 n1 = vKey k2 n2 ∧ Lib.compareBytes s1 s2 ≤ 0))) := by
  unfold vOrd
  by_cases h : k1 = k2
  · subst h
    rw [if_pos rfl, vNum_key]
    by_cases h0 : cmpI (vKey k1 n1) (vKey k1 n2) = 0
    · rw [if_pos h0]
      have := cmpI_z.1 h0
      omega
    · rw [if_neg h0, cmpI_le]
      have : ¬ vKey k1 n1 = vKey k1 n2 := fun e => h0 (cmpI_z.2 e)
      omega
  · rw [if_neg h, cmpI_le]
    omega
theorem vOrd_trans {k1 n1 : Int} {s1 : List UInt8} {k2 n2 : Int} {s2 : List UInt8} {k3 n3 : Int} {s3 : List UInt8} (h1 : vOrd k1 n1 s1 k2 n2 s2 ≤ 0) (h2 : vOrd k2 n2 s2 k3 n3 s3 ≤ 0) : vOrd k1 n1 s1 k3 n3 s3 ≤ 0 := by
  rw [vOrd_le] at *
  have := cmpB_trans s1 s2 s3
  rcases h1 with h1 | ⟨e1, h1 | ⟨f1, h1⟩⟩ <;> rcases h2 with h2 | ⟨e2, h2 | ⟨f2, h2⟩⟩
  · exact Or.inl (by omega)
  · exact Or.inl (by omega)
  · exact Or.inl (by omega)
  · exact Or.inl (by omega)
  · exact Or.inr ⟨by omega, Or.inl (by omega)⟩
  · exact Or.inr ⟨by omega, Or.inl (by omega)⟩
  · exact Or.inl (by omega)
  · exact Or.inr ⟨by omega, Or.inl (by omega)⟩
  · exact Or.inr ⟨by omega, Or.inr ⟨by omega, this h1 h2⟩⟩

theorem vKey_one {k n1 n2 : Int} {s1 s2 : List UInt8} (i1 : inI n1) (i2 : inI n2) (h1 : vRight k n1 s1 = true) (h2 : vRight k n2 s2 = true) (h : vKey k n1 = vKey k n2) : n1 = n2 := by
  unfold vKey at h
  by_cases h5 : k = 5
  · subst h5
    rw [if_pos rfl, if_pos rfl] at h
    have r1 : rightB n1 = true := by simp [vRight] at h1; exact h1.2
    have r2 : rightB n2 = true := by simp [vRight] at h2; exact h2.2
    rw [right_canon r1, right_canon r2] at h
    have := congrArg unrankI h
    rwa [unrank_rank i1, unrank_rank i2] at this
  · rwa [if_neg h5, if_neg h5] at h
/-- Right values are level just if they are one. -/
theorem vOrd_one {k1 n1 : Int} {s1 : List UInt8} {k2 n2 : Int} {s2 : List UInt8} (i1 : inI n1) (i2 : inI n2) (h1 : vRight k1 n1 s1 = true) (h2 : vRight k2 n2 s2 = true) : vOrd k1 n1 s1 k2 n2 s2 = 0 ↔ k1 = k2 ∧ n1 = n2 ∧ s1 = s2 := by
  constructor
  · intro h
    unfold vOrd at h
    by_cases hk : k1 = k2
    · subst hk
      rw [if_pos rfl, vNum_key] at h
      by_cases h0 : cmpI (vKey k1 n1) (vKey k1 n2) = 0
      · rw [if_pos h0] at h
        exact ⟨rfl, vKey_one i1 i2 h1 h2 (cmpI_z.1 h0), cmpB_zero _ _ h⟩
      · rw [if_neg h0] at h
        exact absurd h h0
    · rw [if_neg hk] at h
      exact absurd (cmpI_z.1 h) hk
  · rintro ⟨rfl, rfl, rfl⟩
    exact vOrd_self _ _ _

theorem enc_two {k n : Int} {s : List UInt8} (h : vRight k n s = true) : 2 ≤ (vEnc k n s).length := by
  unfold vEnc vBody
  rcases right_kind h with rfl | rfl | rfl | rfl | rfl <;> simp [byW_len]

end Go.Proofs.YtgfkobfkncpmoaaDoor

/- Plain mathematics: the bytes of right values are in order as they are. No program in it. Conditions: the numbers are of 64 bits. -/
namespace Go.Proofs.YtgfkobfkncpmoaaDoor
open Go.RowKit

theorem lexC_self : ∀ l : List UInt8, lexC l l = 0
  | [] => rfl
  | a :: l => by rw [lexC, if_neg (by omega), if_neg (by omega)]; exact lexC_self l
/-- Escaped texts, and what stands behind their ends. -/
theorem esc_lex : ∀ (s t u v : List UInt8), lexC (esc s ++ (0 :: 1 :: u)) (esc t ++ (0 :: 1 :: v)) = if Lib.compareBytes s t = 0 then lexC u v else Lib.compareBytes s t
  | [], [], u, v => by
    rw [if_pos (show Lib.compareBytes [] [] = 0 from rfl)]
    show lexC (0 :: 1 :: u) (0 :: 1 :: v) = _
    rw [lexC, if_neg (by decide), if_neg (by decide), lexC, if_neg (by decide), if_neg (by decide)]
  | [], d :: t, u, v => by
    have e : Lib.compareBytes [] (d :: t) = -1 := rfl
    rw [e, if_neg (by decide)]
    show lexC (0 :: 1 :: u) _ = _
    unfold esc
    by_cases h : d = 0
    · rw [if_pos h]
      show lexC (0 :: 1 :: u) (0 :: 255 :: _) = _
      rw [lexC, if_neg (by decide), if_neg (by decide), lexC, if_pos (by decide)]
    · rw [if_neg h]
      show lexC (0 :: 1 :: u) (d :: _) = _
      rw [lexC, if_pos ?_]
      have : ¬ d.toNat = 0 := fun e => h (UInt8.toNat_inj.1 e)
      show 0 < _
      omega
  | c :: s, [], u, v => by
    have e : Lib.compareBytes (c :: s) [] = 1 := rfl
    rw [e, if_neg (by decide)]
    show lexC _ (0 :: 1 :: v) = _
    unfold esc
    by_cases h : c = 0
    · rw [if_pos h]
      show lexC (0 :: 255 :: _) (0 :: 1 :: v) = _
      rw [lexC, if_neg (by decide), if_neg (by decide), lexC, if_neg (by decide), if_pos (by decide)]
    · rw [if_neg h]
      show lexC (c :: _) (0 :: 1 :: v) = _
      have : ¬ c.toNat = 0 := fun e => h (UInt8.toNat_inj.1 e)
      have z : (0 : UInt8).toNat = 0 := rfl
      rw [lexC, z, if_neg (by omega), if_pos (by omega)]
  | c :: s, d :: t, u, v => by
    have ih := esc_lex s t u v
    unfold Lib.compareBytes
    simp only [UInt8.lt_iff_toNat_lt]
    by_cases h1 : c.toNat < d.toNat
    · rw [if_pos h1, if_neg (by decide)]
      have hd : ¬ d = 0 := fun e => by rw [e] at h1; exact absurd h1 (by simp)
      unfold esc
      rw [if_neg hd]
      by_cases hc : c = 0
      · rw [if_pos hc]
        show lexC (0 :: _) (d :: _) = _
        rw [hc] at h1
        rw [lexC, if_pos h1]
      · rw [if_neg hc]
        show lexC (c :: _) (d :: _) = _
        rw [lexC, if_pos h1]
    · rw [if_neg h1]
      by_cases h2 : d.toNat < c.toNat
      · rw [if_pos h2, if_neg (by decide)]
        have hc : ¬ c = 0 := fun e => by rw [e] at h2; exact absurd h2 (by simp)
        unfold esc
        rw [if_neg hc]
        by_cases hd : d = 0
        · rw [if_pos hd]
          show lexC (c :: _) (0 :: _) = _
          rw [hd] at h1 h2
          rw [lexC, if_neg h1, if_pos h2]
        · rw [if_neg hd]
          show lexC (c :: _) (d :: _) = _
          rw [lexC, if_neg h1, if_pos h2]
      · rw [if_neg h2]
        have e : c = d := UInt8.toNat_inj.1 (by omega)
        subst e
        rw [← ih]
        rw [show esc (c :: s) = if c = 0 then 0 :: 255 :: esc s else c :: esc s from rfl, show esc (c :: t) = if c = 0 then 0 :: 255 :: esc t else c :: esc t from rfl]
        by_cases hc : c = 0
        · rw [if_pos hc, if_pos hc]
          show lexC (0 :: 255 :: (esc s ++ _)) (0 :: 255 :: (esc t ++ _)) = _
          rw [lexC, if_neg (by omega), if_neg (by omega), lexC, if_neg (by omega), if_neg (by omega)]
        · rw [if_neg hc, if_neg hc]
          show lexC (c :: (esc s ++ _)) (c :: (esc t ++ _)) = _
          rw [lexC, if_neg h1, if_neg h2]

theorem lexC_byW {a b : Nat} (ha : a < 18446744073709551616) (hb : b < 18446744073709551616) : lexC (byW 8 a) (byW 8 b) = cmpI a b := by
  have p : (256 : Nat) ^ 8 = 18446744073709551616 := by decide
  rw [lexC_fold _ _ (by rw [byW_len, byW_len]), foldB_byW 8 _ (by omega), foldB_byW 8 _ (by omega)]

theorem cmpI_up {a b : Int} (ha : inI a) (hb : inI b) : cmpI (upI a) (upI b) = cmpI a b := by
  unfold inI at *
  unfold cmpI upI
  rw [Int.toNat_of_nonneg (by omega), Int.toNat_of_nonneg (by omega)]
  by_cases h1 : a < b
  · rw [if_pos (by omega), if_pos h1]
  · rw [if_neg (by omega), if_neg h1]
    by_cases h2 : b < a
    · rw [if_pos (by omega), if_pos h2]
    · rw [if_neg (by omega), if_neg h2]

theorem cmpI_or (c : Int) : (if c = 0 then (0 : Int) else c) = c := by split <;> omega
/-- The bytes of right values are in order as they are. -/
theorem enc_lex {k1 n1 : Int} {s1 : List UInt8} {k2 n2 : Int} {s2 : List UInt8} (i1 : inI n1) (i2 : inI n2) (h1 : vRight k1 n1 s1 = true) (h2 : vRight k2 n2 s2 = true) : lexC (vEnc k1 n1 s1) (vEnc k2 n2 s2) = vOrd k1 n1 s1 k2 n2 s2 := by
  unfold vEnc vOrd
  rw [lexC]
  by_cases hk : k1 = k2
  · subst hk
    rw [if_neg (by omega), if_neg (by omega), if_pos rfl]
    rcases right_kind h1 with rfl | rfl | rfl | rfl | rfl
    · simp only [vRight] at h1 h2
      simp at h1 h2
      subst h1 h2
      show lexC (byW 8 (upI n1)) (byW 8 (upI n2)) = if cmpI n1 n2 = 0 then Lib.compareBytes [] [] else cmpI n1 n2
      rw [lexC_byW (upI_lt i1) (upI_lt i2), cmpI_up i1 i2]
      exact (cmpI_or _).symm
    · simp only [vRight] at h1 h2
      simp at h1 h2
      obtain ⟨rfl, _⟩ := h1
      obtain ⟨rfl, _⟩ := h2
      show lexC (esc s1 ++ [0, 1]) (esc s2 ++ [0, 1]) = if cmpI 0 0 = 0 then Lib.compareBytes s1 s2 else cmpI 0 0
      rw [if_pos (by decide), esc_lex, lexC_self]
      split <;> simp_all
    · simp only [vRight] at h1 h2
      simp at h1 h2
      obtain ⟨⟨rfl, _⟩, _⟩ := h1
      obtain ⟨⟨rfl, _⟩, _⟩ := h2
      show lexC (esc s1 ++ [0, 1]) (esc s2 ++ [0, 1]) = if cmpI 0 0 = 0 then Lib.compareBytes s1 s2 else cmpI 0 0
      rw [if_pos (by decide), esc_lex, lexC_self]
      split <;> simp_all
    · simp only [vRight] at h1 h2
      simp at h1 h2
      obtain ⟨rfl, h1⟩ := h1
      obtain ⟨rfl, h2⟩ := h2
      rcases h1 with rfl | rfl <;> rcases h2 with rfl | rfl <;> decide
    · simp only [vRight] at h1 h2
      simp at h1 h2
      obtain ⟨rfl, h1⟩ := h1
      obtain ⟨rfl, h2⟩ := h2
      show lexC (byW 8 (rankI n1).toNat) (byW 8 (rankI n2).toNat) = if ordI n1 n2 = 0 then Lib.compareBytes [] [] else ordI n1 n2
      rw [lexC_order i1 i2 h1 h2]
      exact (cmpI_or _).symm
  · rw [if_neg hk]
    have hb : ∀ {k n : Int} {s : List UInt8}, vRight k n s = true → 1 ≤ k ∧ k ≤ 5 := fun h => by rcases right_kind h with h | h | h | h | h <;> omega
    have b1 := hb h1
    have b2 := hb h2
    rw [UInt8.toNat_ofNat', UInt8.toNat_ofNat']
    unfold cmpI
    by_cases h : k1 < k2
    · rw [if_pos (by omega), if_pos h]
    · rw [if_neg (by omega), if_pos (by omega), if_neg h, if_pos (by omega)]

theorem enc_small {k n : Int} {s : List UInt8} (h : vRight k n s = true) : (vEnc k n s).length ≤ 100 := by
  have h1 := right_len h
  have h7 := esc_len s
  unfold vEnc vBody
  rcases right_kind h with rfl | rfl | rfl | rfl | rfl <;> simp [byW_len] <;> omega

/-- What the loop over two rows of bytes knows at place i: what it has seen is level, the rest is in the order. -/
def Lev (x y : List UInt8) (o : Int) (i : Nat) : Prop := lexC (x.drop i) (y.drop i) = o
theorem Lev.start {k1 n1 : Int} {s1 : List UInt8} {k2 n2 : Int} {s2 : List UInt8} (i1 : inI n1) (i2 : inI n2) (h1 : vRight k1 n1 s1 = true) (h2 : vRight k2 n2 s2 = true) : Lev (vEnc k1 n1 s1) (vEnc k2 n2 s2) (vOrd k1 n1 s1 k2 n2 s2) 0 := enc_lex i1 i2 h1 h2
theorem Lev.lt {x y : List UInt8} {o : Int} {i : Nat} (h : Lev x y o i) (hx : i < x.length) (hy : i < y.length) (hl : (x.getD i 0).toNat < (y.getD i 0).toNat) : o = -1 := by
  unfold Lev at h; rw [lexC_drop _ _ _ hx hy, if_pos hl] at h; exact h.symm
theorem Lev.gt {x y : List UInt8} {o : Int} {i : Nat} (h : Lev x y o i) (hx : i < x.length) (hy : i < y.length) (hl : (y.getD i 0).toNat < (x.getD i 0).toNat) : o = 1 := by
  unfold Lev at h; rw [lexC_drop _ _ _ hx hy, if_neg (by omega), if_pos hl] at h; exact h.symm
theorem Lev.eq {x y : List UInt8} {o : Int} {i : Nat} (h : Lev x y o i) (hx : i < x.length) (hy : i < y.length) (hl : (x.getD i 0).toNat = (y.getD i 0).toNat) : Lev x y o (i + 1) := by
  unfold Lev at h; rw [lexC_drop _ _ _ hx hy, if_neg (by omega), if_neg (by omega)] at h; exact h
theorem lexC_end {x y : List UInt8} (h : x = [] ∨ y = []) : lexC x y = 0 := by
  rcases h with rfl | rfl
  · rfl
  · cases x <;> rfl
theorem Lev.stop {x y : List UInt8} {o : Int} {i : Nat} (h : Lev x y o i) (he : i = x.length ∨ i = y.length) : o = 0 := by
  unfold Lev at h
  rw [lexC_end (by rcases he with rfl | rfl <;> simp)] at h
  exact h.symm

end Go.Proofs.YtgfkobfkncpmoaaDoor

/- What the library's tables of utf8 hold when a law begins, in one word, and that it lasts while the call only makes memory of its own. -/
namespace Go.Proofs.YtgfkobfkncpmoaaDoor
open Go.RowKit

/-- The library's variables hold what their initialisers lay. -/
structure LaidU (w : World) : Prop where
  utf : Lib.Utf8Tabs 2 3 w

theorem LaidU.below {w W : World} (h : LaidU w) (hW : Below w.heap.size w W) : LaidU W where
  utf := ⟨fun c hc => by have := h.utf.1 c hc; rw [hW.cell (cell_lt this)]; exact this,
    fun i hi => ⟨by have := (h.utf.2 i hi).1; rw [hW.cell (cell_lt this)]; exact this, by have := (h.utf.2 i hi).2; rw [hW.cell (cell_lt this)]; exact this⟩⟩

end Go.Proofs.YtgfkobfkncpmoaaDoor

/- float.From at a slice anywhere in memory. Conditions: the slice holds those bytes. -/
namespace Go.Proofs.YtgfkobfkncpmoaaDoor
open Go.RowKit

set_option maxHeartbeats 1000000 in
set_option maxRecDepth 100000 in
theorem from_off (l : List UInt8) (hl : l.length = 8) (b off c : Nat) (w : World) (hcells : ∀ i, i < 8 → w.cell? ⟨b, off + i, none⟩ = some (.int .u8 ((l.getD i 0).toNat : Int))) :
    Calls Tryd.prog 215 #[.slice (some ⟨b, off, none⟩) 8 c] w fun e w' => e = fromEnd (unrankI (foldB l)) ∧ w = w' := by
  have HL := hid hl
  have HC := hid hcells
  clear hl hcells
  go_enter Tryd.func215, Tryd.ntmps215
  go_wp2
  go_loop [4, 13] (fun vr vi => ∃ (k : Nat) (r : Int), k ≤ 8 ∧ vr = .int .u64 r ∧ vi = .int .i64 k ∧ 0 ≤ r ∧ r = foldB (l.take k)) (fun _ vi => 8 - (intOf vi).toNat)
  case atStart => exact ⟨0, 0, by omega, rfl, rfl, by omega, rfl⟩
  case round =>
    obtain ⟨k, r, hk, rfl, rfl, hr0, hr⟩ := hrel
    by_cases hlt : k < 8
    · have hb : r < 72057594037927936 := by
        have h1 := foldB_lt (l.take k)
        have h2 : (l.take k).length ≤ 7 := by rw [List.length_take]; omega
        have h3 : 256 ^ (l.take k).length ≤ 256 ^ 7 := Nat.pow_le_pow_right (by omega) h2
        rw [hr]
        omega
      have hcell := HC.out k hlt
      have hx := (l.getD k 0).toNat_lt
      obtain ⟨x, hxe⟩ : ∃ x, (l.getD k 0).toNat = x := ⟨_, rfl⟩
      rw [hxe] at hcell hx
      have hor := or_byte hr0 hb x (by omega)
      have HN : Hid (r * 256 + x = ((foldB (l.take (k + 1)) : Nat) : Int)) := hid (by rw [foldB_take l k (by rw [HL.out]; exact hlt), hxe, hr]; omega)
      have hx2 : x ≤ 255 := by omega
      clear hr hxe hx
      go_wp2
      go_round
      case rel => exact ⟨k + 1, r * 256 + x, by omega, rfl, by go_num, by omega, HN.out⟩
      case measure => simp [intOf]; omega
    · obtain rfl : k = 8 := by omega
      have hr8 : r = foldB l := by rw [hr, List.take_of_length_le (by rw [HL.out]; omega)]
      have hb : r < 18446744073709551616 := by
        have h1 := foldB_lt l
        rw [HL.out] at h1
        rw [hr8]
        have : (256 : Nat) ^ 8 = 18446744073709551616 := by decide
        omega
      obtain ⟨n, hn⟩ : ∃ n, unrankI (foldB l) = n := ⟨_, rfl⟩
      have hun : unrankI r = n := by rw [hr8]; exact hn
      have HU : Hid (∀ W, Calls Tryd.prog 232 #[.int .u64 r] W fun e w' => e = .returned (.int .i64 n) ∧ W = w') := fun W => by rw [← hun]; exact unrank_any hr0 hb W
      have hin : inI n := by rw [← hun]; exact unrank_in hr0 hb
      clear hr hr8 hb hr0 hun
      cases hrt : rightB n
      · have HFE : Hid (fromEnd (unrankI (foldB l)) = .returned (.tuple #[.int .i64 0, .bool false])) := by show fromEnd (unrankI (foldB l)) = _; rw [hn]; unfold fromEnd; rw [if_neg (by rw [hrt]; decide)]
        clear hn
        go_wp2_with (first | (go_at_call 232; refine (HU.out _).mono ?_; rintro e w' ⟨rfl, rfl⟩) | (go_at_call 194; refine (right_any (by assumption) _).mono ?_; rintro e w' ⟨rfl, rfl⟩))
        go_ret2
        rw [HFE.out]
        exact ⟨rfl, rfl⟩
      · have HFE : Hid (fromEnd (unrankI (foldB l)) = .returned (.tuple #[.int .i64 n, .bool true])) := by show fromEnd (unrankI (foldB l)) = _; rw [hn]; unfold fromEnd; rw [if_pos hrt]
        clear hn
        go_wp2_with (first | (go_at_call 232; refine (HU.out _).mono ?_; rintro e w' ⟨rfl, rfl⟩) | (go_at_call 194; refine (right_any (by assumption) _).mono ?_; rintro e w' ⟨rfl, rfl⟩))
        go_ret2
        rw [HFE.out]
        exact ⟨rfl, rfl⟩

end Go.Proofs.YtgfkobfkncpmoaaDoor
