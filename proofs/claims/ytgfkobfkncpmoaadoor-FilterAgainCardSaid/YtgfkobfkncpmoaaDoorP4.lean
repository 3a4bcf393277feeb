/- Several texts in one: SB SC SLd SLa. Conditions: as each theorem names them. -/
import Derived.Test.YtgfkobfkncpmoaaDoorP1
import Derived.Laws.BitsAllLaws
import Derived.Laws.Bits64
import Derived.Test.YtgfkobfkncpmoaaDoorShelf
import Derived.WalkKit
import Derived.WalkSpells
import Derived.WalkLawsBesides
import Derived.WalkSmall
import Derived.Deep.RegionHeld3
import Derived.RegionTactic
import Derived.Deep.QuietTactic
import Derived.BigQuiet
import Derived.Deep.DeepCutAuto
/- Plain mathematics: bits of 64-bit ints that are put side by side; the frames of bytes, one behind the other. No program in it. -/
namespace Go.Proofs.YtgfkobfkncpmoaaDoor
open Go.RowKit

theorem i64_or_nat (a b : Nat) (ha : a < 9223372036854775808) (hb : b < 9223372036854775808) : bits .or .i64 (a : Int) (b : Int) = ((a ||| b : Nat) : Int) := by
  have hx : a ||| b < 2 ^ 63 := Nat.or_lt_two_pow (by omega) (by omega)
  show IntKind.i64.wrap ((BitVec.ofInt 64 (a : Int) ||| BitVec.ofInt 64 (b : Int)).toNat : Int) = _
  rw [BitVec.toNat_or, ofInt_u64 a (by omega), ofInt_u64 b (by omega), IntKind.wrap_i64]
  omega
/-- A part above all bits that are there. -/
theorem or_part (n y i : Nat) (hn : n < 2 ^ (7 * i)) (hy : y < 128) (hi : i ≤ 8) : bits .or .i64 (n : Int) (((2 ^ (7 * i) * y : Nat) : Int)) = ((n + 2 ^ (7 * i) * y : Nat) : Int) := by
  have hp : (2 : Nat) ^ (7 * i) ≤ 2 ^ 56 := Nat.pow_le_pow_right (by decide) (by omega)
  have hm : 2 ^ (7 * i) * y ≤ 2 ^ 56 * 127 := Nat.mul_le_mul hp (by omega)
  rw [i64_or_nat _ _ (by omega) (by omega), Nat.or_comm, nat_join (7 * i) _ _ (by rw [Nat.mul_mod_right]) hn, Nat.add_comm]
theorem clear_top (x : Nat) (hx : x < 256) : bits .andNot .u8 (x : Int) 128 = ((x % 128 : Nat) : Int) := by
  have := u8_andNot_nat x 128 hx (by decide)
  rw [show ((128 : Nat) : Int) = 128 from rfl] at this
  rw [this]
  have e : x &&& (255 - 128) = x % 2 ^ 7 := Nat.and_two_pow_sub_one_eq_mod _ 7
  rw [e]
/-- High and low numbers of a sum, side by side. -/
theorem or_sum (hi lo : Nat) (h1 : hi < 65521) (h2 : lo < 65521) : bits .or .i64 (((hi * 65536 : Nat) : Int)) (lo : Int) = ((hi * 65536 + lo : Nat) : Int) := by
  rw [i64_or_nat _ _ (by omega) (by omega), nat_join 16 _ _ (by omega) (by omega)]

/-- The frames of bytes, one behind the other: their bytes, how many bytes they take, what stands behind (0, 1, 2: nothing, torn, bad). -/
def allM : Nat → List UInt8 → List (List UInt8) × Nat × Nat
  | 0, _ => ([], 0, 0)
  | f + 1, l => if l = [] then ([], 0, 0) else
    match nextM l with
    | .whole x r => (x :: (allM f r).1, (l.length - r.length) + (allM f r).2.1, (allM f r).2.2)
    | .torn => ([], 0, 1)
    | .bad => ([], 0, 2)
/-- What a whole frame leaves is less. -/
theorem next_less {l x r : List UInt8} (h : nextM l = .whole x r) : ∃ k, 1 ≤ k ∧ k + x.length + 4 ≤ l.length ∧ x = (l.drop k).take x.length ∧ r = l.drop (k + x.length + 4) ∧ x.length ≤ 65536 ∧ k ≤ 9 := by
  unfold nextM at h
  split at h
  · cases h
  · split at h
    · cases h
    · rename_i n t ht
      obtain ⟨k, h1, h2, h3, h4, h5⟩ := tkGo_rest _ _ _ _ _ ht
      split at h
      · cases h
      · split at h
        · cases h
        · split at h
          · rename_i g1 g2 g3
            rw [h4, List.length_drop] at g2
            have e : x = t.take n := by injection h with a b; exact a.symm
            have e2 : r = t.drop (n + 4) := by injection h with a b; exact b.symm
            have el : x.length = n := by rw [e, List.length_take, h4, List.length_drop]; omega
            refine ⟨k, h1, by omega, by rw [el, e, h4], ?_, by omega, h2⟩
            rw [el, e2, h4, List.drop_drop]
            congr 1
          · cases h
theorem next_len {l x r : List UInt8} (h : nextM l = .whole x r) : r.length < l.length := by
  obtain ⟨k, h1, h2, h3, h4, _⟩ := next_less h
  rw [h4, List.length_drop]; omega
/-- More fuel than bytes tells the same. -/
theorem all_fuel (f : Nat) : ∀ g l, l.length ≤ f → l.length ≤ g → allM (f + 1) l = allM (g + 1) l := by
  induction f with
  | zero => intro g l h1 h2; have : l = [] := List.eq_nil_of_length_eq_zero (by omega)
            subst this; rfl
  | succ f ih =>
    intro g l h1 h2
    by_cases he : l = []
    · subst he; rfl
    · cases g with
      | zero => exact absurd (List.eq_nil_of_length_eq_zero (by omega)) he
      | succ g =>
        rw [allM, allM, if_neg he, if_neg he]
        split
        · rename_i x r hn
          have hl := next_len hn
          rw [ih g r (by omega) (by omega)]
        · rfl
        · rfl
def allF (l : List UInt8) : List (List UInt8) × Nat × Nat := allM (l.length + 1) l
theorem allF_nil : allF [] = ([], 0, 0) := rfl
theorem allF_whole {l x r : List UInt8} (h : nextM l = .whole x r) : allF l = (x :: (allF r).1, (l.length - r.length) + (allF r).2.1, (allF r).2.2) := by
  have hl := next_len h
  have he : l ≠ [] := by intro e; rw [e] at hl; simp at hl
  unfold allF
  rw [allM, if_neg he, h]
  simp only
  have e : allM l.length r = allM (r.length + 1) r := by
    have := all_fuel (l.length - 1) r.length r (by omega) (Nat.le_refl _)
    rwa [show l.length - 1 + 1 = l.length by omega] at this
  rw [e]
theorem allF_torn {l : List UInt8} (h : nextM l = .torn) (hl : l ≠ []) : allF l = ([], 0, 1) := by unfold allF; rw [allM, if_neg hl, h]
theorem allF_bad {l : List UInt8} (h : nextM l = .bad) (hl : l ≠ []) : allF l = ([], 0, 2) := by unfold allF; rw [allM, if_neg hl, h]
theorem next_nil : nextM [] = .torn := by unfold nextM; rw [if_pos (by decide)]

/-- Frames, one behind the other. -/
def framesM : List (List UInt8) → List UInt8
  | [] => []
  | b :: t => frameM b ++ framesM t
theorem frames_app (a b : List (List UInt8)) : framesM (a ++ b) = framesM a ++ framesM b := by
  induction a with
  | nil => rfl
  | cons x t ih => simp only [List.cons_append, framesM, ih, List.append_assoc]
theorem frame_len (b : List UInt8) : (frameM b).length = (numW b.length).length + b.length + 4 := by unfold frameM; simp only [List.length_append, byW_len]
/-- What stands behind frames stands there as at the beginning. -/
theorem allF_frames (list : List (List UInt8)) (hl : ∀ b ∈ list, b.length ≤ 65536) (r : List UInt8) : allF (framesM list ++ r) = (list ++ (allF r).1, (framesM list).length + (allF r).2.1, (allF r).2.2) := by
  induction list with
  | nil => simp [framesM]
  | cons b t ih =>
    have h1 : nextM (framesM (b :: t) ++ r) = .whole b (framesM t ++ r) := by
      rw [framesM, List.append_assoc]
      exact next_frame b _ (hl b (by simp))
    rw [allF_whole h1, ih (fun c hc => hl c (by simp [hc]))]
    simp only [List.cons_append, framesM, List.length_append, Prod.mk.injEq, true_and, and_true]
    omega
theorem numW_take_open (k : Nat) : ∀ n, n ≤ k → ∀ j, j < (numW n).length → ((numW n).take j).all (fun x => decide (128 ≤ x.toNat)) = true := by
  induction k with
  | zero => intro n h j hj; have : n = 0 := by omega
            subst this; rw [numW_small (by decide)] at hj ⊢; have : j = 0 := by simpa using hj
            subst this; rfl
  | succ k ih =>
    intro n h j hj
    by_cases h1 : n < 128
    · rw [numW_small h1] at hj ⊢; have : j = 0 := by simpa using hj
      subst this; rfl
    · have e : (UInt8.ofNat (128 + n % 128)).toNat = 128 + n % 128 := by rw [UInt8.toNat_ofNat']; omega
      rw [numW_big h1] at hj ⊢
      cases j with
      | zero => rfl
      | succ j =>
        rw [List.take_succ_cons, List.all_cons, ih (n / 128) (by omega) j (by simpa using hj), e, Bool.and_true, decide_eq_true_eq]
        omega
/-- What is cut off at a frame's end is torn. -/
theorem next_cut (b : List UInt8) (hb : b.length ≤ 65536) (j : Nat) (hj : j < (frameM b).length) : nextM ((frameM b).take j) = .torn := by
  rw [frame_len] at hj
  have hn3 : (numW b.length).length ≤ 3 := numW_len 2 _ (by omega)
  by_cases h : j < (numW b.length).length
  · have e : (frameM b).take j = (numW b.length).take j := by
      unfold frameM
      rw [List.append_assoc, List.take_append_of_le_length (by omega)]
    rw [e]
    unfold nextM
    rw [if_pos]
    unfold openB
    rw [numW_take_open _ _ (Nat.le_refl _) j h, Bool.and_true, decide_eq_true_eq, List.length_take]
    omega
  · have e : (frameM b).take j = numW b.length ++ (b ++ byW 4 (sumN b)).take (j - (numW b.length).length) := by
      unfold frameM
      rw [List.append_assoc, List.take_append, List.take_of_length_le (by omega)]
    rw [e, next_num _ hb, if_pos]
    rw [List.length_take, List.length_append, byW_len]
    omega
/-- Frames that are cut: those that are whole, and what is left is nothing or torn. -/
theorem allF_cut (a : List (List UInt8)) (ha : ∀ b ∈ a, b.length ≤ 65536) (b : List UInt8) (hb : b.length ≤ 65536) (j : Nat) (hj : j < (frameM b).length) :
    allF (framesM a ++ (frameM b).take j) = (a, (framesM a).length, if j = 0 then 0 else 1) := by
  rw [allF_frames a ha]
  by_cases h : j = 0
  · subst h
    rw [List.take_zero, allF_nil]
    simp
  · rw [allF_torn (next_cut b hb j hj)]
    · simp [h]
    · intro e
      have := congrArg List.length e
      rw [List.length_take, List.length_nil] at this
      omega
end Go.Proofs.YtgfkobfkncpmoaaDoor

/- The writer of package codec: a number's bytes behind what a buffer holds; codec.Num at every number. Conditions: buffers of at most a million bytes. -/
namespace Go.Proofs.YtgfkobfkncpmoaaDoor
open Go.RowKit

/-- A writer in block b (one of the call's own) that holds the bytes l. -/
abbrev Wr (w : World) (B b : Nat) (l : List UInt8) : Prop := LibA.IsBuffer 167 (fun _ => none) 5 B b 0 (bc l) w

theorem wbyte (B b : Nat) (l : List UInt8) (hl : l.length ≤ 1000000) (c : UInt8) (x : Int) (hx : x = (c.toNat : Int)) (w : World) (h : Wr w B b l) (hB : B ≤ w.heap.size) :
    Calls Tryd.prog 188 #[.pointer (some ⟨b, 0, none⟩), .int .u8 x] w fun e w' => e = .returned .nilIface ∧ Wr w' B b (l ++ [c]) ∧ Below B w w' := by
  subst hx
  refine (Tryd.Buffer_WriteByte_at 167 (fun _ => none) B b 0 (bc l) (c.toNat : Int) w h hB (bc_one l) (by rw [bc_len]; omega)).mono ?_
  rintro e w' ⟨rfl, h1, h2, -⟩
  refine ⟨rfl, ?_, h2⟩
  unfold Wr
  rw [bc_app]
  exact h1

theorem or_more (m : Nat) : bits .or .u8 ((m : Int) % 256) 128 = (((UInt8.ofNat (128 + m % 128)).toNat : Nat) : Int) := by
  have e0 : ((m : Int) % 256) = ((m % 256 : Nat) : Int) := by omega
  rw [e0, show (128 : Int) = ((128 : Nat) : Int) from rfl, u8_or_nat _ _ (by omega) (by decide), UInt8.toNat_ofNat']
  have e1 : m % 256 ||| 128 = 128 + m % 128 := by
    have h2 : m % 256 = m % 256 / 128 * 128 + m % 128 := by omega
    have h3 : m % 256 / 128 = 0 ∨ m % 256 / 128 = 1 := by omega
    rcases h3 with h3 | h3
    · rw [h2, h3, Nat.zero_mul, Nat.zero_add, Nat.or_comm]
      exact nat_join7 128 (m % 128) (by decide) (by omega)
    · have e : 1 * 128 + m % 128 = 128 ||| m % 128 := by rw [nat_join7 128 (m % 128) (by decide) (by omega)]
      rw [h2, h3, e, Nat.or_comm, ← Nat.or_assoc, Nat.or_self]
  rw [e1]
  omega
theorem numW_len9 (n : Nat) (hn : n < 9223372036854775808) : (numW n).length ≤ 9 := numW_len 8 n hn

set_option maxHeartbeats 1000000 in
theorem wnumber_any (B b n : Nat) (hn : n < 9223372036854775808) (l : List UInt8) (hl : l.length ≤ 1000) (w : World) (h : Wr w B b l) (hB : B ≤ w.heap.size) :
    Calls Tryd.prog 148 #[.pointer (some ⟨b, 0, none⟩), .int .i64 n] w fun e w' => e = .returned (.tuple #[]) ∧ Wr w' B b (l ++ numW n) ∧ Below B w w' := by
  have hlen := hid (numW_len9 n hn)
  obtain ⟨y, hy⟩ : ∃ y : Int, (n : Int) = y := ⟨_, rfl⟩
  have HY := hid (And.intro hy.symm hn)
  rw [hy]
  have H0 : 0 ≤ y := by omega
  clear hy hn
  go_enter Tryd.func148, Tryd.ntmps148
  go_wp2
  go_loopw [1] (fun vn wr => ∃ (m : Nat) (x : Int) (pre : List UInt8), Hid (x = (m : Int) ∧ m < 9223372036854775808) ∧ 0 ≤ x ∧ vn = .int .i64 x ∧ numW n = pre ++ numW m ∧ Wr wr B b (l ++ pre) ∧ Below B w wr) (fun vn _ => (intOf vn).toNat)
  case atStart => exact ⟨n, y, [], HY, H0, rfl, rfl, by simpa using h, Below.refl _ _⟩
  case round =>
    obtain ⟨m, x, pre, HX, h0, rfl, hp, hW, hbel⟩ := hrel
    have HC : Hid (∀ (z : Int) (c : UInt8), z = (c.toNat : Int) → Calls Tryd.prog 188 #[.pointer (some ⟨b, 0, none⟩), .int .u8 z] wr fun e w' => e = .returned .nilIface ∧ Wr w' B b (l ++ pre ++ [c]) ∧ Below B wr w') := by
      intro z c hz
      have hpl : pre.length ≤ 9 := by have := congrArg List.length hp; have h9 := hlen.out; rw [List.length_append] at this; omega
      exact wbyte B b (l ++ pre) (by rw [List.length_append]; omega) c z hz wr hW (Nat.le_trans hB hbel.size)
    by_cases h128 : x < 128
    · have HE : Hid (x = ((UInt8.ofNat m).toNat : Int)) := by unfold Hid; have := HX.out; rw [UInt8.toNat_ofNat']; omega
      have HN : Hid (numW m = [UInt8.ofNat m]) := numW_small (by have := HX.out; omega)
      have HP := hid hp
      clear hW hlen hp
      go_wp2_with (go_at_call 188; refine (HC.out _ _ HE.out).mono ?_; rintro e w1 ⟨rfl, h1, h2⟩)
      go_end0
      refine ⟨rfl, ?_, hbel.trans h2⟩
      rw [HP.out, HN.out, ← List.append_assoc]
      exact h1
    · have HO : Hid (bits .or .u8 (x % 256) 128 = (((UInt8.ofNat (128 + m % 128)).toNat : Nat) : Int)) := by have := or_more m; rwa [← HX.out.1] at this
      have HN : Hid (numW m = UInt8.ofNat (128 + m % 128) :: numW (m / 128)) := numW_big (by have := HX.out; omega)
      have HP := hid hp
      clear hW hlen hp
      go_wp2_with (go_at_call 188; refine (HC.out _ _ HO.out).mono ?_; rintro e w1 ⟨rfl, h1, h2⟩)
      go_roundw
      case rel =>
        refine ⟨m / 128, x / 128, pre ++ [UInt8.ofNat (128 + m % 128)], ?_, ?_, rfl, ?_, ?_, hbel.trans h2⟩
        · unfold Hid; have := HX.out; omega
        · omega
        · rw [HP.out, HN.out, List.append_assoc]; rfl
        · rw [← List.append_assoc]; exact h1
      case measure => simp [intOf]; omega

set_option maxHeartbeats 1000000 in
theorem wnumber_neg (b : Nat) (n : Int) (hn : n < 0) (w : World) :
    Calls Tryd.prog 148 #[.pointer (some ⟨b, 0, none⟩), .int .i64 n] w fun e w' => e = .returned (.tuple #[]) ∧ w = w' := by
  go_enter Tryd.func148, Tryd.ntmps148
  go_wp2
  refine bodyPost_ret (results_none rfl _ _ _) rfl ?_
  exact ⟨rfl, rfl⟩

/-- What a writer holds, as a slice. -/
theorem wbytes_any (B b : Nat) (l : List UInt8) (w : World) (h : Wr w B b l) :
    Calls Tryd.prog 143 #[.pointer (some ⟨b, 0, none⟩)] w fun e w' => ∃ v, e = .returned v ∧ Row w' B v l ∧ Below w.heap.size w w' := by
  obtain ⟨hB, lr, hc⟩ := h.cases
  rcases hc with ⟨hnil, hbk⟩ | ⟨g, cap, cur, hbk, hBg, hg, hnc, hcm, hcs, htk, hgb⟩
  · have hl : l = [] := by
      unfold bc at hnil; exact List.map_eq_nil_iff.1 hnil
    subst hl
    have c0 : w.cell? ⟨b, 0, none⟩ = some (.slice none 0 0) := hbk.c0
    have c1 : w.cell? ⟨b, 1, none⟩ = some (.int .i64 0) := hbk.c1
    have f0 : w.frozen? ⟨b, 0, none⟩ = false := hbk.f 0
    have f1 : w.frozen? ⟨b, 1, none⟩ = false := hbk.f 1
    clear hbk
    go_enter Tryd.func143, Tryd.ntmps143
    go_wp2
    go_region
    go_wp2
    go_ret
    exact ⟨_, rfl, Row.none _ _, by repeat' (first | exact Below.refl _ _ | apply Go.below_drewN)⟩
  · have c0 : w.cell? ⟨b, 0, none⟩ = some (.slice (some ⟨g, 0, none⟩) (bc l).length cap) := hbk.c0
    have c1 : w.cell? ⟨b, 1, none⟩ = some (.int .i64 0) := hbk.c1
    have hR : Row w B (.slice (some ⟨g, 0, none⟩) l.length cap) l := by
      have hl := bc_len l
      rw [hl] at hnc htk
      exact ⟨by rw [hl]; omega, .inr ⟨g, cap, cur, rfl, hBg, hg, hnc, hcm, by omega, by rw [Nat.mul_one]; exact htk⟩⟩
    rw [bc_len] at c0 hnc
    unfold maxLen at hcm
    clear hbk htk hg hcs
    go_enter Tryd.func143, Tryd.ntmps143
    go_wp2
    go_region
    go_wp2
    go_ret
    exact ⟨_, rfl, hR, (Below.refl _ _).drew⟩

/-- A new writer. -/
theorem wr_new (w : World) (B : Nat) (hB : B ≤ w.heap.size) : Wr (w.alloc (.cells #[.slice none 0 0, .int .i64 0, .int .i8 0] 167)) B w.heap.size [] :=
  LibA.zero_isBuffer hB (LibA.three_whole (heap_alloc_new w _))

set_option maxHeartbeats 1000000 in
theorem num_any (n : Nat) (hn : n < 9223372036854775808) (w : World) :
    Calls Tryd.prog 79 #[.int .i64 n] w fun e w' => ∃ v, e = .returned v ∧ Row w' w.heap.size v (numW n) ∧ Below w.heap.size w w' := by
  have HN : Hid (∀ W : World, Wr W w.heap.size w.heap.size [] → w.heap.size ≤ W.heap.size → Calls Tryd.prog 148 #[.pointer (some ⟨w.heap.size, 0, none⟩), .int .i64 n] W fun e w' => e = .returned (.tuple #[]) ∧ Wr w' w.heap.size w.heap.size ([] ++ numW n) ∧ Below w.heap.size W w') :=
    fun W h hB => wnumber_any w.heap.size w.heap.size n hn [] (by decide) W h hB
  have HW := hid (wr_new w w.heap.size (Nat.le_refl _))
  obtain ⟨y, hy⟩ : ∃ y : Int, (n : Int) = y := ⟨_, rfl⟩
  rw [hy] at HN
  rw [hy]
  clear hy hn
  go_enter Tryd.func79, Tryd.ntmps79
  go_wp2_with (first | (go_at_call 148; refine (HN.out _ HW.out (by simp)).mono ?_; rintro e w1 ⟨rfl, h1, h2⟩) | (go_at_call 143; refine (wbytes_any _ _ _ _ h1).mono ?_; rintro e w2 ⟨v, rfl, h3, h4⟩))
  go_ret
  exact ⟨_, rfl, h3, (((Below.refl _ _).alloc (Nat.le_refl _) _).trans h2).trans (h4.mono (by have := h2.size; simp at this; omega))⟩
end Go.Proofs.YtgfkobfkncpmoaaDoor

/- A slice that holds bytes, as a value. Conditions: none. -/
namespace Go.Proofs.YtgfkobfkncpmoaaDoor
open Go.RowKit

theorem HoldsA.below {w w' : World} {A : Option Addr} {l : List UInt8} (h : HoldsA w A l) (hb : Below w.heap.size w w') : HoldsA w' A l := fun h0 => by
  obtain ⟨b, off, e, hh⟩ := h h0
  exact ⟨b, off, e, hh.below hb (hh.lt h0)⟩
/-- The value is a slice that holds l (nil, or whatever address, where there is nothing). -/
def SlA (w : World) (v : Value) (l : List UInt8) : Prop := ∃ A c, v = .slice A l.length c ∧ l.length ≤ c ∧ c ≤ 9223372036854775807 ∧ (HoldsA w A l ∧ (A = none → c = 0))
theorem SlA.below {w w' : World} {v : Value} {l : List UInt8} (h : SlA w v l) (hb : Below w.heap.size w w') : SlA w' v l := by
  obtain ⟨A, c, h1, h2, h3, h4⟩ := h
  exact ⟨A, c, h1, h2, h3, h4.1.below hb, h4.2⟩
theorem Row.sla {w : World} {B : Nat} {v : Value} {l : List UInt8} (h : Row w B v l) : SlA w v l := by
  by_cases h0 : 0 < l.length
  · obtain ⟨h1, h2⟩ := id h
    obtain ⟨g, cap, e, _, _, h6, h7⟩ := h.form h0
    refine ⟨_, cap, e, h6, ?_, fun _ => ⟨g, 0, rfl, fun i hi => by rw [Nat.zero_add]; exact h7 i hi⟩, fun h => by cases h⟩
    rcases h2 with ⟨_, hz⟩ | ⟨g', cap', cur, e', _, _, _, hm, _⟩
    · omega
    · rw [e] at e'; injection e' with _ _ e3; rw [e3]; unfold maxLen at hm; omega
  · have hl : l = [] := List.eq_nil_of_length_eq_zero (by omega)
    subst hl
    obtain ⟨h1, h2⟩ := h
    rcases h2 with ⟨e, _⟩ | ⟨g', cap', cur, e', _, _, _, hm, _⟩
    · exact ⟨_, 0, e, by simp, by omega, fun h => absurd h (by simp), fun _ => rfl⟩
    · exact ⟨_, cap', e', by simp, by unfold maxLen at hm; omega, fun h => absurd h (by simp), fun h => by cases h⟩
theorem wp_ltc {P : Program} {c : Code} {Q : Exit → Act → World → Prop} {a : Act} {w : World} (F : World → Prop) (h0 : F w) (h : ∀ W, F W → c.wp P Q a W) : c.wp P Q a w := h w h0
end Go.Proofs.YtgfkobfkncpmoaaDoor

/- What stands in SLd, behind SC. Conditions: none. -/
