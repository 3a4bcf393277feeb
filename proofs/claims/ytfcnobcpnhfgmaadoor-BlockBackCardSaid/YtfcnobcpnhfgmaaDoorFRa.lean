/- Rows of bytes in order, and what Bytes, Show and Read of package float give in a later world. Conditions: the table of math/bits reads as it is laid. -/
import Derived.Test.YtfcnobcpnhfgmaaDoorFQ
namespace Go.Proofs.YtfcnobcpnhfgmaaDoor
open Go.RowKit

/-- Where two rows of bytes part: below, level or above. -/
def lexC : List UInt8 → List UInt8 → Int
  | a :: u, b :: v => if a.toNat < b.toNat then -1 else if b.toNat < a.toNat then 1 else lexC u v
  | _, _ => 0

theorem foldB_cons (l : List UInt8) (x : UInt8) : foldB (x :: l) = x.toNat * 256 ^ l.length + foldB l := by
  induction h : l.length generalizing l with
  | zero => have : l = [] := List.length_eq_zero_iff.1 h
            subst this; simp [foldB]
  | succ n ih =>
    obtain ⟨l', y, rfl⟩ : ∃ l' y, l = l' ++ [y] := ⟨l.dropLast, l.getLast (by intro e; rw [e] at h; simp at h), (List.dropLast_concat_getLast _).symm⟩
    have hl : l'.length = n := by simpa using h
    rw [← List.cons_append, foldB_snoc, foldB_snoc, ih l' hl, Nat.pow_succ, Nat.add_mul, Nat.mul_assoc]
    omega

theorem lexC_fold (l m : List UInt8) (h : l.length = m.length) : lexC l m = cmpI (foldB l) (foldB m) := by
  induction l generalizing m with
  | nil => cases m with
    | nil => rfl
    | cons => simp at h
  | cons a u ih => cases m with
    | nil => simp at h
    | cons b bs =>
      have h' : u.length = bs.length := by simpa using h
      have h1 := foldB_lt u
      have h2 := foldB_lt bs
      rw [foldB_cons, foldB_cons, lexC, ih bs h', h']
      rw [h'] at h1
      generalize 256 ^ bs.length = P at *
      have ml : ∀ x y : Nat, x < y → x * P + P ≤ y * P := fun x y hxy => by
        have := Nat.mul_le_mul_right P (show x + 1 ≤ y from hxy)
        rw [Nat.add_mul, Nat.one_mul] at this
        exact this
      by_cases c1 : a.toNat < b.toNat
      · rw [if_pos c1]
        have := ml _ _ c1
        exact (cmpI_lt.2 (by omega)).symm
      · rw [if_neg c1]
        by_cases c2 : b.toNat < a.toNat
        · rw [if_pos c2]
          have := ml _ _ c2
          exact (cmpI_gt.2 (by omega)).symm
        · rw [if_neg c2]
          have e : a.toNat = b.toNat := by omega
          rw [e]
          unfold cmpI
          repeat' split <;> omega

theorem lexC_drop (l m : List UInt8) (k : Nat) (h : k < l.length) (h' : k < m.length) :
    lexC (l.drop k) (m.drop k) = if (l.getD k 0).toNat < (m.getD k 0).toNat then -1 else if (m.getD k 0).toNat < (l.getD k 0).toNat then 1 else lexC (l.drop (k + 1)) (m.drop (k + 1)) := by
  rw [List.drop_eq_getElem_cons h, List.drop_eq_getElem_cons h', lexC]
  simp only [List.getD_eq_getElem?_getD, List.getElem?_eq_getElem h, List.getElem?_eq_getElem h', Option.getD_some]

theorem right_canon {n : Int} (h : rightB n = true) : canonI n = n := by
  unfold rightB at h
  unfold canonI
  cases hb : nanB n
  · rw [if_neg (by decide)]
  · rw [hb] at h
    simp at h
    rw [if_pos rfl, h]

/-- The bytes of right numbers are in order as they are. -/
theorem lexC_order {a b : Int} (ha : inI a) (hb : inI b) (ra : rightB a = true) (rb : rightB b = true) : lexC (byW 8 (rankI a).toNat) (byW 8 (rankI b).toNat) = ordI a b := by
  obtain ⟨a0, a1⟩ := rank_in ha
  obtain ⟨b0, b1⟩ := rank_in hb
  have p : (256 : Nat) ^ 8 = 18446744073709551616 := by decide
  rw [lexC_fold _ _ (by rw [byW_len, byW_len]), foldB_byW 8 _ (by omega), foldB_byW 8 _ (by omega)]
  unfold ordI
  rw [right_canon ra, right_canon rb, Int.toNat_of_nonneg a0, Int.toNat_of_nonneg b0]

theorem from_bytes {n : Int} (h : inI n) (r : rightB n = true) : fromEnd (unrankI (foldB (byW 8 (rankI n).toNat))) = .returned (.tuple #[.int .i64 n, .bool true]) := by
  obtain ⟨a0, a1⟩ := rank_in h
  have p : (256 : Nat) ^ 8 = 18446744073709551616 := by decide
  rw [foldB_byW 8 _ (by omega), Int.toNat_of_nonneg a0, unrank_rank h]
  unfold fromEnd
  rw [if_pos r]

/-- A block that holds bytes: its cells. -/
theorem Blk.bytes {w : World} {b : Nat} {l : List UInt8} (h : Blk w b 5 (bc l).toArray) (i : Nat) (hi : i < l.length) : w.cell? ⟨b, i, none⟩ = some (.int .u8 ((l.getD i 0).toNat : Int)) := by
  rw [h.cell]
  simp [bc, List.getElem?_eq_getElem hi]

theorem bytes_carried {n : Int} (h : inI n) (r : rightB n = true) (w W : World) (hW : Below w.heap.size w W) :
    Calls Tryd.prog 96 #[.int .i64 n] W fun e w' => e = .returned (.slice (some ⟨W.heap.size, 0, none⟩) 8 8) ∧ Blk w' W.heap.size 5 (bc (byW 8 (rankI n).toNat)).toArray ∧ Below w.heap.size w w' ∧ Below W.heap.size W w' :=
  (bytes_yes h r W).mono fun _ _ ⟨he, hB, hb⟩ => ⟨he, hB, hW.trans (hb.mono hW.size), hb⟩
theorem canon_nan {n : Int} (h : nanB n = true) : canonI n = 9221120237041090560 := by unfold canonI; rw [if_pos h]
theorem canon_num {n : Int} (h : nanB n = false) : canonI n = n := by unfold canonI; rw [if_neg (by rw [h]; decide)]
theorem right_num {n : Int} (h : nanB n = false) : rightB n = true := by unfold rightB; rw [h]; simp
theorem right_other {n : Int} (h : nanB n = true) (hn : ¬ n = 9221120237041090560) : rightB n = false := by unfold rightB; rw [h]; simpa using hn
theorem in_nan : inI 9221120237041090560 := by unfold inI; omega
theorem right_nan : rightB 9221120237041090560 = true := by decide

theorem nan_of_right {n : Int} (h : rightB n = true) (hn : ¬ n = 9221120237041090560) : nanB n = false := by
  unfold rightB at h
  cases hb : nanB n
  · rfl
  · rw [hb] at h
    simp at h
    exact absurd h hn

end Go.Proofs.YtfcnobcpnhfgmaaDoor
