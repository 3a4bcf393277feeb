/- Encode, Decode, Read, Same of layer 11 without cases; boxes. Conditions: none. -/
import Derived.Test.YtofkfafdodhmdaaGreatDoorNO
import Derived.Test.YtofkfafdodhmdaaGreatDoorNH
import Derived.Test.YtofkfafdodhmdaaGreatDoorNG
namespace Go.Proofs.YtofkfafdodhmdaaGreatDoor
open Go.RowKit

/-- Encode, Decode, Read without cases. -/
def encU (s : Sta) : List UInt8 := if s.right = true then s.enc else []
def decU (l : List UInt8) : Sta := (decS l).getD staZ
def readU (l : List UInt8) : Sta × Nat × Int := match readS l with
  | some (s, n) => (s, n, 0)
  | none => (staZ, 0, 20)
theorem ec_u {w w' : World} {s : Sta} {e : Ending} (h : EcEnd w s e w') : ∃ A m c, e = .returned (.tuple #[.slice A m c, .bool s.right]) ∧ Hid (SlA w' (.slice A m c) (encU s)) ∧ Below w.heap.size w w' := by
  obtain ⟨h1, h2⟩ := h
  unfold encU
  cases hr : s.right with
  | true =>
    rw [if_pos hr] at h1
    obtain ⟨v, rfl, hR⟩ := h1
    have hS := hR.sla
    obtain ⟨A, c, rfl, _⟩ := id hS
    exact ⟨A, _, c, rfl, by rw [if_pos rfl]; exact hS, h2⟩
  | false =>
    rw [if_neg (by rw [hr]; decide)] at h1
    exact ⟨Option.none, 0, 0, h1, by rw [if_neg (by decide)]; exact ⟨Option.none, 0, rfl, by simp, by omega, fun h => absurd h (by simp), fun _ => rfl⟩, h2⟩
theorem dc_u {w w' : World} {l : List UInt8} {e : Ending} (h : DcEnd w (decS l) e w') : ∃ A m c, e = .returned (.tuple #[staV (decU l).g (decU l).a (decU l).n (.slice A m c), .bool (decS l).isSome]) ∧ Hid (SlI w' (.slice A m c) (decU l).t) ∧ Below w.heap.size w w' := by
  unfold decU
  cases hd : decS l with
  | some s =>
    rw [hd] at h
    obtain ⟨v, rfl, h1, _, h2⟩ := h
    obtain ⟨A, c, rfl, _⟩ := id h1
    exact ⟨A, _, c, rfl, h1, h2⟩
  | none =>
    rw [hd] at h
    exact ⟨Option.none, 0, 0, h.1, slI_nil _, h.2⟩
theorem rds_u {w w' : World} {l : List UInt8} {e : Ending} (h : RdsEnd w l e w') : ∃ A m c, e = .returned (.tuple #[staV (readU l).1.g (readU l).1.a (readU l).1.n (.slice A m c), .int .i64 ((readU l).2.1 : Int), .int .i64 (readU l).2.2]) ∧ Hid (SlI w' (.slice A m c) (readU l).1.t) ∧ Below w.heap.size w w' := by
  obtain ⟨h1, h2⟩ := h
  unfold readU
  cases hr : readS l with
  | some q =>
    obtain ⟨s, n⟩ := q
    rw [hr] at h1
    obtain ⟨v, rfl, h3, _⟩ := h1
    obtain ⟨A, c, rfl, _⟩ := id h3
    exact ⟨A, _, c, rfl, h3, h2⟩
  | none =>
    rw [hr] at h1
    exact ⟨Option.none, 0, 0, h1, slI_nil _, h2⟩
theorem decU_len (l : List UInt8) : (decU l).t.length ≤ 1000000 := by
  unfold decU
  cases hd : decS l with
  | some s => have := ((Sta.right_iff _).1 (dec_right hd)).tl; show s.t.length ≤ _; omega
  | none => show ([] : List Int).length ≤ _; simp
theorem readU_len (l : List UInt8) : (readU l).1.t.length ≤ 1000000 := by
  unfold readU
  cases hr : readS l with
  | some q =>
    obtain ⟨s, n⟩ := q
    have h := readS_gen hr
    show s.t.length ≤ _
    by_cases h0 : 0 < n
    · have := ((Sta.right_iff _).1 (h.1 h0)).tl; omega
    · rw [h.2 (by omega)]; show ([] : List Int).length ≤ _; simp
  | none => show ([] : List Int).length ≤ _; simp
theorem same_ok (s : Sta) : sameB s s = true := sameB_iff.2 rfl
theorem Blk.st4 {W : World} {b : Nat} {T : TypeId} {g a n : Int} {v : Value} (h : Blk W b T #[.int .i64 g, .int .i64 a, .int .i64 n, v]) : St4 W b g a n v := ⟨h.cell 0, h.cell 1, h.cell 2, h.cell 3⟩
theorem bx_keep {w w1 : World} {T : TypeId} {xs : Array Value} (hb : Below (w.alloc (.cells xs T)).heap.size (w.alloc (.cells xs T)) w1) : Blk w1 w.heap.size T xs ∧ Below w.heap.size w w1 :=
  ⟨(Blk.new w _ _).keep hb (by simp), (below_new w _).trans (hb.mono (by simp))⟩
theorem bx_go {w w1 w2 : World} {T : TypeId} {xs : Array Value} {s : Nat} (h : Blk w1 s T xs ∧ Below w.heap.size w w1) (hb : Below w1.heap.size w1 w2) : Blk w2 s T xs ∧ Below w.heap.size w w2 :=
  ⟨h.1.keep hb h.1.lt, h.2.trans (hb.mono h.2.size)⟩
end Go.Proofs.YtofkfafdodhmdaaGreatDoor
