/- val.Decode for every row of at most a thousand bytes. Conditions: the slice holds those bytes; the listed variables of the library read as they are laid. -/
import Derived.Test.YtfcnobcpnhfgmaaDoorVJ
import Derived.Test.YtfcnobcpnhfgmaaDoorFP
namespace Go.Proofs.YtfcnobcpnhfgmaaDoor
open Go.RowKit

theorem decEnd_some (k n : Int) (s : List UInt8) : decEnd k (some (n, s)) = .returned (.tuple #[.agg #[.int .i64 k, .int .i64 n, .string ⟨s.toArray⟩], .bool true]) := rfl

/-- val.decode, for every kind and every row. -/
theorem decode_any (k : Int) (l : List UInt8) (hl : l.length ≤ 100000) (A : Option Addr) (c : Nat) (w : World) (hh : HoldsA w A l) :
    Calls Tryd.prog 142 #[.int .i64 k, .slice A l.length c] w fun e w' => e = decEnd k (decV k l) ∧ Below w.heap.size w w' := by
  unfold decV
  by_cases h1 : k = 1
  · subst h1
    rw [if_pos rfl]
    by_cases h8 : l.length = 8
    · rw [if_pos h8]
      obtain ⟨b, off, rfl, hb⟩ := hh (by omega)
      have hlt := hb.lt (by omega)
      exact decode_1 _ _ c _ true w (hid fun W hW => by rw [h8]; exact takeInt_yes l h8 b off c W (hb.below hW hlt))
    · rw [if_neg h8]
      exact decode_1 _ _ c 0 false w (hid fun W hW => takeInt_no _ c h8 W)
  rw [if_neg h1]
  by_cases h5 : k = 5
  · subst h5
    rw [if_pos rfl]
    by_cases h8 : l.length = 8
    · rw [if_pos h8]
      obtain ⟨b, off, rfl, hb⟩ := hh (by omega)
      have hlt := hb.lt (by omega)
      have hF : ∀ W, Below w.heap.size w W → Calls Tryd.prog 159 #[.slice (some ⟨b, off, none⟩) l.length c] W fun e w' => e = fromEnd (unrankI (foldB l)) ∧ W = w' := fun W hW => by
        rw [h8]
        exact from_off l h8 b off c W (fun i hi => hb.below hW hlt i (by omega))
      unfold fromEnd at hF
      by_cases hr : rightB (unrankI (foldB l)) = true
      · rw [if_pos hr] at hF ⊢
        exact decode_5 _ _ c _ true w (hid hF)
      · rw [if_neg hr] at hF ⊢
        exact decode_5 _ _ c 0 false w (hid hF)
    · rw [if_neg h8]
      exact decode_5 _ _ c 0 false w (hid fun W hW => from_no _ c h8 W)
  rw [if_neg h5]
  by_cases h4 : k = 4
  · subst h4
    rw [if_pos rfl]
    by_cases h8 : l.length = 1
    · rw [if_pos h8]
      obtain ⟨b, off, rfl, hb⟩ := hh (by omega)
      have h0 := hb 0 (by omega)
      rw [h8]
      exact decode_4_yes b off c (l.getD 0 0).toNat (UInt8.toNat_lt _) w h0
    · rw [if_neg h8]
      exact decode_4_no _ _ c h8 w
  rw [if_neg h4]
  by_cases h23 : k = 2 ∨ k = 3
  · rw [if_pos h23]
    have hT : ∀ W, Below w.heap.size w W → Calls Tryd.prog 160 #[.slice A l.length c] W fun e w' => e = takeEnd (unText l) ∧ Below W.heap.size W w' := fun W hW => by
      by_cases h0 : 0 < l.length
      · obtain ⟨b, off, rfl, hb⟩ := hh h0
        exact takeText_any l b off c hl W (hb.below hW (hb.lt h0))
      · have e : unText l = none := by unfold unText; rw [if_pos (by omega)]
        rw [e]
        exact (takeText_short _ c (by omega) W).mono fun _ _ ⟨he, hw⟩ => ⟨he, by subst hw; exact Below.refl _ _⟩
    cases hu : unText l with
    | none =>
      rw [hu] at hT
      rcases h23 with rfl | rfl
      · exact decode_2 _ _ c ⟨#[]⟩ false w (hid hT)
      · exact decode_3 _ _ c ⟨#[]⟩ false w (hid hT)
    | some s =>
      rw [hu] at hT
      rcases h23 with rfl | rfl
      · exact decode_2 _ _ c ⟨s.toArray⟩ true w (hid hT)
      · exact decode_3 _ _ c ⟨s.toArray⟩ true w (hid hT)
  · rw [if_neg h23]
    exact decode_0 k _ _ c (by simpa using h1) (by simp; omega) (by simp; omega) (by simpa using h4) (by simpa using h5) w

set_option maxHeartbeats 1000000 in
theorem vdecode_nil (A : Option Addr) (c : Nat) (w : World) :
    Calls Tryd.prog 118 #[.slice A 0 c] w fun e w' => e = .returned (.tuple #[.agg #[.int .i64 0, .int .i64 0, .string ⟨#[]⟩], .bool false]) ∧ Below w.heap.size w w' := by
  go_enter Tryd.func118, Tryd.ntmps118
  go_wp2
  exact bodyPost_ret (v := .tuple #[.agg #[.int .i64 0, .int .i64 0, .string ⟨#[]⟩], .bool false]) (by simp [results, Tryd.results118, go_sem]) rfl ⟨rfl, below_new _ _⟩

/-- What decode and Right answer for a row. -/
def DecHyp (w : World) (x : Nat) (A1 : Option Addr) (m c1 : Nat) (k n : Int) (S : ByteArray) (ok R : Bool) : Prop :=
  (∀ W, Below w.heap.size w W → Calls Tryd.prog 142 #[.int .i64 (x : Int), .slice A1 m c1] W fun e w' => e = .returned (.tuple #[.agg #[.int .i64 k, .int .i64 n, .string S], .bool ok]) ∧ Below w.heap.size w w' ∧ Below W.heap.size W w') ∧
  (∀ W, Below w.heap.size w W → Calls Tryd.prog 94 #[.agg #[.int .i64 k, .int .i64 n, .string S]] W fun e w' => e = .returned (.bool R) ∧ Below w.heap.size w w' ∧ Below W.heap.size W w')


theorem unesc_len (l s : List UInt8) (h : unesc l = some s) : s.length ≤ l.length := by
  have e := esc_unesc l.length l s (Nat.le_refl _) h
  have : s.length ≤ (esc s).length := by
    clear e h
    induction s with
    | nil => simp
    | cons c r ih => simp only [esc]; split <;> simp <;> omega
  rw [e] at this
  exact this
/-- What val.Decode answers for a row. -/
def vdecEnd : List UInt8 → Ending
  | [] => .returned (.tuple #[.agg #[.int .i64 0, .int .i64 0, .string ⟨#[]⟩], .bool false])
  | x :: r => match decV (x.toNat : Int) r with
    | none => .returned (.tuple #[.agg #[.int .i64 0, .int .i64 0, .string ⟨#[]⟩], .bool false])
    | some (n, s) => if vRight (x.toNat : Int) n s = true then .returned (.tuple #[.agg #[.int .i64 (x.toNat : Int), .int .i64 n, .string ⟨s.toArray⟩], .bool true]) else .returned (.tuple #[.agg #[.int .i64 0, .int .i64 0, .string ⟨#[]⟩], .bool false])
/-- The number that decode takes is of 64 bits. -/
theorem decV_in {k : Int} {l : List UInt8} {n : Int} {s : List UInt8} (h : decV k l = some (n, s)) : inI n ∧ s.length ≤ l.length := by
  unfold decV at h
  by_cases h1 : k = 1
  · rw [if_pos h1] at h
    by_cases h8 : l.length = 8
    · rw [if_pos h8] at h
      simp only [Option.some.injEq, Prod.mk.injEq] at h
      have hb := foldB_lt l
      rw [h8, show (256 : Nat) ^ 8 = 18446744073709551616 by decide] at hb
      refine ⟨?_, by rw [← h.2]; simp⟩
      unfold inI
      omega
    · rw [if_neg h8] at h; cases h
  rw [if_neg h1] at h
  by_cases h5 : k = 5
  · rw [if_pos h5] at h
    by_cases h8 : l.length = 8
    · rw [if_pos h8] at h
      by_cases hr : rightB (unrankI (foldB l)) = true
      · rw [if_pos hr] at h
        simp only [Option.some.injEq, Prod.mk.injEq] at h
        have hb := foldB_lt l
        rw [h8, show (256 : Nat) ^ 8 = 18446744073709551616 by decide] at hb
        refine ⟨?_, by rw [← h.2]; simp⟩
        rw [← h.1]
        exact unrank_in (by omega) (by omega)
      · rw [if_neg hr] at h; cases h
    · rw [if_neg h8] at h; cases h
  rw [if_neg h5] at h
  by_cases h4 : k = 4
  · rw [if_pos h4] at h
    by_cases h8 : l.length = 1
    · rw [if_pos h8] at h
      simp only [Option.some.injEq, Prod.mk.injEq] at h
      have := (l.getD 0 0).toNat_lt
      refine ⟨?_, by rw [← h.2]; simp⟩
      unfold inI
      omega
    · rw [if_neg h8] at h; cases h
  rw [if_neg h4] at h
  by_cases h23 : k = 2 ∨ k = 3
  · rw [if_pos h23] at h
    obtain ⟨t, ht, hts⟩ := Option.map_eq_some_iff.1 h
    simp only [Prod.mk.injEq] at hts
    refine ⟨by rw [← hts.1]; unfold inI; omega, ?_⟩
    rw [← hts.2]
    unfold unText at ht
    split at ht
    · cases ht
    · split at ht
      · have := unesc_len _ _ ht
        rw [List.length_take] at this
        omega
      · cases ht
  · rw [if_neg h23] at h; cases h

end Go.Proofs.YtfcnobcpnhfgmaaDoor
