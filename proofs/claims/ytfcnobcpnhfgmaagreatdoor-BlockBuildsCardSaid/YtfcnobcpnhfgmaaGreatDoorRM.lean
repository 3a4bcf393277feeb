/- The document's Unescaped, for every row of at most a thousand bytes: the text, and what follows. Conditions: the slice holds those bytes. -/
import Derived.Test.YtfcnobcpnhfgmaaGreatDoorQG
import Derived.Test.YtfcnobcpnhfgmaaGreatDoorQ3
import Derived.Test.YtfcnobcpnhfgmaaGreatDoorQF
namespace Go.Proofs.YtfcnobcpnhfgmaaGreatDoor
open Go.RowKit

/-- The text at the head, and how many bytes it takes. -/
def unE : List UInt8 → Option (List UInt8 × Nat)
  | [] => none
  | c :: l => if c = 0 then (match l with
      | [] => none
      | d :: l' => if d = 1 then some ([], 2) else if d = 255 then (unE l').map fun p => (0 :: p.1, p.2 + 2) else none) else (unE l).map fun p => (c :: p.1, p.2 + 1)
theorem unE_ne {c : UInt8} (h : c ≠ 0) (l : List UInt8) : unE (c :: l) = (unE l).map fun p => (c :: p.1, p.2 + 1) := by cases l <;> simp [unE, h]
theorem unE_one : unE [0] = none := by simp [unE]
theorem unE_two (d : UInt8) (l : List UInt8) : unE (0 :: d :: l) = if d = 1 then some ([], 2) else if d = 255 then (unE l).map fun p => (0 :: p.1, p.2 + 2) else none := by simp [unE]
theorem unE_single (c : UInt8) : unE [c] = none := by
  by_cases h : c = 0
  · rw [h]; exact unE_one
  · rw [unE_ne h]; rfl
theorem unE_drop (l : List UInt8) (i : Nat) (h : i + 1 < l.length) : unE (l.drop i) = if (l.getD i 0).toNat = 0 then (if (l.getD (i + 1) 0).toNat = 1 then some ([], 2) else if (l.getD (i + 1) 0).toNat = 255 then (unE (l.drop (i + 2))).map fun p => (0 :: p.1, p.2 + 2) else none) else (unE (l.drop (i + 1))).map fun p => (l.getD i 0 :: p.1, p.2 + 1) := by
  have e : ∀ k (hk : k < l.length), l.getD k 0 = l[k] := fun k hk => by simp [List.getElem?_eq_getElem hk]
  have z : ∀ (x : UInt8) (y : UInt8), x.toNat = y.toNat ↔ x = y := fun x y => UInt8.toNat_inj
  rw [List.drop_eq_getElem_cons (show i < l.length by omega), e i (by omega), e (i + 1) h]
  by_cases hc : l[i] = 0
  · rw [if_pos (by rw [hc]; rfl), hc, List.drop_eq_getElem_cons h, unE_two]
    by_cases h1 : l[i + 1] = 1
    · rw [if_pos h1, if_pos (by rw [h1]; rfl)]
    · rw [if_neg h1, if_neg (show ¬ l[i + 1].toNat = 1 from fun q => h1 ((z _ 1).1 q))]
      by_cases h2 : l[i + 1] = 255
      · rw [if_pos h2, if_pos (by rw [h2]; rfl)]
      · rw [if_neg h2, if_neg (show ¬ l[i + 1].toNat = 255 from fun q => h2 ((z _ 255).1 q))]
  · rw [if_neg (show ¬ l[i].toNat = 0 from fun q => hc ((z _ 0).1 q)), unE_ne hc]
theorem unE_end (l : List UInt8) (i : Nat) (h : l.length ≤ i + 1) : unE (l.drop i) = none := by
  rcases Nat.lt_or_ge i l.length with h1 | h1
  · rw [List.drop_eq_getElem_cons h1, List.drop_of_length_le (by omega)]
    exact unE_single _
  · rw [List.drop_of_length_le h1]
    rfl
/-- Behind out and i bytes. -/
def outE (out : List UInt8) (i : Nat) (o : Option (List UInt8 × Nat)) : Option (List UInt8 × Nat) := o.map fun p => (out ++ p.1, i + p.2)
theorem outE_one (out : List UInt8) (i : Nat) (c : UInt8) (o : Option (List UInt8 × Nat)) : outE out i (o.map fun p => (c :: p.1, p.2 + 1)) = outE (out ++ [c]) (i + 1) o := by
  cases o
  · rfl
  · simp [outE]; omega
theorem outE_two (out : List UInt8) (i : Nat) (o : Option (List UInt8 × Nat)) : outE out i (o.map fun p => (0 :: p.1, p.2 + 2)) = outE (out ++ [0]) (i + 2) o := by
  cases o
  · rfl
  · simp [outE]; omega

/-- What Unescaped answers. -/
def UnsEnd (bb : Nat) (l : List UInt8) (e : Ending) (w' : World) : Option (List UInt8 × Nat) → Prop
  | none => e = .returned (.tuple #[.string ⟨#[]⟩, .slice none 0 0, .bool false])
  | some (t, k) => ∃ A c, e = .returned (.tuple #[.string ⟨t.toArray⟩, .slice A (l.length - k) c, .bool true]) ∧ l.length - k ≤ c ∧ (c ≤ 9223372036854775807 ∧ ∃ off', A = some ⟨bb, off', none⟩) ∧ HoldsA w' A (l.drop k)

/-- What the loop knows. -/
def UeInv (l : List UInt8) (B : Nat) (w : World) (vb vi : Value) (wr : World) : Prop :=
  ∃ (i : Nat) (out : List UInt8), i ≤ l.length ∧ out.length ≤ i ∧ vi = .int .i64 i ∧ Row wr B vb out ∧ Below B w wr ∧ unE l = outE out i (unE (l.drop i))

theorem wrap_i {i : Nat} (h : i ≤ 8000) (k : Nat) (hk : k ≤ 3) : IntKind.i64.wrap ((i : Int) + k) = (i : Int) + k := IntWalk.i64_in _ (by omega)

set_option maxHeartbeats 8000000 in
set_option maxRecDepth 100000 in
theorem unescaped_B (l : List UInt8) (hl : l.length ≤ 4000) (b off c : Nat) (hc : l.length ≤ c) (hcm : c ≤ 9223372036854775807) (w : World) (hh : Holds w b off l) (hb : b < w.heap.size) (B : Nat) (HBw : Hid (w.heap.size = B)) :
    Calls Tryz.prog 119 #[.slice (some ⟨b, off, none⟩) l.length c] w fun e w' => UnsEnd b l e w' (unE l) ∧ Below B w w' := by
  have HN := hid (Row.nil_new w B (by rw [HBw.out]; exact Nat.le_refl _))
  have HB0 : Hid (∀ o, Below B w (w.alloc o)) := fun o => by
    have := below_new w o
    rwa [HBw.out] at this
  have HH := hid hh
  have HbB : Hid (b < B) := by have := HBw.out; unfold Hid; omega
  obtain ⟨n, hn⟩ : ∃ n, l.length = n := ⟨_, rfl⟩
  rw [hn] at hl hc ⊢
  have HNn := hid hn
  clear hh hb hn
  go_enter Tryz.func119, Tryz.ntmps119
  go_wp2
  go_loopw [5, 6] (fun vb vi wr => UeInv l B w vb vi wr) (fun _ vi _ => n - (intOf vi).toNat)
  case atStart => exact ⟨0, [], Nat.zero_le _, by simp, rfl, HN.out, HB0.out _, by unfold outE; rw [List.drop_zero]; cases unE l <;> simp⟩
  case round =>
    obtain ⟨i, out, hi, hout, rfl, hR, hbel, hu⟩ := hrel
    have HR := hid hR
    have HU := hid hu
    have HO := hid hout
    have hin : i ≤ n := by rw [← HNn.out]; exact hi
    clear hR hu hi hout
    by_cases hlt : i + 1 < n
    · have HD := hid (unE_drop l i (by rw [HNn.out]; exact hlt))
      have g0 : wr.cell? ⟨b, off + i, none⟩ = some (.int .u8 ((l.getD i 0).toNat : Int)) := (hbel.cell (p := ⟨b, off + i, none⟩) HbB.out).trans (HH.out i (by rw [HNn.out]; omega))
      have g1 : wr.cell? ⟨b, off + (i + 1), none⟩ = some (.int .u8 ((l.getD (i + 1) 0).toNat : Int)) := (hbel.cell (p := ⟨b, off + (i + 1), none⟩) HbB.out).trans (HH.out (i + 1) (by rw [HNn.out]; omega))
      obtain ⟨x, hx⟩ : ∃ x, l.getD i 0 = x := ⟨_, rfl⟩
      obtain ⟨y, hy⟩ : ∃ y, l.getD (i + 1) 0 = y := ⟨_, rfl⟩
      rw [hx] at g0 HD
      rw [hy] at g1 HD
      clear hx hy
      have HL : Hid (out.length + 1 ≤ 1000000) := by have := HO.out; unfold Hid; omega
      have hBs : B ≤ wr.heap.size := by have := hbel.size; have := HBw.out; omega
      by_cases hx0 : x.toNat = 0
      · have HD2 := HD.out
        rw [if_pos hx0] at HD2
        rw [hx0] at g0
        by_cases hy1 : y.toNat = 1
        · rw [if_pos hy1] at HD2
          rw [hy1] at g1
          have HU2 : Hid (unE l = some (out, i + 2)) := by
            unfold Hid
            rw [HU.out, HD2]
            simp [outE]
          have hcv : ∀ m, (convert 30 9 u5).run Tryz.prog (wr.drewN m) = .ok (.string ⟨out.toArray⟩) (wr.drewN m) := fun m => row_convert (HR.out.drewN m)
          clear HD HD2 hx0 hy1
          have HHr := hid ((HH.out.below hbel HbB.out).drop (i + 2))
          by_cases hcap : i + 2 = c
          · have hw2 : IntKind.i64.wrap ((i : Int) + 2) = (i : Int) + 2 := wrap_i (by omega) 2 (by omega)
            go_wp2
            go_quiet (fail)
            go_wp2
            go_ret3
            rw [HU2.out]
            exact ⟨⟨some ⟨b, off, none⟩, c - (i + 2), by rw [HNn.out]; rfl, by rw [HNn.out]; omega, ⟨by omega, _, rfl⟩, fun h => absurd h (by have := HNn.out; simp; omega)⟩, below_drewN hbel _⟩
          · have hw2 : IntKind.i64.wrap ((i : Int) + 2) = (i : Int) + 2 := wrap_i (by omega) 2 (by omega)
            go_wp2
            go_quiet (fail)
            go_wp2
            go_ret3
            rw [HU2.out]
            exact ⟨⟨some ⟨b, off + (i + 2), none⟩, c - (i + 2), by rw [HNn.out]; rfl, by rw [HNn.out]; omega, ⟨by omega, _, rfl⟩, fun _ => ⟨b, off + (i + 2), rfl, HHr.out⟩⟩, below_drewN hbel _⟩
        · rw [if_neg hy1] at HD2
          have hy1' : (y.toNat == 1) = false := by simpa using hy1
          by_cases hy2 : y.toNat = 255
          · rw [if_pos hy2] at HD2
            rw [hy2] at g1
            have HU2 : Hid (unE l = outE (out ++ [0]) (i + 2) (unE (l.drop (i + 2)))) := by
              unfold Hid
              rw [HU.out, HD2, outE_two]
            clear HD HD2 hx0 hy1 hy2 hy1'
            go_wp2_with (at_builtin; refine wpList_append_bytes rfl (.tmp 45) (.tmp 46) rfl _ B _ _ rfl (HR.out.alloc _) ⟨wr.heap.size, 0, none⟩ 1 1 [0] rfl rfl (one_new' _ _ _ _ rfl) (by have := HL.out; simp only [List.length_cons, List.length_nil]; omega) (by simp; omega) ?_; intro v1 w1 hR1 hb1)
            go_roundw
            case rel => exact ⟨i + 2, out ++ [0], by rw [HNn.out]; omega, by have := HO.out; simp; omega, by go_num, hR1, (hbel.alloc hBs _).trans hb1, HU2.out⟩
            case measure => simp [intOf]; omega
          · rw [if_neg hy2] at HD2
            have hy2' : (y.toNat != 255) = true := by simpa using hy2
            have HF : Hid (unE l = none) := by
              unfold Hid
              rw [HU.out, HD2]
              rfl
            clear HD HD2 hx0 hy1 hy2
            go_wp2
            go_ret3
            rw [HF.out]
            exact ⟨rfl, hbel⟩
      · have q0 : (x.toNat != 0) = true := by simpa using hx0
        have HU2 : Hid (unE l = outE (out ++ [x]) (i + 1) (unE (l.drop (i + 1)))) := by
          have := HD.out
          rw [if_neg hx0] at this
          unfold Hid
          rw [HU.out, this, outE_one]
        clear HD hx0
        go_wp2_with (at_builtin; refine wpList_append_bytes rfl (.tmp 20) (.tmp 25) rfl _ B _ _ rfl (HR.out.alloc _) ⟨wr.heap.size, 0, none⟩ 1 1 [x] rfl rfl (one_new' _ _ _ _ rfl) (by have := HL.out; simp only [List.length_cons, List.length_nil]; omega) (by simp; omega) ?_; intro v1 w1 hR1 hb1)
        go_roundw
        case rel => exact ⟨i + 1, out ++ [x], by rw [HNn.out]; omega, by have := HO.out; simp; omega, by go_num, hR1, (hbel.alloc hBs _).trans hb1, HU2.out⟩
        case measure => simp [intOf]; omega
    · have HF : Hid (unE l = none) := by
        unfold Hid
        rw [HU.out, unE_end l i (by rw [HNn.out]; omega)]
        rfl
      clear HR
      go_wp2
      go_ret3
      rw [HF.out]
      exact ⟨rfl, hbel⟩

theorem unescaped_any (l : List UInt8) (hl : l.length ≤ 4000) (b off c : Nat) (hc : l.length ≤ c) (hcm : c ≤ 9223372036854775807) (w : World) (hh : Holds w b off l) (hb : b < w.heap.size) :
    Calls Tryz.prog 119 #[.slice (some ⟨b, off, none⟩) l.length c] w fun e w' => UnsEnd b l e w' (unE l) ∧ Below w.heap.size w w' :=
  unescaped_B l hl b off c hc hcm w hh hb w.heap.size (hid rfl)

end Go.Proofs.YtfcnobcpnhfgmaaGreatDoor
