/- Several texts in one: RM SLa SO SLb DA EF. Conditions: as each theorem names them. -/
import Derived.Test.YtpjkhholpbfbpaaDoorRA
import Derived.Test.YtpjkhholpbfbpaaDoorMD
import Derived.Test.YtpjkhholpbfbpaaDoorVGa
import Derived.Test.YtpjkhholpbfbpaaDoorMA
import Derived.Deep.RegionHeld3
import Derived.Laws.BytesArg
import Derived.Laws.MakeOwn
import Derived.Deep.AppendSrc
import Derived.Test.YtpjkhholpbfbpaaDoorMJ
import Derived.Test.YtpjkhholpbfbpaaDoorCP
/- The document's Unescaped, for every row of at most a thousand bytes: the text, and what follows. Conditions: the slice holds those bytes. -/
namespace Go.Proofs.YtpjkhholpbfbpaaDoor
open Go.RowKit

/-- The text at the head, and how many bytes it takes. -/
def unE : List UInt8 → Option (List UInt8 × Nat)
  | [] => none
  | c :: l => if c = 0 then (match l with
      | [] => none
      | d :: l' => if d = 1 then some ([], 2) else if d = 255 then (unE l').map fun p => (0 :: p.1, p.2 + 2) else none) else (unE l).map fun p => (c :: p.1, p.2 + 1)
theorem unE_ne {c : UInt8} (h : c ≠ 0) (l : List UInt8) : unE (c :: l) = (unE l).map fun p => (c :: p.1, p.2 + 1) := by cases l <;> simp [unE, h]
theorem unE_one : unE [0] = none := by simp [unE]
theorem unE_two (d : UInt8) (l : List UInt8) : unE (0 :: d :: l) = if d = 1 then some ([], 2) else if d = 255 then (unE l).map fun p => (0 :: p.1, p.2 + 2) else none := by simp [unE]
theorem unE_single (c : UInt8) : unE [c] = none := by
  by_cases h : c = 0
  · rw [h]; exact unE_one
  · rw [unE_ne h]; rfl
theorem unE_drop (l : List UInt8) (i : Nat) (h : i + 1 < l.length) : unE (l.drop i) = if (l.getD i 0).toNat = 0 then (if (l.getD (i + 1) 0).toNat = 1 then some ([], 2) else if (l.getD (i + 1) 0).toNat = 255 then (unE (l.drop (i + 2))).map fun p => (0 :: p.1, p.2 + 2) else none) else (unE (l.drop (i + 1))).map fun p => (l.getD i 0 :: p.1, p.2 + 1) := by
  have e : ∀ k (hk : k < l.length), l.getD k 0 = l[k] := fun k hk => by simp [List.getElem?_eq_getElem hk]
  have z : ∀ (x : UInt8) (y : UInt8), x.toNat = y.toNat ↔ x = y := fun x y => UInt8.toNat_inj
  rw [List.drop_eq_getElem_cons (show i < l.length by omega), e i (by omega), e (i + 1) h]
  by_cases hc : l[i] = 0
  · rw [if_pos (by rw [hc]; rfl), hc, List.drop_eq_getElem_cons h, unE_two]
    by_cases h1 : l[i + 1] = 1
    · rw [if_pos h1, if_pos (by rw [h1]; rfl)]
    · rw [if_neg h1, if_neg (show ¬ l[i + 1].toNat = 1 from fun q => h1 ((z _ 1).1 q))]
      by_cases h2 : l[i + 1] = 255
      · rw [if_pos h2, if_pos (by rw [h2]; rfl)]
      · rw [if_neg h2, if_neg (show ¬ l[i + 1].toNat = 255 from fun q => h2 ((z _ 255).1 q))]
  · rw [if_neg (show ¬ l[i].toNat = 0 from fun q => hc ((z _ 0).1 q)), unE_ne hc]
theorem unE_end (l : List UInt8) (i : Nat) (h : l.length ≤ i + 1) : unE (l.drop i) = none := by
  rcases Nat.lt_or_ge i l.length with h1 | h1
  · rw [List.drop_eq_getElem_cons h1, List.drop_of_length_le (by omega)]
    exact unE_single _
  · rw [List.drop_of_length_le h1]
    rfl
/-- Behind out and i bytes. -/
def outE (out : List UInt8) (i : Nat) (o : Option (List UInt8 × Nat)) : Option (List UInt8 × Nat) := o.map fun p => (out ++ p.1, i + p.2)
theorem outE_one (out : List UInt8) (i : Nat) (c : UInt8) (o : Option (List UInt8 × Nat)) : outE out i (o.map fun p => (c :: p.1, p.2 + 1)) = outE (out ++ [c]) (i + 1) o := by
  cases o
  · rfl
  · simp [outE]; omega
theorem outE_two (out : List UInt8) (i : Nat) (o : Option (List UInt8 × Nat)) : outE out i (o.map fun p => (0 :: p.1, p.2 + 2)) = outE (out ++ [0]) (i + 2) o := by
  cases o
  · rfl
  · simp [outE]; omega

/-- What Unescaped answers. -/
def UnsEnd (bb : Nat) (l : List UInt8) (e : Ending) (w' : World) : Option (List UInt8 × Nat) → Prop
  | none => e = .returned (.tuple #[.string ⟨#[]⟩, .slice none 0 0, .bool false])
  | some (t, k) => ∃ A c, e = .returned (.tuple #[.string ⟨t.toArray⟩, .slice A (l.length - k) c, .bool true]) ∧ l.length - k ≤ c ∧ (c ≤ 9223372036854775807 ∧ ∃ off', A = some ⟨bb, off', none⟩) ∧ HoldsA w' A (l.drop k)

/-- What the loop knows. -/
def UeInv (l : List UInt8) (B : Nat) (w : World) (vb vi : Value) (wr : World) : Prop :=
  ∃ (i : Nat) (out : List UInt8), i ≤ l.length ∧ out.length ≤ i ∧ vi = .int .i64 i ∧ Row wr B vb out ∧ Below B w wr ∧ unE l = outE out i (unE (l.drop i))

theorem wrap_i {i : Nat} (h : i ≤ 8000) (k : Nat) (hk : k ≤ 3) : IntKind.i64.wrap ((i : Int) + k) = (i : Int) + k := IntWalk.i64_in _ (by omega)

set_option maxHeartbeats 8000000 in
set_option maxRecDepth 100000 in
theorem unescaped_B (l : List UInt8) (hl : l.length ≤ 4000) (b off c : Nat) (hc : l.length ≤ c) (hcm : c ≤ 9223372036854775807) (w : World) (hh : Holds w b off l) (hb : b < w.heap.size) (B : Nat) (HBw : Hid (w.heap.size = B)) :
    Calls Tryd.prog 37 #[.slice (some ⟨b, off, none⟩) l.length c] w fun e w' => UnsEnd b l e w' (unE l) ∧ Below B w w' := by
  have HN := hid (Row.nil_new w B (by rw [HBw.out]; exact Nat.le_refl _))
  have HB0 : Hid (∀ o, Below B w (w.alloc o)) := fun o => by
    have := below_new w o
    rwa [HBw.out] at this
  have HH := hid hh
  have HbB : Hid (b < B) := by have := HBw.out; unfold Hid; omega
  obtain ⟨n, hn⟩ : ∃ n, l.length = n := ⟨_, rfl⟩
  rw [hn] at hl hc ⊢
  have HNn := hid hn
  clear hh hb hn
  go_enter Tryd.func37, Tryd.ntmps37
  go_wp2
  go_loopw [5, 6] (fun vb vi wr => UeInv l B w vb vi wr) (fun _ vi _ => n - (intOf vi).toNat)
  case atStart => exact ⟨0, [], Nat.zero_le _, by simp, rfl, HN.out, HB0.out _, by unfold outE; rw [List.drop_zero]; cases unE l <;> simp⟩
  case round =>
    obtain ⟨i, out, hi, hout, rfl, hR, hbel, hu⟩ := hrel
    have HR := hid hR
    have HU := hid hu
    have HO := hid hout
    have hin : i ≤ n := by rw [← HNn.out]; exact hi
    clear hR hu hi hout
    by_cases hlt : i + 1 < n
    · have HD := hid (unE_drop l i (by rw [HNn.out]; exact hlt))
      have g0 : wr.cell? ⟨b, off + i, none⟩ = some (.int .u8 ((l.getD i 0).toNat : Int)) := (hbel.cell (p := ⟨b, off + i, none⟩) HbB.out).trans (HH.out i (by rw [HNn.out]; omega))
      have g1 : wr.cell? ⟨b, off + (i + 1), none⟩ = some (.int .u8 ((l.getD (i + 1) 0).toNat : Int)) := (hbel.cell (p := ⟨b, off + (i + 1), none⟩) HbB.out).trans (HH.out (i + 1) (by rw [HNn.out]; omega))
      obtain ⟨x, hx⟩ : ∃ x, l.getD i 0 = x := ⟨_, rfl⟩
      obtain ⟨y, hy⟩ : ∃ y, l.getD (i + 1) 0 = y := ⟨_, rfl⟩
      rw [hx] at g0 HD
      rw [hy] at g1 HD
      clear hx hy
      have HL : Hid (out.length + 1 ≤ 1000000) := by have := HO.out; unfold Hid; omega
      have hBs : B ≤ wr.heap.size := by have := hbel.size; have := HBw.out; omega
      by_cases hx0 : x.toNat = 0
      · have HD2 := HD.out
        rw [if_pos hx0] at HD2
        rw [hx0] at g0
        by_cases hy1 : y.toNat = 1
        · rw [if_pos hy1] at HD2
          rw [hy1] at g1
          have HU2 : Hid (unE l = some (out, i + 2)) := by
            unfold Hid
            rw [HU.out, HD2]
            simp [outE]
          have hcv : ∀ m, (convert 22 9 u5).run Tryd.prog (wr.drewN m) = .ok (.string ⟨out.toArray⟩) (wr.drewN m) := fun m => row_convert (HR.out.drewN m)
          clear HD HD2 hx0 hy1
          have HHr := hid ((HH.out.below hbel HbB.out).drop (i + 2))
          by_cases hcap : i + 2 = c
          · have hw2 : IntKind.i64.wrap ((i : Int) + 2) = (i : Int) + 2 := wrap_i (by omega) 2 (by omega)
            go_wp2
            go_quiet (fail)
            go_wp2
            go_ret3
            rw [HU2.out]
            exact ⟨⟨some ⟨b, off, none⟩, c - (i + 2), by rw [HNn.out]; rfl, by rw [HNn.out]; omega, ⟨by omega, _, rfl⟩, fun h => absurd h (by have := HNn.out; simp; omega)⟩, below_drewN hbel _⟩
          · have hw2 : IntKind.i64.wrap ((i : Int) + 2) = (i : Int) + 2 := wrap_i (by omega) 2 (by omega)
            go_wp2
            go_quiet (fail)
            go_wp2
            go_ret3
            rw [HU2.out]
            exact ⟨⟨some ⟨b, off + (i + 2), none⟩, c - (i + 2), by rw [HNn.out]; rfl, by rw [HNn.out]; omega, ⟨by omega, _, rfl⟩, fun _ => ⟨b, off + (i + 2), rfl, HHr.out⟩⟩, below_drewN hbel _⟩
        · rw [if_neg hy1] at HD2
          have hy1' : (y.toNat == 1) = false := by simpa using hy1
          by_cases hy2 : y.toNat = 255
          · rw [if_pos hy2] at HD2
            rw [hy2] at g1
            have HU2 : Hid (unE l = outE (out ++ [0]) (i + 2) (unE (l.drop (i + 2)))) := by
              unfold Hid
              rw [HU.out, HD2, outE_two]
            clear HD HD2 hx0 hy1 hy2 hy1'
            go_wp2_with (at_builtin; refine wpList_append_bytes rfl (.tmp 45) (.tmp 46) rfl _ B _ _ rfl (HR.out.alloc _) ⟨wr.heap.size, 0, none⟩ 1 1 [0] rfl rfl (one_new' _ _ _ _ rfl) (by have := HL.out; simp only [List.length_cons, List.length_nil]; omega) (by simp; omega) ?_; intro v1 w1 hR1 hb1)
            go_roundw
            case rel => exact ⟨i + 2, out ++ [0], by rw [HNn.out]; omega, by have := HO.out; simp; omega, by go_num, hR1, (hbel.alloc hBs _).trans hb1, HU2.out⟩
            case measure => simp [intOf]; omega
          · rw [if_neg hy2] at HD2
            have hy2' : (y.toNat != 255) = true := by simpa using hy2
            have HF : Hid (unE l = none) := by
              unfold Hid
              rw [HU.out, HD2]
              rfl
            clear HD HD2 hx0 hy1 hy2
            go_wp2
            go_ret3
            rw [HF.out]
            exact ⟨rfl, hbel⟩
      · have q0 : (x.toNat != 0) = true := by simpa using hx0
        have HU2 : Hid (unE l = outE (out ++ [x]) (i + 1) (unE (l.drop (i + 1)))) := by
          have := HD.out
          rw [if_neg hx0] at this
          unfold Hid
          rw [HU.out, this, outE_one]
        clear HD hx0
        go_wp2_with (at_builtin; refine wpList_append_bytes rfl (.tmp 20) (.tmp 25) rfl _ B _ _ rfl (HR.out.alloc _) ⟨wr.heap.size, 0, none⟩ 1 1 [x] rfl rfl (one_new' _ _ _ _ rfl) (by have := HL.out; simp only [List.length_cons, List.length_nil]; omega) (by simp; omega) ?_; intro v1 w1 hR1 hb1)
        go_roundw
        case rel => exact ⟨i + 1, out ++ [x], by rw [HNn.out]; omega, by have := HO.out; simp; omega, by go_num, hR1, (hbel.alloc hBs _).trans hb1, HU2.out⟩
        case measure => simp [intOf]; omega
    · have HF : Hid (unE l = none) := by
        unfold Hid
        rw [HU.out, unE_end l i (by rw [HNn.out]; omega)]
        rfl
      clear HR
      go_wp2
      go_ret3
      rw [HF.out]
      exact ⟨rfl, hbel⟩

theorem unescaped_any (l : List UInt8) (hl : l.length ≤ 4000) (b off c : Nat) (hc : l.length ≤ c) (hcm : c ≤ 9223372036854775807) (w : World) (hh : Holds w b off l) (hb : b < w.heap.size) :
    Calls Tryd.prog 37 #[.slice (some ⟨b, off, none⟩) l.length c] w fun e w' => UnsEnd b l e w' (unE l) ∧ Below w.heap.size w w' :=
  unescaped_B l hl b off c hc hcm w hh hb w.heap.size (hid rfl)

end Go.Proofs.YtpjkhholpbfbpaaDoor

/- A slice that holds bytes, as a value. Conditions: none. -/
namespace Go.Proofs.YtpjkhholpbfbpaaDoor
open Go.RowKit

theorem HoldsA.below {w w' : World} {A : Option Addr} {l : List UInt8} (h : HoldsA w A l) (hb : Below w.heap.size w w') : HoldsA w' A l := fun h0 => by
  obtain ⟨b, off, e, hh⟩ := h h0
  exact ⟨b, off, e, hh.below hb (hh.lt h0)⟩
/-- The value is a slice that holds l (nil, or whatever address, where there is nothing). -/
def SlA (w : World) (v : Value) (l : List UInt8) : Prop := ∃ A c, v = .slice A l.length c ∧ l.length ≤ c ∧ c ≤ 9223372036854775807 ∧ (HoldsA w A l ∧ (A = none → c = 0))
theorem SlA.below {w w' : World} {v : Value} {l : List UInt8} (h : SlA w v l) (hb : Below w.heap.size w w') : SlA w' v l := by
  obtain ⟨A, c, h1, h2, h3, h4⟩ := h
  exact ⟨A, c, h1, h2, h3, h4.1.below hb, h4.2⟩
theorem Row.sla {w : World} {B : Nat} {v : Value} {l : List UInt8} (h : Row w B v l) : SlA w v l := by
  by_cases h0 : 0 < l.length
  · obtain ⟨h1, h2⟩ := id h
    obtain ⟨g, cap, e, _, _, h6, h7⟩ := h.form h0
    refine ⟨_, cap, e, h6, ?_, fun _ => ⟨g, 0, rfl, fun i hi => by rw [Nat.zero_add]; exact h7 i hi⟩, fun h => by cases h⟩
    rcases h2 with ⟨_, hz⟩ | ⟨g', cap', cur, e', _, _, _, hm, _⟩
    · omega
    · rw [e] at e'; injection e' with _ _ e3; rw [e3]; unfold maxLen at hm; omega
  · have hl : l = [] := List.eq_nil_of_length_eq_zero (by omega)
    subst hl
    obtain ⟨h1, h2⟩ := h
    rcases h2 with ⟨e, _⟩ | ⟨g', cap', cur, e', _, _, _, hm, _⟩
    · exact ⟨_, 0, e, by simp, by omega, fun h => absurd h (by simp), fun _ => rfl⟩
    · exact ⟨_, cap', e', by simp, by unfold maxLen at hm; omega, fun h => absurd h (by simp), fun h => by cases h⟩
end Go.Proofs.YtpjkhholpbfbpaaDoor

/- SameBytes at any two slices: are their bytes the same. Conditions: the slices hold their bytes. -/
namespace Go.Proofs.YtpjkhholpbfbpaaDoor
open Go.RowKit

set_option maxHeartbeats 1000000 in
theorem same_ne (A1 A2 : Option Addr) (n1 n2 c1 c2 : Nat) (hn : n1 ≠ n2) (w : World) :
    Calls Tryd.prog 18 #[.slice A1 n1 c1, .slice A2 n2 c2] w fun e w' => e = .returned (.bool false) ∧ w' = w := by
  have h : ¬ ((n1 : Int) = (n2 : Int)) := by omega
  go_enter Tryd.func18, Tryd.ntmps18
  go_wp2
  go_ret
  exact ⟨rfl, rfl⟩

set_option maxHeartbeats 1000000 in
theorem same_zero (A1 A2 : Option Addr) (c1 c2 : Nat) (w : World) :
    Calls Tryd.prog 18 #[.slice A1 0 c1, .slice A2 0 c2] w fun e w' => e = .returned (.bool true) ∧ w' = w := by
  go_enter Tryd.func18, Tryd.ntmps18
  go_wp2
  go_loopw [5] (fun vi wr => vi = .int .i64 0 ∧ w = wr) (fun _ _ => 0)
  case atStart => exact ⟨rfl, rfl⟩
  case round =>
    obtain ⟨rfl, rfl⟩ := hrel
    go_wp2
    go_ret
    exact ⟨rfl, rfl⟩

theorem take_next (l : List UInt8) (k : Nat) (h : k < l.length) : l.take (k + 1) = l.take k ++ [l[k]] := List.take_succ_eq_append_getElem h

set_option maxHeartbeats 2000000 in
theorem same_in (b1 o1 c1 b2 o2 c2 n : Nat) (l1 l2 : List UInt8) (h1 : l1.length = n) (h2 : l2.length = n) (hn : n ≤ 1000000) (w : World) (hh1 : Holds w b1 o1 l1) (hh2 : Holds w b2 o2 l2) :
    Calls Tryd.prog 18 #[.slice (some ⟨b1, o1, none⟩) n c1, .slice (some ⟨b2, o2, none⟩) n c2] w fun e w' => e = .returned (.bool (decide (l1 = l2))) ∧ Below w.heap.size w w' := by
  have H1 := hid h1
  have H2 := hid h2
  have K1 := hid hh1
  have K2 := hid hh2
  clear h1 h2 hh1 hh2
  go_enter Tryd.func18, Tryd.ntmps18
  go_wp2
  go_loopw [5] (fun vi wr => ∃ k m : Nat, k ≤ n ∧ vi = .int .i64 k ∧ Hid (l1.take k = l2.take k) ∧ wr = w.drewN m) (fun vi _ => n - (intOf vi).toNat)
  case atStart => exact ⟨0, 0, by omega, rfl, rfl, rfl⟩
  case round =>
    obtain ⟨k, m, hk, rfl, HE, rfl⟩ := hrel
    by_cases hlt : k < n
    · have g1 : k < l1.length := by rw [H1.out]; exact hlt
      have g2 : k < l2.length := by rw [H2.out]; exact hlt
      have q1 := K1.out k g1
      have q2 := K2.out k g2
      rw [List.getD_eq_getElem?_getD, List.getElem?_eq_getElem g1, Option.getD_some] at q1
      rw [List.getD_eq_getElem?_getD, List.getElem?_eq_getElem g2, Option.getD_some] at q2
      obtain ⟨x, hx⟩ : ∃ x : Int, (((l1[k]).toNat : Nat) : Int) = x := ⟨_, rfl⟩
      obtain ⟨y, hy⟩ : ∃ y : Int, (((l2[k]).toNat : Nat) : Int) = y := ⟨_, rfl⟩
      rw [hx] at q1; rw [hy] at q2
      have HX := hid hx; have HY := hid hy
      clear hx hy
      by_cases hxy : x = y
      · subst hxy
        have hb : (x != x) = false := by simp
        go_wp2
        go_region
        all_goals
          go_wp2
          go_roundw
          case rel =>
            refine ⟨k + 1, _, by omega, by go_num, ?_, rfl⟩
            unfold Hid
            rw [take_next l1 k g1, take_next l2 k g2, HE.out]
            have : l1[k] = l2[k] := UInt8.toNat_inj.1 (by have := HX.out; have := HY.out; omega)
            rw [this]
          case measure => simp [intOf]; omega
      · have hb : (x != y) = true := by simpa using hxy
        have HN := hid hxy
        go_wp2
        go_region
        all_goals
          go_wp2
          go_ret
          have hne : l1 ≠ l2 := by
            intro e
            subst e
            exact HN.out (HX.out.symm.trans HY.out)
          rw [decide_eq_false hne]
          exact ⟨rfl, by repeat' (first | exact Below.refl _ _ | apply Below.drew | apply below_drewN)⟩
    · go_wp2
      go_ret
      have e : l1 = l2 := by
        have := HE.out
        rwa [List.take_of_length_le (by have := H1.out; omega), List.take_of_length_le (by have := H2.out; omega)] at this
      rw [decide_eq_true e]
      exact ⟨rfl, by repeat' (first | exact Below.refl _ _ | apply Below.drew | apply below_drewN)⟩

theorem same_sla (v1 v2 : Value) (l1 l2 : List UInt8) (hl1 : l1.length ≤ 1000000) (w : World) (h1 : SlA w v1 l1) (h2 : SlA w v2 l2) :
    Calls Tryd.prog 18 #[v1, v2] w fun e w' => e = .returned (.bool (decide (l1 = l2))) ∧ Below w.heap.size w w' := by
  obtain ⟨A1, c1, rfl, _, _, g1, _⟩ := h1
  obtain ⟨A2, c2, rfl, _, _, g2, _⟩ := h2
  by_cases hn : l1.length = l2.length
  · by_cases h0 : 0 < l1.length
    · obtain ⟨b1, o1, rfl, k1⟩ := g1 h0
      obtain ⟨b2, o2, rfl, k2⟩ := g2 (by omega)
      rw [← hn]
      exact same_in b1 o1 c1 b2 o2 c2 l1.length l1 l2 rfl hn.symm hl1 w k1 k2
    · have e1 : l1 = [] := List.eq_nil_of_length_eq_zero (by omega)
      have e2 : l2 = [] := List.eq_nil_of_length_eq_zero (by omega)
      subst e1; subst e2
      exact (same_zero A1 A2 c1 c2 w).mono fun e w' ⟨he, hw⟩ => ⟨he, by rw [hw]; exact Below.refl _ _⟩
  · have hne : l1 ≠ l2 := fun e => hn (by rw [e])
    rw [decide_eq_false hne]
    exact (same_ne A1 A2 _ _ c1 c2 hn w).mono fun e w' ⟨he, hw⟩ => ⟨he, by rw [hw]; exact Below.refl _ _⟩
end Go.Proofs.YtpjkhholpbfbpaaDoor

/- Lists of rows of bytes in memory; SameLists, CopyBytes. Conditions: the slices hold their bytes, rows of a million at most. -/
namespace Go.Proofs.YtpjkhholpbfbpaaDoor
open Go.RowKit

theorem info_row : (Tryd.prog.info? 22).map (fun i => (i.zero, i.size, i.bytes)) = some (some (.slice none 0 0), 1, 24) := by kernel_rfl

/-- The slice v is the call's own (from block B on) and its elements are rows of the call's own that hold xs. -/
def RowL (w : World) (B : Nat) (v : Value) (xs : List (List UInt8)) : Prop :=
  ∃ vs : List Value, w.ownsRow B 22 1 v xs.length vs ∧ ∀ (i : Nat) (x : List UInt8), xs[i]? = some x → ∃ u, vs[i]? = some u ∧ Row w B u x
theorem RowL.none (w : World) (B : Nat) : RowL w B (.slice none 0 0) [] := ⟨[], ⟨rfl, .inl ⟨rfl, rfl⟩⟩, fun i x h => by simp at h⟩
theorem RowL.len {w : World} {B : Nat} {v : Value} {xs : List (List UInt8)} (h : RowL w B v xs) : ∃ A c, v = .slice A xs.length c := by
  obtain ⟨vs, ⟨_, h⟩, _⟩ := h
  rcases h with ⟨e, h0⟩ | ⟨g, cap, cur, e, _⟩
  · exact ⟨Option.none, 0, by rw [e, h0]⟩
  · exact ⟨_, _, e⟩
theorem RowL.below {w w' : World} {B : Nat} {v : Value} {xs : List (List UInt8)} (h : RowL w B v xs) (hb : Below w.heap.size w w') : RowL w' B v xs := by
  obtain ⟨vs, ho, hr⟩ := h
  refine ⟨vs, ?_, fun i x hx => ?_⟩
  · refine ⟨ho.1, ?_⟩
    rcases ho.2 with h2 | ⟨g, cap, cur, rfl, hB, hh, hrest⟩
    · exact .inl h2
    · refine .inr ⟨g, cap, cur, rfl, hB, ?_, hrest⟩
      rw [hb.block g (by rcases Nat.lt_or_ge g w.heap.size with h' | h'
                         · exact h'
                         · rw [Array.getElem?_eq_none h'] at hh; cases hh)]
      exact hh
  · obtain ⟨u, hu, hR⟩ := hr i x hx
    exact ⟨u, hu, hR.keep hb (hR.block_lt)⟩
/-- A row of bytes does not lie where a list of rows lies. -/
theorem row_ne_list {w : World} {B : Nat} {u v : Value} {x : List UInt8} {n : Nat} {vs : List Value} (h : Row w B u x) (ho : w.ownsRow B 22 1 v n vs) : u.ownBlock = Option.none ∨ u.ownBlock ≠ v.ownBlock := by
  rcases h.2 with ⟨rfl, _⟩ | ⟨g, cap, cur, rfl, _, hh, _⟩
  · exact .inl rfl
  · refine .inr fun e => ?_
    rcases ho.2 with ⟨rfl, _⟩ | ⟨g', cap', cur', rfl, _, hh', _⟩
    · cases e
    · simp only [Value.ownBlock, Option.some.injEq] at e
      rw [← e, hh] at hh'
      simp only [Option.some.injEq, Obj.cells.injEq] at hh'
      exact absurd hh'.2.1 (by decide)
theorem Row.grown {w w' : World} {B : Nat} {u : Value} {x : List UInt8} {row : Option Nat} (h : Row w B u x) (hg : w.grownBy w' row) (hne : u.ownBlock = Option.none ∨ u.ownBlock ≠ row) : Row w' B u x := World.ownsRow.kept h hg hne

section
variable {ops : Array Oper} {rest : List Oper} {o : Oper} {a : Act} {Q : Exit → Act → World → Prop}
/-- append of one row to a list of the call's own. -/
theorem wpList_append_row (hgd : o.guard = Option.none) (s x : Operand)
    (ho : o.op = .call { callee := .builtin .append, args := #[s, x], argTypes := #[33, 33] })
    (w : World) (base : Nat) (v : Value) (xs : List (List UInt8)) (hs : a.eval s = v) (hown : RowL w base v xs)
    (G : Nat) (c : Nat) (u : Value) (y : List UInt8) (hx : a.eval x = .slice (some ⟨G, 0, Option.none⟩) 1 c) (hc : w.cell? ⟨G, 0, Option.none⟩ = some u) (hu : Row w base u y)
    (hlen : xs.length ≤ 1000000) (hbase : base ≤ w.heap.size)
    (h : ∀ v' w', RowL w' base v' (xs ++ [y]) → Below base w w' → wpList Tryd.prog ops Q rest (a.put o.dst v') w') : wpList Tryd.prog ops Q (o :: rest) a w := by
  obtain ⟨i0, hi, hz0, hz1, hz2⟩ := info_parts info_row
  obtain ⟨vs, how, hr⟩ := hown
  have hvl : vs.length = xs.length := by have := how.1; omega
  refine wpList_append_own w hgd s x 33 ho base 22 i0 (.slice Option.none 0 0) 1 24 Tryd.underlying33 hi hz0 hz1 hz2 rfl (by decide) v xs.length vs hs how ⟨G, 0, Option.none⟩ 1 c [u] hx rfl ?_ ?_ (by unfold maxLen; omega) (by omega) hbase ?_
  · intro j e he
    match j, he with
    | 0, he => simp at he; subst he; rw [add_zero_off]; exact hc
    | j + 1, he => simp at he
  · intro e he
    have : e = u := by simpa using he
    subst this
    rcases hu.2 with ⟨rfl, _⟩ | ⟨g, cap, cur, rfl, _⟩ <;> rfl
  · intro v' w' h1 h2 _
    refine h v' w' ⟨vs ++ [u], by rw [List.length_append]; exact h1, fun i x hx => ?_⟩ ((Below.refl _ _).grown h2 hbase fun k hk => (World.ownsRow.lt how k hk).1)
    by_cases hi' : i < xs.length
    · rw [List.getElem?_append_left hi'] at hx
      obtain ⟨u', hu', hR⟩ := hr i x hx
      exact ⟨u', by rw [List.getElem?_append_left (by omega)]; exact hu', hR.grown h2 (row_ne_list hR how)⟩
    · rw [List.getElem?_append_right (by omega)] at hx
      have hi0 : i - xs.length = 0 := by
        rcases Nat.eq_zero_or_pos (i - xs.length) with e | e
        · exact e
        · rw [List.getElem?_eq_none (by simp; omega)] at hx; cases hx
      rw [hi0] at hx
      have ey : y = x := by simpa using hx
      subst ey
      exact ⟨u, by rw [List.getElem?_append_right (by omega), hvl, hi0]; rfl, hu.grown h2 (row_ne_list hu how)⟩
end

/-- The value is a slice of slices that hold ls. -/
def LsA (w : World) (v : Value) (ls : List (List UInt8)) : Prop := ∃ A c, v = .slice A ls.length c ∧ ls.length ≤ c ∧ c ≤ 9223372036854775807 ∧ (A = none → c = 0) ∧
  (0 < ls.length → ∃ b off, A = some ⟨b, off, none⟩ ∧ ∀ i l, ls[i]? = some l → ∃ u, w.cell? ⟨b, off + i, none⟩ = some u ∧ SlA w u l)
theorem LsA.below {w w' : World} {v : Value} {ls : List (List UInt8)} (h : LsA w v ls) (hb : Below w.heap.size w w') : LsA w' v ls := by
  obtain ⟨A, c, h1, h2, h3, h4, h5⟩ := h
  refine ⟨A, c, h1, h2, h3, h4, fun h0 => ?_⟩
  obtain ⟨b, off, e, hh⟩ := h5 h0
  refine ⟨b, off, e, fun i l hl => ?_⟩
  obtain ⟨u, hu, hS⟩ := hh i l hl
  exact ⟨u, (hb.cell (p := ⟨b, off + i, none⟩) (cell_lt hu)).trans hu, hS.below hb⟩
theorem lsa_nil (w : World) : LsA w (.slice none 0 0) [] := ⟨none, 0, rfl, by simp, by omega, fun _ => rfl, fun h => absurd h (by simp)⟩

/-- A list whose rows can be reached one by one. -/
def LsB (w : World) (v : Value) (ls : List (List UInt8)) : Prop := ∃ A c, v = .slice A ls.length c ∧ (0 < ls.length → ∃ b off, A = some ⟨b, off, none⟩ ∧ ∀ i (h : i < ls.length), ∃ A' c', w.cell? ⟨b, off + i, none⟩ = some (.slice A' (ls[i]).length c') ∧ SlA w (.slice A' (ls[i]).length c') ls[i])
theorem LsB.below {w w' : World} {v : Value} {ls : List (List UInt8)} (h : LsB w v ls) (hb : Below w.heap.size w w') : LsB w' v ls := by
  obtain ⟨A, c, e, hh⟩ := h
  refine ⟨A, c, e, fun h0 => ?_⟩
  obtain ⟨b, off, e2, hc⟩ := hh h0
  refine ⟨b, off, e2, fun i hi => ?_⟩
  obtain ⟨A', c', hu, hS⟩ := hc i hi
  exact ⟨A', c', (hb.cell (p := ⟨b, off + i, none⟩) (cell_lt hu)).trans hu, hS.below hb⟩
theorem LsA.lsb {w : World} {v : Value} {ls : List (List UInt8)} (h : LsA w v ls) : LsB w v ls := by
  obtain ⟨A, c, e, _, _, _, hh⟩ := h
  refine ⟨A, c, e, fun h0 => ?_⟩
  obtain ⟨b, off, e2, hc⟩ := hh h0
  refine ⟨b, off, e2, fun i hi => ?_⟩
  obtain ⟨u, hu, hS⟩ := hc i ls[i] (List.getElem?_eq_getElem hi)
  obtain ⟨A', c', e3, hx⟩ := id hS
  subst e3
  exact ⟨A', c', hu, hS⟩
theorem RowL.lsb {w : World} {B : Nat} {v : Value} {ls : List (List UInt8)} (h : RowL w B v ls) : LsB w v ls := by
  obtain ⟨A, c, e⟩ := h.len
  refine ⟨A, c, e, fun h0 => ?_⟩
  obtain ⟨vs, ho, hr⟩ := h
  have hvl : vs.length = ls.length := by have := ho.1; omega
  rcases ho.2 with ⟨_, hz⟩ | ⟨g, cap, cur, e2, _, hh, _, _, _, ht⟩
  · omega
  · rw [e] at e2
    injection e2 with e2 _ _
    refine ⟨g, 0, e2, fun i hi => ?_⟩
    obtain ⟨u, hu, hR⟩ := hr i ls[i] (List.getElem?_eq_getElem hi)
    obtain ⟨A', c', e3, hx⟩ := id hR.sla
    subst e3
    refine ⟨A', c', ?_, hR.sla⟩
    rw [Nat.zero_add, cell_of_row w g i cur _ (0, 0) hh]
    have h2 : (cur.toList.take (ls.length * 1))[i]? = vs[i]? := by rw [ht]
    rw [List.getElem?_take_of_lt (by omega), hu] at h2
    rw [← Array.getElem?_toList, h2]
theorem LsB.take {w : World} {A : Option Addr} {c : Nat} {ls : List (List UInt8)} (h : LsB w (.slice A ls.length c) ls) (k : Nat) (hk : k ≤ ls.length) (c' : Nat) : LsB w (.slice A k c') (ls.take k) := by
  obtain ⟨A1, c1, e, hh⟩ := h
  injection e with e _ _
  subst e
  have hl : (ls.take k).length = k := by rw [List.length_take]; omega
  refine ⟨A, c', by rw [hl], fun h0 => ?_⟩
  rw [hl] at h0
  obtain ⟨b, off, e2, hc⟩ := hh (by omega)
  refine ⟨b, off, e2, fun i hi => ?_⟩
  rw [hl] at hi
  rw [List.getElem_take]
  exact hc i (by omega)

theorem LsB.at {w : World} {A : Option Addr} {n c : Nat} {ls : List (List UInt8)} (h : LsB w (.slice A n c) ls) (k : Nat) (hk : k < ls.length) :
    ∃ b off A' c', A = some ⟨b, off, none⟩ ∧ w.cell? ⟨b, off + k, none⟩ = some (.slice A' (ls[k]).length c') ∧ SlA w (.slice A' (ls[k]).length c') ls[k] := by
  obtain ⟨A1, c1, e0, hh⟩ := h
  injection e0 with ea _ _
  obtain ⟨b, off, ea2, hcells⟩ := hh (by omega)
  obtain ⟨A', c', hu, hS⟩ := hcells k hk
  exact ⟨b, off, A', c', ea.trans ea2, hu, hS⟩
/-- Two cells and the world behind, carried. -/
abbrev TwoP (W : World) (p1 p2 : Addr) (u1 u2 : Value) (w' : World) : Prop := Hid (Below W.heap.size W w') ∧ w'.cell? p1 = some u1 ∧ w'.cell? p2 = some u2
section
variable {W w1 w' : World} {b1 o1 b2 o2 : Nat} {u1 u2 : Value}
theorem twoP_drew (h : TwoP W ⟨b1, o1, none⟩ ⟨b2, o2, none⟩ u1 u2 w1) : TwoP W ⟨b1, o1, none⟩ ⟨b2, o2, none⟩ u1 u2 w1.drew := ⟨hid h.1.out.drew, h.2⟩
theorem twoP_call (h : TwoP W ⟨b1, o1, none⟩ ⟨b2, o2, none⟩ u1 u2 w1) (hb : Below w1.heap.size w1 w') : TwoP W ⟨b1, o1, none⟩ ⟨b2, o2, none⟩ u1 u2 w' :=
  ⟨hid (h.1.out.trans (hb.mono h.1.out.size)), (hb.cell (p := ⟨b1, o1, none⟩) (cell_lt h.2.1)).trans h.2.1, (hb.cell (p := ⟨b2, o2, none⟩) (cell_lt h.2.2)).trans h.2.2⟩
end

set_option maxRecDepth 100000 in
set_option maxHeartbeats 1000000 in
theorem lists_ne (A1 A2 : Option Addr) (n1 n2 c1 c2 : Nat) (hn : n1 ≠ n2) (w : World) :
    Calls Tryd.prog 19 #[.slice A1 n1 c1, .slice A2 n2 c2] w fun e w' => e = .returned (.bool false) ∧ Below w.heap.size w w' := by
  have h : ¬ ((n1 : Int) = (n2 : Int)) := by omega
  go_enter Tryd.func19, Tryd.ntmps19
  go_wp2
  go_ret
  exact ⟨rfl, Below.refl _ _⟩

set_option maxRecDepth 100000 in
set_option maxHeartbeats 2000000 in
/-- Two lists of the same rows. -/
theorem lists_same (v1 v2 : Value) (ls : List (List UInt8)) (hrow : ∀ x ∈ ls, x.length ≤ 1000000) (hn : ls.length ≤ 1000000) (w : World) (h1 : LsB w v1 ls) (h2 : LsB w v2 ls) :
    Calls Tryd.prog 19 #[v1, v2] w fun e w' => e = .returned (.bool true) ∧ Below w.heap.size w w' := by
  have H1 := hid h1
  have H2 := hid h2
  obtain ⟨A1, c1, rfl, _⟩ := h1
  obtain ⟨A2, c2, rfl, _⟩ := h2
  have HR := hid hrow
  obtain ⟨n, hnl⟩ : ∃ n, ls.length = n := ⟨_, rfl⟩
  have HN := hid hnl
  rw [hnl] at hn ⊢
  clear hnl hrow
  go_enter Tryd.func19, Tryd.ntmps19
  go_wp2
  go_loopw [5] (fun vi wr => ∃ k : Nat, k ≤ n ∧ vi = .int .i64 k ∧ Below w.heap.size w wr) (fun vi _ => n - (intOf vi).toNat)
  case atStart => exact ⟨0, by omega, rfl, Below.refl _ _⟩
  case round =>
    obtain ⟨k, hk, rfl, hb⟩ := hrel
    by_cases hlt : k < n
    · have hkl : k < ls.length := by rw [HN.out]; exact hlt
      have HC : Hid (∀ W u1 u2, SlA W u1 ls[k] → SlA W u2 ls[k] → Calls Tryd.prog 18 #[u1, u2] W fun e w' => e = .returned (.bool true) ∧ Below W.heap.size W w') := fun W u1 u2 q1 q2 => by
        have := same_sla u1 u2 ls[k] ls[k] (HR.out _ (List.getElem_mem hkl)) W q1 q2
        rwa [decide_eq_true rfl] at this
      obtain ⟨b1, o1, A3, c3, ea1, hu1, hs1⟩ := (H1.out.below hb).at k hkl
      obtain ⟨b2, o2, A4, c4, ea2, hu2, hs2⟩ := (H2.out.below hb).at k hkl
      subst ea1; subst ea2
      have hS1 := hid hs1; have hS2 := hid hs2
      obtain ⟨m, hm⟩ : ∃ m, (ls[k]).length = m := ⟨_, rfl⟩
      rw [hm] at hu1 hu2 hS1 hS2
      have HN2 : TwoP wr ⟨b1, o1 + k, none⟩ ⟨b2, o2 + k, none⟩ (.slice A3 m c3) (.slice A4 m c4) wr := ⟨hid (Below.refl _ _), hu1, hu2⟩
      have HN2 := hid HN2
      have p1 : (0 : Int) ≤ (k : Int) := by omega
      have p2 : (k : Int) < (n : Int) := by omega
      clear hs1 hs2 hm
      go_wp2
      go_region_held3 (fun w' => Hid (Below wr.heap.size wr w') ∧ w'.cell? ⟨b1, o1 + k, none⟩ = some (.slice A3 m c3) ∧ w'.cell? ⟨b2, o2 + k, none⟩ = some (.slice A4 m c4))
        (first | exact HN2.out | exact twoP_drew HN2.out | exact twoP_call (by assumption) hbo | exact twoP_drew (by assumption) | assumption)
        ((go_at_call 18; ((with_reducible refine (HC.out _ _ _ ?_ ?_).mono ?_); (first | exact hS1.out | exact SlA.below hS1.out (Below.refl _ _).drew); (first | exact hS2.out | exact SlA.below hS2.out (Below.refl _ _).drew); rintro e w5 ⟨rfl, hbo⟩)))
      all_goals
        rename_i hLast
        go_wp2
        go_roundw
        case rel => exact ⟨k + 1, by omega, by go_num, hb.trans (hLast.1.out.mono hb.size)⟩
        case measure => simp [intOf]; omega
    · go_wp2
      go_ret
      exact ⟨rfl, hb⟩

theorem SlA.holdsA {w : World} {A : Option Addr} {n c : Nat} {l : List UInt8} (h : SlA w (.slice A n c) l) : HoldsA w A l := by
  obtain ⟨_, _, e1, _, _, g1, _⟩ := h
  injection e1 with e1 _ _
  subst e1
  exact g1

/-- Nothing is appended. -/
theorem run_append_nothing (w : World) (B : Nat) (v : Value) (l : List UInt8) (h : Row w B v l) (c : Nat) : (Builtin.append_ #[22, 22] 22 #[v, .slice none 0 c]).run Tryd.prog w = .ok v w := by
  obtain ⟨i0, hi, hz0, hz1, hz2⟩ := info_parts info_u8
  obtain ⟨h1, h2⟩ := h
  rcases h2 with ⟨rfl, h0⟩ | ⟨g, cap, cur, rfl, hB, hh, hn, hm, hs, ht⟩
  · have h1 := run_underlying (P := Tryd.prog) Tryd.underlying22
    have hlen : (Builtin.lenOf (.slice none 0 c)).run Tryd.prog w = .ok 0 w := rfl
    simp [Builtin.append_, h1, sizeOf, typeInfo, hi, Builtin.firstCells, hlen]
  · have := run_append_room_src (P := Tryd.prog) (w := w) 22 22 22 5 i0 Tryd.underlying22 hi g 0 l.length cap (.slice none 0 c) 0 [] (Src.ofNil w Tryd.underlying22 c) (by omega) (fun j hj => absurd hj (by simp)) (fun j hj => absurd hj (by simp))
    rw [this]
    rfl

section
variable {ops : Array Oper} {rest : List Oper} {o : Oper} {a : Act} {Q : Exit → Act → World → Prop}
/-- append of a slice that holds some bytes, or none, to a row of the call's own. -/
theorem wpList_append_any (hgd : o.guard = Option.none) (s x : Operand)
    (ho : o.op = .call { callee := .builtin .append, args := #[s, x], argTypes := #[22, 22] }) (hty : o.type = 22)
    (w : World) (base : Nat) (v : Value) (l : List UInt8) (hs : a.eval s = v) (hown : Row w base v l)
    (A : Option Addr) (c : Nat) (news : List UInt8) (hx : a.eval x = .slice A news.length c) (hnews : HoldsA w A news)
    (hlen : l.length + news.length ≤ 1000000) (hbase : base ≤ w.heap.size)
    (h : ∀ v' w', Row w' base v' (l ++ news) → Below base w w' → wpList Tryd.prog ops Q rest (a.put o.dst v') w') : wpList Tryd.prog ops Q (o :: rest) a w := by
  match A, hx, hnews with
  | none, hx, hnews =>
    have h0 : news = [] := by
      cases news with
      | nil => rfl
      | cons y t => obtain ⟨b, off, e, _⟩ := hnews (by simp); cases e
    subst h0
    refine Lib.wpList_append_run w hgd s x 22 22 ho v _ hs hx v w ?_ (h v w (by rwa [List.append_nil]) (Below.refl _ _))
    rw [hty]
    exact run_append_nothing w base v l hown c
  | some ad, hx, hnews =>
    refine wpList_append_bytes hgd s x ho w base v l hs hown ad news.length c news rfl hx (fun j u hu => ?_) hlen hbase h
    have hj : j < news.length := by
      rcases Nat.lt_or_ge j news.length with h1 | h1
      · exact h1
      · rw [bc_at, List.getElem?_eq_none h1] at hu; cases hu
    obtain ⟨b, off, e, hh⟩ := hnews (by omega)
    cases e
    rw [add_zero_off, hh j hj, ← hu, bc_at, List.getElem?_eq_getElem hj, List.getD_eq_getElem?_getD, List.getElem?_eq_getElem hj]
    rfl
end

theorem empty_row (W : World) (B : Nat) (hB : B ≤ W.heap.size) : Row (W.alloc (.cells #[] 5)) B (.slice (some ⟨W.heap.size, 0, none⟩) 0 0) [] := Row.new W B hB [] (by unfold maxLen; simp)
set_option maxHeartbeats 1000000 in
theorem copy_any (v : Value) (l : List UInt8) (hl : l.length ≤ 1000000) (w : World) (h : SlA w v l) :
    Calls Tryd.prog 11 #[v] w fun e w' => ∃ v', e = .returned v' ∧ Row w' w.heap.size v' l ∧ Below w.heap.size w w' := by
  have HS := hid h
  obtain ⟨A, c, rfl, _⟩ := h
  have HR := hid (empty_row w w.heap.size (Nat.le_refl _))
  have HL := hid hl
  clear hl
  go_enter Tryd.func11, Tryd.ntmps11
  go_wp2_with (at_builtin; refine wpList_append_any rfl (.tmp 5) (.tmp 6) rfl rfl _ w.heap.size _ [] rfl HR.out A c l rfl (HS.out.below (below_new w _)).holdsA (by have := HL.out; simp only [List.length_nil]; omega) (by simp) ?_; intro v' w' hR' hb')
  go_ret
  exact ⟨_, rfl, hR', (below_new w _).trans hb'⟩
end Go.Proofs.YtpjkhholpbfbpaaDoor

/- Lists of package codec: the bytes of a list, and the list of bytes; the reader's some bytes and its list at any bytes; codec.Parts. Conditions: the reader holds the bytes, a hundred thousand at most. -/
namespace Go.Proofs.YtpjkhholpbfbpaaDoor
open Go.RowKit

def rowsM : List (List UInt8) → List UInt8
  | [] => []
  | x :: t => numW x.length ++ (x ++ rowsM t)
/-- A list's bytes. -/
def listM (ls : List (List UInt8)) : List UInt8 := numW ls.length ++ rowsM ls
def ptM : Nat → List UInt8 → Option (List (List UInt8) × List UInt8)
  | 0, l => some ([], l)
  | n + 1, l => match tk l with
    | none => none
    | some (k, r) => if k ≤ r.length then (ptM n (r.drop k)).map fun p => (r.take k :: p.1, p.2) else none
/-- The list of bytes. -/
def partsM (l : List UInt8) : Option (List (List UInt8)) := match tk l with
  | none => none
  | some (n, r) => match ptM n r with
    | some (ls, []) => some ls
    | _ => none
theorem ptM_rows : ∀ (ls : List (List UInt8)) (u : List UInt8), (∀ x ∈ ls, x.length < 9223372036854775808) → ptM ls.length (rowsM ls ++ u) = some (ls, u)
  | [], u, _ => rfl
  | x :: t, u, h => by
    have hx := h x (List.mem_cons_self ..)
    show ptM (t.length + 1) _ = _
    rw [ptM]
    have e : rowsM (x :: t) ++ u = numW x.length ++ (x ++ (rowsM t ++ u)) := by
      show (numW x.length ++ (x ++ rowsM t)) ++ u = _
      simp [List.append_assoc]
    rw [e, tk_num _ hx]
    simp only []
    rw [if_pos (by simp), List.drop_left, List.take_left, ptM_rows t u (fun y hy => h y (List.mem_cons_of_mem _ hy))]
    rfl
theorem parts_list (ls : List (List UInt8)) (h : ∀ x ∈ ls, x.length < 9223372036854775808) (hl : ls.length < 9223372036854775808) : partsM (listM ls) = some ls := by
  unfold partsM listM
  rw [tk_num _ hl]
  have := ptM_rows ls [] h
  rw [List.append_nil] at this
  simp only [this]

set_option maxHeartbeats 1000000 in
theorem some_z0 (rb : Nat) (A : Option Addr) (w : World) (h0 : w.cell? ⟨rb, 0, none⟩ = some (.slice A 0 0)) (hf : w.frozen? ⟨rb, 0, none⟩ = false) :
    Calls Tryd.prog 77 #[.pointer (some ⟨rb, 0, none⟩), .int .i64 0] w fun e w' => e = .returned (.slice A 0 0) ∧ w' = w.setCell ⟨rb, 0, none⟩ (.slice A 0 0) := by
  cases A with
  | none =>
    go_enter Tryd.func77, Tryd.ntmps77
    go_wp2_with (go_at_call 72; refine (want_yes _ _).mono ?_; rintro e w1 ⟨rfl, rfl⟩)
    go_ret
    exact ⟨rfl, rfl⟩
  | some ad =>
    go_enter Tryd.func77, Tryd.ntmps77
    go_wp2_with (go_at_call 72; refine (want_yes _ _).mono ?_; rintro e w1 ⟨rfl, rfl⟩)
    go_ret
    exact ⟨rfl, rfl⟩
set_option maxHeartbeats 1000000 in
theorem some_z1 (rb c : Nat) (A : Option Addr) (hc : 0 < c) (_hc2 : c ≤ 9223372036854775807) (w : World) (h0 : w.cell? ⟨rb, 0, none⟩ = some (.slice A 0 c)) (hf : w.frozen? ⟨rb, 0, none⟩ = false) :
    Calls Tryd.prog 77 #[.pointer (some ⟨rb, 0, none⟩), .int .i64 0] w fun e w' => e = .returned (.slice A 0 c) ∧ w' = w.setCell ⟨rb, 0, none⟩ (.slice A 0 c) := by
  cases A with
  | none =>
    go_enter Tryd.func77, Tryd.ntmps77
    go_wp2_with (go_at_call 72; refine (want_yes _ _).mono ?_; rintro e w1 ⟨rfl, rfl⟩)
    go_ret
    exact ⟨rfl, rfl⟩
  | some ad =>
    go_enter Tryd.func77, Tryd.ntmps77
    go_wp2_with (go_at_call 72; refine (want_yes _ _).mono ?_; rintro e w1 ⟨rfl, rfl⟩)
    go_ret
    exact ⟨rfl, rfl⟩

def SoEnd (w : World) (rb : Nat) (l : List UInt8) (k : Nat) (e : Ending) (w' : World) : Prop :=
  But w.heap.size rb w w' ∧ if k ≤ l.length then (∃ A c, e = .returned (.slice A k c) ∧ HoldsA w' A (l.take k)) ∧ St w' rb (l.drop k) else e = otherP
theorem some_any (rb k : Nat) (l : List UInt8) (w : World) (h : St w rb l) :
    Calls Tryd.prog 77 #[.pointer (some ⟨rb, 0, none⟩), .int .i64 k] w (SoEnd w rb l k) := by
  obtain ⟨⟨v, h0, A, c, rfl, h2, h3, h4⟩, hf, hlt⟩ := id h
  unfold SoEnd
  by_cases hk : k ≤ l.length
  · by_cases hl : 0 < l.length
    · obtain ⟨b, off, rfl, hb, hh⟩ := h4 hl
      have hB : ∀ v, But w.heap.size rb w (w.setCell ⟨rb, 0, none⟩ v) := fun v => (But.refl _ _ _).setCell _ _
      have hR : Rd w rb (restV b off l.length c k) (l.drop k) := rd_rest hk h2 h3 hb hh
      have fin : ∀ w' e c', e = .returned (.slice (some ⟨b, off, none⟩) k c') → w' = w.setCell ⟨rb, 0, none⟩ (restV b off l.length c k) → But w.heap.size rb w w' ∧ if k ≤ l.length then (∃ A c, e = .returned (.slice A k c) ∧ HoldsA w' A (l.take k)) ∧ St w' rb (l.drop k) else e = otherP := by
        intro w' e c' he hw
        subst hw
        rw [if_pos hk]
        refine ⟨hB _, ⟨⟨_, c', he, fun _ => ⟨b, off, rfl, fun i hi => ?_⟩⟩, ⟨⟨_, cell_set_rb h0 _, hR.below ((hB _).low hlt)⟩, by rw [World.frozen?_setCell]; exact hf, by simpa using hlt⟩⟩⟩
        have hik : i < k := by rw [List.length_take] at hi; omega
        rw [World.cell?_setCell_other _ _ _ _ (by intro e; have := congrArg Addr.block e; simp at this; omega), hh i (by omega)]
        simp only [List.getD_eq_getElem?_getD, List.getElem?_take_of_lt hik]
      by_cases hkc : k < c
      · refine (some_in rb b off l.length c k hkc hk h2 h3 w h0 hf).mono fun e w' ⟨he, hw⟩ => fin w' e c he ?_
        unfold restV; rw [if_pos hkc]; exact hw
      · have e1 : c = k := by omega
        have e2 : l.length = k := by omega
        have h0' : w.cell? ⟨rb, 0, none⟩ = some (.slice (some ⟨b, off, none⟩) k k) := by rw [h0, e1, e2]
        refine (some_all rb b off k (by omega) w h0' hf).mono fun e w' ⟨he, hw⟩ => fin w' e k he ?_
        unfold restV; rw [if_neg hkc]; exact hw
    · have hl0 : l = [] := List.eq_nil_of_length_eq_zero (by omega)
      subst hl0
      obtain rfl : k = 0 := by simpa using hk
      have fin : ∀ w' e, e = .returned (.slice A 0 c) → w' = w.setCell ⟨rb, 0, none⟩ (.slice A 0 c) → But w.heap.size rb w w' ∧ if (0 : Nat) ≤ ([] : List UInt8).length then (∃ A c, e = .returned (.slice A 0 c) ∧ HoldsA w' A (([] : List UInt8).take 0)) ∧ St w' rb (([] : List UInt8).drop 0) else e = otherP := by
        intro w' e he hw
        subst hw
        rw [if_pos (by simp)]
        have hB : But w.heap.size rb w (w.setCell ⟨rb, 0, none⟩ (.slice A 0 c)) := (But.refl _ _ _).setCell _ _
        exact ⟨hB, ⟨_, c, he, fun h => absurd h (by simp)⟩, ⟨⟨_, cell_set_rb h0 _, A, c, rfl, by simp, h3, fun h => absurd h (by simp)⟩, by rw [World.frozen?_setCell]; exact hf, by simpa using hlt⟩⟩
      by_cases hc : 0 < c
      · exact (some_z1 rb c A hc h3 w h0 hf).mono fun e w' ⟨he, hw⟩ => fin w' e he hw
      · obtain rfl : c = 0 := by omega
        exact (some_z0 rb A w h0 hf).mono fun e w' ⟨he, hw⟩ => fin w' e he hw
  · exact (some_no rb l.length c k A (by omega) w h0).mono fun e w' ⟨he, hw⟩ => ⟨by rw [← hw]; exact But.refl _ _ _, by rw [if_neg hk]; exact he⟩

theorem RowL.but {w w' : World} {B rb : Nat} {v : Value} {xs : List (List UInt8)} (h : RowL w B v xs) (hb : But w.heap.size rb w w') (hr : rb < B) : RowL w' B v xs := by
  obtain ⟨vs, ho, hx⟩ := h
  refine ⟨vs, ?_, fun i x hi => ?_⟩
  · refine ⟨ho.1, ?_⟩
    rcases ho.2 with h2 | ⟨g, cap, cur, rfl, hB, hh, hrest⟩
    · exact .inl h2
    · have hg : g < w.heap.size := by
        rcases Nat.lt_or_ge g w.heap.size with h' | h'
        · exact h'
        · rw [Array.getElem?_eq_none h'] at hh; cases hh
      exact .inr ⟨g, cap, cur, rfl, hB, by rw [hb.block g hg (by omega)]; exact hh, hrest⟩
  · obtain ⟨u, hu, hR⟩ := hx i x hi
    exact ⟨u, hu, hR.but hb hr⟩

def LiEnd (w : World) (rb : Nat) (l : List UInt8) (e : Ending) (w' : World) : Prop :=
  But w.heap.size rb w w' ∧ match partsM l with
    | some ls => ∃ v, e = .returned v ∧ RowL w' w.heap.size v ls
    | none => e = otherP
theorem LiEnd.no {w w' : World} {rb : Nat} {l : List UInt8} (h : partsM l = none) (hb : But w.heap.size rb w w') : LiEnd w rb l otherP w' := by
  unfold LiEnd; rw [h]; exact ⟨hb, rfl⟩
theorem ptM_some {n : Nat} {l r : List UInt8} {k : Nat} (ht : tk l = some (k, r)) (hk : k ≤ r.length) : ptM (n + 1) l = (ptM n (r.drop k)).map fun p => (r.take k :: p.1, p.2) := by
  rw [ptM, ht]; simp only []; rw [if_pos hk]

set_option maxRecDepth 100000 in
set_option maxHeartbeats 4000000 in
theorem rlist_any (rb : Nat) (l : List UInt8) (hl : l.length ≤ 100000) (w : World) (h : St w rb l) :
    Calls Tryd.prog 44 #[.pointer (some ⟨rb, 0, none⟩)] w (LiEnd w rb l) := by
  have HLT := hid h.2.2
  have HN := number_any rb l w h
  unfold NEnd at HN
  cases ht : tk l with
  | none =>
    rw [ht] at HN
    have HN := hid HN
    have HP : Hid (partsM l = none) := by unfold Hid partsM; rw [ht]
    clear h ht
    go_enter Tryd.func44, Tryd.ntmps44
    go_wp2_with (go_at_call 41; refine HN.out.mono ?_; rintro e w1 ⟨hb1, rfl⟩)
    refine ⟨rfl, ?_⟩
    exact LiEnd.no HP.out hb1
  | some p =>
    obtain ⟨n, r0⟩ := p
    rw [ht] at HN
    obtain ⟨j, hj1, _, hj2, hr0, hn128⟩ := tkGo_rest _ _ _ _ _ ht
    have hr0l : r0.length ≤ 100000 := by rw [hr0, List.length_drop]; omega
    have hnb : n < 9223372036854775808 := by
      have hj9 : j ≤ 9 := by omega
      have : 128 ^ j ≤ 128 ^ 9 := Nat.pow_le_pow_right (by decide) hj9
      have : (128 : Nat) ^ 9 = 9223372036854775808 := by decide
      omega
    obtain ⟨y, hy⟩ : ∃ y : Int, (n : Int) = y := ⟨_, rfl⟩
    have HY := hid (And.intro hy hnb)
    have HN : Hid (Calls Tryd.prog 41 #[.pointer (some ⟨rb, 0, none⟩)] w fun e w' => But w.heap.size rb w w' ∧ e = .returned (.int .i64 y) ∧ St w' rb r0) := by rw [← hy]; exact HN
    have HP : Hid (∀ q, ptM n r0 = q → partsM l = match q with | some (ls, []) => some ls | _ => none) := fun q hq => by unfold partsM; rw [ht]; simp only []; rw [hq]
    have HR0 := hid hr0l
    have hy0 : 0 ≤ y := by omega
    have hyb : y ≤ 9223372036854775807 := by omega
    clear h ht hj1 hj2 hr0 hn128 hr0l hy hnb
    go_enter Tryd.func44, Tryd.ntmps44
    go_wp2_with (go_at_call 41; refine HN.out.mono ?_; rintro e w1 ⟨hb1, rfl, hS1⟩)
    clear HN
    have HB1 := hid hb1
    have HS1 := hid hS1
    clear hb1 hS1
    go_loopw [3, 6] (fun vl vi wr => ∃ (i : Nat) (x : Int) (xs : List (List UInt8)) (t : List UInt8), vi = .int .i64 x ∧ 0 ≤ x ∧ x ≤ y ∧ Hid (x = (i : Int)) ∧ Hid (RowL wr w.heap.size vl xs) ∧ Hid (ptM n r0 = (ptM (n - i) t).map fun p => (xs ++ p.1, p.2)) ∧ Hid (St wr rb t) ∧ Hid (But w.heap.size rb w wr) ∧ Hid (xs.length + t.length ≤ 100000)) (fun _ vi _ => y.toNat - (intOf vi).toNat)
    case atStart => exact ⟨0, 0, [], r0, rfl, by omega, hy0, rfl, RowL.none _ _, by unfold Hid; rw [Nat.sub_zero]; cases ptM n r0 <;> simp, HS1.out, HB1.out, by unfold Hid; have := HR0.out; simp; omega⟩
    case round =>
      obtain ⟨i, x, xs, t, rfl, hx0, hxy, HI, HR, HT, HS, HB, HL⟩ := hrel
      by_cases hlt : x < y
      · have HNN : Hid (n - i = (n - (i + 1)) + 1) := by have := HI.out; have := HY.out.1; unfold Hid; omega
        have HO := number_any rb t wr HS.out
        unfold NEnd at HO
        cases ht : tk t with
        | none =>
          rw [ht] at HO
          have HO := hid HO
          have HE : Hid (partsM l = none) := by
            have h1 := HT.out
            rw [HNN.out, ptM, ht] at h1
            exact HP.out _ h1
          clear ht
          go_wp2_with (go_at_call 41; refine HO.out.mono ?_; rintro e w2 ⟨hb2, rfl⟩)
          refine ⟨rfl, ?_⟩
          exact LiEnd.no HE.out (HB.out.trans (hb2.mono HB.out.size))
        | some p =>
          obtain ⟨k, r⟩ := p
          rw [ht] at HO
          obtain ⟨j, hj1, _, hj2, hr0, hk128⟩ := tkGo_rest _ _ _ _ _ ht
          have hrl : r.length + 1 ≤ t.length := by rw [hr0, List.length_drop]; omega
          obtain ⟨z, hz⟩ : ∃ z : Int, (k : Int) = z := ⟨_, rfl⟩
          have HO : Hid (Calls Tryd.prog 41 #[.pointer (some ⟨rb, 0, none⟩)] wr fun e w' => But wr.heap.size rb wr w' ∧ e = .returned (.int .i64 z) ∧ St w' rb r) := by rw [← hz]; exact HO
          by_cases hk : k ≤ r.length
          · have HM : Hid (∀ W, St W rb r → Calls Tryd.prog 77 #[.pointer (some ⟨rb, 0, none⟩), .int .i64 z] W fun e w' => But W.heap.size rb W w' ∧ (∃ A c, e = .returned (.slice A k c) ∧ HoldsA w' A (r.take k)) ∧ St w' rb (r.drop k)) := fun W hW => by
              rw [← hz]
              refine (some_any rb k r W hW).mono fun e w' h => ?_
              unfold SoEnd at h
              rwa [if_pos hk] at h
            have HCl : Hid (∀ W A c, HoldsA W A (r.take k) → Calls Tryd.prog 42 #[.slice A k c] W fun e w' => ∃ v, e = .returned v ∧ Row w' W.heap.size v (r.take k) ∧ Below W.heap.size W w') := fun W A c hA => by
              have h := clone_any A c (r.take k) (by have := HL.out; simp; omega) W hA
              rwa [show (r.take k).length = k by simp; omega] at h
            have HT2 : Hid (ptM n r0 = (ptM (n - (i + 1)) (r.drop k)).map fun p => ((xs ++ [r.take k]) ++ p.1, p.2)) := by
              unfold Hid
              rw [HT.out, HNN.out, ptM_some ht hk, Option.map_map]
              congr 1
              funext p
              simp
            have HL2 : Hid ((xs ++ [r.take k]).length + (r.drop k).length ≤ 100000) := by
              have := HL.out
              unfold Hid
              simp only [List.length_append, List.length_cons, List.length_nil, List.length_drop]
              omega
            have HXL : Hid (xs.length ≤ 1000000) := by have := HL.out; unfold Hid; omega
            clear ht hz hj1 hj2 hr0 hk128 hrl hk
            generalize r.take k = Y at HM HCl HT2 HL2
            go_wp2_with (first
              | (go_at_call 41; refine HO.out.mono ?_; rintro e w2 ⟨hb2, rfl, hS2⟩)
              | (go_at_call 77; refine (HM.out _ hS2).mono ?_; rintro e w3 ⟨hb3, ⟨A3, c3, rfl, hA3⟩, hS3⟩)
              | (go_at_call 42; refine (HCl.out _ _ _ hA3).mono ?_; rintro e w4 ⟨v4, rfl, hR4, hb4⟩; have HR4 := hid hR4; obtain ⟨A4, c4, rfl, _⟩ := hR4.sla)
              | (at_builtin; (refine wpList_append_row rfl (.tmp 8) (.tmp 14) rfl _ w.heap.size _ xs rfl ((((HR.out.but hb2 HLT.out).but hb3 HLT.out).below hb4).below (below_new _ _)) w4.heap.size 1 _ Y rfl (cell_one _ _ _) ((HR4.out.le (Nat.le_trans (Nat.le_trans HB.out.size hb2.size) hb3.size)).alloc _) HXL.out (by have := HB.out.size; have := hb2.size; have := hb3.size; have := hb4.size; simp; omega) ?_; intro v5 w5 hR5 hb5)))
            have hz3 : w.heap.size ≤ w3.heap.size := Nat.le_trans (Nat.le_trans HB.out.size hb2.size) hb3.size
            have hz4 : w.heap.size ≤ w4.heap.size := Nat.le_trans hz3 hb4.size
            have hk5 : Below w.heap.size w3 w5 := ((hb4.mono hz3).alloc hz4 _).trans hb5
            go_roundw
            case rel => exact ⟨i + 1, x + 1, xs ++ [Y], r.drop k, by go_num, by omega, by omega, by unfold Hid; have := HI.out; omega, hR5, HT2.out, hS3.keep (hk5.mono HLT.out), ((HB.out.trans (hb2.mono HB.out.size)).trans (hb3.mono (Nat.le_trans HB.out.size hb2.size))).trans (But.of_below hk5 rb), HL2.out⟩
            case measure => simp [intOf]; omega
          · have HM : Hid (∀ W, St W rb r → Calls Tryd.prog 77 #[.pointer (some ⟨rb, 0, none⟩), .int .i64 z] W fun e w' => But W.heap.size rb W w' ∧ e = otherP) := fun W hW => by
              rw [← hz]
              refine (some_any rb k r W hW).mono fun e w' h => ?_
              unfold SoEnd at h
              rwa [if_neg hk] at h
            have HE : Hid (partsM l = none) := by
              have h1 := HT.out
              rw [HNN.out, ptM, ht] at h1
              simp only [] at h1
              rw [if_neg hk] at h1
              exact HP.out _ h1
            clear ht hz hj1 hj2 hr0 hk128 hrl hk
            go_wp2_with (first
              | (go_at_call 41; refine HO.out.mono ?_; rintro e w2 ⟨hb2, rfl, hS2⟩)
              | (go_at_call 77; refine (HM.out _ hS2).mono ?_; rintro e w3 ⟨hb3, rfl⟩))
            refine ⟨rfl, ?_⟩
            exact LiEnd.no HE.out ((HB.out.trans (hb2.mono HB.out.size)).trans (hb3.mono (Nat.le_trans HB.out.size hb2.size)))
      · have HZ : Hid (n - i = 0) := by have := HI.out; have := HY.out.1; unfold Hid; omega
        have hst := HS.out
        obtain ⟨⟨v, hv, A, c, rfl, hs2, hs3, hs4⟩, hs5, hs6⟩ := hst
        cases t with
        | nil =>
          have hv : wr.cell? ⟨rb, 0, none⟩ = some (.slice A 0 c) := hv
          have HE : Hid (partsM l = some xs) := by
            have h1 := HT.out
            rw [HZ.out, ptM] at h1
            have h2 := HP.out _ h1
            unfold Hid
            simpa using h2
          clear hs2 hs3 hs4 hs5 hs6
          go_wp2_with (go_at_call 72; ((with_reducible refine (want_yes _ _).mono ?_); rintro e w9 ⟨rfl, rfl⟩))
          go_ret
          unfold LiEnd
          rw [HE.out]
          exact ⟨HB.out, _, rfl, HR.out⟩
        | cons y' t =>
          have hv : wr.cell? ⟨rb, 0, none⟩ = some (.slice A (t.length + 1) c) := hv
          have q9 : ((t.length : Int) + 1 == 0) = false := by simp; omega
          have HE : Hid (partsM l = none) := by
            have h1 := HT.out
            rw [HZ.out, ptM] at h1
            have h2 := HP.out _ h1
            unfold Hid
            simpa using h2
          clear hs2 hs3 hs4 hs5 hs6
          go_wp2_with (go_at_call 72; ((with_reducible refine (want_no _ _).mono ?_); rintro e w9 ⟨rfl, rfl⟩))
          refine ⟨rfl, ?_⟩
          exact LiEnd.no HE.out HB.out
end Go.Proofs.YtpjkhholpbfbpaaDoor

/- Plain mathematics: what the document's Unescaped takes is what the reader takes; a list of bytes read part by part. No program in it. -/
namespace Go.Proofs.YtpjkhholpbfbpaaDoor
open Go.RowKit

theorem rdT_unE : ∀ (n : Nat) (l : List UInt8), l.length ≤ n → rdT l = (unE l).map fun p => (p.1, l.drop p.2)
  | 0, l, h => by
    have : l = [] := List.length_eq_zero_iff.1 (by omega)
    subst this; rfl
  | n + 1, [], _ => rfl
  | n + 1, [x], _ => by rw [unE_single]; rfl
  | n + 1, x :: y :: r, h => by
    simp only [List.length_cons] at h
    by_cases hx : x = 0
    · subst hx
      rw [rdT, if_pos rfl, unE_two]
      by_cases h1 : y = 1
      · rw [if_pos h1, if_pos h1]; rfl
      · rw [if_neg h1, if_neg h1]
        by_cases h2 : y = 255
        · rw [if_pos h2, if_pos h2, rdT_unE n r (by omega), Option.map_map, Option.map_map]
          rfl
        · rw [if_neg h2, if_neg h2]; rfl
    · rw [rdT_other hx, unE_ne hx, rdT_unE n (y :: r) (by simp only [List.length_cons]; omega), Option.map_map, Option.map_map]
      rfl
theorem rdT_un (l : List UInt8) : rdT l = (unE l).map fun p => (p.1, l.drop p.2) := rdT_unE l.length l (Nat.le_refl _)
theorem unE_some {l t : List UInt8} {k : Nat} (h : unE l = some (t, k)) : rdT l = some (t, l.drop k) := by rw [rdT_un, h]; rfl
theorem unE_none {l : List UInt8} (h : unE l = none) : rdT l = none := by rw [rdT_un, h]; rfl
theorem rdT_small {l t u : List UInt8} (h : rdT l = some (t, u)) : t.length + 2 + u.length ≤ l.length := by
  have e := congrArg List.length (rdT_rest h)
  have := esc_ge t
  simp only [List.length_append, List.length_cons] at e
  omega
theorem ptM_none {n : Nat} {l : List UInt8} (h : tk l = none) : ptM (n + 1) l = none := by rw [ptM, h]
theorem ptM_long {n k : Nat} {l r : List UInt8} (h : tk l = some (k, r)) (hk : ¬ k ≤ r.length) : ptM (n + 1) l = none := by rw [ptM, h]; simp only []; rw [if_neg hk]
theorem tk_less {l r : List UInt8} {n : Nat} (h : tk l = some (n, r)) : r.length < l.length := by
  obtain ⟨k, h1, _, h3, h4, _⟩ := tkGo_rest _ _ _ _ _ h
  rw [h4, List.length_drop]; omega
end Go.Proofs.YtpjkhholpbfbpaaDoor
