/- Several texts in one: TN TO TP TQ TR TS. Conditions: as each theorem names them. -/
import Derived.Test.YtjbjdkginemedaaGreatDoorQT1
import Derived.Test.YtjbjdkginemedaaGreatDoorQT0
import Derived.Test.YtjbjdkginemedaaGreatDoorQC
import Derived.Test.YtjbjdkginemedaaGreatDoorQK
/- sort.Search over a table's closure. Conditions: the closure's answers rise and it leaves what stands. -/
namespace Go.Proofs.YtjbjdkginemedaaGreatDoor
open Go.RowKit

set_option maxRecDepth 100000 in
set_option maxHeartbeats 4000000 in
theorem search_any (n : Nat) (hn : n ≤ 1000000) (P : Nat → Bool) (hP : ∀ i j, i ≤ j → j < n → P i = true → P j = true) (c1 c2 : Value) (w : World)
    (HF : ∀ W i, i < n → Below w.heap.size w W → Calls Tryz.prog 138 #[.int .i64 (i : Int), c1, c2] W fun e w' => e = .returned (.bool (P i)) ∧ Below W.heap.size W w') :
    Calls Tryz.prog 137 #[.int .i64 (n : Int), .func (.func 138) #[] #[c1, c2]] w fun e w' => ∃ m : Nat, e = .returned (.int .i64 (m : Int)) ∧ m ≤ n ∧ (∀ i, i < m → P i = false) ∧ (m < n → P m = true) ∧ Below w.heap.size w w' := by
  have HFh := hid HF
  have HPh := hid hP
  clear HF hP
  go_enter Tryz.func137, Tryz.ntmps137
  go_wp2
  go_loopw [5, 6] (fun vi vj wr => ∃ i j : Nat, i ≤ j ∧ j ≤ n ∧ vi = .int .i64 i ∧ vj = .int .i64 j ∧ Hid ((∀ k, k < i → P k = false) ∧ (∀ k, j ≤ k → k < n → P k = true)) ∧ Hid (Below w.heap.size w wr)) (fun vi vj _ => (intOf vj).toNat - (intOf vi).toNat)
  case atStart => exact ⟨0, n, Nat.zero_le _, Nat.le_refl _, rfl, rfl, ⟨fun k hk => by omega, fun k h1 h2 => by omega⟩, Below.refl _ _⟩
  case round =>
    obtain ⟨i, j, hij, hjn, rfl, rfl, HQ, HB⟩ := hrel
    by_cases hlt : i < j
    · have hltz : (i : Int) < (j : Int) := by omega
      obtain ⟨s, hs⟩ : ∃ s, i + j = s := ⟨_, rfl⟩
      obtain ⟨h, hh⟩ : ∃ h, s / 2 = h := ⟨_, rfl⟩
      have hz1 : (i : Int) + (j : Int) = (s : Int) := by omega
      have hz2 : IntKind.i64.wrap (s : Int) = (s : Int) := by rw [IntKind.wrap_i64]; omega
      have hz3 : (s : Int) / 2 = (h : Int) := by omega
      have hih : i ≤ h := by omega
      have hhj : h < j := by omega
      have hhw : IntKind.i64.wrap ((h : Int) + 1) = (h : Int) + 1 := by rw [IntKind.wrap_i64]; omega
      have HFx := hid (HFh.out wr h (by omega) HB.out)
      cases hp : P h with
      | true =>
        rw [hp] at HFx
        have HQ2 : Hid ((∀ k, k < i → P k = false) ∧ (∀ k, h ≤ k → k < n → P k = true)) := ⟨HQ.out.1, fun k h1 h2 => HPh.out h k h1 h2 hp⟩
        clear hp HQ hs hh
        go_wp2_with (first
          | (go_at_call 138; refine HFx.out.mono ?_; rintro e w1 ⟨rfl, hb1⟩; have HB1 := hid (HB.out.trans (hb1.mono HB.out.size)); clear hb1))
        go_roundw
        case rel => exact ⟨i, h, hih, by omega, rfl, by go_num, HQ2.out, HB1.out⟩
        case measure => simp [intOf]; omega
      | false =>
        rw [hp] at HFx
        have HQ2 : Hid ((∀ k, k < h + 1 → P k = false) ∧ (∀ k, j ≤ k → k < n → P k = true)) := by
          refine ⟨fun k h1 => ?_, HQ.out.2⟩
          cases hk : P k with
          | false => rfl
          | true =>
            have := HPh.out k h (by omega) (by omega) hk
            rw [hp] at this; cases this
        clear hp HQ hs hh
        go_wp2_with (first
          | (go_at_call 138; refine HFx.out.mono ?_; rintro e w1 ⟨rfl, hb1⟩; have HB1 := hid (HB.out.trans (hb1.mono HB.out.size)); clear hb1))
        go_roundw
        case rel => exact ⟨h + 1, j, by omega, hjn, by go_num, rfl, HQ2.out, HB1.out⟩
        case measure => simp [intOf]; omega
    · obtain rfl : i = j := by omega
      go_wp2
      go_ret
      exact ⟨i, rfl, hjn, HQ.out.1, fun h => HQ.out.2 i (Nat.le_refl _) h, HB.out⟩
end Go.Proofs.YtjbjdkginemedaaGreatDoor

/- What count's closure answers: what is so of a block. Conditions: the table, its index and what is asked stand. -/
namespace Go.Proofs.YtjbjdkginemedaaGreatDoor
open Go.RowKit

/-- A table's index stands, and what is asked of it, in boxes. -/
structure CoS (W : World) (t q1 q2 g off : Nat) (vb : Value) (n cap : Nat) (k : Int) (so : Value) (es : List En) : Prop where
  tb : Blk W t 92 #[vb, .slice (some ⟨g, off, none⟩) n cap, .int .i64 k]
  b1 : W.cell? ⟨q1, 0, none⟩ = some so
  b2 : W.cell? ⟨q2, 0, none⟩ = some (.pointer (some ⟨t, 0, none⟩))
  he : HE W g off es
  len : es.length = n
theorem CoS.below {W W' : World} {t q1 q2 g off : Nat} {vb : Value} {n cap : Nat} {k : Int} {so : Value} {es : List En} (h : CoS W t q1 q2 g off vb n cap k so es) (hb : Below W.heap.size W W') (h0 : 0 < es.length) : CoS W' t q1 q2 g off vb n cap k so es :=
  ⟨h.tb.keep hb h.tb.lt, (hb.cell (p := ⟨q1, 0, none⟩) (cell_lt h.b1)).trans h.b1, (hb.cell (p := ⟨q2, 0, none⟩) (cell_lt h.b2)).trans h.b2, h.he.below hb (h.he.lt h0), h.len⟩
/-- What the closure loads. -/
abbrev C1S (W1 : World) (t q1 q2 g off i n cap : Nat) (so : Value) (x : En) (W : World) : Prop :=
  Hid (Below W1.heap.size W1 W) ∧ W.cell? ⟨q1, 0, none⟩ = some so ∧ W.cell? ⟨q2, 0, none⟩ = some (.pointer (some ⟨t, 0, none⟩)) ∧ W.cell? ⟨t, 1, none⟩ = some (.slice (some ⟨g, off, none⟩) n cap) ∧ W.cell? ⟨g, off + i * 10, none⟩ = some (x.u) ∧ W.cell? ⟨g, off + i * 10 + 1, none⟩ = some (.string x.K.r) ∧ W.cell? ⟨g, off + i * 10 + 2, none⟩ = some (.string x.K.f) ∧ W.cell? ⟨g, off + i * 10 + 3, none⟩ = some (.string x.K.q) ∧ W.cell? ⟨g, off + i * 10 + 4, none⟩ = some (.int .i64 x.K.t) ∧ W.cell? ⟨g, off + i * 10 + 5, none⟩ = some (.int .i64 x.K.k) ∧ W.cell? ⟨g, off + i * 10 + 6, none⟩ = some (.int .i64 x.K.vk) ∧ W.cell? ⟨g, off + i * 10 + 7, none⟩ = some (.int .i64 x.K.vn) ∧ W.cell? ⟨g, off + i * 10 + 8, none⟩ = some (.string x.K.s) ∧ W.cell? ⟨g, off + i * 10 + 9, none⟩ = some (.int .i64 (x.p : Int))
theorem c1_drew {W1 W : World} {t q1 q2 g off i n cap : Nat} {so : Value} {x : En} (h : C1S W1 t q1 q2 g off i n cap so x W) : C1S W1 t q1 q2 g off i n cap so x W.drew := ⟨h.1.out.drew, h.2⟩
theorem c1_call {W1 W W' : World} {t q1 q2 g off i n cap : Nat} {so : Value} {x : En} (h : C1S W1 t q1 q2 g off i n cap so x W) (hb : Below W.heap.size W W') : C1S W1 t q1 q2 g off i n cap so x W' := by
  obtain ⟨h0, h1, h2, h3, a0, a1, a2, a3, a4, a5, a6, a7, a8, a9⟩ := h
  exact ⟨h0.out.trans (hb.mono h0.out.size), (hb.cell (cell_lt h1)).trans h1, (hb.cell (cell_lt h2)).trans h2, (hb.cell (cell_lt h3)).trans h3, (hb.cell (cell_lt a0)).trans a0, (hb.cell (cell_lt a1)).trans a1, (hb.cell (cell_lt a2)).trans a2, (hb.cell (cell_lt a3)).trans a3, (hb.cell (cell_lt a4)).trans a4, (hb.cell (cell_lt a5)).trans a5, (hb.cell (cell_lt a6)).trans a6, (hb.cell (cell_lt a7)).trans a7, (hb.cell (cell_lt a8)).trans a8, (hb.cell (cell_lt a9)).trans a9⟩

set_option maxRecDepth 100000 in
set_option maxHeartbeats 8000000 in
theorem count1_row1 (t q1 q2 g off i : Nat) (vb : Value) (n cap : Nat) (k : Int) (p1 : Value) (es : List En) (x : En) (hx : es[i]? = some x) (b : Bool) (w : World)
    (h : CoS w t q1 q2 g off vb n cap k (.func (.func 88) #[] #[p1]) es)
    (HF : ∀ W, Below w.heap.size w W → Calls Tryz.prog 88 #[.agg x.e.toArray, p1] W fun e w' => e = .returned (.bool b) ∧ Below W.heap.size W w') :
    Calls Tryz.prog 138 #[.int .i64 (i : Int), .pointer (some ⟨q1, 0, none⟩), .pointer (some ⟨q2, 0, none⟩)] w fun e w' => e = .returned (.bool b) ∧ Below w.heap.size w w' := by
  have HFh : Hid (∀ W, Below w.heap.size w W → Calls Tryz.prog 88 #[.agg #[x.u, .string x.K.r, .string x.K.f, .string x.K.q, .int .i64 x.K.t, .int .i64 x.K.k, .int .i64 x.K.vk, .int .i64 x.K.vn, .string x.K.s, .int .i64 (x.p : Int)], p1] W fun e w' => e = .returned (.bool b) ∧ Below W.heap.size W w') := HF
  have hin : i < n := by rw [← h.len]; exact (List.getElem?_eq_some_iff.1 hx).1
  have hiz : (i : Int) < (n : Int) := by omega
  have hiz0 : (0 : Int) ≤ (i : Int) := by omega
  have HT : Hid (C1S w t q1 q2 g off i n cap (.func (.func 88) #[] #[p1]) x w) := ⟨Below.refl _ _, h.b1, h.b2, h.tb.cell 1, en_words h.he i hx⟩
  obtain ⟨_, b1, b2, b3, a0, a1, a2, a3, a4, a5, a6, a7, a8, a9⟩ := HT.out
  clear h hx HF
  go_enter Tryz.func138, Tryz.ntmps138
  go_upto_region 1 with (fail)
  go_region_held3 (fun W' => Hid (Below w.heap.size w W') ∧ W'.cell? ⟨q1, 0, none⟩ = some (.func (.func 88) #[] #[p1]) ∧ W'.cell? ⟨q2, 0, none⟩ = some (.pointer (some ⟨t, 0, none⟩)) ∧ W'.cell? ⟨t, 1, none⟩ = some (.slice (some ⟨g, off, none⟩) n cap) ∧ W'.cell? ⟨g, off + i * 10, none⟩ = some (x.u) ∧ W'.cell? ⟨g, off + i * 10 + 1, none⟩ = some (.string x.K.r) ∧ W'.cell? ⟨g, off + i * 10 + 2, none⟩ = some (.string x.K.f) ∧ W'.cell? ⟨g, off + i * 10 + 3, none⟩ = some (.string x.K.q) ∧ W'.cell? ⟨g, off + i * 10 + 4, none⟩ = some (.int .i64 x.K.t) ∧ W'.cell? ⟨g, off + i * 10 + 5, none⟩ = some (.int .i64 x.K.k) ∧ W'.cell? ⟨g, off + i * 10 + 6, none⟩ = some (.int .i64 x.K.vk) ∧ W'.cell? ⟨g, off + i * 10 + 7, none⟩ = some (.int .i64 x.K.vn) ∧ W'.cell? ⟨g, off + i * 10 + 8, none⟩ = some (.string x.K.s) ∧ W'.cell? ⟨g, off + i * 10 + 9, none⟩ = some (.int .i64 (x.p : Int)))
    (first | exact HT.out | exact c1_drew HT.out | exact c1_call (by assumption) hb5 | exact c1_drew (by assumption) | assumption)
    (first | (go_at_call 88; refine (HFh.out _ ?_).mono ?_; (first | exact Hid.out (And.left (by assumption)) | exact (Below.refl _ _) | exact (Below.refl _ _).drew); rintro e w5 ⟨rfl, hb5⟩))
  rename_i hLast
  have HZ := hid hLast.1.out
  clear hLast
  go_wp2
  go_ret
  exact ⟨rfl, HZ.out⟩

set_option maxRecDepth 100000 in
set_option maxHeartbeats 8000000 in
theorem count1_row2 (t q1 q2 g off i : Nat) (vb : Value) (n cap : Nat) (k : Int) (p1 p2 : Value) (es : List En) (x : En) (hx : es[i]? = some x) (b : Bool) (w : World)
    (h : CoS w t q1 q2 g off vb n cap k (.func (.func 89) #[] #[p1, p2]) es)
    (HF : ∀ W, Below w.heap.size w W → Calls Tryz.prog 89 #[.agg x.e.toArray, p1, p2] W fun e w' => e = .returned (.bool b) ∧ Below W.heap.size W w') :
    Calls Tryz.prog 138 #[.int .i64 (i : Int), .pointer (some ⟨q1, 0, none⟩), .pointer (some ⟨q2, 0, none⟩)] w fun e w' => e = .returned (.bool b) ∧ Below w.heap.size w w' := by
  have HFh : Hid (∀ W, Below w.heap.size w W → Calls Tryz.prog 89 #[.agg #[x.u, .string x.K.r, .string x.K.f, .string x.K.q, .int .i64 x.K.t, .int .i64 x.K.k, .int .i64 x.K.vk, .int .i64 x.K.vn, .string x.K.s, .int .i64 (x.p : Int)], p1, p2] W fun e w' => e = .returned (.bool b) ∧ Below W.heap.size W w') := HF
  have hin : i < n := by rw [← h.len]; exact (List.getElem?_eq_some_iff.1 hx).1
  have hiz : (i : Int) < (n : Int) := by omega
  have hiz0 : (0 : Int) ≤ (i : Int) := by omega
  have HT : Hid (C1S w t q1 q2 g off i n cap (.func (.func 89) #[] #[p1, p2]) x w) := ⟨Below.refl _ _, h.b1, h.b2, h.tb.cell 1, en_words h.he i hx⟩
  obtain ⟨_, b1, b2, b3, a0, a1, a2, a3, a4, a5, a6, a7, a8, a9⟩ := HT.out
  clear h hx HF
  go_enter Tryz.func138, Tryz.ntmps138
  go_upto_region 1 with (fail)
  go_region_held3 (fun W' => Hid (Below w.heap.size w W') ∧ W'.cell? ⟨q1, 0, none⟩ = some (.func (.func 89) #[] #[p1, p2]) ∧ W'.cell? ⟨q2, 0, none⟩ = some (.pointer (some ⟨t, 0, none⟩)) ∧ W'.cell? ⟨t, 1, none⟩ = some (.slice (some ⟨g, off, none⟩) n cap) ∧ W'.cell? ⟨g, off + i * 10, none⟩ = some (x.u) ∧ W'.cell? ⟨g, off + i * 10 + 1, none⟩ = some (.string x.K.r) ∧ W'.cell? ⟨g, off + i * 10 + 2, none⟩ = some (.string x.K.f) ∧ W'.cell? ⟨g, off + i * 10 + 3, none⟩ = some (.string x.K.q) ∧ W'.cell? ⟨g, off + i * 10 + 4, none⟩ = some (.int .i64 x.K.t) ∧ W'.cell? ⟨g, off + i * 10 + 5, none⟩ = some (.int .i64 x.K.k) ∧ W'.cell? ⟨g, off + i * 10 + 6, none⟩ = some (.int .i64 x.K.vk) ∧ W'.cell? ⟨g, off + i * 10 + 7, none⟩ = some (.int .i64 x.K.vn) ∧ W'.cell? ⟨g, off + i * 10 + 8, none⟩ = some (.string x.K.s) ∧ W'.cell? ⟨g, off + i * 10 + 9, none⟩ = some (.int .i64 (x.p : Int)))
    (first | exact HT.out | exact c1_drew HT.out | exact c1_call (by assumption) hb5 | exact c1_drew (by assumption) | assumption)
    (first | (go_at_call 89; refine (HFh.out _ ?_).mono ?_; (first | exact Hid.out (And.left (by assumption)) | exact (Below.refl _ _) | exact (Below.refl _ _).drew); rintro e w5 ⟨rfl, hb5⟩))
  rename_i hLast
  have HZ := hid hLast.1.out
  clear hLast
  go_wp2
  go_ret
  exact ⟨rfl, HZ.out⟩

set_option maxRecDepth 100000 in
set_option maxHeartbeats 8000000 in
theorem count1_from1 (t q1 q2 g off i : Nat) (vb : Value) (n cap : Nat) (k : Int) (p1 : Value) (es : List En) (x : En) (hx : es[i]? = some x) (b : Bool) (w : World)
    (h : CoS w t q1 q2 g off vb n cap k (.func (.func 94) #[] #[p1]) es)
    (HF : ∀ W, Below w.heap.size w W → Calls Tryz.prog 94 #[.agg x.e.toArray, p1] W fun e w' => e = .returned (.bool b) ∧ Below W.heap.size W w') :
    Calls Tryz.prog 138 #[.int .i64 (i : Int), .pointer (some ⟨q1, 0, none⟩), .pointer (some ⟨q2, 0, none⟩)] w fun e w' => e = .returned (.bool b) ∧ Below w.heap.size w w' := by
  have HFh : Hid (∀ W, Below w.heap.size w W → Calls Tryz.prog 94 #[.agg #[x.u, .string x.K.r, .string x.K.f, .string x.K.q, .int .i64 x.K.t, .int .i64 x.K.k, .int .i64 x.K.vk, .int .i64 x.K.vn, .string x.K.s, .int .i64 (x.p : Int)], p1] W fun e w' => e = .returned (.bool b) ∧ Below W.heap.size W w') := HF
  have hin : i < n := by rw [← h.len]; exact (List.getElem?_eq_some_iff.1 hx).1
  have hiz : (i : Int) < (n : Int) := by omega
  have hiz0 : (0 : Int) ≤ (i : Int) := by omega
  have HT : Hid (C1S w t q1 q2 g off i n cap (.func (.func 94) #[] #[p1]) x w) := ⟨Below.refl _ _, h.b1, h.b2, h.tb.cell 1, en_words h.he i hx⟩
  obtain ⟨_, b1, b2, b3, a0, a1, a2, a3, a4, a5, a6, a7, a8, a9⟩ := HT.out
  clear h hx HF
  go_enter Tryz.func138, Tryz.ntmps138
  go_upto_region 1 with (fail)
  go_region_held3 (fun W' => Hid (Below w.heap.size w W') ∧ W'.cell? ⟨q1, 0, none⟩ = some (.func (.func 94) #[] #[p1]) ∧ W'.cell? ⟨q2, 0, none⟩ = some (.pointer (some ⟨t, 0, none⟩)) ∧ W'.cell? ⟨t, 1, none⟩ = some (.slice (some ⟨g, off, none⟩) n cap) ∧ W'.cell? ⟨g, off + i * 10, none⟩ = some (x.u) ∧ W'.cell? ⟨g, off + i * 10 + 1, none⟩ = some (.string x.K.r) ∧ W'.cell? ⟨g, off + i * 10 + 2, none⟩ = some (.string x.K.f) ∧ W'.cell? ⟨g, off + i * 10 + 3, none⟩ = some (.string x.K.q) ∧ W'.cell? ⟨g, off + i * 10 + 4, none⟩ = some (.int .i64 x.K.t) ∧ W'.cell? ⟨g, off + i * 10 + 5, none⟩ = some (.int .i64 x.K.k) ∧ W'.cell? ⟨g, off + i * 10 + 6, none⟩ = some (.int .i64 x.K.vk) ∧ W'.cell? ⟨g, off + i * 10 + 7, none⟩ = some (.int .i64 x.K.vn) ∧ W'.cell? ⟨g, off + i * 10 + 8, none⟩ = some (.string x.K.s) ∧ W'.cell? ⟨g, off + i * 10 + 9, none⟩ = some (.int .i64 (x.p : Int)))
    (first | exact HT.out | exact c1_drew HT.out | exact c1_call (by assumption) hb5 | exact c1_drew (by assumption) | assumption)
    (first | (go_at_call 94; refine (HFh.out _ ?_).mono ?_; (first | exact Hid.out (And.left (by assumption)) | exact (Below.refl _ _) | exact (Below.refl _ _).drew); rintro e w5 ⟨rfl, hb5⟩))
  rename_i hLast
  have HZ := hid hLast.1.out
  clear hLast
  go_wp2
  go_ret
  exact ⟨rfl, HZ.out⟩
end Go.Proofs.YtjbjdkginemedaaGreatDoor

/- What Row's and From's closures answer of an entry. Conditions: the entry's key and what is asked stand. -/
namespace Go.Proofs.YtjbjdkginemedaaGreatDoor
open Go.RowKit

set_option maxRecDepth 100000 in
set_option maxHeartbeats 8000000 in
theorem above_any (x : En) (q : Nat) (Au Af : Option Addr) (cu cf : Nat) (ky F : List UInt8) (hu : x.u = .slice Au ky.length cu) (w : World) (h1 : HoldsA w Au ky) (h2 : HoldsA w Af F) (hq : w.cell? ⟨q, 0, none⟩ = some (.slice Af F.length cf)) :
    Calls Tryz.prog 88 #[.agg x.e.toArray, .pointer (some ⟨q, 0, none⟩)] w fun e w' => e = .returned (.bool (decide (0 < Lib.compareBytes ky F))) ∧ Below w.heap.size w w' := by
  obtain ⟨n0, hn0⟩ : ∃ n, ky.length = n := ⟨_, rfl⟩
  obtain ⟨n1, hn1⟩ : ∃ n, F.length = n := ⟨_, rfl⟩
  obtain ⟨o, ho⟩ : ∃ o, Lib.compareBytes ky F = o := ⟨_, rfl⟩
  have HC : Hid (∀ W, Below w.heap.size w W → Calls Tryz.prog 40 #[.slice Au n0 cu, .slice Af n1 cf] W fun e w' => e = .returned (.int .i64 o) ∧ w' = W) := fun W hW => by
    rw [← hn0, ← hn1, ← ho]
    exact bcompare_any Au Af cu cf ky F W (h1.below hW) (h2.below hW)
  rw [ho]
  rw [hn0] at hu
  rw [hn1] at hq
  have hW0 : Hid (Blk (w.alloc (.cells x.e.toArray 106)) w.heap.size 106 (entW x.K (.slice Au n0 cu) x.p) ∧ Below w.heap.size w (w.alloc (.cells x.e.toArray 106))) := by
    refine ⟨?_, below_new _ _⟩
    have := Blk.new w 106 x.e.toArray
    rw [← hu]
    exact this
  obtain ⟨z0, z1, z2, z3, z4, z5, z6, z7, z8, z9⟩ := ent_words hW0.out.1
  have hq2 := (hW0.out.2.cell (p := ⟨q, 0, none⟩) (cell_lt hq)).trans hq
  clear hn0 hn1 ho h1 h2 hu hq
  go_enter Tryz.func88, Tryz.ntmps88
  go_wp2_with (go_at_call 40; refine (HC.out _ hW0.out.2).mono ?_; rintro e w6 ⟨rfl, rfl⟩)
  go_ret
  exact ⟨rfl, hW0.out.2⟩

set_option maxRecDepth 100000 in
set_option maxHeartbeats 8000000 in
theorem abovec_any (x : En) (q : Nat) (c : CT) (w : World) (hq : DW w q c) :
    Calls Tryz.prog 94 #[.agg x.e.toArray, .pointer (some ⟨q, 0, none⟩)] w fun e w' => e = .returned (.bool (decide (0 < CT.cmp x.K c))) ∧ Below w.heap.size w w' := by
  obtain ⟨o, ho⟩ : ∃ o, CT.cmp x.K c = o := ⟨_, rfl⟩
  have HC : Hid (∀ W, Calls Tryz.prog 50 #[x.K.v, c.v] W fun e w' => e = .returned (.int .i64 o) ∧ Below W.heap.size W w') := fun W => by
    rw [← ho]
    exact ordc_any x.K c W
  rw [ho]
  have hW0 : Hid (Blk (w.alloc (.cells x.e.toArray 106)) w.heap.size 106 (entW x.K x.u x.p) ∧ Below w.heap.size w (w.alloc (.cells x.e.toArray 106)) ∧ DW (w.alloc (.cells x.e.toArray 106)) q c) := ⟨Blk.new w _ _, below_new _ _, Blk.keep hq (below_new _ _) hq.lt⟩
  obtain ⟨z0, z1, z2, z3, z4, z5, z6, z7, z8, z9⟩ := ent_words hW0.out.1
  obtain ⟨d0, d1, d2, d3, d4, d5, d6, d7⟩ := hW0.out.2.2.words
  clear ho hq
  go_enter Tryz.func94, Tryz.ntmps94
  go_wp2_with (go_at_call 50; refine (HC.out _).mono ?_; rintro e w6 ⟨rfl, hb6⟩)
  go_ret
  exact ⟨rfl, hW0.out.2.1.trans (hb6.mono hW0.out.2.1.size)⟩

set_option maxRecDepth 100000 in
set_option maxHeartbeats 8000000 in
theorem prefix_any (A1 A2 : Option Addr) (c1 c2 : Nat) (l f : List UInt8) (hl : l.length ≤ 1000000) (hf : f.length ≤ 1000000) (hc1 : l.length ≤ c1) (w : World) (h1 : HoldsA w A1 l) (h2 : HoldsA w A2 f) :
    Calls Tryz.prog 90 #[.slice A1 l.length c1, .slice A2 f.length c2] w fun e w' => e = .returned (.bool (decide (f <+: l))) ∧ w' = w := by
  have hh : HoldsA w A1 (l.take f.length) := fun h0 => by
    obtain ⟨b, off, e, hc⟩ := h1 (by rw [List.length_take] at h0; omega)
    exact ⟨b, off, e, holds_take hc _⟩
  by_cases hle : f.length ≤ l.length
  · have hlen : (l.take f.length).length = f.length := by rw [List.length_take]; omega
    have hdec : decide (l.take f.length = f) = decide (f <+: l) := by
      rw [decide_eq_decide]
      constructor
      · intro e; rw [← e]; exact List.take_prefix _ _
      · intro h; exact (List.prefix_iff_eq_take.1 h).symm
    obtain ⟨n, hn⟩ : ∃ n, l.length = n := ⟨_, rfl⟩
    obtain ⟨m, hm⟩ : ∃ m, f.length = m := ⟨_, rfl⟩
    have HE : Hid (Calls Tryz.prog 118 #[.slice A1 m c1, .slice A2 m c2] w fun e w' => e = .returned (.bool (decide (f <+: l))) ∧ w' = w) := by
      have h3 := equal_any A1 A2 c1 c2 _ _ w hh h2
      rw [hlen, hdec, hm] at h3
      exact h3
    obtain ⟨B, hB⟩ : ∃ B, decide (f <+: l) = B := ⟨_, rfl⟩
    rw [hn] at hle hc1 hl
    rw [hm] at hle hf
    rw [hB] at HE ⊢
    rw [hn, hm]
    clear hh hlen hdec hn hm hB h1 h2
    have z1 : (m : Int) ≤ (n : Int) := by omega
    have z2 : (0 : Int) ≤ (m : Int) := by omega
    have z3 : (m : Int) ≤ (c1 : Int) := by omega
    have z4 : m ≤ c1 := by omega
    go_enter Tryz.func90, Tryz.ntmps90
    go_wp2_with (go_at_call 118; refine HE.out.mono ?_; rintro e w6 ⟨rfl, rfl⟩)
    go_ret
    exact ⟨rfl, rfl⟩
  · have hno : decide (f <+: l) = false := by
      rw [decide_eq_false_iff_not]
      intro h
      exact hle h.length_le
    rw [hno]
    obtain ⟨n, hn⟩ : ∃ n, l.length = n := ⟨_, rfl⟩
    obtain ⟨m, hm⟩ : ∃ m, f.length = m := ⟨_, rfl⟩
    rw [hn, hm] at hle
    rw [hn, hm]
    clear hh hn hm h1 h2 hc1 hl hf hno
    have z1 : ¬ (m : Int) ≤ (n : Int) := by omega
    have z2 : (n : Int) < (m : Int) := by omega
    go_enter Tryz.func90, Tryz.ntmps90
    go_wp2
    go_ret
    exact ⟨rfl, rfl⟩
end Go.Proofs.YtjbjdkginemedaaGreatDoor

/- Row's second closure: an entry above the row's keys that doesn't begin so; what gather lets. Conditions: the entry's key and what is asked stand. -/
namespace Go.Proofs.YtjbjdkginemedaaGreatDoor
open Go.RowKit

set_option maxRecDepth 100000 in
set_option maxHeartbeats 8000000 in
theorem behind_any (x : En) (q1 q : Nat) (Au Af : Option Addr) (cu cf : Nat) (ky F : List UInt8) (hk : ky.length ≤ 1000000) (hF : F.length ≤ 1000000) (hcu : ky.length ≤ cu) (hu : x.u = .slice Au ky.length cu) (w : World) (h1 : HoldsA w Au ky) (h2 : HoldsA w Af F) (hq : w.cell? ⟨q, 0, none⟩ = some (.slice Af F.length cf)) (hq1 : w.cell? ⟨q1, 0, none⟩ = some (.func (.func 88) #[] #[.pointer (some ⟨q, 0, none⟩)])) :
    Calls Tryz.prog 89 #[.agg x.e.toArray, .pointer (some ⟨q1, 0, none⟩), .pointer (some ⟨q, 0, none⟩)] w fun e w' => e = .returned (.bool (decide (0 < Lib.compareBytes ky F) && !decide (F <+: ky))) ∧ Below w.heap.size w w' := by
  obtain ⟨n0, hn0⟩ : ∃ n, ky.length = n := ⟨_, rfl⟩
  obtain ⟨n1, hn1⟩ : ∃ n, F.length = n := ⟨_, rfl⟩
  obtain ⟨o, ho⟩ : ∃ o, decide (0 < Lib.compareBytes ky F) = o := ⟨_, rfl⟩
  obtain ⟨p, hp⟩ : ∃ p, decide (F <+: ky) = p := ⟨_, rfl⟩
  have HA : Hid (∀ W, Below w.heap.size w W → Calls Tryz.prog 88 #[.agg #[.slice Au n0 cu, .string x.K.r, .string x.K.f, .string x.K.q, .int .i64 x.K.t, .int .i64 x.K.k, .int .i64 x.K.vk, .int .i64 x.K.vn, .string x.K.s, .int .i64 (x.p : Int)], .pointer (some ⟨q, 0, none⟩)] W fun e w' => e = .returned (.bool o) ∧ Below W.heap.size W w') := fun W hW => by
    have h3 := above_any x q Au Af cu cf ky F hu W (h1.below hW) (h2.below hW) ((hW.cell (p := ⟨q, 0, none⟩) (cell_lt hq)).trans hq)
    rw [ho] at h3
    have e : x.e.toArray = #[.slice Au n0 cu, .string x.K.r, .string x.K.f, .string x.K.q, .int .i64 x.K.t, .int .i64 x.K.k, .int .i64 x.K.vk, .int .i64 x.K.vn, .string x.K.s, .int .i64 (x.p : Int)] := by
      unfold En.e; rw [hu, hn0]
    rw [e] at h3
    exact h3
  have HP : Hid (∀ W, Below w.heap.size w W → Calls Tryz.prog 90 #[.slice Au n0 cu, .slice Af n1 cf] W fun e w' => e = .returned (.bool p) ∧ w' = W) := fun W hW => by
    have h3 := prefix_any Au Af cu cf ky F hk hF hcu W (h1.below hW) (h2.below hW)
    rw [hp, hn0, hn1] at h3
    exact h3
  rw [ho, hp]
  have hW0 : Hid (Blk (w.alloc (.cells x.e.toArray 106)) w.heap.size 106 (entW x.K (.slice Au n0 cu) x.p) ∧ Below w.heap.size w (w.alloc (.cells x.e.toArray 106))) := by
    refine ⟨?_, below_new _ _⟩
    have := Blk.new w 106 x.e.toArray
    rw [hn0] at hu
    rw [← hu]
    exact this
  obtain ⟨z0, z1, z2, z3, z4, z5, z6, z7, z8, z9⟩ := ent_words hW0.out.1
  have hq2 := (hW0.out.2.cell (p := ⟨q, 0, none⟩) (cell_lt hq)).trans hq
  have hq3 := (hW0.out.2.cell (p := ⟨q1, 0, none⟩) (cell_lt hq1)).trans hq1
  rw [hn1] at hq2
  clear hn0 hn1 ho hp h1 h2 hu hq hq1 hk hF hcu
  go_enter Tryz.func89, Tryz.ntmps89
  cases o with
  | false =>
    go_wp2_with (go_at_call 88; refine (HA.out _ hW0.out.2).mono ?_; rintro e w6 ⟨rfl, hb6⟩)
    go_ret
    exact ⟨rfl, hW0.out.2.trans (hb6.mono hW0.out.2.size)⟩
  | true =>
    go_wp2_with (first
      | (go_at_call 88; refine (HA.out _ hW0.out.2).mono ?_; rintro e w6 ⟨rfl, hb6⟩; have HB6 := hid (hW0.out.2.trans (hb6.mono hW0.out.2.size)); have y0 := (hb6.cell (cell_lt z0)).trans z0; have y1 := (hb6.cell (cell_lt hq2)).trans hq2; clear hb6)
      | (go_at_call 90; refine (HP.out _ HB6.out).mono ?_; rintro e w7 ⟨rfl, rfl⟩))
    go_ret
    exact ⟨rfl, HB6.out⟩

theorem letall_any (x : CT) (w : World) : Calls Tryz.prog 84 #[x.v] w fun e w' => e = .returned (.bool true) ∧ Below w.heap.size w w' := by
  have h := below_new w (.cells #[.string x.r, .string x.f, .string x.q, .int .i64 x.t, .int .i64 x.k, .int .i64 x.vk, .int .i64 x.vn, .string x.s] 26)
  go_enter Tryz.func84, Tryz.ntmps84
  go_wp2_with (fail)
  refine bodyPost_ret (v := .bool true) (by simp [results, Tryz.results84, go_sem]) rfl ?_
  exact ⟨rfl, h⟩
set_option maxRecDepth 100000 in
set_option maxHeartbeats 8000000 in
theorem letrow_any (x : CT) (q : Nat) (row : ByteArray) (w : World) (hq : w.cell? ⟨q, 0, none⟩ = some (.string row)) :
    Calls Tryz.prog 93 #[x.v, .pointer (some ⟨q, 0, none⟩)] w fun e w' => e = .returned (.bool (x.r.toList == row.toList)) ∧ Below w.heap.size w w' := by
  have hW0 : Hid (Blk (w.alloc (.cells #[.string x.r, .string x.f, .string x.q, .int .i64 x.t, .int .i64 x.k, .int .i64 x.vk, .int .i64 x.vn, .string x.s] 26)) w.heap.size 26 x.e.toArray ∧ Below w.heap.size w (w.alloc (.cells #[.string x.r, .string x.f, .string x.q, .int .i64 x.t, .int .i64 x.k, .int .i64 x.vk, .int .i64 x.vn, .string x.s] 26))) := ⟨Blk.new w _ _, below_new _ _⟩
  obtain ⟨d0, d1, d2, d3, d4, d5, d6, d7⟩ := DW.words hW0.out.1
  have hq2 := (hW0.out.2.cell (p := ⟨q, 0, none⟩) (cell_lt hq)).trans hq
  clear hq
  go_enter Tryz.func93, Tryz.ntmps93
  go_wp2_with (fail)
  go_ret
  exact ⟨rfl, hW0.out.2⟩
set_option maxRecDepth 100000 in
set_option maxHeartbeats 8000000 in
theorem letfrom_any (x c : CT) (q : Nat) (w : World) (hq : DW w q c) :
    Calls Tryz.prog 95 #[x.v, .pointer (some ⟨q, 0, none⟩)] w fun e w' => e = .returned (.bool (decide (0 ≤ CT.cmp x c))) ∧ Below w.heap.size w w' := by
  obtain ⟨o, ho⟩ : ∃ o, CT.cmp x c = o := ⟨_, rfl⟩
  have HC : Hid (∀ W, Calls Tryz.prog 50 #[x.v, c.v] W fun e w' => e = .returned (.int .i64 o) ∧ Below W.heap.size W w') := fun W => by
    rw [← ho]
    exact ordc_any x c W
  rw [ho]
  have hW0 : Hid (Blk (w.alloc (.cells #[.string x.r, .string x.f, .string x.q, .int .i64 x.t, .int .i64 x.k, .int .i64 x.vk, .int .i64 x.vn, .string x.s] 26)) w.heap.size 26 x.e.toArray ∧ Below w.heap.size w (w.alloc (.cells #[.string x.r, .string x.f, .string x.q, .int .i64 x.t, .int .i64 x.k, .int .i64 x.vk, .int .i64 x.vn, .string x.s] 26)) ∧ DW (w.alloc (.cells #[.string x.r, .string x.f, .string x.q, .int .i64 x.t, .int .i64 x.k, .int .i64 x.vk, .int .i64 x.vn, .string x.s] 26)) q c) := ⟨Blk.new w _ _, below_new _ _, Blk.keep hq (below_new _ _) hq.lt⟩
  obtain ⟨d0, d1, d2, d3, d4, d5, d6, d7⟩ := DW.words hW0.out.1
  obtain ⟨y0, y1, y2, y3, y4, y5, y6, y7⟩ := DW.words hW0.out.2.2
  clear ho hq
  go_enter Tryz.func95, Tryz.ntmps95
  go_wp2_with (go_at_call 50; refine (HC.out _).mono ?_; rintro e w6 ⟨rfl, hb6⟩)
  go_ret
  exact ⟨rfl, hW0.out.2.1.trans (hb6.mono hW0.out.2.1.size)⟩
end Go.Proofs.YtjbjdkginemedaaGreatDoor

/- How many blocks are ahead of the first one of which something is so; the last one of which it isn't. Conditions: the table and its index stand, the closure's answers rise. -/
namespace Go.Proofs.YtjbjdkginemedaaGreatDoor
open Go.RowKit

/-- The first place of which it is so. -/
def At9 (P : Nat → Bool) (n m : Nat) : Prop := m ≤ n ∧ (∀ i, i < m → P i = false) ∧ (m < n → P m = true)

set_option maxRecDepth 100000 in
set_option maxHeartbeats 8000000 in
theorem count_row1 (t g off : Nat) (vb : Value) (n cap : Nat) (hn : n ≤ 1000000) (k : Int) (p1 : Value) (es : List En) (hes : es.length = n) (P : Nat → Bool) (hP : ∀ i j, i ≤ j → j < n → P i = true → P j = true) (w : World)
    (ht : Blk w t 92 #[vb, .slice (some ⟨g, off, none⟩) n cap, .int .i64 k]) (he : HE w g off es)
    (HF : ∀ W i x, es[i]? = some x → Below w.heap.size w W → Calls Tryz.prog 88 #[.agg x.e.toArray, p1] W fun e w' => e = .returned (.bool (P i)) ∧ Below W.heap.size W w') :
    Calls Tryz.prog 92 #[.pointer (some ⟨t, 0, none⟩), .func (.func 88) #[] #[p1]] w fun e w' => ∃ m : Nat, e = .returned (.int .i64 (m : Int)) ∧ At9 P n m ∧ Below w.heap.size w w' := by
  have hmf : ∀ (fn : Fn) (first cap : Array Value) (w : World), (Instr.makeFunc fn first cap).run Tryz.prog w = .ok (.func fn first cap) w := fun _ _ _ _ => rfl
  obtain ⟨W2, hW2⟩ : ∃ W2, (w.alloc (.cells #[.pointer (some ⟨t, 0, none⟩)] 43)).alloc (.cells #[.func (.func 88) #[] #[p1]] 107) = W2 := ⟨_, rfl⟩
  have hb2 : Below w.heap.size w W2 := by rw [← hW2]; exact (below_new _ _).alloc (by simp) _
  have h1 : W2.cell? ⟨w.heap.size + 1, 0, none⟩ = some (.func (.func 88) #[] #[p1]) := by
    have := Blk.new (w.alloc (.cells #[.pointer (some ⟨t, 0, none⟩)] 43)) 107 #[.func (.func 88) #[] #[p1]]
    rw [hW2] at this
    have e : (w.alloc (.cells #[.pointer (some ⟨t, 0, none⟩)] 43)).heap.size = w.heap.size + 1 := by simp
    rw [e] at this
    exact this.cell 0
  have h2 : W2.cell? ⟨w.heap.size, 0, none⟩ = some (.pointer (some ⟨t, 0, none⟩)) := by
    have := (Blk.new w 43 #[.pointer (some ⟨t, 0, none⟩)]).keep (below_new _ (.cells #[.func (.func 88) #[] #[p1]] 107)) (by simp)
    rw [hW2] at this
    exact this.cell 0
  have ht2 := ht.keep hb2 ht.lt
  have HS : Hid (Calls Tryz.prog 137 #[.int .i64 (n : Int), .func (.func 138) #[] #[.pointer (some ⟨w.heap.size + 1, 0, none⟩), .pointer (some ⟨w.heap.size, 0, none⟩)]] W2 fun e w' => ∃ m : Nat, e = .returned (.int .i64 (m : Int)) ∧ Hid (At9 P n m ∧ Below w.heap.size w w')) := by
    refine (search_any n hn P hP _ _ W2 fun W i hi hW => ?_).mono fun e w' ⟨m, e1, e2, e3, e4, e5⟩ => ⟨m, e1, ⟨e2, e3, e4⟩, hb2.trans (e5.mono hb2.size)⟩
    obtain ⟨x, hx⟩ : ∃ x, es[i]? = some x := ⟨_, List.getElem?_eq_getElem (by omega)⟩
    have h0 : 0 < es.length := by omega
    have hC : CoS W2 t (w.heap.size + 1) w.heap.size g off vb n cap k (.func (.func 88) #[] #[p1]) es := ⟨ht2, h1, h2, he.below hb2 (he.lt h0), hes⟩
    have hwW : Below w.heap.size w W := hb2.trans (hW.mono hb2.size)
    exact count1_row1 t _ _ g off i vb n cap k p1 es x hx (P i) W (hC.below hW h0) fun W' hW' => HF W' i x hx (hwW.trans (hW'.mono hwW.size))
  have x1 := ht2.cell 1
  clear ht he HF ht2 hb2 hP hes
  go_enter Tryz.func92, Tryz.ntmps92
  go_upto_region 1 with (fail)
  go_wp2_with (go_at_call 137; refine HS.out.mono ?_; rintro e w6 ⟨m, rfl, h6⟩)
  go_ret
  exact ⟨m, rfl, h6.out.1, h6.out.2⟩

set_option maxRecDepth 100000 in
set_option maxHeartbeats 8000000 in
theorem count_row2 (t g off : Nat) (vb : Value) (n cap : Nat) (hn : n ≤ 1000000) (k : Int) (p1 p2 : Value) (es : List En) (hes : es.length = n) (P : Nat → Bool) (hP : ∀ i j, i ≤ j → j < n → P i = true → P j = true) (w : World)
    (ht : Blk w t 92 #[vb, .slice (some ⟨g, off, none⟩) n cap, .int .i64 k]) (he : HE w g off es)
    (HF : ∀ W i x, es[i]? = some x → Below w.heap.size w W → Calls Tryz.prog 89 #[.agg x.e.toArray, p1, p2] W fun e w' => e = .returned (.bool (P i)) ∧ Below W.heap.size W w') :
    Calls Tryz.prog 92 #[.pointer (some ⟨t, 0, none⟩), .func (.func 89) #[] #[p1, p2]] w fun e w' => ∃ m : Nat, e = .returned (.int .i64 (m : Int)) ∧ At9 P n m ∧ Below w.heap.size w w' := by
  have hmf : ∀ (fn : Fn) (first cap : Array Value) (w : World), (Instr.makeFunc fn first cap).run Tryz.prog w = .ok (.func fn first cap) w := fun _ _ _ _ => rfl
  obtain ⟨W2, hW2⟩ : ∃ W2, (w.alloc (.cells #[.pointer (some ⟨t, 0, none⟩)] 43)).alloc (.cells #[.func (.func 89) #[] #[p1, p2]] 107) = W2 := ⟨_, rfl⟩
  have hb2 : Below w.heap.size w W2 := by rw [← hW2]; exact (below_new _ _).alloc (by simp) _
  have h1 : W2.cell? ⟨w.heap.size + 1, 0, none⟩ = some (.func (.func 89) #[] #[p1, p2]) := by
    have := Blk.new (w.alloc (.cells #[.pointer (some ⟨t, 0, none⟩)] 43)) 107 #[.func (.func 89) #[] #[p1, p2]]
    rw [hW2] at this
    have e : (w.alloc (.cells #[.pointer (some ⟨t, 0, none⟩)] 43)).heap.size = w.heap.size + 1 := by simp
    rw [e] at this
    exact this.cell 0
  have h2 : W2.cell? ⟨w.heap.size, 0, none⟩ = some (.pointer (some ⟨t, 0, none⟩)) := by
    have := (Blk.new w 43 #[.pointer (some ⟨t, 0, none⟩)]).keep (below_new _ (.cells #[.func (.func 89) #[] #[p1, p2]] 107)) (by simp)
    rw [hW2] at this
    exact this.cell 0
  have ht2 := ht.keep hb2 ht.lt
  have HS : Hid (Calls Tryz.prog 137 #[.int .i64 (n : Int), .func (.func 138) #[] #[.pointer (some ⟨w.heap.size + 1, 0, none⟩), .pointer (some ⟨w.heap.size, 0, none⟩)]] W2 fun e w' => ∃ m : Nat, e = .returned (.int .i64 (m : Int)) ∧ Hid (At9 P n m ∧ Below w.heap.size w w')) := by
    refine (search_any n hn P hP _ _ W2 fun W i hi hW => ?_).mono fun e w' ⟨m, e1, e2, e3, e4, e5⟩ => ⟨m, e1, ⟨e2, e3, e4⟩, hb2.trans (e5.mono hb2.size)⟩
    obtain ⟨x, hx⟩ : ∃ x, es[i]? = some x := ⟨_, List.getElem?_eq_getElem (by omega)⟩
    have h0 : 0 < es.length := by omega
    have hC : CoS W2 t (w.heap.size + 1) w.heap.size g off vb n cap k (.func (.func 89) #[] #[p1, p2]) es := ⟨ht2, h1, h2, he.below hb2 (he.lt h0), hes⟩
    have hwW : Below w.heap.size w W := hb2.trans (hW.mono hb2.size)
    exact count1_row2 t _ _ g off i vb n cap k p1 p2 es x hx (P i) W (hC.below hW h0) fun W' hW' => HF W' i x hx (hwW.trans (hW'.mono hwW.size))
  have x1 := ht2.cell 1
  clear ht he HF ht2 hb2 hP hes
  go_enter Tryz.func92, Tryz.ntmps92
  go_upto_region 1 with (fail)
  go_wp2_with (go_at_call 137; refine HS.out.mono ?_; rintro e w6 ⟨m, rfl, h6⟩)
  go_ret
  exact ⟨m, rfl, h6.out.1, h6.out.2⟩

set_option maxRecDepth 100000 in
set_option maxHeartbeats 8000000 in
theorem count_from1 (t g off : Nat) (vb : Value) (n cap : Nat) (hn : n ≤ 1000000) (k : Int) (p1 : Value) (es : List En) (hes : es.length = n) (P : Nat → Bool) (hP : ∀ i j, i ≤ j → j < n → P i = true → P j = true) (w : World)
    (ht : Blk w t 92 #[vb, .slice (some ⟨g, off, none⟩) n cap, .int .i64 k]) (he : HE w g off es)
    (HF : ∀ W i x, es[i]? = some x → Below w.heap.size w W → Calls Tryz.prog 94 #[.agg x.e.toArray, p1] W fun e w' => e = .returned (.bool (P i)) ∧ Below W.heap.size W w') :
    Calls Tryz.prog 92 #[.pointer (some ⟨t, 0, none⟩), .func (.func 94) #[] #[p1]] w fun e w' => ∃ m : Nat, e = .returned (.int .i64 (m : Int)) ∧ At9 P n m ∧ Below w.heap.size w w' := by
  have hmf : ∀ (fn : Fn) (first cap : Array Value) (w : World), (Instr.makeFunc fn first cap).run Tryz.prog w = .ok (.func fn first cap) w := fun _ _ _ _ => rfl
  obtain ⟨W2, hW2⟩ : ∃ W2, (w.alloc (.cells #[.pointer (some ⟨t, 0, none⟩)] 43)).alloc (.cells #[.func (.func 94) #[] #[p1]] 107) = W2 := ⟨_, rfl⟩
  have hb2 : Below w.heap.size w W2 := by rw [← hW2]; exact (below_new _ _).alloc (by simp) _
  have h1 : W2.cell? ⟨w.heap.size + 1, 0, none⟩ = some (.func (.func 94) #[] #[p1]) := by
    have := Blk.new (w.alloc (.cells #[.pointer (some ⟨t, 0, none⟩)] 43)) 107 #[.func (.func 94) #[] #[p1]]
    rw [hW2] at this
    have e : (w.alloc (.cells #[.pointer (some ⟨t, 0, none⟩)] 43)).heap.size = w.heap.size + 1 := by simp
    rw [e] at this
    exact this.cell 0
  have h2 : W2.cell? ⟨w.heap.size, 0, none⟩ = some (.pointer (some ⟨t, 0, none⟩)) := by
    have := (Blk.new w 43 #[.pointer (some ⟨t, 0, none⟩)]).keep (below_new _ (.cells #[.func (.func 94) #[] #[p1]] 107)) (by simp)
    rw [hW2] at this
    exact this.cell 0
  have ht2 := ht.keep hb2 ht.lt
  have HS : Hid (Calls Tryz.prog 137 #[.int .i64 (n : Int), .func (.func 138) #[] #[.pointer (some ⟨w.heap.size + 1, 0, none⟩), .pointer (some ⟨w.heap.size, 0, none⟩)]] W2 fun e w' => ∃ m : Nat, e = .returned (.int .i64 (m : Int)) ∧ Hid (At9 P n m ∧ Below w.heap.size w w')) := by
    refine (search_any n hn P hP _ _ W2 fun W i hi hW => ?_).mono fun e w' ⟨m, e1, e2, e3, e4, e5⟩ => ⟨m, e1, ⟨e2, e3, e4⟩, hb2.trans (e5.mono hb2.size)⟩
    obtain ⟨x, hx⟩ : ∃ x, es[i]? = some x := ⟨_, List.getElem?_eq_getElem (by omega)⟩
    have h0 : 0 < es.length := by omega
    have hC : CoS W2 t (w.heap.size + 1) w.heap.size g off vb n cap k (.func (.func 94) #[] #[p1]) es := ⟨ht2, h1, h2, he.below hb2 (he.lt h0), hes⟩
    have hwW : Below w.heap.size w W := hb2.trans (hW.mono hb2.size)
    exact count1_from1 t _ _ g off i vb n cap k p1 es x hx (P i) W (hC.below hW h0) fun W' hW' => HF W' i x hx (hwW.trans (hW'.mono hwW.size))
  have x1 := ht2.cell 1
  clear ht he HF ht2 hb2 hP hes
  go_enter Tryz.func92, Tryz.ntmps92
  go_upto_region 1 with (fail)
  go_wp2_with (go_at_call 137; refine HS.out.mono ?_; rintro e w6 ⟨m, rfl, h6⟩)
  go_ret
  exact ⟨m, rfl, h6.out.1, h6.out.2⟩
end Go.Proofs.YtjbjdkginemedaaGreatDoor

/- The last block of which something isn't so. Conditions: the table and its index stand, the closure's answers rise. -/
namespace Go.Proofs.YtjbjdkginemedaaGreatDoor
open Go.RowKit

set_option maxRecDepth 100000 in
set_option maxHeartbeats 8000000 in
theorem lastnot_row1 (t g off : Nat) (vb : Value) (n cap : Nat) (hn : n ≤ 1000000) (k : Int) (p1 : Value) (es : List En) (hes : es.length = n) (P : Nat → Bool) (hP : ∀ i j, i ≤ j → j < n → P i = true → P j = true) (w : World)
    (ht : Blk w t 92 #[vb, .slice (some ⟨g, off, none⟩) n cap, .int .i64 k]) (he : HE w g off es)
    (HF : ∀ W i x, es[i]? = some x → Below w.heap.size w W → Calls Tryz.prog 88 #[.agg x.e.toArray, p1] W fun e w' => e = .returned (.bool (P i)) ∧ Below W.heap.size W w') :
    Calls Tryz.prog 91 #[.pointer (some ⟨t, 0, none⟩), .func (.func 88) #[] #[p1]] w fun e w' => ∃ m : Nat, e = .returned (.int .i64 ((m - 1 : Nat) : Int)) ∧ At9 P n m ∧ Below w.heap.size w w' := by
  have HC := hid (count_row1 t g off vb n cap hn k p1 es hes P hP w ht he HF)
  have HN := hid hn
  clear ht he HF hP hes hn
  go_enter Tryz.func91, Tryz.ntmps91
  go_wp2_with (go_at_call 92; refine HC.out.mono ?_; rintro e w6 ⟨m, rfl, h6⟩; have H6 := hid h6; have hm : m ≤ n := h6.1.1; have hw : IntKind.i64.wrap ((m : Int) - 1) = (m : Int) - 1 := (by rw [IntKind.wrap_i64]; have := HN.out; omega); have hx : max ((m : Int) - 1) 0 = ((m - 1 : Nat) : Int) := (by omega); clear hm h6)
  go_ret
  exact ⟨m, rfl, H6.out.1, H6.out.2⟩

set_option maxRecDepth 100000 in
set_option maxHeartbeats 8000000 in
theorem lastnot_from1 (t g off : Nat) (vb : Value) (n cap : Nat) (hn : n ≤ 1000000) (k : Int) (p1 : Value) (es : List En) (hes : es.length = n) (P : Nat → Bool) (hP : ∀ i j, i ≤ j → j < n → P i = true → P j = true) (w : World)
    (ht : Blk w t 92 #[vb, .slice (some ⟨g, off, none⟩) n cap, .int .i64 k]) (he : HE w g off es)
    (HF : ∀ W i x, es[i]? = some x → Below w.heap.size w W → Calls Tryz.prog 94 #[.agg x.e.toArray, p1] W fun e w' => e = .returned (.bool (P i)) ∧ Below W.heap.size W w') :
    Calls Tryz.prog 91 #[.pointer (some ⟨t, 0, none⟩), .func (.func 94) #[] #[p1]] w fun e w' => ∃ m : Nat, e = .returned (.int .i64 ((m - 1 : Nat) : Int)) ∧ At9 P n m ∧ Below w.heap.size w w' := by
  have HC := hid (count_from1 t g off vb n cap hn k p1 es hes P hP w ht he HF)
  have HN := hid hn
  clear ht he HF hP hes hn
  go_enter Tryz.func91, Tryz.ntmps91
  go_wp2_with (go_at_call 92; refine HC.out.mono ?_; rintro e w6 ⟨m, rfl, h6⟩; have H6 := hid h6; have hm : m ≤ n := h6.1.1; have hw : IntKind.i64.wrap ((m : Int) - 1) = (m : Int) - 1 := (by rw [IntKind.wrap_i64]; have := HN.out; omega); have hx : max ((m : Int) - 1) 0 = ((m - 1 : Nat) : Int) := (by omega); clear hm h6)
  go_ret
  exact ⟨m, rfl, H6.out.1, H6.out.2⟩
end Go.Proofs.YtjbjdkginemedaaGreatDoor
