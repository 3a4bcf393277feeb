/- The document's find, Size, Names. Conditions: the disk stands. -/
import Derived.Test.YtofkfafdodhmdaaSuE
namespace Go.Proofs.Ytofkfafdodhmdaa
open Go.RowKit

/-- Where a name is, or would stand. -/
structure FindE (x : ByteArray) (ms : List Rm) (i : Nat) (ok : Bool) : Prop where
  le : i ≤ ms.length
  lo : ∀ j (h : j < ms.length), j < i → bef ms[j].n x = true
  yes : ok = true → ∃ h : i < ms.length, ms[i].n = x
  no : ok = false → ∀ h : i < ms.length, bef x ms[i].n = true
theorem cmp_cases (a b : ByteArray) : (Lib.compareBytes a.data.toList b.data.toList < 0 ∧ bef a b = true) ∨ (Lib.compareBytes a.data.toList b.data.toList = 0 ∧ a = b) ∨ (0 < Lib.compareBytes a.data.toList b.data.toList ∧ bef b a = true) := by
  have gen : ∀ l m : List UInt8, (Lib.compareBytes l m < 0 ∧ bytesBefore l m = true) ∨ (Lib.compareBytes l m = 0 ∧ l = m) ∨ (0 < Lib.compareBytes l m ∧ bytesBefore m l = true) := by
    intro l
    induction l with
    | nil =>
      intro m
      cases m with
      | nil => exact .inr (.inl ⟨rfl, rfl⟩)
      | cons y t => exact .inl ⟨by show (-1 : Int) < 0; decide, rfl⟩
    | cons x l ih =>
      intro m
      cases m with
      | nil => exact .inr (.inr ⟨by show (0 : Int) < 1; decide, rfl⟩)
      | cons y t =>
        unfold Lib.compareBytes bytesBefore
        by_cases q : x < y
        · rw [if_pos q, decide_eq_true q]
          exact .inl ⟨by decide, rfl⟩
        · rw [if_neg q]
          by_cases r : y < x
          · rw [if_pos r, decide_eq_true r]
            exact .inr (.inr ⟨by decide, rfl⟩)
          · rw [if_neg r]
            have e : x = y := UInt8.le_antisymm (UInt8.not_lt.1 r) (UInt8.not_lt.1 q)
            subst e
            rw [decide_eq_false q, show (x == x) = true by simp]
            rcases ih t with ⟨h1, h2⟩ | ⟨h1, h2⟩ | ⟨h1, h2⟩
            · exact .inl ⟨h1, by rw [h2]; rfl⟩
            · exact .inr (.inl ⟨h1, by rw [h2]⟩)
            · exact .inr (.inr ⟨h1, by rw [h2]; rfl⟩)
  rcases gen a.data.toList b.data.toList with h | ⟨h1, h2⟩ | h
  · exact .inl h
  · exact .inr (.inl ⟨h1, ba_ext h2⟩)
  · exact .inr (.inr h)

set_option maxRecDepth 100000 in
set_option maxHeartbeats 4000000 in
theorem rfind_ok {w : World} {B rb nx : Nat} {fv lv : Value} {ms : List Rm} {ls : List Lm} {z : Int} (h : Rk w B rb fv lv ms ls z nx) (x : ByteArray) (hx : x.size ≤ maxLen) (hn : ∀ m ∈ ms, m.n.size ≤ maxLen) (hl : ms.length ≤ 1000000) :
    Calls Try.prog 34 #[.pointer (some ⟨rb, 0, none⟩), .string x] w fun e w' => ∃ i ok, e = .returned (.tuple #[.int .i64 ((i : Nat) : Int), .bool ok]) ∧ FindE x ms i ok ∧ Below w.heap.size w w' := by
  obtain ⟨n, hn1⟩ : ∃ n, ms.length = n := ⟨_, rfl⟩
  obtain ⟨A, c, rfl⟩ := mrow_form h.fr hn1
  have m0 : w.cell? ⟨rb, 0, none⟩ = some (.slice A n c) := h.blk.cell 0
  have H := hid h
  have HN1 := hid hn1
  have HNs := hid hn
  rw [hn1] at hl
  unfold maxLen at hx
  have HX := hid hx
  clear h hn hn1 hx
  go_enter Try.func34, Try.ntmps34
  go_wp2
  go_loopw [6] (fun vi wr => ∃ k : Nat, vi = .int .i64 (k : Int) ∧ k ≤ n ∧ Hid (Below w.heap.size w wr ∧ ∀ j (h : j < ms.length), j < k → bef ms[j].n x = true)) (fun vi _ => n - (intOf vi).toNat)
  case atStart => exact ⟨0, rfl, Nat.zero_le _, Below.refl _ _, fun j _ hj => absurd hj (by omega)⟩
  case round =>
    obtain ⟨k, rfl, hk, HI⟩ := hrel
    have m1 : wr.cell? ⟨rb, 0, none⟩ = some (.slice A n c) := (HI.out.1.cell (p := ⟨rb, 0, none⟩) (cell_lt m0)).trans m0
    by_cases hkn : k < n
    · have hkl : k < ms.length := by rw [HN1.out]; exact hkn
      obtain ⟨g, rfl, hc⟩ := mrow_at H.out.fr hkl
      have q0 := hc 0 _ (by omega) rfl
      rw [Nat.add_zero] at q0
      have q1 : wr.cell? ⟨g, k * 4, none⟩ = some (.string ms[k].n) := (HI.out.1.cell (p := ⟨g, k * 4, none⟩) (cell_lt q0)).trans q0
      have hms : ms[k].n.size ≤ 9223372036854775807 := by have := HNs.out _ (List.getElem_mem hkl); unfold maxLen at this; exact this
      have hcs := cmp_cases ms[k].n x
      obtain ⟨y, hy⟩ : ∃ y, ms[k].n = y := ⟨_, rfl⟩
      rw [hy] at q1 hms hcs
      have HTx := hid (texts_any y x hms HX.out wr)
      obtain ⟨q, hq⟩ : ∃ q, Lib.compareBytes y.data.toList x.data.toList = q := ⟨_, rfl⟩
      rw [hq] at HTx hcs
      have HY := hid hy
      have HKL := hid hkl
      clear hc q0 hms hq hy m0
      rcases hcs with ⟨h1, h2⟩ | ⟨h1, h2⟩ | ⟨h1, h2⟩
      · have H2 := hid h2
        clear h2
        go_upto_region 5 with (go_at_call 29; refine HTx.out.mono ?_; rintro e w1 ⟨rfl, hb⟩; have HB1 := hid (HI.out.1.trans (hb.mono HI.out.1.size)); clear hb)
        go_wp2
        go_roundw
        case rel =>
          refine ⟨k + 1, by go_num, by omega, HB1.out, fun j hj hjk => ?_⟩
          rcases Nat.lt_or_ge j k with r | r
          · exact HI.out.2 j hj r
          · obtain rfl : j = k := by omega
            rw [HY.out]
            exact H2.out
        case measure => simp [intOf]; omega
      · have H2 := hid h2
        clear h2
        go_upto_region 5 with (go_at_call 29; refine HTx.out.mono ?_; rintro e w1 ⟨rfl, hb⟩; have HB1 := hid (HI.out.1.trans (hb.mono HI.out.1.size)); clear hb)
        subst h1
        go_wp2
        go_ret2
        exact ⟨k, true, rfl, ⟨by rw [HN1.out]; exact hk, fun j hj hjk => HI.out.2 j hj hjk, fun _ => ⟨HKL.out, HY.out.trans H2.out⟩, fun e => (by cases e)⟩, HB1.out⟩
      · have H2 := hid h2
        have g1 : ¬ q = 0 := by omega
        clear h2
        go_upto_region 5 with (go_at_call 29; refine HTx.out.mono ?_; rintro e w1 ⟨rfl, hb⟩; have HB1 := hid (HI.out.1.trans (hb.mono HI.out.1.size)); clear hb)
        go_wp2
        go_ret2
        have e0 : (q == 0) = false := beq_false_of_ne g1
        refine ⟨k, (q == 0), rfl, ?_, HB1.out⟩
        rw [e0]
        exact ⟨by rw [HN1.out]; exact hk, fun j hj hjk => HI.out.2 j hj hjk, fun e => (by cases e), fun _ hh => by rw [HY.out]; exact H2.out⟩
    · obtain rfl : k = n := by omega
      go_wp2
      go_ret2
      exact ⟨k, false, rfl, ⟨by rw [HN1.out]; exact Nat.le_refl _, fun j hj _ => HI.out.2 j hj (by rw [HN1.out] at hj; exact hj), fun e => (by cases e), fun _ hh => absurd hh (by rw [HN1.out]; exact Nat.lt_irrefl _)⟩, HI.out.1⟩
theorem sum_take {ms : List Rm} {k : Nat} (h : k < ms.length) : ((ms.take (k + 1)).map fun m => m.s.length).sum = ((ms.take k).map fun m => m.s.length).sum + ms[k].s.length := by
  rw [List.take_succ_eq_append_getElem h, List.map_append, List.sum_append_nat]
  simp
theorem sum_sub (ms : List Rm) (k : Nat) : ((ms.take k).map fun m => m.s.length).sum ≤ (ms.map fun m => m.s.length).sum := by
  conv => rhs; rw [← List.take_append_drop k ms]
  rw [List.map_append, List.sum_append_nat]
  omega

set_option maxRecDepth 100000 in
set_option maxHeartbeats 4000000 in
theorem rsize_ok {w : World} {B rb nx : Nat} {fv lv : Value} {ms : List Rm} {ls : List Lm} {z : Int} (h : Rk w B rb fv lv ms ls z nx) (hb : sizeM ms ls ≤ 1000000000) (hl : ms.length ≤ 1000000) :
    Calls Try.prog 23 #[.pointer (some ⟨rb, 0, none⟩)] w fun e w' => e = .returned (.int .i64 ((sizeM ms ls : Nat) : Int)) ∧ Below w.heap.size w w' := by
  obtain ⟨n, hn1⟩ : ∃ n, ms.length = n := ⟨_, rfl⟩
  obtain ⟨p, hp1⟩ : ∃ p, ls.length = p := ⟨_, rfl⟩
  obtain ⟨A, c, rfl⟩ := mrow_form h.fr hn1
  obtain ⟨A2, c2, rfl⟩ := lrow_form h.lr hp1
  have m0 : w.cell? ⟨rb, 0, none⟩ = some (.slice A n c) := h.blk.cell 0
  have m1 : w.cell? ⟨rb, 1, none⟩ = some (.slice A2 p c2) := h.blk.cell 1
  have H := hid h
  have HN1 := hid hn1
  have HP1 := hid hp1
  have HBd : Hid (p + (ms.map fun m => m.s.length).sum ≤ 1000000000) := by
    unfold sizeM at hb
    rw [hp1] at hb
    exact hb
  rw [hn1] at hl
  unfold sizeM
  rw [hp1]
  clear h hn1 hp1 hb
  go_enter Try.func23, Try.ntmps23
  go_wp2
  go_loopw [3, 4] (fun vn vi wr => ∃ k s : Nat, vn = .int .i64 (s : Int) ∧ vi = .int .i64 (k : Int) ∧ k ≤ n ∧ Hid (s = p + ((ms.take k).map fun m => m.s.length).sum ∧ Below w.heap.size w wr)) (fun _ vi _ => n - (intOf vi).toNat)
  case atStart => exact ⟨0, p, rfl, rfl, Nat.zero_le _, rfl, Below.refl _ _⟩
  case round =>
    obtain ⟨k, s, rfl, rfl, hk, HI⟩ := hrel
    have m3 : wr.cell? ⟨rb, 0, none⟩ = some (.slice A n c) := (HI.out.2.cell (p := ⟨rb, 0, none⟩) (cell_lt m0)).trans m0
    by_cases hkn : k < n
    · have hkl : k < ms.length := by rw [HN1.out]; exact hkn
      obtain ⟨g, rfl, hc⟩ := mrow_at H.out.fr hkl
      obtain ⟨A3, c3, e3⟩ := row_form (H.out.sr _ (List.getElem_mem hkl)) rfl
      have q2 := hc 2 _ (by omega) rfl
      rw [e3] at q2
      have hst := sum_take hkl
      have hss := sum_sub ms (k + 1)
      have hbd := HBd.out
      have hs := HI.out.1
      obtain ⟨nl, hnl⟩ : ∃ nl, ms[k].s.length = nl := ⟨_, rfl⟩
      rw [hnl] at q2 hst
      have q4 : wr.cell? ⟨g, k * 4 + 2, none⟩ = some (.slice A3 nl c3) := (HI.out.2.cell (p := ⟨g, k * 4 + 2, none⟩) (cell_lt q2)).trans q2
      have hle : s + nl ≤ 1000000000 := by omega
      have HST := hid hst
      have w1 : IntKind.i64.wrap ((s : Int) + (nl : Int)) = ((s + nl : Nat) : Int) := by rw [IntKind.wrap_i64]; omega
      clear hc q2 hst hss hbd hs hnl e3 m0
      go_wp2
      go_roundw
      case rel => exact ⟨k + 1, s + nl, by go_num, by go_num, by omega, by rw [HST.out, HI.out.1, Nat.add_assoc], HI.out.2⟩
      case measure => simp [intOf]; omega
    · obtain rfl : k = n := by omega
      have e1 := HI.out.1
      rw [List.take_of_length_le (by rw [HN1.out]; exact Nat.le_refl _)] at e1
      have HB := hid HI.out.2
      have HE := hid e1
      clear e1
      go_wp2
      go_ret
      exact ⟨by rw [HE.out]; rfl, HB.out⟩
end Go.Proofs.Ytofkfafdodhmdaa
