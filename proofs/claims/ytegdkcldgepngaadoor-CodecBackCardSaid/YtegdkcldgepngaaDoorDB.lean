/- codec.List at every list, and codec.Parts at any bytes. Conditions: lists of at most a hundred thousand bytes in all; the slices hold their bytes. -/
import Derived.Test.YtegdkcldgepngaaDoorCF
import Derived.Test.YtegdkcldgepngaaDoorDA
namespace Go.Proofs.YtegdkcldgepngaaDoor
open Go.RowKit

set_option maxRecDepth 100000 in
set_option maxHeartbeats 4000000 in
/-- Nothing is written. -/
theorem wwrite_nil (B b : Nat) (l : List UInt8) (A : Option Addr) (c : Nat) (w : World) (h : Wr w B b l) (_hBw : B ≤ w.heap.size) :
    Calls Tryd.prog 38 #[.pointer (some ⟨b, 0, none⟩), .slice A 0 c] w fun e w' => e = .returned (.tuple #[.int .i64 0, .nilIface]) ∧ Wr w' B b l ∧ Below B w w' := by
  have hinfo : (Tryd.prog.info? 5).map (·.size) = some 1 := by
    obtain ⟨i0, hi, -, hz1, -⟩ := info_parts info_u8
    rw [hi]; simp [hz1]
  have hce : ∀ d dLen dCap W, (Builtin.copy_ #[29, 29] 3 #[.slice d dLen dCap, .slice A 0 c]).run Tryd.prog W = .ok (goInt 0) W := fun d dLen dCap W => run_copy_none W 29 29 3 5 d A dLen dCap 0 c Tryd.underlying29 hinfo (by simp)
  have HT : Hid (∀ W, LibA.IsBuffer 59 (fun _ => none) 5 B b 0 (bc l) W → Calls Tryd.prog 67 #[.pointer (some ⟨b, 0, none⟩), .int .i64 0] W fun e w' =>
      e = .returned (.tuple #[.int .i64 l.length, .bool true]) ∧ LibA.IsBuffer 59 (fun _ => none) 5 B b 0 (bc l) w' ∧ Below B W w') := fun W hW => by
    refine (Any.Buffer_tryGrow_at (P := Tryd.prog) (ρ := Tryd.laysM180_ren) { Tryd.laysM180 with } 59 (fun _ => none) B b 0 0 (bc l) W hW).mono ?_
    rintro e w' (⟨rfl, xs, hxl, hI, hbel, hk, hg⟩ | ⟨rfl, rfl, hnr⟩)
    · have hx0 : xs = [] := List.eq_nil_of_length_eq_zero hxl
      subst hx0
      rw [List.append_nil] at hI
      exact ⟨by rw [bc_len], hI, hbel⟩
    · obtain ⟨_, _, _, _, hlt⟩ := hnr
      omega
  obtain ⟨hB, v0, lr, hbk, -, -⟩ := id h
  have c2 : w.cell? ⟨b, 0 + 2, none⟩ = some (.int .i8 lr) := hbk.c2
  have f2 : w.frozen? ⟨b, 0 + 2, none⟩ = false := hbk.f (0 + 2)
  rw [Nat.zero_add] at c2 f2
  have h' := hid (h.setLast 0)
  have hbel0 : Hid (Below B w (w.setCell ⟨b, 2, none⟩ (.int .i8 0))) := (Below.refl B w).setCell (p := ⟨b, 2, none⟩) hB _
  clear hbk v0 hinfo
  go_enter Tryd.func38, Tryd.ntmps38
  go_wp2_with (go_at_call 67; refine (HT.out _ ?_).mono ?_)
  · exact h'.out
  rintro e W1 rfl hI hbel
  clear c2 f2 HT
  have HI := hid hI
  obtain ⟨-, lr2, hc⟩ := hI.cases
  rw [bc_len] at hc
  rcases hc with ⟨hb0, hbk2⟩ | ⟨g, cap, cur, hbk2, -, -, hnc, hcm, -, -, -⟩
  · have d0 : W1.cell? ⟨b, 0, none⟩ = some (.slice none 0 0) := hbk2.c0
    have hl0 : l = [] := by unfold bc at hb0; exact List.map_eq_nil_iff.1 hb0
    subst hl0
    go_wp2
    all_goals (go_ret2; exact ⟨rfl, HI.out, hbel0.out.trans hbel⟩)
  · have d0 : W1.cell? ⟨b, 0, none⟩ = some (.slice (some ⟨g, 0, none⟩) l.length cap) := hbk2.c0
    unfold maxLen at hcm
    go_wp2
    all_goals (go_ret2; exact ⟨rfl, HI.out, hbel0.out.trans hbel⟩)

/-- A slice that holds bytes, or none, is written. -/
theorem wwrite_any (B b : Nat) (l cs : List UInt8) (hl : l.length + cs.length ≤ 1000000) (A : Option Addr) (c : Nat) (w : World) (h : Wr w B b l) (hB : B ≤ w.heap.size) (hA : HoldsA w A cs) (hb : ∀ g, (∃ o s, A = some ⟨g, o, s⟩) → 0 < cs.length → g ≠ b) :
    Calls Tryd.prog 38 #[.pointer (some ⟨b, 0, none⟩), .slice A cs.length c] w fun e w' => e = .returned (.tuple #[.int .i64 cs.length, .nilIface]) ∧ Wr w' B b (l ++ cs) ∧ Below B w w' := by
  by_cases h0 : 0 < cs.length
  · obtain ⟨g, o, rfl, hh⟩ := hA h0
    refine (wwrite' B b l cs hl ⟨g, o, none⟩ cs.length c rfl (hb g ⟨o, none, rfl⟩ h0) w h hB (fun j u hu => ?_)).mono fun e w' ⟨h1, h2, h3⟩ => ⟨h1, h2, h3.below⟩
    have hj : j < cs.length := by
      rcases Nat.lt_or_ge j cs.length with h1 | h1
      · exact h1
      · rw [bc_at, List.getElem?_eq_none h1] at hu; cases hu
    rw [add_zero_off, hh j hj, ← hu, bc_at, List.getElem?_eq_getElem hj, List.getD_eq_getElem?_getD, List.getElem?_eq_getElem hj]
    rfl
  · have e : cs = [] := List.eq_nil_of_length_eq_zero (by omega)
    subst e
    rw [List.append_nil]
    exact wwrite_nil B b l A c w h hB

theorem rowsM_app : ∀ (a b : List (List UInt8)), rowsM (a ++ b) = rowsM a ++ rowsM b
  | [], b => rfl
  | x :: t, b => by
    show numW x.length ++ (x ++ rowsM (t ++ b)) = (numW x.length ++ (x ++ rowsM t)) ++ rowsM b
    rw [rowsM_app t b]; simp [List.append_assoc]
theorem rowsM_next (ls : List (List UInt8)) (i : Nat) (h : i < ls.length) : rowsM (ls.take (i + 1)) = rowsM (ls.take i) ++ (numW (ls[i]).length ++ ls[i]) := by
  rw [List.take_succ_eq_append_getElem h, rowsM_app]
  show _ ++ (numW _ ++ (_ ++ [])) = _
  rw [List.append_nil]
theorem rowsM_take (ls : List (List UInt8)) (i : Nat) : (rowsM (ls.take i)).length ≤ (rowsM ls).length := by
  have := rowsM_app (ls.take i) (ls.drop i)
  rw [List.take_append_drop] at this
  rw [this, List.length_append]; omega

set_option maxHeartbeats 1000000 in
theorem wnumber_big (B b n : Nat) (hn : n < 9223372036854775808) (l : List UInt8) (hl : l.length ≤ 900000) (w : World) (h : Wr w B b l) (hB : B ≤ w.heap.size) :
    Calls Tryd.prog 61 #[.pointer (some ⟨b, 0, none⟩), .int .i64 n] w fun e w' => e = .returned (.tuple #[]) ∧ Wr w' B b (l ++ numW n) ∧ Below B w w' := by
  have hlen := hid (numW_len9 n hn)
  obtain ⟨y, hy⟩ : ∃ y : Int, (n : Int) = y := ⟨_, rfl⟩
  have HY := hid (And.intro hy.symm hn)
  rw [hy]
  have H0 : 0 ≤ y := by omega
  clear hy hn
  go_enter Tryd.func61, Tryd.ntmps61
  go_wp2
  go_loopw [1] (fun vn wr => ∃ (m : Nat) (x : Int) (pre : List UInt8), Hid (x = (m : Int) ∧ m < 9223372036854775808) ∧ 0 ≤ x ∧ vn = .int .i64 x ∧ numW n = pre ++ numW m ∧ Wr wr B b (l ++ pre) ∧ Below B w wr) (fun vn _ => (intOf vn).toNat)
  case atStart => exact ⟨n, y, [], HY, H0, rfl, rfl, by simpa using h, Below.refl _ _⟩
  case round =>
    obtain ⟨m, x, pre, HX, h0, rfl, hp, hW, hbel⟩ := hrel
    have HC : Hid (∀ (z : Int) (c : UInt8), z = (c.toNat : Int) → Calls Tryd.prog 63 #[.pointer (some ⟨b, 0, none⟩), .int .u8 z] wr fun e w' => e = .returned .nilIface ∧ Wr w' B b (l ++ pre ++ [c]) ∧ Below B wr w') := by
      intro z c hz
      have hpl : pre.length ≤ 9 := by have := congrArg List.length hp; have h9 := hlen.out; rw [List.length_append] at this; omega
      exact wbyte B b (l ++ pre) (by rw [List.length_append]; omega) c z hz wr hW (Nat.le_trans hB hbel.size)
    by_cases h128 : x < 128
    · have HE : Hid (x = ((UInt8.ofNat m).toNat : Int)) := by unfold Hid; have := HX.out; rw [UInt8.toNat_ofNat']; omega
      have HN : Hid (numW m = [UInt8.ofNat m]) := numW_small (by have := HX.out; omega)
      have HP := hid hp
      clear hW hlen hp
      go_wp2_with (go_at_call 63; refine (HC.out _ _ HE.out).mono ?_; rintro e w1 ⟨rfl, h1, h2⟩)
      go_end0
      refine ⟨rfl, ?_, hbel.trans h2⟩
      rw [HP.out, HN.out, ← List.append_assoc]
      exact h1
    · have HO : Hid (bits .or .u8 (x % 256) 128 = (((UInt8.ofNat (128 + m % 128)).toNat : Nat) : Int)) := by have := or_more m; rwa [← HX.out.1] at this
      have HN : Hid (numW m = UInt8.ofNat (128 + m % 128) :: numW (m / 128)) := numW_big (by have := HX.out; omega)
      have HP := hid hp
      clear hW hlen hp
      go_wp2_with (go_at_call 63; refine (HC.out _ _ HO.out).mono ?_; rintro e w1 ⟨rfl, h1, h2⟩)
      go_roundw
      case rel =>
        refine ⟨m / 128, x / 128, pre ++ [UInt8.ofNat (128 + m % 128)], ?_, ?_, rfl, ?_, ?_, hbel.trans h2⟩
        · unfold Hid; have := HX.out; omega
        · omega
        · rw [HP.out, HN.out, List.append_assoc]; rfl
        · rw [← List.append_assoc]; exact h1
      case measure => simp [intOf]; omega

theorem LsB.at' {w : World} {A : Option Addr} {n c : Nat} {ls : List (List UInt8)} (h : LsB w (.slice A n c) ls) (k : Nat) (hk : k < ls.length) :
    ∃ b off A' c', A = some ⟨b, off, none⟩ ∧ w.cell? ⟨b, off + k, none⟩ = some (.slice A' (ls[k]).length c') ∧ HoldsA w A' ls[k] := by
  obtain ⟨b, off, A', c', h1, h2, h3⟩ := h.at k hk
  exact ⟨b, off, A', c', h1, h2, h3.holdsA⟩

set_option maxRecDepth 100000 in
set_option maxHeartbeats 4000000 in
theorem list_any (v : Value) (ls : List (List UInt8)) (hlen : ls.length ≤ 100000) (hsz : (rowsM ls).length ≤ 500000) (w : World) (h : LsB w v ls) :
    Calls Tryd.prog 31 #[v] w fun e w' => ∃ v', e = .returned v' ∧ Row w' w.heap.size v' (listM ls) ∧ Below w.heap.size w w' := by
  have HS := hid h
  obtain ⟨A, c, rfl, _⟩ := h
  obtain ⟨n, hn⟩ : ∃ n, ls.length = n := ⟨_, rfl⟩
  have HN := hid hn
  have HZ := hid hsz
  have hn9 : (numW ls.length).length ≤ 9 := numW_len9 _ (by omega)
  have HN9 := hid hn9
  have HNum : Hid (∀ (W : World) (m : Nat) (l : List UInt8), m < 9223372036854775808 → l.length ≤ 900000 → Wr W w.heap.size w.heap.size l → w.heap.size ≤ W.heap.size → Calls Tryd.prog 61 #[.pointer (some ⟨w.heap.size, 0, none⟩), .int .i64 m] W fun e w' => e = .returned (.tuple #[]) ∧ Wr w' w.heap.size w.heap.size (l ++ numW m) ∧ Below w.heap.size W w') :=
    fun W m l hm hl hW hs => wnumber_big w.heap.size w.heap.size m hm l hl W hW hs
  have HW := hid (wr_new w w.heap.size (Nat.le_refl _))
  rw [hn] at hlen ⊢
  clear hn hsz hn9
  go_enter Tryd.func31, Tryd.ntmps31
  go_wp2_with (go_at_call 61; refine (HNum.out _ n [] (by omega) (by decide) HW.out (by simp)).mono ?_; rintro e w1 ⟨rfl, h1, k1⟩)
  have HB1 : Hid (Below w.heap.size w w1) := ((Below.refl _ _).alloc (Nat.le_refl _) _).trans k1
  have HW1 := hid h1
  clear k1 h1
  go_loopw [11] (fun vi wr => ∃ i : Nat, i ≤ n ∧ vi = .int .i64 i ∧ Hid (Wr wr w.heap.size w.heap.size (numW n ++ rowsM (ls.take i))) ∧ Hid (Below w.heap.size w wr)) (fun vi _ => n - (intOf vi).toNat)
  case atStart => exact ⟨0, Nat.zero_le _, rfl, by simpa [rowsM] using HW1, HB1⟩
  case round =>
    obtain ⟨i, hi, rfl, HWi, HB⟩ := hrel
    by_cases hlt : i < n
    · have hil : i < ls.length := by rw [HN.out]; exact hlt
      obtain ⟨b, off, A', c', rfl, hcw, hA⟩ := HS.out.at' i hil
      have hc := (HB.out.cell (p := ⟨b, off + i, none⟩) (cell_lt hcw)).trans hcw
      have hg : ∀ g, (∃ o s, A' = some ⟨g, o, s⟩) → 0 < (ls[i]).length → g ≠ w.heap.size := by
        rintro g ⟨o, s, rfl⟩ h0
        obtain ⟨g2, o3, e4, hh⟩ := hA h0
        injection e4 with e4
        injection e4 with e4 _ _
        have := hh.lt h0
        omega
      clear hcw
      have HX : Hid (rowsM (ls.take (i + 1)) = rowsM (ls.take i) ++ (numW (ls[i]).length ++ ls[i])) := rowsM_next ls i hil
      have HXL : Hid ((numW n ++ rowsM (ls.take i)).length + (numW (ls[i]).length ++ ls[i]).length ≤ 600000) := by
        have h1 := rowsM_take ls (i + 1)
        rw [HX.out, List.length_append] at h1
        have h2 := HZ.out
        have h3 := HN9.out
        rw [HN.out] at h3
        unfold Hid
        rw [List.length_append]
        omega
      have HA' := hid hA
      have HG := hid hg
      generalize ls[i] = Y at *
      have HYL : Hid (Y.length < 9223372036854775808) := by have := HXL.out; unfold Hid; rw [List.length_append, List.length_append] at this; omega
      have HBs : Hid (w.heap.size ≤ wr.heap.size) := HB.out.size
      have HXW : Hid ((numW n ++ rowsM (ls.take i) ++ numW Y.length).length + Y.length ≤ 1000000) := by have := HXL.out; unfold Hid; simp only [List.length_append] at this ⊢; omega
      clear hA hg
      go_wp2_with (first
        | (go_at_call 61; refine (HNum.out _ Y.length _ HYL.out (by have := HXL.out; omega) HWi.out HBs.out).mono ?_; rintro e w2 ⟨rfl, h2, k2⟩; have HB2 := hid (HB.out.trans k2); have HA2 : Hid (HoldsA w2 A' Y) := HA'.out.below HB2.out; have HW2 := hid h2; have HZ2 : Hid (w.heap.size ≤ w2.heap.size) := Nat.le_trans HBs.out k2.size)
        | (go_at_call 38; (refine (wwrite_any w.heap.size w.heap.size _ Y HXW.out A' c' w2 HW2.out HZ2.out HA2.out HG.out).mono ?_; rintro e w3 ⟨rfl, h3, k3⟩)))
      go_roundw
      case rel =>
        refine ⟨i + 1, by omega, by go_num, ?_, HB2.out.trans k3⟩
        rw [HX.out]
        have := h3
        simp only [List.append_assoc] at this ⊢
        exact this
      case measure => simp [intOf]; omega
    · have HE : Hid (listM ls = numW n ++ rowsM (ls.take i)) := by
        unfold Hid listM
        rw [HN.out, List.take_of_length_le (by rw [HN.out]; omega)]
      have HBs : Hid (w.heap.size ≤ wr.heap.size) := HB.out.size
      go_wp2_with (go_at_call 34; refine (wbytes_any _ _ _ _ HWi.out).mono ?_; rintro e w2 ⟨v, rfl, h3, h4⟩)
      go_ret
      exact ⟨_, rfl, by rw [HE.out]; exact h3, HB.out.trans (h4.mono HBs.out)⟩
end Go.Proofs.YtegdkcldgepngaaDoor
