/- The document's Read of what is taken for a decimal. Conditions: as each theorem names them. -/
import Derived.Test.YtadehoibjpmhhaaGreatDoorRR
import Derived.BigRegion
namespace Go.Proofs.YtadehoibjpmhhaaGreatDoor
open Go.RowKit

/-- The digits' number, read as it comes. -/
def decZ (l : List UInt8) : Int := l.foldl (fun r c => if 48 ≤ c.toNat ∧ c.toNat ≤ 57 then r * 10 + ((c.toNat : Int) - 48) else r) 0
theorem decZ_snoc (l : List UInt8) (c : UInt8) : decZ (l ++ [c]) = if 48 ≤ c.toNat ∧ c.toNat ≤ 57 then decZ l * 10 + ((c.toNat : Int) - 48) else decZ l := by unfold decZ; rw [List.foldl_append]; rfl
theorem decZ_take (s : ByteArray) (k : Nat) (h : k < s.size) : decZ (s.data.toList.take (k + 1)) = if 48 ≤ s[k].toNat ∧ s[k].toNat ≤ 57 then decZ (s.data.toList.take k) * 10 + ((s[k].toNat : Int) - 48) else decZ (s.data.toList.take k) := by
  rw [take_snoc s k h, decZ_snoc]
theorem decZ_dec (u : Nat) : decZ (Lib.decDigits u) = u := by
  induction u using Nat.strongRecOn with
  | ind u ih =>
    rw [Lib.decDigits]
    have e : ∀ d : Nat, d < 10 → (UInt8.ofNat (48 + d)).toNat = 48 + d := fun d h => by rw [UInt8.toNat_ofNat']; omega
    by_cases h10 : u < 10
    · rw [dif_pos h10]
      have : decZ [UInt8.ofNat (48 + u)] = decZ ([] ++ [UInt8.ofNat (48 + u)]) := rfl
      rw [this, decZ_snoc, e u h10, if_pos (by omega), show decZ [] = 0 from rfl]
      omega
    · rw [dif_neg h10, decZ_snoc, ih (u / 10) (by omega), e _ (by omega), if_pos (by omega)]
      omega
/-- What the digits and the sign make of a text. -/
def decN (l : List UInt8) : Int := if l.headD 0 = 45 then IntKind.i64.wrap (-(IntKind.i64.wrap (decZ l))) else IntKind.i64.wrap (decZ l)
theorem decN_itoa {n : Int} (h : inI n) : decN (Lib.itoa n) = n := by
  unfold inI at h
  unfold Lib.itoa
  by_cases h0 : n < 0
  · rw [if_pos h0]
    unfold decN
    have e : decZ (45 :: Lib.decDigits n.natAbs) = decZ (Lib.decDigits n.natAbs) := rfl
    have hh : ((45 : UInt8) :: Lib.decDigits n.natAbs).headD 0 = 45 := rfl
    rw [if_pos hh, e, decZ_dec, IntKind.wrap_i64, IntKind.wrap_i64]
    omega
  · rw [if_neg h0]
    obtain ⟨c, r, e, h1, h2⟩ := dec_head n.toNat
    unfold decN
    rw [decZ_dec, e, if_neg (show ¬ (c :: r).headD 0 = 45 from fun q => by have : c = 45 := q; rw [this] at h1; exact absurd h1 (by decide)), IntKind.wrap_i64]
    omega
theorem decN_in (l : List UInt8) : inI (decN l) := by
  unfold decN inI
  split
  all_goals rw [IntKind.wrap_i64]; omega

/-- The two structs in memory. -/
structure DecSt (w W : World) (k N : Int) : Prop where
  bel : Below w.heap.size w W
  sz : w.heap.size + 1 < W.heap.size
  f0 : ∀ j, W.frozen? ⟨w.heap.size, j, none⟩ = false
  f1 : ∀ j, W.frozen? ⟨w.heap.size + 1, j, none⟩ = false
  a0 : W.cell? ⟨w.heap.size, 0, none⟩ = some (.int .i64 0)
  a1 : W.cell? ⟨w.heap.size, 1, none⟩ = some (.int .i64 0)
  a2 : W.cell? ⟨w.heap.size, 2, none⟩ = some (.string ⟨#[]⟩)
  b0 : W.cell? ⟨w.heap.size + 1, 0, none⟩ = some (.int .i64 k)
  b1 : W.cell? ⟨w.heap.size + 1, 1, none⟩ = some (.int .i64 N)
  b2 : W.cell? ⟨w.heap.size + 1, 2, none⟩ = some (.string ⟨#[]⟩)
theorem DecSt.drew {w W : World} {k N : Int} (h : DecSt w W k N) : DecSt w W.drew k N := ⟨h.bel.drew, h.sz, h.f0, h.f1, h.a0, h.a1, h.a2, h.b0, h.b1, h.b2⟩
theorem DecSt.drewN {w W : World} {k N : Int} (h : DecSt w W k N) (n : Nat) : DecSt w (W.drewN n) k N := ⟨below_drewN h.bel n, h.sz, h.f0, h.f1, h.a0, h.a1, h.a2, h.b0, h.b1, h.b2⟩
theorem DecSt.set {w W : World} {k N : Int} (h : DecSt w W k N) (M : Int) : DecSt w (W.setCell ⟨w.heap.size + 1, 1, none⟩ (.int .i64 M)) k M :=
  ⟨h.bel.setCell (by simp) _, by simpa using h.sz, fun j => by simp [h.f0], fun j => by simp [h.f1], (World.cell?_setCell_other _ _ _ _ (addr_ne (by omega))).trans h.a0, (World.cell?_setCell_other _ _ _ _ (addr_ne (by omega))).trans h.a1, (World.cell?_setCell_other _ _ _ _ (addr_ne (by omega))).trans h.a2, (World.cell?_setCell_other _ _ _ _ (by simp)).trans h.b0, World.cell?_setCell_same _ _ _ h.b1, (World.cell?_setCell_other _ _ _ _ (by simp)).trans h.b2⟩
def DecInv (s : ByteArray) (w : World) (vi : Value) (wr : World) : Prop := ∃ i : Nat, i ≤ s.size ∧ vi = .int .i64 i ∧ DecSt w wr 1 (IntKind.i64.wrap (decZ (s.data.toList.take i)))
theorem dec_step (z : Int) (c : Nat) : IntKind.i64.wrap (IntKind.i64.wrap (IntKind.i64.wrap z * 10) + ((c : Int) - 48)) = IntKind.i64.wrap (z * 10 + ((c : Int) - 48)) := by
  simp only [IntKind.wrap_i64]; omega

set_option maxHeartbeats 4000000 in
theorem rread_dy (s : ByteArray) (hsz : 1 ≤ s.size) (hsm : s.size ≤ 1000) (hne : (s.toList == []) = false) (nt : (s.toList == [116, 114, 117, 101]) = false) (nf : (s.toList == [102, 97, 108, 115, 101]) = false) (c0 : Nat) (h0 : (s[0]'(by omega)).toNat = c0) (n102 : ((c0 : Int) == 102) = false) (n98 : ((c0 : Int) == 98) = false) (n116 : ((c0 : Int) == 116) = false) (T : ByteArray) (hq : (T.toList == s.toList) = true) (w : World) (HS : Hid (∀ W, Below w.heap.size w W → Calls Tryz.prog 21 #[.agg #[.int .i64 1, .int .i64 (decN s.data.toList), .string ⟨#[]⟩]] W fun e w' => e = .returned (.string T) ∧ Below W.heap.size W w')) :
    Calls Tryz.prog 8 #[.string s] w fun e w' => e = .returned (.tuple #[.agg #[.int .i64 1, .int .i64 (decN s.data.toList), .string ⟨#[]⟩], .bool true]) ∧ Below w.heap.size w w' := by
  have HB := hid (below2 w)
  have hat0 : ∀ W, (Instr.index 9 (.string s) (.int .i64 0)).run Tryz.prog W = .ok (.int .u8 (c0 : Int)) W := fun W => by
    rw [← h0]
    exact string_at s 0 (by omega) W
  have H45 : Hid (decN s.data.toList = if c0 = 45 then IntKind.i64.wrap (-(IntKind.i64.wrap (decZ s.data.toList))) else IntKind.i64.wrap (decZ s.data.toList)) := by
    have e : s.data.toList.headD 0 = s[0]'(by omega) := by
      cases hl : s.data.toList with
      | nil => have h1 := Lib.size_eq s; have h2 : s.data.toList.length = 0 := by rw [hl]; rfl
               omega
      | cons c r =>
        have : s[0]'(by omega) = s.data.toList[0]'(by rw [hl]; simp) := rfl
        rw [this]
        simp [hl]
    show decN _ = _
    unfold decN
    rw [e]
    by_cases h : s[0]'(by omega) = 45
    · rw [if_pos h, if_pos (by rw [← h0, h]; rfl)]
    · rw [if_neg h, if_neg (show ¬ c0 = 45 from fun q => h (UInt8.toNat_inj.1 (h0.trans q)))]
  clear h0
  go_enter Tryz.func8, Tryz.ntmps8
  go_wp2
  go_loopw [9] (fun vi wr => DecInv s w vi wr) (fun vi _ => s.size - (intOf vi).toNat)
  case atStart => exact ⟨0, by omega, rfl, ⟨HB.out _ _, by simp, fun j => by simp, fun j => by simp, by simp, by simp, by simp, by simp, by simp [decZ, IntKind.wrap_i64], by simp⟩⟩
  case round =>
    obtain ⟨i, hi, rfl, hst⟩ := hrel
    have HST := hid hst
    obtain ⟨-, hzW, f0, f1, a0, a1, a2, b0, b1, b2⟩ := hst
    obtain ⟨N, hN⟩ : ∃ N, IntKind.i64.wrap (decZ (s.data.toList.take i)) = N := ⟨_, rfl⟩
    rw [hN] at b1
    have HN := hid hN
    clear hN
    by_cases hlt : i < s.size
    · obtain ⟨c, hcc⟩ : ∃ c, s[i].toNat = c := ⟨_, rfl⟩
      have hc256 : c < 256 := by rw [← hcc]; exact UInt8.toNat_lt _
      have hidx : ∀ W, (Instr.index 9 (.string s) (.int .i64 (i : Int))).run Tryz.prog W = .ok (.int .u8 (c : Int)) W := fun W => by
        rw [← hcc]
        exact string_at s i hlt W
      have HZ := hid (decZ_take s i hlt)
      rw [hcc] at HZ
      clear hcc
      by_cases hd : 48 ≤ c ∧ c ≤ 57
      · obtain ⟨hd1, hd2⟩ := hd
        have m1 : decide ((48 : Int) ≤ (c : Int)) = true := decide_eq_true (by omega)
        have m2 : decide ((c : Int) ≤ 57) = true := decide_eq_true (by omega)
        have m3 : decide (48 ≤ c) = true := decide_eq_true hd1
        have m4 : decide (c ≤ 57) = true := decide_eq_true hd2
        have w1 : IntKind.u8.wrap ((c : Int) - 48) = (c : Int) - 48 := by rw [IntKind.wrap_u8]; omega
        have w2 : IntKind.i64.wrap ((c : Int) - 48) = (c : Int) - 48 := by rw [IntKind.wrap_i64]; omega
        have HE : Hid (IntKind.i64.wrap (IntKind.i64.wrap (N * 10) + ((c : Int) - 48)) = IntKind.i64.wrap (decZ (s.data.toList.take (i + 1)))) := by
          show _ = _
          rw [HZ.out, if_pos ⟨hd1, hd2⟩, ← HN.out, dec_step]
        clear hd1 hd2 hc256
        go_wp2
        go_region
        all_goals go_wp2
        all_goals go_roundw
        case rel =>
          refine ⟨i + 1, by omega, by go_num, ?_⟩
          rw [← HE.out]
          simp only [IntWalk.i64_left]
          first | exact (HST.out.set _).drew | exact (HST.out.drew.set _) | exact ((HST.out.set _).drewN _) | exact ((HST.out.drewN _).set _)
        case measure => simp [intOf]; omega
      · have HE : Hid (IntKind.i64.wrap (decZ (s.data.toList.take i)) = IntKind.i64.wrap (decZ (s.data.toList.take (i + 1)))) := by
          show _ = _
          rw [HZ.out, if_neg hd]
        have hd' : c < 48 ∨ (48 ≤ c ∧ 57 < c) := by omega
        clear hd
        rcases hd' with hd | ⟨hd1, hd2⟩
        · have m1 : decide ((48 : Int) ≤ (c : Int)) = false := decide_eq_false (by omega)
          have m3 : decide (48 ≤ c) = false := decide_eq_false (by omega)
          clear hd hc256
          go_wp2
          go_roundw
          case rel => exact ⟨i + 1, by omega, by go_num, by rw [← HE.out]; exact HST.out⟩
          case measure => simp [intOf]; omega
        · have m1 : decide ((48 : Int) ≤ (c : Int)) = true := decide_eq_true (by omega)
          have m2 : decide ((c : Int) ≤ 57) = false := decide_eq_false (by omega)
          have m3 : decide (48 ≤ c) = true := decide_eq_true (by omega)
          have m4 : decide (c ≤ 57) = false := decide_eq_false (by omega)
          clear hd1 hd2 hc256
          go_wp2
          go_roundw
          case rel => exact ⟨i + 1, by omega, by go_num, by rw [← HE.out]; exact HST.out⟩
          case measure => simp [intOf]; omega
    · obtain rfl : i = s.size := by omega
      have HF : Hid (N = IntKind.i64.wrap (decZ s.data.toList)) := by
        show _ = _
        rw [← HN.out, List.take_of_length_le (by rw [Lib.size_eq s]; exact Nat.le_refl _)]
      have HSTN : Hid (DecSt w wr 1 N) := by
        have := HST.out
        rw [HN.out] at this
        exact hid this
      by_cases h45 : c0 = 45
      · have HD : Hid (wrap64 (-N) = decN s.data.toList) := by
          show _ = _
          rw [← IntWalk.i64_left]
          rw [H45.out, if_pos h45, HF.out]
        have c45 : ((c0 : Int) == 45) = true := by simp [h45]
        clear h45
        go_upto_region 35 with (fail)
        rw [HD.out]
        refine wp_letter (fun W => Hid (Below w.heap.size w W ∧ w.heap.size + 1 < W.heap.size) ∧ (∀ j, W.frozen? ⟨w.heap.size, j, none⟩ = false) ∧ W.cell? ⟨w.heap.size, 0, none⟩ = some (.int .i64 0) ∧ W.cell? ⟨w.heap.size, 1, none⟩ = some (.int .i64 0) ∧ W.cell? ⟨w.heap.size, 2, none⟩ = some (.string ⟨#[]⟩) ∧ W.cell? ⟨w.heap.size + 1, 0, none⟩ = some (.int .i64 1) ∧ W.cell? ⟨w.heap.size + 1, 1, none⟩ = some (.int .i64 (decN s.data.toList)) ∧ W.cell? ⟨w.heap.size + 1, 2, none⟩ = some (.string ⟨#[]⟩)) ?_ (fun W hW => ?_)
        · have hf := HSTN.out.set (decN s.data.toList)
          exact ⟨hid ⟨hf.bel, hf.sz⟩, hf.f0, hf.a0, hf.a1, hf.a2, hf.b0, hf.b1, hf.b2⟩
        obtain ⟨hh, f0, a0, a1, a2, b0, b1, b2⟩ := hW
        obtain ⟨hbW, hzW⟩ := hh.out
        clear hh
        go_wp2_with (go_at_call 21; refine (HS.out _ hbW).mono ?_; rintro e w2 ⟨rfl, hb2⟩; obtain ⟨hc2, hf2⟩ := bcell hb2; have p0 := hc2 w.heap.size 0 (by omega); have p1 := hc2 w.heap.size 1 (by omega); have p2 := hc2 w.heap.size 2 (by omega); have r0 := hc2 (w.heap.size + 1) 0 (by omega); have r1 := hc2 (w.heap.size + 1) 1 (by omega); have r2 := hc2 (w.heap.size + 1) 2 (by omega); have p3 : ∀ j, w2.frozen? ⟨w.heap.size, j, none⟩ = false := (fun j => (hf2 w.heap.size j (by omega)).trans (f0 j)); rw [a0] at p0; rw [a1] at p1; rw [a2] at p2; rw [b0] at r0; rw [b1] at r1; rw [b2] at r2)
        refine bodyPost_ret (v := .tuple #[.agg #[.int .i64 1, .int .i64 (decN s.data.toList), .string ⟨#[]⟩], .bool true]) (by simp [results, Tryz.results8, go_sem, cell_set_same, p0, p1, p2]) rfl ⟨rfl, ?_⟩
        iterate 3 (refine Below.setCell ?_ (by simp) _)
        exact hbW.trans (hb2.mono hbW.size)
      · have HD : Hid (N = decN s.data.toList) := by
          show _ = _
          rw [H45.out, if_neg h45, HF.out]
        have c45 : ((c0 : Int) == 45) = false := by simpa using fun h => h45 (by omega)
        clear h45
        go_upto_region 35 with (fail)
        refine wp_letter (fun W => Hid (Below w.heap.size w W ∧ w.heap.size + 1 < W.heap.size) ∧ (∀ j, W.frozen? ⟨w.heap.size, j, none⟩ = false) ∧ W.cell? ⟨w.heap.size, 0, none⟩ = some (.int .i64 0) ∧ W.cell? ⟨w.heap.size, 1, none⟩ = some (.int .i64 0) ∧ W.cell? ⟨w.heap.size, 2, none⟩ = some (.string ⟨#[]⟩) ∧ W.cell? ⟨w.heap.size + 1, 0, none⟩ = some (.int .i64 1) ∧ W.cell? ⟨w.heap.size + 1, 1, none⟩ = some (.int .i64 (decN s.data.toList)) ∧ W.cell? ⟨w.heap.size + 1, 2, none⟩ = some (.string ⟨#[]⟩)) ?_ (fun W hW => ?_)
        · have hf := HSTN.out
          rw [HD.out] at hf
          exact ⟨hid ⟨hf.bel, hf.sz⟩, hf.f0, hf.a0, hf.a1, hf.a2, hf.b0, hf.b1, hf.b2⟩
        obtain ⟨hh, f0, a0, a1, a2, b0, b1, b2⟩ := hW
        obtain ⟨hbW, hzW⟩ := hh.out
        clear hh
        go_wp2_with (go_at_call 21; refine (HS.out _ hbW).mono ?_; rintro e w2 ⟨rfl, hb2⟩; obtain ⟨hc2, hf2⟩ := bcell hb2; have p0 := hc2 w.heap.size 0 (by omega); have p1 := hc2 w.heap.size 1 (by omega); have p2 := hc2 w.heap.size 2 (by omega); have r0 := hc2 (w.heap.size + 1) 0 (by omega); have r1 := hc2 (w.heap.size + 1) 1 (by omega); have r2 := hc2 (w.heap.size + 1) 2 (by omega); have p3 : ∀ j, w2.frozen? ⟨w.heap.size, j, none⟩ = false := (fun j => (hf2 w.heap.size j (by omega)).trans (f0 j)); rw [a0] at p0; rw [a1] at p1; rw [a2] at p2; rw [b0] at r0; rw [b1] at r1; rw [b2] at r2)
        refine bodyPost_ret (v := .tuple #[.agg #[.int .i64 1, .int .i64 (decN s.data.toList), .string ⟨#[]⟩], .bool true]) (by simp [results, Tryz.results8, go_sem, cell_set_same, p0, p1, p2]) rfl ⟨rfl, ?_⟩
        iterate 3 (refine Below.setCell ?_ (by simp) _)
        exact hbW.trans (hb2.mono hbW.size)

set_option maxHeartbeats 4000000 in
theorem rread_dn (s : ByteArray) (hsz : 1 ≤ s.size) (hsm : s.size ≤ 1000) (hne : (s.toList == []) = false) (nt : (s.toList == [116, 114, 117, 101]) = false) (nf : (s.toList == [102, 97, 108, 115, 101]) = false) (c0 : Nat) (h0 : (s[0]'(by omega)).toNat = c0) (n102 : ((c0 : Int) == 102) = false) (n98 : ((c0 : Int) == 98) = false) (n116 : ((c0 : Int) == 116) = false) (T : ByteArray) (hq : (T.toList == s.toList) = false) (w : World) (HS : Hid (∀ W, Below w.heap.size w W → Calls Tryz.prog 21 #[.agg #[.int .i64 1, .int .i64 (decN s.data.toList), .string ⟨#[]⟩]] W fun e w' => e = .returned (.string T) ∧ Below W.heap.size W w')) :
    Calls Tryz.prog 8 #[.string s] w fun e w' => e = .returned (.tuple #[.agg #[.int .i64 0, .int .i64 0, .string ⟨#[]⟩], .bool false]) ∧ Below w.heap.size w w' := by
  have HB := hid (below2 w)
  have hat0 : ∀ W, (Instr.index 9 (.string s) (.int .i64 0)).run Tryz.prog W = .ok (.int .u8 (c0 : Int)) W := fun W => by
    rw [← h0]
    exact string_at s 0 (by omega) W
  have H45 : Hid (decN s.data.toList = if c0 = 45 then IntKind.i64.wrap (-(IntKind.i64.wrap (decZ s.data.toList))) else IntKind.i64.wrap (decZ s.data.toList)) := by
    have e : s.data.toList.headD 0 = s[0]'(by omega) := by
      cases hl : s.data.toList with
      | nil => have h1 := Lib.size_eq s; have h2 : s.data.toList.length = 0 := by rw [hl]; rfl
               omega
      | cons c r =>
        have : s[0]'(by omega) = s.data.toList[0]'(by rw [hl]; simp) := rfl
        rw [this]
        simp [hl]
    show decN _ = _
    unfold decN
    rw [e]
    by_cases h : s[0]'(by omega) = 45
    · rw [if_pos h, if_pos (by rw [← h0, h]; rfl)]
    · rw [if_neg h, if_neg (show ¬ c0 = 45 from fun q => h (UInt8.toNat_inj.1 (h0.trans q)))]
  clear h0
  go_enter Tryz.func8, Tryz.ntmps8
  go_wp2
  go_loopw [9] (fun vi wr => DecInv s w vi wr) (fun vi _ => s.size - (intOf vi).toNat)
  case atStart => exact ⟨0, by omega, rfl, ⟨HB.out _ _, by simp, fun j => by simp, fun j => by simp, by simp, by simp, by simp, by simp, by simp [decZ, IntKind.wrap_i64], by simp⟩⟩
  case round =>
    obtain ⟨i, hi, rfl, hst⟩ := hrel
    have HST := hid hst
    obtain ⟨-, hzW, f0, f1, a0, a1, a2, b0, b1, b2⟩ := hst
    obtain ⟨N, hN⟩ : ∃ N, IntKind.i64.wrap (decZ (s.data.toList.take i)) = N := ⟨_, rfl⟩
    rw [hN] at b1
    have HN := hid hN
    clear hN
    by_cases hlt : i < s.size
    · obtain ⟨c, hcc⟩ : ∃ c, s[i].toNat = c := ⟨_, rfl⟩
      have hc256 : c < 256 := by rw [← hcc]; exact UInt8.toNat_lt _
      have hidx : ∀ W, (Instr.index 9 (.string s) (.int .i64 (i : Int))).run Tryz.prog W = .ok (.int .u8 (c : Int)) W := fun W => by
        rw [← hcc]
        exact string_at s i hlt W
      have HZ := hid (decZ_take s i hlt)
      rw [hcc] at HZ
      clear hcc
      by_cases hd : 48 ≤ c ∧ c ≤ 57
      · obtain ⟨hd1, hd2⟩ := hd
        have m1 : decide ((48 : Int) ≤ (c : Int)) = true := decide_eq_true (by omega)
        have m2 : decide ((c : Int) ≤ 57) = true := decide_eq_true (by omega)
        have m3 : decide (48 ≤ c) = true := decide_eq_true hd1
        have m4 : decide (c ≤ 57) = true := decide_eq_true hd2
        have w1 : IntKind.u8.wrap ((c : Int) - 48) = (c : Int) - 48 := by rw [IntKind.wrap_u8]; omega
        have w2 : IntKind.i64.wrap ((c : Int) - 48) = (c : Int) - 48 := by rw [IntKind.wrap_i64]; omega
        have HE : Hid (IntKind.i64.wrap (IntKind.i64.wrap (N * 10) + ((c : Int) - 48)) = IntKind.i64.wrap (decZ (s.data.toList.take (i + 1)))) := by
          show _ = _
          rw [HZ.out, if_pos ⟨hd1, hd2⟩, ← HN.out, dec_step]
        clear hd1 hd2 hc256
        go_wp2
        go_region
        all_goals go_wp2
        all_goals go_roundw
        case rel =>
          refine ⟨i + 1, by omega, by go_num, ?_⟩
          rw [← HE.out]
          simp only [IntWalk.i64_left]
          first | exact (HST.out.set _).drew | exact (HST.out.drew.set _) | exact ((HST.out.set _).drewN _) | exact ((HST.out.drewN _).set _)
        case measure => simp [intOf]; omega
      · have HE : Hid (IntKind.i64.wrap (decZ (s.data.toList.take i)) = IntKind.i64.wrap (decZ (s.data.toList.take (i + 1)))) := by
          show _ = _
          rw [HZ.out, if_neg hd]
        have hd' : c < 48 ∨ (48 ≤ c ∧ 57 < c) := by omega
        clear hd
        rcases hd' with hd | ⟨hd1, hd2⟩
        · have m1 : decide ((48 : Int) ≤ (c : Int)) = false := decide_eq_false (by omega)
          have m3 : decide (48 ≤ c) = false := decide_eq_false (by omega)
          clear hd hc256
          go_wp2
          go_roundw
          case rel => exact ⟨i + 1, by omega, by go_num, by rw [← HE.out]; exact HST.out⟩
          case measure => simp [intOf]; omega
        · have m1 : decide ((48 : Int) ≤ (c : Int)) = true := decide_eq_true (by omega)
          have m2 : decide ((c : Int) ≤ 57) = false := decide_eq_false (by omega)
          have m3 : decide (48 ≤ c) = true := decide_eq_true (by omega)
          have m4 : decide (c ≤ 57) = false := decide_eq_false (by omega)
          clear hd1 hd2 hc256
          go_wp2
          go_roundw
          case rel => exact ⟨i + 1, by omega, by go_num, by rw [← HE.out]; exact HST.out⟩
          case measure => simp [intOf]; omega
    · obtain rfl : i = s.size := by omega
      have HF : Hid (N = IntKind.i64.wrap (decZ s.data.toList)) := by
        show _ = _
        rw [← HN.out, List.take_of_length_le (by rw [Lib.size_eq s]; exact Nat.le_refl _)]
      have HSTN : Hid (DecSt w wr 1 N) := by
        have := HST.out
        rw [HN.out] at this
        exact hid this
      by_cases h45 : c0 = 45
      · have HD : Hid (wrap64 (-N) = decN s.data.toList) := by
          show _ = _
          rw [← IntWalk.i64_left]
          rw [H45.out, if_pos h45, HF.out]
        have c45 : ((c0 : Int) == 45) = true := by simp [h45]
        clear h45
        go_upto_region 35 with (fail)
        rw [HD.out]
        refine wp_letter (fun W => Hid (Below w.heap.size w W ∧ w.heap.size + 1 < W.heap.size) ∧ (∀ j, W.frozen? ⟨w.heap.size, j, none⟩ = false) ∧ W.cell? ⟨w.heap.size, 0, none⟩ = some (.int .i64 0) ∧ W.cell? ⟨w.heap.size, 1, none⟩ = some (.int .i64 0) ∧ W.cell? ⟨w.heap.size, 2, none⟩ = some (.string ⟨#[]⟩) ∧ W.cell? ⟨w.heap.size + 1, 0, none⟩ = some (.int .i64 1) ∧ W.cell? ⟨w.heap.size + 1, 1, none⟩ = some (.int .i64 (decN s.data.toList)) ∧ W.cell? ⟨w.heap.size + 1, 2, none⟩ = some (.string ⟨#[]⟩)) ?_ (fun W hW => ?_)
        · have hf := HSTN.out.set (decN s.data.toList)
          exact ⟨hid ⟨hf.bel, hf.sz⟩, hf.f0, hf.a0, hf.a1, hf.a2, hf.b0, hf.b1, hf.b2⟩
        obtain ⟨hh, f0, a0, a1, a2, b0, b1, b2⟩ := hW
        obtain ⟨hbW, hzW⟩ := hh.out
        clear hh
        go_wp2_with (go_at_call 21; refine (HS.out _ hbW).mono ?_; rintro e w2 ⟨rfl, hb2⟩; obtain ⟨hc2, hf2⟩ := bcell hb2; have p0 := hc2 w.heap.size 0 (by omega); have p1 := hc2 w.heap.size 1 (by omega); have p2 := hc2 w.heap.size 2 (by omega); have r0 := hc2 (w.heap.size + 1) 0 (by omega); have r1 := hc2 (w.heap.size + 1) 1 (by omega); have r2 := hc2 (w.heap.size + 1) 2 (by omega); have p3 : ∀ j, w2.frozen? ⟨w.heap.size, j, none⟩ = false := (fun j => (hf2 w.heap.size j (by omega)).trans (f0 j)); rw [a0] at p0; rw [a1] at p1; rw [a2] at p2; rw [b0] at r0; rw [b1] at r1; rw [b2] at r2)
        refine bodyPost_ret (v := .tuple #[.agg #[.int .i64 0, .int .i64 0, .string ⟨#[]⟩], .bool false]) (by simp [results, Tryz.results8, go_sem, cell_set_same, p0, p1, p2]) rfl ⟨rfl, ?_⟩
        iterate 3 (refine Below.setCell ?_ (by simp) _)
        exact hbW.trans (hb2.mono hbW.size)
      · have HD : Hid (N = decN s.data.toList) := by
          show _ = _
          rw [H45.out, if_neg h45, HF.out]
        have c45 : ((c0 : Int) == 45) = false := by simpa using fun h => h45 (by omega)
        clear h45
        go_upto_region 35 with (fail)
        refine wp_letter (fun W => Hid (Below w.heap.size w W ∧ w.heap.size + 1 < W.heap.size) ∧ (∀ j, W.frozen? ⟨w.heap.size, j, none⟩ = false) ∧ W.cell? ⟨w.heap.size, 0, none⟩ = some (.int .i64 0) ∧ W.cell? ⟨w.heap.size, 1, none⟩ = some (.int .i64 0) ∧ W.cell? ⟨w.heap.size, 2, none⟩ = some (.string ⟨#[]⟩) ∧ W.cell? ⟨w.heap.size + 1, 0, none⟩ = some (.int .i64 1) ∧ W.cell? ⟨w.heap.size + 1, 1, none⟩ = some (.int .i64 (decN s.data.toList)) ∧ W.cell? ⟨w.heap.size + 1, 2, none⟩ = some (.string ⟨#[]⟩)) ?_ (fun W hW => ?_)
        · have hf := HSTN.out
          rw [HD.out] at hf
          exact ⟨hid ⟨hf.bel, hf.sz⟩, hf.f0, hf.a0, hf.a1, hf.a2, hf.b0, hf.b1, hf.b2⟩
        obtain ⟨hh, f0, a0, a1, a2, b0, b1, b2⟩ := hW
        obtain ⟨hbW, hzW⟩ := hh.out
        clear hh
        go_wp2_with (go_at_call 21; refine (HS.out _ hbW).mono ?_; rintro e w2 ⟨rfl, hb2⟩; obtain ⟨hc2, hf2⟩ := bcell hb2; have p0 := hc2 w.heap.size 0 (by omega); have p1 := hc2 w.heap.size 1 (by omega); have p2 := hc2 w.heap.size 2 (by omega); have r0 := hc2 (w.heap.size + 1) 0 (by omega); have r1 := hc2 (w.heap.size + 1) 1 (by omega); have r2 := hc2 (w.heap.size + 1) 2 (by omega); have p3 : ∀ j, w2.frozen? ⟨w.heap.size, j, none⟩ = false := (fun j => (hf2 w.heap.size j (by omega)).trans (f0 j)); rw [a0] at p0; rw [a1] at p1; rw [a2] at p2; rw [b0] at r0; rw [b1] at r1; rw [b2] at r2)
        refine bodyPost_ret (v := .tuple #[.agg #[.int .i64 0, .int .i64 0, .string ⟨#[]⟩], .bool false]) (by simp [results, Tryz.results8, go_sem, cell_set_same, p0, p1, p2]) rfl ⟨rfl, ?_⟩
        iterate 3 (refine Below.setCell ?_ (by simp) _)
        exact hbW.trans (hb2.mono hbW.size)

end Go.Proofs.YtadehoibjpmhhaaGreatDoor
