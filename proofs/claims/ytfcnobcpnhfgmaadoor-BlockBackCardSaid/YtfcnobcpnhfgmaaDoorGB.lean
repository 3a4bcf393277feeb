/- rotateCmpFunc over cells: two neighbouring stretches, exchanged. Conditions: as each theorem names them. -/
import Derived.Test.YtfcnobcpnhfgmaaDoorGA
namespace Go.Proofs.YtfcnobcpnhfgmaaDoor
open Go.Shelf Go.RowKit Go.Lib Go.Sort

section
variable {α : Type} [Inhabited α]
/-- What stood in [m, b) stands ahead of what stood in [a, m). -/
structure RotR (a m b : Nat) (d d' : Array α) : Prop where
  size : d'.size = d.size
  perm : ∀ lo hi, lo ≤ a → b ≤ hi → hi ≤ d.size → PermIn lo hi d d'
  fst : ∀ t, m + t < b → d'[a + t]! = d[m + t]!
  snd : ∀ t, a + t < m → d'[a + (b - m) + t]! = d[a + t]!
  other : ∀ i, i < a ∨ b ≤ i → d'[i]! = d[i]!
theorem RotR.of_size {a m b : Nat} {d d' : Array α} (h : RotR a m b d d') : d'.size = d.size := h.size
/-- The first stretch is the longer one. -/
theorem rot_step1 {p m j : Nat} {dk d1 d' : Array α} (hp : p + j ≤ m) (h1 : SwapR p m j dk d1) (h2 : RotR (p + j) m (m + j) d1 d') : RotR p m (m + j) dk d' := by
  refine ⟨h2.size.trans h1.size, fun lo hi q1 q2 q3 => permIn_trans _ _ _ lo hi (h1.perm lo hi q1 (by omega) (by omega) q2 q3) (h2.perm lo hi (by omega) q2 (by rw [h1.size]; exact q3)), fun t ht => ?_, fun t ht => ?_, fun i hi => ?_⟩
  · rw [h2.other _ (by omega)]
    exact h1.left t (by omega)
  · rw [show p + (m + j - m) + t = p + j + t by omega]
    by_cases ht2 : t < j
    · rw [h2.fst t (by omega)]
      exact h1.right t ht2
    · have := h2.snd (t - j) (by omega)
      rw [show p + j + (m + j - m) + (t - j) = p + j + t by omega] at this
      rw [this, h1.other _ (by omega) (by omega)]
      congr 1; omega
  · rw [h2.other _ (by omega)]
    exact h1.other _ (by omega) (by omega)
/-- The second stretch is the longer one. -/
theorem rot_step2 {p i j : Nat} {dk d1 d' : Array α} (hp : i ≤ j) (h1 : SwapR p (p + j) i dk d1) (h2 : RotR p (p + i) (p + j) d1 d') : RotR p (p + i) (p + i + j) dk d' := by
  refine ⟨h2.size.trans h1.size, fun lo hi q1 q2 q3 => permIn_trans _ _ _ lo hi (h1.perm lo hi q1 (by omega) (by omega) (by omega) q3) (h2.perm lo hi q1 (by omega) (by rw [h1.size]; exact q3)), fun t ht => ?_, fun t ht => ?_, fun x hx => ?_⟩
  · by_cases ht2 : p + i + t < p + j
    · rw [h2.fst t ht2]
      exact h1.other _ (by omega) (by omega)
    · have := h2.snd (t - (j - i)) (by omega)
      rw [show p + (p + j - (p + i)) + (t - (j - i)) = p + t by omega] at this
      rw [this, h1.left _ (by omega)]
      congr 1; omega
  · rw [show p + (p + i + j - (p + i)) + t = p + j + t by omega, h2.other _ (by omega)]
    exact h1.right t (by omega)
  · rw [h2.other _ (by omega)]
    exact h1.other _ (by omega) (by omega)
theorem rot_end {p i : Nat} {dk d' : Array α} (h1 : SwapR p (p + i) i dk d') : RotR p (p + i) (p + i + i) dk d' :=
  ⟨h1.size, fun lo hi q1 q2 q3 => h1.perm lo hi q1 (by omega) (by omega) (by omega) q3, fun t ht => h1.left t (by omega), fun t ht => by rw [show p + (p + i + i - (p + i)) + t = p + i + t by omega]; exact h1.right t (by omega), fun x hx => h1.other x (by omega) (by omega)⟩
end

variable {P : Program} {k : Nat} {α : Type} [Inhabited α]

set_option maxHeartbeats 4000000 in
set_option maxRecDepth 1000000 in
theorem rotate_any (L : SLP P k) (enc : α → List Value) (g : Nat) (cb : Array Value) (blk off cap a m b : Nat) (d0 d : Array α) (w0 w : World)
    (R : RowK enc k w0 blk off d0) (hs : d0.size = d.size) (S : SWK enc k w0 blk off d w) (ham : a < m) (hmb : m < b) (hb : b ≤ d.size) (hsz : d.size < 4611686018427387904) :
    Calls P 177 #[.slice (some ⟨blk, off, none⟩) d.size cap, .int .i64 a, .int .i64 m, .int .i64 b, .func (.func g) #[] cb] w fun e w' => e = .returned (.tuple #[]) ∧ ∃ d', SWK enc k w0 blk off d' w' ∧ RotR a m b d d' := by
  have mixed := L.mixed; have t0 := L.t0; have a0 := L.a0; have z0 := L.z0; have v0 := L.v0; have t3 := L.t3; have a3 := L.a3; have z3 := L.z3; have v3 := L.v3; have t4 := L.t4; have a4 := L.a4; have z4 := L.z4; have v4 := L.v4; have t22 := L.tS; have a22 := L.aS; have z22 := L.zS; have v22 := L.vS; have t25 := L.tF; have a25 := L.aF; have z25 := L.zF; have v25 := L.vF
  have FG := L.fr
  have S0 : Aside (SWK enc k w0 blk off d w) := S
  clear S
  have eW : ∀ args w, (callFunc 184 args).run P w = .ok (.enter 184 args) w := enters_of L.fw (by kernel_rfl) rfl
  have HSW : Aside (∀ (dk : Array α) (wr : World) (x y n : Nat), dk.size = d.size → SWK enc k w0 blk off dk wr → (x + n ≤ y ∨ y + n ≤ x) → x + n ≤ d.size → y + n ≤ d.size → Calls P 184 #[.slice (some ⟨blk, off, none⟩) d.size cap, .int .i64 x, .int .i64 y, .int .i64 n, .func (.func g) #[] cb] wr fun e w' => e = .returned (.tuple #[]) ∧ ∃ d', SWK enc k w0 blk off d' w' ∧ SwapR x y n dk d') := fun dk wr x y n h1 h2 h3 h4 h5 => by
    have := swapRange_any L enc g cb blk off cap x y n d0 dk w0 wr R (by omega) h2 h3 (by omega) (by omega) (by omega)
    rwa [h1] at this
  have hia : (m : Int) - (a : Int) = ((m - a : Nat) : Int) := by omega
  have hib : (b : Int) - (m : Int) = ((b - m : Nat) : Int) := by omega
  obtain ⟨i0, hi0⟩ : ∃ i0, m - a = i0 := ⟨_, rfl⟩
  obtain ⟨j0, hj0⟩ : ∃ j0, b - m = j0 := ⟨_, rfl⟩
  rw [hi0] at hia
  rw [hj0] at hib
  go_enter FG, Tryd.ntmps177
  go_wp2
  go_loopg [10, 11] (i0 + j0) (fun kx s10 s11 wr => ∃ (i j : Nat) (dk : Array α), s10 = .int .i64 i ∧ s11 = .int .i64 j ∧ 1 ≤ i ∧ 1 ≤ j ∧ i ≤ m ∧ m + j ≤ d.size ∧ i + j ≤ kx ∧ dk.size = d.size ∧ Aside (SWK enc k w0 blk off dk wr) ∧ Hid (∀ d', RotR (m - i) m (m + j) dk d' → RotR a m b d d'))
  case atStart => exact ⟨i0, j0, d, rfl, rfl, by omega, by omega, by omega, by omega, Nat.le_refl _, rfl, S0, fun d' h => by rw [show m - i0 = a by omega, show m + j0 = b by omega] at h; exact h⟩
  case round =>
    clear S0 hia hib
    obtain ⟨i, j, dk, rfl, rfl, hi1, hj1, him, hjm, hkx, hds, S1, HQ⟩ := hrel
    have hmi : (m : Int) - (i : Int) = ((m - i : Nat) : Int) := by omega
    obtain ⟨p, hp⟩ : ∃ p, m - i = p := ⟨_, rfl⟩
    rw [hp] at hmi HQ
    have hpm : p + i = m := by omega
    have HPM : Hid (p + i = m) := hpm
    clear hp hpm
    by_cases hij : i = j
    · subst hij
      have hcall := HSW.out dk wr p m i hds S1.out (by have := HPM.out; omega) (by omega) (by omega)
      clear S1
      go_wp2_with (go_at_fn 184; refine hcall.mono ?_; rintro e w1 ⟨rfl, d1, S3, h1⟩)
      go_end0
      refine ⟨rfl, d1, S3, HQ.out d1 ?_⟩
      have e := HPM.out
      subst e
      exact rot_end h1
    · have hne : ((i : Int) != (j : Int)) = true := by simp; omega
      by_cases hgt : j < i
      · have hgtz : (j : Int) < (i : Int) := by omega
        have hcall := HSW.out dk wr p m j hds S1.out (by have := HPM.out; omega) (by have := HPM.out; omega) (by omega)
        have hsub : (i : Int) - (j : Int) = ((i - j : Nat) : Int) := by omega
        clear S1
        go_wp2_with (go_at_fn 184; refine hcall.mono ?_; rintro e w1 ⟨rfl, d1, S3, h1⟩)
        go_roundg (i + j - j)
        case measure => omega
        case rel =>
          refine ⟨i - j, j, d1, by first | rfl | go_num, rfl, by omega, by omega, by omega, by omega, by omega, by rw [h1.size]; exact hds, S3, fun d' h => HQ.out d' ?_⟩
          have e := HPM.out
          rw [show m - (i - j) = p + j by omega] at h
          exact rot_step1 (by omega) h1 h
      · have hltz : ¬ (j : Int) < (i : Int) := by omega
        have hcall := HSW.out dk wr p (p + j) i hds S1.out (by omega) (by have := HPM.out; omega) (by have := HPM.out; omega)
        have hsub : (j : Int) - (i : Int) = ((j - i : Nat) : Int) := by omega
        have hmj : (m : Int) + (j : Int) - (i : Int) = ((p + j : Nat) : Int) := by have := HPM.out; omega
        clear S1
        go_wp2_with (go_at_fn 184; refine hcall.mono ?_; rintro e w1 ⟨rfl, d1, S3, h1⟩)
        go_roundg (i + j - i)
        case measure => omega
        case rel =>
          refine ⟨i, j - i, d1, rfl, by first | rfl | go_num, by omega, by omega, by omega, by omega, by omega, by rw [h1.size]; exact hds, S3, fun d' h => HQ.out d' ?_⟩
          have e := HPM.out
          subst e
          rw [show p + i - i = p by omega, show p + i + (j - i) = p + j by omega] at h
          exact rot_step2 (by omega) h1 h
end Go.Proofs.YtfcnobcpnhfgmaaDoor
