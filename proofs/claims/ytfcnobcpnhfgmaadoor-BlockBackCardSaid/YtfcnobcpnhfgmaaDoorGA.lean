/- What slices.SortStableFunc's fellows at cells lean on, over whatever program that holds them: swapRangeCmpFunc; pointwise words on exchanges. Conditions: as each theorem names them. -/
import Derived.Test.YtfcnobcpnhfgmaaDoorProg
import Derived.Shelf.SlSortCmp.KitK
namespace Go.Proofs.YtfcnobcpnhfgmaaDoor
open Go.Shelf Go.RowKit Go.Lib Go.Sort

/-- A program that holds the stable sort of cells; a cell is k words long. -/
structure SLP (P : Program) (k : Nat) : Prop where
  mixed : P.follows .mixedOrders = true
  fs : P.funcs[143]? = some Tryd.f143
  fi : P.funcs[161]? = some Tryd.f161
  fm : P.funcs[162]? = some Tryd.f162
  fr : P.funcs[177]? = some Tryd.f177
  fw : P.funcs[184]? = some Tryd.f184
  t0 : P.underlying 0 = some (TypeDesc.tuple #[])
  a0 : ∀ w, (isAgg 0).run P w = .ok false w
  z0 : ∀ w, (Go.sizeOf 0).run P w = .ok 1 w
  v0 : ∀ w, (zeroValue 0).run P w = .ok (Value.tuple #[]) w
  t3 : P.underlying 3 = some (TypeDesc.int IntKind.i64)
  a3 : ∀ w, (isAgg 3).run P w = .ok false w
  z3 : ∀ w, (Go.sizeOf 3).run P w = .ok 1 w
  v3 : ∀ w, (zeroValue 3).run P w = .ok (Value.int IntKind.i64 0) w
  t4 : P.underlying 4 = some (TypeDesc.bool)
  a4 : ∀ w, (isAgg 4).run P w = .ok false w
  z4 : ∀ w, (Go.sizeOf 4).run P w = .ok 1 w
  v4 : ∀ w, (zeroValue 4).run P w = .ok (Value.bool false) w
  tS : P.underlying 22 = some (TypeDesc.slice 40)
  aS : ∀ w, (isAgg 22).run P w = .ok false w
  zS : ∀ w, (Go.sizeOf 22).run P w = .ok 1 w
  vS : ∀ w, (zeroValue 22).run P w = .ok (Value.slice none 0 0) w
  tF : P.underlying 43 = some (TypeDesc.func #[40, 40] #[3] false)
  aF : ∀ w, (isAgg 43).run P w = .ok false w
  zF : ∀ w, (Go.sizeOf 43).run P w = .ok 1 w
  vF : ∀ w, (zeroValue 43).run P w = .ok (Value.nilFunc) w
  tU : P.underlying 156 = some (TypeDesc.int IntKind.u64)
  aU : ∀ w, (isAgg 156).run P w = .ok false w
  zU : ∀ w, (Go.sizeOf 156).run P w = .ok 1 w
  vU : ∀ w, (zeroValue 156).run P w = .ok (Value.int IntKind.u64 0) w
  aE : ∀ w, (isAgg 40).run P w = .ok true w
  zE : ∀ w, (Go.sizeOf 40).run P w = .ok k w

theorem slp : SLP Tryd.prog 8 where
  mixed := by kernel_rfl
  fs := Tryd.func143
  fi := Tryd.func161
  fm := Tryd.func162
  fr := Tryd.func177
  fw := Tryd.func184
  t0 := Tryd.underlying0
  a0 := Tryd.isAgg0
  z0 := Tryd.sizeOf0
  v0 := Tryd.zeroValue0
  t3 := Tryd.underlying3
  a3 := Tryd.isAgg3
  z3 := Tryd.sizeOf3
  v3 := Tryd.zeroValue3
  t4 := Tryd.underlying4
  a4 := Tryd.isAgg4
  z4 := Tryd.sizeOf4
  v4 := Tryd.zeroValue4
  tS := Tryd.underlying22
  aS := Tryd.isAgg22
  zS := Tryd.sizeOf22
  vS := Tryd.zeroValue22
  tF := Tryd.underlying43
  aF := Tryd.isAgg43
  zF := Tryd.sizeOf43
  vF := Tryd.zeroValue43
  tU := Tryd.underlying156
  aU := Tryd.isAgg156
  zU := Tryd.sizeOf156
  vU := Tryd.zeroValue156
  aE := Tryd.isAgg40
  zE := Tryd.sizeOf40

section
variable {α : Type} [Inhabited α]
/-- Two stretches of n, exchanged. -/
structure SwapR (a b n : Nat) (d d' : Array α) : Prop where
  size : d'.size = d.size
  perm : ∀ lo hi, lo ≤ a → lo ≤ b → a + n ≤ hi → b + n ≤ hi → hi ≤ d.size → PermIn lo hi d d'
  left : ∀ t, t < n → d'[a + t]! = d[b + t]!
  right : ∀ t, t < n → d'[b + t]! = d[a + t]!
  other : ∀ i, (i < a ∨ a + n ≤ i) → (i < b ∨ b + n ≤ i) → d'[i]! = d[i]!
theorem SwapR.zero (a b : Nat) (d : Array α) : SwapR a b 0 d d := ⟨rfl, fun lo hi _ _ _ _ _ => permIn_refl d lo hi, fun t h => absurd h (by omega), fun t h => absurd h (by omega), fun _ _ _ => rfl⟩
theorem SwapR.next {a b n : Nat} {d dk : Array α} (h : SwapR a b n d dk) (hd : a + (n + 1) ≤ b ∨ b + (n + 1) ≤ a) (ha : a + (n + 1) ≤ d.size) (hb : b + (n + 1) ≤ d.size) : SwapR a b (n + 1) d (swp dk (a + n) (b + n)) := by
  have hs := h.size
  have hg := fun k => swp_get dk (i := a + n) (j := b + n) (by omega) (by omega) k
  refine ⟨by rw [size_swp, hs], fun lo hi h1 h2 h3 h4 h5 => permIn_trans _ _ _ lo hi (h.perm lo hi h1 h2 (by omega) (by omega) h5) (swp_permIn dk lo hi (a + n) (b + n) (by omega) (by omega) (by omega) (by omega) (by omega)), fun t ht => ?_, fun t ht => ?_, fun i h1 h2 => ?_⟩
  · rw [hg]
    by_cases e : t = n
    · subst e
      first
        | (rw [if_pos rfl]; exact h.other _ (by omega) (by omega))
        | (rw [if_neg (by omega), if_pos rfl]; exact h.other _ (by omega) (by omega))
    · rw [if_neg (by omega), if_neg (by omega)]
      exact h.left t (by omega)
  · rw [hg]
    by_cases e : t = n
    · subst e
      first
        | (rw [if_pos rfl]; exact h.other _ (by omega) (by omega))
        | (rw [if_neg (by omega), if_pos rfl]; exact h.other _ (by omega) (by omega))
    · rw [if_neg (by omega), if_neg (by omega)]
      exact h.right t (by omega)
  · rw [hg, if_neg (by omega), if_neg (by omega)]
    exact h.other i (by omega) (by omega)
end

variable {P : Program} {k : Nat} {α : Type} [Inhabited α]

set_option maxHeartbeats 4000000 in
set_option maxRecDepth 1000000 in
theorem swapRange_any (L : SLP P k) (enc : α → List Value) (g : Nat) (cb : Array Value) (blk off cap a b n : Nat) (d0 d : Array α) (w0 w : World)
    (R : RowK enc k w0 blk off d0) (hs : d0.size = d.size) (S : SWK enc k w0 blk off d w) (hd : a + n ≤ b ∨ b + n ≤ a) (ha : a + n ≤ d.size) (hb : b + n ≤ d.size) (hsz : d.size < 4611686018427387904) :
    Calls P 184 #[.slice (some ⟨blk, off, none⟩) d.size cap, .int .i64 a, .int .i64 b, .int .i64 n, .func (.func g) #[] cb] w fun e w' => e = .returned (.tuple #[]) ∧ ∃ d', SWK enc k w0 blk off d' w' ∧ SwapR a b n d d' := by
  have mixed := L.mixed; have t0 := L.t0; have a0 := L.a0; have z0 := L.z0; have v0 := L.v0; have t3 := L.t3; have a3 := L.a3; have z3 := L.z3; have v3 := L.v3; have t4 := L.t4; have a4 := L.a4; have z4 := L.z4; have v4 := L.v4; have t22 := L.tS; have a22 := L.aS; have z22 := L.zS; have v22 := L.vS; have t25 := L.tF; have a25 := L.aF; have z25 := L.zF; have v25 := L.vF; have aE := L.aE; have zE := L.zE
  have FG := L.fw
  have S0 : Aside (SWK enc k w0 blk off d w) := S
  clear S
  go_enter FG, Tryd.ntmps184
  go_wp2
  go_loopg [10] n (fun kx s10 wr => ∃ (i : Nat) (dk : Array α), s10 = .int .i64 i ∧ i ≤ n ∧ n - i ≤ kx ∧ dk.size = d.size ∧ Aside (SWK enc k w0 blk off dk wr) ∧ Hid (SwapR a b i d dk))
  case atStart => exact ⟨0, d, rfl, by omega, by omega, rfl, S0, SwapR.zero a b d⟩
  case round =>
    clear S0
    obtain ⟨i, dk, rfl, hi, hkx, hds, S1, HS⟩ := hrel
    by_cases hlt : i < n
    · have hltz : (i : Int) < (n : Int) := by omega
      have ea44 : ((a : Int) + (i : Int)).toNat = a + i := by omega
      have pa44 : (0 : Int) ≤ (a : Int) + (i : Int) := by omega
      have ba44 : (a : Int) + (i : Int) < (d.size : Int) := by omega
      have ra44 : IntKind.i64.wrap ((a : Int) + (i : Int)) = (a : Int) + (i : Int) := by rw [IntKind.wrap_i64]; omega
      have ec44 : ((b : Int) + (i : Int)).toNat = b + i := by omega
      have pc44 : (0 : Int) ≤ (b : Int) + (i : Int) := by omega
      have bc44 : (b : Int) + (i : Int) < (d.size : Int) := by omega
      have rc44 : IntKind.i64.wrap ((b : Int) + (i : Int)) = (b : Int) + (i : Int) := by rw [IntKind.wrap_i64]; omega
      have S2 : Aside (SWK enc k w0 blk off (swp dk (a + i) (b + i)) ((wr.drew.setCells blk (off + (a + i) * k) (enc dk[b + i]!)).setCells blk (off + (b + i) * k) (enc dk[a + i]!))) := S1.out.swapped R (a + i) (b + i) (by omega) (by omega)
      have l44a := S1.out.ld1 R (by omega) P (a + i) (by omega)
      have l44b := S1.out.ld1 R (by omega) P (b + i) (by omega)
      have s44a := S1.out.st1 R (by omega) P (a + i) (by omega) dk[b + i]!
      have s44b := S1.out.st2 R (by omega) P (a + i) (b + i) (by omega) (by omega) dk[b + i]! dk[a + i]!
      have n44a : (enc dk[a + i]!).length = k := R.hk _
      have n44b : (enc dk[b + i]!).length = k := R.hk _
      generalize enc dk[a + i]! = cI44 at S2 l44a s44b n44a
      generalize enc dk[b + i]! = cJ44 at S2 l44b s44a s44b n44b
      clear S1
      go_wp2_with fail
      go_big_region_o
      clear l44a l44b s44a s44b
      generalize (wr.drew.setCells blk (off + (a + i) * k) cJ44).setCells blk (off + (b + i) * k) cI44 = w2 at S2 ⊢
      go_wp2
      go_roundg (n - (i + 1))
      case measure => omega
      case rel => exact ⟨i + 1, swp dk (a + i) (b + i), by go_num, by omega, Nat.le_refl _, by rw [size_swp]; exact hds, S2, HS.out.next (by omega) (by omega) (by omega)⟩
    · have hltz : ¬ (i : Int) < (n : Int) := by omega
      obtain rfl : i = n := by omega
      go_wp2
      go_end0
      exact ⟨rfl, dk, S1.out, HS.out⟩
end Go.Proofs.YtfcnobcpnhfgmaaDoor
