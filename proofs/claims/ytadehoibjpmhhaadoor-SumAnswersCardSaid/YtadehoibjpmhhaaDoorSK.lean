/- sum.Sum at any bytes: the document's sum. Conditions: the slice holds its bytes, a million at most. -/
import Derived.Test.YtadehoibjpmhhaaDoorSJ
namespace Go.Proofs.YtadehoibjpmhhaaDoor
open Go.RowKit Go.Shelf
attribute [local go_sem] Oper.semAt_some

/-- The j-th part of bytes. -/
def ch (l : List UInt8) (j : Nat) : List UInt8 := (l.drop (4096 * j)).take 4096
theorem ch_len (l : List UInt8) (j : Nat) : (ch l j).length = min 4096 (l.length - 4096 * j) := by unfold ch; rw [List.length_take, List.length_drop]
/-- The first parts of bytes, one behind the other. -/
def chs (l : List UInt8) (pre : List Nat) : List UInt8 := pre.flatMap (ch l)
theorem chs_snoc (l : List UInt8) (pre : List Nat) (j : Nat) : chs l (pre ++ [j]) = chs l pre ++ ch l j := by unfold chs; simp
theorem chs_range (l : List UInt8) (k : Nat) : chs l (List.range k) = l.take (4096 * k) := by
  induction k with
  | zero => simp [chs]
  | succ k ih =>
    rw [List.range_succ, chs_snoc, ih]
    unfold ch
    rw [show 4096 * (k + 1) = 4096 * k + 4096 by omega, List.take_add]
theorem chs_all (l : List UInt8) : chs l (List.range ((l.length + 4095) / 4096)) = l := by
  rw [chs_range, List.take_of_length_le (by omega)]

def lo (l : List UInt8) : Nat := (un l 1 0).1 % 65521
def hi (l : List UInt8) : Nat := (un l 1 0).2 % 65521
theorem lo_app (a b : List UInt8) : lo (a ++ b) = (un b (lo a) (hi a)).1 % 65521 := by
  unfold lo hi; rw [un_app]; exact (un_mod b _ _ _ _ (by omega) (by omega)).1
theorem hi_app (a b : List UInt8) : hi (a ++ b) = (un b (lo a) (hi a)).2 % 65521 := by
  unfold lo hi; rw [un_app]; exact (un_mod b _ _ _ _ (by omega) (by omega)).2
theorem sumN_eq (l : List UInt8) : sumN l = hi l * 65536 + lo l := rfl
theorem un_snoc (l : List UInt8) (c : UInt8) (x y : Nat) : un (l ++ [c]) x y = ((un l x y).1 + c.toNat, (un l x y).2 + ((un l x y).1 + c.toNat)) := by rw [un_app]; rfl
theorem un_small (l : List UInt8) (h : l.length ≤ 4096) (x y : Nat) (hx : x < 65521) (hy : y < 65521) : (un l x y).1 < 1200000 ∧ (un l x y).2 < 5000000000 := by
  have h1 := un_fst l x y
  have h2 := bsum_le l
  have h3 := un_snd l x y
  have h4 : l.length * (x + 255 * l.length) ≤ 4096 * (65520 + 255 * 4096) := Nat.mul_le_mul h (by omega)
  omega

theorem four_cells (w : World) (x0 x1 x2 x3 : Value) (T0 T1 T2 T3 : TypeId) : let W := (((w.alloc (.cells #[x0] T0)).alloc (.cells #[x1] T1)).alloc (.cells #[x2] T2)).alloc (.cells #[x3] T3)
    W.cell? ⟨w.heap.size, 0, none⟩ = some x0 ∧ W.cell? ⟨w.heap.size + 1, 0, none⟩ = some x1 ∧ W.cell? ⟨w.heap.size + 2, 0, none⟩ = some x2 ∧ W.cell? ⟨w.heap.size + 2 + 1, 0, none⟩ = some x3 ∧
    W.frozen? ⟨w.heap.size, 0, none⟩ = false ∧ W.frozen? ⟨w.heap.size + 1, 0, none⟩ = false ∧ W.heap.size = w.heap.size + 4 ∧ Below w.heap.size w W := by
  have b0 : Blk (w.alloc (.cells #[x0] T0)) w.heap.size T0 #[x0] := Blk.new w T0 #[x0]
  have b1 : Blk ((w.alloc (.cells #[x0] T0)).alloc (.cells #[x1] T1)) (w.heap.size + 1) T1 #[x1] := by have := Blk.new (w.alloc (.cells #[x0] T0)) T1 #[x1]; simpa using this
  have b2 : Blk (((w.alloc (.cells #[x0] T0)).alloc (.cells #[x1] T1)).alloc (.cells #[x2] T2)) (w.heap.size + 2) T2 #[x2] := by have := Blk.new ((w.alloc (.cells #[x0] T0)).alloc (.cells #[x1] T1)) T2 #[x2]; simpa using this
  have b3 : Blk ((((w.alloc (.cells #[x0] T0)).alloc (.cells #[x1] T1)).alloc (.cells #[x2] T2)).alloc (.cells #[x3] T3)) (w.heap.size + 2 + 1) T3 #[x3] := by have := Blk.new (((w.alloc (.cells #[x0] T0)).alloc (.cells #[x1] T1)).alloc (.cells #[x2] T2)) T3 #[x3]; simpa using this
  have b0' := ((b0.keep (below_new _ (.cells #[x1] T1)) (by simp)).keep (below_new _ (.cells #[x2] T2)) (by simp <;> omega)).keep (below_new _ (.cells #[x3] T3)) (by simp <;> omega)
  have b1' := (b1.keep (below_new _ (.cells #[x2] T2)) (by simp)).keep (below_new _ (.cells #[x3] T3)) (by simp <;> omega)
  have b2' := b2.keep (below_new _ (.cells #[x3] T3)) (by simp)
  exact ⟨b0'.cell 0, b1'.cell 0, b2'.cell 0, b3.cell 0, b0'.free 0, b1'.free 0, by simp, (((below_new w _).alloc (by simp) _).alloc (by simp; omega) _).alloc (by simp; omega) _⟩
theorem chK_b {S m : Nat} (hm : S + 4 ≤ m) (W : World) (l : Nat) (o o' : Obj) (hl : m ≤ l) (h : W.heap[l]? = some o) (_ : o.isCells = false) (_ : o.isWalk = false) : ChK S (S + 2) W (W.putObj l o') :=
  ⟨(Below.refl S W).grown (grownBy_putObj' W l o') (by have := (Array.getElem?_eq_some_iff.1 h).1; omega) (fun k e => by cases e; omega), World.putObj_heap_other (by omega), World.putObj_heap_other (by omega)⟩
theorem chK_set {S : Nat} {W W1 : World} (h : ChK S (S + 2) W W1) (k : Nat) (h1 : S ≤ k) (h2 : k < S + 2) (v : Value) : ChK S (S + 2) W (W1.setCell ⟨k, 0, none⟩ v) :=
  ⟨h.1.setCell (p := ⟨k, 0, none⟩) h1 v, (Below.heap_setCell _ _ _ _ (by simp; omega)).trans h.2.1, (Below.heap_setCell _ _ _ _ (by simp; omega)).trans h.2.2⟩
theorem cell_set_ne {w : World} {a b : Nat} (h : a ≠ b) (v : Value) : (w.setCell ⟨b, 0, none⟩ v).cell? ⟨a, 0, none⟩ = w.cell? ⟨a, 0, none⟩ :=
  World.cell?_setCell_other _ _ _ _ (by intro e; exact h (by simpa using (congrArg Addr.block e).symm))

set_option maxRecDepth 100000 in
set_option maxHeartbeats 4000000 in
theorem sum_in (F : Fence) (n : Nat) (h44 : F.fn 44) (h82 : F.fn 82) (h109 : F.fn 109) (hro : F.round = none) (hn : 3 ≤ n) (A : Option Addr) (b off cap : Nat) (l : List UInt8) (hlen : l.length ≤ 1000000) (hlc : l.length ≤ cap) (hcap : cap ≤ 9223372036854775807) (hA : 0 < l.length → A = some ⟨b, off, none⟩) (w : World) (hh : Holds w b off l) :
    CallsIn F n Tryd.prog 44 #[.slice A l.length cap] w fun e W' => e = .returned (.int .i64 (sumN l : Nat)) ∧ Below w.heap.size w W' := by
  have h1 : 1 ≤ n := by omega
  refine callsIn_of_wp_marks Tryd.func44 rfl h44 ?_ hro
  simp only [Tryd.ntmps44, List.size_toArray, List.length_cons, List.length_nil, Nat.reduceAdd, Nat.reduceSub, Array.replicate_succ, Array.replicate_zero, List.push_toArray, List.append_toArray, List.nil_append, List.cons_append]
  gi_wp2_with (gi_at_call 82; refine (chunk_in F (n - 1) h82 hro _ _ _ _).mono ?_; rintro e w' ⟨rfl, rfl⟩)
  obtain ⟨f0, f1, f2, f3, g0, g1, hsz, hB0⟩ := four_cells w (.int .i64 1) (.int .i64 0) (.slice A l.length cap) (.int .i64 4096) 3 3 29 3
  rw [show w.heap.size + 1 + 1 = w.heap.size + 2 by omega]
  obtain ⟨W0, hW0⟩ : ∃ W0, (((w.alloc (.cells #[.int .i64 1] 3)).alloc (.cells #[.int .i64 0] 3)).alloc (.cells #[.slice A l.length cap] 29)).alloc (.cells #[.int .i64 4096] 3) = W0 := ⟨_, rfl⟩
  rw [hW0] at f0 f1 f2 f3 g0 g1 hsz hB0
  rw [hW0]
  clear hW0
  obtain ⟨S, hS⟩ : ∃ S, w.heap.size = S := ⟨_, rfl⟩
  rw [hS] at f0 f1 f2 f3 g0 g1 hsz hB0
  rw [hS]
  have hbS : 0 < l.length → b < S := fun h => by rw [← hS]; exact hh.lt h
  refine wpIn_rangeFunc_ownG hro h1 (gf := 109) (lb := #[.pointer (some ⟨S + 2, 0, none⟩), .pointer (some ⟨S + 2 + 1, 0, none⟩)]) rfl h109 (enters_of Tryd.func109 (by kernel_rfl) rfl)
    (chunk_stops F (n - 1) h109 hro (by omega) (S + 2) S b off cap A l hlen hlc hcap hA W0 f2 f3) chK_t (chK_b (by omega)) (Below.refl _ _) (fun _ => rfl)
    (fun pre W => (W.cell? ⟨S, 0, none⟩ = some (.int .i64 ((lo (chs l pre) : Nat) : Int)) ∧ W.cell? ⟨S + 1, 0, none⟩ = some (.int .i64 ((hi (chs l pre) : Nat) : Int)) ∧ W.frozen? ⟨S, 0, none⟩ = false ∧ W.frozen? ⟨S + 1, 0, none⟩ = false) ∧ Below S w W)
    (fun _ _ _ => False)
    (OwnFrom.and (Own.from (fun s A B row hs hg hr => ⟨cell_kept hs.1 hg hr, cell_kept hs.2.1 hg hr, (frozen_kept hs.1 hg hr).trans hs.2.2.1, (frozen_kept hs.2.1 hg hr).trans hs.2.2.2⟩) _) (ownFrom_below (by omega) (by omega)))
    (fun _ _ _ _ _ hs _ _ => hs)
    ⟨⟨f0, f1, g0, g1⟩, hB0⟩
    (fun x => { tmps := #[.slice A l.length cap, undef, .int .i64 0, .pointer (some ⟨S, 0, none⟩), .pointer (some ⟨S + 1, 0, none⟩), chV b off l.length x, undef, undef, .slice A l.length cap, .func (.func 109) #[] #[.pointer (some ⟨S + 2, 0, none⟩), .pointer (some ⟨S + 2 + 1, 0, none⟩)], chV b off l.length x, undef, undef, undef, undef, undef, undef, undef, undef, undef, undef, undef, undef, undef, undef, undef, undef, undef, undef, undef, undef, undef, undef], defers := [] }) ?assign ?body ?done ?stop
  case assign =>
    intro l x W K hK
    gi_wp2
    exact hK
  case body =>
    rintro i pre x W ⟨⟨hc, hd, hf, hg⟩, hB⟩ _
    have hL0 : lo (chs l pre) < 65521 := by unfold lo; omega
    have hH0 : hi (chs l pre) < 65521 := by unfold hi; omega
    have hla := lo_app (chs l pre) (ch l x)
    have hha := hi_app (chs l pre) (ch l x)
    rw [← chs_snoc] at hla hha
    obtain ⟨L0, hL⟩ : ∃ L0, lo (chs l pre) = L0 := ⟨_, rfl⟩
    obtain ⟨H0, hH⟩ : ∃ H0, hi (chs l pre) = H0 := ⟨_, rfl⟩
    rw [hL] at hc hL0 hla hha; rw [hH] at hd hH0 hla hha
    have hpc : ∀ j, j < (ch l x).length → W.cell? ⟨b, off + 4096 * x + j, none⟩ = some (.int .u8 (((ch l x).getD j 0).toNat : Int)) := by
      intro j hj
      have hj2 := hj
      rw [ch_len] at hj2
      have h1 := hh (4096 * x + j) (by omega)
      rw [← hB.cell (p := ⟨b, off + (4096 * x + j), none⟩) (hbS (by omega))] at h1
      rw [show off + 4096 * x + j = off + (4096 * x + j) by omega, h1]
      unfold ch
      simp only [List.getD_eq_getElem?_getD, List.getElem?_take_of_lt (show j < 4096 by omega), List.getElem?_drop]
    have hv : chV b off l.length x = .slice (some ⟨b, off + 4096 * x, none⟩) (ch l x).length (ch l x).length := by unfold chV; rw [ch_len]
    have hcl : (ch l x).length ≤ 4096 := by rw [ch_len]; omega
    simp only [hv]
    obtain ⟨P, hP⟩ : ∃ P, ch l x = P := ⟨_, rfl⟩
    rw [hP] at hpc hcl hla hha ⊢
    have HLA := hid (And.intro hla hha)
    obtain ⟨o2, ho2⟩ : ∃ o2, off + 4096 * x = o2 := ⟨_, rfl⟩
    rw [ho2] at hpc ⊢
    obtain ⟨m, hm⟩ : ∃ m, P.length = m := ⟨_, rfl⟩
    rw [hm]
    have HM := hid hm
    have HPC := hid hpc
    have HL0 := hid hL0; have HH0 := hid hH0
    have hm4 : m ≤ 4096 := by omega
    have hpos : ∀ {j : Nat}, j < m → 0 < l.length := fun {j} hj => by rw [← hm, ← hP, ch_len] at hj; omega
    have HCL := hid hcl
    clear hv hP ho2 hm hpc hL hH hla hha hL0 hH0 hcl f0 f1 f2 f3 g0 g1 hB0 hh hA
    gi_wp2
    gi_loopw [13] (fun vi wr => ∃ (k : Nat) (X Y : Int), k ≤ m ∧ vi = .int .i64 k ∧ Hid (X = ((un (P.take k) L0 H0).1 : Nat) ∧ Y = ((un (P.take k) L0 H0).2 : Nat)) ∧ 0 ≤ X ∧ X ≤ 1200000 ∧ 0 ≤ Y ∧ Y ≤ 5000000000 ∧
      wr.cell? ⟨S, 0, none⟩ = some (.int .i64 X) ∧ wr.cell? ⟨S + 1, 0, none⟩ = some (.int .i64 Y) ∧ wr.frozen? ⟨S, 0, none⟩ = false ∧ wr.frozen? ⟨S + 1, 0, none⟩ = false ∧ Hid (KeepsOthers W wr ∧ ChK S (S + 2) W wr)) (fun vi _ => m - (intOf vi).toNat)
    case atStart => exact ⟨0, L0, H0, Nat.zero_le _, rfl, ⟨rfl, rfl⟩, by omega, by have := HL0.out; omega, by omega, by have := HH0.out; omega, hc, hd, hf, hg, ⟨KeepsOthers.refl _, chK_refl _ _ _⟩⟩
    case round =>
      obtain ⟨k, X, Y, hk, rfl, HX, x0, x1, y0, y1, q0, q1, q2, q3, HK⟩ := hrel
      by_cases hlt : k < m
      · have hkl : k < P.length := by rw [HM.out]; exact hlt
        have hb := HPC.out k hkl
        rw [List.getD_eq_getElem?_getD, List.getElem?_eq_getElem hkl, Option.getD_some] at hb
        obtain ⟨z, hz⟩ : ∃ z : Int, (((P[k]).toNat : Nat) : Int) = z := ⟨_, rfl⟩
        rw [hz] at hb
        have z0 : 0 ≤ z := by omega
        have z1 : z < 256 := by have := u8_lt P[k]; omega
        have hcb : wr.cell? ⟨b, o2 + k, none⟩ = some (.int .u8 z) := (HK.out.2.1.cell (p := ⟨b, o2 + k, none⟩) (hbS (hpos hlt))).trans hb
        have HN : Hid (X + z = ((un (P.take (k + 1)) L0 H0).1 : Nat) ∧ Y + (X + z) = ((un (P.take (k + 1)) L0 H0).2 : Nat) ∧ X + z ≤ 1200000 ∧ Y + (X + z) ≤ 5000000000) := by
          have h2 := un_small (P.take (k + 1)) (by rw [List.length_take]; have := HCL.out; omega) L0 H0 HL0.out HH0.out
          have h3 := HX.out
          rw [List.take_succ_eq_append_getElem hkl, un_snoc] at h2 ⊢
          simp only at h2 ⊢
          refine ⟨by omega, by omega, by omega, by omega⟩
        have HZ := hid hz
        clear hz hb
        gi_wp2
        go_roundw
        case rel =>
          obtain ⟨n1, n2, n3, n4⟩ := HN.out
          refine ⟨k + 1, X + z, Y + (X + z), by omega, by go_num, ⟨n1, n2⟩, by omega, by omega, by omega, by omega, ?_, ?_, ?_, ?_, ⟨(HK.out.1.trans (KeepsOthers.setCell _ _ _)).trans (KeepsOthers.setCell _ _ _), chK_set (chK_set HK.out.2 S (Nat.le_refl _) (by omega) _) (S + 1) (by omega) (by omega) _⟩⟩
          · rw [cell_set_ne (by omega)]; exact World.cell?_setCell_same' _ _ _ (by rw [q0]; rfl)
          · exact World.cell?_setCell_same' _ _ _ (by rw [cell_set_ne (by omega), q1]; rfl)
          · rw [World.frozen?_setCell, World.frozen?_setCell]; exact q2
          · rw [World.frozen?_setCell, World.frozen?_setCell]; exact q3
        case measure => simp [intOf]; omega
      · gi_wp2
        have hk' : k = P.length := by have := HM.out; omega
        have hx := HX.out
        rw [hk', List.take_of_length_le (Nat.le_refl _)] at hx
        obtain ⟨hla, hha⟩ := HLA.out
        refine ⟨((HK.out.1.trans (KeepsOthers.setCell _ _ _)).trans (KeepsOthers.setCell _ _ _)).from _, chK_set (chK_set HK.out.2 S (Nat.le_refl _) (by omega) _) (S + 1) (by omega) (by omega) _, ⟨?_, ?_, ?_, ?_⟩, ?_⟩
        · rw [hla, cell_set_ne (by omega), World.cell?_setCell_same' _ _ _ (by rw [q0]; rfl), hx.1]; rfl
        · rw [hha, World.cell?_setCell_same' _ _ _ (by rw [cell_set_ne (by omega), q1]; rfl), hx.2]; rfl
        · rw [World.frozen?_setCell, World.frozen?_setCell]; exact q2
        · rw [World.frozen?_setCell, World.frozen?_setCell]; exact q3
        · exact hB.trans (chK_set (chK_set HK.out.2 S (Nat.le_refl _) (by omega) _) (S + 1) (by omega) (by omega) _).1
  case done =>
    rintro D ys W hD rfl ⟨⟨hc, hd, hf, hg⟩, hB⟩ hK
    rw [chs_all] at hc hd
    have hl1 : lo l < 65521 := by unfold lo; omega
    have hh1 : hi l < 65521 := by unfold hi; omega
    have e1 : bits .or .i64 ((hi l : Int) * 65536) (lo l : Int) = ((sumN l : Nat) : Int) := by
      have e2 : ((hi l : Int) * 65536) = ((hi l * 65536 : Nat) : Int) := by omega
      rw [e2, or_sum _ _ hh1 hl1, sumN_eq]
    have E1 := hid e1
    clear e1
    gi_wp2
    refine ⟨by simp, .inl ⟨_, _, rfl, run_takeDeferred hK, ?_⟩⟩
    refine ⟨_, results_tmp rfl _ _ _, ?_, by rw [hS]; exact hB.trans (belowK_b (w := W0) (by omega) W D _ _ hD hK rfl rfl)⟩
    rw [← E1.out]
    rfl
  case stop =>
    rintro D c pre W _ _ h _
    exact h.elim

/-- sum.Sum of a slice that holds l. -/
theorem sum_any (A : Option Addr) (c : Nat) (l : List UInt8) (hlen : l.length ≤ 1000000) (hlc : l.length ≤ c) (hc : c ≤ 9223372036854775807) (w : World) (h : HoldsA w A l) :
    Calls Tryd.prog 44 #[.slice A l.length c] w fun e w' => e = .returned (.int .i64 ((sumN l : Nat) : Int)) ∧ Below w.heap.size w w' := by
  by_cases h0 : 0 < l.length
  · obtain ⟨b, off, rfl, hh⟩ := h h0
    exact callsIn_wide.1 (sum_in Fence.wide 5 trivial trivial trivial rfl (by omega) _ b off c l hlen hlc hc (fun _ => rfl) w hh)
  · exact callsIn_wide.1 (sum_in Fence.wide 5 trivial trivial trivial rfl (by omega) A 0 0 c l hlen hlc hc (fun h => absurd h h0) w (fun i hi => absurd hi (by omega)))
end Go.Proofs.YtadehoibjpmhhaaDoor
