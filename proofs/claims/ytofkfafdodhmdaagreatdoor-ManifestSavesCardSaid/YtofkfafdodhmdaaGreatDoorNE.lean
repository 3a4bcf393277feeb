/- Several texts in one: SK SL SM SRa. Conditions: as each theorem names them. -/
import Derived.Test.YtofkfafdodhmdaaGreatDoorND
import Derived.Test.YtofkfafdodhmdaaGreatDoorNC
/- sum.Sum at any bytes: the document's sum. Conditions: the slice holds its bytes, a million at most. -/
namespace Go.Proofs.YtofkfafdodhmdaaGreatDoor
open Go.RowKit Go.Shelf
attribute [local go_sem] Oper.semAt_some

/-- The j-th part of bytes. -/
def ch (l : List UInt8) (j : Nat) : List UInt8 := (l.drop (4096 * j)).take 4096
theorem ch_len (l : List UInt8) (j : Nat) : (ch l j).length = min 4096 (l.length - 4096 * j) := by unfold ch; rw [List.length_take, List.length_drop]
/-- The first parts of bytes, one behind the other. -/
def chs (l : List UInt8) (pre : List Nat) : List UInt8 := pre.flatMap (ch l)
theorem chs_snoc (l : List UInt8) (pre : List Nat) (j : Nat) : chs l (pre ++ [j]) = chs l pre ++ ch l j := by unfold chs; simp
theorem chs_range (l : List UInt8) (k : Nat) : chs l (List.range k) = l.take (4096 * k) := by
  induction k with
  | zero => simp [chs]
  | succ k ih =>
    rw [List.range_succ, chs_snoc, ih]
    unfold ch
    rw [show 4096 * (k + 1) = 4096 * k + 4096 by omega, List.take_add]
theorem chs_all (l : List UInt8) : chs l (List.range ((l.length + 4095) / 4096)) = l := by
  rw [chs_range, List.take_of_length_le (by omega)]

def lo (l : List UInt8) : Nat := (un l 1 0).1 % 65521
def hi (l : List UInt8) : Nat := (un l 1 0).2 % 65521
theorem lo_app (a b : List UInt8) : lo (a ++ b) = (un b (lo a) (hi a)).1 % 65521 := by
  unfold lo hi; rw [un_app]; exact (un_mod b _ _ _ _ (by omega) (by omega)).1
theorem hi_app (a b : List UInt8) : hi (a ++ b) = (un b (lo a) (hi a)).2 % 65521 := by
  unfold lo hi; rw [un_app]; exact (un_mod b _ _ _ _ (by omega) (by omega)).2
theorem sumN_eq (l : List UInt8) : sumN l = hi l * 65536 + lo l := rfl
theorem un_snoc (l : List UInt8) (c : UInt8) (x y : Nat) : un (l ++ [c]) x y = ((un l x y).1 + c.toNat, (un l x y).2 + ((un l x y).1 + c.toNat)) := by rw [un_app]; rfl
theorem un_small (l : List UInt8) (h : l.length ≤ 4096) (x y : Nat) (hx : x < 65521) (hy : y < 65521) : (un l x y).1 < 1200000 ∧ (un l x y).2 < 5000000000 := by
  have h1 := un_fst l x y
  have h2 := bsum_le l
  have h3 := un_snd l x y
  have h4 : l.length * (x + 255 * l.length) ≤ 4096 * (65520 + 255 * 4096) := Nat.mul_le_mul h (by omega)
  omega

theorem four_cells (w : World) (x0 x1 x2 x3 : Value) (T0 T1 T2 T3 : TypeId) : let W := (((w.alloc (.cells #[x0] T0)).alloc (.cells #[x1] T1)).alloc (.cells #[x2] T2)).alloc (.cells #[x3] T3)
    W.cell? ⟨w.heap.size, 0, none⟩ = some x0 ∧ W.cell? ⟨w.heap.size + 1, 0, none⟩ = some x1 ∧ W.cell? ⟨w.heap.size + 2, 0, none⟩ = some x2 ∧ W.cell? ⟨w.heap.size + 2 + 1, 0, none⟩ = some x3 ∧
    W.frozen? ⟨w.heap.size, 0, none⟩ = false ∧ W.frozen? ⟨w.heap.size + 1, 0, none⟩ = false ∧ W.heap.size = w.heap.size + 4 ∧ Below w.heap.size w W := by
  have b0 : Blk (w.alloc (.cells #[x0] T0)) w.heap.size T0 #[x0] := Blk.new w T0 #[x0]
  have b1 : Blk ((w.alloc (.cells #[x0] T0)).alloc (.cells #[x1] T1)) (w.heap.size + 1) T1 #[x1] := by have := Blk.new (w.alloc (.cells #[x0] T0)) T1 #[x1]; simpa using this
  have b2 : Blk (((w.alloc (.cells #[x0] T0)).alloc (.cells #[x1] T1)).alloc (.cells #[x2] T2)) (w.heap.size + 2) T2 #[x2] := by have := Blk.new ((w.alloc (.cells #[x0] T0)).alloc (.cells #[x1] T1)) T2 #[x2]; simpa using this
  have b3 : Blk ((((w.alloc (.cells #[x0] T0)).alloc (.cells #[x1] T1)).alloc (.cells #[x2] T2)).alloc (.cells #[x3] T3)) (w.heap.size + 2 + 1) T3 #[x3] := by have := Blk.new (((w.alloc (.cells #[x0] T0)).alloc (.cells #[x1] T1)).alloc (.cells #[x2] T2)) T3 #[x3]; simpa using this
  have b0' := ((b0.keep (below_new _ (.cells #[x1] T1)) (by simp)).keep (below_new _ (.cells #[x2] T2)) (by simp <;> omega)).keep (below_new _ (.cells #[x3] T3)) (by simp <;> omega)
  have b1' := (b1.keep (below_new _ (.cells #[x2] T2)) (by simp)).keep (below_new _ (.cells #[x3] T3)) (by simp <;> omega)
  have b2' := b2.keep (below_new _ (.cells #[x3] T3)) (by simp)
  exact ⟨b0'.cell 0, b1'.cell 0, b2'.cell 0, b3.cell 0, b0'.free 0, b1'.free 0, by simp, (((below_new w _).alloc (by simp) _).alloc (by simp; omega) _).alloc (by simp; omega) _⟩
theorem chK_b {S m : Nat} (hm : S + 4 ≤ m) (W : World) (l : Nat) (o o' : Obj) (hl : m ≤ l) (h : W.heap[l]? = some o) (_ : o.isCells = false) (_ : o.isWalk = false) : ChK S (S + 2) W (W.putObj l o') :=
  ⟨(Below.refl S W).grown (grownBy_putObj' W l o') (by have := (Array.getElem?_eq_some_iff.1 h).1; omega) (fun k e => by cases e; omega), World.putObj_heap_other (by omega), World.putObj_heap_other (by omega)⟩
theorem chK_set {S : Nat} {W W1 : World} (h : ChK S (S + 2) W W1) (k : Nat) (h1 : S ≤ k) (h2 : k < S + 2) (v : Value) : ChK S (S + 2) W (W1.setCell ⟨k, 0, none⟩ v) :=
  ⟨h.1.setCell (p := ⟨k, 0, none⟩) h1 v, (Below.heap_setCell _ _ _ _ (by simp; omega)).trans h.2.1, (Below.heap_setCell _ _ _ _ (by simp; omega)).trans h.2.2⟩
theorem cell_set_ne {w : World} {a b : Nat} (h : a ≠ b) (v : Value) : (w.setCell ⟨b, 0, none⟩ v).cell? ⟨a, 0, none⟩ = w.cell? ⟨a, 0, none⟩ :=
  World.cell?_setCell_other _ _ _ _ (by intro e; exact h (by simpa using (congrArg Addr.block e).symm))

set_option maxRecDepth 100000 in
set_option maxHeartbeats 4000000 in
theorem sum_in (F : Fence) (n : Nat) (h44 : F.fn 108) (h82 : F.fn 122) (h109 : F.fn 147) (hro : F.round = none) (hn : 3 ≤ n) (A : Option Addr) (b off cap : Nat) (l : List UInt8) (hlen : l.length ≤ 1000000) (hlc : l.length ≤ cap) (hcap : cap ≤ 9223372036854775807) (hA : 0 < l.length → A = some ⟨b, off, none⟩) (w : World) (hh : Holds w b off l) :
    CallsIn F n Tryz.prog 108 #[.slice A l.length cap] w fun e W' => e = .returned (.int .i64 (sumN l : Nat)) ∧ Below w.heap.size w W' := by
  have h1 : 1 ≤ n := by omega
  refine callsIn_of_wp_marks Tryz.func108 rfl h44 ?_ hro
  simp only [Tryz.ntmps108, List.size_toArray, List.length_cons, List.length_nil, Nat.reduceAdd, Nat.reduceSub, Array.replicate_succ, Array.replicate_zero, List.push_toArray, List.append_toArray, List.nil_append, List.cons_append]
  gi_wp2_with (gi_at_call 122; refine (chunk_in F (n - 1) h82 hro _ _ _ _).mono ?_; rintro e w' ⟨rfl, rfl⟩)
  obtain ⟨f0, f1, f2, f3, g0, g1, hsz, hB0⟩ := four_cells w (.int .i64 1) (.int .i64 0) (.slice A l.length cap) (.int .i64 4096) 3 3 25 3
  rw [show w.heap.size + 1 + 1 = w.heap.size + 2 by omega]
  obtain ⟨W0, hW0⟩ : ∃ W0, (((w.alloc (.cells #[.int .i64 1] 3)).alloc (.cells #[.int .i64 0] 3)).alloc (.cells #[.slice A l.length cap] 25)).alloc (.cells #[.int .i64 4096] 3) = W0 := ⟨_, rfl⟩
  rw [hW0] at f0 f1 f2 f3 g0 g1 hsz hB0
  rw [hW0]
  clear hW0
  obtain ⟨S, hS⟩ : ∃ S, w.heap.size = S := ⟨_, rfl⟩
  rw [hS] at f0 f1 f2 f3 g0 g1 hsz hB0
  rw [hS]
  have hbS : 0 < l.length → b < S := fun h => by rw [← hS]; exact hh.lt h
  refine wpIn_rangeFunc_ownG hro h1 (gf := 147) (lb := #[.pointer (some ⟨S + 2, 0, none⟩), .pointer (some ⟨S + 2 + 1, 0, none⟩)]) rfl h109 (enters_of Tryz.func147 (by kernel_rfl) rfl)
    (chunk_stops F (n - 1) h109 hro (by omega) (S + 2) S b off cap A l hlen hlc hcap hA W0 f2 f3) chK_t (chK_b (by omega)) (Below.refl _ _) (fun _ => rfl)
    (fun pre W => (W.cell? ⟨S, 0, none⟩ = some (.int .i64 ((lo (chs l pre) : Nat) : Int)) ∧ W.cell? ⟨S + 1, 0, none⟩ = some (.int .i64 ((hi (chs l pre) : Nat) : Int)) ∧ W.frozen? ⟨S, 0, none⟩ = false ∧ W.frozen? ⟨S + 1, 0, none⟩ = false) ∧ Below S w W)
    (fun _ _ _ => False)
    (OwnFrom.and (Own.from (fun s A B row hs hg hr => ⟨cell_kept hs.1 hg hr, cell_kept hs.2.1 hg hr, (frozen_kept hs.1 hg hr).trans hs.2.2.1, (frozen_kept hs.2.1 hg hr).trans hs.2.2.2⟩) _) (ownFrom_below (by omega) (by omega)))
    (fun _ _ _ _ _ hs _ _ => hs)
    ⟨⟨f0, f1, g0, g1⟩, hB0⟩
    (fun x => { tmps := #[.slice A l.length cap, undef, .int .i64 0, .pointer (some ⟨S, 0, none⟩), .pointer (some ⟨S + 1, 0, none⟩), chV b off l.length x, undef, undef, .slice A l.length cap, .func (.func 147) #[] #[.pointer (some ⟨S + 2, 0, none⟩), .pointer (some ⟨S + 2 + 1, 0, none⟩)], chV b off l.length x, undef, undef, undef, undef, undef, undef, undef, undef, undef, undef, undef, undef, undef, undef, undef, undef, undef, undef, undef, undef, undef, undef], defers := [] }) ?assign ?body ?done ?stop
  case assign =>
    intro l x W K hK
    gi_wp2
    exact hK
  case body =>
    rintro i pre x W ⟨⟨hc, hd, hf, hg⟩, hB⟩ _
    have hL0 : lo (chs l pre) < 65521 := by unfold lo; omega
    have hH0 : hi (chs l pre) < 65521 := by unfold hi; omega
    have hla := lo_app (chs l pre) (ch l x)
    have hha := hi_app (chs l pre) (ch l x)
    rw [← chs_snoc] at hla hha
    obtain ⟨L0, hL⟩ : ∃ L0, lo (chs l pre) = L0 := ⟨_, rfl⟩
    obtain ⟨H0, hH⟩ : ∃ H0, hi (chs l pre) = H0 := ⟨_, rfl⟩
    rw [hL] at hc hL0 hla hha; rw [hH] at hd hH0 hla hha
    have hpc : ∀ j, j < (ch l x).length → W.cell? ⟨b, off + 4096 * x + j, none⟩ = some (.int .u8 (((ch l x).getD j 0).toNat : Int)) := by
      intro j hj
      have hj2 := hj
      rw [ch_len] at hj2
      have h1 := hh (4096 * x + j) (by omega)
      rw [← hB.cell (p := ⟨b, off + (4096 * x + j), none⟩) (hbS (by omega))] at h1
      rw [show off + 4096 * x + j = off + (4096 * x + j) by omega, h1]
      unfold ch
      simp only [List.getD_eq_getElem?_getD, List.getElem?_take_of_lt (show j < 4096 by omega), List.getElem?_drop]
    have hv : chV b off l.length x = .slice (some ⟨b, off + 4096 * x, none⟩) (ch l x).length (ch l x).length := by unfold chV; rw [ch_len]
    have hcl : (ch l x).length ≤ 4096 := by rw [ch_len]; omega
    simp only [hv]
    obtain ⟨P, hP⟩ : ∃ P, ch l x = P := ⟨_, rfl⟩
    rw [hP] at hpc hcl hla hha ⊢
    have HLA := hid (And.intro hla hha)
    obtain ⟨o2, ho2⟩ : ∃ o2, off + 4096 * x = o2 := ⟨_, rfl⟩
    rw [ho2] at hpc ⊢
    obtain ⟨m, hm⟩ : ∃ m, P.length = m := ⟨_, rfl⟩
    rw [hm]
    have HM := hid hm
    have HPC := hid hpc
    have HL0 := hid hL0; have HH0 := hid hH0
    have hm4 : m ≤ 4096 := by omega
    have hpos : ∀ {j : Nat}, j < m → 0 < l.length := fun {j} hj => by rw [← hm, ← hP, ch_len] at hj; omega
    have HCL := hid hcl
    clear hv hP ho2 hm hpc hL hH hla hha hL0 hH0 hcl f0 f1 f2 f3 g0 g1 hB0 hh hA
    gi_wp2
    gi_loopw [13] (fun vi wr => ∃ (k : Nat) (X Y : Int), k ≤ m ∧ vi = .int .i64 k ∧ Hid (X = ((un (P.take k) L0 H0).1 : Nat) ∧ Y = ((un (P.take k) L0 H0).2 : Nat)) ∧ 0 ≤ X ∧ X ≤ 1200000 ∧ 0 ≤ Y ∧ Y ≤ 5000000000 ∧
      wr.cell? ⟨S, 0, none⟩ = some (.int .i64 X) ∧ wr.cell? ⟨S + 1, 0, none⟩ = some (.int .i64 Y) ∧ wr.frozen? ⟨S, 0, none⟩ = false ∧ wr.frozen? ⟨S + 1, 0, none⟩ = false ∧ Hid (KeepsOthers W wr ∧ ChK S (S + 2) W wr)) (fun vi _ => m - (intOf vi).toNat)
    case atStart => exact ⟨0, L0, H0, Nat.zero_le _, rfl, ⟨rfl, rfl⟩, by omega, by have := HL0.out; omega, by omega, by have := HH0.out; omega, hc, hd, hf, hg, ⟨KeepsOthers.refl _, chK_refl _ _ _⟩⟩
    case round =>
      obtain ⟨k, X, Y, hk, rfl, HX, x0, x1, y0, y1, q0, q1, q2, q3, HK⟩ := hrel
      by_cases hlt : k < m
      · have hkl : k < P.length := by rw [HM.out]; exact hlt
        have hb := HPC.out k hkl
        rw [List.getD_eq_getElem?_getD, List.getElem?_eq_getElem hkl, Option.getD_some] at hb
        obtain ⟨z, hz⟩ : ∃ z : Int, (((P[k]).toNat : Nat) : Int) = z := ⟨_, rfl⟩
        rw [hz] at hb
        have z0 : 0 ≤ z := by omega
        have z1 : z < 256 := by have := u8_lt P[k]; omega
        have hcb : wr.cell? ⟨b, o2 + k, none⟩ = some (.int .u8 z) := (HK.out.2.1.cell (p := ⟨b, o2 + k, none⟩) (hbS (hpos hlt))).trans hb
        have HN : Hid (X + z = ((un (P.take (k + 1)) L0 H0).1 : Nat) ∧ Y + (X + z) = ((un (P.take (k + 1)) L0 H0).2 : Nat) ∧ X + z ≤ 1200000 ∧ Y + (X + z) ≤ 5000000000) := by
          have h2 := un_small (P.take (k + 1)) (by rw [List.length_take]; have := HCL.out; omega) L0 H0 HL0.out HH0.out
          have h3 := HX.out
          rw [List.take_succ_eq_append_getElem hkl, un_snoc] at h2 ⊢
          simp only at h2 ⊢
          refine ⟨by omega, by omega, by omega, by omega⟩
        have HZ := hid hz
        clear hz hb
        gi_wp2
        go_roundw
        case rel =>
          obtain ⟨n1, n2, n3, n4⟩ := HN.out
          refine ⟨k + 1, X + z, Y + (X + z), by omega, by go_num, ⟨n1, n2⟩, by omega, by omega, by omega, by omega, ?_, ?_, ?_, ?_, ⟨(HK.out.1.trans (KeepsOthers.setCell _ _ _)).trans (KeepsOthers.setCell _ _ _), chK_set (chK_set HK.out.2 S (Nat.le_refl _) (by omega) _) (S + 1) (by omega) (by omega) _⟩⟩
          · rw [cell_set_ne (by omega)]; exact World.cell?_setCell_same' _ _ _ (by rw [q0]; rfl)
          · exact World.cell?_setCell_same' _ _ _ (by rw [cell_set_ne (by omega), q1]; rfl)
          · rw [World.frozen?_setCell, World.frozen?_setCell]; exact q2
          · rw [World.frozen?_setCell, World.frozen?_setCell]; exact q3
        case measure => simp [intOf]; omega
      · gi_wp2
        have hk' : k = P.length := by have := HM.out; omega
        have hx := HX.out
        rw [hk', List.take_of_length_le (Nat.le_refl _)] at hx
        obtain ⟨hla, hha⟩ := HLA.out
        refine ⟨((HK.out.1.trans (KeepsOthers.setCell _ _ _)).trans (KeepsOthers.setCell _ _ _)).from _, chK_set (chK_set HK.out.2 S (Nat.le_refl _) (by omega) _) (S + 1) (by omega) (by omega) _, ⟨?_, ?_, ?_, ?_⟩, ?_⟩
        · rw [hla, cell_set_ne (by omega), World.cell?_setCell_same' _ _ _ (by rw [q0]; rfl), hx.1]; rfl
        · rw [hha, World.cell?_setCell_same' _ _ _ (by rw [cell_set_ne (by omega), q1]; rfl), hx.2]; rfl
        · rw [World.frozen?_setCell, World.frozen?_setCell]; exact q2
        · rw [World.frozen?_setCell, World.frozen?_setCell]; exact q3
        · exact hB.trans (chK_set (chK_set HK.out.2 S (Nat.le_refl _) (by omega) _) (S + 1) (by omega) (by omega) _).1
  case done =>
    rintro D ys W hD rfl ⟨⟨hc, hd, hf, hg⟩, hB⟩ hK
    rw [chs_all] at hc hd
    have hl1 : lo l < 65521 := by unfold lo; omega
    have hh1 : hi l < 65521 := by unfold hi; omega
    have e1 : bits .or .i64 ((hi l : Int) * 65536) (lo l : Int) = ((sumN l : Nat) : Int) := by
      have e2 : ((hi l : Int) * 65536) = ((hi l * 65536 : Nat) : Int) := by omega
      rw [e2, or_sum _ _ hh1 hl1, sumN_eq]
    have E1 := hid e1
    clear e1
    gi_wp2
    refine ⟨by simp, .inl ⟨_, _, rfl, run_takeDeferred hK, ?_⟩⟩
    refine ⟨_, results_tmp rfl _ _ _, ?_, by rw [hS]; exact hB.trans (belowK_b (w := W0) (by omega) W D _ _ hD hK rfl rfl)⟩
    rw [← E1.out]
    rfl
  case stop =>
    rintro D c pre W _ _ h _
    exact h.elim

/-- sum.Sum of a slice that holds l. -/
theorem sum_any (A : Option Addr) (c : Nat) (l : List UInt8) (hlen : l.length ≤ 1000000) (hlc : l.length ≤ c) (hc : c ≤ 9223372036854775807) (w : World) (h : HoldsA w A l) :
    Calls Tryz.prog 108 #[.slice A l.length c] w fun e w' => e = .returned (.int .i64 ((sumN l : Nat) : Int)) ∧ Below w.heap.size w w' := by
  by_cases h0 : 0 < l.length
  · obtain ⟨b, off, rfl, hh⟩ := h h0
    exact callsIn_wide.1 (sum_in Fence.wide 5 trivial trivial trivial rfl (by omega) _ b off c l hlen hlc hc (fun _ => rfl) w hh)
  · exact callsIn_wide.1 (sum_in Fence.wide 5 trivial trivial trivial rfl (by omega) A 0 0 c l hlen hlc hc (fun h => absurd h h0) w (fun i hi => absurd hi (by omega)))
end Go.Proofs.YtofkfafdodhmdaaGreatDoor

/- sum.Frame at any bytes: a frame, or nothing where there are too many. Conditions: the slice holds its bytes. -/
namespace Go.Proofs.YtofkfafdodhmdaaGreatDoor
open Go.RowKit

theorem seal_row (w : World) (B : Nat) (hB : B ≤ w.heap.size) (s : Nat) (q1 q2 q3 q4 : Int) (h1 : q1 = ((UInt8.ofNat (s / 16777216 % 256)).toNat : Int)) (h2 : q2 = ((UInt8.ofNat (s / 65536 % 256)).toNat : Int)) (h3 : q3 = ((UInt8.ofNat (s / 256 % 256)).toNat : Int)) (h4 : q4 = ((UInt8.ofNat (s % 256)).toNat : Int)) :
    Row (w.alloc (.cells #[.int .u8 q1, .int .u8 q2, .int .u8 q3, .int .u8 q4] 5)) B (.slice (some ⟨w.heap.size, 0, none⟩) 4 4) (byW 4 s) := by
  subst h1; subst h2; subst h3; subst h4
  have e : byW 4 s = [UInt8.ofNat (s / 16777216 % 256), UInt8.ofNat (s / 65536 % 256), UInt8.ofNat (s / 256 % 256), UInt8.ofNat (s % 256)] := by
    simp only [byW, List.nil_append, List.cons_append]
    simp only [Nat.div_div_eq_div_mul, Nat.reduceMul]
  rw [e]
  exact Row.new w B hB [UInt8.ofNat (s / 16777216 % 256), UInt8.ofNat (s / 65536 % 256), UInt8.ofNat (s / 256 % 256), UInt8.ofNat (s % 256)] (by unfold maxLen; simp)

set_option maxHeartbeats 1000000 in
theorem sealOf_any (v : Value) (l : List UInt8) (hlen : l.length ≤ 1000000) (w : World) (h : SlA w v l) :
    Calls Tryz.prog 84 #[v] w fun e w' => ∃ v', e = .returned v' ∧ Row w' w.heap.size v' (byW 4 (sumN l)) ∧ Below w.heap.size w w' := by
  obtain ⟨A, c, rfl, h2, h3, h4, _⟩ := h
  have HS := hid (sum_any A c l hlen h2 h3 w h4)
  have hlt := sumN_lt l
  obtain ⟨s, hs⟩ : ∃ s, sumN l = s := ⟨_, rfl⟩
  rw [hs] at HS hlt
  rw [hs]
  obtain ⟨S, hS⟩ : ∃ S : Int, (s : Int) = S := ⟨_, rfl⟩
  have HS : Hid (Calls Tryz.prog 108 #[.slice A l.length c] w fun e w' => e = .returned (.int .i64 S) ∧ Below w.heap.size w w') := by rw [← hS]; exact HS.out
  have HE := hid (And.intro hS hlt)
  have s0 : 0 ≤ S := by omega
  clear hs hS hlt h4
  go_enter Tryz.func84, Tryz.ntmps84
  go_wp2_with (go_at_call 108; refine HS.out.mono ?_; rintro e w1 ⟨rfl, hb⟩)
  go_ret
  refine ⟨_, rfl, ?_, hb.trans ((below_new w1 _).mono hb.size)⟩
  refine seal_row w1 w.heap.size hb.size s _ _ _ _ ?_ ?_ ?_ ?_ <;> (have := HE.out; rw [UInt8.toNat_ofNat']; omega)

set_option maxHeartbeats 1000000 in
theorem frame_big (A : Option Addr) (n c : Nat) (hn : 65536 < n) (w : World) :
    Calls Tryz.prog 51 #[.slice A n c] w fun e w' => e = .returned (.tuple #[.slice none 0 0, .bool false]) ∧ w' = w := by
  go_enter Tryz.func51, Tryz.ntmps51
  go_wp2
  go_ret2
  exact ⟨rfl, rfl⟩

/-- Three slices in a new list, in a world behind. -/
theorem c3_new (W : World) (v1 v2 v3 : Value) (l1 l2 l3 : List UInt8) (h1 : SlA W v1 l1) (h2 : SlA W v2 l2) (h3 : SlA W v3 l3) (T : TypeId) :
    ∃ A1 A2 A3 c1 c2 c3, Cat3 (W.alloc (.cells #[v1, v2, v3] T)) W.heap.size A1 A2 A3 c1 c2 c3 l1 l2 l3 (W.alloc (.cells #[v1, v2, v3] T)) := by
  obtain ⟨A1, c1, rfl, _, _, g1, _⟩ := h1
  obtain ⟨A2, c2, rfl, _, _, g2, _⟩ := h2
  obtain ⟨A3, c3, rfl, _, _, g3, _⟩ := h3
  have hb := below_new W (.cells #[.slice A1 l1.length c1, .slice A2 l2.length c2, .slice A3 l3.length c3] T)
  have hB : Blk (W.alloc (.cells #[.slice A1 l1.length c1, .slice A2 l2.length c2, .slice A3 l3.length c3] T)) W.heap.size T _ := Blk.new W T _
  exact ⟨A1, A2, A3, c1, c2, c3, Below.refl _ _, hB.cell 0, hB.cell 1, hB.cell 2, g1.below hb, g2.below hb, g3.below hb⟩

set_option maxHeartbeats 1000000 in
theorem frame_any (v : Value) (l : List UInt8) (hlen : l.length ≤ 65536) (w : World) (h : SlA w v l) :
    Calls Tryz.prog 51 #[v] w fun e w' => ∃ v', e = .returned (.tuple #[v', .bool true]) ∧ Row w' w.heap.size v' (frameM l) ∧ Below w.heap.size w w' := by
  have HV := hid h
  obtain ⟨A, c, rfl, h2, h3, h4⟩ := h
  obtain ⟨n, hn⟩ : ∃ n, l.length = n := ⟨_, rfl⟩
  have HL := hid hlen
  have HN : Hid (∀ W : World, Calls Tryz.prog 39 #[.int .i64 (n : Int)] W fun e w' => ∃ v, e = .returned v ∧ Row w' W.heap.size v (numW l.length) ∧ Below W.heap.size W w') := fun W => by rw [hn]; exact num_any n (by omega) W
  have HS : Hid (∀ W : World, SlA W (.slice A n c) l → Calls Tryz.prog 84 #[.slice A n c] W fun e w' => ∃ v', e = .returned v' ∧ Row w' W.heap.size v' (byW 4 (sumN l)) ∧ Below W.heap.size W w') := fun W hW => sealOf_any _ l (by omega) W hW
  have HC : Hid (∀ (W : World) (v1 v3 : Value), SlA W v1 (numW l.length) → SlA W (.slice A n c) l → SlA W v3 (byW 4 (sumN l)) → w.heap.size ≤ W.heap.size →
      Calls Tryz.prog 83 #[.slice (some ⟨W.heap.size, 0, none⟩) 3 3] (W.alloc (.cells #[v1, .slice A n c, v3] 25)) fun e w' => ∃ v, e = .returned v ∧ Row w' w.heap.size v (frameM l) ∧ Below w.heap.size (W.alloc (.cells #[v1, .slice A n c, v3] 25)) w') := by
    intro W v1 v3 q1 q2 q3 hs
    obtain ⟨A1, A2, A3, c1, c2, c3, hC⟩ := c3_new W v1 _ v3 _ _ _ q1 q2 q3 25
    have hnl : (numW l.length).length ≤ 9 := numW_len9 _ (by omega)
    refine (concat3 W.heap.size A1 A2 A3 c1 c2 c3 _ _ _ (by rw [byW_len]; omega) _ hC).mono fun e w' ⟨v, he, hR, hb⟩ => ⟨v, he, ?_, hb.mono (by simp; omega)⟩
    exact hR.le (by simp; omega)
  rw [hn]
  rw [hn] at hlen HV
  clear h2 h3 h4 hn
  go_enter Tryz.func51, Tryz.ntmps51
  go_wp2_with (first
    | (go_at_call 39; refine (HN.out _).mono ?_; rintro e w1 ⟨v1, rfl, hR1, hb1⟩; have hS1 := hid hR1.sla; obtain ⟨A1, c1, rfl, _, _, _⟩ := hR1.sla)
    | (go_at_call 84; refine (HS.out _ (HV.out.below hb1)).mono ?_; rintro e w2 ⟨v2, rfl, hR2, hb2⟩; have hS2 := hid hR2.sla; obtain ⟨A2, c2, rfl, _, _, _⟩ := hR2.sla)
    | (go_at_call 83; refine (HC.out w2 _ _ (hS1.out.below hb2) ((HV.out.below hb1).below hb2) hS2.out (Nat.le_trans hb1.size hb2.size)).mono ?_; rintro e w3 ⟨v3, rfl, hR3, hb3⟩))
  go_ret2
  exact ⟨_, rfl, hR3, ((hb1.trans (hb2.mono hb1.size)).alloc (Nat.le_trans hb1.size hb2.size) _).trans hb3⟩
end Go.Proofs.YtofkfafdodhmdaaGreatDoor

/- sum.look and sum.Next at any bytes: what stands at the beginning. Conditions: the slice holds its bytes, a million at most. -/
namespace Go.Proofs.YtofkfafdodhmdaaGreatDoor
open Go.RowKit

/-- Where the number ends does not hang on what stands behind it. -/
theorem tkGo_more (f : Nat) : ∀ i l n r, tkGo f i l = some (n, r) → ∃ k, 1 ≤ k ∧ k ≤ f ∧ k ≤ l.length ∧ r = l.drop k ∧ ∀ m, k ≤ m → tkGo f i (l.take m) = some (n, (l.take m).drop k) := by
  induction f with
  | zero => intro i l n r h; simp [tkGo] at h
  | succ f ih =>
    intro i l n r h
    cases l with
    | nil => simp [tkGo] at h
    | cons x t =>
      rw [tkGo] at h
      split at h
      · rename_i h1
        split at h
        · cases h
        · rename_i h2
          cases h
          refine ⟨1, by omega, by omega, by simp, by simp, fun m hm => ?_⟩
          obtain ⟨m', rfl⟩ : ∃ m', m = m' + 1 := ⟨m - 1, by omega⟩
          rw [List.take_succ_cons, tkGo, if_pos h1, if_neg h2]
          simp
      · rename_i h1
        cases hm : tkGo f (i + 1) t with
        | none => rw [hm] at h; cases h
        | some p =>
          rw [hm] at h
          obtain ⟨k, h2, h3, h4, h5, h6⟩ := ih _ _ _ _ hm
          simp only [Option.map_some, Option.some.injEq, Prod.mk.injEq] at h
          refine ⟨k + 1, by omega, by omega, by simp only [List.length_cons]; omega, by rw [← h.2, h5]; simp, fun m hm2 => ?_⟩
          obtain ⟨m', rfl⟩ : ∃ m', m = m' + 1 := ⟨m - 1, by omega⟩
          rw [List.take_succ_cons, tkGo, if_neg h1, h6 m' (by omega)]
          simp [h.1]
theorem tk_head_none {l : List UInt8} (h : tk l = none) : tk (l.take 9) = none := by
  have := tkGo_take 9 0 l
  unfold tk at *
  rw [h] at this
  cases hk : tkGo 9 0 (l.take 9) with
  | none => rfl
  | some p => rw [hk] at this; cases this
theorem open_head (l : List UInt8) : openB (l.take 9) = openB l := by
  by_cases h : l.length ≤ 9
  · rw [List.take_of_length_le h]
  · unfold openB
    rw [List.length_take, decide_eq_false (by omega), decide_eq_false (by omega)]
    rfl

/-- The head of bytes: the first nine at most. -/
theorem sla_head {w : World} {A : Option Addr} {c : Nat} {l : List UInt8} (h : SlA w (.slice A l.length c) l) : SlA w (.slice A (min l.length 9) c) (l.take 9) := by
  obtain ⟨A', c', e, h2, h3, h4, h5⟩ := h
  injection e with e1 _ e2
  subst e1; subst e2
  refine ⟨A, c, by rw [List.length_take, Nat.min_comm], by rw [List.length_take]; omega, h3, fun h0 => ?_, h5⟩
  have hl : 0 < l.length := by rw [List.length_take] at h0; omega
  obtain ⟨b, off, e, hh⟩ := h4 hl
  refine ⟨b, off, e, fun i hi => ?_⟩
  rw [List.length_take] at hi
  rw [hh i (by omega)]
  simp only [List.getD_eq_getElem?_getD, List.getElem?_take_of_lt (show i < 9 by omega)]

def LEnd (w : World) (l : List UInt8) : Nx → Ending → World → Prop
  | .whole x r, e, w' => ∃ A' c', e = .returned (.tuple #[.slice A' x.length c', .int .i64 ((l.length - r.length : Nat) : Int), .int .i64 0]) ∧ SlA w' (.slice A' x.length c') x ∧ Below w.heap.size w w'
  | .torn, e, w' => e = .returned (.tuple #[.slice none 0 0, .int .i64 0, .int .i64 1]) ∧ Below w.heap.size w w'
  | .bad, e, w' => e = .returned (.tuple #[.slice none 0 0, .int .i64 0, .int .i64 2]) ∧ Below w.heap.size w w'

set_option maxHeartbeats 1000000 in
/-- No number there. -/
theorem look_none (A : Option Addr) (m h c : Nat) (q : Bool) (hh : h = min m 9) (hmc : m ≤ c) (hc : c ≤ 9223372036854775807) (hA : A = none → c = 0) (w : World)
    (HT : Calls Tryz.prog 77 #[.slice A h c] w fun e w' => e = .returned (.tuple #[.int .i64 0, .slice none 0 0, .bool false]) ∧ Below w.heap.size w w')
    (HB : ∀ W, Below w.heap.size w W → Calls Tryz.prog 103 #[.slice A h c] W fun e w' => e = .returned (.bool q) ∧ w' = W) :
    Calls Tryz.prog 78 #[.slice A m c] w fun e w' => e = .returned (.tuple #[.slice none 0 0, .int .i64 0, .int .i64 (if q then 1 else 2)]) ∧ Below w.heap.size w w' := by
  have hmin : min (m : Int) 9 = (h : Int) := by omega
  have HT := hid HT
  have HB := hid HB
  have hhc : h ≤ c := by omega
  have hHH := hid hh
  clear hh
  cases A with
  | none =>
    obtain rfl := hA rfl
    obtain rfl : m = 0 := by omega
    obtain rfl : h = 0 := by omega
    clear hmin
    go_enter Tryz.func78, Tryz.ntmps78
    go_wp2_with (first | (go_at_call 77; refine HT.out.mono ?_; rintro e w1 ⟨rfl, hb⟩) | (go_at_call 103; refine (HB.out _ hb).mono ?_; rintro e w2 ⟨rfl, rfl⟩))
    all_goals
      refine bodyPost_ret (results_tmp3 rfl _ _ _) rfl ?_
      exact ⟨rfl, hb⟩
  | some ad =>
    clear hA
    go_enter Tryz.func78, Tryz.ntmps78
    go_wp2_with (first | (go_at_call 77; refine HT.out.mono ?_; rintro e w1 ⟨rfl, hb⟩) | (go_at_call 103; refine (HB.out _ hb).mono ?_; rintro e w2 ⟨rfl, rfl⟩))
    all_goals
      refine bodyPost_ret (results_tmp3 rfl _ _ _) rfl ?_
      exact ⟨rfl, hb⟩

/-- What Take of the head gives, in the walk's words. -/
def HeadSome (w : World) (A : Option Addr) (h c n r : Nat) : Prop :=
  Calls Tryz.prog 77 #[.slice A h c] w fun e w' => ∃ A' c', e = .returned (.tuple #[.int .i64 (n : Int), .slice A' r c', .bool true]) ∧ Below w.heap.size w w'

set_option maxRecDepth 100000 in
set_option maxHeartbeats 2000000 in
/-- A number there that is too great. -/
theorem look_great (ad : Addr) (m h c n r : Nat) (hh : h = min m 9) (hmc : m ≤ c) (_hc : c ≤ 9223372036854775807) (hn : 65536 < n) (hn2 : n < 9223372036854775808) (w : World) (HT : HeadSome w (some ad) h c n r) :
    Calls Tryz.prog 78 #[.slice (some ad) m c] w fun e w' => e = .returned (.tuple #[.slice none 0 0, .int .i64 0, .int .i64 2]) ∧ Below w.heap.size w w' := by
  have hmin : min (m : Int) 9 = (h : Int) := by omega
  obtain ⟨N, hN⟩ : ∃ N : Int, (n : Int) = N := ⟨_, rfl⟩
  unfold HeadSome at HT
  rw [hN] at HT
  have HT := hid HT
  have hhc : h ≤ c := by omega
  have hg : 65536 < N := by omega
  clear hh hn hn2 hN
  go_enter Tryz.func78, Tryz.ntmps78
  go_wp2_with (go_at_call 77; refine HT.out.mono ?_; rintro e w1 ⟨A', c', rfl, hb⟩)
  refine bodyPost_ret (results_tmp3 rfl _ _ _) rfl ?_
  exact ⟨rfl, hb⟩

set_option maxRecDepth 100000 in
set_option maxHeartbeats 2000000 in
/-- Fewer bytes than are told, and four. -/
theorem look_short (ad : Addr) (m h c n r k : Nat) (hh : h = min m 9) (hmc : m ≤ c) (_hc : c ≤ 9223372036854775807) (hn : n ≤ 65536) (hr : k + r = h) (hs : m < k + n + 4) (w : World) (HT : HeadSome w (some ad) h c n r) :
    Calls Tryz.prog 78 #[.slice (some ad) m c] w fun e w' => e = .returned (.tuple #[.slice none 0 0, .int .i64 0, .int .i64 1]) ∧ Below w.heap.size w w' := by
  have hmin : min (m : Int) 9 = (h : Int) := by omega
  unfold HeadSome at HT
  have HT := hid HT
  have hhc : h ≤ c := by omega
  have hm9 : h ≤ 9 := by omega
  have hk : (h : Int) - (r : Int) = (k : Int) := by omega
  clear hh
  go_enter Tryz.func78, Tryz.ntmps78
  go_wp2_with (go_at_call 77; refine HT.out.mono ?_; rintro e w1 ⟨A', c', rfl, hb⟩)
  refine bodyPost_ret (results_tmp3 rfl _ _ _) rfl ?_
  exact ⟨rfl, hb⟩

set_option maxRecDepth 100000 in
set_option maxHeartbeats 4000000 in
/-- As many bytes as are told, and four. -/
theorem look_full (b off m h c n r k : Nat) (hh : h = min m 9) (hmc : m ≤ c) (hc : c ≤ 9223372036854775807) (hn : n ≤ 65536) (hr : k + r = h) (hs : k + n + 4 ≤ m) (d : Bool) (sl : List UInt8) (w : World) (HT : HeadSome w (some ⟨b, off, none⟩) h c n r)
    (HS : Hid (∀ W, Below w.heap.size w W → Calls Tryz.prog 84 #[.slice (some ⟨b, off + k, none⟩) n (c - k)] W fun e w' => ∃ A2 c2, e = .returned (.slice A2 4 c2) ∧ Hid (SlA w' (.slice A2 4 c2) sl) ∧ Below W.heap.size W w'))
    (HE : Hid (∀ W A2 c2, Below w.heap.size w W → SlA W (.slice A2 4 c2) sl → Calls Tryz.prog 104 #[.slice (some ⟨b, off + (k + n), none⟩) 4 (c - (k + n)), .slice A2 4 c2] W fun e w' => e = .returned (.bool d) ∧ w' = W)) :
    Calls Tryz.prog 78 #[.slice (some ⟨b, off, none⟩) m c] w fun e w' => e = .returned (.tuple (if d then #[.slice (some ⟨b, off + k, none⟩) n (c - k), .int .i64 ((k + n + 4 : Nat) : Int), .int .i64 0] else #[.slice none 0 0, .int .i64 0, .int .i64 2])) ∧ Below w.heap.size w w' := by
  have hmin : min (m : Int) 9 = (h : Int) := by omega
  unfold HeadSome at HT
  have HT := hid HT
  have hhc : h ≤ c := by omega
  have hm9 : h ≤ 9 := by omega
  have hk : (h : Int) - (r : Int) = (k : Int) := by omega
  clear hh
  go_enter Tryz.func78, Tryz.ntmps78
  go_wp2_with (go_at_call 77; refine HT.out.mono ?_; rintro e w1 ⟨A', c', rfl, hb⟩)
  have hHeld := hid hb
  have E1 : Hid (((k : Int) + n).toNat = k + n) := by unfold Hid; omega
  have E2 : Hid (((k : Int) + n + 4).toNat - (k + n) = 4) := by unfold Hid; omega
  have E3 : Hid (((k + n + 4 : Nat) : Int) = (k : Int) + n + 4) := by unfold Hid; omega
  have q1 : IntKind.i64.wrap ((k : Int) + n + 4) = (k : Int) + n + 4 := by rw [IntKind.wrap_i64]; omega
  have p1 : (0 : Int) ≤ (k : Int) + n := by omega
  have p2 : (k : Int) + n ≤ (k : Int) + n + 4 := by omega
  have p3 : (0 : Int) ≤ (k : Int) + n + 4 := by omega
  have p4 : (k : Int) + n + 4 ≤ (c : Int) := by omega
  go_region_held3 (fun w' => Hid (Below w.heap.size w w'))
    (first | assumption | exact hid (Below.drew (Hid.out (by assumption))) | exact hid (Below.trans (Hid.out (by assumption)) (hbo.mono (Below.size (Hid.out (by assumption))))))
    (first
      | (go_at_call 84; ((with_reducible refine (HS.out _ ?_).mono ?_); (first | exact Hid.out (by assumption) | exact Below.drew (Hid.out (by assumption))); rintro e w5 ⟨A2, c2, rfl, hS2, hbo⟩))
      | (go_at_call 104; rw [E1.out, E2.out]; ((with_reducible refine (HE.out _ _ _ ?_ ?_).mono ?_); (first | exact Hid.out (by assumption) | exact Below.drew (Hid.out (by assumption))); (first | exact Hid.out hS2 | exact SlA.below (Hid.out hS2) (Below.refl _ _).drew); rintro e w6 ⟨rfl, rfl⟩)))
  all_goals
    rename_i hLast
    clear HE HS
    cases d
    all_goals
      go_wp2
      refine bodyPost_ret (results_tmp3 rfl _ _ _) rfl ?_
      first
      | exact ⟨rfl, hLast.out⟩
      | (simp only [if_true]; rw [E3.out]; exact ⟨rfl, hLast.out⟩)

/-- Some of a slice's bytes. -/
theorem sla_part {w : World} {b off c : Nat} {l : List UInt8} (hc : l.length ≤ c) (hc2 : c ≤ 9223372036854775807) (hh : Holds w b off l) (k n : Nat) (h : k + n ≤ l.length) : SlA w (.slice (some ⟨b, off + k, none⟩) n (c - k)) ((l.drop k).take n) := by
  have hl : ((l.drop k).take n).length = n := by rw [List.length_take, List.length_drop]; omega
  refine ⟨_, c - k, by rw [hl], by rw [hl]; omega, by omega, fun _ => ⟨b, off + k, rfl, fun i hi => ?_⟩, fun h => by cases h⟩
  rw [hl] at hi
  have := (hh.drop k) i (by rw [List.length_drop]; omega)
  rw [this]
  simp only [List.getD_eq_getElem?_getD, List.getElem?_take_of_lt hi]

theorem look_any (v : Value) (l : List UInt8) (hlen : l.length ≤ 1000000) (w : World) (h : SlA w v l) :
    Calls Tryz.prog 78 #[v] w (LEnd w l (nextM l)) := by
  have hSA := h
  obtain ⟨A, c, rfl, h2, h3, h4, h5⟩ := h
  have hH := sla_head hSA
  obtain ⟨A', c', e, g2, g3, g4, g5⟩ := hH
  injection e with e1 e0 e2
  subst e1; subst e2
  have HT := take_any A c (l.take 9) (by rw [List.length_take]; omega) g2 g3 w g4
  rw [← e0] at HT
  unfold nextM
  cases hk : tk l with
  | none =>
    have ht := tk_head_none hk
    rw [ht] at HT
    have HB : ∀ W, Below w.heap.size w W → Calls Tryz.prog 103 #[.slice A (min l.length 9) c] W fun e w' => e = .returned (.bool (openB l)) ∧ w' = W := fun W hW => by
      have := begun_any A c (l.take 9) (by rw [List.length_take]; omega) W (g4.below hW)
      rw [← e0, open_head] at this
      exact this
    have := look_none A l.length (min l.length 9) c (openB l) rfl h2 h3 h5 w HT HB
    cases ho : openB l
    · rw [ho] at this
      simp only [Bool.false_eq_true, if_false] at this ⊢
      exact this
    · rw [ho] at this
      simp only [if_true] at this ⊢
      exact this
  | some p =>
    obtain ⟨n, t⟩ := p
    obtain ⟨k, k1, k2, k3, ht, hm⟩ := tkGo_more 9 0 l n t hk
    have hn63 : n < 9223372036854775808 := by
      obtain ⟨k', _, q2, _, _, q5⟩ := tkGo_rest 9 0 l n t hk
      exact Nat.lt_of_lt_of_le q5 (Nat.pow_le_pow_right (by decide) q2 : 128 ^ k' ≤ 128 ^ 9)
    have hno : openB l = false := by
      cases ho : openB l with
      | false => rfl
      | true =>
        have := tkGo_open 9 0 l (by unfold openB at ho; simp only [Bool.and_eq_true] at ho; exact ho.2)
        unfold tk at hk
        rw [this] at hk; cases hk
    have hhead : tk (l.take 9) = some (n, (l.take 9).drop k) := hm 9 k2
    have hrl : ((l.take 9).drop k).length = min l.length 9 - k := by rw [List.length_drop, List.length_take, Nat.min_comm]
    rw [hhead] at HT
    have hl0 : 0 < l.length := by omega
    obtain ⟨b, off, rfl, hh⟩ := h4 hl0
    have HH : HeadSome w (some ⟨b, off, none⟩) (min l.length 9) c n (min l.length 9 - k) := by
      unfold HeadSome
      refine HT.mono ?_
      rintro e w' ⟨v, rfl, hR, hb⟩
      obtain ⟨A2, c2, rfl, _⟩ := hR.sla
      rw [hrl]
      exact ⟨A2, c2, rfl, hb⟩
    simp only [hno, Bool.false_eq_true, if_false]
    by_cases hg : 65536 < n
    · rw [if_pos hg]
      exact look_great _ l.length (min l.length 9) c n _ rfl h2 h3 hg hn63 w HH
    · rw [if_neg hg]
      have htl : t.length = l.length - k := by rw [ht, List.length_drop]
      by_cases hs : t.length < n + 4
      · rw [if_pos hs]
        exact look_short _ l.length (min l.length 9) c n _ k rfl h2 h3 (by omega) (by omega) (by omega) w HH
      · rw [if_neg hs]
        have ex : t.take n = (l.drop k).take n := by rw [ht]
        have es : (t.drop n).take 4 = (l.drop (k + n)).take 4 := by rw [ht, List.drop_drop]
        have er : t.drop (n + 4) = l.drop (k + n + 4) := by rw [ht, List.drop_drop]; congr 1
        have q1 := sla_part h2 h3 hh k n (by omega)
        have q2 := sla_part h2 h3 hh (k + n) 4 (by omega)
        have hxl : ((l.drop k).take n).length = n := by rw [List.length_take, List.length_drop]; omega
        have hsl : ((l.drop (k + n)).take 4).length = 4 := by rw [List.length_take, List.length_drop]; omega
        have hrl2 : (l.drop (k + n + 4)).length = l.length - (k + n + 4) := List.length_drop
        have HL := look_full b off l.length (min l.length 9) c n (min l.length 9 - k) k rfl h2 h3 (by omega) (by omega) (by omega)
          (decide ((l.drop (k + n)).take 4 = byW 4 (sumN ((l.drop k).take n)))) (byW 4 (sumN ((l.drop k).take n))) w HH
          (fun W hW => (sealOf_any _ _ (by omega) W (q1.below hW)).mono fun e w' ⟨v', he, hR, hb⟩ => by
            obtain ⟨A2, c2, rfl, hx⟩ := hR.sla
            rw [byW_len] at hx he
            exact ⟨A2, c2, he, ⟨A2, c2, by rw [byW_len], by rw [byW_len]; exact hx.1, hx.2⟩, hb⟩)
          (fun W A2 c2 hW hv => by
            obtain ⟨A3, c3, e3, _, _, g3, _⟩ := q2.below hW
            obtain ⟨A4, c4, e4, _, _, g4, _⟩ := hv
            have := equal_any A3 A4 c3 c4 _ _ W g3 g4
            rw [← e3, ← e4] at this
            exact this)
        rw [ex, es, er]
        by_cases hq : byW 4 (sumN ((l.drop k).take n)) = (l.drop (k + n)).take 4
        · rw [if_pos hq]
          rw [decide_eq_true hq.symm] at HL
          refine HL.mono ?_
          rintro e w' ⟨rfl, hb⟩
          refine ⟨some ⟨b, off + k, none⟩, c - k, ?_, ?_, hb⟩
          · rw [hxl, hrl2, show l.length - (l.length - (k + n + 4)) = k + n + 4 by omega]
            rfl
          · rw [hxl]; exact q1.below hb
        · rw [if_neg hq]
          rw [decide_eq_false (fun e => hq e.symm)] at HL
          exact HL
end Go.Proofs.YtofkfafdodhmdaaGreatDoor

/- A row of bytes at the beginning of its block, of which one is turned. Conditions: none. -/
namespace Go.Proofs.YtofkfafdodhmdaaGreatDoor
open Go.RowKit

/-- A row of bytes at the beginning of its block, that may be written. -/
def RowAt (w : World) (g : Nat) (l : List UInt8) : Prop := Holds w g 0 l ∧ ∀ i, w.frozen? ⟨g, i, none⟩ = false
theorem Row.at {w : World} {B : Nat} {v : Value} {l : List UInt8} (h : Row w B v l) (h0 : 0 < l.length) : ∃ g c, v = .slice (some ⟨g, 0, Option.none⟩) l.length c ∧ B ≤ g ∧ l.length ≤ c ∧ c ≤ 9223372036854775807 ∧ RowAt w g l := by
  obtain ⟨g, c, e, hB, _, h6, h7⟩ := h.form h0
  obtain ⟨h1, h2⟩ := h
  rcases h2 with ⟨_, hz⟩ | ⟨g', cap', cur, e', _, hh, _, hm, _⟩
  · omega
  · rw [e] at e'
    injection e' with e1 _ e3
    injection e1 with e1
    injection e1 with e1 _
    subst e1; subst e3
    refine ⟨g, c, e, hB, h6, by unfold maxLen at hm; omega, fun i hi => by rw [Nat.zero_add]; exact h7 i hi, fun i => ?_⟩
    simp [World.frozen?, hh]
theorem RowAt.set {w : World} {g : Nat} {l : List UInt8} (h : RowAt w g l) (p : Nat) (hp : p < l.length) (c : UInt8) : Holds (w.setCell ⟨g, p, none⟩ (.int .u8 (c.toNat : Int))) g 0 (l.set p c) := by
  intro i hi
  rw [List.length_set] at hi
  rw [Nat.zero_add]
  have h1 := h.1 p hp
  rw [Nat.zero_add] at h1
  by_cases e : i = p
  · subst e
    rw [World.cell?_setCell_same' _ _ _ (by rw [h1]; rfl)]
    simp [List.getD_eq_getElem?_getD, List.getElem?_set_self hp]
  · rw [World.cell?_setCell_other _ _ _ _ (by intro e'; exact e (by simpa using (congrArg Addr.off e').symm))]
    have h2 := h.1 i hi
    rw [Nat.zero_add] at h2
    rw [h2, List.getD_eq_getElem?_getD, List.getD_eq_getElem?_getD, List.getElem?_set_ne (fun e' => e e'.symm)]
theorem flip_ne (x : UInt8) (q : Nat) (hq : q < 8) : UInt8.ofNat (x.toNat ^^^ 2 ^ q) ≠ x ∧ (UInt8.ofNat (x.toNat ^^^ 2 ^ q)).toNat = x.toNat ^^^ 2 ^ q := by
  have hx := u8_lt x
  have hp : (2 : Nat) ^ q < 2 ^ 8 := Nat.pow_lt_pow_right (by decide) hq
  have h1 : x.toNat ^^^ 2 ^ q < 2 ^ 8 := Nat.xor_lt_two_pow (by omega) hp
  have h2 : (UInt8.ofNat (x.toNat ^^^ 2 ^ q)).toNat = x.toNat ^^^ 2 ^ q := by rw [UInt8.toNat_ofNat']; omega
  refine ⟨fun e => ?_, h2⟩
  rw [e] at h2
  have h3 : (x.toNat ^^^ 2 ^ q).testBit q = !(x.toNat.testBit q) := by rw [Nat.testBit_xor, Nat.testBit_two_pow_self]; simp
  rw [← h2] at h3
  cases hb : x.toNat.testBit q <;> rw [hb] at h3 <;> cases h3


end Go.Proofs.YtofkfafdodhmdaaGreatDoor
