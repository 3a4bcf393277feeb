/- The law ValBytes answers true where both values are right. Conditions: the listed variables of the library read as they are laid; the numbers are of 64 bits. -/
import Derived.Test.YtgahljgmgdjjdaaDoorOD
namespace Go.Proofs.YtgahljgmgdjjdaaDoor
open Go.RowKit

/-- Two values in blocks of the law's own, and two rows of bytes, in a world behind the law's beginning. -/
abbrev Six (w : World) (k1 n1 : Int) (s1 : ByteArray) (k2 n2 : Int) (s2 : ByteArray) (g1 g2 : Nat) (i : Nat) (x y : Int) (w' : World) : Prop :=
  Hid (Below w.heap.size w w' ∧ w.heap.size + 1 < w'.heap.size ∧ g1 < w'.heap.size ∧ g2 < w'.heap.size) ∧ w'.cell? ⟨w.heap.size, 0, none⟩ = some (.int .i64 k1) ∧ w'.cell? ⟨w.heap.size, 1, none⟩ = some (.int .i64 n1) ∧ w'.cell? ⟨w.heap.size, 2, none⟩ = some (.string s1) ∧ w'.cell? ⟨w.heap.size + 1, 0, none⟩ = some (.int .i64 k2) ∧ w'.cell? ⟨w.heap.size + 1, 1, none⟩ = some (.int .i64 n2) ∧ w'.cell? ⟨w.heap.size + 1, 2, none⟩ = some (.string s2) ∧ w'.cell? ⟨g1, i, none⟩ = some (.int .u8 x) ∧ w'.cell? ⟨g2, i, none⟩ = some (.int .u8 y)
section
variable {w W W' : World} {k1 n1 k2 n2 : Int} {s1 s2 : ByteArray} {g1 g2 i : Nat} {x y : Int}
theorem six_mk (hb : Below w.heap.size w W) (h1 : Agg3 W w.heap.size k1 n1 s1) (h2 : Agg3 W (w.heap.size + 1) k2 n2 s2) (hx : W.cell? ⟨g1, i, none⟩ = some (.int .u8 x)) (hy : W.cell? ⟨g2, i, none⟩ = some (.int .u8 y)) : Six w k1 n1 s1 k2 n2 s2 g1 g2 i x y W :=
  ⟨hid ⟨hb, h2.1, cell_lt hx, cell_lt hy⟩, h1.2.1, h1.2.2.1, h1.2.2.2, h2.2.1, h2.2.2.1, h2.2.2.2, hx, hy⟩
theorem six_call (h : Six w k1 n1 s1 k2 n2 s2 g1 g2 i x y W) (hb : Below W.heap.size W W') : Six w k1 n1 s1 k2 n2 s2 g1 g2 i x y W' := by
  obtain ⟨hh, a0, a1, a2, b0, b1, b2, c0, c1⟩ := h
  obtain ⟨hbw, hz, hz1, hz2⟩ := hh.out
  have hc : ∀ b o, b < W.heap.size → W'.cell? ⟨b, o, none⟩ = W.cell? ⟨b, o, none⟩ := fun b o h => hb.cell (p := ⟨b, o, none⟩) h
  have hs := hb.size
  refine ⟨hid ⟨hbw.trans (hb.mono (by omega)), by omega, by omega, by omega⟩, ?_, ?_, ?_, ?_, ?_, ?_, ?_, ?_⟩ <;> (rw [hc _ _ (by omega)]; assumption)
theorem six_drew (h : Six w k1 n1 s1 k2 n2 s2 g1 g2 i x y W) : Six w k1 n1 s1 k2 n2 s2 g1 g2 i x y W.drew := by
  obtain ⟨hh, h⟩ := h
  exact ⟨hid ⟨hh.out.1.drew, hh.out.2⟩, h⟩
theorem six_drewN (h : Six w k1 n1 s1 k2 n2 s2 g1 g2 i x y W) (m : Nat) : Six w k1 n1 s1 k2 n2 s2 g1 g2 i x y (W.drewN m) := by
  obtain ⟨hh, h⟩ := h
  exact ⟨hid ⟨below_drewN hh.out.1 m, hh.out.2⟩, h⟩
theorem six_below (h : Six w k1 n1 s1 k2 n2 s2 g1 g2 i x y W) : Below w.heap.size w W := h.1.out.1
end

/-- What the loop knows: its place, and that all ahead of it is level. -/
def ByInv (lx ly : List UInt8) (o : Int) (w7 : World) (vi : Value) (wr : World) : Prop :=
  ∃ (i m : Nat), i ≤ lx.length ∧ i ≤ ly.length ∧ vi = .int .i64 i ∧ wr = w7.drewN m ∧ Lev lx ly o i

/-- The row of a right value's bytes. -/
theorem enc_row (k : Int) {n : Int} (hn : inI n) (s : ByteArray) (hs : s.size ≤ 9223372036854775807) (hr : vRight k n s.data.toList = true) (w : World) (hL : LaidU w) (W : World) (hW : Below w.heap.size w W) :
    Calls Tryd.prog 15 #[.agg #[.int .i64 k, .int .i64 n, .string s]] W fun e w' => ∃ g c, e = .returned (.tuple #[.slice (some ⟨g, 0, none⟩) (vEnc k n s.data.toList).length c, .bool true]) ∧ (vEnc k n s.data.toList).length ≤ c ∧ c ≤ maxLen ∧ W.heap.size ≤ g ∧ g < w'.heap.size ∧ (∀ i, i < (vEnc k n s.data.toList).length → w'.cell? ⟨g, i, none⟩ = some (.int .u8 (((vEnc k n s.data.toList).getD i 0).toNat : Int))) ∧ Below w.heap.size w w' ∧ Below W.heap.size W w' :=
  (vencode_yes k hn s hs hr W (hL.below hW)).mono fun e w' ⟨v, he, hR, hb⟩ => by
    have h2 := enc_two hr
    have hcap : ∀ g c, v = .slice (some ⟨g, 0, none⟩) (vEnc k n s.data.toList).length c → c ≤ maxLen := fun g c hv => by
      rcases hR.2 with ⟨hv2, _⟩ | ⟨g', cap, cur, hv2, _, _, _, hcm, _⟩
      · rw [hv] at hv2; cases hv2
      · rw [hv] at hv2; injection hv2 with _ _ h3; rw [h3]; exact hcm
    obtain ⟨g, c, rfl, h3, h4, h5, h6⟩ := hR.form (by omega)
    exact ⟨g, c, he, h5, hcap g c rfl, h3, h4, h6, hW.trans (hb.mono hW.size), hb⟩

set_option maxHeartbeats 8000000 in
theorem bytes_main {k1 n1 k2 n2 : Int} (s1 s2 : ByteArray) (w : World) (h2 : TwoR w k1 n1 s1 k2 n2 s2 false false true true) (lx ly : List UInt8) (o : Int) (hlx : lx.length ≤ 1000) (hly : ly.length ≤ 1000) (hlev : Lev lx ly o 0) (hend : o = 0 → lx.length = ly.length)
    (hO : ∀ W, Below w.heap.size w W → Calls Tryd.prog 16 #[.agg #[.int .i64 k1, .int .i64 n1, .string s1], .agg #[.int .i64 k2, .int .i64 n2, .string s2]] W fun e w' => e = .returned (.int .i64 o) ∧ Below W.heap.size W w')
    (hE1 : ∀ W, Below w.heap.size w W → Calls Tryd.prog 15 #[.agg #[.int .i64 k1, .int .i64 n1, .string s1]] W fun e w' => ∃ g c, e = .returned (.tuple #[.slice (some ⟨g, 0, none⟩) lx.length c, .bool true]) ∧ lx.length ≤ c ∧ c ≤ maxLen ∧ W.heap.size ≤ g ∧ g < w'.heap.size ∧ (∀ i, i < lx.length → w'.cell? ⟨g, i, none⟩ = some (.int .u8 ((lx.getD i 0).toNat : Int))) ∧ Below w.heap.size w w' ∧ Below W.heap.size W w')
    (hE2 : ∀ W, Below w.heap.size w W → Calls Tryd.prog 15 #[.agg #[.int .i64 k2, .int .i64 n2, .string s2]] W fun e w' => ∃ g c, e = .returned (.tuple #[.slice (some ⟨g, 0, none⟩) ly.length c, .bool true]) ∧ ly.length ≤ c ∧ c ≤ maxLen ∧ W.heap.size ≤ g ∧ g < w'.heap.size ∧ (∀ i, i < ly.length → w'.cell? ⟨g, i, none⟩ = some (.int .u8 ((ly.getD i 0).toNat : Int))) ∧ Below w.heap.size w w' ∧ Below W.heap.size W w') :
    Calls Tryd.prog 3 #[.agg #[.int .i64 k1, .int .i64 n1, .string s1], .agg #[.int .i64 k2, .int .i64 n2, .string s2]] w fun e w' => e = .returned (.bool true) ∧ Below w.heap.size w w' := by
  have HA := hid h2.alive
  have HL1 := hid h2.long1
  have HL2 := hid h2.long2
  have HR1 := hid h2.right1
  have HR2 := hid h2.right2
  have HB := hid (below2 w)
  have HO := hid hO
  have HE1 := hid hE1
  have HE2 := hid hE2
  have HEnd := hid hend
  have HLev := hid hlev
  have HX := hid hlx
  have HY := hid hly
  clear h2 hO hE1 hE2 hend hlev hlx hly
  obtain ⟨N1, hN1⟩ : ∃ N, lx.length = N := ⟨_, rfl⟩
  obtain ⟨N2, hN2⟩ : ∃ N, ly.length = N := ⟨_, rfl⟩
  rw [hN1] at HE1 HEnd HX
  rw [hN2] at HE2 HEnd HY
  have HN1 := hid hN1
  have HN2 := hid hN2
  clear hN1 hN2
  go_enter Tryd.func3, Tryd.ntmps3
  go_wp2_with (first
    | (go_at_call 12; refine (HA.out _ (HB.out _ _)).mono ?_; rintro e w1 ⟨rfl, hbw1, hb1⟩
       have HA1 := hid (((Agg3.new w k1 n1 s1 23).alloc _).below hb1)
       have HB1 := hid ((Agg3.new' (w.alloc _) (w.heap.size + 1) (by simp) k2 n2 s2 23).below hb1)
       obtain ⟨_, a0, a1, a2⟩ := HA1.out)
    | (go_at_call 13; ((with_reducible refine (HL1.out _ hbw1).mono ?_); rintro e w2 ⟨rfl, hbw2, hb2⟩; have HA2 := hid (HA1.out.below hb2); have HB2 := hid (HB1.out.below hb2); obtain ⟨_, b0, b1, b2⟩ := HB2.out))
    | (go_at_call 13; ((with_reducible refine (HL2.out _ hbw2).mono ?_); rintro e w3 ⟨rfl, hbw3, hb3⟩; have HA3 := hid (HA2.out.below hb3); have HB3 := hid (HB2.out.below hb3); obtain ⟨_, c0, c1, c2⟩ := HA3.out))
    | (go_at_call 14; ((with_reducible refine (HR1.out _ hbw3).mono ?_); rintro e w4 ⟨rfl, hbw4, hb4⟩; have HA4 := hid (HA3.out.below hb4); have HB4 := hid (HB3.out.below hb4); obtain ⟨_, d0, d1, d2⟩ := HB4.out))
    | (go_at_call 14; ((with_reducible refine (HR2.out _ hbw4).mono ?_); rintro e w5 ⟨rfl, hbw5, hb5⟩; have HA5 := hid (HA4.out.below hb5); have HB5 := hid (HB4.out.below hb5); obtain ⟨_, e0, e1, e2⟩ := HA5.out))
    | (go_at_call 15; ((with_reducible refine (HE1.out _ hbw5).mono ?_); rintro e w6 ⟨g1, q1, rfl, hq1, hm1, hg1, hg1', hx1, hbw6, hb6⟩; have HG1 := hid hx1; clear hx1; have HA6 := hid (HA5.out.below hb6); have HB6 := hid (HB5.out.below hb6); obtain ⟨_, f0, f1, f2⟩ := HB6.out))
    | (go_at_call 15; ((with_reducible refine (HE2.out _ hbw6).mono ?_); rintro e w7 ⟨g2, q2, rfl, hq2, hm2, hg2, hg2', hx2, hbw7, hb7⟩; have HG2 := hid hx2; clear hx2; have HA7 := hid (HA6.out.below hb7); have HB7 := hid (HB6.out.below hb7))))
  have HG1' : Hid (∀ i, i < N1 → w7.cell? ⟨g1, i, none⟩ = some (.int .u8 ((lx.getD i 0).toNat : Int))) := fun i hi => (hb7.cell (p := ⟨g1, i, none⟩) hg1').trans (HG1.out i hi)
  have HC1 := hid hq1
  have HC2 := hid hq2
  have HM1 := hid hm1
  have HM2 := hid hm2
  clear HA1 HB1 HA2 HB2 HA3 HB3 HA4 HB4 HA5 HB5 HA6 HB6 HG1 a0 a1 a2 b0 b1 b2 c0 c1 c2 d0 d1 d2 e0 e1 e2 f0 f1 f2 hb1 hb2 hb3 hb4 hb5 hb6 hb7 hbw1 hbw2 hbw3 hbw4 hbw5 hbw6 hg1 hg1' hg2 hg2' hq1 hq2 hm1 hm2 HE1 HE2 HR1 HR2 HL1 HL2 HA
  go_loopw [9] (fun vi wr => ByInv lx ly o w7 vi wr) (fun vi _ => N1 - (intOf vi).toNat)
  case atStart => exact ⟨0, 0, Nat.zero_le _, Nat.zero_le _, rfl, rfl, HLev.out⟩
  case round =>
    obtain ⟨i, m, hi1, hi2, rfl, rfl, hl⟩ := hrel
    have HI1 : i ≤ N1 := HN1.out ▸ hi1
    have HI2 : i ≤ N2 := HN2.out ▸ hi2
    have hX := HX.out
    have hY := HY.out
    have hq1 := HC1.out
    have hq2 := HC2.out
    have hm1 := HM1.out
    have hm2 := HM2.out
    unfold maxLen at hm1 hm2
    clear hi1 hi2
    by_cases hlt : i < N1 ∧ i < N2
    · obtain ⟨h1, h2⟩ := hlt
      have c1 := HG1'.out i h1
      have c2 := HG2.out i h2
      obtain ⟨x, hx⟩ : ∃ x, (lx.getD i 0).toNat = x := ⟨_, rfl⟩
      obtain ⟨y, hy⟩ : ∃ y, (ly.getD i 0).toNat = y := ⟨_, rfl⟩
      rw [hx] at c1
      rw [hy] at c2
      by_cases hxy : x = y
      · have HL' := hid (hl.eq (by rw [HN1.out]; exact h1) (by rw [HN2.out]; exact h2) (by rw [hx, hy]; exact hxy))
        subst hxy
        clear hl hx hy
        go_wp2
        go_quiet (fail)
        go_wp2
        go_roundw
        case rel => exact ⟨i + 1, _, by rw [HN1.out]; omega, by rw [HN2.out]; omega, by go_num, rfl, HL'.out⟩
        case measure => simp [intOf]; omega
      · have hsel : (x < y ∧ o = -1) ∨ (y < x ∧ o = 1) := by
          rcases Nat.lt_or_gt_of_ne hxy with h | h
          · exact .inl ⟨h, hl.lt (by rw [HN1.out]; exact h1) (by rw [HN2.out]; exact h2) (by rw [hx, hy]; exact h)⟩
          · exact .inr ⟨h, hl.gt (by rw [HN1.out]; exact h1) (by rw [HN2.out]; exact h2) (by rw [hx, hy]; exact h)⟩
        have hne : ((x : Int) != (y : Int)) = true := by simp; omega
        have HS := hid (six_mk hbw7 HA7.out HB7.out c1 c2)
        clear hl hx hy hxy
        rcases hsel with ⟨hxy, rfl⟩ | ⟨hxy, rfl⟩
        · have hd : decide (x < y) = true := decide_eq_true hxy
          go_wp2
          go_quiet (fail)
          go_wp2
          go_region_held3 (fun w' => Hid (Below w.heap.size w w' ∧ w.heap.size + 1 < w'.heap.size ∧ g1 < w'.heap.size ∧ g2 < w'.heap.size) ∧ w'.cell? ⟨w.heap.size, 0, none⟩ = some (.int .i64 k1) ∧ w'.cell? ⟨w.heap.size, 1, none⟩ = some (.int .i64 n1) ∧ w'.cell? ⟨w.heap.size, 2, none⟩ = some (.string s1) ∧ w'.cell? ⟨w.heap.size + 1, 0, none⟩ = some (.int .i64 k2) ∧ w'.cell? ⟨w.heap.size + 1, 1, none⟩ = some (.int .i64 n2) ∧ w'.cell? ⟨w.heap.size + 1, 2, none⟩ = some (.string s2) ∧ w'.cell? ⟨g1, i, none⟩ = some (.int .u8 x) ∧ w'.cell? ⟨g2, i, none⟩ = some (.int .u8 y))
            (first | exact six_call (six_drewN HS.out _) hbo | exact six_call (w := w) (k1 := k1) (n1 := n1) (s1 := s1) (k2 := k2) (n2 := n2) (s2 := s2) (g1 := g1) (g2 := g2) (i := i) (x := (x : Int)) (y := (y : Int)) (by assumption) hbo | exact six_drew (six_drewN (six_drewN HS.out _) _) | exact six_drewN HS.out _ | exact six_drew (w := w) (k1 := k1) (n1 := n1) (s1 := s1) (k2 := k2) (n2 := n2) (s2 := s2) (g1 := g1) (g2 := g2) (i := i) (x := (x : Int)) (y := (y : Int)) (by assumption) | assumption)
            (first
              | (go_at_call 16; ((with_reducible refine (HO.out _ ?_).mono ?_); (first | exact six_below (six_drewN HS.out _) | exact six_below (w := w) (k1 := k1) (n1 := n1) (s1 := s1) (k2 := k2) (n2 := n2) (s2 := s2) (g1 := g1) (g2 := g2) (i := i) (x := (x : Int)) (y := (y : Int)) (by assumption)); rintro e w8 ⟨rfl, hbo⟩)))
          go_wp2
          go_ret
          exact ⟨rfl, six_below (w := w) (k1 := k1) (n1 := n1) (s1 := s1) (k2 := k2) (n2 := n2) (s2 := s2) (g1 := g1) (g2 := g2) (i := i) (x := (x : Int)) (y := (y : Int)) (by assumption)⟩
        · have hd : decide (x < y) = false := decide_eq_false (by omega)
          have hd2 : ¬ x < y := by omega
          go_wp2
          go_quiet (fail)
          go_wp2
          go_region_held3 (fun w' => Hid (Below w.heap.size w w' ∧ w.heap.size + 1 < w'.heap.size ∧ g1 < w'.heap.size ∧ g2 < w'.heap.size) ∧ w'.cell? ⟨w.heap.size, 0, none⟩ = some (.int .i64 k1) ∧ w'.cell? ⟨w.heap.size, 1, none⟩ = some (.int .i64 n1) ∧ w'.cell? ⟨w.heap.size, 2, none⟩ = some (.string s1) ∧ w'.cell? ⟨w.heap.size + 1, 0, none⟩ = some (.int .i64 k2) ∧ w'.cell? ⟨w.heap.size + 1, 1, none⟩ = some (.int .i64 n2) ∧ w'.cell? ⟨w.heap.size + 1, 2, none⟩ = some (.string s2) ∧ w'.cell? ⟨g1, i, none⟩ = some (.int .u8 x) ∧ w'.cell? ⟨g2, i, none⟩ = some (.int .u8 y))
            (first | exact six_call (six_drewN HS.out _) hbo | exact six_call (w := w) (k1 := k1) (n1 := n1) (s1 := s1) (k2 := k2) (n2 := n2) (s2 := s2) (g1 := g1) (g2 := g2) (i := i) (x := (x : Int)) (y := (y : Int)) (by assumption) hbo | exact six_drew (six_drewN (six_drewN HS.out _) _) | exact six_drewN HS.out _ | exact six_drew (w := w) (k1 := k1) (n1 := n1) (s1 := s1) (k2 := k2) (n2 := n2) (s2 := s2) (g1 := g1) (g2 := g2) (i := i) (x := (x : Int)) (y := (y : Int)) (by assumption) | assumption)
            (first
              | (go_at_call 16; ((with_reducible refine (HO.out _ ?_).mono ?_); (first | exact six_below (six_drewN HS.out _) | exact six_below (w := w) (k1 := k1) (n1 := n1) (s1 := s1) (k2 := k2) (n2 := n2) (s2 := s2) (g1 := g1) (g2 := g2) (i := i) (x := (x : Int)) (y := (y : Int)) (by assumption)); rintro e w8 ⟨rfl, hbo⟩)))
          go_wp2
          go_ret
          exact ⟨rfl, six_below (w := w) (k1 := k1) (n1 := n1) (s1 := s1) (k2 := k2) (n2 := n2) (s2 := s2) (g1 := g1) (g2 := g2) (i := i) (x := (x : Int)) (y := (y : Int)) (by assumption)⟩
    · have ho : o = 0 := hl.stop (by rw [HN1.out, HN2.out]; omega)
      subst ho
      have hNN := HEnd.out rfl
      subst hNN
      obtain rfl : i = N1 := by omega
      clear hl hlt
      obtain ⟨_, b0, b1, b2⟩ := HB7.out
      obtain ⟨_, a0, a1, a2⟩ := HA7.out
      go_wp2_with (go_at_call 16; ((with_reducible refine (HO.out _ (below_drewN hbw7 _)).mono ?_); rintro e w8 ⟨rfl, hb8⟩))
      go_ret
      exact ⟨rfl, (below_drewN hbw7 _).trans (hb8.mono (by have := hbw7.size; simp; omega))⟩

/-- The law ValBytes, whatever the values. -/
theorem vbytes_walk {k1 n1 k2 n2 : Int} (hn1 : inI n1) (hn2 : inI n2) (s1 s2 : ByteArray) (hs1 : s1.size ≤ 9223372036854775807) (hs2 : s2.size ≤ 9223372036854775807) (w : World) (hL : LaidIn w) :
    Calls Tryd.prog 3 #[.agg #[.int .i64 k1, .int .i64 n1, .string s1], .agg #[.int .i64 k2, .int .i64 n2, .string s2]] w fun e w' => e = .returned (.bool true) ∧ Below w.heap.size w w' := by
  have h2 : TwoR w k1 n1 s1 k2 n2 s2 _ _ _ _ := twoR_any hn1 hn2 s1 s2 hs1 hs2 w hL
  cases hl1 : decide (500 < s1.size)
  · cases hl2 : decide (500 < s2.size)
    · cases hr1 : vRight k1 n1 s1.data.toList
      · exact bytes_early s1 s2 w _ _ _ _ h2 (.inr (.inr (.inl ⟨hl1, hl2, hr1⟩)))
      · cases hr2 : vRight k2 n2 s2.data.toList
        · exact bytes_early s1 s2 w _ _ _ _ h2 (.inr (.inr (.inr ⟨hl1, hl2, hr1, hr2⟩)))
        · rw [hl1, hl2, hr1, hr2] at h2
          exact bytes_main s1 s2 w h2 (vEnc k1 n1 s1.data.toList) (vEnc k2 n2 s2.data.toList) (vOrd k1 n1 s1.data.toList k2 n2 s2.data.toList) (by have := enc_small hr1; omega) (by have := enc_small hr2; omega) (Lev.start hn1 hn2 hr1 hr2)
            (fun h0 => by obtain ⟨e1, e2, e3⟩ := (vOrd_one hn1 hn2 hr1 hr2).1 h0; rw [e1, e2, e3]) (fun W _ => vorder_any k1 k2 hn1 hn2 s1 s2 W) (fun W hW => enc_row k1 hn1 s1 hs1 hr1 w hL W hW) (fun W hW => enc_row k2 hn2 s2 hs2 hr2 w hL W hW)
    · exact bytes_early s1 s2 w _ _ _ _ h2 (.inr (.inl ⟨hl1, hl2⟩))
  · exact bytes_early s1 s2 w _ _ _ _ h2 (.inl hl1)

end Go.Proofs.YtgahljgmgdjjdaaDoor
