/- Several texts in one: TJ TT TU TV TW. Conditions: as each theorem names them. -/
import Derived.Test.YtjbjdkginemedaaGreatDoorQT1
import Derived.Test.YtjbjdkginemedaaGreatDoorQD
import Derived.Test.YtjbjdkginemedaaGreatDoorQE1
import Derived.Test.YtjbjdkginemedaaGreatDoorNR
import Derived.Test.YtjbjdkginemedaaGreatDoorQT2
import Derived.Maps.AppendAt
/- (*table.Table).look at a block that is as the index tells. Conditions: the table, its bytes and the key stand outside the table's own block; right cells in order, 120 at most; the tables of utf8 read as they are laid. -/
namespace Go.Proofs.YtjbjdkginemedaaGreatDoor
open Go.RowKit

theorem but_go {n t : Nat} {w W W' : World} (h : But n t w W) (hn : n ≤ W.heap.size) (hb : Below W.heap.size W W') : But n t w W' := h.trans (But.of_below (hb.mono hn) t)
/-- What stands while the frame is taken. -/
abbrev LkS (W1 : World) (t eb : Nat) (vb : Value) (pl : Nat) (W : World) : Prop :=
  Hid (Below W1.heap.size W1 W ∧ t < W1.heap.size ∧ eb < W1.heap.size) ∧ W.cell? ⟨t, 0, none⟩ = some vb ∧ W.cell? ⟨eb, 9, none⟩ = some (.int .i64 (pl : Int))
theorem lk_drew {W1 W : World} {t eb pl : Nat} {vb : Value} (h : LkS W1 t eb vb pl W) : LkS W1 t eb vb pl W.drew := ⟨⟨h.1.out.1.drew, h.1.out.2⟩, h.2⟩
theorem lk_call {W1 W W' : World} {t eb pl : Nat} {vb : Value} (h : LkS W1 t eb vb pl W) (hb : Below W.heap.size W W') : LkS W1 t eb vb pl W' := by
  obtain ⟨⟨h1, h2, h3⟩, h4, h5⟩ := h
  exact ⟨⟨h1.trans (hb.mono h1.size), h2, h3⟩, (hb.cell (p := ⟨t, 0, none⟩) (cell_lt h4)).trans h4, (hb.cell (p := ⟨eb, 9, none⟩) (cell_lt h5)).trans h5⟩
theorem lk_but {w W1 W : World} {t eb pl : Nat} {vb : Value} (h0 : But w.heap.size t w W1) (hn : w.heap.size ≤ W1.heap.size) (h : LkS W1 t eb vb pl W) : But w.heap.size t w W := but_go h0 hn h.1.out.1
theorem cut_frame {bl rr : List UInt8} {x : List UInt8} {pl : Nat} (h : bl.drop pl = frameM x ++ rr) : bl.length - pl = (frameM x ++ rr).length := by rw [← h, List.length_drop]

set_option maxRecDepth 100000 in
set_option maxHeartbeats 16000000 in
theorem tlook_any (t : Nat) (b0 off bc : Nat) (vi : Value) (k : Nat) (hk : k < 4611686018427387904) (bl rr : List UInt8) (p : List CT) (pl : Nat) (c0 : CT) (hc0 : p[0]? = some c0) (A1 : Option Addr) (c1 : Nat)
    (hbl : bl.drop pl = frameM (blockB p) ++ rr) (hpl : pl ≤ bl.length) (hlen : bl.length ≤ 1000000) (hp : p.length ≤ 120) (hB : ∀ c ∈ p, Bc c) (hf : fineK [] p = true) (K : CT) (w : World)
    (ht : Blk w t 92 #[.slice (some ⟨b0, off, none⟩) bl.length bc, vi, .int .i64 k]) (hb : Sx w t (.slice (some ⟨b0, off, none⟩) bl.length bc) bl) (hkey : Sx w t (.slice A1 (keyL c0).length c1) (keyL c0)) (hL : ∀ W, But w.heap.size t w W → LaidU W) :
    Calls Tryz.prog 135 #[.pointer (some ⟨t, 0, none⟩), .agg (entW K (.slice A1 (keyL c0).length c1) pl)] w fun e w' => ∃ v, e = .returned (.tuple #[v, .bool true]) ∧ But w.heap.size t w w' ∧ Blk w' t 92 #[.slice (some ⟨b0, off, none⟩) bl.length bc, vi, .int .i64 ((k + 1 : Nat) : Int)] ∧ CRow w' w.heap.size v p := by
  have mixed : Tryz.prog.follows .mixedOrders = true := by kernel_rfl
  have hcut := cut_frame hbl
  have hblk : (blockB p).length ≤ 50000 := block_len hB (by omega)
  have hcm := List.mem_of_getElem? hc0
  have hp0 : 0 < p.length := (List.getElem?_eq_some_iff.1 hc0).1
  obtain ⟨_, hb1, hb2, _, hb4⟩ := hb.holds
  have hfl5 := frame_len (blockB p)
  obtain ⟨bn, hbn⟩ : ∃ bn, bl.length = bn := ⟨_, rfl⟩
  obtain ⟨fl, hfl⟩ : ∃ fl, (frameM (blockB p)).length = fl := ⟨_, rfl⟩
  obtain ⟨kl, hkl⟩ : ∃ kl, (keyL c0).length = kl := ⟨_, rfl⟩
  obtain ⟨P, hP⟩ : ∃ P, p.length = P := ⟨_, rfl⟩
  have happ : (frameM (blockB p) ++ rr).length = fl + rr.length := by rw [List.length_append, hfl]
  rw [hbn] at hb ht hpl hlen hcut hb1
  have HSx : Hid (∀ W, But w.heap.size t w W → SlA W (.slice (some ⟨b0, off + pl, none⟩) (bn - pl) (bc - pl)) (frameM (blockB p) ++ rr)) := fun W hW => by
    obtain ⟨_, _, _, _, h5⟩ := (hb.but hW).holds
    refine ⟨_, _, by rw [hcut], by omega, by omega, fun h0 => ?_, fun h => by cases h⟩
    obtain ⟨b', o', e, h6⟩ := h5 (by omega)
    injection e with e; injection e with e1 e2 e3
    subst e1 e2
    exact ⟨b0, off + pl, rfl, by rw [← hbl]; exact h6.drop pl⟩
  have HFr : Hid (∀ W, But w.heap.size t w W → Calls Tryz.prog 163 #[.slice (some ⟨b0, off + pl, none⟩) (bn - pl) (bc - pl)] W fun e w' => e = .returned (.slice (some ⟨b0, off + pl, none⟩) fl (bc - pl)) ∧ Below W.heap.size W w') := fun W hW => by
    have h1 := HSx.out W hW
    rw [hcut] at h1 ⊢
    have h2 := framein_any _ _ (blockB p) rr (by omega) W h1
    rw [hfl] at h2
    exact h2
  have HNx : Hid (∀ W, But w.heap.size t w W → Calls Tryz.prog 70 #[.slice (some ⟨b0, off + pl, none⟩) fl (bc - pl)] W fun e w' => ∃ v1 v2, e = .returned (.tuple #[v1, v2, .int .i64 0]) ∧ Hid (SlA w' v1 (blockB p)) ∧ Below W.heap.size W w') := fun W hW => by
    obtain ⟨A', c', e', g1, g2, g3, _⟩ := HSx.out W hW
    injection e' with q1 q2 q3
    subst q1 q3
    have h1 : SlA W (.slice (some ⟨b0, off + pl, none⟩) fl (bc - pl)) (frameM (blockB p)) := by
      refine ⟨_, _, by rw [hfl], by omega, g2, fun h0 => ?_, fun h => by cases h⟩
      obtain ⟨b', o', e, h6⟩ := g3 (by omega)
      injection e with e; injection e with e1 e2 e3
      subst e1 e2
      refine ⟨b0, off + pl, rfl, ?_⟩
      have h7 := holds_take h6 fl
      rwa [← hfl, List.take_left] at h7
    have h2 := next_any _ _ (by omega) W h1
    have h3 := next_frame (blockB p) [] (by omega)
    rw [List.append_nil] at h3
    rw [h3] at h2
    exact h2.mono fun e w' ⟨v1, v2, e1, e2, _, e4⟩ => ⟨v1, v2, e1, e2, e4⟩
  have HPa : Hid (∀ W v, But w.heap.size t w W → SlA W v (blockB p) → Calls Tryz.prog 20 #[v] W fun e w' => ∃ g cp, e = .returned (.tuple #[.slice (some ⟨g, 0, none⟩) P cp, .bool true]) ∧ Hid (CRow w' W.heap.size (.slice (some ⟨g, 0, none⟩) P cp) p ∧ Below W.heap.size W w')) := fun W v hW hv => by
    refine (parse_sla v (blockB p) (by omega) W hv (hL W hW)).mono fun e w' ⟨hbel, hx⟩ => ?_
    rcases hx with ⟨u, cs, e1, e2, e3, e4, e5, e6⟩ | ⟨_, hno⟩
    · obtain rfl := block_same e5 (by omega) e3 hB e4 hf e6
      have e2b := e2
      rcases e2.2 with ⟨_, hz⟩ | ⟨g, cap, cur, e, _⟩
      · omega
      · subst e
        rw [hP] at e1 e2b
        exact ⟨g, cap, e1, e2b, hbel⟩
    · exact absurd rfl (hno p hB hf (by omega))
  have HKy : Hid (∀ W, But w.heap.size t w W → Calls Tryz.prog 39 #[c0.v] W fun e w' => ∃ Ak ck, e = .returned (.tuple #[.slice Ak kl ck, .bool true]) ∧ Hid (HoldsA w' Ak (keyL c0) ∧ Below W.heap.size W w')) := fun W hW => by
    refine (keyc_yes c0 (bc_ok (hB c0 hcm)) (hB c0 hcm).1 W (hL W hW)).mono fun e w' ⟨v, he, hr, hb⟩ => ?_
    obtain ⟨Ak, ck, rfl, _, _, hh, _⟩ := hr.sla
    rw [hkl] at he
    exact ⟨Ak, ck, he, hh, hb⟩
  have HE : Hid (∀ W A ck, But w.heap.size t w W → HoldsA W A (keyL c0) → Calls Tryz.prog 118 #[.slice A kl ck, .slice A1 kl c1] W fun e w' => e = .returned (.bool true) ∧ w' = W) := fun W A ck hW hA => by
    rw [← hkl]
    refine (equal_any A A1 ck c1 _ _ W hA (hkey.but hW).holds.2.2.2.2).mono fun e w' ⟨e1, e2⟩ => ⟨by rw [e1]; simp, e2⟩
  have htl : t < w.heap.size := ht.lt
  obtain ⟨k1, hk1⟩ : ∃ k1, k + 1 = k1 := ⟨_, rfl⟩
  have hkw : IntKind.i64.wrap ((k : Int) + 1) = (k1 : Int) := by rw [IntKind.wrap_i64]; omega
  have hkz : (k : Int) + 1 = (k1 : Int) := by omega
  have hkw2 : IntKind.i64.wrap (k1 : Int) = (k1 : Int) := by rw [IntKind.wrap_i64]; omega
  have hz1 : (0 : Int) ≤ (pl : Int) := by omega
  have hz2 : (pl : Int) ≤ (bn : Int) := by omega
  have hz3 : pl ≤ bn := hpl
  have hz4 : bn ≤ bc := hb1
  have hz5 : ¬ (bc = pl) := by omega
  have hP0 : (0 : Int) < (P : Int) := by omega
  have hP1 : 0 < P := by omega
  rw [hbn, hkl, hk1]
  rw [hkl] at hkey
  have HC0 := hid hc0
  have HW0 : Hid (Blk (w.alloc (.cells (entW K (.slice A1 kl c1) pl) 106)) t 92 #[.slice (some ⟨b0, off, none⟩) bn bc, vi, .int .i64 k] ∧ Blk (w.alloc (.cells (entW K (.slice A1 kl c1) pl) 106)) w.heap.size 106 (entW K (.slice A1 kl c1) pl) ∧ But w.heap.size t w (w.alloc (.cells (entW K (.slice A1 kl c1) pl) 106))) := ⟨ht.keep (below_new _ _) ht.lt, Blk.new _ _ _, But.of_below (below_new _ _) t⟩
  have x0 := HW0.out.1.cell 0
  have x1 := HW0.out.1.cell 1
  have x2 := HW0.out.1.cell 2
  have fx : ∀ j, (w.alloc (.cells (entW K (.slice A1 kl c1) pl) 106)).frozen? ⟨t, j, none⟩ = false := fun j => HW0.out.1.free j
  have HT := hid ht
  clear ht hb hkey hL hbl hpl hlen hp hB hf hc0 hcut hblk hcm hp0 hb1 hb2 hb4 hfl5 hbn hfl hkl hP happ hk hk1
  go_enter Tryz.func135, Tryz.ntmps135
  go_upto_region 2 with (fail)
  have HW1 : Hid (Blk ((w.setCell ⟨t, 2, none⟩ (.int .i64 k1)).alloc (.cells (entW K (.slice A1 kl c1) pl) 106)) t 92 #[.slice (some ⟨b0, off, none⟩) bn bc, vi, .int .i64 k1] ∧ Blk ((w.setCell ⟨t, 2, none⟩ (.int .i64 k1)).alloc (.cells (entW K (.slice A1 kl c1) pl) 106)) w.heap.size 106 (entW K (.slice A1 kl c1) pl) ∧ But w.heap.size t w ((w.setCell ⟨t, 2, none⟩ (.int .i64 k1)).alloc (.cells (entW K (.slice A1 kl c1) pl) 106)) ∧ w.heap.size < ((w.setCell ⟨t, 2, none⟩ (.int .i64 k1)).alloc (.cells (entW K (.slice A1 kl c1) pl) 106)).heap.size) := by
    have e : (w.setCell ⟨t, 2, none⟩ (.int .i64 k1)).heap.size = w.heap.size := by simp [World.setCell]
    have h1 := HT.out.set 2 (.int .i64 k1)
    have h2 := Blk.new (w.setCell ⟨t, 2, none⟩ (.int .i64 k1)) 106 (entW K (.slice A1 kl c1) pl)
    rw [e] at h2
    exact ⟨h1.keep (below_new _ _) h1.lt, h2, ((But.refl _ _ _).setCell 2 _).alloc (by rw [e]; exact Nat.le_refl _) _, by simp [World.setCell]⟩
  obtain ⟨W1, hW1⟩ : ∃ W1, ((w.setCell ⟨t, 2, none⟩ (.int .i64 k1)).alloc (.cells (entW K (.slice A1 kl c1) pl) 106)) = W1 := ⟨_, rfl⟩
  rw [hW1] at HW1 ⊢
  clear hW1 x0 x1 x2 fx HW0
  have x0 := HW1.out.1.cell 0
  have x1 := HW1.out.1.cell 1
  have x2 := HW1.out.1.cell 2
  obtain ⟨z0, z1, z2, z3, z4, z5, z6, z7, z8, z9⟩ := ent_words HW1.out.2.1
  have HT0 : Hid (LkS W1 t w.heap.size (.slice (some ⟨b0, off, none⟩) bn bc) pl W1) := ⟨⟨Below.refl _ _, HW1.out.1.lt, HW1.out.2.2.2⟩, x0, z9⟩
  have HB1 : Hid (∀ W, LkS W1 t w.heap.size (.slice (some ⟨b0, off, none⟩) bn bc) pl W → But w.heap.size t w W) := fun W h => lk_but HW1.out.2.2.1 (Nat.le_of_lt HW1.out.2.2.2) h
  clear x1 x2 z0 z1 z2 z3 z4 z5 z6 z7 z8 hkw hkz hkw2
  go_region_held3 (fun W' => Hid (Below W1.heap.size W1 W' ∧ t < W1.heap.size ∧ w.heap.size < W1.heap.size) ∧ W'.cell? ⟨t, 0, none⟩ = some (.slice (some ⟨b0, off, none⟩) bn bc) ∧ W'.cell? ⟨w.heap.size, 9, none⟩ = some (.int .i64 (pl : Int)))
    (first | exact HT0.out | exact lk_drew HT0.out | exact lk_call (by assumption) hb5 | exact lk_drew (by assumption) | assumption)
    (first
      | (go_at_call 163; refine (HFr.out _ ?_).mono ?_; (first | exact HB1.out _ (by assumption) | exact HB1.out _ HT0.out | exact HB1.out _ (lk_drew HT0.out)); rintro e w5 ⟨rfl, hb5⟩)
      | (go_at_call 70; refine (HNx.out _ ?_).mono ?_; (first | exact HB1.out _ (by assumption) | exact HB1.out _ HT0.out | exact HB1.out _ (lk_drew HT0.out)); rintro e w6 ⟨v1, v2, rfl, HS3, hb5⟩))
  rename_i hLast
  have H6 : Hid (But w.heap.size t w w6 ∧ Blk w6 t 92 #[.slice (some ⟨b0, off, none⟩) bn bc, vi, .int .i64 k1] ∧ Blk w6 w.heap.size 106 (entW K (.slice A1 kl c1) pl) ∧ w.heap.size < w6.heap.size) := by
    have hb := hLast.1.out.1
    exact ⟨but_go HW1.out.2.2.1 (Nat.le_of_lt HW1.out.2.2.2) hb, HW1.out.1.keep hb HW1.out.1.lt, HW1.out.2.1.keep hb HW1.out.2.1.lt, Nat.lt_of_lt_of_le HW1.out.2.2.2 hb.size⟩
  clear hLast HB1 HT0 x0 z9 HNx HFr HSx HW1
  go_upto_region 8 with (go_at_call 20; refine (HPa.out _ _ H6.out.1 HS3.out).mono ?_; rintro e w7 ⟨g, cp, rfl, h7⟩; have H7 : Hid (But w.heap.size t w w7 ∧ Blk w7 t 92 #[.slice (some ⟨b0, off, none⟩) bn bc, vi, .int .i64 k1] ∧ Blk w7 w.heap.size 106 (entW K (.slice A1 kl c1) pl) ∧ w.heap.size < w7.heap.size) := ⟨but_go H6.out.1 (Nat.le_of_lt H6.out.2.2.2) h7.out.2, H6.out.2.1.keep h7.out.2 H6.out.2.1.lt, H6.out.2.2.1.keep h7.out.2 H6.out.2.2.1.lt, Nat.lt_of_lt_of_le H6.out.2.2.2 h7.out.2.size⟩; have HC7 := hid (h7.out.1.le (Nat.le_of_lt H6.out.2.2.2)); clear h7)
  have a := ct_words HC7.out.hc 0 HC0.out
  rw [Nat.zero_mul, Nat.add_zero] at a
  obtain ⟨a0, a1, a2, a3, a4, a5, a6, a7⟩ := a
  go_upto_region 9 with (go_at_call 39; refine (HKy.out _ H7.out.1).mono ?_; rintro e w8 ⟨Ak, ck, rfl, h8⟩; have H8 : Hid (But w.heap.size t w w8 ∧ Blk w8 t 92 #[.slice (some ⟨b0, off, none⟩) bn bc, vi, .int .i64 k1] ∧ Blk w8 w.heap.size 106 (entW K (.slice A1 kl c1) pl)) := ⟨but_go H7.out.1 (Nat.le_of_lt H7.out.2.2.2) h8.out.2, H7.out.2.1.keep h8.out.2 H7.out.2.1.lt, H7.out.2.2.1.keep h8.out.2 H7.out.2.2.1.lt⟩; have HC8 := hid (HC7.out.below h8.out.2); have HK8 := hid h8.out.1; clear h8)
  clear a0 a1 a2 a3 a4 a5 a6 a7
  have z0 := (ent_words H8.out.2.2).1
  go_wp2_with (go_at_call 118; refine (HE.out _ _ _ H8.out.1 HK8.out).mono ?_; rintro e w9 ⟨rfl, rfl⟩)
  go_ret2
  exact ⟨_, rfl, H8.out.1, H8.out.2.1, HC8.out⟩
end Go.Proofs.YtjbjdkginemedaaGreatDoor

/- Table's Blocks and Looked; what gather gathers (mathematics). Conditions: the table stands. -/
namespace Go.Proofs.YtjbjdkginemedaaGreatDoor
open Go.RowKit

theorem blocks_any (t : Nat) (vb : Value) (A : Option Addr) (n cap : Nat) (k : Int) (w : World) (ht : Blk w t 92 #[vb, .slice A n cap, .int .i64 k]) :
    Calls Tryz.prog 35 #[.pointer (some ⟨t, 0, none⟩)] w fun e w' => e = .returned (.int .i64 (n : Int)) ∧ w' = w := by
  have x1 := ht.cell 1
  clear ht
  go_enter Tryz.func35, Tryz.ntmps35
  go_wp2_with (fail)
  go_ret
  exact ⟨rfl, rfl⟩
theorem looked_any (t : Nat) (vb vi : Value) (k : Int) (w : World) (ht : Blk w t 92 #[vb, vi, .int .i64 k]) :
    Calls Tryz.prog 34 #[.pointer (some ⟨t, 0, none⟩)] w fun e w' => e = .returned (.int .i64 k) ∧ w' = w := by
  have x2 := ht.cell 2
  clear ht
  go_enter Tryz.func34, Tryz.ntmps34
  go_wp2_with (fail)
  go_ret
  exact ⟨rfl, rfl⟩

/-- What a block's cells add to what is gathered. -/
def gathIn (f : CT → Bool) (most : Int) : List CT → List CT → List CT
  | [], acc => acc
  | c :: p, acc => gathIn f most p (if (acc.length : Int) < most ∧ f c = true then acc ++ [c] else acc)
/-- What is gathered of blocks, and how many were looked at. -/
def gath (f : CT → Bool) (most : Int) : List (List CT) → List CT → List CT × Nat
  | [], acc => (acc, 0)
  | p :: ps, acc => if most ≤ (acc.length : Int) then (acc, 0) else ((gath f most ps (gathIn f most p acc)).1, (gath f most ps (gathIn f most p acc)).2 + 1)
theorem gathIn_take (f : CT → Bool) (m : Nat) : ∀ (p acc : List CT), acc.length ≤ m → gathIn f m p acc = (acc ++ p.filter f).take m ∧ (gathIn f m p acc).length ≤ m
  | [], acc, h => by
    refine ⟨?_, h⟩
    show acc = (acc ++ [].filter f).take m
    rw [List.filter_nil, List.append_nil, List.take_of_length_le h]
  | c :: p, acc, h => by
    show gathIn f m p _ = _ ∧ (gathIn f m p _).length ≤ m
    by_cases hf : f c = true
    · rw [List.filter_cons_of_pos hf]
      by_cases hl : (acc.length : Int) < m
      · rw [if_pos ⟨hl, hf⟩]
        have h1 := gathIn_take f m p (acc ++ [c]) (by rw [List.length_append, List.length_singleton]; omega)
        rw [List.append_assoc] at h1
        exact h1
      · rw [if_neg (fun h => hl h.1)]
        have h1 := gathIn_take f m p acc h
        refine ⟨?_, h1.2⟩
        rw [h1.1, List.take_append_of_le_length (by omega), List.take_append_of_le_length (by omega)]
    · rw [if_neg (fun h => hf h.2), List.filter_cons_of_neg hf]
      exact gathIn_take f m p acc h
theorem gath_take (f : CT → Bool) (m : Nat) : ∀ (ps : List (List CT)) (acc : List CT), acc.length ≤ m → (gath f m ps acc).1 = (acc ++ ps.flatten.filter f).take m
  | [], acc, h => by
    show acc = (acc ++ [].filter f).take m
    rw [List.filter_nil, List.append_nil, List.take_of_length_le h]
  | p :: ps, acc, h => by
    by_cases hl : (m : Int) ≤ (acc.length : Int)
    · unfold gath
      rw [if_pos hl, List.take_append_of_le_length (by omega), List.take_of_length_le h]
    · unfold gath
      rw [if_neg hl]
      obtain ⟨h1, h2⟩ := gathIn_take f m p acc h
      have h3 := gath_take f m ps _ h2
      show (gath f m ps _).1 = _
      rw [h3, h1, List.flatten_cons, List.filter_append, ← List.append_assoc]
      rcases Nat.le_total (acc ++ p.filter f).length m with q | q
      · rw [List.take_of_length_le q]
      · rw [List.take_append_of_le_length (by rw [List.length_take]; omega), List.take_take, Nat.min_self, List.take_append_of_le_length q]
theorem gath_none (f : CT → Bool) (most : Int) (hm : most ≤ 0) (ps : List (List CT)) : gath f most ps [] = ([], 0) := by
  cases ps with
  | nil => rfl
  | cons p ps => unfold gath; rw [if_pos (by simpa using hm)]
theorem gath_count (f : CT → Bool) (most : Int) : ∀ (ps : List (List CT)) (acc : List CT), (gath f most ps acc).2 ≤ ps.length
  | [], _ => Nat.le_refl _
  | p :: ps, acc => by
    unfold gath
    by_cases hl : most ≤ (acc.length : Int)
    · rw [if_pos hl]; exact Nat.zero_le _
    · rw [if_neg hl]
      have := gath_count f most ps (gathIn f most p acc)
      show _ + 1 ≤ ps.length + 1
      omega
/-- As long as it isn't enough each block that is let whole adds a cell. -/
theorem gath_near (f : CT → Bool) (m : Nat) : ∀ (ps : List (List CT)) (acc : List CT), acc.length ≤ m → (∀ p ∈ ps, 0 < p.length ∧ ∀ c ∈ p, f c = true) → (gath f m ps acc).2 + acc.length ≤ (gath f m ps acc).1.length
  | [], acc, _, _ => by show 0 + acc.length ≤ acc.length; omega
  | p :: ps, acc, h, hp => by
    unfold gath
    by_cases hl : (m : Int) ≤ (acc.length : Int)
    · rw [if_pos hl]; show 0 + acc.length ≤ acc.length; omega
    · rw [if_neg hl]
      obtain ⟨h1, h2⟩ := gathIn_take f m p acc h
      have h3 := gath_near f m ps (gathIn f m p acc) h2 fun q hq => hp q (List.mem_cons_of_mem _ hq)
      have h4 : acc.length + 1 ≤ (gathIn f m p acc).length := by
        obtain ⟨h5, h6⟩ := hp p List.mem_cons_self
        rw [h1, List.length_take, List.length_append, List.filter_eq_self.2 h6]
        omega
      show (gath f m ps _).2 + 1 + acc.length ≤ (gath f m ps _).1.length
      omega
end Go.Proofs.YtjbjdkginemedaaGreatDoor

/- (*table.Table).gather. Conditions: the table and the entries stand, each block is as the index tells, the closure answers as f. -/
namespace Go.Proofs.YtjbjdkginemedaaGreatDoor
open Go.RowKit

/-- What stands while gather goes on. -/
structure Gt (w W : World) (t : Nat) (vb vi : Value) (k : Nat) (v : Value) (l : List CT) : Prop where
  but : But w.heap.size t w W
  tb : Blk W t 92 #[vb, vi, .int .i64 (k : Int)]
  row : CRow W w.heap.size v l
  siz : w.heap.size ≤ W.heap.size
theorem Gt.below {w W W' : World} {t k : Nat} {vb vi v : Value} {l : List CT} (h : Gt w W t vb vi k v l) (hb : Below W.heap.size W W') : Gt w W' t vb vi k v l :=
  ⟨but_go h.but h.siz hb, h.tb.keep hb h.tb.lt, h.row.below hb, Nat.le_trans h.siz hb.size⟩
theorem CRow.form {W : World} {B n c : Nat} {A : Option Addr} {l : List CT} (h : CRow W B (.slice A n c) l) (h0 : 0 < l.length) : ∃ g, A = some ⟨g, 0, Option.none⟩ := by
  rcases h.2 with ⟨_, hz⟩ | ⟨g, cap, cur, e, _⟩
  · omega
  · injection e with e1 e2 e3
    exact ⟨g, e1⟩
section
variable {ops : Array Oper} {rest : List Oper} {o : Oper} {a : Act} {Q : Exit → Act → World → Prop}
theorem wpList_append_cell_at (hgd : o.guard = Option.none) (s x : Operand)
    (ho : o.op = .call { callee := .builtin .append, args := #[s, x], argTypes := #[22, 22] })
    (w : World) (base : Nat) (v : Value) (l : List CT) (hs : a.eval s = v) (hown : CRow w base v l)
    (G : Nat) (m : Nat) (hx : a.eval x = .slice (some ⟨G, 0, Option.none⟩) 1 m) (y : CT) (hc : ∀ j u, y.e[j]? = some u → w.cell? ((⟨G, 0, Option.none⟩ : Addr).add j) = some u)
    (hlen : l.length ≤ 100000) (hbase : base ≤ w.heap.size)
    (h : ∀ v' w', CRow w' base v' (l ++ [y]) → w.grownBy w' v.ownBlock → (v'.ownBlock = v.ownBlock ∨ v'.ownBlock = some w.heap.size) → wpList Tryz.prog ops Q rest (a.put o.dst v') w') : wpList Tryz.prog ops Q (o :: rest) a w := by
  obtain ⟨i0, hi, hz0, hz1, hz2⟩ := info_parts info_cell
  refine wpList_append_own_at w hgd s x 22 ho base 26 i0 _ 8 96 Tryz.underlying22 hi hz0 hz1 hz2 rfl (by decide) v l.length (flatC l) hs hown ⟨G, 0, Option.none⟩ 1 m y.e hx (CT.e_len y) hc y.e_one (by unfold maxLen; omega) (by omega) hbase ?_
  intro v' w' h1 h2 _ h3
  refine h v' w' ?_ h2 h3
  unfold CRow
  rw [flatC_app, flatC_one, List.length_append]
  exact h1
end
/-- What stands in the inner loop. -/
structure Gi (w W : World) (t : Nat) (vb vi : Value) (k M : Nat) (v : Value) (l : List CT) (vc : Value) (p : List CT) : Prop where
  g : Gt w W t vb vi k v l
  c : CRow W M vc p
  ne : vc.ownBlock = Option.none ∨ vc.ownBlock ≠ v.ownBlock
  m : t < M
theorem Gi.below {w W W' : World} {t k M : Nat} {vb vi v vc : Value} {l p : List CT} (h : Gi w W t vb vi k M v l vc p) (hb : Below W.heap.size W W') : Gi w W' t vb vi k M v l vc p := ⟨h.g.below hb, h.c.below hb, h.ne, h.m⟩
theorem Gi.more {w W W' : World} {t k M : Nat} {vb vi v v' vc : Value} {l l' p : List CT} (h : Gi w W t vb vi k M v l vc p) (htw : t < w.heap.size) (hr : CRow W' w.heap.size v' l') (hg : W.grownBy W' v.ownBlock) (hd : v'.ownBlock = v.ownBlock ∨ v'.ownBlock = some W.heap.size) : Gi w W' t vb vi k M v' l' vc p := by
  have hlt : ∀ j, v.ownBlock = some j → w.heap.size ≤ j := fun j hj => (World.ownsRow.lt h.g.row j hj).1
  have hb : Below w.heap.size W W' := (Below.refl _ _).grown hg h.g.siz hlt
  have htb : t < W.heap.size := h.g.tb.lt
  refine ⟨⟨h.g.but.trans (But.of_below hb t), ?_, hr, Nat.le_trans h.g.siz hg.size⟩, World.ownsRow.kept h.c hg h.ne, ?_, h.m⟩
  · have h1 := h.g.tb
    unfold Blk at h1 ⊢
    rw [hb.block t htw]
    exact h1
  · rcases hd with e | e
    · rw [e]; exact h.ne
    · rw [e]
      cases e2 : vc.ownBlock with
      | none => exact .inl rfl
      | some j =>
        refine .inr fun q => ?_
        have h1 := (World.ownsRow.lt h.c j e2).2
        injection q with q
        omega
theorem gath_stop {f : CT → Bool} {most : Int} {p : List CT} {qs : List (List CT)} {l : List CT} (h : most ≤ (l.length : Int)) : gath f most (p :: qs) l = (l, 0) := by unfold gath; rw [if_pos h]
theorem gath_go {f : CT → Bool} {most : Int} {p : List CT} {qs : List (List CT)} {l : List CT} (h : ¬ most ≤ (l.length : Int)) : gath f most (p :: qs) l = ((gath f most qs (gathIn f most p l)).1, (gath f most qs (gathIn f most p l)).2 + 1) := by rw [gath, if_neg h]
theorem CRow.but {W W' : World} {B t : Nat} {v : Value} {l : List CT} (h : CRow W B v l) (hb : But W.heap.size t W W') (ht : t < B) : CRow W' B v l := by
  refine ⟨h.1, ?_⟩
  rcases h.2 with h | ⟨g, cap, cur, e, h1, h2, hr⟩
  · exact .inl h
  · have hg : g < W.heap.size := by
      rcases Nat.lt_or_ge g W.heap.size with h' | h'
      · exact h'
      · rw [Array.getElem?_eq_none h'] at h2; cases h2
    exact .inr ⟨g, cap, cur, e, h1, by rw [hb.block g hg (by omega)]; exact h2, hr⟩
theorem look_gi {w W w2 : World} {t k : Nat} {vb vi v vc : Value} {l p : List CT} {o : Obj} (htl : t < w.heap.size) (h : Gt w (W.alloc o) t vb vi k v l) (h1 : But (W.alloc o).heap.size t (W.alloc o) w2) (h2 : Blk w2 t 92 #[vb, vi, .int .i64 ((k + 1 : Nat) : Int)]) (h3 : CRow w2 (W.alloc o).heap.size vc p) : Gi w w2 t vb vi (k + 1) (W.heap.size + 1) v l vc p := by
  have e : (W.alloc o).heap.size = W.heap.size + 1 := by simp
  have hs := h.siz
  refine ⟨⟨h.but.trans (h1.mono hs), h2, CRow.but h.row h1 htl, Nat.le_trans hs h1.size⟩, by rw [← e]; exact h3, ?_, by omega⟩
  cases e2 : vc.ownBlock with
  | none => exact .inl rfl
  | some j =>
    refine .inr fun q => ?_
    have h4 := (World.ownsRow.lt h3 j e2).1
    have h5 := (World.ownsRow.lt h.row j q.symm).2
    omega

set_option maxRecDepth 100000 in
set_option maxHeartbeats 16000000 in
theorem gather_all (t : Nat) (vb vi : Value) (A : Option Addr) (m cap : Nat) (hm : m ≤ 1000000) (most : Int)  (k : Nat) (f : CT → Bool) (es : List En) (ps : List (List CT)) (hes : es.length = m) (hps : ps.length = m) (hU : ∀ x ∈ es, ∃ Au ku cu, x.u = .slice Au ku cu) (hsum : ps.flatten.length ≤ 10000) (w : World)
    (ht : Blk w t 92 #[vb, vi, .int .i64 (k : Int)]) (hA : 0 < m → ∃ g off, A = some ⟨g, off, none⟩ ∧ g ≠ t ∧ HE w g off es)
    (HF : ∀ W (c : CT), But w.heap.size t w W → Calls Tryz.prog 84 #[c.v] W fun e w' => e = .returned (.bool (f c)) ∧ Below W.heap.size W w')
    (HL : ∀ W i j x p, es[i]? = some x → ps[i]? = some p → j ≤ k + i → But w.heap.size t w W → Blk W t 92 #[vb, vi, .int .i64 (j : Int)] → Calls Tryz.prog 135 #[.pointer (some ⟨t, 0, none⟩), .agg x.e.toArray] W fun e w' => ∃ v, e = .returned (.tuple #[v, .bool true]) ∧ But W.heap.size t W w' ∧ Blk w' t 92 #[vb, vi, .int .i64 ((j + 1 : Nat) : Int)] ∧ CRow w' W.heap.size v p) :
    Calls Tryz.prog 83 #[.pointer (some ⟨t, 0, none⟩), .slice A m cap, .int .i64 most, .func (.func 84) #[] #[]] w fun e w' => ∃ v, e = .returned (.tuple #[v, .int .i64 0]) ∧ Gt w w' t vb vi (k + (gath f most ps []).2) v (gath f most ps []).1 := by
  have HFh := hid HF
  have HUh := hid hU
  have HLh := hid HL
  have HAh := hid hA
  have HEs := hid hes
  have HPs := hid hps
  have htl := ht.lt
  have HG0 : Hid (Gt w w t vb vi k (.slice none 0 0) []) := ⟨But.refl _ _ _, ht, CRow.none _ _, Nat.le_refl _⟩
  clear HF HL hA hes hps ht hU
  go_enter Tryz.func83, Tryz.ntmps83
  go_wp2_with (fail)
  go_loopw [10, 19] (fun vl vi2 wr => ∃ (i n : Nat) (Al : Option Addr) (cl : Nat) (l : List CT), i ≤ m ∧ vi2 = .int .i64 i ∧ vl = .slice Al n cl ∧ Hid (l.length = n ∧ Gt w wr t vb vi (k + i) (.slice Al n cl) l ∧ (gath f most ps []).1 = (gath f most (ps.drop i) l).1 ∧ (gath f most ps []).2 = (gath f most (ps.drop i) l).2 + i ∧ l.length ≤ (ps.take i).flatten.length)) (fun _ vi2 _ => m - (intOf vi2).toNat)
  case atStart => exact ⟨0, 0, none, 0, [], Nat.zero_le _, rfl, rfl, rfl, HG0.out, by rw [List.drop_zero], by rw [List.drop_zero]; rfl, Nat.zero_le _⟩
  case round =>
    clear HG0
    obtain ⟨i, n, Al, cl, l, hi, rfl, rfl, HI⟩ := hrel
    by_cases hlt : i < m
    · have hltz : (i : Int) < (m : Int) := by omega
      obtain ⟨x, hx⟩ : ∃ x, es[i]? = some x := ⟨_, List.getElem?_eq_getElem (by rw [HEs.out]; exact hlt)⟩
      obtain ⟨p, hp⟩ : ∃ p, ps[i]? = some p := ⟨_, List.getElem?_eq_getElem (by rw [HPs.out]; exact hlt)⟩
      obtain ⟨g, off, rfl, hgt, hE⟩ := HAh.out (by omega)
      have hE2 : HE wr g off es := hE.but HI.out.2.1.but (hE.lt (by rw [HEs.out]; omega)) hgt
      obtain ⟨a0, a1, a2, a3, a4, a5, a6, a7, a8, a9⟩ := en_words hE2 i hx
      obtain ⟨Au, ku, cu, hu⟩ := HUh.out x (List.mem_of_getElem? hx)
      rw [hu] at a0
      have he : x.e.toArray = #[.slice Au ku cu, .string x.K.r, .string x.K.f, .string x.K.q, .int .i64 x.K.t, .int .i64 x.K.k, .int .i64 x.K.vk, .int .i64 x.K.vn, .string x.K.s, .int .i64 (x.p : Int)] := by unfold En.e; rw [hu]
      have HD : Hid (ps.drop i = p :: ps.drop (i + 1)) := by
        obtain ⟨h1, rfl⟩ := List.getElem?_eq_some_iff.1 hp
        exact List.drop_eq_getElem_cons h1
      have HTk : Hid ((ps.take (i + 1)).flatten.length = (ps.take i).flatten.length + p.length) := by
        show _ = _
        rw [List.take_add_one, hp, List.flatten_append, List.length_append]
        simp
      have HTl : Hid ((ps.take (i + 1)).flatten.length ≤ 10000) := by
        have h2 : (ps.take (i + 1)).flatten.length ≤ ps.flatten.length := by
          rw [cut_parts ps (i + 1), List.length_append]; omega
        exact Nat.le_trans h2 hsum
      obtain ⟨P, hP⟩ : ∃ P, p.length = P := ⟨_, rfl⟩
      have HP := hid hP
      have HLx : Hid (∀ W, But w.heap.size t w W → Blk W t 92 #[vb, vi, .int .i64 ((k + i : Nat) : Int)] → Calls Tryz.prog 135 #[.pointer (some ⟨t, 0, none⟩), .agg #[.slice Au ku cu, .string x.K.r, .string x.K.f, .string x.K.q, .int .i64 x.K.t, .int .i64 x.K.k, .int .i64 x.K.vk, .int .i64 x.K.vn, .string x.K.s, .int .i64 (x.p : Int)]] W fun e w' => ∃ Ac cc, e = .returned (.tuple #[.slice Ac P cc, .bool true]) ∧ Hid (But W.heap.size t W w' ∧ Blk w' t 92 #[vb, vi, .int .i64 ((k + i + 1 : Nat) : Int)] ∧ CRow w' W.heap.size (.slice Ac P cc) p)) := fun W h1 h2 => by
        have h3 := HLh.out W i (k + i) x p hx hp (Nat.le_refl _) h1 h2
        rw [he] at h3
        refine h3.mono fun e w' ⟨v, e1, e2, e3, e4⟩ => ?_
        obtain ⟨Ac, cc, rfl, _⟩ := e4.len
        rw [hP] at e1 e4
        exact ⟨Ac, cc, e1, e2, e3, e4⟩
      have HG1 : Hid (Gt w (wr.alloc (.cells #[.slice Au ku cu, .string x.K.r, .string x.K.f, .string x.K.q, .int .i64 x.K.t, .int .i64 x.K.k, .int .i64 x.K.vk, .int .i64 x.K.vn, .string x.K.s, .int .i64 (x.p : Int)] 106)) t vb vi (k + i) (.slice Al n cl) l) := HI.out.2.1.below (below_new _ _)
      by_cases hmo : most ≤ (n : Int)
      · clear hx hp hE hE2 hP he hu
        go_wp2_with (fail)
        go_ret2
        obtain ⟨h1, _, h3, h4, _⟩ := HI.out
        rw [← h1] at hmo
        rw [HD.out, gath_stop hmo] at h3 h4
        have e4 : (gath f most ps []).2 = i := by rw [h4]; exact Nat.zero_add i
        refine ⟨_, rfl, ?_⟩
        rw [h3, e4]
        exact HG1.out
      · have hmo2 : (n : Int) < most := by omega
        clear hx hp hE hE2 hP he hu
        go_upto_region 9 with (go_at_call 135; refine (HLx.out _ HG1.out.but HG1.out.tb).mono ?_; rintro e w2 ⟨Ac, cc, rfl, h2⟩; have H2 := hid (look_gi htl HG1.out h2.out.1 h2.out.2.1 h2.out.2.2); clear h2)
        clear a0 a1 a2 a3 a4 a5 a6 a7 a8 a9
        have hPb : P ≤ 10000 := by have := HTl.out; have := HTk.out; have := HP.out; omega
        obtain ⟨wo, hwo⟩ : ∃ z, z = wr := ⟨_, rfl⟩
        subst hwo
        go_wp2_with (fail)
        go_loopw [10, 37] (fun vl2 vj wr2 => ∃ (j n2 : Nat) (Al2 : Option Addr) (cl2 : Nat) (l2 : List CT), j ≤ P ∧ vj = .int .i64 j ∧ vl2 = .slice Al2 n2 cl2 ∧ Hid (l2.length = n2 ∧ Gi w wr2 t vb vi (k + i + 1) (wo.heap.size + 1) (.slice Al2 n2 cl2) l2 (.slice Ac P cc) p ∧ gathIn f most p l = gathIn f most (p.drop j) l2 ∧ l2.length ≤ l.length + j)) (fun _ vj _ => P - (intOf vj).toNat)
        case atStart => exact ⟨0, n, Al, cl, l, Nat.zero_le _, rfl, rfl, HI.out.1, H2.out, by rw [List.drop_zero], by omega⟩
        case round =>
          obtain ⟨j, n2, Al2, cl2, l2, hj, rfl, rfl, HJ⟩ := hrel
          by_cases hjl : j < P
          · have hjz : (j : Int) < (P : Int) := by omega
            obtain ⟨c, hc⟩ : ∃ c, p[j]? = some c := ⟨_, List.getElem?_eq_getElem (by rw [HP.out]; exact hjl)⟩
            obtain ⟨gc, rfl⟩ := CRow.form HJ.out.2.1.c (by rw [HP.out]; omega)
            have hw := ct_words HJ.out.2.1.c.hc j hc
            simp only [Nat.zero_add] at hw
            obtain ⟨b0, b1, b2, b3, b4, b5, b6, b7⟩ := hw
            have HDj : Hid (p.drop j = c :: p.drop (j + 1)) := by
              obtain ⟨h1, rfl⟩ := List.getElem?_eq_some_iff.1 hc
              exact List.drop_eq_getElem_cons h1
            have HFc : Hid (∀ W, But w.heap.size t w W → Calls Tryz.prog 84 #[.agg #[.string c.r, .string c.f, .string c.q, .int .i64 c.t, .int .i64 c.k, .int .i64 c.vk, .int .i64 c.vn, .string c.s]] W fun e w' => e = .returned (.bool (f c)) ∧ Below W.heap.size W w') := fun W hW => HFh.out W c hW
            have HJ3 : Hid (Gi w (wr.alloc (.cells #[.string c.r, .string c.f, .string c.q, .int .i64 c.t, .int .i64 c.k, .int .i64 c.vk, .int .i64 c.vn, .string c.s] 26)) t vb vi (k + i + 1) (wo.heap.size + 1) (.slice Al2 n2 cl2) l2 (.slice (some ⟨gc, 0, none⟩) P cc) p) := HJ.out.2.1.below (below_new _ _)
            have hx3 := DW.words (Blk.new wr 26 #[.string c.r, .string c.f, .string c.q, .int .i64 c.t, .int .i64 c.k, .int .i64 c.vk, .int .i64 c.vn, .string c.s] : DW (wr.alloc (.cells #[.string c.r, .string c.f, .string c.q, .int .i64 c.t, .int .i64 c.k, .int .i64 c.vk, .int .i64 c.vn, .string c.s] 26)) wr.heap.size c)
            obtain ⟨y0, y1, y2, y3, y4, y5, y6, y7⟩ := hx3
            clear hc
            by_cases hq : (n2 : Int) < most
            · have HLen : Hid (l2.length ≤ 50000) := by
                have h1 := HJ.out.2.2.2; have h2 := HI.out.2.2.2.2; have := HTl.out; have := HTk.out; show _ ≤ _; omega
              have hq2 : (l2.length : Int) < most := by rw [HJ.out.1]; exact hq
              cases hfc : f c with
              | false =>
                rw [hfc] at HFc
                have HN : Hid (gathIn f most p l = gathIn f most (p.drop (j + 1)) l2) := by
                  have h1 := HJ.out.2.2.1
                  rw [HDj.out] at h1
                  rw [h1]
                  show gathIn f most (p.drop (j + 1)) (if _ then _ else _) = _
                  rw [if_neg (fun h => by rw [hfc] at h; cases h.2)]
                clear hfc hq2
                go_wp2_with (first
                  | (go_at_call 84; refine (HFc.out _ HJ3.out.g.but).mono ?_; rintro e w5 ⟨rfl, hb5⟩; have HJ5 := hid (HJ3.out.below hb5); clear hb5))
                go_roundw
                case rel => exact ⟨j + 1, n2, Al2, cl2, l2, by omega, by go_num, rfl, HJ.out.1, HJ5.out, HN.out, by have := HJ.out.2.2.2; omega⟩
                case measure => simp only [intOf]; omega
              | true =>
                rw [hfc] at HFc
                have HN : Hid (gathIn f most p l = gathIn f most (p.drop (j + 1)) (l2 ++ [c])) := by
                  have h1 := HJ.out.2.2.1
                  rw [HDj.out] at h1
                  rw [h1]
                  show gathIn f most (p.drop (j + 1)) (if _ then _ else _) = _
                  rw [if_pos ⟨hq2, hfc⟩]
                obtain ⟨n7, hn7⟩ : ∃ n7, (l2 ++ [c]).length = n7 := ⟨_, rfl⟩
                have HN7 := hid hn7
                clear hfc hq2 hn7
                go_wp2_with (first
                  | (go_at_call 84; refine (HFc.out _ HJ3.out.g.but).mono ?_; rintro e w5 ⟨rfl, hb5⟩; have HJ5 := hid (HJ3.out.below hb5); have z0 := (hb5.cell (cell_lt y0)).trans y0; have z1 := (hb5.cell (cell_lt y1)).trans y1; have z2 := (hb5.cell (cell_lt y2)).trans y2; have z3 := (hb5.cell (cell_lt y3)).trans y3; have z4 := (hb5.cell (cell_lt y4)).trans y4; have z5 := (hb5.cell (cell_lt y5)).trans y5; have z6 := (hb5.cell (cell_lt y6)).trans y6; have z7 := (hb5.cell (cell_lt y7)).trans y7; clear hb5)
                  | (at_builtin; refine wpList_append_cell_at rfl (.tmp 50) (.tmp 52) rfl _ w.heap.size _ l2 rfl (HJ5.out.g.row.below (below_new _ _)) _ 1 rfl c (ct_new c _ _) (by have := HLen.out; omega) (by have := HJ5.out.g.siz; simp; omega) ?_; intro v7 w7 h7 hg7 hd7; have HJ7 := hid ((HJ5.out.below (below_new _ _)).more htl h7 hg7 hd7); obtain ⟨A7, c7, e7, _⟩ := h7.len; rw [HN7.out] at e7; subst e7; clear h7 hg7 hd7))
                go_roundw
                case rel => exact ⟨j + 1, n7, A7, c7, l2 ++ [c], by omega, by go_num, rfl, HN7.out, HJ7.out, HN.out, by have := HJ.out.2.2.2; rw [List.length_append, List.length_singleton]; omega⟩
                case measure => simp only [intOf]; omega
            · have HN : Hid (gathIn f most p l = gathIn f most (p.drop (j + 1)) l2) := by
                have h1 := HJ.out.2.2.1
                rw [HDj.out] at h1
                have h2 : ¬ (l2.length : Int) < most := by rw [HJ.out.1]; exact hq
                rw [h1]
                show gathIn f most (p.drop (j + 1)) (if _ then _ else _) = _
                rw [if_neg (fun h => h2 h.1)]
              go_wp2_with (fail)
              go_roundw
              case rel => exact ⟨j + 1, n2, Al2, cl2, l2, by omega, by go_num, rfl, HJ.out.1, HJ3.out, HN.out, by have := HJ.out.2.2.2; omega⟩
              case measure => simp only [intOf]; omega
          · obtain rfl : j = P := by omega
            have hdj : p.drop j = [] := by rw [← HP.out, List.drop_length]
            go_wp2_with (fail)
            go_roundw
            case rel =>
              obtain ⟨h1, h2, h3, h4, h5⟩ := HI.out
              obtain ⟨g1, g2, g3, g4⟩ := HJ.out
              rw [hdj] at g3
              have hmo3 : ¬ most ≤ (l.length : Int) := by rw [h1]; omega
              rw [HD.out, gath_go hmo3, g3] at h3 h4
              refine ⟨i + 1, n2, Al2, cl2, l2, by omega, by go_num, rfl, g1, g2.g, h3, ?_, ?_⟩
              · rw [h4]
                show (gath f most (ps.drop (i + 1)) l2).2 + 1 + i = _
                omega
              · have := HTk.out; have := HP.out; omega
            case measure => simp only [intOf]; omega
    · obtain rfl : i = m := by omega
      have hd : ps.drop i = [] := by rw [← HPs.out, List.drop_length]
      go_wp2_with (fail)
      go_ret2
      obtain ⟨_, h2, h3, h4, _⟩ := HI.out
      rw [hd] at h3 h4
      have e4 : (gath f most ps []).2 = i := by rw [h4]; exact Nat.zero_add i
      refine ⟨_, rfl, ?_⟩
      rw [h3, e4]
      exact h2

set_option maxRecDepth 100000 in
set_option maxHeartbeats 16000000 in
theorem gather_row (t : Nat) (vb vi : Value) (A : Option Addr) (m cap : Nat) (hm : m ≤ 1000000) (most : Int) (p1 : Value) (k : Nat) (f : CT → Bool) (es : List En) (ps : List (List CT)) (hes : es.length = m) (hps : ps.length = m) (hU : ∀ x ∈ es, ∃ Au ku cu, x.u = .slice Au ku cu) (hsum : ps.flatten.length ≤ 10000) (w : World)
    (ht : Blk w t 92 #[vb, vi, .int .i64 (k : Int)]) (hA : 0 < m → ∃ g off, A = some ⟨g, off, none⟩ ∧ g ≠ t ∧ HE w g off es)
    (HF : ∀ W (c : CT), But w.heap.size t w W → Calls Tryz.prog 93 #[c.v, p1] W fun e w' => e = .returned (.bool (f c)) ∧ Below W.heap.size W w')
    (HL : ∀ W i j x p, es[i]? = some x → ps[i]? = some p → j ≤ k + i → But w.heap.size t w W → Blk W t 92 #[vb, vi, .int .i64 (j : Int)] → Calls Tryz.prog 135 #[.pointer (some ⟨t, 0, none⟩), .agg x.e.toArray] W fun e w' => ∃ v, e = .returned (.tuple #[v, .bool true]) ∧ But W.heap.size t W w' ∧ Blk w' t 92 #[vb, vi, .int .i64 ((j + 1 : Nat) : Int)] ∧ CRow w' W.heap.size v p) :
    Calls Tryz.prog 83 #[.pointer (some ⟨t, 0, none⟩), .slice A m cap, .int .i64 most, .func (.func 93) #[] #[p1]] w fun e w' => ∃ v, e = .returned (.tuple #[v, .int .i64 0]) ∧ Gt w w' t vb vi (k + (gath f most ps []).2) v (gath f most ps []).1 := by
  have HFh := hid HF
  have HUh := hid hU
  have HLh := hid HL
  have HAh := hid hA
  have HEs := hid hes
  have HPs := hid hps
  have htl := ht.lt
  have HG0 : Hid (Gt w w t vb vi k (.slice none 0 0) []) := ⟨But.refl _ _ _, ht, CRow.none _ _, Nat.le_refl _⟩
  clear HF HL hA hes hps ht hU
  go_enter Tryz.func83, Tryz.ntmps83
  go_wp2_with (fail)
  go_loopw [10, 19] (fun vl vi2 wr => ∃ (i n : Nat) (Al : Option Addr) (cl : Nat) (l : List CT), i ≤ m ∧ vi2 = .int .i64 i ∧ vl = .slice Al n cl ∧ Hid (l.length = n ∧ Gt w wr t vb vi (k + i) (.slice Al n cl) l ∧ (gath f most ps []).1 = (gath f most (ps.drop i) l).1 ∧ (gath f most ps []).2 = (gath f most (ps.drop i) l).2 + i ∧ l.length ≤ (ps.take i).flatten.length)) (fun _ vi2 _ => m - (intOf vi2).toNat)
  case atStart => exact ⟨0, 0, none, 0, [], Nat.zero_le _, rfl, rfl, rfl, HG0.out, by rw [List.drop_zero], by rw [List.drop_zero]; rfl, Nat.zero_le _⟩
  case round =>
    clear HG0
    obtain ⟨i, n, Al, cl, l, hi, rfl, rfl, HI⟩ := hrel
    by_cases hlt : i < m
    · have hltz : (i : Int) < (m : Int) := by omega
      obtain ⟨x, hx⟩ : ∃ x, es[i]? = some x := ⟨_, List.getElem?_eq_getElem (by rw [HEs.out]; exact hlt)⟩
      obtain ⟨p, hp⟩ : ∃ p, ps[i]? = some p := ⟨_, List.getElem?_eq_getElem (by rw [HPs.out]; exact hlt)⟩
      obtain ⟨g, off, rfl, hgt, hE⟩ := HAh.out (by omega)
      have hE2 : HE wr g off es := hE.but HI.out.2.1.but (hE.lt (by rw [HEs.out]; omega)) hgt
      obtain ⟨a0, a1, a2, a3, a4, a5, a6, a7, a8, a9⟩ := en_words hE2 i hx
      obtain ⟨Au, ku, cu, hu⟩ := HUh.out x (List.mem_of_getElem? hx)
      rw [hu] at a0
      have he : x.e.toArray = #[.slice Au ku cu, .string x.K.r, .string x.K.f, .string x.K.q, .int .i64 x.K.t, .int .i64 x.K.k, .int .i64 x.K.vk, .int .i64 x.K.vn, .string x.K.s, .int .i64 (x.p : Int)] := by unfold En.e; rw [hu]
      have HD : Hid (ps.drop i = p :: ps.drop (i + 1)) := by
        obtain ⟨h1, rfl⟩ := List.getElem?_eq_some_iff.1 hp
        exact List.drop_eq_getElem_cons h1
      have HTk : Hid ((ps.take (i + 1)).flatten.length = (ps.take i).flatten.length + p.length) := by
        show _ = _
        rw [List.take_add_one, hp, List.flatten_append, List.length_append]
        simp
      have HTl : Hid ((ps.take (i + 1)).flatten.length ≤ 10000) := by
        have h2 : (ps.take (i + 1)).flatten.length ≤ ps.flatten.length := by
          rw [cut_parts ps (i + 1), List.length_append]; omega
        exact Nat.le_trans h2 hsum
      obtain ⟨P, hP⟩ : ∃ P, p.length = P := ⟨_, rfl⟩
      have HP := hid hP
      have HLx : Hid (∀ W, But w.heap.size t w W → Blk W t 92 #[vb, vi, .int .i64 ((k + i : Nat) : Int)] → Calls Tryz.prog 135 #[.pointer (some ⟨t, 0, none⟩), .agg #[.slice Au ku cu, .string x.K.r, .string x.K.f, .string x.K.q, .int .i64 x.K.t, .int .i64 x.K.k, .int .i64 x.K.vk, .int .i64 x.K.vn, .string x.K.s, .int .i64 (x.p : Int)]] W fun e w' => ∃ Ac cc, e = .returned (.tuple #[.slice Ac P cc, .bool true]) ∧ Hid (But W.heap.size t W w' ∧ Blk w' t 92 #[vb, vi, .int .i64 ((k + i + 1 : Nat) : Int)] ∧ CRow w' W.heap.size (.slice Ac P cc) p)) := fun W h1 h2 => by
        have h3 := HLh.out W i (k + i) x p hx hp (Nat.le_refl _) h1 h2
        rw [he] at h3
        refine h3.mono fun e w' ⟨v, e1, e2, e3, e4⟩ => ?_
        obtain ⟨Ac, cc, rfl, _⟩ := e4.len
        rw [hP] at e1 e4
        exact ⟨Ac, cc, e1, e2, e3, e4⟩
      have HG1 : Hid (Gt w (wr.alloc (.cells #[.slice Au ku cu, .string x.K.r, .string x.K.f, .string x.K.q, .int .i64 x.K.t, .int .i64 x.K.k, .int .i64 x.K.vk, .int .i64 x.K.vn, .string x.K.s, .int .i64 (x.p : Int)] 106)) t vb vi (k + i) (.slice Al n cl) l) := HI.out.2.1.below (below_new _ _)
      by_cases hmo : most ≤ (n : Int)
      · clear hx hp hE hE2 hP he hu
        go_wp2_with (fail)
        go_ret2
        obtain ⟨h1, _, h3, h4, _⟩ := HI.out
        rw [← h1] at hmo
        rw [HD.out, gath_stop hmo] at h3 h4
        have e4 : (gath f most ps []).2 = i := by rw [h4]; exact Nat.zero_add i
        refine ⟨_, rfl, ?_⟩
        rw [h3, e4]
        exact HG1.out
      · have hmo2 : (n : Int) < most := by omega
        clear hx hp hE hE2 hP he hu
        go_upto_region 9 with (go_at_call 135; refine (HLx.out _ HG1.out.but HG1.out.tb).mono ?_; rintro e w2 ⟨Ac, cc, rfl, h2⟩; have H2 := hid (look_gi htl HG1.out h2.out.1 h2.out.2.1 h2.out.2.2); clear h2)
        clear a0 a1 a2 a3 a4 a5 a6 a7 a8 a9
        have hPb : P ≤ 10000 := by have := HTl.out; have := HTk.out; have := HP.out; omega
        obtain ⟨wo, hwo⟩ : ∃ z, z = wr := ⟨_, rfl⟩
        subst hwo
        go_wp2_with (fail)
        go_loopw [10, 37] (fun vl2 vj wr2 => ∃ (j n2 : Nat) (Al2 : Option Addr) (cl2 : Nat) (l2 : List CT), j ≤ P ∧ vj = .int .i64 j ∧ vl2 = .slice Al2 n2 cl2 ∧ Hid (l2.length = n2 ∧ Gi w wr2 t vb vi (k + i + 1) (wo.heap.size + 1) (.slice Al2 n2 cl2) l2 (.slice Ac P cc) p ∧ gathIn f most p l = gathIn f most (p.drop j) l2 ∧ l2.length ≤ l.length + j)) (fun _ vj _ => P - (intOf vj).toNat)
        case atStart => exact ⟨0, n, Al, cl, l, Nat.zero_le _, rfl, rfl, HI.out.1, H2.out, by rw [List.drop_zero], by omega⟩
        case round =>
          obtain ⟨j, n2, Al2, cl2, l2, hj, rfl, rfl, HJ⟩ := hrel
          by_cases hjl : j < P
          · have hjz : (j : Int) < (P : Int) := by omega
            obtain ⟨c, hc⟩ : ∃ c, p[j]? = some c := ⟨_, List.getElem?_eq_getElem (by rw [HP.out]; exact hjl)⟩
            obtain ⟨gc, rfl⟩ := CRow.form HJ.out.2.1.c (by rw [HP.out]; omega)
            have hw := ct_words HJ.out.2.1.c.hc j hc
            simp only [Nat.zero_add] at hw
            obtain ⟨b0, b1, b2, b3, b4, b5, b6, b7⟩ := hw
            have HDj : Hid (p.drop j = c :: p.drop (j + 1)) := by
              obtain ⟨h1, rfl⟩ := List.getElem?_eq_some_iff.1 hc
              exact List.drop_eq_getElem_cons h1
            have HFc : Hid (∀ W, But w.heap.size t w W → Calls Tryz.prog 93 #[.agg #[.string c.r, .string c.f, .string c.q, .int .i64 c.t, .int .i64 c.k, .int .i64 c.vk, .int .i64 c.vn, .string c.s], p1] W fun e w' => e = .returned (.bool (f c)) ∧ Below W.heap.size W w') := fun W hW => HFh.out W c hW
            have HJ3 : Hid (Gi w (wr.alloc (.cells #[.string c.r, .string c.f, .string c.q, .int .i64 c.t, .int .i64 c.k, .int .i64 c.vk, .int .i64 c.vn, .string c.s] 26)) t vb vi (k + i + 1) (wo.heap.size + 1) (.slice Al2 n2 cl2) l2 (.slice (some ⟨gc, 0, none⟩) P cc) p) := HJ.out.2.1.below (below_new _ _)
            have hx3 := DW.words (Blk.new wr 26 #[.string c.r, .string c.f, .string c.q, .int .i64 c.t, .int .i64 c.k, .int .i64 c.vk, .int .i64 c.vn, .string c.s] : DW (wr.alloc (.cells #[.string c.r, .string c.f, .string c.q, .int .i64 c.t, .int .i64 c.k, .int .i64 c.vk, .int .i64 c.vn, .string c.s] 26)) wr.heap.size c)
            obtain ⟨y0, y1, y2, y3, y4, y5, y6, y7⟩ := hx3
            clear hc
            by_cases hq : (n2 : Int) < most
            · have HLen : Hid (l2.length ≤ 50000) := by
                have h1 := HJ.out.2.2.2; have h2 := HI.out.2.2.2.2; have := HTl.out; have := HTk.out; show _ ≤ _; omega
              have hq2 : (l2.length : Int) < most := by rw [HJ.out.1]; exact hq
              cases hfc : f c with
              | false =>
                rw [hfc] at HFc
                have HN : Hid (gathIn f most p l = gathIn f most (p.drop (j + 1)) l2) := by
                  have h1 := HJ.out.2.2.1
                  rw [HDj.out] at h1
                  rw [h1]
                  show gathIn f most (p.drop (j + 1)) (if _ then _ else _) = _
                  rw [if_neg (fun h => by rw [hfc] at h; cases h.2)]
                clear hfc hq2
                go_wp2_with (first
                  | (go_at_call 93; refine (HFc.out _ HJ3.out.g.but).mono ?_; rintro e w5 ⟨rfl, hb5⟩; have HJ5 := hid (HJ3.out.below hb5); clear hb5))
                go_roundw
                case rel => exact ⟨j + 1, n2, Al2, cl2, l2, by omega, by go_num, rfl, HJ.out.1, HJ5.out, HN.out, by have := HJ.out.2.2.2; omega⟩
                case measure => simp only [intOf]; omega
              | true =>
                rw [hfc] at HFc
                have HN : Hid (gathIn f most p l = gathIn f most (p.drop (j + 1)) (l2 ++ [c])) := by
                  have h1 := HJ.out.2.2.1
                  rw [HDj.out] at h1
                  rw [h1]
                  show gathIn f most (p.drop (j + 1)) (if _ then _ else _) = _
                  rw [if_pos ⟨hq2, hfc⟩]
                obtain ⟨n7, hn7⟩ : ∃ n7, (l2 ++ [c]).length = n7 := ⟨_, rfl⟩
                have HN7 := hid hn7
                clear hfc hq2 hn7
                go_wp2_with (first
                  | (go_at_call 93; refine (HFc.out _ HJ3.out.g.but).mono ?_; rintro e w5 ⟨rfl, hb5⟩; have HJ5 := hid (HJ3.out.below hb5); have z0 := (hb5.cell (cell_lt y0)).trans y0; have z1 := (hb5.cell (cell_lt y1)).trans y1; have z2 := (hb5.cell (cell_lt y2)).trans y2; have z3 := (hb5.cell (cell_lt y3)).trans y3; have z4 := (hb5.cell (cell_lt y4)).trans y4; have z5 := (hb5.cell (cell_lt y5)).trans y5; have z6 := (hb5.cell (cell_lt y6)).trans y6; have z7 := (hb5.cell (cell_lt y7)).trans y7; clear hb5)
                  | (at_builtin; refine wpList_append_cell_at rfl (.tmp 50) (.tmp 52) rfl _ w.heap.size _ l2 rfl (HJ5.out.g.row.below (below_new _ _)) _ 1 rfl c (ct_new c _ _) (by have := HLen.out; omega) (by have := HJ5.out.g.siz; simp; omega) ?_; intro v7 w7 h7 hg7 hd7; have HJ7 := hid ((HJ5.out.below (below_new _ _)).more htl h7 hg7 hd7); obtain ⟨A7, c7, e7, _⟩ := h7.len; rw [HN7.out] at e7; subst e7; clear h7 hg7 hd7))
                go_roundw
                case rel => exact ⟨j + 1, n7, A7, c7, l2 ++ [c], by omega, by go_num, rfl, HN7.out, HJ7.out, HN.out, by have := HJ.out.2.2.2; rw [List.length_append, List.length_singleton]; omega⟩
                case measure => simp only [intOf]; omega
            · have HN : Hid (gathIn f most p l = gathIn f most (p.drop (j + 1)) l2) := by
                have h1 := HJ.out.2.2.1
                rw [HDj.out] at h1
                have h2 : ¬ (l2.length : Int) < most := by rw [HJ.out.1]; exact hq
                rw [h1]
                show gathIn f most (p.drop (j + 1)) (if _ then _ else _) = _
                rw [if_neg (fun h => h2 h.1)]
              go_wp2_with (fail)
              go_roundw
              case rel => exact ⟨j + 1, n2, Al2, cl2, l2, by omega, by go_num, rfl, HJ.out.1, HJ3.out, HN.out, by have := HJ.out.2.2.2; omega⟩
              case measure => simp only [intOf]; omega
          · obtain rfl : j = P := by omega
            have hdj : p.drop j = [] := by rw [← HP.out, List.drop_length]
            go_wp2_with (fail)
            go_roundw
            case rel =>
              obtain ⟨h1, h2, h3, h4, h5⟩ := HI.out
              obtain ⟨g1, g2, g3, g4⟩ := HJ.out
              rw [hdj] at g3
              have hmo3 : ¬ most ≤ (l.length : Int) := by rw [h1]; omega
              rw [HD.out, gath_go hmo3, g3] at h3 h4
              refine ⟨i + 1, n2, Al2, cl2, l2, by omega, by go_num, rfl, g1, g2.g, h3, ?_, ?_⟩
              · rw [h4]
                show (gath f most (ps.drop (i + 1)) l2).2 + 1 + i = _
                omega
              · have := HTk.out; have := HP.out; omega
            case measure => simp only [intOf]; omega
    · obtain rfl : i = m := by omega
      have hd : ps.drop i = [] := by rw [← HPs.out, List.drop_length]
      go_wp2_with (fail)
      go_ret2
      obtain ⟨_, h2, h3, h4, _⟩ := HI.out
      rw [hd] at h3 h4
      have e4 : (gath f most ps []).2 = i := by rw [h4]; exact Nat.zero_add i
      refine ⟨_, rfl, ?_⟩
      rw [h3, e4]
      exact h2

set_option maxRecDepth 100000 in
set_option maxHeartbeats 16000000 in
theorem gather_from (t : Nat) (vb vi : Value) (A : Option Addr) (m cap : Nat) (hm : m ≤ 1000000) (most : Int) (p1 : Value) (k : Nat) (f : CT → Bool) (es : List En) (ps : List (List CT)) (hes : es.length = m) (hps : ps.length = m) (hU : ∀ x ∈ es, ∃ Au ku cu, x.u = .slice Au ku cu) (hsum : ps.flatten.length ≤ 10000) (w : World)
    (ht : Blk w t 92 #[vb, vi, .int .i64 (k : Int)]) (hA : 0 < m → ∃ g off, A = some ⟨g, off, none⟩ ∧ g ≠ t ∧ HE w g off es)
    (HF : ∀ W (c : CT), But w.heap.size t w W → Calls Tryz.prog 95 #[c.v, p1] W fun e w' => e = .returned (.bool (f c)) ∧ Below W.heap.size W w')
    (HL : ∀ W i j x p, es[i]? = some x → ps[i]? = some p → j ≤ k + i → But w.heap.size t w W → Blk W t 92 #[vb, vi, .int .i64 (j : Int)] → Calls Tryz.prog 135 #[.pointer (some ⟨t, 0, none⟩), .agg x.e.toArray] W fun e w' => ∃ v, e = .returned (.tuple #[v, .bool true]) ∧ But W.heap.size t W w' ∧ Blk w' t 92 #[vb, vi, .int .i64 ((j + 1 : Nat) : Int)] ∧ CRow w' W.heap.size v p) :
    Calls Tryz.prog 83 #[.pointer (some ⟨t, 0, none⟩), .slice A m cap, .int .i64 most, .func (.func 95) #[] #[p1]] w fun e w' => ∃ v, e = .returned (.tuple #[v, .int .i64 0]) ∧ Gt w w' t vb vi (k + (gath f most ps []).2) v (gath f most ps []).1 := by
  have HFh := hid HF
  have HUh := hid hU
  have HLh := hid HL
  have HAh := hid hA
  have HEs := hid hes
  have HPs := hid hps
  have htl := ht.lt
  have HG0 : Hid (Gt w w t vb vi k (.slice none 0 0) []) := ⟨But.refl _ _ _, ht, CRow.none _ _, Nat.le_refl _⟩
  clear HF HL hA hes hps ht hU
  go_enter Tryz.func83, Tryz.ntmps83
  go_wp2_with (fail)
  go_loopw [10, 19] (fun vl vi2 wr => ∃ (i n : Nat) (Al : Option Addr) (cl : Nat) (l : List CT), i ≤ m ∧ vi2 = .int .i64 i ∧ vl = .slice Al n cl ∧ Hid (l.length = n ∧ Gt w wr t vb vi (k + i) (.slice Al n cl) l ∧ (gath f most ps []).1 = (gath f most (ps.drop i) l).1 ∧ (gath f most ps []).2 = (gath f most (ps.drop i) l).2 + i ∧ l.length ≤ (ps.take i).flatten.length)) (fun _ vi2 _ => m - (intOf vi2).toNat)
  case atStart => exact ⟨0, 0, none, 0, [], Nat.zero_le _, rfl, rfl, rfl, HG0.out, by rw [List.drop_zero], by rw [List.drop_zero]; rfl, Nat.zero_le _⟩
  case round =>
    clear HG0
    obtain ⟨i, n, Al, cl, l, hi, rfl, rfl, HI⟩ := hrel
    by_cases hlt : i < m
    · have hltz : (i : Int) < (m : Int) := by omega
      obtain ⟨x, hx⟩ : ∃ x, es[i]? = some x := ⟨_, List.getElem?_eq_getElem (by rw [HEs.out]; exact hlt)⟩
      obtain ⟨p, hp⟩ : ∃ p, ps[i]? = some p := ⟨_, List.getElem?_eq_getElem (by rw [HPs.out]; exact hlt)⟩
      obtain ⟨g, off, rfl, hgt, hE⟩ := HAh.out (by omega)
      have hE2 : HE wr g off es := hE.but HI.out.2.1.but (hE.lt (by rw [HEs.out]; omega)) hgt
      obtain ⟨a0, a1, a2, a3, a4, a5, a6, a7, a8, a9⟩ := en_words hE2 i hx
      obtain ⟨Au, ku, cu, hu⟩ := HUh.out x (List.mem_of_getElem? hx)
      rw [hu] at a0
      have he : x.e.toArray = #[.slice Au ku cu, .string x.K.r, .string x.K.f, .string x.K.q, .int .i64 x.K.t, .int .i64 x.K.k, .int .i64 x.K.vk, .int .i64 x.K.vn, .string x.K.s, .int .i64 (x.p : Int)] := by unfold En.e; rw [hu]
      have HD : Hid (ps.drop i = p :: ps.drop (i + 1)) := by
        obtain ⟨h1, rfl⟩ := List.getElem?_eq_some_iff.1 hp
        exact List.drop_eq_getElem_cons h1
      have HTk : Hid ((ps.take (i + 1)).flatten.length = (ps.take i).flatten.length + p.length) := by
        show _ = _
        rw [List.take_add_one, hp, List.flatten_append, List.length_append]
        simp
      have HTl : Hid ((ps.take (i + 1)).flatten.length ≤ 10000) := by
        have h2 : (ps.take (i + 1)).flatten.length ≤ ps.flatten.length := by
          rw [cut_parts ps (i + 1), List.length_append]; omega
        exact Nat.le_trans h2 hsum
      obtain ⟨P, hP⟩ : ∃ P, p.length = P := ⟨_, rfl⟩
      have HP := hid hP
      have HLx : Hid (∀ W, But w.heap.size t w W → Blk W t 92 #[vb, vi, .int .i64 ((k + i : Nat) : Int)] → Calls Tryz.prog 135 #[.pointer (some ⟨t, 0, none⟩), .agg #[.slice Au ku cu, .string x.K.r, .string x.K.f, .string x.K.q, .int .i64 x.K.t, .int .i64 x.K.k, .int .i64 x.K.vk, .int .i64 x.K.vn, .string x.K.s, .int .i64 (x.p : Int)]] W fun e w' => ∃ Ac cc, e = .returned (.tuple #[.slice Ac P cc, .bool true]) ∧ Hid (But W.heap.size t W w' ∧ Blk w' t 92 #[vb, vi, .int .i64 ((k + i + 1 : Nat) : Int)] ∧ CRow w' W.heap.size (.slice Ac P cc) p)) := fun W h1 h2 => by
        have h3 := HLh.out W i (k + i) x p hx hp (Nat.le_refl _) h1 h2
        rw [he] at h3
        refine h3.mono fun e w' ⟨v, e1, e2, e3, e4⟩ => ?_
        obtain ⟨Ac, cc, rfl, _⟩ := e4.len
        rw [hP] at e1 e4
        exact ⟨Ac, cc, e1, e2, e3, e4⟩
      have HG1 : Hid (Gt w (wr.alloc (.cells #[.slice Au ku cu, .string x.K.r, .string x.K.f, .string x.K.q, .int .i64 x.K.t, .int .i64 x.K.k, .int .i64 x.K.vk, .int .i64 x.K.vn, .string x.K.s, .int .i64 (x.p : Int)] 106)) t vb vi (k + i) (.slice Al n cl) l) := HI.out.2.1.below (below_new _ _)
      by_cases hmo : most ≤ (n : Int)
      · clear hx hp hE hE2 hP he hu
        go_wp2_with (fail)
        go_ret2
        obtain ⟨h1, _, h3, h4, _⟩ := HI.out
        rw [← h1] at hmo
        rw [HD.out, gath_stop hmo] at h3 h4
        have e4 : (gath f most ps []).2 = i := by rw [h4]; exact Nat.zero_add i
        refine ⟨_, rfl, ?_⟩
        rw [h3, e4]
        exact HG1.out
      · have hmo2 : (n : Int) < most := by omega
        clear hx hp hE hE2 hP he hu
        go_upto_region 9 with (go_at_call 135; refine (HLx.out _ HG1.out.but HG1.out.tb).mono ?_; rintro e w2 ⟨Ac, cc, rfl, h2⟩; have H2 := hid (look_gi htl HG1.out h2.out.1 h2.out.2.1 h2.out.2.2); clear h2)
        clear a0 a1 a2 a3 a4 a5 a6 a7 a8 a9
        have hPb : P ≤ 10000 := by have := HTl.out; have := HTk.out; have := HP.out; omega
        obtain ⟨wo, hwo⟩ : ∃ z, z = wr := ⟨_, rfl⟩
        subst hwo
        go_wp2_with (fail)
        go_loopw [10, 37] (fun vl2 vj wr2 => ∃ (j n2 : Nat) (Al2 : Option Addr) (cl2 : Nat) (l2 : List CT), j ≤ P ∧ vj = .int .i64 j ∧ vl2 = .slice Al2 n2 cl2 ∧ Hid (l2.length = n2 ∧ Gi w wr2 t vb vi (k + i + 1) (wo.heap.size + 1) (.slice Al2 n2 cl2) l2 (.slice Ac P cc) p ∧ gathIn f most p l = gathIn f most (p.drop j) l2 ∧ l2.length ≤ l.length + j)) (fun _ vj _ => P - (intOf vj).toNat)
        case atStart => exact ⟨0, n, Al, cl, l, Nat.zero_le _, rfl, rfl, HI.out.1, H2.out, by rw [List.drop_zero], by omega⟩
        case round =>
          obtain ⟨j, n2, Al2, cl2, l2, hj, rfl, rfl, HJ⟩ := hrel
          by_cases hjl : j < P
          · have hjz : (j : Int) < (P : Int) := by omega
            obtain ⟨c, hc⟩ : ∃ c, p[j]? = some c := ⟨_, List.getElem?_eq_getElem (by rw [HP.out]; exact hjl)⟩
            obtain ⟨gc, rfl⟩ := CRow.form HJ.out.2.1.c (by rw [HP.out]; omega)
            have hw := ct_words HJ.out.2.1.c.hc j hc
            simp only [Nat.zero_add] at hw
            obtain ⟨b0, b1, b2, b3, b4, b5, b6, b7⟩ := hw
            have HDj : Hid (p.drop j = c :: p.drop (j + 1)) := by
              obtain ⟨h1, rfl⟩ := List.getElem?_eq_some_iff.1 hc
              exact List.drop_eq_getElem_cons h1
            have HFc : Hid (∀ W, But w.heap.size t w W → Calls Tryz.prog 95 #[.agg #[.string c.r, .string c.f, .string c.q, .int .i64 c.t, .int .i64 c.k, .int .i64 c.vk, .int .i64 c.vn, .string c.s], p1] W fun e w' => e = .returned (.bool (f c)) ∧ Below W.heap.size W w') := fun W hW => HFh.out W c hW
            have HJ3 : Hid (Gi w (wr.alloc (.cells #[.string c.r, .string c.f, .string c.q, .int .i64 c.t, .int .i64 c.k, .int .i64 c.vk, .int .i64 c.vn, .string c.s] 26)) t vb vi (k + i + 1) (wo.heap.size + 1) (.slice Al2 n2 cl2) l2 (.slice (some ⟨gc, 0, none⟩) P cc) p) := HJ.out.2.1.below (below_new _ _)
            have hx3 := DW.words (Blk.new wr 26 #[.string c.r, .string c.f, .string c.q, .int .i64 c.t, .int .i64 c.k, .int .i64 c.vk, .int .i64 c.vn, .string c.s] : DW (wr.alloc (.cells #[.string c.r, .string c.f, .string c.q, .int .i64 c.t, .int .i64 c.k, .int .i64 c.vk, .int .i64 c.vn, .string c.s] 26)) wr.heap.size c)
            obtain ⟨y0, y1, y2, y3, y4, y5, y6, y7⟩ := hx3
            clear hc
            by_cases hq : (n2 : Int) < most
            · have HLen : Hid (l2.length ≤ 50000) := by
                have h1 := HJ.out.2.2.2; have h2 := HI.out.2.2.2.2; have := HTl.out; have := HTk.out; show _ ≤ _; omega
              have hq2 : (l2.length : Int) < most := by rw [HJ.out.1]; exact hq
              cases hfc : f c with
              | false =>
                rw [hfc] at HFc
                have HN : Hid (gathIn f most p l = gathIn f most (p.drop (j + 1)) l2) := by
                  have h1 := HJ.out.2.2.1
                  rw [HDj.out] at h1
                  rw [h1]
                  show gathIn f most (p.drop (j + 1)) (if _ then _ else _) = _
                  rw [if_neg (fun h => by rw [hfc] at h; cases h.2)]
                clear hfc hq2
                go_wp2_with (first
                  | (go_at_call 95; refine (HFc.out _ HJ3.out.g.but).mono ?_; rintro e w5 ⟨rfl, hb5⟩; have HJ5 := hid (HJ3.out.below hb5); clear hb5))
                go_roundw
                case rel => exact ⟨j + 1, n2, Al2, cl2, l2, by omega, by go_num, rfl, HJ.out.1, HJ5.out, HN.out, by have := HJ.out.2.2.2; omega⟩
                case measure => simp only [intOf]; omega
              | true =>
                rw [hfc] at HFc
                have HN : Hid (gathIn f most p l = gathIn f most (p.drop (j + 1)) (l2 ++ [c])) := by
                  have h1 := HJ.out.2.2.1
                  rw [HDj.out] at h1
                  rw [h1]
                  show gathIn f most (p.drop (j + 1)) (if _ then _ else _) = _
                  rw [if_pos ⟨hq2, hfc⟩]
                obtain ⟨n7, hn7⟩ : ∃ n7, (l2 ++ [c]).length = n7 := ⟨_, rfl⟩
                have HN7 := hid hn7
                clear hfc hq2 hn7
                go_wp2_with (first
                  | (go_at_call 95; refine (HFc.out _ HJ3.out.g.but).mono ?_; rintro e w5 ⟨rfl, hb5⟩; have HJ5 := hid (HJ3.out.below hb5); have z0 := (hb5.cell (cell_lt y0)).trans y0; have z1 := (hb5.cell (cell_lt y1)).trans y1; have z2 := (hb5.cell (cell_lt y2)).trans y2; have z3 := (hb5.cell (cell_lt y3)).trans y3; have z4 := (hb5.cell (cell_lt y4)).trans y4; have z5 := (hb5.cell (cell_lt y5)).trans y5; have z6 := (hb5.cell (cell_lt y6)).trans y6; have z7 := (hb5.cell (cell_lt y7)).trans y7; clear hb5)
                  | (at_builtin; refine wpList_append_cell_at rfl (.tmp 50) (.tmp 52) rfl _ w.heap.size _ l2 rfl (HJ5.out.g.row.below (below_new _ _)) _ 1 rfl c (ct_new c _ _) (by have := HLen.out; omega) (by have := HJ5.out.g.siz; simp; omega) ?_; intro v7 w7 h7 hg7 hd7; have HJ7 := hid ((HJ5.out.below (below_new _ _)).more htl h7 hg7 hd7); obtain ⟨A7, c7, e7, _⟩ := h7.len; rw [HN7.out] at e7; subst e7; clear h7 hg7 hd7))
                go_roundw
                case rel => exact ⟨j + 1, n7, A7, c7, l2 ++ [c], by omega, by go_num, rfl, HN7.out, HJ7.out, HN.out, by have := HJ.out.2.2.2; rw [List.length_append, List.length_singleton]; omega⟩
                case measure => simp only [intOf]; omega
            · have HN : Hid (gathIn f most p l = gathIn f most (p.drop (j + 1)) l2) := by
                have h1 := HJ.out.2.2.1
                rw [HDj.out] at h1
                have h2 : ¬ (l2.length : Int) < most := by rw [HJ.out.1]; exact hq
                rw [h1]
                show gathIn f most (p.drop (j + 1)) (if _ then _ else _) = _
                rw [if_neg (fun h => h2 h.1)]
              go_wp2_with (fail)
              go_roundw
              case rel => exact ⟨j + 1, n2, Al2, cl2, l2, by omega, by go_num, rfl, HJ.out.1, HJ3.out, HN.out, by have := HJ.out.2.2.2; omega⟩
              case measure => simp only [intOf]; omega
          · obtain rfl : j = P := by omega
            have hdj : p.drop j = [] := by rw [← HP.out, List.drop_length]
            go_wp2_with (fail)
            go_roundw
            case rel =>
              obtain ⟨h1, h2, h3, h4, h5⟩ := HI.out
              obtain ⟨g1, g2, g3, g4⟩ := HJ.out
              rw [hdj] at g3
              have hmo3 : ¬ most ≤ (l.length : Int) := by rw [h1]; omega
              rw [HD.out, gath_go hmo3, g3] at h3 h4
              refine ⟨i + 1, n2, Al2, cl2, l2, by omega, by go_num, rfl, g1, g2.g, h3, ?_, ?_⟩
              · rw [h4]
                show (gath f most (ps.drop (i + 1)) l2).2 + 1 + i = _
                omega
              · have := HTk.out; have := HP.out; omega
            case measure => simp only [intOf]; omega
    · obtain rfl : i = m := by omega
      have hd : ps.drop i = [] := by rw [← HPs.out, List.drop_length]
      go_wp2_with (fail)
      go_ret2
      obtain ⟨_, h2, h3, h4, _⟩ := HI.out
      rw [hd] at h3 h4
      have e4 : (gath f most ps []).2 = i := by rw [h4]; exact Nat.zero_add i
      refine ⟨_, rfl, ?_⟩
      rw [h3, e4]
      exact h2
end Go.Proofs.YtjbjdkginemedaaGreatDoor

/- (*table.Table).Cells. Conditions: the table and its index stand, each block is as the index tells. -/
namespace Go.Proofs.YtjbjdkginemedaaGreatDoor
open Go.RowKit

theorem gath_whole (m : Nat) : ∀ (ps : List (List CT)) (acc : List CT), acc.length + ps.flatten.length < m → (gath (fun _ => true) m ps acc) = (acc ++ ps.flatten, ps.length)
  | [], acc, _ => by show (acc, 0) = (acc ++ [], 0); rw [List.append_nil]
  | p :: ps, acc, h => by
    rw [List.flatten_cons, List.length_append] at h
    have h1 := gathIn_take (fun _ => true) m p acc (by omega)
    have hf : p.filter (fun _ => true) = p := List.filter_eq_self.2 fun _ _ => rfl
    rw [hf, List.take_of_length_le (by rw [List.length_append]; omega)] at h1
    rw [gath_go (by omega), h1.1, gath_whole m ps (acc ++ p) (by rw [List.length_append]; omega), List.flatten_cons, List.append_assoc]
    rfl
set_option maxRecDepth 100000 in
set_option maxHeartbeats 16000000 in
theorem cells_any9 (t : Nat) (vb : Value) (A : Option Addr) (m cap : Nat) (hm : m ≤ 1000000) (k : Nat) (es : List En) (ps : List (List CT)) (hes : es.length = m) (hps : ps.length = m) (hU : ∀ x ∈ es, ∃ Au ku cu, x.u = .slice Au ku cu) (hsum : ps.flatten.length ≤ 10000) (w : World)
    (ht : Blk w t 92 #[vb, .slice A m cap, .int .i64 (k : Int)]) (hA : 0 < m → ∃ g off, A = some ⟨g, off, none⟩ ∧ g ≠ t ∧ HE w g off es)
    (HL : ∀ W i j x p, es[i]? = some x → ps[i]? = some p → j ≤ k + i → But w.heap.size t w W → Blk W t 92 #[vb, .slice A m cap, .int .i64 (j : Int)] → Calls Tryz.prog 135 #[.pointer (some ⟨t, 0, none⟩), .agg x.e.toArray] W fun e w' => ∃ v, e = .returned (.tuple #[v, .bool true]) ∧ But W.heap.size t W w' ∧ Blk w' t 92 #[vb, .slice A m cap, .int .i64 ((j + 1 : Nat) : Int)] ∧ CRow w' W.heap.size v p) :
    Calls Tryz.prog 30 #[.pointer (some ⟨t, 0, none⟩)] w fun e w' => ∃ v, e = .returned (.tuple #[v, .int .i64 0]) ∧ Gt w w' t vb (.slice A m cap) (k + m) v ps.flatten := by
  have HG : Hid (Calls Tryz.prog 83 #[.pointer (some ⟨t, 0, none⟩), .slice A m cap, .int .i64 9223372036854775807, .func (.func 84) #[] #[]] w fun e w' => ∃ v, e = .returned (.tuple #[v, .int .i64 0]) ∧ Hid (Gt w w' t vb (.slice A m cap) (k + m) v ps.flatten)) := by
    have h1 := gather_all t vb (.slice A m cap) A m cap hm 9223372036854775807 k (fun _ => true) es ps hes hps hU hsum w ht hA (fun W c _ => letall_any c W) HL
    have h2 := gath_whole 9223372036854775807 ps [] (by rw [List.length_nil]; omega)
    have e : ((9223372036854775807 : Nat) : Int) = 9223372036854775807 := rfl
    rw [e] at h2
    rw [h2, hps] at h1
    exact h1
  have x1 := ht.cell 1
  clear ht hA HL hU
  go_enter Tryz.func30, Tryz.ntmps30
  go_wp2_with (go_at_call 83; refine HG.out.mono ?_; rintro e w6 ⟨v, rfl, h6⟩)
  go_ret2
  exact ⟨v, rfl, h6.out⟩
end Go.Proofs.YtjbjdkginemedaaGreatDoor

/- (*table.Table).From of a table with a block. Conditions: the table and its index stand, each block is as the index tells, the entries' cells rise. -/
namespace Go.Proofs.YtjbjdkginemedaaGreatDoor
open Go.RowKit

abbrev FrS (W1 : World) (t : Nat) (vi : Value) (W : World) : Prop := Hid (Below W1.heap.size W1 W ∧ t < W1.heap.size) ∧ W.cell? ⟨t, 1, none⟩ = some vi
theorem fr_drew {W1 W : World} {t : Nat} {vi : Value} (h : FrS W1 t vi W) : FrS W1 t vi W.drew := ⟨⟨h.1.out.1.drew, h.1.out.2⟩, h.2⟩
theorem fr_call {W1 W W' : World} {t : Nat} {vi : Value} (h : FrS W1 t vi W) (hb : Below W.heap.size W W') : FrS W1 t vi W' := by
  obtain ⟨⟨h1, h2⟩, h3⟩ := h
  exact ⟨⟨h1.trans (hb.mono h1.size), h2⟩, (hb.cell (p := ⟨t, 1, none⟩) (cell_lt h3)).trans h3⟩

set_option maxRecDepth 100000 in
set_option maxHeartbeats 16000000 in
theorem from_any9 (t : Nat) (vb : Value) (g off n cap : Nat) (hn : n ≤ 1000000) (hn0 : 0 < n) (hcap : n ≤ cap) (hgt : g ≠ t) (most : Int) (c : CT) (k : Nat) (es : List En) (ps : List (List CT)) (hes : es.length = n) (hps : ps.length = n) (hU : ∀ x ∈ es, ∃ Au ku cu, x.u = .slice Au ku cu) (hsum : ps.flatten.length ≤ 10000) (w : World)
    (P : Nat → Bool) (hPx : ∀ i x, es[i]? = some x → P i = decide (0 < CT.cmp x.K c)) (hP : ∀ i j, i ≤ j → j < n → P i = true → P j = true)
    (ht : Blk w t 92 #[vb, .slice (some ⟨g, off, none⟩) n cap, .int .i64 (k : Int)]) (hE : HE w g off es)
    (HL : ∀ W i j x p, es[i]? = some x → ps[i]? = some p → j ≤ k + i → But w.heap.size t w W → Blk W t 92 #[vb, .slice (some ⟨g, off, none⟩) n cap, .int .i64 (j : Int)] → Calls Tryz.prog 135 #[.pointer (some ⟨t, 0, none⟩), .agg x.e.toArray] W fun e w' => ∃ v, e = .returned (.tuple #[v, .bool true]) ∧ But W.heap.size t W w' ∧ Blk w' t 92 #[vb, .slice (some ⟨g, off, none⟩) n cap, .int .i64 ((j + 1 : Nat) : Int)] ∧ CRow w' W.heap.size v p) :
    Calls Tryz.prog 33 #[.pointer (some ⟨t, 0, none⟩), c.v, .int .i64 most] w fun e w' => ∃ v m, e = .returned (.tuple #[v, .int .i64 0]) ∧ At9 P n m ∧ Gt w w' t vb (.slice (some ⟨g, off, none⟩) n cap) (k + (gath (fun x => decide (0 ≤ CT.cmp x c)) most (ps.drop (m - 1)) []).2) v (gath (fun x => decide (0 ≤ CT.cmp x c)) most (ps.drop (m - 1)) []).1 := by
  have hmf : ∀ (fn : Fn) (first cap : Array Value) (w : World), (Instr.makeFunc fn first cap).run Tryz.prog w = .ok (.func fn first cap) w := fun _ _ _ _ => rfl
  have htl := ht.lt
  have hEl := hE.lt (by omega)
  obtain ⟨W1, hW1⟩ : ∃ W1, w.alloc (.cells #[.string c.r, .string c.f, .string c.q, .int .i64 c.t, .int .i64 c.k, .int .i64 c.vk, .int .i64 c.vn, .string c.s] 26) = W1 := ⟨_, rfl⟩
  have hb1 : Below w.heap.size w W1 := by rw [← hW1]; exact below_new _ _
  have hd1 : DW W1 w.heap.size c := by rw [← hW1]; exact Blk.new _ _ _
  have hs1 : w.heap.size < W1.heap.size := hd1.lt
  have HLN : Hid (∀ W, Below W1.heap.size W1 W → Calls Tryz.prog 91 #[.pointer (some ⟨t, 0, none⟩), .func (.func 94) #[] #[.pointer (some ⟨w.heap.size, 0, none⟩)]] W fun e w' => ∃ a : Nat, e = .returned (.int .i64 (a : Int)) ∧ a < n ∧ Hid (∃ m, a = m - 1 ∧ At9 P n m) ∧ Below W.heap.size W w') := fun W hW => by
    have hwW := hb1.trans (hW.mono (Nat.le_of_lt hs1))
    refine (lastnot_from1 t g off vb n cap hn k _ es hes P hP W (ht.keep hwW htl) (hE.below hwW hEl) fun W' i x hx hW' => ?_).mono fun e w' ⟨m, e1, e2, e3⟩ => ⟨m - 1, e1, by have := e2.1; omega, ⟨m, rfl, e2⟩, e3⟩
    rw [hPx i x hx]
    exact abovec_any x w.heap.size c W' (Blk.keep (Blk.keep hd1 hW hd1.lt) hW' (Nat.lt_of_lt_of_le hd1.lt hW.size))
  have HGa : Hid (∀ W a, a < n → Below W1.heap.size W1 W → Calls Tryz.prog 83 #[.pointer (some ⟨t, 0, none⟩), .slice (some ⟨g, off + a * 10, none⟩) (n - a) (cap - a), .int .i64 most, .func (.func 95) #[] #[.pointer (some ⟨w.heap.size, 0, none⟩)]] W fun e w' => ∃ v, e = .returned (.tuple #[v, .int .i64 0]) ∧ Hid (Gt W w' t vb (.slice (some ⟨g, off, none⟩) n cap) (k + (gath (fun x => decide (0 ≤ CT.cmp x c)) most (ps.drop a) []).2) v (gath (fun x => decide (0 ≤ CT.cmp x c)) most (ps.drop a) []).1)) := fun W a ha hW => by
    have hwW := hb1.trans (hW.mono (Nat.le_of_lt hs1))
    have hdW : DW W w.heap.size c := Blk.keep hd1 hW hd1.lt
    have h1 := gather_from t vb (.slice (some ⟨g, off, none⟩) n cap) (some ⟨g, off + a * 10, none⟩) (n - a) (cap - a) (by omega) most (.pointer (some ⟨w.heap.size, 0, none⟩)) k (fun x => decide (0 ≤ CT.cmp x c)) (es.drop a) (ps.drop a) (by rw [List.length_drop, hes]) (by rw [List.length_drop, hps]) (fun x hx => hU x (List.mem_of_mem_drop hx)) (by have h2 := hsum; rw [cut_parts ps a, List.length_append] at h2; omega) W (ht.keep hwW htl) (fun _ => ⟨g, off + a * 10, rfl, hgt, (hE.below hwW hEl).drop a⟩)
      (fun W' x hb => letfrom_any x c w.heap.size W' (blk_other hdW hb (Nat.lt_of_lt_of_le hs1 hW.size) (by omega)))
      (fun W' i j x p hx hp hj hb hbl => HL W' (a + i) j x p (by rw [← List.getElem?_drop]; exact hx) (by rw [← List.getElem?_drop]; exact hp) (by omega) ((But.of_below hwW t).trans (hb.mono hwW.size)) hbl)
    exact h1.mono fun e w' ⟨v, e1, e2⟩ => ⟨v, e1, e2⟩
  have ht1 := ht.keep hb1 htl
  have x1 := ht1.cell 1
  have HT0 : Hid (FrS W1 t (.slice (some ⟨g, off, none⟩) n cap) W1) := ⟨⟨Below.refl _ _, ht1.lt⟩, x1⟩
  have HB1 := hid hb1
  have HBl : Hid (∀ W, FrS W1 t (.slice (some ⟨g, off, none⟩) n cap) W → Below W1.heap.size W1 W) := fun W h => h.1.out.1
  have HS1 := hid hs1
  clear ht1 hb1 hd1 ht hE HL hU hPx hP hEl hs1
  go_enter Tryz.func33, Tryz.ntmps33
  go_upto_region 2 with (fail)
  go_region_held3 (fun W' => Hid (Below W1.heap.size W1 W' ∧ t < W1.heap.size) ∧ W'.cell? ⟨t, 1, none⟩ = some (.slice (some ⟨g, off, none⟩) n cap))
    (first | exact HT0.out | exact fr_drew HT0.out | exact fr_call (by assumption) hb5 | exact fr_drew (by assumption) | assumption)
    (first
      | (go_at_call 91; refine (HLN.out _ ?_).mono ?_; (first | exact HBl.out _ (by assumption) | exact (Below.refl _ _) | exact (Below.refl _ _).drew); rintro e w5 ⟨a, rfl, ha, HM, hb5⟩; have hz1 : (a : Int) ≤ (n : Int) := (by omega); have hz2 : (0 : Int) ≤ (a : Int) := (by omega); have hz3 : ¬ (cap = a) := (by omega); have hz4 : a ≤ n := (by omega)))
  rename_i hLast
  have H5 := hid hLast.1.out.1
  clear hLast
  have HG2 := hid (HGa.out _ a ha H5.out)
  clear HGa HLN
  go_wp2_with (go_at_call 83; refine HG2.out.mono ?_; rintro e w6 ⟨v, rfl, h6⟩)
  go_ret2
  obtain ⟨m, rfl, hat⟩ := HM.out
  refine ⟨v, m, rfl, hat, ?_⟩
  have hb := HB1.out.trans (H5.out.mono (Nat.le_of_lt HS1.out))
  exact ⟨(But.of_below hb t).trans (h6.out.but.mono hb.size), h6.out.tb, h6.out.row.le hb.size, Nat.le_trans hb.size h6.out.siz⟩
end Go.Proofs.YtjbjdkginemedaaGreatDoor
