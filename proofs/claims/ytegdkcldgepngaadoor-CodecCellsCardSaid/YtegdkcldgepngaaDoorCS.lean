/- The fixed rows of layer 3's laws are as they ask. Conditions: the tables of utf8 read as they are laid. -/
import Derived.Test.YtegdkcldgepngaaDoorCR
import Derived.Test.YtegdkcldgepngaaDoorCE
import Derived.Test.YtegdkcldgepngaaDoorSO
namespace Go.Proofs.YtegdkcldgepngaaDoor
open Go.RowKit

/-- A right cell comes back. -/
theorem DEnd.back {r f q vs : List UInt8} {t k vk vn : Int} {w w' : World} {e : Ending} (h : cRight r f q t k vk vn vs = true) (hi : inI vn) (hd : DEnd (cEnc r f q t k vk vn vs) w e w') : e = .returned (.tuple #[cellV ⟨r.toArray⟩ ⟨f.toArray⟩ ⟨q.toArray⟩ t k vk vn ⟨vs.toArray⟩, .bool true]) ∧ Below w.heap.size w w' := by
  rcases hd.2 with ⟨r', f', q', t', k', vk', vn', vs', h1, h2, h3, h4⟩ | ⟨h1, _⟩
  · obtain ⟨rfl, rfl, rfl, rfl, rfl, rfl, rfl, rfl⟩ := cEnc_one h1 h h2 hi h3
    exact ⟨h4, hd.1⟩
  · exact absurd rfl (h1 _ _ _ _ _ _ _ _ h hi)

abbrev aX : Array Value := #[.string ⟨#[114]⟩, .string ⟨#[102]⟩, .string ⟨#[113]⟩, .int .i64 5, .int .i64 1, .int .i64 1, .int .i64 0, .string ⟨#[]⟩]
abbrev bX : Array Value := #[.string ⟨#[114]⟩, .string ⟨#[102]⟩, .string ⟨#[113]⟩, .int .i64 4, .int .i64 1, .int .i64 1, .int .i64 0, .string ⟨#[]⟩]
structure AS (w W : World) (cb : Nat) : Prop where
  a : Blk W w.heap.size 25 aX
  b : Blk W (w.heap.size + 1) 25 bX
  c : Blk W cb 25 aX
  bw : Below w.heap.size w W
theorem AS.below {w W W' : World} {cb : Nat} (h : AS w W cb) (hb : Below W.heap.size W W') : AS w W' cb := ⟨h.a.keep hb h.a.lt, h.b.keep hb h.b.lt, h.c.keep hb h.c.lt, h.bw.trans (hb.mono h.bw.size)⟩

theorem fix_right : cRight [114] [102] [113] 5 1 1 0 [] = true := by decide +kernel
theorem fix_wrong : cRight [] [] [] 0 0 0 0 [] = false := by decide +kernel
theorem fix_tk : tk [172, 2, 7] = some (300, [7]) := by decide +kernel
theorem fix_num : numW 300 = [172, 2] := by
  rw [numW_big (by decide), numW_small (by decide)]; decide
theorem fix_ord : cOrd [114] [102] [113] 5 1 [114] [102] [113] 4 1 = -1 := by decide +kernel

set_option maxRecDepth 100000 in
set_option maxHeartbeats 4000000 in
theorem calive_any (w : World) (hL : LaidU w) :
    Calls Tryd.prog 9 #[] w fun e w' => e = .returned (.bool true) ∧ Below w.heap.size w w' := by
  have HEn : Hid (∀ W, Below w.heap.size w W → Calls Tryd.prog 13 #[.agg aX] W fun e w' => ∃ v, e = .returned (.tuple #[v, .bool true]) ∧ Row w' W.heap.size v (cEnc [114] [102] [113] 5 1 1 0 []) ∧ Below W.heap.size W w') :=
    fun W hW => encode_yes ⟨#[114]⟩ ⟨#[102]⟩ ⟨#[113]⟩ ⟨#[]⟩ 5 1 1 (vn := 0) (by unfold inI; omega) (by decide) (by decide) W (hL.below hW) fix_right
  have hlen : (cEnc [114] [102] [113] 5 1 1 0 []).length ≤ 4000 := by decide +kernel
  have HDe : Hid (∀ (W : World) (A : Option Addr) (c : Nat), Below w.heap.size w W → HoldsA W A (cEnc [114] [102] [113] 5 1 1 0 []) → (cEnc [114] [102] [113] 5 1 1 0 []).length ≤ c → c ≤ 9223372036854775807 → Calls Tryd.prog 21 #[.slice A (cEnc [114] [102] [113] 5 1 1 0 []).length c] W fun e w' => e = .returned (.tuple #[.agg aX, .bool true]) ∧ Below W.heap.size W w') :=
    fun W A c hW hA h1 h2 => (cdecode_any A c _ hlen h1 h2 W hA (hL.below hW)).mono fun e w' h => h.back fix_right (by unfold inI; omega)
  have HTk : Hid (∀ (W : World) (bb : Nat), bb = W.heap.size → Calls Tryd.prog 23 #[.slice (some ⟨bb, 0, none⟩) 3 3] (W.alloc (.cells #[.int .u8 172, .int .u8 2, .int .u8 7] 5)) fun e w' => ∃ g c, e = .returned (.tuple #[.int .i64 300, .slice (some ⟨g, 0, none⟩) 1 c, .bool true]) ∧ Below (W.alloc (.cells #[.int .u8 172, .int .u8 2, .int .u8 7] 5)).heap.size (W.alloc (.cells #[.int .u8 172, .int .u8 2, .int .u8 7] 5)) w') := by
    intro W bb hbb
    subst hbb
    have hB : Blk (W.alloc (.cells #[.int .u8 172, .int .u8 2, .int .u8 7] 5)) W.heap.size 5 #[.int .u8 172, .int .u8 2, .int .u8 7] := Blk.new W _ _
    have hA : HoldsA (W.alloc (.cells #[.int .u8 172, .int .u8 2, .int .u8 7] 5)) (some ⟨W.heap.size, 0, none⟩) [172, 2, 7] := fun _ => ⟨_, _, rfl, fun i hi => by
      rw [Nat.zero_add, hB.cell i]
      match i, hi with
      | 0, _ => rfl
      | 1, _ => rfl
      | 2, _ => rfl⟩
    have h := take_any (some ⟨W.heap.size, 0, none⟩) 3 [172, 2, 7] (by decide) (by decide) (by decide) _ hA
    rw [fix_tk] at h
    refine h.mono ?_
    rintro e w' ⟨v, rfl, hR, hb⟩
    obtain ⟨g, c, rfl, _⟩ := hR.form (by decide)
    exact ⟨g, c, rfl, hb⟩
  have HOr : Hid (∀ W : World, Calls Tryd.prog 17 #[.agg aX, .agg bX] W fun e w' => e = .returned (.int .i64 (-1)) ∧ Below W.heap.size W w') := fun W => by
    have h := corder_any ⟨#[114]⟩ ⟨#[102]⟩ ⟨#[113]⟩ ⟨#[]⟩ 5 1 1 0 ⟨#[114]⟩ ⟨#[102]⟩ ⟨#[113]⟩ ⟨#[]⟩ 4 1 1 0 W
    rwa [show cOrd (⟨#[114]⟩ : ByteArray).data.toList (⟨#[102]⟩ : ByteArray).data.toList (⟨#[113]⟩ : ByteArray).data.toList 5 1 (⟨#[114]⟩ : ByteArray).data.toList (⟨#[102]⟩ : ByteArray).data.toList (⟨#[113]⟩ : ByteArray).data.toList 4 1 = -1 from fix_ord] at h
  have HNu : Hid (∀ W : World, Calls Tryd.prog 30 #[.int .i64 300] W fun e w' => ∃ v, e = .returned v ∧ Row w' W.heap.size v [172, 2] ∧ Below W.heap.size W w') := fun W => by
    have h := num_any 300 (by decide) W
    rwa [fix_num] at h
  have HSm : Hid (∀ (W : World) (v : Value) (B : Nat), Row W B v [172, 2] → Calls Tryd.prog 19 #[v, .slice (some ⟨W.heap.size, 0, none⟩) 2 2] (W.alloc (.cells #[.int .u8 172, .int .u8 2] 5)) fun e w' => e = .returned (.bool true) ∧ Below (W.alloc (.cells #[.int .u8 172, .int .u8 2] 5)).heap.size (W.alloc (.cells #[.int .u8 172, .int .u8 2] 5)) w') := by
    intro W v B hR
    have hR2 : Row (W.alloc (.cells #[.int .u8 172, .int .u8 2] 5)) W.heap.size (.slice (some ⟨W.heap.size, 0, none⟩) 2 2) [172, 2] := Row.new W _ (Nat.le_refl _) [172, 2] (by unfold maxLen; decide)
    exact same_sla v _ [172, 2] [172, 2] (by decide) _ (hR.alloc _).sla hR2.sla
  have HRi : Hid (∀ W, Below w.heap.size w W → Calls Tryd.prog 15 #[.agg aX] W fun e w' => e = .returned (.bool true) ∧ Below W.heap.size W w') := fun W hW => by
    have h := cright_any ⟨#[114]⟩ ⟨#[102]⟩ ⟨#[113]⟩ ⟨#[]⟩ 5 1 1 (vn := 0) (by unfold inI; omega) (by decide) (by decide) W (hL.below hW)
    rwa [show cRight (⟨#[114]⟩ : ByteArray).data.toList (⟨#[102]⟩ : ByteArray).data.toList (⟨#[113]⟩ : ByteArray).data.toList 5 1 1 0 (⟨#[]⟩ : ByteArray).data.toList = true from fix_right] at h
  have HRz : Hid (∀ W, Below w.heap.size w W → Calls Tryd.prog 15 #[cellV ⟨#[]⟩ ⟨#[]⟩ ⟨#[]⟩ 0 0 0 0 ⟨#[]⟩] W fun e w' => e = .returned (.bool false) ∧ Below W.heap.size W w') := fun W hW => by
    have h := cright_any ⟨#[]⟩ ⟨#[]⟩ ⟨#[]⟩ ⟨#[]⟩ 0 0 0 (vn := 0) (by unfold inI; omega) (by decide) (by decide) W (hL.below hW)
    rwa [show cRight (⟨#[]⟩ : ByteArray).data.toList (⟨#[]⟩ : ByteArray).data.toList (⟨#[]⟩ : ByteArray).data.toList 0 0 0 0 (⟨#[]⟩ : ByteArray).data.toList = false from fix_wrong] at h
  obtain ⟨L, hLL⟩ : ∃ L, cEnc [114] [102] [113] 5 1 1 0 [] = L := ⟨_, rfl⟩
  rw [hLL] at HEn HDe
  clear hL hlen hLL
  go_enter Tryd.func9, Tryd.ntmps9
  go_upto_region 4 with (fail)
  refine wp_ltr (fun W => Hid (Blk W w.heap.size 25 aX ∧ Blk W (w.heap.size + 1) 25 bX ∧ Below w.heap.size w W) ∧ W.cell? ⟨w.heap.size, 0, none⟩ = some (.string ⟨#[114]⟩) ∧ W.cell? ⟨w.heap.size, 1, none⟩ = some (.string ⟨#[102]⟩) ∧ W.cell? ⟨w.heap.size, 2, none⟩ = some (.string ⟨#[113]⟩) ∧ W.cell? ⟨w.heap.size, 3, none⟩ = some (.int .i64 5) ∧ W.cell? ⟨w.heap.size, 4, none⟩ = some (.int .i64 1) ∧ W.cell? ⟨w.heap.size, 5, none⟩ = some (.int .i64 1) ∧ W.cell? ⟨w.heap.size, 6, none⟩ = some (.int .i64 0) ∧ W.cell? ⟨w.heap.size, 7, none⟩ = some (.string ⟨#[]⟩)) ?_ (fun W hW => ?_)
  · have B0 : Blk (w.alloc (.cells aX 25)) w.heap.size 25 aX := Blk.new w _ _
    have B1 := B0.keep (below_new _ (.cells bX 25)) (by simp)
    have B2 : Blk ((w.alloc (.cells aX 25)).alloc (.cells bX 25)) (w.heap.size + 1) 25 bX := by have := Blk.new (w.alloc (.cells aX 25)) 25 bX; simpa using this
    exact ⟨⟨B1, B2, (below_new w _).alloc (by simp) _⟩, B1.cell 0, B1.cell 1, B1.cell 2, B1.cell 3, B1.cell 4, B1.cell 5, B1.cell 6, B1.cell 7⟩
  obtain ⟨HW, a0, a1, a2, a3, a4, a5, a6, a7⟩ := hW
  go_upto_region 5 with (first
    | (go_at_call 13; refine (HEn.out _ HW.out.2.2).mono ?_; rintro e w1 ⟨v1, rfl, hR1, hb1⟩; obtain ⟨A1, c1, rfl, hc1, hc1', hA1, _⟩ := hR1.sla; have HW1 := hid (HW.out.2.2.trans (hb1.mono HW.out.2.2.size)))
    )
  clear a0 a1 a2 a3 a4 a5 a6 a7
  go_upto_region 6 with (first
    | (go_at_call 21; refine (HDe.out _ A1 c1 HW1.out hA1 hc1 hc1').mono ?_; rintro e w2 ⟨rfl, hb2⟩)
    )
  go_upto_region 7 with (first
    | (go_at_call 23; refine (HTk.out (w2.alloc (.cells aX 25)) (w2.heap.size + 1) (by simp)).mono ?_; rintro e w3 ⟨g3, c3, rfl, hb3⟩))
  obtain ⟨cb, hcb⟩ : ∃ cb, w2.heap.size = cb := ⟨_, rfl⟩
  refine wp_ltr (fun W => Hid (AS w W cb) ∧ W.cell? ⟨w.heap.size, 0, none⟩ = some (.string ⟨#[114]⟩) ∧ W.cell? ⟨w.heap.size, 1, none⟩ = some (.string ⟨#[102]⟩) ∧ W.cell? ⟨w.heap.size, 2, none⟩ = some (.string ⟨#[113]⟩) ∧ W.cell? ⟨w.heap.size, 3, none⟩ = some (.int .i64 5) ∧ W.cell? ⟨w.heap.size, 4, none⟩ = some (.int .i64 1) ∧ W.cell? ⟨w.heap.size, 5, none⟩ = some (.int .i64 1) ∧ W.cell? ⟨w.heap.size, 6, none⟩ = some (.int .i64 0) ∧ W.cell? ⟨w.heap.size, 7, none⟩ = some (.string ⟨#[]⟩) ∧ W.cell? ⟨(w.heap.size + 1), 0, none⟩ = some (.string ⟨#[114]⟩) ∧ W.cell? ⟨(w.heap.size + 1), 1, none⟩ = some (.string ⟨#[102]⟩) ∧ W.cell? ⟨(w.heap.size + 1), 2, none⟩ = some (.string ⟨#[113]⟩) ∧ W.cell? ⟨(w.heap.size + 1), 3, none⟩ = some (.int .i64 4) ∧ W.cell? ⟨(w.heap.size + 1), 4, none⟩ = some (.int .i64 1) ∧ W.cell? ⟨(w.heap.size + 1), 5, none⟩ = some (.int .i64 1) ∧ W.cell? ⟨(w.heap.size + 1), 6, none⟩ = some (.int .i64 0) ∧ W.cell? ⟨(w.heap.size + 1), 7, none⟩ = some (.string ⟨#[]⟩) ∧ W.cell? ⟨cb, 0, none⟩ = some (.string ⟨#[114]⟩) ∧ W.cell? ⟨cb, 1, none⟩ = some (.string ⟨#[102]⟩) ∧ W.cell? ⟨cb, 2, none⟩ = some (.string ⟨#[113]⟩) ∧ W.cell? ⟨cb, 3, none⟩ = some (.int .i64 5) ∧ W.cell? ⟨cb, 4, none⟩ = some (.int .i64 1) ∧ W.cell? ⟨cb, 5, none⟩ = some (.int .i64 1) ∧ W.cell? ⟨cb, 6, none⟩ = some (.int .i64 0) ∧ W.cell? ⟨cb, 7, none⟩ = some (.string ⟨#[]⟩)) ?_ (fun W7 hW7 => ?_)
  · have B2 : Blk w2 w.heap.size 25 aX := ((HW.out.1.keep hb1 HW.out.1.lt).keep hb2 (HW.out.1.keep hb1 HW.out.1.lt).lt)
    have B2' : Blk w2 (w.heap.size + 1) 25 bX := ((HW.out.2.1.keep hb1 HW.out.2.1.lt).keep hb2 (HW.out.2.1.keep hb1 HW.out.2.1.lt).lt)
    have HB2 : Below w.heap.size w w2 := HW1.out.trans (hb2.mono HW1.out.size)
    have A0 : AS w (w2.alloc (.cells aX 25)) cb := ⟨B2.keep (below_new _ _) B2.lt, B2'.keep (below_new _ _) B2'.lt, by rw [← hcb]; exact Blk.new w2 _ _, HB2.alloc HB2.size _⟩
    have A3 : AS w w3 cb := (A0.below (below_new _ _)).below hb3
    exact ⟨A3, A3.a.cell 0, A3.a.cell 1, A3.a.cell 2, A3.a.cell 3, A3.a.cell 4, A3.a.cell 5, A3.a.cell 6, A3.a.cell 7, A3.b.cell 0, A3.b.cell 1, A3.b.cell 2, A3.b.cell 3, A3.b.cell 4, A3.b.cell 5, A3.b.cell 6, A3.b.cell 7, A3.c.cell 0, A3.c.cell 1, A3.c.cell 2, A3.c.cell 3, A3.c.cell 4, A3.c.cell 5, A3.c.cell 6, A3.c.cell 7⟩
  rw [hcb]
  obtain ⟨HA, a0, a1, a2, a3, a4, a5, a6, a7, b0, b1, b2, b3, b4, b5, b6, b7, c0, c1, c2, c3, c4, c5, c6, c7⟩ := hW7
  clear hcb hb1 hb2 hb3 HW HW1 hR1 hc1 hc1' hA1 HEn HDe HTk
  go_wp2_with (first
    | (go_at_call 17; refine (HOr.out _).mono ?_; rintro e w1 ⟨rfl, hb1⟩; have HA1 := hid (HA.out.below hb1))
    | (go_at_call 30; refine (HNu.out _).mono ?_; rintro e w2 ⟨v2, rfl, hR2, hb2⟩; have HA2 := hid (HA1.out.below hb2))
    | (go_at_call 19; refine (HSm.out _ _ _ hR2).mono ?_; rintro e w3 ⟨rfl, hb3⟩; have HA3 := hid ((HA2.out.below (below_new _ _)).below hb3); have d0 : w3.cell? ⟨w.heap.size, 0, none⟩ = some (.string ⟨#[114]⟩) := HA3.out.a.cell 0; have d1 : w3.cell? ⟨w.heap.size, 1, none⟩ = some (.string ⟨#[102]⟩) := HA3.out.a.cell 1; have d2 : w3.cell? ⟨w.heap.size, 2, none⟩ = some (.string ⟨#[113]⟩) := HA3.out.a.cell 2; have d3 : w3.cell? ⟨w.heap.size, 3, none⟩ = some (.int .i64 5) := HA3.out.a.cell 3; have d4 : w3.cell? ⟨w.heap.size, 4, none⟩ = some (.int .i64 1) := HA3.out.a.cell 4; have d5 : w3.cell? ⟨w.heap.size, 5, none⟩ = some (.int .i64 1) := HA3.out.a.cell 5; have d6 : w3.cell? ⟨w.heap.size, 6, none⟩ = some (.int .i64 0) := HA3.out.a.cell 6; have d7 : w3.cell? ⟨w.heap.size, 7, none⟩ = some (.string ⟨#[]⟩) := HA3.out.a.cell 7)
    | (go_at_call 15; ((with_reducible refine (HRi.out w3 HA3.out.bw).mono ?_); rintro e w4 ⟨rfl, hb4⟩; have HA4 := hid (HA3.out.below hb4)))
    | (go_at_call 15; ((with_reducible refine (HRz.out w4 HA4.out.bw).mono ?_); rintro e w5 ⟨rfl, hb5⟩; have HA5 := hid (HA4.out.below hb5))))
  go_ret
  exact ⟨rfl, HA5.out.bw⟩
end Go.Proofs.YtegdkcldgepngaaDoor
