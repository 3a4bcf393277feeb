/- Several texts in one: TF TG TH TI TK. Conditions: as each theorem names them. -/
import Derived.Test.YtjbjdkginemedaaGreatDoorQT0
import Derived.Test.YtjbjdkginemedaaGreatDoorNK
import Derived.Test.YtjbjdkginemedaaGreatDoorQD
import Derived.Test.YtjbjdkginemedaaGreatDoorQ4
import Derived.Test.YtjbjdkginemedaaGreatDoorQC
/- table.cellOf at the key of every right cell. Conditions: the bytes stand; the tables of utf8 read as they are laid. -/
namespace Go.Proofs.YtjbjdkginemedaaGreatDoor
open Go.RowKit

/-- What the walk of cellOf knows: the key stands, a cell of the call's own is laid. -/
structure Cf (w W : World) (A : Option Addr) (k : List UInt8) (xb : Nat) (X : CT) : Prop where
  bel : Below w.heap.size w W
  key : HoldsA W A k
  out : Blk W w.heap.size 26 zeroA
  box : Blk W xb 26 X.e.toArray
  ne : w.heap.size < xb
theorem Cf.below {w W W' : World} {A : Option Addr} {k : List UInt8} {xb : Nat} {X : CT} (h : Cf w W A k xb X) (hb : Below W.heap.size W W') : Cf w W' A k xb X :=
  ⟨h.bel.trans (hb.mono h.bel.size), h.key.below hb, h.out.keep hb h.out.lt, h.box.keep hb h.box.lt, h.ne⟩

set_option maxRecDepth 100000 in
set_option maxHeartbeats 8000000 in
theorem cellof_other (A : Option Addr) (cap : Nat) (c : CT) (hc : Bc c) (hk : ¬ c.k = 1) (w : World) (hcap : (keyL c).length ≤ cap) (hcap2 : cap ≤ 9223372036854775807) (h : HoldsA w A (keyL c)) (hL : LaidU w) :
    Calls Tryz.prog 162 #[.slice A (keyL c).length cap] w fun e w' => e = .returned (.tuple #[(kc c).v, .bool true]) ∧ Below w.heap.size w w' := by
  have mixed : Tryz.prog.follows .mixedOrders = true := by kernel_rfl
  have he : encB c = keyL c := by rw [encB_is, if_neg hk, List.append_nil]
  have hl := (bc_small hc).1
  obtain ⟨kl, hkl⟩ : ∃ kl, (keyL c).length = kl := ⟨_, rfl⟩
  have HD : Hid (∀ W, Below w.heap.size w W → HoldsA W A (keyL c) → Calls Tryz.prog 117 #[.slice A kl cap] W fun e w' => e = .returned (.tuple #[c.v, .bool true]) ∧ Below W.heap.size W w') := fun W hW hh => by
    rw [← hkl]
    refine (dec_any A cap (keyL c) (by omega) hcap hcap2 W hh (hL.below hW)).mono fun e w' ⟨x, ok, e1, e2, _, e3⟩ => ?_
    rcases e3 with ⟨rfl, e4, e5⟩ | ⟨_, e4, _⟩
    · obtain rfl := enc_one e4 hc (e5.trans he.symm)
      exact ⟨e1, e2⟩
    · exact absurd he (e4 _ _ _ _ _ _ _ _ hc.1 hc.2.1)
  have HK : Hid (∀ W, Below w.heap.size w W → Calls Tryz.prog 39 #[c.v] W fun e w' => ∃ Ak ck, e = .returned (.tuple #[.slice Ak kl ck, .bool true]) ∧ Hid (HoldsA w' Ak (keyL c) ∧ Below W.heap.size W w')) := fun W hW => by
    refine (keyc_yes c (bc_ok hc) hc.1 W (hL.below hW)).mono fun e w' ⟨v, he, hr, hb⟩ => ?_
    obtain ⟨Ak, ck, rfl, _, _, hh, _⟩ := hr.sla
    rw [hkl] at he
    exact ⟨Ak, ck, he, hh, hb⟩
  have HE : Hid (∀ W A1 c1, HoldsA W A1 (keyL c) → HoldsA W A (keyL c) → Calls Tryz.prog 118 #[.slice A1 kl c1, .slice A kl cap] W fun e w' => e = .returned (.bool true) ∧ w' = W) := fun W A1 c1 h1 h2 => by
    rw [← hkl]
    refine (equal_any A1 A c1 cap _ _ W h1 h2).mono fun e w' ⟨e1, e2⟩ => ⟨by rw [e1]; simp, e2⟩
  have H0 : Hid (Below w.heap.size w (w.alloc (.cells zeroA 26)) ∧ HoldsA (w.alloc (.cells zeroA 26)) A (keyL c) ∧ Blk (w.alloc (.cells zeroA 26)) w.heap.size 26 zeroA) := ⟨below_new _ _, h.below (below_new _ _), Blk.new _ _ _⟩
  rw [hkl]
  rw [kc_other hk]
  clear hL h hl hcap hcap2 he hkl
  go_enter Tryz.func162, Tryz.ntmps162
  go_upto_region 2 with (go_at_call 117; refine (HD.out _ H0.out.1 H0.out.2.1).mono ?_; rintro e w1 ⟨rfl, hb1⟩; have H1 := hid (And.intro (H0.out.1.trans (hb1.mono H0.out.1.size)) (And.intro (H0.out.2.1.below hb1) (H0.out.2.2.keep hb1 H0.out.2.2.lt))); clear hb1)
  obtain ⟨xb, hxb⟩ : ∃ xb, w1.heap.size = xb := ⟨_, rfl⟩
  obtain ⟨W5, hW5⟩ : ∃ W5, w1.alloc (.cells #[.string c.r, .string c.f, .string c.q, .int .i64 c.t, .int .i64 c.k, .int .i64 c.vk, .int .i64 c.vn, .string c.s] 26) = W5 := ⟨_, rfl⟩
  have HW : Hid (Cf w W5 A (keyL c) xb c) := by
    rw [← hW5, ← hxb]
    have hb := below_new w1 (.cells #[.string c.r, .string c.f, .string c.q, .int .i64 c.t, .int .i64 c.k, .int .i64 c.vk, .int .i64 c.vn, .string c.s] 26)
    exact ⟨H1.out.1.trans (hb.mono H1.out.1.size), H1.out.2.1.below hb, H1.out.2.2.keep hb H1.out.2.2.lt, Blk.new w1 _ _, H1.out.2.2.lt⟩
  rw [hW5, hxb]
  clear hW5 hxb H0 HD H1
  obtain ⟨y0, y1, y2, y3, y4, y5, y6, y7⟩ := blkc_words HW.out.box
  go_upto_region 6 with (go_at_call 39; refine (HK.out _ HW.out.bel).mono ?_; rintro e w6 ⟨Ak, ck, rfl, h6⟩; have H6 := hid (And.intro (HW.out.below h6.out.2) h6.out.1); clear h6)
  clear y0 y1 y2 y3 y4 y5 y6 y7
  have HS := hid (HE.out w6.drew _ ck (H6.out.2.below (Below.refl _ w6).drew) (H6.out.1.key.below (Below.refl _ w6).drew))
  have H7 := hid (H6.out.1.below (Below.refl _ w6).drew)
  clear HE
  go_upto_region 6 with (fail)
  obtain ⟨y0, y1, y2, y3, y4, y5, y6, y7⟩ := blkc_words H6.out.1.box
  obtain ⟨z0, z1, z2, z3, z4, z5, z6, z7⟩ := blkc_words (X := default) H6.out.1.out
  have fz : ∀ j, w6.frozen? ⟨w.heap.size, j, none⟩ = false := fun j => H6.out.1.out.free j
  have hn : w.heap.size ≠ xb := by have := H6.out.1.ne; omega
  have hn2 : xb ≠ w.heap.size := fun e => hn e.symm
  go_region_law (go_simp; go_at_call 118; refine HS.out.mono ?_; rintro e w7 ⟨rfl, rfl⟩)
  all_goals (
    go_wp2
    refine bodyPost_ret (v := .tuple #[c.v, .bool true]) (by simp [results, Tryz.results162, go_sem, cell_set_same, z0, z1, z2, z3, z4, z5, z6, z7]) rfl ?_
    refine ⟨rfl, ?_⟩
    exact ((((((((H6.out.1.bel.setCell (p := ⟨w.heap.size, 0, none⟩) (Nat.le_refl _) _).setCell (p := ⟨w.heap.size, 1, none⟩) (Nat.le_refl _) _).setCell (p := ⟨w.heap.size, 2, none⟩) (Nat.le_refl _) _).setCell (p := ⟨w.heap.size, 3, none⟩) (Nat.le_refl _) _).setCell (p := ⟨w.heap.size, 4, none⟩) (Nat.le_refl _) _).setCell (p := ⟨w.heap.size, 5, none⟩) (Nat.le_refl _) _).setCell (p := ⟨w.heap.size, 6, none⟩) (Nat.le_refl _) _).setCell (p := ⟨w.heap.size, 7, none⟩) (Nat.le_refl _) _).drew)

theorem blk_other {W W' : World} {n g xb : Nat} {T : TypeId} {cs : Array Value} (h : Blk W g T cs) (hb : But n xb W W') (hlt : g < n) (hne : g ≠ xb) : Blk W' g T cs := by
  unfold Blk at h ⊢
  rw [hb.block g hlt hne]
  exact h
theorem box_set8 {W : World} {xb : Nat} {Y : CT} (X : CT) (h : Blk W xb 26 Y.e.toArray) : Blk ((((((((W.setCell ⟨xb, 0, none⟩ (.string X.r)).setCell ⟨xb, 1, none⟩ (.string X.f)).setCell ⟨xb, 2, none⟩ (.string X.q)).setCell ⟨xb, 3, none⟩ (.int .i64 X.t)).setCell ⟨xb, 4, none⟩ (.int .i64 X.k)).setCell ⟨xb, 5, none⟩ (.int .i64 X.vk)).setCell ⟨xb, 6, none⟩ (.int .i64 X.vn)).setCell ⟨xb, 7, none⟩ (.string X.s)) xb 26 X.e.toArray ∧ But W.heap.size xb W ((((((((W.setCell ⟨xb, 0, none⟩ (.string X.r)).setCell ⟨xb, 1, none⟩ (.string X.f)).setCell ⟨xb, 2, none⟩ (.string X.q)).setCell ⟨xb, 3, none⟩ (.int .i64 X.t)).setCell ⟨xb, 4, none⟩ (.int .i64 X.k)).setCell ⟨xb, 5, none⟩ (.int .i64 X.vk)).setCell ⟨xb, 6, none⟩ (.int .i64 X.vn)).setCell ⟨xb, 7, none⟩ (.string X.s)) := by
  refine ⟨?_, (((((((((But.refl _ _ _).setCell 0 _).setCell 1 _).setCell 2 _).setCell 3 _).setCell 4 _).setCell 5 _).setCell 6 _).setCell 7 _)⟩
  have e : ((((((((Y.e.toArray.setIfInBounds 0 (.string X.r)).setIfInBounds 1 (.string X.f)).setIfInBounds 2 (.string X.q)).setIfInBounds 3 (.int .i64 X.t)).setIfInBounds 4 (.int .i64 X.k)).setIfInBounds 5 (.int .i64 X.vk)).setIfInBounds 6 (.int .i64 X.vn)).setIfInBounds 7 (.string X.s)) = X.e.toArray := by simp [CT.e]
  rw [← e]
  have m0 := h.set 0 (.string X.r)
  have m1 := m0.set 1 (.string X.f)
  have m2 := m1.set 2 (.string X.q)
  have m3 := m2.set 3 (.int .i64 X.t)
  have m4 := m3.set 4 (.int .i64 X.k)
  have m5 := m4.set 5 (.int .i64 X.vk)
  have m6 := m5.set 6 (.int .i64 X.vn)
  exact m6.set 7 (.string X.s)

set_option maxRecDepth 100000 in
set_option maxHeartbeats 8000000 in
theorem cellof_put (A : Option Addr) (cap : Nat) (c : CT) (hc : Bc c) (hk : c.k = 1) (w : World) (hcap : (keyL c).length ≤ cap) (hcap2 : cap ≤ 9223372036854775807) (h : HoldsA w A (keyL c)) (hL : LaidU w) :
    Calls Tryz.prog 162 #[.slice A (keyL c).length cap] w fun e w' => e = .returned (.tuple #[(kc c).v, .bool true]) ∧ Below w.heap.size w w' := by
  have mixed : Tryz.prog.follows .mixedOrders = true := by kernel_rfl
  have he := kc_enc hk
  have hck := kc_key c
  have hcb := kc_bc hc
  have hno := put_no hk
  have hl := (bc_small hc).1
  obtain ⟨V, hV⟩ : ∃ V, vEnc 4 0 [] = V := ⟨_, rfl⟩
  have hV2 : V.length = 2 := by rw [← hV]; rfl
  obtain ⟨K, hK⟩ : ∃ K, kc c = K := ⟨_, rfl⟩
  obtain ⟨L, hLk⟩ : ∃ L, keyL c = L := ⟨_, rfl⟩
  rw [hV] at he
  rw [hK] at he hck hcb ⊢
  rw [hLk] at he hck hno hl hcap h ⊢
  obtain ⟨kl, hkl⟩ : ∃ kl, L.length = kl := ⟨_, rfl⟩
  have HD : Hid (∀ W, Below w.heap.size w W → Calls Tryz.prog 117 #[.slice A kl cap] W fun e w' => ∃ X : CT, e = .returned (.tuple #[X.v, .bool false]) ∧ Below W.heap.size W w') := fun W hW => by
    rw [← hkl]
    refine (dec_any A cap L (by omega) hcap hcap2 W (h.below hW) (hL.below hW)).mono fun e w' ⟨x, ok, e1, e2, _, e3⟩ => ?_
    rcases e3 with ⟨rfl, e4, e5⟩ | ⟨rfl, _, _⟩
    · exact absurd e5 (hno _ _ _ _ _ _ _ _ e4.1 e4.2.1)
    · exact ⟨x, e1, e2⟩
  have HEn : Hid (∀ W, Below w.heap.size w W → Calls Tryz.prog 43 #[.agg #[.int .i64 4, .int .i64 0, .string ⟨#[]⟩]] W fun e w' => ∃ A2 c2, e = .returned (.tuple #[.slice A2 2 c2, .bool true]) ∧ Hid (SlA w' (.slice A2 2 c2) V ∧ Below W.heap.size W w')) := fun W hW => by
    refine (vencode_yes 4 (by unfold inI; decide) ⟨#[]⟩ (by decide) rfl W (hL.below hW)).mono fun e w' ⟨v, e1, e2, e3⟩ => ?_
    have e4 : SlA w' v V := by rw [← hV]; exact e2.sla
    have e4b := e4
    obtain ⟨A2, c2, rfl, _⟩ := e4b
    rw [hV2] at e1 e4
    exact ⟨A2, c2, e1, e4, e3⟩
  have HCo : Hid (∀ W A2 c2, Below w.heap.size w W → SlA W (.slice A2 2 c2) V → Calls Tryz.prog 64 #[.slice (some ⟨W.heap.size, 0, none⟩) 2 2] (W.alloc (.cells #[.slice A kl cap, .slice A2 2 c2] 30)) fun e w' => ∃ A3 c3, e = .returned (.slice A3 (kl + 2) c3) ∧ Hid (SlA w' (.slice A3 (kl + 2) c3) (L ++ V) ∧ Below W.heap.size W w')) := fun W A2 c2 hW h2 => by
    obtain ⟨A2', c2', e2, _, _, g2, _⟩ := h2
    injection e2 with q1 q2 q3
    subst q1 q3
    have hb := below_new W (.cells #[.slice A kl cap, .slice A2 2 c2] 30)
    have hB : Blk (W.alloc (.cells #[.slice A kl cap, .slice A2 2 c2] 30)) W.heap.size _ _ := Blk.new W _ _
    refine (concat2 W.heap.size A A2 cap c2 L V (by omega) _ ⟨Below.refl _ _, by rw [hkl]; exact hB.cell 0, by rw [hV2]; exact hB.cell 1, (h.below hW).below hb, g2.below hb⟩).mono fun e w' ⟨v, e1, e3, e4⟩ => ?_
    have e5 := e3.sla
    have e5b := e5
    obtain ⟨A3, c3, rfl, _⟩ := e5b
    rw [List.length_append, hkl, hV2] at e1 e5
    exact ⟨A3, c3, e1, e5, hb.trans (e4.mono (by simp))⟩
  have HD2 : Hid (∀ W A3 c3, Below w.heap.size w W → SlA W (.slice A3 (kl + 2) c3) (L ++ V) → Calls Tryz.prog 117 #[.slice A3 (kl + 2) c3] W fun e w' => e = .returned (.tuple #[K.v, .bool true]) ∧ Below W.heap.size W w') := fun W A3 c3 hW h3 => by
    obtain ⟨A3', c3', e3, h4, h5, g3, _⟩ := h3
    injection e3 with q1 q2 q3
    subst q1 q3
    rw [q2]
    refine (dec_any A3 c3 (L ++ V) (by rw [List.length_append]; omega) h4 h5 W g3 (hL.below hW)).mono fun e w' ⟨x, ok, e1, e2, _, e3⟩ => ?_
    rcases e3 with ⟨rfl, e4, e5⟩ | ⟨_, e4, _⟩
    · obtain rfl := enc_one e4 hcb (e5.trans he.symm)
      exact ⟨e1, e2⟩
    · exact absurd he (e4 _ _ _ _ _ _ _ _ hcb.1 hcb.2.1)
  have HK : Hid (∀ W, Below w.heap.size w W → Calls Tryz.prog 39 #[K.v] W fun e w' => ∃ Ak ck, e = .returned (.tuple #[.slice Ak kl ck, .bool true]) ∧ Hid (HoldsA w' Ak L ∧ Below W.heap.size W w')) := fun W hW => by
    refine (keyc_yes K (bc_ok hcb) hcb.1 W (hL.below hW)).mono fun e w' ⟨v, he, hr, hb⟩ => ?_
    rw [hck] at hr
    obtain ⟨Ak, ck, rfl, _, _, hh, _⟩ := hr.sla
    rw [hkl] at he
    exact ⟨Ak, ck, he, hh, hb⟩
  have HE : Hid (∀ W A1 c1, HoldsA W A1 L → Below w.heap.size w W → Calls Tryz.prog 118 #[.slice A1 kl c1, .slice A kl cap] W fun e w' => e = .returned (.bool true) ∧ w' = W) := fun W A1 c1 h1 h2 => by
    rw [← hkl]
    refine (equal_any A1 A c1 cap _ _ W h1 (h.below h2)).mono fun e w' ⟨e1, e2⟩ => ⟨by rw [e1]; simp, e2⟩
  have H0 : Hid (Below w.heap.size w (w.alloc (.cells zeroA 26)) ∧ Blk (w.alloc (.cells zeroA 26)) w.heap.size 26 zeroA) := ⟨below_new _ _, Blk.new _ _ _⟩
  rw [hkl]
  clear hL h hl hcap hcap2 he hkl hck hcb hno hV hV2 hK hLk hc hk
  go_enter Tryz.func162, Tryz.ntmps162
  go_upto_region 2 with (go_at_call 117; refine (HD.out _ H0.out.1).mono ?_; rintro e w1 ⟨X, rfl, hb1⟩; have H1 := hid (And.intro (H0.out.1.trans (hb1.mono H0.out.1.size)) (H0.out.2.keep hb1 H0.out.2.lt)); clear hb1)
  obtain ⟨xb, hxb⟩ : ∃ xb, w1.heap.size = xb := ⟨_, rfl⟩
  obtain ⟨W5, hW5⟩ : ∃ W5, w1.alloc (.cells #[.string X.r, .string X.f, .string X.q, .int .i64 X.t, .int .i64 X.k, .int .i64 X.vk, .int .i64 X.vn, .string X.s] 26) = W5 := ⟨_, rfl⟩
  have HW : Hid (Blk W5 w.heap.size 26 zeroA ∧ Blk W5 xb 26 X.e.toArray ∧ Below w.heap.size w W5 ∧ w.heap.size < xb) := by
    rw [← hW5, ← hxb]
    have hb := below_new w1 (.cells #[.string X.r, .string X.f, .string X.q, .int .i64 X.t, .int .i64 X.k, .int .i64 X.vk, .int .i64 X.vn, .string X.s] 26)
    exact ⟨H1.out.2.keep hb H1.out.2.lt, Blk.new w1 _ _, H1.out.1.trans (hb.mono H1.out.1.size), H1.out.2.lt⟩
  rw [hW5, hxb]
  clear hW5 hxb H0 HD H1
  go_upto_region 4 with (go_at_call 43; refine (HEn.out _ HW.out.2.2.1).mono ?_; rintro e w2 ⟨A2, c2, rfl, h2⟩; have HB2 := hid (HW.out.2.2.1.trans (h2.out.2.mono HW.out.2.2.1.size)); have HX2 := hid (And.intro (HW.out.1.keep h2.out.2 HW.out.1.lt) (HW.out.2.1.keep h2.out.2 HW.out.2.1.lt)); have HS2 := hid h2.out.1; clear h2)
  obtain ⟨x0, x1, x2, x3, x4, x5, x6, x7⟩ := blkc_words HX2.out.2
  go_upto_region 5 with (first
    | (go_at_call 64; refine (HCo.out _ _ _ HB2.out HS2.out).mono ?_; rintro e w3 ⟨A3, c3, rfl, h3⟩; have HB3 := hid (HB2.out.trans (h3.out.2.mono HB2.out.size)); have HX3 := hid (And.intro (HX2.out.1.keep h3.out.2 HX2.out.1.lt) (HX2.out.2.keep h3.out.2 HX2.out.2.lt)); have HS3 := hid h3.out.1; clear h3)
    | (go_at_call 117; refine (HD2.out _ _ _ HB3.out HS3.out).mono ?_; rintro e w4 ⟨rfl, h4⟩; have HB4 := hid (HB3.out.trans (h4.mono HB3.out.size)); have HX4 := hid (And.intro (HX3.out.1.keep h4 HX3.out.1.lt) (HX3.out.2.keep h4 HX3.out.2.lt)); clear h4; clear x0 x1 x2 x3 x4 x5 x6 x7; obtain ⟨x0, x1, x2, x3, x4, x5, x6, x7⟩ := blkc_words HX4.out.2; have fz : ∀ j, w4.frozen? ⟨xb, j, none⟩ = false := fun j => HX4.out.2.free j))
  have HX : Hid (Blk ((((((((w4.setCell ⟨xb, 0, none⟩ (.string K.r)).setCell ⟨xb, 1, none⟩ (.string K.f)).setCell ⟨xb, 2, none⟩ (.string K.q)).setCell ⟨xb, 3, none⟩ (.int .i64 K.t)).setCell ⟨xb, 4, none⟩ (.int .i64 K.k)).setCell ⟨xb, 5, none⟩ (.int .i64 K.vk)).setCell ⟨xb, 6, none⟩ (.int .i64 K.vn)).setCell ⟨xb, 7, none⟩ (.string K.s)) w.heap.size 26 zeroA ∧ Blk ((((((((w4.setCell ⟨xb, 0, none⟩ (.string K.r)).setCell ⟨xb, 1, none⟩ (.string K.f)).setCell ⟨xb, 2, none⟩ (.string K.q)).setCell ⟨xb, 3, none⟩ (.int .i64 K.t)).setCell ⟨xb, 4, none⟩ (.int .i64 K.k)).setCell ⟨xb, 5, none⟩ (.int .i64 K.vk)).setCell ⟨xb, 6, none⟩ (.int .i64 K.vn)).setCell ⟨xb, 7, none⟩ (.string K.s)) xb 26 K.e.toArray ∧ Below w.heap.size w ((((((((w4.setCell ⟨xb, 0, none⟩ (.string K.r)).setCell ⟨xb, 1, none⟩ (.string K.f)).setCell ⟨xb, 2, none⟩ (.string K.q)).setCell ⟨xb, 3, none⟩ (.int .i64 K.t)).setCell ⟨xb, 4, none⟩ (.int .i64 K.k)).setCell ⟨xb, 5, none⟩ (.int .i64 K.vk)).setCell ⟨xb, 6, none⟩ (.int .i64 K.vn)).setCell ⟨xb, 7, none⟩ (.string K.s))) := by
    obtain ⟨p1, p2⟩ := box_set8 K HX4.out.2
    exact ⟨blk_other HX4.out.1 p2 HX4.out.1.lt (by have := HW.out.2.2.2; omega), p1, ((((((((HB4.out.setCell (p := ⟨xb, 0, none⟩) (Nat.le_of_lt HW.out.2.2.2) _).setCell (p := ⟨xb, 1, none⟩) (Nat.le_of_lt HW.out.2.2.2) _).setCell (p := ⟨xb, 2, none⟩) (Nat.le_of_lt HW.out.2.2.2) _).setCell (p := ⟨xb, 3, none⟩) (Nat.le_of_lt HW.out.2.2.2) _).setCell (p := ⟨xb, 4, none⟩) (Nat.le_of_lt HW.out.2.2.2) _).setCell (p := ⟨xb, 5, none⟩) (Nat.le_of_lt HW.out.2.2.2) _).setCell (p := ⟨xb, 6, none⟩) (Nat.le_of_lt HW.out.2.2.2) _).setCell (p := ⟨xb, 7, none⟩) (Nat.le_of_lt HW.out.2.2.2) _)⟩
  obtain ⟨W8, hW8⟩ : ∃ W8, ((((((((w4.setCell ⟨xb, 0, none⟩ (.string K.r)).setCell ⟨xb, 1, none⟩ (.string K.f)).setCell ⟨xb, 2, none⟩ (.string K.q)).setCell ⟨xb, 3, none⟩ (.int .i64 K.t)).setCell ⟨xb, 4, none⟩ (.int .i64 K.k)).setCell ⟨xb, 5, none⟩ (.int .i64 K.vk)).setCell ⟨xb, 6, none⟩ (.int .i64 K.vn)).setCell ⟨xb, 7, none⟩ (.string K.s)) = W8 := ⟨_, rfl⟩
  rw [hW8] at HX ⊢
  clear hW8 fz x0 x1 x2 x3 x4 x5 x6 x7 HD2 HCo HEn
  obtain ⟨x0, x1, x2, x3, x4, x5, x6, x7⟩ := blkc_words HX.out.2.1
  go_upto_region 6 with (go_at_call 39; refine (HK.out _ HX.out.2.2).mono ?_; rintro e w6 ⟨Ak, ck, rfl, h6⟩; have H6 := hid (And.intro (HX.out.1.keep h6.out.2 HX.out.1.lt) (And.intro (HX.out.2.1.keep h6.out.2 HX.out.2.1.lt) (HX.out.2.2.trans (h6.out.2.mono HX.out.2.2.size)))); have HA6 := hid h6.out.1; clear h6)
  clear x0 x1 x2 x3 x4 x5 x6 x7
  have HS := hid (HE.out w6.drew _ ck (HA6.out.below (Below.refl _ w6).drew) H6.out.2.2.drew)
  clear HE HK
  obtain ⟨y0, y1, y2, y3, y4, y5, y6, y7⟩ := blkc_words H6.out.2.1
  obtain ⟨z0, z1, z2, z3, z4, z5, z6, z7⟩ := blkc_words (X := default) H6.out.1
  have fz : ∀ j, w6.frozen? ⟨w.heap.size, j, none⟩ = false := fun j => H6.out.1.free j
  have hn : w.heap.size ≠ xb := by have := HW.out.2.2.2; omega
  have hn2 : xb ≠ w.heap.size := fun e => hn e.symm
  go_region_law (go_simp; go_at_call 118; refine HS.out.mono ?_; rintro e w7 ⟨rfl, rfl⟩)
  all_goals (
    go_wp2
    refine bodyPost_ret (v := .tuple #[K.v, .bool true]) (by simp [results, Tryz.results162, go_sem, cell_set_same, z0, z1, z2, z3, z4, z5, z6, z7]) rfl ?_
    refine ⟨rfl, ?_⟩
    exact ((((((((H6.out.2.2.setCell (p := ⟨w.heap.size, 0, none⟩) (Nat.le_refl _) _).setCell (p := ⟨w.heap.size, 1, none⟩) (Nat.le_refl _) _).setCell (p := ⟨w.heap.size, 2, none⟩) (Nat.le_refl _) _).setCell (p := ⟨w.heap.size, 3, none⟩) (Nat.le_refl _) _).setCell (p := ⟨w.heap.size, 4, none⟩) (Nat.le_refl _) _).setCell (p := ⟨w.heap.size, 5, none⟩) (Nat.le_refl _) _).setCell (p := ⟨w.heap.size, 6, none⟩) (Nat.le_refl _) _).setCell (p := ⟨w.heap.size, 7, none⟩) (Nat.le_refl _) _).drew)
end Go.Proofs.YtjbjdkginemedaaGreatDoor

/- table.readEntry at a right cell's key and a number. Conditions: the bytes stand; the tables of utf8 read as they are laid. -/
namespace Go.Proofs.YtjbjdkginemedaaGreatDoor
open Go.RowKit

theorem cellof_any (A : Option Addr) (cap : Nat) (c : CT) (hc : Bc c) (w : World) (hcap : (keyL c).length ≤ cap) (hcap2 : cap ≤ 9223372036854775807) (h : HoldsA w A (keyL c)) (hL : LaidU w) :
    Calls Tryz.prog 162 #[.slice A (keyL c).length cap] w fun e w' => e = .returned (.tuple #[(kc c).v, .bool true]) ∧ Below w.heap.size w w' := by
  by_cases hk : c.k = 1
  · exact cellof_put A cap c hc hk w hcap hcap2 h hL
  · exact cellof_other A cap c hc hk w hcap hcap2 h hL
/-- An entry's words. -/
def entW (K : CT) (u : Value) (p : Int) : Array Value := #[u, .string K.r, .string K.f, .string K.q, .int .i64 K.t, .int .i64 K.k, .int .i64 K.vk, .int .i64 K.vn, .string K.s, .int .i64 p]
theorem ent_words {W : World} {g : Nat} {K : CT} {u : Value} {p : Int} (h : Blk W g 106 (entW K u p)) : W.cell? ⟨g, 0, none⟩ = some (u) ∧ W.cell? ⟨g, 1, none⟩ = some (.string K.r) ∧ W.cell? ⟨g, 2, none⟩ = some (.string K.f) ∧ W.cell? ⟨g, 3, none⟩ = some (.string K.q) ∧ W.cell? ⟨g, 4, none⟩ = some (.int .i64 K.t) ∧ W.cell? ⟨g, 5, none⟩ = some (.int .i64 K.k) ∧ W.cell? ⟨g, 6, none⟩ = some (.int .i64 K.vk) ∧ W.cell? ⟨g, 7, none⟩ = some (.int .i64 K.vn) ∧ W.cell? ⟨g, 8, none⟩ = some (.string K.s) ∧ W.cell? ⟨g, 9, none⟩ = some (.int .i64 p) :=
  ⟨h.cell 0, h.cell 1, h.cell 2, h.cell 3, h.cell 4, h.cell 5, h.cell 6, h.cell 7, h.cell 8, h.cell 9⟩

set_option maxRecDepth 100000 in
set_option maxHeartbeats 8000000 in
theorem readentry_any (A A2 : Option Addr) (cap cap2 : Nat) (c : CT) (p : Nat) (hp : p < 9223372036854775808) (hc : Bc c) (w : World) (h : SlA w (.slice A (keyL c).length cap) (keyL c)) (h2 : SlA w (.slice A2 (numW p).length cap2) (numW p)) (hL : LaidU w) :
    Calls Tryz.prog 129 #[.slice A (keyL c).length cap, .slice A2 (numW p).length cap2] w fun e w' => e = .returned (.tuple #[.agg (entW (kc c) (.slice A (keyL c).length cap) p), .bool true]) ∧ Below w.heap.size w w' := by
  have mixed : Tryz.prog.follows .mixedOrders = true := by kernel_rfl
  have h9 := numW_len9 p hp
  obtain ⟨A', c', e', g1, g2, g3, _⟩ := h
  injection e' with q1 q2 q3
  subst q1 q3
  obtain ⟨A2', c2', e', g4, g5, g6, _⟩ := h2
  injection e' with q1 q2 q3
  subst q1 q3
  obtain ⟨kl, hkl⟩ : ∃ kl, (keyL c).length = kl := ⟨_, rfl⟩
  obtain ⟨nl, hnl⟩ : ∃ nl, (numW p).length = nl := ⟨_, rfl⟩
  obtain ⟨K, hK⟩ : ∃ K, kc c = K := ⟨_, rfl⟩
  have HC : Hid (∀ W, Below w.heap.size w W → Calls Tryz.prog 162 #[.slice A kl cap] W fun e w' => e = .returned (.tuple #[K.v, .bool true]) ∧ Below W.heap.size W w') := fun W hW => by
    rw [← hkl, ← hK]
    exact cellof_any A cap c hc W g1 g2 (g3.below hW) (hL.below hW)
  have HT : Hid (∀ W, Below w.heap.size w W → Calls Tryz.prog 113 #[.slice A2 nl cap2] W fun e w' => ∃ A3 c3, e = .returned (.tuple #[.int .i64 (p : Int), .slice A3 0 c3, .bool true]) ∧ Below W.heap.size W w') := fun W hW => by
    rw [← hnl]
    refine (take_any A2 cap2 (numW p) (by omega) g4 g5 W (g6.below hW)).mono fun e w' ht => ?_
    have e0 : tk (numW p) = some (p, []) := by have := tk_num p hp []; rwa [List.append_nil] at this
    rw [e0] at ht
    obtain ⟨v, e1, e2, e3⟩ := ht
    obtain ⟨A3, c3, rfl, _⟩ := e2.sla
    exact ⟨A3, c3, e1, e3⟩
  have H0 : Hid (Below w.heap.size w (w.alloc (.cells (entW default (.slice none 0 0) 0) 106)) ∧ Blk (w.alloc (.cells (entW default (.slice none 0 0) 0) 106)) w.heap.size 106 (entW default (.slice none 0 0) 0)) := ⟨below_new _ _, Blk.new _ _ _⟩
  rw [hkl, hnl, hK]
  clear hL g1 g2 g3 g4 g5 g6 hkl hnl hK h9 hp hc
  go_enter Tryz.func129, Tryz.ntmps129
  go_upto_region 2 with (go_at_call 162; refine (HC.out _ H0.out.1).mono ?_; rintro e w1 ⟨rfl, hb1⟩; have H1 := hid (And.intro (H0.out.1.trans (hb1.mono H0.out.1.size)) (H0.out.2.keep hb1 H0.out.2.lt)); clear hb1)
  obtain ⟨xb, hxb⟩ : ∃ xb, w1.heap.size = xb := ⟨_, rfl⟩
  obtain ⟨W5, hW5⟩ : ∃ W5, w1.alloc (.cells #[.string K.r, .string K.f, .string K.q, .int .i64 K.t, .int .i64 K.k, .int .i64 K.vk, .int .i64 K.vn, .string K.s] 26) = W5 := ⟨_, rfl⟩
  have HW : Hid (Blk W5 w.heap.size 106 (entW default (.slice none 0 0) 0) ∧ Blk W5 xb 26 K.e.toArray ∧ Below w.heap.size w W5 ∧ w.heap.size < xb) := by
    rw [← hW5, ← hxb]
    have hb := below_new w1 (.cells #[.string K.r, .string K.f, .string K.q, .int .i64 K.t, .int .i64 K.k, .int .i64 K.vk, .int .i64 K.vn, .string K.s] 26)
    exact ⟨H1.out.2.keep hb H1.out.2.lt, Blk.new w1 _ _, H1.out.1.trans (hb.mono H1.out.1.size), H1.out.2.lt⟩
  rw [hW5, hxb]
  clear hW5 hxb H0 HC H1
  go_upto_region 3 with (go_at_call 113; refine (HT.out _ HW.out.2.2.1).mono ?_; rintro e w2 ⟨A3, c3, rfl, h3⟩; have H3 := hid (And.intro (HW.out.1.keep h3 HW.out.1.lt) (And.intro (HW.out.2.1.keep h3 HW.out.2.1.lt) (HW.out.2.2.1.trans (h3.mono HW.out.2.2.1.size)))); clear h3)
  clear HT
  obtain ⟨y0, y1, y2, y3, y4, y5, y6, y7⟩ := blkc_words H3.out.2.1
  obtain ⟨z0, z1, z2, z3, z4, z5, z6, z7, z8, z9⟩ := ent_words H3.out.1
  have fz : ∀ j, w2.frozen? ⟨w.heap.size, j, none⟩ = false := fun j => H3.out.1.free j
  have hn : w.heap.size ≠ xb := by have := HW.out.2.2.2; omega
  have hn2 : xb ≠ w.heap.size := fun e => hn e.symm
  go_wp2
  refine bodyPost_ret (v := .tuple #[.agg (entW K (.slice A kl cap) p), .bool true]) (by simp [results, Tryz.results129, go_sem, cell_set_same, entW, z0, z1, z2, z3, z4, z5, z6, z7, z8, z9]) rfl ?_
  refine ⟨rfl, ?_⟩
  exact ((((((((((H3.out.2.2.setCell (p := ⟨w.heap.size, 0, none⟩) (Nat.le_refl _) _).setCell (p := ⟨w.heap.size, 1, none⟩) (Nat.le_refl _) _).setCell (p := ⟨w.heap.size, 2, none⟩) (Nat.le_refl _) _).setCell (p := ⟨w.heap.size, 3, none⟩) (Nat.le_refl _) _).setCell (p := ⟨w.heap.size, 4, none⟩) (Nat.le_refl _) _).setCell (p := ⟨w.heap.size, 5, none⟩) (Nat.le_refl _) _).setCell (p := ⟨w.heap.size, 6, none⟩) (Nat.le_refl _) _).setCell (p := ⟨w.heap.size, 7, none⟩) (Nat.le_refl _) _).setCell (p := ⟨w.heap.size, 8, none⟩) (Nat.le_refl _) _).setCell (p := ⟨w.heap.size, 9, none⟩) (Nat.le_refl _) _)
end Go.Proofs.YtjbjdkginemedaaGreatDoor

/- table.follows where what is told of a block may stand behind what is told of others. Conditions: the last entry and the keys stand; the keys rise, the places rise. -/
namespace Go.Proofs.YtjbjdkginemedaaGreatDoor
open Go.RowKit

set_option maxRecDepth 100000 in
set_option maxHeartbeats 8000000 in
theorem follows_first (K : CT) (u : Value) (w : World) :
    Calls Tryz.prog 130 #[.slice none 0 0, .agg (entW K u 0)] w fun e w' => e = .returned (.bool true) ∧ Below w.heap.size w w' := by
  have hW : Hid (Blk (w.alloc (.cells (entW K u 0) 106)) w.heap.size 106 (entW K u 0) ∧ Below w.heap.size w (w.alloc (.cells (entW K u 0) 106))) := ⟨Blk.new _ _ _, below_new _ _⟩
  obtain ⟨z0, z1, z2, z3, z4, z5, z6, z7, z8, z9⟩ := ent_words hW.out.1
  go_enter Tryz.func130, Tryz.ntmps130
  go_wp2
  go_ret
  exact ⟨rfl, hW.out.2⟩

set_option maxRecDepth 100000 in
set_option maxHeartbeats 8000000 in
theorem follows_next (g m cap : Nat) (hm : m ≤ 1000000) (j : Nat) (hj : m = j + 1) (K0 K1 : CT) (A0 A1 : Option Addr) (c0 c1 : Nat) (l0 l1 : List UInt8) (p0 p1 : Nat) (hp : p0 < p1) (hk : Lib.compareBytes l0 l1 < 0) (w : World) (h0 : HoldsA w A0 l0) (h1 : HoldsA w A1 l1)
    (q0 : w.cell? ⟨g, j * 10, none⟩ = some (.slice A0 l0.length c0)) (q1 : w.cell? ⟨g, j * 10 + 1, none⟩ = some (.string K0.r)) (q2 : w.cell? ⟨g, j * 10 + 2, none⟩ = some (.string K0.f)) (q3 : w.cell? ⟨g, j * 10 + 3, none⟩ = some (.string K0.q)) (q4 : w.cell? ⟨g, j * 10 + 4, none⟩ = some (.int .i64 K0.t)) (q5 : w.cell? ⟨g, j * 10 + 5, none⟩ = some (.int .i64 K0.k)) (q6 : w.cell? ⟨g, j * 10 + 6, none⟩ = some (.int .i64 K0.vk)) (q7 : w.cell? ⟨g, j * 10 + 7, none⟩ = some (.int .i64 K0.vn)) (q8 : w.cell? ⟨g, j * 10 + 8, none⟩ = some (.string K0.s)) (q9 : w.cell? ⟨g, j * 10 + 9, none⟩ = some (.int .i64 (p0 : Int))) :
    Calls Tryz.prog 130 #[.slice (some ⟨g, 0, none⟩) m cap, .agg (entW K1 (.slice A1 l1.length c1) p1)] w fun e w' => e = .returned (.bool true) ∧ Below w.heap.size w w' := by
  obtain ⟨n0, hn0⟩ : ∃ n, l0.length = n := ⟨_, rfl⟩
  obtain ⟨n1, hn1⟩ : ∃ n, l1.length = n := ⟨_, rfl⟩
  obtain ⟨o, ho⟩ : ∃ o, Lib.compareBytes l0 l1 = o := ⟨_, rfl⟩
  have HC : Hid (∀ W, Below w.heap.size w W → Calls Tryz.prog 40 #[.slice A0 n0 c0, .slice A1 n1 c1] W fun e w' => e = .returned (.int .i64 o) ∧ w' = W) := fun W hW => by
    rw [← hn0, ← hn1, ← ho]
    exact bcompare_any A0 A1 c0 c1 l0 l1 W (h0.below hW) (h1.below hW)
  rw [ho] at hk
  rw [hn0] at q0
  rw [hn1]
  have hpz : (p0 : Int) < (p1 : Int) := by omega
  have hmz : (0 : Int) < (m : Int) := by omega
  have hm1 : (m : Int) - 1 = (j : Int) := by omega
  have hjw : IntKind.i64.wrap ((j : Nat) : Int) = (j : Int) := by rw [IntKind.wrap_i64]; omega
  have hjz : (j : Int) < (m : Int) := by omega
  have hjn : j < m := by omega
  clear hn0 hn1 ho h0 h1 hm hj hp
  have HW : Hid (Blk (w.alloc (.cells (entW K1 (.slice A1 n1 c1) p1) 106)) w.heap.size 106 (entW K1 (.slice A1 n1 c1) p1) ∧ Below w.heap.size w (w.alloc (.cells (entW K1 (.slice A1 n1 c1) p1) 106))) := ⟨Blk.new _ _ _, below_new _ _⟩
  replace q0 := (HW.out.2.cell (p := ⟨g, j * 10, none⟩) (cell_lt q0)).trans q0
  replace q1 := (HW.out.2.cell (p := ⟨g, j * 10 + 1, none⟩) (cell_lt q1)).trans q1
  replace q2 := (HW.out.2.cell (p := ⟨g, j * 10 + 2, none⟩) (cell_lt q2)).trans q2
  replace q3 := (HW.out.2.cell (p := ⟨g, j * 10 + 3, none⟩) (cell_lt q3)).trans q3
  replace q4 := (HW.out.2.cell (p := ⟨g, j * 10 + 4, none⟩) (cell_lt q4)).trans q4
  replace q5 := (HW.out.2.cell (p := ⟨g, j * 10 + 5, none⟩) (cell_lt q5)).trans q5
  replace q6 := (HW.out.2.cell (p := ⟨g, j * 10 + 6, none⟩) (cell_lt q6)).trans q6
  replace q7 := (HW.out.2.cell (p := ⟨g, j * 10 + 7, none⟩) (cell_lt q7)).trans q7
  replace q8 := (HW.out.2.cell (p := ⟨g, j * 10 + 8, none⟩) (cell_lt q8)).trans q8
  replace q9 := (HW.out.2.cell (p := ⟨g, j * 10 + 9, none⟩) (cell_lt q9)).trans q9
  obtain ⟨z0, z1, z2, z3, z4, z5, z6, z7, z8, z9⟩ := ent_words HW.out.1
  go_enter Tryz.func130, Tryz.ntmps130
  go_upto_region 4 with (fail)
  obtain ⟨W5, hW5⟩ : ∃ W5, (w.alloc (.cells (entW K1 (.slice A1 n1 c1) p1) 106)).alloc (.cells #[.slice A0 n0 c0, .string K0.r, .string K0.f, .string K0.q, .int .i64 K0.t, .int .i64 K0.k, .int .i64 K0.vk, .int .i64 K0.vn, .string K0.s, .int .i64 p0] 106) = W5 := ⟨_, rfl⟩
  have HX : Hid (Blk W5 w.heap.size 106 (entW K1 (.slice A1 n1 c1) p1) ∧ Blk W5 (w.heap.size + 1) 106 (entW K0 (.slice A0 n0 c0) p0) ∧ Below w.heap.size w W5) := by
    rw [← hW5]
    have hb := below_new (w.alloc (.cells (entW K1 (.slice A1 n1 c1) p1) 106)) (.cells #[.slice A0 n0 c0, .string K0.r, .string K0.f, .string K0.q, .int .i64 K0.t, .int .i64 K0.k, .int .i64 K0.vk, .int .i64 K0.vn, .string K0.s, .int .i64 p0] 106)
    have h2 := Blk.new (w.alloc (.cells (entW K1 (.slice A1 n1 c1) p1) 106)) 106 (entW K0 (.slice A0 n0 c0) p0)
    have e : (w.alloc (.cells (entW K1 (.slice A1 n1 c1) p1) 106)).heap.size = w.heap.size + 1 := by simp
    rw [e] at h2
    exact ⟨HW.out.1.keep hb HW.out.1.lt, h2, HW.out.2.trans (hb.mono HW.out.2.size)⟩
  rw [hW5]
  clear hW5 q0 q1 q2 q3 q4 q5 q6 q7 q8 q9 z0 z1 z2 z3 z4 z5 z6 z7 z8 z9
  obtain ⟨x0, x1, x2, x3, x4, x5, x6, x7, x8, x9⟩ := ent_words HX.out.1
  obtain ⟨y0, y1, y2, y3, y4, y5, y6, y7, y8, y9⟩ := ent_words HX.out.2.1
  go_wp2_with (go_at_call 40; refine (HC.out _ HX.out.2.2).mono ?_; rintro e w6 ⟨rfl, rfl⟩)
  go_ret
  exact ⟨rfl, HX.out.2.2⟩
end Go.Proofs.YtjbjdkginemedaaGreatDoor

/- table.frameIn at a frame and what stands behind it. Conditions: the bytes stand, a frame of 65536 bytes at most. -/
namespace Go.Proofs.YtjbjdkginemedaaGreatDoor
open Go.RowKit

theorem holds_take {w : World} {b off : Nat} {l : List UInt8} (h : Holds w b off l) (n : Nat) : Holds w b off (l.take n) := fun i hi => by
  rw [List.length_take] at hi
  have h1 := h i (by omega)
  rw [List.getD_eq_getElem?_getD] at h1 ⊢
  rw [List.getElem?_take_of_lt (by omega)]
  exact h1
theorem tk3_frame (x r : List UInt8) (hx : x.length ≤ 65536) : tk ((frameM x ++ r).take 3) = some (x.length, (x ++ (byW 4 (sumN x) ++ r)).take (3 - (numW x.length).length)) ∧ 1 ≤ (numW x.length).length ∧ (numW x.length).length ≤ 3 := by
  have h3 : (numW x.length).length ≤ 3 := numW_len 2 x.length (by omega)
  refine ⟨?_, ?_, h3⟩
  · have e : frameM x ++ r = numW x.length ++ (x ++ (byW 4 (sumN x) ++ r)) := by unfold frameM; simp only [List.append_assoc]
    rw [e, List.take_append, List.take_of_length_le h3]
    exact tk_num x.length (by omega) _
  · exact numW_pos x.length

set_option maxRecDepth 100000 in
set_option maxHeartbeats 8000000 in
theorem framein_any (A : Option Addr) (c : Nat) (x rr : List UInt8) (hx : x.length ≤ 65536) (w : World) (h : SlA w (.slice A (frameM x ++ rr).length c) (frameM x ++ rr)) :
    Calls Tryz.prog 163 #[.slice A (frameM x ++ rr).length c] w fun e w' => e = .returned (.slice A (frameM x).length c) ∧ Below w.heap.size w w' := by
  obtain ⟨A', c', e', g1, g2, g3, _⟩ := h
  injection e' with q1 q2 q3
  subst q1 q3
  obtain ⟨t1, t2, t3⟩ := tk3_frame x rr hx
  have hfl := frame_len x
  have hbl : (frameM x ++ rr).length = (frameM x).length + rr.length := List.length_append
  have hh : HoldsA w A ((frameM x ++ rr).take 3) := fun h0 => by
    obtain ⟨b, off, e, hc⟩ := g3 (by omega)
    exact ⟨b, off, e, holds_take hc 3⟩
  have hl3 : ((frameM x ++ rr).take 3).length = 3 := by rw [List.length_take]; omega
  have hrl : ((x ++ (byW 4 (sumN x) ++ rr)).take (3 - (numW x.length).length)).length = 3 - (numW x.length).length := by
    rw [List.length_take, List.length_append, List.length_append, byW_len]; omega
  obtain ⟨bl, hb⟩ : ∃ bl, (frameM x ++ rr).length = bl := ⟨_, rfl⟩
  obtain ⟨fl, hf⟩ : ∃ fl, (frameM x).length = fl := ⟨_, rfl⟩
  obtain ⟨nl, hn⟩ : ∃ nl, (numW x.length).length = nl := ⟨_, rfl⟩
  obtain ⟨xn, hxn⟩ : ∃ xn, x.length = xn := ⟨_, rfl⟩
  obtain ⟨r, hr⟩ : ∃ r, 3 - nl = r := ⟨_, rfl⟩
  have HT : Hid (Calls Tryz.prog 113 #[.slice A 3 c] w fun e w' => ∃ A3 c3, e = .returned (.tuple #[.int .i64 (xn : Int), .slice A3 r c3, .bool true]) ∧ Below w.heap.size w w') := by
    have h1 := take_any A c ((frameM x ++ rr).take 3) (by omega) (by omega) g2 w hh
    rw [hl3] at h1
    refine h1.mono fun e w' ht => ?_
    rw [t1] at ht
    obtain ⟨v, e1, e2, e3⟩ := ht
    obtain ⟨A3, c3, rfl, _⟩ := e2.sla
    rw [hrl, hn, hr] at e1
    rw [← hxn]
    exact ⟨A3, c3, e1, e3⟩
  rw [hb, hf] at hbl
  rw [hf, hn, hxn] at hfl
  rw [hn] at t2 t3
  rw [hb] at g1
  rw [hxn] at hx
  rw [hb, hf]
  clear t1 hh hl3 hrl hb hf hn hxn g3
  have m1 : min (bl : Int) 3 = 3 := by omega
  have m2 : (3 : Int) ≤ (c : Int) := by omega
  have m3 : (3 : Int) - (r : Int) = (nl : Int) := by omega
  obtain ⟨s, hs⟩ : ∃ s, nl + xn = s := ⟨_, rfl⟩
  have m4 : (nl : Int) + (xn : Int) = (s : Int) := by omega
  have m5 : (s : Int) + 4 = (fl : Int) := by omega
  have m6 : min (bl : Int) (fl : Int) = (fl : Int) := by omega
  have m7 : (fl : Int) ≤ (c : Int) := by omega
  have m8 : fl ≤ c := by omega
  have m9 : 3 ≤ c := by omega
  have w1 : IntKind.i64.wrap ((nl : Nat) : Int) = (nl : Int) := by rw [IntKind.wrap_i64]; omega
  have w2 : IntKind.i64.wrap ((s : Nat) : Int) = (s : Int) := by rw [IntKind.wrap_i64]; omega
  have w3 : IntKind.i64.wrap ((fl : Nat) : Int) = (fl : Int) := by rw [IntKind.wrap_i64]; omega
  clear hfl hbl g1 hx t2 t3 hr hs
  go_enter Tryz.func163, Tryz.ntmps163
  go_wp2_with (go_at_call 113; refine HT.out.mono ?_; rintro e wb ⟨A3, c3, rfl, hb3⟩)
  go_ret
  exact ⟨rfl, hb3⟩
end Go.Proofs.YtjbjdkginemedaaGreatDoor

/- What an index tells, as lists in memory: rows of entries of the call's own, appending to them. Conditions: as each theorem names them. -/
namespace Go.Proofs.YtjbjdkginemedaaGreatDoor
open Go.RowKit

/-- What an index tells of a block. -/
structure En where
  K : CT
  u : Value
  p : Nat
def En.e (x : En) : List Value := [x.u, .string x.K.r, .string x.K.f, .string x.K.q, .int .i64 x.K.t, .int .i64 x.K.k, .int .i64 x.K.vk, .int .i64 x.K.vn, .string x.K.s, .int .i64 (x.p : Int)]
theorem En.e_len (x : En) : x.e.length = 10 := rfl
theorem En.w (x : En) : entW x.K x.u (x.p : Int) = x.e.toArray := rfl
theorem En.e_one (x : En) (h : x.u.oneCell' = true) : ∀ u ∈ x.e, u.oneCell' = true := by
  intro u hu
  simp only [En.e, List.mem_cons, List.not_mem_nil, or_false] at hu
  rcases hu with rfl | rfl | rfl | rfl | rfl | rfl | rfl | rfl | rfl | rfl
  · exact h
  all_goals rfl
def flatE : List En → List Value
  | [] => []
  | x :: l => x.e ++ flatE l
theorem flatE_len : ∀ l : List En, (flatE l).length = l.length * 10
  | [] => rfl
  | x :: l => by
    show (x.e ++ flatE l).length = (l.length + 1) * 10
    rw [List.length_append, En.e_len, flatE_len l]; omega
theorem flatE_app : ∀ l m : List En, flatE (l ++ m) = flatE l ++ flatE m
  | [], _ => rfl
  | x :: l, m => by
    show x.e ++ flatE (l ++ m) = (x.e ++ flatE l) ++ flatE m
    rw [flatE_app l m, List.append_assoc]
theorem flatE_one (x : En) : flatE [x] = x.e := by show x.e ++ [] = x.e; rw [List.append_nil]
theorem flatE_at : ∀ (l : List En) (i j : Nat) (h : i < l.length), j < 10 → (flatE l)[i * 10 + j]? = l[i].e[j]?
  | x :: l, 0, j, _, hj => by
    show (x.e ++ flatE l)[0 * 10 + j]? = x.e[j]?
    rw [Nat.zero_mul, Nat.zero_add, List.getElem?_append_left (by rw [En.e_len]; exact hj)]
  | x :: l, i + 1, j, h, hj => by
    show (x.e ++ flatE l)[(i + 1) * 10 + j]? = _
    rw [List.getElem?_append_right (by rw [En.e_len]; omega), En.e_len, show (i + 1) * 10 + j - 10 = i * 10 + j by omega]
    exact flatE_at l i j (by simpa using h) hj

/-- The words of l stand from a place on. -/
def HE (w : World) (b off : Nat) (l : List En) : Prop := ∀ i (h : i < l.length), ∀ j, j < 10 → w.cell? ⟨b, off + i * 10 + j, none⟩ = l[i].e[j]?
theorem HE.lt {w : World} {b off : Nat} {l : List En} (h : HE w b off l) (h0 : 0 < l.length) : b < w.heap.size := by
  have := h 0 h0 0 (by omega)
  exact cell_lt (v := l[0].u) this
theorem HE.below {w w' : World} {B b off : Nat} {l : List En} (h : HE w b off l) (hb : Below B w w') (hB : b < B) : HE w' b off l := fun i hi j hj => by
  rw [hb.cell (p := ⟨b, off + i * 10 + j, none⟩) hB]; exact h i hi j hj
theorem HE.but {w w' : World} {n t b off : Nat} {l : List En} (h : HE w b off l) (hb : But n t w w') (hn : b < n) (hne : b ≠ t) : HE w' b off l := fun i hi j hj => by
  rw [← h i hi j hj]
  unfold World.cell?
  rw [hb.block b hn hne]
theorem HE.drop {w : World} {b off : Nat} {l : List En} (h : HE w b off l) (k : Nat) : HE w b (off + k * 10) (l.drop k) := fun i hi j hj => by
  rw [List.length_drop] at hi
  have := h (k + i) (by omega) j hj
  rw [show off + k * 10 + i * 10 + j = off + (k + i) * 10 + j by omega, this, List.getElem_drop]
theorem en_words {w : World} {b off : Nat} {l : List En} (h : HE w b off l) (i : Nat) {x : En} (hx : l[i]? = some x) : w.cell? ⟨b, off + i * 10, none⟩ = some x.u ∧ w.cell? ⟨b, off + i * 10 + 1, none⟩ = some (.string x.K.r) ∧ w.cell? ⟨b, off + i * 10 + 2, none⟩ = some (.string x.K.f) ∧ w.cell? ⟨b, off + i * 10 + 3, none⟩ = some (.string x.K.q) ∧ w.cell? ⟨b, off + i * 10 + 4, none⟩ = some (.int .i64 x.K.t) ∧ w.cell? ⟨b, off + i * 10 + 5, none⟩ = some (.int .i64 x.K.k) ∧ w.cell? ⟨b, off + i * 10 + 6, none⟩ = some (.int .i64 x.K.vk) ∧ w.cell? ⟨b, off + i * 10 + 7, none⟩ = some (.int .i64 x.K.vn) ∧ w.cell? ⟨b, off + i * 10 + 8, none⟩ = some (.string x.K.s) ∧ w.cell? ⟨b, off + i * 10 + 9, none⟩ = some (.int .i64 (x.p : Int)) := by
  obtain ⟨hi, hx⟩ := List.getElem?_eq_some_iff.1 hx
  rw [← hx]
  exact ⟨h i hi 0 (by omega), h i hi 1 (by omega), h i hi 2 (by omega), h i hi 3 (by omega), h i hi 4 (by omega), h i hi 5 (by omega), h i hi 6 (by omega), h i hi 7 (by omega), h i hi 8 (by omega), h i hi 9 (by omega)⟩

/-- A row of the call's own that holds the entries l. -/
def ERow (w : World) (B : Nat) (v : Value) (l : List En) : Prop := w.ownsRow B 106 10 v l.length (flatE l)
theorem ERow.none (w : World) (B : Nat) : ERow w B (.slice none 0 0) [] := ⟨rfl, .inl ⟨rfl, rfl⟩⟩
theorem ERow.he {w : World} {B g n c : Nat} {l : List En} (h : ERow w B (.slice (some ⟨g, 0, Option.none⟩) n c) l) : HE w g 0 l := fun i hi j hj => by
  have hc := World.ownsRow.cells h (g := g) rfl (i * 10 + j)
  rw [flatE_at l i j hi hj] at hc
  have hj2 : j < l[i].e.length := by rw [En.e_len]; exact hj
  have := hc l[i].e[j] (List.getElem?_eq_getElem hj2)
  rw [add_zero_off, Nat.zero_add] at this
  rw [List.getElem?_eq_getElem hj2, Nat.zero_add]
  exact this
theorem ERow.below {w w' : World} {B : Nat} {v : Value} {l : List En} (h : ERow w B v l) (hb : Below w.heap.size w w') : ERow w' B v l := by
  refine ⟨h.1, ?_⟩
  rcases h.2 with h | ⟨g, cap, cur, e, h1, h2, hr⟩
  · exact .inl h
  · have hg : g < w.heap.size := by
      rcases Nat.lt_or_ge g w.heap.size with h' | h'
      · exact h'
      · rw [Array.getElem?_eq_none h'] at h2; cases h2
    exact .inr ⟨g, cap, cur, e, h1, by rw [hb.block g hg]; exact h2, hr⟩
theorem ERow.le {w : World} {B B' : Nat} {v : Value} {l : List En} (h : ERow w B v l) (hB : B' ≤ B) : ERow w B' v l := by
  refine ⟨h.1, ?_⟩
  rcases h.2 with h | ⟨g, cap, cur, e, hb, hr⟩
  · exact .inl h
  · exact .inr ⟨g, cap, cur, e, Nat.le_trans hB hb, hr⟩
theorem ERow.len {w : World} {B : Nat} {v : Value} {l : List En} (h : ERow w B v l) : ∃ A c, v = .slice A l.length c ∧ l.length ≤ c ∧ c ≤ 9223372036854775807 ∧ (0 < l.length → ∃ g, A = some ⟨g, 0, Option.none⟩ ∧ B ≤ g ∧ g < w.heap.size) := by
  rcases h.2 with ⟨e, hz⟩ | ⟨g, cap, cur, e, hb, hg, h1, h2, _⟩
  · exact ⟨Option.none, 0, by rw [e, hz], by omega, by omega, fun h0 => by omega⟩
  · refine ⟨_, cap, e, h1, by unfold maxLen at h2; omega, fun _ => ⟨g, rfl, hb, ?_⟩⟩
    rcases Nat.lt_or_ge g w.heap.size with h' | h'
    · exact h'
    · rw [Array.getElem?_eq_none h'] at hg; cases hg

theorem info_ent : (Tryz.prog.info? 106).map (fun i => (i.zero, i.size, i.bytes)) = some (some (.agg #[.slice none 0 0, .string ⟨#[]⟩, .string ⟨#[]⟩, .string ⟨#[]⟩, .int .i64 0, .int .i64 0, .int .i64 0, .int .i64 0, .string ⟨#[]⟩, .int .i64 0]), 10, 128) := by kernel_rfl
section
variable {ops : Array Oper} {rest : List Oper} {o : Oper} {a : Act} {Q : Exit → Act → World → Prop}
/-- append of one entry to nothing, or to a row of the call's own. -/
theorem wpList_append_ent (hgd : o.guard = Option.none) (s x : Operand)
    (ho : o.op = .call { callee := .builtin .append, args := #[s, x], argTypes := #[88, 88] })
    (w : World) (base : Nat) (v : Value) (l : List En) (hs : a.eval s = v) (hown : ERow w base v l)
    (G : Nat) (m : Nat) (hx : a.eval x = .slice (some ⟨G, 0, Option.none⟩) 1 m) (y : En) (hy : y.u.oneCell' = true) (hc : ∀ j u, y.e[j]? = some u → w.cell? ((⟨G, 0, Option.none⟩ : Addr).add j) = some u)
    (hlen : l.length ≤ 100000) (hbase : base ≤ w.heap.size)
    (h : ∀ v' w', ERow w' base v' (l ++ [y]) → Below base w w' → w.grownBy w' v.ownBlock → wpList Tryz.prog ops Q rest (a.put o.dst v') w') : wpList Tryz.prog ops Q (o :: rest) a w := by
  obtain ⟨i0, hi, hz0, hz1, hz2⟩ := info_parts info_ent
  refine wpList_append_own w hgd s x 88 ho base 106 i0 _ 10 128 Tryz.underlying88 hi hz0 hz1 hz2 rfl (by decide) v l.length (flatE l) hs hown ⟨G, 0, Option.none⟩ 1 m y.e hx (En.e_len y) hc (y.e_one hy) (by unfold maxLen; omega) (by omega) hbase ?_
  intro v' w' h1 h2 _
  refine h v' w' ?_ ((Below.refl _ _).grown h2 hbase fun k hk => (World.ownsRow.lt hown k hk).1) h2
  unfold ERow
  rw [flatE_app, flatE_one, List.length_append]
  exact h1
end
end Go.Proofs.YtjbjdkginemedaaGreatDoor
