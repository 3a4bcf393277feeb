/- Several texts in one: NKa NKb NKc NM NMa. Conditions: as each theorem names them. -/
import Derived.Test.YtjbjdkginemedaaGreatDoorQC
import Derived.Test.YtjbjdkginemedaaGreatDoorQ4
import Derived.Test.YtjbjdkginemedaaGreatDoorQB
import Derived.Test.YtjbjdkginemedaaGreatDoorQA
import Derived.Deep.QuietTactic
import Derived.BigQuiet
/- slices.Concat of two slices of bytes; Decode and Key at whatever bytes and cells; whose bytes stand next. Conditions: the slices hold their bytes, a hundred thousand together at most. -/
namespace Go.Proofs.YtjbjdkginemedaaGreatDoor
open Go.RowKit

structure Cat2 (w : World) (s : Nat) (A1 A2 : Option Addr) (c1 c2 : Nat) (l1 l2 : List UInt8) (W : World) : Prop where
  below : Below w.heap.size w W
  k1 : W.cell? ⟨s, 0, none⟩ = some (.slice A1 l1.length c1)
  k2 : W.cell? ⟨s, 1, none⟩ = some (.slice A2 l2.length c2)
  h1 : HoldsA W A1 l1
  h2 : HoldsA W A2 l2
section
variable {w W W' : World} {s : Nat} {A1 A2 : Option Addr} {c1 c2 : Nat} {l1 l2 : List UInt8}
theorem Cat2.go (h0 : Cat2 w s A1 A2 c1 c2 l1 l2 w) (hb : Below w.heap.size w W) : Cat2 w s A1 A2 c1 c2 l1 l2 W :=
  ⟨hb, (hb.cell (p := ⟨s, 0, none⟩) (cell_lt h0.k1)).trans h0.k1, (hb.cell (p := ⟨s, 1, none⟩) (cell_lt h0.k2)).trans h0.k2, h0.h1.below hb, h0.h2.below hb⟩
end

set_option maxRecDepth 100000 in
set_option maxHeartbeats 4000000 in
theorem concat2 (s : Nat) (A1 A2 : Option Addr) (c1 c2 : Nat) (l1 l2 : List UInt8) (hl : l1.length + l2.length ≤ 1000000) (w : World) (h : Cat2 w s A1 A2 c1 c2 l1 l2 w) :
    Calls Tryz.prog 64 #[.slice (some ⟨s, 0, none⟩) 2 2] w fun e w' => ∃ v, e = .returned v ∧ Row w' w.heap.size v (l1 ++ l2) ∧ Below w.heap.size w w' := by
  have HH := hid h
  obtain ⟨_, k1, k2, _, _⟩ := h
  have HL := hid hl
  obtain ⟨n1, e1⟩ : ∃ n, l1.length = n := ⟨_, rfl⟩
  obtain ⟨n2, e2⟩ : ∃ n, l2.length = n := ⟨_, rfl⟩
  rw [e1] at k1; rw [e2] at k2
  have b1 : n1 ≤ 1000000 := by omega
  have b2 : n2 ≤ 1000000 := by omega
  have b4 : n1 + n2 ≤ 1000000 := by omega
  have E1 := hid e1; have E2 := hid e2
  clear e1 e2 hl
  go_enter Tryz.func64, Tryz.ntmps64
  go_wp2
  refine wp_loop_rounds 3 ?_
  rw [rounds_succ]; go_wp2
  rw [rounds_succ]; go_wp2
  rw [rounds_succ]; go_wp2_with (go_at_call 123; refine (grow_any _ (by omega) (by omega) _).mono ?_; rintro e w1 ⟨v1, rfl, hR1, hb1⟩; have HC1 := hid (HH.out.go hb1); obtain ⟨_, m1, m2, _, _⟩ := HC1.out)
  refine wp_loop_rounds 3 ?_
  rw [rounds_succ]; go_wp2_with (at_builtin; refine wpList_append_any rfl (.tmp 31) (.tmp 32) rfl rfl _ w.heap.size _ [] rfl hR1 A1 c1 l1 rfl HC1.out.h1 (by have := HL.out; simp only [List.length_nil]; omega) HC1.out.below.size ?_; intro v2 w2 hR2 hb2; have HC2 := hid (HH.out.go (HC1.out.below.trans hb2)); obtain ⟨_, m1, m2, _, _⟩ := HC2.out)
  rw [rounds_succ]; go_wp2_with (at_builtin; refine wpList_append_any rfl (.tmp 31) (.tmp 32) rfl rfl _ w.heap.size _ ([] ++ l1) rfl hR2 A2 c2 l2 rfl HC2.out.h2 (by have := HL.out; simp only [List.length_append, List.length_nil]; omega) HC2.out.below.size ?_; intro v3 w3 hR3 hb3; have HC3 := hid (HH.out.go (HC2.out.below.trans hb3)); obtain ⟨_, m1, m2, _, _⟩ := HC3.out)
  rw [rounds_succ]; go_wp2
  go_ret
  refine ⟨_, rfl, ?_, HC3.out.below⟩
  rw [List.nil_append] at hR3
  exact hR3

theorem vr_small {k n : Int} {s : List UInt8} (h : vRight k n s = true) : s.length ≤ 1000 := by
  have := right_len h
  omega
theorem bc_right {r f q vs : List UInt8} {t k vk vn : Int} (h : cRight r f q t k vk vn vs = true) (hn : inI vn) : Bc ⟨⟨r.toArray⟩, ⟨f.toArray⟩, ⟨q.toArray⟩, t, k, vk, vn, ⟨vs.toArray⟩⟩ := by
  refine ⟨h, hn, ?_⟩
  obtain ⟨_, _, _, _, _, _, _, _, _, _, p1, p2⟩ := cright_parts h
  show vs.toArray.size ≤ 1000
  rw [List.size_toArray]
  by_cases hk : k = 1
  · exact vr_small (p1 hk)
  · rw [(p2 hk).2.2]; simp
theorem bc_ok {c : CT} (h : Bc c) : okC c := by
  obtain ⟨_, _, _, h4, _⟩ := cright_parts h.1
  have e4 : c.f.data.toList.length = c.f.size := rfl
  have := h.2.2
  exact ⟨by omega, by omega, h.2.1⟩
/-- Decode at whatever bytes. -/
theorem dec_any (A : Option Addr) (c : Nat) (l : List UInt8) (hl : l.length ≤ 100000) (hc : l.length ≤ c) (hc2 : c ≤ 9223372036854775807) (w : World) (h : HoldsA w A l) (hL : LaidU w) :
    Calls Tryz.prog 117 #[.slice A l.length c] w fun e w' => ∃ (x : CT) (ok : Bool), e = .returned (.tuple #[x.v, .bool ok]) ∧ Below w.heap.size w w' ∧ okC x ∧ ((ok = true ∧ Bc x ∧ encB x = l) ∨ (ok = false ∧ NoCell l ∧ x = default)) := by
  refine (cdecode_any A c l hl hc hc2 w h hL).mono fun e w' ⟨hb, hd⟩ => ?_
  rcases hd with ⟨r, f, q, t, k, vk, vn, vs, h1, h2, h3, he⟩ | ⟨hno, he⟩
  · have hB := bc_right h1 h2
    exact ⟨⟨⟨r.toArray⟩, ⟨f.toArray⟩, ⟨q.toArray⟩, t, k, vk, vn, ⟨vs.toArray⟩⟩, true, he, hb, bc_ok hB, .inl ⟨rfl, hB, h3⟩⟩
  · exact ⟨⟨⟨#[]⟩, ⟨#[]⟩, ⟨#[]⟩, 0, 0, 0, 0, ⟨#[]⟩⟩, false, he, hb, ⟨by decide, by decide, by unfold inI; decide⟩, .inr ⟨rfl, hno, rfl⟩⟩
/-- Key at whatever cell. -/
theorem keyc_any (c : CT) (h : okC c) (w : World) (hL : LaidU w) :
    Calls Tryz.prog 39 #[c.v] w fun e w' => ∃ v, e = .returned (.tuple #[v, .bool c.ok]) ∧ Row w' w.heap.size v (if c.ok = true then keyL c else []) ∧ Below w.heap.size w w' := by
  cases hok : c.ok with
  | true => exact key_yes c.r c.f c.q c.s c.t c.k c.vk h.2.2 h.1 h.2.1 w hL hok
  | false =>
    refine (key_no c.r c.f c.q c.s c.t c.k c.vk h.2.2 h.1 h.2.1 w hL hok).mono fun e w' ⟨he, hb⟩ => ⟨_, he, ?_, hb⟩
    rw [if_neg (by simp)]
    exact Row.none _ _

section
variable {a l k s x r : List UInt8} {c y : CT}
theorem last_put {c : CT} (h : Bc c) : (keyL c).getLast? = some 254 ↔ c.k = 1 := by
  obtain ⟨_, _, _, _, _, _, _, p1, p4, _⟩ := cright_parts h.1
  rw [keyL_last]
  constructor
  · intro e
    have e2 := congrArg UInt8.toNat (Option.some.inj e)
    rw [UInt8.toNat_ofNat'] at e2
    have : (254 : UInt8).toNat = 254 := rfl
    omega
  · intro e
    rw [e]
    rfl
/-- No key stands there: no cell does. -/
theorem no_key (h : keyT a l = none) : NoOne a l := fun c r hc hk e => by
  rw [e, one_key hc hk] at h
  cases h
theorem key_in (h : keyT a l = some (k, s)) {c : CT} {r : List UInt8} (hc : Bc c) (hk : Lib.compareBytes a (keyL c) < 0) (e : l = oneB a c ++ r) : k = keyL c ∧ s = vpB c ++ r := by
  rw [e, one_key hc hk] at h
  injection h with h
  injection h with h1 h2
  exact ⟨h1.symm, h2.symm⟩
theorem no_val (h : keyT a l = some (k, s)) (hp : k.getLast? = some 254) (hx : cntT s = none) : NoOne a l := fun c r hc hk e => by
  obtain ⟨rfl, rfl⟩ := key_in h hc hk e
  have h1 := (last_put hc).1 hp
  unfold vpB at hx
  rw [if_pos h1, List.append_assoc, cnt_yes (by have := (bc_small hc).2; omega)] at hx
  cases hx
/-- A put stands there. -/
theorem one_put (h : keyT a l = some (k, s)) (hp : k.getLast? = some 254) (hx : cntT s = some (x, r)) (hy : Bc y) (he : encB y = k ++ x) (hk : keyL y = k) : Lib.compareBytes a (keyL y) < 0 ∧ l = oneB a y ++ r := by
  subst hk
  have h1 := (last_put hy).1 hp
  obtain ⟨h2, h3⟩ := keyT_back h
  refine ⟨h2, ?_⟩
  rw [encB_is, if_pos h1] at he
  have ev : valL y = x := List.append_cancel_left he
  rw [oneB_app, h3, cnt_back hx]
  unfold vpB
  rw [if_pos h1, ev]
  simp only [List.append_assoc]
theorem no_put (h : keyT a l = some (k, s)) (hp : k.getLast? = some 254) (hx : cntT s = some (x, r)) (hn : NoCell (k ++ x) ∨ (Bc y ∧ encB y = k ++ x ∧ keyL y ≠ k)) : NoOne a l := fun c r' hc hk e => by
  obtain ⟨rfl, rfl⟩ := key_in h hc hk e
  have h1 := (last_put hc).1 hp
  unfold vpB at hx
  rw [if_pos h1, List.append_assoc, cnt_yes (by have := (bc_small hc).2; omega)] at hx
  injection hx with hx
  injection hx with hx1 hx2
  have ec : encB c = keyL c ++ x := by rw [encB_is, if_pos h1, hx1]
  rcases hn with hn | ⟨hy, he, hne⟩
  · exact hn _ _ _ _ _ _ _ _ hc.1 hc.2.1 ec
  · have := enc_one hy hc (he.trans ec.symm)
    rw [this] at hne
    exact hne rfl
/-- A cell that is no put stands there. -/
theorem one_other (h : keyT a l = some (k, s)) (hp : k.getLast? ≠ some 254) (hy : Bc y) (he : encB y = k) (hk : keyL y = k) : Lib.compareBytes a (keyL y) < 0 ∧ l = oneB a y ++ s := by
  subst hk
  have h1 : ¬ y.k = 1 := fun e => hp ((last_put hy).2 e)
  obtain ⟨h2, h3⟩ := keyT_back h
  refine ⟨h2, ?_⟩
  rw [oneB_app, h3]
  unfold vpB
  rw [if_neg h1, List.nil_append]
theorem no_other (h : keyT a l = some (k, s)) (hp : k.getLast? ≠ some 254) (hn : NoCell k ∨ (Bc y ∧ encB y = k ∧ keyL y ≠ k)) : NoOne a l := fun c r' hc hk e => by
  obtain ⟨rfl, rfl⟩ := key_in h hc hk e
  have h1 : ¬ c.k = 1 := fun e => hp ((last_put hc).2 e)
  have ec : encB c = keyL c := by rw [encB_is, if_neg h1, List.append_nil]
  rcases hn with hn | ⟨hy, he, hne⟩
  · exact hn _ _ _ _ _ _ _ _ hc.1 hc.2.1 ec
  · have := enc_one hy hc (he.trans ec.symm)
    rw [this] at hne
    exact hne rfl
end
end Go.Proofs.YtjbjdkginemedaaGreatDoor

/- The block's reader: the next cell, by the key ahead of it. Conditions: the reader holds its bytes, the key ahead stands, a hundred thousand bytes together at most; the tables of utf8 read as they are laid. -/
namespace Go.Proofs.YtjbjdkginemedaaGreatDoor
open Go.RowKit

theorem wp_ltk {P : Program} {c : Code} {Q : Exit → Act → World → Prop} {a : Act} {w : World} (F : World → Prop) (h0 : F w) (h : ∀ W, F W → c.wp P Q a W) : c.wp P Q a w := h w h0
/-- Where cell is: the reader, a key, the cell's own block. -/
structure Ck (w0 W : World) (rb cb : Nat) (kv : Value) (k r : List UInt8) (b : Bool) (X : CT) : Prop where
  but : But w0.heap.size rb w0 W
  kx : Sx W rb kv k
  rs : Rs W rb r b
  dw : Blk W cb 26 X.e.toArray
  lo : rb < cb
  hi : w0.heap.size ≤ cb
theorem Ck.below {w0 W W' : World} {rb cb : Nat} {kv : Value} {k r : List UInt8} {b : Bool} {X : CT} (h : Ck w0 W rb cb kv k r b X) (hb : Below W.heap.size W W') : Ck w0 W' rb cb kv k r b X :=
  ⟨h.but.trans ((But.of_below hb rb).mono h.but.size), h.kx.below hb, h.rs.below hb, h.dw.keep hb h.dw.lt, h.lo, h.hi⟩
theorem sx_box {W W' : World} {rb cb : Nat} {v : Value} {l : List UInt8} {X : CT} (h : Sx W rb v l) (hd : Blk W cb 26 X.e.toArray) (hb : But W.heap.size cb W W') : Sx W' rb v l := by
  obtain ⟨A, c, h1, h2, h3, h4, h5⟩ := h
  refine ⟨A, c, h1, h2, h3, h4, fun h0 => ?_⟩
  obtain ⟨b, off, e, hne, hlt, hh⟩ := h5 h0
  refine ⟨b, off, e, hne, Nat.lt_of_lt_of_le hlt hb.size, fun i hi => ?_⟩
  have hx := hh i hi
  by_cases hbc : b = cb
  · exfalso
    subst hbc
    rw [hd.cell, List.getElem?_toArray] at hx
    have hm := List.mem_of_getElem? hx
    simp [CT.e] at hm
  · rw [hb.cell hlt hbc]
    exact hx
theorem sb_box {W W' : World} {rb cb : Nat} {v : Value} {l : List UInt8} {X : CT} (h : Sb W rb v l) (hd : Blk W cb 26 X.e.toArray) (hb : But W.heap.size cb W W') : Sb W' rb v l := by
  obtain ⟨A, c, h1, h2, h3, h4, h5⟩ := h
  refine ⟨A, c, h1, h2, h3, h4, fun h0 => ?_⟩
  obtain ⟨b, off, e, hne, hlt, hh⟩ := h5 h0
  refine ⟨b, off, e, hne, Nat.lt_of_lt_of_le hlt hb.size, fun i hi => ?_⟩
  have hx := hh i hi
  by_cases hbc : b = cb
  · exfalso
    subst hbc
    rw [hd.cell, List.getElem?_toArray] at hx
    have hm := List.mem_of_getElem? hx
    simp [CT.e] at hm
  · rw [hb.cell hlt hbc]
    exact hx
theorem Ck.box {w0 W W' : World} {rb cb : Nat} {kv : Value} {k r : List UInt8} {b : Bool} {X Y : CT} (h : Ck w0 W rb cb kv k r b Y) (hb : But W.heap.size cb W W') (hd : Blk W' cb 26 X.e.toArray) : Ck w0 W' rb cb kv k r b X := by
  have hlo := h.lo
  have hhi := h.hi
  refine ⟨⟨hb.os.trans h.but.os, hb.tape.trans h.but.tape, hb.output.trans h.but.output, Nat.le_trans h.but.size hb.size, fun j hj hr => ?_⟩, sx_box h.kx h.dw hb, ?_, hd, h.lo, h.hi⟩
  · exact (hb.block j (Nat.lt_of_lt_of_le hj h.but.size) (by omega)).trans (h.but.block j hj hr)
  · obtain ⟨v, h1, h2⟩ := h.rs
    refine ⟨v, ?_, sb_box h2 h.dw hb⟩
    unfold Blk at h1 ⊢
    rw [hb.block rb (Nat.lt_of_lt_of_le hlo (Nat.le_of_lt h.dw.lt)) (by omega)]
    exact h1
theorem Ck.words {w0 W : World} {rb cb : Nat} {kv : Value} {k r : List UInt8} {b : Bool} {X : CT} (h : Ck w0 W rb cb kv k r b X) : W.cell? ⟨cb, 0, none⟩ = some (.string X.r) ∧ W.cell? ⟨cb, 1, none⟩ = some (.string X.f) ∧ W.cell? ⟨cb, 2, none⟩ = some (.string X.q) ∧ W.cell? ⟨cb, 3, none⟩ = some (.int .i64 X.t) ∧ W.cell? ⟨cb, 4, none⟩ = some (.int .i64 X.k) ∧ W.cell? ⟨cb, 5, none⟩ = some (.int .i64 X.vk) ∧ W.cell? ⟨cb, 6, none⟩ = some (.int .i64 X.vn) ∧ W.cell? ⟨cb, 7, none⟩ = some (.string X.s) := by
  have h := h.dw
  exact ⟨h.cell 0, h.cell 1, h.cell 2, h.cell 3, h.cell 4, h.cell 5, h.cell 6, h.cell 7⟩
theorem blkc_words {W : World} {cb : Nat} {X : CT} (h : Blk W cb 26 X.e.toArray) : W.cell? ⟨cb, 0, none⟩ = some (.string X.r) ∧ W.cell? ⟨cb, 1, none⟩ = some (.string X.f) ∧ W.cell? ⟨cb, 2, none⟩ = some (.string X.q) ∧ W.cell? ⟨cb, 3, none⟩ = some (.int .i64 X.t) ∧ W.cell? ⟨cb, 4, none⟩ = some (.int .i64 X.k) ∧ W.cell? ⟨cb, 5, none⟩ = some (.int .i64 X.vk) ∧ W.cell? ⟨cb, 6, none⟩ = some (.int .i64 X.vn) ∧ W.cell? ⟨cb, 7, none⟩ = some (.string X.s) :=
  ⟨h.cell 0, h.cell 1, h.cell 2, h.cell 3, h.cell 4, h.cell 5, h.cell 6, h.cell 7⟩
theorem Ck.set8 {w0 W : World} {rb cb : Nat} {kv : Value} {k r : List UInt8} {b : Bool} {Y : CT} (X : CT) (h : Ck w0 W rb cb kv k r b Y) :
    Ck w0 ((((((((W.setCell ⟨cb, 0, none⟩ (.string X.r)).setCell ⟨cb, 1, none⟩ (.string X.f)).setCell ⟨cb, 2, none⟩ (.string X.q)).setCell ⟨cb, 3, none⟩ (.int .i64 X.t)).setCell ⟨cb, 4, none⟩ (.int .i64 X.k)).setCell ⟨cb, 5, none⟩ (.int .i64 X.vk)).setCell ⟨cb, 6, none⟩ (.int .i64 X.vn)).setCell ⟨cb, 7, none⟩ (.string X.s)) rb cb kv k r b X := by
  refine h.box ((((((((But.refl _ _ _).setCell 0 _).setCell 1 _).setCell 2 _).setCell 3 _).setCell 4 _).setCell 5 _).setCell 6 _ |>.setCell 7 _) ?_
  have e : ((((((((Y.e.toArray.setIfInBounds 0 (.string X.r)).setIfInBounds 1 (.string X.f)).setIfInBounds 2 (.string X.q)).setIfInBounds 3 (.int .i64 X.t)).setIfInBounds 4 (.int .i64 X.k)).setIfInBounds 5 (.int .i64 X.vk)).setIfInBounds 6 (.int .i64 X.vn)).setIfInBounds 7 (.string X.s)) = X.e.toArray := by simp [CT.e]
  rw [← e]
  have m0 := h.dw.set 0 (.string X.r)
  have m1 := m0.set 1 (.string X.f)
  have m2 := m1.set 2 (.string X.q)
  have m3 := m2.set 3 (.int .i64 X.t)
  have m4 := m3.set 4 (.int .i64 X.k)
  have m5 := m4.set 5 (.int .i64 X.vk)
  have m6 := m5.set 6 (.int .i64 X.vn)
  exact m6.set 7 (.string X.s)
theorem Ck.spoil {w0 W : World} {rb cb : Nat} {kv : Value} {k r : List UInt8} {b : Bool} {X : CT} (h : Ck w0 W rb cb kv k r b X) : Ck w0 (W.setCell ⟨rb, 1, none⟩ (.bool true)) rb cb kv k r true X := by
  obtain ⟨s1, s2⟩ := h.rs.spoil
  refine ⟨h.but.trans (s2.mono h.but.size), h.kx.but s2, s1, ?_, h.lo, h.hi⟩
  have := h.dw
  unfold Blk at this ⊢
  rw [s2.block cb h.dw.lt (by have := h.lo; omega)]
  exact this
theorem last_cell {W : World} {rb c : Nat} {A : Option Addr} {k : List UInt8} {n : Nat} (h : Sx W rb (.slice A n c) k) (hn : 0 < n) : ∃ b off y, A = some ⟨b, off, none⟩ ∧ W.cell? ⟨b, off + (n - 1), none⟩ = some (.int .u8 ((y : UInt8).toNat : Int)) ∧ k.getLast? = some y := by
  obtain ⟨e, _, _, _, hh⟩ := h.holds
  subst e
  obtain ⟨b, off, rfl, hh2⟩ := hh hn
  have h1 : k.length - 1 < k.length := by omega
  refine ⟨b, off, k[k.length - 1], rfl, ?_, ?_⟩
  · rw [hh2 _ h1, List.getD_eq_getElem?_getD, List.getElem?_eq_getElem h1, Option.getD_some]
  · rw [List.getLast?_eq_getElem?, List.getElem?_eq_getElem h1]

/-- What cell leaves. -/
def CeEnd (rb : Nat) (a l : List UInt8) (bad : Bool) (w : World) (e : Ending) (w' : World) : Prop :=
  But w.heap.size rb w w' ∧ ∃ (X : CT) (kv : Value) (k r : List UInt8) (b : Bool), e = .returned (.tuple #[X.v, kv]) ∧ Sx w' rb kv k ∧ Rs w' rb r b ∧ k.length + r.length ≤ a.length + l.length ∧ ((b = bad ∧ Bc X ∧ k = keyL X ∧ Lib.compareBytes a (keyL X) < 0 ∧ l = oneB a X ++ r ∧ FrV w.heap.size kv) ∨ (b = true ∧ NoOne a l))
/-- What is known of the key, and of what is left. -/
def KeyQ (a l : List UInt8) (bad : Bool) (k r : List UInt8) (b : Bool) : Prop := k.length + r.length ≤ a.length + l.length ∧ ((b = bad ∧ keyT a l = some (k, r)) ∨ (b = true ∧ keyT a l = none))
/-- What is known of what is counted. -/
def CouQ (r : List UInt8) (b : Bool) (x r2 : List UInt8) (b2 : Bool) : Prop := x.length + r2.length ≤ r.length ∧ ((b2 = b ∧ cntT r = some (x, r2)) ∨ (b2 = true ∧ cntT r = none))
/-- What is known of what Decode has read. -/
def DecQ (l : List UInt8) (X : CT) (ok : Bool) : Prop := okC X ∧ ((ok = true ∧ Bc X ∧ encB X = l) ∨ (ok = false ∧ NoCell l))
theorem key_some {a l : List UInt8} {X : CT} {r : List UInt8} (h1 : Bc X) (h2 : Lib.compareBytes a (keyL X) < 0) (h3 : l = oneB a X ++ r) : keyT a l ≠ none := fun h => no_key h X r h1 h2 h3
theorem end_fr {a l k r : List UInt8} {bad b : Bool} {X : CT} {B B2 : Nat} {v : Value} (hf : keyT a l ≠ none → FrV B2 v) (hB : B ≤ B2) (h : (b = bad ∧ Bc X ∧ k = keyL X ∧ Lib.compareBytes a (keyL X) < 0 ∧ l = oneB a X ++ r) ∨ (b = true ∧ NoOne a l)) : (b = bad ∧ Bc X ∧ k = keyL X ∧ Lib.compareBytes a (keyL X) < 0 ∧ l = oneB a X ++ r ∧ FrV B v) ∨ (b = true ∧ NoOne a l) := by
  rcases h with ⟨h1, h2, h3, h4, h5⟩ | h
  · exact .inl ⟨h1, h2, h3, h4, h5, fun a m c e => Nat.le_trans hB (hf (key_some h2 h4 h5) a m c e)⟩
  · exact .inr h
theorem end_put {a l k r x r2 : List UInt8} {bad b b2 ok : Bool} {X : CT} (h1 : KeyQ a l bad k r b) (h2 : k.getLast? = some 254) (h3 : CouQ r b x r2 b2) (h4 : DecQ (k ++ x) X ok) :
    (ok = true ∧ decide ((if X.ok = true then keyL X else []) = k) = true → (b2 = bad ∧ Bc X ∧ k = keyL X ∧ Lib.compareBytes a (keyL X) < 0 ∧ l = oneB a X ++ r2) ∨ (b2 = true ∧ NoOne a l)) ∧ (ok = false ∨ decide ((if X.ok = true then keyL X else []) = k) = false → NoOne a l) := by
  rcases h1.2 with ⟨hb, hk⟩ | ⟨hb, hk⟩
  · rcases h3.2 with ⟨hb2, hc⟩ | ⟨hb2, hc⟩
    · rcases h4.2 with ⟨ho, hB, he⟩ | ⟨ho, hno⟩
      · have e : (if X.ok = true then keyL X else []) = keyL X := if_pos hB.1
        rw [e]
        refine ⟨fun h => .inl ?_, fun h => ?_⟩
        · have hkk := of_decide_eq_true h.2
          obtain ⟨g1, g2⟩ := one_put hk h2 hc hB he hkk
          exact ⟨by rw [hb2, hb], hB, hkk.symm, g1, g2⟩
        · rcases h with h | h
          · rw [ho] at h; cases h
          · exact no_put hk h2 hc (.inr ⟨hB, he, of_decide_eq_false h⟩)
      · exact ⟨fun h => (by rw [ho] at h; cases h.1), fun _ => no_put (y := X) hk h2 hc (.inl hno)⟩
    · have := no_val hk h2 hc
      exact ⟨fun _ => .inr ⟨hb2, this⟩, fun _ => this⟩
  · have hn := no_key hk
    refine ⟨fun _ => .inr ⟨?_, hn⟩, fun _ => hn⟩
    rcases h3.2 with ⟨hb2, _⟩ | ⟨hb2, _⟩
    · rw [hb2, hb]
    · exact hb2
theorem end_other {a l k r : List UInt8} {bad b ok : Bool} {X : CT} (h1 : KeyQ a l bad k r b) (h2 : k.getLast? ≠ some 254) (h4 : DecQ k X ok) :
    (ok = true ∧ decide ((if X.ok = true then keyL X else []) = k) = true → (b = bad ∧ Bc X ∧ k = keyL X ∧ Lib.compareBytes a (keyL X) < 0 ∧ l = oneB a X ++ r) ∨ (b = true ∧ NoOne a l)) ∧ (ok = false ∨ decide ((if X.ok = true then keyL X else []) = k) = false → NoOne a l) := by
  rcases h1.2 with ⟨hb, hk⟩ | ⟨hb, hk⟩
  · rcases h4.2 with ⟨ho, hB, he⟩ | ⟨ho, hno⟩
    · have e : (if X.ok = true then keyL X else []) = keyL X := if_pos hB.1
      rw [e]
      refine ⟨fun h => .inl ?_, fun h => ?_⟩
      · have hkk := of_decide_eq_true h.2
        obtain ⟨g1, g2⟩ := one_other hk h2 hB he hkk
        exact ⟨hb, hB, hkk.symm, g1, g2⟩
      · rcases h with h | h
        · rw [ho] at h; cases h
        · exact no_other hk h2 (.inr ⟨hB, he, of_decide_eq_false h⟩)
    · exact ⟨fun h => (by rw [ho] at h; cases h.1), fun _ => no_other (y := X) hk h2 (.inl hno)⟩
  · have hn := no_key hk
    exact ⟨fun _ => .inr ⟨hb, hn⟩, fun _ => hn⟩
theorem bkey_ck (rb : Nat) (a l : List UInt8) (bad : Bool) (v : Value) (hal : a.length + l.length ≤ 1000000) (w0 w : World) (cb : Nat) (X : CT) (kv : Value) (h : Ck w0 w rb cb kv a l bad X) (hv : kv = v) :
    Calls Tryz.prog 115 #[.pointer (some ⟨rb, 0, none⟩), v] w fun e w' => ∃ A1 c1 n k r b, e = .returned (.slice A1 n c1) ∧ Hid (k.length = n ∧ Ck w0 w' rb cb (.slice A1 n c1) k r b X ∧ KeyQ a l bad k r b ∧ (keyT a l ≠ none → FrV w.heap.size (.slice A1 n c1))) := by
  subst hv
  refine (bkey_any rb a l bad kv hal w h.rs h.kx).mono fun e w' hx => ?_
  unfold KyEnd at hx
  obtain ⟨hb, hm⟩ := hx
  have hd : Blk w' cb 26 X.e.toArray := by
    have := h.dw
    unfold Blk at this ⊢
    rw [hb.block cb h.dw.lt (by have := h.lo; omega)]
    exact this
  have hbb := h.but.trans (hb.mono h.but.size)
  cases hk : keyT a l with
  | none =>
    rw [hk] at hm
    obtain ⟨v, k, r, he, hs, hr, hlen⟩ := hm
    obtain ⟨A1, c1, rfl, _⟩ := hs.form
    exact ⟨A1, c1, k.length, k, r, true, he, rfl, ⟨hbb, hs, hr, hd, h.lo, h.hi⟩, ⟨hlen, .inr ⟨rfl, hk⟩⟩, fun h => absurd rfl h⟩
  | some p =>
    obtain ⟨k, r⟩ := p
    rw [hk] at hm
    obtain ⟨v, he, hs, hr, hf⟩ := hm
    obtain ⟨A1, c1, rfl, _⟩ := hs.form
    refine ⟨A1, c1, k.length, k, r, bad, he, rfl, ⟨hbb, hs, hr, hd, h.lo, h.hi⟩, ⟨?_, .inl ⟨rfl, hk⟩⟩, fun _ => hf⟩
    have hkb := (keyT_back hk).2
    have := preL_le a k
    have e := congrArg List.length hkb
    simp only [List.length_append, List.length_drop] at e
    omega
theorem bcou_ck (rb : Nat) (k r : List UInt8) (b : Bool) (v : Value) (w0 w : World) (cb : Nat) (X : CT) (h : Ck w0 w rb cb v k r b X) :
    Calls Tryz.prog 116 #[.pointer (some ⟨rb, 0, none⟩)] w fun e w' => ∃ A2 c2 n x r2 b2, e = .returned (.slice A2 n c2) ∧ Hid (x.length = n ∧ Ck w0 w' rb cb v k r2 b2 X ∧ Sx w' rb (.slice A2 n c2) x ∧ CouQ r b x r2 b2) := by
  refine (bcounted_any rb r b w h.rs).mono fun e w' hx => ?_
  unfold CoEnd at hx
  obtain ⟨hb, hm⟩ := hx
  have hd : Blk w' cb 26 X.e.toArray := by
    have := h.dw
    unfold Blk at this ⊢
    rw [hb.block cb h.dw.lt (by have := h.lo; omega)]
    exact this
  have hbb := h.but.trans (hb.mono h.but.size)
  cases hk : cntT r with
  | none =>
    rw [hk] at hm
    obtain ⟨v2, r2, he, hs, hr, hlen⟩ := hm
    obtain ⟨A1, c1, rfl, _⟩ := hs.form
    exact ⟨A1, c1, _, [], r2, true, he, rfl, ⟨hbb, h.kx.but hb, hr, hd, h.lo, h.hi⟩, hs, by simpa using hlen, .inr ⟨rfl, hk⟩⟩
  | some p =>
    obtain ⟨x, r2⟩ := p
    rw [hk] at hm
    obtain ⟨v2, he, hs, hr⟩ := hm
    obtain ⟨A1, c1, rfl, _⟩ := hs.form
    refine ⟨A1, c1, x.length, x, r2, b, he, rfl, ⟨hbb, h.kx.but hb, hr, hd, h.lo, h.hi⟩, hs, ?_, .inl ⟨rfl, hk⟩⟩
    have e := congrArg List.length (cnt_back hk)
    simp only [List.length_append] at e
    omega
theorem concat_ck (rb : Nat) (k r x : List UInt8) (b : Bool) (A1 A2 : Option Addr) (n1 c1 n2 c2 : Nat) (w0 w : World) (cb : Nat) (X : CT) (T : TypeId) (hk : k.length = n1) (hx : x.length = n2) (hl : k.length + x.length ≤ 1000000) (h : Ck w0 w rb cb (.slice A1 n1 c1) k r b X) (h2 : Sx w rb (.slice A2 n2 c2) x) :
    Calls Tryz.prog 64 #[.slice (some ⟨w.heap.size, 0, none⟩) 2 2] (w.alloc (.cells #[.slice A1 n1 c1, .slice A2 n2 c2] T)) fun e w' => ∃ A3 c3 n3, e = .returned (.slice A3 n3 c3) ∧ Hid ((k ++ x).length = n3 ∧ Ck w0 w' rb cb (.slice A1 n1 c1) k r b X ∧ Sx w' rb (.slice A3 n3 c3) (k ++ x)) := by
  subst hk hx
  have hb := below_new w (.cells #[.slice A1 k.length c1, .slice A2 x.length c2] T)
  have hB : Blk (w.alloc (.cells #[.slice A1 k.length c1, .slice A2 x.length c2] T)) w.heap.size T _ := Blk.new w T _
  have hC : Cat2 (w.alloc (.cells #[.slice A1 k.length c1, .slice A2 x.length c2] T)) w.heap.size A1 A2 c1 c2 k x (w.alloc (.cells #[.slice A1 k.length c1, .slice A2 x.length c2] T)) := ⟨Below.refl _ _, hB.cell 0, hB.cell 1, (h.kx.below hb).holds.2.2.2.2, (h2.below hb).holds.2.2.2.2⟩
  refine (concat2 w.heap.size A1 A2 c1 c2 k x hl _ hC).mono fun e w' ⟨v, he, hr, hb2⟩ => ?_
  have hrb : rb < (w.alloc (.cells #[.slice A1 k.length c1, .slice A2 x.length c2] T)).heap.size := (h.rs.below hb).lt
  have hs := hr.sx hrb
  obtain ⟨A3, c3, rfl, _⟩ := hs.form
  exact ⟨A3, c3, _, he, rfl, (h.below hb).below hb2, hs⟩
theorem dec_ck (rb : Nat) (k r l : List UInt8) (b : Bool) (v : Value) (A3 : Option Addr) (n3 c3 : Nat) (w0 w : World) (cb : Nat) (Y : CT) (hl : l.length ≤ 100000) (h : Ck w0 w rb cb v k r b Y) (h2 : Sx w rb (.slice A3 n3 c3) l) (hL : LaidU w) :
    Calls Tryz.prog 117 #[.slice A3 n3 c3] w fun e w' => ∃ X ok, e = .returned (.tuple #[X.v, .bool ok]) ∧ Hid (Below w.heap.size w w' ∧ Ck w0 w' rb cb v k r b Y ∧ DecQ l X ok) := by
  obtain ⟨e, h3, h4, _, hh⟩ := h2.holds
  subst e
  refine (dec_any A3 c3 l hl h3 h4 w hh hL).mono fun e w' ⟨X, ok, he, hb, h1, h2⟩ => ⟨X, ok, he, hb, h.below hb, h1, ?_⟩
  rcases h2 with h2 | ⟨h2, h3, _⟩
  · exact .inl h2
  · exact .inr ⟨h2, h3⟩
theorem key_ck (rb : Nat) (k r : List UInt8) (b : Bool) (v : Value) (w0 w : World) (cb : Nat) (X Y : CT) (hX : okC X) (h : Ck w0 w rb cb v k r b Y) (hL : LaidU w) :
    Calls Tryz.prog 39 #[X.v] w fun e w' => ∃ A5 c5 n5 b5, e = .returned (.tuple #[.slice A5 n5 c5, .bool b5]) ∧ Hid (Below w.heap.size w w' ∧ Ck w0 w' rb cb v k r b Y ∧ Sx w' rb (.slice A5 n5 c5) (if X.ok = true then keyL X else [])) := by
  refine (keyc_any X hX w hL).mono fun e w' ⟨u, he, hr, hb⟩ => ?_
  have hs := hr.sx h.rs.lt
  obtain ⟨A5, c5, rfl, _⟩ := hs.form
  exact ⟨A5, c5, _, X.ok, he, hb, h.below hb, hs⟩
theorem equal_ck (rb : Nat) (k r o : List UInt8) (b : Bool) (A1 A5 : Option Addr) (n1 c1 n5 c5 : Nat) (w0 w : World) (cb : Nat) (X : CT) (h : Ck w0 w rb cb (.slice A1 n1 c1) k r b X) (h5 : Sx w rb (.slice A5 n5 c5) o) :
    Calls Tryz.prog 118 #[.slice A5 n5 c5, .slice A1 n1 c1] w fun e w' => e = .returned (.bool (decide (o = k))) ∧ w' = w := by
  obtain ⟨e1, _, _, _, h1⟩ := h.kx.holds
  obtain ⟨e5, _, _, _, h5'⟩ := h5.holds
  subst e1 e5
  exact equal_any A5 A1 c5 c1 o k w h5' h1
end Go.Proofs.YtjbjdkginemedaaGreatDoor

/- The block's reader: the next cell; its walk. Conditions: the reader holds its bytes, the key ahead stands, a hundred thousand bytes together at most; the tables of utf8 read as they are laid. -/
namespace Go.Proofs.YtjbjdkginemedaaGreatDoor
open Go.RowKit

set_option maxRecDepth 100000 in
set_option maxHeartbeats 16000000 in
theorem bcell_any (rb : Nat) (a l : List UInt8) (bad : Bool) (v : Value) (hal : a.length + l.length ≤ 100000) (w : World) (h : Rs w rb l bad) (ha : Sx w rb v a) (hL : ∀ W, But w.heap.size rb w W → LaidU W) :
    Calls Tryz.prog 55 #[.pointer (some ⟨rb, 0, none⟩), v] w (CeEnd rb a l bad w) := by
  have HLw := hid hL
  have HAL := hid hal
  have H0 : Hid (Ck w (w.alloc (.cells zeroA 26)) rb w.heap.size v a l bad default) := by
    have hb := below_new w (.cells zeroA 26)
    exact ⟨But.of_below hb rb, ha.below hb, h.below hb, Blk.new w _ _, h.lt, Nat.le_refl _⟩
  obtain ⟨A, c, rfl, _⟩ := ha
  obtain ⟨m, hm⟩ : ∃ m, a.length = m := ⟨_, rfl⟩
  rw [hm] at H0 ⊢
  clear hm h hL hal
  go_enter Tryz.func55, Tryz.ntmps55
  go_upto_region 3 with (first
    | (go_at_call 115; refine (bkey_ck rb a l bad _ (by have := HAL.out; omega) w _ w.heap.size default _ H0.out rfl).mono ?_; rintro e w1 ⟨A1, c1, n1, k, r, b, rfl, H1⟩))
  clear H0
  by_cases hk0 : n1 = 0
  · subst hk0
    have HLK : Hid (k.getLast? ≠ some 254) := by
      have : k = [] := List.eq_nil_of_length_eq_zero H1.out.1
      rw [this]
      show ([] : List UInt8).getLast? ≠ _
      simp
    go_upto_region 5 with (fail)
    go_upto_region 6 with (first
      | (go_at_call 117; refine (dec_ck rb k r k b _ _ _ _ w _ w.heap.size default (by have := H1.out.2.2.1.1; have := HAL.out; omega) H1.out.2.1 H1.out.2.1.kx (HLw.out _ H1.out.2.1.but)).mono ?_; rintro e w4 ⟨X, ok, rfl, HD⟩))
    obtain ⟨xb, hxb⟩ : ∃ xb, w4.heap.size = xb := ⟨_, rfl⟩
    obtain ⟨W5, hW5⟩ : ∃ W5, w4.alloc (.cells #[.string X.r, .string X.f, .string X.q, .int .i64 X.t, .int .i64 X.k, .int .i64 X.vk, .int .i64 X.vn, .string X.s] 26) = W5 := ⟨_, rfl⟩
    have HW : Hid (Ck w W5 rb w.heap.size (.slice A1 0 c1) k r b default ∧ Blk W5 xb 26 X.e.toArray ∧ rb ≠ xb ∧ w.heap.size ≠ xb) := by
      rw [← hW5, ← hxb]
      have h1 := HD.out.2.1.rs.lt
      have h2 := HD.out.2.1.dw.lt
      exact ⟨HD.out.2.1.below (below_new _ _), Blk.new w4 _ _, by omega, by omega⟩
    rw [hW5, hxb]
    clear hW5 hxb
    obtain ⟨y0, y1, y2, y3, y4, y5, y6, y7⟩ := blkc_words HW.out.2.1
    go_upto_region 7 with (first
      | (go_at_call 39; refine (key_ck rb k r b _ w _ w.heap.size X default HD.out.2.2.1 HW.out.1 (HLw.out _ HW.out.1.but)).mono ?_; rintro e w6 ⟨A5, c5, n5, b5, rfl, H5⟩))
    have HX := hid (HW.out.2.1.keep H5.out.1 HW.out.2.1.lt)
    clear y0 y1 y2 y3 y4 y5 y6 y7
    obtain ⟨y0, y1, y2, y3, y4, y5, y6, y7⟩ := blkc_words HX.out
    obtain ⟨z0, z1, z2, z3, z4, z5, z6, z7⟩ := blkc_words H5.out.2.1.dw
    obtain ⟨f1, x1, g1⟩ := H5.out.2.1.rs.b1
    have fz : ∀ j, w6.frozen? ⟨w.heap.size, j, none⟩ = false := fun j => H5.out.2.1.dw.free j
    obtain ⟨hn1, hn2⟩ := HW.out.2.2
    have hn3 : rb ≠ w.heap.size := by have := H5.out.2.1.lo; omega
    have hn4 : w.heap.size ≠ rb := fun e => hn3 e.symm
    have hn5 : xb ≠ rb := fun e => hn1 e.symm
    cases ok with
    | false =>
      have hN := hid ((end_other H1.out.2.2.1 HLK.out HD.out.2.2).2 (.inl rfl))
      go_wp2
      have hC := H5.out.2.1.spoil
      generalize (w6.setCell ⟨rb, 1, none⟩ (.bool true)) = W7 at *
      obtain ⟨r0, r1, r2, r3, r4, r5, r6, r7⟩ := blkc_words hC.dw
      refine bodyPost_ret (v := .tuple #[X.v, .slice A1 0 c1]) (by simp [results, Tryz.results55, go_sem, cell_set_same, r0, r1, r2, r3, r4, r5, r6, r7]) rfl ?_
      have hD := hC.set8 X
      exact ⟨hD.but, X, _, k, r, true, rfl, hD.kx, hD.rs, H1.out.2.2.1.1, .inr ⟨rfl, hN.out⟩⟩
    | true =>
      have HE := hid (equal_ck rb k r (if X.ok = true then keyL X else []) b A1 A5 0 c1 n5 c5 w w6 w.heap.size default H5.out.2.1 H5.out.2.2)
      have hF := hid (end_other H1.out.2.2.1 HLK.out HD.out.2.2)
      cases hq : decide ((if X.ok = true then keyL X else []) = k) with
      | false =>
        rw [hq] at HE
        have hN := hid (hF.out.2 (.inr hq))
        clear hq hF
        go_wp2_with (first
          | (go_at_call 118; refine HE.out.mono ?_; rintro e w7 ⟨rfl, rfl⟩))
        have hC := H5.out.2.1.spoil
        generalize (w7.setCell ⟨rb, 1, none⟩ (.bool true)) = W7 at *
        obtain ⟨r0, r1, r2, r3, r4, r5, r6, r7⟩ := blkc_words hC.dw
        refine bodyPost_ret (v := .tuple #[X.v, .slice A1 0 c1]) (by simp [results, Tryz.results55, go_sem, cell_set_same, r0, r1, r2, r3, r4, r5, r6, r7]) rfl ?_
        have hD := hC.set8 X
        exact ⟨hD.but, X, _, k, r, true, rfl, hD.kx, hD.rs, H1.out.2.2.1.1, .inr ⟨rfl, hN.out⟩⟩
      | true =>
        rw [hq] at HE
        have hN := hid (hF.out.1 ⟨rfl, hq⟩)
        clear hq hF
        go_wp2_with (first
          | (go_at_call 118; refine HE.out.mono ?_; rintro e w7 ⟨rfl, rfl⟩))
        have hC := H5.out.2.1
        generalize w7 = W7 at *
        obtain ⟨r0, r1, r2, r3, r4, r5, r6, r7⟩ := blkc_words hC.dw
        refine bodyPost_ret (v := .tuple #[X.v, .slice A1 0 c1]) (by simp [results, Tryz.results55, go_sem, cell_set_same, r0, r1, r2, r3, r4, r5, r6, r7]) rfl ?_
        have hD := hC.set8 X
        exact ⟨hD.but, X, _, k, r, b, rfl, hD.kx, hD.rs, H1.out.2.2.1.1, end_fr H1.out.2.2.2 (by simp) hN.out⟩
  · have hk1 : 1 ≤ n1 := by omega
    obtain ⟨b1, o1, y, rfl, g1, hy⟩ := last_cell H1.out.2.1.kx hk1
    have hkz : (0 : Int) < (n1 : Int) := by omega
    have hkb : n1 ≤ 100000 := by have := H1.out.1; have := H1.out.2.2.1.1; have := HAL.out; omega
    have hks : (n1 : Int) - 1 = ((n1 - 1 : Nat) : Int) := by omega
    have hkl : n1 - 1 < n1 := by omega
    obtain ⟨j, hj⟩ : ∃ j, n1 - 1 = j := ⟨_, rfl⟩
    rw [hj] at g1 hks hkl
    have hjw : IntKind.i64.wrap ((j : Nat) : Int) = (j : Int) := by rw [IntKind.wrap_i64]; omega
    have hjz : (j : Int) < (n1 : Int) := by omega
    clear hj
    by_cases hp : y = 254
    · subst hp
      have HY := hid hy
      clear hy
      rw [show (((254 : UInt8).toNat : Nat) : Int) = 254 from rfl] at g1
      go_upto_region 5 with (first
        | (go_at_call 116; refine (bcou_ck rb k r b _ w _ w.heap.size default H1.out.2.1).mono ?_; rintro e w2 ⟨A2, c2, n2, x, rr, b2, rfl, H2⟩)
        | (go_at_call 64; refine (concat_ck rb k rr x b2 _ A2 n1 c1 n2 c2 w w2 w.heap.size default _ H1.out.1 H2.out.1 (by have := H1.out.2.2.1.1; have := H2.out.2.2.2.1; have := HAL.out; omega) H2.out.2.1 H2.out.2.2.1).mono ?_; rintro e w3 ⟨A3, c3, n3, rfl, H3⟩))
      go_upto_region 6 with (first
        | (go_at_call 117; refine (dec_ck rb k rr (k ++ x) b2 _ _ _ _ w _ w.heap.size default (by rw [List.length_append]; have := H1.out.2.2.1.1; have := H2.out.2.2.2.1; have := HAL.out; omega) H3.out.2.1 H3.out.2.2 (HLw.out _ H3.out.2.1.but)).mono ?_; rintro e w4 ⟨X, ok, rfl, HD⟩))
      obtain ⟨xb, hxb⟩ : ∃ xb, w4.heap.size = xb := ⟨_, rfl⟩
      obtain ⟨W5, hW5⟩ : ∃ W5, w4.alloc (.cells #[.string X.r, .string X.f, .string X.q, .int .i64 X.t, .int .i64 X.k, .int .i64 X.vk, .int .i64 X.vn, .string X.s] 26) = W5 := ⟨_, rfl⟩
      have HW : Hid (Ck w W5 rb w.heap.size (.slice (some ⟨b1, o1, none⟩) n1 c1) k rr b2 default ∧ Blk W5 xb 26 X.e.toArray ∧ rb ≠ xb ∧ w.heap.size ≠ xb) := by
        rw [← hW5, ← hxb]
        have h1 := HD.out.2.1.rs.lt
        have h2 := HD.out.2.1.dw.lt
        exact ⟨HD.out.2.1.below (below_new _ _), Blk.new w4 _ _, by omega, by omega⟩
      rw [hW5, hxb]
      clear hW5 hxb
      obtain ⟨y0, y1, y2, y3, y4, y5, y6, y7⟩ := blkc_words HW.out.2.1
      go_upto_region 7 with (first
        | (go_at_call 39; refine (key_ck rb k rr b2 _ w _ w.heap.size X default HD.out.2.2.1 HW.out.1 (HLw.out _ HW.out.1.but)).mono ?_; rintro e w6 ⟨A5, c5, n5, b5, rfl, H5⟩))
      have HX := hid (HW.out.2.1.keep H5.out.1 HW.out.2.1.lt)
      clear y0 y1 y2 y3 y4 y5 y6 y7
      obtain ⟨y0, y1, y2, y3, y4, y5, y6, y7⟩ := blkc_words HX.out
      obtain ⟨z0, z1, z2, z3, z4, z5, z6, z7⟩ := blkc_words H5.out.2.1.dw
      obtain ⟨f1, x1, g1⟩ := H5.out.2.1.rs.b1
      have fz : ∀ j, w6.frozen? ⟨w.heap.size, j, none⟩ = false := fun j => H5.out.2.1.dw.free j
      obtain ⟨hn1, hn2⟩ := HW.out.2.2
      have hn3 : rb ≠ w.heap.size := by have := H5.out.2.1.lo; omega
      have hn4 : w.heap.size ≠ rb := fun e => hn3 e.symm
      have hn5 : xb ≠ rb := fun e => hn1 e.symm
      cases ok with
      | false =>
        have hN := hid ((end_put H1.out.2.2.1 HY.out H2.out.2.2.2 HD.out.2.2).2 (.inl rfl))
        go_wp2
        have hC := H5.out.2.1.spoil
        generalize (w6.setCell ⟨rb, 1, none⟩ (.bool true)) = W7 at *
        obtain ⟨r0, r1, r2, r3, r4, r5, r6, r7⟩ := blkc_words hC.dw
        refine bodyPost_ret (v := .tuple #[X.v, (.slice (some ⟨b1, o1, none⟩) n1 c1)]) (by simp [results, Tryz.results55, go_sem, cell_set_same, r0, r1, r2, r3, r4, r5, r6, r7]) rfl ?_
        have hD := hC.set8 X
        exact ⟨hD.but, X, _, k, rr, true, rfl, hD.kx, hD.rs, (by have := H1.out.2.2.1.1; have := H2.out.2.2.2.1; omega), .inr ⟨rfl, hN.out⟩⟩
      | true =>
        have HE := hid (equal_ck rb k rr (if X.ok = true then keyL X else []) b2 _ A5 n1 c1 n5 c5 w w6 w.heap.size default H5.out.2.1 H5.out.2.2)
        have hF := hid (end_put H1.out.2.2.1 HY.out H2.out.2.2.2 HD.out.2.2)
        cases hq : decide ((if X.ok = true then keyL X else []) = k) with
        | false =>
          rw [hq] at HE
          have hN := hid (hF.out.2 (.inr hq))
          clear hq hF
          go_wp2_with (first
            | (go_at_call 118; refine HE.out.mono ?_; rintro e w7 ⟨rfl, rfl⟩))
          have hC := H5.out.2.1.spoil
          generalize (w7.setCell ⟨rb, 1, none⟩ (.bool true)) = W7 at *
          obtain ⟨r0, r1, r2, r3, r4, r5, r6, r7⟩ := blkc_words hC.dw
          refine bodyPost_ret (v := .tuple #[X.v, (.slice (some ⟨b1, o1, none⟩) n1 c1)]) (by simp [results, Tryz.results55, go_sem, cell_set_same, r0, r1, r2, r3, r4, r5, r6, r7]) rfl ?_
          have hD := hC.set8 X
          exact ⟨hD.but, X, _, k, rr, true, rfl, hD.kx, hD.rs, (by have := H1.out.2.2.1.1; have := H2.out.2.2.2.1; omega), .inr ⟨rfl, hN.out⟩⟩
        | true =>
          rw [hq] at HE
          have hN := hid (hF.out.1 ⟨rfl, hq⟩)
          clear hq hF
          go_wp2_with (first
            | (go_at_call 118; refine HE.out.mono ?_; rintro e w7 ⟨rfl, rfl⟩))
          have hC := H5.out.2.1
          generalize w7 = W7 at *
          obtain ⟨r0, r1, r2, r3, r4, r5, r6, r7⟩ := blkc_words hC.dw
          refine bodyPost_ret (v := .tuple #[X.v, (.slice (some ⟨b1, o1, none⟩) n1 c1)]) (by simp [results, Tryz.results55, go_sem, cell_set_same, r0, r1, r2, r3, r4, r5, r6, r7]) rfl ?_
          have hD := hC.set8 X
          exact ⟨hD.but, X, _, k, rr, b2, rfl, hD.kx, hD.rs, (by have := H1.out.2.2.1.1; have := H2.out.2.2.2.1; omega), end_fr H1.out.2.2.2 (by simp) hN.out⟩
    · have HLK : Hid (k.getLast? ≠ some 254) := by
        show k.getLast? ≠ _
        rw [hy]
        intro e
        exact hp (Option.some.inj e)
      clear hy
      obtain ⟨z, hz⟩ : ∃ z : Int, (y.toNat : Int) = z := ⟨_, rfl⟩
      have hzz : (z == 254) = false := by
        have : y.toNat ≠ 254 := fun e => hp (UInt8.toNat_inj.1 e)
        simp
        omega
      rw [hz] at g1
      clear hz hp
      go_upto_region 5 with (fail)
      go_upto_region 6 with (first
        | (go_at_call 117; refine (dec_ck rb k r k b _ _ _ _ w _ w.heap.size default (by have := H1.out.2.2.1.1; have := HAL.out; omega) H1.out.2.1 H1.out.2.1.kx (HLw.out _ H1.out.2.1.but)).mono ?_; rintro e w4 ⟨X, ok, rfl, HD⟩))
      obtain ⟨xb, hxb⟩ : ∃ xb, w4.heap.size = xb := ⟨_, rfl⟩
      obtain ⟨W5, hW5⟩ : ∃ W5, w4.alloc (.cells #[.string X.r, .string X.f, .string X.q, .int .i64 X.t, .int .i64 X.k, .int .i64 X.vk, .int .i64 X.vn, .string X.s] 26) = W5 := ⟨_, rfl⟩
      have HW : Hid (Ck w W5 rb w.heap.size (.slice (some ⟨b1, o1, none⟩) n1 c1) k r b default ∧ Blk W5 xb 26 X.e.toArray ∧ rb ≠ xb ∧ w.heap.size ≠ xb) := by
        rw [← hW5, ← hxb]
        have h1 := HD.out.2.1.rs.lt
        have h2 := HD.out.2.1.dw.lt
        exact ⟨HD.out.2.1.below (below_new _ _), Blk.new w4 _ _, by omega, by omega⟩
      rw [hW5, hxb]
      clear hW5 hxb
      obtain ⟨y0, y1, y2, y3, y4, y5, y6, y7⟩ := blkc_words HW.out.2.1
      go_upto_region 7 with (first
        | (go_at_call 39; refine (key_ck rb k r b _ w _ w.heap.size X default HD.out.2.2.1 HW.out.1 (HLw.out _ HW.out.1.but)).mono ?_; rintro e w6 ⟨A5, c5, n5, b5, rfl, H5⟩))
      have HX := hid (HW.out.2.1.keep H5.out.1 HW.out.2.1.lt)
      clear y0 y1 y2 y3 y4 y5 y6 y7
      obtain ⟨y0, y1, y2, y3, y4, y5, y6, y7⟩ := blkc_words HX.out
      obtain ⟨z0, z1, z2, z3, z4, z5, z6, z7⟩ := blkc_words H5.out.2.1.dw
      obtain ⟨f1, x1, g1⟩ := H5.out.2.1.rs.b1
      have fz : ∀ j, w6.frozen? ⟨w.heap.size, j, none⟩ = false := fun j => H5.out.2.1.dw.free j
      obtain ⟨hn1, hn2⟩ := HW.out.2.2
      have hn3 : rb ≠ w.heap.size := by have := H5.out.2.1.lo; omega
      have hn4 : w.heap.size ≠ rb := fun e => hn3 e.symm
      have hn5 : xb ≠ rb := fun e => hn1 e.symm
      cases ok with
      | false =>
        have hN := hid ((end_other H1.out.2.2.1 HLK.out HD.out.2.2).2 (.inl rfl))
        go_wp2
        have hC := H5.out.2.1.spoil
        generalize (w6.setCell ⟨rb, 1, none⟩ (.bool true)) = W7 at *
        obtain ⟨r0, r1, r2, r3, r4, r5, r6, r7⟩ := blkc_words hC.dw
        refine bodyPost_ret (v := .tuple #[X.v, (.slice (some ⟨b1, o1, none⟩) n1 c1)]) (by simp [results, Tryz.results55, go_sem, cell_set_same, r0, r1, r2, r3, r4, r5, r6, r7]) rfl ?_
        have hD := hC.set8 X
        exact ⟨hD.but, X, _, k, r, true, rfl, hD.kx, hD.rs, H1.out.2.2.1.1, .inr ⟨rfl, hN.out⟩⟩
      | true =>
        have HE := hid (equal_ck rb k r (if X.ok = true then keyL X else []) b _ A5 n1 c1 n5 c5 w w6 w.heap.size default H5.out.2.1 H5.out.2.2)
        have hF := hid (end_other H1.out.2.2.1 HLK.out HD.out.2.2)
        cases hq : decide ((if X.ok = true then keyL X else []) = k) with
        | false =>
          rw [hq] at HE
          have hN := hid (hF.out.2 (.inr hq))
          clear hq hF
          go_wp2_with (first
            | (go_at_call 118; refine HE.out.mono ?_; rintro e w7 ⟨rfl, rfl⟩))
          have hC := H5.out.2.1.spoil
          generalize (w7.setCell ⟨rb, 1, none⟩ (.bool true)) = W7 at *
          obtain ⟨r0, r1, r2, r3, r4, r5, r6, r7⟩ := blkc_words hC.dw
          refine bodyPost_ret (v := .tuple #[X.v, (.slice (some ⟨b1, o1, none⟩) n1 c1)]) (by simp [results, Tryz.results55, go_sem, cell_set_same, r0, r1, r2, r3, r4, r5, r6, r7]) rfl ?_
          have hD := hC.set8 X
          exact ⟨hD.but, X, _, k, r, true, rfl, hD.kx, hD.rs, H1.out.2.2.1.1, .inr ⟨rfl, hN.out⟩⟩
        | true =>
          rw [hq] at HE
          have hN := hid (hF.out.1 ⟨rfl, hq⟩)
          clear hq hF
          go_wp2_with (first
            | (go_at_call 118; refine HE.out.mono ?_; rintro e w7 ⟨rfl, rfl⟩))
          have hC := H5.out.2.1
          generalize w7 = W7 at *
          obtain ⟨r0, r1, r2, r3, r4, r5, r6, r7⟩ := blkc_words hC.dw
          refine bodyPost_ret (v := .tuple #[X.v, (.slice (some ⟨b1, o1, none⟩) n1 c1)]) (by simp [results, Tryz.results55, go_sem, cell_set_same, r0, r1, r2, r3, r4, r5, r6, r7]) rfl ?_
          have hD := hC.set8 X
          exact ⟨hD.but, X, _, k, r, b, rfl, hD.kx, hD.rs, H1.out.2.2.1.1, end_fr H1.out.2.2.2 (by simp) hN.out⟩
end Go.Proofs.YtjbjdkginemedaaGreatDoor

/- block.Parse at any bytes. Conditions: the slice holds its bytes, a hundred thousand at most; the tables of utf8 read as they are laid. -/
namespace Go.Proofs.YtjbjdkginemedaaGreatDoor
open Go.RowKit

theorem CRow.but' {W W' : World} {B rb : Nat} {v : Value} {l : List CT} (h : CRow W B v l) (hb : But W.heap.size rb W W') (hr : rb < B) : CRow W' B v l := by
  refine ⟨h.1, ?_⟩
  rcases h.2 with q | ⟨g, cap, cur, e, h1, h2, hr2⟩
  · exact .inl q
  · have h3 : Blk W g 26 cur := h2
    exact .inr ⟨g, cap, cur, e, h1, (hb.block g h3.lt (by omega)).trans h2, hr2⟩
/-- What Parse leaves. -/
def PaEnd8 (l : List UInt8) (w : World) (e : Ending) (w' : World) : Prop :=
  Below w.heap.size w w' ∧ ((∃ v cs, e = .returned (.tuple #[v, .bool true]) ∧ CRow w' w.heap.size v cs ∧ (∀ c ∈ cs, Bc c) ∧ fineK [] cs = true ∧ cs.length ≤ 1000 ∧ blockB cs = l) ∨ (e = .returned (.tuple #[.slice none 0 0, .bool false]) ∧ NoBlock l))
/-- Where Parse's loop is. -/
structure PaI (l : List UInt8) (n : Nat) (w W : World) (i : Nat) (vl vk : Value) (cs : List CT) (rest : List UInt8) : Prop where
  bel : Below w.heap.size w W
  row : CRow W (w.heap.size + 1) vl cs
  kx : Sx W w.heap.size vk (lastK [] cs)
  rs : Rs W w.heap.size rest false
  rd : ReadI l n cs rest
  ln : cs.length = i
  bd : (lastK [] cs).length + rest.length ≤ l.length

theorem sx_grown {W W' : World} {rb : Nat} {v : Value} {l : List UInt8} {row : Option Nat} (h : Sx W rb v l) (hg : W.grownBy W' row) (hne : ∀ a m c, v = .slice (some a) m c → some a.block ≠ row) : Sx W' rb v l := by
  obtain ⟨A, c, h1, h2, h3, h4, h5⟩ := h
  refine ⟨A, c, h1, h2, h3, h4, fun h0 => ?_⟩
  obtain ⟨b, off, e, h6, hlt, hh⟩ := h5 h0
  exact ⟨b, off, e, h6, Nat.lt_of_lt_of_le hlt hg.size, fun i hi => hg.cell (hh i hi) (hne ⟨b, off, none⟩ l.length c (by rw [h1, e]))⟩
theorem sb_of {w : World} {v : Value} {l : List UInt8} (h : Sx w w.heap.size v l) : Sb w w.heap.size v l := by
  obtain ⟨A, c, h1, h2, h3, h4, h5⟩ := h
  refine ⟨A, c, h1, h2, h3, h4, fun h0 => ?_⟩
  obtain ⟨b, off, e, _, h6, hh⟩ := h5 h0
  exact ⟨b, off, e, h6, h6, hh⟩
/-- Behind cell: the reader, the key and the cell's block, as seen from the round's beginning. -/
theorem pa_cell {w wr w2 : World} {l r2 : List UInt8} {kv : Value} {k : List UInt8} {b bb : Bool} (h2 : Rs wr w.heap.size l bb) (hb : But (wr.alloc (.cells zeroA 26)).heap.size w.heap.size (wr.alloc (.cells zeroA 26)) w2) (hs : Sx w2 w.heap.size kv k) (hr : Rs w2 w.heap.size r2 b) : Ck wr w2 w.heap.size wr.heap.size kv k r2 b default := by
  have hlt := h2.lt
  have hsz : (wr.alloc (.cells zeroA 26)).heap.size = wr.heap.size + 1 := World.size_alloc _ _
  have h0 := below_new wr (.cells zeroA 26)
  refine ⟨(But.of_below h0 _).trans (hb.mono (by rw [hsz]; omega)), hs, hr, ?_, hlt, Nat.le_refl _⟩
  have hn : Blk (wr.alloc (.cells zeroA 26)) wr.heap.size 26 (default : CT).e.toArray := Blk.new wr _ _
  unfold Blk at hn ⊢
  rw [hb.block wr.heap.size (by rw [hsz]; omega) (by omega)]
  exact hn

set_option maxRecDepth 100000 in
set_option maxHeartbeats 16000000 in
theorem parse_any (v : Value) (l : List UInt8) (hl : l.length ≤ 100000) (w : World) (h : Sx w w.heap.size v l) (hL : LaidU w) :
    Calls Tryz.prog 20 #[v] w (PaEnd8 l w) := by
  have mixed : Tryz.prog.follows .mixedOrders = true := by kernel_rfl
  have HL := hid hL
  have HLen := hid hl
  obtain ⟨A, c, rfl, hc1, hc2, hnil, hA⟩ := h.form
  have H0 : Hid (Rs (w.alloc (.cells #[.slice A l.length c, .bool false] 70)) w.heap.size l false) := ⟨_, Blk.new w _ _, (sb_of h).below (below_new _ _)⟩
  have HN := hid (bnumber_any w.heap.size l false _ H0.out)
  have HB0 := hid (below_new w (.cells #[.slice A l.length c, .bool false] 70))
  obtain ⟨m, hm⟩ : ∃ m, l.length = m := ⟨_, rfl⟩
  have HM := hid hm
  rw [hm] at H0 HN HB0 hc1 ⊢
  clear h hL hl hm hA
  have hN := HN.out
  unfold NuEnd at hN
  cases ht : tk l with
  | none =>
    rw [ht] at hN
    have HN := hid hN
    have hno := hid (no_num ht)
    clear ht hN
    go_enter Tryz.func20, Tryz.ntmps20
    go_wp2_with (first
      | (go_at_call 54; refine HN.out.mono ?_; rintro e w1 ⟨hb1, rfl, hR1⟩))
    obtain ⟨vr, hBr, hSr⟩ := hR1
    obtain ⟨Ar, cr, rfl, _⟩ := hSr.form
    have q0 : w1.cell? ⟨w.heap.size, 0, none⟩ = some (.slice Ar m cr) := by rw [← HM.out]; exact hBr.cell 0
    have q1 : w1.cell? ⟨w.heap.size, 1, none⟩ = some (.bool true) := hBr.cell 1
    refine wp_loop_rounds 1 ?_
    rw [rounds_succ]; go_wp2
    go_ret2
    exact ⟨HB0.out.trans ((hb1.mono (by simp)).below (Nat.le_refl _)), .inr ⟨rfl, hno.out⟩⟩
  | some p =>
    obtain ⟨n, r⟩ := p
    rw [ht] at hN
    have HN := hid hN
    clear hN
    by_cases hn : 1000 < n
    · have hno := hid (no_great ht hn)
      have hnz : 1000 < (n : Int) := by omega
      clear ht
      go_enter Tryz.func20, Tryz.ntmps20
      go_wp2_with (first
        | (go_at_call 54; refine HN.out.mono ?_; rintro e w1 ⟨hb1, rfl, hR1⟩))
      go_ret2
      exact ⟨HB0.out.trans ((hb1.mono (by simp)).below (Nat.le_refl _)), .inr ⟨rfl, hno.out⟩⟩
    · have hnz : ¬ 1000 < (n : Int) := by omega
      have hn2 : n ≤ 1000 := by omega
      have HRd := hid (read_start ht hn2)
      have HRl : Hid (r.length ≤ l.length) := by have := congrArg List.length (tk_back ht); rw [List.length_append] at this; show _ ≤ _; omega
      clear ht hn
      go_enter Tryz.func20, Tryz.ntmps20
      go_wp2_with (first
        | (go_at_call 54; refine HN.out.mono ?_; rintro e w1 ⟨hb1, rfl, hR1⟩))
      have HI : Hid (PaI l n w w1 0 (.slice none 0 0) (.slice none 0 0) [] r) := ⟨HB0.out.trans ((hb1.mono (by simp)).below (Nat.le_refl _)), CRow.none _ _, sx_nil _ _, hR1, HRd.out, rfl, by have := HRl.out; simpa [lastK] using this⟩
      clear HN hb1 hR1 HRd HRl H0 HB0
      go_loopw [6, 7, 15] (fun vl vk vi wr => ∃ (i : Nat) (cs : List CT) (rest : List UInt8), i ≤ n ∧ vi = .int .i64 i ∧ Hid (PaI l n w wr i vl vk cs rest)) (fun _ _ vi _ => n - (intOf vi).toNat)
      case atStart => exact ⟨0, [], r, Nat.zero_le _, rfl, HI.out⟩
      case round =>
        clear HI
        obtain ⟨i, cs, rest, hi, rfl, H⟩ := hrel
        obtain ⟨Al, cl, el, _, _⟩ := H.out.row.len
        subst el
        have HLi := H.out.ln
        rw [HLi] at H ⊢
        have HLc := hid HLi
        clear HLi
        by_cases hlt : i < n
        · have hltz : (i : Int) < (n : Int) := by omega
          have HC : Hid (∀ (W : World) (u : Value), Rs W w.heap.size rest false → Sx W w.heap.size u (lastK [] cs) → Below w.heap.size w W → Calls Tryz.prog 55 #[.pointer (some ⟨w.heap.size, 0, none⟩), u] W (CeEnd w.heap.size (lastK [] cs) rest false W)) := fun W u h1 h2 h3 =>
            bcell_any w.heap.size (lastK [] cs) rest false u (by have := H.out.bd; have := HLen.out; omega) W h1 h2 (fun W' hW' => HL.out.below (h3.trans ((hW'.mono h3.size).below (Nat.le_refl _))))
          have HZ : Hid (∀ W : World, w.heap.size < W.heap.size → True) := fun _ _ => trivial
          go_upto_region 11 with (first
            | (go_at_call 55; refine (HC.out _ _ (H.out.rs.below (below_new _ _)) (H.out.kx.below (below_new _ _)) (H.out.bel.alloc H.out.bel.size _)).mono ?_; rintro e w2 ⟨hb2, X, kv, k, r2, b, rfl, hs2, hr2, hlen2, hcase⟩; have HQ := hid (pa_cell H.out.rs hb2 hs2 hr2); have HE := hid (And.intro hlen2 hcase); clear hb2 hs2 hr2 hlen2 hcase; obtain ⟨z0, z1, z2, z3, z4, z5, z6, z7⟩ := HQ.out.words; have zf : ∀ j, w2.frozen? ⟨wr.heap.size, j, none⟩ = false := fun j => HQ.out.dw.free j))
          refine wp_ltk (fun W => Hid (Ck wr W w.heap.size wr.heap.size kv k r2 b X)) (HQ.out.set8 X) (fun W HW => ?_)
          clear z0 z1 z2 z3 z4 z5 z6 z7 zf HQ
          obtain ⟨y0, y1, y2, y3, y4, y5, y6, y7⟩ := HW.out.words
          have g1 : W.cell? ⟨w.heap.size, 1, none⟩ = some (.bool b) := by
            obtain ⟨vr, hB, _⟩ := HW.out.rs
            exact hB.cell 1
          have HBW : Hid (Below w.heap.size w W) := H.out.bel.trans ((HW.out.but.mono H.out.bel.size).below (Nat.le_refl _))
          cases b with
          | true =>
            have hno : Hid (NoBlock l) := by
              refine read_no H.out.rd (by rw [HLc.out]; exact hlt) ?_
              rcases HE.out.2 with ⟨h, _⟩ | ⟨_, h⟩
              · cases h
              · exact h
            go_wp2
            go_ret2
            exact ⟨HBW.out, .inr ⟨rfl, hno.out⟩⟩
          | false =>
            have HG : Hid (Bc X ∧ k = keyL X ∧ Lib.compareBytes (lastK [] cs) (keyL X) < 0 ∧ rest = oneB (lastK [] cs) X ++ r2 ∧ FrV (wr.heap.size + 1) kv) := by
              rcases HE.out.2 with ⟨_, h⟩ | ⟨h, _⟩
              · refine ⟨h.1, h.2.1, h.2.2.1, h.2.2.2.1, fun a m c e => ?_⟩
                have := h.2.2.2.2 a m c e
                simpa using this
              · cases h
            have HRW := hid (CRow.but' H.out.row HW.out.but (by omega))
            have HSz : Hid (w.heap.size + 1 ≤ W.heap.size) := by have := HW.out.but.size; have := H.out.rs.lt; show _ ≤ _; omega
            go_wp2_with (first
              | (at_builtin; refine wpList_append_cell rfl (.tmp 24) (.tmp 26) rfl _ (w.heap.size + 1) _ cs rfl (HRW.out.below (below_new _ _)) _ 1 rfl X (ct_new X _ _) (by have := HLc.out; omega) (by have := HSz.out; simp; omega) ?_; intro v7 w7 h7 hb7 hg7))
            go_roundw
            case rel =>
              have hlast : lastK [] (cs ++ [X]) = k := by rw [lastK_snoc, HG.out.2.1]
              have hsz7 := (HRW.out.below (below_new W (.cells #[.string X.r, .string X.f, .string X.q, .int .i64 X.t, .int .i64 X.k, .int .i64 X.vk, .int .i64 X.vn, .string X.s] 26)))
              have hb8 : Below (w.heap.size + 1) W w7 := ((below_new W _).mono HSz.out).trans hb7
              refine ⟨i + 1, cs ++ [X], r2, by omega, by go_num, (⟨HBW.out.trans (hb8.mono (by omega)), h7, ?_, HW.out.rs.keep hb8, read_next H.out.rd (by rw [HLc.out]; exact hlt) HG.out.1 HG.out.2.2.1 HG.out.2.2.2.1, by rw [List.length_append, List.length_singleton, HLc.out], ?_⟩ : PaI l n w w7 (i + 1) _ _ _ _)⟩
              · rw [hlast]
                refine sx_grown (HW.out.kx.below (below_new W _)) hg7 (fun a m c e => ?_)
                have h1 := HG.out.2.2.2.2 a m c e
                intro q
                have h2 := (World.ownsRow.lt H.out.row a.block (by exact q.symm)).2
                omega
              · rw [hlast]
                have := HE.out.1
                have := H.out.bd
                omega
            case measure => simp [intOf]; omega
        · obtain rfl : i = n := by omega
          obtain ⟨vr, hBr, hSr⟩ := H.out.rs
          obtain ⟨Ar, cr, rfl, _⟩ := hSr.form
          obtain ⟨q, hq⟩ : ∃ q, rest.length = q := ⟨_, rfl⟩
          have HQ := hid hq
          rw [hq] at hBr
          have q0 : wr.cell? ⟨w.heap.size, 0, none⟩ = some (.slice Ar q cr) := hBr.cell 0
          have q1 : wr.cell? ⟨w.heap.size, 1, none⟩ = some (.bool false) := hBr.cell 1
          clear hBr hSr hq
          by_cases hq0 : q = 0
          · subst hq0
            have hall : Hid (blockB cs = l) := by
              have h0 : rest = [] := List.eq_nil_of_length_eq_zero HQ.out
              have h1 := H.out.rd
              rw [h0] at h1
              exact read_all h1 HLc.out
            go_wp2
            go_ret2
            exact ⟨H.out.bel, .inl ⟨_, cs, rfl, H.out.row.le (by omega), H.out.rd.bc, H.out.rd.fine, by have := H.out.rd.le; have := H.out.rd.n1; omega, hall.out⟩⟩
          · have hqz : 0 < (q : Int) := by omega
            have hno : Hid (NoBlock l) := read_more H.out.rd HLc.out (fun e => by have := HQ.out; rw [e] at this; exact hq0 this.symm)
            go_wp2
            go_ret2
            exact ⟨H.out.bel, .inr ⟨rfl, hno.out⟩⟩
end Go.Proofs.YtjbjdkginemedaaGreatDoor

/- block.Parse of bytes as a slice whatever. Conditions: the slice holds its bytes; the tables of utf8 read as they are laid. -/
namespace Go.Proofs.YtjbjdkginemedaaGreatDoor
open Go.RowKit

set_option maxRecDepth 100000 in
set_option maxHeartbeats 2000000 in
theorem parse_empty (A : Option Addr) (c : Nat) (hc : c ≤ 9223372036854775807) (hA : A = none → c = 0) (w : World) :
    Calls Tryz.prog 20 #[.slice A 0 c] w (PaEnd8 [] w) := by
  have mixed : Tryz.prog.follows .mixedOrders = true := by kernel_rfl
  have h0 : tk [] = none := rfl
  have HT : ∀ W, Calls Tryz.prog 113 #[.slice A 0 c] W (TEndO W (tk [])) := fun W => take_any A c [] (by simp) (by simp) hc W (fun h => absurd h (by simp))
  rw [h0] at HT
  have hno := hid (no_num h0)
  have HB := Blk.new w 70 #[.slice A 0 c, .bool false]
  have HBl := hid HB
  have HNu : Hid (Calls Tryz.prog 54 #[.pointer (some ⟨w.heap.size, 0, none⟩)] (w.alloc (.cells #[.slice A 0 c, .bool false] 70)) fun e w' => e = .returned (.int .i64 0) ∧ Hid (Blk w' w.heap.size 70 #[.slice A 0 c, .bool true] ∧ Below w.heap.size w w')) := by
    refine (bnumber_no w.heap.size 0 0 c A rfl (Nat.zero_le _) hc hA false (w.alloc (.cells #[.slice A 0 c, .bool false] 70)) (HB.cell 0) (HB.cell 1) (HB.free 1) HB.lt (fun W hW => (HT W).mono fun e w' ⟨he, hb⟩ => ⟨he, hW.trans (hb.mono hW.size)⟩)).mono fun e w' ⟨he, w1, hb1, hw⟩ => ⟨he, ?_⟩
    rw [hw]
    exact ⟨(HBl.out.keep hb1 HBl.out.lt).set 1 _, Below.setCell ((below_new w _).trans (hb1.mono (by simp))) (Nat.le_refl _) _⟩
  clear HT HB h0
  go_enter Tryz.func20, Tryz.ntmps20
  go_wp2_with (go_at_call 54; refine HNu.out.mono ?_; rintro e w2 ⟨rfl, HB2⟩)
  have q0 : w2.cell? ⟨w.heap.size, 0, none⟩ = some (.slice A 0 c) := HB2.out.1.cell 0
  have q1 : w2.cell? ⟨w.heap.size, 1, none⟩ = some (.bool true) := HB2.out.1.cell 1
  refine wp_loop_rounds 1 ?_
  rw [rounds_succ]; go_wp2
  go_ret2
  exact ⟨HB2.out.2, .inr ⟨rfl, hno.out⟩⟩
theorem parse_sla (v : Value) (l : List UInt8) (hl : l.length ≤ 100000) (w : World) (h : SlA w v l) (hL : LaidU w) :
    Calls Tryz.prog 20 #[v] w (PaEnd8 l w) := by
  rcases Nat.eq_zero_or_pos l.length with h0 | h0
  · obtain rfl := List.eq_nil_of_length_eq_zero h0
    obtain ⟨A, c, rfl, _, h2, _, h4⟩ := h
    exact parse_empty A c h2 h4 w
  · refine parse_any v l hl w ?_ hL
    obtain ⟨A, c, e, h1, h2, h3, h4⟩ := h
    obtain ⟨b, off, eA, hh⟩ := h3 h0
    exact ⟨A, c, e, h1, h2, h4, fun _ => ⟨b, off, eA, by have := hh.lt h0; omega, hh.lt h0, hh⟩⟩
end Go.Proofs.YtjbjdkginemedaaGreatDoor
