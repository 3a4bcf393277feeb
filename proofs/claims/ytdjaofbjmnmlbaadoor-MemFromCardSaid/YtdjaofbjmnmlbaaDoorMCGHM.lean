/- Several texts in one: CG CHa YI YJ YK YL YM HL HM. Conditions: as each theorem names them. -/
import Derived.Test.YtdjaofbjmnmlbaaDoorMYBCF
import Derived.Test.YtdjaofbjmnmlbaaDoorCM
import Derived.Laws.MakeOwn
import Derived.Laws.ResultCell
import Derived.Test.YtdjaofbjmnmlbaaDoorMHFYA
import Derived.Deep.QuietTactic
import Derived.BigQuiet
import Derived.Test.YtdjaofbjmnmlbaaDoorShelfB
import Derived.Lib.OwnBridge
import Derived.Lib.QuietBelow
/- The writer's time and key. Conditions: buffers of at most ten thousand bytes; the parts as short as a right cell's are. -/
namespace Go.Proofs.YtdjaofbjmnmlbaaDoor
open Go.RowKit

theorem time_byte (r i : Nat) (hi : i < 8) : ((r : Int) / 2 ^ (8 * (7 - (i : Int))).toNat % 256) = ((UInt8.ofNat (r / 256 ^ (8 - 1 - i) % 256)).toNat : Int) := by
  have e : (8 * (7 - (i : Int))).toNat = 8 * (7 - i) := by omega
  rw [e, byte_at, show 8 - 1 - i = 7 - i by omega]

set_option maxRecDepth 100000 in
set_option maxHeartbeats 2000000 in
theorem wtime_any (B b : Nat) (t : Int) (h0 : 0 ≤ t) (h1 : t ≤ 1099511627776) (l : List UInt8) (hl : l.length ≤ 10000) (w : World) (h : Wr w B b l) (hB : B ≤ w.heap.size) :
    Calls Tryd.prog 142 #[.pointer (some ⟨b, 0, none⟩), .int .i64 t] w fun e w' => e = .returned (.tuple #[]) ∧ Wr w' B b (l ++ byW 8 (9223372036854775807 - t).toNat) ∧ WF B b w w' := by
  have HBB := hid hB
  have HW := hid h
  obtain ⟨r, hr⟩ : ∃ r : Nat, 9223372036854775807 - t = (r : Int) := ⟨(9223372036854775807 - t).toNat, by omega⟩
  have hr1 : r < 9223372036854775808 := by omega
  have HC : Hid (∀ (W : World) (i : Nat) (x : Int), i < 8 → x = ((r : Int) / 2 ^ (8 * (7 - (i : Int))).toNat % 256) → Wr W B b (l ++ (byW 8 r).take i) → B ≤ W.heap.size → Calls Tryd.prog 143 #[.pointer (some ⟨b, 0, none⟩), .int .u8 x] W fun e w' => e = .returned .nilIface ∧ Wr w' B b (l ++ (byW 8 r).take (i + 1)) ∧ WF B b W w') := by
    intro W i x hi hx h2 h3
    have := wbyte' B b (l ++ (byW 8 r).take i) (by have := byW_len 8 r; simp; omega) (UInt8.ofNat (r / 256 ^ (8 - 1 - i) % 256)) x (by rw [hx, time_byte r i hi]) W h2 h3
    rwa [List.append_assoc, ← byW_take 8 r i hi] at this
  rw [hr, Int.toNat_natCast]
  clear h hB
  go_enter Tryd.func142, Tryd.ntmps142
  go_wp2
  go_loopw [9] (fun vi wr => ∃ i : Nat, i ≤ 8 ∧ vi = .int .i64 i ∧ Hid (Wr wr B b (l ++ (byW 8 r).take i)) ∧ Hid (WF B b w wr)) (fun vi _ => 8 - (intOf vi).toNat)
  case atStart => exact ⟨0, by omega, rfl, by simpa using HW, WF.refl _ _ _⟩
  case round =>
    obtain ⟨i, hi, rfl, hR, hbel⟩ := hrel
    have HBr : Hid (B ≤ wr.heap.size) := Nat.le_trans HBB.out hbel.out.size
    by_cases hlt : i < 8
    · have HCi : Hid (∀ x : Int, x = ((r : Int) / 2 ^ (8 * (7 - (i : Int))).toNat % 256) → Calls Tryd.prog 143 #[.pointer (some ⟨b, 0, none⟩), .int .u8 x] wr fun e w' => e = .returned .nilIface ∧ Wr w' B b (l ++ (byW 8 r).take (i + 1)) ∧ WF B b wr w') := fun x hx => HC.out wr i x hlt hx hR.out HBr.out
      have HCd : Hid (∀ x : Int, x = ((r : Int) / 2 ^ (8 * (7 - (i : Int))).toNat % 256) → Calls Tryd.prog 143 #[.pointer (some ⟨b, 0, none⟩), .int .u8 x] wr.drew fun e w' => e = .returned .nilIface ∧ Wr w' B b (l ++ (byW 8 r).take (i + 1)) ∧ WF B b wr.drew w') := fun x hx => HC.out wr.drew i x hlt hx hR.out HBr.out
      have e11 : Hid (IntKind.u8.wrap ((r : Int) / 2 ^ (8 * (7 - (i : Int))).toNat) = (r : Int) / 2 ^ (8 * (7 - (i : Int))).toNat % 256) := by unfold Hid; rw [IntKind.wrap_u8]
      have e7 : IntKind.i64.wrap (7 - (i : Int)) = 7 - (i : Int) := by rw [IntKind.wrap_i64]; omega
      have e8 : IntKind.i64.wrap (8 * (7 - (i : Int))) = 8 * (7 - (i : Int)) := by rw [IntKind.wrap_i64]; omega
      have e9 : (0 : Int) ≤ 8 * (7 - (i : Int)) := by omega
      have e10 : ¬ (8 * (7 - (i : Int)) < 0) := by omega
      go_wp2
      have HN := hwf_refl B b wr
      go_region_held3 (fun w' => Hid (WF B b wr w'))
        (first | exact HN | exact hwf_drew HN | exact hwf_call (by assumption) hbo | exact hwf_drew (by assumption) | assumption)
        (first
          | (go_at_call 143; ((with_reducible refine (HCi.out _ e11.out).mono ?_); rintro e w1 ⟨rfl, h1, hbo⟩))
          | (go_at_call 143; ((with_reducible refine (HCd.out _ e11.out).mono ?_); rintro e w1 ⟨rfl, h1, hbo⟩)))
      rename_i hHeld
      go_wp2
      go_roundw
      case rel => exact ⟨i + 1, by omega, by go_num, h1, hbel.out.trans hHeld.out⟩
      case measure => simp [intOf]; omega
    · obtain rfl : i = 8 := by omega
      go_wp2
      go_end0
      refine ⟨rfl, ?_, hbel.out⟩
      have := hR.out
      rwa [List.take_of_length_le (by rw [byW_len]; exact Nat.le_refl _)] at this

/-- A cell in block cb, while a writer writes. -/
abbrev KeyS (B b cb : Nat) (xs : Array Value) (k : Int) (W0 w' : World) : Prop := Hid (WF B b W0 w' ∧ Blk w' cb 28 xs ∧ cb ≠ b ∧ xs[4]? = some (.int .i64 k)) ∧ w'.cell? ⟨cb, 4, none⟩ = some (.int .i64 k)
theorem keys_drew {B b cb : Nat} {xs : Array Value} {k : Int} {W0 W : World} (h : KeyS B b cb xs k W0 W) : KeyS B b cb xs k W0 W.drew := ⟨hid ⟨h.1.out.1.drew, h.1.out.2⟩, h.2⟩
theorem keys_call {B b cb : Nat} {xs : Array Value} {k : Int} {W0 W W' : World} (h : KeyS B b cb xs k W0 W) (hk : WF B b W W') : KeyS B b cb xs k W0 W' := by
  obtain ⟨h1, h2, h3, h4⟩ := h.1.out
  have hb := hk.blk h2 h3 (by decide)
  exact ⟨hid ⟨h1.trans hk, hb, h3, h4⟩, (hb.cell 4).trans h4⟩

set_option maxRecDepth 100000 in
set_option maxHeartbeats 4000000 in
theorem wkey_any (B b : Nat) (r f q vs : ByteArray) (t k vk vn : Int) (hr : r.size ≤ 16) (hf : f.size ≤ 8) (hq : q.size ≤ 12) (h0 : 0 ≤ t) (h1 : t ≤ 1099511627776) (hk1 : 1 ≤ k) (hk4 : k ≤ 4) (w : World) (h : Wr w B b []) (hB : B ≤ w.heap.size) :
    Calls Tryd.prog 101 #[.pointer (some ⟨b, 0, none⟩), cellV r f q t k vk vn vs] w fun e w' => e = .returned (.tuple #[]) ∧ Wr w' B b (keyM r.data.toList f.data.toList q.data.toList t k) ∧ WF B b w w' := by
  have HBB := hid hB
  have hbl := Wr.lt h
  have HNE : Hid (w.heap.size ≠ b) := by unfold Hid; omega
  have HL : ∀ s : ByteArray, (esc s.data.toList).length ≤ 2 * s.size := fun s => esc_len _
  have HT : Hid (∀ (W : World) (s : ByteArray) (m : List UInt8), s.size ≤ 16 → m.length ≤ 1000 → Wr W B b m → B ≤ W.heap.size → Calls Tryd.prog 141 #[.pointer (some ⟨b, 0, none⟩), .string s] W fun e w' => e = .returned (.tuple #[]) ∧ Wr w' B b (m ++ (esc s.data.toList ++ [0, 1])) ∧ WF B b W w') :=
    fun W s m hs hm h2 h3 => wtext_any B b s (by omega) m (by omega) W h2 h3
  have HM : Hid (∀ (W : World) (m : List UInt8), m.length ≤ 1000 → Wr W B b m → B ≤ W.heap.size → Calls Tryd.prog 142 #[.pointer (some ⟨b, 0, none⟩), .int .i64 t] W fun e w' => e = .returned (.tuple #[]) ∧ Wr w' B b (m ++ byW 8 (9223372036854775807 - t).toNat) ∧ WF B b W w') :=
    fun W m hm h2 h3 => wtime_any B b t h0 h1 m (by omega) W h2 h3
  have HK : Hid (∀ (W : World) (m : List UInt8) (x : Int), m.length ≤ 1000 → x = 255 - k → Wr W B b m → B ≤ W.heap.size → Calls Tryd.prog 143 #[.pointer (some ⟨b, 0, none⟩), .int .u8 x] W fun e w' => e = .returned .nilIface ∧ Wr w' B b (m ++ [UInt8.ofNat (255 - k).toNat]) ∧ WF B b W w') :=
    fun W m x hm hx h2 h3 => wbyte' B b m (by omega) _ x (by rw [hx, UInt8.toNat_ofNat']; omega) W h2 h3
  have HE : Hid (∀ (W : World) (m : List UInt8), m.length ≤ 1000 → Wr W B b m → B ≤ W.heap.size → Calls Tryd.prog 102 #[.pointer (some ⟨b, 0, none⟩), .slice (some ⟨W.heap.size, 0, none⟩) 2 2] (W.alloc (.cells #[.int .u8 0, .int .u8 0] 5)) fun e w' => e = .returned (.tuple #[.int .i64 2, .nilIface]) ∧ Wr w' B b (m ++ [0, 0]) ∧ WF B b (W.alloc (.cells #[.int .u8 0, .int .u8 0] 5)) w') :=
    fun W m h1 h2 h3 => wwrite' B b m [0, 0] (by simp only [List.length_cons, List.length_nil]; omega) _ 2 2 rfl (by have := Wr.lt h2; simp; omega) _ (Wr.alloc h2 _) (by simp; omega) (two_new W 0 0 _ 0 0 rfl rfl)
  have HA := hid (Wr.alloc h (.cells #[.string r, .string f, .string q, .int .i64 t, .int .i64 k, .int .i64 vk, .int .i64 vn, .string vs] 28))
  have B0 := hid (Blk.new w 28 #[.string r, .string f, .string q, .int .i64 t, .int .i64 k, .int .i64 vk, .int .i64 vn, .string vs])
  have HLr := hid (HL r)
  have HLf := hid (HL f)
  have HLq := hid (HL q)
  clear h hB hbl HL
  have HSZ : Hid (∀ W W' : World, WF B b W W' → B ≤ W.heap.size → B ≤ W'.heap.size) := fun W W' h h' => Nat.le_trans h' h.size
  have HS0 : Hid (B ≤ (w.alloc (.cells #[.string r, .string f, .string q, .int .i64 t, .int .i64 k, .int .i64 vk, .int .i64 vn, .string vs] 28)).heap.size) := by have := HBB.out; unfold Hid; simp; omega
  by_cases h4 : k = 4
  · subst h4
    go_enter Tryd.func101, Tryd.ntmps101
    go_wp2_with (first
      | (go_at_call 141; ((with_reducible refine (HT.out _ r [] hr (by decide) HA.out HS0.out).mono ?_); rintro e w1 ⟨rfl, h1, k1⟩; have HS1 := hid (HSZ.out _ _ k1 HS0.out); have B1 := hid (k1.blk B0.out HNE.out (by decide)); have g1 : w1.cell? ⟨w.heap.size, 1, none⟩ = some (.string f) := B1.out.cell 1))
      | (go_at_call 141; ((with_reducible refine (HT.out _ f _ (by omega) (by have := HLr.out; simp; omega) h1 HS1.out).mono ?_); rintro e w2 ⟨rfl, h2, k2⟩; have HS2 := hid (HSZ.out _ _ k2 HS1.out); have B2 := hid (k2.blk B1.out HNE.out (by decide)); have g2 : w2.cell? ⟨w.heap.size, 4, none⟩ = some (.int .i64 4) := B2.out.cell 4))
      | (go_at_call 102; ((refine (HE.out w2 _ (by have := HLr.out; have := HLf.out; simp; omega) h2 HS2.out).mono ?_); rintro e w3 ⟨rfl, h3, k3⟩; have HS3 := hid (HSZ.out _ _ k3 (by have := HS2.out; simp; omega)); have B3 := hid (k3.blk (B2.out.keep (below_new w2 _) B2.out.lt) HNE.out (by decide)); have g3 : w3.cell? ⟨w.heap.size, 3, none⟩ = some (.int .i64 t) := B3.out.cell 3))
      | (go_at_call 142; ((with_reducible refine (HM.out _ _ (by have := HLr.out; have := HLf.out; simp; omega) h3 HS3.out).mono ?_); rintro e w4 ⟨rfl, h4, k4⟩; have HS4 := hid (HSZ.out _ _ k4 HS3.out); have B4 := hid (k4.blk B3.out HNE.out (by decide)); have g4 : w4.cell? ⟨w.heap.size, 4, none⟩ = some (.int .i64 4) := B4.out.cell 4)))
    have HX : Hid (∀ W, Wr W B b ([] ++ (esc r.data.toList ++ [0, 1]) ++ (esc f.data.toList ++ [0, 1]) ++ [0, 0] ++ byW 8 (9223372036854775807 - t).toNat) → B ≤ W.heap.size → Calls Tryd.prog 143 #[.pointer (some ⟨b, 0, none⟩), .int .u8 (IntKind.u8.wrap (IntKind.i64.wrap 251))] W fun e w' => e = .returned .nilIface ∧ Wr w' B b (([] ++ (esc r.data.toList ++ [0, 1]) ++ (esc f.data.toList ++ [0, 1]) ++ [0, 0] ++ byW 8 (9223372036854775807 - t).toNat) ++ [UInt8.ofNat (255 - (4 : Int)).toNat]) ∧ WF B b W w') :=
      fun W hW hs => HK.out W _ _ (by have := HLr.out; have := HLf.out; simp [byW_len]; omega) rfl hW hs
    have HN : KeyS B b w.heap.size #[.string r, .string f, .string q, .int .i64 t, .int .i64 4, .int .i64 vk, .int .i64 vn, .string vs] 4 w4 w4 := ⟨hid ⟨WF.refl _ _ _, B4.out, HNE.out, rfl⟩, g4⟩
    go_region_held3 (fun w' => Hid (WF B b w4 w' ∧ Blk w' w.heap.size 28 #[.string r, .string f, .string q, .int .i64 t, .int .i64 4, .int .i64 vk, .int .i64 vn, .string vs] ∧ w.heap.size ≠ b ∧ (#[.string r, .string f, .string q, .int .i64 t, .int .i64 4, .int .i64 vk, .int .i64 vn, .string vs] : Array Value)[4]? = some (.int .i64 4)) ∧ w'.cell? ⟨w.heap.size, 4, none⟩ = some (.int .i64 4))
      (first | exact HN | exact keys_drew HN | exact keys_call (by assumption) hbo | exact keys_drew (by assumption) | assumption)
      ((go_at_call 143; ((with_reducible refine (HX.out _ ?_ ?_).mono ?_); (first | exact h4 | exact LibA.IsBuffer.drew h4); exact HS4.out; rintro e w5 ⟨rfl, h5, hbo⟩)))
    rename_i hHeld
    go_end0
    refine ⟨rfl, ?_, ((((WF.refl B b w).alloc HBB.out _).trans k1).trans k2).trans ((((WF.refl B b w2).alloc HS2.out _).trans k3).trans (k4.trans hHeld.1.out.1))⟩
    have := h5
    unfold keyM midM tailM
    rw [if_pos rfl]
    simpa using this
  · have q0 : (k == 4) = false := by simpa using h4
    have e12 : IntKind.i64.wrap (255 - k) = 255 - k := by rw [IntKind.wrap_i64]; omega
    go_enter Tryd.func101, Tryd.ntmps101
    go_wp2_with (first
      | (go_at_call 141; ((with_reducible refine (HT.out _ r [] hr (by decide) HA.out HS0.out).mono ?_); rintro e w1 ⟨rfl, h1, k1⟩; have HS1 := hid (HSZ.out _ _ k1 HS0.out); have B1 := hid (k1.blk B0.out HNE.out (by decide)); have g1 : w1.cell? ⟨w.heap.size, 1, none⟩ = some (.string f) := B1.out.cell 1))
      | (go_at_call 141; ((with_reducible refine (HT.out _ f _ (by omega) (by have := HLr.out; simp; omega) h1 HS1.out).mono ?_); rintro e w2 ⟨rfl, h2, k2⟩; have HS2 := hid (HSZ.out _ _ k2 HS1.out); have B2 := hid (k2.blk B1.out HNE.out (by decide)); have g2 : w2.cell? ⟨w.heap.size, 4, none⟩ = some (.int .i64 k) := B2.out.cell 4; have g2' : w2.cell? ⟨w.heap.size, 2, none⟩ = some (.string q) := B2.out.cell 2))
      | (go_at_call 141; ((with_reducible refine (HT.out _ q _ (by omega) (by have := HLr.out; have := HLf.out; simp; omega) h2 HS2.out).mono ?_); rintro e w3 ⟨rfl, h3, k3⟩; have HS3 := hid (HSZ.out _ _ k3 HS2.out); have B3 := hid (k3.blk B2.out HNE.out (by decide)); have g3 : w3.cell? ⟨w.heap.size, 3, none⟩ = some (.int .i64 t) := B3.out.cell 3))
      | (go_at_call 142; ((with_reducible refine (HM.out _ _ (by have := HLr.out; have := HLf.out; have := HLq.out; simp; omega) h3 HS3.out).mono ?_); rintro e w4 ⟨rfl, h4', k4⟩; have HS4 := hid (HSZ.out _ _ k4 HS3.out); have B4 := hid (k4.blk B3.out HNE.out (by decide)); have g4 : w4.cell? ⟨w.heap.size, 4, none⟩ = some (.int .i64 k) := B4.out.cell 4)))
    have HX : Hid (∀ W, Wr W B b ([] ++ (esc r.data.toList ++ [0, 1]) ++ (esc f.data.toList ++ [0, 1]) ++ (esc q.data.toList ++ [0, 1]) ++ byW 8 (9223372036854775807 - t).toNat) → B ≤ W.heap.size → Calls Tryd.prog 143 #[.pointer (some ⟨b, 0, none⟩), .int .u8 (IntKind.u8.wrap (255 - k))] W fun e w' => e = .returned .nilIface ∧ Wr w' B b (([] ++ (esc r.data.toList ++ [0, 1]) ++ (esc f.data.toList ++ [0, 1]) ++ (esc q.data.toList ++ [0, 1]) ++ byW 8 (9223372036854775807 - t).toNat) ++ [UInt8.ofNat (255 - k).toNat]) ∧ WF B b W w') :=
      fun W hW hs => HK.out W _ _ (by have := HLr.out; have := HLf.out; have := HLq.out; simp [byW_len]; omega) (by rw [IntKind.wrap_u8]; omega) hW hs
    have HN : KeyS B b w.heap.size #[.string r, .string f, .string q, .int .i64 t, .int .i64 k, .int .i64 vk, .int .i64 vn, .string vs] k w4 w4 := ⟨hid ⟨WF.refl _ _ _, B4.out, HNE.out, rfl⟩, g4⟩
    go_region_held3 (fun w' => Hid (WF B b w4 w' ∧ Blk w' w.heap.size 28 #[.string r, .string f, .string q, .int .i64 t, .int .i64 k, .int .i64 vk, .int .i64 vn, .string vs] ∧ w.heap.size ≠ b ∧ (#[.string r, .string f, .string q, .int .i64 t, .int .i64 k, .int .i64 vk, .int .i64 vn, .string vs] : Array Value)[4]? = some (.int .i64 k)) ∧ w'.cell? ⟨w.heap.size, 4, none⟩ = some (.int .i64 k))
      (first | exact HN | exact keys_drew HN | exact keys_call (by assumption) hbo | exact keys_drew (by assumption) | assumption)
      ((go_at_call 143; ((with_reducible refine (HX.out _ ?_ ?_).mono ?_); (first | exact h4' | exact LibA.IsBuffer.drew h4'); exact HS4.out; rintro e w5 ⟨rfl, h5, hbo⟩)))
    rename_i hHeld
    go_end0
    refine ⟨rfl, ?_, ((((WF.refl B b w).alloc HBB.out _).trans k1).trans k2).trans (k3.trans (k4.trans hHeld.1.out.1))⟩
    have := h5
    unfold keyM midM tailM
    rw [if_neg h4]
    simpa using this
end Go.Proofs.YtdjaofbjmnmlbaaDoor

/- codec.Encode: the bytes of every right cell. Conditions: the texts are no longer than any are, the number of the value one of 64 bits; the tables of utf8 read as they are laid. -/
namespace Go.Proofs.YtdjaofbjmnmlbaaDoor
open Go.RowKit

theorem wp_ltr {P : Program} {c : Code} {Q : Exit → Act → World → Prop} {a : Act} {w : World} (F : World → Prop) (h0 : F w) (h : ∀ W, F W → c.wp P Q a W) : c.wp P Q a w := h w h0
abbrev wr0 (W : World) : World := W.alloc (.cells #[.slice none 0 0, .int .i64 0, .int .i8 0] 127)

set_option maxRecDepth 100000 in
set_option maxHeartbeats 2000000 in
theorem encode_no (r f q vs : ByteArray) (t k vk : Int) {vn : Int} (hn : inI vn) (hf : f.size ≤ 9223372036854775807) (hv : vs.size ≤ 9223372036854775807) (w : World) (hL : LaidU w) (hr : cRight r.data.toList f.data.toList q.data.toList t k vk vn vs.data.toList = false) :
    Calls Tryd.prog 55 #[cellV r f q t k vk vn vs] w fun e w' => e = .returned (.tuple #[.slice none 0 0, .bool false]) ∧ Below w.heap.size w w' := by
  have HR : Hid (∀ W, Below w.heap.size w W → Calls Tryd.prog 58 #[cellV r f q t k vk vn vs] W fun e w' => e = .returned (.bool false) ∧ Below W.heap.size W w') := fun W hW => by
    have := cright_any r f q vs t k vk hn hf hv W (hL.below hW)
    rwa [hr] at this
  clear hL hr
  go_enter Tryd.func55, Tryd.ntmps55
  go_wp2_with (go_at_call 58; refine (HR.out _ (below_new _ _)).mono ?_; rintro e w1 ⟨rfl, hb⟩)
  go_ret2
  exact ⟨rfl, (below_new _ _).trans (hb.mono (by simp))⟩

theorem row_write {w : World} {B : Nat} {v : Value} {l : List UInt8} (h : Row w B v l) (hl : 0 < l.length) : ∃ g c, v = .slice (some ⟨g, 0, none⟩) l.length c ∧ B ≤ g ∧ ∀ j u, (bc l)[j]? = some u → w.cell? ((⟨g, 0, none⟩ : Addr).add j) = some u := by
  obtain ⟨g, c, rfl, hB, _, _, hc⟩ := h.form hl
  refine ⟨g, c, rfl, hB, fun j u hu => ?_⟩
  have hj : j < l.length := by
    rcases Nat.lt_or_ge j l.length with h1 | h1
    · exact h1
    · rw [bc_at, List.getElem?_eq_none h1] at hu; cases hu
  rw [add_zero_off, Nat.zero_add, hc j hj, ← hu, bc_at, List.getElem?_eq_getElem hj, List.getD_eq_getElem?_getD, List.getElem?_eq_getElem hj]
  rfl
set_option maxRecDepth 100000 in
set_option maxHeartbeats 4000000 in
theorem encode_other (r f q vs : ByteArray) (t k vk : Int) {vn : Int} (hn : inI vn) (hf : f.size ≤ 9223372036854775807) (hv : vs.size ≤ 9223372036854775807) (w : World) (hL : LaidU w) (hr : cRight r.data.toList f.data.toList q.data.toList t k vk vn vs.data.toList = true) (hk : ¬ k = 1) :
    Calls Tryd.prog 55 #[cellV r f q t k vk vn vs] w fun e w' => ∃ v, e = .returned (.tuple #[v, .bool true]) ∧ Row w' w.heap.size v (keyM r.data.toList f.data.toList q.data.toList t k) ∧ Below w.heap.size w w' := by
  obtain ⟨p1, p2, p3, p4, p5, p6, p7, p8, p9, pf, pv, pw⟩ := cright_parts hr
  have hr16 : r.size ≤ 16 := p2
  have hf8 : f.size ≤ 8 := p4
  have hq12 : q.size ≤ 12 := p5
  have HR : Hid (∀ W, Below w.heap.size w W → Calls Tryd.prog 58 #[cellV r f q t k vk vn vs] W fun e w' => e = .returned (.bool true) ∧ Below W.heap.size W w') := fun W hW => by
    have := cright_any r f q vs t k vk hn hf hv W (hL.below hW)
    rwa [hr] at this
  have HKy : Hid (∀ (W : World) (b : Nat), Wr W w.heap.size b [] → Calls Tryd.prog 101 #[.pointer (some ⟨b, 0, none⟩), cellV r f q t k vk vn vs] W fun e w' => e = .returned (.tuple #[]) ∧ Wr w' w.heap.size b (keyM r.data.toList f.data.toList q.data.toList t k) ∧ WF w.heap.size b W w') :=
    fun W b hW => wkey_any w.heap.size b r f q vs t k vk vn hr16 hf8 hq12 p6 p7 p8 p9 W hW (by have h1 := hW.1; have h2 := Wr.lt hW; omega)
  have HBL : Hid (∀ W W1 : World, W = w.alloc (.cells #[.string r, .string f, .string q, .int .i64 t, .int .i64 k, .int .i64 vk, .int .i64 vn, .string vs] 28) → Below W.heap.size W W1 → Blk (W1.alloc (.cells #[.slice none 0 0, .int .i64 0, .int .i8 0] 127)) w.heap.size 28 #[.string r, .string f, .string q, .int .i64 t, .int .i64 k, .int .i64 vk, .int .i64 vn, .string vs] ∧ w.heap.size < W1.heap.size ∧ Below w.heap.size w W1) := by
    intro W W1 e hb
    subst e
    have hz : w.heap.size < W1.heap.size := Nat.lt_of_lt_of_le (by simp) hb.size
    exact ⟨((Blk.new w _ _).keep hb (by simp)).keep (below_new _ _) hz, hz, (below_new _ _).trans (hb.mono (by simp))⟩
  have q0 : (k == 1) = false := by simpa using hk
  clear hL hr p1 p2 p3 p4 p5 p6 p7 p8 p9 pf pv pw
  go_enter Tryd.func55, Tryd.ntmps55
  go_upto_region 4 with (go_at_call 58; refine (HR.out _ (below_new _ _)).mono ?_; rintro e w1 ⟨rfl, hb⟩; have HB1 := hid (HBL.out _ _ rfl hb); clear hb)
  obtain ⟨b, hb⟩ : ∃ b, w1.heap.size = b := ⟨_, rfl⟩
  refine wp_ltr (fun W => Hid (Wr W w.heap.size b [] ∧ Blk W w.heap.size 28 #[.string r, .string f, .string q, .int .i64 t, .int .i64 k, .int .i64 vk, .int .i64 vn, .string vs] ∧ w.heap.size < b ∧ Below w.heap.size w W) ∧ W.cell? ⟨w.heap.size, 0, none⟩ = some (.string r) ∧ W.cell? ⟨w.heap.size, 1, none⟩ = some (.string f) ∧ W.cell? ⟨w.heap.size, 2, none⟩ = some (.string q) ∧ W.cell? ⟨w.heap.size, 3, none⟩ = some (.int .i64 t) ∧ W.cell? ⟨w.heap.size, 4, none⟩ = some (.int .i64 k) ∧ W.cell? ⟨w.heap.size, 5, none⟩ = some (.int .i64 vk) ∧ W.cell? ⟨w.heap.size, 6, none⟩ = some (.int .i64 vn) ∧ W.cell? ⟨w.heap.size, 7, none⟩ = some (.string vs)) ?_ (fun W hW => ?_)
  · obtain ⟨B1, z1, bw1⟩ := HB1.out
    exact ⟨⟨by rw [← hb]; exact wr_new w1 _ (Nat.le_of_lt z1), B1, by omega, bw1.alloc (Nat.le_of_lt z1) _⟩, B1.cell 0, B1.cell 1, B1.cell 2, B1.cell 3, B1.cell 4, B1.cell 5, B1.cell 6, B1.cell 7⟩
  obtain ⟨HW, g0, g1, g2, g3, g4, g5, g6, g7⟩ := hW
  rw [hb]
  clear HB1 hb
  go_wp2_with (first
    | (go_at_call 101; refine (HKy.out W b HW.out.1).mono ?_; rintro e w2 ⟨rfl, h2, k2⟩; clear g0 g1 g2 g3 g4 g5 g6 g7; have B2 := hid (k2.blk HW.out.2.1 (Nat.ne_of_lt HW.out.2.2.1) (by decide)); have g4 : w2.cell? ⟨w.heap.size, 4, none⟩ = some (.int .i64 k) := B2.out.cell 4)
    | (go_at_call 103; refine (wbytes_any _ _ _ _ h2).mono ?_; rintro e w3 ⟨v, rfl, h3, h4⟩))
  go_ret2
  have hz2 : w.heap.size ≤ w2.heap.size := Nat.le_trans HW.out.2.2.2.size k2.size
  exact ⟨_, rfl, h3, (HW.out.2.2.2.trans k2.below).trans (h4.mono hz2)⟩

set_option maxRecDepth 100000 in
set_option maxHeartbeats 4000000 in
theorem encode_put (r f q vs : ByteArray) (t vk : Int) {vn : Int} (hn : inI vn) (hf : f.size ≤ 9223372036854775807) (hv : vs.size ≤ 9223372036854775807) (w : World) (hL : LaidU w) (hr : cRight r.data.toList f.data.toList q.data.toList t 1 vk vn vs.data.toList = true) :
    Calls Tryd.prog 55 #[cellV r f q t 1 vk vn vs] w fun e w' => ∃ v, e = .returned (.tuple #[v, .bool true]) ∧ Row w' w.heap.size v (keyM r.data.toList f.data.toList q.data.toList t 1 ++ vEnc vk vn vs.data.toList) ∧ Below w.heap.size w w' := by
  obtain ⟨p1, p2, p3, p4, p5, p6, p7, p8, p9, pf, pv, pw⟩ := cright_parts hr
  have hr16 : r.size ≤ 16 := p2
  have hf8 : f.size ≤ 8 := p4
  have hq12 : q.size ≤ 12 := p5
  have HR : Hid (∀ W, Below w.heap.size w W → Calls Tryd.prog 58 #[cellV r f q t 1 vk vn vs] W fun e w' => e = .returned (.bool true) ∧ Below W.heap.size W w') := fun W hW => by
    have := cright_any r f q vs t 1 vk hn hf hv W (hL.below hW)
    rwa [hr] at this
  have HKy : Hid (∀ (W : World) (b : Nat), Wr W w.heap.size b [] → Calls Tryd.prog 101 #[.pointer (some ⟨b, 0, none⟩), cellV r f q t 1 vk vn vs] W fun e w' => e = .returned (.tuple #[]) ∧ Wr w' w.heap.size b (keyM r.data.toList f.data.toList q.data.toList t 1) ∧ WF w.heap.size b W w') :=
    fun W b hW => wkey_any w.heap.size b r f q vs t 1 vk vn hr16 hf8 hq12 p6 p7 p8 p9 W hW (by have h1 := hW.1; have h2 := Wr.lt hW; omega)
  have HBL : Hid (∀ W W1 : World, W = w.alloc (.cells #[.string r, .string f, .string q, .int .i64 t, .int .i64 1, .int .i64 vk, .int .i64 vn, .string vs] 28) → Below W.heap.size W W1 → Blk (W1.alloc (.cells #[.slice none 0 0, .int .i64 0, .int .i8 0] 127)) w.heap.size 28 #[.string r, .string f, .string q, .int .i64 t, .int .i64 1, .int .i64 vk, .int .i64 vn, .string vs] ∧ w.heap.size < W1.heap.size ∧ Below w.heap.size w W1) := by
    intro W W1 e hb
    subst e
    have hz : w.heap.size < W1.heap.size := Nat.lt_of_lt_of_le (by simp) hb.size
    exact ⟨((Blk.new w _ _).keep hb (by simp)).keep (below_new _ _) hz, hz, (below_new _ _).trans (hb.mono (by simp))⟩
  have hvr := pv rfl
  have HV : Hid (∀ W, Below w.heap.size w W → Calls Tryd.prog 92 #[.agg #[.int .i64 vk, .int .i64 vn, .string vs]] W fun e w' => ∃ v, e = .returned (.tuple #[v, .bool true]) ∧ Row w' W.heap.size v (vEnc vk vn vs.data.toList) ∧ Below W.heap.size W w') := fun W hW => vencode_yes vk hn vs hv hvr W (hL.below hW)
  have HLk : Hid ((keyM r.data.toList f.data.toList q.data.toList t 1).length + (vEnc vk vn vs.data.toList).length ≤ 1000000 ∧ 0 < (vEnc vk vn vs.data.toList).length) := by
    have h1 := enc_small hvr
    have h2 := enc_two hvr
    have h3 := esc_len r.data.toList
    have h4 := esc_len f.data.toList
    have h5 := esc_len q.data.toList
    have h6 := tail_len t 1
    refine ⟨?_, by omega⟩
    unfold keyM midM
    rw [if_neg (by decide)]
    simp only [List.length_append, List.length_cons, List.length_nil]
    omega
  clear hL hr p1 p2 p3 p4 p5 p6 p7 p8 p9 pf pv pw hvr
  go_enter Tryd.func55, Tryd.ntmps55
  go_upto_region 4 with (go_at_call 58; refine (HR.out _ (below_new _ _)).mono ?_; rintro e w1 ⟨rfl, hb⟩; have HB1 := hid (HBL.out _ _ rfl hb); clear hb)
  obtain ⟨b, hb⟩ : ∃ b, w1.heap.size = b := ⟨_, rfl⟩
  refine wp_ltr (fun W => Hid (Wr W w.heap.size b [] ∧ Blk W w.heap.size 28 #[.string r, .string f, .string q, .int .i64 t, .int .i64 1, .int .i64 vk, .int .i64 vn, .string vs] ∧ w.heap.size < b ∧ Below w.heap.size w W) ∧ W.cell? ⟨w.heap.size, 0, none⟩ = some (.string r) ∧ W.cell? ⟨w.heap.size, 1, none⟩ = some (.string f) ∧ W.cell? ⟨w.heap.size, 2, none⟩ = some (.string q) ∧ W.cell? ⟨w.heap.size, 3, none⟩ = some (.int .i64 t) ∧ W.cell? ⟨w.heap.size, 4, none⟩ = some (.int .i64 1) ∧ W.cell? ⟨w.heap.size, 5, none⟩ = some (.int .i64 vk) ∧ W.cell? ⟨w.heap.size, 6, none⟩ = some (.int .i64 vn) ∧ W.cell? ⟨w.heap.size, 7, none⟩ = some (.string vs)) ?_ (fun W hW => ?_)
  · obtain ⟨B1, z1, bw1⟩ := HB1.out
    exact ⟨⟨by rw [← hb]; exact wr_new w1 _ (Nat.le_of_lt z1), B1, by omega, bw1.alloc (Nat.le_of_lt z1) _⟩, B1.cell 0, B1.cell 1, B1.cell 2, B1.cell 3, B1.cell 4, B1.cell 5, B1.cell 6, B1.cell 7⟩
  obtain ⟨HW, g0, g1, g2, g3, g4, g5, g6, g7⟩ := hW
  rw [hb]
  clear HB1 hb
  go_wp2_with (first
    | (go_at_call 101; refine (HKy.out W b HW.out.1).mono ?_; rintro e w2 ⟨rfl, h2, k2⟩; clear g0 g1 g2 g3 g4 g5 g6 g7; have B2 := hid (k2.blk HW.out.2.1 (Nat.ne_of_lt HW.out.2.2.1) (by decide)); have hz2 : w.heap.size ≤ w2.heap.size := (Nat.le_trans HW.out.2.2.2.size k2.size); have hbw2 := hid (HW.out.2.2.2.trans k2.below); have g4 : w2.cell? ⟨w.heap.size, 4, none⟩ = some (.int .i64 1) := B2.out.cell 4; have g5 : w2.cell? ⟨w.heap.size, 5, none⟩ = some (.int .i64 vk) := B2.out.cell 5; have g6 : w2.cell? ⟨w.heap.size, 6, none⟩ = some (.int .i64 vn) := B2.out.cell 6; have g7 : w2.cell? ⟨w.heap.size, 7, none⟩ = some (.string vs) := B2.out.cell 7)
    | (go_at_call 92; refine (HV.out w2 hbw2.out).mono ?_; rintro e w3 ⟨v2, rfl, hR3, hb3⟩; obtain ⟨g, c, rfl, hg, hcell⟩ := row_write hR3 HLk.out.2; have HW3 := hid (LibA.IsBuffer.old h2 hb3))
    | (go_at_call 102; refine (wwrite' w.heap.size b _ _ HLk.out.1 ⟨g, 0, none⟩ _ c rfl (by have := Wr.lt h2; simp; omega) w3 HW3.out (by have := hb3.size; omega) hcell).mono ?_; rintro e w4 ⟨rfl, h4', k4⟩)
    | (go_at_call 103; refine (wbytes_any _ _ _ _ h4').mono ?_; rintro e w5 ⟨v, rfl, h3, h4⟩))
  go_ret2
  have hz4 : w.heap.size ≤ w4.heap.size := by have := k4.size; have := hb3.size; omega
  exact ⟨_, rfl, h3, ((hbw2.out.trans (hb3.mono hz2)).trans k4.below).trans (h4.mono hz4)⟩

/-- codec.Encode of a right cell. -/
theorem encode_yes (r f q vs : ByteArray) (t k vk : Int) {vn : Int} (hn : inI vn) (hf : f.size ≤ 9223372036854775807) (hv : vs.size ≤ 9223372036854775807) (w : World) (hL : LaidU w) (hr : cRight r.data.toList f.data.toList q.data.toList t k vk vn vs.data.toList = true) :
    Calls Tryd.prog 55 #[cellV r f q t k vk vn vs] w fun e w' => ∃ v, e = .returned (.tuple #[v, .bool true]) ∧ Row w' w.heap.size v (cEnc r.data.toList f.data.toList q.data.toList t k vk vn vs.data.toList) ∧ Below w.heap.size w w' := by
  unfold cEnc
  by_cases hk : k = 1
  · subst hk
    rw [if_pos rfl]
    exact encode_put r f q vs t vk hn hf hv w hL hr
  · rw [if_neg hk, List.append_nil]
    exact encode_other r f q vs t k vk hn hf hv w hL hr hk
end Go.Proofs.YtdjaofbjmnmlbaaDoor

/- What a table in memory is; Encode at every right cell; the cells with one put. Conditions: as each theorem names them. -/
namespace Go.Proofs.YtdjaofbjmnmlbaaDoor
open Go.RowKit

/-- How many bytes a cell has. -/
def encL (c : CT) : Nat := (cEnc c.r.data.toList c.f.data.toList c.q.data.toList c.t c.k c.vk c.vn c.s.data.toList).length
def bytesL (l : List CT) : Nat := (l.map encL).sum
theorem enc_yes (c : CT) (h : okC c) (hok : c.ok = true) (w : World) (hL : LaidU w) :
    Calls Tryd.prog 55 #[c.v] w fun e w' => ∃ g cap, e = .returned (.tuple #[.slice (some ⟨g, 0, none⟩) (encL c) cap, .bool true]) ∧ Below w.heap.size w w' := by
  refine (encode_yes c.r c.f c.q c.s c.t c.k c.vk h.2.2 h.1 h.2.1 w hL hok).mono fun e w' ⟨v, he, hr, hb⟩ => ?_
  have hp : 0 < (cEnc c.r.data.toList c.f.data.toList c.q.data.toList c.t c.k c.vk c.vn c.s.data.toList).length := by
    unfold cEnc keyM
    simp only [List.length_append, List.length_cons]
    omega
  obtain ⟨g, cap, rfl, _⟩ := hr.form hp
  exact ⟨g, cap, he, hb⟩
theorem enc_no (c : CT) (h : okC c) (hok : c.ok = false) (w : World) (hL : LaidU w) :
    Calls Tryd.prog 55 #[c.v] w fun e w' => e = .returned (.tuple #[.slice none 0 0, .bool false]) ∧ Below w.heap.size w w' := encode_no c.r c.f c.q c.s c.t c.k c.vk h.2.2 h.1 h.2.1 w hL hok
theorem ok_small {c : CT} (h : c.ok = true) : c.r.size ≤ 16 ∧ c.f.size ≤ 8 ∧ c.q.size ≤ 12 := by
  obtain ⟨_, h2, _, h4, h5, _⟩ := cright_parts h
  exact ⟨h2, h4, h5⟩

/-- The cells with c in its place. -/
def putL (l : List CT) (c : CT) : List CT := l.filter (fun x => decide (CT.cmp x c < 0)) ++ c :: l.filter (fun x => decide (0 < CT.cmp x c))
theorem putL_rise {l : List CT} (c : CT) (h : l.Pairwise (fun x y => CT.cmp x y < 0)) : (putL l c).Pairwise (fun x y => CT.cmp x y < 0) := by
  refine List.pairwise_append.2 ⟨h.filter _, List.pairwise_cons.2 ⟨fun y hy => ?_, h.filter _⟩, fun x hx y hy => ?_⟩
  · have := of_decide_eq_true (List.mem_filter.1 hy).2
    have := ct_c3.anti c y
    omega
  · have h1 := of_decide_eq_true (List.mem_filter.1 hx).2
    rcases List.mem_cons.1 hy with rfl | hy
    · exact h1
    · have h2 := of_decide_eq_true (List.mem_filter.1 hy).2
      have := ct_c3.anti c y
      exact ct_c3.lt_le h1 (by omega)
theorem putL_mem {l : List CT} {c x : CT} (h : x ∈ putL l c) : x = c ∨ x ∈ l := by
  rcases List.mem_append.1 h with h | h
  · exact .inr (List.mem_filter.1 h).1
  · rcases List.mem_cons.1 h with h | h
    · exact .inl h
    · exact .inr (List.mem_filter.1 h).1
/-- Parted at c's place. -/
theorem part_at {l : List CT} (c : CT) (h : l.Pairwise (fun x y => CT.cmp x y < 0)) : l = l.filter (fun x => decide (CT.cmp x c < 0)) ++ l.filter (fun x => !decide (CT.cmp x c < 0)) := by
  induction l with
  | nil => rfl
  | cons a l ih =>
    obtain ⟨h1, h2⟩ := List.pairwise_cons.1 h
    by_cases q : CT.cmp a c < 0
    · rw [List.filter_cons, if_pos (decide_eq_true q), List.filter_cons, if_neg (by rw [decide_eq_true q]; decide), List.cons_append, ← ih h2]
    · have hn : ∀ x ∈ l, ¬ CT.cmp x c < 0 := fun x hx z => q (ct_c3.lt_le (h1 x hx) (Int.le_of_lt z))
      rw [List.filter_cons, if_neg (by rw [decide_eq_true_iff]; exact q), List.filter_eq_nil_iff.2 (fun x hx => by rw [decide_eq_true_iff]; exact hn x hx), List.filter_eq_self.2]
      · rfl
      · intro x hx
        rcases List.mem_cons.1 hx with rfl | hx
        · rw [decide_eq_false q]; rfl
        · rw [decide_eq_false (hn x hx)]; rfl

/-- A table in memory: its cells rise, and are right. -/
structure MemIs (w : World) (B mb : Nat) (l : List CT) (hd : Nd) (L : List Nd) : Prop where
  lo : B ≤ mb
  blk : Blk w mb 105 #[.pointer (some ⟨hd.b, 0, none⟩), .int .i64 (l.length : Int), .int .i64 (bytesL l : Int)]
  sk : Sk w B hd L
  cs : L.map Nd.c = l
  rise : l.Pairwise (fun x y => CT.cmp x y < 0)
  ok : ∀ c ∈ l, c.ok = true ∧ okC c ∧ c.s.size ≤ 1000
def MemOf (w : World) (B mb : Nat) (l : List CT) : Prop := ∃ hd L, MemIs w B mb l hd L
theorem MemIs.below {w w' : World} {B mb : Nat} {l : List CT} {hd : Nd} {L : List Nd} (h : MemIs w B mb l hd L) (hb : Below w.heap.size w w') : MemIs w' B mb l hd L := ⟨h.lo, h.blk.keep hb h.blk.lt, h.sk.below hb, h.cs, h.rise, h.ok⟩
theorem MemOf.below {w w' : World} {B mb : Nat} {l : List CT} (h : MemOf w B mb l) (hb : Below w.heap.size w w') : MemOf w' B mb l := by
  obtain ⟨hd, L, h⟩ := h
  exact ⟨hd, L, h.below hb⟩
/-- The nodes, parted at a cell's place. -/
theorem MemIs.part {w : World} {B mb : Nat} {l : List CT} {hd : Nd} {L : List Nd} (h : MemIs w B mb l hd L) (c : CT) : ∃ P Q, L = P ++ Q ∧ (∀ n ∈ P, CT.cmp n.c c < 0) ∧ (∀ n ∈ Q, ¬ CT.cmp n.c c < 0) ∧ P.map Nd.c = l.filter (fun x => decide (CT.cmp x c < 0)) ∧ Q.map Nd.c = l.filter (fun x => !decide (CT.cmp x c < 0)) := by
  have hc := h.cs
  rw [part_at c h.rise] at hc
  obtain ⟨P, Q, rfl, hp, hq⟩ := List.map_eq_append_iff.1 hc
  refine ⟨P, Q, rfl, fun n hn => ?_, fun n hn => ?_, ?_, hq⟩
  · have : n.c ∈ P.map Nd.c := List.mem_map_of_mem hn
    rw [hp] at this
    exact of_decide_eq_true (List.mem_filter.1 this).2
  · have : n.c ∈ Q.map Nd.c := List.mem_map_of_mem hn
    rw [hq] at this
    have := (List.mem_filter.1 this).2
    intro z
    rw [decide_eq_true z] at this
    cases this
  · exact hp
/-- Nodes stand where blocks of other types turn. -/
theorem Sk.other {w w' : World} {B : Nat} {hd : Nd} {L : List Nd} (h : Sk w B hd L) {mb : Nat} {T : TypeId} {xs : Array Value} (hm : Blk w mb T xs) (hT : T ≠ 103 ∧ T ≠ 100) (hk : ∀ k, k < w.heap.size → k ≠ mb → w'.heap[k]? = w.heap[k]?) : Sk w' B hd L := by
  refine ⟨h.ch.keep fun n hn => ?_, h.db, h.dg, h.h0, h.hs⟩
  obtain ⟨R, hR⟩ := h.ch.mem hn
  obtain ⟨cur, hcur, _⟩ := hR.rowb
  exact ⟨hk _ hR.blk.lt (blk_ne hR.blk hm (fun e => hT.1 e.symm)), hk _ hcur.lt (blk_ne hcur hm (fun e => hT.2 e.symm))⟩
/-- A node with another cell. -/
theorem Sk.recell {w w' : World} {B : Nat} {hd q : Nd} {P Q : List Nd} {c : CT} (h : Sk w B hd (P ++ q :: Q)) (hk : ∀ k, k < w.heap.size → k ≠ q.b → w'.heap[k]? = w.heap[k]?) (hb : Blk w' q.b 103 (c.e ++ [q.s]).toArray) : Sk w' B hd (P ++ ⟨q.b, c, q.g, q.cap, q.h⟩ :: Q) := by
  have hc := h.ch
  rw [← List.cons_append] at hc
  have hq : NdAt w B q Q := hc.at
  have db := h.db
  rw [← List.cons_append] at db
  have pm : ((hd :: P) ++ q :: Q).Perm (q :: ((hd :: P) ++ Q)) := List.perm_middle
  have nb := (List.nodup_cons.1 ((pm.map Nd.b).nodup_iff.1 db)).1
  have keep : ∀ n ∈ (hd :: P) ++ Q, w'.heap[n.b]? = w.heap[n.b]? ∧ w'.heap[n.g]? = w.heap[n.g]? := fun n hn => by
    obtain ⟨R, hR⟩ := hc.mem (pm.mem_iff.2 (List.mem_cons_of_mem _ hn))
    exact ⟨hk _ hR.blk.lt fun z => nb (by rw [← z]; exact List.mem_map_of_mem hn), hk _ hR.g_lt.2 fun z => hq.bg hR z.symm⟩
  refine ⟨?_, ?_, ?_, h.h0, fun n hn => ?_⟩
  · rw [← List.cons_append]
    refine Chain.glue hc (fun n hn => keep n (List.mem_append_left _ hn)) (fun A1 n A2 _ j _ => nx_congr rfl) ⟨⟨hq.lo, hb, ?_⟩, hc.drop.2.keep fun n hn => keep n (List.mem_append_right _ hn)⟩
    exact own_block hq.row fun g z => by cases z; exact hk _ hq.g_lt.2 fun z => hq.bg hq z.symm
  · rw [List.map_append] at db
    rw [← List.cons_append, List.map_append]
    exact db
  · have dg := h.dg
    rw [← List.cons_append, List.map_append] at dg ⊢
    exact dg
  · rcases List.mem_append.1 hn with hn | hn
    · exact h.hs n (List.mem_append_left _ hn)
    · rcases List.mem_cons.1 hn with rfl | hn
      · exact h.hs q (by simp)
      · exact h.hs n (by simp [hn])
theorem paths_one {xs : Array Value} {hd : Nd} {P : List Nd} (hl : xs.size = 32) (hx : ∀ j, j < 32 → xs[j]? = some (lastH hd P j).p) : xs.all (·.oneCell') = true := by
  rw [Array.all_eq_true]
  intro j hj
  have := hx j (by omega)
  rw [Array.getElem?_eq_getElem hj] at this
  injection this with this
  rw [this]
  rfl
end Go.Proofs.YtdjaofbjmnmlbaaDoor

/- mem.New, Count, Bytes. Conditions: the table stands. -/
namespace Go.Proofs.YtdjaofbjmnmlbaaDoor
open Go.RowKit

set_option maxHeartbeats 1000000 in
theorem count_any (mb : Nat) (l : List CT) (B : Nat) (w : World) (h : MemOf w B mb l) :
    Calls Tryd.prog 37 #[.pointer (some ⟨mb, 0, none⟩)] w fun e w' => e = .returned (.int .i64 (l.length : Int)) ∧ w' = w := by
  obtain ⟨hd, L, h⟩ := h
  have m1 : w.cell? ⟨mb, 1, none⟩ = some (.int .i64 (l.length : Int)) := h.blk.cell 1
  clear h
  go_enter Tryd.func37, Tryd.ntmps37
  go_wp2
  go_ret
  exact ⟨rfl, rfl⟩
set_option maxHeartbeats 1000000 in
theorem bytes_any (mb : Nat) (l : List CT) (B : Nat) (w : World) (h : MemOf w B mb l) :
    Calls Tryd.prog 43 #[.pointer (some ⟨mb, 0, none⟩)] w fun e w' => e = .returned (.int .i64 (bytesL l : Int)) ∧ w' = w := by
  obtain ⟨hd, L, h⟩ := h
  have m1 : w.cell? ⟨mb, 2, none⟩ = some (.int .i64 (bytesL l : Int)) := h.blk.cell 2
  clear h
  go_enter Tryd.func43, Tryd.ntmps43
  go_wp2
  go_ret
  exact ⟨rfl, rfl⟩

def emptyN : Array Value := ((default : CT).e ++ [Value.slice none 0 0]).toArray
set_option maxRecDepth 100000 in
set_option maxHeartbeats 1000000 in
theorem new_any (w : World) :
    Calls Tryd.prog 34 #[] w fun e w' => ∃ mb, e = .returned (.pointer (some ⟨mb, 0, none⟩)) ∧ MemOf w' w.heap.size mb [] ∧ Below w.heap.size w w' := by
  obtain ⟨i0, hi, hz0, hz1, hz2⟩ := info_parts info_ptr
  obtain ⟨M, hM⟩ : ∃ M, M = madeCells (Value.pointer none).cells (32 * i0.size) := ⟨_, rfl⟩
  have hMs : M.size = 32 := by rw [hM, size_madeCells, hz1]
  have hMn : M.toList = List.replicate 32 (.pointer none) := by
    rw [hM, hz1]
    simp [madeCells, Value.cells, Nat.mod_one, List.map_const', -List.reduceReplicate]
  have hmk : ∀ W : World, (Instr.makeSlice 101 (.int .i64 32) (.int .i64 32)).run Tryd.prog W = .ok (.slice (some ⟨W.heap.size, 0, none⟩) 32 32) (W.alloc (.cells M 100)) := fun W => by
    have h := run_make (P := Tryd.prog) W 101 100 i0 (.pointer none) Tryd.underlying101 hi hz0 .i64 .i64 32 32 (by omega) (by omega) (by rw [hz2]; omega) (by omega)
    rw [← show M = madeCells (Value.pointer none).cells ((32 : Int).toNat * i0.size) from hM] at h
    exact h
  clear hM hi hz0 hz1 hz2
  have HE : Hid (∃ hd L, MemIs (((w.alloc (.cells M 100)).alloc (.cells ((default : CT).e ++ [Value.slice (some ⟨w.heap.size, 0, none⟩) 32 32]).toArray 103)).alloc (.cells #[.pointer (some ⟨w.heap.size + 1, 0, none⟩), .int .i64 0, .int .i64 0] 105)) w.heap.size (w.heap.size + 1 + 1) [] hd L) := by
    have k1 := Blk.new w 100 M
    have s1 : (w.alloc (.cells M 100)).heap.size = w.heap.size + 1 := World.size_alloc _ _
    have k2 := Blk.new (w.alloc (.cells M 100)) 103 ((default : CT).e ++ [Value.slice (some ⟨w.heap.size, 0, none⟩) 32 32]).toArray
    have b2 := below_new (w.alloc (.cells M 100)) (.cells ((default : CT).e ++ [Value.slice (some ⟨w.heap.size, 0, none⟩) 32 32]).toArray 103)
    have s2 : ((w.alloc (.cells M 100)).alloc (.cells ((default : CT).e ++ [Value.slice (some ⟨w.heap.size, 0, none⟩) 32 32]).toArray 103)).heap.size = w.heap.size + 1 + 1 := by rw [World.size_alloc, s1]
    have k3 := Blk.new ((w.alloc (.cells M 100)).alloc (.cells ((default : CT).e ++ [Value.slice (some ⟨w.heap.size, 0, none⟩) 32 32]).toArray 103)) 105 #[.pointer (some ⟨w.heap.size + 1, 0, none⟩), .int .i64 0, .int .i64 0]
    have b3 := below_new ((w.alloc (.cells M 100)).alloc (.cells ((default : CT).e ++ [Value.slice (some ⟨w.heap.size, 0, none⟩) 32 32]).toArray 103)) (.cells #[.pointer (some ⟨w.heap.size + 1, 0, none⟩), .int .i64 0, .int .i64 0] 105)
    rw [s1] at k2
    rw [s2] at k3
    have k1' := (k1.keep b2 (by omega)).keep b3 (by omega)
    have k2' := k2.keep b3 (by omega)
    refine ⟨⟨w.heap.size + 1, default, w.heap.size, 32, 32⟩, [], by omega, k3, ⟨⟨⟨by show w.heap.size ≤ w.heap.size + 1; omega, k2', ⟨by rw [rowN_len]; rfl, .inr ⟨w.heap.size, 32, M, rfl, Nat.le_refl _, k1', Nat.le_refl _, by unfold maxLen; omega, hMs, ?_⟩⟩⟩, trivial⟩, by simp, by simp, rfl, fun n hn => by cases hn⟩, rfl, List.Pairwise.nil, fun c hc => by cases hc⟩
    rw [hMn]
    rfl
  clear hMn hMs
  go_enter Tryd.func34, Tryd.ntmps34
  go_wp2
  go_ret
  exact ⟨_, rfl, HE.out, (((below_new w _).alloc (by simp) _).alloc (by simp; omega) _)⟩
end Go.Proofs.YtdjaofbjmnmlbaaDoor

/- What (*mem.Mem).Put comes to, and what it keeps of memory. Conditions: as each theorem names them. -/
namespace Go.Proofs.YtdjaofbjmnmlbaaDoor
open Go.RowKit

/-- What Put keeps: what lay below B, and blocks of other types than the table's. -/
abbrev memTs : List TypeId := [103, 100, 105]
theorem bytes_put {p q : List CT} (c : CT) : bytesL (p ++ c :: q) = bytesL p + encL c + bytesL q := by
  unfold bytesL
  simp [Nat.add_assoc]
theorem bytes_app (p q : List CT) : bytesL (p ++ q) = bytesL p + bytesL q := by
  unfold bytesL
  simp
/-- Where Put is, behind the search. -/
structure PuS (w W : World) (cb pb : Nat) (c : CT) (xs : Array Value) : Prop where
  b : Below w.heap.size w W
  c : Blk W cb 28 c.e.toArray
  p : Blk W pb 107 xs
theorem PuS.below {w W W' : World} {cb pb : Nat} {c : CT} {xs : Array Value} (h : PuS w W cb pb c xs) (hb : Below W.heap.size W W') : PuS w W' cb pb c xs := ⟨h.b.trans (hb.mono h.b.size), h.c.keep hb h.c.lt, h.p.keep hb h.p.lt⟩

/-- What a put comes to, by the node that is there. -/
theorem put_split {l : List CT} {c : CT} {P Q : List Nd} (hr : l.Pairwise (fun x y => CT.cmp x y < 0)) (ep : P.map Nd.c = l.filter (fun x => decide (CT.cmp x c < 0))) (eq : Q.map Nd.c = l.filter (fun x => !decide (CT.cmp x c < 0))) :
    (hereN Q c = none → putL l c = P.map Nd.c ++ c :: Q.map Nd.c) ∧ (∀ q, hereN Q c = some q → ∃ Q', Q = q :: Q' ∧ CT.cmp q.c c = 0 ∧ putL l c = P.map Nd.c ++ c :: Q'.map Nd.c) := by
  have hQr : (Q.map Nd.c).Pairwise (fun x y => CT.cmp x y < 0) := by rw [eq]; exact hr.filter _
  have hQn : ∀ x ∈ Q.map Nd.c, ¬ CT.cmp x c < 0 := fun x hx z => by
    rw [eq] at hx
    have := (List.mem_filter.1 hx).2
    rw [decide_eq_true z] at this
    cases this
  have eg : l.filter (fun x => decide (0 < CT.cmp x c)) = (Q.map Nd.c).filter (fun x => decide (0 < CT.cmp x c)) := by
    rw [eq, List.filter_filter]
    refine List.filter_congr fun x _ => ?_
    by_cases z : 0 < CT.cmp x c
    · rw [decide_eq_true z, decide_eq_false (by omega)]; rfl
    · rw [decide_eq_false z]; rfl
  have beh : ∀ q Q', Q = q :: Q' → ∀ x ∈ Q'.map Nd.c, 0 < CT.cmp x c := fun q Q' e x hx => by
    rw [e, List.map_cons] at hQr hQn
    have h1 := (List.pairwise_cons.1 hQr).1 x hx
    have h2 := hQn q.c List.mem_cons_self
    have h3 := ct_c3.anti q.c c
    have h4 := ct_c3.anti x c
    have := ct_c3.le_lt (x := c) (y := q.c) (z := x) (by omega) h1
    omega
  unfold putL
  rw [eg, ← ep]
  cases hQ : Q with
  | nil =>
    exact ⟨(fun _ => rfl), (fun q h => by cases h)⟩
  | cons q Q' =>
    have hb := beh q Q' hQ
    have hf : (Q'.map Nd.c).filter (fun x => decide (0 < CT.cmp x c)) = Q'.map Nd.c := List.filter_eq_self.2 fun x hx => decide_eq_true (hb x hx)
    by_cases z : CT.cmp q.c c = 0
    · have e1 : hereN (q :: Q') c = some q := if_pos z
      rw [e1]
      refine ⟨(fun h => by cases h), fun q2 h => ?_⟩
      cases h
      refine ⟨Q', rfl, z, ?_⟩
      rw [List.map_cons, List.filter_cons, if_neg (by rw [decide_eq_true_iff]; omega), hf]
    · have e1 : hereN (q :: Q') c = none := if_neg z
      have hq := hQn q.c (by rw [hQ, List.map_cons]; exact List.mem_cons_self)
      rw [e1]
      refine ⟨fun _ => ?_, (fun q2 h => by cases h)⟩
      rw [List.map_cons, List.filter_cons, if_pos (decide_eq_true (by omega)), hf]
theorem setRow_ne {w : World} {g k : Nat} {xs : Array Value} (h : k ≠ g) : (w.setRow g xs).heap[k]? = w.heap[k]? := by
  simp only [World.setRow, Array.getElem?_modify]
  rw [if_neg (fun e => h e.symm)]
theorem pus_start {w w6 : World} {c : CT} {xs zs : Array Value} (h1 : Below (w.heap.size + 1) (w.alloc (.cells c.e.toArray 28)) w6) :
    PuS w ((w6.alloc (.cells zs 107)).setRow w6.heap.size xs) w.heap.size w6.heap.size c xs := by
  have hz := h1.size
  rw [World.size_alloc] at hz
  have k6 := (Blk.new w 28 c.e.toArray).keep h1 (by omega)
  have k7 := k6.keep (below_new w6 (.cells zs 107)) k6.lt
  have b7 := ((below_new w (.cells c.e.toArray 28)).trans (h1.mono (by omega))).trans ((below_new w6 (.cells zs 107)).mono (by omega))
  refine ⟨b7.trans ⟨rfl, rfl, rfl, by simp, fun k hk => setRow_ne (by omega)⟩, (setRow_ne (by omega)).trans k7, setRow_heap _ _ zs _ _ (0, 0) (Blk.new w6 _ _)⟩
/-- Where Put is, once it writes. -/
structure Pu8 (w W : World) (B mb cb pb : Nat) (c : CT) (xs : Array Value) (hd : Nd) (L : List Nd) (n b : Int) : Prop where
  c : Blk W cb 28 c.e.toArray
  p : Blk W pb 107 xs
  m : Blk W mb 105 #[.pointer (some ⟨hd.b, 0, none⟩), .int .i64 n, .int .i64 b]
  sk : Sk W B hd L
  fr : KT memTs B w W
  lo : B ≤ mb
  sz : B ≤ W.heap.size
section
variable {w W W' : World} {B mb cb pb : Nat} {c : CT} {xs : Array Value} {hd : Nd} {L : List Nd} {n b : Int}
theorem Pu8.below (h : Pu8 w W B mb cb pb c xs hd L n b) (hb : Below W.heap.size W W') : Pu8 w W' B mb cb pb c xs hd L n b :=
  ⟨h.c.keep hb h.c.lt, h.p.keep hb h.p.lt, h.m.keep hb h.m.lt, h.sk.below hb, h.fr.trans (KT.of_below hb h.sz), h.lo, Nat.le_trans h.sz hb.size⟩
theorem Pu8.turn (h : Pu8 w W B mb cb pb c xs hd L n b) {n' b' : Int} (hb : But W.heap.size mb W W') (hm : Blk W' mb 105 #[.pointer (some ⟨hd.b, 0, none⟩), .int .i64 n', .int .i64 b']) : Pu8 w W' B mb cb pb c xs hd L n' b' :=
  ⟨(hb.block _ h.c.lt (blk_ne h.c h.m (by decide))).trans h.c, (hb.block _ h.p.lt (blk_ne h.p h.m (by decide))).trans h.p, hm, h.sk.other h.m (by decide) (fun k hk hne => hb.block k hk hne), h.fr.trans (KT.of_but h.m (by decide) hb h.lo h.sz), h.lo, Nat.le_trans h.sz hb.size⟩
theorem Pu8.set1 (h : Pu8 w W B mb cb pb c xs hd L n b) (n' : Int) : Pu8 w (W.setCell ⟨mb, 1, none⟩ (.int .i64 n')) B mb cb pb c xs hd L n' b := h.turn ((But.refl _ _ _).setCell 1 _) (h.m.set 1 _)
theorem Pu8.set2 (h : Pu8 w W B mb cb pb c xs hd L n b) (b' : Int) : Pu8 w (W.setCell ⟨mb, 2, none⟩ (.int .i64 b')) B mb cb pb c xs hd L n b' := h.turn ((But.refl _ _ _).setCell 2 _) (h.m.set 2 _)
theorem Pu8.added (h : Pu8 w W B mb cb pb c xs hd L n b) {L' : List Nd} (hs : Sk W' B hd L') (hk : KT [103, 100] B W W') : Pu8 w W' B mb cb pb c xs hd L' n b :=
  ⟨hk.k _ _ _ h.c (by decide), hk.k _ _ _ h.p (by decide), hk.k _ _ _ h.m (by decide), hs, h.fr.trans (hk.mono (by decide)), h.lo, Nat.le_trans h.sz hk.b.size⟩
theorem Pu8.recell {q : Nd} {P Q : List Nd} (h : Pu8 w W B mb cb pb c xs hd (P ++ q :: Q) n b) (hb : But W.heap.size q.b W W') (hq : Blk W' q.b 103 (c.e ++ [q.s]).toArray) : Pu8 w W' B mb cb pb c xs hd (P ++ ⟨q.b, c, q.g, q.cap, q.h⟩ :: Q) n b := by
  obtain ⟨R, hR⟩ := h.sk.ch.mem (n := q) (by simp)
  have hqb := hR.blk
  exact ⟨(hb.block _ h.c.lt (blk_ne h.c hqb (by decide))).trans h.c, (hb.block _ h.p.lt (blk_ne h.p hqb (by decide))).trans h.p, (hb.block _ h.m.lt (blk_ne h.m hqb (by decide))).trans h.m, h.sk.recell (fun k hk hne => hb.block k hk hne) hq, h.fr.trans (KT.of_but hqb (by decide) hb hR.lo h.sz), h.lo, Nat.le_trans h.sz hb.size⟩
/-- The end: the table stands. -/
theorem Pu8.done (h : Pu8 w W B mb cb pb c xs hd L n b) {l' : List CT} (hn : n = (l'.length : Int)) (hb : b = (bytesL l' : Int)) (hc : L.map Nd.c = l') (hr : l'.Pairwise (fun x y => CT.cmp x y < 0)) (ho : ∀ c ∈ l', c.ok = true ∧ okC c ∧ c.s.size ≤ 1000) : MemOf W B mb l' := by
  subst hn hb
  exact ⟨hd, L, h.lo, h.m, h.sk, hc, hr, ho⟩
/-- Eight words are stored at a block's beginning. -/
theorem sets8 {g : Nat} {T : TypeId} {v0 v1 v2 v3 v4 v5 v6 v7 v8 x0 x1 x2 x3 x4 x5 x6 x7 : Value} (h : Blk W g T #[v0, v1, v2, v3, v4, v5, v6, v7, v8]) :
    Blk ((((((((W.setCell ⟨g, 0, none⟩ x0).setCell ⟨g, 1, none⟩ x1).setCell ⟨g, 2, none⟩ x2).setCell ⟨g, 3, none⟩ x3).setCell ⟨g, 4, none⟩ x4).setCell ⟨g, 5, none⟩ x5).setCell ⟨g, 6, none⟩ x6).setCell ⟨g, 7, none⟩ x7) g T #[x0, x1, x2, x3, x4, x5, x6, x7, v8] ∧
    But W.heap.size g W ((((((((W.setCell ⟨g, 0, none⟩ x0).setCell ⟨g, 1, none⟩ x1).setCell ⟨g, 2, none⟩ x2).setCell ⟨g, 3, none⟩ x3).setCell ⟨g, 4, none⟩ x4).setCell ⟨g, 5, none⟩ x5).setCell ⟨g, 6, none⟩ x6).setCell ⟨g, 7, none⟩ x7) := by
  have m0 : Blk _ g T #[x0, v1, v2, v3, v4, v5, v6, v7, v8] := h.set 0 x0
  have m1 : Blk _ g T #[x0, x1, v2, v3, v4, v5, v6, v7, v8] := m0.set 1 x1
  have m2 : Blk _ g T #[x0, x1, x2, v3, v4, v5, v6, v7, v8] := m1.set 2 x2
  have m3 : Blk _ g T #[x0, x1, x2, x3, v4, v5, v6, v7, v8] := m2.set 3 x3
  have m4 : Blk _ g T #[x0, x1, x2, x3, x4, v5, v6, v7, v8] := m3.set 4 x4
  have m5 : Blk _ g T #[x0, x1, x2, x3, x4, x5, v6, v7, v8] := m4.set 5 x5
  have m6 : Blk _ g T #[x0, x1, x2, x3, x4, x5, x6, v7, v8] := m5.set 6 x6
  have m7 : Blk _ g T #[x0, x1, x2, x3, x4, x5, x6, x7, v8] := m6.set 7 x7
  exact ⟨m7, (((((((((But.refl _ _ _).setCell 0 x0).setCell 1 x1).setCell 2 x2).setCell 3 x3).setCell 4 x4).setCell 5 x5).setCell 6 x6).setCell 7 x7)⟩
end

end Go.Proofs.YtdjaofbjmnmlbaaDoor

/- (*mem.Mem).Put. Conditions: the table stands, and has less than a million cells and a thousand million bytes; the cell's texts are no longer than any are; the tables of utf8 read as they are laid. -/
namespace Go.Proofs.YtdjaofbjmnmlbaaDoor
open Go.RowKit

set_option maxRecDepth 100000 in
set_option maxHeartbeats 4000000 in
theorem put_no (mb : Nat) (c : CT) (w : World) (hc : okC c) (hok : c.ok = false) (hL : LaidU w) :
    Calls Tryd.prog 35 #[.pointer (some ⟨mb, 0, none⟩), c.v] w fun e w' => e = .returned (.bool false) ∧ Below w.heap.size w w' := by
  have HE : Hid (∀ W, Below w.heap.size w W → Calls Tryd.prog 55 #[c.v] W fun e w' => e = .returned (.tuple #[.slice none 0 0, .bool false]) ∧ Below W.heap.size W w') := fun W hb => enc_no c hc hok W (hL.below hb)
  clear hL
  go_enter Tryd.func35, Tryd.ntmps35
  go_wp2_with (go_at_call 55; refine (HE.out _ (below_new w _)).mono ?_; rintro e w5 ⟨rfl, hb5⟩)
  go_ret
  exact ⟨rfl, (below_new w _).trans (hb5.mono (by simp))⟩

set_option maxRecDepth 100000 in
set_option maxHeartbeats 8000000 in
theorem put_yes (mb : Nat) (l : List CT) (c : CT) (B : Nat) (w : World) (h : MemOf w B mb l) (hc : okC c) (hcs : c.s.size ≤ 1000) (hok : c.ok = true) (hL : LaidU w) (hB : B ≤ w.heap.size) (hlen : l.length ≤ 1000000) (hby : bytesL l ≤ 1000000000) (hel : encL c ≤ 1000000) :
    Calls Tryd.prog 35 #[.pointer (some ⟨mb, 0, none⟩), c.v] w fun e w' => e = .returned (.bool true) ∧ MemOf w' B mb (putL l c) ∧ KT memTs B w w' := by
  have mixed : Tryd.prog.follows .mixedOrders = true := by kernel_rfl
  obtain ⟨hd, L, h⟩ := h
  obtain ⟨P, Q, rfl, hP, hQ, ep, eq⟩ := h.part c
  have HM := hid h
  have HE : Hid (∀ W, Below w.heap.size w W → Calls Tryd.prog 55 #[c.v] W fun e w' => ∃ g cap, e = .returned (.tuple #[.slice (some ⟨g, 0, none⟩) (encL c) cap, .bool true]) ∧ Below W.heap.size W w') := fun W hb => enc_yes c hc hok W (hL.below hb)
  have HFi : Hid (∀ W, Below w.heap.size w W → Calls Tryd.prog 81 #[.pointer (some ⟨mb, 0, none⟩), c.v] W fun e w' => ∃ xs : Array Value, e = .returned (.agg xs) ∧ xs.size = 32 ∧ (∀ j, j < 32 → xs[j]? = some (lastH hd P j).p) ∧ Below W.heap.size W w') := fun W hb => find_any mb hd P Q c B W ((h.below hb).blk.cell 0) (h.below hb).sk hP hQ
  have HAt : Hid (∀ (W : World) (pb : Nat) (xs : Array Value), Below w.heap.size w W → Blk W pb 107 xs → (∀ j, j < 32 → xs[j]? = some (lastH hd P j).p) → Calls Tryd.prog 82 #[.pointer (some ⟨pb, 0, none⟩), c.v] W fun e w' => e = .returned (ptrO (hereN Q c)) ∧ Below W.heap.size W w') := fun W pb xs hb hp hx => at_any pb xs hd P Q c B W hp (hx 0 (by omega)) (h.below hb).sk
  have HOw : Hid (∀ W, Calls Tryd.prog 83 #[c.v] W fun e w' => e = .returned c.v ∧ Below W.heap.size W w') := fun W => own_any c (by have := ok_small hok; omega) (by have := ok_small hok; omega) (by have := ok_small hok; omega) (by omega) W
  have HC0 : Hid (∀ W, Below (w.heap.size + 1) (w.alloc (.cells c.e.toArray 28)) W → W.cell? ⟨w.heap.size, 0, none⟩ = some (.string c.r) ∧ W.cell? ⟨w.heap.size, 1, none⟩ = some (.string c.f) ∧ W.cell? ⟨w.heap.size, 2, none⟩ = some (.string c.q) ∧ W.cell? ⟨w.heap.size, 3, none⟩ = some (.int .i64 c.t) ∧ W.cell? ⟨w.heap.size, 4, none⟩ = some (.int .i64 c.k) ∧ W.cell? ⟨w.heap.size, 5, none⟩ = some (.int .i64 c.vk) ∧ W.cell? ⟨w.heap.size, 6, none⟩ = some (.int .i64 c.vn) ∧ W.cell? ⟨w.heap.size, 7, none⟩ = some (.string c.s)) := fun W hb => by
    have k := (Blk.new w 28 c.e.toArray).keep hb (by omega)
    exact ⟨k.cell 0, k.cell 1, k.cell 2, k.cell 3, k.cell 4, k.cell 5, k.cell 6, k.cell 7⟩
  have HKc : Hid (∀ W, Below (w.heap.size + 1) (w.alloc (.cells c.e.toArray 28)) W → Blk W w.heap.size 28 c.e.toArray) := fun W hb => (Blk.new w 28 c.e.toArray).keep hb (by omega)
  have hi102 : (Tryd.prog.info? 107).map (·.size) = some 32 := by kernel_rfl
  have HQe : Hid (∀ q ∈ Q, q.c.ok = true ∧ okC q.c ∧ q.c.s.size ≤ 1000) := fun q hq => h.ok q.c (by rw [← h.cs]; exact List.mem_map_of_mem (List.mem_append_right _ hq))
  have HL := hid hL
  have HS := hid (put_split h.rise ep eq)
  have hlt := h.blk.lt
  have hBm := h.lo
  have hlen2 : l.length = P.length + Q.length := by rw [← h.cs]; simp
  have hby2 : bytesL l = bytesL (P.map Nd.c) + bytesL (Q.map Nd.c) := by rw [← h.cs, List.map_append, bytes_app]
  have hokl : Hid (∀ x ∈ putL l c, x.ok = true ∧ okC x ∧ x.s.size ≤ 1000) := fun x hx => by
    rcases putL_mem hx with rfl | hx
    · exact ⟨hok, hc, hcs⟩
    · exact h.ok x hx
  have HRi := hid (putL_rise c h.rise)
  have HB2 := hid hby2
  have HL2 := hid hlen2
  clear hby2 hlen2
  clear hL hP hQ ep eq h hc
  go_enter Tryd.func35, Tryd.ntmps35
  go_upto_region 5 with (first
    | (go_at_call 55; refine (HE.out _ (below_new w _)).mono ?_; rintro e w5 ⟨g0, k0, rfl, hb5⟩; have B5 := hid (hb5.mono (by simp) : Below (w.heap.size + 1) (w.alloc _) w5); obtain ⟨q0, q1, q2, q3, q4, q5, q6, q7⟩ := HC0.out w5 B5.out; clear hb5)
    | (go_at_call 81; refine (HFi.out _ ((below_new w _).trans (B5.out.mono (by omega)))).mono ?_; rintro e w6 ⟨xs, rfl, hxl, hxs, hb6⟩; have B6 := hid (B5.out.trans (hb6.mono (by have := B5.out.size; simp at this; omega))); have HXs := hid hxs; have hone : xs.all (·.oneCell') = true := paths_one hxl hxs; clear hb6 hxs q0 q1 q2 q3 q4 q5 q6 q7)
    | (refine wpList_store_row rfl 107 (.tmp 7) (.tmp 20) rfl w6.heap.size xs rfl rfl 107 (Array.replicate 32 (.pointer none)) (Blk.new w6 _ _) (by rw [hxl]; exact hi102) (by simp [hxl]) hone ?_))
  refine wp_ltc (fun W => Hid (PuS w W w.heap.size w6.heap.size c xs)) (pus_start B6.out) (fun W HPu => ?_)
  obtain ⟨pb, hpb⟩ : ∃ pb, w6.heap.size = pb := ⟨_, rfl⟩
  rw [hpb] at HPu ⊢
  clear hpb B5 B6 HFi HE HC0 HKc
  have c0 : W.cell? ⟨w.heap.size, 0, none⟩ = some (.string c.r) := HPu.out.c.cell 0
  have c1 : W.cell? ⟨w.heap.size, 1, none⟩ = some (.string c.f) := HPu.out.c.cell 1
  have c2 : W.cell? ⟨w.heap.size, 2, none⟩ = some (.string c.q) := HPu.out.c.cell 2
  have c3 : W.cell? ⟨w.heap.size, 3, none⟩ = some (.int .i64 c.t) := HPu.out.c.cell 3
  have c4 : W.cell? ⟨w.heap.size, 4, none⟩ = some (.int .i64 c.k) := HPu.out.c.cell 4
  have c5 : W.cell? ⟨w.heap.size, 5, none⟩ = some (.int .i64 c.vk) := HPu.out.c.cell 5
  have c6 : W.cell? ⟨w.heap.size, 6, none⟩ = some (.int .i64 c.vn) := HPu.out.c.cell 6
  have c7 : W.cell? ⟨w.heap.size, 7, none⟩ = some (.string c.s) := HPu.out.c.cell 7
  go_upto_region 6 with (go_at_call 82; refine (HAt.out _ _ _ HPu.out.b HPu.out.p HXs.out).mono ?_; rintro e w7 ⟨rfl, hb7⟩)
  have HPu7 : Hid (PuS w w7 w.heap.size pb c xs) := HPu.out.below hb7
  clear HPu HAt hb7 c0 c1 c2 c3 c4 c5 c6 c7
  have HP7 : Hid (Pu8 w w7 B mb w.heap.size pb c xs hd (P ++ Q) (l.length : Int) (bytesL l : Int)) := by
    have h7 := HM.out.below HPu7.out.b
    exact ⟨HPu7.out.c, HPu7.out.p, h7.blk, h7.sk, KT.of_below HPu7.out.b hB, h7.lo, Nat.le_trans hB HPu7.out.b.size⟩
  have hL7 := HL.out.below HPu7.out.b
  have HL7 := hid hL7
  clear hL7 HL HPu7 HM
  cases hq : hereN Q c with
  | none =>
    have hS := HS.out.1 hq
    have HSp := hid hS
    have m1 : w7.cell? ⟨mb, 1, none⟩ = some (.int .i64 (l.length : Int)) := HP7.out.m.cell 1
    have f1 : w7.frozen? ⟨mb, 1, none⟩ = false := HP7.out.m.free 1
    have hwl : IntKind.i64.wrap ((l.length : Int) + 1) = (l.length : Int) + 1 := by rw [IntKind.wrap_i64]; omega
    have hwb : IntKind.i64.wrap ((bytesL l : Int) + (encL c : Int)) = (bytesL l : Int) + (encL c : Int) := by rw [IntKind.wrap_i64]; omega
    clear hq hS HS HQe HL7
    dsimp only [ptrO]
    go_upto_region 11 with (fail)
    refine wp_ltc (fun W => Hid (Pu8 w W B mb w.heap.size pb c xs hd (P ++ Q) ((l.length : Int) + 1) (bytesL l : Int))) (HP7.out.set1 _) (fun W8 HP8 => ?_)
    clear HP7 m1 f1
    have c0 : W8.cell? ⟨w.heap.size, 0, none⟩ = some (.string c.r) := HP8.out.c.cell 0
    have c1 : W8.cell? ⟨w.heap.size, 1, none⟩ = some (.string c.f) := HP8.out.c.cell 1
    have c2 : W8.cell? ⟨w.heap.size, 2, none⟩ = some (.string c.q) := HP8.out.c.cell 2
    have c3 : W8.cell? ⟨w.heap.size, 3, none⟩ = some (.int .i64 c.t) := HP8.out.c.cell 3
    have c4 : W8.cell? ⟨w.heap.size, 4, none⟩ = some (.int .i64 c.k) := HP8.out.c.cell 4
    have c5 : W8.cell? ⟨w.heap.size, 5, none⟩ = some (.int .i64 c.vk) := HP8.out.c.cell 5
    have c6 : W8.cell? ⟨w.heap.size, 6, none⟩ = some (.int .i64 c.vn) := HP8.out.c.cell 6
    have c7 : W8.cell? ⟨w.heap.size, 7, none⟩ = some (.string c.s) := HP8.out.c.cell 7
    have HAd : Hid (∀ W, Pu8 w W B mb w.heap.size pb c xs hd (P ++ Q) ((l.length : Int) + 1) (bytesL l : Int) → Calls Tryd.prog 84 #[.pointer (some ⟨pb, 0, none⟩), c.v] W fun e w' => e = .returned (.tuple #[]) ∧ (∃ L', Sk w' B hd L' ∧ L'.map Nd.c = P.map Nd.c ++ c :: Q.map Nd.c) ∧ KT [103, 100] B W w') := fun W hW => add_any pb xs hd P Q c B W hW.p HXs.out hW.sk hW.sz
    go_wp2_with (first
      | (go_at_call 83; refine (HOw.out _).mono ?_; rintro e w9 ⟨rfl, hb9⟩; have HP9 := hid (HP8.out.below hb9); clear hb9 HP8 c0 c1 c2 c3 c4 c5 c6 c7)
      | (go_at_call 84; refine (HAd.out _ HP9.out).mono ?_; rintro e w10 ⟨rfl, ⟨L', hs', hc'⟩, hk'⟩; have HP10 := hid (HP9.out.added hs' hk'); have HCs := hid hc'; have m2 : w10.cell? ⟨mb, 2, none⟩ = some (.int .i64 (bytesL l : Int)) := HP10.out.m.cell 2; have f2 : w10.frozen? ⟨mb, 2, none⟩ = false := HP10.out.m.free 2; clear HP9 hs' hc' hk'))
    go_ret
    have hE := HP10.out.set2 ((bytesL l : Int) + (encL c : Int))
    refine ⟨rfl, ?_, hE.fr⟩
    refine hE.done (l' := putL l c) ?_ ?_ (HCs.out.trans HSp.out.symm) HRi.out hokl.out
    · rw [HSp.out, HL2.out]; simp; omega
    · rw [HSp.out, bytes_put, HB2.out]; omega
  | some q =>
    obtain ⟨Q', rfl, hz, hS⟩ := HS.out.2 q hq
    have HSp := hid hS
    obtain ⟨R1, hqN⟩ := HP7.out.sk.ch.mem (n := q) (by simp)
    have HqN := hid hqN
    obtain ⟨y0, y1, y2, y3, y4, y5, y6, y7, _⟩ := hqN.words
    have hq1 := HQe.out q List.mem_cons_self
    have HEq := hid (enc_yes q.c hq1.2.1 hq1.1 w7 HL7.out)
    have hbq : (encL q.c : Int) ≤ (bytesL l : Int) := by
      rw [HB2.out]
      unfold bytesL
      simp
      omega
    have hwb1 : IntKind.i64.wrap ((bytesL l : Int) - (encL q.c : Int)) = (bytesL l : Int) - (encL q.c : Int) := by rw [IntKind.wrap_i64]; omega
    have hwb2 : IntKind.i64.wrap ((bytesL l : Int) - (encL q.c : Int) + (encL c : Int)) = (bytesL l : Int) - (encL q.c : Int) + (encL c : Int) := by rw [IntKind.wrap_i64]; omega
    clear hq hS HS HQe HL7 hqN hz hq1 hbq
    dsimp only [ptrO]
    unfold Nd.p
    go_upto_region 9 with (go_at_call 55; refine HEq.out.mono ?_; rintro e w8 ⟨g1, k1, rfl, hb8⟩; have HP8 := hid (HP7.out.below hb8); have HqN8 := hid (HqN.out.keep (hb8.block _ HqN.out.blk.lt) (hb8.block _ HqN.out.g_lt.2) (fun _ _ => rfl)); have m2 : w8.cell? ⟨mb, 2, none⟩ = some (.int .i64 (bytesL l : Int)) := HP8.out.m.cell 2; have f2 : w8.frozen? ⟨mb, 2, none⟩ = false := HP8.out.m.free 2; clear hb8 HP7 y0 y1 y2 y3 y4 y5 y6 y7)
    refine wp_ltc (fun W => Hid (Pu8 w W B mb w.heap.size pb c xs hd (P ++ q :: Q') (l.length : Int) ((bytesL l : Int) - (encL q.c : Int)))) (HP8.out.set2 _) (fun W9 HP9 => ?_)
    clear HP8 HqN8 HqN m2 f2 HEq
    obtain ⟨R2, hq9⟩ := HP9.out.sk.ch.mem (n := q) (by simp)
    have HQ9 := hid hq9
    clear hq9
    have c0 : W9.cell? ⟨w.heap.size, 0, none⟩ = some (.string c.r) := HP9.out.c.cell 0
    have c1 : W9.cell? ⟨w.heap.size, 1, none⟩ = some (.string c.f) := HP9.out.c.cell 1
    have c2 : W9.cell? ⟨w.heap.size, 2, none⟩ = some (.string c.q) := HP9.out.c.cell 2
    have c3 : W9.cell? ⟨w.heap.size, 3, none⟩ = some (.int .i64 c.t) := HP9.out.c.cell 3
    have c4 : W9.cell? ⟨w.heap.size, 4, none⟩ = some (.int .i64 c.k) := HP9.out.c.cell 4
    have c5 : W9.cell? ⟨w.heap.size, 5, none⟩ = some (.int .i64 c.vk) := HP9.out.c.cell 5
    have c6 : W9.cell? ⟨w.heap.size, 6, none⟩ = some (.int .i64 c.vn) := HP9.out.c.cell 6
    have c7 : W9.cell? ⟨w.heap.size, 7, none⟩ = some (.string c.s) := HP9.out.c.cell 7
    go_upto_region 12 with (go_at_call 83; refine (HOw.out _).mono ?_; rintro e w10 ⟨rfl, hb10⟩; have HP10 := hid (HP9.out.below hb10); have hk10 := HQ9.out.keep (R' := R2) (hb10.block _ HQ9.out.blk.lt) (hb10.block _ HQ9.out.g_lt.2) (fun _ _ => rfl); have HK10 := hid hk10.blk; obtain ⟨z0, z1, z2, z3, z4, z5, z6, z7, _⟩ := hk10.words; have zf0 : w10.frozen? ⟨q.b, 0, none⟩ = false := hk10.blk.free 0; have zf1 : w10.frozen? ⟨q.b, 1, none⟩ = false := hk10.blk.free 1; have zf2 : w10.frozen? ⟨q.b, 2, none⟩ = false := hk10.blk.free 2; have zf3 : w10.frozen? ⟨q.b, 3, none⟩ = false := hk10.blk.free 3; have zf4 : w10.frozen? ⟨q.b, 4, none⟩ = false := hk10.blk.free 4; have zf5 : w10.frozen? ⟨q.b, 5, none⟩ = false := hk10.blk.free 5; have zf6 : w10.frozen? ⟨q.b, 6, none⟩ = false := hk10.blk.free 6; have zf7 : w10.frozen? ⟨q.b, 7, none⟩ = false := hk10.blk.free 7; clear hk10 hb10 HP9 c0 c1 c2 c3 c4 c5 c6 c7)
    have hs8 := sets8 (x0 := .string c.r) (x1 := .string c.f) (x2 := .string c.q) (x3 := .int .i64 c.t) (x4 := .int .i64 c.k) (x5 := .int .i64 c.vk) (x6 := .int .i64 c.vn) (x7 := .string c.s) HK10.out
    refine wp_ltc (fun W => Hid (Pu8 w W B mb w.heap.size pb c xs hd (P ++ ⟨q.b, c, q.g, q.cap, q.h⟩ :: Q') (l.length : Int) ((bytesL l : Int) - (encL q.c : Int)))) (HP10.out.recell hs8.2 hs8.1) (fun W11 HP11 => ?_)
    clear hs8 HP10 HK10 z0 z1 z2 z3 z4 z5 z6 z7 zf0 zf1 zf2 zf3 zf4 zf5 zf6 zf7
    have m2 : W11.cell? ⟨mb, 2, none⟩ = some (.int .i64 ((bytesL l : Int) - (encL q.c : Int))) := HP11.out.m.cell 2
    have f2 : W11.frozen? ⟨mb, 2, none⟩ = false := HP11.out.m.free 2
    go_wp2
    go_ret
    have hE := HP11.out.set2 ((bytesL l : Int) - (encL q.c : Int) + (encL c : Int))
    refine ⟨rfl, ?_, hE.fr⟩
    refine hE.done (l' := putL l c) ?_ ?_ ?_ HRi.out hokl.out
    · rw [HSp.out, HL2.out]; simp
    · rw [HSp.out, bytes_put, HB2.out]
      unfold bytesL
      simp
      omega
    · rw [HSp.out]; simp
end Go.Proofs.YtdjaofbjmnmlbaaDoor

/- (*mem.Mem).Get. Conditions: the table stands. -/
namespace Go.Proofs.YtdjaofbjmnmlbaaDoor
open Go.RowKit

/-- What Get answers. -/
def getL (l : List CT) (c : CT) : Option CT := l.find? (fun x => decide (CT.cmp x c = 0))
theorem get_split {l : List CT} {c : CT} {P Q : List Nd} (hr : l.Pairwise (fun x y => CT.cmp x y < 0)) (hl : (P ++ Q).map Nd.c = l) (hP : ∀ n ∈ P, CT.cmp n.c c < 0) (eq : Q.map Nd.c = l.filter (fun x => !decide (CT.cmp x c < 0))) : getL l c = (hereN Q c).map Nd.c := by
  unfold getL
  have e : l = P.map Nd.c ++ Q.map Nd.c := by rw [← hl, List.map_append]
  have hQr : (Q.map Nd.c).Pairwise (fun x y => CT.cmp x y < 0) := by rw [eq]; exact hr.filter _
  have hQn : ∀ x ∈ Q.map Nd.c, ¬ CT.cmp x c < 0 := fun x hx z => by
    rw [eq] at hx
    have := (List.mem_filter.1 hx).2
    rw [decide_eq_true z] at this
    cases this
  rw [e, List.find?_append, List.find?_eq_none.2 (fun x hx => by
    obtain ⟨n, hn, rfl⟩ := List.mem_map.1 hx
    have := hP n hn
    rw [decide_eq_true_iff]
    omega), Option.none_or]
  cases hQ : Q with
  | nil => rfl
  | cons q Q' =>
    rw [hQ, List.map_cons] at hQr hQn
    by_cases z : CT.cmp q.c c = 0
    · have e1 : hereN (q :: Q') c = some q := if_pos z
      rw [e1, List.map_cons]
      exact List.find?_cons_of_pos (decide_eq_true z)
    · have e1 : hereN (q :: Q') c = none := if_neg z
      rw [e1]
      refine List.find?_eq_none.2 fun x hx => ?_
      rw [decide_eq_true_iff]
      rcases List.mem_cons.1 hx with rfl | hx
      · exact z
      · have h1 := (List.pairwise_cons.1 hQr).1 x hx
        have h2 := hQn q.c List.mem_cons_self
        have h3 := ct_c3.anti q.c c
        have h4 := ct_c3.anti x c
        have := ct_c3.le_lt (x := c) (y := q.c) (z := x) (by omega) h1
        omega

theorem results_cell_tmp_row {P : Program} {fn : Func} {p u : Tmp} {ty : TypeId} (h : fn.results = #[.cell p ty, .tmp u]) (tmps : Array Value) (w : World) (g : Nat) (t : TypeId) (cs : Array Value) (d : TypeDesc) (hp : tmps.getD p undef = .pointer (some ⟨g, 0, none⟩)) (hg : Blk w g t cs)
    (hu : P.underlying ty = some d) (hd : (match d with | .struct _ | .array _ _ => true | _ => false) = true) (hi : (P.info? ty).map (·.size) = some cs.size) (b : Value) (hb : tmps.getD u undef = b) :
    (results fn tmps).run P w = .ok (.tuple #[.agg cs, b]) w := by
  rw [results_cell_tmp h, hp, hb]
  simp [asAddr, run_loadVar_row w g t ty cs (0, 0) d hg hu hd hi, Result.andThen]
/-- A row of a block is stored: below it all is as it was. -/
theorem below_row {w W : World} {g : Nat} {xs : Array Value} (h : Below w.heap.size w W) (hg : w.heap.size ≤ g) : Below w.heap.size w (W.setRow g xs) := h.trans ⟨rfl, rfl, rfl, by simp, fun k hk => setRow_ne (by omega)⟩

set_option maxRecDepth 100000 in
set_option maxHeartbeats 4000000 in
theorem get_any (mb : Nat) (l : List CT) (c : CT) (B : Nat) (w : World) (h : MemOf w B mb l) :
    Calls Tryd.prog 38 #[.pointer (some ⟨mb, 0, none⟩), c.v] w fun e w' => e = .returned (.tuple #[((getL l c).getD default).v, .bool (getL l c).isSome]) ∧ Below w.heap.size w w' := by
  have mixed : Tryd.prog.follows .mixedOrders = true := by kernel_rfl
  obtain ⟨hd, L, h⟩ := h
  obtain ⟨P, Q, rfl, hP, hQ, ep, eq⟩ := h.part c
  have HG := hid (get_split h.rise h.cs hP eq)
  have HM := hid h
  have HFi : Hid (∀ W, Below w.heap.size w W → Calls Tryd.prog 81 #[.pointer (some ⟨mb, 0, none⟩), c.v] W fun e w' => ∃ xs : Array Value, e = .returned (.agg xs) ∧ xs.size = 32 ∧ (∀ j, j < 32 → xs[j]? = some (lastH hd P j).p) ∧ Below W.heap.size W w') := fun W hb => find_any mb hd P Q c B W ((h.below hb).blk.cell 0) (h.below hb).sk hP hQ
  have HAt : Hid (∀ (W : World) (pb : Nat) (xs : Array Value), Below w.heap.size w W → Blk W pb 107 xs → (∀ j, j < 32 → xs[j]? = some (lastH hd P j).p) → Calls Tryd.prog 82 #[.pointer (some ⟨pb, 0, none⟩), c.v] W fun e w' => e = .returned (ptrO (hereN Q c)) ∧ Below W.heap.size W w') := fun W pb xs hb hp hx => at_any pb xs hd P Q c B W hp (hx 0 (by omega)) (h.below hb).sk
  have hi102 : (Tryd.prog.info? 107).map (·.size) = some 32 := by kernel_rfl
  have hi28 : (Tryd.prog.info? 28).map (·.size) = some 8 := by kernel_rfl
  have HRv : Hid (∃ Rv : Ending, .returned (.tuple #[((getL l c).getD default).v, .bool (getL l c).isSome]) = Rv) := ⟨_, rfl⟩
  obtain ⟨Rv, hRv⟩ := HRv.out
  rw [hRv]
  have HR := hid hRv
  clear hRv HRv hP hQ ep eq h
  have HB0 : Hid (Below w.heap.size w ((w.alloc (.cells c.e.toArray 28)).alloc (.cells (default : CT).e.toArray 28)) ∧ Blk ((w.alloc (.cells c.e.toArray 28)).alloc (.cells (default : CT).e.toArray 28)) w.heap.size 28 c.e.toArray ∧ Blk ((w.alloc (.cells c.e.toArray 28)).alloc (.cells (default : CT).e.toArray 28)) (w.heap.size + 1) 28 (default : CT).e.toArray ∧ ((w.alloc (.cells c.e.toArray 28)).alloc (.cells (default : CT).e.toArray 28)).heap.size = w.heap.size + 1 + 1) := by
    have k1 := Blk.new w 28 c.e.toArray
    have s1 : (w.alloc (.cells c.e.toArray 28)).heap.size = w.heap.size + 1 := World.size_alloc _ _
    have k2 := Blk.new (w.alloc (.cells c.e.toArray 28)) 28 (default : CT).e.toArray
    have b2 := below_new (w.alloc (.cells c.e.toArray 28)) (.cells (default : CT).e.toArray 28)
    rw [s1] at k2
    exact ⟨(below_new w _).trans (b2.mono (by omega)), k1.keep b2 (by omega), k2, by rw [World.size_alloc, s1]⟩
  go_enter Tryd.func38, Tryd.ntmps38
  go_upto_region 1 with (fail)
  refine wp_ltc (fun W => Hid (Below w.heap.size w W ∧ Blk W w.heap.size 28 c.e.toArray ∧ Blk W (w.heap.size + 1) 28 (default : CT).e.toArray ∧ W.heap.size = w.heap.size + 1 + 1)) HB0.out (fun W0 HW0 => ?_)
  clear HB0
  have c0 : W0.cell? ⟨w.heap.size, 0, none⟩ = some (.string c.r) := HW0.out.2.1.cell 0
  have c1 : W0.cell? ⟨w.heap.size, 1, none⟩ = some (.string c.f) := HW0.out.2.1.cell 1
  have c2 : W0.cell? ⟨w.heap.size, 2, none⟩ = some (.string c.q) := HW0.out.2.1.cell 2
  have c3 : W0.cell? ⟨w.heap.size, 3, none⟩ = some (.int .i64 c.t) := HW0.out.2.1.cell 3
  have c4 : W0.cell? ⟨w.heap.size, 4, none⟩ = some (.int .i64 c.k) := HW0.out.2.1.cell 4
  have c5 : W0.cell? ⟨w.heap.size, 5, none⟩ = some (.int .i64 c.vk) := HW0.out.2.1.cell 5
  have c6 : W0.cell? ⟨w.heap.size, 6, none⟩ = some (.int .i64 c.vn) := HW0.out.2.1.cell 6
  have c7 : W0.cell? ⟨w.heap.size, 7, none⟩ = some (.string c.s) := HW0.out.2.1.cell 7
  go_upto_region 2 with (first
    | (go_at_call 81; refine (HFi.out _ HW0.out.1).mono ?_; rintro e w6 ⟨xs, rfl, hxl, hxs, hb6⟩; have B6 := hid hb6; have HXs := hid hxs; have hone : xs.all (·.oneCell') = true := paths_one hxl hxs; clear hb6 hxs c0 c1 c2 c3 c4 c5 c6 c7)
    | (refine wpList_store_row rfl 107 (.tmp 6) (.tmp 10) rfl w6.heap.size xs rfl rfl 107 (Array.replicate 32 (.pointer none)) (Blk.new w6 _ _) (by rw [hxl]; exact hi102) (by simp [hxl]) hone ?_))
  refine wp_ltc (fun W => Hid (Below w.heap.size w W ∧ Blk W w.heap.size 28 c.e.toArray ∧ Blk W (w.heap.size + 1) 28 (default : CT).e.toArray ∧ Blk W w6.heap.size 107 xs)) (by
    have hz := B6.out.size
    obtain ⟨a1, a2, a3, a4⟩ := HW0.out
    have b7 := B6.out.trans ((below_new w6 (.cells (Array.replicate 32 (.pointer none)) 107)).mono hz)
    have b8 : Below W0.heap.size W0 ((w6.alloc (.cells (Array.replicate 32 (.pointer none)) 107)).setRow w6.heap.size xs) := below_row b7 hz
    exact ⟨a1.trans (b8.mono a1.size), a2.keep b8 a2.lt, a3.keep b8 a3.lt, setRow_heap _ _ (Array.replicate 32 (.pointer none)) _ _ (0, 0) (Blk.new w6 _ _)⟩) (fun W1 HW1 => ?_)
  obtain ⟨pb, hpb⟩ : ∃ pb, w6.heap.size = pb := ⟨_, rfl⟩
  rw [hpb] at HW1 ⊢
  clear hpb B6 HW0 HFi
  have c0 : W1.cell? ⟨w.heap.size, 0, none⟩ = some (.string c.r) := HW1.out.2.1.cell 0
  have c1 : W1.cell? ⟨w.heap.size, 1, none⟩ = some (.string c.f) := HW1.out.2.1.cell 1
  have c2 : W1.cell? ⟨w.heap.size, 2, none⟩ = some (.string c.q) := HW1.out.2.1.cell 2
  have c3 : W1.cell? ⟨w.heap.size, 3, none⟩ = some (.int .i64 c.t) := HW1.out.2.1.cell 3
  have c4 : W1.cell? ⟨w.heap.size, 4, none⟩ = some (.int .i64 c.k) := HW1.out.2.1.cell 4
  have c5 : W1.cell? ⟨w.heap.size, 5, none⟩ = some (.int .i64 c.vk) := HW1.out.2.1.cell 5
  have c6 : W1.cell? ⟨w.heap.size, 6, none⟩ = some (.int .i64 c.vn) := HW1.out.2.1.cell 6
  have c7 : W1.cell? ⟨w.heap.size, 7, none⟩ = some (.string c.s) := HW1.out.2.1.cell 7
  go_upto_region 3 with (go_at_call 82; refine (HAt.out _ _ _ HW1.out.1 HW1.out.2.2.2 HXs.out).mono ?_; rintro e w7 ⟨rfl, hb7⟩)
  have H7 : Hid (Below w.heap.size w w7 ∧ Blk w7 (w.heap.size + 1) 28 (default : CT).e.toArray) := ⟨HW1.out.1.trans (hb7.mono HW1.out.1.size), HW1.out.2.2.1.keep hb7 HW1.out.2.2.1.lt⟩
  clear HW1 HAt hb7 c0 c1 c2 c3 c4 c5 c6 c7
  cases hq : hereN Q c with
  | none =>
    have hR := HR.out
    rw [HG.out, hq] at hR
    have HR2 := hid hR
    clear hR hq HR
    dsimp only [ptrO]
    have hone0 : (default : CT).e.toArray.all (·.oneCell') = true := by rw [Array.all_eq_true_iff_forall_mem]; intro u hu; exact (default : CT).e_one u (by simpa using hu)
    go_wp2_with (refine wpList_store_row rfl 28 (.tmp 4) (.tmp 15) rfl (w.heap.size + 1) (default : CT).e.toArray rfl rfl 28 (default : CT).e.toArray H7.out.2 hi28 rfl hone0 ?_)
    refine bodyPost_ret (v := .tuple #[(default : CT).v, .bool false]) (results_cell_tmp_row rfl _ _ (w.heap.size + 1) 28 (default : CT).e.toArray _ rfl (setRow_heap _ _ (default : CT).e.toArray _ _ (0, 0) H7.out.2) Tryd.underlying28 rfl hi28 _ rfl) rfl ?_
    exact ⟨HR2.out, below_row H7.out.1 (by omega)⟩
  | some q =>
    obtain ⟨Q', rfl⟩ : ∃ Q', Q = q :: Q' := by
      cases Q with
      | nil => cases hq
      | cons x Q' =>
        have e1 : hereN (x :: Q') c = if CT.cmp x.c c = 0 then some x else none := rfl
        rw [e1] at hq
        split at hq
        · cases hq; exact ⟨Q', rfl⟩
        · cases hq
    have hR := HR.out
    rw [HG.out, hq] at hR
    have HR2 := hid hR
    obtain ⟨R1, hqN⟩ := (HM.out.below H7.out.1).sk.ch.mem (n := q) (by simp)
    obtain ⟨y0, y1, y2, y3, y4, y5, y6, y7, _⟩ := hqN.words
    have hone0 : q.c.e.toArray.all (·.oneCell') = true := by rw [Array.all_eq_true_iff_forall_mem]; intro u hu; exact q.c.e_one u (by simpa using hu)
    clear hR hq HR hqN
    dsimp only [ptrO]
    unfold Nd.p
    go_wp2_with (refine wpList_store_row rfl 28 (.tmp 4) (.tmp 19) rfl (w.heap.size + 1) q.c.e.toArray rfl rfl 28 (default : CT).e.toArray H7.out.2 hi28 rfl hone0 ?_)
    refine bodyPost_ret (v := .tuple #[q.c.v, .bool true]) (results_cell_tmp_row rfl _ _ (w.heap.size + 1) 28 q.c.e.toArray _ rfl (setRow_heap _ _ (default : CT).e.toArray _ _ (0, 0) H7.out.2) Tryd.underlying28 rfl hi28 _ rfl) rfl ?_
    exact ⟨HR2.out, below_row H7.out.1 (by omega)⟩
end Go.Proofs.YtdjaofbjmnmlbaaDoor

/- cell.Value at every list of cells. Conditions: as cell.Sort's. -/
namespace Go.Proofs.YtdjaofbjmnmlbaaDoor
open Go.RowKit

/-- The first cell of the column in the first row. -/
def valueM (fam qual : ByteArray) (s : List CT) : List CT → Option CT
  | [] => none
  | c :: l => if c.r = (s.getD 0 default).r ∧ c.f = fam ∧ c.q = qual then some c else valueM fam qual s l
def valV : Option CT → Value
  | some c => .tuple #[.agg #[.int .i64 c.vk, .int .i64 c.vn, .string c.s], .bool true]
  | none => .tuple #[.agg #[.int .i64 0, .int .i64 0, .string ⟨#[]⟩], .bool false]
theorem seenL_len (ver life now : Int) (s : List CT) : (seenL ver life now s).length ≤ s.length := by
  unfold seenL
  split
  · exact seenF_len ver life now SG.zero s
  · exact Nat.zero_le _

set_option maxHeartbeats 4000000 in
set_option maxRecDepth 100000 in
theorem cvalue_any (v : Value) (l : List CT) (hl : l.length ≤ 100000) (fam qual : ByteArray) (ver life now : Int) (w : World) (h : ClA w v l) (hok : ∀ c ∈ l, okC c) (hL : LaidU w) :
    Calls Tryd.prog 70 #[v, .string fam, .string qual, .int .i64 ver, .int .i64 life, .int .i64 now] w fun e w' => ∃ s, e = .returned (valV (valueM fam qual s (seenL ver life now s))) ∧ SortOf l s ∧ Below w.heap.size w w' := by
  have mixed : Tryd.prog.follows .mixedOrders = true := by kernel_rfl
  have HS : Hid (∀ W, Below w.heap.size w W → Calls Tryd.prog 25 #[v] W fun e w' => ∃ v' s, e = .returned v' ∧ SortOf l s ∧ CRow w' W.heap.size v' s ∧ Below W.heap.size W w') := fun W hb => sort_any v l hl W (h.below hb) hok (hL.below hb)
  have HSn : Hid (∀ (W : World) (v5 : Value) (s : List CT) (B : Nat), SortOf l s → CRow W B v5 s → Calls Tryd.prog 79 #[v5, .agg #[.int .i64 ver, .int .i64 life, .int .i64 now]] W fun e w' => ∃ v', e = .returned v' ∧ CRow w' W.heap.size v' (seenL ver life now s) ∧ Below W.heap.size W w') := fun W v5 s B h1 h2 => seen_any v5 s (Nat.le_trans h1.len hl) ver life now W h2.cla
  have HB0 : Hid (Below w.heap.size w (w.alloc (.cells #[.int .i64 0, .int .i64 0, .string ⟨#[]⟩] 26))) := below_new _ _
  have HR0 : Hid (Blk (w.alloc (.cells #[.int .i64 0, .int .i64 0, .string ⟨#[]⟩] 26)) w.heap.size 26 #[.int .i64 0, .int .i64 0, .string ⟨#[]⟩]) := Blk.new _ _ _
  clear h hok hL
  go_enter Tryd.func70, Tryd.ntmps70
  go_wp2_with (first
    | (go_at_call 25; refine (HS.out _ HB0.out).mono ?_; rintro e w5 ⟨v5, s5, rfl, hq5, hr5, hb5⟩)
    | (go_at_call 79; refine (HSn.out _ _ _ _ hq5 hr5).mono ?_; rintro e w6 ⟨v6, rfl, hr6, hb6⟩; have K6 := hid hr6.cla; have K5 := hid (hr5.cla.below hb6); have KB := hid ((HR0.out.keep hb5 HR0.out.lt).keep hb6 (Nat.lt_of_lt_of_le HR0.out.lt hb5.size)); have BW := hid (HB0.out.trans ((hb5.mono HB0.out.size).trans (hb6.mono (Nat.le_trans HB0.out.size hb5.size)))); have HL6 := hid (seenL_len ver life now s5); obtain ⟨sl, hsl⟩ : ∃ sl, seenL ver life now s5 = sl := ⟨_, rfl⟩; have HSL := hid hsl; rw [hsl] at K6 HL6; clear hsl hr6 hr5 hb5 hb6; obtain ⟨A6, c6, rfl, hc6, hm6, hh6⟩ := K6.out; obtain ⟨A5, c5, rfl, hc5, hm5, hh5⟩ := K5.out; have HH6 := hid hh6; have HH5 := hid hh5; clear hh6 hh5 K6 K5; obtain ⟨m, hm⟩ : ∃ m, sl.length = m := ⟨_, rfl⟩; have HM := hid hm; obtain ⟨n5, hn5⟩ : ∃ n5, s5.length = n5 := ⟨_, rfl⟩; have HN5 := hid hn5; rw [hm] at hc6 ⊢; rw [hn5] at hc5 ⊢; clear hm hn5))
  obtain ⟨rb, hrb⟩ : ∃ rb, w.heap.size = rb := ⟨_, rfl⟩
  rw [hrb]
  have HRB := hid hrb
  clear hrb
  go_loopw [26] (fun vi wr => ∃ i : Nat, i ≤ m ∧ vi = .int .i64 i ∧ Hid (Below w6.heap.size w6 wr) ∧ Hid (valueM fam qual s5 sl = valueM fam qual s5 (sl.drop i))) (fun vi _ => m - (intOf vi).toNat)
  case atStart => exact ⟨0, Nat.zero_le _, rfl, Below.refl _ _, rfl⟩
  case round =>
    obtain ⟨i, hi, rfl, HB, HV⟩ := hrel
    by_cases hlt : i < m
    · have him : i < sl.length := by rw [HM.out]; exact hlt
      have hltz : (i : Int) < (m : Int) := by omega
      obtain ⟨b, off, rfl, hhc⟩ := HH6.out (by rw [HM.out]; omega)
      have h05 : 0 < s5.length := by have := HL6.out; omega
      have hn50 : (0 : Int) < (n5 : Int) := by have := HN5.out; omega
      obtain ⟨b5, off5, rfl, hhd⟩ := HH5.out h05
      have hbw : b < w6.heap.size := hhc.lt (by omega)
      have hbw5 : b5 < w6.heap.size := hhd.lt h05
      obtain ⟨c, hc⟩ : ∃ c, sl[i] = c := ⟨_, rfl⟩
      obtain ⟨d, hd⟩ : ∃ d, s5[0] = d := ⟨_, rfl⟩
      have HD : Hid (valueM fam qual s5 (sl.drop i) = if c.r = d.r ∧ c.f = fam ∧ c.q = qual then some c else valueM fam qual s5 (sl.drop (i + 1))) := by
        unfold Hid
        rw [List.drop_eq_getElem_cons him, hc]
        show (if c.r = (s5.getD 0 default).r ∧ c.f = fam ∧ c.q = qual then some c else _) = _
        rw [List.getD_eq_getElem?_getD, List.getElem?_eq_getElem h05, hd]
        rfl
      have P : wr.cell? ⟨b, off + i * 8, none⟩ = some (.string c.r) ∧ wr.cell? ⟨b, off + i * 8 + 1, none⟩ = some (.string c.f) ∧ wr.cell? ⟨b, off + i * 8 + 2, none⟩ = some (.string c.q) ∧ wr.cell? ⟨b, off + i * 8 + 3, none⟩ = some (.int .i64 c.t) ∧ wr.cell? ⟨b, off + i * 8 + 4, none⟩ = some (.int .i64 c.k) ∧ wr.cell? ⟨b, off + i * 8 + 5, none⟩ = some (.int .i64 c.vk) ∧ wr.cell? ⟨b, off + i * 8 + 6, none⟩ = some (.int .i64 c.vn) ∧ wr.cell? ⟨b, off + i * 8 + 7, none⟩ = some (.string c.s) := by
        rw [← hc]
        exact (hhc.below HB.out hbw).words i him
      have z0 : Hid (∀ W, Below wr.heap.size wr W → W.cell? ⟨b5, off5, none⟩ = some (.string d.r)) := fun W hW => by
        have := ((hhd.below HB.out hbw5).below hW (Nat.lt_of_lt_of_le hbw5 HB.out.size)).words 0 h05
        rw [Nat.zero_mul, Nat.add_zero, hd] at this
        exact this.1
      obtain ⟨p0, p1, p2, p3, p4, p5, p6, p7⟩ := P
      clear hc hhc hd hhd
      go_upto_region 5 with (fail)
      obtain ⟨bb, hbb⟩ : ∃ bb, wr.heap.size = bb := ⟨_, rfl⟩
      refine wp_ltc (fun W => Hid (Blk W bb 28 c.e.toArray ∧ Below wr.heap.size wr W) ∧ W.cell? ⟨bb, 0, none⟩ = some (.string c.r) ∧ W.cell? ⟨bb, 1, none⟩ = some (.string c.f) ∧ W.cell? ⟨bb, 2, none⟩ = some (.string c.q) ∧ W.cell? ⟨bb, 3, none⟩ = some (.int .i64 c.t) ∧ W.cell? ⟨bb, 4, none⟩ = some (.int .i64 c.k) ∧ W.cell? ⟨bb, 5, none⟩ = some (.int .i64 c.vk) ∧ W.cell? ⟨bb, 6, none⟩ = some (.int .i64 c.vn) ∧ W.cell? ⟨bb, 7, none⟩ = some (.string c.s)) (by rw [← hbb]; have hB := Blk.new wr 28 c.e.toArray; exact ⟨⟨hB, below_new _ _⟩, blk_words hB⟩) (fun W hW => ?_)
      rw [hbb]
      obtain ⟨HW, b0, b1, b2, b3, b4, b5, b6, b7⟩ := hW
      have d0 := z0.out W HW.out.2
      have HB2 : Hid (Below w6.heap.size w6 W) := HB.out.trans (HW.out.2.mono HB.out.size)
      clear p0 p1 p2 p3 p4 p5 p6 p7 hbb HB z0
      by_cases h1 : c.r = d.r
      · have q1 : (c.r.toList == d.r.toList) = true := by rw [h1]; simp
        by_cases h2 : c.f = fam
        · have q2 : (c.f.toList == fam.toList) = true := by rw [h2]; simp
          by_cases h3 : c.q = qual
          · have q3 : (c.q.toList == qual.toList) = true := by rw [h3]; simp
            have HV2 : Hid (valueM fam qual s5 sl = some c) := by
              unfold Hid
              rw [HV.out, HD.out]
              exact if_pos ⟨h1, h2, h3⟩
            have KB2 := KB.out.keep HB2.out KB.out.lt
            rw [HRB.out] at KB2
            have g0 : W.cell? ⟨rb, 0, none⟩ = some (.int .i64 0) := KB2.cell 0
            have g1 : W.cell? ⟨rb, 1, none⟩ = some (.int .i64 0) := KB2.cell 1
            have g2 : W.cell? ⟨rb, 2, none⟩ = some (.string ⟨#[]⟩) := KB2.cell 2
            have gf : ∀ j, W.frozen? ⟨rb, j, none⟩ = false := fun j => KB2.free j
            clear h1 h2 h3 KB2
            go_quiet (fail)
            go_wp2
            try simp only [Exit.inBlock, Exit.then]
            refine bodyPost_ret (v := .tuple #[.agg #[.int .i64 c.vk, .int .i64 c.vn, .string c.s], .bool true]) (by simp [results, Tryd.results70, go_sem, cell_set_same, g0, g1, g2]) rfl ?_
            refine ⟨s5, ?_, hq5, ?_⟩
            · rw [HSL.out, HV2.out]
              rfl
            · have hrb := HRB.out
              exact ((((BW.out.trans (HB2.out.mono BW.out.size)).trans (below_drewN (Below.refl _ _) _)).setCell (p := ⟨rb, 0, none⟩) (Nat.le_of_eq hrb) _).setCell (p := ⟨rb, 1, none⟩) (Nat.le_of_eq hrb) _).setCell (p := ⟨rb, 2, none⟩) (Nat.le_of_eq hrb) _
          · have q3 : (c.q.toList == qual.toList) = false := ba_ne h3
            
            have HV2 : Hid (valueM fam qual s5 sl = valueM fam qual s5 (sl.drop (i + 1))) := by
              unfold Hid
              rw [HV.out, HD.out]
              exact if_neg (fun h => h3 h.2.2)
            
            go_quiet (fail)
            go_wp2
            go_roundw
            case rel => exact ⟨i + 1, by omega, by go_num, below_drewN HB2.out _, HV2.out⟩
            case measure => simp [intOf]; omega
        · have q2 : (c.f.toList == fam.toList) = false := ba_ne h2
          
          have HV2 : Hid (valueM fam qual s5 sl = valueM fam qual s5 (sl.drop (i + 1))) := by
            unfold Hid
            rw [HV.out, HD.out]
            exact if_neg (fun h => h2 h.2.1)
          
          go_quiet (fail)
          go_wp2
          go_roundw
          case rel => exact ⟨i + 1, by omega, by go_num, below_drewN HB2.out _, HV2.out⟩
          case measure => simp [intOf]; omega
      · have q1 : (c.r.toList == d.r.toList) = false := ba_ne h1
        
        have HV2 : Hid (valueM fam qual s5 sl = valueM fam qual s5 (sl.drop (i + 1))) := by
          unfold Hid
          rw [HV.out, HD.out]
          exact if_neg (fun h => h1 h.1)
        
        go_quiet (fail)
        go_wp2
        go_roundw
        case rel => exact ⟨i + 1, by omega, by go_num, below_drewN HB2.out _, HV2.out⟩
        case measure => simp [intOf]; omega
    · obtain rfl : i = m := by omega
      have HV2 : Hid (valueM fam qual s5 sl = none) := by
        unfold Hid
        rw [HV.out, List.drop_of_length_le (by rw [HM.out]; exact Nat.le_refl _)]
        rfl
      have KB2 := KB.out.keep HB.out KB.out.lt
      rw [HRB.out] at KB2
      have g0 : wr.cell? ⟨rb, 0, none⟩ = some (.int .i64 0) := KB2.cell 0
      have g1 : wr.cell? ⟨rb, 1, none⟩ = some (.int .i64 0) := KB2.cell 1
      have g2 : wr.cell? ⟨rb, 2, none⟩ = some (.string ⟨#[]⟩) := KB2.cell 2
      have gf : ∀ j, wr.frozen? ⟨rb, j, none⟩ = false := fun j => KB2.free j
      clear KB2
      go_wp2
      try simp only [Exit.inBlock, Exit.then]
      refine bodyPost_ret (v := .tuple #[.agg #[.int .i64 0, .int .i64 0, .string ⟨#[]⟩], .bool false]) (by simp [results, Tryd.results70, go_sem, cell_set_same, g0, g1, g2]) rfl ?_
      refine ⟨s5, ?_, hq5, ?_⟩
      · rw [HSL.out, HV2.out]
        rfl
      · have hrb := HRB.out
        exact (((BW.out.trans (HB.out.mono BW.out.size)).setCell (p := ⟨rb, 0, none⟩) (Nat.le_of_eq hrb) _).setCell (p := ⟨rb, 1, none⟩) (Nat.le_of_eq hrb) _).setCell (p := ⟨rb, 2, none⟩) (Nat.le_of_eq hrb) _
end Go.Proofs.YtdjaofbjmnmlbaaDoor

/- cell.Rows at every list of cells. Conditions: a hundred thousand cells at most. -/
namespace Go.Proofs.YtdjaofbjmnmlbaaDoor
open Go.RowKit Go.Sort Go.Lib

/-- A row of the call's own that holds the texts ss. -/
def SRow (w : World) (B : Nat) (v : Value) (ss : List (List UInt8)) : Prop := w.ownsRow B 9 1 v ss.length (ss.map encStr)
theorem SRow.none (w : World) (B : Nat) : SRow w B (.slice none 0 0) [] := ⟨rfl, .inl ⟨rfl, rfl⟩⟩
theorem SRow.below {w w' : World} {B : Nat} {v : Value} {ss : List (List UInt8)} (h : SRow w B v ss) (hb : Below w.heap.size w w') : SRow w' B v ss := by
  refine ⟨h.1, ?_⟩
  rcases h.2 with h | ⟨g, cap, cur, e, h1, h2, hr⟩
  · exact .inl h
  · have hg : g < w.heap.size := by
      rcases Nat.lt_or_ge g w.heap.size with h' | h'
      · exact h'
      · rw [Array.getElem?_eq_none h'] at h2; cases h2
    exact .inr ⟨g, cap, cur, e, h1, by rw [hb.block g hg]; exact h2, hr⟩
theorem info_str : (Tryd.prog.info? 9).map (fun i => (i.zero, i.size, i.bytes)) = some (some (.string ⟨#[]⟩), 1, 16) := by kernel_rfl

section
variable {ops : Array Oper} {rest : List Oper} {o : Oper} {a : Act} {Q : Exit → Act → World → Prop}
set_option maxRecDepth 100000 in
/-- append of one text to a row of the call's own. -/
theorem wpList_append_text (hgd : o.guard = Option.none) (s x : Operand)
    (ho : o.op = .call { callee := .builtin .append, args := #[s, x], argTypes := #[89, 89] })
    (w : World) (base : Nat) (v : Value) (l : List (List UInt8)) (hs : a.eval s = v) (hown : SRow w base v l)
    (G : Nat) (m : Nat) (hx : a.eval x = .slice (some ⟨G, 0, Option.none⟩) 1 m) (y : ByteArray) (hc : w.cell? ⟨G, 0, Option.none⟩ = some (.string y))
    (hlen : l.length ≤ 100000) (hbase : base ≤ w.heap.size)
    (h : ∀ v' w', SRow w' base v' (l ++ [y.data.toList]) → Below base w w' → wpList Tryd.prog ops Q rest (a.put o.dst v') w') : wpList Tryd.prog ops Q (o :: rest) a w := by
  obtain ⟨i0, hi, hz0, hz1, hz2⟩ := info_parts info_str
  refine wpList_append_own w hgd s x 89 ho base 9 i0 _ 1 16 Tryd.underlying89 hi hz0 hz1 hz2 rfl (by decide) v l.length (l.map encStr) hs hown ⟨G, 0, Option.none⟩ 1 m [.string y] hx rfl (fun j u hu => ?_) (fun u hu => by rw [List.mem_singleton.1 hu]; rfl) (by unfold maxLen; omega) (by omega) hbase ?_
  · cases j with
    | zero =>
      injection hu with hu
      rw [← hu]
      exact hc
    | succ j => cases hu
  intro v' w' h1 h2 _
  refine h v' w' ?_ ((Below.refl _ _).grown h2 hbase fun k hk => (World.ownsRow.lt hown k hk).1)
  unfold SRow
  rw [List.map_append, List.length_append]
  exact h1
end

theorem below_grows (w : World) (os : Array Obj) : Below w.heap.size w (grow w os) := ⟨rfl, rfl, rfl, by simp [grow], fun k hk => by simp [grow, Array.getElem?_append_left hk]⟩
theorem srow_sort (B : Nat) (v : Value) (ss : List (List UInt8)) (hl : ss.length ≤ 100000) (w : World) (h : SRow w B v ss) (hB : B ≤ w.heap.size) :
    Calls Tryd.prog 120 #[v] w fun e w' => e = .returned (.tuple #[]) ∧ SRow w' B v (ss.mergeSort fun x y => decide (x ≤ y)) ∧ Below B w w' := by
  by_cases hv : v = .slice none 0 0
  · subst hv
    have e0 : ss = [] := by
      rcases h.2 with ⟨_, hz⟩ | ⟨g, cap, cur, e, _⟩
      · exact List.eq_nil_of_length_eq_zero hz
      · cases e
    subst e0
    refine (Tryd.slices_Sort_string_none none 0 w).mono ?_
    rintro e w' ⟨rfl, rfl⟩
    exact ⟨rfl, by rw [List.mergeSort_nil]; exact h, Below.refl _ _⟩
  · obtain ⟨g, cap, rfl, hBg, hgw, hc1, hc2, hl', hH⟩ := holds_of_ownsRow h hv
    refine (Tryd.slices_Sort_string g 0 cap ss w hH hgw (by omega)).mono ?_
    rintro e w' ⟨rfl, n, os, rfl⟩
    have hlen : (ss.mergeSort fun x y => decide (x ≤ y)).length = ss.length := List.length_mergeSort _
    have h1 := ownsRow_putRow (q := n) (k := ss.length) h hlen (Nat.le_refl _)
    rw [List.take_of_length_le (by rw [hlen]; exact Nat.le_refl _)] at h1
    have h2 : SRow (putRow encStr (Sort.ahead w n) g 0 (ss.mergeSort fun x y => decide (x ≤ y)).toArray) B (.slice (some ⟨g, 0, none⟩) ss.length cap) (ss.mergeSort fun x y => decide (x ≤ y)) := by
      unfold SRow
      rw [hlen]
      exact h1
    have hg := below_grows (putRow encStr (Sort.ahead w n) g 0 (ss.mergeSort fun x y => decide (x ≤ y)).toArray) os
    have hp : Below B w (putRow encStr (Sort.ahead w n) g 0 (ss.mergeSort fun x y => decide (x ≤ y)).toArray) := below_putRow (Below.refl _ _) hBg
    exact ⟨rfl, h2.below hg, hp.trans (hg.mono (Nat.le_trans hB hp.size))⟩
theorem srow_compact (B : Nat) (v : Value) (ss : List (List UInt8)) (hl : ss.length ≤ 100000) (w : World) (h : SRow w B v ss) (hB : B ≤ w.heap.size) :
    Calls Tryd.prog 121 #[v] w fun e w' => ∃ v', e = .returned v' ∧ SRow w' B v' (compact ss) ∧ Below B w w' := by
  by_cases hv : v = .slice none 0 0
  · subst hv
    have e0 : ss = [] := by
      rcases h.2 with ⟨_, hz⟩ | ⟨g, cap, cur, e, _⟩
      · exact List.eq_nil_of_length_eq_zero hz
      · cases e
    subst e0
    refine (Tryd.slices_Compact_string_empty none 0 w).mono ?_
    rintro e w' ⟨rfl, rfl⟩
    exact ⟨_, rfl, h, Below.refl _ _⟩
  · obtain ⟨g, cap, rfl, hBg, hgw, hc1, hc2, hl', hH⟩ := holds_of_ownsRow h hv
    refine (Tryd.slices_Compact_string g 0 cap ss w hH (by omega) hc1).mono ?_
    rintro e w' ⟨rfl, q, rfl⟩
    have hle : (compact ss).length ≤ ss.length := by
      unfold compact compactUpTo
      rw [List.length_map]
      exact Nat.le_trans (List.length_filter_le _ _) (by rw [List.length_range]; exact Nat.le_refl _)
    have hlen : (compact ss ++ List.replicate (ss.length - (compact ss).length) []).length = ss.length := by
      rw [List.length_append, List.length_replicate]; omega
    have h1 := ownsRow_putRow (q := q) (k := (compact ss).length) h hlen hle
    rw [List.take_left] at h1
    exact ⟨_, rfl, h1, below_putRow (Below.refl _ _) hBg⟩

/-- The rows of cells. -/
def rowsL (l : List CT) : List (List UInt8) := compact ((l.map fun c => c.r.data.toList).mergeSort fun x y => decide (x ≤ y))

set_option maxHeartbeats 4000000 in
set_option maxRecDepth 100000 in
theorem crows_any (v : Value) (l : List CT) (hl : l.length ≤ 100000) (w : World) (h : ClA w v l) :
    Calls Tryd.prog 71 #[v] w fun e w' => ∃ v', e = .returned v' ∧ SRow w' w.heap.size v' (rowsL l) ∧ Below w.heap.size w w' := by
  obtain ⟨A, cc, rfl, hc1, hc2, hh⟩ := h
  obtain ⟨n, hn⟩ : ∃ n, l.length = n := ⟨_, rfl⟩
  have HN := hid hn
  rw [hn] at hl hc1 hh ⊢
  have HH := hid hh
  have HS := hid srow_sort
  have HC := hid srow_compact
  have HN0 := hid (SRow.none w w.heap.size)
  clear hn hh
  go_enter Tryd.func71, Tryd.ntmps71
  go_wp2
  go_loopw [3, 8] (fun vo vi wr => ∃ i : Nat, i ≤ n ∧ vi = .int .i64 i ∧ Hid (SRow wr w.heap.size vo ((l.take i).map fun c => c.r.data.toList)) ∧ Hid (Below w.heap.size w wr)) (fun _ vi _ => n - (intOf vi).toNat)
  case atStart => exact ⟨0, Nat.zero_le _, rfl, HN0.out, Below.refl _ _⟩
  case round =>
    obtain ⟨i, hi, rfl, HO, HB⟩ := hrel
    by_cases hlt : i < n
    · have hin : i < l.length := by rw [HN.out]; exact hlt
      have hltz : (i : Int) < (n : Int) := by omega
      obtain ⟨b, off, rfl, hhc⟩ := HH.out (by omega)
      have hbw : b < w.heap.size := hhc.lt (by omega)
      obtain ⟨c, hc⟩ : ∃ c, l[i] = c := ⟨_, rfl⟩
      have P : wr.cell? ⟨b, off + i * 8, none⟩ = some (.string c.r) ∧ wr.cell? ⟨b, off + i * 8 + 1, none⟩ = some (.string c.f) ∧ wr.cell? ⟨b, off + i * 8 + 2, none⟩ = some (.string c.q) ∧ wr.cell? ⟨b, off + i * 8 + 3, none⟩ = some (.int .i64 c.t) ∧ wr.cell? ⟨b, off + i * 8 + 4, none⟩ = some (.int .i64 c.k) ∧ wr.cell? ⟨b, off + i * 8 + 5, none⟩ = some (.int .i64 c.vk) ∧ wr.cell? ⟨b, off + i * 8 + 6, none⟩ = some (.int .i64 c.vn) ∧ wr.cell? ⟨b, off + i * 8 + 7, none⟩ = some (.string c.s) := by
        rw [← hc]
        exact (hhc.below HB.out hbw).words i hin
      have HT : Hid ((l.take (i + 1)).map (fun c => c.r.data.toList) = (l.take i).map (fun c => c.r.data.toList) ++ [c.r.data.toList]) := by
        unfold Hid
        rw [List.take_add_one, List.getElem?_eq_getElem hin, hc, List.map_append]
        rfl
      have HLn : Hid (((l.take i).map fun c => c.r.data.toList).length ≤ 100000) := by
        unfold Hid
        rw [List.length_map, List.length_take]; omega
      obtain ⟨p0, p1, p2, p3, p4, p5, p6, p7⟩ := P
      clear hc hhc
      go_upto_region 5 with (fail)
      obtain ⟨bb, hbb⟩ : ∃ bb, wr.heap.size = bb := ⟨_, rfl⟩
      refine wp_ltc (fun W => Hid (Below wr.heap.size wr W) ∧ W.cell? ⟨bb, 0, none⟩ = some (.string c.r) ∧ W.cell? ⟨bb, 1, none⟩ = some (.string c.f) ∧ W.cell? ⟨bb, 2, none⟩ = some (.string c.q) ∧ W.cell? ⟨bb, 3, none⟩ = some (.int .i64 c.t) ∧ W.cell? ⟨bb, 4, none⟩ = some (.int .i64 c.k) ∧ W.cell? ⟨bb, 5, none⟩ = some (.int .i64 c.vk) ∧ W.cell? ⟨bb, 6, none⟩ = some (.int .i64 c.vn) ∧ W.cell? ⟨bb, 7, none⟩ = some (.string c.s)) (by rw [← hbb]; have hB := Blk.new wr 28 c.e.toArray; exact ⟨below_new _ _, blk_words hB⟩) (fun W hW => ?_)
      rw [hbb]
      obtain ⟨HW, b0, b1, b2, b3, b4, b5, b6, b7⟩ := hW
      have HB2 : Hid (Below w.heap.size w W) := HB.out.trans (HW.out.mono HB.out.size)
      have HO2 : Hid (SRow W w.heap.size _ ((l.take i).map fun c => c.r.data.toList)) := HO.out.below HW.out
      clear p0 p1 p2 p3 p4 p5 p6 p7 hbb HO HB
      go_wp2_with (at_builtin; refine wpList_append_text rfl (.tmp 12) (.tmp 15) rfl _ w.heap.size _ _ rfl (HO2.out.below (below_new _ _)) _ 1 rfl c.r (Blk.cell (T := 9) (Blk.new _ _ _) 0) HLn.out (by have := HB2.out.size; simp; omega) ?_; intro v6 w6 h6 hb6)
      go_roundw
      case rel => exact ⟨i + 1, by omega, by go_num, by rw [HT.out]; exact h6, (HB2.out.alloc HB2.out.size _).trans hb6⟩
      case measure => simp [intOf]; omega
    · obtain rfl : i = n := by omega
      have hO2 := HO.out
      rw [List.take_of_length_le (by rw [HN.out]; exact Nat.le_refl _)] at hO2
      have HO2 := hid hO2
      clear hO2
      have HLn : Hid ((l.map fun c => c.r.data.toList).length ≤ 100000) := by
        have := HN.out
        unfold Hid
        rw [List.length_map]; omega
      go_wp2_with (first
        | (go_at_call 120; refine (HS.out w.heap.size _ _ HLn.out wr HO2.out HB.out.size).mono ?_; rintro e w5 ⟨rfl, hS5, hb5⟩; have hl5 : ((l.map fun c => c.r.data.toList).mergeSort fun x y => decide (x ≤ y)).length ≤ 100000 := (by rw [List.length_mergeSort]; exact HLn.out))
        | (go_at_call 121; refine (HC.out w.heap.size _ _ hl5 w5 hS5 (Nat.le_trans HB.out.size hb5.size)).mono ?_; rintro e w6 ⟨v6, rfl, hS6, hb6⟩))
      go_ret
      exact ⟨_, rfl, hS6, (HB.out.trans hb5).trans hb6⟩
end Go.Proofs.YtdjaofbjmnmlbaaDoor
