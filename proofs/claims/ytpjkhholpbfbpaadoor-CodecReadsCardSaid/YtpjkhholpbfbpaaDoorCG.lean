/- The writer's time and key. Conditions: buffers of at most ten thousand bytes; the parts as short as a right cell's are. -/
import Derived.Test.YtpjkhholpbfbpaaDoorCF
import Derived.Test.YtpjkhholpbfbpaaDoorMJ
namespace Go.Proofs.YtpjkhholpbfbpaaDoor
open Go.RowKit

theorem time_byte (r i : Nat) (hi : i < 8) : ((r : Int) / 2 ^ (8 * (7 - (i : Int))).toNat % 256) = ((UInt8.ofNat (r / 256 ^ (8 - 1 - i) % 256)).toNat : Int) := by
  have e : (8 * (7 - (i : Int))).toNat = 8 * (7 - i) := by omega
  rw [e, byte_at, show 8 - 1 - i = 7 - i by omega]

set_option maxRecDepth 100000 in
set_option maxHeartbeats 2000000 in
theorem wtime_any (B b : Nat) (t : Int) (h0 : 0 ≤ t) (h1 : t ≤ 1099511627776) (l : List UInt8) (hl : l.length ≤ 10000) (w : World) (h : Wr w B b l) (hB : B ≤ w.heap.size) :
    Calls Tryd.prog 86 #[.pointer (some ⟨b, 0, none⟩), .int .i64 t] w fun e w' => e = .returned (.tuple #[]) ∧ Wr w' B b (l ++ byW 8 (9223372036854775807 - t).toNat) ∧ WF B b w w' := by
  have HBB := hid hB
  have HW := hid h
  obtain ⟨r, hr⟩ : ∃ r : Nat, 9223372036854775807 - t = (r : Int) := ⟨(9223372036854775807 - t).toNat, by omega⟩
  have hr1 : r < 9223372036854775808 := by omega
  have HC : Hid (∀ (W : World) (i : Nat) (x : Int), i < 8 → x = ((r : Int) / 2 ^ (8 * (7 - (i : Int))).toNat % 256) → Wr W B b (l ++ (byW 8 r).take i) → B ≤ W.heap.size → Calls Tryd.prog 87 #[.pointer (some ⟨b, 0, none⟩), .int .u8 x] W fun e w' => e = .returned .nilIface ∧ Wr w' B b (l ++ (byW 8 r).take (i + 1)) ∧ WF B b W w') := by
    intro W i x hi hx h2 h3
    have := wbyte' B b (l ++ (byW 8 r).take i) (by have := byW_len 8 r; simp; omega) (UInt8.ofNat (r / 256 ^ (8 - 1 - i) % 256)) x (by rw [hx, time_byte r i hi]) W h2 h3
    rwa [List.append_assoc, ← byW_take 8 r i hi] at this
  rw [hr, Int.toNat_natCast]
  clear h hB
  go_enter Tryd.func86, Tryd.ntmps86
  go_wp2
  go_loopw [9] (fun vi wr => ∃ i : Nat, i ≤ 8 ∧ vi = .int .i64 i ∧ Hid (Wr wr B b (l ++ (byW 8 r).take i)) ∧ Hid (WF B b w wr)) (fun vi _ => 8 - (intOf vi).toNat)
  case atStart => exact ⟨0, by omega, rfl, by simpa using HW, WF.refl _ _ _⟩
  case round =>
    obtain ⟨i, hi, rfl, hR, hbel⟩ := hrel
    have HBr : Hid (B ≤ wr.heap.size) := Nat.le_trans HBB.out hbel.out.size
    by_cases hlt : i < 8
    · have HCi : Hid (∀ x : Int, x = ((r : Int) / 2 ^ (8 * (7 - (i : Int))).toNat % 256) → Calls Tryd.prog 87 #[.pointer (some ⟨b, 0, none⟩), .int .u8 x] wr fun e w' => e = .returned .nilIface ∧ Wr w' B b (l ++ (byW 8 r).take (i + 1)) ∧ WF B b wr w') := fun x hx => HC.out wr i x hlt hx hR.out HBr.out
      have HCd : Hid (∀ x : Int, x = ((r : Int) / 2 ^ (8 * (7 - (i : Int))).toNat % 256) → Calls Tryd.prog 87 #[.pointer (some ⟨b, 0, none⟩), .int .u8 x] wr.drew fun e w' => e = .returned .nilIface ∧ Wr w' B b (l ++ (byW 8 r).take (i + 1)) ∧ WF B b wr.drew w') := fun x hx => HC.out wr.drew i x hlt hx hR.out HBr.out
      have e11 : Hid (IntKind.u8.wrap ((r : Int) / 2 ^ (8 * (7 - (i : Int))).toNat) = (r : Int) / 2 ^ (8 * (7 - (i : Int))).toNat % 256) := by unfold Hid; rw [IntKind.wrap_u8]
      have e7 : IntKind.i64.wrap (7 - (i : Int)) = 7 - (i : Int) := by rw [IntKind.wrap_i64]; omega
      have e8 : IntKind.i64.wrap (8 * (7 - (i : Int))) = 8 * (7 - (i : Int)) := by rw [IntKind.wrap_i64]; omega
      have e9 : (0 : Int) ≤ 8 * (7 - (i : Int)) := by omega
      have e10 : ¬ (8 * (7 - (i : Int)) < 0) := by omega
      go_wp2
      have HN := hwf_refl B b wr
      go_region_held3 (fun w' => Hid (WF B b wr w'))
        (first | exact HN | exact hwf_drew HN | exact hwf_call (by assumption) hbo | exact hwf_drew (by assumption) | assumption)
        (first
          | (go_at_call 87; ((with_reducible refine (HCi.out _ e11.out).mono ?_); rintro e w1 ⟨rfl, h1, hbo⟩))
          | (go_at_call 87; ((with_reducible refine (HCd.out _ e11.out).mono ?_); rintro e w1 ⟨rfl, h1, hbo⟩)))
      rename_i hHeld
      go_wp2
      go_roundw
      case rel => exact ⟨i + 1, by omega, by go_num, h1, hbel.out.trans hHeld.out⟩
      case measure => simp [intOf]; omega
    · obtain rfl : i = 8 := by omega
      go_wp2
      go_end0
      refine ⟨rfl, ?_, hbel.out⟩
      have := hR.out
      rwa [List.take_of_length_le (by rw [byW_len]; exact Nat.le_refl _)] at this

/-- A cell in block cb, while a writer writes. -/
abbrev KeyS (B b cb : Nat) (xs : Array Value) (k : Int) (W0 w' : World) : Prop := Hid (WF B b W0 w' ∧ Blk w' cb 28 xs ∧ cb ≠ b ∧ xs[4]? = some (.int .i64 k)) ∧ w'.cell? ⟨cb, 4, none⟩ = some (.int .i64 k)
theorem keys_drew {B b cb : Nat} {xs : Array Value} {k : Int} {W0 W : World} (h : KeyS B b cb xs k W0 W) : KeyS B b cb xs k W0 W.drew := ⟨hid ⟨h.1.out.1.drew, h.1.out.2⟩, h.2⟩
theorem keys_call {B b cb : Nat} {xs : Array Value} {k : Int} {W0 W W' : World} (h : KeyS B b cb xs k W0 W) (hk : WF B b W W') : KeyS B b cb xs k W0 W' := by
  obtain ⟨h1, h2, h3, h4⟩ := h.1.out
  have hb := hk.blk h2 h3 (by decide)
  exact ⟨hid ⟨h1.trans hk, hb, h3, h4⟩, (hb.cell 4).trans h4⟩

set_option maxRecDepth 100000 in
set_option maxHeartbeats 4000000 in
theorem wkey_any (B b : Nat) (r f q vs : ByteArray) (t k vk vn : Int) (hr : r.size ≤ 16) (hf : f.size ≤ 8) (hq : q.size ≤ 12) (h0 : 0 ≤ t) (h1 : t ≤ 1099511627776) (hk1 : 1 ≤ k) (hk4 : k ≤ 4) (w : World) (h : Wr w B b []) (hB : B ≤ w.heap.size) :
    Calls Tryd.prog 56 #[.pointer (some ⟨b, 0, none⟩), cellV r f q t k vk vn vs] w fun e w' => e = .returned (.tuple #[]) ∧ Wr w' B b (keyM r.data.toList f.data.toList q.data.toList t k) ∧ WF B b w w' := by
  have HBB := hid hB
  have hbl := Wr.lt h
  have HNE : Hid (w.heap.size ≠ b) := by unfold Hid; omega
  have HL : ∀ s : ByteArray, (esc s.data.toList).length ≤ 2 * s.size := fun s => esc_len _
  have HT : Hid (∀ (W : World) (s : ByteArray) (m : List UInt8), s.size ≤ 16 → m.length ≤ 1000 → Wr W B b m → B ≤ W.heap.size → Calls Tryd.prog 85 #[.pointer (some ⟨b, 0, none⟩), .string s] W fun e w' => e = .returned (.tuple #[]) ∧ Wr w' B b (m ++ (esc s.data.toList ++ [0, 1])) ∧ WF B b W w') :=
    fun W s m hs hm h2 h3 => wtext_any B b s (by omega) m (by omega) W h2 h3
  have HM : Hid (∀ (W : World) (m : List UInt8), m.length ≤ 1000 → Wr W B b m → B ≤ W.heap.size → Calls Tryd.prog 86 #[.pointer (some ⟨b, 0, none⟩), .int .i64 t] W fun e w' => e = .returned (.tuple #[]) ∧ Wr w' B b (m ++ byW 8 (9223372036854775807 - t).toNat) ∧ WF B b W w') :=
    fun W m hm h2 h3 => wtime_any B b t h0 h1 m (by omega) W h2 h3
  have HK : Hid (∀ (W : World) (m : List UInt8) (x : Int), m.length ≤ 1000 → x = 255 - k → Wr W B b m → B ≤ W.heap.size → Calls Tryd.prog 87 #[.pointer (some ⟨b, 0, none⟩), .int .u8 x] W fun e w' => e = .returned .nilIface ∧ Wr w' B b (m ++ [UInt8.ofNat (255 - k).toNat]) ∧ WF B b W w') :=
    fun W m x hm hx h2 h3 => wbyte' B b m (by omega) _ x (by rw [hx, UInt8.toNat_ofNat']; omega) W h2 h3
  have HE : Hid (∀ (W : World) (m : List UInt8), m.length ≤ 1000 → Wr W B b m → B ≤ W.heap.size → Calls Tryd.prog 58 #[.pointer (some ⟨b, 0, none⟩), .slice (some ⟨W.heap.size, 0, none⟩) 2 2] (W.alloc (.cells #[.int .u8 0, .int .u8 0] 5)) fun e w' => e = .returned (.tuple #[.int .i64 2, .nilIface]) ∧ Wr w' B b (m ++ [0, 0]) ∧ WF B b (W.alloc (.cells #[.int .u8 0, .int .u8 0] 5)) w') :=
    fun W m h1 h2 h3 => wwrite' B b m [0, 0] (by simp only [List.length_cons, List.length_nil]; omega) _ 2 2 rfl (by have := Wr.lt h2; simp; omega) _ (Wr.alloc h2 _) (by simp; omega) (two_new W 0 0 _ 0 0 rfl rfl)
  have HA := hid (Wr.alloc h (.cells #[.string r, .string f, .string q, .int .i64 t, .int .i64 k, .int .i64 vk, .int .i64 vn, .string vs] 28))
  have B0 := hid (Blk.new w 28 #[.string r, .string f, .string q, .int .i64 t, .int .i64 k, .int .i64 vk, .int .i64 vn, .string vs])
  have HLr := hid (HL r)
  have HLf := hid (HL f)
  have HLq := hid (HL q)
  clear h hB hbl HL
  have HSZ : Hid (∀ W W' : World, WF B b W W' → B ≤ W.heap.size → B ≤ W'.heap.size) := fun W W' h h' => Nat.le_trans h' h.size
  have HS0 : Hid (B ≤ (w.alloc (.cells #[.string r, .string f, .string q, .int .i64 t, .int .i64 k, .int .i64 vk, .int .i64 vn, .string vs] 28)).heap.size) := by have := HBB.out; unfold Hid; simp; omega
  by_cases h4 : k = 4
  · subst h4
    go_enter Tryd.func56, Tryd.ntmps56
    go_wp2_with (first
      | (go_at_call 85; ((with_reducible refine (HT.out _ r [] hr (by decide) HA.out HS0.out).mono ?_); rintro e w1 ⟨rfl, h1, k1⟩; have HS1 := hid (HSZ.out _ _ k1 HS0.out); have B1 := hid (k1.blk B0.out HNE.out (by decide)); have g1 : w1.cell? ⟨w.heap.size, 1, none⟩ = some (.string f) := B1.out.cell 1))
      | (go_at_call 85; ((with_reducible refine (HT.out _ f _ (by omega) (by have := HLr.out; simp; omega) h1 HS1.out).mono ?_); rintro e w2 ⟨rfl, h2, k2⟩; have HS2 := hid (HSZ.out _ _ k2 HS1.out); have B2 := hid (k2.blk B1.out HNE.out (by decide)); have g2 : w2.cell? ⟨w.heap.size, 4, none⟩ = some (.int .i64 4) := B2.out.cell 4))
      | (go_at_call 58; ((refine (HE.out w2 _ (by have := HLr.out; have := HLf.out; simp; omega) h2 HS2.out).mono ?_); rintro e w3 ⟨rfl, h3, k3⟩; have HS3 := hid (HSZ.out _ _ k3 (by have := HS2.out; simp; omega)); have B3 := hid (k3.blk (B2.out.keep (below_new w2 _) B2.out.lt) HNE.out (by decide)); have g3 : w3.cell? ⟨w.heap.size, 3, none⟩ = some (.int .i64 t) := B3.out.cell 3))
      | (go_at_call 86; ((with_reducible refine (HM.out _ _ (by have := HLr.out; have := HLf.out; simp; omega) h3 HS3.out).mono ?_); rintro e w4 ⟨rfl, h4, k4⟩; have HS4 := hid (HSZ.out _ _ k4 HS3.out); have B4 := hid (k4.blk B3.out HNE.out (by decide)); have g4 : w4.cell? ⟨w.heap.size, 4, none⟩ = some (.int .i64 4) := B4.out.cell 4)))
    have HX : Hid (∀ W, Wr W B b ([] ++ (esc r.data.toList ++ [0, 1]) ++ (esc f.data.toList ++ [0, 1]) ++ [0, 0] ++ byW 8 (9223372036854775807 - t).toNat) → B ≤ W.heap.size → Calls Tryd.prog 87 #[.pointer (some ⟨b, 0, none⟩), .int .u8 (IntKind.u8.wrap (IntKind.i64.wrap 251))] W fun e w' => e = .returned .nilIface ∧ Wr w' B b (([] ++ (esc r.data.toList ++ [0, 1]) ++ (esc f.data.toList ++ [0, 1]) ++ [0, 0] ++ byW 8 (9223372036854775807 - t).toNat) ++ [UInt8.ofNat (255 - (4 : Int)).toNat]) ∧ WF B b W w') :=
      fun W hW hs => HK.out W _ _ (by have := HLr.out; have := HLf.out; simp [byW_len]; omega) rfl hW hs
    have HN : KeyS B b w.heap.size #[.string r, .string f, .string q, .int .i64 t, .int .i64 4, .int .i64 vk, .int .i64 vn, .string vs] 4 w4 w4 := ⟨hid ⟨WF.refl _ _ _, B4.out, HNE.out, rfl⟩, g4⟩
    go_region_held3 (fun w' => Hid (WF B b w4 w' ∧ Blk w' w.heap.size 28 #[.string r, .string f, .string q, .int .i64 t, .int .i64 4, .int .i64 vk, .int .i64 vn, .string vs] ∧ w.heap.size ≠ b ∧ (#[.string r, .string f, .string q, .int .i64 t, .int .i64 4, .int .i64 vk, .int .i64 vn, .string vs] : Array Value)[4]? = some (.int .i64 4)) ∧ w'.cell? ⟨w.heap.size, 4, none⟩ = some (.int .i64 4))
      (first | exact HN | exact keys_drew HN | exact keys_call (by assumption) hbo | exact keys_drew (by assumption) | assumption)
      ((go_at_call 87; ((with_reducible refine (HX.out _ ?_ ?_).mono ?_); (first | exact h4 | exact LibA.IsBuffer.drew h4); exact HS4.out; rintro e w5 ⟨rfl, h5, hbo⟩)))
    rename_i hHeld
    go_end0
    refine ⟨rfl, ?_, ((((WF.refl B b w).alloc HBB.out _).trans k1).trans k2).trans ((((WF.refl B b w2).alloc HS2.out _).trans k3).trans (k4.trans hHeld.1.out.1))⟩
    have := h5
    unfold keyM midM tailM
    rw [if_pos rfl]
    simpa using this
  · have q0 : (k == 4) = false := by simpa using h4
    have e12 : IntKind.i64.wrap (255 - k) = 255 - k := by rw [IntKind.wrap_i64]; omega
    go_enter Tryd.func56, Tryd.ntmps56
    go_wp2_with (first
      | (go_at_call 85; ((with_reducible refine (HT.out _ r [] hr (by decide) HA.out HS0.out).mono ?_); rintro e w1 ⟨rfl, h1, k1⟩; have HS1 := hid (HSZ.out _ _ k1 HS0.out); have B1 := hid (k1.blk B0.out HNE.out (by decide)); have g1 : w1.cell? ⟨w.heap.size, 1, none⟩ = some (.string f) := B1.out.cell 1))
      | (go_at_call 85; ((with_reducible refine (HT.out _ f _ (by omega) (by have := HLr.out; simp; omega) h1 HS1.out).mono ?_); rintro e w2 ⟨rfl, h2, k2⟩; have HS2 := hid (HSZ.out _ _ k2 HS1.out); have B2 := hid (k2.blk B1.out HNE.out (by decide)); have g2 : w2.cell? ⟨w.heap.size, 4, none⟩ = some (.int .i64 k) := B2.out.cell 4; have g2' : w2.cell? ⟨w.heap.size, 2, none⟩ = some (.string q) := B2.out.cell 2))
      | (go_at_call 85; ((with_reducible refine (HT.out _ q _ (by omega) (by have := HLr.out; have := HLf.out; simp; omega) h2 HS2.out).mono ?_); rintro e w3 ⟨rfl, h3, k3⟩; have HS3 := hid (HSZ.out _ _ k3 HS2.out); have B3 := hid (k3.blk B2.out HNE.out (by decide)); have g3 : w3.cell? ⟨w.heap.size, 3, none⟩ = some (.int .i64 t) := B3.out.cell 3))
      | (go_at_call 86; ((with_reducible refine (HM.out _ _ (by have := HLr.out; have := HLf.out; have := HLq.out; simp; omega) h3 HS3.out).mono ?_); rintro e w4 ⟨rfl, h4', k4⟩; have HS4 := hid (HSZ.out _ _ k4 HS3.out); have B4 := hid (k4.blk B3.out HNE.out (by decide)); have g4 : w4.cell? ⟨w.heap.size, 4, none⟩ = some (.int .i64 k) := B4.out.cell 4)))
    have HX : Hid (∀ W, Wr W B b ([] ++ (esc r.data.toList ++ [0, 1]) ++ (esc f.data.toList ++ [0, 1]) ++ (esc q.data.toList ++ [0, 1]) ++ byW 8 (9223372036854775807 - t).toNat) → B ≤ W.heap.size → Calls Tryd.prog 87 #[.pointer (some ⟨b, 0, none⟩), .int .u8 (IntKind.u8.wrap (255 - k))] W fun e w' => e = .returned .nilIface ∧ Wr w' B b (([] ++ (esc r.data.toList ++ [0, 1]) ++ (esc f.data.toList ++ [0, 1]) ++ (esc q.data.toList ++ [0, 1]) ++ byW 8 (9223372036854775807 - t).toNat) ++ [UInt8.ofNat (255 - k).toNat]) ∧ WF B b W w') :=
      fun W hW hs => HK.out W _ _ (by have := HLr.out; have := HLf.out; have := HLq.out; simp [byW_len]; omega) (by rw [IntKind.wrap_u8]; omega) hW hs
    have HN : KeyS B b w.heap.size #[.string r, .string f, .string q, .int .i64 t, .int .i64 k, .int .i64 vk, .int .i64 vn, .string vs] k w4 w4 := ⟨hid ⟨WF.refl _ _ _, B4.out, HNE.out, rfl⟩, g4⟩
    go_region_held3 (fun w' => Hid (WF B b w4 w' ∧ Blk w' w.heap.size 28 #[.string r, .string f, .string q, .int .i64 t, .int .i64 k, .int .i64 vk, .int .i64 vn, .string vs] ∧ w.heap.size ≠ b ∧ (#[.string r, .string f, .string q, .int .i64 t, .int .i64 k, .int .i64 vk, .int .i64 vn, .string vs] : Array Value)[4]? = some (.int .i64 k)) ∧ w'.cell? ⟨w.heap.size, 4, none⟩ = some (.int .i64 k))
      (first | exact HN | exact keys_drew HN | exact keys_call (by assumption) hbo | exact keys_drew (by assumption) | assumption)
      ((go_at_call 87; ((with_reducible refine (HX.out _ ?_ ?_).mono ?_); (first | exact h4' | exact LibA.IsBuffer.drew h4'); exact HS4.out; rintro e w5 ⟨rfl, h5, hbo⟩)))
    rename_i hHeld
    go_end0
    refine ⟨rfl, ?_, ((((WF.refl B b w).alloc HBB.out _).trans k1).trans k2).trans (k3.trans (k4.trans hHeld.1.out.1))⟩
    have := h5
    unfold keyM midM tailM
    rw [if_neg h4]
    simpa using this
end Go.Proofs.YtpjkhholpbfbpaaDoor
