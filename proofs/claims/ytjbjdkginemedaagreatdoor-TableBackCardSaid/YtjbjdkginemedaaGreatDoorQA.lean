/- Several texts in one: CF CG CHa CHb YIa. Conditions: as each theorem names them. -/
import Derived.Test.YtjbjdkginemedaaGreatDoorQ4
import Derived.Test.YtjbjdkginemedaaGreatDoorQ2
import Derived.Deep.RegionHeld3
import Derived.Lib.BufferKept
import Derived.Test.YtjbjdkginemedaaGreatDoorQ6
import Derived.Test.YtjbjdkginemedaaGreatDoorQ8
/- The writer of package codec: what it leaves alone; a text's bytes, each 0 escaped, and a time, behind what a buffer holds. Conditions: buffers of at most a million bytes, texts of at most a thousand. -/
namespace Go.Proofs.YtjbjdkginemedaaGreatDoor
open Go.RowKit

/-- What a writer in block b does: nothing below B, and above it nothing but to its own block and to rows of bytes. -/
structure WF (B b : Nat) (w w' : World) : Prop where
  below : Below B w w'
  kept : Lib.OthersKept 5 (some b) w w'
section
variable {B b : Nat} {w w1 w' : World}
theorem WF.refl (B b : Nat) (w : World) : WF B b w w := ⟨Below.refl _ _, Lib.OthersKept.refl _ _ _⟩
theorem WF.trans (h : WF B b w w1) (k : WF B b w1 w') : WF B b w w' := ⟨h.below.trans k.below, h.kept.trans k.kept⟩
theorem WF.drew (h : WF B b w w1) : WF B b w w1.drew := ⟨h.below.drew, h.kept.drew⟩
theorem WF.size (h : WF B b w w1) : w.heap.size ≤ w1.heap.size := h.below.size
theorem WF.alloc (h : WF B b w w1) (hB : B ≤ w.heap.size) (o : Obj) : WF B b w (w1.alloc o) := ⟨h.below.alloc (Nat.le_trans hB h.size) o, h.kept.alloc o⟩
theorem WF.of_below (h : Below w.heap.size w w') (hB : B ≤ w.heap.size) : WF B b w w' := ⟨h.mono hB, (Lib.OthersKept.refl _ _ _).below h⟩
theorem WF.blk (h : WF B b w w') {k : Nat} {T : TypeId} {xs : Array Value} (hk : Blk w k T xs) (hb : k ≠ b) (hT : T ≠ 5) : Blk w' k T xs :=
  h.kept k _ hk (by simpa using hb) (by intro c fz e; injection e with _ e2 _; exact hT e2)
theorem WF.mono {B' : Nat} (h : WF B b w w') (hb : B' ≤ B) : WF B' b w w' := ⟨h.below.mono hb, h.kept⟩
theorem hwf_refl (B b : Nat) (w : World) : Hid (WF B b w w) := WF.refl B b w
theorem hwf_drew (h : Hid (WF B b w w1)) : Hid (WF B b w w1.drew) := h.out.drew
theorem hwf_call (h : Hid (WF B b w w1)) (k : WF B b w1 w') : Hid (WF B b w w') := h.out.trans k
end

theorem wbyte' (B b : Nat) (l : List UInt8) (hl : l.length ≤ 1000000) (c : UInt8) (x : Int) (hx : x = (c.toNat : Int)) (w : World) (h : Wr w B b l) (hB : B ≤ w.heap.size) :
    Calls Tryz.prog 139 #[.pointer (some ⟨b, 0, none⟩), .int .u8 x] w fun e w' => e = .returned .nilIface ∧ Wr w' B b (l ++ [c]) ∧ WF B b w w' := by
  subst hx
  refine (Tryz.Buffer_WriteByte_at 114 (fun _ => none) B b 0 (bc l) (c.toNat : Int) w h hB (bc_one l) (by rw [bc_len]; omega)).mono ?_
  rintro e w' ⟨rfl, h1, h2, h3⟩
  refine ⟨rfl, ?_, h2, h3⟩
  unfold Wr
  rw [bc_app]
  exact h1
theorem wwrite' (B b : Nat) (l cs : List UInt8) (hl : l.length + cs.length ≤ 1000000) (a : Addr) (n c : Nat) (hn : cs.length = n) (hab : a.block ≠ b) (w : World) (h : Wr w B b l) (hB : B ≤ w.heap.size) (hsrc : ∀ j u, (bc cs)[j]? = some u → w.cell? (a.add j) = some u) :
    Calls Tryz.prog 122 #[.pointer (some ⟨b, 0, none⟩), .slice (some a) n c] w fun e w' => e = .returned (.tuple #[.int .i64 n, .nilIface]) ∧ Wr w' B b (l ++ cs) ∧ WF B b w w' := by
  refine (Tryz.Buffer_Write_at 114 (fun _ => none) B b 0 (bc l) (bc cs) a n c w h hB (bc_one l) (by rw [bc_len]; exact hn) hab hsrc (bc_one cs) (by rw [bc_len]; omega)).mono ?_
  rintro e w' ⟨rfl, h1, h2, h3⟩
  refine ⟨rfl, ?_, h2, h3⟩
  unfold Wr
  rw [bc_app]
  exact h1
theorem Wr.lt {w : World} {B b : Nat} {l : List UInt8} (h : Wr w B b l) : b < w.heap.size := LibA.IsBuffer.lt h
theorem Wr.alloc {w : World} {B b : Nat} {l : List UInt8} (h : Wr w B b l) (o : Obj) : Wr (w.alloc o) B b l := LibA.IsBuffer.alloc h o

set_option maxRecDepth 100000 in
set_option maxHeartbeats 2000000 in
theorem wtext_any (B b : Nat) (s : ByteArray) (hs : s.size ≤ 1000) (l : List UInt8) (hl : l.length ≤ 10000) (w : World) (h : Wr w B b l) (hB : B ≤ w.heap.size) :
    Calls Tryz.prog 136 #[.pointer (some ⟨b, 0, none⟩), .string s] w fun e w' => e = .returned (.tuple #[]) ∧ Wr w' B b (l ++ (esc s.data.toList ++ [0, 1])) ∧ WF B b w w' := by
  have HBB := hid hB
  have HC : Hid (∀ (W : World) (c : UInt8) (x : Int) (m : List UInt8), m.length ≤ 100000 → x = (c.toNat : Int) → Wr W B b m → B ≤ W.heap.size → Calls Tryz.prog 139 #[.pointer (some ⟨b, 0, none⟩), .int .u8 x] W fun e w' => e = .returned .nilIface ∧ Wr w' B b (m ++ [c]) ∧ WF B b W w') :=
    fun W c x m h1 hx h2 h3 => wbyte' B b m (by omega) c x hx W h2 h3
  have HE : Hid (∀ (W : World) (m : List UInt8), m.length ≤ 100000 → Wr W B b m → B ≤ W.heap.size → Calls Tryz.prog 122 #[.pointer (some ⟨b, 0, none⟩), .slice (some ⟨W.heap.size, 0, none⟩) 2 2] (W.alloc (.cells #[.int .u8 0, .int .u8 1] 5)) fun e w' => e = .returned (.tuple #[.int .i64 2, .nilIface]) ∧ Wr w' B b (m ++ [0, 1]) ∧ WF B b (W.alloc (.cells #[.int .u8 0, .int .u8 1] 5)) w') :=
    fun W m h1 h2 h3 => wwrite' B b m [0, 1] (by simp only [List.length_cons, List.length_nil]; omega) _ 2 2 rfl (by have := Wr.lt h2; simp; omega) _ (Wr.alloc h2 _) (by simp; omega) (two_new W 0 1 _ 0 1 rfl rfl)
  have HW := hid h
  clear h hB
  go_enter Tryz.func136, Tryz.ntmps136
  go_wp2
  go_loopw [7] (fun vi wr => ∃ k : Nat, k ≤ s.size ∧ vi = .int .i64 k ∧ Hid (Wr wr B b (l ++ esc (s.data.toList.take k))) ∧ Hid (WF B b w wr)) (fun vi _ => s.size - (intOf vi).toNat)
  case atStart => exact ⟨0, by omega, rfl, by simpa [esc] using HW, WF.refl _ _ _⟩
  case round =>
    obtain ⟨k, hk, rfl, hR, hbel⟩ := hrel
    have HL : Hid ((l ++ esc (s.data.toList.take k)).length ≤ 13000) := by
      have := esc_take_len s k hk
      unfold Hid
      rw [List.length_append]
      omega
    have HBr : Hid (B ≤ wr.heap.size) := Nat.le_trans HBB.out hbel.out.size
    by_cases hlt : k < s.size
    · have HS := hid (esc_snoc s k hlt)
      go_wp2
      have HN := hwf_refl B b wr
      go_region_held3 (fun w' => Hid (WF B b wr w'))
        (first | exact HN | exact hwf_drew HN | exact hwf_call (by assumption) hbo | exact hwf_drew (by assumption) | assumption)
        ((go_at_call 139; ((with_reducible refine (HC.out _ s[k] _ (l ++ esc (s.data.toList.take k)) (by have := HL.out; omega) rfl ?_ ?_).mono ?_); (first | exact hR.out | exact LibA.IsBuffer.drew hR.out); exact HBr.out; rintro e w1 ⟨rfl, h1, hbo⟩)))
      rename_i hHeld
      have HS1 : Hid (B ≤ w1.heap.size) := Nat.le_trans HBr.out hHeld.out.size
      by_cases hz : s[k] = 0
      · have q0 : ((s[k].toNat : Int) == 0) = true := by rw [hz]; rfl
        go_wp2_with (go_at_call 139; refine (HC.out _ 255 _ _ (by have := HL.out; rw [List.length_append]; simp only [List.length_cons, List.length_nil]; omega) rfl h1 HS1.out).mono ?_; rintro e w2 ⟨rfl, h2, k2⟩)
        go_roundw
        case rel =>
          refine ⟨k + 1, by omega, by go_num, ?_, (hbel.out.trans hHeld.out).trans k2⟩
          rw [HS.out, if_pos hz]
          have := h2
          simp only [List.append_assoc, List.cons_append, List.nil_append] at this ⊢
          exact this
        case measure => simp [intOf]; omega
      · have q0 : ((s[k].toNat : Int) == 0) = false := by
          have : ¬ s[k].toNat = 0 := fun e => hz (UInt8.toNat_inj.1 e)
          simp; omega
        go_wp2
        go_roundw
        case rel =>
          refine ⟨k + 1, by omega, by go_num, ?_, hbel.out.trans hHeld.out⟩
          rw [HS.out, if_neg hz, ← List.append_assoc]
          exact h1
        case measure => simp [intOf]; omega
    · obtain rfl : k = s.size := by omega
      go_wp2_with (go_at_call 122; refine (HE.out _ _ (by have := HL.out; omega) hR.out HBr.out).mono ?_; rintro e w1 ⟨rfl, h1, h2⟩)
      go_end0
      refine ⟨rfl, ?_, (hbel.out.alloc HBB.out _).trans h2⟩
      have := h1
      rwa [List.take_of_length_le (by simp), List.append_assoc] at this
end Go.Proofs.YtjbjdkginemedaaGreatDoor

/- The writer's time and key. Conditions: buffers of at most ten thousand bytes; the parts as short as a right cell's are. -/
namespace Go.Proofs.YtjbjdkginemedaaGreatDoor
open Go.RowKit

theorem time_byte (r i : Nat) (hi : i < 8) : ((r : Int) / 2 ^ (8 * (7 - (i : Int))).toNat % 256) = ((UInt8.ofNat (r / 256 ^ (8 - 1 - i) % 256)).toNat : Int) := by
  have e : (8 * (7 - (i : Int))).toNat = 8 * (7 - i) := by omega
  rw [e, byte_at, show 8 - 1 - i = 7 - i by omega]

set_option maxRecDepth 100000 in
set_option maxHeartbeats 2000000 in
theorem wtime_any (B b : Nat) (t : Int) (h0 : 0 ≤ t) (h1 : t ≤ 1099511627776) (l : List UInt8) (hl : l.length ≤ 10000) (w : World) (h : Wr w B b l) (hB : B ≤ w.heap.size) :
    Calls Tryz.prog 141 #[.pointer (some ⟨b, 0, none⟩), .int .i64 t] w fun e w' => e = .returned (.tuple #[]) ∧ Wr w' B b (l ++ byW 8 (9223372036854775807 - t).toNat) ∧ WF B b w w' := by
  have HBB := hid hB
  have HW := hid h
  obtain ⟨r, hr⟩ : ∃ r : Nat, 9223372036854775807 - t = (r : Int) := ⟨(9223372036854775807 - t).toNat, by omega⟩
  have hr1 : r < 9223372036854775808 := by omega
  have HC : Hid (∀ (W : World) (i : Nat) (x : Int), i < 8 → x = ((r : Int) / 2 ^ (8 * (7 - (i : Int))).toNat % 256) → Wr W B b (l ++ (byW 8 r).take i) → B ≤ W.heap.size → Calls Tryz.prog 139 #[.pointer (some ⟨b, 0, none⟩), .int .u8 x] W fun e w' => e = .returned .nilIface ∧ Wr w' B b (l ++ (byW 8 r).take (i + 1)) ∧ WF B b W w') := by
    intro W i x hi hx h2 h3
    have := wbyte' B b (l ++ (byW 8 r).take i) (by have := byW_len 8 r; simp; omega) (UInt8.ofNat (r / 256 ^ (8 - 1 - i) % 256)) x (by rw [hx, time_byte r i hi]) W h2 h3
    rwa [List.append_assoc, ← byW_take 8 r i hi] at this
  rw [hr, Int.toNat_natCast]
  clear h hB
  go_enter Tryz.func141, Tryz.ntmps141
  go_wp2
  go_loopw [9] (fun vi wr => ∃ i : Nat, i ≤ 8 ∧ vi = .int .i64 i ∧ Hid (Wr wr B b (l ++ (byW 8 r).take i)) ∧ Hid (WF B b w wr)) (fun vi _ => 8 - (intOf vi).toNat)
  case atStart => exact ⟨0, by omega, rfl, by simpa using HW, WF.refl _ _ _⟩
  case round =>
    obtain ⟨i, hi, rfl, hR, hbel⟩ := hrel
    have HBr : Hid (B ≤ wr.heap.size) := Nat.le_trans HBB.out hbel.out.size
    by_cases hlt : i < 8
    · have HCi : Hid (∀ x : Int, x = ((r : Int) / 2 ^ (8 * (7 - (i : Int))).toNat % 256) → Calls Tryz.prog 139 #[.pointer (some ⟨b, 0, none⟩), .int .u8 x] wr fun e w' => e = .returned .nilIface ∧ Wr w' B b (l ++ (byW 8 r).take (i + 1)) ∧ WF B b wr w') := fun x hx => HC.out wr i x hlt hx hR.out HBr.out
      have HCd : Hid (∀ x : Int, x = ((r : Int) / 2 ^ (8 * (7 - (i : Int))).toNat % 256) → Calls Tryz.prog 139 #[.pointer (some ⟨b, 0, none⟩), .int .u8 x] wr.drew fun e w' => e = .returned .nilIface ∧ Wr w' B b (l ++ (byW 8 r).take (i + 1)) ∧ WF B b wr.drew w') := fun x hx => HC.out wr.drew i x hlt hx hR.out HBr.out
      have e11 : Hid (IntKind.u8.wrap ((r : Int) / 2 ^ (8 * (7 - (i : Int))).toNat) = (r : Int) / 2 ^ (8 * (7 - (i : Int))).toNat % 256) := by unfold Hid; rw [IntKind.wrap_u8]
      have e7 : IntKind.i64.wrap (7 - (i : Int)) = 7 - (i : Int) := by rw [IntKind.wrap_i64]; omega
      have e8 : IntKind.i64.wrap (8 * (7 - (i : Int))) = 8 * (7 - (i : Int)) := by rw [IntKind.wrap_i64]; omega
      have e9 : (0 : Int) ≤ 8 * (7 - (i : Int)) := by omega
      have e10 : ¬ (8 * (7 - (i : Int)) < 0) := by omega
      go_wp2
      have HN := hwf_refl B b wr
      go_region_held3 (fun w' => Hid (WF B b wr w'))
        (first | exact HN | exact hwf_drew HN | exact hwf_call (by assumption) hbo | exact hwf_drew (by assumption) | assumption)
        (first
          | (go_at_call 139; ((with_reducible refine (HCi.out _ e11.out).mono ?_); rintro e w1 ⟨rfl, h1, hbo⟩))
          | (go_at_call 139; ((with_reducible refine (HCd.out _ e11.out).mono ?_); rintro e w1 ⟨rfl, h1, hbo⟩)))
      rename_i hHeld
      go_wp2
      go_roundw
      case rel => exact ⟨i + 1, by omega, by go_num, h1, hbel.out.trans hHeld.out⟩
      case measure => simp [intOf]; omega
    · obtain rfl : i = 8 := by omega
      go_wp2
      go_end0
      refine ⟨rfl, ?_, hbel.out⟩
      have := hR.out
      rwa [List.take_of_length_le (by rw [byW_len]; exact Nat.le_refl _)] at this

/-- A cell in block cb, while a writer writes. -/
abbrev KeyS (B b cb : Nat) (xs : Array Value) (k : Int) (W0 w' : World) : Prop := Hid (WF B b W0 w' ∧ Blk w' cb 26 xs ∧ cb ≠ b ∧ xs[4]? = some (.int .i64 k)) ∧ w'.cell? ⟨cb, 4, none⟩ = some (.int .i64 k)
theorem keys_drew {B b cb : Nat} {xs : Array Value} {k : Int} {W0 W : World} (h : KeyS B b cb xs k W0 W) : KeyS B b cb xs k W0 W.drew := ⟨hid ⟨h.1.out.1.drew, h.1.out.2⟩, h.2⟩
theorem keys_call {B b cb : Nat} {xs : Array Value} {k : Int} {W0 W W' : World} (h : KeyS B b cb xs k W0 W) (hk : WF B b W W') : KeyS B b cb xs k W0 W' := by
  obtain ⟨h1, h2, h3, h4⟩ := h.1.out
  have hb := hk.blk h2 h3 (by decide)
  exact ⟨hid ⟨h1.trans hk, hb, h3, h4⟩, (hb.cell 4).trans h4⟩

set_option maxRecDepth 100000 in
set_option maxHeartbeats 4000000 in
theorem wkey_any (B b : Nat) (r f q vs : ByteArray) (t k vk vn : Int) (hr : r.size ≤ 16) (hf : f.size ≤ 8) (hq : q.size ≤ 12) (h0 : 0 ≤ t) (h1 : t ≤ 1099511627776) (hk1 : 1 ≤ k) (hk4 : k ≤ 4) (w : World) (h : Wr w B b []) (hB : B ≤ w.heap.size) :
    Calls Tryz.prog 99 #[.pointer (some ⟨b, 0, none⟩), cellV r f q t k vk vn vs] w fun e w' => e = .returned (.tuple #[]) ∧ Wr w' B b (keyM r.data.toList f.data.toList q.data.toList t k) ∧ WF B b w w' := by
  have HBB := hid hB
  have hbl := Wr.lt h
  have HNE : Hid (w.heap.size ≠ b) := by unfold Hid; omega
  have HL : ∀ s : ByteArray, (esc s.data.toList).length ≤ 2 * s.size := fun s => esc_len _
  have HT : Hid (∀ (W : World) (s : ByteArray) (m : List UInt8), s.size ≤ 16 → m.length ≤ 1000 → Wr W B b m → B ≤ W.heap.size → Calls Tryz.prog 136 #[.pointer (some ⟨b, 0, none⟩), .string s] W fun e w' => e = .returned (.tuple #[]) ∧ Wr w' B b (m ++ (esc s.data.toList ++ [0, 1])) ∧ WF B b W w') :=
    fun W s m hs hm h2 h3 => wtext_any B b s (by omega) m (by omega) W h2 h3
  have HM : Hid (∀ (W : World) (m : List UInt8), m.length ≤ 1000 → Wr W B b m → B ≤ W.heap.size → Calls Tryz.prog 141 #[.pointer (some ⟨b, 0, none⟩), .int .i64 t] W fun e w' => e = .returned (.tuple #[]) ∧ Wr w' B b (m ++ byW 8 (9223372036854775807 - t).toNat) ∧ WF B b W w') :=
    fun W m hm h2 h3 => wtime_any B b t h0 h1 m (by omega) W h2 h3
  have HK : Hid (∀ (W : World) (m : List UInt8) (x : Int), m.length ≤ 1000 → x = 255 - k → Wr W B b m → B ≤ W.heap.size → Calls Tryz.prog 139 #[.pointer (some ⟨b, 0, none⟩), .int .u8 x] W fun e w' => e = .returned .nilIface ∧ Wr w' B b (m ++ [UInt8.ofNat (255 - k).toNat]) ∧ WF B b W w') :=
    fun W m x hm hx h2 h3 => wbyte' B b m (by omega) _ x (by rw [hx, UInt8.toNat_ofNat']; omega) W h2 h3
  have HE : Hid (∀ (W : World) (m : List UInt8), m.length ≤ 1000 → Wr W B b m → B ≤ W.heap.size → Calls Tryz.prog 122 #[.pointer (some ⟨b, 0, none⟩), .slice (some ⟨W.heap.size, 0, none⟩) 2 2] (W.alloc (.cells #[.int .u8 0, .int .u8 0] 5)) fun e w' => e = .returned (.tuple #[.int .i64 2, .nilIface]) ∧ Wr w' B b (m ++ [0, 0]) ∧ WF B b (W.alloc (.cells #[.int .u8 0, .int .u8 0] 5)) w') :=
    fun W m h1 h2 h3 => wwrite' B b m [0, 0] (by simp only [List.length_cons, List.length_nil]; omega) _ 2 2 rfl (by have := Wr.lt h2; simp; omega) _ (Wr.alloc h2 _) (by simp; omega) (two_new W 0 0 _ 0 0 rfl rfl)
  have HA := hid (Wr.alloc h (.cells #[.string r, .string f, .string q, .int .i64 t, .int .i64 k, .int .i64 vk, .int .i64 vn, .string vs] 26))
  have B0 := hid (Blk.new w 26 #[.string r, .string f, .string q, .int .i64 t, .int .i64 k, .int .i64 vk, .int .i64 vn, .string vs])
  have HLr := hid (HL r)
  have HLf := hid (HL f)
  have HLq := hid (HL q)
  clear h hB hbl HL
  have HSZ : Hid (∀ W W' : World, WF B b W W' → B ≤ W.heap.size → B ≤ W'.heap.size) := fun W W' h h' => Nat.le_trans h' h.size
  have HS0 : Hid (B ≤ (w.alloc (.cells #[.string r, .string f, .string q, .int .i64 t, .int .i64 k, .int .i64 vk, .int .i64 vn, .string vs] 26)).heap.size) := by have := HBB.out; unfold Hid; simp; omega
  by_cases h4 : k = 4
  · subst h4
    go_enter Tryz.func99, Tryz.ntmps99
    go_wp2_with (first
      | (go_at_call 136; ((with_reducible refine (HT.out _ r [] hr (by decide) HA.out HS0.out).mono ?_); rintro e w1 ⟨rfl, h1, k1⟩; have HS1 := hid (HSZ.out _ _ k1 HS0.out); have B1 := hid (k1.blk B0.out HNE.out (by decide)); have g1 : w1.cell? ⟨w.heap.size, 1, none⟩ = some (.string f) := B1.out.cell 1))
      | (go_at_call 136; ((with_reducible refine (HT.out _ f _ (by omega) (by have := HLr.out; simp; omega) h1 HS1.out).mono ?_); rintro e w2 ⟨rfl, h2, k2⟩; have HS2 := hid (HSZ.out _ _ k2 HS1.out); have B2 := hid (k2.blk B1.out HNE.out (by decide)); have g2 : w2.cell? ⟨w.heap.size, 4, none⟩ = some (.int .i64 4) := B2.out.cell 4))
      | (go_at_call 122; ((refine (HE.out w2 _ (by have := HLr.out; have := HLf.out; simp; omega) h2 HS2.out).mono ?_); rintro e w3 ⟨rfl, h3, k3⟩; have HS3 := hid (HSZ.out _ _ k3 (by have := HS2.out; simp; omega)); have B3 := hid (k3.blk (B2.out.keep (below_new w2 _) B2.out.lt) HNE.out (by decide)); have g3 : w3.cell? ⟨w.heap.size, 3, none⟩ = some (.int .i64 t) := B3.out.cell 3))
      | (go_at_call 141; ((with_reducible refine (HM.out _ _ (by have := HLr.out; have := HLf.out; simp; omega) h3 HS3.out).mono ?_); rintro e w4 ⟨rfl, h4, k4⟩; have HS4 := hid (HSZ.out _ _ k4 HS3.out); have B4 := hid (k4.blk B3.out HNE.out (by decide)); have g4 : w4.cell? ⟨w.heap.size, 4, none⟩ = some (.int .i64 4) := B4.out.cell 4)))
    have HX : Hid (∀ W, Wr W B b ([] ++ (esc r.data.toList ++ [0, 1]) ++ (esc f.data.toList ++ [0, 1]) ++ [0, 0] ++ byW 8 (9223372036854775807 - t).toNat) → B ≤ W.heap.size → Calls Tryz.prog 139 #[.pointer (some ⟨b, 0, none⟩), .int .u8 (IntKind.u8.wrap (IntKind.i64.wrap 251))] W fun e w' => e = .returned .nilIface ∧ Wr w' B b (([] ++ (esc r.data.toList ++ [0, 1]) ++ (esc f.data.toList ++ [0, 1]) ++ [0, 0] ++ byW 8 (9223372036854775807 - t).toNat) ++ [UInt8.ofNat (255 - (4 : Int)).toNat]) ∧ WF B b W w') :=
      fun W hW hs => HK.out W _ _ (by have := HLr.out; have := HLf.out; simp [byW_len]; omega) rfl hW hs
    have HN : KeyS B b w.heap.size #[.string r, .string f, .string q, .int .i64 t, .int .i64 4, .int .i64 vk, .int .i64 vn, .string vs] 4 w4 w4 := ⟨hid ⟨WF.refl _ _ _, B4.out, HNE.out, rfl⟩, g4⟩
    go_region_held3 (fun w' => Hid (WF B b w4 w' ∧ Blk w' w.heap.size 26 #[.string r, .string f, .string q, .int .i64 t, .int .i64 4, .int .i64 vk, .int .i64 vn, .string vs] ∧ w.heap.size ≠ b ∧ (#[.string r, .string f, .string q, .int .i64 t, .int .i64 4, .int .i64 vk, .int .i64 vn, .string vs] : Array Value)[4]? = some (.int .i64 4)) ∧ w'.cell? ⟨w.heap.size, 4, none⟩ = some (.int .i64 4))
      (first | exact HN | exact keys_drew HN | exact keys_call (by assumption) hbo | exact keys_drew (by assumption) | assumption)
      ((go_at_call 139; ((with_reducible refine (HX.out _ ?_ ?_).mono ?_); (first | exact h4 | exact LibA.IsBuffer.drew h4); exact HS4.out; rintro e w5 ⟨rfl, h5, hbo⟩)))
    rename_i hHeld
    go_end0
    refine ⟨rfl, ?_, ((((WF.refl B b w).alloc HBB.out _).trans k1).trans k2).trans ((((WF.refl B b w2).alloc HS2.out _).trans k3).trans (k4.trans hHeld.1.out.1))⟩
    have := h5
    unfold keyM midM tailM
    rw [if_pos rfl]
    simpa using this
  · have q0 : (k == 4) = false := by simpa using h4
    have e12 : IntKind.i64.wrap (255 - k) = 255 - k := by rw [IntKind.wrap_i64]; omega
    go_enter Tryz.func99, Tryz.ntmps99
    go_wp2_with (first
      | (go_at_call 136; ((with_reducible refine (HT.out _ r [] hr (by decide) HA.out HS0.out).mono ?_); rintro e w1 ⟨rfl, h1, k1⟩; have HS1 := hid (HSZ.out _ _ k1 HS0.out); have B1 := hid (k1.blk B0.out HNE.out (by decide)); have g1 : w1.cell? ⟨w.heap.size, 1, none⟩ = some (.string f) := B1.out.cell 1))
      | (go_at_call 136; ((with_reducible refine (HT.out _ f _ (by omega) (by have := HLr.out; simp; omega) h1 HS1.out).mono ?_); rintro e w2 ⟨rfl, h2, k2⟩; have HS2 := hid (HSZ.out _ _ k2 HS1.out); have B2 := hid (k2.blk B1.out HNE.out (by decide)); have g2 : w2.cell? ⟨w.heap.size, 4, none⟩ = some (.int .i64 k) := B2.out.cell 4; have g2' : w2.cell? ⟨w.heap.size, 2, none⟩ = some (.string q) := B2.out.cell 2))
      | (go_at_call 136; ((with_reducible refine (HT.out _ q _ (by omega) (by have := HLr.out; have := HLf.out; simp; omega) h2 HS2.out).mono ?_); rintro e w3 ⟨rfl, h3, k3⟩; have HS3 := hid (HSZ.out _ _ k3 HS2.out); have B3 := hid (k3.blk B2.out HNE.out (by decide)); have g3 : w3.cell? ⟨w.heap.size, 3, none⟩ = some (.int .i64 t) := B3.out.cell 3))
      | (go_at_call 141; ((with_reducible refine (HM.out _ _ (by have := HLr.out; have := HLf.out; have := HLq.out; simp; omega) h3 HS3.out).mono ?_); rintro e w4 ⟨rfl, h4', k4⟩; have HS4 := hid (HSZ.out _ _ k4 HS3.out); have B4 := hid (k4.blk B3.out HNE.out (by decide)); have g4 : w4.cell? ⟨w.heap.size, 4, none⟩ = some (.int .i64 k) := B4.out.cell 4)))
    have HX : Hid (∀ W, Wr W B b ([] ++ (esc r.data.toList ++ [0, 1]) ++ (esc f.data.toList ++ [0, 1]) ++ (esc q.data.toList ++ [0, 1]) ++ byW 8 (9223372036854775807 - t).toNat) → B ≤ W.heap.size → Calls Tryz.prog 139 #[.pointer (some ⟨b, 0, none⟩), .int .u8 (IntKind.u8.wrap (255 - k))] W fun e w' => e = .returned .nilIface ∧ Wr w' B b (([] ++ (esc r.data.toList ++ [0, 1]) ++ (esc f.data.toList ++ [0, 1]) ++ (esc q.data.toList ++ [0, 1]) ++ byW 8 (9223372036854775807 - t).toNat) ++ [UInt8.ofNat (255 - k).toNat]) ∧ WF B b W w') :=
      fun W hW hs => HK.out W _ _ (by have := HLr.out; have := HLf.out; have := HLq.out; simp [byW_len]; omega) (by rw [IntKind.wrap_u8]; omega) hW hs
    have HN : KeyS B b w.heap.size #[.string r, .string f, .string q, .int .i64 t, .int .i64 k, .int .i64 vk, .int .i64 vn, .string vs] k w4 w4 := ⟨hid ⟨WF.refl _ _ _, B4.out, HNE.out, rfl⟩, g4⟩
    go_region_held3 (fun w' => Hid (WF B b w4 w' ∧ Blk w' w.heap.size 26 #[.string r, .string f, .string q, .int .i64 t, .int .i64 k, .int .i64 vk, .int .i64 vn, .string vs] ∧ w.heap.size ≠ b ∧ (#[.string r, .string f, .string q, .int .i64 t, .int .i64 k, .int .i64 vk, .int .i64 vn, .string vs] : Array Value)[4]? = some (.int .i64 k)) ∧ w'.cell? ⟨w.heap.size, 4, none⟩ = some (.int .i64 k))
      (first | exact HN | exact keys_drew HN | exact keys_call (by assumption) hbo | exact keys_drew (by assumption) | assumption)
      ((go_at_call 139; ((with_reducible refine (HX.out _ ?_ ?_).mono ?_); (first | exact h4' | exact LibA.IsBuffer.drew h4'); exact HS4.out; rintro e w5 ⟨rfl, h5, hbo⟩)))
    rename_i hHeld
    go_end0
    refine ⟨rfl, ?_, ((((WF.refl B b w).alloc HBB.out _).trans k1).trans k2).trans (k3.trans (k4.trans hHeld.1.out.1))⟩
    have := h5
    unfold keyM midM tailM
    rw [if_neg h4]
    simpa using this
end Go.Proofs.YtjbjdkginemedaaGreatDoor

/- codec.Encode: the bytes of every right cell. Conditions: the texts are no longer than any are, the number of the value one of 64 bits; the tables of utf8 read as they are laid. -/
namespace Go.Proofs.YtjbjdkginemedaaGreatDoor
open Go.RowKit

theorem wp_ltr {P : Program} {c : Code} {Q : Exit → Act → World → Prop} {a : Act} {w : World} (F : World → Prop) (h0 : F w) (h : ∀ W, F W → c.wp P Q a W) : c.wp P Q a w := h w h0
abbrev wr0 (W : World) : World := W.alloc (.cells #[.slice none 0 0, .int .i64 0, .int .i8 0] 114)

set_option maxRecDepth 100000 in
set_option maxHeartbeats 2000000 in
theorem encode_no (r f q vs : ByteArray) (t k vk : Int) {vn : Int} (hn : inI vn) (hf : f.size ≤ 9223372036854775807) (hv : vs.size ≤ 9223372036854775807) (w : World) (hL : LaidU w) (hr : cRight r.data.toList f.data.toList q.data.toList t k vk vn vs.data.toList = false) :
    Calls Tryz.prog 112 #[cellV r f q t k vk vn vs] w fun e w' => e = .returned (.tuple #[.slice none 0 0, .bool false]) ∧ Below w.heap.size w w' := by
  have HR : Hid (∀ W, Below w.heap.size w W → Calls Tryz.prog 98 #[cellV r f q t k vk vn vs] W fun e w' => e = .returned (.bool false) ∧ Below W.heap.size W w') := fun W hW => by
    have := cright_any r f q vs t k vk hn hf hv W (hL.below hW)
    rwa [hr] at this
  clear hL hr
  go_enter Tryz.func112, Tryz.ntmps112
  go_wp2_with (go_at_call 98; refine (HR.out _ (below_new _ _)).mono ?_; rintro e w1 ⟨rfl, hb⟩)
  go_ret2
  exact ⟨rfl, (below_new _ _).trans (hb.mono (by simp))⟩

theorem row_write {w : World} {B : Nat} {v : Value} {l : List UInt8} (h : Row w B v l) (hl : 0 < l.length) : ∃ g c, v = .slice (some ⟨g, 0, none⟩) l.length c ∧ B ≤ g ∧ ∀ j u, (bc l)[j]? = some u → w.cell? ((⟨g, 0, none⟩ : Addr).add j) = some u := by
  obtain ⟨g, c, rfl, hB, _, _, hc⟩ := h.form hl
  refine ⟨g, c, rfl, hB, fun j u hu => ?_⟩
  have hj : j < l.length := by
    rcases Nat.lt_or_ge j l.length with h1 | h1
    · exact h1
    · rw [bc_at, List.getElem?_eq_none h1] at hu; cases hu
  rw [add_zero_off, Nat.zero_add, hc j hj, ← hu, bc_at, List.getElem?_eq_getElem hj, List.getD_eq_getElem?_getD, List.getElem?_eq_getElem hj]
  rfl
set_option maxRecDepth 100000 in
set_option maxHeartbeats 4000000 in
theorem encode_other (r f q vs : ByteArray) (t k vk : Int) {vn : Int} (hn : inI vn) (hf : f.size ≤ 9223372036854775807) (hv : vs.size ≤ 9223372036854775807) (w : World) (hL : LaidU w) (hr : cRight r.data.toList f.data.toList q.data.toList t k vk vn vs.data.toList = true) (hk : ¬ k = 1) :
    Calls Tryz.prog 112 #[cellV r f q t k vk vn vs] w fun e w' => ∃ v, e = .returned (.tuple #[v, .bool true]) ∧ Row w' w.heap.size v (keyM r.data.toList f.data.toList q.data.toList t k) ∧ Below w.heap.size w w' := by
  obtain ⟨p1, p2, p3, p4, p5, p6, p7, p8, p9, pf, pv, pw⟩ := cright_parts hr
  have hr16 : r.size ≤ 16 := p2
  have hf8 : f.size ≤ 8 := p4
  have hq12 : q.size ≤ 12 := p5
  have HR : Hid (∀ W, Below w.heap.size w W → Calls Tryz.prog 98 #[cellV r f q t k vk vn vs] W fun e w' => e = .returned (.bool true) ∧ Below W.heap.size W w') := fun W hW => by
    have := cright_any r f q vs t k vk hn hf hv W (hL.below hW)
    rwa [hr] at this
  have HKy : Hid (∀ (W : World) (b : Nat), Wr W w.heap.size b [] → Calls Tryz.prog 99 #[.pointer (some ⟨b, 0, none⟩), cellV r f q t k vk vn vs] W fun e w' => e = .returned (.tuple #[]) ∧ Wr w' w.heap.size b (keyM r.data.toList f.data.toList q.data.toList t k) ∧ WF w.heap.size b W w') :=
    fun W b hW => wkey_any w.heap.size b r f q vs t k vk vn hr16 hf8 hq12 p6 p7 p8 p9 W hW (by have h1 := hW.1; have h2 := Wr.lt hW; omega)
  have HBL : Hid (∀ W W1 : World, W = w.alloc (.cells #[.string r, .string f, .string q, .int .i64 t, .int .i64 k, .int .i64 vk, .int .i64 vn, .string vs] 26) → Below W.heap.size W W1 → Blk (W1.alloc (.cells #[.slice none 0 0, .int .i64 0, .int .i8 0] 114)) w.heap.size 26 #[.string r, .string f, .string q, .int .i64 t, .int .i64 k, .int .i64 vk, .int .i64 vn, .string vs] ∧ w.heap.size < W1.heap.size ∧ Below w.heap.size w W1) := by
    intro W W1 e hb
    subst e
    have hz : w.heap.size < W1.heap.size := Nat.lt_of_lt_of_le (by simp) hb.size
    exact ⟨((Blk.new w _ _).keep hb (by simp)).keep (below_new _ _) hz, hz, (below_new _ _).trans (hb.mono (by simp))⟩
  have q0 : (k == 1) = false := by simpa using hk
  clear hL hr p1 p2 p3 p4 p5 p6 p7 p8 p9 pf pv pw
  go_enter Tryz.func112, Tryz.ntmps112
  go_upto_region 4 with (go_at_call 98; refine (HR.out _ (below_new _ _)).mono ?_; rintro e w1 ⟨rfl, hb⟩; have HB1 := hid (HBL.out _ _ rfl hb); clear hb)
  obtain ⟨b, hb⟩ : ∃ b, w1.heap.size = b := ⟨_, rfl⟩
  refine wp_ltr (fun W => Hid (Wr W w.heap.size b [] ∧ Blk W w.heap.size 26 #[.string r, .string f, .string q, .int .i64 t, .int .i64 k, .int .i64 vk, .int .i64 vn, .string vs] ∧ w.heap.size < b ∧ Below w.heap.size w W) ∧ W.cell? ⟨w.heap.size, 0, none⟩ = some (.string r) ∧ W.cell? ⟨w.heap.size, 1, none⟩ = some (.string f) ∧ W.cell? ⟨w.heap.size, 2, none⟩ = some (.string q) ∧ W.cell? ⟨w.heap.size, 3, none⟩ = some (.int .i64 t) ∧ W.cell? ⟨w.heap.size, 4, none⟩ = some (.int .i64 k) ∧ W.cell? ⟨w.heap.size, 5, none⟩ = some (.int .i64 vk) ∧ W.cell? ⟨w.heap.size, 6, none⟩ = some (.int .i64 vn) ∧ W.cell? ⟨w.heap.size, 7, none⟩ = some (.string vs)) ?_ (fun W hW => ?_)
  · obtain ⟨B1, z1, bw1⟩ := HB1.out
    exact ⟨⟨by rw [← hb]; exact wr_new w1 _ (Nat.le_of_lt z1), B1, by omega, bw1.alloc (Nat.le_of_lt z1) _⟩, B1.cell 0, B1.cell 1, B1.cell 2, B1.cell 3, B1.cell 4, B1.cell 5, B1.cell 6, B1.cell 7⟩
  obtain ⟨HW, g0, g1, g2, g3, g4, g5, g6, g7⟩ := hW
  rw [hb]
  clear HB1 hb
  go_wp2_with (first
    | (go_at_call 99; refine (HKy.out W b HW.out.1).mono ?_; rintro e w2 ⟨rfl, h2, k2⟩; clear g0 g1 g2 g3 g4 g5 g6 g7; have B2 := hid (k2.blk HW.out.2.1 (Nat.ne_of_lt HW.out.2.2.1) (by decide)); have g4 : w2.cell? ⟨w.heap.size, 4, none⟩ = some (.int .i64 k) := B2.out.cell 4)
    | (go_at_call 97; refine (wbytes_any _ _ _ _ h2).mono ?_; rintro e w3 ⟨v, rfl, h3, h4⟩))
  go_ret2
  have hz2 : w.heap.size ≤ w2.heap.size := Nat.le_trans HW.out.2.2.2.size k2.size
  exact ⟨_, rfl, h3, (HW.out.2.2.2.trans k2.below).trans (h4.mono hz2)⟩

set_option maxRecDepth 100000 in
set_option maxHeartbeats 4000000 in
theorem encode_put (r f q vs : ByteArray) (t vk : Int) {vn : Int} (hn : inI vn) (hf : f.size ≤ 9223372036854775807) (hv : vs.size ≤ 9223372036854775807) (w : World) (hL : LaidU w) (hr : cRight r.data.toList f.data.toList q.data.toList t 1 vk vn vs.data.toList = true) :
    Calls Tryz.prog 112 #[cellV r f q t 1 vk vn vs] w fun e w' => ∃ v, e = .returned (.tuple #[v, .bool true]) ∧ Row w' w.heap.size v (keyM r.data.toList f.data.toList q.data.toList t 1 ++ vEnc vk vn vs.data.toList) ∧ Below w.heap.size w w' := by
  obtain ⟨p1, p2, p3, p4, p5, p6, p7, p8, p9, pf, pv, pw⟩ := cright_parts hr
  have hr16 : r.size ≤ 16 := p2
  have hf8 : f.size ≤ 8 := p4
  have hq12 : q.size ≤ 12 := p5
  have HR : Hid (∀ W, Below w.heap.size w W → Calls Tryz.prog 98 #[cellV r f q t 1 vk vn vs] W fun e w' => e = .returned (.bool true) ∧ Below W.heap.size W w') := fun W hW => by
    have := cright_any r f q vs t 1 vk hn hf hv W (hL.below hW)
    rwa [hr] at this
  have HKy : Hid (∀ (W : World) (b : Nat), Wr W w.heap.size b [] → Calls Tryz.prog 99 #[.pointer (some ⟨b, 0, none⟩), cellV r f q t 1 vk vn vs] W fun e w' => e = .returned (.tuple #[]) ∧ Wr w' w.heap.size b (keyM r.data.toList f.data.toList q.data.toList t 1) ∧ WF w.heap.size b W w') :=
    fun W b hW => wkey_any w.heap.size b r f q vs t 1 vk vn hr16 hf8 hq12 p6 p7 p8 p9 W hW (by have h1 := hW.1; have h2 := Wr.lt hW; omega)
  have HBL : Hid (∀ W W1 : World, W = w.alloc (.cells #[.string r, .string f, .string q, .int .i64 t, .int .i64 1, .int .i64 vk, .int .i64 vn, .string vs] 26) → Below W.heap.size W W1 → Blk (W1.alloc (.cells #[.slice none 0 0, .int .i64 0, .int .i8 0] 114)) w.heap.size 26 #[.string r, .string f, .string q, .int .i64 t, .int .i64 1, .int .i64 vk, .int .i64 vn, .string vs] ∧ w.heap.size < W1.heap.size ∧ Below w.heap.size w W1) := by
    intro W W1 e hb
    subst e
    have hz : w.heap.size < W1.heap.size := Nat.lt_of_lt_of_le (by simp) hb.size
    exact ⟨((Blk.new w _ _).keep hb (by simp)).keep (below_new _ _) hz, hz, (below_new _ _).trans (hb.mono (by simp))⟩
  have hvr := pv rfl
  have HV : Hid (∀ W, Below w.heap.size w W → Calls Tryz.prog 43 #[.agg #[.int .i64 vk, .int .i64 vn, .string vs]] W fun e w' => ∃ v, e = .returned (.tuple #[v, .bool true]) ∧ Row w' W.heap.size v (vEnc vk vn vs.data.toList) ∧ Below W.heap.size W w') := fun W hW => vencode_yes vk hn vs hv hvr W (hL.below hW)
  have HLk : Hid ((keyM r.data.toList f.data.toList q.data.toList t 1).length + (vEnc vk vn vs.data.toList).length ≤ 1000000 ∧ 0 < (vEnc vk vn vs.data.toList).length) := by
    have h1 := enc_small hvr
    have h2 := enc_two hvr
    have h3 := esc_len r.data.toList
    have h4 := esc_len f.data.toList
    have h5 := esc_len q.data.toList
    have h6 := tail_len t 1
    refine ⟨?_, by omega⟩
    unfold keyM midM
    rw [if_neg (by decide)]
    simp only [List.length_append, List.length_cons, List.length_nil]
    omega
  clear hL hr p1 p2 p3 p4 p5 p6 p7 p8 p9 pf pv pw hvr
  go_enter Tryz.func112, Tryz.ntmps112
  go_upto_region 4 with (go_at_call 98; refine (HR.out _ (below_new _ _)).mono ?_; rintro e w1 ⟨rfl, hb⟩; have HB1 := hid (HBL.out _ _ rfl hb); clear hb)
  obtain ⟨b, hb⟩ : ∃ b, w1.heap.size = b := ⟨_, rfl⟩
  refine wp_ltr (fun W => Hid (Wr W w.heap.size b [] ∧ Blk W w.heap.size 26 #[.string r, .string f, .string q, .int .i64 t, .int .i64 1, .int .i64 vk, .int .i64 vn, .string vs] ∧ w.heap.size < b ∧ Below w.heap.size w W) ∧ W.cell? ⟨w.heap.size, 0, none⟩ = some (.string r) ∧ W.cell? ⟨w.heap.size, 1, none⟩ = some (.string f) ∧ W.cell? ⟨w.heap.size, 2, none⟩ = some (.string q) ∧ W.cell? ⟨w.heap.size, 3, none⟩ = some (.int .i64 t) ∧ W.cell? ⟨w.heap.size, 4, none⟩ = some (.int .i64 1) ∧ W.cell? ⟨w.heap.size, 5, none⟩ = some (.int .i64 vk) ∧ W.cell? ⟨w.heap.size, 6, none⟩ = some (.int .i64 vn) ∧ W.cell? ⟨w.heap.size, 7, none⟩ = some (.string vs)) ?_ (fun W hW => ?_)
  · obtain ⟨B1, z1, bw1⟩ := HB1.out
    exact ⟨⟨by rw [← hb]; exact wr_new w1 _ (Nat.le_of_lt z1), B1, by omega, bw1.alloc (Nat.le_of_lt z1) _⟩, B1.cell 0, B1.cell 1, B1.cell 2, B1.cell 3, B1.cell 4, B1.cell 5, B1.cell 6, B1.cell 7⟩
  obtain ⟨HW, g0, g1, g2, g3, g4, g5, g6, g7⟩ := hW
  rw [hb]
  clear HB1 hb
  go_wp2_with (first
    | (go_at_call 99; refine (HKy.out W b HW.out.1).mono ?_; rintro e w2 ⟨rfl, h2, k2⟩; clear g0 g1 g2 g3 g4 g5 g6 g7; have B2 := hid (k2.blk HW.out.2.1 (Nat.ne_of_lt HW.out.2.2.1) (by decide)); have hz2 : w.heap.size ≤ w2.heap.size := (Nat.le_trans HW.out.2.2.2.size k2.size); have hbw2 := hid (HW.out.2.2.2.trans k2.below); have g4 : w2.cell? ⟨w.heap.size, 4, none⟩ = some (.int .i64 1) := B2.out.cell 4; have g5 : w2.cell? ⟨w.heap.size, 5, none⟩ = some (.int .i64 vk) := B2.out.cell 5; have g6 : w2.cell? ⟨w.heap.size, 6, none⟩ = some (.int .i64 vn) := B2.out.cell 6; have g7 : w2.cell? ⟨w.heap.size, 7, none⟩ = some (.string vs) := B2.out.cell 7)
    | (go_at_call 43; refine (HV.out w2 hbw2.out).mono ?_; rintro e w3 ⟨v2, rfl, hR3, hb3⟩; obtain ⟨g, c, rfl, hg, hcell⟩ := row_write hR3 HLk.out.2; have HW3 := hid (LibA.IsBuffer.old h2 hb3))
    | (go_at_call 122; refine (wwrite' w.heap.size b _ _ HLk.out.1 ⟨g, 0, none⟩ _ c rfl (by have := Wr.lt h2; simp; omega) w3 HW3.out (by have := hb3.size; omega) hcell).mono ?_; rintro e w4 ⟨rfl, h4', k4⟩)
    | (go_at_call 97; refine (wbytes_any _ _ _ _ h4').mono ?_; rintro e w5 ⟨v, rfl, h3, h4⟩))
  go_ret2
  have hz4 : w.heap.size ≤ w4.heap.size := by have := k4.size; have := hb3.size; omega
  exact ⟨_, rfl, h3, ((hbw2.out.trans (hb3.mono hz2)).trans k4.below).trans (h4.mono hz4)⟩

/-- codec.Encode of a right cell. -/
theorem encode_yes (r f q vs : ByteArray) (t k vk : Int) {vn : Int} (hn : inI vn) (hf : f.size ≤ 9223372036854775807) (hv : vs.size ≤ 9223372036854775807) (w : World) (hL : LaidU w) (hr : cRight r.data.toList f.data.toList q.data.toList t k vk vn vs.data.toList = true) :
    Calls Tryz.prog 112 #[cellV r f q t k vk vn vs] w fun e w' => ∃ v, e = .returned (.tuple #[v, .bool true]) ∧ Row w' w.heap.size v (cEnc r.data.toList f.data.toList q.data.toList t k vk vn vs.data.toList) ∧ Below w.heap.size w w' := by
  unfold cEnc
  by_cases hk : k = 1
  · subst hk
    rw [if_pos rfl]
    exact encode_put r f q vs t vk hn hf hv w hL hr
  · rw [if_neg hk, List.append_nil]
    exact encode_other r f q vs t k vk hn hf hv w hL hr hk
end Go.Proofs.YtjbjdkginemedaaGreatDoor

/- codec.Key at every cell. Conditions: the texts are no longer than any are, the value's number is of 64 bits; the tables of utf8 read as they are laid. -/
namespace Go.Proofs.YtjbjdkginemedaaGreatDoor
open Go.RowKit

set_option maxRecDepth 100000 in
set_option maxHeartbeats 2000000 in
theorem key_no (r f q vs : ByteArray) (t k vk : Int) {vn : Int} (hn : inI vn) (hf : f.size ≤ 9223372036854775807) (hv : vs.size ≤ 9223372036854775807) (w : World) (hL : LaidU w) (hr : cRight r.data.toList f.data.toList q.data.toList t k vk vn vs.data.toList = false) :
    Calls Tryz.prog 39 #[cellV r f q t k vk vn vs] w fun e w' => e = .returned (.tuple #[.slice none 0 0, .bool false]) ∧ Below w.heap.size w w' := by
  have HR : Hid (∀ W, Below w.heap.size w W → Calls Tryz.prog 98 #[cellV r f q t k vk vn vs] W fun e w' => e = .returned (.bool false) ∧ Below W.heap.size W w') := fun W hW => by
    have := cright_any r f q vs t k vk hn hf hv W (hL.below hW)
    rwa [hr] at this
  clear hL hr
  go_enter Tryz.func39, Tryz.ntmps39
  go_wp2_with (go_at_call 98; refine (HR.out _ (below_new _ _)).mono ?_; rintro e w1 ⟨rfl, hb⟩)
  go_ret2
  exact ⟨rfl, (below_new _ _).trans (hb.mono (by simp))⟩

set_option maxRecDepth 100000 in
set_option maxHeartbeats 4000000 in
theorem key_yes (r f q vs : ByteArray) (t k vk : Int) {vn : Int} (hn : inI vn) (hf : f.size ≤ 9223372036854775807) (hv : vs.size ≤ 9223372036854775807) (w : World) (hL : LaidU w) (hr : cRight r.data.toList f.data.toList q.data.toList t k vk vn vs.data.toList = true) :
    Calls Tryz.prog 39 #[cellV r f q t k vk vn vs] w fun e w' => ∃ v, e = .returned (.tuple #[v, .bool true]) ∧ Row w' w.heap.size v (keyM r.data.toList f.data.toList q.data.toList t k) ∧ Below w.heap.size w w' := by
  obtain ⟨p1, p2, p3, p4, p5, p6, p7, p8, p9, pf, pv, pw⟩ := cright_parts hr
  have hr16 : r.size ≤ 16 := p2
  have hf8 : f.size ≤ 8 := p4
  have hq12 : q.size ≤ 12 := p5
  have HR : Hid (∀ W, Below w.heap.size w W → Calls Tryz.prog 98 #[cellV r f q t k vk vn vs] W fun e w' => e = .returned (.bool true) ∧ Below W.heap.size W w') := fun W hW => by
    have := cright_any r f q vs t k vk hn hf hv W (hL.below hW)
    rwa [hr] at this
  have HKy : Hid (∀ (W : World) (b : Nat), Wr W w.heap.size b [] → Calls Tryz.prog 99 #[.pointer (some ⟨b, 0, none⟩), cellV r f q t k vk vn vs] W fun e w' => e = .returned (.tuple #[]) ∧ Wr w' w.heap.size b (keyM r.data.toList f.data.toList q.data.toList t k) ∧ WF w.heap.size b W w') :=
    fun W b hW => wkey_any w.heap.size b r f q vs t k vk vn hr16 hf8 hq12 p6 p7 p8 p9 W hW (by have h1 := hW.1; have h2 := Wr.lt hW; omega)
  have HBL : Hid (∀ W W1 : World, W = w.alloc (.cells #[.string r, .string f, .string q, .int .i64 t, .int .i64 k, .int .i64 vk, .int .i64 vn, .string vs] 26) → Below W.heap.size W W1 → Blk (W1.alloc (.cells #[.slice none 0 0, .int .i64 0, .int .i8 0] 114)) w.heap.size 26 #[.string r, .string f, .string q, .int .i64 t, .int .i64 k, .int .i64 vk, .int .i64 vn, .string vs] ∧ w.heap.size < W1.heap.size ∧ Below w.heap.size w W1) := by
    intro W W1 e hb
    subst e
    have hz : w.heap.size < W1.heap.size := Nat.lt_of_lt_of_le (by simp) hb.size
    exact ⟨((Blk.new w _ _).keep hb (by simp)).keep (below_new _ _) hz, hz, (below_new _ _).trans (hb.mono (by simp))⟩
  clear hL hr p1 p2 p3 p4 p5 p6 p7 p8 p9 pf pv pw
  go_enter Tryz.func39, Tryz.ntmps39
  go_upto_region 4 with (go_at_call 98; refine (HR.out _ (below_new _ _)).mono ?_; rintro e w1 ⟨rfl, hb⟩; have HB1 := hid (HBL.out _ _ rfl hb); clear hb)
  obtain ⟨b, hb⟩ : ∃ b, w1.heap.size = b := ⟨_, rfl⟩
  refine wp_ltr (fun W => Hid (Wr W w.heap.size b [] ∧ Blk W w.heap.size 26 #[.string r, .string f, .string q, .int .i64 t, .int .i64 k, .int .i64 vk, .int .i64 vn, .string vs] ∧ w.heap.size < b ∧ Below w.heap.size w W) ∧ W.cell? ⟨w.heap.size, 0, none⟩ = some (.string r) ∧ W.cell? ⟨w.heap.size, 1, none⟩ = some (.string f) ∧ W.cell? ⟨w.heap.size, 2, none⟩ = some (.string q) ∧ W.cell? ⟨w.heap.size, 3, none⟩ = some (.int .i64 t) ∧ W.cell? ⟨w.heap.size, 4, none⟩ = some (.int .i64 k) ∧ W.cell? ⟨w.heap.size, 5, none⟩ = some (.int .i64 vk) ∧ W.cell? ⟨w.heap.size, 6, none⟩ = some (.int .i64 vn) ∧ W.cell? ⟨w.heap.size, 7, none⟩ = some (.string vs)) ?_ (fun W hW => ?_)
  · obtain ⟨B1, z1, bw1⟩ := HB1.out
    exact ⟨⟨by rw [← hb]; exact wr_new w1 _ (Nat.le_of_lt z1), B1, by omega, bw1.alloc (Nat.le_of_lt z1) _⟩, B1.cell 0, B1.cell 1, B1.cell 2, B1.cell 3, B1.cell 4, B1.cell 5, B1.cell 6, B1.cell 7⟩
  obtain ⟨HW, g0, g1, g2, g3, g4, g5, g6, g7⟩ := hW
  rw [hb]
  clear HB1 hb
  go_wp2_with (first
    | (go_at_call 99; refine (HKy.out W b HW.out.1).mono ?_; rintro e w2 ⟨rfl, h2, k2⟩; clear g0 g1 g2 g3 g4 g5 g6 g7)
    | (go_at_call 97; refine (wbytes_any _ _ _ _ h2).mono ?_; rintro e w3 ⟨v, rfl, h3, h4⟩))
  go_ret2
  have hz2 : w.heap.size ≤ w2.heap.size := Nat.le_trans HW.out.2.2.2.size k2.size
  exact ⟨_, rfl, h3, (HW.out.2.2.2.trans k2.below).trans (h4.mono hz2)⟩

end Go.Proofs.YtjbjdkginemedaaGreatDoor

/- Encode at every right cell; the cells with one put. Conditions: as each theorem names them. -/
namespace Go.Proofs.YtjbjdkginemedaaGreatDoor
open Go.RowKit

/-- How many bytes a cell has. -/
def encL (c : CT) : Nat := (cEnc c.r.data.toList c.f.data.toList c.q.data.toList c.t c.k c.vk c.vn c.s.data.toList).length
def bytesL (l : List CT) : Nat := (l.map encL).sum
theorem enc_yes (c : CT) (h : okC c) (hok : c.ok = true) (w : World) (hL : LaidU w) :
    Calls Tryz.prog 112 #[c.v] w fun e w' => ∃ g cap, e = .returned (.tuple #[.slice (some ⟨g, 0, none⟩) (encL c) cap, .bool true]) ∧ Below w.heap.size w w' := by
  refine (encode_yes c.r c.f c.q c.s c.t c.k c.vk h.2.2 h.1 h.2.1 w hL hok).mono fun e w' ⟨v, he, hr, hb⟩ => ?_
  have hp : 0 < (cEnc c.r.data.toList c.f.data.toList c.q.data.toList c.t c.k c.vk c.vn c.s.data.toList).length := by
    unfold cEnc keyM
    simp only [List.length_append, List.length_cons]
    omega
  obtain ⟨g, cap, rfl, _⟩ := hr.form hp
  exact ⟨g, cap, he, hb⟩
theorem enc_no (c : CT) (h : okC c) (hok : c.ok = false) (w : World) (hL : LaidU w) :
    Calls Tryz.prog 112 #[c.v] w fun e w' => e = .returned (.tuple #[.slice none 0 0, .bool false]) ∧ Below w.heap.size w w' := encode_no c.r c.f c.q c.s c.t c.k c.vk h.2.2 h.1 h.2.1 w hL hok
theorem ok_small {c : CT} (h : c.ok = true) : c.r.size ≤ 16 ∧ c.f.size ≤ 8 ∧ c.q.size ≤ 12 := by
  obtain ⟨_, h2, _, h4, h5, _⟩ := cright_parts h
  exact ⟨h2, h4, h5⟩

/-- The cells with c in its place. -/
def putL (l : List CT) (c : CT) : List CT := l.filter (fun x => decide (CT.cmp x c < 0)) ++ c :: l.filter (fun x => decide (0 < CT.cmp x c))
theorem putL_rise {l : List CT} (c : CT) (h : l.Pairwise (fun x y => CT.cmp x y < 0)) : (putL l c).Pairwise (fun x y => CT.cmp x y < 0) := by
  refine List.pairwise_append.2 ⟨h.filter _, List.pairwise_cons.2 ⟨fun y hy => ?_, h.filter _⟩, fun x hx y hy => ?_⟩
  · have := of_decide_eq_true (List.mem_filter.1 hy).2
    have := ct_c3.anti c y
    omega
  · have h1 := of_decide_eq_true (List.mem_filter.1 hx).2
    rcases List.mem_cons.1 hy with rfl | hy
    · exact h1
    · have h2 := of_decide_eq_true (List.mem_filter.1 hy).2
      have := ct_c3.anti c y
      exact ct_c3.lt_le h1 (by omega)
theorem putL_mem {l : List CT} {c x : CT} (h : x ∈ putL l c) : x = c ∨ x ∈ l := by
  rcases List.mem_append.1 h with h | h
  · exact .inr (List.mem_filter.1 h).1
  · rcases List.mem_cons.1 h with h | h
    · exact .inl h
    · exact .inr (List.mem_filter.1 h).1
/-- Parted at c's place. -/
theorem part_at {l : List CT} (c : CT) (h : l.Pairwise (fun x y => CT.cmp x y < 0)) : l = l.filter (fun x => decide (CT.cmp x c < 0)) ++ l.filter (fun x => !decide (CT.cmp x c < 0)) := by
  induction l with
  | nil => rfl
  | cons a l ih =>
    obtain ⟨h1, h2⟩ := List.pairwise_cons.1 h
    by_cases q : CT.cmp a c < 0
    · rw [List.filter_cons, if_pos (decide_eq_true q), List.filter_cons, if_neg (by rw [decide_eq_true q]; decide), List.cons_append, ← ih h2]
    · have hn : ∀ x ∈ l, ¬ CT.cmp x c < 0 := fun x hx z => q (ct_c3.lt_le (h1 x hx) (Int.le_of_lt z))
      rw [List.filter_cons, if_neg (by rw [decide_eq_true_iff]; exact q), List.filter_eq_nil_iff.2 (fun x hx => by rw [decide_eq_true_iff]; exact hn x hx), List.filter_eq_self.2]
      · rfl
      · intro x hx
        rcases List.mem_cons.1 hx with rfl | hx
        · rw [decide_eq_false q]; rfl
        · rw [decide_eq_false (hn x hx)]; rfl

theorem filter_two {p q : CT → Bool} : ∀ {l : List CT}, (∀ x, p x = true → q x = false) → (l.filter p).length + (l.filter q).length ≤ l.length
  | [], _ => Nat.le_refl _
  | x :: l, h => by
    have ih := filter_two (l := l) h
    rw [List.filter_cons, List.filter_cons, List.length_cons]
    cases hp : p x with
    | true => rw [h x hp]; simp only [if_true, List.length_cons, Bool.false_eq_true, if_false]; omega
    | false => cases hq : q x <;> simp only [if_true, List.length_cons, Bool.false_eq_true, if_false] <;> omega
end Go.Proofs.YtjbjdkginemedaaGreatDoor
