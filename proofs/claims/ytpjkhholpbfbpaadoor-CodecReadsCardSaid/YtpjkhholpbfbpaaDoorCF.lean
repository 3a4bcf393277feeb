/- The writer of package codec: what it leaves alone; a text's bytes, each 0 escaped, and a time, behind what a buffer holds. Conditions: buffers of at most a million bytes, texts of at most a thousand. -/
import Derived.Test.YtpjkhholpbfbpaaDoorMA
import Derived.Test.YtpjkhholpbfbpaaDoorMD
import Derived.Deep.RegionHeld3
import Derived.Lib.BufferKept
namespace Go.Proofs.YtpjkhholpbfbpaaDoor
open Go.RowKit

/-- What a writer in block b does: nothing below B, and above it nothing but to its own block and to rows of bytes. -/
structure WF (B b : Nat) (w w' : World) : Prop where
  below : Below B w w'
  kept : Lib.OthersKept 5 (some b) w w'
section
variable {B b : Nat} {w w1 w' : World}
theorem WF.refl (B b : Nat) (w : World) : WF B b w w := ⟨Below.refl _ _, Lib.OthersKept.refl _ _ _⟩
theorem WF.trans (h : WF B b w w1) (k : WF B b w1 w') : WF B b w w' := ⟨h.below.trans k.below, h.kept.trans k.kept⟩
theorem WF.drew (h : WF B b w w1) : WF B b w w1.drew := ⟨h.below.drew, h.kept.drew⟩
theorem WF.size (h : WF B b w w1) : w.heap.size ≤ w1.heap.size := h.below.size
theorem WF.alloc (h : WF B b w w1) (hB : B ≤ w.heap.size) (o : Obj) : WF B b w (w1.alloc o) := ⟨h.below.alloc (Nat.le_trans hB h.size) o, h.kept.alloc o⟩
theorem WF.of_below (h : Below w.heap.size w w') (hB : B ≤ w.heap.size) : WF B b w w' := ⟨h.mono hB, (Lib.OthersKept.refl _ _ _).below h⟩
theorem WF.blk (h : WF B b w w') {k : Nat} {T : TypeId} {xs : Array Value} (hk : Blk w k T xs) (hb : k ≠ b) (hT : T ≠ 5) : Blk w' k T xs :=
  h.kept k _ hk (by simpa using hb) (by intro c fz e; injection e with _ e2 _; exact hT e2)
theorem WF.mono {B' : Nat} (h : WF B b w w') (hb : B' ≤ B) : WF B' b w w' := ⟨h.below.mono hb, h.kept⟩
theorem hwf_refl (B b : Nat) (w : World) : Hid (WF B b w w) := WF.refl B b w
theorem hwf_drew (h : Hid (WF B b w w1)) : Hid (WF B b w w1.drew) := h.out.drew
theorem hwf_call (h : Hid (WF B b w w1)) (k : WF B b w1 w') : Hid (WF B b w w') := h.out.trans k
end

theorem wbyte' (B b : Nat) (l : List UInt8) (hl : l.length ≤ 1000000) (c : UInt8) (x : Int) (hx : x = (c.toNat : Int)) (w : World) (h : Wr w B b l) (hB : B ≤ w.heap.size) :
    Calls Tryd.prog 87 #[.pointer (some ⟨b, 0, none⟩), .int .u8 x] w fun e w' => e = .returned .nilIface ∧ Wr w' B b (l ++ [c]) ∧ WF B b w w' := by
  subst hx
  refine (Tryd.Buffer_WriteByte_at 85 (fun _ => none) B b 0 (bc l) (c.toNat : Int) w h hB (bc_one l) (by rw [bc_len]; omega)).mono ?_
  rintro e w' ⟨rfl, h1, h2, h3⟩
  refine ⟨rfl, ?_, h2, h3⟩
  unfold Wr
  rw [bc_app]
  exact h1
theorem wwrite' (B b : Nat) (l cs : List UInt8) (hl : l.length + cs.length ≤ 1000000) (a : Addr) (n c : Nat) (hn : cs.length = n) (hab : a.block ≠ b) (w : World) (h : Wr w B b l) (hB : B ≤ w.heap.size) (hsrc : ∀ j u, (bc cs)[j]? = some u → w.cell? (a.add j) = some u) :
    Calls Tryd.prog 58 #[.pointer (some ⟨b, 0, none⟩), .slice (some a) n c] w fun e w' => e = .returned (.tuple #[.int .i64 n, .nilIface]) ∧ Wr w' B b (l ++ cs) ∧ WF B b w w' := by
  refine (Tryd.Buffer_Write_at 85 (fun _ => none) B b 0 (bc l) (bc cs) a n c w h hB (bc_one l) (by rw [bc_len]; exact hn) hab hsrc (bc_one cs) (by rw [bc_len]; omega)).mono ?_
  rintro e w' ⟨rfl, h1, h2, h3⟩
  refine ⟨rfl, ?_, h2, h3⟩
  unfold Wr
  rw [bc_app]
  exact h1
theorem Wr.lt {w : World} {B b : Nat} {l : List UInt8} (h : Wr w B b l) : b < w.heap.size := LibA.IsBuffer.lt h
theorem Wr.alloc {w : World} {B b : Nat} {l : List UInt8} (h : Wr w B b l) (o : Obj) : Wr (w.alloc o) B b l := LibA.IsBuffer.alloc h o

set_option maxRecDepth 100000 in
set_option maxHeartbeats 2000000 in
theorem wtext_any (B b : Nat) (s : ByteArray) (hs : s.size ≤ 1000) (l : List UInt8) (hl : l.length ≤ 10000) (w : World) (h : Wr w B b l) (hB : B ≤ w.heap.size) :
    Calls Tryd.prog 85 #[.pointer (some ⟨b, 0, none⟩), .string s] w fun e w' => e = .returned (.tuple #[]) ∧ Wr w' B b (l ++ (esc s.data.toList ++ [0, 1])) ∧ WF B b w w' := by
  have HBB := hid hB
  have HC : Hid (∀ (W : World) (c : UInt8) (x : Int) (m : List UInt8), m.length ≤ 100000 → x = (c.toNat : Int) → Wr W B b m → B ≤ W.heap.size → Calls Tryd.prog 87 #[.pointer (some ⟨b, 0, none⟩), .int .u8 x] W fun e w' => e = .returned .nilIface ∧ Wr w' B b (m ++ [c]) ∧ WF B b W w') :=
    fun W c x m h1 hx h2 h3 => wbyte' B b m (by omega) c x hx W h2 h3
  have HE : Hid (∀ (W : World) (m : List UInt8), m.length ≤ 100000 → Wr W B b m → B ≤ W.heap.size → Calls Tryd.prog 58 #[.pointer (some ⟨b, 0, none⟩), .slice (some ⟨W.heap.size, 0, none⟩) 2 2] (W.alloc (.cells #[.int .u8 0, .int .u8 1] 5)) fun e w' => e = .returned (.tuple #[.int .i64 2, .nilIface]) ∧ Wr w' B b (m ++ [0, 1]) ∧ WF B b (W.alloc (.cells #[.int .u8 0, .int .u8 1] 5)) w') :=
    fun W m h1 h2 h3 => wwrite' B b m [0, 1] (by simp only [List.length_cons, List.length_nil]; omega) _ 2 2 rfl (by have := Wr.lt h2; simp; omega) _ (Wr.alloc h2 _) (by simp; omega) (two_new W 0 1 _ 0 1 rfl rfl)
  have HW := hid h
  clear h hB
  go_enter Tryd.func85, Tryd.ntmps85
  go_wp2
  go_loopw [7] (fun vi wr => ∃ k : Nat, k ≤ s.size ∧ vi = .int .i64 k ∧ Hid (Wr wr B b (l ++ esc (s.data.toList.take k))) ∧ Hid (WF B b w wr)) (fun vi _ => s.size - (intOf vi).toNat)
  case atStart => exact ⟨0, by omega, rfl, by simpa [esc] using HW, WF.refl _ _ _⟩
  case round =>
    obtain ⟨k, hk, rfl, hR, hbel⟩ := hrel
    have HL : Hid ((l ++ esc (s.data.toList.take k)).length ≤ 13000) := by
      have := esc_take_len s k hk
      unfold Hid
      rw [List.length_append]
      omega
    have HBr : Hid (B ≤ wr.heap.size) := Nat.le_trans HBB.out hbel.out.size
    by_cases hlt : k < s.size
    · have HS := hid (esc_snoc s k hlt)
      go_wp2
      have HN := hwf_refl B b wr
      go_region_held3 (fun w' => Hid (WF B b wr w'))
        (first | exact HN | exact hwf_drew HN | exact hwf_call (by assumption) hbo | exact hwf_drew (by assumption) | assumption)
        ((go_at_call 87; ((with_reducible refine (HC.out _ s[k] _ (l ++ esc (s.data.toList.take k)) (by have := HL.out; omega) rfl ?_ ?_).mono ?_); (first | exact hR.out | exact LibA.IsBuffer.drew hR.out); exact HBr.out; rintro e w1 ⟨rfl, h1, hbo⟩)))
      rename_i hHeld
      have HS1 : Hid (B ≤ w1.heap.size) := Nat.le_trans HBr.out hHeld.out.size
      by_cases hz : s[k] = 0
      · have q0 : ((s[k].toNat : Int) == 0) = true := by rw [hz]; rfl
        go_wp2_with (go_at_call 87; refine (HC.out _ 255 _ _ (by have := HL.out; rw [List.length_append]; simp only [List.length_cons, List.length_nil]; omega) rfl h1 HS1.out).mono ?_; rintro e w2 ⟨rfl, h2, k2⟩)
        go_roundw
        case rel =>
          refine ⟨k + 1, by omega, by go_num, ?_, (hbel.out.trans hHeld.out).trans k2⟩
          rw [HS.out, if_pos hz]
          have := h2
          simp only [List.append_assoc, List.cons_append, List.nil_append] at this ⊢
          exact this
        case measure => simp [intOf]; omega
      · have q0 : ((s[k].toNat : Int) == 0) = false := by
          have : ¬ s[k].toNat = 0 := fun e => hz (UInt8.toNat_inj.1 e)
          simp; omega
        go_wp2
        go_roundw
        case rel =>
          refine ⟨k + 1, by omega, by go_num, ?_, hbel.out.trans hHeld.out⟩
          rw [HS.out, if_neg hz, ← List.append_assoc]
          exact h1
        case measure => simp [intOf]; omega
    · obtain rfl : k = s.size := by omega
      go_wp2_with (go_at_call 58; refine (HE.out _ _ (by have := HL.out; omega) hR.out HBr.out).mono ?_; rintro e w1 ⟨rfl, h1, h2⟩)
      go_end0
      refine ⟨rfl, ?_, (hbel.out.alloc HBB.out _).trans h2⟩
      have := h1
      rwa [List.take_of_length_le (by simp), List.append_assoc] at this
end Go.Proofs.YtpjkhholpbfbpaaDoor
