/- Several texts in one: CF CM CG CHa. Conditions: as each theorem names them. -/
import Derived.Test.YtgfkobfkncpmoaaDoorP4
import Derived.Test.YtgfkobfkncpmoaaDoorP2
import Derived.Deep.RegionHeld3
import Derived.Lib.BufferKept
import Derived.Test.YtgfkobfkncpmoaaDoorP3
import Derived.Test.YtgfkobfkncpmoaaDoorP5
/- The writer of package codec: what it leaves alone; a text's bytes, each 0 escaped, and a time, behind what a buffer holds. Conditions: buffers of at most a million bytes, texts of at most a thousand. -/
namespace Go.Proofs.YtgfkobfkncpmoaaDoor
open Go.RowKit

/-- What a writer in block b does: nothing below B, and above it nothing but to its own block and to rows of bytes. -/
structure WF (B b : Nat) (w w' : World) : Prop where
  below : Below B w w'
  kept : Lib.OthersKept 5 (some b) w w'
section
variable {B b : Nat} {w w1 w' : World}
theorem WF.refl (B b : Nat) (w : World) : WF B b w w := ⟨Below.refl _ _, Lib.OthersKept.refl _ _ _⟩
theorem WF.trans (h : WF B b w w1) (k : WF B b w1 w') : WF B b w w' := ⟨h.below.trans k.below, h.kept.trans k.kept⟩
theorem WF.drew (h : WF B b w w1) : WF B b w w1.drew := ⟨h.below.drew, h.kept.drew⟩
theorem WF.size (h : WF B b w w1) : w.heap.size ≤ w1.heap.size := h.below.size
theorem WF.alloc (h : WF B b w w1) (hB : B ≤ w.heap.size) (o : Obj) : WF B b w (w1.alloc o) := ⟨h.below.alloc (Nat.le_trans hB h.size) o, h.kept.alloc o⟩
theorem WF.of_below (h : Below w.heap.size w w') (hB : B ≤ w.heap.size) : WF B b w w' := ⟨h.mono hB, (Lib.OthersKept.refl _ _ _).below h⟩
theorem WF.blk (h : WF B b w w') {k : Nat} {T : TypeId} {xs : Array Value} (hk : Blk w k T xs) (hb : k ≠ b) (hT : T ≠ 5) : Blk w' k T xs :=
  h.kept k _ hk (by simpa using hb) (by intro c fz e; injection e with _ e2 _; exact hT e2)
theorem WF.mono {B' : Nat} (h : WF B b w w') (hb : B' ≤ B) : WF B' b w w' := ⟨h.below.mono hb, h.kept⟩
theorem hwf_refl (B b : Nat) (w : World) : Hid (WF B b w w) := WF.refl B b w
theorem hwf_drew (h : Hid (WF B b w w1)) : Hid (WF B b w w1.drew) := h.out.drew
theorem hwf_call (h : Hid (WF B b w w1)) (k : WF B b w1 w') : Hid (WF B b w w') := h.out.trans k
end

theorem wbyte' (B b : Nat) (l : List UInt8) (hl : l.length ≤ 1000000) (c : UInt8) (x : Int) (hx : x = (c.toNat : Int)) (w : World) (h : Wr w B b l) (hB : B ≤ w.heap.size) :
    Calls Tryd.prog 188 #[.pointer (some ⟨b, 0, none⟩), .int .u8 x] w fun e w' => e = .returned .nilIface ∧ Wr w' B b (l ++ [c]) ∧ WF B b w w' := by
  subst hx
  refine (Tryd.Buffer_WriteByte_at 167 (fun _ => none) B b 0 (bc l) (c.toNat : Int) w h hB (bc_one l) (by rw [bc_len]; omega)).mono ?_
  rintro e w' ⟨rfl, h1, h2, h3⟩
  refine ⟨rfl, ?_, h2, h3⟩
  unfold Wr
  rw [bc_app]
  exact h1
theorem wwrite' (B b : Nat) (l cs : List UInt8) (hl : l.length + cs.length ≤ 1000000) (a : Addr) (n c : Nat) (hn : cs.length = n) (hab : a.block ≠ b) (w : World) (h : Wr w B b l) (hB : B ≤ w.heap.size) (hsrc : ∀ j u, (bc cs)[j]? = some u → w.cell? (a.add j) = some u) :
    Calls Tryd.prog 142 #[.pointer (some ⟨b, 0, none⟩), .slice (some a) n c] w fun e w' => e = .returned (.tuple #[.int .i64 n, .nilIface]) ∧ Wr w' B b (l ++ cs) ∧ WF B b w w' := by
  refine (Tryd.Buffer_Write_at 167 (fun _ => none) B b 0 (bc l) (bc cs) a n c w h hB (bc_one l) (by rw [bc_len]; exact hn) hab hsrc (bc_one cs) (by rw [bc_len]; omega)).mono ?_
  rintro e w' ⟨rfl, h1, h2, h3⟩
  refine ⟨rfl, ?_, h2, h3⟩
  unfold Wr
  rw [bc_app]
  exact h1
theorem Wr.lt {w : World} {B b : Nat} {l : List UInt8} (h : Wr w B b l) : b < w.heap.size := LibA.IsBuffer.lt h
theorem Wr.alloc {w : World} {B b : Nat} {l : List UInt8} (h : Wr w B b l) (o : Obj) : Wr (w.alloc o) B b l := LibA.IsBuffer.alloc h o

set_option maxRecDepth 100000 in
set_option maxHeartbeats 2000000 in
theorem wtext_any (B b : Nat) (s : ByteArray) (hs : s.size ≤ 1000) (l : List UInt8) (hl : l.length ≤ 10000) (w : World) (h : Wr w B b l) (hB : B ≤ w.heap.size) :
    Calls Tryd.prog 186 #[.pointer (some ⟨b, 0, none⟩), .string s] w fun e w' => e = .returned (.tuple #[]) ∧ Wr w' B b (l ++ (esc s.data.toList ++ [0, 1])) ∧ WF B b w w' := by
  have HBB := hid hB
  have HC : Hid (∀ (W : World) (c : UInt8) (x : Int) (m : List UInt8), m.length ≤ 100000 → x = (c.toNat : Int) → Wr W B b m → B ≤ W.heap.size → Calls Tryd.prog 188 #[.pointer (some ⟨b, 0, none⟩), .int .u8 x] W fun e w' => e = .returned .nilIface ∧ Wr w' B b (m ++ [c]) ∧ WF B b W w') :=
    fun W c x m h1 hx h2 h3 => wbyte' B b m (by omega) c x hx W h2 h3
  have HE : Hid (∀ (W : World) (m : List UInt8), m.length ≤ 100000 → Wr W B b m → B ≤ W.heap.size → Calls Tryd.prog 142 #[.pointer (some ⟨b, 0, none⟩), .slice (some ⟨W.heap.size, 0, none⟩) 2 2] (W.alloc (.cells #[.int .u8 0, .int .u8 1] 5)) fun e w' => e = .returned (.tuple #[.int .i64 2, .nilIface]) ∧ Wr w' B b (m ++ [0, 1]) ∧ WF B b (W.alloc (.cells #[.int .u8 0, .int .u8 1] 5)) w') :=
    fun W m h1 h2 h3 => wwrite' B b m [0, 1] (by simp only [List.length_cons, List.length_nil]; omega) _ 2 2 rfl (by have := Wr.lt h2; simp; omega) _ (Wr.alloc h2 _) (by simp; omega) (two_new W 0 1 _ 0 1 rfl rfl)
  have HW := hid h
  clear h hB
  go_enter Tryd.func186, Tryd.ntmps186
  go_wp2
  go_loopw [7] (fun vi wr => ∃ k : Nat, k ≤ s.size ∧ vi = .int .i64 k ∧ Hid (Wr wr B b (l ++ esc (s.data.toList.take k))) ∧ Hid (WF B b w wr)) (fun vi _ => s.size - (intOf vi).toNat)
  case atStart => exact ⟨0, by omega, rfl, by simpa [esc] using HW, WF.refl _ _ _⟩
  case round =>
    obtain ⟨k, hk, rfl, hR, hbel⟩ := hrel
    have HL : Hid ((l ++ esc (s.data.toList.take k)).length ≤ 13000) := by
      have := esc_take_len s k hk
      unfold Hid
      rw [List.length_append]
      omega
    have HBr : Hid (B ≤ wr.heap.size) := Nat.le_trans HBB.out hbel.out.size
    by_cases hlt : k < s.size
    · have HS := hid (esc_snoc s k hlt)
      go_wp2
      have HN := hwf_refl B b wr
      go_region_held3 (fun w' => Hid (WF B b wr w'))
        (first | exact HN | exact hwf_drew HN | exact hwf_call (by assumption) hbo | exact hwf_drew (by assumption) | assumption)
        ((go_at_call 188; ((with_reducible refine (HC.out _ s[k] _ (l ++ esc (s.data.toList.take k)) (by have := HL.out; omega) rfl ?_ ?_).mono ?_); (first | exact hR.out | exact LibA.IsBuffer.drew hR.out); exact HBr.out; rintro e w1 ⟨rfl, h1, hbo⟩)))
      rename_i hHeld
      have HS1 : Hid (B ≤ w1.heap.size) := Nat.le_trans HBr.out hHeld.out.size
      by_cases hz : s[k] = 0
      · have q0 : ((s[k].toNat : Int) == 0) = true := by rw [hz]; rfl
        go_wp2_with (go_at_call 188; refine (HC.out _ 255 _ _ (by have := HL.out; rw [List.length_append]; simp only [List.length_cons, List.length_nil]; omega) rfl h1 HS1.out).mono ?_; rintro e w2 ⟨rfl, h2, k2⟩)
        go_roundw
        case rel =>
          refine ⟨k + 1, by omega, by go_num, ?_, (hbel.out.trans hHeld.out).trans k2⟩
          rw [HS.out, if_pos hz]
          have := h2
          simp only [List.append_assoc, List.cons_append, List.nil_append] at this ⊢
          exact this
        case measure => simp [intOf]; omega
      · have q0 : ((s[k].toNat : Int) == 0) = false := by
          have : ¬ s[k].toNat = 0 := fun e => hz (UInt8.toNat_inj.1 e)
          simp; omega
        go_wp2
        go_roundw
        case rel =>
          refine ⟨k + 1, by omega, by go_num, ?_, hbel.out.trans hHeld.out⟩
          rw [HS.out, if_neg hz, ← List.append_assoc]
          exact h1
        case measure => simp [intOf]; omega
    · obtain rfl : k = s.size := by omega
      go_wp2_with (go_at_call 142; refine (HE.out _ _ (by have := HL.out; omega) hR.out HBr.out).mono ?_; rintro e w1 ⟨rfl, h1, h2⟩)
      go_end0
      refine ⟨rfl, ?_, (hbel.out.alloc HBB.out _).trans h2⟩
      have := h1
      rwa [List.take_of_length_le (by simp), List.append_assoc] at this
end Go.Proofs.YtgfkobfkncpmoaaDoor

/- Plain mathematics of cells: their keys and bytes, in order as the cells are; what of bytes is a text, and whose bytes they are. No program in it. -/
namespace Go.Proofs.YtgfkobfkncpmoaaDoor
open Go.RowKit

/-- The time and the kind. -/
def tailM (t k : Int) : List UInt8 := byW 8 (9223372036854775807 - t).toNat ++ [UInt8.ofNat (255 - k).toNat]
/-- The qualifier, or that there is none. -/
def midM (q : List UInt8) (k : Int) : List UInt8 := if k = 4 then [0, 0] else esc q ++ [0, 1]
def keyM (r f q : List UInt8) (t k : Int) : List UInt8 := esc r ++ ([0, 1] ++ (esc f ++ ([0, 1] ++ (midM q k ++ tailM t k))))
def cEnc (r f q : List UInt8) (t k vk vn : Int) (vs : List UInt8) : List UInt8 := keyM r f q t k ++ (if k = 1 then vEnc vk vn vs else [])

theorem tail_len (t k : Int) : (tailM t k).length = 9 := by unfold tailM; rw [List.length_append, byW_len]; rfl
theorem lexC_left : ∀ (p u v : List UInt8), lexC (p ++ u) (p ++ v) = lexC u v
  | [], _, _ => rfl
  | a :: p, u, v => by
    show lexC (a :: (p ++ u)) (a :: (p ++ v)) = _
    rw [lexC, if_neg (by omega), if_neg (by omega)]; exact lexC_left p u v
/-- Two rows of one length, and what stands behind them. -/
theorem lexC_both : ∀ (x y u v : List UInt8), x.length = y.length → lexC (x ++ u) (y ++ v) = if lexC x y = 0 then lexC u v else lexC x y
  | [], [], u, v, _ => by rw [if_pos (show lexC [] [] = 0 from rfl)]; rfl
  | [], _ :: _, _, _, h => by simp at h
  | _ :: _, [], _, _, h => by simp at h
  | a :: x, b :: y, u, v, h => by
    show lexC (a :: (x ++ u)) (b :: (y ++ v)) = _
    rw [lexC, lexC]
    by_cases h1 : a.toNat < b.toNat
    · rw [if_pos h1, if_pos h1, if_neg (by decide)]
    · rw [if_neg h1, if_neg h1]
      by_cases h2 : b.toNat < a.toNat
      · rw [if_pos h2, if_pos h2, if_neg (by decide)]
      · rw [if_neg h2, if_neg h2]
        exact lexC_both x y u v (by simpa using h)
/-- A family's cell is ahead of all that stands in columns. -/
theorem fam_lex (q u v : List UInt8) : lexC (0 :: 0 :: u) (esc q ++ (0 :: 1 :: v)) = -1 ∧ lexC (esc q ++ (0 :: 1 :: v)) (0 :: 0 :: u) = 1 := by
  cases q with
  | nil =>
    show lexC (0 :: 0 :: u) (0 :: 1 :: v) = -1 ∧ lexC (0 :: 1 :: v) (0 :: 0 :: u) = 1
    constructor
    · rw [lexC, if_neg (by decide), if_neg (by decide), lexC, if_pos (by decide)]
    · rw [lexC, if_neg (by decide), if_neg (by decide), lexC, if_neg (by decide), if_pos (by decide)]
  | cons d t =>
    unfold esc
    by_cases h : d = 0
    · rw [if_pos h]
      show lexC (0 :: 0 :: u) (0 :: 255 :: _) = -1 ∧ lexC (0 :: 255 :: _) (0 :: 0 :: u) = 1
      constructor
      · rw [lexC, if_neg (by decide), if_neg (by decide), lexC, if_pos (by decide)]
      · rw [lexC, if_neg (by decide), if_neg (by decide), lexC, if_neg (by decide), if_pos (by decide)]
    · rw [if_neg h]
      have : ¬ d.toNat = 0 := fun e => h (UInt8.toNat_inj.1 e)
      have z : (0 : UInt8).toNat = 0 := rfl
      show lexC (0 :: 0 :: u) (d :: _) = -1 ∧ lexC (d :: _) (0 :: 0 :: u) = 1
      constructor
      · rw [lexC, z, if_pos (by omega)]
      · rw [lexC, z, if_neg (by omega), if_pos (by omega)]
theorem cmpI_compare (a b : Int) : Lib.compareInt a b = cmpI a b := by unfold Lib.compareInt cmpI; split <;> (try split) <;> (try split) <;> omega
theorem tail_lex {t1 k1 t2 k2 : Int} (h1 : 0 ≤ t1) (h2 : t1 ≤ 1099511627776) (h3 : 0 ≤ t2) (h4 : t2 ≤ 1099511627776) (h5 : 1 ≤ k1) (h6 : k1 ≤ 4) (h7 : 1 ≤ k2) (h8 : k2 ≤ 4) :
    lexC (tailM t1 k1) (tailM t2 k2) = orI [Lib.compareInt t2 t1, Lib.compareInt k2 k1] := by
  unfold tailM
  rw [lexC_both _ _ _ _ (by rw [byW_len, byW_len]), lexC_byW (by omega) (by omega)]
  have e1 : cmpI ((9223372036854775807 - t1).toNat : Int) ((9223372036854775807 - t2).toNat : Int) = Lib.compareInt t2 t1 := by
    unfold cmpI Lib.compareInt
    split <;> (try split) <;> (try split) <;> omega
  have e2 : lexC [UInt8.ofNat (255 - k1).toNat] [UInt8.ofNat (255 - k2).toNat] = Lib.compareInt k2 k1 := by
    have n1 : (UInt8.ofNat (255 - k1).toNat).toNat = (255 - k1).toNat := by rw [UInt8.toNat_ofNat']; omega
    have n2 : (UInt8.ofNat (255 - k2).toNat).toNat = (255 - k2).toNat := by rw [UInt8.toNat_ofNat']; omega
    rw [lexC, n1, n2]
    unfold Lib.compareInt
    by_cases a : k2 < k1
    · rw [if_pos (by omega), if_pos a]
    · rw [if_neg (by omega), if_neg a]
      by_cases b : k1 < k2
      · rw [if_pos (by omega), if_pos b]
      · rw [if_neg (by omega), if_neg b]; rfl
  rw [e1, e2]
  unfold orI orI orI
  split <;> rename_i h
  · split <;> omega
  · rfl

/-- What a right cell's parts are. -/
theorem cright_parts {r f q vs : List UInt8} {t k vk vn : Int} (h : cRight r f q t k vk vn vs = true) :
    1 ≤ r.length ∧ r.length ≤ 16 ∧ nameB f = true ∧ f.length ≤ 8 ∧ q.length ≤ 12 ∧ 0 ≤ t ∧ t ≤ 1099511627776 ∧ 1 ≤ k ∧ k ≤ 4 ∧ (k = 4 → q = []) ∧ (k = 1 → vRight vk vn vs = true) ∧ (k ≠ 1 → vk = 0 ∧ vn = 0 ∧ vs = []) := by
  unfold cRight cHead at h
  simp only [Bool.and_eq_true, decide_eq_true_eq] at h
  obtain ⟨⟨⟨h1, h2⟩, h3, h4, h5, h6⟩, h7⟩ := h
  have hf : f.length ≤ 8 := by unfold nameB at h3; simp only [Bool.and_eq_true, decide_eq_true_eq] at h3; exact h3.2.2
  have hz : ∀ {vk vn : Int} {vs : List UInt8}, zeroV vk vn vs = true → vk = 0 ∧ vn = 0 ∧ vs = [] := by
    intro vk vn vs h
    unfold zeroV at h
    simp only [Bool.and_eq_true, decide_eq_true_eq, List.isEmpty_iff] at h
    exact ⟨h.1, h.2.1, h.2.2⟩
  unfold cTail at h7
  refine ⟨h1, h2, h3, hf, h4, h5, h6, ?_⟩
  by_cases k1 : k = 1
  · rw [if_pos k1] at h7
    exact ⟨by omega, by omega, fun e => by omega, fun _ => h7, fun e => absurd k1 e⟩
  · rw [if_neg k1] at h7
    by_cases k23 : k = 2 ∨ k = 3
    · rw [if_pos k23] at h7
      exact ⟨by omega, by omega, fun e => by omega, fun e => absurd e k1, fun _ => hz h7⟩
    · rw [if_neg k23] at h7
      by_cases k4 : k = 4
      · rw [if_pos k4] at h7
        simp only [Bool.and_eq_true, List.isEmpty_iff] at h7
        exact ⟨by omega, by omega, fun _ => h7.1, fun e => absurd e k1, fun _ => hz h7.2⟩
      · rw [if_neg k4] at h7; cases h7

theorem orI_cons (x : Int) (l : List Int) : orI (x :: l) = if x = 0 then orI l else x := rfl
/-- The keys of right cells are in order as the cells are. -/
theorem key_lex {r1 f1 q1 vs1 : List UInt8} {t1 k1 vk1 vn1 : Int} {r2 f2 q2 vs2 : List UInt8} {t2 k2 vk2 vn2 : Int} (h1 : cRight r1 f1 q1 t1 k1 vk1 vn1 vs1 = true) (h2 : cRight r2 f2 q2 t2 k2 vk2 vn2 vs2 = true) :
    lexC (keyM r1 f1 q1 t1 k1) (keyM r2 f2 q2 t2 k2) = cOrd r1 f1 q1 t1 k1 r2 f2 q2 t2 k2 := by
  obtain ⟨_, _, _, _, _, a1, a2, a3, a4, a5, _, _⟩ := cright_parts h1
  obtain ⟨_, _, _, _, _, b1, b2, b3, b4, b5, _, _⟩ := cright_parts h2
  have ht := tail_lex a1 a2 b1 b2 a3 a4 b3 b4
  unfold keyM cOrd
  show lexC (esc r1 ++ (0 :: 1 :: (esc f1 ++ (0 :: 1 :: (midM q1 k1 ++ tailM t1 k1))))) (esc r2 ++ (0 :: 1 :: (esc f2 ++ (0 :: 1 :: (midM q2 k2 ++ tailM t2 k2))))) = _
  rw [esc_lex, orI_cons]
  split
  · rw [esc_lex, orI_cons]
    split
    · rw [orI_cons]
      unfold midM rankC
      by_cases c1 : k1 = 4
      · rw [if_pos c1, if_pos c1]
        by_cases c2 : k2 = 4
        · rw [if_pos c2, if_pos c2, if_pos (show Lib.compareInt 0 0 = 0 from rfl), a5 c1, b5 c2, orI_cons, if_pos (show Lib.compareBytes [] [] = 0 from rfl), lexC_left, ht]
        · rw [if_neg c2, if_neg c2, if_neg (show ¬ Lib.compareInt 0 1 = 0 by decide)]
          show lexC (0 :: 0 :: tailM t1 k1) ((esc q2 ++ [0, 1]) ++ tailM t2 k2) = _
          rw [List.append_assoc]
          exact (fam_lex q2 _ _).1
      · rw [if_neg c1, if_neg c1]
        by_cases c2 : k2 = 4
        · rw [if_pos c2, if_pos c2, if_neg (show ¬ Lib.compareInt 1 0 = 0 by decide)]
          show lexC ((esc q1 ++ [0, 1]) ++ tailM t1 k1) (0 :: 0 :: tailM t2 k2) = _
          rw [List.append_assoc]
          exact (fam_lex q1 _ _).2
        · rw [if_neg c2, if_neg c2, if_pos (show Lib.compareInt 1 1 = 0 from rfl), List.append_assoc, List.append_assoc]
          show lexC (esc q1 ++ (0 :: 1 :: tailM t1 k1)) (esc q2 ++ (0 :: 1 :: tailM t2 k2)) = _
          rw [esc_lex, orI_cons, ht]
    · rfl
  · rfl

theorem compareInt_zero {a b : Int} (h : Lib.compareInt a b = 0) : a = b := by unfold Lib.compareInt at h; split at h <;> (try split at h) <;> omega
/-- Only a cell's own place is its place. -/
theorem cOrd_zero {r1 f1 q1 : List UInt8} {t1 k1 : Int} {r2 f2 q2 : List UInt8} {t2 k2 : Int} (h : cOrd r1 f1 q1 t1 k1 r2 f2 q2 t2 k2 = 0) : r1 = r2 ∧ f1 = f2 ∧ q1 = q2 ∧ t1 = t2 ∧ k1 = k2 := by
  unfold cOrd at h
  rw [orI_cons] at h
  split at h
  · rename_i e1
    rw [orI_cons] at h
    split at h
    · rename_i e2
      rw [orI_cons] at h
      split at h
      · rw [orI_cons] at h
        split at h
        · rename_i e3
          rw [orI_cons] at h
          split at h
          · rename_i e4
            rw [orI_cons] at h
            split at h
            · rename_i e5
              exact ⟨cmpB_zero _ _ e1, cmpB_zero _ _ e2, cmpB_zero _ _ e3, (compareInt_zero e4).symm, (compareInt_zero e5).symm⟩
            · contradiction
          · contradiction
        · contradiction
      · contradiction
    · contradiction
  · contradiction

/-- The text at the beginning of bytes, and what stands behind it. -/
def rdT : List UInt8 → Option (List UInt8 × List UInt8)
  | [] => none
  | [_] => none
  | x :: y :: r => if x = 0 then (if y = 1 then some ([], r) else if y = 255 then (rdT r).map (fun p => (0 :: p.1, p.2)) else none) else (rdT (y :: r)).map fun p => (x :: p.1, p.2)
theorem rdT_other {x : UInt8} (h : ¬ x = 0) (l : List UInt8) : rdT (x :: l) = (rdT l).map fun p => (x :: p.1, p.2) := by
  cases l with
  | nil => rfl
  | cons y r => rw [rdT, if_neg h]
theorem rdT_esc : ∀ (s u : List UInt8), rdT (esc s ++ (0 :: 1 :: u)) = some (s, u)
  | [], u => by show rdT (0 :: 1 :: u) = _; rw [rdT, if_pos rfl, if_pos rfl]
  | c :: s, u => by
    unfold esc
    by_cases h : c = 0
    · rw [if_pos h]
      show rdT (0 :: 255 :: (esc s ++ (0 :: 1 :: u))) = _
      rw [rdT, if_pos rfl, if_neg (by decide), if_pos rfl, rdT_esc s u, h]; rfl
    · rw [if_neg h]
      show rdT (c :: (esc s ++ (0 :: 1 :: u))) = _
      rw [rdT_other h, rdT_esc s u]; rfl
theorem rdT_back : ∀ (n : Nat) (l s u : List UInt8), l.length ≤ n → rdT l = some (s, u) → l = esc s ++ (0 :: 1 :: u)
  | 0, l, s, u, hl, h => by
    have : l = [] := List.length_eq_zero_iff.1 (by omega)
    subst this; cases h
  | n + 1, [], s, u, hl, h => by cases h
  | n + 1, [x], s, u, hl, h => by cases h
  | n + 1, x :: y :: r, s, u, hl, h => by
    by_cases hx : x = 0
    · rw [rdT, if_pos hx] at h
      by_cases h1 : y = 1
      · rw [if_pos h1] at h
        cases h
        rw [hx, h1]; rfl
      · rw [if_neg h1] at h
        by_cases h2 : y = 255
        · rw [if_pos h2] at h
          cases hr : rdT r with
          | none => rw [hr] at h; cases h
          | some p =>
            obtain ⟨s', u'⟩ := p
            rw [hr] at h
            cases h
            rw [rdT_back n r s' u' (by simp at hl; omega) hr, hx, h2]; rfl
        · rw [if_neg h2] at h; cases h
    · rw [rdT_other hx] at h
      cases hr : rdT (y :: r) with
      | none => rw [hr] at h; cases h
      | some p =>
        obtain ⟨s', u'⟩ := p
        rw [hr] at h
        cases h
        rw [rdT_back n (y :: r) s' u' (by simp at hl ⊢; omega) hr]
        show _ = (if x = 0 then 0 :: 255 :: esc s' else x :: esc s') ++ _
        rw [if_neg hx]; rfl
theorem rdT_rest {l s u : List UInt8} (h : rdT l = some (s, u)) : l = esc s ++ (0 :: 1 :: u) := rdT_back _ l s u (Nat.le_refl _) h
end Go.Proofs.YtgfkobfkncpmoaaDoor

/- The writer's time and key. Conditions: buffers of at most ten thousand bytes; the parts as short as a right cell's are. -/
namespace Go.Proofs.YtgfkobfkncpmoaaDoor
open Go.RowKit

theorem time_byte (r i : Nat) (hi : i < 8) : ((r : Int) / 2 ^ (8 * (7 - (i : Int))).toNat % 256) = ((UInt8.ofNat (r / 256 ^ (8 - 1 - i) % 256)).toNat : Int) := by
  have e : (8 * (7 - (i : Int))).toNat = 8 * (7 - i) := by omega
  rw [e, byte_at, show 8 - 1 - i = 7 - i by omega]

set_option maxRecDepth 100000 in
set_option maxHeartbeats 2000000 in
theorem wtime_any (B b : Nat) (t : Int) (h0 : 0 ≤ t) (h1 : t ≤ 1099511627776) (l : List UInt8) (hl : l.length ≤ 10000) (w : World) (h : Wr w B b l) (hB : B ≤ w.heap.size) :
    Calls Tryd.prog 187 #[.pointer (some ⟨b, 0, none⟩), .int .i64 t] w fun e w' => e = .returned (.tuple #[]) ∧ Wr w' B b (l ++ byW 8 (9223372036854775807 - t).toNat) ∧ WF B b w w' := by
  have HBB := hid hB
  have HW := hid h
  obtain ⟨r, hr⟩ : ∃ r : Nat, 9223372036854775807 - t = (r : Int) := ⟨(9223372036854775807 - t).toNat, by omega⟩
  have hr1 : r < 9223372036854775808 := by omega
  have HC : Hid (∀ (W : World) (i : Nat) (x : Int), i < 8 → x = ((r : Int) / 2 ^ (8 * (7 - (i : Int))).toNat % 256) → Wr W B b (l ++ (byW 8 r).take i) → B ≤ W.heap.size → Calls Tryd.prog 188 #[.pointer (some ⟨b, 0, none⟩), .int .u8 x] W fun e w' => e = .returned .nilIface ∧ Wr w' B b (l ++ (byW 8 r).take (i + 1)) ∧ WF B b W w') := by
    intro W i x hi hx h2 h3
    have := wbyte' B b (l ++ (byW 8 r).take i) (by have := byW_len 8 r; simp; omega) (UInt8.ofNat (r / 256 ^ (8 - 1 - i) % 256)) x (by rw [hx, time_byte r i hi]) W h2 h3
    rwa [List.append_assoc, ← byW_take 8 r i hi] at this
  rw [hr, Int.toNat_natCast]
  clear h hB
  go_enter Tryd.func187, Tryd.ntmps187
  go_wp2
  go_loopw [9] (fun vi wr => ∃ i : Nat, i ≤ 8 ∧ vi = .int .i64 i ∧ Hid (Wr wr B b (l ++ (byW 8 r).take i)) ∧ Hid (WF B b w wr)) (fun vi _ => 8 - (intOf vi).toNat)
  case atStart => exact ⟨0, by omega, rfl, by simpa using HW, WF.refl _ _ _⟩
  case round =>
    obtain ⟨i, hi, rfl, hR, hbel⟩ := hrel
    have HBr : Hid (B ≤ wr.heap.size) := Nat.le_trans HBB.out hbel.out.size
    by_cases hlt : i < 8
    · have HCi : Hid (∀ x : Int, x = ((r : Int) / 2 ^ (8 * (7 - (i : Int))).toNat % 256) → Calls Tryd.prog 188 #[.pointer (some ⟨b, 0, none⟩), .int .u8 x] wr fun e w' => e = .returned .nilIface ∧ Wr w' B b (l ++ (byW 8 r).take (i + 1)) ∧ WF B b wr w') := fun x hx => HC.out wr i x hlt hx hR.out HBr.out
      have HCd : Hid (∀ x : Int, x = ((r : Int) / 2 ^ (8 * (7 - (i : Int))).toNat % 256) → Calls Tryd.prog 188 #[.pointer (some ⟨b, 0, none⟩), .int .u8 x] wr.drew fun e w' => e = .returned .nilIface ∧ Wr w' B b (l ++ (byW 8 r).take (i + 1)) ∧ WF B b wr.drew w') := fun x hx => HC.out wr.drew i x hlt hx hR.out HBr.out
      have e11 : Hid (IntKind.u8.wrap ((r : Int) / 2 ^ (8 * (7 - (i : Int))).toNat) = (r : Int) / 2 ^ (8 * (7 - (i : Int))).toNat % 256) := by unfold Hid; rw [IntKind.wrap_u8]
      have e7 : IntKind.i64.wrap (7 - (i : Int)) = 7 - (i : Int) := by rw [IntKind.wrap_i64]; omega
      have e8 : IntKind.i64.wrap (8 * (7 - (i : Int))) = 8 * (7 - (i : Int)) := by rw [IntKind.wrap_i64]; omega
      have e9 : (0 : Int) ≤ 8 * (7 - (i : Int)) := by omega
      have e10 : ¬ (8 * (7 - (i : Int)) < 0) := by omega
      go_wp2
      have HN := hwf_refl B b wr
      go_region_held3 (fun w' => Hid (WF B b wr w'))
        (first | exact HN | exact hwf_drew HN | exact hwf_call (by assumption) hbo | exact hwf_drew (by assumption) | assumption)
        (first
          | (go_at_call 188; ((with_reducible refine (HCi.out _ e11.out).mono ?_); rintro e w1 ⟨rfl, h1, hbo⟩))
          | (go_at_call 188; ((with_reducible refine (HCd.out _ e11.out).mono ?_); rintro e w1 ⟨rfl, h1, hbo⟩)))
      rename_i hHeld
      go_wp2
      go_roundw
      case rel => exact ⟨i + 1, by omega, by go_num, h1, hbel.out.trans hHeld.out⟩
      case measure => simp [intOf]; omega
    · obtain rfl : i = 8 := by omega
      go_wp2
      go_end0
      refine ⟨rfl, ?_, hbel.out⟩
      have := hR.out
      rwa [List.take_of_length_le (by rw [byW_len]; exact Nat.le_refl _)] at this

/-- A cell in block cb, while a writer writes. -/
abbrev KeyS (B b cb : Nat) (xs : Array Value) (k : Int) (W0 w' : World) : Prop := Hid (WF B b W0 w' ∧ Blk w' cb 28 xs ∧ cb ≠ b ∧ xs[4]? = some (.int .i64 k)) ∧ w'.cell? ⟨cb, 4, none⟩ = some (.int .i64 k)
theorem keys_drew {B b cb : Nat} {xs : Array Value} {k : Int} {W0 W : World} (h : KeyS B b cb xs k W0 W) : KeyS B b cb xs k W0 W.drew := ⟨hid ⟨h.1.out.1.drew, h.1.out.2⟩, h.2⟩
theorem keys_call {B b cb : Nat} {xs : Array Value} {k : Int} {W0 W W' : World} (h : KeyS B b cb xs k W0 W) (hk : WF B b W W') : KeyS B b cb xs k W0 W' := by
  obtain ⟨h1, h2, h3, h4⟩ := h.1.out
  have hb := hk.blk h2 h3 (by decide)
  exact ⟨hid ⟨h1.trans hk, hb, h3, h4⟩, (hb.cell 4).trans h4⟩

set_option maxRecDepth 100000 in
set_option maxHeartbeats 4000000 in
theorem wkey_any (B b : Nat) (r f q vs : ByteArray) (t k vk vn : Int) (hr : r.size ≤ 16) (hf : f.size ≤ 8) (hq : q.size ≤ 12) (h0 : 0 ≤ t) (h1 : t ≤ 1099511627776) (hk1 : 1 ≤ k) (hk4 : k ≤ 4) (w : World) (h : Wr w B b []) (hB : B ≤ w.heap.size) :
    Calls Tryd.prog 141 #[.pointer (some ⟨b, 0, none⟩), cellV r f q t k vk vn vs] w fun e w' => e = .returned (.tuple #[]) ∧ Wr w' B b (keyM r.data.toList f.data.toList q.data.toList t k) ∧ WF B b w w' := by
  have HBB := hid hB
  have hbl := Wr.lt h
  have HNE : Hid (w.heap.size ≠ b) := by unfold Hid; omega
  have HL : ∀ s : ByteArray, (esc s.data.toList).length ≤ 2 * s.size := fun s => esc_len _
  have HT : Hid (∀ (W : World) (s : ByteArray) (m : List UInt8), s.size ≤ 16 → m.length ≤ 1000 → Wr W B b m → B ≤ W.heap.size → Calls Tryd.prog 186 #[.pointer (some ⟨b, 0, none⟩), .string s] W fun e w' => e = .returned (.tuple #[]) ∧ Wr w' B b (m ++ (esc s.data.toList ++ [0, 1])) ∧ WF B b W w') :=
    fun W s m hs hm h2 h3 => wtext_any B b s (by omega) m (by omega) W h2 h3
  have HM : Hid (∀ (W : World) (m : List UInt8), m.length ≤ 1000 → Wr W B b m → B ≤ W.heap.size → Calls Tryd.prog 187 #[.pointer (some ⟨b, 0, none⟩), .int .i64 t] W fun e w' => e = .returned (.tuple #[]) ∧ Wr w' B b (m ++ byW 8 (9223372036854775807 - t).toNat) ∧ WF B b W w') :=
    fun W m hm h2 h3 => wtime_any B b t h0 h1 m (by omega) W h2 h3
  have HK : Hid (∀ (W : World) (m : List UInt8) (x : Int), m.length ≤ 1000 → x = 255 - k → Wr W B b m → B ≤ W.heap.size → Calls Tryd.prog 188 #[.pointer (some ⟨b, 0, none⟩), .int .u8 x] W fun e w' => e = .returned .nilIface ∧ Wr w' B b (m ++ [UInt8.ofNat (255 - k).toNat]) ∧ WF B b W w') :=
    fun W m x hm hx h2 h3 => wbyte' B b m (by omega) _ x (by rw [hx, UInt8.toNat_ofNat']; omega) W h2 h3
  have HE : Hid (∀ (W : World) (m : List UInt8), m.length ≤ 1000 → Wr W B b m → B ≤ W.heap.size → Calls Tryd.prog 142 #[.pointer (some ⟨b, 0, none⟩), .slice (some ⟨W.heap.size, 0, none⟩) 2 2] (W.alloc (.cells #[.int .u8 0, .int .u8 0] 5)) fun e w' => e = .returned (.tuple #[.int .i64 2, .nilIface]) ∧ Wr w' B b (m ++ [0, 0]) ∧ WF B b (W.alloc (.cells #[.int .u8 0, .int .u8 0] 5)) w') :=
    fun W m h1 h2 h3 => wwrite' B b m [0, 0] (by simp only [List.length_cons, List.length_nil]; omega) _ 2 2 rfl (by have := Wr.lt h2; simp; omega) _ (Wr.alloc h2 _) (by simp; omega) (two_new W 0 0 _ 0 0 rfl rfl)
  have HA := hid (Wr.alloc h (.cells #[.string r, .string f, .string q, .int .i64 t, .int .i64 k, .int .i64 vk, .int .i64 vn, .string vs] 28))
  have B0 := hid (Blk.new w 28 #[.string r, .string f, .string q, .int .i64 t, .int .i64 k, .int .i64 vk, .int .i64 vn, .string vs])
  have HLr := hid (HL r)
  have HLf := hid (HL f)
  have HLq := hid (HL q)
  clear h hB hbl HL
  have HSZ : Hid (∀ W W' : World, WF B b W W' → B ≤ W.heap.size → B ≤ W'.heap.size) := fun W W' h h' => Nat.le_trans h' h.size
  have HS0 : Hid (B ≤ (w.alloc (.cells #[.string r, .string f, .string q, .int .i64 t, .int .i64 k, .int .i64 vk, .int .i64 vn, .string vs] 28)).heap.size) := by have := HBB.out; unfold Hid; simp; omega
  by_cases h4 : k = 4
  · subst h4
    go_enter Tryd.func141, Tryd.ntmps141
    go_wp2_with (first
      | (go_at_call 186; ((with_reducible refine (HT.out _ r [] hr (by decide) HA.out HS0.out).mono ?_); rintro e w1 ⟨rfl, h1, k1⟩; have HS1 := hid (HSZ.out _ _ k1 HS0.out); have B1 := hid (k1.blk B0.out HNE.out (by decide)); have g1 : w1.cell? ⟨w.heap.size, 1, none⟩ = some (.string f) := B1.out.cell 1))
      | (go_at_call 186; ((with_reducible refine (HT.out _ f _ (by omega) (by have := HLr.out; simp; omega) h1 HS1.out).mono ?_); rintro e w2 ⟨rfl, h2, k2⟩; have HS2 := hid (HSZ.out _ _ k2 HS1.out); have B2 := hid (k2.blk B1.out HNE.out (by decide)); have g2 : w2.cell? ⟨w.heap.size, 4, none⟩ = some (.int .i64 4) := B2.out.cell 4))
      | (go_at_call 142; ((refine (HE.out w2 _ (by have := HLr.out; have := HLf.out; simp; omega) h2 HS2.out).mono ?_); rintro e w3 ⟨rfl, h3, k3⟩; have HS3 := hid (HSZ.out _ _ k3 (by have := HS2.out; simp; omega)); have B3 := hid (k3.blk (B2.out.keep (below_new w2 _) B2.out.lt) HNE.out (by decide)); have g3 : w3.cell? ⟨w.heap.size, 3, none⟩ = some (.int .i64 t) := B3.out.cell 3))
      | (go_at_call 187; ((with_reducible refine (HM.out _ _ (by have := HLr.out; have := HLf.out; simp; omega) h3 HS3.out).mono ?_); rintro e w4 ⟨rfl, h4, k4⟩; have HS4 := hid (HSZ.out _ _ k4 HS3.out); have B4 := hid (k4.blk B3.out HNE.out (by decide)); have g4 : w4.cell? ⟨w.heap.size, 4, none⟩ = some (.int .i64 4) := B4.out.cell 4)))
    have HX : Hid (∀ W, Wr W B b ([] ++ (esc r.data.toList ++ [0, 1]) ++ (esc f.data.toList ++ [0, 1]) ++ [0, 0] ++ byW 8 (9223372036854775807 - t).toNat) → B ≤ W.heap.size → Calls Tryd.prog 188 #[.pointer (some ⟨b, 0, none⟩), .int .u8 (IntKind.u8.wrap (IntKind.i64.wrap 251))] W fun e w' => e = .returned .nilIface ∧ Wr w' B b (([] ++ (esc r.data.toList ++ [0, 1]) ++ (esc f.data.toList ++ [0, 1]) ++ [0, 0] ++ byW 8 (9223372036854775807 - t).toNat) ++ [UInt8.ofNat (255 - (4 : Int)).toNat]) ∧ WF B b W w') :=
      fun W hW hs => HK.out W _ _ (by have := HLr.out; have := HLf.out; simp [byW_len]; omega) rfl hW hs
    have HN : KeyS B b w.heap.size #[.string r, .string f, .string q, .int .i64 t, .int .i64 4, .int .i64 vk, .int .i64 vn, .string vs] 4 w4 w4 := ⟨hid ⟨WF.refl _ _ _, B4.out, HNE.out, rfl⟩, g4⟩
    go_region_held3 (fun w' => Hid (WF B b w4 w' ∧ Blk w' w.heap.size 28 #[.string r, .string f, .string q, .int .i64 t, .int .i64 4, .int .i64 vk, .int .i64 vn, .string vs] ∧ w.heap.size ≠ b ∧ (#[.string r, .string f, .string q, .int .i64 t, .int .i64 4, .int .i64 vk, .int .i64 vn, .string vs] : Array Value)[4]? = some (.int .i64 4)) ∧ w'.cell? ⟨w.heap.size, 4, none⟩ = some (.int .i64 4))
      (first | exact HN | exact keys_drew HN | exact keys_call (by assumption) hbo | exact keys_drew (by assumption) | assumption)
      ((go_at_call 188; ((with_reducible refine (HX.out _ ?_ ?_).mono ?_); (first | exact h4 | exact LibA.IsBuffer.drew h4); exact HS4.out; rintro e w5 ⟨rfl, h5, hbo⟩)))
    rename_i hHeld
    go_end0
    refine ⟨rfl, ?_, ((((WF.refl B b w).alloc HBB.out _).trans k1).trans k2).trans ((((WF.refl B b w2).alloc HS2.out _).trans k3).trans (k4.trans hHeld.1.out.1))⟩
    have := h5
    unfold keyM midM tailM
    rw [if_pos rfl]
    simpa using this
  · have q0 : (k == 4) = false := by simpa using h4
    have e12 : IntKind.i64.wrap (255 - k) = 255 - k := by rw [IntKind.wrap_i64]; omega
    go_enter Tryd.func141, Tryd.ntmps141
    go_wp2_with (first
      | (go_at_call 186; ((with_reducible refine (HT.out _ r [] hr (by decide) HA.out HS0.out).mono ?_); rintro e w1 ⟨rfl, h1, k1⟩; have HS1 := hid (HSZ.out _ _ k1 HS0.out); have B1 := hid (k1.blk B0.out HNE.out (by decide)); have g1 : w1.cell? ⟨w.heap.size, 1, none⟩ = some (.string f) := B1.out.cell 1))
      | (go_at_call 186; ((with_reducible refine (HT.out _ f _ (by omega) (by have := HLr.out; simp; omega) h1 HS1.out).mono ?_); rintro e w2 ⟨rfl, h2, k2⟩; have HS2 := hid (HSZ.out _ _ k2 HS1.out); have B2 := hid (k2.blk B1.out HNE.out (by decide)); have g2 : w2.cell? ⟨w.heap.size, 4, none⟩ = some (.int .i64 k) := B2.out.cell 4; have g2' : w2.cell? ⟨w.heap.size, 2, none⟩ = some (.string q) := B2.out.cell 2))
      | (go_at_call 186; ((with_reducible refine (HT.out _ q _ (by omega) (by have := HLr.out; have := HLf.out; simp; omega) h2 HS2.out).mono ?_); rintro e w3 ⟨rfl, h3, k3⟩; have HS3 := hid (HSZ.out _ _ k3 HS2.out); have B3 := hid (k3.blk B2.out HNE.out (by decide)); have g3 : w3.cell? ⟨w.heap.size, 3, none⟩ = some (.int .i64 t) := B3.out.cell 3))
      | (go_at_call 187; ((with_reducible refine (HM.out _ _ (by have := HLr.out; have := HLf.out; have := HLq.out; simp; omega) h3 HS3.out).mono ?_); rintro e w4 ⟨rfl, h4', k4⟩; have HS4 := hid (HSZ.out _ _ k4 HS3.out); have B4 := hid (k4.blk B3.out HNE.out (by decide)); have g4 : w4.cell? ⟨w.heap.size, 4, none⟩ = some (.int .i64 k) := B4.out.cell 4)))
    have HX : Hid (∀ W, Wr W B b ([] ++ (esc r.data.toList ++ [0, 1]) ++ (esc f.data.toList ++ [0, 1]) ++ (esc q.data.toList ++ [0, 1]) ++ byW 8 (9223372036854775807 - t).toNat) → B ≤ W.heap.size → Calls Tryd.prog 188 #[.pointer (some ⟨b, 0, none⟩), .int .u8 (IntKind.u8.wrap (255 - k))] W fun e w' => e = .returned .nilIface ∧ Wr w' B b (([] ++ (esc r.data.toList ++ [0, 1]) ++ (esc f.data.toList ++ [0, 1]) ++ (esc q.data.toList ++ [0, 1]) ++ byW 8 (9223372036854775807 - t).toNat) ++ [UInt8.ofNat (255 - k).toNat]) ∧ WF B b W w') :=
      fun W hW hs => HK.out W _ _ (by have := HLr.out; have := HLf.out; have := HLq.out; simp [byW_len]; omega) (by rw [IntKind.wrap_u8]; omega) hW hs
    have HN : KeyS B b w.heap.size #[.string r, .string f, .string q, .int .i64 t, .int .i64 k, .int .i64 vk, .int .i64 vn, .string vs] k w4 w4 := ⟨hid ⟨WF.refl _ _ _, B4.out, HNE.out, rfl⟩, g4⟩
    go_region_held3 (fun w' => Hid (WF B b w4 w' ∧ Blk w' w.heap.size 28 #[.string r, .string f, .string q, .int .i64 t, .int .i64 k, .int .i64 vk, .int .i64 vn, .string vs] ∧ w.heap.size ≠ b ∧ (#[.string r, .string f, .string q, .int .i64 t, .int .i64 k, .int .i64 vk, .int .i64 vn, .string vs] : Array Value)[4]? = some (.int .i64 k)) ∧ w'.cell? ⟨w.heap.size, 4, none⟩ = some (.int .i64 k))
      (first | exact HN | exact keys_drew HN | exact keys_call (by assumption) hbo | exact keys_drew (by assumption) | assumption)
      ((go_at_call 188; ((with_reducible refine (HX.out _ ?_ ?_).mono ?_); (first | exact h4' | exact LibA.IsBuffer.drew h4'); exact HS4.out; rintro e w5 ⟨rfl, h5, hbo⟩)))
    rename_i hHeld
    go_end0
    refine ⟨rfl, ?_, ((((WF.refl B b w).alloc HBB.out _).trans k1).trans k2).trans (k3.trans (k4.trans hHeld.1.out.1))⟩
    have := h5
    unfold keyM midM tailM
    rw [if_neg h4]
    simpa using this
end Go.Proofs.YtgfkobfkncpmoaaDoor

/- codec.Encode: the bytes of every right cell. Conditions: the texts are no longer than any are, the number of the value one of 64 bits; the tables of utf8 read as they are laid. -/
namespace Go.Proofs.YtgfkobfkncpmoaaDoor
open Go.RowKit

theorem wp_ltr {P : Program} {c : Code} {Q : Exit → Act → World → Prop} {a : Act} {w : World} (F : World → Prop) (h0 : F w) (h : ∀ W, F W → c.wp P Q a W) : c.wp P Q a w := h w h0
abbrev wr0 (W : World) : World := W.alloc (.cells #[.slice none 0 0, .int .i64 0, .int .i8 0] 167)

set_option maxRecDepth 100000 in
set_option maxHeartbeats 2000000 in
theorem encode_no (r f q vs : ByteArray) (t k vk : Int) {vn : Int} (hn : inI vn) (hf : f.size ≤ 9223372036854775807) (hv : vs.size ≤ 9223372036854775807) (w : World) (hL : LaidU w) (hr : cRight r.data.toList f.data.toList q.data.toList t k vk vn vs.data.toList = false) :
    Calls Tryd.prog 77 #[cellV r f q t k vk vn vs] w fun e w' => e = .returned (.tuple #[.slice none 0 0, .bool false]) ∧ Below w.heap.size w w' := by
  have HR : Hid (∀ W, Below w.heap.size w W → Calls Tryd.prog 80 #[cellV r f q t k vk vn vs] W fun e w' => e = .returned (.bool false) ∧ Below W.heap.size W w') := fun W hW => by
    have := cright_any r f q vs t k vk hn hf hv W (hL.below hW)
    rwa [hr] at this
  clear hL hr
  go_enter Tryd.func77, Tryd.ntmps77
  go_wp2_with (go_at_call 80; refine (HR.out _ (below_new _ _)).mono ?_; rintro e w1 ⟨rfl, hb⟩)
  go_ret2
  exact ⟨rfl, (below_new _ _).trans (hb.mono (by simp))⟩

theorem row_write {w : World} {B : Nat} {v : Value} {l : List UInt8} (h : Row w B v l) (hl : 0 < l.length) : ∃ g c, v = .slice (some ⟨g, 0, none⟩) l.length c ∧ B ≤ g ∧ ∀ j u, (bc l)[j]? = some u → w.cell? ((⟨g, 0, none⟩ : Addr).add j) = some u := by
  obtain ⟨g, c, rfl, hB, _, _, hc⟩ := h.form hl
  refine ⟨g, c, rfl, hB, fun j u hu => ?_⟩
  have hj : j < l.length := by
    rcases Nat.lt_or_ge j l.length with h1 | h1
    · exact h1
    · rw [bc_at, List.getElem?_eq_none h1] at hu; cases hu
  rw [add_zero_off, Nat.zero_add, hc j hj, ← hu, bc_at, List.getElem?_eq_getElem hj, List.getD_eq_getElem?_getD, List.getElem?_eq_getElem hj]
  rfl
set_option maxRecDepth 100000 in
set_option maxHeartbeats 4000000 in
theorem encode_other (r f q vs : ByteArray) (t k vk : Int) {vn : Int} (hn : inI vn) (hf : f.size ≤ 9223372036854775807) (hv : vs.size ≤ 9223372036854775807) (w : World) (hL : LaidU w) (hr : cRight r.data.toList f.data.toList q.data.toList t k vk vn vs.data.toList = true) (hk : ¬ k = 1) :
    Calls Tryd.prog 77 #[cellV r f q t k vk vn vs] w fun e w' => ∃ v, e = .returned (.tuple #[v, .bool true]) ∧ Row w' w.heap.size v (keyM r.data.toList f.data.toList q.data.toList t k) ∧ Below w.heap.size w w' := by
  obtain ⟨p1, p2, p3, p4, p5, p6, p7, p8, p9, pf, pv, pw⟩ := cright_parts hr
  have hr16 : r.size ≤ 16 := p2
  have hf8 : f.size ≤ 8 := p4
  have hq12 : q.size ≤ 12 := p5
  have HR : Hid (∀ W, Below w.heap.size w W → Calls Tryd.prog 80 #[cellV r f q t k vk vn vs] W fun e w' => e = .returned (.bool true) ∧ Below W.heap.size W w') := fun W hW => by
    have := cright_any r f q vs t k vk hn hf hv W (hL.below hW)
    rwa [hr] at this
  have HKy : Hid (∀ (W : World) (b : Nat), Wr W w.heap.size b [] → Calls Tryd.prog 141 #[.pointer (some ⟨b, 0, none⟩), cellV r f q t k vk vn vs] W fun e w' => e = .returned (.tuple #[]) ∧ Wr w' w.heap.size b (keyM r.data.toList f.data.toList q.data.toList t k) ∧ WF w.heap.size b W w') :=
    fun W b hW => wkey_any w.heap.size b r f q vs t k vk vn hr16 hf8 hq12 p6 p7 p8 p9 W hW (by have h1 := hW.1; have h2 := Wr.lt hW; omega)
  have HBL : Hid (∀ W W1 : World, W = w.alloc (.cells #[.string r, .string f, .string q, .int .i64 t, .int .i64 k, .int .i64 vk, .int .i64 vn, .string vs] 28) → Below W.heap.size W W1 → Blk (W1.alloc (.cells #[.slice none 0 0, .int .i64 0, .int .i8 0] 167)) w.heap.size 28 #[.string r, .string f, .string q, .int .i64 t, .int .i64 k, .int .i64 vk, .int .i64 vn, .string vs] ∧ w.heap.size < W1.heap.size ∧ Below w.heap.size w W1) := by
    intro W W1 e hb
    subst e
    have hz : w.heap.size < W1.heap.size := Nat.lt_of_lt_of_le (by simp) hb.size
    exact ⟨((Blk.new w _ _).keep hb (by simp)).keep (below_new _ _) hz, hz, (below_new _ _).trans (hb.mono (by simp))⟩
  have q0 : (k == 1) = false := by simpa using hk
  clear hL hr p1 p2 p3 p4 p5 p6 p7 p8 p9 pf pv pw
  go_enter Tryd.func77, Tryd.ntmps77
  go_upto_region 4 with (go_at_call 80; refine (HR.out _ (below_new _ _)).mono ?_; rintro e w1 ⟨rfl, hb⟩; have HB1 := hid (HBL.out _ _ rfl hb); clear hb)
  obtain ⟨b, hb⟩ : ∃ b, w1.heap.size = b := ⟨_, rfl⟩
  refine wp_ltr (fun W => Hid (Wr W w.heap.size b [] ∧ Blk W w.heap.size 28 #[.string r, .string f, .string q, .int .i64 t, .int .i64 k, .int .i64 vk, .int .i64 vn, .string vs] ∧ w.heap.size < b ∧ Below w.heap.size w W) ∧ W.cell? ⟨w.heap.size, 0, none⟩ = some (.string r) ∧ W.cell? ⟨w.heap.size, 1, none⟩ = some (.string f) ∧ W.cell? ⟨w.heap.size, 2, none⟩ = some (.string q) ∧ W.cell? ⟨w.heap.size, 3, none⟩ = some (.int .i64 t) ∧ W.cell? ⟨w.heap.size, 4, none⟩ = some (.int .i64 k) ∧ W.cell? ⟨w.heap.size, 5, none⟩ = some (.int .i64 vk) ∧ W.cell? ⟨w.heap.size, 6, none⟩ = some (.int .i64 vn) ∧ W.cell? ⟨w.heap.size, 7, none⟩ = some (.string vs)) ?_ (fun W hW => ?_)
  · obtain ⟨B1, z1, bw1⟩ := HB1.out
    exact ⟨⟨by rw [← hb]; exact wr_new w1 _ (Nat.le_of_lt z1), B1, by omega, bw1.alloc (Nat.le_of_lt z1) _⟩, B1.cell 0, B1.cell 1, B1.cell 2, B1.cell 3, B1.cell 4, B1.cell 5, B1.cell 6, B1.cell 7⟩
  obtain ⟨HW, g0, g1, g2, g3, g4, g5, g6, g7⟩ := hW
  rw [hb]
  clear HB1 hb
  go_wp2_with (first
    | (go_at_call 141; refine (HKy.out W b HW.out.1).mono ?_; rintro e w2 ⟨rfl, h2, k2⟩; clear g0 g1 g2 g3 g4 g5 g6 g7; have B2 := hid (k2.blk HW.out.2.1 (Nat.ne_of_lt HW.out.2.2.1) (by decide)); have g4 : w2.cell? ⟨w.heap.size, 4, none⟩ = some (.int .i64 k) := B2.out.cell 4)
    | (go_at_call 143; refine (wbytes_any _ _ _ _ h2).mono ?_; rintro e w3 ⟨v, rfl, h3, h4⟩))
  go_ret2
  have hz2 : w.heap.size ≤ w2.heap.size := Nat.le_trans HW.out.2.2.2.size k2.size
  exact ⟨_, rfl, h3, (HW.out.2.2.2.trans k2.below).trans (h4.mono hz2)⟩

set_option maxRecDepth 100000 in
set_option maxHeartbeats 4000000 in
theorem encode_put (r f q vs : ByteArray) (t vk : Int) {vn : Int} (hn : inI vn) (hf : f.size ≤ 9223372036854775807) (hv : vs.size ≤ 9223372036854775807) (w : World) (hL : LaidU w) (hr : cRight r.data.toList f.data.toList q.data.toList t 1 vk vn vs.data.toList = true) :
    Calls Tryd.prog 77 #[cellV r f q t 1 vk vn vs] w fun e w' => ∃ v, e = .returned (.tuple #[v, .bool true]) ∧ Row w' w.heap.size v (keyM r.data.toList f.data.toList q.data.toList t 1 ++ vEnc vk vn vs.data.toList) ∧ Below w.heap.size w w' := by
  obtain ⟨p1, p2, p3, p4, p5, p6, p7, p8, p9, pf, pv, pw⟩ := cright_parts hr
  have hr16 : r.size ≤ 16 := p2
  have hf8 : f.size ≤ 8 := p4
  have hq12 : q.size ≤ 12 := p5
  have HR : Hid (∀ W, Below w.heap.size w W → Calls Tryd.prog 80 #[cellV r f q t 1 vk vn vs] W fun e w' => e = .returned (.bool true) ∧ Below W.heap.size W w') := fun W hW => by
    have := cright_any r f q vs t 1 vk hn hf hv W (hL.below hW)
    rwa [hr] at this
  have HKy : Hid (∀ (W : World) (b : Nat), Wr W w.heap.size b [] → Calls Tryd.prog 141 #[.pointer (some ⟨b, 0, none⟩), cellV r f q t 1 vk vn vs] W fun e w' => e = .returned (.tuple #[]) ∧ Wr w' w.heap.size b (keyM r.data.toList f.data.toList q.data.toList t 1) ∧ WF w.heap.size b W w') :=
    fun W b hW => wkey_any w.heap.size b r f q vs t 1 vk vn hr16 hf8 hq12 p6 p7 p8 p9 W hW (by have h1 := hW.1; have h2 := Wr.lt hW; omega)
  have HBL : Hid (∀ W W1 : World, W = w.alloc (.cells #[.string r, .string f, .string q, .int .i64 t, .int .i64 1, .int .i64 vk, .int .i64 vn, .string vs] 28) → Below W.heap.size W W1 → Blk (W1.alloc (.cells #[.slice none 0 0, .int .i64 0, .int .i8 0] 167)) w.heap.size 28 #[.string r, .string f, .string q, .int .i64 t, .int .i64 1, .int .i64 vk, .int .i64 vn, .string vs] ∧ w.heap.size < W1.heap.size ∧ Below w.heap.size w W1) := by
    intro W W1 e hb
    subst e
    have hz : w.heap.size < W1.heap.size := Nat.lt_of_lt_of_le (by simp) hb.size
    exact ⟨((Blk.new w _ _).keep hb (by simp)).keep (below_new _ _) hz, hz, (below_new _ _).trans (hb.mono (by simp))⟩
  have hvr := pv rfl
  have HV : Hid (∀ W, Below w.heap.size w W → Calls Tryd.prog 114 #[.agg #[.int .i64 vk, .int .i64 vn, .string vs]] W fun e w' => ∃ v, e = .returned (.tuple #[v, .bool true]) ∧ Row w' W.heap.size v (vEnc vk vn vs.data.toList) ∧ Below W.heap.size W w') := fun W hW => vencode_yes vk hn vs hv hvr W (hL.below hW)
  have HLk : Hid ((keyM r.data.toList f.data.toList q.data.toList t 1).length + (vEnc vk vn vs.data.toList).length ≤ 1000000 ∧ 0 < (vEnc vk vn vs.data.toList).length) := by
    have h1 := enc_small hvr
    have h2 := enc_two hvr
    have h3 := esc_len r.data.toList
    have h4 := esc_len f.data.toList
    have h5 := esc_len q.data.toList
    have h6 := tail_len t 1
    refine ⟨?_, by omega⟩
    unfold keyM midM
    rw [if_neg (by decide)]
    simp only [List.length_append, List.length_cons, List.length_nil]
    omega
  clear hL hr p1 p2 p3 p4 p5 p6 p7 p8 p9 pf pv pw hvr
  go_enter Tryd.func77, Tryd.ntmps77
  go_upto_region 4 with (go_at_call 80; refine (HR.out _ (below_new _ _)).mono ?_; rintro e w1 ⟨rfl, hb⟩; have HB1 := hid (HBL.out _ _ rfl hb); clear hb)
  obtain ⟨b, hb⟩ : ∃ b, w1.heap.size = b := ⟨_, rfl⟩
  refine wp_ltr (fun W => Hid (Wr W w.heap.size b [] ∧ Blk W w.heap.size 28 #[.string r, .string f, .string q, .int .i64 t, .int .i64 1, .int .i64 vk, .int .i64 vn, .string vs] ∧ w.heap.size < b ∧ Below w.heap.size w W) ∧ W.cell? ⟨w.heap.size, 0, none⟩ = some (.string r) ∧ W.cell? ⟨w.heap.size, 1, none⟩ = some (.string f) ∧ W.cell? ⟨w.heap.size, 2, none⟩ = some (.string q) ∧ W.cell? ⟨w.heap.size, 3, none⟩ = some (.int .i64 t) ∧ W.cell? ⟨w.heap.size, 4, none⟩ = some (.int .i64 1) ∧ W.cell? ⟨w.heap.size, 5, none⟩ = some (.int .i64 vk) ∧ W.cell? ⟨w.heap.size, 6, none⟩ = some (.int .i64 vn) ∧ W.cell? ⟨w.heap.size, 7, none⟩ = some (.string vs)) ?_ (fun W hW => ?_)
  · obtain ⟨B1, z1, bw1⟩ := HB1.out
    exact ⟨⟨by rw [← hb]; exact wr_new w1 _ (Nat.le_of_lt z1), B1, by omega, bw1.alloc (Nat.le_of_lt z1) _⟩, B1.cell 0, B1.cell 1, B1.cell 2, B1.cell 3, B1.cell 4, B1.cell 5, B1.cell 6, B1.cell 7⟩
  obtain ⟨HW, g0, g1, g2, g3, g4, g5, g6, g7⟩ := hW
  rw [hb]
  clear HB1 hb
  go_wp2_with (first
    | (go_at_call 141; refine (HKy.out W b HW.out.1).mono ?_; rintro e w2 ⟨rfl, h2, k2⟩; clear g0 g1 g2 g3 g4 g5 g6 g7; have B2 := hid (k2.blk HW.out.2.1 (Nat.ne_of_lt HW.out.2.2.1) (by decide)); have hz2 : w.heap.size ≤ w2.heap.size := (Nat.le_trans HW.out.2.2.2.size k2.size); have hbw2 := hid (HW.out.2.2.2.trans k2.below); have g4 : w2.cell? ⟨w.heap.size, 4, none⟩ = some (.int .i64 1) := B2.out.cell 4; have g5 : w2.cell? ⟨w.heap.size, 5, none⟩ = some (.int .i64 vk) := B2.out.cell 5; have g6 : w2.cell? ⟨w.heap.size, 6, none⟩ = some (.int .i64 vn) := B2.out.cell 6; have g7 : w2.cell? ⟨w.heap.size, 7, none⟩ = some (.string vs) := B2.out.cell 7)
    | (go_at_call 114; refine (HV.out w2 hbw2.out).mono ?_; rintro e w3 ⟨v2, rfl, hR3, hb3⟩; obtain ⟨g, c, rfl, hg, hcell⟩ := row_write hR3 HLk.out.2; have HW3 := hid (LibA.IsBuffer.old h2 hb3))
    | (go_at_call 142; refine (wwrite' w.heap.size b _ _ HLk.out.1 ⟨g, 0, none⟩ _ c rfl (by have := Wr.lt h2; simp; omega) w3 HW3.out (by have := hb3.size; omega) hcell).mono ?_; rintro e w4 ⟨rfl, h4', k4⟩)
    | (go_at_call 143; refine (wbytes_any _ _ _ _ h4').mono ?_; rintro e w5 ⟨v, rfl, h3, h4⟩))
  go_ret2
  have hz4 : w.heap.size ≤ w4.heap.size := by have := k4.size; have := hb3.size; omega
  exact ⟨_, rfl, h3, ((hbw2.out.trans (hb3.mono hz2)).trans k4.below).trans (h4.mono hz4)⟩

/-- codec.Encode of a right cell. -/
theorem encode_yes (r f q vs : ByteArray) (t k vk : Int) {vn : Int} (hn : inI vn) (hf : f.size ≤ 9223372036854775807) (hv : vs.size ≤ 9223372036854775807) (w : World) (hL : LaidU w) (hr : cRight r.data.toList f.data.toList q.data.toList t k vk vn vs.data.toList = true) :
    Calls Tryd.prog 77 #[cellV r f q t k vk vn vs] w fun e w' => ∃ v, e = .returned (.tuple #[v, .bool true]) ∧ Row w' w.heap.size v (cEnc r.data.toList f.data.toList q.data.toList t k vk vn vs.data.toList) ∧ Below w.heap.size w w' := by
  unfold cEnc
  by_cases hk : k = 1
  · subst hk
    rw [if_pos rfl]
    exact encode_put r f q vs t vk hn hf hv w hL hr
  · rw [if_neg hk, List.append_nil]
    exact encode_other r f q vs t k vk hn hf hv w hL hr hk
end Go.Proofs.YtgfkobfkncpmoaaDoor
