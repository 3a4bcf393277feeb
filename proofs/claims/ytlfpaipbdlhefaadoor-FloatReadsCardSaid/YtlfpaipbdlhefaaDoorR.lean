/- The law FloatBytes answers true for every ints. Conditions: the table of math/bits reads as it is laid. -/
import Derived.Test.YtlfpaipbdlhefaaDoorO
import Derived.Test.YtlfpaipbdlhefaaDoorQ
namespace Go.Proofs.YtlfpaipbdlhefaaDoor
open Go.RowKit

/-- Where two rows of bytes part: below, level or above. -/
def lexC : List UInt8 → List UInt8 → Int
  | a :: u, b :: v => if a.toNat < b.toNat then -1 else if b.toNat < a.toNat then 1 else lexC u v
  | _, _ => 0

theorem foldB_cons (l : List UInt8) (x : UInt8) : foldB (x :: l) = x.toNat * 256 ^ l.length + foldB l := by
  induction h : l.length generalizing l with
  | zero => have : l = [] := List.length_eq_zero_iff.1 h
            subst this; simp [foldB]
  | succ n ih =>
    obtain ⟨l', y, rfl⟩ : ∃ l' y, l = l' ++ [y] := ⟨l.dropLast, l.getLast (by intro e; rw [e] at h; simp at h), (List.dropLast_concat_getLast _).symm⟩
    have hl : l'.length = n := by simpa using h
    rw [← List.cons_append, foldB_snoc, foldB_snoc, ih l' hl, Nat.pow_succ, Nat.add_mul, Nat.mul_assoc]
    omega

theorem lexC_fold (l m : List UInt8) (h : l.length = m.length) : lexC l m = cmpI (foldB l) (foldB m) := by
  induction l generalizing m with
  | nil => cases m with
    | nil => rfl
    | cons => simp at h
  | cons a u ih => cases m with
    | nil => simp at h
    | cons b bs =>
      have h' : u.length = bs.length := by simpa using h
      have h1 := foldB_lt u
      have h2 := foldB_lt bs
      rw [foldB_cons, foldB_cons, lexC, ih bs h', h']
      rw [h'] at h1
      generalize 256 ^ bs.length = P at *
      have ml : ∀ x y : Nat, x < y → x * P + P ≤ y * P := fun x y hxy => by
        have := Nat.mul_le_mul_right P (show x + 1 ≤ y from hxy)
        rw [Nat.add_mul, Nat.one_mul] at this
        exact this
      by_cases c1 : a.toNat < b.toNat
      · rw [if_pos c1]
        have := ml _ _ c1
        exact (cmpI_lt.2 (by omega)).symm
      · rw [if_neg c1]
        by_cases c2 : b.toNat < a.toNat
        · rw [if_pos c2]
          have := ml _ _ c2
          exact (cmpI_gt.2 (by omega)).symm
        · rw [if_neg c2]
          have e : a.toNat = b.toNat := by omega
          rw [e]
          unfold cmpI
          repeat' split <;> omega

theorem lexC_drop (l m : List UInt8) (k : Nat) (h : k < l.length) (h' : k < m.length) :
    lexC (l.drop k) (m.drop k) = if (l.getD k 0).toNat < (m.getD k 0).toNat then -1 else if (m.getD k 0).toNat < (l.getD k 0).toNat then 1 else lexC (l.drop (k + 1)) (m.drop (k + 1)) := by
  rw [List.drop_eq_getElem_cons h, List.drop_eq_getElem_cons h', lexC]
  simp only [List.getD_eq_getElem?_getD, List.getElem?_eq_getElem h, List.getElem?_eq_getElem h', Option.getD_some]

theorem right_canon {n : Int} (h : rightB n = true) : canonI n = n := by
  unfold rightB at h
  unfold canonI
  cases hb : nanB n
  · rw [if_neg (by decide)]
  · rw [hb] at h
    simp at h
    rw [if_pos rfl, h]

/-- The bytes of right numbers are in order as they are. -/
theorem lexC_order {a b : Int} (ha : inI a) (hb : inI b) (ra : rightB a = true) (rb : rightB b = true) : lexC (byW 8 (rankI a).toNat) (byW 8 (rankI b).toNat) = ordI a b := by
  obtain ⟨a0, a1⟩ := rank_in ha
  obtain ⟨b0, b1⟩ := rank_in hb
  have p : (256 : Nat) ^ 8 = 18446744073709551616 := by decide
  rw [lexC_fold _ _ (by rw [byW_len, byW_len]), foldB_byW 8 _ (by omega), foldB_byW 8 _ (by omega)]
  unfold ordI
  rw [right_canon ra, right_canon rb, Int.toNat_of_nonneg a0, Int.toNat_of_nonneg b0]

theorem from_bytes {n : Int} (h : inI n) (r : rightB n = true) : fromEnd (unrankI (foldB (byW 8 (rankI n).toNat))) = .returned (.tuple #[.int .i64 n, .bool true]) := by
  obtain ⟨a0, a1⟩ := rank_in h
  have p : (256 : Nat) ^ 8 = 18446744073709551616 := by decide
  rw [foldB_byW 8 _ (by omega), Int.toNat_of_nonneg a0, unrank_rank h]
  unfold fromEnd
  rw [if_pos r]

/-- A block that holds bytes: its cells. -/
theorem Blk.bytes {w : World} {b : Nat} {l : List UInt8} (h : Blk w b 5 (bc l).toArray) (i : Nat) (hi : i < l.length) : w.cell? ⟨b, i, none⟩ = some (.int .u8 ((l.getD i 0).toNat : Int)) := by
  rw [h.cell]
  simp [bc, List.getElem?_eq_getElem hi]

theorem bytes_carried {n : Int} (h : inI n) (r : rightB n = true) (w W : World) (hW : Below w.heap.size w W) :
    Calls Tryd.prog 15 #[.int .i64 n] W fun e w' => e = .returned (.slice (some ⟨W.heap.size, 0, none⟩) 8 8) ∧ Blk w' W.heap.size 5 (bc (byW 8 (rankI n).toNat)).toArray ∧ Below w.heap.size w w' ∧ Below W.heap.size W w' :=
  (bytes_yes h r W).mono fun _ _ ⟨he, hB, hb⟩ => ⟨he, hB, hW.trans (hb.mono hW.size), hb⟩
theorem show_carried {n : Int} (h : inI n) (w W : World) (hc : w.cell? ⟨6, 15, none⟩ = some (.int .u8 4)) (hW : Below w.heap.size w W) :
    Calls Tryd.prog 17 #[.int .i64 n] W fun e w' => e = .returned (.string ⟨(showT n).toArray⟩) ∧ Below w.heap.size w w' :=
  (show_any h W (by rw [hW.cell (cell_lt hc)]; exact hc)).mono fun _ _ ⟨he, hb⟩ => ⟨he, hW.trans (hb.mono hW.size)⟩
theorem read_carried {n : Int} (h : inI n) (r : rightB n = true) (w W : World) (hc : w.cell? ⟨6, 15, none⟩ = some (.int .u8 4)) (hW : Below w.heap.size w W) :
    Calls Tryd.prog 21 #[.string ⟨(showT n).toArray⟩] W fun e w' => e = .returned (.tuple #[.int .i64 n, .bool true]) ∧ Below w.heap.size w w' := by
  have e : showT n = textW (wd n) := by unfold showT; rw [if_pos r]
  rw [e]
  exact (read_text h r W (by rw [hW.cell (cell_lt hc)]; exact hc)).mono fun _ _ ⟨he, hb⟩ => ⟨he, hW.trans (hb.mono hW.size)⟩

set_option maxHeartbeats 1000000 in
theorem bytes_walk_no {a b : Int} (ha : inI a) (hb : inI b) (ra : rightB a = false) (w : World) (hc : w.cell? ⟨6, 15, none⟩ = some (.int .u8 4)) :
    Calls Tryd.prog 7 #[.int .i64 a, .int .i64 b] w fun e w' => e = .returned (.bool true) ∧ Below w.heap.size w w' := by
  have HA := hid (alive_any w hc)
  have HBa : Hid (∀ W, Calls Tryd.prog 15 #[.int .i64 a] W fun e w' => e = .returned (.slice none 0 0) ∧ W = w') := fun W => bytes_no ha ra W
  have HSa : Hid (∀ W, Calls Tryd.prog 17 #[.int .i64 a] W fun e w' => e = .returned (.string ⟨#[63]⟩) ∧ W = w') := fun W => show_no ha ra W
  have hq : (⟨#[63]⟩ : ByteArray).toList = [63] := by decide +kernel
  clear hc
  cases rb : rightB b
  · have HBb : Hid (∀ W, Calls Tryd.prog 15 #[.int .i64 b] W fun e w' => e = .returned (.slice none 0 0) ∧ W = w') := fun W => bytes_no hb rb W
    go_enter Tryd.func7, Tryd.ntmps7
    go_wp2_with (first | (go_at_call 9; refine HA.out.mono ?_; rintro e w' ⟨rfl, hb⟩) | (go_at_call 10; refine (right_any (by assumption) _).mono ?_; rintro e w' ⟨rfl, rfl⟩) | (go_at_call 15; ((with_reducible refine (HBa.out _).mono ?_); rintro e w' ⟨rfl, rfl⟩)) | (go_at_call 15; ((with_reducible refine (HBb.out _).mono ?_); rintro e w' ⟨rfl, rfl⟩)) | (go_at_call 17; refine (HSa.out _).mono ?_; rintro e w' ⟨rfl, rfl⟩))
    go_ret
    exact ⟨rfl, by assumption⟩
  · have HBb : Hid (∀ W, Below w.heap.size w W → Calls Tryd.prog 15 #[.int .i64 b] W fun e w' => e = .returned (.slice (some ⟨W.heap.size, 0, none⟩) 8 8) ∧ Blk w' W.heap.size 5 (bc (byW 8 (rankI b).toNat)).toArray ∧ Below w.heap.size w w' ∧ Below W.heap.size W w') := fun W hW => bytes_carried hb rb w W hW
    go_enter Tryd.func7, Tryd.ntmps7
    go_wp2_with (first | (go_at_call 9; refine HA.out.mono ?_; rintro e w' ⟨rfl, hb⟩) | (go_at_call 10; refine (right_any (by assumption) _).mono ?_; rintro e w' ⟨rfl, rfl⟩) | (go_at_call 15; ((with_reducible refine (HBa.out _).mono ?_); rintro e w' ⟨rfl, rfl⟩)) | (go_at_call 15; ((with_reducible refine (HBb.out _ (by assumption)).mono ?_); rintro e w' ⟨rfl, hB, hb, hb2⟩)) | (go_at_call 17; refine (HSa.out _).mono ?_; rintro e w' ⟨rfl, rfl⟩))
    go_ret
    exact ⟨rfl, by assumption⟩

set_option maxHeartbeats 1000000 in
theorem bytes_walk_half {a b : Int} (ha : inI a) (hb : inI b) (ra : rightB a = true) (rb : rightB b = false) (w : World) (hc : w.cell? ⟨6, 15, none⟩ = some (.int .u8 4)) :
    Calls Tryd.prog 7 #[.int .i64 a, .int .i64 b] w fun e w' => e = .returned (.bool true) ∧ Below w.heap.size w w' := by
  have HA := hid (alive_any w hc)
  have HBa : Hid (∀ W, Below w.heap.size w W → Calls Tryd.prog 15 #[.int .i64 a] W fun e w' => e = .returned (.slice (some ⟨W.heap.size, 0, none⟩) 8 8) ∧ Blk w' W.heap.size 5 (bc (byW 8 (rankI a).toNat)).toArray ∧ Below w.heap.size w w' ∧ Below W.heap.size W w') := fun W hW => bytes_carried ha ra w W hW
  have HBb : Hid (∀ W, Calls Tryd.prog 15 #[.int .i64 b] W fun e w' => e = .returned (.slice none 0 0) ∧ W = w') := fun W => bytes_no hb rb W
  clear hc
  go_enter Tryd.func7, Tryd.ntmps7
  go_wp2_with (first | (go_at_call 9; refine HA.out.mono ?_; rintro e w' ⟨rfl, hb⟩) | (go_at_call 10; refine (right_any (by assumption) _).mono ?_; rintro e w' ⟨rfl, rfl⟩) | (go_at_call 15; ((with_reducible refine (HBa.out _ (by assumption)).mono ?_); rintro e w' ⟨rfl, hB, hb, hb2⟩)) | (go_at_call 15; ((with_reducible refine (HBb.out _).mono ?_); rintro e w' ⟨rfl, rfl⟩)))
  go_ret
  exact ⟨rfl, by assumption⟩

/-- What the law's loop knows: as long as nothing parts, all is ahead; else where they parted. -/
def LInv (la lb : List UInt8) (W : World) (vc vi : Value) (wr : World) : Prop :=
  ∃ (i m : Nat) (c : Int), i ≤ 8 ∧ vc = .int .i64 c ∧ vi = .int .i64 i ∧ wr = W.drewN m ∧ (c = 0 → lexC (la.drop i) (lb.drop i) = lexC la lb) ∧ (c ≠ 0 → c = lexC la lb)

set_option maxHeartbeats 2000000 in
theorem bytes_walk_yes {a b : Int} (ha : inI a) (hb : inI b) (ra : rightB a = true) (rb : rightB b = true) (w : World) (hc : w.cell? ⟨6, 15, none⟩ = some (.int .u8 4)) :
    Calls Tryd.prog 7 #[.int .i64 a, .int .i64 b] w fun e w' => e = .returned (.bool true) ∧ Below w.heap.size w w' := by
  have HA := hid (alive_any w hc)
  have HBa : Hid (∀ W, Below w.heap.size w W → Calls Tryd.prog 15 #[.int .i64 a] W fun e w' => e = .returned (.slice (some ⟨W.heap.size, 0, none⟩) 8 8) ∧ Blk w' W.heap.size 5 (bc (byW 8 (rankI a).toNat)).toArray ∧ Below w.heap.size w w' ∧ Below W.heap.size W w') := fun W hW => bytes_carried ha ra w W hW
  have HBb : Hid (∀ W, Below w.heap.size w W → Calls Tryd.prog 15 #[.int .i64 b] W fun e w' => e = .returned (.slice (some ⟨W.heap.size, 0, none⟩) 8 8) ∧ Blk w' W.heap.size 5 (bc (byW 8 (rankI b).toNat)).toArray ∧ Below w.heap.size w w' ∧ Below W.heap.size W w') := fun W hW => bytes_carried hb rb w W hW
  have HLex := hid (lexC_order ha hb ra rb)
  have HSh : Hid (∀ W, Below w.heap.size w W → Calls Tryd.prog 17 #[.int .i64 a] W fun e w' => e = .returned (.string ⟨(showT a).toArray⟩) ∧ Below w.heap.size w w') := fun W hW => show_carried ha w W hc hW
  have HRd : Hid (∀ W, Below w.heap.size w W → Calls Tryd.prog 21 #[.string ⟨(showT a).toArray⟩] W fun e w' => e = .returned (.tuple #[.int .i64 a, .bool true]) ∧ Below w.heap.size w w') := fun W hW => read_carried ha ra w W hc hW
  have HFB := hid (from_bytes ha ra)
  obtain ⟨la, hla⟩ : ∃ la, byW 8 (rankI a).toNat = la := ⟨_, rfl⟩
  obtain ⟨lb, hlb⟩ : ∃ lb, byW 8 (rankI b).toNat = lb := ⟨_, rfl⟩
  have HNa : Hid (la.length = 8) := by rw [← hla]; exact byW_len _ _
  have HNb : Hid (lb.length = 8) := by rw [← hlb]; exact byW_len _ _
  rw [hla] at HBa HLex HFB
  rw [hlb] at HBb HLex
  have HFr : Hid (∀ W b, (∀ i, i < 8 → W.cell? ⟨b, i, none⟩ = some (.int .u8 ((la.getD i 0).toNat : Int))) → Calls Tryd.prog 19 #[.slice (some ⟨b, 0, none⟩) 8 8] W fun e w' => e = .returned (.tuple #[.int .i64 a, .bool true]) ∧ W = w') := fun W b hcl => by
    have := from_yes la HNa.out b 8 W hcl
    rw [HFB.out] at this
    exact this
  clear hc hla hlb HFB
  go_enter Tryd.func7, Tryd.ntmps7
  go_wp2_with (first | (go_at_call 9; refine HA.out.mono ?_; rintro e w1 ⟨rfl, hb1⟩) | (go_at_call 10; refine (right_any (by assumption) _).mono ?_; rintro e w' ⟨rfl, rfl⟩) | (go_at_call 15; ((with_reducible refine (HBa.out _ (by assumption)).mono ?_); rintro e w2 ⟨rfl, hBa, hba, hba2⟩)) | (go_at_call 15; ((with_reducible refine (HBb.out _ (by assumption)).mono ?_); rintro e w3 ⟨rfl, hBb, hbb, hbb2⟩)))
  have hBa3 := hBa.keep hbb2 hBa.lt
  have GA : Hid (∀ i, i < 8 → w3.cell? ⟨w1.heap.size, i, none⟩ = some (.int .u8 ((la.getD i 0).toNat : Int))) := fun i hi => hBa3.bytes i (by rw [HNa.out]; exact hi)
  have GB : Hid (∀ i, i < 8 → w3.cell? ⟨w2.heap.size, i, none⟩ = some (.int .u8 ((lb.getD i 0).toNat : Int))) := fun i hi => hBb.bytes i (by rw [HNb.out]; exact hi)
  have HF : Hid (∀ m, Calls Tryd.prog 19 #[.slice (some ⟨w1.heap.size, 0, none⟩) 8 8] (w3.drewN m) fun e w' => e = .returned (.tuple #[.int .i64 a, .bool true]) ∧ w3.drewN m = w') := fun m => HFr.out (w3.drewN m) w1.heap.size fun i hi => GA.out i hi
  clear hBa hBa3 hBb hba hba2 hbb2 hb1
  go_loopw [7, 8] (fun vc vi wr => LInv la lb w3 vc vi wr) (fun _ vi _ => 8 - (intOf vi).toNat)
  case atStart => exact ⟨0, 0, 0, by omega, rfl, rfl, rfl, fun _ => rfl, fun h => absurd rfl h⟩
  case round =>
    obtain ⟨i, m, c, hi, rfl, rfl, rfl, hz, hnz⟩ := hrel
    by_cases hlt : i < 8 ∧ c = 0
    · obtain ⟨h8, rfl⟩ := hlt
      have hd := lexC_drop la lb i (by rw [HNa.out]; exact h8) (by rw [HNb.out]; exact h8)
      rw [hz rfl] at hd
      clear hz hnz
      have g1 := GA.out i h8
      have g2 := GB.out i h8
      obtain ⟨xa, hxa⟩ : ∃ xa, (la.getD i 0).toNat = xa := ⟨_, rfl⟩
      obtain ⟨xb, hxb⟩ : ∃ xb, (lb.getD i 0).toNat = xb := ⟨_, rfl⟩
      rw [hxa] at g1 hd
      rw [hxb] at g2 hd
      clear hxa hxb
      by_cases c1 : xa < xb
      · rw [if_pos c1] at hd
        have HD := hid hd
        clear hd
        go_wp2
        go_quiet (fail)
        go_wp2
        go_quiet (fail)
        go_wp2
        go_roundw
        case rel => exact ⟨i + 1, _, -1, by omega, rfl, by go_num, rfl, fun h => absurd h (by decide), fun _ => HD.out.symm⟩
        case measure => simp [intOf]; omega
      · rw [if_neg c1] at hd
        by_cases c2 : xb < xa
        · rw [if_pos c2] at hd
          have HD := hid hd
          clear hd
          go_wp2
          go_quiet (fail)
          go_wp2
          go_quiet (fail)
          go_wp2
          go_roundw
          case rel => exact ⟨i + 1, _, 1, by omega, rfl, by go_num, rfl, fun h => absurd h (by decide), fun _ => HD.out.symm⟩
          case measure => simp [intOf]; omega
        · rw [if_neg c2] at hd
          have HD := hid hd
          clear hd
          go_wp2
          go_quiet (fail)
          go_wp2
          go_quiet (fail)
          go_wp2
          go_roundw
          case rel => exact ⟨i + 1, _, 0, by omega, rfl, by go_num, rfl, fun _ => HD.out.symm, fun h => absurd rfl h⟩
          case measure => simp [intOf]; omega
    · have hR : c = ordI a b := by
        by_cases h0 : c = 0
        · have h8 : i = 8 := by omega
          have := hz h0
          rw [h8, List.drop_of_length_le (by rw [HNa.out]; omega), List.drop_of_length_le (by rw [HNb.out]; omega)] at this
          rw [h0, ← HLex.out, ← this]
          rfl
        · rw [hnz h0]; exact HLex.out
      have hbd : Below w.heap.size w (w3.drewN m) := below_drewN hbb m
      have hsel : (i < 8 ∧ (c == 0) = false) ∨ i = 8 := by
        rcases Nat.lt_or_ge i 8 with h | h
        · exact Or.inl ⟨h, by simpa using fun h0 => hlt ⟨h, h0⟩⟩
        · exact Or.inr (by omega)
      clear hz hnz hlt GA GB HLex HFr
      subst hR
      have HO : Hid (∀ W, Calls Tryd.prog 12 #[.int .i64 a, .int .i64 b] W fun e w' => e = .returned (.int .i64 (ordI a b)) ∧ W = w') := fun W => order_any ha hb W
      obtain ⟨c, hc⟩ : ∃ c, ordI a b = c := ⟨_, rfl⟩
      rw [hc] at HO hsel ⊢
      clear hc
      rcases hsel with ⟨h8, hc0⟩ | rfl
      · go_wp2_with (first | (go_at_call 19; ((with_reducible refine (HF.out _).mono ?_); rintro e w' ⟨rfl, rfl⟩)) | (go_at_call 17; refine (HSh.out _ (by assumption)).mono ?_; rintro e w' ⟨rfl, hb⟩) | (go_at_call 21; refine (HRd.out _ (by assumption)).mono ?_; rintro e w' ⟨rfl, hb⟩) | (go_at_call 12; refine (HO.out _).mono ?_; rintro e w' ⟨rfl, rfl⟩))
        go_ret
        exact ⟨rfl, by assumption⟩
      · go_wp2_with (first | (go_at_call 19; ((with_reducible refine (HF.out _).mono ?_); rintro e w' ⟨rfl, rfl⟩)) | (go_at_call 17; refine (HSh.out _ (by assumption)).mono ?_; rintro e w' ⟨rfl, hb⟩) | (go_at_call 21; refine (HRd.out _ (by assumption)).mono ?_; rintro e w' ⟨rfl, hb⟩) | (go_at_call 12; refine (HO.out _).mono ?_; rintro e w' ⟨rfl, rfl⟩))
        go_ret
        exact ⟨rfl, by assumption⟩

/-- The law FloatBytes, whatever the ints. -/
theorem bytes_walk {a b : Int} (ha : inI a) (hb : inI b) (w : World) (hc : w.cell? ⟨6, 15, none⟩ = some (.int .u8 4)) :
    Calls Tryd.prog 7 #[.int .i64 a, .int .i64 b] w fun e w' => e = .returned (.bool true) ∧ Below w.heap.size w w' := by
  cases ra : rightB a
  · exact bytes_walk_no ha hb ra w hc
  · cases rb : rightB b
    · exact bytes_walk_half ha hb ra rb w hc
    · exact bytes_walk_yes ha hb ra rb w hc

end Go.Proofs.YtlfpaipbdlhefaaDoor
