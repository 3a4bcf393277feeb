/- Several texts in one: VF VJ VK VKb WG. Conditions: as each theorem names them. -/
import Derived.Test.YtgfkobfkncpmoaaDoorP2
import Derived.Laws.MakeOwn
import Derived.Laws.BytesArg
import Derived.Test.YtgfkobfkncpmoaaDoorP1
import Derived.Deep.RegionHeld3
import Derived.Deep.DrawnRows
/- val.takeText for every row of at most a thousand bytes: the text of which these are the escaped bytes, or nothing. Conditions: the slice holds those bytes. -/
namespace Go.Proofs.YtgfkobfkncpmoaaDoor
open Go.RowKit


/-- Undoes esc. -/
def unesc : List UInt8 → Option (List UInt8)
  | [] => some []
  | c :: l => if c = 0 then (match l with | [] => none | d :: l' => if d = 255 then (unesc l').map (0 :: ·) else none) else (unesc l).map (c :: ·)
theorem unesc_ne {c : UInt8} (h : c ≠ 0) (l : List UInt8) : unesc (c :: l) = (unesc l).map (c :: ·) := by cases l <;> simp [unesc, h]
theorem unesc_one : unesc [0] = none := by simp [unesc]
theorem unesc_two (d : UInt8) (l : List UInt8) : unesc (0 :: d :: l) = if d = 255 then (unesc l).map (0 :: ·) else none := by simp [unesc]
theorem unesc_esc (s : List UInt8) : unesc (esc s) = some s := by
  induction s with
  | nil => rfl
  | cons c l ih =>
    simp only [esc]
    by_cases h : c = 0
    · rw [if_pos h, unesc_two, if_pos rfl, ih, h]
      rfl
    · rw [if_neg h, unesc_ne h, ih]
      rfl
theorem esc_unesc : ∀ (n : Nat) (l s : List UInt8), l.length ≤ n → unesc l = some s → esc s = l := by
  intro n
  induction n with
  | zero =>
    intro l s hn h
    have : l = [] := List.length_eq_zero_iff.1 (by omega)
    subst this
    simp [unesc] at h
    subst h
    rfl
  | succ n ih =>
    intro l s hn h
    cases l with
    | nil =>
      simp [unesc] at h
      subst h
      rfl
    | cons c l =>
      by_cases hc : c = 0
      · subst hc
        cases l with
        | nil => rw [unesc_one] at h; cases h
        | cons d l' =>
          rw [unesc_two] at h
          by_cases hd : d = 255
          · rw [if_pos hd] at h
            obtain ⟨t, ht, rfl⟩ := Option.map_eq_some_iff.1 h
            simp only [esc, if_pos]
            rw [ih l' t (by simp at hn; omega) ht, hd]
          · rw [if_neg hd] at h; cases h
      · rw [unesc_ne hc] at h
        obtain ⟨t, ht, rfl⟩ := Option.map_eq_some_iff.1 h
        simp only [esc]
        rw [if_neg hc, ih l t (by simp at hn; omega) ht]
/-- The text behind a kind. -/
def unText (l : List UInt8) : Option (List UInt8) :=
  if l.length < 2 then none else if l.getD (l.length - 2) 0 = 0 ∧ l.getD (l.length - 1) 0 = 1 then unesc (l.take (l.length - 2)) else none
def takeEnd : Option (List UInt8) → Ending
  | some s => .returned (.tuple #[.string ⟨s.toArray⟩, .bool true])
  | none => .returned (.tuple #[.string ⟨#[]⟩, .bool false])

theorem row_convert {w : World} {B : Nat} {v : Value} {l : List UInt8} (h : Row w B v l) : (convert 22 9 v).run Tryd.prog w = .ok (.string ⟨l.toArray⟩) w := by
  by_cases hl : 0 < l.length
  · obtain ⟨g, cap, rfl, _, _, _, hc⟩ := h.form hl
    refine run_convert_bytes_back _ 22 9 5 _ _ _ Tryd.underlying22 Tryd.underlying5 Tryd.underlying9 ?_
    intro j hj
    rw [add_zero_off, Nat.zero_add, hc j hj]
    simp [List.getElem?_eq_getElem hj]
  · have : l = [] := List.length_eq_zero_iff.1 (by omega)
    subst this
    rcases h.2 with ⟨rfl, _⟩ | ⟨g, cap, cur, rfl, _, hh, _⟩
    · exact run_convert_bytes_nil w 22 5 Tryd.underlying22 Tryd.underlying5 0 0 9 Tryd.underlying9
    · exact run_convert_bytes_back w 22 9 5 ⟨g, 0, none⟩ cap [] Tryd.underlying22 Tryd.underlying5 Tryd.underlying9 (fun j hj => absurd hj (by simp))

theorem make_row (W : World) (B : Nat) (hB : B ≤ W.heap.size) (n : Nat) (hn : n ≤ 1000000) : ∃ w', (Instr.makeSlice 22 (.int .i64 0) (.int .i64 (n : Int))).run Tryd.prog W = .ok (.slice (some ⟨W.heap.size, 0, none⟩) 0 n) w' ∧ Row w' B (.slice (some ⟨W.heap.size, 0, none⟩) 0 n) [] ∧ Below B W w' := by
  obtain ⟨i0, hi, hz0, hz1, hz2⟩ := info_parts info_u8
  obtain ⟨w', h1, h2, h3⟩ := run_make_own (P := Tryd.prog) W B 22 5 i0 (.int .u8 0) 1 Tryd.underlying22 hi hz0 hz1 .i64 .i64 n (by rw [hz2]; omega) (by unfold maxLen; omega) hB
  exact ⟨w', h1, h2, (Below.refl _ _).grown h3 hB (fun k hk => by cases hk)⟩

set_option maxHeartbeats 1000000 in
theorem takeText_short {a : Option Addr} (n c : Nat) (hn : n < 2) (w : World) :
    Calls Tryd.prog 216 #[.slice a n c] w fun e w' => e = takeEnd none ∧ w = w' := by
  rcases (show n = 0 ∨ n = 1 by omega) with rfl | rfl
  · go_enter Tryd.func216, Tryd.ntmps216
    go_wp2
    go_ret2
    exact ⟨rfl, rfl⟩
  · go_enter Tryd.func216, Tryd.ntmps216
    go_wp2
    go_ret2
    exact ⟨rfl, rfl⟩

set_option maxHeartbeats 1000000 in
set_option maxRecDepth 100000 in
theorem takeText_end (b off m c x y : Nat) (hm : m ≤ 100000) (w : World) (h1 : w.cell? ⟨b, off + m, none⟩ = some (.int .u8 (x : Int))) (h2 : w.cell? ⟨b, off + (m + 1), none⟩ = some (.int .u8 (y : Int))) (hxy : ¬ (x = 0 ∧ y = 1)) :
    Calls Tryd.prog 216 #[.slice (some ⟨b, off, none⟩) (m + 2) c] w fun e w' => e = takeEnd none ∧ w = w' := by
  by_cases hx : x = 0
  · have hy : ((y : Int) != 1) = true := by simpa using fun h => hxy ⟨hx, by omega⟩
    have hx' : ((x : Int) != 0) = false := by simp [hx]
    clear hxy hx
    go_enter Tryd.func216, Tryd.ntmps216
    go_wp2
    go_ret2
    exact ⟨rfl, rfl⟩
  · have hx' : ((x : Int) != 0) = true := by simpa using hx
    clear hxy hx
    go_enter Tryd.func216, Tryd.ntmps216
    go_wp2
    go_ret2
    exact ⟨rfl, rfl⟩

theorem unesc_take (body : List UInt8) (i : Nat) (h : i < body.length) : unesc (body.drop i) = if body.getD i 0 = 0 then (if i + 1 < body.length then (if body.getD (i + 1) 0 = 255 then (unesc (body.drop (i + 2))).map (0 :: ·) else none) else none) else (unesc (body.drop (i + 1))).map (body.getD i 0 :: ·) := by
  have e : ∀ k, k < body.length → body.getD k 0 = body[k]! := fun k hk => by simp [List.getElem?_eq_getElem hk]
  rw [List.drop_eq_getElem_cons h]
  have e1 : body.getD i 0 = body[i] := by simp [List.getElem?_eq_getElem h]
  rw [e1]
  by_cases hc : body[i] = 0
  · rw [if_pos hc, hc]
    by_cases h2 : i + 1 < body.length
    · rw [if_pos h2, List.drop_eq_getElem_cons h2, unesc_two]
      have e2 : body.getD (i + 1) 0 = body[i + 1] := by simp [List.getElem?_eq_getElem h2]
      rw [e2]
    · rw [if_neg h2, List.drop_of_length_le (by omega), unesc_one]
  · rw [if_neg hc, unesc_ne hc]

theorem map_nil (o : Option (List UInt8)) : o = o.map ([] ++ ·) := by cases o <;> rfl
/-- What the loop knows. -/
def TInv (body : List UInt8) (B m : Nat) (w : World) (vb vi : Value) (wr : World) : Prop :=
  ∃ (i : Nat) (out : List UInt8), i ≤ m ∧ out.length ≤ i ∧ vi = .int .i64 i ∧ Row wr B vb out ∧ Below B w wr ∧ unesc body = (unesc (body.drop i)).map (out ++ ·)

set_option maxHeartbeats 2000000 in
set_option maxRecDepth 100000 in
theorem takeText_go (l : List UInt8) (b off m c : Nat) (hm : m ≤ 100000) (hl : l.length = m + 2) (w : World) (hh : Holds w b off l) (h1 : l.getD m 0 = 0) (h2 : l.getD (m + 1) 0 = 1) :
    Calls Tryd.prog 216 #[.slice (some ⟨b, off, none⟩) (m + 2) c] w fun e w' => e = takeEnd (unesc (l.take m)) ∧ Below w.heap.size w w' := by
  have hcm := hh m (by omega)
  have hcm1 := hh (m + 1) (by omega)
  rw [h1] at hcm
  rw [h2] at hcm1
  have hcm' : w.cell? ⟨b, off + m, none⟩ = some (.int .u8 0) := hcm
  have hcm1' : w.cell? ⟨b, off + (m + 1), none⟩ = some (.int .u8 1) := hcm1
  obtain ⟨W0, hmk, hR0, hb0⟩ := make_row w w.heap.size (Nat.le_refl _) m (by omega)
  have hlt := hh.lt (by omega)
  have HH := hid hh
  have HL := hid hl
  have H1 := hid h1
  clear hcm hcm1 hl hh h1 h2
  have hd0 : decide ((m : Int) < 0) = false := decide_eq_false (by omega)
  go_enter Tryd.func216, Tryd.ntmps216
  go_wp2
  clear hmk hcm' hcm1' hd0
  have HLb : Hid ((l.take m).length = m) := by unfold Hid; rw [List.length_take, HL.out]; omega
  have HG : Hid (∀ i, i < m → (l.take m).getD i 0 = l.getD i 0) := fun i hi => by
    rw [List.getD_eq_getElem?_getD, List.getD_eq_getElem?_getD, List.getElem?_take_of_lt hi]
  go_loopw [5, 6] (fun vb vi wr => TInv (l.take m) w.heap.size m w vb vi wr) (fun _ vi _ => m - (intOf vi).toNat)
  case atStart => exact ⟨0, [], by omega, by simp, rfl, hR0, hb0, map_nil _⟩
  case round =>
    obtain ⟨i, out, hi, ho, rfl, hR, hbel, hu⟩ := hrel
    have HR := hid hR
    have HU := hid hu
    clear hR hu hR0 hb0
    have hsz := hbel.size
    by_cases him : i < m
    · have HT := hid (unesc_take (l.take m) i (by rw [HLb.out]; exact him))
      have hcx := HH.out.below hbel hlt i (by rw [HL.out]; omega)
      obtain ⟨x, hx⟩ : ∃ x, l.getD i 0 = x := ⟨_, rfl⟩
      have HX := hid hx
      rw [hx] at hcx
      clear hx
      have HC : Hid (∀ W, Below w.heap.size wr W → W.cell? ⟨b, off + i, none⟩ = some (.int .u8 (x.toNat : Int))) := fun W hW => by
        rw [hW.cell (p := ⟨b, off + i, none⟩) hlt]; exact hcx
      by_cases hx0 : x = 0
      · have hx0' : ((x.toNat : Int) != 0) = false := by rw [hx0]; rfl
        have HX0 := hid hx0
        clear hx0
        obtain ⟨y, hy⟩ : ∃ y, l.getD (i + 1) 0 = y := ⟨_, rfl⟩
        have HY := hid hy
        have HCy : Hid (∀ W, Below w.heap.size wr W → W.cell? ⟨b, off + (i + 1), none⟩ = some (.int .u8 (y.toNat : Int))) := fun W hW => by
          rw [hW.cell (p := ⟨b, off + (i + 1), none⟩) hlt, ← hy]
          exact HH.out.below hbel hlt (i + 1) (by rw [HL.out]; omega)
        clear hy
        by_cases hy255 : y = 255
        · have hy' : ((y.toNat : Int) != 255) = false := by rw [hy255]; rfl
          have him1 : i + 1 < m := by
            rcases Nat.lt_or_ge (i + 1) m with h | h
            · exact h
            · have : i + 1 = m := by omega
              have h1 := HY.out
              rw [this, H1.out] at h1
              rw [← h1] at hy255
              cases hy255
          have HE : Hid (unesc (l.take m) = (unesc ((l.take m).drop (i + 2))).map ((out ++ [x]) ++ ·)) := by
            have h1 := HU.out
            rw [HT.out, HG.out i him, HX.out, if_pos HX0.out, HLb.out, if_pos him1, HG.out (i + 1) him1, HY.out, if_pos hy255] at h1
            show _ = _
            rw [h1, Option.map_map, HX0.out]
            congr 1
            funext z
            simp
          clear hy255
          go_wp2_with (at_builtin; refine wpList_append_bytes rfl (.tmp 34) (.tmp 39) rfl _ w.heap.size _ _ rfl (HR.out.alloc _) ⟨wr.heap.size, 0, none⟩ 1 1 [x] rfl rfl (one_new' _ _ _ _ rfl) (by simp only [List.length_cons, List.length_nil]; omega) (by simp; omega) ?_; intro v1 w1 hR1 hb1; have hbw : Below w.heap.size wr w1 := (((Below.refl _ _).alloc hsz _).trans hb1); have hc1 := HC.out w1 hbw; have hc2 := HCy.out w1 hbw)
          go_roundw
          case rel =>
            refine ⟨i + 2, out ++ [x], by omega, by simp; omega, by go_num, hR1, hbel.trans hbw, HE.out⟩
          case measure => simp [intOf]; omega
        · have hy' : ((y.toNat : Int) != 255) = true := by
            simp only [bne_iff_ne, ne_eq]
            intro h
            exact hy255 (UInt8.toNat_inj.1 (by have : (255 : UInt8).toNat = 255 := rfl; omega))
          have HE : Hid (unesc (l.take m) = none) := by
            have h1 := HU.out
            rw [HT.out, HG.out i him, HX.out, if_pos HX0.out] at h1
            show _ = _
            rw [h1, HLb.out]
            by_cases h2 : i + 1 < m
            · rw [if_pos h2, HG.out (i + 1) h2, HY.out, if_neg hy255]; rfl
            · rw [if_neg h2]; rfl
          clear hy255
          go_wp2_with (at_builtin; refine wpList_append_bytes rfl (.tmp 34) (.tmp 39) rfl _ w.heap.size _ _ rfl (HR.out.alloc _) ⟨wr.heap.size, 0, none⟩ 1 1 [x] rfl rfl (one_new' _ _ _ _ rfl) (by simp only [List.length_cons, List.length_nil]; omega) (by simp; omega) ?_; intro v1 w1 hR1 hb1; have hbw : Below w.heap.size wr w1 := (((Below.refl _ _).alloc hsz _).trans hb1); have hc1 := HC.out w1 hbw; have hc2 := HCy.out w1 hbw)
          go_ret2
          rw [HE.out]
          exact ⟨rfl, hbel.trans hbw⟩
      · have hx0' : ((x.toNat : Int) != 0) = true := by
          simp only [bne_iff_ne, ne_eq]
          intro h
          exact hx0 (UInt8.toNat_inj.1 (by have : (0 : UInt8).toNat = 0 := rfl; omega))
        have HE : Hid (unesc (l.take m) = (unesc ((l.take m).drop (i + 1))).map ((out ++ [x]) ++ ·)) := by
          have h1 := HU.out
          rw [HT.out, HG.out i him, HX.out, if_neg hx0] at h1
          show _ = _
          rw [h1, Option.map_map]
          congr 1
          funext z
          simp
        clear hx0
        go_wp2_with (at_builtin; refine wpList_append_bytes rfl (.tmp 34) (.tmp 39) rfl _ w.heap.size _ _ rfl (HR.out.alloc _) ⟨wr.heap.size, 0, none⟩ 1 1 [x] rfl rfl (one_new' _ _ _ _ rfl) (by simp only [List.length_cons, List.length_nil]; omega) (by simp; omega) ?_; intro v1 w1 hR1 hb1; have hbw : Below w.heap.size wr w1 := (((Below.refl _ _).alloc hsz _).trans hb1); have hc1 := HC.out w1 hbw)
        go_roundw
        case rel =>
          refine ⟨i + 1, out ++ [x], by omega, by simp; omega, by go_num, hR1, hbel.trans hbw, HE.out⟩
        case measure => simp [intOf]; omega
    · obtain rfl : i = m := by omega
      have hcv := row_convert HR.out
      have HE : Hid (unesc (l.take i) = some out) := by
        show _ = _
        rw [HU.out, List.drop_of_length_le (by rw [HLb.out]; omega)]
        simp [unesc]
      go_wp2
      go_ret2
      rw [HE.out]
      exact ⟨rfl, hbel⟩

/-- val.takeText, for every row. -/
theorem takeText_any (l : List UInt8) (b off c : Nat) (hl : l.length ≤ 100000) (w : World) (hh : Holds w b off l) :
    Calls Tryd.prog 216 #[.slice (some ⟨b, off, none⟩) l.length c] w fun e w' => e = takeEnd (unText l) ∧ Below w.heap.size w w' := by
  by_cases h2 : l.length < 2
  · unfold unText
    rw [if_pos h2]
    exact (takeText_short l.length c h2 w).mono fun _ _ ⟨he, hw⟩ => ⟨he, by subst hw; exact Below.refl _ _⟩
  · obtain ⟨m, hm⟩ : ∃ m, l.length = m + 2 := ⟨l.length - 2, by omega⟩
    unfold unText
    rw [if_neg h2, hm, Nat.add_sub_cancel, show m + 2 - 1 = m + 1 by omega]
    by_cases h3 : l.getD m 0 = 0 ∧ l.getD (m + 1) 0 = 1
    · rw [if_pos h3]
      exact takeText_go l b off m c (by omega) hm w hh h3.1 h3.2
    · rw [if_neg h3]
      refine (takeText_end b off m c (l.getD m 0).toNat (l.getD (m + 1) 0).toNat (by omega) w (hh m (by omega)) (hh (m + 1) (by omega)) ?_).mono fun _ _ ⟨he, hw⟩ => ⟨he, by subst hw; exact Below.refl _ _⟩
      intro h
      exact h3 ⟨UInt8.toNat_inj.1 h.1, UInt8.toNat_inj.1 h.2⟩

end Go.Proofs.YtgfkobfkncpmoaaDoor

/- val.takeInt and val.decode for every row of at most a thousand bytes. Conditions: the slice holds those bytes. -/
namespace Go.Proofs.YtgfkobfkncpmoaaDoor
open Go.RowKit

theorem xor_down {r : Int} (h0 : 0 ≤ r) (h : r < 18446744073709551616) : wrap64 (bits .xor .u64 r 9223372036854775808) = r - 9223372036854775808 := by
  rw [u64_xor _ _ (by omega) (by omega) (by omega) (by omega), show (9223372036854775808 : Int).toNat = 2 ^ 63 from rfl]
  by_cases hr : r < 9223372036854775808
  · rw [xor_top _ (by omega)]
    unfold wrap64
    omega
  · obtain ⟨m, hm⟩ : ∃ m : Nat, r - 9223372036854775808 = m := ⟨(r - 9223372036854775808).toNat, by omega⟩
    have e : r.toNat = m ^^^ 2 ^ 63 := by rw [xor_top m (by omega)]; omega
    rw [e, Nat.xor_assoc, Nat.xor_self, Nat.xor_zero]
    unfold wrap64
    omega

set_option maxHeartbeats 1000000 in
theorem takeInt_no {a : Option Addr} (n c : Nat) (hn : n ≠ 8) (w : World) :
    Calls Tryd.prog 214 #[.slice a n c] w fun e w' => e = .returned (.tuple #[.int .i64 0, .bool false]) ∧ w = w' := by
  have h8 : ((n : Int) != 8) = true := by simp only [bne_iff_ne, ne_eq]; omega
  go_enter Tryd.func214, Tryd.ntmps214
  go_wp2
  go_ret2
  exact ⟨rfl, rfl⟩

set_option maxHeartbeats 1000000 in
set_option maxRecDepth 100000 in
theorem takeInt_yes (l : List UInt8) (hl : l.length = 8) (b off c : Nat) (w : World) (hh : Holds w b off l) :
    Calls Tryd.prog 214 #[.slice (some ⟨b, off, none⟩) 8 c] w fun e w' => e = .returned (.tuple #[.int .i64 ((foldB l : Int) - 9223372036854775808), .bool true]) ∧ w = w' := by
  have HL := hid hl
  have HC : Hid (∀ i, i < 8 → w.cell? ⟨b, off + i, none⟩ = some (.int .u8 ((l.getD i 0).toNat : Int))) := fun i hi => hh i (by omega)
  clear hl hh
  go_enter Tryd.func214, Tryd.ntmps214
  go_wp2
  go_loop [4, 12] (fun vr vi => ∃ (k : Nat) (r : Int), k ≤ 8 ∧ vr = .int .u64 r ∧ vi = .int .i64 k ∧ 0 ≤ r ∧ r = foldB (l.take k)) (fun _ vi => 8 - (intOf vi).toNat)
  case atStart => exact ⟨0, 0, by omega, rfl, rfl, by omega, rfl⟩
  case round =>
    obtain ⟨k, r, hk, rfl, rfl, hr0, hr⟩ := hrel
    by_cases hlt : k < 8
    · have hb : r < 72057594037927936 := by
        have h1 := foldB_lt (l.take k)
        have h2 : (l.take k).length ≤ 7 := by rw [List.length_take]; omega
        have h3 : 256 ^ (l.take k).length ≤ 256 ^ 7 := Nat.pow_le_pow_right (by omega) h2
        rw [hr]
        omega
      have hcell := HC.out k hlt
      have hx := (l.getD k 0).toNat_lt
      obtain ⟨x, hxe⟩ : ∃ x, (l.getD k 0).toNat = x := ⟨_, rfl⟩
      rw [hxe] at hcell hx
      have hor := or_byte hr0 hb x (by omega)
      have HN : Hid (r * 256 + x = ((foldB (l.take (k + 1)) : Nat) : Int)) := hid (by rw [foldB_take l k (by rw [HL.out]; exact hlt), hxe, hr]; omega)
      have hx2 : x ≤ 255 := by omega
      clear hr hxe hx
      go_wp2
      go_round
      case rel => exact ⟨k + 1, r * 256 + x, by omega, rfl, by go_num, by omega, HN.out⟩
      case measure => simp [intOf]; omega
    · obtain rfl : k = 8 := by omega
      have hr8 : r = foldB l := by rw [hr, List.take_of_length_le (by rw [HL.out]; omega)]
      have hb : r < 18446744073709551616 := by
        have h1 := foldB_lt l
        rw [HL.out] at h1
        rw [hr8]
        have : (256 : Nat) ^ 8 = 18446744073709551616 := by decide
        omega
      have HX := hid (xor_down hr0 hb)
      have HR8 := hid hr8
      clear hr hr8 hb hr0
      obtain ⟨X, hX⟩ : ∃ X, bits .xor .u64 r 9223372036854775808 = X := ⟨_, rfl⟩
      rw [hX] at HX
      go_wp2
      go_ret2
      refine ⟨?_, rfl⟩
      have e : wrap64 X = (foldB l : Int) - 9223372036854775808 := by rw [HX.out, HR8.out]
      rw [← e]
      rfl

/-- The value behind a kind, by its bytes. -/
def decV (k : Int) (l : List UInt8) : Option (Int × List UInt8) :=
  if k = 1 then (if l.length = 8 then some ((foldB l : Int) - 9223372036854775808, []) else none)
  else if k = 5 then (if l.length = 8 then (if rightB (unrankI (foldB l)) = true then some (unrankI (foldB l), []) else none) else none)
  else if k = 4 then (if l.length = 1 then some (((l.getD 0 0).toNat : Int), []) else none)
  else if k = 2 ∨ k = 3 then (unText l).map fun s => (0, s)
  else none
def decEnd (k : Int) : Option (Int × List UInt8) → Ending
  | some (n, s) => .returned (.tuple #[.agg #[.int .i64 k, .int .i64 n, .string ⟨s.toArray⟩], .bool true])
  | none => .returned (.tuple #[.agg #[.int .i64 k, .int .i64 0, .string ⟨#[]⟩], .bool false])


theorem below2 (w : World) (o1 o2 : Obj) : Below w.heap.size w ((w.alloc o1).alloc o2) := (below_new w o1).alloc (by simp) o2

theorem cell_set_same {w : World} {a : Addr} {u : Value} (h : (w.cell? a).isSome = true) : (w.setCell a u).cell? a = some u := by
  obtain ⟨v, hv⟩ := Option.isSome_iff_exists.1 h
  exact World.cell?_setCell_same w a u hv
theorem addr_ne {g h i j : Nat} (hn : g ≠ h ∨ i ≠ j) : (⟨g, i, none⟩ : Addr) ≠ ⟨h, j, none⟩ := by
  intro e
  injection e with e1 e2
  omega
/-- Three cells of one block written, one behind the other. -/
theorem cell_set3 {w1 : World} {h : Nat} {a b c a0 b0 c0 : Value} (h0 : w1.cell? ⟨h, 0, none⟩ = some a0) (h1 : w1.cell? ⟨h, 1, none⟩ = some b0) (h2 : w1.cell? ⟨h, 2, none⟩ = some c0) :
    (((w1.setCell ⟨h, 0, none⟩ a).setCell ⟨h, 1, none⟩ b).setCell ⟨h, 2, none⟩ c).cell? ⟨h, 0, none⟩ = some a ∧ (((w1.setCell ⟨h, 0, none⟩ a).setCell ⟨h, 1, none⟩ b).setCell ⟨h, 2, none⟩ c).cell? ⟨h, 1, none⟩ = some b ∧
    (((w1.setCell ⟨h, 0, none⟩ a).setCell ⟨h, 1, none⟩ b).setCell ⟨h, 2, none⟩ c).cell? ⟨h, 2, none⟩ = some c ∧ ∀ g j, g ≠ h → (((w1.setCell ⟨h, 0, none⟩ a).setCell ⟨h, 1, none⟩ b).setCell ⟨h, 2, none⟩ c).cell? ⟨g, j, none⟩ = w1.cell? ⟨g, j, none⟩ := by
  refine ⟨?_, ?_, ?_, fun g j hg => ?_⟩
  · rw [World.cell?_setCell_other _ _ _ _ (addr_ne (Or.inr (by omega))), World.cell?_setCell_other _ _ _ _ (addr_ne (Or.inr (by omega)))]
    exact World.cell?_setCell_same _ _ _ h0
  · rw [World.cell?_setCell_other _ _ _ _ (addr_ne (Or.inr (by omega)))]
    exact World.cell?_setCell_same _ _ _ ((World.cell?_setCell_other _ _ _ _ (addr_ne (Or.inr (by omega)))).trans h1)
  · exact World.cell?_setCell_same _ _ _ ((World.cell?_setCell_other _ _ _ _ (addr_ne (Or.inr (by omega)))).trans ((World.cell?_setCell_other _ _ _ _ (addr_ne (Or.inr (by omega)))).trans h2))
  · rw [World.cell?_setCell_other _ _ _ _ (addr_ne (by omega)), World.cell?_setCell_other _ _ _ _ (addr_ne (by omega)), World.cell?_setCell_other _ _ _ _ (addr_ne (by omega))]
theorem below_get {w w1 : World} (h : Below w.heap.size w w1) : w.heap.size ≤ w1.heap.size := h.size

set_option maxHeartbeats 1000000 in
/-- The kinds of one number: whatever takeInt answers. -/
theorem decode_1 (A : Option Addr) (n c : Nat) (N : Int) (ok : Bool) (w : World) (HT : Hid (∀ W, Below w.heap.size w W → Calls Tryd.prog 214 #[.slice A n c] W fun e w' => e = .returned (.tuple #[.int .i64 N, .bool ok]) ∧ W = w')) :
    Calls Tryd.prog 195 #[.int .i64 1, .slice A n c] w fun e w' => e = .returned (.tuple #[.agg #[.int .i64 1, .int .i64 N, .string ⟨#[]⟩], .bool ok]) ∧ Below w.heap.size w w' := by
  have HB := hid (below2 w)
  go_enter Tryd.func195, Tryd.ntmps195
  go_wp2_with (go_at_call 214; refine (HT.out _ (HB.out _ _)).mono ?_; rintro e w' ⟨rfl, rfl⟩)
  exact bodyPost_ret (v := .tuple #[.agg #[.int .i64 1, .int .i64 N, .string ⟨#[]⟩], .bool ok]) (by simp [results, Tryd.results195, go_sem]) rfl ⟨rfl, HB.out _ _⟩

set_option maxHeartbeats 1000000 in
theorem decode_5 (A : Option Addr) (n c : Nat) (N : Int) (ok : Bool) (w : World) (HT : Hid (∀ W, Below w.heap.size w W → Calls Tryd.prog 215 #[.slice A n c] W fun e w' => e = .returned (.tuple #[.int .i64 N, .bool ok]) ∧ W = w')) :
    Calls Tryd.prog 195 #[.int .i64 5, .slice A n c] w fun e w' => e = .returned (.tuple #[.agg #[.int .i64 5, .int .i64 N, .string ⟨#[]⟩], .bool ok]) ∧ Below w.heap.size w w' := by
  have HB := hid (below2 w)
  go_enter Tryd.func195, Tryd.ntmps195
  go_wp2_with (go_at_call 215; refine (HT.out _ (HB.out _ _)).mono ?_; rintro e w' ⟨rfl, rfl⟩)
  exact bodyPost_ret (v := .tuple #[.agg #[.int .i64 5, .int .i64 N, .string ⟨#[]⟩], .bool ok]) (by simp [results, Tryd.results195, go_sem]) rfl ⟨rfl, HB.out _ _⟩

set_option maxHeartbeats 1000000 in
theorem decode_4_no (A : Option Addr) (n c : Nat) (hn : n ≠ 1) (w : World) :
    Calls Tryd.prog 195 #[.int .i64 4, .slice A n c] w fun e w' => e = .returned (.tuple #[.agg #[.int .i64 4, .int .i64 0, .string ⟨#[]⟩], .bool false]) ∧ Below w.heap.size w w' := by
  have HB := hid (below2 w)
  have h1 : ((n : Int) == 1) = false := by simp only [beq_eq_false_iff_ne, ne_eq]; omega
  go_enter Tryd.func195, Tryd.ntmps195
  go_wp2
  exact bodyPost_ret (v := .tuple #[.agg #[.int .i64 4, .int .i64 0, .string ⟨#[]⟩], .bool false]) (by simp [results, Tryd.results195, go_sem]) rfl ⟨rfl, HB.out _ _⟩

set_option maxHeartbeats 1000000 in
theorem decode_4_yes (b off c x : Nat) (hx : x < 256) (w : World) (hc : w.cell? ⟨b, off, none⟩ = some (.int .u8 (x : Int))) :
    Calls Tryd.prog 195 #[.int .i64 4, .slice (some ⟨b, off, none⟩) 1 c] w fun e w' => e = .returned (.tuple #[.agg #[.int .i64 4, .int .i64 (x : Int), .string ⟨#[]⟩], .bool true]) ∧ Below w.heap.size w w' := by
  have HB := hid (below2 w)
  have hlt := cell_lt hc
  have hc2 : ∀ o1 o2, ((w.alloc o1).alloc o2).cell? ⟨b, off, none⟩ = some (.int .u8 (x : Int)) := fun o1 o2 => by
    rw [(below2 w o1 o2).cell (p := ⟨b, off, none⟩) hlt]; exact hc
  clear hc
  go_enter Tryd.func195, Tryd.ntmps195
  go_wp2
  exact bodyPost_ret (v := .tuple #[.agg #[.int .i64 4, .int .i64 (x : Int), .string ⟨#[]⟩], .bool true]) (by simp [results, Tryd.results195, go_sem]) rfl ⟨rfl, HB.out _ _⟩

set_option maxHeartbeats 1000000 in
theorem decode_0 (k : Int) (A : Option Addr) (n c : Nat) (h1 : (k == 1) = false) (h2 : (k == 2) = false) (h3 : (k == 3) = false) (h4 : (k == 4) = false) (h5 : (k == 5) = false) (w : World) :
    Calls Tryd.prog 195 #[.int .i64 k, .slice A n c] w fun e w' => e = .returned (.tuple #[.agg #[.int .i64 k, .int .i64 0, .string ⟨#[]⟩], .bool false]) ∧ Below w.heap.size w w' := by
  have HB := hid (below2 w)
  go_enter Tryd.func195, Tryd.ntmps195
  go_wp2
  exact bodyPost_ret (v := .tuple #[.agg #[.int .i64 k, .int .i64 0, .string ⟨#[]⟩], .bool false]) (by simp [results, Tryd.results195, go_sem]) rfl ⟨rfl, HB.out _ _⟩

set_option maxHeartbeats 1000000 in
theorem decode_2 (A : Option Addr) (n c : Nat) (S : ByteArray) (ok : Bool) (w : World) (HT : Hid (∀ W, Below w.heap.size w W → Calls Tryd.prog 216 #[.slice A n c] W fun e w' => e = .returned (.tuple #[.string S, .bool ok]) ∧ Below W.heap.size W w')) :
    Calls Tryd.prog 195 #[.int .i64 2, .slice A n c] w fun e w' => e = .returned (.tuple #[.agg #[.int .i64 2, .int .i64 0, .string S], .bool ok]) ∧ Below w.heap.size w w' := by
  have HB := hid (below2 w)
  go_enter Tryd.func195, Tryd.ntmps195
  go_wp2_with (go_at_call 216; refine (HT.out _ (HB.out _ _)).mono ?_; rintro e w1 ⟨rfl, hb1⟩; obtain ⟨hc, hf⟩ := bcell hb1; have hz : w.heap.size + 1 < w1.heap.size := (by have := hb1.size; simp at this; omega); have g0 := hc w.heap.size 0 (by simp; omega); have g1 := hc w.heap.size 1 (by simp; omega); have g2 := hc w.heap.size 2 (by simp; omega))
  simp at g0 g1 g2
  refine bodyPost_ret (v := .tuple #[.agg #[.int .i64 2, .int .i64 0, .string S], .bool ok]) (by simp [results, Tryd.results195, go_sem, cell_set_same, g0, g1, g2]) rfl ⟨rfl, ?_⟩
  exact ((((((HB.out _ _).trans (hb1.mono (by simp; omega))).setCell (by simp) _).setCell (by simp) _).setCell (by simp) _).setCell (by simp) _)

set_option maxHeartbeats 1000000 in
theorem decode_3 (A : Option Addr) (n c : Nat) (S : ByteArray) (ok : Bool) (w : World) (HT : Hid (∀ W, Below w.heap.size w W → Calls Tryd.prog 216 #[.slice A n c] W fun e w' => e = .returned (.tuple #[.string S, .bool ok]) ∧ Below W.heap.size W w')) :
    Calls Tryd.prog 195 #[.int .i64 3, .slice A n c] w fun e w' => e = .returned (.tuple #[.agg #[.int .i64 3, .int .i64 0, .string S], .bool ok]) ∧ Below w.heap.size w w' := by
  have HB := hid (below2 w)
  go_enter Tryd.func195, Tryd.ntmps195
  go_wp2_with (go_at_call 216; refine (HT.out _ (HB.out _ _)).mono ?_; rintro e w1 ⟨rfl, hb1⟩; obtain ⟨hc, hf⟩ := bcell hb1; have hz : w.heap.size + 1 < w1.heap.size := (by have := hb1.size; simp at this; omega); have g0 := hc w.heap.size 0 (by simp; omega); have g1 := hc w.heap.size 1 (by simp; omega); have g2 := hc w.heap.size 2 (by simp; omega))
  simp at g0 g1 g2
  refine bodyPost_ret (v := .tuple #[.agg #[.int .i64 3, .int .i64 0, .string S], .bool ok]) (by simp [results, Tryd.results195, go_sem, cell_set_same, g0, g1, g2]) rfl ⟨rfl, ?_⟩
  exact ((((((HB.out _ _).trans (hb1.mono (by simp; omega))).setCell (by simp) _).setCell (by simp) _).setCell (by simp) _).setCell (by simp) _)

end Go.Proofs.YtgfkobfkncpmoaaDoor

/- val.Decode for every row of at most a thousand bytes. Conditions: the slice holds those bytes; the listed variables of the library read as they are laid. -/
namespace Go.Proofs.YtgfkobfkncpmoaaDoor
open Go.RowKit

theorem decEnd_some (k n : Int) (s : List UInt8) : decEnd k (some (n, s)) = .returned (.tuple #[.agg #[.int .i64 k, .int .i64 n, .string ⟨s.toArray⟩], .bool true]) := rfl

/-- val.decode, for every kind and every row. -/
theorem decode_any (k : Int) (l : List UInt8) (hl : l.length ≤ 100000) (A : Option Addr) (c : Nat) (w : World) (hh : HoldsA w A l) :
    Calls Tryd.prog 195 #[.int .i64 k, .slice A l.length c] w fun e w' => e = decEnd k (decV k l) ∧ Below w.heap.size w w' := by
  unfold decV
  by_cases h1 : k = 1
  · subst h1
    rw [if_pos rfl]
    by_cases h8 : l.length = 8
    · rw [if_pos h8]
      obtain ⟨b, off, rfl, hb⟩ := hh (by omega)
      have hlt := hb.lt (by omega)
      exact decode_1 _ _ c _ true w (hid fun W hW => by rw [h8]; exact takeInt_yes l h8 b off c W (hb.below hW hlt))
    · rw [if_neg h8]
      exact decode_1 _ _ c 0 false w (hid fun W hW => takeInt_no _ c h8 W)
  rw [if_neg h1]
  by_cases h5 : k = 5
  · subst h5
    rw [if_pos rfl]
    by_cases h8 : l.length = 8
    · rw [if_pos h8]
      obtain ⟨b, off, rfl, hb⟩ := hh (by omega)
      have hlt := hb.lt (by omega)
      have hF : ∀ W, Below w.heap.size w W → Calls Tryd.prog 215 #[.slice (some ⟨b, off, none⟩) l.length c] W fun e w' => e = fromEnd (unrankI (foldB l)) ∧ W = w' := fun W hW => by
        rw [h8]
        exact from_off l h8 b off c W (fun i hi => hb.below hW hlt i (by omega))
      unfold fromEnd at hF
      by_cases hr : rightB (unrankI (foldB l)) = true
      · rw [if_pos hr] at hF ⊢
        exact decode_5 _ _ c _ true w (hid hF)
      · rw [if_neg hr] at hF ⊢
        exact decode_5 _ _ c 0 false w (hid hF)
    · rw [if_neg h8]
      exact decode_5 _ _ c 0 false w (hid fun W hW => from_no _ c h8 W)
  rw [if_neg h5]
  by_cases h4 : k = 4
  · subst h4
    rw [if_pos rfl]
    by_cases h8 : l.length = 1
    · rw [if_pos h8]
      obtain ⟨b, off, rfl, hb⟩ := hh (by omega)
      have h0 := hb 0 (by omega)
      rw [h8]
      exact decode_4_yes b off c (l.getD 0 0).toNat (UInt8.toNat_lt _) w h0
    · rw [if_neg h8]
      exact decode_4_no _ _ c h8 w
  rw [if_neg h4]
  by_cases h23 : k = 2 ∨ k = 3
  · rw [if_pos h23]
    have hT : ∀ W, Below w.heap.size w W → Calls Tryd.prog 216 #[.slice A l.length c] W fun e w' => e = takeEnd (unText l) ∧ Below W.heap.size W w' := fun W hW => by
      by_cases h0 : 0 < l.length
      · obtain ⟨b, off, rfl, hb⟩ := hh h0
        exact takeText_any l b off c hl W (hb.below hW (hb.lt h0))
      · have e : unText l = none := by unfold unText; rw [if_pos (by omega)]
        rw [e]
        exact (takeText_short _ c (by omega) W).mono fun _ _ ⟨he, hw⟩ => ⟨he, by subst hw; exact Below.refl _ _⟩
    cases hu : unText l with
    | none =>
      rw [hu] at hT
      rcases h23 with rfl | rfl
      · exact decode_2 _ _ c ⟨#[]⟩ false w (hid hT)
      · exact decode_3 _ _ c ⟨#[]⟩ false w (hid hT)
    | some s =>
      rw [hu] at hT
      rcases h23 with rfl | rfl
      · exact decode_2 _ _ c ⟨s.toArray⟩ true w (hid hT)
      · exact decode_3 _ _ c ⟨s.toArray⟩ true w (hid hT)
  · rw [if_neg h23]
    exact decode_0 k _ _ c (by simpa using h1) (by simp; omega) (by simp; omega) (by simpa using h4) (by simpa using h5) w

set_option maxHeartbeats 1000000 in
theorem vdecode_nil (A : Option Addr) (c : Nat) (w : World) :
    Calls Tryd.prog 157 #[.slice A 0 c] w fun e w' => e = .returned (.tuple #[.agg #[.int .i64 0, .int .i64 0, .string ⟨#[]⟩], .bool false]) ∧ Below w.heap.size w w' := by
  go_enter Tryd.func157, Tryd.ntmps157
  go_wp2
  exact bodyPost_ret (v := .tuple #[.agg #[.int .i64 0, .int .i64 0, .string ⟨#[]⟩], .bool false]) (by simp [results, Tryd.results157, go_sem]) rfl ⟨rfl, below_new _ _⟩

/-- What decode and Right answer for a row. -/
def DecHyp (w : World) (x : Nat) (A1 : Option Addr) (m c1 : Nat) (k n : Int) (S : ByteArray) (ok R : Bool) : Prop :=
  (∀ W, Below w.heap.size w W → Calls Tryd.prog 195 #[.int .i64 (x : Int), .slice A1 m c1] W fun e w' => e = .returned (.tuple #[.agg #[.int .i64 k, .int .i64 n, .string S], .bool ok]) ∧ Below w.heap.size w w' ∧ Below W.heap.size W w') ∧
  (∀ W, Below w.heap.size w W → Calls Tryd.prog 150 #[.agg #[.int .i64 k, .int .i64 n, .string S]] W fun e w' => e = .returned (.bool R) ∧ Below w.heap.size w w' ∧ Below W.heap.size W w')


theorem unesc_len (l s : List UInt8) (h : unesc l = some s) : s.length ≤ l.length := by
  have e := esc_unesc l.length l s (Nat.le_refl _) h
  have : s.length ≤ (esc s).length := by
    clear e h
    induction s with
    | nil => simp
    | cons c r ih => simp only [esc]; split <;> simp <;> omega
  rw [e] at this
  exact this
/-- What val.Decode answers for a row. -/
def vdecEnd : List UInt8 → Ending
  | [] => .returned (.tuple #[.agg #[.int .i64 0, .int .i64 0, .string ⟨#[]⟩], .bool false])
  | x :: r => match decV (x.toNat : Int) r with
    | none => .returned (.tuple #[.agg #[.int .i64 0, .int .i64 0, .string ⟨#[]⟩], .bool false])
    | some (n, s) => if vRight (x.toNat : Int) n s = true then .returned (.tuple #[.agg #[.int .i64 (x.toNat : Int), .int .i64 n, .string ⟨s.toArray⟩], .bool true]) else .returned (.tuple #[.agg #[.int .i64 0, .int .i64 0, .string ⟨#[]⟩], .bool false])
/-- The number that decode takes is of 64 bits. -/
theorem decV_in {k : Int} {l : List UInt8} {n : Int} {s : List UInt8} (h : decV k l = some (n, s)) : inI n ∧ s.length ≤ l.length := by
  unfold decV at h
  by_cases h1 : k = 1
  · rw [if_pos h1] at h
    by_cases h8 : l.length = 8
    · rw [if_pos h8] at h
      simp only [Option.some.injEq, Prod.mk.injEq] at h
      have hb := foldB_lt l
      rw [h8, show (256 : Nat) ^ 8 = 18446744073709551616 by decide] at hb
      refine ⟨?_, by rw [← h.2]; simp⟩
      unfold inI
      omega
    · rw [if_neg h8] at h; cases h
  rw [if_neg h1] at h
  by_cases h5 : k = 5
  · rw [if_pos h5] at h
    by_cases h8 : l.length = 8
    · rw [if_pos h8] at h
      by_cases hr : rightB (unrankI (foldB l)) = true
      · rw [if_pos hr] at h
        simp only [Option.some.injEq, Prod.mk.injEq] at h
        have hb := foldB_lt l
        rw [h8, show (256 : Nat) ^ 8 = 18446744073709551616 by decide] at hb
        refine ⟨?_, by rw [← h.2]; simp⟩
        rw [← h.1]
        exact unrank_in (by omega) (by omega)
      · rw [if_neg hr] at h; cases h
    · rw [if_neg h8] at h; cases h
  rw [if_neg h5] at h
  by_cases h4 : k = 4
  · rw [if_pos h4] at h
    by_cases h8 : l.length = 1
    · rw [if_pos h8] at h
      simp only [Option.some.injEq, Prod.mk.injEq] at h
      have := (l.getD 0 0).toNat_lt
      refine ⟨?_, by rw [← h.2]; simp⟩
      unfold inI
      omega
    · rw [if_neg h8] at h; cases h
  rw [if_neg h4] at h
  by_cases h23 : k = 2 ∨ k = 3
  · rw [if_pos h23] at h
    obtain ⟨t, ht, hts⟩ := Option.map_eq_some_iff.1 h
    simp only [Prod.mk.injEq] at hts
    refine ⟨by rw [← hts.1]; unfold inI; omega, ?_⟩
    rw [← hts.2]
    unfold unText at ht
    split at ht
    · cases ht
    · split at ht
      · have := unesc_len _ _ ht
        rw [List.length_take] at this
        omega
      · cases ht
  · rw [if_neg h23] at h; cases h

end Go.Proofs.YtgfkobfkncpmoaaDoor

/- val.Decode once its first byte and its rest are known. Conditions: as in the text ahead. -/
namespace Go.Proofs.YtgfkobfkncpmoaaDoor
open Go.RowKit

set_option maxHeartbeats 4000000 in
set_option maxRecDepth 100000 in
theorem vdecode_tt (b off m c x : Nat) (hc : 1 < c) (hm : m + 1 ≤ c) (hx : x < 256) (hml : m ≤ 100000) (w : World) (hcell : w.cell? ⟨b, off, none⟩ = some (.int .u8 (x : Int))) (k n : Int) (S : ByteArray) (HD : DecHyp w x (some ⟨b, off + 1, none⟩) m (c - 1) k n S true true) :
    Calls Tryd.prog 157 #[.slice (some ⟨b, off, none⟩) (m + 1) c] w fun e w' => e = .returned (.tuple #[.agg #[.int .i64 k, .int .i64 n, .string S], .bool true]) ∧ Below w.heap.size w w' := by
  have H1 := hid HD.1
  have H2 := hid HD.2
  clear HD
  have hlt := cell_lt hcell
  have HB := hid (below_new w)
  have hcell' : ∀ o, (w.alloc o).cell? ⟨b, off, none⟩ = some (.int .u8 (x : Int)) := fun o => by
    rw [(below_new w o).cell (p := ⟨b, off, none⟩) hlt]; exact hcell
  have HB2 := hid (below2 w)
  have hne := World.new_ne w ⟨b, off, none⟩ hcell
  have hne2 : w.heap.size + 1 ≠ b := by omega
  have hcell2 : ∀ o1 o2, ((w.alloc o1).alloc o2).cell? ⟨b, off, none⟩ = some (.int .u8 (x : Int)) := fun o1 o2 => by
    rw [(below2 w o1 o2).cell (p := ⟨b, off, none⟩) hlt]; exact hcell
  have hwrap : IntKind.i64.wrap (x : Int) = (x : Int) := IntWalk.i64_in _ (by omega)
  have h10 : (1 : Int) ≤ (m : Int) + 1 := by omega
  have h11 : (m : Int) + 1 ≤ (c : Int) := by omega
  have h12 : (c = 1) = False := by simp; omega
  go_enter Tryd.func157, Tryd.ntmps157
  go_wp2
  go_region_held3 (fun w' => w'.cell? ⟨b, off, none⟩ = some (.int .u8 (x : Int))) (first | go_keep | (rw [hb1.cell (p := ⟨b, off, none⟩) (by simp; omega)]; first | go_keep | (simp [hcell', hcell2]))) ((go_at_call 195; with_reducible refine (H1.out _ ?_).mono ?_; (first | (with_reducible exact (HB.out _).drew) | (with_reducible exact (HB2.out _ _).drew) | (with_reducible exact (HB.out _)) | (with_reducible exact (HB2.out _ _))); rintro e w1 ⟨rfl, hbw1, hb1⟩; obtain ⟨hc1, hf1⟩ := bcell hb1; have hz1 : w.heap.size < w1.heap.size := (by have := hb1.size; simp at this; omega); have hne1 : w1.heap.size ≠ b := (by omega); (first | (have hz1b : w.heap.size + 1 < w1.heap.size := (by have := hb1.size; simp at this; omega); have p0 : w1.cell? ⟨w.heap.size + 1, 0, none⟩ = some (.int .i64 0) := ((hb1.cell (p := ⟨w.heap.size + 1, 0, none⟩) (by simp)).trans (by simp)); have p1 : w1.cell? ⟨w.heap.size + 1, 1, none⟩ = some (.int .i64 0) := ((hb1.cell (p := ⟨w.heap.size + 1, 1, none⟩) (by simp)).trans (by simp)); have p2 : w1.cell? ⟨w.heap.size + 1, 2, none⟩ = some (.string ⟨#[]⟩) := ((hb1.cell (p := ⟨w.heap.size + 1, 2, none⟩) (by simp)).trans (by simp))) | skip); have g0 := hc1 w.heap.size 0 (by simp <;> omega); have g1 := hc1 w.heap.size 1 (by simp <;> omega); have g2 := hc1 w.heap.size 2 (by simp <;> omega); simp at g0 g1 g2; have z0 : ∀ j, w1.frozen? ⟨w.heap.size, j, none⟩ = false := (fun j => (hb1.frozen (p := ⟨w.heap.size, j, none⟩) (by simp <;> omega)).trans (by simp [World.frozen?_alloc_at, World.frozen?_alloc_past])); have hcw : w1.cell? ⟨b, off, none⟩ = some (.int .u8 (x : Int)) := (by rw [hb1.cell (p := ⟨b, off, none⟩) (by simp; omega)]; simp [hcell', hcell2])))
  all_goals clear H1 hcell' hcell2 HB HB2 hcell hf1 hc1 hwrap h10 h11 h12 hcw
  · obtain ⟨W, hW⟩ : ∃ W, w1.alloc (.cells #[.int .i64 k, .int .i64 n, .string S] 26) = W := ⟨_, rfl⟩
    have v0 : W.cell? ⟨w1.heap.size, 0, none⟩ = some (.int .i64 k) := by rw [← hW, World.cell?_alloc_at _ _ _ _ rfl]; rfl
    have v1 : W.cell? ⟨w1.heap.size, 1, none⟩ = some (.int .i64 n) := by rw [← hW, World.cell?_alloc_at _ _ _ _ rfl]; rfl
    have v2 : W.cell? ⟨w1.heap.size, 2, none⟩ = some (.string S) := by rw [← hW, World.cell?_alloc_at _ _ _ _ rfl]; rfl
    have r0 : W.cell? ⟨w.heap.size, 0, none⟩ = some (.int .i64 0) := by rw [← hW, World.cell?_alloc_past _ _ _ hz1]; exact g0
    have r1 : W.cell? ⟨w.heap.size, 1, none⟩ = some (.int .i64 0) := by rw [← hW, World.cell?_alloc_past _ _ _ hz1]; exact g1
    have r2 : W.cell? ⟨w.heap.size, 2, none⟩ = some (.string ⟨#[]⟩) := by rw [← hW, World.cell?_alloc_past _ _ _ hz1]; exact g2
    have y0 : ∀ j, W.frozen? ⟨w.heap.size, j, none⟩ = false := fun j => by rw [← hW, World.frozen?_alloc_past _ _ _ hz1]; exact z0 j
    have hbW : Below w.heap.size w W := by rw [← hW]; exact hbw1.alloc (Nat.le_of_lt hz1) _
    have hzW : w.heap.size < W.heap.size := by rw [← hW]; simp; omega
    have hzV : w1.heap.size < W.heap.size := by rw [← hW]; simp
    rw [hW]
    clear hb1 hbw1 hW g0 g1 g2 z0
    go_wp2_with (go_at_call 150; with_reducible refine (H2.out _ hbW).mono ?_; rintro e w2 ⟨rfl, hbw2, hb2⟩; have q0 : w2.cell? ⟨w.heap.size, 0, none⟩ = some (.int .i64 0) := ((hb2.cell (p := ⟨w.heap.size, 0, none⟩) hzW).trans r0); have q1 : w2.cell? ⟨w.heap.size, 1, none⟩ = some (.int .i64 0) := ((hb2.cell (p := ⟨w.heap.size, 1, none⟩) hzW).trans r1); have q2 : w2.cell? ⟨w.heap.size, 2, none⟩ = some (.string ⟨#[]⟩) := ((hb2.cell (p := ⟨w.heap.size, 2, none⟩) hzW).trans r2); have u0 : w2.cell? ⟨w1.heap.size, 0, none⟩ = some (.int .i64 k) := ((hb2.cell (p := ⟨w1.heap.size, 0, none⟩) hzV).trans v0); have u1 : w2.cell? ⟨w1.heap.size, 1, none⟩ = some (.int .i64 n) := ((hb2.cell (p := ⟨w1.heap.size, 1, none⟩) hzV).trans v1); have u2 : w2.cell? ⟨w1.heap.size, 2, none⟩ = some (.string S) := ((hb2.cell (p := ⟨w1.heap.size, 2, none⟩) hzV).trans v2); have x0 : ∀ j, w2.frozen? ⟨w.heap.size, j, none⟩ = false := (fun j => (hb2.frozen (p := ⟨w.heap.size, j, none⟩) hzW).trans (y0 j)))
    refine bodyPost_ret (v := .tuple #[.agg #[.int .i64 k, .int .i64 n, .string S], .bool true]) (by simp [results, Tryd.results157, go_sem, cell_set_same, q0, q1, q2]) rfl ⟨rfl, ?_⟩
    exact ((hbw2.setCell (by simp) _).setCell (by simp) _).setCell (by simp) _
  · obtain ⟨W, hW⟩ : ∃ W, ((w1.setCell ⟨w.heap.size + 1, 0, none⟩ (.int .i64 k)).setCell ⟨w.heap.size + 1, 1, none⟩ (.int .i64 n)).setCell ⟨w.heap.size + 1, 2, none⟩ (.string S) = W := ⟨_, rfl⟩
    have v0 : W.cell? ⟨w.heap.size + 1, 0, none⟩ = some (.int .i64 k) := by rw [← hW]; exact (cell_set3 p0 p1 p2).1
    have v1 : W.cell? ⟨w.heap.size + 1, 1, none⟩ = some (.int .i64 n) := by rw [← hW]; exact (cell_set3 p0 p1 p2).2.1
    have v2 : W.cell? ⟨w.heap.size + 1, 2, none⟩ = some (.string S) := by rw [← hW]; exact (cell_set3 p0 p1 p2).2.2.1
    have r0 : W.cell? ⟨w.heap.size, 0, none⟩ = some (.int .i64 0) := by rw [← hW, (cell_set3 p0 p1 p2).2.2.2 _ _ (by omega)]; exact g0
    have r1 : W.cell? ⟨w.heap.size, 1, none⟩ = some (.int .i64 0) := by rw [← hW, (cell_set3 p0 p1 p2).2.2.2 _ _ (by omega)]; exact g1
    have r2 : W.cell? ⟨w.heap.size, 2, none⟩ = some (.string ⟨#[]⟩) := by rw [← hW, (cell_set3 p0 p1 p2).2.2.2 _ _ (by omega)]; exact g2
    have y0 : ∀ j, W.frozen? ⟨w.heap.size, j, none⟩ = false := fun j => by rw [← hW]; simp [z0]
    have hbW : Below w.heap.size w W := by rw [← hW]; exact ((hbw1.setCell (by simp) _).setCell (by simp) _).setCell (by simp) _
    have hzW : w.heap.size < W.heap.size := by rw [← hW]; simp; omega
    have hzV : w.heap.size + 1 < W.heap.size := by rw [← hW]; simp; omega
    rw [hW]
    clear hb1 hbw1 hW g0 g1 g2 z0 p0 p1 p2
    go_wp2_with (go_at_call 150; with_reducible refine (H2.out _ hbW).mono ?_; rintro e w2 ⟨rfl, hbw2, hb2⟩; have q0 : w2.cell? ⟨w.heap.size, 0, none⟩ = some (.int .i64 0) := ((hb2.cell (p := ⟨w.heap.size, 0, none⟩) hzW).trans r0); have q1 : w2.cell? ⟨w.heap.size, 1, none⟩ = some (.int .i64 0) := ((hb2.cell (p := ⟨w.heap.size, 1, none⟩) hzW).trans r1); have q2 : w2.cell? ⟨w.heap.size, 2, none⟩ = some (.string ⟨#[]⟩) := ((hb2.cell (p := ⟨w.heap.size, 2, none⟩) hzW).trans r2); have u0 : w2.cell? ⟨w.heap.size + 1, 0, none⟩ = some (.int .i64 k) := ((hb2.cell (p := ⟨w.heap.size + 1, 0, none⟩) hzV).trans v0); have u1 : w2.cell? ⟨w.heap.size + 1, 1, none⟩ = some (.int .i64 n) := ((hb2.cell (p := ⟨w.heap.size + 1, 1, none⟩) hzV).trans v1); have u2 : w2.cell? ⟨w.heap.size + 1, 2, none⟩ = some (.string S) := ((hb2.cell (p := ⟨w.heap.size + 1, 2, none⟩) hzV).trans v2); have x0 : ∀ j, w2.frozen? ⟨w.heap.size, j, none⟩ = false := (fun j => (hb2.frozen (p := ⟨w.heap.size, j, none⟩) hzW).trans (y0 j)))
    refine bodyPost_ret (v := .tuple #[.agg #[.int .i64 k, .int .i64 n, .string S], .bool true]) (by simp [results, Tryd.results157, go_sem, cell_set_same, q0, q1, q2]) rfl ⟨rfl, ?_⟩
    exact ((hbw2.setCell (by simp) _).setCell (by simp) _).setCell (by simp) _

set_option maxHeartbeats 4000000 in
set_option maxRecDepth 100000 in
theorem vdecode_ff (b off m c x : Nat) (hc : 1 < c) (hm : m + 1 ≤ c) (hx : x < 256) (hml : m ≤ 100000) (w : World) (hcell : w.cell? ⟨b, off, none⟩ = some (.int .u8 (x : Int))) (k n : Int) (S : ByteArray) (R : Bool) (HD : DecHyp w x (some ⟨b, off + 1, none⟩) m (c - 1) k n S false R) :
    Calls Tryd.prog 157 #[.slice (some ⟨b, off, none⟩) (m + 1) c] w fun e w' => e = .returned (.tuple #[.agg #[.int .i64 0, .int .i64 0, .string ⟨#[]⟩], .bool false]) ∧ Below w.heap.size w w' := by
  have H1 := hid HD.1
  have H2 := hid HD.2
  clear HD
  have hlt := cell_lt hcell
  have HB := hid (below_new w)
  have hcell' : ∀ o, (w.alloc o).cell? ⟨b, off, none⟩ = some (.int .u8 (x : Int)) := fun o => by
    rw [(below_new w o).cell (p := ⟨b, off, none⟩) hlt]; exact hcell
  have HB2 := hid (below2 w)
  have hne := World.new_ne w ⟨b, off, none⟩ hcell
  have hne2 : w.heap.size + 1 ≠ b := by omega
  have hcell2 : ∀ o1 o2, ((w.alloc o1).alloc o2).cell? ⟨b, off, none⟩ = some (.int .u8 (x : Int)) := fun o1 o2 => by
    rw [(below2 w o1 o2).cell (p := ⟨b, off, none⟩) hlt]; exact hcell
  have hwrap : IntKind.i64.wrap (x : Int) = (x : Int) := IntWalk.i64_in _ (by omega)
  have h10 : (1 : Int) ≤ (m : Int) + 1 := by omega
  have h11 : (m : Int) + 1 ≤ (c : Int) := by omega
  have h12 : (c = 1) = False := by simp; omega
  go_enter Tryd.func157, Tryd.ntmps157
  go_wp2
  go_region_held3 (fun w' => w'.cell? ⟨b, off, none⟩ = some (.int .u8 (x : Int))) (first | go_keep | (rw [hb1.cell (p := ⟨b, off, none⟩) (by simp; omega)]; first | go_keep | (simp [hcell', hcell2]))) ((go_at_call 195; with_reducible refine (H1.out _ ?_).mono ?_; (first | (with_reducible exact (HB.out _).drew) | (with_reducible exact (HB2.out _ _).drew) | (with_reducible exact (HB.out _)) | (with_reducible exact (HB2.out _ _))); rintro e w1 ⟨rfl, hbw1, hb1⟩; obtain ⟨hc1, hf1⟩ := bcell hb1; have hz1 : w.heap.size < w1.heap.size := (by have := hb1.size; simp at this; omega); have hne1 : w1.heap.size ≠ b := (by omega); (first | (have hz1b : w.heap.size + 1 < w1.heap.size := (by have := hb1.size; simp at this; omega); have p0 : w1.cell? ⟨w.heap.size + 1, 0, none⟩ = some (.int .i64 0) := ((hb1.cell (p := ⟨w.heap.size + 1, 0, none⟩) (by simp)).trans (by simp)); have p1 : w1.cell? ⟨w.heap.size + 1, 1, none⟩ = some (.int .i64 0) := ((hb1.cell (p := ⟨w.heap.size + 1, 1, none⟩) (by simp)).trans (by simp)); have p2 : w1.cell? ⟨w.heap.size + 1, 2, none⟩ = some (.string ⟨#[]⟩) := ((hb1.cell (p := ⟨w.heap.size + 1, 2, none⟩) (by simp)).trans (by simp))) | skip); have g0 := hc1 w.heap.size 0 (by simp <;> omega); have g1 := hc1 w.heap.size 1 (by simp <;> omega); have g2 := hc1 w.heap.size 2 (by simp <;> omega); simp at g0 g1 g2; have z0 : ∀ j, w1.frozen? ⟨w.heap.size, j, none⟩ = false := (fun j => (hb1.frozen (p := ⟨w.heap.size, j, none⟩) (by simp <;> omega)).trans (by simp [World.frozen?_alloc_at, World.frozen?_alloc_past])); have hcw : w1.cell? ⟨b, off, none⟩ = some (.int .u8 (x : Int)) := (by rw [hb1.cell (p := ⟨b, off, none⟩) (by simp; omega)]; simp [hcell', hcell2])))
  all_goals clear H1 hcell' hcell2 HB HB2 hcell hf1 hc1 hwrap h10 h11 h12 hcw
  · obtain ⟨W, hW⟩ : ∃ W, w1.alloc (.cells #[.int .i64 k, .int .i64 n, .string S] 26) = W := ⟨_, rfl⟩
    have v0 : W.cell? ⟨w1.heap.size, 0, none⟩ = some (.int .i64 k) := by rw [← hW, World.cell?_alloc_at _ _ _ _ rfl]; rfl
    have v1 : W.cell? ⟨w1.heap.size, 1, none⟩ = some (.int .i64 n) := by rw [← hW, World.cell?_alloc_at _ _ _ _ rfl]; rfl
    have v2 : W.cell? ⟨w1.heap.size, 2, none⟩ = some (.string S) := by rw [← hW, World.cell?_alloc_at _ _ _ _ rfl]; rfl
    have r0 : W.cell? ⟨w.heap.size, 0, none⟩ = some (.int .i64 0) := by rw [← hW, World.cell?_alloc_past _ _ _ hz1]; exact g0
    have r1 : W.cell? ⟨w.heap.size, 1, none⟩ = some (.int .i64 0) := by rw [← hW, World.cell?_alloc_past _ _ _ hz1]; exact g1
    have r2 : W.cell? ⟨w.heap.size, 2, none⟩ = some (.string ⟨#[]⟩) := by rw [← hW, World.cell?_alloc_past _ _ _ hz1]; exact g2
    have y0 : ∀ j, W.frozen? ⟨w.heap.size, j, none⟩ = false := fun j => by rw [← hW, World.frozen?_alloc_past _ _ _ hz1]; exact z0 j
    have hbW : Below w.heap.size w W := by rw [← hW]; exact hbw1.alloc (Nat.le_of_lt hz1) _
    have hzW : w.heap.size < W.heap.size := by rw [← hW]; simp; omega
    have hzV : w1.heap.size < W.heap.size := by rw [← hW]; simp
    rw [hW]
    clear hb1 hbw1 hW g0 g1 g2 z0
    go_wp2
    refine bodyPost_ret (v := .tuple #[.agg #[.int .i64 0, .int .i64 0, .string ⟨#[]⟩], .bool false]) (by simp [results, Tryd.results157, go_sem, cell_set_same, r0, r1, r2]) rfl ⟨rfl, ?_⟩
    exact ((hbW.setCell (by simp) _).setCell (by simp) _).setCell (by simp) _
  · obtain ⟨W, hW⟩ : ∃ W, ((w1.setCell ⟨w.heap.size + 1, 0, none⟩ (.int .i64 k)).setCell ⟨w.heap.size + 1, 1, none⟩ (.int .i64 n)).setCell ⟨w.heap.size + 1, 2, none⟩ (.string S) = W := ⟨_, rfl⟩
    have v0 : W.cell? ⟨w.heap.size + 1, 0, none⟩ = some (.int .i64 k) := by rw [← hW]; exact (cell_set3 p0 p1 p2).1
    have v1 : W.cell? ⟨w.heap.size + 1, 1, none⟩ = some (.int .i64 n) := by rw [← hW]; exact (cell_set3 p0 p1 p2).2.1
    have v2 : W.cell? ⟨w.heap.size + 1, 2, none⟩ = some (.string S) := by rw [← hW]; exact (cell_set3 p0 p1 p2).2.2.1
    have r0 : W.cell? ⟨w.heap.size, 0, none⟩ = some (.int .i64 0) := by rw [← hW, (cell_set3 p0 p1 p2).2.2.2 _ _ (by omega)]; exact g0
    have r1 : W.cell? ⟨w.heap.size, 1, none⟩ = some (.int .i64 0) := by rw [← hW, (cell_set3 p0 p1 p2).2.2.2 _ _ (by omega)]; exact g1
    have r2 : W.cell? ⟨w.heap.size, 2, none⟩ = some (.string ⟨#[]⟩) := by rw [← hW, (cell_set3 p0 p1 p2).2.2.2 _ _ (by omega)]; exact g2
    have y0 : ∀ j, W.frozen? ⟨w.heap.size, j, none⟩ = false := fun j => by rw [← hW]; simp [z0]
    have hbW : Below w.heap.size w W := by rw [← hW]; exact ((hbw1.setCell (by simp) _).setCell (by simp) _).setCell (by simp) _
    have hzW : w.heap.size < W.heap.size := by rw [← hW]; simp; omega
    have hzV : w.heap.size + 1 < W.heap.size := by rw [← hW]; simp; omega
    rw [hW]
    clear hb1 hbw1 hW g0 g1 g2 z0 p0 p1 p2
    go_wp2
    refine bodyPost_ret (v := .tuple #[.agg #[.int .i64 0, .int .i64 0, .string ⟨#[]⟩], .bool false]) (by simp [results, Tryd.results157, go_sem, cell_set_same, r0, r1, r2]) rfl ⟨rfl, ?_⟩
    exact ((hbW.setCell (by simp) _).setCell (by simp) _).setCell (by simp) _

set_option maxHeartbeats 4000000 in
set_option maxRecDepth 100000 in
theorem vdecode_f1 (b off x : Nat) (hx : x < 256) (w : World) (hcell : w.cell? ⟨b, off, none⟩ = some (.int .u8 (x : Int))) (k n : Int) (S : ByteArray) (R : Bool) (HD : DecHyp w x (some ⟨b, off, none⟩) 0 0 k n S false R) :
    Calls Tryd.prog 157 #[.slice (some ⟨b, off, none⟩) 1 1] w fun e w' => e = .returned (.tuple #[.agg #[.int .i64 0, .int .i64 0, .string ⟨#[]⟩], .bool false]) ∧ Below w.heap.size w w' := by
  have H1 := hid HD.1
  have H2 := hid HD.2
  clear HD
  have hlt := cell_lt hcell
  have HB := hid (below_new w)
  have hcell' : ∀ o, (w.alloc o).cell? ⟨b, off, none⟩ = some (.int .u8 (x : Int)) := fun o => by
    rw [(below_new w o).cell (p := ⟨b, off, none⟩) hlt]; exact hcell
  have HB2 := hid (below2 w)
  have hne := World.new_ne w ⟨b, off, none⟩ hcell
  have hne2 : w.heap.size + 1 ≠ b := by omega
  have hcell2 : ∀ o1 o2, ((w.alloc o1).alloc o2).cell? ⟨b, off, none⟩ = some (.int .u8 (x : Int)) := fun o1 o2 => by
    rw [(below2 w o1 o2).cell (p := ⟨b, off, none⟩) hlt]; exact hcell
  have hwrap : IntKind.i64.wrap (x : Int) = (x : Int) := IntWalk.i64_in _ (by omega)
  go_enter Tryd.func157, Tryd.ntmps157
  go_wp2
  go_region_held3 (fun w' => w'.cell? ⟨b, off, none⟩ = some (.int .u8 (x : Int))) (first | go_keep | (rw [hb1.cell (p := ⟨b, off, none⟩) (by simp; omega)]; first | go_keep | (simp [hcell', hcell2]))) ((go_at_call 195; with_reducible refine (H1.out _ ?_).mono ?_; (first | (with_reducible exact (HB.out _).drew) | (with_reducible exact (HB2.out _ _).drew) | (with_reducible exact (HB.out _)) | (with_reducible exact (HB2.out _ _))); rintro e w1 ⟨rfl, hbw1, hb1⟩; obtain ⟨hc1, hf1⟩ := bcell hb1; have hz1 : w.heap.size < w1.heap.size := (by have := hb1.size; simp at this; omega); have hne1 : w1.heap.size ≠ b := (by omega); (first | (have hz1b : w.heap.size + 1 < w1.heap.size := (by have := hb1.size; simp at this; omega); have p0 : w1.cell? ⟨w.heap.size + 1, 0, none⟩ = some (.int .i64 0) := ((hb1.cell (p := ⟨w.heap.size + 1, 0, none⟩) (by simp)).trans (by simp)); have p1 : w1.cell? ⟨w.heap.size + 1, 1, none⟩ = some (.int .i64 0) := ((hb1.cell (p := ⟨w.heap.size + 1, 1, none⟩) (by simp)).trans (by simp)); have p2 : w1.cell? ⟨w.heap.size + 1, 2, none⟩ = some (.string ⟨#[]⟩) := ((hb1.cell (p := ⟨w.heap.size + 1, 2, none⟩) (by simp)).trans (by simp))) | skip); have g0 := hc1 w.heap.size 0 (by simp <;> omega); have g1 := hc1 w.heap.size 1 (by simp <;> omega); have g2 := hc1 w.heap.size 2 (by simp <;> omega); simp at g0 g1 g2; have z0 : ∀ j, w1.frozen? ⟨w.heap.size, j, none⟩ = false := (fun j => (hb1.frozen (p := ⟨w.heap.size, j, none⟩) (by simp <;> omega)).trans (by simp [World.frozen?_alloc_at, World.frozen?_alloc_past])); have hcw : w1.cell? ⟨b, off, none⟩ = some (.int .u8 (x : Int)) := (by rw [hb1.cell (p := ⟨b, off, none⟩) (by simp; omega)]; simp [hcell', hcell2])))
  all_goals clear H1 hcell' hcell2 HB HB2 hcell hf1 hc1 hwrap hcw
  · obtain ⟨W, hW⟩ : ∃ W, w1.alloc (.cells #[.int .i64 k, .int .i64 n, .string S] 26) = W := ⟨_, rfl⟩
    have v0 : W.cell? ⟨w1.heap.size, 0, none⟩ = some (.int .i64 k) := by rw [← hW, World.cell?_alloc_at _ _ _ _ rfl]; rfl
    have v1 : W.cell? ⟨w1.heap.size, 1, none⟩ = some (.int .i64 n) := by rw [← hW, World.cell?_alloc_at _ _ _ _ rfl]; rfl
    have v2 : W.cell? ⟨w1.heap.size, 2, none⟩ = some (.string S) := by rw [← hW, World.cell?_alloc_at _ _ _ _ rfl]; rfl
    have r0 : W.cell? ⟨w.heap.size, 0, none⟩ = some (.int .i64 0) := by rw [← hW, World.cell?_alloc_past _ _ _ hz1]; exact g0
    have r1 : W.cell? ⟨w.heap.size, 1, none⟩ = some (.int .i64 0) := by rw [← hW, World.cell?_alloc_past _ _ _ hz1]; exact g1
    have r2 : W.cell? ⟨w.heap.size, 2, none⟩ = some (.string ⟨#[]⟩) := by rw [← hW, World.cell?_alloc_past _ _ _ hz1]; exact g2
    have y0 : ∀ j, W.frozen? ⟨w.heap.size, j, none⟩ = false := fun j => by rw [← hW, World.frozen?_alloc_past _ _ _ hz1]; exact z0 j
    have hbW : Below w.heap.size w W := by rw [← hW]; exact hbw1.alloc (Nat.le_of_lt hz1) _
    have hzW : w.heap.size < W.heap.size := by rw [← hW]; simp; omega
    have hzV : w1.heap.size < W.heap.size := by rw [← hW]; simp
    rw [hW]
    clear hb1 hbw1 hW g0 g1 g2 z0
    go_wp2
    refine bodyPost_ret (v := .tuple #[.agg #[.int .i64 0, .int .i64 0, .string ⟨#[]⟩], .bool false]) (by simp [results, Tryd.results157, go_sem, cell_set_same, r0, r1, r2]) rfl ⟨rfl, ?_⟩
    exact ((hbW.setCell (by simp) _).setCell (by simp) _).setCell (by simp) _
  · obtain ⟨W, hW⟩ : ∃ W, ((w1.setCell ⟨w.heap.size + 1, 0, none⟩ (.int .i64 k)).setCell ⟨w.heap.size + 1, 1, none⟩ (.int .i64 n)).setCell ⟨w.heap.size + 1, 2, none⟩ (.string S) = W := ⟨_, rfl⟩
    have v0 : W.cell? ⟨w.heap.size + 1, 0, none⟩ = some (.int .i64 k) := by rw [← hW]; exact (cell_set3 p0 p1 p2).1
    have v1 : W.cell? ⟨w.heap.size + 1, 1, none⟩ = some (.int .i64 n) := by rw [← hW]; exact (cell_set3 p0 p1 p2).2.1
    have v2 : W.cell? ⟨w.heap.size + 1, 2, none⟩ = some (.string S) := by rw [← hW]; exact (cell_set3 p0 p1 p2).2.2.1
    have r0 : W.cell? ⟨w.heap.size, 0, none⟩ = some (.int .i64 0) := by rw [← hW, (cell_set3 p0 p1 p2).2.2.2 _ _ (by omega)]; exact g0
    have r1 : W.cell? ⟨w.heap.size, 1, none⟩ = some (.int .i64 0) := by rw [← hW, (cell_set3 p0 p1 p2).2.2.2 _ _ (by omega)]; exact g1
    have r2 : W.cell? ⟨w.heap.size, 2, none⟩ = some (.string ⟨#[]⟩) := by rw [← hW, (cell_set3 p0 p1 p2).2.2.2 _ _ (by omega)]; exact g2
    have y0 : ∀ j, W.frozen? ⟨w.heap.size, j, none⟩ = false := fun j => by rw [← hW]; simp [z0]
    have hbW : Below w.heap.size w W := by rw [← hW]; exact ((hbw1.setCell (by simp) _).setCell (by simp) _).setCell (by simp) _
    have hzW : w.heap.size < W.heap.size := by rw [← hW]; simp; omega
    have hzV : w.heap.size + 1 < W.heap.size := by rw [← hW]; simp; omega
    rw [hW]
    clear hb1 hbw1 hW g0 g1 g2 z0 p0 p1 p2
    go_wp2
    refine bodyPost_ret (v := .tuple #[.agg #[.int .i64 0, .int .i64 0, .string ⟨#[]⟩], .bool false]) (by simp [results, Tryd.results157, go_sem, cell_set_same, r0, r1, r2]) rfl ⟨rfl, ?_⟩
    exact ((hbW.setCell (by simp) _).setCell (by simp) _).setCell (by simp) _

set_option maxHeartbeats 4000000 in
set_option maxRecDepth 100000 in
theorem vdecode_tf (b off m c x : Nat) (hc : 1 < c) (hm : m + 1 ≤ c) (hx : x < 256) (hml : m ≤ 100000) (w : World) (hcell : w.cell? ⟨b, off, none⟩ = some (.int .u8 (x : Int))) (k n : Int) (S : ByteArray) (HD : DecHyp w x (some ⟨b, off + 1, none⟩) m (c - 1) k n S true false) :
    Calls Tryd.prog 157 #[.slice (some ⟨b, off, none⟩) (m + 1) c] w fun e w' => e = .returned (.tuple #[.agg #[.int .i64 0, .int .i64 0, .string ⟨#[]⟩], .bool false]) ∧ Below w.heap.size w w' := by
  have H1 := hid HD.1
  have H2 := hid HD.2
  clear HD
  have hlt := cell_lt hcell
  have HB := hid (below_new w)
  have hcell' : ∀ o, (w.alloc o).cell? ⟨b, off, none⟩ = some (.int .u8 (x : Int)) := fun o => by
    rw [(below_new w o).cell (p := ⟨b, off, none⟩) hlt]; exact hcell
  have HB2 := hid (below2 w)
  have hne := World.new_ne w ⟨b, off, none⟩ hcell
  have hne2 : w.heap.size + 1 ≠ b := by omega
  have hcell2 : ∀ o1 o2, ((w.alloc o1).alloc o2).cell? ⟨b, off, none⟩ = some (.int .u8 (x : Int)) := fun o1 o2 => by
    rw [(below2 w o1 o2).cell (p := ⟨b, off, none⟩) hlt]; exact hcell
  have hwrap : IntKind.i64.wrap (x : Int) = (x : Int) := IntWalk.i64_in _ (by omega)
  have h10 : (1 : Int) ≤ (m : Int) + 1 := by omega
  have h11 : (m : Int) + 1 ≤ (c : Int) := by omega
  have h12 : (c = 1) = False := by simp; omega
  go_enter Tryd.func157, Tryd.ntmps157
  go_wp2
  go_region_held3 (fun w' => w'.cell? ⟨b, off, none⟩ = some (.int .u8 (x : Int))) (first | go_keep | (rw [hb1.cell (p := ⟨b, off, none⟩) (by simp; omega)]; first | go_keep | (simp [hcell', hcell2]))) ((go_at_call 195; with_reducible refine (H1.out _ ?_).mono ?_; (first | (with_reducible exact (HB.out _).drew) | (with_reducible exact (HB2.out _ _).drew) | (with_reducible exact (HB.out _)) | (with_reducible exact (HB2.out _ _))); rintro e w1 ⟨rfl, hbw1, hb1⟩; obtain ⟨hc1, hf1⟩ := bcell hb1; have hz1 : w.heap.size < w1.heap.size := (by have := hb1.size; simp at this; omega); have hne1 : w1.heap.size ≠ b := (by omega); (first | (have hz1b : w.heap.size + 1 < w1.heap.size := (by have := hb1.size; simp at this; omega); have p0 : w1.cell? ⟨w.heap.size + 1, 0, none⟩ = some (.int .i64 0) := ((hb1.cell (p := ⟨w.heap.size + 1, 0, none⟩) (by simp)).trans (by simp)); have p1 : w1.cell? ⟨w.heap.size + 1, 1, none⟩ = some (.int .i64 0) := ((hb1.cell (p := ⟨w.heap.size + 1, 1, none⟩) (by simp)).trans (by simp)); have p2 : w1.cell? ⟨w.heap.size + 1, 2, none⟩ = some (.string ⟨#[]⟩) := ((hb1.cell (p := ⟨w.heap.size + 1, 2, none⟩) (by simp)).trans (by simp))) | skip); have g0 := hc1 w.heap.size 0 (by simp <;> omega); have g1 := hc1 w.heap.size 1 (by simp <;> omega); have g2 := hc1 w.heap.size 2 (by simp <;> omega); simp at g0 g1 g2; have z0 : ∀ j, w1.frozen? ⟨w.heap.size, j, none⟩ = false := (fun j => (hb1.frozen (p := ⟨w.heap.size, j, none⟩) (by simp <;> omega)).trans (by simp [World.frozen?_alloc_at, World.frozen?_alloc_past])); have hcw : w1.cell? ⟨b, off, none⟩ = some (.int .u8 (x : Int)) := (by rw [hb1.cell (p := ⟨b, off, none⟩) (by simp; omega)]; simp [hcell', hcell2])))
  all_goals clear H1 hcell' hcell2 HB HB2 hcell hf1 hc1 hwrap h10 h11 h12 hcw
  · obtain ⟨W, hW⟩ : ∃ W, w1.alloc (.cells #[.int .i64 k, .int .i64 n, .string S] 26) = W := ⟨_, rfl⟩
    have v0 : W.cell? ⟨w1.heap.size, 0, none⟩ = some (.int .i64 k) := by rw [← hW, World.cell?_alloc_at _ _ _ _ rfl]; rfl
    have v1 : W.cell? ⟨w1.heap.size, 1, none⟩ = some (.int .i64 n) := by rw [← hW, World.cell?_alloc_at _ _ _ _ rfl]; rfl
    have v2 : W.cell? ⟨w1.heap.size, 2, none⟩ = some (.string S) := by rw [← hW, World.cell?_alloc_at _ _ _ _ rfl]; rfl
    have r0 : W.cell? ⟨w.heap.size, 0, none⟩ = some (.int .i64 0) := by rw [← hW, World.cell?_alloc_past _ _ _ hz1]; exact g0
    have r1 : W.cell? ⟨w.heap.size, 1, none⟩ = some (.int .i64 0) := by rw [← hW, World.cell?_alloc_past _ _ _ hz1]; exact g1
    have r2 : W.cell? ⟨w.heap.size, 2, none⟩ = some (.string ⟨#[]⟩) := by rw [← hW, World.cell?_alloc_past _ _ _ hz1]; exact g2
    have y0 : ∀ j, W.frozen? ⟨w.heap.size, j, none⟩ = false := fun j => by rw [← hW, World.frozen?_alloc_past _ _ _ hz1]; exact z0 j
    have hbW : Below w.heap.size w W := by rw [← hW]; exact hbw1.alloc (Nat.le_of_lt hz1) _
    have hzW : w.heap.size < W.heap.size := by rw [← hW]; simp; omega
    have hzV : w1.heap.size < W.heap.size := by rw [← hW]; simp
    rw [hW]
    clear hb1 hbw1 hW g0 g1 g2 z0
    go_wp2_with (go_at_call 150; with_reducible refine (H2.out _ hbW).mono ?_; rintro e w2 ⟨rfl, hbw2, hb2⟩; have q0 : w2.cell? ⟨w.heap.size, 0, none⟩ = some (.int .i64 0) := ((hb2.cell (p := ⟨w.heap.size, 0, none⟩) hzW).trans r0); have q1 : w2.cell? ⟨w.heap.size, 1, none⟩ = some (.int .i64 0) := ((hb2.cell (p := ⟨w.heap.size, 1, none⟩) hzW).trans r1); have q2 : w2.cell? ⟨w.heap.size, 2, none⟩ = some (.string ⟨#[]⟩) := ((hb2.cell (p := ⟨w.heap.size, 2, none⟩) hzW).trans r2); have u0 : w2.cell? ⟨w1.heap.size, 0, none⟩ = some (.int .i64 k) := ((hb2.cell (p := ⟨w1.heap.size, 0, none⟩) hzV).trans v0); have u1 : w2.cell? ⟨w1.heap.size, 1, none⟩ = some (.int .i64 n) := ((hb2.cell (p := ⟨w1.heap.size, 1, none⟩) hzV).trans v1); have u2 : w2.cell? ⟨w1.heap.size, 2, none⟩ = some (.string S) := ((hb2.cell (p := ⟨w1.heap.size, 2, none⟩) hzV).trans v2); have x0 : ∀ j, w2.frozen? ⟨w.heap.size, j, none⟩ = false := (fun j => (hb2.frozen (p := ⟨w.heap.size, j, none⟩) hzW).trans (y0 j)))
    refine bodyPost_ret (v := .tuple #[.agg #[.int .i64 0, .int .i64 0, .string ⟨#[]⟩], .bool false]) (by simp [results, Tryd.results157, go_sem, cell_set_same, q0, q1, q2]) rfl ⟨rfl, ?_⟩
    exact ((hbw2.setCell (by simp) _).setCell (by simp) _).setCell (by simp) _
  · obtain ⟨W, hW⟩ : ∃ W, ((w1.setCell ⟨w.heap.size + 1, 0, none⟩ (.int .i64 k)).setCell ⟨w.heap.size + 1, 1, none⟩ (.int .i64 n)).setCell ⟨w.heap.size + 1, 2, none⟩ (.string S) = W := ⟨_, rfl⟩
    have v0 : W.cell? ⟨w.heap.size + 1, 0, none⟩ = some (.int .i64 k) := by rw [← hW]; exact (cell_set3 p0 p1 p2).1
    have v1 : W.cell? ⟨w.heap.size + 1, 1, none⟩ = some (.int .i64 n) := by rw [← hW]; exact (cell_set3 p0 p1 p2).2.1
    have v2 : W.cell? ⟨w.heap.size + 1, 2, none⟩ = some (.string S) := by rw [← hW]; exact (cell_set3 p0 p1 p2).2.2.1
    have r0 : W.cell? ⟨w.heap.size, 0, none⟩ = some (.int .i64 0) := by rw [← hW, (cell_set3 p0 p1 p2).2.2.2 _ _ (by omega)]; exact g0
    have r1 : W.cell? ⟨w.heap.size, 1, none⟩ = some (.int .i64 0) := by rw [← hW, (cell_set3 p0 p1 p2).2.2.2 _ _ (by omega)]; exact g1
    have r2 : W.cell? ⟨w.heap.size, 2, none⟩ = some (.string ⟨#[]⟩) := by rw [← hW, (cell_set3 p0 p1 p2).2.2.2 _ _ (by omega)]; exact g2
    have y0 : ∀ j, W.frozen? ⟨w.heap.size, j, none⟩ = false := fun j => by rw [← hW]; simp [z0]
    have hbW : Below w.heap.size w W := by rw [← hW]; exact ((hbw1.setCell (by simp) _).setCell (by simp) _).setCell (by simp) _
    have hzW : w.heap.size < W.heap.size := by rw [← hW]; simp; omega
    have hzV : w.heap.size + 1 < W.heap.size := by rw [← hW]; simp; omega
    rw [hW]
    clear hb1 hbw1 hW g0 g1 g2 z0 p0 p1 p2
    go_wp2_with (go_at_call 150; with_reducible refine (H2.out _ hbW).mono ?_; rintro e w2 ⟨rfl, hbw2, hb2⟩; have q0 : w2.cell? ⟨w.heap.size, 0, none⟩ = some (.int .i64 0) := ((hb2.cell (p := ⟨w.heap.size, 0, none⟩) hzW).trans r0); have q1 : w2.cell? ⟨w.heap.size, 1, none⟩ = some (.int .i64 0) := ((hb2.cell (p := ⟨w.heap.size, 1, none⟩) hzW).trans r1); have q2 : w2.cell? ⟨w.heap.size, 2, none⟩ = some (.string ⟨#[]⟩) := ((hb2.cell (p := ⟨w.heap.size, 2, none⟩) hzW).trans r2); have u0 : w2.cell? ⟨w.heap.size + 1, 0, none⟩ = some (.int .i64 k) := ((hb2.cell (p := ⟨w.heap.size + 1, 0, none⟩) hzV).trans v0); have u1 : w2.cell? ⟨w.heap.size + 1, 1, none⟩ = some (.int .i64 n) := ((hb2.cell (p := ⟨w.heap.size + 1, 1, none⟩) hzV).trans v1); have u2 : w2.cell? ⟨w.heap.size + 1, 2, none⟩ = some (.string S) := ((hb2.cell (p := ⟨w.heap.size + 1, 2, none⟩) hzV).trans v2); have x0 : ∀ j, w2.frozen? ⟨w.heap.size, j, none⟩ = false := (fun j => (hb2.frozen (p := ⟨w.heap.size, j, none⟩) hzW).trans (y0 j)))
    refine bodyPost_ret (v := .tuple #[.agg #[.int .i64 0, .int .i64 0, .string ⟨#[]⟩], .bool false]) (by simp [results, Tryd.results157, go_sem, cell_set_same, q0, q1, q2]) rfl ⟨rfl, ?_⟩
    exact ((hbw2.setCell (by simp) _).setCell (by simp) _).setCell (by simp) _

/-- val.Decode, for every row of at most a thousand bytes. -/
theorem vdecode_any (l : List UInt8) (hl : l.length ≤ 100000) (A : Option Addr) (c : Nat) (hc : l.length ≤ c) (w : World) (hh : HoldsA w A l) (hL : LaidU w) :
    Calls Tryd.prog 157 #[.slice A l.length c] w fun e w' => e = vdecEnd l ∧ Below w.heap.size w w' := by
  cases l with
  | nil => exact vdecode_nil A c w
  | cons x r =>
    obtain ⟨b, off, rfl, hb⟩ := hh (by simp)
    have hx := x.toNat_lt
    have hcell : w.cell? ⟨b, off, none⟩ = some (.int .u8 (x.toNat : Int)) := by have := hb 0 (by simp); simpa using this
    have hlt := hb.lt (by simp)
    have hr : Holds w b (off + 1) r := by have := hb.drop 1; simpa using this
    have hrl : r.length ≤ 100000 := by simp at hl; omega
    have hcl : r.length + 1 ≤ c := by simpa using hc
    have e : (x :: r).length = r.length + 1 := rfl
    rw [e]
    have hR : ∀ (n : Int) (S : ByteArray), inI n → S.size ≤ 100000 → ∀ W, Below w.heap.size w W → Calls Tryd.prog 150 #[.agg #[.int .i64 (x.toNat : Int), .int .i64 n, .string S]] W fun e w' => e = .returned (.bool (vRight (x.toNat : Int) n S.data.toList)) ∧ Below w.heap.size w w' ∧ Below W.heap.size W w' := fun n S hn hS W hW =>
      vright_in (x.toNat : Int) hn S w (by omega) hL W hW
    have h0 : inI 0 := by unfold inI; omega
    have hv : vdecEnd (x :: r) = match decV (x.toNat : Int) r with
      | none => .returned (.tuple #[.agg #[.int .i64 0, .int .i64 0, .string ⟨#[]⟩], .bool false])
      | some (n, s) => if vRight (x.toNat : Int) n s = true then .returned (.tuple #[.agg #[.int .i64 (x.toNat : Int), .int .i64 n, .string ⟨s.toArray⟩], .bool true]) else .returned (.tuple #[.agg #[.int .i64 0, .int .i64 0, .string ⟨#[]⟩], .bool false]) := rfl
    rw [hv]
    by_cases hc1 : c = 1
    · have hr0 : r = [] := List.length_eq_zero_iff.1 (by omega)
      subst hr0 hc1
      have hd : decV (x.toNat : Int) [] = none := by
        unfold decV unText
        simp
      have hD : ∀ W, Below w.heap.size w W → Calls Tryd.prog 195 #[.int .i64 (x.toNat : Int), .slice (some ⟨b, off, none⟩) 0 0] W fun e w' => e = decEnd (x.toNat : Int) (decV (x.toNat : Int) []) ∧ Below w.heap.size w w' ∧ Below W.heap.size W w' := fun W hW =>
        (decode_any (x.toNat : Int) [] (by simp) (some ⟨b, off, none⟩) 0 W (fun h => absurd h (by simp))).mono fun _ _ ⟨he, hbb⟩ => ⟨he, hW.trans (hbb.mono hW.size), hbb⟩
      rw [hd] at hD ⊢
      exact vdecode_f1 b off x.toNat (by omega) w hcell (x.toNat : Int) 0 ⟨#[]⟩ _ ⟨hD, hR 0 ⟨#[]⟩ h0 (by decide)⟩
    · have hD : ∀ W, Below w.heap.size w W → Calls Tryd.prog 195 #[.int .i64 (x.toNat : Int), .slice (some ⟨b, off + 1, none⟩) r.length (c - 1)] W fun e w' => e = decEnd (x.toNat : Int) (decV (x.toNat : Int) r) ∧ Below w.heap.size w w' ∧ Below W.heap.size W w' := fun W hW =>
        (decode_any (x.toNat : Int) r hrl (some ⟨b, off + 1, none⟩) (c - 1) W (fun _ => ⟨b, off + 1, rfl, hr.below hW hlt⟩)).mono fun _ _ ⟨he, hbb⟩ => ⟨he, hW.trans (hbb.mono hW.size), hbb⟩
      cases hd : decV (x.toNat : Int) r with
      | none =>
        rw [hd] at hD
        exact vdecode_ff b off r.length c x.toNat (by omega) hcl (by omega) hrl w hcell (x.toNat : Int) 0 ⟨#[]⟩ _ ⟨hD, hR 0 ⟨#[]⟩ h0 (by decide)⟩
      | some p =>
        obtain ⟨n, s⟩ := p
        rw [hd] at hD
        obtain ⟨hn, hsl⟩ := decV_in hd
        have hRs := hR n ⟨s.toArray⟩ hn (by rw [mk_size]; omega)
        have es : (⟨s.toArray⟩ : ByteArray).data.toList = s := rfl
        rw [es] at hRs
        cases hrt : vRight (x.toNat : Int) n s
        · rw [hrt] at hRs
          exact (vdecode_tf b off r.length c x.toNat (by omega) hcl (by omega) hrl w hcell (x.toNat : Int) n ⟨s.toArray⟩ ⟨hD, hRs⟩).mono fun e w' ⟨he, hbb⟩ => ⟨by rw [he]; show _ = if vRight _ _ _ = true then _ else _; rw [hrt]; rfl, hbb⟩
        · rw [hrt] at hRs
          exact (vdecode_tt b off r.length c x.toNat (by omega) hcl (by omega) hrl w hcell (x.toNat : Int) n ⟨s.toArray⟩ ⟨hD, hRs⟩).mono fun e w' ⟨he, hbb⟩ => ⟨by rw [he]; show _ = if vRight _ _ _ = true then _ else _; rw [hrt]; rfl, hbb⟩

end Go.Proofs.YtgfkobfkncpmoaaDoor

/- Plain mathematics: a right value is what its bytes are decoded to, and nothing else is. No program in it. Conditions: the numbers are of 64 bits. -/
namespace Go.Proofs.YtgfkobfkncpmoaaDoor
open Go.RowKit

theorem byW_foldB : ∀ (k : Nat) (l : List UInt8), l.length = k → byW k (foldB l) = l
  | 0, l, h => by
    have : l = [] := List.length_eq_zero_iff.1 h
    subst this; rfl
  | k + 1, l, h => by
    obtain ⟨l', y, rfl⟩ : ∃ l' y, l = l' ++ [y] := ⟨l.dropLast, l.getLast (by intro e; rw [e] at h; simp at h), (List.dropLast_concat_getLast _).symm⟩
    have hl : l'.length = k := by simpa using h
    have hy := y.toNat_lt
    have e1 : (foldB l' * 256 + y.toNat) / 256 = foldB l' := by omega
    have e2 : (foldB l' * 256 + y.toNat) % 256 = y.toNat := by omega
    rw [foldB_snoc, byW, e1, e2, byW_foldB k l' hl]
    simp
theorem rank_unrank {r : Int} (h0 : 0 ≤ r) (h : r < 18446744073709551616) : rankI (unrankI r) = r := by unfold unrankI rankI; repeat' split <;> omega
theorem foldB_8 (l : List UInt8) (h : l.length = 8) : (foldB l : Int) < 18446744073709551616 := by
  have hb := foldB_lt l
  rw [h, show (256 : Nat) ^ 8 = 18446744073709551616 by decide] at hb
  omega

theorem unText_esc (s : List UInt8) : unText (esc s ++ [0, 1]) = some s := by
  unfold unText
  have hl : (esc s ++ [0, 1]).length = (esc s).length + 2 := by simp
  rw [hl, if_neg (by omega), if_pos ?_]
  · rw [show (esc s).length + 2 - 2 = (esc s).length by omega, List.take_left']
    · exact unesc_esc s
    · rfl
  · constructor
    · rw [show (esc s).length + 2 - 2 = (esc s).length by omega]; simp
    · rw [show (esc s).length + 2 - 1 = (esc s).length + 1 by omega]; simp
theorem unText_back {l s : List UInt8} (h : unText l = some s) : esc s ++ [0, 1] = l := by
  unfold unText at h
  by_cases hl : l.length < 2
  · rw [if_pos hl] at h; cases h
  · rw [if_neg hl] at h
    by_cases hc : l.getD (l.length - 2) 0 = 0 ∧ l.getD (l.length - 1) 0 = 1
    · rw [if_pos hc] at h
      have e := esc_unesc _ _ _ (Nat.le_refl _) h
      rw [e]
      obtain ⟨m, hm⟩ : ∃ m, l.length = m + 2 := ⟨l.length - 2, by omega⟩
      rw [hm] at hc ⊢
      obtain ⟨c1, c2⟩ := hc
      rw [show m + 2 - 2 = m by omega] at c1 ⊢
      rw [show m + 2 - 1 = m + 1 by omega] at c2
      apply List.ext_getElem?
      intro i
      rw [List.getD_eq_getElem?_getD] at c1 c2
      rcases Nat.lt_or_ge i m with h1 | h1
      · rw [List.getElem?_append_left (by simp; omega), List.getElem?_take_of_lt h1]
      · rw [List.getElem?_append_right (by simp; omega)]
        have e2 : (List.take m l).length = m := by simp; omega
        rw [e2]
        rcases (show i = m ∨ i = m + 1 ∨ m + 2 ≤ i by omega) with rfl | rfl | h2
        · rw [List.getElem?_eq_getElem (show i < l.length by omega)] at c1 ⊢
          simp at c1 ⊢
          exact c1.symm
        · rw [List.getElem?_eq_getElem (show m + 1 < l.length by omega)] at c2 ⊢
          simp at c2 ⊢
          exact c2.symm
        · rw [List.getElem?_eq_none (by simp; omega), List.getElem?_eq_none (by omega)]
    · rw [if_neg hc] at h; cases h

theorem vBody5 (n : Int) (s : List UInt8) : vBody 5 n s = byW 8 (rankI n).toNat := by
  unfold vBody
  rw [if_neg (show ¬ (5 : Int) = 1 by decide), if_pos (show (5 : Int) = 5 from rfl)]
theorem decV5 (l : List UInt8) : decV 5 l = if l.length = 8 then (if rightB (unrankI (foldB l)) = true then some (unrankI (foldB l), []) else none) else none := by
  unfold decV
  rw [if_neg (show ¬ (5 : Int) = 1 by decide), if_pos (show (5 : Int) = 5 from rfl)]
/-- Behind its kind a right value's bytes give it back. -/
theorem decV_body {k n : Int} {s : List UInt8} (i : inI n) (h : vRight k n s = true) : decV k (vBody k n s) = some (n, s) := by
  rcases right_kind h with rfl | rfl | rfl | rfl | rfl
  · simp only [vRight] at h
    simp at h
    subst h
    have hu := upI_lt i
    have p : (256 : Nat) ^ 8 = 18446744073709551616 := by decide
    unfold decV vBody
    rw [if_pos rfl, if_pos rfl, if_pos (byW_len _ _), foldB_byW 8 _ (by omega)]
    unfold upI inI at *
    rw [Int.toNat_of_nonneg (by omega)]
    congr 2
    omega
  · simp only [vRight] at h
    simp at h
    obtain ⟨rfl, _⟩ := h
    unfold decV vBody
    rw [if_neg (by decide), if_neg (by decide), if_neg (by decide), if_pos (by decide), if_neg (by decide), if_neg (by decide), if_neg (by decide), unText_esc]
    rfl
  · simp only [vRight] at h
    simp at h
    obtain ⟨⟨rfl, _⟩, _⟩ := h
    unfold decV vBody
    rw [if_neg (by decide), if_neg (by decide), if_neg (by decide), if_pos (by decide), if_neg (by decide), if_neg (by decide), if_neg (by decide), unText_esc]
    rfl
  · simp only [vRight] at h
    simp at h
    obtain ⟨rfl, rfl | rfl⟩ := h <;> decide
  · simp only [vRight] at h
    simp at h
    obtain ⟨rfl, hr⟩ := h
    obtain ⟨a0, a1⟩ := rank_in i
    have p : (256 : Nat) ^ 8 = 18446744073709551616 := by decide
    rw [vBody5, decV5, if_pos (byW_len _ _), foldB_byW 8 _ (by omega), Int.toNat_of_nonneg a0, unrank_rank i, if_pos hr]

/-- What is decoded to a right value is that value's bytes. -/
theorem body_decV {k n : Int} {s l : List UInt8} (hd : decV k l = some (n, s)) (h : vRight k n s = true) : vBody k n s = l := by
  rcases right_kind h with rfl | rfl | rfl | rfl | rfl
  · unfold decV at hd
    rw [if_pos rfl] at hd
    by_cases h8 : l.length = 8
    · rw [if_pos h8] at hd
      simp only [Option.some.injEq, Prod.mk.injEq] at hd
      have hb := foldB_8 l h8
      unfold vBody upI
      rw [if_pos rfl, ← hd.1]
      have e : ((foldB l : Int) - 9223372036854775808 + 9223372036854775808).toNat = foldB l := by omega
      rw [e]
      exact byW_foldB 8 l h8
    · rw [if_neg h8] at hd; cases hd
  · unfold decV at hd
    rw [if_neg (by decide), if_neg (by decide), if_neg (by decide), if_pos (by decide)] at hd
    obtain ⟨t, ht, e⟩ := Option.map_eq_some_iff.1 hd
    simp only [Prod.mk.injEq] at e
    obtain ⟨rfl, rfl⟩ := e
    unfold vBody
    rw [if_neg (by decide), if_neg (by decide), if_neg (by decide)]
    exact unText_back ht
  · unfold decV at hd
    rw [if_neg (by decide), if_neg (by decide), if_neg (by decide), if_pos (by decide)] at hd
    obtain ⟨t, ht, e⟩ := Option.map_eq_some_iff.1 hd
    simp only [Prod.mk.injEq] at e
    obtain ⟨rfl, rfl⟩ := e
    unfold vBody
    rw [if_neg (by decide), if_neg (by decide), if_neg (by decide)]
    exact unText_back ht
  · unfold decV at hd
    rw [if_neg (by decide), if_neg (by decide), if_pos rfl] at hd
    by_cases h8 : l.length = 1
    · rw [if_pos h8] at hd
      simp only [Option.some.injEq, Prod.mk.injEq] at hd
      obtain ⟨x, rfl⟩ := List.length_eq_one_iff.1 h8
      unfold vBody
      rw [if_neg (by decide), if_neg (by decide), if_pos rfl, ← hd.1]
      simp
    · rw [if_neg h8] at hd; cases hd
  · rw [decV5] at hd
    by_cases h8 : l.length = 8
    · rw [if_pos h8] at hd
      by_cases hr : rightB (unrankI (foldB l)) = true
      · rw [if_pos hr] at hd
        simp only [Option.some.injEq, Prod.mk.injEq] at hd
        have hb := foldB_8 l h8
        rw [vBody5, ← hd.1, rank_unrank (by omega) hb, Int.toNat_natCast]
        exact byW_foldB 8 l h8
      · rw [if_neg hr] at hd; cases hd
    · rw [if_neg h8] at hd; cases hd

def valEnd (k n : Int) (s : List UInt8) : Ending := .returned (.tuple #[.agg #[.int .i64 k, .int .i64 n, .string ⟨s.toArray⟩], .bool true])
def noEnd : Ending := .returned (.tuple #[.agg #[.int .i64 0, .int .i64 0, .string ⟨#[]⟩], .bool false])
/-- A row is some right value's bytes, or is decoded to nothing. -/
theorem vdec_cases (l : List UInt8) : (∃ k n s, inI n ∧ vRight k n s = true ∧ s.length ≤ 32 ∧ vEnc k n s = l ∧ vdecEnd l = valEnd k n s) ∨ vdecEnd l = noEnd := by
  cases l with
  | nil => exact .inr rfl
  | cons x r =>
    have hv : vdecEnd (x :: r) = match decV (x.toNat : Int) r with
      | none => .returned (.tuple #[.agg #[.int .i64 0, .int .i64 0, .string ⟨#[]⟩], .bool false])
      | some (n, s) => if vRight (x.toNat : Int) n s = true then .returned (.tuple #[.agg #[.int .i64 (x.toNat : Int), .int .i64 n, .string ⟨s.toArray⟩], .bool true]) else .returned (.tuple #[.agg #[.int .i64 0, .int .i64 0, .string ⟨#[]⟩], .bool false]) := rfl
    rw [hv]
    cases hd : decV (x.toNat : Int) r with
    | none => exact .inr rfl
    | some p =>
      obtain ⟨n, s⟩ := p
      by_cases hr : vRight (x.toNat : Int) n s = true
      · refine .inl ⟨(x.toNat : Int), n, s, (decV_in hd).1, hr, right_len hr, ?_, if_pos hr⟩
        unfold vEnc
        rw [body_decV hd hr, Int.toNat_natCast]
        simp
      · exact .inr (if_neg hr)
theorem vdec_enc {k n : Int} {s : List UInt8} (i : inI n) (h : vRight k n s = true) : vdecEnd (vEnc k n s) = valEnd k n s := by
  have hk : ((UInt8.ofNat k.toNat).toNat : Int) = k := by
    rcases right_kind h with rfl | rfl | rfl | rfl | rfl <;> rfl
  have hv : vdecEnd (vEnc k n s) = match decV ((UInt8.ofNat k.toNat).toNat : Int) (vBody k n s) with
      | none => .returned (.tuple #[.agg #[.int .i64 0, .int .i64 0, .string ⟨#[]⟩], .bool false])
      | some (n', s') => if vRight ((UInt8.ofNat k.toNat).toNat : Int) n' s' = true then .returned (.tuple #[.agg #[.int .i64 ((UInt8.ofNat k.toNat).toNat : Int), .int .i64 n', .string ⟨s'.toArray⟩], .bool true]) else .returned (.tuple #[.agg #[.int .i64 0, .int .i64 0, .string ⟨#[]⟩], .bool false]) := rfl
  rw [hv, hk, decV_body i h]
  exact if_pos h
/-- No right value's bytes begin with another's. -/
theorem enc_prefix {k1 n1 : Int} {s1 : List UInt8} {k2 n2 : Int} {s2 : List UInt8} (i1 : inI n1) (i2 : inI n2) (h1 : vRight k1 n1 s1 = true) (h2 : vRight k2 n2 s2 = true) (h : lexC (vEnc k1 n1 s1) (vEnc k2 n2 s2) = 0) : k1 = k2 ∧ n1 = n2 ∧ s1 = s2 := by
  rw [enc_lex i1 i2 h1 h2] at h
  exact (vOrd_one i1 i2 h1 h2).1 h
theorem lexC_prefix : ∀ (l m : List UInt8), lexC l (l ++ m) = 0 ∧ lexC (l ++ m) l = 0
  | [], m => ⟨rfl, by cases m <;> rfl⟩
  | a :: l, m => by
    obtain ⟨h1, h2⟩ := lexC_prefix l m
    constructor
    · show lexC (a :: l) (a :: (l ++ m)) = 0
      rw [lexC, if_neg (by omega), if_neg (by omega)]; exact h1
    · show lexC (a :: (l ++ m)) (a :: l) = 0
      rw [lexC, if_neg (by omega), if_neg (by omega)]; exact h2
theorem vdec_cut {k n : Int} {s : List UInt8} (i : inI n) (h : vRight k n s = true) (c : Nat) (hc : c < (vEnc k n s).length) : vdecEnd ((vEnc k n s).take c) = noEnd := by
  rcases vdec_cases ((vEnc k n s).take c) with ⟨k', n', s', i', h', _, he, _⟩ | h'
  · exfalso
    have e : lexC (vEnc k' n' s') (vEnc k n s) = 0 := by
      have := (lexC_prefix ((vEnc k n s).take c) ((vEnc k n s).drop c)).1
      rwa [List.take_append_drop, ← he] at this
    obtain ⟨rfl, rfl, rfl⟩ := enc_prefix i' i h' h e
    have := congrArg List.length he
    rw [List.length_take] at this
    omega
  · exact h'
theorem vdec_more {k n : Int} {s : List UInt8} (i : inI n) (h : vRight k n s = true) (x : UInt8) : vdecEnd (vEnc k n s ++ [x]) = noEnd := by
  rcases vdec_cases (vEnc k n s ++ [x]) with ⟨k', n', s', i', h', _, he, _⟩ | h'
  · exfalso
    have e : lexC (vEnc k' n' s') (vEnc k n s) = 0 := by
      rw [he]; exact (lexC_prefix (vEnc k n s) [x]).2
    obtain ⟨rfl, rfl, rfl⟩ := enc_prefix i' i h' h e
    have := congrArg List.length he
    simp at this
  · exact h'

end Go.Proofs.YtgfkobfkncpmoaaDoor
