/- val.takeText for every row of at most a thousand bytes: the text of which these are the escaped bytes, or nothing. Conditions: the slice holds those bytes. -/
import Derived.Test.YtfcnobcpnhfgmaaDoorVE
import Derived.Laws.MakeOwn
import Derived.Laws.BytesArg
namespace Go.Proofs.YtfcnobcpnhfgmaaDoor
open Go.RowKit


/-- Undoes esc. -/
def unesc : List UInt8 → Option (List UInt8)
  | [] => some []
  | c :: l => if c = 0 then (match l with | [] => none | d :: l' => if d = 255 then (unesc l').map (0 :: ·) else none) else (unesc l).map (c :: ·)
theorem unesc_ne {c : UInt8} (h : c ≠ 0) (l : List UInt8) : unesc (c :: l) = (unesc l).map (c :: ·) := by cases l <;> simp [unesc, h]
theorem unesc_one : unesc [0] = none := by simp [unesc]
theorem unesc_two (d : UInt8) (l : List UInt8) : unesc (0 :: d :: l) = if d = 255 then (unesc l).map (0 :: ·) else none := by simp [unesc]
theorem unesc_esc (s : List UInt8) : unesc (esc s) = some s := by
  induction s with
  | nil => rfl
  | cons c l ih =>
    simp only [esc]
    by_cases h : c = 0
    · rw [if_pos h, unesc_two, if_pos rfl, ih, h]
      rfl
    · rw [if_neg h, unesc_ne h, ih]
      rfl
theorem esc_unesc : ∀ (n : Nat) (l s : List UInt8), l.length ≤ n → unesc l = some s → esc s = l := by
  intro n
  induction n with
  | zero =>
    intro l s hn h
    have : l = [] := List.length_eq_zero_iff.1 (by omega)
    subst this
    simp [unesc] at h
    subst h
    rfl
  | succ n ih =>
    intro l s hn h
    cases l with
    | nil =>
      simp [unesc] at h
      subst h
      rfl
    | cons c l =>
      by_cases hc : c = 0
      · subst hc
        cases l with
        | nil => rw [unesc_one] at h; cases h
        | cons d l' =>
          rw [unesc_two] at h
          by_cases hd : d = 255
          · rw [if_pos hd] at h
            obtain ⟨t, ht, rfl⟩ := Option.map_eq_some_iff.1 h
            simp only [esc, if_pos]
            rw [ih l' t (by simp at hn; omega) ht, hd]
          · rw [if_neg hd] at h; cases h
      · rw [unesc_ne hc] at h
        obtain ⟨t, ht, rfl⟩ := Option.map_eq_some_iff.1 h
        simp only [esc]
        rw [if_neg hc, ih l t (by simp at hn; omega) ht]
/-- The text behind a kind. -/
def unText (l : List UInt8) : Option (List UInt8) :=
  if l.length < 2 then none else if l.getD (l.length - 2) 0 = 0 ∧ l.getD (l.length - 1) 0 = 1 then unesc (l.take (l.length - 2)) else none
def takeEnd : Option (List UInt8) → Ending
  | some s => .returned (.tuple #[.string ⟨s.toArray⟩, .bool true])
  | none => .returned (.tuple #[.string ⟨#[]⟩, .bool false])

theorem row_convert {w : World} {B : Nat} {v : Value} {l : List UInt8} (h : Row w B v l) : (convert 26 9 v).run Tryd.prog w = .ok (.string ⟨l.toArray⟩) w := by
  by_cases hl : 0 < l.length
  · obtain ⟨g, cap, rfl, _, _, _, hc⟩ := h.form hl
    refine run_convert_bytes_back _ 26 9 5 _ _ _ Tryd.underlying26 Tryd.underlying5 Tryd.underlying9 ?_
    intro j hj
    rw [add_zero_off, Nat.zero_add, hc j hj]
    simp [List.getElem?_eq_getElem hj]
  · have : l = [] := List.length_eq_zero_iff.1 (by omega)
    subst this
    rcases h.2 with ⟨rfl, _⟩ | ⟨g, cap, cur, rfl, _, hh, _⟩
    · exact run_convert_bytes_nil w 26 5 Tryd.underlying26 Tryd.underlying5 0 0 9 Tryd.underlying9
    · exact run_convert_bytes_back w 26 9 5 ⟨g, 0, none⟩ cap [] Tryd.underlying26 Tryd.underlying5 Tryd.underlying9 (fun j hj => absurd hj (by simp))

theorem make_row (W : World) (B : Nat) (hB : B ≤ W.heap.size) (n : Nat) (hn : n ≤ 1000000) : ∃ w', (Instr.makeSlice 26 (.int .i64 0) (.int .i64 (n : Int))).run Tryd.prog W = .ok (.slice (some ⟨W.heap.size, 0, none⟩) 0 n) w' ∧ Row w' B (.slice (some ⟨W.heap.size, 0, none⟩) 0 n) [] ∧ Below B W w' := by
  obtain ⟨i0, hi, hz0, hz1, hz2⟩ := info_parts info_u8
  obtain ⟨w', h1, h2, h3⟩ := run_make_own (P := Tryd.prog) W B 26 5 i0 (.int .u8 0) 1 Tryd.underlying26 hi hz0 hz1 .i64 .i64 n (by rw [hz2]; omega) (by unfold maxLen; omega) hB
  exact ⟨w', h1, h2, (Below.refl _ _).grown h3 hB (fun k hk => by cases hk)⟩

set_option maxHeartbeats 1000000 in
theorem takeText_short {a : Option Addr} (n c : Nat) (hn : n < 2) (w : World) :
    Calls Tryd.prog 160 #[.slice a n c] w fun e w' => e = takeEnd none ∧ w = w' := by
  rcases (show n = 0 ∨ n = 1 by omega) with rfl | rfl
  · go_enter Tryd.func160, Tryd.ntmps160
    go_wp2
    go_ret2
    exact ⟨rfl, rfl⟩
  · go_enter Tryd.func160, Tryd.ntmps160
    go_wp2
    go_ret2
    exact ⟨rfl, rfl⟩

set_option maxHeartbeats 1000000 in
set_option maxRecDepth 100000 in
theorem takeText_end (b off m c x y : Nat) (hm : m ≤ 100000) (w : World) (h1 : w.cell? ⟨b, off + m, none⟩ = some (.int .u8 (x : Int))) (h2 : w.cell? ⟨b, off + (m + 1), none⟩ = some (.int .u8 (y : Int))) (hxy : ¬ (x = 0 ∧ y = 1)) :
    Calls Tryd.prog 160 #[.slice (some ⟨b, off, none⟩) (m + 2) c] w fun e w' => e = takeEnd none ∧ w = w' := by
  by_cases hx : x = 0
  · have hy : ((y : Int) != 1) = true := by simpa using fun h => hxy ⟨hx, by omega⟩
    have hx' : ((x : Int) != 0) = false := by simp [hx]
    clear hxy hx
    go_enter Tryd.func160, Tryd.ntmps160
    go_wp2
    go_ret2
    exact ⟨rfl, rfl⟩
  · have hx' : ((x : Int) != 0) = true := by simpa using hx
    clear hxy hx
    go_enter Tryd.func160, Tryd.ntmps160
    go_wp2
    go_ret2
    exact ⟨rfl, rfl⟩

theorem unesc_take (body : List UInt8) (i : Nat) (h : i < body.length) : unesc (body.drop i) = if body.getD i 0 = 0 then (if i + 1 < body.length then (if body.getD (i + 1) 0 = 255 then (unesc (body.drop (i + 2))).map (0 :: ·) else none) else none) else (unesc (body.drop (i + 1))).map (body.getD i 0 :: ·) := by
  have e : ∀ k, k < body.length → body.getD k 0 = body[k]! := fun k hk => by simp [List.getElem?_eq_getElem hk]
  rw [List.drop_eq_getElem_cons h]
  have e1 : body.getD i 0 = body[i] := by simp [List.getElem?_eq_getElem h]
  rw [e1]
  by_cases hc : body[i] = 0
  · rw [if_pos hc, hc]
    by_cases h2 : i + 1 < body.length
    · rw [if_pos h2, List.drop_eq_getElem_cons h2, unesc_two]
      have e2 : body.getD (i + 1) 0 = body[i + 1] := by simp [List.getElem?_eq_getElem h2]
      rw [e2]
    · rw [if_neg h2, List.drop_of_length_le (by omega), unesc_one]
  · rw [if_neg hc, unesc_ne hc]

theorem map_nil (o : Option (List UInt8)) : o = o.map ([] ++ ·) := by cases o <;> rfl
/-- What the loop knows. -/
def TInv (body : List UInt8) (B m : Nat) (w : World) (vb vi : Value) (wr : World) : Prop :=
  ∃ (i : Nat) (out : List UInt8), i ≤ m ∧ out.length ≤ i ∧ vi = .int .i64 i ∧ Row wr B vb out ∧ Below B w wr ∧ unesc body = (unesc (body.drop i)).map (out ++ ·)

set_option maxHeartbeats 2000000 in
set_option maxRecDepth 100000 in
theorem takeText_go (l : List UInt8) (b off m c : Nat) (hm : m ≤ 100000) (hl : l.length = m + 2) (w : World) (hh : Holds w b off l) (h1 : l.getD m 0 = 0) (h2 : l.getD (m + 1) 0 = 1) :
    Calls Tryd.prog 160 #[.slice (some ⟨b, off, none⟩) (m + 2) c] w fun e w' => e = takeEnd (unesc (l.take m)) ∧ Below w.heap.size w w' := by
  have hcm := hh m (by omega)
  have hcm1 := hh (m + 1) (by omega)
  rw [h1] at hcm
  rw [h2] at hcm1
  have hcm' : w.cell? ⟨b, off + m, none⟩ = some (.int .u8 0) := hcm
  have hcm1' : w.cell? ⟨b, off + (m + 1), none⟩ = some (.int .u8 1) := hcm1
  obtain ⟨W0, hmk, hR0, hb0⟩ := make_row w w.heap.size (Nat.le_refl _) m (by omega)
  have hlt := hh.lt (by omega)
  have HH := hid hh
  have HL := hid hl
  have H1 := hid h1
  clear hcm hcm1 hl hh h1 h2
  have hd0 : decide ((m : Int) < 0) = false := decide_eq_false (by omega)
  go_enter Tryd.func160, Tryd.ntmps160
  go_wp2
  clear hmk hcm' hcm1' hd0
  have HLb : Hid ((l.take m).length = m) := by unfold Hid; rw [List.length_take, HL.out]; omega
  have HG : Hid (∀ i, i < m → (l.take m).getD i 0 = l.getD i 0) := fun i hi => by
    rw [List.getD_eq_getElem?_getD, List.getD_eq_getElem?_getD, List.getElem?_take_of_lt hi]
  go_loopw [5, 6] (fun vb vi wr => TInv (l.take m) w.heap.size m w vb vi wr) (fun _ vi _ => m - (intOf vi).toNat)
  case atStart => exact ⟨0, [], by omega, by simp, rfl, hR0, hb0, map_nil _⟩
  case round =>
    obtain ⟨i, out, hi, ho, rfl, hR, hbel, hu⟩ := hrel
    have HR := hid hR
    have HU := hid hu
    clear hR hu hR0 hb0
    have hsz := hbel.size
    by_cases him : i < m
    · have HT := hid (unesc_take (l.take m) i (by rw [HLb.out]; exact him))
      have hcx := HH.out.below hbel hlt i (by rw [HL.out]; omega)
      obtain ⟨x, hx⟩ : ∃ x, l.getD i 0 = x := ⟨_, rfl⟩
      have HX := hid hx
      rw [hx] at hcx
      clear hx
      have HC : Hid (∀ W, Below w.heap.size wr W → W.cell? ⟨b, off + i, none⟩ = some (.int .u8 (x.toNat : Int))) := fun W hW => by
        rw [hW.cell (p := ⟨b, off + i, none⟩) hlt]; exact hcx
      by_cases hx0 : x = 0
      · have hx0' : ((x.toNat : Int) != 0) = false := by rw [hx0]; rfl
        have HX0 := hid hx0
        clear hx0
        obtain ⟨y, hy⟩ : ∃ y, l.getD (i + 1) 0 = y := ⟨_, rfl⟩
        have HY := hid hy
        have HCy : Hid (∀ W, Below w.heap.size wr W → W.cell? ⟨b, off + (i + 1), none⟩ = some (.int .u8 (y.toNat : Int))) := fun W hW => by
          rw [hW.cell (p := ⟨b, off + (i + 1), none⟩) hlt, ← hy]
          exact HH.out.below hbel hlt (i + 1) (by rw [HL.out]; omega)
        clear hy
        by_cases hy255 : y = 255
        · have hy' : ((y.toNat : Int) != 255) = false := by rw [hy255]; rfl
          have him1 : i + 1 < m := by
            rcases Nat.lt_or_ge (i + 1) m with h | h
            · exact h
            · have : i + 1 = m := by omega
              have h1 := HY.out
              rw [this, H1.out] at h1
              rw [← h1] at hy255
              cases hy255
          have HE : Hid (unesc (l.take m) = (unesc ((l.take m).drop (i + 2))).map ((out ++ [x]) ++ ·)) := by
            have h1 := HU.out
            rw [HT.out, HG.out i him, HX.out, if_pos HX0.out, HLb.out, if_pos him1, HG.out (i + 1) him1, HY.out, if_pos hy255] at h1
            show _ = _
            rw [h1, Option.map_map, HX0.out]
            congr 1
            funext z
            simp
          clear hy255
          go_wp2_with (at_builtin; refine wpList_append_bytes rfl (.tmp 34) (.tmp 39) rfl _ w.heap.size _ _ rfl (HR.out.alloc _) ⟨wr.heap.size, 0, none⟩ 1 1 [x] rfl rfl (one_new' _ _ _ _ rfl) (by simp only [List.length_cons, List.length_nil]; omega) (by simp; omega) ?_; intro v1 w1 hR1 hb1; have hbw : Below w.heap.size wr w1 := (((Below.refl _ _).alloc hsz _).trans hb1); have hc1 := HC.out w1 hbw; have hc2 := HCy.out w1 hbw)
          go_roundw
          case rel =>
            refine ⟨i + 2, out ++ [x], by omega, by simp; omega, by go_num, hR1, hbel.trans hbw, HE.out⟩
          case measure => simp [intOf]; omega
        · have hy' : ((y.toNat : Int) != 255) = true := by
            simp only [bne_iff_ne, ne_eq]
            intro h
            exact hy255 (UInt8.toNat_inj.1 (by have : (255 : UInt8).toNat = 255 := rfl; omega))
          have HE : Hid (unesc (l.take m) = none) := by
            have h1 := HU.out
            rw [HT.out, HG.out i him, HX.out, if_pos HX0.out] at h1
            show _ = _
            rw [h1, HLb.out]
            by_cases h2 : i + 1 < m
            · rw [if_pos h2, HG.out (i + 1) h2, HY.out, if_neg hy255]; rfl
            · rw [if_neg h2]; rfl
          clear hy255
          go_wp2_with (at_builtin; refine wpList_append_bytes rfl (.tmp 34) (.tmp 39) rfl _ w.heap.size _ _ rfl (HR.out.alloc _) ⟨wr.heap.size, 0, none⟩ 1 1 [x] rfl rfl (one_new' _ _ _ _ rfl) (by simp only [List.length_cons, List.length_nil]; omega) (by simp; omega) ?_; intro v1 w1 hR1 hb1; have hbw : Below w.heap.size wr w1 := (((Below.refl _ _).alloc hsz _).trans hb1); have hc1 := HC.out w1 hbw; have hc2 := HCy.out w1 hbw)
          go_ret2
          rw [HE.out]
          exact ⟨rfl, hbel.trans hbw⟩
      · have hx0' : ((x.toNat : Int) != 0) = true := by
          simp only [bne_iff_ne, ne_eq]
          intro h
          exact hx0 (UInt8.toNat_inj.1 (by have : (0 : UInt8).toNat = 0 := rfl; omega))
        have HE : Hid (unesc (l.take m) = (unesc ((l.take m).drop (i + 1))).map ((out ++ [x]) ++ ·)) := by
          have h1 := HU.out
          rw [HT.out, HG.out i him, HX.out, if_neg hx0] at h1
          show _ = _
          rw [h1, Option.map_map]
          congr 1
          funext z
          simp
        clear hx0
        go_wp2_with (at_builtin; refine wpList_append_bytes rfl (.tmp 34) (.tmp 39) rfl _ w.heap.size _ _ rfl (HR.out.alloc _) ⟨wr.heap.size, 0, none⟩ 1 1 [x] rfl rfl (one_new' _ _ _ _ rfl) (by simp only [List.length_cons, List.length_nil]; omega) (by simp; omega) ?_; intro v1 w1 hR1 hb1; have hbw : Below w.heap.size wr w1 := (((Below.refl _ _).alloc hsz _).trans hb1); have hc1 := HC.out w1 hbw)
        go_roundw
        case rel =>
          refine ⟨i + 1, out ++ [x], by omega, by simp; omega, by go_num, hR1, hbel.trans hbw, HE.out⟩
        case measure => simp [intOf]; omega
    · obtain rfl : i = m := by omega
      have hcv := row_convert HR.out
      have HE : Hid (unesc (l.take i) = some out) := by
        show _ = _
        rw [HU.out, List.drop_of_length_le (by rw [HLb.out]; omega)]
        simp [unesc]
      go_wp2
      go_ret2
      rw [HE.out]
      exact ⟨rfl, hbel⟩

/-- val.takeText, for every row. -/
theorem takeText_any (l : List UInt8) (b off c : Nat) (hl : l.length ≤ 100000) (w : World) (hh : Holds w b off l) :
    Calls Tryd.prog 160 #[.slice (some ⟨b, off, none⟩) l.length c] w fun e w' => e = takeEnd (unText l) ∧ Below w.heap.size w w' := by
  by_cases h2 : l.length < 2
  · unfold unText
    rw [if_pos h2]
    exact (takeText_short l.length c h2 w).mono fun _ _ ⟨he, hw⟩ => ⟨he, by subst hw; exact Below.refl _ _⟩
  · obtain ⟨m, hm⟩ : ∃ m, l.length = m + 2 := ⟨l.length - 2, by omega⟩
    unfold unText
    rw [if_neg h2, hm, Nat.add_sub_cancel, show m + 2 - 1 = m + 1 by omega]
    by_cases h3 : l.getD m 0 = 0 ∧ l.getD (m + 1) 0 = 1
    · rw [if_pos h3]
      exact takeText_go l b off m c (by omega) hm w hh h3.1 h3.2
    · rw [if_neg h3]
      refine (takeText_end b off m c (l.getD m 0).toNat (l.getD (m + 1) 0).toNat (by omega) w (hh m (by omega)) (hh (m + 1) (by omega)) ?_).mono fun _ _ ⟨he, hw⟩ => ⟨he, by subst hw; exact Below.refl _ _⟩
      intro h
      exact h3 ⟨UInt8.toNat_inj.1 h.1, UInt8.toNat_inj.1 h.2⟩

end Go.Proofs.YtfcnobcpnhfgmaaDoor
