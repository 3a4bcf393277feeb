/- The document's Read of what is taken for a quoted text. Conditions: as each theorem names them. -/
import Derived.Test.YtadehoibjpmhhaaGreatDoorRS
namespace Go.Proofs.YtadehoibjpmhhaaGreatDoor
open Go.RowKit

/-- Undoes quo, as the document's Read does. -/
def uqD : List UInt8 → List UInt8
  | [] => []
  | c :: l => match l with
    | h :: x :: l' => if c = 92 then UInt8.ofNat (16 * vd h.toNat + vd x.toNat) :: uqD l' else c :: uqD (h :: x :: l')
    | l => c :: uqD l
theorem uqD_ne {c : UInt8} (h : c ≠ 92) (l : List UInt8) : uqD (c :: l) = c :: uqD l := by
  match l with
  | [] => simp [uqD]
  | [_] => simp [uqD]
  | _ :: _ :: _ => rw [uqD]; simp [h]
theorem uqD_short (c : UInt8) {l : List UInt8} (h : l.length < 2) : uqD (c :: l) = c :: uqD l := by
  match l, h with
  | [], _ => simp [uqD]
  | [_], _ => simp [uqD]
  | _ :: _ :: _, h => simp at h; omega
theorem uqD_two (h x : UInt8) (l : List UInt8) : uqD (92 :: h :: x :: l) = UInt8.ofNat (16 * vd h.toNat + vd x.toNat) :: uqD l := by rw [uqD]; simp
theorem uqD_drop (l : List UInt8) (i : Nat) (h : i < l.length) : uqD (l.drop i) = if l.getD i 0 = 92 ∧ i + 2 < l.length then UInt8.ofNat (16 * vd (l.getD (i + 1) 0).toNat + vd (l.getD (i + 2) 0).toNat) :: uqD (l.drop (i + 3)) else l.getD i 0 :: uqD (l.drop (i + 1)) := by
  have e : ∀ k (hk : k < l.length), l.getD k 0 = l[k] := fun k hk => by simp [List.getElem?_eq_getElem hk]
  rw [List.drop_eq_getElem_cons h, e i h]
  by_cases hc : l[i] = 92 ∧ i + 2 < l.length
  · obtain ⟨hc, h2⟩ := hc
    rw [if_pos ⟨hc, h2⟩, hc, e (i + 1) (by omega), e (i + 2) h2, List.drop_eq_getElem_cons (show i + 1 < l.length by omega), List.drop_eq_getElem_cons (show i + 1 + 1 < l.length by omega), uqD_two]
  · rw [if_neg hc]
    by_cases h1 : l[i] = 92
    · exact uqD_short _ (by rw [List.length_drop]; have : ¬ i + 2 < l.length := fun h2 => hc ⟨h1, h2⟩; omega)
    · exact uqD_ne h1 _
theorem uqD_dg (c : UInt8) : UInt8.ofNat (16 * vd (dg (c.toNat / 16)).toNat + vd (dg (c.toNat % 16)).toNat) = c := by
  have h := c.toNat_lt
  rw [vd_dg _ (by omega), vd_dg _ (by omega)]
  apply UInt8.toNat_inj.1
  rw [UInt8.toNat_ofNat']
  omega
theorem uqD_quo (t : List UInt8) : uqD (quo t) = t := by
  induction t with
  | nil => rfl
  | cons c l ih =>
    simp only [quo]
    unfold quoB
    by_cases hp : plainB c.toNat = true
    · rw [if_pos hp]
      have h : c ≠ 92 := fun h => by rw [h] at hp; exact absurd hp (by decide)
      rw [List.singleton_append, uqD_ne h, ih]
    · rw [if_neg hp]
      show uqD (92 :: dg (c.toNat / 16) :: dg (c.toNat % 16) :: quo l) = _
      rw [uqD_two, uqD_dg, ih]
/-- What the document's Read takes out of a text. -/
def uqT (l : List UInt8) : List UInt8 := uqD (l.drop 2).dropLast
theorem uqT_quo (c : UInt8) (t : List UInt8) : uqT (c :: 34 :: (quo t ++ [34])) = t := by
  unfold uqT
  have : (c :: 34 :: (quo t ++ [34])).drop 2 = quo t ++ [34] := rfl
  rw [this, List.dropLast_concat, uqD_quo]
theorem uqD_len : ∀ (n : Nat) (l : List UInt8), l.length ≤ n → (uqD l).length ≤ n
  | 0, l, h => by
    have : l = [] := List.length_eq_zero_iff.1 (by omega)
    subst this; simp [uqD]
  | n + 1, [], _ => by simp [uqD]
  | n + 1, c :: r, h => by
    simp at h
    have e := uqD_drop (c :: r) 0 (by simp)
    rw [List.drop_zero] at e
    rw [e]
    split
    · have := uqD_len n ((c :: r).drop (0 + 3)) (by simp; omega)
      simp only [List.length_cons]; omega
    · have := uqD_len n ((c :: r).drop (0 + 1)) (by simp; omega)
      simp only [List.length_cons]; omega
theorem uqT_len (l : List UInt8) : (uqT l).length ≤ l.length := by
  have := uqD_len (l.drop 2).dropLast.length _ (Nat.le_refl _)
  unfold uqT
  simp at *
  omega
theorem mid_len (s : ByteArray) : (s.data.toList.drop 2).dropLast.length = s.size - 3 := by
  have := Lib.size_eq s
  simp [List.length_dropLast]
  omega
theorem mid_at (s : ByteArray) (k : Nat) (h : k + 3 < s.size) : (s.data.toList.drop 2).dropLast.getD k 0 = s[k + 2] := by
  have hz := Lib.size_eq s
  have hl : k < (s.data.toList.drop 2).dropLast.length := by rw [mid_len]; omega
  rw [List.getD_eq_getElem?_getD, List.getElem?_eq_getElem hl, Option.getD_some, List.getElem_dropLast, List.getElem_drop]
  have e : s[k + 2] = s.data.toList[k + 2]'(by omega) := rfl
  rw [e]
  congr 1
  omega

theorem DecSt.below {w W W' : World} {k N : Int} (h : DecSt w W k N) (hb : Below (w.heap.size + 2) W W') : DecSt w W' k N :=
  ⟨h.bel.trans (hb.mono (by omega)), by have := hb.size; have := h.sz; omega, fun j => (hb.frozen (p := ⟨w.heap.size, j, none⟩) (by simp)).trans (h.f0 j), fun j => (hb.frozen (p := ⟨w.heap.size + 1, j, none⟩) (by simp)).trans (h.f1 j), (hb.cell (p := ⟨w.heap.size, 0, none⟩) (by simp)).trans h.a0, (hb.cell (p := ⟨w.heap.size, 1, none⟩) (by simp)).trans h.a1, (hb.cell (p := ⟨w.heap.size, 2, none⟩) (by simp)).trans h.a2, (hb.cell (p := ⟨w.heap.size + 1, 0, none⟩) (by simp)).trans h.b0, (hb.cell (p := ⟨w.heap.size + 1, 1, none⟩) (by simp)).trans h.b1, (hb.cell (p := ⟨w.heap.size + 1, 2, none⟩) (by simp)).trans h.b2⟩
def UqInv (s : ByteArray) (w : World) (k : Int) (vb vi : Value) (wr : World) : Prop :=
  ∃ (i : Nat) (out : List UInt8), 2 ≤ i ∧ (i ≤ s.size ∨ i = 2) ∧ vi = .int .i64 i ∧ Row wr (w.heap.size + 2) vb out ∧ DecSt w wr k 0 ∧ out.length ≤ i ∧ uqT s.data.toList = out ++ uqD ((s.data.toList.drop 2).dropLast.drop (i - 2))

set_option maxHeartbeats 8000000 in
set_option maxRecDepth 100000 in
theorem rread_by (s : ByteArray) (hsz : 1 ≤ s.size) (hsm : s.size ≤ 1000) (hne : (s.toList == []) = false) (nt : (s.toList == [116, 114, 117, 101]) = false) (nf : (s.toList == [102, 97, 108, 115, 101]) = false) (h0 : (s[0]'(by omega)).toNat = 98) (T : ByteArray) (hq : (T.toList == s.toList) = true) (w : World) (HS : Hid (∀ W, Below w.heap.size w W → Calls Tryz.prog 21 #[.agg #[.int .i64 2, .int .i64 0, .string ⟨(uqT s.data.toList).toArray⟩]] W fun e w' => e = .returned (.string T) ∧ Below W.heap.size W w')) :
    Calls Tryz.prog 8 #[.string s] w fun e w' => e = .returned (.tuple #[.agg #[.int .i64 2, .int .i64 0, .string ⟨(uqT s.data.toList).toArray⟩], .bool true]) ∧ Below w.heap.size w w' := by
  have HB := hid (below2 w)
  have hat0 : ∀ W, (Instr.index 9 (.string s) (.int .i64 0)).run Tryz.prog W = .ok (.int .u8 98) W := fun W => by
    have := string_at s 0 (by omega) W
    rw [h0] at this
    exact this
  clear h0
  go_enter Tryz.func8, Tryz.ntmps8
  go_wp2
  go_loopw [7, 8] (fun vb vi wr => UqInv s w 2 vb vi wr) (fun _ vi _ => s.size - (intOf vi).toNat)
  case atStart =>
    have h := Row.nil_new ((w.alloc (.cells #[.int .i64 0, .int .i64 0, .string ⟨#[]⟩] 25)).alloc (.cells #[.int .i64 2, .int .i64 0, .string ⟨#[]⟩] 25)) (w.heap.size + 2) (by simp)
    have d : DecSt w ((w.alloc (.cells #[.int .i64 0, .int .i64 0, .string ⟨#[]⟩] 25)).alloc (.cells #[.int .i64 2, .int .i64 0, .string ⟨#[]⟩] 25)) 2 0 := ⟨HB.out _ _, by simp, fun j => by simp, fun j => by simp, by simp, by simp, by simp, by simp, by simp, by simp⟩
    exact ⟨2, [], by omega, .inr rfl, rfl, by simpa using h, d.below ((Below.refl _ _).alloc (by simp) _), by simp, by simp [uqT]⟩
  case round =>
    obtain ⟨i, out, hi2, hiz, rfl, hR, hst, hol, hu⟩ := hrel
    have HST := hid hst
    have HR := hid hR
    have HU := hid hu
    have HO := hid hol
    have hi : i ≤ 1000 := by omega
    have HIZ := hid hiz
    have hzW := hst.sz
    clear hR hst hu hol hiz
    by_cases hlt : i + 1 < s.size
    · obtain ⟨c, hcc⟩ : ∃ c, s[i].toNat = c := ⟨_, rfl⟩
      have hc256 : c < 256 := by rw [← hcc]; exact UInt8.toNat_lt _
      have hidx : ∀ W, (Instr.index 9 (.string s) (.int .i64 (i : Int))).run Tryz.prog W = .ok (.int .u8 (c : Int)) W := fun W => by
        rw [← hcc]
        exact string_at s i (by omega) W
      have HD : Hid (uqD ((s.data.toList.drop 2).dropLast.drop (i - 2)) = if c = 92 ∧ i + 3 < s.size then UInt8.ofNat (16 * vd (s.data.toList.getD (i + 1) 0).toNat + vd (s.data.toList.getD (i + 2) 0).toNat) :: uqD ((s.data.toList.drop 2).dropLast.drop (i + 3 - 2)) else s[i] :: uqD ((s.data.toList.drop 2).dropLast.drop (i + 1 - 2))) := by
        show _ = _
        have hm := mid_len s
        have hg : ∀ k (hk : k < s.size), s.data.toList.getD k 0 = s[k] := fun k hk => by
          have hz := Lib.size_eq s
          rw [List.getD_eq_getElem?_getD, List.getElem?_eq_getElem (by omega), Option.getD_some]
          rfl
        rw [uqD_drop _ _ (by rw [hm]; omega), mid_at s (i - 2) (by omega)]
        have e0 : s[i - 2 + 2]'(by omega) = s[i] := by congr 1 <;> omega
        rw [e0]
        have e3 : i - 2 + 3 = i + 3 - 2 := by omega
        have e1 : i - 2 + 1 = i + 1 - 2 := by omega
        by_cases hh : c = 92 ∧ i + 3 < s.size
        · rw [if_pos hh, if_pos ⟨UInt8.toNat_inj.1 (hcc.trans hh.1), by rw [hm]; omega⟩, mid_at s (i - 2 + 1) (by omega), mid_at s (i - 2 + 2) (by omega), hg (i + 1) (by omega), hg (i + 2) (by omega)]
          have e5 : s[i - 2 + 1 + 2]'(by omega) = s[i + 1]'(by omega) := by congr 1 <;> omega
          have e6 : s[i - 2 + 2 + 2]'(by omega) = s[i + 2]'(by omega) := by congr 1 <;> omega
          rw [e5, e6, e3]
        · rw [if_neg hh, if_neg (fun q => hh ⟨by rw [← hcc, q.1]; decide, by have := q.2; rw [hm] at this; omega⟩), e1]
      have hw1 : IntKind.i64.wrap ((i : Int) + 1) = (i : Int) + 1 := wrap_i (by omega) 1 (by omega)
      have hw2 : IntKind.i64.wrap ((i : Int) + 2) = (i : Int) + 2 := wrap_i (by omega) 2 (by omega)
      have hw3 : IntKind.i64.wrap ((i : Int) + 3) = (i : Int) + 3 := wrap_i (by omega) 3 (by omega)
      have HC : Hid ((c : Int) = (s[i].toNat : Int)) := by
        show _ = _
        rw [hcc]
      clear hcc
      by_cases hh : c = 92 ∧ i + 3 < s.size
      · have HD2 := HD.out
        rw [if_pos hh] at HD2
        obtain ⟨h92, h3⟩ := hh
        have c92 : ((c : Int) == 92) = true := by simp [h92]
        have x3 : decide ((i : Int) + 3 < (s.size : Int)) = true := decide_eq_true (by omega)
        obtain ⟨x, hx⟩ : ∃ x, (s.data.toList.getD (i + 1) 0).toNat = x := ⟨_, rfl⟩
        obtain ⟨y, hy⟩ : ∃ y, (s.data.toList.getD (i + 2) 0).toNat = y := ⟨_, rfl⟩
        have hg : ∀ k (hk : k < s.size), s.data.toList.getD k 0 = s[k] := fun k hk => by
          have hz := Lib.size_eq s
          rw [List.getD_eq_getElem?_getD, List.getElem?_eq_getElem (by omega), Option.getD_some]
          rfl
        have hx256 : x < 256 := by rw [← hx]; exact UInt8.toNat_lt _
        have hy256 : y < 256 := by rw [← hy]; exact UInt8.toNat_lt _
        have hid1 : ∀ W, (Instr.index 9 (.string s) (.int .i64 ((i : Int) + 1))).run Tryz.prog W = .ok (.int .u8 (x : Int)) W := fun W => by
          have := string_at s (i + 1) (by omega) W
          rw [← hg (i + 1) (by omega), hx] at this
          exact this
        have hid2 : ∀ W, (Instr.index 9 (.string s) (.int .i64 ((i : Int) + 2))).run Tryz.prog W = .ok (.int .u8 (y : Int)) W := fun W => by
          have := string_at s (i + 2) (by omega) W
          rw [← hg (i + 2) (by omega), hy] at this
          exact this
        rw [hx, hy] at HD2
        have D1 := hid (fun W => refdigit_any x hx256 W)
        have D2 := hid (fun W => refdigit_any y hy256 W)
        have hv1 := vd_lt x
        have hv2 := vd_lt y
        obtain ⟨a, ha⟩ : ∃ a, vd x = a := ⟨_, rfl⟩
        obtain ⟨b, hb⟩ : ∃ b, vd y = b := ⟨_, rfl⟩
        rw [ha] at D1 HD2 hv1
        rw [hb] at D2 HD2 hv2
        clear hg hx hy ha hb hx256 hy256 HD h92
        have hm1 : IntKind.i64.wrap (16 * (a : Int)) = 16 * (a : Int) := IntWalk.i64_in _ (by omega)
        have hm2 : IntKind.i64.wrap (16 * (a : Int) + (b : Int)) = 16 * (a : Int) + (b : Int) := IntWalk.i64_in _ (by omega)
        have hm3 : IntKind.u8.wrap (16 * (a : Int) + (b : Int)) = 16 * (a : Int) + (b : Int) := IntWalk.u8_in _ (by omega)
        have HC1 : Hid (16 * (a : Int) + (b : Int) = ((UInt8.ofNat (16 * a + b)).toNat : Int)) := by
          show _ = _
          rw [UInt8.toNat_ofNat']
          omega
        have HD3 := hid HD2
        have HL : Hid (out.length + 1 ≤ 1000000) := by have := HO.out; unfold Hid; omega
        clear HD2
        go_wp2
        go_region_held3 (fun w' => True) (trivial) ((first
          | (go_simp; go_at_call 20; ((with_reducible refine (D1.out _).mono ?_); rintro e w' ⟨rfl, rfl⟩))
          | (go_simp; go_at_call 20; ((with_reducible refine (D2.out _).mono ?_); rintro e w' ⟨rfl, rfl⟩))
          | (refine step_append_bytes (by rfl) (.tmp 108) (.tmp 122) (by rfl) _ (w.heap.size + 2) _ _ (by rfl) ((HR.out.alloc _)) ⟨wr.heap.size, 0, none⟩ 1 1 [UInt8.ofNat (16 * a + b)] (by rfl) (by rfl) (one_new' _ _ _ _ HC1.out) (by have := HL.out; simp only [List.length_cons, List.length_nil]; omega) (by simp; omega) ?_; intro v1 w1 hR1 hb1)))
        all_goals (
          go_wp2
          go_roundw
          case rel =>
            refine ⟨i + 3, out ++ [UInt8.ofNat (16 * a + b)], by omega, .inl (by omega), by go_num, hR1, (HST.out.below ((Below.refl _ _).alloc (by omega) _)).drew.below hb1, by have := HO.out; simp; omega, ?_⟩
            rw [HU.out, HD3.out, List.append_assoc, List.singleton_append]
          case measure => simp [intOf]; omega)
      · have HD2 := HD.out
        rw [if_neg hh] at HD2
        have HD3 := hid HD2
        have hh' : ¬ c = 92 ∨ (c = 92 ∧ ¬ i + 3 < s.size) := by
          by_cases h : c = 92
          · exact .inr ⟨h, fun q => hh ⟨h, q⟩⟩
          · exact .inl h
        have HL : Hid (out.length + 1 ≤ 1000000) := by have := HO.out; unfold Hid; omega
        clear hh HD HD2
        rcases hh' with h92 | ⟨h92, h3⟩
        · have c92 : ((c : Int) == 92) = false := by simpa using fun h => h92 (by omega)
          clear h92 hc256
          go_wp2_with (at_builtin; refine wpList_append_bytes rfl (.tmp 126) (.tmp 130) rfl _ (w.heap.size + 2) _ _ rfl (HR.out.alloc _) ⟨wr.heap.size, 0, none⟩ 1 1 [s[i]] rfl rfl (one_new' _ _ _ _ HC.out) (by have := HL.out; simp only [List.length_cons, List.length_nil]; omega) (by simp; omega) ?_; intro v1 w1 hR1 hb1)
          go_roundw
          case rel =>
            refine ⟨i + 1, out ++ [s[i]], by omega, .inl (by omega), by go_num, hR1, (HST.out.below ((Below.refl _ _).alloc (by omega) _)).below hb1, by have := HO.out; simp; omega, ?_⟩
            rw [HU.out, HD3.out, List.append_assoc, List.singleton_append]
          case measure => simp [intOf]; omega
        · have c92 : ((c : Int) == 92) = true := by simp [h92]
          have x3 : decide ((i : Int) + 3 < (s.size : Int)) = false := decide_eq_false (by omega)
          clear h92 hc256
          go_wp2_with (at_builtin; refine wpList_append_bytes rfl (.tmp 126) (.tmp 130) rfl _ (w.heap.size + 2) _ _ rfl (HR.out.alloc _) ⟨wr.heap.size, 0, none⟩ 1 1 [s[i]] rfl rfl (one_new' _ _ _ _ HC.out) (by have := HL.out; simp only [List.length_cons, List.length_nil]; omega) (by simp; omega) ?_; intro v1 w1 hR1 hb1)
          go_roundw
          case rel =>
            refine ⟨i + 1, out ++ [s[i]], by omega, .inl (by omega), by go_num, hR1, (HST.out.below ((Below.refl _ _).alloc (by omega) _)).below hb1, by have := HO.out; simp; omega, ?_⟩
            rw [HU.out, HD3.out, List.append_assoc, List.singleton_append]
          case measure => simp [intOf]; omega
    · have HF : Hid (out = uqT s.data.toList) := by
        show _ = _
        rw [HU.out, List.drop_of_length_le (by rw [mid_len]; omega)]
        simp [uqD]
      have hw1 : IntKind.i64.wrap ((i : Int) + 1) = (i : Int) + 1 := wrap_i (by omega) 1 (by omega)
      have f1 := HST.out.f1
      have b2 := HST.out.b2
      have HRF : Hid (Row wr (w.heap.size + 2) u7 (uqT s.data.toList)) := by
        have := HR.out
        rw [HF.out] at this
        exact hid this
      have hcv : (convert 22 9 u7).run Tryz.prog wr = .ok (.string ⟨(uqT s.data.toList).toArray⟩) wr := row_convert HRF.out
      clear HR HRF
      go_upto_region 35 with (fail)
      refine wp_letter (fun W => Hid (Below w.heap.size w W ∧ w.heap.size + 1 < W.heap.size) ∧ (∀ j, W.frozen? ⟨w.heap.size, j, none⟩ = false) ∧ W.cell? ⟨w.heap.size, 0, none⟩ = some (.int .i64 0) ∧ W.cell? ⟨w.heap.size, 1, none⟩ = some (.int .i64 0) ∧ W.cell? ⟨w.heap.size, 2, none⟩ = some (.string ⟨#[]⟩) ∧ W.cell? ⟨w.heap.size + 1, 0, none⟩ = some (.int .i64 2) ∧ W.cell? ⟨w.heap.size + 1, 1, none⟩ = some (.int .i64 0) ∧ W.cell? ⟨w.heap.size + 1, 2, none⟩ = some (.string ⟨(uqT s.data.toList).toArray⟩)) ?_ (fun W hW => ?_)
      · have h := HST.out
        exact ⟨hid ⟨h.bel.setCell (by simp) _, by simpa using h.sz⟩, fun j => by simp [h.f0], (World.cell?_setCell_other _ _ _ _ (addr_ne (by omega))).trans h.a0, (World.cell?_setCell_other _ _ _ _ (addr_ne (by omega))).trans h.a1, (World.cell?_setCell_other _ _ _ _ (addr_ne (by omega))).trans h.a2, (World.cell?_setCell_other _ _ _ _ (by simp)).trans h.b0, (World.cell?_setCell_other _ _ _ _ (by simp)).trans h.b1, World.cell?_setCell_same _ _ _ h.b2⟩
      obtain ⟨hh, f0, a0, a1, a2, b0, b1, b2⟩ := hW
      obtain ⟨hbW, hzW⟩ := hh.out
      clear hh
      go_wp2_with (go_at_call 21; refine (HS.out _ hbW).mono ?_; rintro e w2 ⟨rfl, hb2⟩; obtain ⟨hc2, hf2⟩ := bcell hb2; have p0 := hc2 w.heap.size 0 (by omega); have p1 := hc2 w.heap.size 1 (by omega); have p2 := hc2 w.heap.size 2 (by omega); have r0 := hc2 (w.heap.size + 1) 0 (by omega); have r1 := hc2 (w.heap.size + 1) 1 (by omega); have r2 := hc2 (w.heap.size + 1) 2 (by omega); have p3 : ∀ j, w2.frozen? ⟨w.heap.size, j, none⟩ = false := (fun j => (hf2 w.heap.size j (by omega)).trans (f0 j)); rw [a0] at p0; rw [a1] at p1; rw [a2] at p2; rw [b0] at r0; rw [b1] at r1; rw [b2] at r2)
      refine bodyPost_ret (v := .tuple #[.agg #[.int .i64 2, .int .i64 0, .string ⟨(uqT s.data.toList).toArray⟩], .bool true]) (by simp [results, Tryz.results8, go_sem, cell_set_same, p0, p1, p2]) rfl ⟨rfl, ?_⟩
      iterate 3 (refine Below.setCell ?_ (by simp) _)
      exact hbW.trans (hb2.mono hbW.size)

set_option maxHeartbeats 8000000 in
set_option maxRecDepth 100000 in
theorem rread_bn (s : ByteArray) (hsz : 1 ≤ s.size) (hsm : s.size ≤ 1000) (hne : (s.toList == []) = false) (nt : (s.toList == [116, 114, 117, 101]) = false) (nf : (s.toList == [102, 97, 108, 115, 101]) = false) (h0 : (s[0]'(by omega)).toNat = 98) (T : ByteArray) (hq : (T.toList == s.toList) = false) (w : World) (HS : Hid (∀ W, Below w.heap.size w W → Calls Tryz.prog 21 #[.agg #[.int .i64 2, .int .i64 0, .string ⟨(uqT s.data.toList).toArray⟩]] W fun e w' => e = .returned (.string T) ∧ Below W.heap.size W w')) :
    Calls Tryz.prog 8 #[.string s] w fun e w' => e = .returned (.tuple #[.agg #[.int .i64 0, .int .i64 0, .string ⟨#[]⟩], .bool false]) ∧ Below w.heap.size w w' := by
  have HB := hid (below2 w)
  have hat0 : ∀ W, (Instr.index 9 (.string s) (.int .i64 0)).run Tryz.prog W = .ok (.int .u8 98) W := fun W => by
    have := string_at s 0 (by omega) W
    rw [h0] at this
    exact this
  clear h0
  go_enter Tryz.func8, Tryz.ntmps8
  go_wp2
  go_loopw [7, 8] (fun vb vi wr => UqInv s w 2 vb vi wr) (fun _ vi _ => s.size - (intOf vi).toNat)
  case atStart =>
    have h := Row.nil_new ((w.alloc (.cells #[.int .i64 0, .int .i64 0, .string ⟨#[]⟩] 25)).alloc (.cells #[.int .i64 2, .int .i64 0, .string ⟨#[]⟩] 25)) (w.heap.size + 2) (by simp)
    have d : DecSt w ((w.alloc (.cells #[.int .i64 0, .int .i64 0, .string ⟨#[]⟩] 25)).alloc (.cells #[.int .i64 2, .int .i64 0, .string ⟨#[]⟩] 25)) 2 0 := ⟨HB.out _ _, by simp, fun j => by simp, fun j => by simp, by simp, by simp, by simp, by simp, by simp, by simp⟩
    exact ⟨2, [], by omega, .inr rfl, rfl, by simpa using h, d.below ((Below.refl _ _).alloc (by simp) _), by simp, by simp [uqT]⟩
  case round =>
    obtain ⟨i, out, hi2, hiz, rfl, hR, hst, hol, hu⟩ := hrel
    have HST := hid hst
    have HR := hid hR
    have HU := hid hu
    have HO := hid hol
    have hi : i ≤ 1000 := by omega
    have HIZ := hid hiz
    have hzW := hst.sz
    clear hR hst hu hol hiz
    by_cases hlt : i + 1 < s.size
    · obtain ⟨c, hcc⟩ : ∃ c, s[i].toNat = c := ⟨_, rfl⟩
      have hc256 : c < 256 := by rw [← hcc]; exact UInt8.toNat_lt _
      have hidx : ∀ W, (Instr.index 9 (.string s) (.int .i64 (i : Int))).run Tryz.prog W = .ok (.int .u8 (c : Int)) W := fun W => by
        rw [← hcc]
        exact string_at s i (by omega) W
      have HD : Hid (uqD ((s.data.toList.drop 2).dropLast.drop (i - 2)) = if c = 92 ∧ i + 3 < s.size then UInt8.ofNat (16 * vd (s.data.toList.getD (i + 1) 0).toNat + vd (s.data.toList.getD (i + 2) 0).toNat) :: uqD ((s.data.toList.drop 2).dropLast.drop (i + 3 - 2)) else s[i] :: uqD ((s.data.toList.drop 2).dropLast.drop (i + 1 - 2))) := by
        show _ = _
        have hm := mid_len s
        have hg : ∀ k (hk : k < s.size), s.data.toList.getD k 0 = s[k] := fun k hk => by
          have hz := Lib.size_eq s
          rw [List.getD_eq_getElem?_getD, List.getElem?_eq_getElem (by omega), Option.getD_some]
          rfl
        rw [uqD_drop _ _ (by rw [hm]; omega), mid_at s (i - 2) (by omega)]
        have e0 : s[i - 2 + 2]'(by omega) = s[i] := by congr 1 <;> omega
        rw [e0]
        have e3 : i - 2 + 3 = i + 3 - 2 := by omega
        have e1 : i - 2 + 1 = i + 1 - 2 := by omega
        by_cases hh : c = 92 ∧ i + 3 < s.size
        · rw [if_pos hh, if_pos ⟨UInt8.toNat_inj.1 (hcc.trans hh.1), by rw [hm]; omega⟩, mid_at s (i - 2 + 1) (by omega), mid_at s (i - 2 + 2) (by omega), hg (i + 1) (by omega), hg (i + 2) (by omega)]
          have e5 : s[i - 2 + 1 + 2]'(by omega) = s[i + 1]'(by omega) := by congr 1 <;> omega
          have e6 : s[i - 2 + 2 + 2]'(by omega) = s[i + 2]'(by omega) := by congr 1 <;> omega
          rw [e5, e6, e3]
        · rw [if_neg hh, if_neg (fun q => hh ⟨by rw [← hcc, q.1]; decide, by have := q.2; rw [hm] at this; omega⟩), e1]
      have hw1 : IntKind.i64.wrap ((i : Int) + 1) = (i : Int) + 1 := wrap_i (by omega) 1 (by omega)
      have hw2 : IntKind.i64.wrap ((i : Int) + 2) = (i : Int) + 2 := wrap_i (by omega) 2 (by omega)
      have hw3 : IntKind.i64.wrap ((i : Int) + 3) = (i : Int) + 3 := wrap_i (by omega) 3 (by omega)
      have HC : Hid ((c : Int) = (s[i].toNat : Int)) := by
        show _ = _
        rw [hcc]
      clear hcc
      by_cases hh : c = 92 ∧ i + 3 < s.size
      · have HD2 := HD.out
        rw [if_pos hh] at HD2
        obtain ⟨h92, h3⟩ := hh
        have c92 : ((c : Int) == 92) = true := by simp [h92]
        have x3 : decide ((i : Int) + 3 < (s.size : Int)) = true := decide_eq_true (by omega)
        obtain ⟨x, hx⟩ : ∃ x, (s.data.toList.getD (i + 1) 0).toNat = x := ⟨_, rfl⟩
        obtain ⟨y, hy⟩ : ∃ y, (s.data.toList.getD (i + 2) 0).toNat = y := ⟨_, rfl⟩
        have hg : ∀ k (hk : k < s.size), s.data.toList.getD k 0 = s[k] := fun k hk => by
          have hz := Lib.size_eq s
          rw [List.getD_eq_getElem?_getD, List.getElem?_eq_getElem (by omega), Option.getD_some]
          rfl
        have hx256 : x < 256 := by rw [← hx]; exact UInt8.toNat_lt _
        have hy256 : y < 256 := by rw [← hy]; exact UInt8.toNat_lt _
        have hid1 : ∀ W, (Instr.index 9 (.string s) (.int .i64 ((i : Int) + 1))).run Tryz.prog W = .ok (.int .u8 (x : Int)) W := fun W => by
          have := string_at s (i + 1) (by omega) W
          rw [← hg (i + 1) (by omega), hx] at this
          exact this
        have hid2 : ∀ W, (Instr.index 9 (.string s) (.int .i64 ((i : Int) + 2))).run Tryz.prog W = .ok (.int .u8 (y : Int)) W := fun W => by
          have := string_at s (i + 2) (by omega) W
          rw [← hg (i + 2) (by omega), hy] at this
          exact this
        rw [hx, hy] at HD2
        have D1 := hid (fun W => refdigit_any x hx256 W)
        have D2 := hid (fun W => refdigit_any y hy256 W)
        have hv1 := vd_lt x
        have hv2 := vd_lt y
        obtain ⟨a, ha⟩ : ∃ a, vd x = a := ⟨_, rfl⟩
        obtain ⟨b, hb⟩ : ∃ b, vd y = b := ⟨_, rfl⟩
        rw [ha] at D1 HD2 hv1
        rw [hb] at D2 HD2 hv2
        clear hg hx hy ha hb hx256 hy256 HD h92
        have hm1 : IntKind.i64.wrap (16 * (a : Int)) = 16 * (a : Int) := IntWalk.i64_in _ (by omega)
        have hm2 : IntKind.i64.wrap (16 * (a : Int) + (b : Int)) = 16 * (a : Int) + (b : Int) := IntWalk.i64_in _ (by omega)
        have hm3 : IntKind.u8.wrap (16 * (a : Int) + (b : Int)) = 16 * (a : Int) + (b : Int) := IntWalk.u8_in _ (by omega)
        have HC1 : Hid (16 * (a : Int) + (b : Int) = ((UInt8.ofNat (16 * a + b)).toNat : Int)) := by
          show _ = _
          rw [UInt8.toNat_ofNat']
          omega
        have HD3 := hid HD2
        have HL : Hid (out.length + 1 ≤ 1000000) := by have := HO.out; unfold Hid; omega
        clear HD2
        go_wp2
        go_region_held3 (fun w' => True) (trivial) ((first
          | (go_simp; go_at_call 20; ((with_reducible refine (D1.out _).mono ?_); rintro e w' ⟨rfl, rfl⟩))
          | (go_simp; go_at_call 20; ((with_reducible refine (D2.out _).mono ?_); rintro e w' ⟨rfl, rfl⟩))
          | (refine step_append_bytes (by rfl) (.tmp 108) (.tmp 122) (by rfl) _ (w.heap.size + 2) _ _ (by rfl) ((HR.out.alloc _)) ⟨wr.heap.size, 0, none⟩ 1 1 [UInt8.ofNat (16 * a + b)] (by rfl) (by rfl) (one_new' _ _ _ _ HC1.out) (by have := HL.out; simp only [List.length_cons, List.length_nil]; omega) (by simp; omega) ?_; intro v1 w1 hR1 hb1)))
        all_goals (
          go_wp2
          go_roundw
          case rel =>
            refine ⟨i + 3, out ++ [UInt8.ofNat (16 * a + b)], by omega, .inl (by omega), by go_num, hR1, (HST.out.below ((Below.refl _ _).alloc (by omega) _)).drew.below hb1, by have := HO.out; simp; omega, ?_⟩
            rw [HU.out, HD3.out, List.append_assoc, List.singleton_append]
          case measure => simp [intOf]; omega)
      · have HD2 := HD.out
        rw [if_neg hh] at HD2
        have HD3 := hid HD2
        have hh' : ¬ c = 92 ∨ (c = 92 ∧ ¬ i + 3 < s.size) := by
          by_cases h : c = 92
          · exact .inr ⟨h, fun q => hh ⟨h, q⟩⟩
          · exact .inl h
        have HL : Hid (out.length + 1 ≤ 1000000) := by have := HO.out; unfold Hid; omega
        clear hh HD HD2
        rcases hh' with h92 | ⟨h92, h3⟩
        · have c92 : ((c : Int) == 92) = false := by simpa using fun h => h92 (by omega)
          clear h92 hc256
          go_wp2_with (at_builtin; refine wpList_append_bytes rfl (.tmp 126) (.tmp 130) rfl _ (w.heap.size + 2) _ _ rfl (HR.out.alloc _) ⟨wr.heap.size, 0, none⟩ 1 1 [s[i]] rfl rfl (one_new' _ _ _ _ HC.out) (by have := HL.out; simp only [List.length_cons, List.length_nil]; omega) (by simp; omega) ?_; intro v1 w1 hR1 hb1)
          go_roundw
          case rel =>
            refine ⟨i + 1, out ++ [s[i]], by omega, .inl (by omega), by go_num, hR1, (HST.out.below ((Below.refl _ _).alloc (by omega) _)).below hb1, by have := HO.out; simp; omega, ?_⟩
            rw [HU.out, HD3.out, List.append_assoc, List.singleton_append]
          case measure => simp [intOf]; omega
        · have c92 : ((c : Int) == 92) = true := by simp [h92]
          have x3 : decide ((i : Int) + 3 < (s.size : Int)) = false := decide_eq_false (by omega)
          clear h92 hc256
          go_wp2_with (at_builtin; refine wpList_append_bytes rfl (.tmp 126) (.tmp 130) rfl _ (w.heap.size + 2) _ _ rfl (HR.out.alloc _) ⟨wr.heap.size, 0, none⟩ 1 1 [s[i]] rfl rfl (one_new' _ _ _ _ HC.out) (by have := HL.out; simp only [List.length_cons, List.length_nil]; omega) (by simp; omega) ?_; intro v1 w1 hR1 hb1)
          go_roundw
          case rel =>
            refine ⟨i + 1, out ++ [s[i]], by omega, .inl (by omega), by go_num, hR1, (HST.out.below ((Below.refl _ _).alloc (by omega) _)).below hb1, by have := HO.out; simp; omega, ?_⟩
            rw [HU.out, HD3.out, List.append_assoc, List.singleton_append]
          case measure => simp [intOf]; omega
    · have HF : Hid (out = uqT s.data.toList) := by
        show _ = _
        rw [HU.out, List.drop_of_length_le (by rw [mid_len]; omega)]
        simp [uqD]
      have hw1 : IntKind.i64.wrap ((i : Int) + 1) = (i : Int) + 1 := wrap_i (by omega) 1 (by omega)
      have f1 := HST.out.f1
      have b2 := HST.out.b2
      have HRF : Hid (Row wr (w.heap.size + 2) u7 (uqT s.data.toList)) := by
        have := HR.out
        rw [HF.out] at this
        exact hid this
      have hcv : (convert 22 9 u7).run Tryz.prog wr = .ok (.string ⟨(uqT s.data.toList).toArray⟩) wr := row_convert HRF.out
      clear HR HRF
      go_upto_region 35 with (fail)
      refine wp_letter (fun W => Hid (Below w.heap.size w W ∧ w.heap.size + 1 < W.heap.size) ∧ (∀ j, W.frozen? ⟨w.heap.size, j, none⟩ = false) ∧ W.cell? ⟨w.heap.size, 0, none⟩ = some (.int .i64 0) ∧ W.cell? ⟨w.heap.size, 1, none⟩ = some (.int .i64 0) ∧ W.cell? ⟨w.heap.size, 2, none⟩ = some (.string ⟨#[]⟩) ∧ W.cell? ⟨w.heap.size + 1, 0, none⟩ = some (.int .i64 2) ∧ W.cell? ⟨w.heap.size + 1, 1, none⟩ = some (.int .i64 0) ∧ W.cell? ⟨w.heap.size + 1, 2, none⟩ = some (.string ⟨(uqT s.data.toList).toArray⟩)) ?_ (fun W hW => ?_)
      · have h := HST.out
        exact ⟨hid ⟨h.bel.setCell (by simp) _, by simpa using h.sz⟩, fun j => by simp [h.f0], (World.cell?_setCell_other _ _ _ _ (addr_ne (by omega))).trans h.a0, (World.cell?_setCell_other _ _ _ _ (addr_ne (by omega))).trans h.a1, (World.cell?_setCell_other _ _ _ _ (addr_ne (by omega))).trans h.a2, (World.cell?_setCell_other _ _ _ _ (by simp)).trans h.b0, (World.cell?_setCell_other _ _ _ _ (by simp)).trans h.b1, World.cell?_setCell_same _ _ _ h.b2⟩
      obtain ⟨hh, f0, a0, a1, a2, b0, b1, b2⟩ := hW
      obtain ⟨hbW, hzW⟩ := hh.out
      clear hh
      go_wp2_with (go_at_call 21; refine (HS.out _ hbW).mono ?_; rintro e w2 ⟨rfl, hb2⟩; obtain ⟨hc2, hf2⟩ := bcell hb2; have p0 := hc2 w.heap.size 0 (by omega); have p1 := hc2 w.heap.size 1 (by omega); have p2 := hc2 w.heap.size 2 (by omega); have r0 := hc2 (w.heap.size + 1) 0 (by omega); have r1 := hc2 (w.heap.size + 1) 1 (by omega); have r2 := hc2 (w.heap.size + 1) 2 (by omega); have p3 : ∀ j, w2.frozen? ⟨w.heap.size, j, none⟩ = false := (fun j => (hf2 w.heap.size j (by omega)).trans (f0 j)); rw [a0] at p0; rw [a1] at p1; rw [a2] at p2; rw [b0] at r0; rw [b1] at r1; rw [b2] at r2)
      refine bodyPost_ret (v := .tuple #[.agg #[.int .i64 0, .int .i64 0, .string ⟨#[]⟩], .bool false]) (by simp [results, Tryz.results8, go_sem, cell_set_same, p0, p1, p2]) rfl ⟨rfl, ?_⟩
      iterate 3 (refine Below.setCell ?_ (by simp) _)
      exact hbW.trans (hb2.mono hbW.size)

set_option maxHeartbeats 8000000 in
set_option maxRecDepth 100000 in
theorem rread_ty (s : ByteArray) (hsz : 1 ≤ s.size) (hsm : s.size ≤ 1000) (hne : (s.toList == []) = false) (nt : (s.toList == [116, 114, 117, 101]) = false) (nf : (s.toList == [102, 97, 108, 115, 101]) = false) (h0 : (s[0]'(by omega)).toNat = 116) (T : ByteArray) (hq : (T.toList == s.toList) = true) (w : World) (HS : Hid (∀ W, Below w.heap.size w W → Calls Tryz.prog 21 #[.agg #[.int .i64 3, .int .i64 0, .string ⟨(uqT s.data.toList).toArray⟩]] W fun e w' => e = .returned (.string T) ∧ Below W.heap.size W w')) :
    Calls Tryz.prog 8 #[.string s] w fun e w' => e = .returned (.tuple #[.agg #[.int .i64 3, .int .i64 0, .string ⟨(uqT s.data.toList).toArray⟩], .bool true]) ∧ Below w.heap.size w w' := by
  have HB := hid (below2 w)
  have hat0 : ∀ W, (Instr.index 9 (.string s) (.int .i64 0)).run Tryz.prog W = .ok (.int .u8 116) W := fun W => by
    have := string_at s 0 (by omega) W
    rw [h0] at this
    exact this
  clear h0
  go_enter Tryz.func8, Tryz.ntmps8
  go_wp2
  go_loopw [7, 8] (fun vb vi wr => UqInv s w 3 vb vi wr) (fun _ vi _ => s.size - (intOf vi).toNat)
  case atStart =>
    have h := Row.nil_new ((w.alloc (.cells #[.int .i64 0, .int .i64 0, .string ⟨#[]⟩] 25)).alloc (.cells #[.int .i64 3, .int .i64 0, .string ⟨#[]⟩] 25)) (w.heap.size + 2) (by simp)
    have d : DecSt w ((w.alloc (.cells #[.int .i64 0, .int .i64 0, .string ⟨#[]⟩] 25)).alloc (.cells #[.int .i64 3, .int .i64 0, .string ⟨#[]⟩] 25)) 3 0 := ⟨HB.out _ _, by simp, fun j => by simp, fun j => by simp, by simp, by simp, by simp, by simp, by simp, by simp⟩
    exact ⟨2, [], by omega, .inr rfl, rfl, by simpa using h, d.below ((Below.refl _ _).alloc (by simp) _), by simp, by simp [uqT]⟩
  case round =>
    obtain ⟨i, out, hi2, hiz, rfl, hR, hst, hol, hu⟩ := hrel
    have HST := hid hst
    have HR := hid hR
    have HU := hid hu
    have HO := hid hol
    have hi : i ≤ 1000 := by omega
    have HIZ := hid hiz
    have hzW := hst.sz
    clear hR hst hu hol hiz
    by_cases hlt : i + 1 < s.size
    · obtain ⟨c, hcc⟩ : ∃ c, s[i].toNat = c := ⟨_, rfl⟩
      have hc256 : c < 256 := by rw [← hcc]; exact UInt8.toNat_lt _
      have hidx : ∀ W, (Instr.index 9 (.string s) (.int .i64 (i : Int))).run Tryz.prog W = .ok (.int .u8 (c : Int)) W := fun W => by
        rw [← hcc]
        exact string_at s i (by omega) W
      have HD : Hid (uqD ((s.data.toList.drop 2).dropLast.drop (i - 2)) = if c = 92 ∧ i + 3 < s.size then UInt8.ofNat (16 * vd (s.data.toList.getD (i + 1) 0).toNat + vd (s.data.toList.getD (i + 2) 0).toNat) :: uqD ((s.data.toList.drop 2).dropLast.drop (i + 3 - 2)) else s[i] :: uqD ((s.data.toList.drop 2).dropLast.drop (i + 1 - 2))) := by
        show _ = _
        have hm := mid_len s
        have hg : ∀ k (hk : k < s.size), s.data.toList.getD k 0 = s[k] := fun k hk => by
          have hz := Lib.size_eq s
          rw [List.getD_eq_getElem?_getD, List.getElem?_eq_getElem (by omega), Option.getD_some]
          rfl
        rw [uqD_drop _ _ (by rw [hm]; omega), mid_at s (i - 2) (by omega)]
        have e0 : s[i - 2 + 2]'(by omega) = s[i] := by congr 1 <;> omega
        rw [e0]
        have e3 : i - 2 + 3 = i + 3 - 2 := by omega
        have e1 : i - 2 + 1 = i + 1 - 2 := by omega
        by_cases hh : c = 92 ∧ i + 3 < s.size
        · rw [if_pos hh, if_pos ⟨UInt8.toNat_inj.1 (hcc.trans hh.1), by rw [hm]; omega⟩, mid_at s (i - 2 + 1) (by omega), mid_at s (i - 2 + 2) (by omega), hg (i + 1) (by omega), hg (i + 2) (by omega)]
          have e5 : s[i - 2 + 1 + 2]'(by omega) = s[i + 1]'(by omega) := by congr 1 <;> omega
          have e6 : s[i - 2 + 2 + 2]'(by omega) = s[i + 2]'(by omega) := by congr 1 <;> omega
          rw [e5, e6, e3]
        · rw [if_neg hh, if_neg (fun q => hh ⟨by rw [← hcc, q.1]; decide, by have := q.2; rw [hm] at this; omega⟩), e1]
      have hw1 : IntKind.i64.wrap ((i : Int) + 1) = (i : Int) + 1 := wrap_i (by omega) 1 (by omega)
      have hw2 : IntKind.i64.wrap ((i : Int) + 2) = (i : Int) + 2 := wrap_i (by omega) 2 (by omega)
      have hw3 : IntKind.i64.wrap ((i : Int) + 3) = (i : Int) + 3 := wrap_i (by omega) 3 (by omega)
      have HC : Hid ((c : Int) = (s[i].toNat : Int)) := by
        show _ = _
        rw [hcc]
      clear hcc
      by_cases hh : c = 92 ∧ i + 3 < s.size
      · have HD2 := HD.out
        rw [if_pos hh] at HD2
        obtain ⟨h92, h3⟩ := hh
        have c92 : ((c : Int) == 92) = true := by simp [h92]
        have x3 : decide ((i : Int) + 3 < (s.size : Int)) = true := decide_eq_true (by omega)
        obtain ⟨x, hx⟩ : ∃ x, (s.data.toList.getD (i + 1) 0).toNat = x := ⟨_, rfl⟩
        obtain ⟨y, hy⟩ : ∃ y, (s.data.toList.getD (i + 2) 0).toNat = y := ⟨_, rfl⟩
        have hg : ∀ k (hk : k < s.size), s.data.toList.getD k 0 = s[k] := fun k hk => by
          have hz := Lib.size_eq s
          rw [List.getD_eq_getElem?_getD, List.getElem?_eq_getElem (by omega), Option.getD_some]
          rfl
        have hx256 : x < 256 := by rw [← hx]; exact UInt8.toNat_lt _
        have hy256 : y < 256 := by rw [← hy]; exact UInt8.toNat_lt _
        have hid1 : ∀ W, (Instr.index 9 (.string s) (.int .i64 ((i : Int) + 1))).run Tryz.prog W = .ok (.int .u8 (x : Int)) W := fun W => by
          have := string_at s (i + 1) (by omega) W
          rw [← hg (i + 1) (by omega), hx] at this
          exact this
        have hid2 : ∀ W, (Instr.index 9 (.string s) (.int .i64 ((i : Int) + 2))).run Tryz.prog W = .ok (.int .u8 (y : Int)) W := fun W => by
          have := string_at s (i + 2) (by omega) W
          rw [← hg (i + 2) (by omega), hy] at this
          exact this
        rw [hx, hy] at HD2
        have D1 := hid (fun W => refdigit_any x hx256 W)
        have D2 := hid (fun W => refdigit_any y hy256 W)
        have hv1 := vd_lt x
        have hv2 := vd_lt y
        obtain ⟨a, ha⟩ : ∃ a, vd x = a := ⟨_, rfl⟩
        obtain ⟨b, hb⟩ : ∃ b, vd y = b := ⟨_, rfl⟩
        rw [ha] at D1 HD2 hv1
        rw [hb] at D2 HD2 hv2
        clear hg hx hy ha hb hx256 hy256 HD h92
        have hm1 : IntKind.i64.wrap (16 * (a : Int)) = 16 * (a : Int) := IntWalk.i64_in _ (by omega)
        have hm2 : IntKind.i64.wrap (16 * (a : Int) + (b : Int)) = 16 * (a : Int) + (b : Int) := IntWalk.i64_in _ (by omega)
        have hm3 : IntKind.u8.wrap (16 * (a : Int) + (b : Int)) = 16 * (a : Int) + (b : Int) := IntWalk.u8_in _ (by omega)
        have HC1 : Hid (16 * (a : Int) + (b : Int) = ((UInt8.ofNat (16 * a + b)).toNat : Int)) := by
          show _ = _
          rw [UInt8.toNat_ofNat']
          omega
        have HD3 := hid HD2
        have HL : Hid (out.length + 1 ≤ 1000000) := by have := HO.out; unfold Hid; omega
        clear HD2
        go_wp2
        go_region_held3 (fun w' => True) (trivial) ((first
          | (go_simp; go_at_call 20; ((with_reducible refine (D1.out _).mono ?_); rintro e w' ⟨rfl, rfl⟩))
          | (go_simp; go_at_call 20; ((with_reducible refine (D2.out _).mono ?_); rintro e w' ⟨rfl, rfl⟩))
          | (refine step_append_bytes (by rfl) (.tmp 108) (.tmp 122) (by rfl) _ (w.heap.size + 2) _ _ (by rfl) ((HR.out.alloc _)) ⟨wr.heap.size, 0, none⟩ 1 1 [UInt8.ofNat (16 * a + b)] (by rfl) (by rfl) (one_new' _ _ _ _ HC1.out) (by have := HL.out; simp only [List.length_cons, List.length_nil]; omega) (by simp; omega) ?_; intro v1 w1 hR1 hb1)))
        all_goals (
          go_wp2
          go_roundw
          case rel =>
            refine ⟨i + 3, out ++ [UInt8.ofNat (16 * a + b)], by omega, .inl (by omega), by go_num, hR1, (HST.out.below ((Below.refl _ _).alloc (by omega) _)).drew.below hb1, by have := HO.out; simp; omega, ?_⟩
            rw [HU.out, HD3.out, List.append_assoc, List.singleton_append]
          case measure => simp [intOf]; omega)
      · have HD2 := HD.out
        rw [if_neg hh] at HD2
        have HD3 := hid HD2
        have hh' : ¬ c = 92 ∨ (c = 92 ∧ ¬ i + 3 < s.size) := by
          by_cases h : c = 92
          · exact .inr ⟨h, fun q => hh ⟨h, q⟩⟩
          · exact .inl h
        have HL : Hid (out.length + 1 ≤ 1000000) := by have := HO.out; unfold Hid; omega
        clear hh HD HD2
        rcases hh' with h92 | ⟨h92, h3⟩
        · have c92 : ((c : Int) == 92) = false := by simpa using fun h => h92 (by omega)
          clear h92 hc256
          go_wp2_with (at_builtin; refine wpList_append_bytes rfl (.tmp 126) (.tmp 130) rfl _ (w.heap.size + 2) _ _ rfl (HR.out.alloc _) ⟨wr.heap.size, 0, none⟩ 1 1 [s[i]] rfl rfl (one_new' _ _ _ _ HC.out) (by have := HL.out; simp only [List.length_cons, List.length_nil]; omega) (by simp; omega) ?_; intro v1 w1 hR1 hb1)
          go_roundw
          case rel =>
            refine ⟨i + 1, out ++ [s[i]], by omega, .inl (by omega), by go_num, hR1, (HST.out.below ((Below.refl _ _).alloc (by omega) _)).below hb1, by have := HO.out; simp; omega, ?_⟩
            rw [HU.out, HD3.out, List.append_assoc, List.singleton_append]
          case measure => simp [intOf]; omega
        · have c92 : ((c : Int) == 92) = true := by simp [h92]
          have x3 : decide ((i : Int) + 3 < (s.size : Int)) = false := decide_eq_false (by omega)
          clear h92 hc256
          go_wp2_with (at_builtin; refine wpList_append_bytes rfl (.tmp 126) (.tmp 130) rfl _ (w.heap.size + 2) _ _ rfl (HR.out.alloc _) ⟨wr.heap.size, 0, none⟩ 1 1 [s[i]] rfl rfl (one_new' _ _ _ _ HC.out) (by have := HL.out; simp only [List.length_cons, List.length_nil]; omega) (by simp; omega) ?_; intro v1 w1 hR1 hb1)
          go_roundw
          case rel =>
            refine ⟨i + 1, out ++ [s[i]], by omega, .inl (by omega), by go_num, hR1, (HST.out.below ((Below.refl _ _).alloc (by omega) _)).below hb1, by have := HO.out; simp; omega, ?_⟩
            rw [HU.out, HD3.out, List.append_assoc, List.singleton_append]
          case measure => simp [intOf]; omega
    · have HF : Hid (out = uqT s.data.toList) := by
        show _ = _
        rw [HU.out, List.drop_of_length_le (by rw [mid_len]; omega)]
        simp [uqD]
      have hw1 : IntKind.i64.wrap ((i : Int) + 1) = (i : Int) + 1 := wrap_i (by omega) 1 (by omega)
      have f1 := HST.out.f1
      have b2 := HST.out.b2
      have HRF : Hid (Row wr (w.heap.size + 2) u7 (uqT s.data.toList)) := by
        have := HR.out
        rw [HF.out] at this
        exact hid this
      have hcv : (convert 22 9 u7).run Tryz.prog wr = .ok (.string ⟨(uqT s.data.toList).toArray⟩) wr := row_convert HRF.out
      clear HR HRF
      go_upto_region 35 with (fail)
      refine wp_letter (fun W => Hid (Below w.heap.size w W ∧ w.heap.size + 1 < W.heap.size) ∧ (∀ j, W.frozen? ⟨w.heap.size, j, none⟩ = false) ∧ W.cell? ⟨w.heap.size, 0, none⟩ = some (.int .i64 0) ∧ W.cell? ⟨w.heap.size, 1, none⟩ = some (.int .i64 0) ∧ W.cell? ⟨w.heap.size, 2, none⟩ = some (.string ⟨#[]⟩) ∧ W.cell? ⟨w.heap.size + 1, 0, none⟩ = some (.int .i64 3) ∧ W.cell? ⟨w.heap.size + 1, 1, none⟩ = some (.int .i64 0) ∧ W.cell? ⟨w.heap.size + 1, 2, none⟩ = some (.string ⟨(uqT s.data.toList).toArray⟩)) ?_ (fun W hW => ?_)
      · have h := HST.out
        exact ⟨hid ⟨h.bel.setCell (by simp) _, by simpa using h.sz⟩, fun j => by simp [h.f0], (World.cell?_setCell_other _ _ _ _ (addr_ne (by omega))).trans h.a0, (World.cell?_setCell_other _ _ _ _ (addr_ne (by omega))).trans h.a1, (World.cell?_setCell_other _ _ _ _ (addr_ne (by omega))).trans h.a2, (World.cell?_setCell_other _ _ _ _ (by simp)).trans h.b0, (World.cell?_setCell_other _ _ _ _ (by simp)).trans h.b1, World.cell?_setCell_same _ _ _ h.b2⟩
      obtain ⟨hh, f0, a0, a1, a2, b0, b1, b2⟩ := hW
      obtain ⟨hbW, hzW⟩ := hh.out
      clear hh
      go_wp2_with (go_at_call 21; refine (HS.out _ hbW).mono ?_; rintro e w2 ⟨rfl, hb2⟩; obtain ⟨hc2, hf2⟩ := bcell hb2; have p0 := hc2 w.heap.size 0 (by omega); have p1 := hc2 w.heap.size 1 (by omega); have p2 := hc2 w.heap.size 2 (by omega); have r0 := hc2 (w.heap.size + 1) 0 (by omega); have r1 := hc2 (w.heap.size + 1) 1 (by omega); have r2 := hc2 (w.heap.size + 1) 2 (by omega); have p3 : ∀ j, w2.frozen? ⟨w.heap.size, j, none⟩ = false := (fun j => (hf2 w.heap.size j (by omega)).trans (f0 j)); rw [a0] at p0; rw [a1] at p1; rw [a2] at p2; rw [b0] at r0; rw [b1] at r1; rw [b2] at r2)
      refine bodyPost_ret (v := .tuple #[.agg #[.int .i64 3, .int .i64 0, .string ⟨(uqT s.data.toList).toArray⟩], .bool true]) (by simp [results, Tryz.results8, go_sem, cell_set_same, p0, p1, p2]) rfl ⟨rfl, ?_⟩
      iterate 3 (refine Below.setCell ?_ (by simp) _)
      exact hbW.trans (hb2.mono hbW.size)

set_option maxHeartbeats 8000000 in
set_option maxRecDepth 100000 in
theorem rread_tn (s : ByteArray) (hsz : 1 ≤ s.size) (hsm : s.size ≤ 1000) (hne : (s.toList == []) = false) (nt : (s.toList == [116, 114, 117, 101]) = false) (nf : (s.toList == [102, 97, 108, 115, 101]) = false) (h0 : (s[0]'(by omega)).toNat = 116) (T : ByteArray) (hq : (T.toList == s.toList) = false) (w : World) (HS : Hid (∀ W, Below w.heap.size w W → Calls Tryz.prog 21 #[.agg #[.int .i64 3, .int .i64 0, .string ⟨(uqT s.data.toList).toArray⟩]] W fun e w' => e = .returned (.string T) ∧ Below W.heap.size W w')) :
    Calls Tryz.prog 8 #[.string s] w fun e w' => e = .returned (.tuple #[.agg #[.int .i64 0, .int .i64 0, .string ⟨#[]⟩], .bool false]) ∧ Below w.heap.size w w' := by
  have HB := hid (below2 w)
  have hat0 : ∀ W, (Instr.index 9 (.string s) (.int .i64 0)).run Tryz.prog W = .ok (.int .u8 116) W := fun W => by
    have := string_at s 0 (by omega) W
    rw [h0] at this
    exact this
  clear h0
  go_enter Tryz.func8, Tryz.ntmps8
  go_wp2
  go_loopw [7, 8] (fun vb vi wr => UqInv s w 3 vb vi wr) (fun _ vi _ => s.size - (intOf vi).toNat)
  case atStart =>
    have h := Row.nil_new ((w.alloc (.cells #[.int .i64 0, .int .i64 0, .string ⟨#[]⟩] 25)).alloc (.cells #[.int .i64 3, .int .i64 0, .string ⟨#[]⟩] 25)) (w.heap.size + 2) (by simp)
    have d : DecSt w ((w.alloc (.cells #[.int .i64 0, .int .i64 0, .string ⟨#[]⟩] 25)).alloc (.cells #[.int .i64 3, .int .i64 0, .string ⟨#[]⟩] 25)) 3 0 := ⟨HB.out _ _, by simp, fun j => by simp, fun j => by simp, by simp, by simp, by simp, by simp, by simp, by simp⟩
    exact ⟨2, [], by omega, .inr rfl, rfl, by simpa using h, d.below ((Below.refl _ _).alloc (by simp) _), by simp, by simp [uqT]⟩
  case round =>
    obtain ⟨i, out, hi2, hiz, rfl, hR, hst, hol, hu⟩ := hrel
    have HST := hid hst
    have HR := hid hR
    have HU := hid hu
    have HO := hid hol
    have hi : i ≤ 1000 := by omega
    have HIZ := hid hiz
    have hzW := hst.sz
    clear hR hst hu hol hiz
    by_cases hlt : i + 1 < s.size
    · obtain ⟨c, hcc⟩ : ∃ c, s[i].toNat = c := ⟨_, rfl⟩
      have hc256 : c < 256 := by rw [← hcc]; exact UInt8.toNat_lt _
      have hidx : ∀ W, (Instr.index 9 (.string s) (.int .i64 (i : Int))).run Tryz.prog W = .ok (.int .u8 (c : Int)) W := fun W => by
        rw [← hcc]
        exact string_at s i (by omega) W
      have HD : Hid (uqD ((s.data.toList.drop 2).dropLast.drop (i - 2)) = if c = 92 ∧ i + 3 < s.size then UInt8.ofNat (16 * vd (s.data.toList.getD (i + 1) 0).toNat + vd (s.data.toList.getD (i + 2) 0).toNat) :: uqD ((s.data.toList.drop 2).dropLast.drop (i + 3 - 2)) else s[i] :: uqD ((s.data.toList.drop 2).dropLast.drop (i + 1 - 2))) := by
        show _ = _
        have hm := mid_len s
        have hg : ∀ k (hk : k < s.size), s.data.toList.getD k 0 = s[k] := fun k hk => by
          have hz := Lib.size_eq s
          rw [List.getD_eq_getElem?_getD, List.getElem?_eq_getElem (by omega), Option.getD_some]
          rfl
        rw [uqD_drop _ _ (by rw [hm]; omega), mid_at s (i - 2) (by omega)]
        have e0 : s[i - 2 + 2]'(by omega) = s[i] := by congr 1 <;> omega
        rw [e0]
        have e3 : i - 2 + 3 = i + 3 - 2 := by omega
        have e1 : i - 2 + 1 = i + 1 - 2 := by omega
        by_cases hh : c = 92 ∧ i + 3 < s.size
        · rw [if_pos hh, if_pos ⟨UInt8.toNat_inj.1 (hcc.trans hh.1), by rw [hm]; omega⟩, mid_at s (i - 2 + 1) (by omega), mid_at s (i - 2 + 2) (by omega), hg (i + 1) (by omega), hg (i + 2) (by omega)]
          have e5 : s[i - 2 + 1 + 2]'(by omega) = s[i + 1]'(by omega) := by congr 1 <;> omega
          have e6 : s[i - 2 + 2 + 2]'(by omega) = s[i + 2]'(by omega) := by congr 1 <;> omega
          rw [e5, e6, e3]
        · rw [if_neg hh, if_neg (fun q => hh ⟨by rw [← hcc, q.1]; decide, by have := q.2; rw [hm] at this; omega⟩), e1]
      have hw1 : IntKind.i64.wrap ((i : Int) + 1) = (i : Int) + 1 := wrap_i (by omega) 1 (by omega)
      have hw2 : IntKind.i64.wrap ((i : Int) + 2) = (i : Int) + 2 := wrap_i (by omega) 2 (by omega)
      have hw3 : IntKind.i64.wrap ((i : Int) + 3) = (i : Int) + 3 := wrap_i (by omega) 3 (by omega)
      have HC : Hid ((c : Int) = (s[i].toNat : Int)) := by
        show _ = _
        rw [hcc]
      clear hcc
      by_cases hh : c = 92 ∧ i + 3 < s.size
      · have HD2 := HD.out
        rw [if_pos hh] at HD2
        obtain ⟨h92, h3⟩ := hh
        have c92 : ((c : Int) == 92) = true := by simp [h92]
        have x3 : decide ((i : Int) + 3 < (s.size : Int)) = true := decide_eq_true (by omega)
        obtain ⟨x, hx⟩ : ∃ x, (s.data.toList.getD (i + 1) 0).toNat = x := ⟨_, rfl⟩
        obtain ⟨y, hy⟩ : ∃ y, (s.data.toList.getD (i + 2) 0).toNat = y := ⟨_, rfl⟩
        have hg : ∀ k (hk : k < s.size), s.data.toList.getD k 0 = s[k] := fun k hk => by
          have hz := Lib.size_eq s
          rw [List.getD_eq_getElem?_getD, List.getElem?_eq_getElem (by omega), Option.getD_some]
          rfl
        have hx256 : x < 256 := by rw [← hx]; exact UInt8.toNat_lt _
        have hy256 : y < 256 := by rw [← hy]; exact UInt8.toNat_lt _
        have hid1 : ∀ W, (Instr.index 9 (.string s) (.int .i64 ((i : Int) + 1))).run Tryz.prog W = .ok (.int .u8 (x : Int)) W := fun W => by
          have := string_at s (i + 1) (by omega) W
          rw [← hg (i + 1) (by omega), hx] at this
          exact this
        have hid2 : ∀ W, (Instr.index 9 (.string s) (.int .i64 ((i : Int) + 2))).run Tryz.prog W = .ok (.int .u8 (y : Int)) W := fun W => by
          have := string_at s (i + 2) (by omega) W
          rw [← hg (i + 2) (by omega), hy] at this
          exact this
        rw [hx, hy] at HD2
        have D1 := hid (fun W => refdigit_any x hx256 W)
        have D2 := hid (fun W => refdigit_any y hy256 W)
        have hv1 := vd_lt x
        have hv2 := vd_lt y
        obtain ⟨a, ha⟩ : ∃ a, vd x = a := ⟨_, rfl⟩
        obtain ⟨b, hb⟩ : ∃ b, vd y = b := ⟨_, rfl⟩
        rw [ha] at D1 HD2 hv1
        rw [hb] at D2 HD2 hv2
        clear hg hx hy ha hb hx256 hy256 HD h92
        have hm1 : IntKind.i64.wrap (16 * (a : Int)) = 16 * (a : Int) := IntWalk.i64_in _ (by omega)
        have hm2 : IntKind.i64.wrap (16 * (a : Int) + (b : Int)) = 16 * (a : Int) + (b : Int) := IntWalk.i64_in _ (by omega)
        have hm3 : IntKind.u8.wrap (16 * (a : Int) + (b : Int)) = 16 * (a : Int) + (b : Int) := IntWalk.u8_in _ (by omega)
        have HC1 : Hid (16 * (a : Int) + (b : Int) = ((UInt8.ofNat (16 * a + b)).toNat : Int)) := by
          show _ = _
          rw [UInt8.toNat_ofNat']
          omega
        have HD3 := hid HD2
        have HL : Hid (out.length + 1 ≤ 1000000) := by have := HO.out; unfold Hid; omega
        clear HD2
        go_wp2
        go_region_held3 (fun w' => True) (trivial) ((first
          | (go_simp; go_at_call 20; ((with_reducible refine (D1.out _).mono ?_); rintro e w' ⟨rfl, rfl⟩))
          | (go_simp; go_at_call 20; ((with_reducible refine (D2.out _).mono ?_); rintro e w' ⟨rfl, rfl⟩))
          | (refine step_append_bytes (by rfl) (.tmp 108) (.tmp 122) (by rfl) _ (w.heap.size + 2) _ _ (by rfl) ((HR.out.alloc _)) ⟨wr.heap.size, 0, none⟩ 1 1 [UInt8.ofNat (16 * a + b)] (by rfl) (by rfl) (one_new' _ _ _ _ HC1.out) (by have := HL.out; simp only [List.length_cons, List.length_nil]; omega) (by simp; omega) ?_; intro v1 w1 hR1 hb1)))
        all_goals (
          go_wp2
          go_roundw
          case rel =>
            refine ⟨i + 3, out ++ [UInt8.ofNat (16 * a + b)], by omega, .inl (by omega), by go_num, hR1, (HST.out.below ((Below.refl _ _).alloc (by omega) _)).drew.below hb1, by have := HO.out; simp; omega, ?_⟩
            rw [HU.out, HD3.out, List.append_assoc, List.singleton_append]
          case measure => simp [intOf]; omega)
      · have HD2 := HD.out
        rw [if_neg hh] at HD2
        have HD3 := hid HD2
        have hh' : ¬ c = 92 ∨ (c = 92 ∧ ¬ i + 3 < s.size) := by
          by_cases h : c = 92
          · exact .inr ⟨h, fun q => hh ⟨h, q⟩⟩
          · exact .inl h
        have HL : Hid (out.length + 1 ≤ 1000000) := by have := HO.out; unfold Hid; omega
        clear hh HD HD2
        rcases hh' with h92 | ⟨h92, h3⟩
        · have c92 : ((c : Int) == 92) = false := by simpa using fun h => h92 (by omega)
          clear h92 hc256
          go_wp2_with (at_builtin; refine wpList_append_bytes rfl (.tmp 126) (.tmp 130) rfl _ (w.heap.size + 2) _ _ rfl (HR.out.alloc _) ⟨wr.heap.size, 0, none⟩ 1 1 [s[i]] rfl rfl (one_new' _ _ _ _ HC.out) (by have := HL.out; simp only [List.length_cons, List.length_nil]; omega) (by simp; omega) ?_; intro v1 w1 hR1 hb1)
          go_roundw
          case rel =>
            refine ⟨i + 1, out ++ [s[i]], by omega, .inl (by omega), by go_num, hR1, (HST.out.below ((Below.refl _ _).alloc (by omega) _)).below hb1, by have := HO.out; simp; omega, ?_⟩
            rw [HU.out, HD3.out, List.append_assoc, List.singleton_append]
          case measure => simp [intOf]; omega
        · have c92 : ((c : Int) == 92) = true := by simp [h92]
          have x3 : decide ((i : Int) + 3 < (s.size : Int)) = false := decide_eq_false (by omega)
          clear h92 hc256
          go_wp2_with (at_builtin; refine wpList_append_bytes rfl (.tmp 126) (.tmp 130) rfl _ (w.heap.size + 2) _ _ rfl (HR.out.alloc _) ⟨wr.heap.size, 0, none⟩ 1 1 [s[i]] rfl rfl (one_new' _ _ _ _ HC.out) (by have := HL.out; simp only [List.length_cons, List.length_nil]; omega) (by simp; omega) ?_; intro v1 w1 hR1 hb1)
          go_roundw
          case rel =>
            refine ⟨i + 1, out ++ [s[i]], by omega, .inl (by omega), by go_num, hR1, (HST.out.below ((Below.refl _ _).alloc (by omega) _)).below hb1, by have := HO.out; simp; omega, ?_⟩
            rw [HU.out, HD3.out, List.append_assoc, List.singleton_append]
          case measure => simp [intOf]; omega
    · have HF : Hid (out = uqT s.data.toList) := by
        show _ = _
        rw [HU.out, List.drop_of_length_le (by rw [mid_len]; omega)]
        simp [uqD]
      have hw1 : IntKind.i64.wrap ((i : Int) + 1) = (i : Int) + 1 := wrap_i (by omega) 1 (by omega)
      have f1 := HST.out.f1
      have b2 := HST.out.b2
      have HRF : Hid (Row wr (w.heap.size + 2) u7 (uqT s.data.toList)) := by
        have := HR.out
        rw [HF.out] at this
        exact hid this
      have hcv : (convert 22 9 u7).run Tryz.prog wr = .ok (.string ⟨(uqT s.data.toList).toArray⟩) wr := row_convert HRF.out
      clear HR HRF
      go_upto_region 35 with (fail)
      refine wp_letter (fun W => Hid (Below w.heap.size w W ∧ w.heap.size + 1 < W.heap.size) ∧ (∀ j, W.frozen? ⟨w.heap.size, j, none⟩ = false) ∧ W.cell? ⟨w.heap.size, 0, none⟩ = some (.int .i64 0) ∧ W.cell? ⟨w.heap.size, 1, none⟩ = some (.int .i64 0) ∧ W.cell? ⟨w.heap.size, 2, none⟩ = some (.string ⟨#[]⟩) ∧ W.cell? ⟨w.heap.size + 1, 0, none⟩ = some (.int .i64 3) ∧ W.cell? ⟨w.heap.size + 1, 1, none⟩ = some (.int .i64 0) ∧ W.cell? ⟨w.heap.size + 1, 2, none⟩ = some (.string ⟨(uqT s.data.toList).toArray⟩)) ?_ (fun W hW => ?_)
      · have h := HST.out
        exact ⟨hid ⟨h.bel.setCell (by simp) _, by simpa using h.sz⟩, fun j => by simp [h.f0], (World.cell?_setCell_other _ _ _ _ (addr_ne (by omega))).trans h.a0, (World.cell?_setCell_other _ _ _ _ (addr_ne (by omega))).trans h.a1, (World.cell?_setCell_other _ _ _ _ (addr_ne (by omega))).trans h.a2, (World.cell?_setCell_other _ _ _ _ (by simp)).trans h.b0, (World.cell?_setCell_other _ _ _ _ (by simp)).trans h.b1, World.cell?_setCell_same _ _ _ h.b2⟩
      obtain ⟨hh, f0, a0, a1, a2, b0, b1, b2⟩ := hW
      obtain ⟨hbW, hzW⟩ := hh.out
      clear hh
      go_wp2_with (go_at_call 21; refine (HS.out _ hbW).mono ?_; rintro e w2 ⟨rfl, hb2⟩; obtain ⟨hc2, hf2⟩ := bcell hb2; have p0 := hc2 w.heap.size 0 (by omega); have p1 := hc2 w.heap.size 1 (by omega); have p2 := hc2 w.heap.size 2 (by omega); have r0 := hc2 (w.heap.size + 1) 0 (by omega); have r1 := hc2 (w.heap.size + 1) 1 (by omega); have r2 := hc2 (w.heap.size + 1) 2 (by omega); have p3 : ∀ j, w2.frozen? ⟨w.heap.size, j, none⟩ = false := (fun j => (hf2 w.heap.size j (by omega)).trans (f0 j)); rw [a0] at p0; rw [a1] at p1; rw [a2] at p2; rw [b0] at r0; rw [b1] at r1; rw [b2] at r2)
      refine bodyPost_ret (v := .tuple #[.agg #[.int .i64 0, .int .i64 0, .string ⟨#[]⟩], .bool false]) (by simp [results, Tryz.results8, go_sem, cell_set_same, p0, p1, p2]) rfl ⟨rfl, ?_⟩
      iterate 3 (refine Below.setCell ?_ (by simp) _)
      exact hbW.trans (hb2.mono hbW.size)

end Go.Proofs.YtadehoibjpmhhaaGreatDoor
