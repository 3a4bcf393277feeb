/- val.unquote for every text of at most a thousand bytes. Conditions: none but the length. -/
import Derived.Test.YtadehoibjpmhhaaGreatDoorVG
namespace Go.Proofs.YtadehoibjpmhhaaGreatDoor
open Go.RowKit

def hexL : List UInt8 := [48, 49, 50, 51, 52, 53, 54, 55, 56, 57, 97, 98, 99, 100, 101, 102]
/-- Where a byte stands among the digits to the base 16; -1: nowhere. -/
def hv (c : UInt8) : Int := Lib.indexByte hexL c
theorem indexByte_le (l : List UInt8) (c : UInt8) : -1 ≤ Lib.indexByte l c ∧ Lib.indexByte l c < l.length ∨ (l = [] ∧ Lib.indexByte l c = -1) := by
  induction l with
  | nil => exact .inr ⟨rfl, rfl⟩
  | cons b l ih =>
    left
    unfold Lib.indexByte
    have hl : (((b :: l).length : Nat) : Int) = l.length + 1 := by simp
    split
    · omega
    · split
      · omega
      · rename_i h1 h2
        rcases ih with ih | ⟨rfl, h⟩
        · omega
        · rw [h] at h2; simp at h2
theorem hv_in (c : UInt8) : -1 ≤ hv c ∧ hv c < 16 := by
  rcases indexByte_le hexL c with h | ⟨h, _⟩
  · exact h
  · cases h
theorem hv_dg : ∀ d : Nat, d < 16 → hv (dg d) = d := by decide

/-- Undoes quo. -/
def unq : List UInt8 → Option (List UInt8)
  | [] => some []
  | c :: l => if c = 92 then (match l with
      | h :: x :: l' => if hv h < 0 ∨ hv x < 0 then none else (unq l').map (UInt8.ofNat (hv h * 16 + hv x).toNat :: ·)
      | _ => none) else (unq l).map (c :: ·)
theorem unq_ne {c : UInt8} (h : c ≠ 92) (l : List UInt8) : unq (c :: l) = (unq l).map (c :: ·) := by
  match l with
  | [] => simp [unq, h]
  | [_] => simp [unq, h]
  | _ :: _ :: _ => simp [unq, h]
theorem unq_short {l : List UInt8} (h : l.length < 2) : unq (92 :: l) = none := by
  match l, h with
  | [], _ => simp [unq]
  | [_], _ => simp [unq]
  | _ :: _ :: _, h => simp at h; omega
theorem unq_two (h x : UInt8) (l : List UInt8) : unq (92 :: h :: x :: l) = if hv h < 0 ∨ hv x < 0 then none else (unq l).map (UInt8.ofNat (hv h * 16 + hv x).toNat :: ·) := by simp [unq]
theorem unq_drop (l : List UInt8) (i : Nat) (h : i < l.length) : unq (l.drop i) = if l.getD i 0 = 92 then (if i + 2 < l.length then (if hv (l.getD (i + 1) 0) < 0 ∨ hv (l.getD (i + 2) 0) < 0 then none else (unq (l.drop (i + 3))).map (UInt8.ofNat (hv (l.getD (i + 1) 0) * 16 + hv (l.getD (i + 2) 0)).toNat :: ·)) else none) else (unq (l.drop (i + 1))).map (l.getD i 0 :: ·) := by
  have e : ∀ k (hk : k < l.length), l.getD k 0 = l[k] := fun k hk => by simp [List.getElem?_eq_getElem hk]
  rw [List.drop_eq_getElem_cons h, e i h]
  by_cases hc : l[i] = 92
  · rw [if_pos hc, hc]
    by_cases h2 : i + 2 < l.length
    · rw [if_pos h2, e (i + 1) (by omega), e (i + 2) h2, List.drop_eq_getElem_cons (show i + 1 < l.length by omega), List.drop_eq_getElem_cons (show i + 1 + 1 < l.length by omega), unq_two]
    · rw [if_neg h2]
      exact unq_short (by rw [List.length_drop]; omega)
  · rw [if_neg hc, unq_ne hc]
theorem dg_div (c : UInt8) : UInt8.ofNat ((c.toNat / 16 : Nat) * 16 + (c.toNat % 16 : Nat) : Int).toNat = c := by
  apply UInt8.toNat_inj.1
  rw [UInt8.toNat_ofNat']
  have := c.toNat_lt
  omega
theorem unq_quo (s : List UInt8) : unq (quo s) = some s := by
  induction s with
  | nil => rfl
  | cons c l ih =>
    have hc := c.toNat_lt
    simp only [quo, quoB]
    by_cases hp : plainB c.toNat = true
    · rw [if_pos hp]
      have hne : c ≠ 92 := by
        intro h
        rw [h] at hp
        revert hp
        decide
      rw [List.cons_append, List.nil_append, unq_ne hne, ih]
      rfl
    · rw [if_neg hp]
      simp only [List.cons_append, List.nil_append]
      rw [unq_two, hv_dg _ (by omega), hv_dg _ (by omega), if_neg (by omega), ih, dg_div]
      rfl
/-- The text between quotes. -/
def unqText (l : List UInt8) : Option (List UInt8) :=
  if (Lib.hasPrefix l [34] && Lib.hasSuffix (Lib.trimPrefix l [34]) [34]) = true then unq (Lib.trimSuffix (Lib.trimPrefix l [34]) [34]) else none

theorem unqText_quo (s : List UInt8) : unqText (34 :: (quo s ++ [34])) = some s := by
  have h1 : Lib.hasPrefix (34 :: (quo s ++ [34])) [34] = true := by simp [Lib.hasPrefix]
  have h2 : Lib.trimPrefix (34 :: (quo s ++ [34])) [34] = quo s ++ [34] := by unfold Lib.trimPrefix; rw [if_pos h1]; rfl
  have h3 : Lib.hasSuffix (quo s ++ [34]) [34] = true := by unfold Lib.hasSuffix; exact List.isSuffixOf_iff_suffix.2 ⟨quo s, rfl⟩
  have h4 : Lib.trimSuffix (quo s ++ [34]) [34] = quo s := by unfold Lib.trimSuffix; rw [if_pos h3]; simp
  unfold unqText
  rw [h1, h2, h3, h4, if_pos (by decide)]
  exact unq_quo s

theorem idx_any (x : UInt8) (w : World) :
    Calls Tryz.prog 68 #[.string ⟨#[48, 49, 50, 51, 52, 53, 54, 55, 56, 57, 97, 98, 99, 100, 101, 102]⟩, .int .u8 (x.toNat : Int)] w fun e w' => e = .returned (.int .i64 (hv x)) ∧ w' = w := by
  have h := Tryz.strings_IndexByte ⟨#[48, 49, 50, 51, 52, 53, 54, 55, 56, 57, 97, 98, 99, 100, 101, 102]⟩ (x.toNat : Int) w
  have e : ((x.toNat : Int).toNat).toUInt8 = x := by rw [Int.toNat_natCast]; simp
  rw [e] at h
  exact h

theorem or_hex : ∀ a : Nat, a < 16 → ∀ b : Nat, b < 16 → bits .or .i64 ((a : Int) * 16) (b : Int) = (a : Int) * 16 + b := by decide +kernel

theorem Row.drewN {w : World} {B : Nat} {v : Value} {l : List UInt8} (h : Row w B v l) (n : Nat) : Row (w.drewN n) B v l := h
theorem getD_at (t : ByteArray) (i : Nat) (h : i < t.size) : t.data.toList.getD i 0 = t[i] := by
  rw [List.getD_eq_getElem?_getD, List.getElem?_eq_getElem (show i < t.data.toList.length from h)]
  rfl
/-- What the loop knows. -/
def UInv (t : ByteArray) (B : Nat) (w : World) (vb vi : Value) (wr : World) : Prop :=
  ∃ (i : Nat) (out : List UInt8), i ≤ t.size ∧ out.length ≤ i ∧ vi = .int .i64 i ∧ Row wr B vb out ∧ Below B w wr ∧ unq t.data.toList = (unq (t.data.toList.drop i)).map (out ++ ·)

theorem trim_len (l p : List UInt8) : (Lib.trimPrefix l p).length ≤ l.length ∧ (Lib.trimSuffix l p).length ≤ l.length := by
  unfold Lib.trimPrefix Lib.trimSuffix
  constructor <;> split <;> simp

theorem mk_size (l : List UInt8) : (⟨l.toArray⟩ : ByteArray).size = l.length := by rw [Lib.size_eq]

set_option maxHeartbeats 4000000 in
set_option maxRecDepth 100000 in
theorem unquote_any (s : ByteArray) (hs : s.size ≤ 1000) (w : World) :
    Calls Tryz.prog 44 #[.string s] w fun e w' => e = takeEnd (unqText s.data.toList) ∧ Below w.heap.size w w' := by
  have cp := fun W => Tryz.strings_CutPrefix s ⟨#[34]⟩ W
  have cs := fun W => Tryz.strings_CutSuffix ⟨(Lib.trimPrefix s.data.toList [34]).toArray⟩ ⟨#[34]⟩ W (by rw [mk_size]; have := (trim_len s.data.toList [34]).1; have h : s.data.toList.length = s.size := rfl; omega)
  have hE : unqText s.data.toList = if (Lib.hasPrefix s.data.toList [34] && Lib.hasSuffix (Lib.trimPrefix s.data.toList [34]) [34]) = true then unq (Lib.trimSuffix (Lib.trimPrefix s.data.toList [34]) [34]) else none := rfl
  have ht : (Lib.trimSuffix (Lib.trimPrefix s.data.toList [34]) [34]).length ≤ 1000 := by
    have h1 := (trim_len s.data.toList [34]).1
    have h2 := (trim_len (Lib.trimPrefix s.data.toList [34]) [34]).2
    have h : s.data.toList.length = s.size := rfl
    omega
  have cp' : ∀ W, Calls Tryz.prog 66 #[.string s, .string ⟨#[34]⟩] W fun e w' => e = .returned (.tuple #[.string ⟨(Lib.trimPrefix s.data.toList [34]).toArray⟩, .bool (Lib.hasPrefix s.data.toList [34])]) ∧ w' = W := cp
  have cs' : ∀ W, Calls Tryz.prog 67 #[.string ⟨(Lib.trimPrefix s.data.toList [34]).toArray⟩, .string ⟨#[34]⟩] W fun e w' => e = .returned (.tuple #[.string ⟨(Lib.trimSuffix (Lib.trimPrefix s.data.toList [34]) [34]).toArray⟩, .bool (Lib.hasSuffix (Lib.trimPrefix s.data.toList [34]) [34])]) ∧ w' = W := cs
  clear cp cs
  generalize Lib.hasSuffix (Lib.trimPrefix s.data.toList [34]) [34] = cl at *
  obtain ⟨T, hT⟩ : ∃ T, Lib.trimSuffix (Lib.trimPrefix s.data.toList [34]) [34] = T := ⟨_, rfl⟩
  rw [hT] at hE ht cs'
  clear hT
  generalize Lib.trimPrefix s.data.toList [34] = S1 at *
  generalize Lib.hasPrefix s.data.toList [34] = op at *
  generalize unqText s.data.toList = R at *
  obtain ⟨t, htt⟩ : ∃ t : ByteArray, (⟨T.toArray⟩ : ByteArray) = t := ⟨_, rfl⟩
  have hTl : t.data.toList = T := by rw [← htt]
  rw [htt] at cs'
  rw [← hTl] at hE ht
  have hts : t.size ≤ 1000 := ht
  clear htt hTl ht hs
  have HCP : Hid (∀ W, Calls Tryz.prog 66 #[.string s, .string ⟨#[34]⟩] W fun e w' => e = .returned (.tuple #[.string ⟨S1.toArray⟩, .bool op]) ∧ W = w') := fun W => (cp' W).mono fun _ _ ⟨he, hw⟩ => ⟨he, hw.symm⟩
  have HCS : Hid (∀ W, Calls Tryz.prog 67 #[.string ⟨S1.toArray⟩, .string ⟨#[34]⟩] W fun e w' => e = .returned (.tuple #[.string t, .bool cl]) ∧ W = w') := fun W => (cs' W).mono fun _ _ ⟨he, hw⟩ => ⟨he, hw.symm⟩
  clear cp' cs'
  generalize (⟨S1.toArray⟩ : ByteArray) = s1 at *
  have HE := hid hE
  clear hE
  by_cases ho : (op && cl) = true
  · obtain ⟨rfl, rfl⟩ : op = true ∧ cl = true := by simpa using ho
    obtain ⟨W0, hmk, hR0, hb0⟩ := make_row w w.heap.size (Nat.le_refl _) t.size (by omega)
    clear ho
    have HE2 : Hid (R = unq t.data.toList) := HE.out
    clear HE
    go_enter Tryz.func44, Tryz.ntmps44
    go_wp2_with (first | (go_at_call 66; refine (HCP.out _).mono ?_; rintro e w' ⟨rfl, rfl⟩) | (go_at_call 67; refine (HCS.out _).mono ?_; rintro e w' ⟨rfl, rfl⟩))
    clear hmk HCP HCS
    go_loopw [6, 7] (fun vb vi wr => UInv t w.heap.size w vb vi wr) (fun _ vi _ => t.size - (intOf vi).toNat)
    case atStart => exact ⟨0, [], by omega, by simp, rfl, hR0, hb0, map_nil _⟩
    case round =>
      obtain ⟨i, out, hi, ho, rfl, hR, hbel, hu⟩ := hrel
      have HR := hid hR
      have HU := hid hu
      clear hR hu hR0 hb0
      have hsz := hbel.size
      have hl : t.data.toList.length = t.size := rfl
      by_cases him : i < t.size
      · have HT := hid (unq_drop t.data.toList i (by rw [hl]; exact him))
        obtain ⟨c, hcc⟩ : ∃ c, t[i] = c := ⟨_, rfl⟩
        have hgc : t.data.toList.getD i 0 = c := by rw [← hcc]; exact getD_at t i him
        have hidx : ∀ W, (Instr.index 9 (.string t) (.int .i64 (i : Int))).run Tryz.prog W = .ok (.int .u8 (c.toNat : Int)) W := fun W => by
          rw [← hcc]
          exact string_at t i him W
        have HGC := hid hgc
        clear hgc hcc
        have hlen : ∀ z : UInt8, (out ++ [z]).length ≤ i + 1 := fun z => by simp; omega
        have HLEN := hid hlen
        clear hlen
        by_cases hc : c = 92
        · have hc' : ((c.toNat : Int) != 92) = false := by rw [hc]; rfl
          by_cases h3 : i + 2 < t.size
          · have hd3 : ((t.size : Int) - (i : Int) < 3) = False := by simp; omega
            obtain ⟨h, hhc⟩ : ∃ c, t[i + 1] = c := ⟨_, rfl⟩
            obtain ⟨x, hxc⟩ : ∃ c, t[i + 2] = c := ⟨_, rfl⟩
            have hidx1 : ∀ W, (Instr.index 9 (.string t) (.int .i64 ((i : Int) + 1))).run Tryz.prog W = .ok (.int .u8 (h.toNat : Int)) W := fun W => by
              rw [← hhc]
              exact string_at t (i + 1) (by omega) W
            have hidx2 : ∀ W, (Instr.index 9 (.string t) (.int .i64 ((i : Int) + 2))).run Tryz.prog W = .ok (.int .u8 (x.toNat : Int)) W := fun W => by
              rw [← hxc]
              exact string_at t (i + 2) h3 W
            have HT2 : Hid (unq (t.data.toList.drop i) = if hv h < 0 ∨ hv x < 0 then none else (unq (t.data.toList.drop (i + 3))).map (UInt8.ofNat (hv h * 16 + hv x).toNat :: ·)) := by
              show _ = _
              rw [HT.out, HGC.out, if_pos hc, hl, if_pos h3, getD_at t (i + 1) (by omega), hhc, getD_at t (i + 2) h3, hxc]
            obtain ⟨a1, ha1⟩ : ∃ a, hv h = a := ⟨_, rfl⟩
            obtain ⟨a2, ha2⟩ : ∃ a, hv x = a := ⟨_, rfl⟩
            have b1 := hv_in h
            have b2 := hv_in x
            rw [ha1] at HT2 b1
            rw [ha2] at HT2 b2
            have HI1 : Hid (∀ W, Calls Tryz.prog 68 #[.string ⟨#[48, 49, 50, 51, 52, 53, 54, 55, 56, 57, 97, 98, 99, 100, 101, 102]⟩, .int .u8 (h.toNat : Int)] W fun e w' => e = .returned (.int .i64 a1) ∧ w' = W) := fun W => by rw [← ha1]; exact idx_any h W
            have HI2 : Hid (∀ W, Calls Tryz.prog 68 #[.string ⟨#[48, 49, 50, 51, 52, 53, 54, 55, 56, 57, 97, 98, 99, 100, 101, 102]⟩, .int .u8 (x.toNat : Int)] W fun e w' => e = .returned (.int .i64 a2) ∧ w' = W) := fun W => by rw [← ha2]; exact idx_any x W
            clear hhc hxc ha1 ha2 hc
            have hi0 : (0 : Int) ≤ (i : Int) := by omega
            by_cases hn1 : a1 < 0
            · have HE : Hid (R = none) := by
                show _ = _
                rw [HE2.out, HU.out, HT2.out, if_pos (Or.inl hn1)]
                rfl
              go_wp2
              go_quiet ((first | (go_at_call 68; with_reducible exact Calls.quiet_of_same (HI1.out _)) | (go_at_call 68; with_reducible exact Calls.quiet_of_same (HI2.out _))))
              go_wp2
              go_ret2
              rw [HE.out]
              exact ⟨rfl, below_drewN hbel _⟩
            · by_cases hn2 : a2 < 0
              · have HE : Hid (R = none) := by
                  show _ = _
                  rw [HE2.out, HU.out, HT2.out, if_pos (Or.inr hn2)]
                  rfl
                go_wp2
                go_quiet ((first | (go_at_call 68; with_reducible exact Calls.quiet_of_same (HI1.out _)) | (go_at_call 68; with_reducible exact Calls.quiet_of_same (HI2.out _))))
                go_wp2
                go_ret2
                rw [HE.out]
                exact ⟨rfl, below_drewN hbel _⟩
              · have HE : Hid (unq t.data.toList = (unq (t.data.toList.drop (i + 3))).map ((out ++ [UInt8.ofNat (a1 * 16 + a2).toNat]) ++ ·)) := by
                  show _ = _
                  rw [HU.out, HT2.out, if_neg (by omega), Option.map_map]
                  congr 1
                  funext z
                  simp
                obtain ⟨n1, rfl⟩ : ∃ n : Nat, a1 = n := ⟨a1.toNat, by omega⟩
                obtain ⟨n2, rfl⟩ : ∃ n : Nat, a2 = n := ⟨a2.toNat, by omega⟩
                have hor := or_hex n1 (by omega) n2 (by omega)
                have HC1 : Hid (((n1 : Int) * 16 + n2) = ((UInt8.ofNat ((n1 : Int) * 16 + n2).toNat).toNat : Int)) := by
                  show _ = _
                  rw [UInt8.toNat_ofNat']
                  omega
                go_wp2
                go_quiet ((first | (go_at_call 68; with_reducible exact Calls.quiet_of_same (HI1.out _)) | (go_at_call 68; with_reducible exact Calls.quiet_of_same (HI2.out _))))
                go_wp2_with (at_builtin; go_loud (refine wpList_append_bytes rfl (.tmp 66) (.tmp 72) rfl _ w.heap.size _ _ rfl ((HR.out.drewN _).alloc _) ⟨wr.heap.size, 0, none⟩ 1 1 [UInt8.ofNat ((n1 : Int) * 16 + n2).toNat] rfl rfl (one_new' _ _ _ _ HC1.out) (by simp only [List.length_cons, List.length_nil]; omega) (by simp; omega) ?_); intro v1 w1 hR1 hb1)
                go_roundw
                case rel => exact ⟨i + 3, out ++ [UInt8.ofNat ((n1 : Int) * 16 + n2).toNat], by omega, by have := HLEN.out (UInt8.ofNat ((n1 : Int) * 16 + n2).toNat); omega, by go_num, hR1, ((below_drewN hbel _).alloc hsz _).trans hb1, HE.out⟩
                case measure => simp [intOf]; omega
          · have hd3 : ((t.size : Int) - (i : Int) < 3) = True := by simp; omega
            have HE : Hid (R = none) := by
              show _ = _
              rw [HE2.out, HU.out, HT.out, HGC.out, if_pos hc, hl, if_neg h3]
              rfl
            clear hc
            go_wp2
            go_ret2
            rw [HE.out]
            exact ⟨rfl, hbel⟩
        · have hc' : ((c.toNat : Int) != 92) = true := by
            simp only [bne_iff_ne, ne_eq]
            intro h
            exact hc (UInt8.toNat_inj.1 (by have : (92 : UInt8).toNat = 92 := rfl; omega))
          have HE : Hid (unq t.data.toList = (unq (t.data.toList.drop (i + 1))).map ((out ++ [c]) ++ ·)) := by
            show _ = _
            rw [HU.out, HT.out, HGC.out, if_neg hc, Option.map_map]
            congr 1
            funext z
            simp
          clear hc
          go_wp2_with (at_builtin; refine wpList_append_bytes rfl (.tmp 39) (.tmp 43) rfl _ w.heap.size _ _ rfl (HR.out.alloc _) ⟨wr.heap.size, 0, none⟩ 1 1 [c] rfl rfl (one_new' _ _ _ _ rfl) (by simp only [List.length_cons, List.length_nil]; omega) (by simp; omega) ?_; intro v1 w1 hR1 hb1)
          go_roundw
          case rel => exact ⟨i + 1, out ++ [c], by omega, HLEN.out c, by go_num, hR1, (hbel.alloc hsz _).trans hb1, HE.out⟩
          case measure => simp [intOf]; omega
      · obtain rfl : i = t.size := by omega
        have hcv := row_convert HR.out
        have HE : Hid (R = some out) := by
          show _ = _
          rw [HE2.out, HU.out, List.drop_of_length_le (by rw [hl]; omega)]
          simp [unq]
        go_wp2
        go_ret2
        rw [HE.out]
        exact ⟨rfl, hbel⟩
  · cases op
    · have HE2 : Hid (R = none) := HE.out
      clear ho HE
      cases cl
      all_goals
        go_enter Tryz.func44, Tryz.ntmps44
        go_wp2_with (first | (go_at_call 66; refine (HCP.out _).mono ?_; rintro e w' ⟨rfl, rfl⟩) | (go_at_call 67; refine (HCS.out _).mono ?_; rintro e w' ⟨rfl, rfl⟩))
        go_ret2
        rw [HE2.out]
        exact ⟨rfl, Below.refl _ _⟩
    · cases cl
      · have HE2 : Hid (R = none) := HE.out
        clear ho HE
        go_enter Tryz.func44, Tryz.ntmps44
        go_wp2_with (first | (go_at_call 66; refine (HCP.out _).mono ?_; rintro e w' ⟨rfl, rfl⟩) | (go_at_call 67; refine (HCS.out _).mono ?_; rintro e w' ⟨rfl, rfl⟩))
        go_ret2
        rw [HE2.out]
        exact ⟨rfl, Below.refl _ _⟩
      · exact absurd rfl ho

end Go.Proofs.YtadehoibjpmhhaaGreatDoor
