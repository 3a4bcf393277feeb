/- val.Read at every text of at most a thousand bytes: the right value of which it is the text, or nothing. Conditions: the listed variables of the library read as they are laid. -/
import Derived.Test.YtadehoibjpmhhaaGreatDoorVP
import Derived.Test.YtadehoibjpmhhaaGreatDoorWI
import Derived.Test.YtadehoibjpmhhaaGreatDoorMC
import Derived.Lib.ItoaLen
namespace Go.Proofs.YtadehoibjpmhhaaGreatDoor
open Go.RowKit

theorem bytes_ext' {s1 s2 : ByteArray} (h : s1.data.toList = s2.data.toList) : s1 = s2 := by
  apply ByteArray.ext
  exact Array.ext' h
theorem showT_alse (n : Int) : showT n ≠ [97, 108, 115, 101] := by
  unfold showT textW
  repeat' split
  all_goals simp [nanT, infT, minfT, zeroT, mzeroT]
/-- The text is no right value's. -/
def NoVal (l : List UInt8) : Prop := ∀ k n s, inI n → vRight k n s = true → vShow k n s ≠ l

theorem parseInt_ok (s : ByteArray) (n : Int) (hs : s.size ≤ 1000) (h : Lib.parseIntB 64 s.data.toList = .ok n) (W : World) :
    Calls Tryz.prog 45 #[.string s, .int .i64 10, .int .i64 64] W fun e w' => e = .returned (.tuple #[.int .i64 n, .nilIface]) ∧ Below W.heap.size W w' :=
  (Tryz.strconv_ParseInt_10_at64_ok s (by omega) n h W).mono fun e w' ⟨he, hw⟩ => ⟨he, by
    rcases hw with rfl | ⟨t, rfl⟩
    · exact Below.refl _ _
    · exact Lib.bytesWorld_below _ _ _⟩

/-- val.Read in a world behind w. -/
def ReadsTo (s : ByteArray) (E : Ending) (w : World) : Prop :=
  Calls Tryz.prog 7 #[.string s] w fun e w' => e = E ∧ Below w.heap.size w w'

theorem begins_of {s : ByteArray} {c : UInt8} {r : List UInt8} (h : s.data.toList = c :: r) (ht : s.data.toList ≠ [116, 114, 117, 101]) (hf : s.data.toList ≠ [102, 97, 108, 115, 101]) : Begins s c :=
  ⟨⟨r, h⟩, by rw [toList_eq]; simpa using ht, by rw [toList_eq]; simpa using hf⟩

theorem read_ok (s : ByteArray) (k n : Int) (S : ByteArray) (hn : inI n) (hS : S.size ≤ 1000) (_ : vRight k n S.data.toList = true) (hsh : vShow k n S.data.toList = s.data.toList) (w : World) (hL : LaidIn w)
    (hp : ∀ W, Below w.heap.size w W → Calls Tryz.prog 18 #[.string s] W fun e w' => e = .returned (.tuple #[.agg #[.int .i64 k, .int .i64 n, .string S], .bool true]) ∧ Below W.heap.size W w') :
    ReadsTo s (.returned (.tuple #[.agg #[.int .i64 k, .int .i64 n, .string S], .bool true])) w := by
  refine vread_tt s k n S ⟨(vShow k n S.data.toList).toArray⟩ (by rw [mk_toList, hsh, toList_eq]; simp) w (hid fun W hW => ?_) (hid fun W hW => vshow_in k hn S w (by omega) hL W hW)
  exact (hp W hW).mono fun _ _ ⟨he, hb⟩ => ⟨he, hW.trans (hb.mono hW.size), hb⟩

theorem read_none (s : ByteArray) (k n : Int) (S : ByteArray) (hn : inI n) (hS : S.size ≤ 1000) (hsh : vShow k n S.data.toList ≠ s.data.toList) (w : World) (hL : LaidIn w)
    (hp : ∀ W, Below w.heap.size w W → Calls Tryz.prog 18 #[.string s] W fun e w' => e = .returned (.tuple #[.agg #[.int .i64 k, .int .i64 n, .string S], .bool true]) ∧ Below W.heap.size W w') :
    ReadsTo s (.returned (.tuple #[.agg #[.int .i64 0, .int .i64 0, .string ⟨#[]⟩], .bool false])) w := by
  refine vread_tf s k n S ⟨(vShow k n S.data.toList).toArray⟩ (by rw [mk_toList, toList_eq]; simpa using hsh) w (hid fun W hW => ?_) (hid fun W hW => vshow_in k hn S w (by omega) hL W hW)
  exact (hp W hW).mono fun _ _ ⟨he, hb⟩ => ⟨he, hW.trans (hb.mono hW.size), hb⟩

theorem read_bad (s : ByteArray) (k n : Int) (S : ByteArray) (w : World)
    (hp : ∀ W, Below w.heap.size w W → Calls Tryz.prog 18 #[.string s] W fun e w' => e = .returned (.tuple #[.agg #[.int .i64 k, .int .i64 n, .string S], .bool false]) ∧ Below W.heap.size W w') :
    ReadsTo s (.returned (.tuple #[.agg #[.int .i64 0, .int .i64 0, .string ⟨#[]⟩], .bool false])) w :=
  vread_f s k n S w (hid fun W hW => (hp W hW).mono fun _ _ ⟨he, hb⟩ => ⟨he, hW.trans (hb.mono hW.size), hb⟩)

theorem vShow_right {k n : Int} {t : List UInt8} (hr : vRight k n t = true) : vShow k n t = if k = 1 then Lib.itoa n else if k = 4 then (if n = 1 then [116, 114, 117, 101] else [102, 97, 108, 115, 101]) else if k = 5 then 102 :: showT n else if k = 2 then 98 :: 34 :: (quo t ++ [34]) else 116 :: 34 :: (quo t ++ [34]) := by
  unfold vShow; rw [if_pos hr]
theorem vShow_len {k n : Int} {t : List UInt8} (hn : inI n) (hr : vRight k n t = true) : (vShow k n t).length ≤ 200 := by
  have h1 := right_len hr
  have h2 := quo_len t
  have h3 := showT_len n
  have h4 := Lib.itoa_length_le n (by unfold inI at hn; omega) (by unfold inI at hn; omega)
  rw [vShow_right hr]
  repeat' split
  all_goals simp
  all_goals omega

/-- A right value's text is read back. -/
theorem vread_yes {k n : Int} (hn : inI n) (S : ByteArray) (hr : vRight k n S.data.toList = true) (w : World) (hL : LaidIn w) :
    ReadsTo ⟨(vShow k n S.data.toList).toArray⟩ (.returned (.tuple #[.agg #[.int .i64 k, .int .i64 n, .string S], .bool true])) w := by
  have hSl : S.size ≤ 32 := right_len hr
  have hlen := vShow_len hn hr
  have hsz : (⟨(vShow k n S.data.toList).toArray⟩ : ByteArray).size ≤ 1000 := by rw [mk_size]; omega
  have hd : (⟨(vShow k n S.data.toList).toArray⟩ : ByteArray).data.toList = vShow k n S.data.toList := rfl
  refine read_ok _ k n S hn (by omega) hr hd.symm w hL fun W hW => ?_
  have hv := vShow_right hr
  have hext : ∀ c r, vShow k n S.data.toList = c :: r → ((⟨(vShow k n S.data.toList).toArray⟩ : ByteArray).extract 1 (⟨(vShow k n S.data.toList).toArray⟩ : ByteArray).size) = ⟨r.toArray⟩ := fun c r h => by
    apply bytes_ext'
    rw [tail_list, hd, h]
    rfl
  rcases right_kind hr with rfl | rfl | rfl | rfl | rfl
  · have hS : S = ⟨#[]⟩ := bytes_ext' (by simp [vRight] at hr; rw [hr])
    subst hS
    rw [if_pos rfl] at hv
    obtain ⟨c, r, hc, hcd⟩ := itoa_head n
    have e : vShow 1 n (⟨#[]⟩ : ByteArray).data.toList = c :: r := hv.trans hc
    have hh : ∀ x : UInt8, 58 ≤ x.toNat → (x == c) = false := fun x hx => by
      refine beq_eq_false_iff_ne.2 fun h => ?_
      rw [h] at hx
      omega
    have hne : ∀ (x : UInt8) (l : List UInt8), 58 ≤ x.toNat → c :: r ≠ x :: l := fun x l hx h => by
      have := hh x hx
      injection h with h1 _
      rw [h1] at this
      simp at this
    have hB := begins_of (hd.trans e) (by rw [hd, e]; exact hne _ _ (by decide)) (by rw [hd, e]; exact hne _ _ (by decide))
    exact parse_d_ok _ hB.nt hB.nf (fun d hdd => by rw [hd, e, hasPrefix_one]; exact hh d (by rcases hdd with rfl | rfl | rfl <;> decide)) n W
      (hid fun W2 _ => parseInt_ok _ n hsz (by rw [hd, hv]; exact parse_itoa hn) W2)
  · have hn0 : n = 0 := by simp [vRight] at hr; exact hr.1
    subst hn0
    rw [if_neg (by decide), if_neg (by decide), if_neg (by decide), if_pos rfl] at hv
    refine parse_b _ hsz (by rw [mk_size, hv]; simp) (begins_of (hd.trans hv) (by rw [hd, hv]; simp) (by rw [hd, hv]; simp)) S true W (hid fun W2 => ?_)
    have hq := unquote_any ⟨(34 :: (quo S.data.toList ++ [34])).toArray⟩ (by rw [mk_size]; rw [hv] at hlen; simp at hlen ⊢; omega) W2
    rw [hext _ _ hv]
    refine hq.mono fun e w' ⟨he, hb⟩ => ⟨he.trans ?_, hb⟩
    show takeEnd (unqText (34 :: (quo S.data.toList ++ [34]))) = _
    rw [unqText_quo]
    rfl
  · have hn0 : n = 0 := by simp [vRight] at hr; exact hr.1.1
    subst hn0
    rw [if_neg (by decide), if_neg (by decide), if_neg (by decide), if_neg (by decide)] at hv
    refine parse_t _ hsz (by rw [mk_size, hv]; simp) (begins_of (hd.trans hv) (by rw [hd, hv]; simp) (by rw [hd, hv]; simp)) S true W (hid fun W2 => ?_)
    have hq := unquote_any ⟨(34 :: (quo S.data.toList ++ [34])).toArray⟩ (by rw [mk_size]; rw [hv] at hlen; simp at hlen ⊢; omega) W2
    rw [hext _ _ hv]
    refine hq.mono fun e w' ⟨he, hb⟩ => ⟨he.trans ?_, hb⟩
    show takeEnd (unqText (34 :: (quo S.data.toList ++ [34]))) = _
    rw [unqText_quo]
    rfl
  · have hS : S = ⟨#[]⟩ := bytes_ext' (by simp [vRight] at hr; rw [hr.1])
    subst hS
    have h01 : n = 0 ∨ n = 1 := by simp [vRight] at hr; exact hr
    rw [if_neg (by decide), if_pos rfl] at hv
    rcases h01 with rfl | rfl
    · rw [if_neg (by decide)] at hv
      exact parse_false _ (by rw [toList_eq, hd, hv]; rfl) (by rw [toList_eq, hd, hv]; rfl) W
    · rw [if_pos rfl] at hv
      exact parse_true _ (by rw [toList_eq, hd, hv]; rfl) W
  · have hS : S = ⟨#[]⟩ := bytes_ext' (by simp [vRight] at hr; rw [hr.1])
    subst hS
    have hrb : rightB n = true := by simp [vRight] at hr; exact hr
    rw [if_neg (by decide), if_neg (by decide), if_pos rfl] at hv
    have hnf : (102 :: showT n) ≠ [102, 97, 108, 115, 101] := fun h => by
      injection h with _ h
      exact showT_alse n h
    refine parse_f _ hsz (by rw [mk_size, hv]; simp) (begins_of (hd.trans hv) (by rw [hd, hv]; simp) (by rw [hd, hv]; exact hnf)) n true W (hid fun W2 hW2 => ?_)
    rw [hext _ _ hv]
    have htz := (hL.below (hW.trans (hW2.mono hW.size))).tz
    exact read_carried hn hrb W2 W2 htz (Below.refl _ _)

theorem parseInt_bad (s : ByteArray) (hs : s.size ≤ 1000) (h : ∀ v, Lib.parseIntB 64 s.data.toList ≠ .ok v) : ∃ n : Int, ∀ W, ErrsIn W →
    Calls Tryz.prog 45 #[.string s, .int .i64 10, .int .i64 64] W fun e w' => (∃ N : Nat, e = .returned (.tuple #[.int .i64 n, .iface 103 (.pointer (some ⟨N, 0, none⟩))])) ∧ Below W.heap.size W w' := by
  cases hp : Lib.parseIntB 64 s.data.toList
  · exact absurd hp (h _)
  · refine ⟨0, fun W hE => ?_⟩
    obtain ⟨⟨t, p, hv⟩, _⟩ := hE
    exact (Any.strconv_ParseInt_10_at64_syntax Tryz.laysC174 s (by omega) hp _ W hv (.inr ⟨t, p, rfl⟩)).mono fun e w' ⟨N, he, _, _, hb⟩ => ⟨⟨N, he⟩, hb⟩
  · refine ⟨Lib.intSat 64 s.data.toList, fun W hE => ?_⟩
    obtain ⟨_, ⟨t, p, hv⟩⟩ := hE
    exact (Any.strconv_ParseInt_10_at64_range Tryz.laysC174 s (by omega) hp _ W hv (.inr ⟨t, p, rfl⟩)).mono fun e w' ⟨N, he, _, _, hb⟩ => ⟨⟨N, he⟩, hb⟩

theorem parseInt_in {l : List UInt8} {n : Int} (h : Lib.parseIntB 64 l = .ok n) : inI n := by
  have := Lib.parseIntB_bounds h
  unfold inI
  simp at this
  omega
theorem vShow_no {k n : Int} {t : List UInt8} (hr : vRight k n t = false) : vShow k n t = [63] := by
  unfold vShow; rw [if_neg (by rw [hr]; simp)]
theorem right_int (n : Int) : vRight 1 n [] = true := rfl
theorem vShow_ne {k n : Int} {t l : List UInt8} (hn : inI n) (hno : NoVal l) (h63 : l ≠ [63]) : vShow k n t ≠ l := by
  cases hr : vRight k n t
  · rw [vShow_no hr]; exact fun h => h63 h.symm
  · exact hno k n t hn hr

theorem hasPrefix_nil (d : UInt8) : Lib.hasPrefix [] [d] = false := rfl

/-- What is read as a number, and is no right value's text. -/
theorem vread_d (s : ByteArray) (hs : s.size ≤ 1000) (hno : NoVal s.data.toList) (nt : (s.toList == [116, 114, 117, 101]) = false) (nf : (s.toList == [102, 97, 108, 115, 101]) = false) (hp : ∀ d : UInt8, d = 102 ∨ d = 98 ∨ d = 116 → Lib.hasPrefix s.data.toList [d] = false) (w : World) (hL : LaidIn w) :
    ReadsTo s (.returned (.tuple #[.agg #[.int .i64 0, .int .i64 0, .string ⟨#[]⟩], .bool false])) w := by
  by_cases h : ∃ v, Lib.parseIntB 64 s.data.toList = .ok v
  · obtain ⟨v, hv⟩ := h
    have hi := parseInt_in hv
    have h63 : s.data.toList ≠ [63] := fun e => by
      rw [e] at hv
      revert hv
      rw [Lib.parseIntB_64]
      exact fun h => by cases h
    refine read_none s 1 v ⟨#[]⟩ hi (by decide) (vShow_ne hi hno h63) w hL fun W hW => ?_
    exact parse_d_ok s nt nf hp v W (hid fun W2 _ => parseInt_ok s v hs hv W2)
  · obtain ⟨n, hn⟩ := parseInt_bad s hs (fun v hv => h ⟨v, hv⟩)
    refine read_bad s 1 n ⟨#[]⟩ w fun W hW => ?_
    exact parse_d_bad s nt nf hp n W (hid fun W2 hW2 => hn W2 (hL.errs.below (hW.trans (hW2.mono hW.size))))

theorem unqText_len (l s : List UInt8) (h : unqText l = some s) : s.length ≤ l.length := by
  have hq : ∀ (n : Nat) (l s : List UInt8), l.length ≤ n → unq l = some s → s.length ≤ l.length := by
    intro n
    induction n with
    | zero =>
      intro l s hn h
      have : l = [] := List.length_eq_zero_iff.1 (by omega)
      subst this
      simp [unq] at h
      rw [← h]; simp
    | succ n ih =>
      intro l s hn h
      match l, hn, h with
      | [], _, h => simp [unq] at h; rw [← h]; simp
      | c :: l, hn, h =>
        by_cases hc : c = 92
        · subst hc
          match l, hn, h with
          | [], _, h => rw [unq_short (by simp)] at h; cases h
          | [_], _, h => rw [unq_short (by simp)] at h; cases h
          | a :: b :: l, hn, h =>
            rw [unq_two] at h
            by_cases hv' : hv a < 0 ∨ hv b < 0
            · rw [if_pos hv'] at h; cases h
            · rw [if_neg hv'] at h
              obtain ⟨t, ht, rfl⟩ := Option.map_eq_some_iff.1 h
              have := ih l t (by simp at hn; omega) ht
              simp; omega
        · rw [unq_ne hc] at h
          obtain ⟨t, ht, rfl⟩ := Option.map_eq_some_iff.1 h
          have := ih l t (by simp at hn; omega) ht
          simp; omega
  unfold unqText at h
  split at h
  · have h1 := hq _ _ _ (Nat.le_refl _) h
    have h2 := trim_len l [34]
    have h3 := trim_len (Lib.trimPrefix l [34]) [34]
    omega
  · cases h

/-- What is no right value's text is read as nothing. -/
theorem vread_no (s : ByteArray) (hs : s.size ≤ 1000) (hno : NoVal s.data.toList) (w : World) (hL : LaidIn w) :
    ReadsTo s (.returned (.tuple #[.agg #[.int .i64 0, .int .i64 0, .string ⟨#[]⟩], .bool false])) w := by
  have ht : s.data.toList ≠ [116, 114, 117, 101] := fun h => hno 4 1 [] (by unfold inI; omega) rfl (h ▸ rfl)
  have hf : s.data.toList ≠ [102, 97, 108, 115, 101] := fun h => hno 4 0 [] (by unfold inI; omega) rfl (h ▸ rfl)
  have nt : (s.toList == [116, 114, 117, 101]) = false := by rw [toList_eq]; simpa using ht
  have nf : (s.toList == [102, 97, 108, 115, 101]) = false := by rw [toList_eq]; simpa using hf
  cases hl : s.data.toList with
  | nil => exact vread_d s hs hno nt nf (fun d _ => by rw [hl]; rfl) w hL
  | cons c r =>
    have hB := begins_of hl ht hf
    have h1 : 1 ≤ s.size := by have := congrArg List.length hl; simp at this; have h2 : s.data.toList.length = s.size := rfl; simp at h2; omega
    have hext : (s.extract 1 s.size).data.toList = r := by rw [tail_list, hl]; rfl
    have hrl : r.length ≤ 999 := by have := congrArg List.length hl; simp at this; have h2 : s.data.toList.length = s.size := rfl; simp at h2; omega
    have hes : (s.extract 1 s.size).size ≤ 1000 := by rw [Lib.size_eq, hext]; omega
    have h0 : inI 0 := by unfold inI; omega
    by_cases c1 : c = 102
    · subst c1
      have hno2 : NoneShows r := fun n hn hr he => by
        refine hno 5 n [] hn (by simpa [vRight] using hr) ?_
        rw [vShow_right (by simpa [vRight] using hr), if_neg (by decide), if_neg (by decide), if_pos rfl, he, hl]
      refine read_bad s 5 0 ⟨#[]⟩ w fun W hW => ?_
      refine parse_f s hs h1 hB 0 false W (hid fun W2 hW2 => ?_)
      have hL2 := hL.below (hW.trans (hW2.mono hW.size))
      have := read_no r (by omega) hno2 W2 hL2.errs hL2.tz
      rwa [show (s.extract 1 s.size) = ⟨r.toArray⟩ from bytes_ext' hext]
    · by_cases c2 : c = 98
      · subst c2
        have hq := unquote_any (s.extract 1 s.size) hes
        rw [hext] at hq
        cases hu : unqText r with
        | none =>
          rw [hu] at hq
          exact read_bad s 2 0 ⟨#[]⟩ w fun W hW => parse_b s hs h1 hB ⟨#[]⟩ false W (hid fun W2 => hq W2)
        | some t =>
          rw [hu] at hq
          have htl := unqText_len _ _ hu
          exact read_none s 2 0 ⟨t.toArray⟩ h0 (by rw [mk_size]; omega) (vShow_ne h0 hno (by rw [hl]; simp)) w hL fun W hW => parse_b s hs h1 hB ⟨t.toArray⟩ true W (hid fun W2 => hq W2)
      · by_cases c3 : c = 116
        · subst c3
          have hq := unquote_any (s.extract 1 s.size) hes
          rw [hext] at hq
          cases hu : unqText r with
          | none =>
            rw [hu] at hq
            exact read_bad s 3 0 ⟨#[]⟩ w fun W hW => parse_t s hs h1 hB ⟨#[]⟩ false W (hid fun W2 => hq W2)
          | some t =>
            rw [hu] at hq
            have htl := unqText_len _ _ hu
            exact read_none s 3 0 ⟨t.toArray⟩ h0 (by rw [mk_size]; omega) (vShow_ne h0 hno (by rw [hl]; simp)) w hL fun W hW => parse_t s hs h1 hB ⟨t.toArray⟩ true W (hid fun W2 => hq W2)
        · exact vread_d s hs hno nt nf (fun d hd => by
            rw [hl, hasPrefix_one]
            refine beq_eq_false_iff_ne.2 fun h => ?_
            rcases hd with rfl | rfl | rfl
            · exact c1 h.symm
            · exact c2 h.symm
            · exact c3 h.symm) w hL

end Go.Proofs.YtadehoibjpmhhaaGreatDoor
