/- The document's Read at every text of at most a thousand bytes: the right value of which it is the text, or nothing. Conditions: none but the length. -/
import Derived.Test.YtadehoibjpmhhaaGreatDoorRT
namespace Go.Proofs.YtadehoibjpmhhaaGreatDoor
open Go.RowKit

/-- The document's Read in a world. -/
def RReadsTo (s : ByteArray) (E : Ending) (w : World) : Prop :=
  Calls Tryz.prog 8 #[.string s] w fun e w' => e = E ∧ Below w.heap.size w w'

theorem toList_lit (s : ByteArray) (l : List UInt8) (h : s.data.toList = l) : s = ⟨l.toArray⟩ := bytes_ext' h
theorem show_hid (k : Int) {n : Int} (hn : inI n) (S : ByteArray) (hS : S.size ≤ 1000) (w : World) : Hid (∀ W, Below w.heap.size w W → Calls Tryz.prog 21 #[.agg #[.int .i64 k, .int .i64 n, .string S]] W fun e w' => e = .returned (.string ⟨(vShow k n S.data.toList).toArray⟩) ∧ Below W.heap.size W w') :=
  hid fun W _ => refvshow_any k hn S W hS

theorem seq_beq (k n : Int) (S : ByteArray) (s : ByteArray) : (((⟨(vShow k n S.data.toList).toArray⟩ : ByteArray).toList == s.toList) = true ↔ vShow k n S.data.toList = s.data.toList) := by
  rw [mk_toList, toList_eq]; simp
theorem seq_bne (k n : Int) (S : ByteArray) (s : ByteArray) : (((⟨(vShow k n S.data.toList).toArray⟩ : ByteArray).toList == s.toList) = false ↔ vShow k n S.data.toList ≠ s.data.toList) := by
  rw [mk_toList, toList_eq]; simp

/-- What is taken out of a text that begins with c and isn't true or false. -/
theorem rread_head (s : ByteArray) (c : UInt8) (r : List UInt8) (hs : s.data.toList = c :: r) (hsm : s.size ≤ 1000) (nt : s.data.toList ≠ [116, 114, 117, 101]) (nf : s.data.toList ≠ [102, 97, 108, 115, 101]) :
    ∃ h : 1 ≤ s.size, (s[0]'(by omega)).toNat = c.toNat ∧ (s.toList == []) = false ∧ (s.toList == [116, 114, 117, 101]) = false ∧ (s.toList == [102, 97, 108, 115, 101]) = false := by
  have hz := Lib.size_eq s
  have hl : 1 ≤ s.data.toList.length := by rw [hs]; simp
  refine ⟨by omega, ?_, by rw [toList_eq, hs]; rfl, by rw [toList_eq]; simpa using nt, by rw [toList_eq]; simpa using nf⟩
  have : s[0]'(by omega) = s.data.toList[0]'(by omega) := rfl
  rw [this]
  simp [hs]

/-- A right value's text is read back. -/
theorem rread_yes {k n : Int} (hn : inI n) (S : ByteArray) (hr : vRight k n S.data.toList = true) (w : World) :
    RReadsTo ⟨(vShow k n S.data.toList).toArray⟩ (.returned (.tuple #[.agg #[.int .i64 k, .int .i64 n, .string S], .bool true])) w := by
  have hSl : S.size ≤ 32 := right_len hr
  have hlen := vShow_len hn hr
  have hsz : (⟨(vShow k n S.data.toList).toArray⟩ : ByteArray).size ≤ 1000 := by rw [mk_size]; omega
  have hd : (⟨(vShow k n S.data.toList).toArray⟩ : ByteArray).data.toList = vShow k n S.data.toList := rfl
  have hv := vShow_right hr
  have HS := show_hid k hn S (by omega) w
  have hq := (seq_beq k n S ⟨(vShow k n S.data.toList).toArray⟩).2 rfl
  have hext : ∀ c r, vShow k n S.data.toList = c :: r → ((⟨(vShow k n S.data.toList).toArray⟩ : ByteArray).extract 1 (⟨(vShow k n S.data.toList).toArray⟩ : ByteArray).size) = ⟨r.toArray⟩ := fun c r h => by
    apply bytes_ext'
    rw [tail_list, hd, h]
    rfl
  rcases right_kind hr with rfl | rfl | rfl | rfl | rfl
  · have hS : S = ⟨#[]⟩ := bytes_ext' (by simp [vRight] at hr; rw [hr])
    subst hS
    rw [if_pos rfl] at hv
    obtain ⟨c, r, hc, hcd⟩ := itoa_head n
    have e : vShow 1 n (⟨#[]⟩ : ByteArray).data.toList = c :: r := hv.trans hc
    have hne : ∀ (x : UInt8) (l : List UInt8), 58 ≤ x.toNat → c :: r ≠ x :: l := fun x l hx h => by
      injection h with h1 _
      rw [h1] at hcd
      omega
    obtain ⟨h1, h0, hne0, nt, nf⟩ := rread_head _ c r (hd.trans e) hsz (by rw [hd, e]; exact hne _ _ (by decide)) (by rw [hd, e]; exact hne _ _ (by decide))
    have hdn : decN (⟨(vShow 1 n (⟨#[]⟩ : ByteArray).data.toList).toArray⟩ : ByteArray).data.toList = n := by rw [hd, hv]; exact decN_itoa hn
    have := rread_dy _ h1 hsz hne0 nt nf c.toNat h0 (by simp; omega) (by simp; omega) (by simp; omega) _ hq w (by rw [hdn]; exact HS)
    rw [hdn] at this
    exact this
  · have hn0 : n = 0 := by simp [vRight] at hr; exact hr.1
    subst hn0
    rw [if_neg (by decide), if_neg (by decide), if_neg (by decide), if_pos rfl] at hv
    obtain ⟨h1, h0, hne0, nt, nf⟩ := rread_head _ _ _ (hd.trans hv) hsz (by rw [hd, hv]; simp) (by rw [hd, hv]; simp)
    have hu : (⟨(uqT (⟨(vShow 2 0 S.data.toList).toArray⟩ : ByteArray).data.toList).toArray⟩ : ByteArray) = S := bytes_ext' (by
      show uqT (vShow 2 0 S.data.toList) = _
      rw [hv, uqT_quo])
    have := rread_by _ h1 hsz hne0 nt nf h0 _ hq w (by rw [hu]; exact HS)
    rw [hu] at this
    exact this
  · have hn0 : n = 0 := by simp [vRight] at hr; exact hr.1.1
    subst hn0
    rw [if_neg (by decide), if_neg (by decide), if_neg (by decide), if_neg (by decide)] at hv
    obtain ⟨h1, h0, hne0, nt, nf⟩ := rread_head _ _ _ (hd.trans hv) hsz (by rw [hd, hv]; simp) (by rw [hd, hv]; simp)
    have hu : (⟨(uqT (⟨(vShow 3 0 S.data.toList).toArray⟩ : ByteArray).data.toList).toArray⟩ : ByteArray) = S := bytes_ext' (by
      show uqT (vShow 3 0 S.data.toList) = _
      rw [hv, uqT_quo])
    have := rread_ty _ h1 hsz hne0 nt nf h0 _ hq w (by rw [hu]; exact HS)
    rw [hu] at this
    exact this
  · have hS : S = ⟨#[]⟩ := bytes_ext' (by simp [vRight] at hr; rw [hr.1])
    subst hS
    have h01 : n = 0 ∨ n = 1 := by simp [vRight] at hr; exact hr
    rw [if_neg (by decide), if_pos rfl] at hv
    rcases h01 with rfl | rfl
    · rw [if_neg (by decide)] at hv
      have := rread_false _ (by rw [mk_toList, hv]; rfl) w HS
      rw [hv]
      exact this
    · rw [if_pos rfl] at hv
      have := rread_true _ (by rw [mk_toList, hv]; rfl) w HS
      rw [hv]
      exact this
  · have hS : S = ⟨#[]⟩ := bytes_ext' (by simp [vRight] at hr; rw [hr.1])
    subst hS
    have hrb : rightB n = true := by simp [vRight] at hr; exact hr
    rw [if_neg (by decide), if_neg (by decide), if_pos rfl] at hv
    have hnf : (102 :: showT n) ≠ [102, 97, 108, 115, 101] := fun h => by
      injection h with _ h
      exact showT_alse n h
    obtain ⟨h1, h0, hne0, nt, nf⟩ := rread_head _ _ _ (hd.trans hv) hsz (by rw [hd, hv]; simp) (by rw [hd, hv]; exact hnf)
    refine rread_fy _ h1 hsz hne0 nt nf h0 n (fun w => hid fun W2 _ => ?_) _ hq w HS
    rw [hext _ _ hv]
    exact refRead_yes hn hrb W2

/-- What is no right value's text is not read. -/
theorem rread_no (s : ByteArray) (hs : s.size ≤ 1000) (hno : NoVal s.data.toList) (w : World) :
    RReadsTo s (.returned (.tuple #[.agg #[.int .i64 0, .int .i64 0, .string ⟨#[]⟩], .bool false])) w := by
  have nt : s.data.toList ≠ [116, 114, 117, 101] := fun h => hno 4 1 [] (by unfold inI; omega) (by decide) (h ▸ by decide)
  have nf : s.data.toList ≠ [102, 97, 108, 115, 101] := fun h => hno 4 0 [] (by unfold inI; omega) (by decide) (h ▸ by decide)
  cases hl : s.data.toList with
  | nil =>
    rw [toList_lit s [] hl]
    exact rread_empty w
  | cons c r =>
    obtain ⟨h1, h0, hne0, nt', nf'⟩ := rread_head s c r hl hs nt nf
    have h00 : inI 0 := by unfold inI; omega
    have hU : (⟨(uqT s.data.toList).toArray⟩ : ByteArray).size ≤ 1000 := by
      have := uqT_len s.data.toList
      have := Lib.size_eq s
      rw [mk_size]; omega
    by_cases c102 : c = 102
    · subst c102
      have hno' : NoneShows r := fun n hn hr h => hno 5 n [] hn (by simpa [vRight] using hr) (by rw [vShow_right (by simpa [vRight] using hr), if_neg (by decide), if_neg (by decide), if_pos rfl, h, hl])
      refine rread_fbad s h1 hs hne0 nt' nf' h0 0 (fun w => hid fun W2 _ => ?_) w
      have e : s.extract 1 s.size = ⟨r.toArray⟩ := bytes_ext' (by rw [tail_list, hl]; rfl)
      rw [e]
      exact refRead_no r hno' W2
    · by_cases c98 : c = 98
      · subst c98
        exact rread_bn s h1 hs hne0 nt' nf' h0 _ ((seq_bne 2 0 ⟨(uqT s.data.toList).toArray⟩ s).2 (vShow_ne h00 hno (by rw [hl]; simp))) w (show_hid 2 h00 _ hU w)
      · by_cases c116 : c = 116
        · subst c116
          exact rread_tn s h1 hs hne0 nt' nf' h0 _ ((seq_bne 3 0 ⟨(uqT s.data.toList).toArray⟩ s).2 (vShow_ne h00 hno (by rw [hl]; simp))) w (show_hid 3 h00 _ hU w)
        · have hx : ∀ x : UInt8, c ≠ x → ((c.toNat : Int) == (x.toNat : Int)) = false := fun x h => by
            refine beq_eq_false_iff_ne.2 fun q => h (UInt8.toNat_inj.1 (by omega))
          exact rread_dn s h1 hs hne0 nt' nf' c.toNat h0 (hx 102 c102) (hx 98 c98) (hx 116 c116) _ ((seq_bne 1 (decN s.data.toList) ⟨#[]⟩ s).2 (hno 1 _ _ (decN_in _) (right_int _))) w (show_hid 1 (decN_in _) _ (by decide) w)

end Go.Proofs.YtadehoibjpmhhaaGreatDoor
