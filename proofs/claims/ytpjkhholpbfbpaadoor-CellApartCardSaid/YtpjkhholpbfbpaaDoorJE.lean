/- What is let of one family of a row: the same alone as among all. -/
import Derived.Test.YtpjkhholpbfbpaaDoorMK
import Derived.Test.YtpjkhholpbfbpaaDoorID
namespace Go.Proofs.YtpjkhholpbfbpaaDoor
open Go.RowKit

/-- Of one family of a row. -/
def famP (R F : ByteArray) (c : CT) : Bool := decide (c.r = R ∧ c.f = F)
theorem fam_iff {R F : ByteArray} {c : CT} : famP R F c = true ↔ c.r = R ∧ c.f = F := by unfold famP; rw [decide_eq_true_iff]
theorem rf_between {d a c : CT} (hr : c.r = d.r) (hf : c.f = d.f) (h1 : CT.cmp d a ≤ 0) (h2 : CT.cmp a c ≤ 0) : a.r = d.r ∧ a.f = d.f := by
  rw [cmp_lex] at h1 h2
  obtain ⟨r1, h1⟩ := lex_le h1
  obtain ⟨r2, h2⟩ := lex_le h2
  rw [hr] at r2
  have er : d.r = a.r := ba_between r1 r2
  have h1 := h1 (by rw [er]; exact cmpB_self _)
  have h2 := h2 (by rw [hr, er]; exact cmpB_self _)
  obtain ⟨f1, _⟩ := lex_le h1
  obtain ⟨f2, _⟩ := lex_le h2
  rw [hf] at f2
  exact ⟨er.symm, (ba_between f1 f2).symm⟩
theorem cmp_zero_rf {x y : CT} (h : CT.cmp x y = 0) : x.r = y.r ∧ x.f = y.f := by
  have a := ct_c3.anti x y
  have h0 := ct_c3.zero x
  have := rf_between (d := x) (a := y) (c := x) rfl rfl (by omega) (by omega)
  exact ⟨this.1.symm, this.2.symm⟩
theorem famP_place (R F : ByteArray) (x y : CT) (h : CT.cmp x y = 0) : famP R F x = famP R F y := by
  obtain ⟨e1, e2⟩ := cmp_zero_rf h
  unfold famP
  rw [e1, e2]
theorem part_go (R F : ByteArray) (ver life now : Int) : ∀ (m : List CT) (g h : SG), m.Pairwise (fun x y => CT.cmp x y < 0) →
    ((g = h ∧ (famP R F g.at' = true → ∀ c ∈ m, CT.cmp g.at' c < 0)) ∨ (famP R F g.at' = false ∧ famP R F h.at' = false) ∨ (∀ c ∈ m, famP R F c = false)) →
    (seenF ver life now g m).filter (famP R F) = seenF ver life now h (m.filter (famP R F))
  | [], _, _, _, _ => rfl
  | c :: m, g, h, hp, hI => by
    obtain ⟨hc, hp'⟩ := List.pairwise_cons.1 hp
    have ha := (lets_seen g c ver life now).1
    have hL : seenF ver life now g (c :: m) = (if (g.lets c ver life now).2 = true then c :: seenF ver life now (g.lets c ver life now).1 m else seenF ver life now (g.lets c ver life now).1 m) := rfl
    cases hP : famP R F c with
    | false =>
      have hR : (c :: m).filter (famP R F) = m.filter (famP R F) := by rw [List.filter_cons, hP]; rfl
      have hL2 : (seenF ver life now g (c :: m)).filter (famP R F) = (seenF ver life now (g.lets c ver life now).1 m).filter (famP R F) := by
        rw [hL]
        split
        · rw [List.filter_cons, hP]; rfl
        · rfl
      rw [hR, hL2]
      refine part_go R F ver life now m _ h hp' ?_
      rcases hI with ⟨rfl, hI⟩ | ⟨_, hI⟩ | hI
      · cases hg : famP R F g.at' with
        | false => exact .inr (.inl ⟨by rw [ha]; exact hP, rfl⟩)
        | true =>
          refine .inr (.inr fun d hd => ?_)
          cases hPd : famP R F d with
          | false => rfl
          | true =>
            obtain ⟨g1, g2⟩ := fam_iff.1 hg
            obtain ⟨d1, d2⟩ := fam_iff.1 hPd
            have := rf_between (d := g.at') (a := c) (c := d) (d1.trans g1.symm) (d2.trans g2.symm) (Int.le_of_lt (hI hg c List.mem_cons_self)) (Int.le_of_lt (hc d hd))
            rw [fam_iff.2 ⟨this.1.trans g1, this.2.trans g2⟩] at hP
            cases hP
      · exact .inr (.inl ⟨by rw [ha]; exact hP, hI⟩)
      · exact .inr (.inr fun d hd => hI d (List.mem_cons_of_mem _ hd))
    | true =>
      have hm : g.move c = h.move c ∨ False := by
        rcases hI with ⟨rfl, _⟩ | ⟨h1, h2⟩ | hI
        · exact .inl rfl
        · left
          have out : ∀ k : SG, famP R F k.at' = false → k.move c = ⟨c, -1, false, -1, 0⟩ := fun k hk => by
            unfold SG.move
            rw [if_pos]
            false_or_by_contra
            rename_i q
            have q1 : c.r = k.at'.r := by false_or_by_contra; rename_i e; exact q (.inl e)
            have q2 : c.f = k.at'.f := by false_or_by_contra; rename_i e; exact q (.inr e)
            obtain ⟨c1, c2⟩ := fam_iff.1 hP
            rw [fam_iff.2 ⟨q1.symm.trans c1, q2.symm.trans c2⟩] at hk
            cases hk
          rw [out g h1, out h h2]
        · rw [hI c List.mem_cons_self] at hP; cases hP
      have hm : g.move c = h.move c := by
        rcases hm with h | h
        · exact h
        · cases h
      have hl : g.lets c ver life now = h.lets c ver life now := by unfold SG.lets; rw [hm]
      have hR : (c :: m).filter (famP R F) = c :: m.filter (famP R F) := by rw [List.filter_cons, if_pos hP]
      have hn := part_go R F ver life now m (h.lets c ver life now).1 (h.lets c ver life now).1 hp' (.inl ⟨rfl, fun _ d hd => by rw [(lets_seen h c ver life now).1]; exact hc d hd⟩)
      rw [hR, hL, hl]
      show _ = (if (h.lets c ver life now).2 = true then c :: seenF ver life now (h.lets c ver life now).1 (m.filter (famP R F)) else seenF ver life now (h.lets c ver life now).1 (m.filter (famP R F)))
      split
      · rw [List.filter_cons, if_pos hP, hn]
      · exact hn
theorem ok_row {c : CT} (h : c.ok = true) : c.r ≠ ⟨#[]⟩ := fun e => by
  unfold CT.ok at h
  rw [e] at h
  simp [cRight, cHead] at h
/-- Of one family alone the same is let as among all. -/
theorem part_all {l s t : List CT} (R F : ByteArray) (h : SortOf l s) (h2 : SortOf (l.filter (famP R F)) t) (ver life now : Int) : seenL ver life now t = (seenL ver life now s).filter (famP R F) := by
  rw [h.part (famP_place R F) h2]
  unfold seenL
  split
  · refine (part_go R F ver life now s SG.zero SG.zero h.rise ?_).symm
    cases hz : famP R F SG.zero.at' with
    | false => exact .inr (.inl ⟨rfl, rfl⟩)
    | true =>
      refine .inr (.inr fun c hc => ?_)
      cases hP : famP R F c with
      | false => rfl
      | true =>
        obtain ⟨z1, _⟩ := fam_iff.1 hz
        obtain ⟨c1, _⟩ := fam_iff.1 hP
        exact absurd (c1.trans z1.symm) (ok_row (h.mem hc).2)
  · rfl
end Go.Proofs.YtpjkhholpbfbpaaDoor
