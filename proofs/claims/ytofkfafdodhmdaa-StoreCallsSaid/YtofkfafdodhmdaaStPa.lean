/- Calls on a disk, and what each leaves. Conditions: the disk stands and is good behind at most a thousand calls; names of at most a thousand bytes. -/
import Derived.Test.YtofkfafdodhmdaaStO
namespace Go.Proofs.Ytofkfafdodhmdaa
open Go.RowKit

/-- A call: what, on which names, with which bytes and number. -/
structure Cl where
  wh : Int
  nm : ByteArray
  tg : ByteArray
  dv : Value
  d : List UInt8
  n : Int
def Cl.e (c : Cl) : List Value := [.int .i64 c.wh, .string c.nm, .string c.tg, c.dv, .int .i64 c.n]
def Cl.v (c : Cl) : Value := .agg c.e.toArray
structure Cl.ok (c : Cl) : Prop where
  nm : c.nm.size ≤ 1000
  tg : c.tg.size ≤ 1000
  n1 : -9223372036854775808 ≤ c.n
  n2 : c.n < 9223372036854775808
/-- What a call did. -/
def Did (c : Cl) (q z : Int) (fs : List Fl) (u : Nat) (fs' : List Fl) (u' : Nat) : Prop :=
  (c.wh = 0 ∧ q = 0 ∧ rightB c.nm = true ∧ (sizeF fs : Int) + (c.d.length : Int) ≤ z ∧ viewF fs' = wrV c.nm c.d u (viewF fs) ∧ u' = u + c.d.length) ∨
  (c.wh = 0 ∧ ((q = 10 ∧ rightB c.nm = false) ∨ (q = 21 ∧ rightB c.nm = true ∧ z < (sizeF fs : Int) + (c.d.length : Int))) ∧ fs' = fs ∧ u' = u) ∨
  (c.wh = 1 ∧ u' = u ∧ ((q = 0 ∧ (∃ f, getV c.nm (viewF fs) = some f) ∧ viewF fs' = updV c.nm Fv.sync (viewF fs)) ∨ (q = 12 ∧ getV c.nm (viewF fs) = none ∧ fs' = fs))) ∨
  (c.wh = 2 ∧ u' = u ∧ ((q = 0 ∧ (∃ f, getV c.nm (viewF fs) = some f) ∧ viewF fs' = dropV c.nm (viewF fs)) ∨ (q = 12 ∧ getV c.nm (viewF fs) = none ∧ fs' = fs))) ∨
  (c.wh = 3 ∧ u' = u ∧ ((q = 0 ∧ rightB c.tg = true ∧ ∃ f, getV c.nm (viewF fs) = some f ∧ viewF fs' = insV (f.call c.tg) (dropV c.tg (dropV c.nm (viewF fs)))) ∨ (q = 10 ∧ rightB c.tg = false ∧ fs' = fs) ∨ (q = 12 ∧ rightB c.tg = true ∧ getV c.nm (viewF fs) = none ∧ fs' = fs))) ∨
  (c.wh = 4 ∧ q = 0 ∧ u' = u ∧ ∃ l : List Pc, l.Perm (allP fs) ∧ l.Pairwise (fun x y => x.2.1 ≤ y.2.1) ∧ fs' = ((fs.map (mF l c.n)).filter keepB).map cutF) ∨
  ((c.wh < 0 ∨ 4 < c.wh) ∧ q = 0 ∧ fs' = fs ∧ u' = u)
/-- What a call leaves. -/
structure DoE (w w' : World) (B db mb : Nat) (z : Int) (i : Nat) (c : Cl) (q : Int) (fs : List Fl) (u : Nat) (fs' : List Fl) (u' : Nat) : Prop where
  did : Did c q z fs u fs' u'
  dk : DkAt w' B db mb fs' z (u' : Int)
  good : GoodV (viewF fs') z u' (i + 1)
  ch : Chg (Ft db mb fs) w w'
  sub : ∀ k, Ft db mb fs' k → Ft db mb fs k ∨ w.heap.size ≤ k
theorem DoE.lift {w W w' : World} {B db mb : Nat} {z : Int} {i : Nat} {c : Cl} {q : Int} {fs fs' : List Fl} {u u' : Nat} (h : DoE W w' B db mb z i c q fs u fs' u') (hb : Below w.heap.size w W) : DoE w w' B db mb z i c q fs u fs' u' :=
  ⟨h.did, h.dk, h.good, (Chg.of_below (Ft db mb fs) hb).trans h.ch fun _ q => .inl q, fun k q => (h.sub k q).imp id fun r => Nat.le_trans hb.size r⟩
theorem doe_same {w w' : World} {B db mb : Nat} {z : Int} {i : Nat} {c : Cl} {q : Int} {fs : List Fl} {u : Nat} (h : DkAt w B db mb fs z (u : Int)) (hg : GoodV (viewF fs) z u i) (hb : Below w.heap.size w w') (hd : Did c q z fs u fs u) : DoE w w' B db mb z i c q fs u fs u :=
  ⟨hd, h.below hb, hg.more, Chg.of_below _ hb, fun _ q => .inl q⟩
theorem good_fs {fs : List Fl} {z : Int} {u i : Nat} (h : GoodV (viewF fs) z u i) (hi : i ≤ 1000) (hz : z ≤ 16777216) :
    u ≤ 1000000000000 ∧ sizeF fs ≤ 16777216 ∧ (sizeF fs : Int) ≤ z ∧ fs.length ≤ 1000 ∧ sumQ (fun f => f.l.length) fs ≤ 1000 ∧ (∀ f ∈ fs, f.n.size ≤ 16 ∧ f.m + sumR f.l = f.d.length ∧ f.m ≤ f.d.length ∧ f.d.length ≤ 16777216 ∧ f.l.length ≤ 1000 ∧ ∀ r ∈ f.l, r.1 + r.2 ≤ 1000000000000) ∧ Ris fs := by
  have hu : u ≤ 1000000000000 := by
    have h1 := h.ub
    have h2 : i * 16777216 ≤ 1000 * 16777216 := Nat.mul_le_mul_right _ hi
    omega
  have hs := h.sz
  rw [view_size] at hs
  have hl := h.len
  rw [show (viewF fs).length = fs.length from List.length_map _] at hl
  have hr := h.rn
  rw [view_runs] at hr
  refine ⟨hu, by omega, hs, by omega, by omega, fun f hf => ?_, List.pairwise_map.1 h.ri⟩
  have hF := h.fl f.v (List.mem_map_of_mem hf)
  have hnm : f.n.size ≤ 16 := by
    have := hF.nm
    unfold rightB at this
    rw [Bool.and_eq_true, decide_eq_true_iff, decide_eq_true_iff] at this
    exact this.2
  have hok : f.m + sumR f.l = f.d.length := hF.ok
  have hd := sizeF_le hf
  have hll : f.l.length ≤ sumQ (fun f => f.l.length) fs := by
    obtain ⟨A, C, rfl⟩ := List.append_of_mem hf
    unfold sumQ
    rw [List.map_append, List.map_cons, List.sum_append_nat, List.sum_cons]
    omega
  exact ⟨hnm, hok, by omega, by omega, by omega, fun r hr => Nat.le_trans (hF.rb r hr) hu⟩

theorem write_do {w : World} {B db mb : Nat} {z : Int} {i : Nat} (c : Cl) (hc : c.ok) (hwh : c.wh = 0) {fs : List Fl} {u : Nat} (h : DkAt w B db mb fs z (u : Int)) (hg : GoodV (viewF fs) z u i) (hi : i ≤ 1000) (hz : 0 ≤ z ∧ z ≤ 16777216) (hd : SlA w c.dv c.d) :
    Calls Try.prog 30 #[.pointer (some ⟨db, 0, none⟩), .string c.nm, c.dv] w fun e w' => ∃ q fs' u', e = .returned (.int .i64 q) ∧ DoE w w' B db mb z i c q fs u fs' u' := by
  obtain ⟨g1, g2, g3, g4, g5, g6, _⟩ := good_fs hg hi hz.2
  have hnm : c.nm.size ≤ maxLen := by have := hc.nm; unfold maxLen; omega
  cases hr : rightB c.nm with
  | false =>
    refine (write_form db c.nm c.dv hnm hr w).mono ?_
    rintro e w' ⟨rfl, hb⟩
    exact ⟨10, fs, u, rfl, doe_same h hg hb (.inr (.inl ⟨hwh, .inl ⟨rfl, hr⟩, rfl, rfl⟩))⟩
  | true =>
    by_cases hq : (sizeF fs : Int) + (c.d.length : Int) ≤ z
    · refine (write_ok h c.nm c.dv c.d hc.nm hr hd hz hq g1 (fun f hf => ⟨by have := (g6 f hf).2.2.2.2.1; omega, (g6 f hf).2.2.2.2.2⟩) (by omega)).mono ?_
      rintro e w' ⟨rfl, fs', h1, h2, h3, h4⟩
      refine ⟨0, fs', u + c.d.length, rfl, .inl ⟨hwh, rfl, hr, hq, h2, rfl⟩, h1, ?_, h3, h4⟩
      rw [h2]
      exact good_write hg c.nm hr c.d (by rw [view_size]; exact hq) hz.2
    · obtain ⟨A, c0, e0, _⟩ := hd
      rw [e0]
      refine (write_full h c.nm A c.d.length c0 hnm hr hz g3 (by omega)).mono ?_
      rintro e w' ⟨rfl, hb⟩
      exact ⟨21, fs, u, rfl, doe_same h hg hb (.inr (.inl ⟨hwh, .inr ⟨rfl, hr, by omega⟩, rfl, rfl⟩))⟩
theorem sync_do {w : World} {B db mb : Nat} {z : Int} {i : Nat} (c : Cl) (hc : c.ok) (hwh : c.wh = 1) {fs : List Fl} {u : Nat} (h : DkAt w B db mb fs z (u : Int)) (hg : GoodV (viewF fs) z u i) :
    Calls Try.prog 31 #[.pointer (some ⟨db, 0, none⟩), .string c.nm] w fun e w' => ∃ q fs' u', e = .returned (.int .i64 q) ∧ DoE w w' B db mb z i c q fs u fs' u' := by
  have hnm : c.nm.size ≤ maxLen := by have := hc.nm; unfold maxLen; omega
  rcases part c.nm h.ri with ⟨A, f, C, rfl, e⟩ | ⟨A, C, rfl, hA, hC⟩
  · rw [← e] at hnm ⊢
    refine (sync_some h hnm).mono ?_
    rintro e1 w' ⟨rfl, h1, h2⟩
    have hv : viewF (A ++ f.sync :: C) = updV c.nm Fv.sync (viewF (A ++ f :: C)) := by rw [← e]; exact view_upd h.ri rfl
    have hs : sizeF (A ++ f.sync :: C) = sizeF (A ++ f :: C) := by rw [sizeF_mid, sizeF_mid]; rfl
    refine ⟨0, A ++ f.sync :: C, u, rfl, .inr (.inr (.inl ⟨hwh, rfl, .inl ⟨rfl, ⟨f.v, by rw [← e]; exact get_some h.ri⟩, hv⟩⟩)), ?_, by rw [hv]; exact good_sync hg c.nm, h2.mono fun k q => ft_mid.2 (.inr q), fun k q => ?_⟩
    · show Dk w' B db mb _ z ((sizeF (A ++ f.sync :: C) : Nat) : Int) _
      rw [hs]; exact h1
    · rcases ft_mid.1 q with r | r
      · exact .inl (ft_mid.2 (.inl r))
      · refine .inl (ft_mid.2 (.inr ?_))
        rcases r with r | r | r
        · exact .inl r
        · exact .inr (.inl r)
        · cases r
  · refine (sync_none h c.nm (not_in hA hC) hnm).mono ?_
    rintro e1 w' ⟨rfl, hb⟩
    exact ⟨12, _, u, rfl, doe_same h hg hb (.inr (.inr (.inl ⟨hwh, rfl, .inr ⟨rfl, get_none (not_in hA hC), rfl⟩⟩)))⟩
theorem remove_do {w : World} {B db mb : Nat} {z : Int} {i : Nat} (c : Cl) (hc : c.ok) (hwh : c.wh = 2) {fs : List Fl} {u : Nat} (h : DkAt w B db mb fs z (u : Int)) (hg : GoodV (viewF fs) z u i) (hi : i ≤ 1000) (hz : 0 ≤ z ∧ z ≤ 16777216) :
    Calls Try.prog 32 #[.pointer (some ⟨db, 0, none⟩), .string c.nm] w fun e w' => ∃ q fs' u', e = .returned (.int .i64 q) ∧ DoE w w' B db mb z i c q fs u fs' u' := by
  obtain ⟨g1, g2, g3, g4, g5, g6, _⟩ := good_fs hg hi hz.2
  have hnm : c.nm.size ≤ maxLen := by have := hc.nm; unfold maxLen; omega
  rcases part c.nm h.ri with ⟨A, f, C, rfl, e⟩ | ⟨A, C, rfl, hA, hC⟩
  · rw [← e] at hnm ⊢
    have hsz := sizeF_mid A C f
    refine (remove_some h hnm (by omega) g2).mono ?_
    rintro e1 w' ⟨rfl, h1, h2⟩
    have hv : viewF (A ++ C) = dropV c.nm (viewF (A ++ f :: C)) := by rw [← e, ← drop_some h.ri, view_drop]
    refine ⟨0, A ++ C, u, rfl, .inr (.inr (.inr (.inl ⟨hwh, rfl, .inl ⟨rfl, ⟨f.v, by rw [← e]; exact get_some h.ri⟩, hv⟩⟩))), ?_, by rw [hv]; exact (good_drop hg c.nm).more, h2, fun k q => .inl (ft_mid.2 (.inl q))⟩
    show Dk w' B db mb _ z ((sizeF (A ++ C) : Nat) : Int) _
    rw [show sizeF (A ++ C) = sizeF (A ++ f :: C) - f.d.length by omega]
    exact h1
  · refine (remove_none h c.nm (not_in hA hC) hnm).mono ?_
    rintro e1 w' ⟨rfl, hb⟩
    exact ⟨12, _, u, rfl, doe_same h hg hb (.inr (.inr (.inr (.inl ⟨hwh, rfl, .inr ⟨rfl, get_none (not_in hA hC), rfl⟩⟩))))⟩
theorem rename_do {w : World} {B db mb : Nat} {z : Int} {i : Nat} (c : Cl) (hc : c.ok) (hwh : c.wh = 3) {fs : List Fl} {u : Nat} (h : DkAt w B db mb fs z (u : Int)) (hg : GoodV (viewF fs) z u i) (hi : i ≤ 1000) (hz : 0 ≤ z ∧ z ≤ 16777216) :
    Calls Try.prog 33 #[.pointer (some ⟨db, 0, none⟩), .string c.nm, .string c.tg] w fun e w' => ∃ q fs' u', e = .returned (.int .i64 q) ∧ DoE w w' B db mb z i c q fs u fs' u' := by
  obtain ⟨g1, g2, g3, g4, g5, g6, _⟩ := good_fs hg hi hz.2
  have hnm : c.nm.size ≤ maxLen := by have := hc.nm; unfold maxLen; omega
  have hto : c.tg.size ≤ maxLen := by have := hc.tg; unfold maxLen; omega
  cases hr : rightB c.tg with
  | false =>
    refine (rename_form db c.nm c.tg hto hr w).mono ?_
    rintro e w' ⟨rfl, hb⟩
    exact ⟨10, fs, u, rfl, doe_same h hg hb (.inr (.inr (.inr (.inr (.inl ⟨hwh, rfl, .inr (.inl ⟨rfl, hr, rfl⟩)⟩)))))⟩
  | true =>
    rcases part c.nm h.ri with ⟨A, f, C, rfl, e⟩ | ⟨A, C, rfl, hA, hC⟩
    · have hs : f.n.size ≤ 281474976710656 := by rw [e]; have := hc.nm; omega
      have ht : c.tg.size ≤ 281474976710656 := by have := hc.tg; omega
      have hR := rename_some h c.tg hs ht hr g2 (by omega)
      rw [e] at hR
      refine hR.mono ?_
      rintro e1 w' ⟨rfl, fs', h1, h2, h3, h4⟩
      have hget : getV c.nm (viewF (A ++ f :: C)) = some f.v := by rw [← e]; exact get_some h.ri
      refine ⟨0, fs', u, rfl, .inr (.inr (.inr (.inr (.inl ⟨hwh, rfl, .inl ⟨rfl, hr, f.v, hget, h2⟩⟩)))), h1, ?_, h3, fun k q => .inl (h4 k q)⟩
      rw [h2]
      exact good_call hg c.nm c.tg hget hr
    · refine (rename_none h c.nm c.tg (not_in hA hC) hnm hto hr).mono ?_
      rintro e1 w' ⟨rfl, hb⟩
      exact ⟨12, _, u, rfl, doe_same h hg hb (.inr (.inr (.inr (.inr (.inl ⟨hwh, rfl, .inr (.inr ⟨rfl, hr, get_none (not_in hA hC), rfl⟩)⟩)))))⟩
theorem crash_do {w : World} {B db mb : Nat} {z : Int} {i : Nat} (c : Cl) (hc : c.ok) (hwh : c.wh = 4) {fs : List Fl} {u : Nat} (h : DkAt w B db mb fs z (u : Int)) (hg : GoodV (viewF fs) z u i) (hi : i ≤ 1000) (hz : 0 ≤ z ∧ z ≤ 16777216) :
    Calls Try.prog 28 #[.pointer (some ⟨db, 0, none⟩), .int .i64 c.n] w fun e w' => e = .returned (.tuple #[]) ∧ ∃ fs' u', DoE w w' B db mb z i c 0 fs u fs' u' := by
  obtain ⟨g1, g2, g3, g4, g5, g6, _⟩ := good_fs hg hi hz.2
  refine (crash_ok h c.n hc.n1 hc.n2 g2 (fun f hf => (g6 f hf).2.1) (by omega) (fun f hf => by have := (g6 f hf).1; unfold maxLen; omega)).mono ?_
  rintro e w' ⟨rfl, l, h1, h2, h3, h4⟩
  refine ⟨rfl, _, u, .inr (.inr (.inr (.inr (.inr (.inl ⟨hwh, rfl, rfl, l, h1, h2, rfl⟩))))), h3, good_crash hg h1 h.ap c.n, h4, fun k q => .inl ?_⟩
  rcases q with q | q | ⟨g, hg2, q⟩
  · exact .inl q
  · exact .inr (.inl q)
  · obtain ⟨f, hf, rfl⟩ := List.mem_map.1 hg2
    obtain ⟨f0, hf0, rfl⟩ := List.mem_map.1 (List.mem_filter.1 hf).1
    exact .inr (.inr ⟨f0, hf0, (cut_has q : (mF l c.n f0).has k)⟩)
end Go.Proofs.Ytofkfafdodhmdaa
