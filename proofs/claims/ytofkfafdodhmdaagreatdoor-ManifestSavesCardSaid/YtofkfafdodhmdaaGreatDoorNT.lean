/- Several texts in one: MfYa MfYb. Conditions: as each theorem names them. -/
import Derived.Test.YtofkfafdodhmdaaGreatDoorOH
import Derived.Test.YtofkfafdodhmdaaGreatDoorNN
import Derived.Test.YtofkfafdodhmdaaGreatDoorNP
/- The document's disk, call by call, as functions of its files by name. Conditions: the disk stands and is good behind at most a thousand calls; it has at most 90000 bytes. -/
namespace Go.Proofs.YtofkfafdodhmdaaGreatDoor
open Go.RowKit

/-- The document's disk with what it is by names; F: its blocks. -/
structure Rd9 (w : World) (B rb : Nat) (z : Int) (i : Nat) (F : Nat → Prop) (p : PV) : Prop where
  ex : ∃ fv lv ms ps lt nx, RdG w B rb fv lv ms ps lt z p.2 nx ∧ ps.map Prod.fst = p.1 ∧ F = Rt rb fv lv ms ∧ nx ≤ i
  good : GoodV p.1 z p.2 i
/-- What of memory a call on it may turn. -/
structure Mr (w w1 : World) (F F1 : Nat → Prop) : Prop where
  ch : Chg F w w1
  sub : ∀ k, F1 k → F k ∨ w.heap.size ≤ k
theorem Mr.trans {w w1 w2 : World} {F F1 F2 : Nat → Prop} (h : Mr w w1 F F1) (k : Mr w1 w2 F1 F2) : Mr w w2 F F2 :=
  ⟨h.ch.trans k.ch h.sub, fun j q => (k.sub j q).elim (h.sub j) fun r => .inr (Nat.le_trans h.ch.size r)⟩
theorem Mr.of_below {w w1 : World} {F : Nat → Prop} (h : Below w.heap.size w w1) : Mr w w1 F F := ⟨Chg.of_below _ h, fun _ q => .inl q⟩
theorem Mr.lift {w w1 w2 : World} {F F1 : Nat → Prop} (h : Mr w1 w2 F F1) (k : Below w.heap.size w w1) : Mr w w2 F F1 := (Mr.of_below k).trans h
theorem SlA.mr {w w1 : World} {v : Value} {l : List UInt8} {F F1 : Nat → Prop} (h : SlA w v l) (hc : Mr w w1 F F1) (hs : ∀ g, v.ownBlock = some g → ¬ F g) : SlA w1 v l := h.chg hc.ch hs
theorem Rd9.below {w w1 : World} {B rb i : Nat} {z : Int} {F : Nat → Prop} {p : PV} (h : Rd9 w B rb z i F p) (hb : Below w.heap.size w w1) : Rd9 w1 B rb z i F p := by
  obtain ⟨fv, lv, ms, ps, lt, nx, h1, h2, h3, h4⟩ := h.ex
  exact ⟨⟨fv, lv, ms, ps, lt, nx, h1.below hb, h2, h3, h4⟩, h.good⟩
theorem Rd9.upto {w : World} {B rb i j : Nat} {z : Int} {F : Nat → Prop} {p : PV} (h : Rd9 w B rb z i F p) (hij : i ≤ j) : Rd9 w B rb z j F p := by
  obtain ⟨fv, lv, ms, ps, lt, nx, h1, h2, h3, h4⟩ := h.ex
  exact ⟨⟨fv, lv, ms, ps, lt, nx, h1, h2, h3, by omega⟩, h.good.upto hij⟩
theorem Rd9.chg {w w1 : World} {B rb i : Nat} {z : Int} {F S : Nat → Prop} {p : PV} (h : Rd9 w B rb z i F p) (hc : Chg S w w1) (hs : ∀ k, F k → ¬ S k) : Rd9 w1 B rb z i F p := by
  obtain ⟨fv, lv, ms, ps, lt, nx, h1, h2, h3, h4⟩ := h.ex
  exact ⟨⟨fv, lv, ms, ps, lt, nx, h1.chg hc fun k q => hs k (h3 ▸ q), h2, h3, h4⟩, h.good⟩
theorem Rd9.lt {w : World} {B rb i : Nat} {z : Int} {F : Nat → Prop} {p : PV} (h : Rd9 w B rb z i F p) {k : Nat} (hk : F k) : B ≤ k ∧ k < w.heap.size := by
  obtain ⟨fv, lv, ms, ps, lt, nx, h1, h2, h3, h4⟩ := h.ex
  exact h1.rk.rt (h3 ▸ hk)
theorem Rd9.ptr {w : World} {B rb i : Nat} {z : Int} {F : Nat → Prop} {p : PV} (h : Rd9 w B rb z i F p) : F rb := by
  obtain ⟨fv, lv, ms, ps, lt, nx, h1, h2, h3, h4⟩ := h.ex
  rw [h3]
  exact .inl rfl

theorem rdid_write {x tg : ByteArray} {dv : Value} {b : List UInt8} {n q z : Int} {vs vs1 : Vs} {u u1 : Nat} (h : RDid ⟨0, x, tg, dv, b, n⟩ q z vs u vs1 u1) : (q, (vs1, u1)) = pWrite x b z (vs, u) := by
  unfold pWrite
  rcases h with ⟨_, rfl, h1, h2, rfl, rfl⟩ | ⟨_, h1, rfl, rfl⟩ | ⟨h0, _⟩ | ⟨h0, _⟩ | ⟨h0, _⟩
  · rw [if_pos h1, if_pos h2]
  · rcases h1 with ⟨rfl, h2⟩ | ⟨rfl, h2, h3⟩
    · dsimp only at h2
      rw [if_neg (by rw [h2]; decide)]
    · dsimp only at h2 h3
      rw [if_pos h2, if_neg (by show ¬ _; dsimp only; omega)]
  all_goals (dsimp only at h0; omega)
theorem rdid_sync {x tg : ByteArray} {dv : Value} {b : List UInt8} {n q z : Int} {vs vs1 : Vs} {u u1 : Nat} (h : RDid ⟨1, x, tg, dv, b, n⟩ q z vs u vs1 u1) : (q, (vs1, u1)) = pSync x (vs, u) := by
  unfold pSync
  rcases h with ⟨h0, _⟩ | ⟨h0, _⟩ | ⟨_, rfl, h1⟩ | ⟨h0, _⟩ | ⟨h0, _⟩
  rotate_left 2
  · rcases h1 with ⟨rfl, ⟨f, h2⟩, rfl⟩ | ⟨rfl, h2, rfl⟩
    · dsimp only at h2
      rw [show getV x ((vs, u1) : PV).1 = some f from h2]
    · dsimp only at h2
      rw [show getV x ((vs1, u1) : PV).1 = none from h2]
  all_goals (dsimp only at h0; omega)
theorem rdid_rem {x tg : ByteArray} {dv : Value} {b : List UInt8} {n q z : Int} {vs vs1 : Vs} {u u1 : Nat} (h : RDid ⟨2, x, tg, dv, b, n⟩ q z vs u vs1 u1) : (q, (vs1, u1)) = pRem x (vs, u) := by
  unfold pRem
  rcases h with ⟨h0, _⟩ | ⟨h0, _⟩ | ⟨h0, _⟩ | ⟨_, rfl, h1⟩ | ⟨h0, _⟩
  rotate_left 3
  · rcases h1 with ⟨rfl, ⟨f, h2⟩, rfl⟩ | ⟨rfl, h2, rfl⟩
    · dsimp only at h2
      rw [show getV x ((vs, u1) : PV).1 = some f from h2]
    · dsimp only at h2
      rw [show getV x ((vs1, u1) : PV).1 = none from h2]
  all_goals (dsimp only at h0; omega)
theorem rdid_ren {x y : ByteArray} {dv : Value} {b : List UInt8} {n q z : Int} {vs vs1 : Vs} {u u1 : Nat} (h : RDid ⟨3, x, y, dv, b, n⟩ q z vs u vs1 u1) : (q, (vs1, u1)) = pRen x y (vs, u) := by
  unfold pRen
  rcases h with ⟨h0, _⟩ | ⟨h0, _⟩ | ⟨h0, _⟩ | ⟨h0, _⟩ | ⟨_, rfl, h1⟩
  rotate_left 4
  · rcases h1 with ⟨rfl, h4, f, h2, rfl⟩ | ⟨rfl, h4, rfl⟩ | ⟨rfl, h4, h2, rfl⟩
    · dsimp only at h2 h4
      rw [if_pos h4, show getV x ((vs, u1) : PV).1 = some f from h2]
    · dsimp only at h4
      rw [if_neg (by rw [h4]; decide)]
    · dsimp only at h2 h4
      rw [if_pos h4, show getV x ((vs1, u1) : PV).1 = none from h2]
  all_goals (dsimp only at h0; omega)
theorem good_pw {x : ByteArray} {b : List UInt8} {z : Int} {p : PV} {i : Nat} (h : GoodV p.1 z p.2 i) (hz : z ≤ 16777216) : GoodV (pWrite x b z p).2.1 z (pWrite x b z p).2.2 (i + 1) := by
  unfold pWrite
  by_cases h1 : rightB x = true
  · rw [if_pos h1]
    by_cases h2 : (sizeV p.1 : Int) + (b.length : Int) ≤ z
    · rw [if_pos h2]
      exact good_write h x h1 b h2 hz
    · rw [if_neg h2]
      exact h.upto (Nat.le_succ _)
  · rw [if_neg h1]
    exact h.upto (Nat.le_succ _)
theorem good_ps {x : ByteArray} {z : Int} {p : PV} {i : Nat} (h : GoodV p.1 z p.2 i) : GoodV (pSync x p).2.1 z (pSync x p).2.2 (i + 1) := by
  unfold pSync
  cases getV x p.1 with
  | none => exact h.upto (Nat.le_succ _)
  | some f => exact good_sync h x
theorem good_pr {x : ByteArray} {z : Int} {p : PV} {i : Nat} (h : GoodV p.1 z p.2 i) : GoodV (pRem x p).2.1 z (pRem x p).2.2 (i + 1) := by
  unfold pRem
  cases getV x p.1 with
  | none => exact h.upto (Nat.le_succ _)
  | some f => exact (good_drop h x).upto (Nat.le_succ _)
theorem good_pn {x y : ByteArray} {z : Int} {p : PV} {i : Nat} (h : GoodV p.1 z p.2 i) : GoodV (pRen x y p).2.1 z (pRen x y p).2.2 (i + 1) := by
  unfold pRen
  by_cases h1 : rightB y = true
  · rw [if_pos h1]
    cases hg : getV x p.1 with
    | none => exact h.upto (Nat.le_succ _)
    | some f => exact good_call h x y hg h1
  · rw [if_neg h1]
    exact h.upto (Nat.le_succ _)
theorem rd_end {w w1 : World} {B rb i : Nat} {z : Int} {fv lv fv1 lv1 : Value} {ms ms1 : List Rm} {c : Cl} {q : Int} {ps ps1 : Ps} {lt1 : List Lz} {u nx u1 nx1 : Nat} (hE : RdE w w1 B rb fv lv ms c q z ps u nx fv1 lv1 ms1 ps1 lt1 u1 nx1) (hn : nx ≤ i) {P : Int × PV} (hP : (q, (ps1.map Prod.fst, u1)) = P) (hg : GoodV P.2.1 z P.2.2 (i + 1)) :
    ∃ F1, Rd9 w1 B rb z (i + 1) F1 P.2 ∧ Mr w w1 (Rt rb fv lv ms) F1 := by
  subst hP
  exact ⟨Rt rb fv1 lv1 ms1, ⟨⟨fv1, lv1, ms1, ps1, lt1, nx1, hE.g, rfl, rfl, by have := hE.nx; omega⟩, hg⟩, hE.ch, hE.sub⟩
section
variable {w : World} {B rb i : Nat} {z : Int} {F : Nat → Prop} {p : PV}
theorem rwrite9 (h : Rd9 w B rb z i F p) (hi : i ≤ 1000) (hz : 0 ≤ z ∧ z ≤ 16777216) (x : ByteArray) (hx : x.size ≤ 1000) (vb : Value) (b : List UInt8) (hb : SlA w vb b) (hvb : 0 < b.length → ∀ k, vb.ownBlock = some k → ¬ F k) (hs : sizeV p.1 + b.length ≤ 90000) :
    Calls Tryz.prog 25 #[.pointer (some ⟨rb, 0, none⟩), .string x, vb] w fun e w1 => e = .returned (.int .i64 (pWrite x b z p).1) ∧ ∃ F1, Rd9 w1 B rb z (i + 1) F1 (pWrite x b z p).2 ∧ Mr w w1 F F1 := by
  obtain ⟨fv, lv, ms, ps, lt, nx, h1, h2, h3, h4⟩ := h.ex
  obtain ⟨vs, u⟩ := p
  dsimp only at h1 h2 hs
  subst h2 h3
  refine (rd_write h1 h.good hi ⟨0, x, ⟨#[]⟩, vb, b, 0⟩ ⟨hx, by show (0 : Nat) ≤ _; omega, by show (-9223372036854775808 : Int) ≤ 0; omega, by show (0 : Int) < _; omega⟩ rfl hs hz (by omega) hb hvb).mono ?_
  rintro e w1 ⟨q, fv1, lv1, ms1, ps1, lt1, u1, nx1, rfl, hE⟩
  have hP := rdid_write hE.did
  exact ⟨by rw [← hP], rd_end hE h4 hP (good_pw h.good hz.2)⟩
theorem rsync9 (h : Rd9 w B rb z i F p) (hi : i ≤ 1000) (x : ByteArray) (hx : x.size ≤ 1000) (hs : sizeV p.1 ≤ 90000) :
    Calls Tryz.prog 55 #[.pointer (some ⟨rb, 0, none⟩), .string x] w fun e w1 => e = .returned (.int .i64 (pSync x p).1) ∧ ∃ F1, Rd9 w1 B rb z (i + 1) F1 (pSync x p).2 ∧ Mr w w1 F F1 := by
  obtain ⟨fv, lv, ms, ps, lt, nx, h1, h2, h3, h4⟩ := h.ex
  obtain ⟨vs, u⟩ := p
  dsimp only at h1 h2 hs
  subst h2 h3
  refine (rd_sync h1 h.good hi ⟨1, x, ⟨#[]⟩, .int .i64 0, [], 0⟩ ⟨hx, by show (0 : Nat) ≤ _; omega, by show (-9223372036854775808 : Int) ≤ 0; omega, by show (0 : Int) < _; omega⟩ rfl hs).mono ?_
  rintro e w1 ⟨q, fv1, lv1, ms1, ps1, lt1, u1, nx1, rfl, hE⟩
  have hP := rdid_sync hE.did
  exact ⟨by rw [← hP], rd_end hE h4 hP (good_ps h.good)⟩
theorem rrem9 (h : Rd9 w B rb z i F p) (hi : i ≤ 1000) (x : ByteArray) (hx : x.size ≤ 1000) (hs : sizeV p.1 ≤ 90000) :
    Calls Tryz.prog 88 #[.pointer (some ⟨rb, 0, none⟩), .string x] w fun e w1 => e = .returned (.int .i64 (pRem x p).1) ∧ ∃ F1, Rd9 w1 B rb z (i + 1) F1 (pRem x p).2 ∧ Mr w w1 F F1 := by
  obtain ⟨fv, lv, ms, ps, lt, nx, h1, h2, h3, h4⟩ := h.ex
  obtain ⟨vs, u⟩ := p
  dsimp only at h1 h2 hs
  subst h2 h3
  refine (rd_remove h1 h.good hi ⟨2, x, ⟨#[]⟩, .int .i64 0, [], 0⟩ ⟨hx, by show (0 : Nat) ≤ _; omega, by show (-9223372036854775808 : Int) ≤ 0; omega, by show (0 : Int) < _; omega⟩ rfl hs).mono ?_
  rintro e w1 ⟨q, fv1, lv1, ms1, ps1, lt1, u1, nx1, rfl, hE⟩
  have hP := rdid_rem hE.did
  exact ⟨by rw [← hP], rd_end hE h4 hP (good_pr h.good)⟩
theorem rren9 (h : Rd9 w B rb z i F p) (hi : i ≤ 1000) (x y : ByteArray) (hx : x.size ≤ 1000) (hy : y.size ≤ 1000) (hs : sizeV p.1 ≤ 90000) :
    Calls Tryz.prog 89 #[.pointer (some ⟨rb, 0, none⟩), .string x, .string y] w fun e w1 => e = .returned (.int .i64 (pRen x y p).1) ∧ ∃ F1, Rd9 w1 B rb z (i + 1) F1 (pRen x y p).2 ∧ Mr w w1 F F1 := by
  obtain ⟨fv, lv, ms, ps, lt, nx, h1, h2, h3, h4⟩ := h.ex
  obtain ⟨vs, u⟩ := p
  dsimp only at h1 h2 hs
  subst h2 h3
  refine (rd_rename h1 h.good hi ⟨3, x, y, .int .i64 0, [], 0⟩ ⟨hx, hy, by show (-9223372036854775808 : Int) ≤ 0; omega, by show (0 : Int) < _; omega⟩ rfl hs).mono ?_
  rintro e w1 ⟨q, fv1, lv1, ms1, ps1, lt1, u1, nx1, rfl, hE⟩
  have hP := rdid_ren hE.did
  exact ⟨by rw [← hP], rd_end hE h4 hP (good_pn h.good)⟩
theorem rread9m (h : Rd9 w B rb z i F p) (hi : i ≤ 1000) (hs : sizeV p.1 ≤ 90000) :
    Calls Tryz.prog 31 #[.pointer (some ⟨rb, 0, none⟩), .string mN] w fun e w1 => ∃ v o, e = .returned (.tuple #[v, .bool o]) ∧ Row w1 w.heap.size v (rdM p) ∧ Below w.heap.size w w1 := by
  obtain ⟨fv, lv, ms, ps, lt, nx, h1, h2, h3, h4⟩ := h.ex
  obtain ⟨vs, u⟩ := p
  dsimp only at h1 h2 hs
  subst h2 h3
  refine (rd_read h1 h.good hi hs mN (by unfold maxLen; decide)).mono ?_
  rintro e w1 ⟨v, rfl, h5, h6⟩
  exact ⟨v, _, rfl, h5, h6⟩
theorem rnames9 (h : Rd9 w B rb z i F p) (hi : i ≤ 1000) (hs : sizeV p.1 ≤ 90000) :
    Calls Tryz.prog 34 #[.pointer (some ⟨rb, 0, none⟩)] w fun e w1 => ∃ v, e = .returned v ∧ SRowS w1 w.heap.size v (p.1.map Fv.n) ∧ Below w.heap.size w w1 := by
  obtain ⟨fv, lv, ms, ps, lt, nx, h1, h2, h3, h4⟩ := h.ex
  obtain ⟨vs, u⟩ := p
  dsimp only at h1 h2 hs
  subst h2 h3
  exact rd_names h1 h.good hi hs
end
end Go.Proofs.YtofkfafdodhmdaaGreatDoor

/- How great a disk is that has the manifest and the file beside it alone. Conditions: none. -/
namespace Go.Proofs.YtofkfafdodhmdaaGreatDoor
open Go.RowKit

/-- The files are the manifest and the one beside it; how long these are. -/
def Bd (vs : Vs) (a c : Nat) : Prop := ∀ f ∈ vs, (f.n = mN ∧ f.d.length ≤ a) ∨ (f.n = mT ∧ f.d.length ≤ c)
theorem Bd.mono {vs : Vs} {a c a1 c1 : Nat} (h : Bd vs a c) (ha : a ≤ a1) (hc : c ≤ c1) : Bd vs a1 c1 := fun f hf => by
  rcases h f hf with ⟨h1, h2⟩ | ⟨h1, h2⟩
  · exact .inl ⟨h1, by omega⟩
  · exact .inr ⟨h1, by omega⟩
theorem bNN : bef mN mN = false := by kernel_rfl
theorem bTT : bef mT mT = false := by kernel_rfl
theorem bTN : bef mT mN = false := by kernel_rfl
theorem mTn : mT ≠ mN := by decide
theorem rN : rightB mN = true := by kernel_rfl
theorem Bd.size {vs : Vs} {a c : Nat} (h : Bd vs a c) (hr : RisV vs) : sizeV vs ≤ a + c := by
  match vs, h, hr with
  | [], _, _ => exact Nat.zero_le _
  | [f], h, _ =>
    show f.d.length + 0 ≤ _
    rcases h f (by simp) with ⟨_, h1⟩ | ⟨_, h1⟩ <;> omega
  | f :: g :: t, h, hr =>
    obtain ⟨h1, h2⟩ := List.pairwise_cons.1 hr
    obtain ⟨h3, _⟩ := List.pairwise_cons.1 h2
    have hfg : bef f.n g.n = true := h1 g (by simp)
    have hf := h f (by simp)
    have hg := h g (by simp)
    have hgT : g.n = mT := by
      rcases hg with ⟨e2, _⟩ | ⟨e2, _⟩
      · rcases hf with ⟨e1, _⟩ | ⟨e1, _⟩
        · rw [e1, e2, bNN] at hfg; cases hfg
        · rw [e1, e2, bTN] at hfg; cases hfg
      · exact e2
    match t, h, h3 with
    | [], _, _ =>
      show f.d.length + (g.d.length + 0) ≤ _
      have hgc : g.d.length ≤ c := by
        rcases hg with ⟨e2, _⟩ | ⟨_, h2⟩
        · rw [hgT] at e2; exact absurd e2 mTn
        · exact h2
      rcases hf with ⟨_, h1⟩ | ⟨e1, _⟩
      · omega
      · rw [e1, hgT, bTT] at hfg; cases hfg
    | k :: r, h, h3 =>
      have hgk : bef g.n k.n = true := h3 k (by simp)
      rcases h k (by simp) with ⟨e1, _⟩ | ⟨e1, _⟩
      · rw [hgT, e1, bTN] at hgk; cases hgk
      · rw [hgT, e1, bTT] at hgk; cases hgk
theorem get_has {vs : Vs} {x : ByteArray} {g : Fv} (hg : g ∈ vs) (hn : g.n = x) : ∃ f, getV x vs = some f := by
  cases h : getV x vs with
  | some f => exact ⟨f, rfl⟩
  | none =>
    have := List.find?_eq_none.1 h g hg
    simp [hn] at this
theorem wr_mem {x : ByteArray} {b : List UInt8} {u : Nat} {vs : Vs} {g : Fv} (hr : RisV vs) (hg : g ∈ wrV x b u vs) : g ∈ vs ∨ (g.n = x ∧ ((∃ f ∈ vs, f.n = x ∧ g.d = f.d ++ b) ∨ g.d = b)) := by
  unfold wrV at hg
  rcases partV x hr with ⟨A, f, C, rfl, rfl⟩ | ⟨A, C, rfl, hA, hC⟩
  · rw [get_mid hr] at hg
    have hg2 : g ∈ updV f.n (Fv.add b u) (A ++ f :: C) := hg
    rw [upd_mid hr] at hg2
    rcases List.mem_append.1 hg2 with h | h
    · exact .inl (List.mem_append_left _ h)
    · rcases List.mem_cons.1 h with rfl | h
      · exact .inr ⟨add_n f b u, .inl ⟨f, by simp, rfl, add_d f b u⟩⟩
      · exact .inl (List.mem_append_right _ (List.mem_cons_of_mem _ h))
  · rw [get_out hA hC] at hg
    have hg2 : g ∈ insV ((newV x).add b u) (A ++ C) := hg
    have en : ((newV x).add b u).n = x := add_n _ _ _
    rw [ins_split (by rw [en]; exact hA) (by rw [en]; exact hC)] at hg2
    rcases List.mem_append.1 hg2 with h | h
    · exact .inl (List.mem_append_left _ h)
    · rcases List.mem_cons.1 h with rfl | h
      · exact .inr ⟨en, .inr (by rw [add_d]; rfl)⟩
      · exact .inl (List.mem_append_right _ h)
theorem wr_has {x : ByteArray} {b : List UInt8} {u : Nat} {vs : Vs} (hr : RisV vs) : ∃ f, getV x (wrV x b u vs) = some f := by
  unfold wrV
  rcases partV x hr with ⟨A, f, C, rfl, rfl⟩ | ⟨A, C, rfl, hA, hC⟩
  · rw [get_mid hr]
    show ∃ f', getV f.n (updV f.n (Fv.add b u) (A ++ f :: C)) = some f'
    rw [upd_mid hr]
    exact get_has (g := f.add b u) (by simp) (add_n f b u)
  · rw [get_out hA hC]
    have en : ((newV x).add b u).n = x := add_n _ _ _
    show ∃ f', getV x (insV ((newV x).add b u) (A ++ C)) = some f'
    rw [ins_split (by rw [en]; exact hA) (by rw [en]; exact hC)]
    exact get_has (g := (newV x).add b u) (by simp) en
theorem sync_yes {x : ByteArray} {b : List UInt8} {z : Int} {p : PV} (hr : RisV p.1) (h : (pWrite x b z p).1 = 0) : (pSync x (pWrite x b z p).2).1 = 0 := by
  unfold pWrite at h ⊢
  by_cases h1 : rightB x = true
  · rw [if_pos h1] at h ⊢
    by_cases h2 : (sizeV p.1 : Int) + (b.length : Int) ≤ z
    · rw [if_pos h2]
      unfold pSync
      obtain ⟨f, hf⟩ := wr_has (x := x) (b := b) (u := p.2) hr
      show (match getV x (wrV x b p.2 p.1) with
        | some _ => ((0 : Int), (updV x Fv.sync (wrV x b p.2 p.1), p.2 + b.length))
        | none => (12, (wrV x b p.2 p.1, p.2 + b.length))).1 = (0 : Int)
      rw [hf]
    · rw [if_neg h2] at h
      have h3 : (21 : Int) = 0 := h
      omega
  · rw [if_neg h1] at h
    have h3 : (10 : Int) = 0 := h
    omega
/-- What add answers is what its write does. -/
theorem add_ans {x : ByteArray} {b : List UInt8} {z : Int} {p : PV} (hr : RisV p.1) : (pAdd x b z p).1 = (pWrite x b z p).1 := by
  unfold pAdd
  by_cases h : (pWrite x b z p).1 = 0
  · rw [if_pos h, sync_yes hr h, h]
  · rw [if_neg h]
theorem Bd.sync {vs : Vs} {a c : Nat} (h : Bd vs a c) (x : ByteArray) : Bd (updV x Fv.sync vs) a c := fun g hg => by
  obtain ⟨f, hf, e⟩ := List.mem_map.1 hg
  by_cases q : f.n = x
  · rw [if_pos q] at e; subst e; exact h f hf
  · rw [if_neg q] at e; subst e; exact h f hf
theorem Bd.ps {p : PV} {a c : Nat} (h : Bd p.1 a c) (x : ByteArray) : Bd (pSync x p).2.1 a c := by
  unfold pSync
  cases getV x p.1 with
  | none => exact h
  | some f => exact h.sync x
theorem Bd.pwN {p : PV} {a c : Nat} {b : List UInt8} {z : Int} (h : Bd p.1 a c) (hr : RisV p.1) : Bd (pWrite mN b z p).2.1 (a + b.length) c := by
  have h0 := h.mono (Nat.le_add_right a b.length) (Nat.le_refl c)
  unfold pWrite
  rw [if_pos rN]
  by_cases h2 : (sizeV p.1 : Int) + (b.length : Int) ≤ z
  · rw [if_pos h2]
    intro g hg
    rcases wr_mem hr hg with q | ⟨e, ⟨f, hf, e2, e3⟩ | e3⟩
    · exact h0 g q
    · refine .inl ⟨e, ?_⟩
      rw [e3, List.length_append]
      rcases h f hf with ⟨_, h4⟩ | ⟨e4, _⟩
      · omega
      · rw [e2] at e4; exact absurd e4.symm mTn
    · exact .inl ⟨e, by rw [e3]; omega⟩
  · rw [if_neg h2]; exact h0
theorem Bd.pwT {p : PV} {a c : Nat} {b : List UInt8} {z : Int} (h : Bd p.1 a c) (hr : RisV p.1) : Bd (pWrite mT b z p).2.1 a (c + b.length) := by
  have h0 := h.mono (Nat.le_refl a) (Nat.le_add_right c b.length)
  unfold pWrite
  by_cases h1 : rightB mT = true
  · rw [if_pos h1]
    by_cases h2 : (sizeV p.1 : Int) + (b.length : Int) ≤ z
    · rw [if_pos h2]
      intro g hg
      rcases wr_mem hr hg with q | ⟨e, ⟨f, hf, e2, e3⟩ | e3⟩
      · exact h0 g q
      · refine .inr ⟨e, ?_⟩
        rw [e3, List.length_append]
        rcases h f hf with ⟨e4, _⟩ | ⟨_, h4⟩
        · rw [e2] at e4; exact absurd e4 mTn
        · omega
      · exact .inr ⟨e, by rw [e3]; omega⟩
    · rw [if_neg h2]; exact h0
  · rw [if_neg h1]; exact h0
theorem Bd.addN {p : PV} {a c : Nat} {b : List UInt8} {z : Int} (h : Bd p.1 a c) (hr : RisV p.1) : Bd (pAdd mN b z p).2.1 (a + b.length) c := by
  unfold pAdd
  by_cases q : (pWrite mN b z p).1 = 0
  · rw [if_pos q]; exact (h.pwN hr).ps mN
  · rw [if_neg q]; exact h.pwN hr
theorem Bd.addT {p : PV} {a c : Nat} {b : List UInt8} {z : Int} (h : Bd p.1 a c) (hr : RisV p.1) : Bd (pAdd mT b z p).2.1 a (c + b.length) := by
  unfold pAdd
  by_cases q : (pWrite mT b z p).1 = 0
  · rw [if_pos q]; exact (h.pwT hr).ps mT
  · rw [if_neg q]; exact h.pwT hr
theorem Bd.rem {p : PV} {a c : Nat} (h : Bd p.1 a c) : Bd (pRem mT p).2.1 a 0 := by
  unfold pRem
  cases hg : getV mT p.1 with
  | none =>
    intro f hf
    rcases h f hf with ⟨e1, h1⟩ | ⟨e1, _⟩
    · exact .inl ⟨e1, h1⟩
    · obtain ⟨f2, h2⟩ := get_has hf e1
      rw [hg] at h2; cases h2
  | some f0 =>
    intro f hf
    obtain ⟨h1, h2⟩ := drop_sub hf
    rcases h f h1 with q | ⟨e1, _⟩
    · exact .inl q
    · exact absurd e1 h2
theorem Bd.drops {vs : Vs} {a c : Nat} (h : Bd vs a c) : dropV mN (dropV mT vs) = [] := by
  rw [List.eq_nil_iff_forall_not_mem]
  intro f hf
  obtain ⟨h1, h2⟩ := drop_sub hf
  obtain ⟨h3, h4⟩ := drop_sub h1
  rcases h f h3 with ⟨e, _⟩ | ⟨e, _⟩
  · exact h2 e
  · exact h4 e
theorem Bd.ren {p : PV} {a c : Nat} (h : Bd p.1 a c) : Bd (pRen mT mN p).2.1 (max a c) c ∧ ((pRen mT mN p).1 = 0 → Bd (pRen mT mN p).2.1 c 0) := by
  unfold pRen
  rw [if_pos rN]
  cases hg : getV mT p.1 with
  | none => exact ⟨h.mono (Nat.le_max_left _ _) (Nat.le_refl _), fun q => by have h3 : (12 : Int) = 0 := q; omega⟩
  | some f =>
    obtain ⟨h1, h2⟩ := get_mem hg
    have hd : f.d.length ≤ c := by
      rcases h f h1 with ⟨e, _⟩ | ⟨_, q⟩
      · rw [h2] at e; exact absurd e mTn
      · exact q
    have he : insV (f.call mN) (dropV mN (dropV mT p.1)) = [f.call mN] := by rw [h.drops]; rfl
    have hb : Bd [f.call mN] c 0 := fun g hg2 => by
      rw [List.mem_singleton.1 hg2]
      exact .inl ⟨rfl, hd⟩
    refine ⟨?_, fun _ => ?_⟩
    · show Bd (insV (f.call mN) (dropV mN (dropV mT p.1))) _ _
      rw [he]
      exact hb.mono (Nat.le_max_right _ _) (Nat.zero_le _)
    · show Bd (insV (f.call mN) (dropV mN (dropV mT p.1))) _ _
      rw [he]
      exact hb
theorem good_add {x : ByteArray} {b : List UInt8} {z : Int} {p : PV} {i : Nat} (h : GoodV p.1 z p.2 i) (hz : z ≤ 16777216) : GoodV (pAdd x b z p).2.1 z (pAdd x b z p).2.2 (i + 2) := by
  unfold pAdd
  by_cases q : (pWrite x b z p).1 = 0
  · rw [if_pos q]; exact good_ps (good_pw h hz)
  · rw [if_neg q]; exact (good_pw h hz).upto (Nat.le_succ _)
theorem good_repl {b : List UInt8} {z : Int} {p : PV} {i : Nat} (h : GoodV p.1 z p.2 i) (hz : z ≤ 16777216) : GoodV (pRepl b z p).2.1 z (pRepl b z p).2.2 (i + 4) := by
  have h3 : GoodV (pAdd mT b z (pRem mT p).2).2.1 z (pAdd mT b z (pRem mT p).2).2.2 (i + 3) := good_add (good_pr h) hz
  unfold pRepl
  by_cases q : (pAdd mT b z (pRem mT p).2).1 = 0
  · rw [if_pos q]; exact good_pn h3
  · rw [if_neg q]; exact h3.upto (Nat.le_succ _)
theorem Bd.repl {p : PV} {a c i : Nat} {b : List UInt8} {z : Int} (h : Bd p.1 a c) (hg : GoodV p.1 z p.2 i) : Bd (pRepl b z p).2.1 (max a b.length) b.length ∧ ((pRepl b z p).1 = 0 → Bd (pRepl b z p).2.1 b.length 0) := by
  have h2 : Bd (pAdd mT b z (pRem mT p).2).2.1 a b.length := by
    have := (h.rem).addT (b := b) (z := z) (good_pr hg).ri
    rwa [Nat.zero_add] at this
  unfold pRepl
  by_cases q : (pAdd mT b z (pRem mT p).2).1 = 0
  · rw [if_pos q]; exact h2.ren
  · rw [if_neg q]; exact ⟨h2.mono (Nat.le_max_left _ _) (Nat.le_refl _), fun e => absurd e q⟩
theorem Bd.rd {p : PV} {a c : Nat} (h : Bd p.1 a c) : (rdM p).length ≤ a := by
  unfold rdM
  cases hg : getV mN p.1 with
  | none => exact Nat.zero_le _
  | some f =>
    obtain ⟨h1, h2⟩ := get_mem hg
    rcases h f h1 with ⟨_, q⟩ | ⟨e, _⟩
    · exact q
    · rw [h2] at e; exact absurd e.symm mTn
theorem Bd.exact {p : PV} {a c : Nat} (h : Bd p.1 a c) (hr : RisV p.1) : Bd p.1 (rdM p).length c := fun f hf => by
  rcases h f hf with ⟨e, _⟩ | q
  · refine .inl ⟨e, ?_⟩
    unfold rdM
    rcases partV mN hr with ⟨A, f0, C, e1, e2⟩ | ⟨A, C, e1, hA, hC⟩
    · have hr2 := hr
      rw [e1] at hf hr2
      obtain ⟨m1, m2, _⟩ := midV hr2
      have hff : f = f0 := by
        rcases List.mem_append.1 hf with q | q
        · have := m1 f q
          rw [e, e2, bNN] at this; cases this
        · rcases List.mem_cons.1 q with q | q
          · exact q
          · have := m2 f q
            rw [e, e2, bNN] at this; cases this
      have hg : getV mN p.1 = some f0 := by rw [e1, ← e2]; exact get_mid hr2
      rw [hg, hff]
      exact Nat.le_refl _
    · rw [e1] at hf
      rcases List.mem_append.1 hf with q | q
      · have := hA f q
        rw [e, bNN] at this; cases this
      · have := hC f q
        rw [e, bNN] at this; cases this
  · exact .inr q
theorem frame_len9 {s : Sta} (h : s.right = true) : (frameM s.enc).length ≤ 499 := by
  have h1 := enc_len ((Sta.right_iff _).1 h)
  have h2 := numW_len9 s.enc.length (by omega)
  rw [frame_len]
  omega
theorem Bd.save {p : PV} {a c i : Nat} {z : Int} {s : Sta} (h : Bd p.1 a c) (hg : GoodV p.1 z p.2 i) (hz : z ≤ 16777216) (ha : 2546 ≤ a) (hc : 2047 ≤ c) : Bd (pSave s z p).2.1 a c := by
  unfold pSave
  by_cases hr : s.right = true
  · have hf := frame_len9 hr
    rw [if_pos hr]
    cases hrd : readS (rdM p) with
    | none => exact h
    | some q =>
      obtain ⟨x, n⟩ := q
      have hn := readS_le hrd
      show Bd (if 0 < n ∧ s.g ≠ x.g + 1 then ((10 : Int), p) else if 2048 ≤ (rdM p).length then pRepl (frameM s.enc) z p else if n < (rdM p).length then _ else pAdd mN (frameM s.enc) z p).2.1 a c
      by_cases q1 : 0 < n ∧ s.g ≠ x.g + 1
      · rw [if_pos q1]; exact h
      · rw [if_neg q1]
        by_cases q2 : 2048 ≤ (rdM p).length
        · rw [if_pos q2]; exact (h.repl hg).1.mono (by omega) (by omega)
        · rw [if_neg q2]
          have he := h.exact hg.ri
          by_cases q3 : n < (rdM p).length
          · rw [if_pos q3]
            have htl : ((rdM p).take n).length = n := by rw [List.length_take]; omega
            by_cases q4 : (pRepl ((rdM p).take n) z p).1 = 0
            · rw [if_pos q4]
              have h5 := ((h.repl (b := (rdM p).take n) hg).2 q4).addN (b := frameM s.enc) (z := z) (good_repl hg hz).ri
              rw [htl] at h5
              exact h5.mono (by omega) (by omega)
            · rw [if_neg q4]
              exact (he.repl (b := (rdM p).take n) hg).1.mono (by rw [htl]; omega) (by rw [htl]; omega)
          · rw [if_neg q3]
            exact (he.addN (b := frameM s.enc) (z := z) hg.ri).mono (by omega) (by omega)
  · rw [if_neg hr]; exact h
theorem Bd.crash {fs : List Fl} {l : List Pc} {K : Int} {a c : Nat} (h : Bd (viewF fs) a c) : Bd (viewF (((fs.map (mF l K)).filter keepB).map cutF)) a c := fun g hg => by
  obtain ⟨g1, hg1, rfl⟩ := List.mem_map.1 hg
  obtain ⟨g2, hg2, rfl⟩ := List.mem_map.1 hg1
  obtain ⟨f, hf, rfl⟩ := List.mem_map.1 (List.mem_filter.1 hg2).1
  have hl : (cutF (mF l K f)).v.d.length ≤ f.v.d.length := by
    show (f.d.take _).length ≤ f.d.length
    rw [List.length_take]
    omega
  rcases h f.v (List.mem_map_of_mem hf) with ⟨e, q⟩ | ⟨e, q⟩
  · exact .inl ⟨e, Nat.le_trans hl q⟩
  · exact .inr ⟨e, Nat.le_trans hl q⟩
end Go.Proofs.YtofkfafdodhmdaaGreatDoor
