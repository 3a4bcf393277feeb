/- Several texts in one: II YWa IC IEa JBa JF CW CX IF CHb SE SF CN CO CQ. Conditions: as each theorem names them. -/
import Derived.Test.YtfcnobcpnhfgmaaDoorMHMEB
import Derived.Test.YtfcnobcpnhfgmaaDoorHF
import Derived.Test.YtfcnobcpnhfgmaaDoorMSDHL
import Derived.Deep.RegionHeld3
import Derived.Deep.QuietTactic
import Derived.Test.YtfcnobcpnhfgmaaDoorFK
import Derived.Lib.SmallJoins
import Derived.Test.YtfcnobcpnhfgmaaDoorVLa
import Derived.Test.YtfcnobcpnhfgmaaDoorFN
import Derived.Test.YtfcnobcpnhfgmaaDoorShelf
import Derived.Test.YtfcnobcpnhfgmaaDoorCards
import Derived.Test.YtfcnobcpnhfgmaaDoorTie
import Derived.WalkKit
import Derived.ProofKit
import Derived.OpenShut
import Derived.LaidLaws
import Derived.Deep.DeepHandedRow
import Derived.Lib.LaidTab
import Derived.Lib.LaidU8T
import Derived.Test.YtfcnobcpnhfgmaaDoorHA
import Derived.Lib.SliceRun
import Derived.Test.YtfcnobcpnhfgmaaDoorCM
import Derived.Test.YtfcnobcpnhfgmaaDoorVF
import Derived.Test.YtfcnobcpnhfgmaaDoorFQ
/- The document's Right and Order at cells that the laws look at; a list's cells as words. Conditions: as each theorem names them. -/
namespace Go.Proofs.YtfcnobcpnhfgmaaDoor
open Go.RowKit

/-- A cell that the laws look at. -/
def Sm (c : CT) : Prop := okC c ∧ c.r.size ≤ 60 ∧ c.f.size ≤ 60 ∧ c.q.size ≤ 60 ∧ c.s.size ≤ 100
theorem reforder_ct (x y : CT) (hx : Sm x) (hy : Sm y) (w : World) :
    Calls Tryd.prog 20 #[x.v, y.v] w fun e w' => e = .returned (.int .i64 (CT.cmp x y)) ∧ Below w.heap.size w w' := by
  obtain ⟨_, h1, h2, h3, _⟩ := hx
  obtain ⟨_, g1, g2, g3, _⟩ := hy
  exact refcorder_any x.r x.f x.q x.s x.t x.k x.vk x.vn y.r y.f y.q y.s y.t y.k y.vk y.vn (by omega) (by omega) (by omega) (by omega) (by omega) (by omega) w
theorem refright_ct (c : CT) (hc : Sm c) (w : World) : Calls Tryd.prog 32 #[c.v] w fun e w' => e = .returned (.bool c.ok) ∧ Below w.heap.size w w' :=
  refcright_any c.r c.f c.q c.s c.t c.k c.vk c.vn (by have := hc.2.2.1; omega) (by have := hc.2.2.2.2; omega) w
theorem longC_sm {l : List CT} (h : longC l = false) (hv : ∀ c ∈ l, inI c.vn) : l.length ≤ 60 ∧ ∀ c ∈ l, Sm c := by
  unfold longC at h
  rw [Bool.or_eq_false_iff] at h
  obtain ⟨h1, h2⟩ := h
  have h1 := of_decide_eq_false h1
  refine ⟨by omega, fun c hc => ?_⟩
  have h3 : longC1 c = false := by
    cases e : longC1 c with
    | false => rfl
    | true =>
      rw [List.any_eq_true.2 ⟨c, hc, e⟩] at h2
      cases h2
  unfold longC1 at h3
  simp only [Bool.or_eq_false_iff, decide_eq_false_iff_not] at h3
  exact ⟨⟨by omega, by omega, hv c hc⟩, by omega, by omega, by omega, by omega⟩
theorem ct_words {w : World} {b off : Nat} {l : List CT} (h : HC w b off l) (i : Nat) {c : CT} (hc : l[i]? = some c) : w.cell? ⟨b, off + i * 8, none⟩ = some (.string c.r) ∧ w.cell? ⟨b, off + i * 8 + 1, none⟩ = some (.string c.f) ∧ w.cell? ⟨b, off + i * 8 + 2, none⟩ = some (.string c.q) ∧ w.cell? ⟨b, off + i * 8 + 3, none⟩ = some (.int .i64 c.t) ∧ w.cell? ⟨b, off + i * 8 + 4, none⟩ = some (.int .i64 c.k) ∧ w.cell? ⟨b, off + i * 8 + 5, none⟩ = some (.int .i64 c.vk) ∧ w.cell? ⟨b, off + i * 8 + 6, none⟩ = some (.int .i64 c.vn) ∧ w.cell? ⟨b, off + i * 8 + 7, none⟩ = some (.string c.s) := by
  obtain ⟨hi, hc⟩ := List.getElem?_eq_some_iff.1 hc
  rw [← hc]
  exact h.words i hi
theorem rise_at {s : List CT} {i : Nat} {b c : CT} (h : s.Pairwise (fun x y => CT.cmp x y < 0)) (hb : s[i]? = some b) (hc : s[i + 1]? = some c) : CT.cmp b c < 0 := by
  obtain ⟨hi, rfl⟩ := List.getElem?_eq_some_iff.1 hb
  obtain ⟨hj, rfl⟩ := List.getElem?_eq_some_iff.1 hc
  exact List.pairwise_iff_getElem.1 h i (i + 1) hi hj (by omega)
/-- The law's own cell stands. -/
def DW (W : World) (g : Nat) (d : CT) : Prop := Blk W g 40 d.e.toArray
theorem DW.words {W : World} {g : Nat} {d : CT} (h : DW W g d) : W.cell? ⟨g, 0, none⟩ = some (.string d.r) ∧ W.cell? ⟨g, 1, none⟩ = some (.string d.f) ∧ W.cell? ⟨g, 2, none⟩ = some (.string d.q) ∧ W.cell? ⟨g, 3, none⟩ = some (.int .i64 d.t) ∧ W.cell? ⟨g, 4, none⟩ = some (.int .i64 d.k) ∧ W.cell? ⟨g, 5, none⟩ = some (.int .i64 d.vk) ∧ W.cell? ⟨g, 6, none⟩ = some (.int .i64 d.vn) ∧ W.cell? ⟨g, 7, none⟩ = some (.string d.s) := by
  have h : Blk W g 40 d.e.toArray := h
  exact ⟨h.cell 0, h.cell 1, h.cell 2, h.cell 3, h.cell 4, h.cell 5, h.cell 6, h.cell 7⟩
theorem DW.below {W W' : World} {g : Nat} {d : CT} (h : DW W g d) (hb : Below W.heap.size W W') : DW W' g d := Blk.keep h hb (Blk.lt h)

theorem ct_dw {W : World} {G : Nat} {d : CT} (h : DW W G d) (j : Nat) (u : Value) (hu : d.e[j]? = some u) : W.cell? ((⟨G, 0, Option.none⟩ : Addr).add j) = some u := by
  have h : Blk W G 40 d.e.toArray := h
  rw [add_zero_off, Nat.zero_add, h.cell, List.getElem?_toArray]
  exact hu
theorem DW.keep {W W' : World} {g B : Nat} {d : CT} (h : DW W g d) (hb : Below B W W') (hg : g < B) : DW W' g d := Blk.keep h hb hg

section
variable {W0 W W' : World} {b o p : Nat} {x y : CT}
/-- Two cells of one list, in a region that draws. -/
abbrev PairW (W0 : World) (b o p : Nat) (x y : CT) (W : World) : Prop := Hid (Below W0.heap.size W0 W ∧ b < W0.heap.size) ∧ (W.cell? ⟨b, o, none⟩ = some (.string x.r) ∧ W.cell? ⟨b, o + 1, none⟩ = some (.string x.f) ∧ W.cell? ⟨b, o + 2, none⟩ = some (.string x.q) ∧ W.cell? ⟨b, o + 3, none⟩ = some (.int .i64 x.t) ∧ W.cell? ⟨b, o + 4, none⟩ = some (.int .i64 x.k) ∧ W.cell? ⟨b, o + 5, none⟩ = some (.int .i64 x.vk) ∧ W.cell? ⟨b, o + 6, none⟩ = some (.int .i64 x.vn) ∧ W.cell? ⟨b, o + 7, none⟩ = some (.string x.s)) ∧ (W.cell? ⟨b, p, none⟩ = some (.string y.r) ∧ W.cell? ⟨b, p + 1, none⟩ = some (.string y.f) ∧ W.cell? ⟨b, p + 2, none⟩ = some (.string y.q) ∧ W.cell? ⟨b, p + 3, none⟩ = some (.int .i64 y.t) ∧ W.cell? ⟨b, p + 4, none⟩ = some (.int .i64 y.k) ∧ W.cell? ⟨b, p + 5, none⟩ = some (.int .i64 y.vk) ∧ W.cell? ⟨b, p + 6, none⟩ = some (.int .i64 y.vn) ∧ W.cell? ⟨b, p + 7, none⟩ = some (.string y.s))
theorem pair_drew (h : PairW W0 b o p x y W) : PairW W0 b o p x y W.drew := ⟨hid ⟨h.1.out.1.drew, h.1.out.2⟩, h.2⟩
theorem pair_call (h : PairW W0 b o p x y W) (hb : Below W.heap.size W W') : PairW W0 b o p x y W' := by
  obtain ⟨hh, ⟨a0, a1, a2, a3, a4, a5, a6, a7⟩, ⟨b0, b1, b2, b3, b4, b5, b6, b7⟩⟩ := h
  obtain ⟨hbw, h2⟩ := hh.out
  have hz := hbw.size
  have hc : ∀ b o, b < W0.heap.size → W'.cell? ⟨b, o, none⟩ = W.cell? ⟨b, o, none⟩ := fun b o h => hb.cell (p := ⟨b, o, none⟩) (show b < W.heap.size by omega)
  refine ⟨hid ⟨hbw.trans (hb.mono hz), h2⟩, ⟨?_, ?_, ?_, ?_, ?_, ?_, ?_, ?_⟩, ⟨?_, ?_, ?_, ?_, ?_, ?_, ?_, ?_⟩⟩ <;> (rw [hc _ _ (by omega)]; assumption)
/-- One cell of a list, in a region that draws. -/
abbrev SingW (W0 : World) (b o : Nat) (x : CT) (W : World) : Prop := Hid (Below W0.heap.size W0 W ∧ b < W0.heap.size) ∧ (W.cell? ⟨b, o, none⟩ = some (.string x.r) ∧ W.cell? ⟨b, o + 1, none⟩ = some (.string x.f) ∧ W.cell? ⟨b, o + 2, none⟩ = some (.string x.q) ∧ W.cell? ⟨b, o + 3, none⟩ = some (.int .i64 x.t) ∧ W.cell? ⟨b, o + 4, none⟩ = some (.int .i64 x.k) ∧ W.cell? ⟨b, o + 5, none⟩ = some (.int .i64 x.vk) ∧ W.cell? ⟨b, o + 6, none⟩ = some (.int .i64 x.vn) ∧ W.cell? ⟨b, o + 7, none⟩ = some (.string x.s))
theorem sing_drew (h : SingW W0 b o x W) : SingW W0 b o x W.drew := ⟨hid ⟨h.1.out.1.drew, h.1.out.2⟩, h.2⟩
theorem sing_call (h : SingW W0 b o x W) (hb : Below W.heap.size W W') : SingW W0 b o x W' := by
  obtain ⟨hh, ⟨a0, a1, a2, a3, a4, a5, a6, a7⟩⟩ := h
  obtain ⟨hbw, h2⟩ := hh.out
  have hz := hbw.size
  have hc : ∀ b o, b < W0.heap.size → W'.cell? ⟨b, o, none⟩ = W.cell? ⟨b, o, none⟩ := fun b o h => hb.cell (p := ⟨b, o, none⟩) (show b < W.heap.size by omega)
  refine ⟨hid ⟨hbw.trans (hb.mono hz), h2⟩, ⟨?_, ?_, ?_, ?_, ?_, ?_, ?_, ?_⟩⟩ <;> (rw [hc _ _ (by omega)]; assumption)
end
end Go.Proofs.YtfcnobcpnhfgmaaDoor

/- What the document keeps where it puts a cell among cells in order, step by step. Conditions: as each theorem names them. -/
namespace Go.Proofs.YtfcnobcpnhfgmaaDoor
open Go.RowKit

theorem put_between {p q : List CT} {c : CT} (hp : ∀ x ∈ p, CT.cmp x c < 0) (hq : ∀ y ∈ q, 0 < CT.cmp y c) : putL (p ++ q) c = p ++ c :: q := by
  unfold putL
  rw [List.filter_append, List.filter_append, List.filter_eq_self.2 (fun x hx => decide_eq_true (hp x hx)), List.filter_eq_nil_iff.2 (fun x hx => by have := hq x hx; rw [decide_eq_true_iff]; omega), List.filter_eq_nil_iff.2 (fun x hx => by have := hp x hx; rw [decide_eq_true_iff]; omega), List.filter_eq_self.2 (fun x hx => decide_eq_true (hq x hx)), List.append_nil, List.nil_append]
theorem put_upon {p q : List CT} {x c : CT} (hp : ∀ x ∈ p, CT.cmp x c < 0) (hx : CT.cmp x c = 0) (hq : ∀ y ∈ q, 0 < CT.cmp y c) : putL (p ++ x :: q) c = p ++ c :: q := by
  rw [← put_between hp hq]
  unfold putL
  rw [List.filter_append, List.filter_append, List.filter_append, List.filter_append, List.filter_cons, List.filter_cons, if_neg (by rw [decide_eq_true_iff]; omega), if_neg (by rw [decide_eq_true_iff]; omega)]
/-- What the document's Put has kept of the first i cells: nx, with c among them or not. -/
def NextI (d : List CT) (c : CT) (i : Nat) (done : Bool) (nx : List CT) : Prop :=
  (done = false ∧ nx = d.take i ∧ ∀ x ∈ d.take i, CT.cmp x c < 0) ∨ (done = true ∧ (∀ x ∈ d.drop i, 0 < CT.cmp x c) ∧ nx ++ d.drop i = putL d c)
theorem nxt_start (d : List CT) (c : CT) : NextI d c 0 false [] := .inl ⟨rfl, rfl, fun x hx => by cases hx⟩
section
variable {d nx : List CT} {c x : CT} {i : Nat}
theorem takeC_next (hx : d[i]? = some x) : d.take (i + 1) = d.take i ++ [x] := by rw [List.take_add_one, hx]; rfl
theorem drop_here (hx : d[i]? = some x) : d.drop i = x :: d.drop (i + 1) := by
  obtain ⟨hi, rfl⟩ := List.getElem?_eq_some_iff.1 hx
  exact List.drop_eq_getElem_cons hi
theorem split_here (hx : d[i]? = some x) : d = d.take i ++ x :: d.drop (i + 1) := by
  rw [← drop_here hx, List.take_append_drop]
theorem rest_above (hr : d.Pairwise (fun x y => CT.cmp x y < 0)) (hx : d[i]? = some x) (h : 0 ≤ CT.cmp x c) : ∀ y ∈ d.drop (i + 1), 0 < CT.cmp y c := fun y hy => by
  rw [split_here hx] at hr
  obtain ⟨_, h2, _⟩ := List.pairwise_append.1 hr
  have h1 := (List.pairwise_cons.1 h2).1 y hy
  false_or_by_contra
  have := ct_c3.lt_le (x := x) (y := y) (z := c) h1 (by omega)
  omega
theorem nxt_low (h : NextI d c i false nx) (hx : d[i]? = some x) (hlt : CT.cmp x c < 0) : NextI d c (i + 1) false (nx ++ [x]) := by
  rcases h with ⟨_, rfl, h⟩ | ⟨q, _⟩
  · refine .inl ⟨rfl, (takeC_next hx).symm, fun y hy => ?_⟩
    rw [takeC_next hx] at hy
    rcases List.mem_append.1 hy with hy | hy
    · exact h y hy
    · rw [List.mem_singleton.1 hy]; exact hlt
  · cases q
theorem nxt_same (hr : d.Pairwise (fun x y => CT.cmp x y < 0)) (h : NextI d c i false nx) (hx : d[i]? = some x) (he : CT.cmp x c = 0) : NextI d c (i + 1) true (nx ++ [c]) := by
  rcases h with ⟨_, rfl, h⟩ | ⟨q, _⟩
  · have ha := rest_above hr hx (c := c) (by omega)
    refine .inr ⟨rfl, ha, ?_⟩
    conv => rhs; rw [split_here hx]
    rw [put_upon h he ha, List.append_assoc]
    rfl
  · cases q
theorem nxt_high (hr : d.Pairwise (fun x y => CT.cmp x y < 0)) (h : NextI d c i false nx) (hx : d[i]? = some x) (hg : 0 < CT.cmp x c) : NextI d c (i + 1) true (nx ++ [c] ++ [x]) := by
  rcases h with ⟨_, rfl, h⟩ | ⟨q, _⟩
  · have ha := rest_above hr hx (c := c) (by omega)
    refine .inr ⟨rfl, ha, ?_⟩
    have hb : ∀ y ∈ x :: d.drop (i + 1), 0 < CT.cmp y c := fun y hy => by
      rcases List.mem_cons.1 hy with rfl | hy
      · exact hg
      · exact ha y hy
    conv => rhs; rw [split_here hx]
    rw [put_between h hb, List.append_assoc, List.append_assoc]
    rfl
  · cases q
theorem nxt_done (h : NextI d c i true nx) (hx : d[i]? = some x) : 0 < CT.cmp x c ∧ NextI d c (i + 1) true (nx ++ [x]) := by
  rcases h with ⟨q, _⟩ | ⟨_, h1, h2⟩
  · cases q
  · rw [drop_here hx] at h1 h2
    refine ⟨h1 x List.mem_cons_self, .inr ⟨rfl, fun y hy => h1 y (List.mem_cons_of_mem _ hy), ?_⟩⟩
    rw [← h2, List.append_assoc]
    rfl
theorem nxt_end0 (h : NextI d c d.length false nx) : nx ++ [c] = putL d c := by
  rcases h with ⟨_, rfl, h⟩ | ⟨q, _⟩
  · rw [List.take_length] at h ⊢
    have := put_between (q := []) h (fun y hy => by cases hy)
    rw [List.append_nil] at this
    exact this.symm
  · cases q
theorem nxt_end1 (h : NextI d c d.length true nx) : nx = putL d c := by
  rcases h with ⟨q, _⟩ | ⟨_, _, h⟩
  · cases q
  · rw [List.drop_length, List.append_nil] at h
    exact h
theorem nxt_len {b : Bool} (h : NextI d c i b nx) (hi : i ≤ d.length) : nx.length ≤ d.length + 1 := by
  rcases h with ⟨_, rfl, _⟩ | ⟨_, _, h⟩
  · rw [List.length_take]; omega
  · have h1 := congrArg List.length h
    rw [List.length_append] at h1
    have h2 : (putL d c).length ≤ d.length + 1 := by
      unfold putL
      have := filter_two (p := fun x => decide (CT.cmp x c < 0)) (q := fun x => decide (0 < CT.cmp x c)) (l := d) fun x hx => by
        have := of_decide_eq_true hx
        exact decide_eq_false (by omega)
      rw [List.length_append, List.length_cons]
      omega
    omega
end
end Go.Proofs.YtfcnobcpnhfgmaaDoor

/- The statements' fixed cells: alive. Conditions: the tables of utf8 read as they are laid. -/
namespace Go.Proofs.YtfcnobcpnhfgmaaDoor
open Go.RowKit

abbrev AlS (W0 : World) (rb : Nat) (W : World) : Prop := Hid (Below W0.heap.size W0 W ∧ rb < W0.heap.size) ∧ W.cell? ⟨rb, 0, none⟩ = some (.string ⟨#[114]⟩) ∧ W.cell? ⟨rb, 1, none⟩ = some (.string ⟨#[102]⟩) ∧ W.cell? ⟨rb, 2, none⟩ = some (.string ⟨#[113]⟩) ∧ W.cell? ⟨rb, 3, none⟩ = some (.int .i64 3) ∧ W.cell? ⟨rb, 4, none⟩ = some (.int .i64 3) ∧ W.cell? ⟨rb, 5, none⟩ = some (.int .i64 0) ∧ W.cell? ⟨rb, 6, none⟩ = some (.int .i64 0) ∧ W.cell? ⟨rb, 7, none⟩ = some (.string ⟨#[]⟩)
abbrev AlT (W0 : World) (g vb : Nat) (W : World) : Prop := Hid (Below W0.heap.size W0 W ∧ g < W0.heap.size ∧ vb < W0.heap.size) ∧ W.cell? ⟨g, 0, none⟩ = some (.string ⟨#[114]⟩) ∧ W.cell? ⟨g, 1, none⟩ = some (.string ⟨#[102]⟩) ∧ W.cell? ⟨g, 2, none⟩ = some (.string ⟨#[113]⟩) ∧ W.cell? ⟨g, 3, none⟩ = some (.int .i64 5) ∧ W.cell? ⟨g, 4, none⟩ = some (.int .i64 1) ∧ W.cell? ⟨g, 5, none⟩ = some (.int .i64 1) ∧ W.cell? ⟨g, 6, none⟩ = some (.int .i64 5) ∧ W.cell? ⟨g, 7, none⟩ = some (.string ⟨#[]⟩) ∧ W.cell? ⟨vb, 1, none⟩ = some (.int .i64 5)
section
variable {W0 W W' : World} {rb g vb : Nat}
theorem als_drew (h : AlS W0 rb W) : AlS W0 rb W.drew := ⟨hid ⟨h.1.out.1.drew, h.1.out.2⟩, h.2⟩
theorem als_call (h : AlS W0 rb W) (hb : Below W.heap.size W W') : AlS W0 rb W' := by
  obtain ⟨hh, a0, a1, a2, a3, a4, a5, a6, a7⟩ := h
  obtain ⟨hbw, h1⟩ := hh.out
  have hz := hbw.size
  have hc : ∀ b o, b < W0.heap.size → W'.cell? ⟨b, o, none⟩ = W.cell? ⟨b, o, none⟩ := fun b o h => hb.cell (p := ⟨b, o, none⟩) (show b < W.heap.size by omega)
  refine ⟨hid ⟨hbw.trans (hb.mono hz), h1⟩, ?_, ?_, ?_, ?_, ?_, ?_, ?_, ?_⟩ <;> (rw [hc _ _ (by omega)]; assumption)
theorem alt_drew (h : AlT W0 g vb W) : AlT W0 g vb W.drew := ⟨hid ⟨h.1.out.1.drew, h.1.out.2⟩, h.2⟩
theorem alt_call (h : AlT W0 g vb W) (hb : Below W.heap.size W W') : AlT W0 g vb W' := by
  obtain ⟨hh, a0, a1, a2, a3, a4, a5, a6, a7, a8⟩ := h
  obtain ⟨hbw, h1, h2⟩ := hh.out
  have hz := hbw.size
  have hc : ∀ b o, b < W0.heap.size → W'.cell? ⟨b, o, none⟩ = W.cell? ⟨b, o, none⟩ := fun b o h => hb.cell (p := ⟨b, o, none⟩) (show b < W.heap.size by omega)
  refine ⟨hid ⟨hbw.trans (hb.mono hz), h1, h2⟩, ?_, ?_, ?_, ?_, ?_, ?_, ?_, ?_, ?_⟩ <;> (rw [hc _ _ (by omega)]; assumption)
end
/-- The fixed cells in memory. -/
theorem cla_fixed (w : World) : ClA (w.alloc (.cells (flatC fixedC).toArray 40)) (.slice (some ⟨w.heap.size, 0, none⟩) 4 4) fixedC := by
  refine ⟨_, 4, rfl, Nat.le_refl _, by omega, fun _ => ⟨_, 0, rfl, fun i hi j hj => ?_⟩⟩
  rw [(Blk.new w 40 (flatC fixedC).toArray).cell, Nat.zero_add, List.getElem?_toArray]
  exact flatC_at fixedC i j hi hj
theorem crow_one {w : World} {B : Nat} {v : Value} {c : CT} (h : CRow w B v [c]) : ∃ g cap, v = .slice (some ⟨g, 0, none⟩) 1 cap ∧ 1 ≤ cap ∧ cap ≤ 9223372036854775807 ∧ g < w.heap.size ∧ ∀ j, j < 8 → w.cell? ⟨g, j, none⟩ = c.e[j]? := by
  have h' := h
  rcases h.2 with ⟨e, hz⟩ | ⟨g, cap, cur, e, hB, hb, h1, h2, _⟩
  · cases hz
  · subst e
    refine ⟨g, cap, rfl, h1, by unfold maxLen at h2; omega, (Array.getElem?_eq_some_iff.1 hb).1, fun j hj => ?_⟩
    have := h'.hc 0 (by simp) j hj
    simpa using this
theorem fixed_okC : ∀ c ∈ fixedC, okC c := by
  intro c hc
  have q : okC (putC 3) ∧ okC (putC 4) ∧ okC goneC ∧ okC (putC 5) := by
    refine ⟨⟨?_, ?_, ?_⟩, ⟨?_, ?_, ?_⟩, ⟨?_, ?_, ?_⟩, ⟨?_, ?_, ?_⟩⟩ <;> (simp only [putC, goneC]; first | decide | (unfold inI; omega))
  simp only [fixedC, List.mem_cons, List.not_mem_nil, or_false] at hc
  rcases hc with rfl | rfl | rfl | rfl
  · exact q.1
  · exact q.2.1
  · exact q.2.2.1
  · exact q.2.2.2

set_option maxHeartbeats 4000000 in
set_option maxRecDepth 100000 in
theorem alive_any (w : World) (hL : LaidU w) : Calls Tryd.prog 30 #[] w fun e w' => e = .returned (.bool true) ∧ Below w.heap.size w w' := by
  have mixed : Tryd.prog.follows .mixedOrders = true := by kernel_rfl
  have HP := hid putc_any
  have HPL : Hid (∀ W, Calls Tryd.prog 72 #[.int .i64 5] W fun e w' => e = .returned (.agg #[.string ⟨#[114]⟩, .string ⟨#[102]⟩, .string ⟨#[113]⟩, .int .i64 5, .int .i64 1, .int .i64 1, .int .i64 5, .string ⟨#[]⟩]) ∧ Below W.heap.size W w') := putc_any 5
  have HX : Hid (∀ (w5 W : World) , LaidU (w5.alloc (.cells (flatC fixedC).toArray 40)) → Below (w5.alloc (.cells (flatC fixedC).toArray 40)).heap.size (w5.alloc (.cells (flatC fixedC).toArray 40)) W → ClA W (.slice (some ⟨w5.heap.size, 0, none⟩) 4 4) fixedC ∧ LaidU W) := fun w5 W h1 h2 => ⟨(cla_fixed w5).below h2, h1.below h2⟩
  have HSe : Hid (∀ (W : World) (v : Value) (a b d : Int), ClA W v fixedC ∧ LaidU W → Calls Tryd.prog 33 #[v, .int .i64 a, .int .i64 b, .int .i64 d] W fun e w' => ∃ v', e = .returned v' ∧ CRow w' W.heap.size v' (seenL a b d fixedS) ∧ Below W.heap.size W w') := fun W v a b d h => (cseen_any v fixedC (by decide) a b d W h.1 fixed_okC h.2).mono fun _ _ ⟨v', s, h1, h2, h3, h4⟩ => ⟨v', h1, by rw [fixed_sort h2] at h3; exact h3, h4⟩
  have HVa : Hid (∀ (W : World) (v : Value), ClA W v fixedC ∧ LaidU W → Calls Tryd.prog 73 #[v, .string ⟨#[102]⟩, .string ⟨#[113]⟩, .int .i64 1, .int .i64 0, .int .i64 9] W fun e w' => e = .returned (.tuple #[.agg #[.int .i64 1, .int .i64 5, .string ⟨#[]⟩], .bool true]) ∧ Below W.heap.size W w') := fun W v h => (cvalue_any v fixedC (by decide) _ _ 1 0 9 W h.1 fixed_okC h.2).mono fun _ _ ⟨s, h1, h2, h3⟩ => ⟨by rw [h1, fixed_sort h2]; exact congrArg (fun o => Ending.returned (valV o)) fixed_value, h3⟩
  have HSo : Hid (∀ (W : World) (v : Value), ClA W v fixedC ∧ LaidU W → Calls Tryd.prog 74 #[v] W fun e w' => ∃ A c, e = .returned (.slice A 4 c) ∧ Below W.heap.size W w') := fun W v h => (sort_any v fixedC (by decide) W h.1 fixed_okC h.2).mono fun _ _ ⟨v', s, h1, h2, h3, h4⟩ => by
    obtain ⟨A, c, e, _⟩ := h3.len
    rw [fixed_sort h2] at e
    exact ⟨A, c, by rw [h1, e]; rfl, h4⟩
  have HRo : Hid (∀ (W : World) (v : Value), ClA W v fixedC ∧ LaidU W → Calls Tryd.prog 75 #[v] W fun e w' => ∃ A c, e = .returned (.slice A 1 c) ∧ Below W.heap.size W w') := fun W v h => (crows_any v fixedC (by decide) W h.1).mono fun _ _ ⟨v', h1, h2, h3⟩ => by
    have h4 := h2.2
    rw [fixed_rows] at h4
    rcases h4 with ⟨_, hz⟩ | ⟨g, cap, cur, e, _⟩
    · cases hz
    · exact ⟨_, cap, by rw [h1, e], h3⟩
  have HS8 : Hid (∀ (W : World) (v : Value) (b d : Int), ClA W v fixedC ∧ LaidU W → Calls Tryd.prog 33 #[v, .int .i64 8, .int .i64 b, .int .i64 d] W fun e w' => ∃ A c, e = .returned (.slice A (seenL 8 b d fixedS).length c) ∧ Below W.heap.size W w') := fun W v b d h => (HSe.out W v 8 b d h).mono fun _ _ ⟨v', h1, h2, h3⟩ => by
    obtain ⟨A, c, e, _⟩ := h2.len
    exact ⟨A, c, by rw [h1, e], h3⟩
  have HNe : Hid (∀ (W : World) (v : Value), ClA W v fixedC ∧ LaidU W → Calls Tryd.prog 76 #[v, .int .i64 8, .int .i64 0, .int .i64 9] W fun e w' => ∃ A c, e = .returned (.slice A 2 c) ∧ Below W.heap.size W w') := fun W v h => (cneeded_any v fixedC (by decide) 8 0 9 W h.1 fixed_okC h.2).mono fun _ _ ⟨v', s, h1, h2, h3, h4⟩ => by
    obtain ⟨A, c, e, _⟩ := h3.len
    rw [fixed_sort h2] at e
    exact ⟨A, c, by rw [h1, e]; rfl, h4⟩
  go_enter Tryd.func30, Tryd.ntmps30
  go_upto_region 2 with (fail)
  obtain ⟨rb, hrb⟩ : ∃ rb, w.heap.size = rb := ⟨_, rfl⟩
  obtain ⟨W0, hW0⟩ : ∃ W0, w.alloc (.cells goneC.e.toArray 40) = W0 := ⟨_, rfl⟩
  have HT : Hid (AlS W0 rb W0) := by
    rw [← hW0, ← hrb]
    have hB := Blk.new w 40 goneC.e.toArray
    exact ⟨hid ⟨Below.refl _ _, hB.lt⟩, blk_words (c := goneC) hB⟩
  have HB0 : Hid (Below w.heap.size w W0) := by rw [← hW0]; exact below_new _ _
  have HL0 : Hid (LaidU W0) := hL.below HB0.out
  rw [show w.alloc (.cells #[.string ⟨#[114]⟩, .string ⟨#[102]⟩, .string ⟨#[113]⟩, .int .i64 3, .int .i64 3, .int .i64 0, .int .i64 0, .string ⟨#[]⟩] 40) = W0 from hW0, hrb]
  clear hrb hW0 hL
  obtain ⟨-, a0, a1, a2, a3, a4, a5, a6, a7⟩ := HT.out
  go_region_held3 (fun W' => Hid (Below W0.heap.size W0 W' ∧ rb < W0.heap.size) ∧ W'.cell? ⟨rb, 0, none⟩ = some (.string ⟨#[114]⟩) ∧ W'.cell? ⟨rb, 1, none⟩ = some (.string ⟨#[102]⟩) ∧ W'.cell? ⟨rb, 2, none⟩ = some (.string ⟨#[113]⟩) ∧ W'.cell? ⟨rb, 3, none⟩ = some (.int .i64 3) ∧ W'.cell? ⟨rb, 4, none⟩ = some (.int .i64 3) ∧ W'.cell? ⟨rb, 5, none⟩ = some (.int .i64 0) ∧ W'.cell? ⟨rb, 6, none⟩ = some (.int .i64 0) ∧ W'.cell? ⟨rb, 7, none⟩ = some (.string ⟨#[]⟩))
    (first | exact HT.out | exact als_drew HT.out | exact als_call (by assumption) hb5 | exact als_call (by assumption) (below_new _ _) | exact als_drew (by assumption) | assumption)
    (first | (go_at_call 72; refine (HP.out _ _).mono ?_; rintro e w5 ⟨rfl, hb5⟩))
  rename_i hLast
  have HB5 : Hid (Below W0.heap.size W0 (w5.alloc (.cells (flatC fixedC).toArray 40))) := hLast.1.out.1
  clear a0 a1 a2 a3 a4 a5 a6 a7 hLast HT
  have HL5 : Hid (LaidU (w5.alloc (.cells (flatC fixedC).toArray 40))) := HL0.out.below HB5.out
  go_upto_region 5 with (first
    | (go_at_call 33; refine (HSe.out _ _ 1 0 9 (HX.out w5 _ HL5.out (Below.refl _ _))).mono ?_; rintro e w6 ⟨v6, rfl, hr6, hb6⟩; rw [fixed_seen1] at hr6; obtain ⟨g, cap, rfl, hc1, hc2, hg, hw⟩ := crow_one hr6)
    | (go_at_call 73; refine (HVa.out _ _ (HX.out w5 _ HL5.out hb6)).mono ?_; rintro e w7 ⟨rfl, hb7⟩))
  obtain ⟨W8, hW8⟩ : ∃ W8, w7.alloc (.cells #[.int .i64 1, .int .i64 5, .string ⟨#[]⟩] 38) = W8 := ⟨_, rfl⟩
  obtain ⟨vb, hvb⟩ : ∃ vb, w7.heap.size = vb := ⟨_, rfl⟩
  obtain ⟨lv, hlv⟩ : ∃ lv, Value.slice (some ⟨w5.heap.size, 0, none⟩) 4 4 = lv := ⟨_, rfl⟩
  have hb8 : Below w7.heap.size w7 W8 := by rw [← hW8]; exact below_new _ _
  have HQ : Hid (∀ W', Below W8.heap.size W8 W' → ClA W' lv fixedC ∧ LaidU W') := fun W' h => by
    have h1 := HX.out w5 _ HL5.out ((hb6.trans (hb7.mono hb6.size)).trans ((hb8.mono (Nat.le_trans hb6.size hb7.size)).trans (h.mono (Nat.le_trans (Nat.le_trans hb6.size hb7.size) hb8.size))))
    rw [hlv] at h1
    exact h1
  have HB8 : Hid (Below w.heap.size w W8) := by
    have h1 := HB0.out.trans (HB5.out.mono HB0.out.size)
    have h2 := h1.trans (hb6.mono h1.size)
    have h3 := h2.trans (hb7.mono h2.size)
    exact h3.trans (hb8.mono h3.size)
  have HT : Hid (AlT W8 g vb W8) := by
    have hg7 : g < w7.heap.size := Nat.lt_of_lt_of_le hg hb7.size
    have k : ∀ j, j < 8 → W8.cell? ⟨g, j, none⟩ = (putC 5).e[j]? := fun j hj => by
      rw [hb8.cell (p := ⟨g, j, none⟩) hg7, hb7.cell (p := ⟨g, j, none⟩) hg]
      exact hw j hj
    have hB : Blk W8 vb 38 #[.int .i64 1, .int .i64 5, .string ⟨#[]⟩] := by rw [← hW8, ← hvb]; exact Blk.new _ _ _
    exact ⟨hid ⟨Below.refl _ _, Nat.lt_of_lt_of_le hg7 hb8.size, hB.lt⟩, k 0 (by omega), k 1 (by omega), k 2 (by omega), k 3 (by omega), k 4 (by omega), k 5 (by omega), k 6 (by omega), k 7 (by omega), hB.cell 1⟩
  rw [hW8, hvb, hlv]
  clear hW8 hvb hlv hb8 hw hr6 hb6 hb7 HX HL5 HB5 HL0 HB0
  obtain ⟨-, a0, a1, a2, a3, a4, a5, a6, a7, a8⟩ := HT.out
  go_region_held3 (fun W' => Hid (Below W8.heap.size W8 W' ∧ g < W8.heap.size ∧ vb < W8.heap.size) ∧ W'.cell? ⟨g, 0, none⟩ = some (.string ⟨#[114]⟩) ∧ W'.cell? ⟨g, 1, none⟩ = some (.string ⟨#[102]⟩) ∧ W'.cell? ⟨g, 2, none⟩ = some (.string ⟨#[113]⟩) ∧ W'.cell? ⟨g, 3, none⟩ = some (.int .i64 5) ∧ W'.cell? ⟨g, 4, none⟩ = some (.int .i64 1) ∧ W'.cell? ⟨g, 5, none⟩ = some (.int .i64 1) ∧ W'.cell? ⟨g, 6, none⟩ = some (.int .i64 5) ∧ W'.cell? ⟨g, 7, none⟩ = some (.string ⟨#[]⟩) ∧ W'.cell? ⟨vb, 1, none⟩ = some (.int .i64 5))
    (first | exact HT.out | exact alt_drew HT.out | exact alt_call (by assumption) hb9 | exact alt_drew (by assumption) | assumption)
    (first
      | (go_at_call 72; refine (HPL.out _).mono ?_; rintro e w9 ⟨rfl, hb9⟩)
      | (go_at_call 74; refine (HSo.out _ _ (HQ.out _ (Hid.out (And.left (by assumption : AlT W8 g vb _))).1)).mono ?_; rintro e w9 ⟨A9, c9, rfl, hb9⟩)
      | (go_at_call 33; refine (HS8.out _ _ _ _ (HQ.out _ (Hid.out (And.left (by assumption : AlT W8 g vb _))).1)).mono ?_; rintro e w9 ⟨A9, c9, rfl, hb9⟩; (first | rw [fixed_seen8] | rw [fixed_seen3]))
      | (go_at_call 75; refine (HRo.out _ _ (HQ.out _ (Hid.out (And.left (by assumption : AlT W8 g vb _))).1)).mono ?_; rintro e w9 ⟨A9, c9, rfl, hb9⟩)
      | (go_at_call 76; refine (HNe.out _ _ (HQ.out _ (Hid.out (And.left (by assumption : AlT W8 g vb _))).1)).mono ?_; rintro e w9 ⟨A9, c9, rfl, hb9⟩))
  rename_i hLast
  have HZ := hid hLast.1.out.1
  clear a0 a1 a2 a3 a4 a5 a6 a7 a8 hLast HT
  go_wp2
  go_ret
  exact ⟨rfl, HB8.out.trans (HZ.out.mono HB8.out.size)⟩
end Go.Proofs.YtfcnobcpnhfgmaaDoor

/- long of layer 6 at every list. Conditions: the argument stands. -/
namespace Go.Proofs.YtfcnobcpnhfgmaaDoor
open Go.RowKit

set_option maxHeartbeats 1000000 in
theorem long_any (v : Value) (l : List CT) (w : World) (h : ClA w v l) :
    Calls Tryd.prog 31 #[v] w fun e w' => e = .returned (.bool (longC l)) ∧ Below w.heap.size w w' := by
  have HL := hid (longcells_any v l w h)
  clear h
  go_enter Tryd.func31, Tryd.ntmps31
  go_wp2_with (go_at_call 36; refine HL.out.mono ?_; rintro e w5 ⟨rfl, hb5⟩)
  go_ret
  exact ⟨rfl, hb5⟩
theorem longC_ok {l : List CT} (h : longC l = false) (hv : ∀ c ∈ l, inI c.vn) : l.length ≤ 100000 ∧ ∀ c ∈ l, okC c := by
  unfold longC at h
  rw [Bool.or_eq_false_iff] at h
  obtain ⟨h1, h2⟩ := h
  have h1 := of_decide_eq_false h1
  refine ⟨by omega, fun c hc => ?_⟩
  have h3 : longC1 c = false := by
    cases e : longC1 c with
    | false => rfl
    | true =>
      rw [List.any_eq_true.2 ⟨c, hc, e⟩] at h2
      cases h2
  unfold longC1 at h3
  simp only [Bool.or_eq_false_iff, decide_eq_false_iff_not] at h3
  exact ⟨by omega, by omega, hv c hc⟩

end Go.Proofs.YtfcnobcpnhfgmaaDoor

/- Cells can be told apart; texts that differ, as bytes. Conditions: as each theorem names them. -/
namespace Go.Proofs.YtfcnobcpnhfgmaaDoor
open Go.RowKit

deriving instance DecidableEq for CT
theorem ba_ne2 {x y : ByteArray} (h : x ≠ y) : ¬ x.toList = y.toList := fun e => by
  have := ba_ne h
  rw [e] at this
  simp at this
end Go.Proofs.YtfcnobcpnhfgmaaDoor

/- The statements' own comparison of two lists of cells. Conditions: both stand. -/
namespace Go.Proofs.YtfcnobcpnhfgmaaDoor
open Go.RowKit

set_option maxHeartbeats 4000000 in
set_option maxRecDepth 100000 in
theorem samecells_any (v1 v2 : Value) (u t : List CT) (w : World) (h1 : ClA w v1 u) (h2 : ClA w v2 t) :
    Calls Tryd.prog 14 #[v1, v2] w fun e w' => e = .returned (.bool (decide (u = t))) ∧ Below w.heap.size w w' := by
  have mixed : Tryd.prog.follows .mixedOrders = true := by kernel_rfl
  obtain ⟨A1, c1, rfl, hc1, hm1, hh1⟩ := h1
  obtain ⟨A2, c2, rfl, hc2, hm2, hh2⟩ := h2
  have H1 := hid hh1
  have H2 := hid hh2
  clear hh1 hh2
  obtain ⟨n, hn⟩ : ∃ n, u.length = n := ⟨_, rfl⟩
  have HN := hid hn
  rw [hn] at hc1 ⊢
  clear hn
  by_cases hl : t.length = n
  · have HT := hid hl
    rw [hl] at hc2 ⊢
    clear hl
    go_enter Tryd.func14, Tryd.ntmps14
    go_wp2
    go_loopw [5] (fun vi wr => Hid (Below w.heap.size w wr) ∧ ∃ i : Nat, i ≤ n ∧ vi = .int .i64 i ∧ Hid (u.take i = t.take i)) (fun vi _ => n - (intOf vi).toNat)
    case atStart => exact ⟨Below.refl _ _, 0, Nat.zero_le _, rfl, rfl⟩
    case round =>
      obtain ⟨HB, i, hi, rfl, HE⟩ := hrel
      by_cases hlt : i < n
      · have hiu : i < u.length := by rw [HN.out]; exact hlt
        have hit : i < t.length := by rw [HT.out]; exact hlt
        have hiz : (i : Int) < (n : Int) := by omega
        obtain ⟨b, off, rfl, hhc⟩ := H1.out (by omega)
        obtain ⟨b8, off8, rfl, hhd⟩ := H2.out (by omega)
        have hbw : b < w.heap.size := hhc.lt (by omega)
        have hbw8 : b8 < w.heap.size := hhd.lt (by omega)
        obtain ⟨c, hc⟩ : ∃ c, u[i] = c := ⟨_, rfl⟩
        obtain ⟨d, hd⟩ : ∃ d, t[i] = d := ⟨_, rfl⟩
        have P : wr.cell? ⟨b, off + i * 8, none⟩ = some (.string c.r) ∧ wr.cell? ⟨b, off + i * 8 + 1, none⟩ = some (.string c.f) ∧ wr.cell? ⟨b, off + i * 8 + 2, none⟩ = some (.string c.q) ∧ wr.cell? ⟨b, off + i * 8 + 3, none⟩ = some (.int .i64 c.t) ∧ wr.cell? ⟨b, off + i * 8 + 4, none⟩ = some (.int .i64 c.k) ∧ wr.cell? ⟨b, off + i * 8 + 5, none⟩ = some (.int .i64 c.vk) ∧ wr.cell? ⟨b, off + i * 8 + 6, none⟩ = some (.int .i64 c.vn) ∧ wr.cell? ⟨b, off + i * 8 + 7, none⟩ = some (.string c.s) := by
          rw [← hc]
          exact (hhc.below HB.out hbw).words i hiu
        have Pd : wr.cell? ⟨b8, off8 + i * 8, none⟩ = some (.string d.r) ∧ wr.cell? ⟨b8, off8 + i * 8 + 1, none⟩ = some (.string d.f) ∧ wr.cell? ⟨b8, off8 + i * 8 + 2, none⟩ = some (.string d.q) ∧ wr.cell? ⟨b8, off8 + i * 8 + 3, none⟩ = some (.int .i64 d.t) ∧ wr.cell? ⟨b8, off8 + i * 8 + 4, none⟩ = some (.int .i64 d.k) ∧ wr.cell? ⟨b8, off8 + i * 8 + 5, none⟩ = some (.int .i64 d.vk) ∧ wr.cell? ⟨b8, off8 + i * 8 + 6, none⟩ = some (.int .i64 d.vn) ∧ wr.cell? ⟨b8, off8 + i * 8 + 7, none⟩ = some (.string d.s) := by
          rw [← hd]
          exact (hhd.below HB.out hbw8).words i hit
        obtain ⟨p0, p1, p2, p3, p4, p5, p6, p7⟩ := P
        obtain ⟨d0, d1, d2, d3, d4, d5, d6, d7⟩ := Pd
        by_cases he : c = d
        · have HE2 : Hid (u.take (i + 1) = t.take (i + 1)) := by
            unfold Hid
            rw [List.take_add_one, List.take_add_one, HE.out, List.getElem?_eq_getElem hiu, List.getElem?_eq_getElem hit, hc, hd, he]
          clear hc hd hhc hhd HE
          subst he
          go_upto_region 6 with (fail); go_quiet (fail); go_wp2
          go_roundw
          case rel => exact ⟨Go.below_drewN HB.out _, i + 1, by omega, by go_num, HE2.out⟩
          case measure => simp [intOf]; omega
        · have HNE : Hid (decide (u = t) = false) := by
            refine decide_eq_false fun e => he ?_
            subst e
            rw [← hc, ← hd]
          clear hc hd hhc hhd HE
          by_cases e0 : c.r = d.r
          · have n0 : c.r.toList = d.r.toList := by rw [e0]
            by_cases e1 : c.f = d.f
            · have n1 : c.f.toList = d.f.toList := by rw [e1]
              by_cases e2 : c.q = d.q
              · have n2 : c.q.toList = d.q.toList := by rw [e2]
                by_cases e3 : c.t = d.t
                · have n3 : c.t = d.t := e3
                  by_cases e4 : c.k = d.k
                  · have n4 : c.k = d.k := e4
                    by_cases e5 : c.vk = d.vk
                    · have n5 : c.vk = d.vk := e5
                      by_cases e6 : c.vn = d.vn
                      · have n6 : c.vn = d.vn := e6
                        by_cases e7 : c.s = d.s
                        · have n7 : c.s.toList = d.s.toList := by rw [e7]
                          exfalso
                          apply he
                          cases d; cases c; simp only at e0 e1 e2 e3 e4 e5 e6 e7; subst e0 e1 e2 e3 e4 e5 e6 e7; rfl
                        · have n7 : ¬ c.s.toList = d.s.toList := ba_ne2 e7
                          clear he e0 e1 e2 e3 e4 e5 e6 e7
                          go_upto_region 6 with (fail); go_quiet (fail); go_wp2
                          go_ret
                          refine ⟨?_, Go.below_drewN HB.out _⟩
                          rw [HNE.out]
                          rfl
                      · have n6 : ¬ c.vn = d.vn := e6
                        clear he e0 e1 e2 e3 e4 e5 e6
                        go_upto_region 6 with (fail); go_quiet (fail); go_wp2
                        go_ret
                        refine ⟨?_, Go.below_drewN HB.out _⟩
                        rw [HNE.out]
                        rfl
                    · have n5 : ¬ c.vk = d.vk := e5
                      clear he e0 e1 e2 e3 e4 e5
                      go_upto_region 6 with (fail); go_quiet (fail); go_wp2
                      go_ret
                      refine ⟨?_, Go.below_drewN HB.out _⟩
                      rw [HNE.out]
                      rfl
                  · have n4 : ¬ c.k = d.k := e4
                    clear he e0 e1 e2 e3 e4
                    go_upto_region 6 with (fail); go_quiet (fail); go_wp2
                    go_ret
                    refine ⟨?_, Go.below_drewN HB.out _⟩
                    rw [HNE.out]
                    rfl
                · have n3 : ¬ c.t = d.t := e3
                  clear he e0 e1 e2 e3
                  go_upto_region 6 with (fail); go_quiet (fail); go_wp2
                  go_ret
                  refine ⟨?_, Go.below_drewN HB.out _⟩
                  rw [HNE.out]
                  rfl
              · have n2 : ¬ c.q.toList = d.q.toList := ba_ne2 e2
                clear he e0 e1 e2
                go_upto_region 6 with (fail); go_quiet (fail); go_wp2
                go_ret
                refine ⟨?_, Go.below_drewN HB.out _⟩
                rw [HNE.out]
                rfl
            · have n1 : ¬ c.f.toList = d.f.toList := ba_ne2 e1
              clear he e0 e1
              go_upto_region 6 with (fail); go_quiet (fail); go_wp2
              go_ret
              refine ⟨?_, Go.below_drewN HB.out _⟩
              rw [HNE.out]
              rfl
          · have n0 : ¬ c.r.toList = d.r.toList := ba_ne2 e0
            clear he e0
            go_upto_region 6 with (fail); go_quiet (fail); go_wp2
            go_ret
            refine ⟨?_, Go.below_drewN HB.out _⟩
            rw [HNE.out]
            rfl
      · obtain rfl : i = n := by omega
        have HQ : Hid (decide (u = t) = true) := by
          have h := HE.out
          rw [List.take_of_length_le (by rw [HN.out]; exact Nat.le_refl _), List.take_of_length_le (by rw [HT.out]; exact Nat.le_refl _)] at h
          exact decide_eq_true h
        go_wp2
        go_ret
        exact ⟨by rw [HQ.out]; rfl, HB.out⟩
  · have HQ : Hid (decide (u = t) = false) := decide_eq_false fun e => hl (by rw [← e]; exact HN.out)
    obtain ⟨m, hm⟩ : ∃ m, t.length = m := ⟨_, rfl⟩
    rw [hm] at hl hc2 ⊢
    have hne : ((n : Int) == (m : Int)) = false := by simp; omega
    have hne2 : ((n : Int) != (m : Int)) = true := by simp; omega
    clear hl hm
    go_enter Tryd.func14, Tryd.ntmps14
    go_wp2
    go_ret
    exact ⟨by rw [HQ.out]; rfl, Below.refl _ _⟩
end Go.Proofs.YtfcnobcpnhfgmaaDoor

/- A cell of a law's, opened and shut. Conditions: none. -/
namespace Go.Proofs.YtfcnobcpnhfgmaaDoor
open Go.ChangeShapes Go.WideShapes Go.ChangeAt Go.RowKit Go.Joins

theorem cellsC : Tryd.prog.cellsOf 40 = 8 := by kernel_rfl
theorem cellsV3 : Tryd.prog.cellsOf 38 = 3 := by kernel_rfl
theorem cellsS1 : Tryd.prog.cellsOf 9 = 1 := by kernel_rfl
theorem cellsI1 : Tryd.prog.cellsOf 3 = 1 := by kernel_rfl
theorem array8 {α : Type} {cs : Array α} (h : cs.size = 8) : ∃ c0 c1 c2 c3 c4 c5 c6 c7, cs = #[c0, c1, c2, c3, c4, c5, c6, c7] := by
  obtain ⟨l⟩ := cs
  match l, h with
  | [c0, c1, c2, c3, c4, c5, c6, c7], _ => exact ⟨c0, c1, c2, c3, c4, c5, c6, c7, rfl⟩
section
variable {H : Type} {enc : TypeId × Value → H} {W : World} {sp : Nat → Bool}
set_option maxRecDepth 100000 in
/-- A cell that came in, opened. -/
theorem open_cell {r : Reach} {b0 b1 : Nat} {v : Value} {d : DataW H} {p : List MemPlace} (hv : Value.okWide Tryd.prog W r b0 40 v) (h : DataW.Trod enc Tryd.prog W b1 sp true 40 v d p) :
    ∃ (r f q : ByteArray) (t k vk vn : Int) (s : ByteArray), v = .agg #[.string r, .string f, .string q, .int .i64 t, .int .i64 k, .int .i64 vk, .int .i64 vn, .string s] ∧
      d = .agg [.lit (.string r.data.toList), .lit (.string f.data.toList), .lit (.string q.data.toList), .lit (.int .i64 t), .lit (.int .i64 k), .agg [.lit (.int .i64 vk), .lit (.int .i64 vn), .lit (.string s.data.toList)]] ∧ p = [] ∧
      r.size ≤ maxLen ∧ f.size ≤ maxLen ∧ q.size ≤ maxLen ∧ (Lit.int .i64 t).wf = true ∧ (Lit.int .i64 k).wf = true ∧ (Lit.int .i64 vk).wf = true ∧ (Lit.int .i64 vn).wf = true ∧ s.size ≤ maxLen := by
  obtain ⟨cs, rfl, hsz⟩ := okWide_struct Tryd.underlying40 hv
  obtain ⟨c0, c1, c2, c3, c4, c5, c6, c7, rfl⟩ := array8 (hsz.trans cellsC)
  obtain ⟨fuel, hf⟩ := h
  obtain ⟨xs, n, _, hx, _, hlen, hg⟩ := DataW.trod_struct Tryd.underlying40 hf
  match xs, hlen with
  | [y0, y1, y2, y3, y4, y5], _ =>
    have h0 := hg 0 _ rfl
    have h1 := hg 1 _ rfl
    have h2 := hg 2 _ rfl
    have h3 := hg 3 _ rfl
    have h4 := hg 4 _ rfl
    have h5 := hg 5 _ rfl
    simp [Value.cells, cellsS1, cellsI1, cellsV3] at h0 h1 h2 h3 h4 h5
    obtain ⟨r, e0, z0, w0⟩ := DataW.trod_string Tryd.underlying9 h0
    obtain ⟨f, e1, z1, w1⟩ := DataW.trod_string Tryd.underlying9 h1
    obtain ⟨q, e2, z2, w2⟩ := DataW.trod_string Tryd.underlying9 h2
    obtain ⟨t, e3, z3, w3⟩ := DataW.trod_int Tryd.underlying3 h3
    obtain ⟨k, e4, z4, w4⟩ := DataW.trod_int Tryd.underlying3 h4
    obtain ⟨ys, n', _, hx', _, hlen', hg'⟩ := DataW.trod_struct Tryd.underlying38 h5
    match ys, hlen' with
    | [u0, u1, u2], _ =>
      have g0 := hg' 0 _ rfl
      have g1 := hg' 1 _ rfl
      have g2 := hg' 2 _ rfl
      simp [cellsS1, cellsI1] at g0 g1 g2
      obtain ⟨vk, e5, z5, w5⟩ := DataW.trod_int Tryd.underlying3 g0
      obtain ⟨vn, e6, z6, w6⟩ := DataW.trod_int Tryd.underlying3 g1
      obtain ⟨s, e7, z7, w7⟩ := DataW.trod_string Tryd.underlying9 g2
      simp at e0 e1 e2 e3 e4 e5 e6 e7
      subst e0 e1 e2 e3 e4 e5 e6 e7
      simp only [Prod.mk.injEq] at hx hx'
      exact ⟨r, f, q, t, k, vk, vn, s, rfl, by simp_all, by simp_all, w0, w1, w2, w3, w4, w5, w6, w7⟩
end
end Go.Proofs.YtfcnobcpnhfgmaaDoor

/- A world in which the listed variables of layer 3's laws are laid, for the witness; what they give; a cell of the law's, shut. -/
namespace Go.Proofs.YtfcnobcpnhfgmaaDoor
open Go.ChangeShapes Go.WideShapes Go.ChangeAt Go.RowKit Go.Joins

theorem seat_own : ownKnob Tryd.prog.godebug = none := by kernel_rfl
theorem laid_out : laidOutB Tryd.prog = true := by kernel_rfl
def seatLaid5 : List (String × DataW Unit) := [("unicode/utf8.acceptRanges", Rows.laid_unicode_utf8_acceptRanges), ("bytes.ErrTooLarge", Rows.laid_bytes_ErrTooLarge), ("unicode/utf8.first", Rows.laid_unicode_utf8_first)]
theorem seat_met5 {W : World} (h : laidMetH Tryd.prog seatLaid5 W) : laidMet Tryd.prog seatLaid5 W := h
theorem accept_is : (Rows.laid_unicode_utf8_acceptRanges : DataW Unit) = Lib.acceptData := by kernel_rfl
theorem first_is : (Rows.laid_unicode_utf8_first : DataW Unit) = Lib.firstData := by kernel_rfl
theorem u8extra : U8Extra Tryd.prog Tryd.lays196_ren where
  n3 := by kernel_rfl
  n4 := by kernel_rfl
  y3 := by kernel_rfl
  y4 := by kernel_rfl
  c5 := by kernel_rfl
  c119 := by kernel_rfl
  c138 := by kernel_rfl
theorem laid_u {W : World} (h : laidMet Tryd.prog seatLaid5 W) : LaidU W := ⟨by
    have h3 := Lib.laidMet.reads h (n := "unicode/utf8.first") (d := Rows.laid_unicode_utf8_first) (by simp [seatLaid5])
    have h4 := Lib.laidMet.reads h (n := "unicode/utf8.acceptRanges") (d := Rows.laid_unicode_utf8_acceptRanges) (by simp [seatLaid5])
    rw [first_is] at h3
    rw [accept_is] at h4
    exact utf8Tabs_of_readsT (U8Types.of196 Tryd.lays196) u8extra h3 h4⟩

/-- A world for the witness: the settled one, one block more for the error's text, the listed variables holding what their initialisers lay. -/
noncomputable def laidWorld5 (os : Os) : World :=
  let w0 := World.holding Tryd.prog os ⟨#[.cells #[.string ⟨#[98, 121, 116, 101, 115, 46, 66, 117, 102, 102, 101, 114, 58, 32, 116, 111, 111, 32, 108, 97, 114, 103, 101]⟩] 216], #[], []⟩
  { w0 with heap := ((w0.heap.modify 3 fun
      | .cells _ t frozen => .cells #[.iface 202 (.pointer (some ⟨(World.settled Tryd.prog os).heap.size, 0, none⟩))] t frozen
      | o => o).modify 2 fun
      | .cells _ t frozen => .cells ((List.range 16).flatMap fun i => [Value.int .u8 (Lib.accLo i), Value.int .u8 (Lib.accHi i)]).toArray t frozen
      | o => o).modify 1 fun
      | .cells _ t frozen => .cells (Lib.firstTab.map fun z => Value.int .u8 z).toArray t frozen
      | o => o }
set_option maxRecDepth 1000000 in
theorem laid_met5 (os : Os) (args : Array Value) : laidMet Tryd.prog seatLaid5 ((laidWorld5 os).forCall (fun _ _ => 0) ⟨#[], args, []⟩).memory :=
  laidMet_of_run' 8 (by kernel_rfl) (by kernel_rfl)
theorem inI_of_wf {n : Int} (h : (Lit.int .i64 n).wf = true) : inI n := by
  unfold inI
  simp [Lit.wf] at h
  have h1 : IntKind.i64.min = -9223372036854775808 := rfl
  have h2 : IntKind.i64.max = 9223372036854775807 := rfl
  omega
theorem size_of {n : Nat} (h : n ≤ maxLen) : n ≤ 9223372036854775807 := by unfold maxLen at h; omega

section
variable {H : Type} {enc : TypeId × Value → H} {W : World} {sp : Nat → Bool}
set_option maxRecDepth 100000 in
/-- A cell that came in, shut. -/
theorem shut_cell (r f q : ByteArray) (t k vk vn : Int) (s : ByteArray) (w0 : r.size ≤ maxLen) (w1 : f.size ≤ maxLen) (w2 : q.size ≤ maxLen) (w3 : (Lit.int .i64 t).wf = true) (w4 : (Lit.int .i64 k).wf = true) (w5 : (Lit.int .i64 vk).wf = true) (w6 : (Lit.int .i64 vn).wf = true) (w7 : s.size ≤ maxLen) (b1 : Nat) :
    DataW.Trod enc Tryd.prog W b1 sp true 40 (.agg #[.string r, .string f, .string q, .int .i64 t, .int .i64 k, .int .i64 vk, .int .i64 vn, .string s]) (.agg [.lit (.string r.data.toList), .lit (.string f.data.toList), .lit (.string q.data.toList), .lit (.int .i64 t), .lit (.int .i64 k), .agg [.lit (.int .i64 vk), .lit (.int .i64 vn), .lit (.string s.data.toList)]]) [] := by
  have hv : DataW.trod enc Tryd.prog W b1 sp true 2 38 [.int .i64 vk, .int .i64 vn, .string s] = some (.agg [.lit (.int .i64 vk), .lit (.int .i64 vn), .lit (.string s.data.toList)], []) := by
    have := trod_struct_mk (enc := enc) (w := W) (base := b1) (spare := sp) (held := true) (n := 1) (cs := [.int .i64 vk, .int .i64 vn, .string s]) (xs := [(.lit (.int .i64 vk), []), (.lit (.int .i64 vn), []), (.lit (.string s.data.toList), [])]) Tryd.underlying38 (by simp [cellsV3]) (by simp [DataW.trod, Tryd.underlying3, Tryd.underlying9, cellsS1, cellsI1, w5, w6, w7])
    simpa using this
  have := trod_struct_mk (enc := enc) (w := W) (base := b1) (spare := sp) (held := true) (n := 2) (cs := [.string r, .string f, .string q, .int .i64 t, .int .i64 k, .int .i64 vk, .int .i64 vn, .string s]) (xs := [(.lit (.string r.data.toList), []), (.lit (.string f.data.toList), []), (.lit (.string q.data.toList), []), (.lit (.int .i64 t), []), (.lit (.int .i64 k), []), (.agg [.lit (.int .i64 vk), .lit (.int .i64 vn), .lit (.string s.data.toList)], [])]) Tryd.underlying40 (by simp [cellsC]) (by
      simp [cellsS1, cellsI1, cellsV3, hv]
      simp [DataW.trod, Tryd.underlying3, Tryd.underlying9, w0, w1, w2, w3, w4])
  exact ⟨3, by simpa [Value.cells] using this⟩
end
end Go.Proofs.YtfcnobcpnhfgmaaDoor

/- Lists of cells that came in, opened. Conditions: the reading's own reach. -/
namespace Go.Proofs.YtfcnobcpnhfgmaaDoor
open Go.ChangeShapes Go.WideShapes Go.ChangeAt Go.RowKit Go.Joins

theorem inI_of_wf2 {n : Int} (h : (Lit.int .i64 n).wf = true) : inI n := by
  unfold inI
  simp [Lit.wf] at h
  have h1 : IntKind.i64.min = -9223372036854775808 := rfl
  have h2 : IntKind.i64.max = 9223372036854775807 := rfl
  omega

section
variable {H : Type} {enc : TypeId × Value → H} {W : World} {sp : Nat → Bool}
set_option maxRecDepth 100000 in
/-- Eight words that read as a cell are one. -/
theorem cell_words {b1 fuel : Nat} {cs : List Value} {x : DataW H × List MemPlace} (hl : cs.length = 8) (hf : DataW.trod enc Tryd.prog W b1 sp true fuel 40 cs = some x) : ∃ c : CT, cs = c.e ∧ inI c.vn := by
  match cs, hl with
  | [c0, c1, c2, c3, c4, c5, c6, c7], _ =>
    obtain ⟨xs, n, _, hx, _, hlen, hg⟩ := DataW.trod_struct Tryd.underlying40 hf
    match xs, hlen with
    | [y0, y1, y2, y3, y4, y5], _ =>
      have h0 := hg 0 _ rfl
      have h1 := hg 1 _ rfl
      have h2 := hg 2 _ rfl
      have h3 := hg 3 _ rfl
      have h4 := hg 4 _ rfl
      have h5 := hg 5 _ rfl
      simp [cellsS1, cellsI1, cellsV3] at h0 h1 h2 h3 h4 h5
      obtain ⟨r, e0, z0, w0⟩ := DataW.trod_string Tryd.underlying9 h0
      obtain ⟨f, e1, z1, w1⟩ := DataW.trod_string Tryd.underlying9 h1
      obtain ⟨q, e2, z2, w2⟩ := DataW.trod_string Tryd.underlying9 h2
      obtain ⟨t, e3, z3, w3⟩ := DataW.trod_int Tryd.underlying3 h3
      obtain ⟨k, e4, z4, w4⟩ := DataW.trod_int Tryd.underlying3 h4
      obtain ⟨ys, n', _, hx', _, hlen', hg'⟩ := DataW.trod_struct Tryd.underlying38 h5
      match ys, hlen' with
      | [u0, u1, u2], _ =>
        have g0 := hg' 0 _ rfl
        have g1 := hg' 1 _ rfl
        have g2 := hg' 2 _ rfl
        simp [cellsS1, cellsI1] at g0 g1 g2
        obtain ⟨vk, e5, z5, w5⟩ := DataW.trod_int Tryd.underlying3 g0
        obtain ⟨vn, e6, z6, w6⟩ := DataW.trod_int Tryd.underlying3 g1
        obtain ⟨s, e7, z7, w7⟩ := DataW.trod_string Tryd.underlying9 g2
        simp at e0 e1 e2 e3 e4 e5 e6 e7
        subst e0 e1 e2 e3 e4 e5 e6 e7
        exact ⟨⟨r, f, q, t, k, vk, vn, s⟩, rfl, inI_of_wf2 w6⟩
theorem addr_at (b off n : Nat) : (⟨b, off, none⟩ : Addr).add n = ⟨b, off + n, none⟩ := by
  by_cases h : n = 0
  · subst h; rfl
  · simp [Addr.add, h]
theorem bind_some {α β : Type} {o : Option α} {g : α → Option β} {y : β} (h : o.bind g = some y) : ∃ x, o = some x ∧ g x = some y := by
  cases o with
  | none => cases h
  | some x => exact ⟨x, rfl, h⟩
/-- A choice for each of the first n numbers is a list. -/
theorem list_of {P : Nat → CT → Prop} : ∀ n : Nat, (∀ i, i < n → ∃ c, P i c) → ∃ l : List CT, l.length = n ∧ ∀ i (h : i < l.length), P i l[i]
  | 0, _ => ⟨[], rfl, fun i h => absurd h (by simp)⟩
  | n + 1, h => by
    obtain ⟨l, h1, h2⟩ := list_of n (fun i hi => h i (by omega))
    obtain ⟨c, hc⟩ := h n (by omega)
    refine ⟨l ++ [c], by simp [h1], fun i hi => ?_⟩
    rcases Nat.lt_or_ge i l.length with h3 | h3
    · rw [List.getElem_append_left h3]; exact h2 i h3
    · have : i = n := by simp at hi; omega
      subst this
      rw [List.getElem_append_right h3]
      simp only [h1, Nat.sub_self, List.getElem_cons_zero]
      exact hc
set_option maxRecDepth 100000 in
/-- A list of cells that came in. -/
theorem open_cla {r : Reach} {b0 b1 : Nat} {v : Value} {d : DataW H} {p : List MemPlace} (hv : Value.okWide Tryd.prog W r b0 22 v) (h : DataW.Trod enc Tryd.prog W b1 (fun _ => true) true 22 v d p) : ∃ l, ClA W v l ∧ ∀ c ∈ l, inI c.vn := by
  obtain ⟨a0, len, cap, rfl⟩ := okWide_slice Tryd.underlying22 hv
  obtain ⟨fuel, hf⟩ := h
  rcases DataW.trod_slice Tryd.underlying22 hf with ⟨hcs, hx⟩ | ⟨a, len', cap', elems, rest, n, hfu, hcs, hx, hb, hl, hm, he, hi, _, _⟩
  · simp [Value.cells] at hcs
    obtain ⟨rfl, rfl, rfl⟩ := hcs
    exact ⟨[], cla_nil W, fun c h => by cases h⟩
  · simp [Value.cells] at hcs
    obtain ⟨rfl, rfl, rfl⟩ := hcs
    rw [cellsC] at hi
    have hP : ∀ i, i < len → ∃ c : CT, (∀ j, j < 8 → W.cell? (a.add (i * 8 + j)) = c.e[j]?) ∧ inI c.vn := fun i hi' => by
      have h1 := hi i hi'
      rw [List.getElem?_eq_getElem (by omega)] at h1
      obtain ⟨cs, hcs, htr⟩ := bind_some h1
      obtain ⟨_, hlen, hcell⟩ := World.cells?_some hcs
      obtain ⟨c, rfl, hvn⟩ := cell_words hlen htr
      refine ⟨c, fun j hj => ?_, hvn⟩
      have := hcell j hj
      rw [Addr.add_add] at this
      exact this
    obtain ⟨l, hlen, hall⟩ := list_of len hP
    have hmx : cap ≤ 9223372036854775807 := by unfold maxLen at hm; omega
    refine ⟨l, ⟨some a, cap, by rw [hlen], by omega, hmx, fun h0 => ?_⟩, fun c hc => ?_⟩
    · obtain ⟨b, off, spot⟩ := a
      have h00 := (hall 0 h0).1 0 (by omega)
      have hspot : spot = none := by
        have h0' : W.cell? ((⟨b, off, spot⟩ : Addr).add 0) = some (.string l[0].r) := h00
        simpa [Addr.add] using World.cell?_spot h0'
      subst hspot
      refine ⟨b, off, rfl, fun i hi' j hj => ?_⟩
      have := (hall i hi').1 j hj
      rw [← this]
      rw [addr_at, Nat.add_assoc]
    · obtain ⟨i, hi', rfl⟩ := List.getElem_of_mem hc
      exact (hall i hi').2
end
end Go.Proofs.YtfcnobcpnhfgmaaDoor

/- codec.Key at every cell. Conditions: the texts are no longer than any are, the value's number is of 64 bits; the tables of utf8 read as they are laid. -/
namespace Go.Proofs.YtfcnobcpnhfgmaaDoor
open Go.RowKit

set_option maxRecDepth 100000 in
set_option maxHeartbeats 2000000 in
theorem key_no (r f q vs : ByteArray) (t k vk : Int) {vn : Int} (hn : inI vn) (hf : f.size ≤ 9223372036854775807) (hv : vs.size ≤ 9223372036854775807) (w : World) (hL : LaidU w) (hr : cRight r.data.toList f.data.toList q.data.toList t k vk vn vs.data.toList = false) :
    Calls Tryd.prog 44 #[cellV r f q t k vk vn vs] w fun e w' => e = .returned (.tuple #[.slice none 0 0, .bool false]) ∧ Below w.heap.size w w' := by
  have HR : Hid (∀ W, Below w.heap.size w W → Calls Tryd.prog 61 #[cellV r f q t k vk vn vs] W fun e w' => e = .returned (.bool false) ∧ Below W.heap.size W w') := fun W hW => by
    have := cright_any r f q vs t k vk hn hf hv W (hL.below hW)
    rwa [hr] at this
  clear hL hr
  go_enter Tryd.func44, Tryd.ntmps44
  go_wp2_with (go_at_call 61; refine (HR.out _ (below_new _ _)).mono ?_; rintro e w1 ⟨rfl, hb⟩)
  go_ret2
  exact ⟨rfl, (below_new _ _).trans (hb.mono (by simp))⟩

set_option maxRecDepth 100000 in
set_option maxHeartbeats 4000000 in
theorem key_yes (r f q vs : ByteArray) (t k vk : Int) {vn : Int} (hn : inI vn) (hf : f.size ≤ 9223372036854775807) (hv : vs.size ≤ 9223372036854775807) (w : World) (hL : LaidU w) (hr : cRight r.data.toList f.data.toList q.data.toList t k vk vn vs.data.toList = true) :
    Calls Tryd.prog 44 #[cellV r f q t k vk vn vs] w fun e w' => ∃ v, e = .returned (.tuple #[v, .bool true]) ∧ Row w' w.heap.size v (keyM r.data.toList f.data.toList q.data.toList t k) ∧ Below w.heap.size w w' := by
  obtain ⟨p1, p2, p3, p4, p5, p6, p7, p8, p9, pf, pv, pw⟩ := cright_parts hr
  have hr16 : r.size ≤ 16 := p2
  have hf8 : f.size ≤ 8 := p4
  have hq12 : q.size ≤ 12 := p5
  have HR : Hid (∀ W, Below w.heap.size w W → Calls Tryd.prog 61 #[cellV r f q t k vk vn vs] W fun e w' => e = .returned (.bool true) ∧ Below W.heap.size W w') := fun W hW => by
    have := cright_any r f q vs t k vk hn hf hv W (hL.below hW)
    rwa [hr] at this
  have HKy : Hid (∀ (W : World) (b : Nat), Wr W w.heap.size b [] → Calls Tryd.prog 92 #[.pointer (some ⟨b, 0, none⟩), cellV r f q t k vk vn vs] W fun e w' => e = .returned (.tuple #[]) ∧ Wr w' w.heap.size b (keyM r.data.toList f.data.toList q.data.toList t k) ∧ WF w.heap.size b W w') :=
    fun W b hW => wkey_any w.heap.size b r f q vs t k vk vn hr16 hf8 hq12 p6 p7 p8 p9 W hW (by have h1 := hW.1; have h2 := Wr.lt hW; omega)
  have HBL : Hid (∀ W W1 : World, W = w.alloc (.cells #[.string r, .string f, .string q, .int .i64 t, .int .i64 k, .int .i64 vk, .int .i64 vn, .string vs] 40) → Below W.heap.size W W1 → Blk (W1.alloc (.cells #[.slice none 0 0, .int .i64 0, .int .i8 0] 120)) w.heap.size 40 #[.string r, .string f, .string q, .int .i64 t, .int .i64 k, .int .i64 vk, .int .i64 vn, .string vs] ∧ w.heap.size < W1.heap.size ∧ Below w.heap.size w W1) := by
    intro W W1 e hb
    subst e
    have hz : w.heap.size < W1.heap.size := Nat.lt_of_lt_of_le (by simp) hb.size
    exact ⟨((Blk.new w _ _).keep hb (by simp)).keep (below_new _ _) hz, hz, (below_new _ _).trans (hb.mono (by simp))⟩
  clear hL hr p1 p2 p3 p4 p5 p6 p7 p8 p9 pf pv pw
  go_enter Tryd.func44, Tryd.ntmps44
  go_upto_region 4 with (go_at_call 61; refine (HR.out _ (below_new _ _)).mono ?_; rintro e w1 ⟨rfl, hb⟩; have HB1 := hid (HBL.out _ _ rfl hb); clear hb)
  obtain ⟨b, hb⟩ : ∃ b, w1.heap.size = b := ⟨_, rfl⟩
  refine wp_ltr (fun W => Hid (Wr W w.heap.size b [] ∧ Blk W w.heap.size 40 #[.string r, .string f, .string q, .int .i64 t, .int .i64 k, .int .i64 vk, .int .i64 vn, .string vs] ∧ w.heap.size < b ∧ Below w.heap.size w W) ∧ W.cell? ⟨w.heap.size, 0, none⟩ = some (.string r) ∧ W.cell? ⟨w.heap.size, 1, none⟩ = some (.string f) ∧ W.cell? ⟨w.heap.size, 2, none⟩ = some (.string q) ∧ W.cell? ⟨w.heap.size, 3, none⟩ = some (.int .i64 t) ∧ W.cell? ⟨w.heap.size, 4, none⟩ = some (.int .i64 k) ∧ W.cell? ⟨w.heap.size, 5, none⟩ = some (.int .i64 vk) ∧ W.cell? ⟨w.heap.size, 6, none⟩ = some (.int .i64 vn) ∧ W.cell? ⟨w.heap.size, 7, none⟩ = some (.string vs)) ?_ (fun W hW => ?_)
  · obtain ⟨B1, z1, bw1⟩ := HB1.out
    exact ⟨⟨by rw [← hb]; exact wr_new w1 _ (Nat.le_of_lt z1), B1, by omega, bw1.alloc (Nat.le_of_lt z1) _⟩, B1.cell 0, B1.cell 1, B1.cell 2, B1.cell 3, B1.cell 4, B1.cell 5, B1.cell 6, B1.cell 7⟩
  obtain ⟨HW, g0, g1, g2, g3, g4, g5, g6, g7⟩ := hW
  rw [hb]
  clear HB1 hb
  go_wp2_with (first
    | (go_at_call 92; refine (HKy.out W b HW.out.1).mono ?_; rintro e w2 ⟨rfl, h2, k2⟩; clear g0 g1 g2 g3 g4 g5 g6 g7)
    | (go_at_call 91; refine (wbytes_any _ _ _ _ h2).mono ?_; rintro e w3 ⟨v, rfl, h3, h4⟩))
  go_ret2
  have hz2 : w.heap.size ≤ w2.heap.size := Nat.le_trans HW.out.2.2.2.size k2.size
  exact ⟨_, rfl, h3, (HW.out.2.2.2.trans k2.below).trans (h4.mono hz2)⟩

end Go.Proofs.YtfcnobcpnhfgmaaDoor

/- The reader's number at any bytes: the number and what is left behind it, or the panic. Conditions: the reader holds the bytes. -/
namespace Go.Proofs.YtfcnobcpnhfgmaaDoor
open Go.RowKit

def NInv2 (w : World) (rb : Nat) (l : List UInt8) (vn vi : Value) (wr : World) : Prop :=
  ∃ (k n : Nat) (N i : Int) (t : List UInt8), Hid (k ≤ 9 ∧ i = (k : Int) ∧ N = (n : Int) ∧ n < 2 ^ (7 * k)) ∧ vn = .int .i64 N ∧ vi = .int .i64 i ∧ 0 ≤ i ∧
    tk l = (tkGo (9 - k) k t).map (fun p => (n + 2 ^ (7 * k) * p.1, p.2)) ∧ St wr rb t ∧ But w.heap.size rb w wr
def NEndO (w : World) (rb : Nat) : Option (Nat × List UInt8) → Ending → World → Prop
  | some p, e, w' => But w.heap.size rb w w' ∧ e = .returned (.int .i64 (p.1 : Int)) ∧ St w' rb p.2
  | none, e, w' => But w.heap.size rb w w' ∧ e = otherP
def NEnd (w : World) (rb : Nat) (l : List UInt8) (e : Ending) (w' : World) : Prop := NEndO w rb (tk l) e w'

set_option maxRecDepth 100000 in
set_option maxHeartbeats 1000000 in
theorem number_any (rb : Nat) (l : List UInt8) (w : World) (h : St w rb l) :
    Calls Tryd.prog 68 #[.pointer (some ⟨rb, 0, none⟩)] w (NEnd w rb l) := by
  go_enter Tryd.func68, Tryd.ntmps68
  go_wp2
  go_loopw [3, 6] (fun vn vi wr => NInv2 w rb l vn vi wr) (fun _ vi _ => 9 - (intOf vi).toNat)
  case atStart => exact ⟨0, 0, 0, 0, l, ⟨by omega, rfl, rfl, by decide⟩, rfl, rfl, by omega, by unfold tk; simp, h, But.refl _ _ _⟩
  case round =>
    obtain ⟨k, n, N, i, t, HK, rfl, rfl, hi, ht, hS, hb⟩ := hrel
    by_cases h9 : i < 9
    · have HO := hid (one_any rb t wr hS)
      clear hS
      cases t with
      | nil =>
        go_wp2_with (go_at_call 116; refine HO.out.mono ?_; rintro e w1 ⟨hb1, rfl⟩)
        refine ⟨rfl, ?_⟩
        have e : tk l = none := by
          rw [ht]
          cases 9 - k <;> rfl
        unfold NEnd
        rw [e]
        exact ⟨hb.trans (hb1.mono hb.size), rfl⟩
      | cons x t =>
        have hx := u8_lt x
        obtain ⟨y, hy⟩ : ∃ y : Int, ((x.toNat : Nat) : Int) = y := ⟨_, rfl⟩
        have HY := hid hy
        have HO : Hid (Calls Tryd.prog 116 #[.pointer (some ⟨rb, 0, none⟩)] wr fun e w' => But wr.heap.size rb wr w' ∧ e = .returned (.int .u8 y) ∧ St w' rb t) := by rw [← hy]; exact HO.out
        have hy0 : 0 ≤ y := by omega
        have hy1 : y < 256 := by omega
        have HV : Hid (k ≤ 8 ∧ bits .or .i64 N (wrap64 (wrap64 (bits .andNot .u8 y 128) * 2 ^ (7 * i).toNat)) = ((n + 2 ^ (7 * k) * (x.toNat % 128) : Nat) : Int)) := by
          obtain ⟨h1, h2, h3, h4⟩ := HK.out
          have hk8 : k ≤ 8 := by omega
          refine ⟨hk8, ?_⟩
          have hp : (2 : Nat) ^ (7 * k) ≤ 2 ^ 56 := Nat.pow_le_pow_right (by decide) (by omega)
          have hm : 2 ^ (7 * k) * (x.toNat % 128) ≤ 2 ^ 56 * 127 := Nat.mul_le_mul hp (by omega)
          have e1 : wrap64 (bits .andNot .u8 y 128) = ((x.toNat % 128 : Nat) : Int) := by
            rw [← hy, clear_top _ hx]; unfold wrap64; omega
          have e2 : (7 * i).toNat = 7 * k := by omega
          have e3 : ((x.toNat % 128 : Nat) : Int) * 2 ^ (7 * k) = ((2 ^ (7 * k) * (x.toNat % 128) : Nat) : Int) := by
            push_cast
            rw [Int.mul_comm]
          have e4 : wrap64 (((2 ^ (7 * k) * (x.toNat % 128) : Nat) : Int)) = ((2 ^ (7 * k) * (x.toNat % 128) : Nat) : Int) := by
            unfold wrap64; omega
          rw [e1, e2, e3, e4, h3]
          exact or_part n (x.toNat % 128) k h4 (by omega) hk8
        have HT := hid ht
        clear hy hx ht
        by_cases hA : y < 128
        · by_cases hz : y = 0
          · subst hz
            by_cases h0 : i = 0
            · subst h0
              go_wp2_with (first | (go_at_call 116; refine HO.out.mono ?_; rintro e w1 ⟨hb1, rfl, hS1⟩) | (go_at_call 117; refine (want_yes _ _).mono ?_; rintro e w2 ⟨rfl, rfl⟩))
              go_ret
              have hV := HV.out.2
              rw [show (2 : Int) ^ (7 * (0 : Int)).toNat = 1 from rfl, Int.mul_one] at hV
              rw [hV]
              obtain ⟨h1, h2, h3, h4⟩ := HK.out
              have hk : k = 0 := by omega
              have hY : x.toNat = 0 := by have := HY.out; omega
              have e : tk l = some (n + 2 ^ (7 * k) * (x.toNat % 128), t) := by
                rw [HT.out, hk, hY, show 9 - 0 = 8 + 1 by omega, tkGo, hY, if_pos (by omega), if_neg (by omega)]; rfl
              unfold NEnd
              rw [e]
              exact ⟨hb.trans (hb1.mono hb.size), rfl, hS1⟩
            · have hd := hid (show (i == 0) = false by simpa using h0)
              go_wp2_with (first | (go_at_call 116; refine HO.out.mono ?_; rintro e w1 ⟨hb1, rfl, hS1⟩) | (go_at_call 117; rw [hd.out]; refine (want_no _ _).mono ?_; rintro e w2 ⟨rfl, rfl⟩))
              refine ⟨rfl, ?_⟩
              obtain ⟨h1, h2, h3, h4⟩ := HK.out
              have hV := HV.out.1
              have hY : x.toNat = 0 := by have := HY.out; omega
              have e : tk l = none := by
                rw [HT.out, show 9 - k = (9 - (k + 1)) + 1 by omega, tkGo, hY, if_pos (by omega), if_pos (by omega)]; rfl
              unfold NEnd
              rw [e]
              exact ⟨hb.trans (hb1.mono hb.size), rfl⟩
          · go_wp2_with (first | (go_at_call 116; refine HO.out.mono ?_; rintro e w1 ⟨hb1, rfl, hS1⟩) | (go_at_call 117; refine (want_yes _ _).mono ?_; rintro e w2 ⟨rfl, rfl⟩))
            go_ret
            have hV := HV.out.2
            rw [hV]
            obtain ⟨h1, h2, h3, h4⟩ := HK.out
            have hk := HV.out.1
            have hY := HY.out
            have e : tk l = some (n + 2 ^ (7 * k) * (x.toNat % 128), t) := by
              rw [HT.out, show 9 - k = (9 - (k + 1)) + 1 by omega, tkGo, if_pos (by omega), if_neg (by omega)]
              simp only [Option.map_some, Option.some.injEq, Prod.mk.injEq, and_true]
              rw [Nat.mod_eq_of_lt (by omega : x.toNat < 128)]
            unfold NEnd
            rw [e]
            exact ⟨hb.trans (hb1.mono hb.size), rfl, hS1⟩
        · go_wp2_with (go_at_call 116; refine HO.out.mono ?_; rintro e w1 ⟨hb1, rfl, hS1⟩)
          go_roundw
          case rel =>
            obtain ⟨h1, h2, h3, h4⟩ := HK.out
            have hV := HV.out
            have hY := HY.out
            refine ⟨k + 1, n + 2 ^ (7 * k) * (x.toNat % 128), _, i + 1, t, ⟨by omega, by omega, hV.2, ?_⟩, rfl, rfl, by omega, ?_, hS1, hb.trans (hb1.mono hb.size)⟩
            · rw [show 7 * (k + 1) = 7 * k + 7 by omega, Nat.pow_add]
              have hm : 2 ^ (7 * k) * (x.toNat % 128) ≤ 2 ^ (7 * k) * 127 := Nat.mul_le_mul (Nat.le_refl _) (by omega)
              omega
            · rw [HT.out, show 9 - k = (9 - (k + 1)) + 1 by omega, tkGo, if_neg (by omega), Option.map_map]
              congr 1
              funext p
              simp only [Function.comp, Prod.mk.injEq, and_true]
              rw [show 7 * (k + 1) = 7 * k + 7 by omega, Nat.pow_add, Nat.mul_add, Nat.mul_assoc, Nat.add_assoc]
          case measure => simp [intOf]; omega
    · have HT := hid ht
      clear ht
      go_wp2
      refine ⟨rfl, ?_⟩
      have hk : k = 9 := by have := HK.out; omega
      have e := HT.out
      rw [hk] at e
      unfold NEnd
      rw [e]
      exact ⟨hb, rfl⟩
end Go.Proofs.YtfcnobcpnhfgmaaDoor

/- What holds does of a reading closure that ends or panics; bytes.Clone; codec.Take at any bytes. Conditions: the slice holds its bytes, a million at most. -/
namespace Go.Proofs.YtfcnobcpnhfgmaaDoor
open Go.RowKit

set_option maxHeartbeats 1000000 in
theorem catch_other (older : List PanicEntry) (w : World) :
    CallsD Tryd.prog 112 #[] (.panicking ({ v := .iface 136 (.agg #[]), recovered := false } :: older)) w fun e u' w' =>
      e = .returned (.tuple #[]) ∧ u' = .panicking ({ v := .iface 136 (.agg #[]), recovered := true } :: older) ∧ Below w.heap.size w w' := by
  have h1 : ∀ w : World, (binOp BinOp.eql 20 (.iface 136 (.agg #[])) .nilIface).run Tryd.prog w = .ok (.bool false) w := fun _ => by kernel_rfl
  have h2 : ∀ w : World, (Instr.typeAssert (.iface 136 (.agg #[])) 20 136 true).run Tryd.prog w = .ok (.tuple #[.agg #[], .bool true]) w := fun _ => by kernel_rfl
  refine callsD_of_wpS Tryd.func112 rfl fun c₀ cs hu => ?_
  apply wpS_seq
  apply wpS_region
  simp [wpOpsS, go_sem, recoverD, hu, Tryd.ntmps112, Exit.thenS]
  refine wpS_of_wp ?_
  simp only [Array.replicate_succ, Array.replicate_zero, List.push_toArray, List.nil_append, List.cons_append, List.setIfInBounds_toArray, List.set_cons_succ, List.set_cons_zero]
  clear hu
  go_wp2
  cases c₀
  simp_all [bodyPostS, results, Tryd.results112]
  exact below_new w _

theorem catch_none (w : World) :
    CallsD Tryd.prog 112 #[] .returning w fun e u' w' => e = .returned (.tuple #[]) ∧ u' = .returning ∧ w' = w := by
  refine callsD_of_wpS Tryd.func112 rfl fun c₀ cs hu => ?_
  apply wpS_seq
  apply wpS_region
  simp [wpOpsS, go_sem, recoverD, hu, Tryd.ntmps112, Exit.thenS]
  refine wpS_of_wp ?_
  simp only [Array.replicate_succ, Array.replicate_zero, List.push_toArray, List.nil_append, List.cons_append, List.setIfInBounds_toArray, List.set_cons_succ, List.set_cons_zero]
  go_wp2
  cases c₀
  simp_all [bodyPostS, results, Tryd.results112]

set_option maxHeartbeats 1000000 in
theorem clone_nil (c : Nat) (w : World) : Calls Tryd.prog 69 #[.slice none 0 c] w fun e w' => ∃ v, e = .returned v ∧ Row w' w.heap.size v [] ∧ Below w.heap.size w w' := by
  have q29 : ∀ (w : World) (a : Option Addr) (n c n' c' : Nat), (binOp .eql 26 (.slice a n c) (.slice none n' c')).run Tryd.prog w = .ok (.bool a.isNone) w := fun w a n c n' c' => Lib.run_eql_slice_nil w _ _ a n c n' c' Tryd.underlying26
  go_enter Tryd.func69, Tryd.ntmps69
  go_wp2
  go_ret
  exact ⟨_, rfl, Row.none _ _, Below.refl _ _⟩

set_option maxHeartbeats 1000000 in
theorem clone_some (ad : Addr) (c : Nat) (l : List UInt8) (hl : l.length ≤ 1000000) (w : World) (hc : ∀ j u, (bc l)[j]? = some u → w.cell? (ad.add j) = some u) :
    Calls Tryd.prog 69 #[.slice (some ad) l.length c] w fun e w' => ∃ v, e = .returned v ∧ Row w' w.heap.size v l ∧ Below w.heap.size w w' := by
  have hR : Hid (Row (w.alloc (.cells #[] 5)) w.heap.size (.slice (some ⟨w.heap.size, 0, none⟩) 0 0) []) := Row.new w w.heap.size (Nat.le_refl _) [] (by unfold maxLen; simp)
  have HC : Hid (∀ (o : Obj) (j : Nat) (u : Value), (bc l)[j]? = some u → (w.alloc o).cell? (ad.add j) = some u) := fun _ j u hu => Lib.cell?_alloc_some _ (hc j u hu)
  have HL := hid hl
  clear hc hl
  have q29 : ∀ (w : World) (a : Option Addr) (n c n' c' : Nat), (binOp .eql 26 (.slice a n c) (.slice none n' c')).run Tryd.prog w = .ok (.bool a.isNone) w := fun w a n c n' c' => Lib.run_eql_slice_nil w _ _ a n c n' c' Tryd.underlying26
  go_enter Tryd.func69, Tryd.ntmps69
  go_wp2_with (at_builtin; refine wpList_append_bytes rfl (.tmp 5) (.tmp 6) rfl _ w.heap.size _ [] rfl hR.out ad l.length c l rfl rfl (HC.out _) (by have := HL.out; simp only [List.length_nil]; omega) (by simp) ?_; intro v' w' hR' hb')
  go_ret
  exact ⟨_, rfl, hR', ((Below.refl _ _).alloc (Nat.le_refl _) _).trans hb'⟩

/-- bytes.Clone of a slice that holds l. -/
theorem clone_any (A : Option Addr) (c : Nat) (l : List UInt8) (hl : l.length ≤ 1000000) (w : World) (h : HoldsA w A l) :
    Calls Tryd.prog 69 #[.slice A l.length c] w fun e w' => ∃ v, e = .returned v ∧ Row w' w.heap.size v l ∧ Below w.heap.size w w' := by
  match A, h with
  | none, h =>
    have h0 : l = [] := by
      cases l with
      | nil => rfl
      | cons x t => obtain ⟨b, off, e, _⟩ := h (by simp); cases e
    subst h0
    exact clone_nil c w
  | some ad, h =>
    refine clone_some ad c l hl w fun j u hu => ?_
    have hj : j < l.length := by
      rcases Nat.lt_or_ge j l.length with h1 | h1
      · exact h1
      · rw [bc_at, List.getElem?_eq_none h1] at hu; cases hu
    obtain ⟨b, off, e, hh⟩ := h (by omega)
    cases e
    have h3 := hh j hj
    rw [add_zero_off]
    rw [h3, ← hu, bc_at, List.getElem?_eq_getElem hj, List.getD_eq_getElem?_getD, List.getElem?_eq_getElem hj]
    rfl

/-- What Take's closure leaves. -/
def CEndO (w : World) (rb : Nat) : Option (Nat × List UInt8) → Ending → World → Prop
  | some p, e, w' => Below rb w w' ∧ e = .returned (.tuple #[]) ∧ St w' rb p.2 ∧ w'.cell? ⟨rb + 1, 0, none⟩ = some (.int .i64 (p.1 : Int))
  | none, e, w' => Below rb w w' ∧ e = otherP
set_option maxHeartbeats 1000000 in
theorem takeclo_any (rb : Nat) (l : List UInt8) (w : World) (h : St w rb l) (hn : w.cell? ⟨rb + 1, 0, none⟩ = some (.int .i64 0)) (hf : w.frozen? ⟨rb + 1, 0, none⟩ = false) :
    Calls Tryd.prog 67 #[.pointer (some ⟨rb, 0, none⟩), .pointer (some ⟨rb + 1, 0, none⟩)] w (CEndO w rb (tk l)) := by
  have HN := number_any rb l w h
  have hlt := h.2.2
  have hlt2 := cell_lt hn
  unfold NEnd at HN
  cases hk : tk l with
  | none =>
    rw [hk] at HN
    have HN := hid HN
    clear h hk
    go_enter Tryd.func67, Tryd.ntmps67
    go_wp2_with (go_at_call 68; refine HN.out.mono ?_; rintro e w1 ⟨hb, rfl⟩)
    refine ⟨rfl, ?_⟩
    exact ⟨(hb.mono (Nat.le_of_lt hlt)).below (Nat.le_refl _), rfl⟩
  | some p =>
    rw [hk] at HN
    obtain ⟨n, t⟩ := p
    obtain ⟨y, hy⟩ : ∃ y : Int, (n : Int) = y := ⟨_, rfl⟩
    have HN : Hid (Calls Tryd.prog 68 #[.pointer (some ⟨rb, 0, none⟩)] w fun e w' => But w.heap.size rb w w' ∧ e = .returned (.int .i64 y) ∧ St w' rb t) := by rw [← hy]; exact HN
    have HY := hid hy
    clear h hk hy
    go_enter Tryd.func67, Tryd.ntmps67
    go_wp2_with (go_at_call 68; refine HN.out.mono ?_; rintro e w1 ⟨hb, rfl, hS⟩; have hc1 := (hb.cell hlt2 (by omega) 0).trans hn; have hf1 := (hb.frozen hlt2 (by omega) 0).trans hf)
    go_end0
    refine ⟨((hb.mono (Nat.le_of_lt hlt)).below (Nat.le_refl _)).setCell (p := ⟨rb + 1, 0, none⟩) (by simp) _, rfl, ?_, ?_⟩
    · exact hS.keep ((Below.refl _ _).setCell (p := ⟨rb + 1, 0, none⟩) (by simp) _)
    · rw [HY.out]; exact World.cell?_setCell_same' _ _ _ (by rw [hc1]; rfl)

set_option maxHeartbeats 1000000 in
/-- holds over Take's closure: it ended. -/
theorem holds_yes (rb : Nat) (t : List UInt8) (n : Nat) (w : World) (H : Calls Tryd.prog 67 #[.pointer (some ⟨rb, 0, none⟩), .pointer (some ⟨rb + 1, 0, none⟩)] w (CEndO w rb (some (n, t)))) :
    Calls Tryd.prog 62 #[.func (.func 67) #[] #[.pointer (some ⟨rb, 0, none⟩), .pointer (some ⟨rb + 1, 0, none⟩)]] w fun e w' => e = .returned (.bool true) ∧ Below rb w w' ∧ St w' rb t ∧ w'.cell? ⟨rb + 1, 0, none⟩ = some (.int .i64 (n : Int)) := by
  have H := hid H
  go_enter_defers Tryd.func62, Tryd.ntmps62
  go_wp2_with (go_at_call 67; refine H.out.mono ?_; rintro e w1 ⟨hb, rfl, hS, hc⟩)
  refine leaves_cons (f := 112) (args := #[]) (by simp) (by simp [go_sem]) ?_
  refine (catch_none _).mono ?_
  rintro e u' w2 ⟨rfl, rfl, rfl⟩
  simp only [Leaves, settle, results, Tryd.results62, go_sem]
  simp
  exact ⟨hb, hS, hc⟩

set_option maxHeartbeats 1000000 in
/-- holds over Take's closure: it met something else. -/
theorem holds_no (rb : Nat) (w : World) (hlt : rb < w.heap.size) (H : Calls Tryd.prog 67 #[.pointer (some ⟨rb, 0, none⟩), .pointer (some ⟨rb + 1, 0, none⟩)] w (CEndO w rb none)) :
    Calls Tryd.prog 62 #[.func (.func 67) #[] #[.pointer (some ⟨rb, 0, none⟩), .pointer (some ⟨rb + 1, 0, none⟩)]] w fun e w' => e = .returned (.bool false) ∧ Below rb w w' := by
  have H := hid H
  go_enter_defers Tryd.func62, Tryd.ntmps62
  go_wp2_with (go_at_call 67; refine H.out.mono ?_; rintro e w1 ⟨hb, rfl⟩)
  refine leaves_cons (f := 112) (args := #[]) (by simp) (by simp [go_sem]) ?_
  refine (catch_other [] _).mono ?_
  rintro e u' w2 ⟨rfl, rfl, hb2⟩
  simp [Leaves, settle, results, Tryd.results62, go_sem]
  exact hb.trans (hb2.mono (Nat.le_trans (Nat.le_of_lt hlt) hb.size))

/-- What Take answers. -/
def TEndO (w : World) : Option (Nat × List UInt8) → Ending → World → Prop
  | some p, e, w' => ∃ v, e = .returned (.tuple #[.int .i64 (p.1 : Int), v, .bool true]) ∧ Row w' w.heap.size v p.2 ∧ Below w.heap.size w w'
  | none, e, w' => e = .returned (.tuple #[.int .i64 0, .slice none 0 0, .bool false]) ∧ Below w.heap.size w w'

/-- Where the reader and its number stand, in a world behind the beginning. -/
abbrev TkS (w : World) (n : Int) (A : Option Addr) (m c : Nat) (w' : World) : Prop :=
  Hid (Below w.heap.size w w' ∧ w.heap.size + 1 < w'.heap.size) ∧ w'.cell? ⟨w.heap.size + 1, 0, none⟩ = some (.int .i64 n) ∧ w'.cell? ⟨w.heap.size, 0, none⟩ = some (.slice A m c)
section
variable {w W W' : World} {n : Int} {A : Option Addr} {m c : Nat}
theorem tk_drew (h : TkS w n A m c W) : TkS w n A m c W.drew := ⟨hid ⟨h.1.out.1.drew, h.1.out.2⟩, h.2⟩
theorem tk_call (h : TkS w n A m c W) (hb : Below W.heap.size W W') : TkS w n A m c W' := by
  obtain ⟨hh, h1, h2⟩ := h
  have hz := hh.out.2
  exact ⟨hid ⟨hh.out.1.trans (hb.mono (by omega)), Nat.lt_of_lt_of_le hz hb.size⟩, (hb.cell (p := ⟨w.heap.size + 1, 0, none⟩) hz).trans h1, (hb.cell (p := ⟨w.heap.size, 0, none⟩) (show w.heap.size < W.heap.size by omega)).trans h2⟩
end
theorem two_cells (w : World) (x y : Value) (T U : TypeId) : let W := (w.alloc (.cells #[x] T)).alloc (.cells #[y] U)
    W.cell? ⟨w.heap.size, 0, none⟩ = some x ∧ W.cell? ⟨w.heap.size + 1, 0, none⟩ = some y ∧ W.frozen? ⟨w.heap.size, 0, none⟩ = false ∧ W.frozen? ⟨w.heap.size + 1, 0, none⟩ = false ∧ W.heap.size = w.heap.size + 2 ∧ Below w.heap.size w W := by
  have b1 : Blk (w.alloc (.cells #[x] T)) w.heap.size T #[x] := Blk.new w T #[x]
  have b2 : Blk ((w.alloc (.cells #[x] T)).alloc (.cells #[y] U)) (w.heap.size + 1) U #[y] := by have := Blk.new (w.alloc (.cells #[x] T)) U #[y]; simpa using this
  have b3 := b1.keep (below_new (w.alloc (.cells #[x] T)) (.cells #[y] U)) (by simp)
  exact ⟨b3.cell 0, b2.cell 0, b3.free 0, b2.free 0, by simp, (below_new w _).alloc (by simp) _⟩

set_option maxHeartbeats 1000000 in
theorem take_no (A : Option Addr) (m c : Nat) (w : World)
    (HH : Calls Tryd.prog 62 #[.func (.func 67) #[] #[.pointer (some ⟨w.heap.size, 0, none⟩), .pointer (some ⟨w.heap.size + 1, 0, none⟩)]] ((w.alloc (.cells #[.slice A m c] 83)).alloc (.cells #[.int .i64 0] 3)) fun e w' => e = .returned (.bool false) ∧ Below w.heap.size ((w.alloc (.cells #[.slice A m c] 83)).alloc (.cells #[.int .i64 0] 3)) w') :
    Calls Tryd.prog 24 #[.slice A m c] w (TEndO w none) := by
  have hmf : ∀ (fn : Fn) (first cap : Array Value) (w : World), (Instr.makeFunc fn first cap).run Tryd.prog w = .ok (.func fn first cap) w := fun _ _ _ _ => rfl
  have HH := hid HH
  go_enter Tryd.func24, Tryd.ntmps24
  go_wp2_with (go_at_call 62; refine HH.out.mono ?_; rintro e w1 ⟨rfl, hb⟩)
  go_wp2
  refine bodyPost_ret (results_tmp3 rfl _ _ _) rfl ?_
  exact ⟨rfl, ((below_new w _).alloc (by simp) _).trans hb⟩

set_option maxHeartbeats 1000000 in
theorem take_yes (A : Option Addr) (m c n : Nat) (t : List UInt8) (ht : t.length ≤ 1000000) (w : World)
    (HH : Calls Tryd.prog 62 #[.func (.func 67) #[] #[.pointer (some ⟨w.heap.size, 0, none⟩), .pointer (some ⟨w.heap.size + 1, 0, none⟩)]] ((w.alloc (.cells #[.slice A m c] 83)).alloc (.cells #[.int .i64 0] 3)) fun e w' => e = .returned (.bool true) ∧ Below w.heap.size ((w.alloc (.cells #[.slice A m c] 83)).alloc (.cells #[.int .i64 0] 3)) w' ∧ St w' w.heap.size t ∧ w'.cell? ⟨w.heap.size + 1, 0, none⟩ = some (.int .i64 (n : Int))) :
    Calls Tryd.prog 24 #[.slice A m c] w (TEndO w (some (n, t))) := by
  have hmf : ∀ (fn : Fn) (first cap : Array Value) (w : World), (Instr.makeFunc fn first cap).run Tryd.prog w = .ok (.func fn first cap) w := fun _ _ _ _ => rfl
  obtain ⟨y, hy⟩ : ∃ y : Int, (n : Int) = y := ⟨_, rfl⟩
  rw [hy] at HH
  unfold TEndO
  simp only [hy]
  have HH : Hid (Calls Tryd.prog 62 #[.func (.func 67) #[] #[.pointer (some ⟨w.heap.size, 0, none⟩), .pointer (some ⟨w.heap.size + 1, 0, none⟩)]] ((w.alloc (.cells #[.slice A m c] 83)).alloc (.cells #[.int .i64 0] 3)) fun e w' => e = .returned (.bool true) ∧ ∃ A' c', TkS w y A' t.length c' w' ∧ Hid (HoldsA w A' t)) := by
    refine HH.mono ?_
    rintro e w' ⟨he, hb, ⟨⟨v, h1, A', c', rfl, h2, h3, h4⟩, h5, h6⟩, h7⟩
    have hB := ((below_new w (.cells #[.slice A m c] 83)).alloc (by simp) (.cells #[.int .i64 0] 3)).trans hb
    refine ⟨he, A', c', ⟨⟨hB, cell_lt h7⟩, h7, h1⟩, fun hl => ?_⟩
    obtain ⟨b, off, e1, e2, e3⟩ := h4 hl
    exact ⟨b, off, e1, fun i hi => by rw [← hB.cell (p := ⟨b, off + i, none⟩) e2]; exact e3 i hi⟩
  have HC : Hid (∀ (A' : Option Addr) (c' : Nat) (W : World), HoldsA w A' t → Below w.heap.size w W → Calls Tryd.prog 69 #[.slice A' t.length c'] W fun e w' => ∃ v, e = .returned v ∧ Row w' W.heap.size v t ∧ Below W.heap.size W w') := by
    intro A' c' W h hb
    refine clone_any A' c' t ht W fun hl => ?_
    obtain ⟨b, off, e1, e3⟩ := h hl
    exact ⟨b, off, e1, e3.below hb (e3.lt hl)⟩
  clear hy ht
  go_enter Tryd.func24, Tryd.ntmps24
  go_wp2_with (go_at_call 62; refine HH.out.mono ?_; rintro e w1 ⟨rfl, A', c', hS, hA⟩)
  have HN := hid hS
  obtain ⟨_, p0, p1⟩ := hS
  go_region_held3 (fun w' => Hid (Below w.heap.size w w' ∧ w.heap.size + 1 < w'.heap.size) ∧ w'.cell? ⟨w.heap.size + 1, 0, none⟩ = some (.int .i64 y) ∧ w'.cell? ⟨w.heap.size, 0, none⟩ = some (.slice A' t.length c'))
    (first | exact HN.out | exact tk_drew HN.out | exact tk_call (by assumption) hbo | exact tk_drew (by assumption) | assumption)
    ((go_at_call 69; ((with_reducible refine (HC.out _ _ _ hA.out ?_).mono ?_); (first | exact HN.out.1.out.1 | exact HN.out.1.out.1.drew); rintro e w5 ⟨v, rfl, hR, hbo⟩)))
  rename_i hHeld
  go_wp2
  refine bodyPost_ret (results_tmp3 rfl _ _ _) rfl ?_
  exact ⟨_, rfl, hR.le HN.1.out.1.size, hHeld.1.out.1⟩

theorem take_any (A : Option Addr) (c : Nat) (l : List UInt8) (hl : l.length ≤ 1000000) (hc : l.length ≤ c) (hc2 : c ≤ 9223372036854775807) (w : World) (h : HoldsA w A l) :
    Calls Tryd.prog 24 #[.slice A l.length c] w (TEndO w (tk l)) := by
  obtain ⟨h1, h2, h3, h4, h5, h6⟩ := two_cells w (.slice A l.length c) (.int .i64 0) 83 3
  have hS : St ((w.alloc (.cells #[.slice A l.length c] 83)).alloc (.cells #[.int .i64 0] 3)) w.heap.size l := by
    refine ⟨⟨_, h1, A, c, rfl, hc, hc2, fun h0 => ?_⟩, h3, by rw [h5]; omega⟩
    obtain ⟨b, off, e1, e2⟩ := h h0
    exact ⟨b, off, e1, e2.lt h0, e2.below h6 (e2.lt h0)⟩
  have H := takeclo_any w.heap.size l _ hS h2 h4
  cases hk : tk l with
  | none =>
    rw [hk] at H
    exact take_no A l.length c w ((holds_no w.heap.size _ hS.2.2 H).mono fun e w' ⟨he, hb⟩ => ⟨he, hb⟩)
  | some p =>
    obtain ⟨n, t⟩ := p
    rw [hk] at H
    obtain ⟨k, _, _, _, ht, _⟩ := tkGo_rest _ _ _ _ _ hk
    exact take_yes A l.length c n t (by rw [ht, List.length_drop]; omega) w (holds_yes w.heap.size t n _ H)
end Go.Proofs.YtfcnobcpnhfgmaaDoor

/- The reader's text, its two bytes and its time, at any bytes: each ends in what it reads or in the panic that tells of something else. Conditions: the reader holds the bytes, a hundred thousand at most. -/
namespace Go.Proofs.YtfcnobcpnhfgmaaDoor
open Go.RowKit

theorem Row.but {w w' : World} {B rb : Nat} {v : Value} {l : List UInt8} (h : Row w B v l) (hb : But w.heap.size rb w w') (hr : rb < B) : Row w' B v l := by
  obtain ⟨h1, h2⟩ := h
  refine ⟨h1, ?_⟩
  rcases h2 with h2 | ⟨g, cap, cur, rfl, hB, hh, h3⟩
  · exact .inl h2
  · have hg : g < w.heap.size := by
      rcases Nat.lt_or_ge g w.heap.size with h' | h'
      · exact h'
      · rw [Array.getElem?_eq_none h'] at hh; cases hh
    exact .inr ⟨g, cap, cur, rfl, hB, by rw [hb.block g hg (by omega)]; exact hh, h3⟩
def lenAt (rb : Nat) (w : World) : Nat := match w.cell? ⟨rb, 0, none⟩ with | some (.slice _ m _) => m | _ => 0
theorem St.len {w : World} {rb : Nat} {l : List UInt8} (h : St w rb l) : lenAt rb w = l.length := by
  obtain ⟨⟨v, h1, A, c, rfl, _⟩, _⟩ := h
  unfold lenAt
  rw [h1]

def TxEnd (w : World) (rb : Nat) : Option (List UInt8 × List UInt8) → Ending → World → Prop
  | some p, e, w' => But w.heap.size rb w w' ∧ e = .returned (.string ⟨p.1.toArray⟩) ∧ St w' rb p.2
  | none, e, w' => But w.heap.size rb w w' ∧ e = otherP
theorem one_cons (rb : Nat) (x : UInt8) (t : List UInt8) (w : World) (h : St w rb (x :: t)) (y : Int) (hy : (x.toNat : Int) = y) :
    Calls Tryd.prog 116 #[.pointer (some ⟨rb, 0, none⟩)] w fun e w' => But w.heap.size rb w w' ∧ e = .returned (.int .u8 y) ∧ St w' rb t := by
  rw [← hy]; exact one_any rb (x :: t) w h

set_option maxRecDepth 100000 in
set_option maxHeartbeats 2000000 in
theorem rtext_any (rb : Nat) (l : List UInt8) (hl : l.length ≤ 100000) (w : World) (h : St w rb l) :
    Calls Tryd.prog 113 #[.pointer (some ⟨rb, 0, none⟩)] w (TxEnd w rb (rdT l)) := by
  have hlt := h.2.2
  have HLT := hid hlt
  go_enter Tryd.func113, Tryd.ntmps113
  go_wp2
  go_loopw [3] (fun vb wr => ∃ (s t : List UInt8), Row wr w.heap.size vb s ∧ Hid (rdT l = (rdT t).map fun p => (s ++ p.1, p.2)) ∧ Hid (St wr rb t) ∧ Hid (But w.heap.size rb w wr) ∧ Hid (s.length + t.length ≤ 100000)) (fun _ wr => lenAt rb wr)
  case atStart => exact ⟨[], l, Row.none _ _, by unfold Hid; cases rdT l <;> simp, h, But.refl _ _ _, by unfold Hid; simp; omega⟩
  case round =>
    obtain ⟨s, t, hR, HT, HS, HB, HL⟩ := hrel
    have HR := hid hR
    clear hR
    cases t with
    | nil =>
      have HO := hid (one_any rb [] wr HS.out)
      go_wp2_with (go_at_call 116; refine HO.out.mono ?_; rintro e w1 ⟨hb1, rfl⟩)
      refine ⟨rfl, ?_⟩
      rw [HT.out]
      exact ⟨HB.out.trans (hb1.mono HB.out.size), rfl⟩
    | cons x t =>
      by_cases hx : x = 0
      · subst hx
        have HO := hid (one_cons rb 0 t wr HS.out 0 rfl)
        cases t with
        | nil =>
          have HO2 : Hid (∀ W, St W rb [] → Calls Tryd.prog 116 #[.pointer (some ⟨rb, 0, none⟩)] W (OneEnd W rb [])) := fun W h => one_any rb [] W h
          go_wp2_with (first
            | (go_at_call 116; ((with_reducible refine HO.out.mono ?_); rintro e w1 ⟨hb1, rfl, hS1⟩))
            | (go_at_call 116; ((with_reducible refine (HO2.out _ hS1).mono ?_); rintro e w2 ⟨hb2, rfl⟩)))
          refine ⟨rfl, ?_⟩
          rw [HT.out]
          exact ⟨HB.out.trans ((hb1.trans (hb2.mono hb1.size)).mono HB.out.size), rfl⟩
        | cons y t =>
          obtain ⟨z, hz⟩ : ∃ z : Int, (y.toNat : Int) = z := ⟨_, rfl⟩
          have HZ := hid hz
          have HO2 : Hid (∀ W, St W rb (y :: t) → Calls Tryd.prog 116 #[.pointer (some ⟨rb, 0, none⟩)] W fun e w' => But W.heap.size rb W w' ∧ e = .returned (.int .u8 z) ∧ St w' rb t) := fun W h => one_cons rb y t W h z hz
          clear hz
          by_cases h1 : z = 1
          · subst h1
            have hcv : Hid (∀ W, Row W w.heap.size u3 s → (convert 26 9 u3).run Tryd.prog W = .ok (.string ⟨s.toArray⟩) W) := fun W h => row_convert h
            go_wp2_with (first
              | (go_at_call 116; ((with_reducible refine HO.out.mono ?_); rintro e w1 ⟨hb1, rfl, hS1⟩))
              | (go_at_call 116; ((with_reducible refine (HO2.out _ hS1).mono ?_); rintro e w2 ⟨hb2, rfl, hS2⟩; have hq := hcv.out w2 ((HR.out.but hb1 HLT.out).but hb2 HLT.out))))
            go_ret
            have e1 : y = 1 := UInt8.toNat_inj.1 (by have := HZ.out; have z : (1 : UInt8).toNat = 1 := rfl; omega)
            rw [HT.out, rdT, if_pos rfl, if_pos e1]
            refine ⟨HB.out.trans ((hb1.trans (hb2.mono hb1.size)).mono HB.out.size), ?_, hS2⟩
            simp
          · by_cases h2 : z = 255
            · subst h2
              go_wp2_with (first
                | (go_at_call 116; ((with_reducible refine HO.out.mono ?_); rintro e w1 ⟨hb1, rfl, hS1⟩))
                | (go_at_call 116; ((with_reducible refine (HO2.out _ hS1).mono ?_); rintro e w2 ⟨hb2, rfl, hS2⟩))
                | (go_at_call 117; refine (want_yes _ _).mono ?_; rintro e w3 ⟨rfl, rfl⟩)
                | (at_builtin; refine wpList_append_bytes rfl (.tmp 20) (.tmp 22) rfl _ w.heap.size _ s rfl (((HR.out.but hb1 HLT.out).but hb2 HLT.out).alloc _) ⟨w2.heap.size, 0, none⟩ 1 1 [0] rfl rfl (one_new' _ _ _ _ rfl) (by have := HL.out; simp only [List.length_cons, List.length_nil] at this ⊢; omega) (by have := HB.out.size; have := hb1.size; have := hb2.size; simp; omega) ?_; intro v1 w4 hR1 hb4))
              go_roundw
              case rel =>
                have hz1 : w.heap.size ≤ wr.heap.size := HB.out.size
                have hz2 : w.heap.size ≤ w2.heap.size := Nat.le_trans hz1 (Nat.le_trans hb1.size hb2.size)
                have hk4 : Below w.heap.size w2 w4 := ((Below.refl _ _).alloc hz2 _).trans hb4
                have e1 : y = 255 := UInt8.toNat_inj.1 (by have := HZ.out; have z : (255 : UInt8).toNat = 255 := rfl; omega)
                refine ⟨s ++ [0], t, hR1, ?_, hS2.keep (hk4.mono HLT.out), (HB.out.trans ((hb1.trans (hb2.mono hb1.size)).mono hz1)).trans (But.of_below hk4 rb), ?_⟩
                · unfold Hid
                  rw [HT.out, rdT, if_pos rfl, if_neg (by rw [e1]; decide), if_pos e1, Option.map_map]
                  congr 1
                  funext p
                  simp
                · have := HL.out
                  unfold Hid
                  simp only [List.length_append, List.length_cons, List.length_nil] at this ⊢
                  omega
              case measure =>
                have hz1 : w.heap.size ≤ wr.heap.size := HB.out.size
                have hz2 : w.heap.size ≤ w2.heap.size := Nat.le_trans hz1 (Nat.le_trans hb1.size hb2.size)
                have hk4 : Below w.heap.size w2 w4 := ((Below.refl _ _).alloc hz2 _).trans hb4
                rw [HS.out.len, (St.keep hS2 (hk4.mono HLT.out)).len]
                simp only [List.length_cons]
                omega
            · have q1 : (z == 1) = false := by simpa using h1
              have q2 : (z == 255) = false := by simpa using h2
              go_wp2_with (first
                | (go_at_call 116; ((with_reducible refine HO.out.mono ?_); rintro e w1 ⟨hb1, rfl, hS1⟩))
                | (go_at_call 116; ((with_reducible refine (HO2.out _ hS1).mono ?_); rintro e w2 ⟨hb2, rfl, hS2⟩))
                | (go_at_call 117; refine (want_no _ _).mono ?_; rintro e w3 ⟨rfl, rfl⟩))
              refine ⟨rfl, ?_⟩
              have e1 : ¬ y = 1 := fun e => h1 (by rw [← HZ.out, e]; rfl)
              have e2 : ¬ y = 255 := fun e => h2 (by rw [← HZ.out, e]; rfl)
              rw [HT.out, rdT, if_pos rfl, if_neg e1, if_neg e2]
              exact ⟨HB.out.trans ((hb1.trans (hb2.mono hb1.size)).mono HB.out.size), rfl⟩
      · obtain ⟨z, hz⟩ : ∃ z : Int, (x.toNat : Int) = z := ⟨_, rfl⟩
        have HZ := hid hz
        have HO := hid (one_cons rb x t wr HS.out z hz)
        have q0 : (z == 0) = false := by
          have : ¬ x.toNat = 0 := fun e => hx (UInt8.toNat_inj.1 e)
          simp; omega
        clear hz
        go_wp2_with (first
          | (go_at_call 116; ((with_reducible refine HO.out.mono ?_); rintro e w1 ⟨hb1, rfl, hS1⟩))
          | (at_builtin; refine wpList_append_bytes rfl (.tmp 20) (.tmp 22) rfl _ w.heap.size _ s rfl ((HR.out.but hb1 HLT.out).alloc _) ⟨w1.heap.size, 0, none⟩ 1 1 [x] rfl rfl (one_new' _ _ _ _ HZ.out.symm) (by have := HL.out; simp only [List.length_cons, List.length_nil] at this ⊢; omega) (by have := HB.out.size; have := hb1.size; simp; omega) ?_; intro v1 w4 hR1 hb4))
        go_roundw
        case rel =>
          have hz1 : w.heap.size ≤ wr.heap.size := HB.out.size
          have hz2 : w.heap.size ≤ w1.heap.size := Nat.le_trans hz1 hb1.size
          have hk4 : Below w.heap.size w1 w4 := ((Below.refl _ _).alloc hz2 _).trans hb4
          refine ⟨s ++ [x], t, hR1, ?_, hS1.keep (hk4.mono HLT.out), (HB.out.trans (hb1.mono hz1)).trans (But.of_below hk4 rb), ?_⟩
          · unfold Hid
            rw [HT.out, rdT_other hx, Option.map_map]
            congr 1
            funext p
            simp
          · have := HL.out
            unfold Hid
            simp only [List.length_append, List.length_cons, List.length_nil] at this ⊢
            omega
        case measure =>
          have hz1 : w.heap.size ≤ wr.heap.size := HB.out.size
          have hz2 : w.heap.size ≤ w1.heap.size := Nat.le_trans hz1 hb1.size
          have hk4 : Below w.heap.size w1 w4 := ((Below.refl _ _).alloc hz2 _).trans hb4
          rw [HS.out.len, (St.keep hS1 (hk4.mono HLT.out)).len]
          simp
end Go.Proofs.YtfcnobcpnhfgmaaDoor

/- The reader's two bytes of nothing and its time, at any bytes. Conditions: the reader holds the bytes. -/
namespace Go.Proofs.YtfcnobcpnhfgmaaDoor
open Go.RowKit

def SkEnd (w : World) (rb : Nat) (l : List UInt8) (e : Ending) (w' : World) : Prop :=
  (∃ r, l = 0 :: 0 :: r ∧ e = .returned (.bool true) ∧ St w' rb r ∧ But w.heap.size rb w w') ∨ ((∀ r, l ≠ 0 :: 0 :: r) ∧ e = .returned (.bool false) ∧ St w' rb l ∧ But w.heap.size rb w w')

set_option maxRecDepth 100000 in
set_option maxHeartbeats 2000000 in
theorem skip_short (rb m c : Nat) (A : Option Addr) (hm : m < 2) (w : World) (h0 : w.cell? ⟨rb, 0, none⟩ = some (.slice A m c)) :
    Calls Tryd.prog 114 #[.pointer (some ⟨rb, 0, none⟩), .int .u8 0, .int .u8 0] w fun e w' => e = .returned (.bool false) ∧ w = w' := by
  go_enter Tryd.func114, Tryd.ntmps114
  go_wp2
  go_ret
  exact ⟨rfl, rfl⟩

set_option maxRecDepth 100000 in
set_option maxHeartbeats 2000000 in
theorem skip_one (rb b off m c x : Nat) (hm : 2 ≤ m) (_hmc : m ≤ c) (_hc : c ≤ 9223372036854775807) (hx : ¬ x = 0) (w : World) (h0 : w.cell? ⟨rb, 0, none⟩ = some (.slice (some ⟨b, off, none⟩) m c)) (h1 : w.cell? ⟨b, off, none⟩ = some (.int .u8 (x : Int))) :
    Calls Tryd.prog 114 #[.pointer (some ⟨rb, 0, none⟩), .int .u8 0, .int .u8 0] w fun e w' => e = .returned (.bool false) ∧ w = w' := by
  have q0 : ((x : Int) == 0) = false := by simp; omega
  have q1 : ((x : Int) != 0) = true := by simp; omega
  go_enter Tryd.func114, Tryd.ntmps114
  go_wp2
  go_ret
  exact ⟨rfl, rfl⟩

set_option maxRecDepth 100000 in
set_option maxHeartbeats 2000000 in
theorem skip_two (rb b off m c y : Nat) (hm : 2 ≤ m) (_hmc : m ≤ c) (_hc : c ≤ 9223372036854775807) (hy : ¬ y = 0) (w : World) (h0 : w.cell? ⟨rb, 0, none⟩ = some (.slice (some ⟨b, off, none⟩) m c)) (h1 : w.cell? ⟨b, off, none⟩ = some (.int .u8 0)) (h2 : w.cell? ⟨b, off + 1, none⟩ = some (.int .u8 (y : Int))) :
    Calls Tryd.prog 114 #[.pointer (some ⟨rb, 0, none⟩), .int .u8 0, .int .u8 0] w fun e w' => e = .returned (.bool false) ∧ w = w' := by
  have q0 : ((y : Int) == 0) = false := by simp; omega
  have q1 : ((y : Int) != 0) = true := by simp; omega
  go_enter Tryd.func114, Tryd.ntmps114
  go_wp2
  go_ret
  exact ⟨rfl, rfl⟩

set_option maxRecDepth 100000 in
set_option maxHeartbeats 2000000 in
theorem skip_in (rb b off m c : Nat) (hm : 2 ≤ m) (_hmc : m ≤ c) (hc2 : 2 < c) (hc : c ≤ 9223372036854775807) (_hne : b ≠ rb) (w : World) (h0 : w.cell? ⟨rb, 0, none⟩ = some (.slice (some ⟨b, off, none⟩) m c)) (hf : w.frozen? ⟨rb, 0, none⟩ = false) (h1 : w.cell? ⟨b, off, none⟩ = some (.int .u8 0)) (h2 : w.cell? ⟨b, off + 1, none⟩ = some (.int .u8 0)) :
    Calls Tryd.prog 114 #[.pointer (some ⟨rb, 0, none⟩), .int .u8 0, .int .u8 0] w fun e w' => e = .returned (.bool true) ∧ w' = w.setCell ⟨rb, 0, none⟩ (.slice (some ⟨b, off + 2, none⟩) (m - 2) (c - 2)) := by
  go_enter Tryd.func114, Tryd.ntmps114
  go_wp2
  go_ret
  exact ⟨rfl, rfl⟩

set_option maxRecDepth 100000 in
set_option maxHeartbeats 2000000 in
theorem skip_all (rb b off : Nat) (_hne : b ≠ rb) (w : World) (h0 : w.cell? ⟨rb, 0, none⟩ = some (.slice (some ⟨b, off, none⟩) 2 2)) (hf : w.frozen? ⟨rb, 0, none⟩ = false) (h1 : w.cell? ⟨b, off, none⟩ = some (.int .u8 0)) (h2 : w.cell? ⟨b, off + 1, none⟩ = some (.int .u8 0)) :
    Calls Tryd.prog 114 #[.pointer (some ⟨rb, 0, none⟩), .int .u8 0, .int .u8 0] w fun e w' => e = .returned (.bool true) ∧ w' = w.setCell ⟨rb, 0, none⟩ (.slice (some ⟨b, off, none⟩) 0 0) := by
  go_enter Tryd.func114, Tryd.ntmps114
  go_wp2
  go_ret
  exact ⟨rfl, rfl⟩

theorem skip_any (rb : Nat) (l : List UInt8) (w : World) (h : St w rb l) :
    Calls Tryd.prog 114 #[.pointer (some ⟨rb, 0, none⟩), .int .u8 0, .int .u8 0] w (SkEnd w rb l) := by
  have hS := h
  obtain ⟨⟨v, h0, A, c, rfl, h2, h3, h4⟩, hf, hlt⟩ := h
  by_cases hs : l.length < 2
  · refine (skip_short rb l.length c A hs w h0).mono fun e w' ⟨he, hw⟩ => .inr ⟨fun r e => (by have := congrArg List.length e; simp at this; omega), he, by rw [← hw]; exact hS, by rw [← hw]; exact But.refl _ _ _⟩
  · match l, h0, h2, h4, hs, hS with
    | [], _, _, _, hs, _ => exact absurd (by simp) hs
    | [x], _, _, _, hs, _ => exact absurd (by simp) hs
    | x :: y :: t, h0, h2, h4, hs, hS =>
      obtain ⟨b, off, rfl, hb, hh⟩ := h4 (by simp)
      have hx := hh 0 (by simp)
      have hy := hh 1 (by simp)
      simp at hx hy
      by_cases zx : x = 0
      · subst zx
        by_cases zy : y = 0
        · subst zy
          have hB : But w.heap.size rb w (w.setCell ⟨rb, 0, none⟩ (restV b off (0 :: 0 :: t).length c 2)) := (But.refl _ _ _).setCell _ _
          have hR := (rd_rest (w := w) (rb := rb) (k := 2) (l := 0 :: 0 :: t) (by simp) h2 h3 hb hh).below (hB.low hlt)
          have fin : SkEnd w rb (0 :: 0 :: t) (.returned (.bool true)) (w.setCell ⟨rb, 0, none⟩ (restV b off (0 :: 0 :: t).length c 2)) :=
            .inl ⟨t, rfl, rfl, ⟨⟨_, cell_set_rb h0 _, hR⟩, by rw [World.frozen?_setCell]; exact hf, Nat.lt_of_lt_of_le hlt hB.size⟩, hB⟩
          unfold restV at fin
          by_cases hc2 : 2 < c
          · rw [if_pos hc2] at fin
            exact (skip_in rb b off (0 :: 0 :: t).length c (by simp) h2 hc2 h3 (by omega) w h0 hf hx hy).mono fun e w' ⟨he, hw⟩ => by rw [he, hw]; exact fin
          · rw [if_neg hc2] at fin
            have e0 : (0 :: 0 :: t : List UInt8).length = t.length + 2 := rfl
            have e1 : c = 2 := by omega
            have e2 : (0 :: 0 :: t : List UInt8).length = 2 := by omega
            subst e1
            rw [e2] at h0
            exact (skip_all rb b off (by omega) w h0 hf hx hy).mono fun e w' ⟨he, hw⟩ => by rw [he, hw]; exact fin
        · refine (skip_two rb b off (0 :: y :: t).length c y.toNat (by simp) h2 h3 (fun e => zy (UInt8.toNat_inj.1 e)) w h0 hx hy).mono fun e w' ⟨he, hw⟩ => .inr ⟨fun r e => ?_, he, by rw [← hw]; exact hS, by rw [← hw]; exact But.refl _ _ _⟩
          injection e with _ e; injection e with e _; exact zy e
      · refine (skip_one rb b off (x :: y :: t).length c x.toNat (by simp) h2 h3 (fun e => zx (UInt8.toNat_inj.1 e)) w h0 hx).mono fun e w' ⟨he, hw⟩ => .inr ⟨fun r e => ?_, he, by rw [← hw]; exact hS, by rw [← hw]; exact But.refl _ _ _⟩
        injection e with e _; exact zx e

def TmEnd (w : World) (rb : Nat) (l : List UInt8) (e : Ending) (w' : World) : Prop := But w.heap.size rb w w' ∧ if 8 ≤ l.length then e = .returned (.int .i64 (9223372036854775807 - (foldB (l.take 8) : Int))) ∧ St w' rb (l.drop 8) else e = otherP
set_option maxRecDepth 100000 in
set_option maxHeartbeats 2000000 in
theorem rtime_any (rb : Nat) (l : List UInt8) (w : World) (h : St w rb l) :
    Calls Tryd.prog 115 #[.pointer (some ⟨rb, 0, none⟩)] w (TmEnd w rb l) := by
  go_enter Tryd.func115, Tryd.ntmps115
  go_wp2
  go_loopw [3, 4] (fun vu vi wr => ∃ (i : Nat) (u : Int), i ≤ 8 ∧ vu = .int .u64 u ∧ vi = .int .i64 i ∧ 0 ≤ u ∧ Hid (u = (foldB (l.take i) : Int) ∧ i ≤ l.length) ∧ Hid (St wr rb (l.drop i)) ∧ Hid (But w.heap.size rb w wr)) (fun _ vi _ => 8 - (intOf vi).toNat)
  case atStart => exact ⟨0, 0, by omega, rfl, rfl, by omega, ⟨rfl, by omega⟩, by unfold Hid; simpa using h, But.refl _ _ _⟩
  case round =>
    obtain ⟨i, u, hi, rfl, rfl, hu, HU, HS, HB⟩ := hrel
    by_cases hlt : i < 8
    · have hub : u < 72057594037927936 := by
        have h1 := foldB_lt (l.take i)
        have h2 := HU.out
        have h3 : (l.take i).length = i := by simp; omega
        rw [h3] at h1
        have h4 : (256 : Nat) ^ i ≤ 256 ^ 7 := Nat.pow_le_pow_right (by decide) (by omega)
        omega
      cases hd : l.drop i with
      | nil =>
        have HO := HS.out
        rw [hd] at HO
        have HO := hid (one_any rb [] wr HO)
        have HE : Hid (¬ 8 ≤ l.length) := by
          have := congrArg List.length hd
          unfold Hid; simp at this; omega
        clear hd
        go_wp2_with (go_at_call 116; refine HO.out.mono ?_; rintro e w1 ⟨hb1, rfl⟩)
        refine ⟨rfl, ?_⟩
        unfold TmEnd
        rw [if_neg HE.out]
        exact ⟨HB.out.trans (hb1.mono HB.out.size), rfl⟩
      | cons x t =>
        have hS := HS.out
        rw [hd] at hS
        obtain ⟨z, hz⟩ : ∃ z : Int, (x.toNat : Int) = z := ⟨_, rfl⟩
        have HO := hid (one_cons rb x t wr hS z hz)
        have hx := u8_lt x
        have HV : Hid (bits .or .u64 (u * 256) z = u * 256 + z) := by rw [← hz]; exact or_byte hu hub x.toNat hx
        have hz0 : 0 ≤ z := by omega
        have hz1 : z < 256 := by omega
        have hil : i < l.length := by
          have := congrArg List.length hd
          simp at this; omega
        have HN : Hid (u * 256 + z = (foldB (l.take (i + 1)) : Int) ∧ i + 1 ≤ l.length ∧ l.drop (i + 1) = t) := by
          refine ⟨?_, by omega, ?_⟩
          · rw [foldB_take l i hil, HU.out.1, ← hz]
            rw [List.drop_eq_getElem_cons hil] at hd
            injection hd with e1 e2
            rw [List.getD_eq_getElem?_getD, List.getElem?_eq_getElem hil, Option.getD_some, e1]
            push_cast
            rfl
          · rw [List.drop_eq_getElem_cons hil] at hd
            injection hd
        clear hd hz hS hx hil
        go_wp2_with (go_at_call 116; refine HO.out.mono ?_; rintro e w1 ⟨hb1, rfl, hS1⟩)
        go_roundw
        case rel =>
          refine ⟨i + 1, _, by omega, rfl, by go_num, ?_, ⟨?_, HN.out.2.1⟩, by rw [HN.out.2.2]; exact hS1, HB.out.trans (hb1.mono HB.out.size)⟩
          · rw [HV.out]; omega
          · rw [HV.out]; exact HN.out.1
        case measure => simp [intOf]; omega
    · obtain rfl : i = 8 := by omega
      have h1 : (foldB (l.take 8) : Int) < 18446744073709551616 := by
        have h1 := foldB_lt (l.take 8)
        have h3 : (l.take 8).length = 8 := by have := HU.out.2; simp; omega
        rw [h3] at h1
        have : (256 : Nat) ^ 8 = 18446744073709551616 := by decide
        omega
      have HR : Hid (wrap64 (9223372036854775807 - wrap64 u) = 9223372036854775807 - (foldB (l.take 8) : Int)) := by
        unfold Hid wrap64; rw [HU.out.1]; omega
      clear h1 hlt hi
      go_wp2
      go_ret
      unfold TmEnd
      refine ⟨HB.out, ?_⟩
      rw [if_pos HU.out.2, ← HR.out]
      exact ⟨rfl, HS.out⟩
end Go.Proofs.YtfcnobcpnhfgmaaDoor

/- Plain mathematics: whose bytes a row of bytes is: of one right cell, or of none. No program in it. -/
namespace Go.Proofs.YtfcnobcpnhfgmaaDoor
open Go.RowKit

/-- No right cell's bytes. -/
def NoCell (l : List UInt8) : Prop := ∀ r f q t k vk vn vs, cRight r f q t k vk vn vs = true → inI vn → cEnc r f q t k vk vn vs ≠ l
def vPart (k vk vn : Int) (vs : List UInt8) : List UInt8 := if k = 1 then vEnc vk vn vs else []
theorem cEnc_form (r f q : List UInt8) (t k vk vn : Int) (vs : List UInt8) : cEnc r f q t k vk vn vs = esc r ++ (0 :: 1 :: (esc f ++ (0 :: 1 :: (midM q k ++ (tailM t k ++ vPart k vk vn vs))))) := by
  unfold cEnc keyM vPart
  simp [List.append_assoc]
theorem enc_head {r f q : List UInt8} {t k vk vn : Int} {vs l : List UInt8} (h : cEnc r f q t k vk vn vs = l) : rdT l = some (r, esc f ++ (0 :: 1 :: (midM q k ++ (tailM t k ++ vPart k vk vn vs)))) := by
  rw [← h, cEnc_form]; exact rdT_esc _ _
theorem enc_in {r f q : List UInt8} {t k vk vn : Int} {vs l r' f' l1 l2 : List UInt8} (h1 : rdT l = some (r', l1)) (h2 : rdT l1 = some (f', l2)) (h : cEnc r f q t k vk vn vs = l) : r = r' ∧ f = f' ∧ midM q k ++ (tailM t k ++ vPart k vk vn vs) = l2 := by
  have h3 := enc_head h
  rw [h1] at h3
  simp only [Option.some.injEq, Prod.mk.injEq] at h3
  obtain ⟨rfl, rfl⟩ := h3
  rw [rdT_esc] at h2
  simp only [Option.some.injEq, Prod.mk.injEq] at h2
  obtain ⟨rfl, rfl⟩ := h2
  exact ⟨rfl, rfl, rfl⟩
theorem no_head {l : List UInt8} (h1 : rdT l = none) : NoCell l := by
  intro r f q t k vk vn vs _ _ h
  have := enc_head h
  rw [h1] at this; cases this
theorem no_fam {l r l1 : List UInt8} (h1 : rdT l = some (r, l1)) (h2 : rdT l1 = none) : NoCell l := by
  intro r' f q t k vk vn vs _ _ h
  have := enc_head h
  rw [h1] at this
  simp only [Option.some.injEq, Prod.mk.injEq] at this
  obtain ⟨rfl, rfl⟩ := this
  rw [rdT_esc] at h2; cases h2

theorem rdT_two (l : List UInt8) : rdT (0 :: 0 :: l) = none := by
  rw [rdT, if_pos rfl, if_neg (by decide), if_neg (by decide)]
theorem mid_text {q X : List UInt8} {k : Int} (hk : ¬ k = 4) : rdT (midM q k ++ X) = some (q, X) := by
  unfold midM
  rw [if_neg hk, List.append_assoc]
  exact rdT_esc q X
/-- What stands behind the family's name: whole, the qualifier, the rest. -/
def Mid (l2 q l3 : List UInt8) (wh : Bool) : Prop := (wh = true ∧ q = [] ∧ l2 = 0 :: 0 :: l3) ∨ (wh = false ∧ (∀ r, l2 ≠ 0 :: 0 :: r) ∧ rdT l2 = some (q, l3))
theorem mid_in {l2 q q' l3 X : List UInt8} {wh : Bool} {k : Int} (hm : Mid l2 q' l3 wh) (h4 : k = 4 → q = []) (h : midM q k ++ X = l2) : q = q' ∧ X = l3 ∧ wh = decide (k = 4) := by
  by_cases hk : k = 4
  · rcases hm with ⟨rfl, rfl, h2⟩ | ⟨_, h2, _⟩
    · unfold midM at h
      rw [if_pos hk, h2] at h
      refine ⟨h4 hk, ?_, by simp [hk]⟩
      simpa using h
    · exfalso
      unfold midM at h
      rw [if_pos hk] at h
      exact h2 X h.symm
  · have ht := mid_text (q := q) (X := X) hk
    rw [h] at ht
    rcases hm with ⟨_, _, h2⟩ | ⟨rfl, _, h3⟩
    · rw [h2, rdT_two] at ht; cases ht
    · rw [h3] at ht
      simp only [Option.some.injEq, Prod.mk.injEq] at ht
      exact ⟨ht.1.symm, ht.2.symm, by simp [hk]⟩
theorem mid_none {l2 q X : List UInt8} {k : Int} (h2 : ∀ r, l2 ≠ 0 :: 0 :: r) (h3 : rdT l2 = none) : midM q k ++ X ≠ l2 := by
  intro h
  by_cases hk : k = 4
  · unfold midM at h
    rw [if_pos hk] at h
    exact h2 X h.symm
  · have ht := mid_text (q := q) (X := X) hk
    rw [h, h3] at ht; cases ht
theorem no_qual {l r l1 f l2 : List UInt8} (h1 : rdT l = some (r, l1)) (h2 : rdT l1 = some (f, l2)) (h3 : ∀ r, l2 ≠ 0 :: 0 :: r) (h4 : rdT l2 = none) : NoCell l := by
  intro r' f' q t k vk vn vs _ _ h
  exact mid_none h3 h4 (enc_in h1 h2 h).2.2
theorem tail_in {t k : Int} {V l3 : List UInt8} (h1 : 0 ≤ t) (h2 : t ≤ 1099511627776) (h3 : 1 ≤ k) (h4 : k ≤ 4) (h : tailM t k ++ V = l3) :
    8 ≤ l3.length ∧ 9223372036854775807 - (foldB (l3.take 8) : Int) = t ∧ ∃ x, l3.drop 8 = x :: V ∧ 255 - (x.toNat : Int) = k := by
  have e8 : (byW 8 (9223372036854775807 - t).toNat).length = 8 := byW_len 8 _
  have p8 : (256 : Nat) ^ 8 = 18446744073709551616 := by decide
  subst h
  unfold tailM
  rw [List.append_assoc]
  refine ⟨by rw [List.length_append, e8]; omega, ?_, UInt8.ofNat (255 - k).toNat, ?_, ?_⟩
  · rw [List.take_append_of_le_length (by omega), List.take_of_length_le (by omega), foldB_byW 8 _ (by rw [p8]; omega)]
    omega
  · rw [List.drop_append_of_le_length (by omega), List.drop_of_length_le (by omega)]
    rfl
  · rw [UInt8.toNat_ofNat']; omega
/-- The parts that a reader has taken off bytes. -/
structure Took (l r f q : List UInt8) (wh : Bool) (l3 : List UInt8) : Prop where
  ex : ∃ l1 l2, rdT l = some (r, l1) ∧ rdT l1 = some (f, l2) ∧ Mid l2 q l3 wh
theorem Took.inn {l r f q l3 : List UInt8} {wh : Bool} (h : Took l r f q wh l3) {r' f' q' : List UInt8} {t k vk vn : Int} {vs : List UInt8} (hr : cRight r' f' q' t k vk vn vs = true) (he : cEnc r' f' q' t k vk vn vs = l) :
    r' = r ∧ f' = f ∧ q' = q ∧ wh = decide (k = 4) ∧ 8 ≤ l3.length ∧ 9223372036854775807 - (foldB (l3.take 8) : Int) = t ∧ ∃ x, l3.drop 8 = x :: vPart k vk vn vs ∧ 255 - (x.toNat : Int) = k := by
  obtain ⟨l1, l2, h1, h2, h3⟩ := h.ex
  obtain ⟨_, _, _, _, _, p1, p2, p3, p4, p5, _, _⟩ := cright_parts hr
  obtain ⟨e1, e2, e3⟩ := enc_in h1 h2 he
  obtain ⟨e4, e5, e6⟩ := mid_in h3 p5 e3
  obtain ⟨e7, e8, e9⟩ := tail_in p1 p2 p3 p4 e5
  exact ⟨e1, e2, e4, e6, e7, e8, e9⟩
theorem Took.no8 {l r f q l3 : List UInt8} {wh : Bool} (h : Took l r f q wh l3) (h8 : ¬ 8 ≤ l3.length) : NoCell l := fun _ _ _ _ _ _ _ _ hr _ he => h8 (h.inn hr he).2.2.2.2.1
theorem Took.no9 {l r f q l3 : List UInt8} {wh : Bool} (h : Took l r f q wh l3) (h8 : l3.drop 8 = []) : NoCell l := fun _ _ _ _ _ _ _ _ hr _ he => by
  obtain ⟨x, hx, _⟩ := (h.inn hr he).2.2.2.2.2.2
  rw [h8] at hx; cases hx
theorem Took.noKind {l r f q l3 V : List UInt8} {wh : Bool} {x : UInt8} (h : Took l r f q wh l3) (hd : l3.drop 8 = x :: V) (hk : wh ≠ decide (255 - (x.toNat : Int) = 4)) : NoCell l := fun _ _ _ _ _ _ _ _ hr _ he => by
  obtain ⟨_, _, _, e1, _, _, y, e2, e3⟩ := h.inn hr he
  rw [hd] at e2
  injection e2 with e2 _
  subst e2
  rw [e3] at hk
  exact hk e1
/-- What of a cell is known by its bytes, but for the value. -/
theorem Took.rest {l r f q l3 V : List UInt8} {wh : Bool} {x : UInt8} (h : Took l r f q wh l3) (hd : l3.drop 8 = x :: V) {r' f' q' : List UInt8} {t k vk vn : Int} {vs : List UInt8} (hr : cRight r' f' q' t k vk vn vs = true) (he : cEnc r' f' q' t k vk vn vs = l) :
    r' = r ∧ f' = f ∧ q' = q ∧ t = 9223372036854775807 - (foldB (l3.take 8) : Int) ∧ k = 255 - (x.toNat : Int) ∧ vPart k vk vn vs = V := by
  obtain ⟨e1, e2, e3, _, _, e4, y, e5, e6⟩ := h.inn hr he
  rw [hd] at e5
  injection e5 with e5 e7
  subst e5
  exact ⟨e1, e2, e3, e4.symm, e6.symm, e7.symm⟩
theorem Took.noRest {l r f q l3 V : List UInt8} {wh : Bool} {x : UInt8} (h : Took l r f q wh l3) (hd : l3.drop 8 = x :: V) (hk : ¬ 255 - (x.toNat : Int) = 1) (hV : V ≠ []) : NoCell l := fun _ _ _ _ _ _ _ _ hr _ he => by
  obtain ⟨_, _, _, _, e1, e2⟩ := h.rest hd hr he
  unfold vPart at e2
  rw [if_neg (by omega)] at e2
  exact hV e2.symm
theorem Took.noVal {l r f q l3 V : List UInt8} {wh : Bool} {x : UInt8} (h : Took l r f q wh l3) (hd : l3.drop 8 = x :: V) (hk : 255 - (x.toNat : Int) = 1) (hV : vdecEnd V = noEnd) : NoCell l := fun _ _ _ _ _ vk vn vs hr hi he => by
  obtain ⟨_, _, _, _, e1, e2⟩ := h.rest hd hr he
  obtain ⟨_, _, _, _, _, _, _, _, _, _, p, _⟩ := cright_parts hr
  unfold vPart at e2
  rw [if_pos (by omega)] at e2
  have := vdec_enc hi (p (by omega))
  rw [e2, hV] at this
  unfold noEnd valEnd at this
  simp at this
theorem Took.noRightV {l r f q l3 V : List UInt8} {wh : Bool} {x : UInt8} (h : Took l r f q wh l3) (hd : l3.drop 8 = x :: V) (hk : 255 - (x.toNat : Int) = 1) {vk vn : Int} {vs : List UInt8} (hV : vdecEnd V = valEnd vk vn vs) (hr0 : cRight r f q (9223372036854775807 - (foldB (l3.take 8) : Int)) 1 vk vn vs = false) : NoCell l := fun _ _ _ _ _ vk' vn' vs' hr hi he => by
  obtain ⟨rfl, rfl, rfl, rfl, e1, e2⟩ := h.rest hd hr he
  obtain ⟨_, _, _, _, _, _, _, _, _, _, p, _⟩ := cright_parts hr
  unfold vPart at e2
  have hk1 := e1.trans hk
  rw [if_pos hk1] at e2
  have := vdec_enc hi (p hk1)
  rw [e2, hV] at this
  unfold valEnd at this
  simp at this
  obtain ⟨a, b, c⟩ := this
  rw [hk1, ← a, ← b, ← c, hr0] at hr
  cases hr
theorem Took.noRight {l r f q l3 : List UInt8} {wh : Bool} {x : UInt8} (h : Took l r f q wh l3) (hd : l3.drop 8 = [x]) (hk : ¬ 255 - (x.toNat : Int) = 1) (hr0 : cRight r f q (9223372036854775807 - (foldB (l3.take 8) : Int)) (255 - (x.toNat : Int)) 0 0 [] = false) : NoCell l := fun _ _ _ _ _ vk' vn' vs' hr hi he => by
  obtain ⟨rfl, rfl, rfl, rfl, e1, e2⟩ := h.rest hd hr he
  obtain ⟨_, _, _, _, _, _, _, _, _, _, _, p⟩ := cright_parts hr
  obtain ⟨rfl, rfl, rfl⟩ := p (by omega)
  rw [e1, hr0] at hr
  cases hr
/-- The cell of the parts has these bytes. -/
theorem Took.enc {l r f q l3 V : List UInt8} {wh : Bool} {x : UInt8} (h : Took l r f q wh l3) (h8 : 8 ≤ l3.length) (hd : l3.drop 8 = x :: V) (hk : wh = decide (255 - (x.toNat : Int) = 4)) {vk vn : Int} {vs : List UInt8} (hV : vPart (255 - (x.toNat : Int)) vk vn vs = V) :
    cEnc r f q (9223372036854775807 - (foldB (l3.take 8) : Int)) (255 - (x.toNat : Int)) vk vn vs = l := by
  obtain ⟨l1, l2, h1, h2, h3⟩ := h.ex
  rw [cEnc_form, rdT_rest h1, rdT_rest h2]
  have e3 : tailM (9223372036854775807 - (foldB (l3.take 8) : Int)) (255 - (x.toNat : Int)) ++ V = l3 := by
    unfold tailM
    have ex : UInt8.ofNat (255 - (255 - (x.toNat : Int))).toNat = x := by
      have : (255 - (255 - (x.toNat : Int))).toNat = x.toNat := by omega
      rw [this]; simp
    have eb : (9223372036854775807 - (9223372036854775807 - (foldB (l3.take 8) : Int))).toNat = foldB (l3.take 8) := by omega
    rw [ex, eb, byW_foldB 8 _ (by simp; omega), List.append_assoc]
    show l3.take 8 ++ (x :: V) = l3
    rw [← hd, List.take_append_drop]
  rw [hV, e3]
  congr 3
  · congr 3
    rcases h3 with ⟨rfl, rfl, rfl⟩ | ⟨rfl, h4, h5⟩
    · have : (255 - (x.toNat : Int)) = 4 := by simpa using hk.symm
      unfold midM
      rw [if_pos this]; rfl
    · have : ¬ (255 - (x.toNat : Int)) = 4 := by simpa using hk.symm
      unfold midM
      rw [if_neg this, rdT_rest h5]
      simp
/-- No two right cells have the same bytes. -/
theorem cEnc_one {r f q vs : List UInt8} {t k vk vn : Int} {r' f' q' vs' : List UInt8} {t' k' vk' vn' : Int} (h : cRight r f q t k vk vn vs = true) (h' : cRight r' f' q' t' k' vk' vn' vs' = true) (i : inI vn) (i' : inI vn') (he : cEnc r f q t k vk vn vs = cEnc r' f' q' t' k' vk' vn' vs') :
    r = r' ∧ f = f' ∧ q = q' ∧ t = t' ∧ k = k' ∧ vk = vk' ∧ vn = vn' ∧ vs = vs' := by
  obtain ⟨_, _, _, _, _, p1, p2, p3, p4, p5, p6, p7⟩ := cright_parts h
  obtain ⟨_, _, _, _, _, q1, q2, q3, q4, q5, q6, q7⟩ := cright_parts h'
  obtain ⟨rfl, rfl, e3⟩ := enc_in (enc_head rfl) (rdT_esc _ _) he
  have hm : Mid (midM q' k' ++ (tailM t' k' ++ vPart k' vk' vn' vs')) q' (tailM t' k' ++ vPart k' vk' vn' vs') (decide (k' = 4)) := by
    by_cases hk : k' = 4
    · refine .inl ⟨by simp [hk], q5 hk, ?_⟩
      unfold midM
      rw [if_pos hk]; rfl
    · refine .inr ⟨by simp [hk], ?_, mid_text hk⟩
      intro u e
      have := mid_text (q := q') (X := tailM t' k' ++ vPart k' vk' vn' vs') hk
      rw [e, rdT_two] at this; cases this
  obtain ⟨rfl, e4, e5⟩ := mid_in hm p5 e3
  obtain ⟨_, e6, x, e7, e8⟩ := tail_in p1 p2 p3 p4 e4
  obtain ⟨_, e9, y, e10, e11⟩ := tail_in q1 q2 q3 q4 (rfl : tailM t' k' ++ vPart k' vk' vn' vs' = _)
  have et : t = t' := by omega
  rw [e7] at e10
  injection e10 with e12 e13
  subst e12
  have ek : k = k' := by omega
  subst et ek
  unfold vPart at e13
  by_cases hk : k = 1
  · rw [if_pos hk, if_pos hk] at e13
    have a := vdec_enc i (p6 hk)
    have b := vdec_enc i' (q6 hk)
    rw [e13, b] at a
    unfold valEnd at a
    simp at a
    exact ⟨rfl, rfl, rfl, rfl, rfl, a.1.symm, a.2.1.symm, a.2.2.symm⟩
  · obtain ⟨rfl, rfl, rfl⟩ := p7 hk
    obtain ⟨rfl, rfl, rfl⟩ := q7 hk
    exact ⟨rfl, rfl, rfl, rfl, rfl, rfl, rfl, rfl⟩
end Go.Proofs.YtfcnobcpnhfgmaaDoor
