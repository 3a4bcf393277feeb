/- Several texts in one: IH IK IB JC JD IC ID IE JBa JF. Conditions: as each theorem names them. -/
import Derived.Test.YtdjaofbjmnmlbaaDoorHA
import Derived.Test.YtdjaofbjmnmlbaaDoorG2CellOrder
import Derived.KernelRfl
import Derived.Deep.RegionHeld3
import Derived.Deep.QuietTactic
/- A list of numbers that came in, opened. Conditions: the reading's own reach. -/
namespace Go.Proofs.YtdjaofbjmnmlbaaDoor
open Go.ChangeShapes Go.WideShapes Go.ChangeAt Go.RowKit

/-- The value is a slice that holds the numbers zs. -/
def IntA (w : World) (v : Value) (zs : List Int) : Prop := ∃ A c, v = .slice A zs.length c ∧ zs.length ≤ c ∧ c ≤ 9223372036854775807 ∧ (0 < zs.length → ∃ b off, A = some ⟨b, off, none⟩ ∧ b < w.heap.size ∧ ∀ i, i < zs.length → w.cell? ⟨b, off + i, none⟩ = some (.int .i64 (zs.getD i 0)))
theorem IntA.below {w w' : World} {v : Value} {zs : List Int} (h : IntA w v zs) (hb : Below w.heap.size w w') : IntA w' v zs := by
  obtain ⟨A, c, h1, h2, h3, h4⟩ := h
  refine ⟨A, c, h1, h2, h3, fun h0 => ?_⟩
  obtain ⟨b, off, e, hl, hh⟩ := h4 h0
  exact ⟨b, off, e, Nat.lt_of_lt_of_le hl hb.size, fun i hi => by rw [hb.cell (p := ⟨b, off + i, none⟩) hl]; exact hh i hi⟩
theorem cellsInt : Tryd.prog.cellsOf 3 = 1 := by kernel_rfl
section
variable {H : Type} {enc : TypeId × Value → H} {W : World}
set_option maxRecDepth 100000 in
theorem open_inta {r : Reach} {b0 b1 : Nat} {v : Value} {d : DataW H} {p : List MemPlace} (hv : Value.okWide Tryd.prog W r b0 40 v) (h : DataW.Trod enc Tryd.prog W b1 (fun _ => true) true 40 v d p) : ∃ zs, IntA W v zs ∧ ∀ i, inI (zs.getD i 0) := by
  obtain ⟨a0, len, cap, rfl⟩ := okWide_slice Tryd.underlying40 hv
  obtain ⟨fuel, hf⟩ := h
  rcases open_ints Tryd.underlying40 Tryd.underlying3 cellsInt hf with ⟨hcs, hx⟩ | ⟨a, len', cap', zs, hcs, _, hl, hm, hz, hx, hcell, hwz⟩
  · simp [Value.cells] at hcs
    obtain ⟨rfl, rfl, rfl⟩ := hcs
    exact ⟨[], ⟨none, 0, rfl, by simp, by omega, fun h => absurd h (by simp)⟩, fun i => by simp [inI]⟩
  · simp [Value.cells] at hcs
    obtain ⟨rfl, rfl, rfl⟩ := hcs
    simp only [if_true] at hz
    have hul : (zs.take len).length = len := by rw [List.length_take]; omega
    refine ⟨zs.take len, ⟨some a, cap, by rw [hul], by rw [hul]; exact hl, by unfold maxLen at hm; omega, fun h0 => ?_⟩, fun i => ?_⟩
    · rw [hul] at h0
      obtain ⟨b, off, rfl, hc⟩ := ints_at hcell (by omega)
      refine ⟨b, off, rfl, cell_lt (hc 0 (by omega)), fun i hi => ?_⟩
      rw [hul] at hi
      rw [hc i (by omega)]
      simp only [List.getD_eq_getElem?_getD, List.getElem?_take_of_lt hi]
    · rw [List.getD_eq_getElem?_getD]
      cases e : (zs.take len)[i]? with
      | none => simp [inI]
      | some z =>
        have hm : z ∈ zs := List.mem_of_mem_take (List.mem_of_getElem? e)
        have hw := hwz z hm
        have h1 : IntKind.i64.min = -9223372036854775808 := rfl
        have h2 : IntKind.i64.max = 9223372036854775807 := rfl
        simp [Lit.wf] at hw
        simp only [Option.getD_some]
        unfold inI
        omega
end
end Go.Proofs.YtdjaofbjmnmlbaaDoor

/- Cells of a row of the call's own change places; the low ten bits of a number. Conditions: as each theorem names them. -/
namespace Go.Proofs.YtdjaofbjmnmlbaaDoor
open Go.RowKit

theorem and_1023 (z : Int) : 0 ≤ bits .and .i64 z 1023 ∧ bits .and .i64 z 1023 ≤ 1023 := by
  have h : (BitVec.ofInt 64 z &&& BitVec.ofInt 64 1023).toNat ≤ 1023 := by
    rw [BitVec.toNat_and]
    exact Nat.and_le_right
  show 0 ≤ IntKind.i64.wrap ((BitVec.ofInt 64 z &&& BitVec.ofInt 64 1023).toNat : Int) ∧ IntKind.i64.wrap ((BitVec.ofInt 64 z &&& BitVec.ofInt 64 1023).toNat : Int) ≤ 1023
  rw [IntKind.wrap_i64]
  omega

/-- A row of the call's own, by its block. -/
def RowB (W : World) (g cap : Nat) (m : List CT) : Prop := ∃ cur : Array Value, Blk W g 28 cur ∧ cur.size = cap * 8 ∧ m.length ≤ cap ∧ cap ≤ maxLen ∧ cur.toList.take (m.length * 8) = flatC m
theorem RowB.of {W : World} {B g n cap : Nat} {m : List CT} (h : CRow W B (.slice (some ⟨g, 0, none⟩) n cap) m) : RowB W g cap m ∧ B ≤ g := by
  obtain ⟨h1, h2⟩ := h
  rcases h2 with ⟨e, _⟩ | ⟨g', cap', cur, e, hB, hb, q1, q2, q3, q4⟩
  · cases e
  · cases e
    exact ⟨⟨cur, hb, q3, q1, q2, q4⟩, hB⟩
theorem RowB.row {W : World} {B g cap : Nat} {m : List CT} (h : RowB W g cap m) (hB : B ≤ g) : CRow W B (.slice (some ⟨g, 0, none⟩) m.length cap) m := by
  obtain ⟨cur, hb, q3, q1, q2, q4⟩ := h
  exact ⟨flatC_len m, .inr ⟨g, cap, cur, rfl, hB, hb, q1, q2, q3, q4⟩⟩
theorem crow_rowB {W : World} {B n c : Nat} {A : Option Addr} {m : List CT} (h : CRow W B (.slice A n c) m) (h0 : 0 < m.length) : ∃ g, A = some ⟨g, 0, none⟩ ∧ RowB W g c m ∧ B ≤ g ∧ n = m.length := by
  rcases h.2 with ⟨_, e⟩ | ⟨g, cap, cur, e, hB, hb, q1, q2, q3, q4⟩
  · omega
  · cases e
    exact ⟨g, rfl, ⟨cur, hb, q3, q1, q2, q4⟩, hB, rfl⟩
theorem RowB.lt {W : World} {g cap : Nat} {m : List CT} (h : RowB W g cap m) : g < W.heap.size := by
  obtain ⟨cur, hb, _⟩ := h
  exact hb.lt
theorem RowB.keep {W W' : World} {g cap : Nat} {m : List CT} (h : RowB W g cap m) (hb : Below W.heap.size W W') : RowB W' g cap m := by
  obtain ⟨cur, h1, h2⟩ := h
  exact ⟨cur, h1.keep hb h1.lt, h2⟩
theorem RowB.words {W : World} {g cap : Nat} {m : List CT} (h : RowB W g cap m) (i : Nat) (hi : i < m.length) :
    W.cell? ⟨g, i * 8, none⟩ = some (.string m[i].r) ∧ W.cell? ⟨g, i * 8 + 1, none⟩ = some (.string m[i].f) ∧ W.cell? ⟨g, i * 8 + 2, none⟩ = some (.string m[i].q) ∧ W.cell? ⟨g, i * 8 + 3, none⟩ = some (.int .i64 m[i].t) ∧ W.cell? ⟨g, i * 8 + 4, none⟩ = some (.int .i64 m[i].k) ∧ W.cell? ⟨g, i * 8 + 5, none⟩ = some (.int .i64 m[i].vk) ∧ W.cell? ⟨g, i * 8 + 6, none⟩ = some (.int .i64 m[i].vn) ∧ W.cell? ⟨g, i * 8 + 7, none⟩ = some (.string m[i].s) := by
  have hc := (h.row (Nat.zero_le _)).hc
  have := hc.words i hi
  simp only [Nat.zero_add] at this
  exact this
theorem RowB.free {W : World} {g cap : Nat} {m : List CT} (h : RowB W g cap m) (o : Nat) : W.frozen? ⟨g, o, none⟩ = false := by
  obtain ⟨cur, hb, _⟩ := h
  exact hb.free o
/-- So many words of a block of the call's own. -/
def OwnB (W : World) (g n : Nat) : Prop := ∃ cur : Array Value, Blk W g 28 cur ∧ n ≤ cur.size
theorem RowB.own {W : World} {g cap : Nat} {m : List CT} (h : RowB W g cap m) : OwnB W g (m.length * 8) := by
  obtain ⟨cur, hb, q3, q1, q2, q4⟩ := h
  exact ⟨cur, hb, by omega⟩
theorem OwnB.set {W : World} {g n : Nat} (h : OwnB W g n) (p : Nat) (v : Value) : OwnB (W.setCell ⟨g, p, none⟩ v) g n := by
  obtain ⟨cur, hb, q⟩ := h
  exact ⟨_, hb.set p v, by rw [Array.size_setIfInBounds]; exact q⟩
theorem OwnB.get {W : World} {g n : Nat} (h : OwnB W g n) (o : Nat) (ho : o < n) : ∃ u, W.cell? ⟨g, o, none⟩ = some u := by
  obtain ⟨cur, hb, q⟩ := h
  have hlt : o < cur.size := by omega
  exact ⟨_, (hb.cell o).trans (Array.getElem?_eq_getElem hlt)⟩
/-- A world in which a cell has been stored at a place of a row. -/
def set8 (W : World) (g p : Nat) (c : CT) : World := (((((((W.setCell ⟨g, p, none⟩ (.string c.r)).setCell ⟨g, p + 1, none⟩ (.string c.f)).setCell ⟨g, p + 2, none⟩ (.string c.q)).setCell ⟨g, p + 3, none⟩ (.int .i64 c.t)).setCell ⟨g, p + 4, none⟩ (.int .i64 c.k)).setCell ⟨g, p + 5, none⟩ (.int .i64 c.vk)).setCell ⟨g, p + 6, none⟩ (.int .i64 c.vn)).setCell ⟨g, p + 7, none⟩ (.string c.s)
def put8 (a : Array Value) (p : Nat) (c : CT) : Array Value := (((((((a.setIfInBounds p (.string c.r)).setIfInBounds (p + 1) (.string c.f)).setIfInBounds (p + 2) (.string c.q)).setIfInBounds (p + 3) (.int .i64 c.t)).setIfInBounds (p + 4) (.int .i64 c.k)).setIfInBounds (p + 5) (.int .i64 c.vk)).setIfInBounds (p + 6) (.int .i64 c.vn)).setIfInBounds (p + 7) (.string c.s)
theorem put8_size (a : Array Value) (p : Nat) (c : CT) : (put8 a p c).size = a.size := by unfold put8; simp
theorem put8_in (a : Array Value) (p : Nat) (c : CT) (j : Nat) (hj : j < 8) (hp : p + 8 ≤ a.size) : (put8 a p c)[p + j]? = c.e[j]? := by
  have h0 : p + j < a.size := by omega
  match j, hj with
  | 0, _ => simp [put8, CT.e, show p < a.size by omega]
  | 1, _ => simp [put8, CT.e, h0]
  | 2, _ => simp [put8, CT.e, h0]
  | 3, _ => simp [put8, CT.e, h0]
  | 4, _ => simp [put8, CT.e, h0]
  | 5, _ => simp [put8, CT.e, h0]
  | 6, _ => simp [put8, CT.e, h0]
  | 7, _ => simp [put8, CT.e, h0]
theorem put8_out (a : Array Value) (p : Nat) (c : CT) (t : Nat) (h : t < p ∨ p + 8 ≤ t) : (put8 a p c)[t]? = a[t]? := by
  unfold put8
  rw [Array.getElem?_setIfInBounds_ne (by omega), Array.getElem?_setIfInBounds_ne (by omega), Array.getElem?_setIfInBounds_ne (by omega), Array.getElem?_setIfInBounds_ne (by omega), Array.getElem?_setIfInBounds_ne (by omega), Array.getElem?_setIfInBounds_ne (by omega), Array.getElem?_setIfInBounds_ne (by omega), Array.getElem?_setIfInBounds_ne (by omega)]
theorem blk_put8 {W : World} {g : Nat} {T : TypeId} {a : Array Value} (h : Blk W g T a) (p : Nat) (c : CT) : Blk (set8 W g p c) g T (put8 a p c) :=
  (((((((h.set p _).set (p + 1) _).set (p + 2) _).set (p + 3) _).set (p + 4) _).set (p + 5) _).set (p + 6) _).set (p + 7) _
theorem below_set8 {B g p : Nat} {w W : World} {c : CT} (h : Below B w W) (hB : B ≤ g) : Below B w (set8 W g p c) :=
  (((((((h.setCell (p := ⟨g, p, none⟩) hB _).setCell (p := ⟨g, p + 1, none⟩) hB _).setCell (p := ⟨g, p + 2, none⟩) hB _).setCell (p := ⟨g, p + 3, none⟩) hB _).setCell (p := ⟨g, p + 4, none⟩) hB _).setCell (p := ⟨g, p + 5, none⟩) hB _).setCell (p := ⟨g, p + 6, none⟩) hB _).setCell (p := ⟨g, p + 7, none⟩) hB _
theorem RowB.set {W : World} {g cap : Nat} {m : List CT} (h : RowB W g cap m) (i : Nat) (hi : i < m.length) (c : CT) : RowB (set8 W g (i * 8) c) g cap (m.set i c) := by
  obtain ⟨cur, hb, q3, q1, q2, q4⟩ := h
  refine ⟨put8 cur (i * 8) c, blk_put8 hb (i * 8) c, by rw [put8_size]; exact q3, by rw [List.length_set]; exact q1, q2, ?_⟩
  rw [List.length_set]
  apply List.ext_getElem?
  intro t
  by_cases ht : t < m.length * 8
  · rw [List.getElem?_take_of_lt ht, Array.getElem?_toList]
    have e : t = t / 8 * 8 + t % 8 := by omega
    have hl : t / 8 < (m.set i c).length := by rw [List.length_set]; omega
    have h1 : (flatC (m.set i c))[t]? = (m.set i c)[t / 8].e[t % 8]? := by
      conv => lhs; rw [e]
      exact flatC_at _ _ _ hl (by omega)
    rw [h1, List.getElem_set]
    by_cases ei : i = t / 8
    · rw [if_pos ei]
      have h2 := put8_in cur (i * 8) c (t % 8) (by omega) (by omega)
      rw [show i * 8 + t % 8 = t by omega] at h2
      exact h2
    · rw [if_neg ei, put8_out cur (i * 8) c t (by omega)]
      have h3 : (flatC m)[t]? = m[t / 8].e[t % 8]? := by
        conv => lhs; rw [e]
        exact flatC_at _ _ _ (by omega) (by omega)
      rw [← h3, ← q4, List.getElem?_take_of_lt ht, Array.getElem?_toList]
  · rw [List.getElem?_take_eq_none (by omega), List.getElem?_eq_none (by rw [flatC_len, List.length_set]; omega)]
/-- Two cells of a list change places. -/
def swapC (m : List CT) (a b : Nat) : List CT := (m.set a (m.getD b default)).set b (m.getD a default)
theorem swap_len (m : List CT) (a b : Nat) : (swapC m a b).length = m.length := by unfold swapC; simp
theorem swap_perm {m : List CT} {a b : Nat} (ha : a < m.length) (hb : b < m.length) : (swapC m a b).Perm m := by
  unfold swapC
  rw [List.getD_eq_getElem?_getD, List.getD_eq_getElem?_getD, List.getElem?_eq_getElem ha, List.getElem?_eq_getElem hb, Option.getD_some, Option.getD_some]
  exact List.set_set_perm ha hb
theorem RowB.swap {W : World} {g cap : Nat} {m : List CT} (h : RowB W g cap m) {a b : Nat} {x y : CT} (ha : a < m.length) (hb : b < m.length) (hx : m[a] = x) (hy : m[b] = y) : RowB (set8 (set8 W g (a * 8) y) g (b * 8) x) g cap (swapC m a b) := by
  have h1 := (h.set a ha y).set b (by rw [List.length_set]; exact hb) x
  unfold swapC
  rw [List.getD_eq_getElem?_getD, List.getD_eq_getElem?_getD, List.getElem?_eq_getElem ha, List.getElem?_eq_getElem hb, Option.getD_some, Option.getD_some, hx, hy]
  exact h1
end Go.Proofs.YtdjaofbjmnmlbaaDoor

/- Cells sorted: one list alone is it; it rises; the statements' fixed cells, sorted. -/
namespace Go.Proofs.YtdjaofbjmnmlbaaDoor
open Go.RowKit

theorem stbl_uniq {l : List CT} {l1 l2 : List TT} (h1 : StbL l l1) (h2 : StbL l l2) : l1 = l2 := by
  have hs : Sort.SWO (ltOf tcF) := c3_swo tc3
  refine List.Perm.eq_of_pairwise (le := RT (ltOf tcF) Prod.snd) (fun a b _ _ hab hba => ?_) h1.sorted h2.sorted (h1.perm.trans h2.perm.symm)
  exfalso
  rcases hab with hab | ⟨hab, ht⟩
  · rcases hba with hba | ⟨hba, _⟩
    · rw [swo_asym hs hab] at hba; cases hba
    · rw [hab] at hba; cases hba
  · rcases hba with hba | ⟨_, ht2⟩
    · rw [hab] at hba; cases hba
    · omega
theorem SortOf.uniq {l s t : List CT} (h1 : SortOf l s) (h2 : SortOf l t) : s = t := by
  obtain ⟨l1, a1, rfl⟩ := h1
  obtain ⟨l2, a2, rfl⟩ := h2
  rw [stbl_uniq a1 a2]

theorem lasts_mem : ∀ (l : List CT) (x : CT), x ∈ lastsM l → x ∈ l
  | [], _, h => h
  | [a], _, h => h
  | a :: b :: t, x, h => by
    have ih := lasts_mem (b :: t) x
    have h : x ∈ (if CT.cmp a b = 0 then lastsM (b :: t) else a :: lastsM (b :: t)) := h
    split at h
    · exact List.mem_cons_of_mem _ (ih h)
    · rcases List.mem_cons.1 h with rfl | h
      · exact List.mem_cons_self
      · exact List.mem_cons_of_mem _ (ih h)
theorem lasts_rise : ∀ l : List CT, l.Pairwise (fun x y => CT.cmp x y ≤ 0) → (lastsM l).Pairwise (fun x y => CT.cmp x y < 0)
  | [], _ => List.Pairwise.nil
  | [a], _ => List.pairwise_singleton _ _
  | a :: b :: t, h => by
    obtain ⟨h1, h2⟩ := List.pairwise_cons.1 h
    have ih := lasts_rise (b :: t) h2
    show (if CT.cmp a b = 0 then lastsM (b :: t) else a :: lastsM (b :: t)).Pairwise _
    split
    · exact ih
    · rename_i hne
      refine List.pairwise_cons.2 ⟨fun z hz => ?_, ih⟩
      have hab : CT.cmp a b < 0 := by have := h1 b List.mem_cons_self; omega
      have hz := lasts_mem _ _ hz
      rcases List.mem_cons.1 hz with rfl | hz
      · exact hab
      · exact ct_c3.lt_le hab ((List.pairwise_cons.1 h2).1 z hz)
theorem StbL.le {l : List CT} {l' : List TT} (h : StbL l l') : (l'.map Prod.fst).Pairwise (fun x y => CT.cmp x y ≤ 0) := by
  rw [List.pairwise_map]
  refine h.sorted.imp fun {a b} hab => ?_
  have hs : Sort.SWO (ltOf tcF) := c3_swo tc3
  have h0 := RT.le hs hab
  have h2 : ¬ tcF b a < 0 := by
    intro q
    have h1 : ltOf tcF b a = true := by simpa [ltOf] using q
    rw [h0] at h1
    cases h1
  have h3 := ct_c3.anti b.1 a.1
  have h4 : tcF b a = CT.cmp b.1 a.1 := rfl
  omega
/-- Sorted cells rise. -/
theorem SortOf.rise {l s : List CT} (h : SortOf l s) : s.Pairwise (fun x y => CT.cmp x y < 0) := by
  obtain ⟨l', h1, rfl⟩ := h
  exact lasts_rise _ h1.le
theorem SortOf.mem {l s : List CT} (h : SortOf l s) {c : CT} (hc : c ∈ s) : c ∈ l ∧ c.ok = true := by
  obtain ⟨l', h1, rfl⟩ := h
  have h2 := lasts_mem _ _ hc
  obtain ⟨p, hp, rfl⟩ := List.mem_map.1 h2
  have h3 := h1.perm.mem_iff.1 hp
  obtain ⟨x, i⟩ := p
  exact List.mem_filter.1 (List.fst_mem_of_mem_zipIdx h3)

def goneC : CT := ⟨⟨#[114]⟩, ⟨#[102]⟩, ⟨#[113]⟩, 3, 3, 0, 0, ⟨#[]⟩⟩
def fixedC : List CT := [putC 3, putC 4, goneC, putC 5]
def fixedT : List TT := [(putC 5, 3), (putC 4, 1), (goneC, 2), (putC 3, 0)]
theorem fixed_ok : fixedC.filter CT.ok = fixedC := by
  have h3 : (putC 3).ok = true := by kernel_rfl
  have h4 : (putC 4).ok = true := by kernel_rfl
  have h5 : (putC 5).ok = true := by kernel_rfl
  have hg : goneC.ok = true := by kernel_rfl
  simp [fixedC, h3, h4, h5, hg]
theorem fixed_stb : StbL (fixedC.filter CT.ok) fixedT := by
  rw [fixed_ok]
  constructor
  · show fixedT.Perm [(putC 3, 0), (putC 4, 1), (goneC, 2), (putC 5, 3)]
    exact ((List.reverse_perm [(putC 3, 0), (putC 4, 1), (goneC, 2), (putC 5, 3)]).symm.trans (List.Perm.cons _ (List.Perm.swap _ _ _))).symm
  · have a1 : ltOf tcF (putC 5, 3) (putC 4, 1) = true := by kernel_rfl
    have a2 : ltOf tcF (putC 5, 3) (goneC, 2) = true := by kernel_rfl
    have a3 : ltOf tcF (putC 5, 3) (putC 3, 0) = true := by kernel_rfl
    have a4 : ltOf tcF (putC 4, 1) (goneC, 2) = true := by kernel_rfl
    have a5 : ltOf tcF (putC 4, 1) (putC 3, 0) = true := by kernel_rfl
    have a6 : ltOf tcF (goneC, 2) (putC 3, 0) = true := by kernel_rfl
    simp [fixedT, RT, a1, a2, a3, a4, a5, a6]
theorem fixed_sort {s : List CT} (h : SortOf fixedC s) : s = [putC 5, putC 4, goneC, putC 3] := by
  rw [h.uniq ⟨fixedT, fixed_stb, rfl⟩]
  have a1 : CT.cmp (putC 5) (putC 4) = -1 := by kernel_rfl
  have a2 : CT.cmp (putC 4) goneC = -1 := by kernel_rfl
  have a3 : CT.cmp goneC (putC 3) = -1 := by kernel_rfl
  simp [fixedT, lastsM, a1, a2, a3]
def fixedS : List CT := [putC 5, putC 4, goneC, putC 3]
theorem fixed_seen1 : seenL 1 0 9 fixedS = [putC 5] := by kernel_rfl
theorem fixed_seen8 : (seenL 8 0 9 fixedS).length = 2 := by kernel_rfl
theorem fixed_seen3 : (seenL 8 3 8 fixedS).length = 0 := by kernel_rfl
theorem fixed_value : valueM ⟨#[102]⟩ ⟨#[113]⟩ fixedS (seenL 1 0 9 fixedS) = some (putC 5) := by kernel_rfl
theorem fixed_rows : (rowsL fixedC).length = 1 := by
  have e : (fixedC.map fun c => c.r.data.toList) = [[114], [114], [114], [114]] := by kernel_rfl
  unfold rowsL
  rw [e]
  have m : ([[114], [114], [114], [114]] : List (List UInt8)).mergeSort (fun x y => decide (x ≤ y)) = [[114], [114], [114], [114]] := by
    refine List.mergeSort_of_pairwise ?_
    decide
  rw [m]
  decide
end Go.Proofs.YtdjaofbjmnmlbaaDoor

/- What sorted cells are: they rise, and hold just the right cells behind which no right cell of their place stands. -/
namespace Go.Proofs.YtdjaofbjmnmlbaaDoor
open Go.RowKit

/-- c stands in f, and none of its place behind it. -/
def LastIn (f : List CT) (c : CT) : Prop := ∃ a b, f = a ++ c :: b ∧ ∀ d ∈ b, CT.cmp c d ≠ 0

theorem lasts_iff : ∀ (m : List CT), m.Pairwise (fun x y => CT.cmp x y ≤ 0) → ∀ c, c ∈ lastsM m ↔ LastIn m c
  | [], _, c => ⟨(fun h => by cases h), (fun ⟨a, b, h, _⟩ => by cases a <;> cases h)⟩
  | [x], _, c => by
    constructor
    · intro h
      rcases List.mem_singleton.1 h with rfl
      exact ⟨[], [], rfl, fun d hd => by cases hd⟩
    · rintro ⟨a, b, h, _⟩
      cases a with
      | nil => cases h; exact List.mem_singleton.2 rfl
      | cons y a => injection h with h1 h2; cases a <;> cases h2
  | x :: y :: t, hp, c => by
    obtain ⟨hx, hp'⟩ := List.pairwise_cons.1 hp
    obtain ⟨hy, _⟩ := List.pairwise_cons.1 hp'
    have ih := lasts_iff (y :: t) hp' c
    show c ∈ (if CT.cmp x y = 0 then lastsM (y :: t) else x :: lastsM (y :: t)) ↔ _
    have push : LastIn (y :: t) c → LastIn (x :: y :: t) c := fun ⟨a, b, h, hb⟩ => ⟨x :: a, b, by rw [h]; rfl, hb⟩
    have pull : LastIn (x :: y :: t) c → LastIn (y :: t) c ∨ (c = x ∧ ∀ d ∈ y :: t, CT.cmp c d ≠ 0) := fun ⟨a, b, h, hb⟩ => by
      cases a with
      | nil => injection h with h1 h2; subst h1; rw [h2]; exact .inr ⟨rfl, hb⟩
      | cons z a => injection h with h1 h2; exact .inl ⟨a, b, h2, hb⟩
    by_cases e : CT.cmp x y = 0
    · rw [if_pos e, ih]
      refine ⟨push, fun h => ?_⟩
      rcases pull h with h | ⟨rfl, h2⟩
      · exact h
      · exact absurd e (h2 y List.mem_cons_self)
    · rw [if_neg e, List.mem_cons, ih]
      constructor
      · rintro (rfl | h)
        · refine ⟨[], y :: t, rfl, fun d hd => ?_⟩
          have hxy : CT.cmp c y < 0 := by have := hx y List.mem_cons_self; omega
          rcases List.mem_cons.1 hd with rfl | hd
          · exact e
          · have := ct_c3.lt_le hxy (hy d hd); omega
        · exact push h
      · intro h
        rcases pull h with h | ⟨rfl, _⟩
        · exact .inr h
        · exact .inl rfl
theorem last_zip {f : List CT} {c : CT} : LastIn f c ↔ ∃ t, (c, t) ∈ f.zipIdx ∧ ∀ d u, (d, u) ∈ f.zipIdx → t < u → CT.cmp c d ≠ 0 := by
  constructor
  · rintro ⟨a, b, rfl, hb⟩
    refine ⟨a.length, ?_, fun d u hd hu => ?_⟩
    · rw [List.mk_mem_zipIdx_iff_getElem?]; simp
    · rw [List.mk_mem_zipIdx_iff_getElem?, List.getElem?_append_right (by omega)] at hd
      obtain ⟨k, hk⟩ : ∃ k, u - a.length = k + 1 := ⟨u - a.length - 1, by omega⟩
      rw [hk, List.getElem?_cons_succ] at hd
      exact hb d (List.mem_of_getElem? hd)
  · rintro ⟨t, ht, h⟩
    rw [List.mk_mem_zipIdx_iff_getElem?] at ht
    obtain ⟨hlt, hc⟩ := List.getElem?_eq_some_iff.1 ht
    refine ⟨f.take t, f.drop (t + 1), ?_, fun d hd => ?_⟩
    · rw [← hc, ← List.drop_eq_getElem_cons hlt, List.take_append_drop]
    · obtain ⟨k, hk, rfl⟩ := List.getElem_of_mem hd
      rw [List.getElem_drop]
      refine h _ (t + 1 + k) ?_ (by omega)
      rw [List.mk_mem_zipIdx_iff_getElem?]
      exact List.getElem?_eq_getElem _
theorem stb_last {f : List CT} {l' : List TT} (h : StbL f l') (c : CT) : LastIn (l'.map Prod.fst) c ↔ LastIn f c := by
  have hs : Sort.SWO (ltOf tcF) := c3_swo tc3
  have c0 : ∀ x y : TT, CT.cmp x.1 y.1 = 0 → ltOf tcF x y = false ∧ ltOf tcF y x = false := fun x y e => by
    have a := ct_c3.anti x.1 y.1
    constructor
    · show decide (CT.cmp x.1 y.1 < 0) = false
      exact decide_eq_false (by omega)
    · show decide (CT.cmp y.1 x.1 < 0) = false
      exact decide_eq_false (by omega)
  rw [last_zip (f := f)]
  constructor
  · rintro ⟨a, b, hm, hb⟩
    obtain ⟨a', b', rfl, rfl, hcb⟩ := List.map_eq_append_iff.1 hm
    obtain ⟨x, b'', rfl, rfl, rfl⟩ := List.map_eq_cons_iff.1 hcb
    refine ⟨x.2, h.perm.mem_iff.1 (by simp), fun d u hd hu e => ?_⟩
    have hd := h.perm.mem_iff.2 hd
    obtain ⟨p1, p2, p3⟩ := List.pairwise_append.1 h.sorted
    rcases List.mem_append.1 hd with hd | hd
    · have := p3 _ hd x List.mem_cons_self
      obtain ⟨q1, q2⟩ := c0 x (d, u) e
      rcases this with q | ⟨_, q⟩
      · rw [q] at q2; cases q2
      · have q : u < x.2 := q; omega
    · rcases List.mem_cons.1 hd with rfl | hd
      · exact absurd hu (Nat.lt_irrefl _)
      · exact hb d (List.mem_map.2 ⟨(d, u), hd, rfl⟩) e
  · rintro ⟨t, ht, hl⟩
    have ht := h.perm.mem_iff.2 ht
    obtain ⟨a, b, rfl⟩ := List.append_of_mem ht
    refine ⟨a.map Prod.fst, b.map Prod.fst, by simp, fun d hd e => ?_⟩
    obtain ⟨y, hy, rfl⟩ := List.mem_map.1 hd
    obtain ⟨_, p2, _⟩ := List.pairwise_append.1 h.sorted
    have hq := (List.pairwise_cons.1 p2).1 y hy
    obtain ⟨q1, q2⟩ := c0 (c, t) y e
    rcases hq with q | ⟨_, q⟩
    · rw [q] at q1; cases q1
    · exact hl y.1 y.2 (h.perm.mem_iff.1 (by simp [hy])) q e
/-- What sorted cells hold. -/
theorem SortOf.holds {l s : List CT} (h : SortOf l s) (c : CT) : c ∈ s ↔ LastIn (l.filter CT.ok) c := by
  obtain ⟨l', h1, rfl⟩ := h
  rw [lasts_iff _ h1.le, stb_last h1]
/-- Two lists that rise and hold the same are one. -/
theorem rise_uniq {s t : List CT} (h1 : s.Pairwise (fun x y => CT.cmp x y < 0)) (h2 : t.Pairwise (fun x y => CT.cmp x y < 0)) (h : ∀ c, c ∈ s ↔ c ∈ t) : s = t := by
  have nd : ∀ {m : List CT}, m.Pairwise (fun x y => CT.cmp x y < 0) → m.Nodup := fun hm => hm.imp fun {a b} hab e => by
    subst e
    have := ct_c3.zero a
    omega
  refine List.Perm.eq_of_pairwise (le := fun x y => CT.cmp x y < 0) (fun a b _ _ hab hba => ?_) h1 h2 ((List.perm_ext_iff_of_nodup (nd h1) (nd h2)).2 h)
  have := ct_c3.anti a b
  omega
end Go.Proofs.YtdjaofbjmnmlbaaDoor

/- Sorted cells of a part of the places. -/
namespace Go.Proofs.YtdjaofbjmnmlbaaDoor
open Go.RowKit

theorem last_filter {f : List CT} {P : CT → Bool} (hP : ∀ x y, CT.cmp x y = 0 → P x = P y) (c : CT) : LastIn (f.filter P) c ↔ LastIn f c ∧ P c = true := by
  constructor
  · rintro ⟨a, b, h, hb⟩
    obtain ⟨l1, l2, rfl, h1, h2⟩ := List.filter_eq_append_iff.1 h
    obtain ⟨m1, m2, rfl, hm, hc, h3⟩ := List.filter_eq_cons_iff.1 h2
    refine ⟨⟨l1 ++ m1, m2, by simp, fun d hd e => ?_⟩, hc⟩
    refine hb d ?_ e
    rw [← h3]
    exact List.mem_filter.2 ⟨hd, by rw [← hP c d e]; exact hc⟩
  · rintro ⟨⟨a, b, rfl, hb⟩, hc⟩
    refine ⟨a.filter P, b.filter P, by rw [List.filter_append, List.filter_cons, if_pos hc], fun d hd => hb d (List.mem_filter.1 hd).1⟩
/-- Sorting the cells of a part of the places is taking that part of the sorted ones. -/
theorem SortOf.part {l s t : List CT} {P : CT → Bool} (hP : ∀ x y, CT.cmp x y = 0 → P x = P y) (h : SortOf l s) (h2 : SortOf (l.filter P) t) : t = s.filter P := by
  refine rise_uniq h2.rise (h.rise.filter _) fun c => ?_
  rw [h2.holds, List.mem_filter, h.holds, ← last_filter hP]
  rw [show (l.filter P).filter CT.ok = (l.filter CT.ok).filter P by rw [List.filter_filter, List.filter_filter]; congr 1; funext x; exact Bool.and_comm _ _]
/-- Sorting a list that holds the same right cells, no two of one place, gives the same. -/
theorem SortOf.apart {l m s t : List CT} (h : SortOf l s) (h2 : SortOf m t) (hm : m.Perm s) (hr : ∀ c ∈ s, c.ok = true) : t = s := by
  refine rise_uniq h2.rise h.rise fun c => ?_
  have hok : m.filter CT.ok = m := List.filter_eq_self.2 fun x hx => hr x (hm.mem_iff.1 hx)
  rw [h2.holds, hok]
  have nd : ∀ a b : CT, a ∈ s → b ∈ s → CT.cmp a b = 0 → a = b := fun a b ha hb e => by
    obtain ⟨p, q, rfl⟩ := List.append_of_mem ha
    obtain ⟨r1, r2, r3⟩ := List.pairwise_append.1 h.rise
    rcases List.mem_append.1 hb with hb | hb
    · have := r3 b hb a List.mem_cons_self
      have := ct_c3.anti a b
      omega
    · rcases List.mem_cons.1 hb with rfl | hb
      · rfl
      · have := (List.pairwise_cons.1 r2).1 b hb
        omega
  have ndm : m.Nodup := hm.nodup_iff.2 (h.rise.imp fun {a b} hab e => by
    subst e
    have := ct_c3.zero a
    omega)
  constructor
  · rintro ⟨a, b, rfl, _⟩
    exact hm.mem_iff.1 (by simp)
  · intro hc
    obtain ⟨a, b, rfl⟩ := List.append_of_mem (hm.mem_iff.2 hc)
    refine ⟨a, b, rfl, fun d hd e => ?_⟩
    have hd2 : d ∈ s := hm.mem_iff.1 (by simp [hd])
    have := nd c d hc hd2 e
    subst this
    have h3 := (List.nodup_append.1 ndm).2.1
    exact (List.nodup_cons.1 h3).1 hd
end Go.Proofs.YtdjaofbjmnmlbaaDoor

/- The statements' fixed cells: alive. Conditions: the tables of utf8 read as they are laid. -/
namespace Go.Proofs.YtdjaofbjmnmlbaaDoor
open Go.RowKit

abbrev AlS (W0 : World) (rb : Nat) (W : World) : Prop := Hid (Below W0.heap.size W0 W ∧ rb < W0.heap.size) ∧ W.cell? ⟨rb, 0, none⟩ = some (.string ⟨#[114]⟩) ∧ W.cell? ⟨rb, 1, none⟩ = some (.string ⟨#[102]⟩) ∧ W.cell? ⟨rb, 2, none⟩ = some (.string ⟨#[113]⟩) ∧ W.cell? ⟨rb, 3, none⟩ = some (.int .i64 3) ∧ W.cell? ⟨rb, 4, none⟩ = some (.int .i64 3) ∧ W.cell? ⟨rb, 5, none⟩ = some (.int .i64 0) ∧ W.cell? ⟨rb, 6, none⟩ = some (.int .i64 0) ∧ W.cell? ⟨rb, 7, none⟩ = some (.string ⟨#[]⟩)
abbrev AlT (W0 : World) (g vb : Nat) (W : World) : Prop := Hid (Below W0.heap.size W0 W ∧ g < W0.heap.size ∧ vb < W0.heap.size) ∧ W.cell? ⟨g, 0, none⟩ = some (.string ⟨#[114]⟩) ∧ W.cell? ⟨g, 1, none⟩ = some (.string ⟨#[102]⟩) ∧ W.cell? ⟨g, 2, none⟩ = some (.string ⟨#[113]⟩) ∧ W.cell? ⟨g, 3, none⟩ = some (.int .i64 5) ∧ W.cell? ⟨g, 4, none⟩ = some (.int .i64 1) ∧ W.cell? ⟨g, 5, none⟩ = some (.int .i64 1) ∧ W.cell? ⟨g, 6, none⟩ = some (.int .i64 5) ∧ W.cell? ⟨g, 7, none⟩ = some (.string ⟨#[]⟩) ∧ W.cell? ⟨vb, 1, none⟩ = some (.int .i64 5)
section
variable {W0 W W' : World} {rb g vb : Nat}
theorem als_drew (h : AlS W0 rb W) : AlS W0 rb W.drew := ⟨hid ⟨h.1.out.1.drew, h.1.out.2⟩, h.2⟩
theorem als_call (h : AlS W0 rb W) (hb : Below W.heap.size W W') : AlS W0 rb W' := by
  obtain ⟨hh, a0, a1, a2, a3, a4, a5, a6, a7⟩ := h
  obtain ⟨hbw, h1⟩ := hh.out
  have hz := hbw.size
  have hc : ∀ b o, b < W0.heap.size → W'.cell? ⟨b, o, none⟩ = W.cell? ⟨b, o, none⟩ := fun b o h => hb.cell (p := ⟨b, o, none⟩) (show b < W.heap.size by omega)
  refine ⟨hid ⟨hbw.trans (hb.mono hz), h1⟩, ?_, ?_, ?_, ?_, ?_, ?_, ?_, ?_⟩ <;> (rw [hc _ _ (by omega)]; assumption)
theorem alt_drew (h : AlT W0 g vb W) : AlT W0 g vb W.drew := ⟨hid ⟨h.1.out.1.drew, h.1.out.2⟩, h.2⟩
theorem alt_call (h : AlT W0 g vb W) (hb : Below W.heap.size W W') : AlT W0 g vb W' := by
  obtain ⟨hh, a0, a1, a2, a3, a4, a5, a6, a7, a8⟩ := h
  obtain ⟨hbw, h1, h2⟩ := hh.out
  have hz := hbw.size
  have hc : ∀ b o, b < W0.heap.size → W'.cell? ⟨b, o, none⟩ = W.cell? ⟨b, o, none⟩ := fun b o h => hb.cell (p := ⟨b, o, none⟩) (show b < W.heap.size by omega)
  refine ⟨hid ⟨hbw.trans (hb.mono hz), h1, h2⟩, ?_, ?_, ?_, ?_, ?_, ?_, ?_, ?_, ?_⟩ <;> (rw [hc _ _ (by omega)]; assumption)
end
/-- The fixed cells in memory. -/
theorem cla_fixed (w : World) : ClA (w.alloc (.cells (flatC fixedC).toArray 28)) (.slice (some ⟨w.heap.size, 0, none⟩) 4 4) fixedC := by
  refine ⟨_, 4, rfl, Nat.le_refl _, by omega, fun _ => ⟨_, 0, rfl, fun i hi j hj => ?_⟩⟩
  rw [(Blk.new w 28 (flatC fixedC).toArray).cell, Nat.zero_add, List.getElem?_toArray]
  exact flatC_at fixedC i j hi hj
theorem crow_one {w : World} {B : Nat} {v : Value} {c : CT} (h : CRow w B v [c]) : ∃ g cap, v = .slice (some ⟨g, 0, none⟩) 1 cap ∧ 1 ≤ cap ∧ cap ≤ 9223372036854775807 ∧ g < w.heap.size ∧ ∀ j, j < 8 → w.cell? ⟨g, j, none⟩ = c.e[j]? := by
  have h' := h
  rcases h.2 with ⟨e, hz⟩ | ⟨g, cap, cur, e, hB, hb, h1, h2, _⟩
  · cases hz
  · subst e
    refine ⟨g, cap, rfl, h1, by unfold maxLen at h2; omega, (Array.getElem?_eq_some_iff.1 hb).1, fun j hj => ?_⟩
    have := h'.hc 0 (by simp) j hj
    simpa using this
theorem fixed_okC : ∀ c ∈ fixedC, okC c := by
  intro c hc
  have q : okC (putC 3) ∧ okC (putC 4) ∧ okC goneC ∧ okC (putC 5) := by
    refine ⟨⟨?_, ?_, ?_⟩, ⟨?_, ?_, ?_⟩, ⟨?_, ?_, ?_⟩, ⟨?_, ?_, ?_⟩⟩ <;> (simp only [putC, goneC]; first | decide | (unfold inI; omega))
  simp only [fixedC, List.mem_cons, List.not_mem_nil, or_false] at hc
  rcases hc with rfl | rfl | rfl | rfl
  · exact q.1
  · exact q.2.1
  · exact q.2.2.1
  · exact q.2.2.2

set_option maxHeartbeats 4000000 in
set_option maxRecDepth 100000 in
theorem alive_any (w : World) (hL : LaidU w) : Calls Tryd.prog 23 #[] w fun e w' => e = .returned (.bool true) ∧ Below w.heap.size w w' := by
  have mixed : Tryd.prog.follows .mixedOrders = true := by kernel_rfl
  have HP := hid putc_any
  have HPL : Hid (∀ W, Calls Tryd.prog 69 #[.int .i64 5] W fun e w' => e = .returned (.agg #[.string ⟨#[114]⟩, .string ⟨#[102]⟩, .string ⟨#[113]⟩, .int .i64 5, .int .i64 1, .int .i64 1, .int .i64 5, .string ⟨#[]⟩]) ∧ Below W.heap.size W w') := putc_any 5
  have HX : Hid (∀ (w5 W : World) , LaidU (w5.alloc (.cells (flatC fixedC).toArray 28)) → Below (w5.alloc (.cells (flatC fixedC).toArray 28)).heap.size (w5.alloc (.cells (flatC fixedC).toArray 28)) W → ClA W (.slice (some ⟨w5.heap.size, 0, none⟩) 4 4) fixedC ∧ LaidU W) := fun w5 W h1 h2 => ⟨(cla_fixed w5).below h2, h1.below h2⟩
  have HSe : Hid (∀ (W : World) (v : Value) (a b d : Int), ClA W v fixedC ∧ LaidU W → Calls Tryd.prog 30 #[v, .int .i64 a, .int .i64 b, .int .i64 d] W fun e w' => ∃ v', e = .returned v' ∧ CRow w' W.heap.size v' (seenL a b d fixedS) ∧ Below W.heap.size W w') := fun W v a b d h => (cseen_any v fixedC (by decide) a b d W h.1 fixed_okC h.2).mono fun _ _ ⟨v', s, h1, h2, h3, h4⟩ => ⟨v', h1, by rw [fixed_sort h2] at h3; exact h3, h4⟩
  have HVa : Hid (∀ (W : World) (v : Value), ClA W v fixedC ∧ LaidU W → Calls Tryd.prog 70 #[v, .string ⟨#[102]⟩, .string ⟨#[113]⟩, .int .i64 1, .int .i64 0, .int .i64 9] W fun e w' => e = .returned (.tuple #[.agg #[.int .i64 1, .int .i64 5, .string ⟨#[]⟩], .bool true]) ∧ Below W.heap.size W w') := fun W v h => (cvalue_any v fixedC (by decide) _ _ 1 0 9 W h.1 fixed_okC h.2).mono fun _ _ ⟨s, h1, h2, h3⟩ => ⟨by rw [h1, fixed_sort h2]; exact congrArg (fun o => Ending.returned (valV o)) fixed_value, h3⟩
  have HSo : Hid (∀ (W : World) (v : Value), ClA W v fixedC ∧ LaidU W → Calls Tryd.prog 25 #[v] W fun e w' => ∃ A c, e = .returned (.slice A 4 c) ∧ Below W.heap.size W w') := fun W v h => (sort_any v fixedC (by decide) W h.1 fixed_okC h.2).mono fun _ _ ⟨v', s, h1, h2, h3, h4⟩ => by
    obtain ⟨A, c, e, _⟩ := h3.len
    rw [fixed_sort h2] at e
    exact ⟨A, c, by rw [h1, e]; rfl, h4⟩
  have HRo : Hid (∀ (W : World) (v : Value), ClA W v fixedC ∧ LaidU W → Calls Tryd.prog 71 #[v] W fun e w' => ∃ A c, e = .returned (.slice A 1 c) ∧ Below W.heap.size W w') := fun W v h => (crows_any v fixedC (by decide) W h.1).mono fun _ _ ⟨v', h1, h2, h3⟩ => by
    have h4 := h2.2
    rw [fixed_rows] at h4
    rcases h4 with ⟨_, hz⟩ | ⟨g, cap, cur, e, _⟩
    · cases hz
    · exact ⟨_, cap, by rw [h1, e], h3⟩
  have HS8 : Hid (∀ (W : World) (v : Value) (b d : Int), ClA W v fixedC ∧ LaidU W → Calls Tryd.prog 30 #[v, .int .i64 8, .int .i64 b, .int .i64 d] W fun e w' => ∃ A c, e = .returned (.slice A (seenL 8 b d fixedS).length c) ∧ Below W.heap.size W w') := fun W v b d h => (HSe.out W v 8 b d h).mono fun _ _ ⟨v', h1, h2, h3⟩ => by
    obtain ⟨A, c, e, _⟩ := h2.len
    exact ⟨A, c, by rw [h1, e], h3⟩
  have HNe : Hid (∀ (W : World) (v : Value), ClA W v fixedC ∧ LaidU W → Calls Tryd.prog 72 #[v, .int .i64 8, .int .i64 0, .int .i64 9] W fun e w' => ∃ A c, e = .returned (.slice A 2 c) ∧ Below W.heap.size W w') := fun W v h => (cneeded_any v fixedC (by decide) 8 0 9 W h.1 fixed_okC h.2).mono fun _ _ ⟨v', s, h1, h2, h3, h4⟩ => by
    obtain ⟨A, c, e, _⟩ := h3.len
    rw [fixed_sort h2] at e
    exact ⟨A, c, by rw [h1, e]; rfl, h4⟩
  go_enter Tryd.func23, Tryd.ntmps23
  go_upto_region 2 with (fail)
  obtain ⟨rb, hrb⟩ : ∃ rb, w.heap.size = rb := ⟨_, rfl⟩
  obtain ⟨W0, hW0⟩ : ∃ W0, w.alloc (.cells goneC.e.toArray 28) = W0 := ⟨_, rfl⟩
  have HT : Hid (AlS W0 rb W0) := by
    rw [← hW0, ← hrb]
    have hB := Blk.new w 28 goneC.e.toArray
    exact ⟨hid ⟨Below.refl _ _, hB.lt⟩, blk_words (c := goneC) hB⟩
  have HB0 : Hid (Below w.heap.size w W0) := by rw [← hW0]; exact below_new _ _
  have HL0 : Hid (LaidU W0) := hL.below HB0.out
  rw [show w.alloc (.cells #[.string ⟨#[114]⟩, .string ⟨#[102]⟩, .string ⟨#[113]⟩, .int .i64 3, .int .i64 3, .int .i64 0, .int .i64 0, .string ⟨#[]⟩] 28) = W0 from hW0, hrb]
  clear hrb hW0 hL
  obtain ⟨-, a0, a1, a2, a3, a4, a5, a6, a7⟩ := HT.out
  go_region_held3 (fun W' => Hid (Below W0.heap.size W0 W' ∧ rb < W0.heap.size) ∧ W'.cell? ⟨rb, 0, none⟩ = some (.string ⟨#[114]⟩) ∧ W'.cell? ⟨rb, 1, none⟩ = some (.string ⟨#[102]⟩) ∧ W'.cell? ⟨rb, 2, none⟩ = some (.string ⟨#[113]⟩) ∧ W'.cell? ⟨rb, 3, none⟩ = some (.int .i64 3) ∧ W'.cell? ⟨rb, 4, none⟩ = some (.int .i64 3) ∧ W'.cell? ⟨rb, 5, none⟩ = some (.int .i64 0) ∧ W'.cell? ⟨rb, 6, none⟩ = some (.int .i64 0) ∧ W'.cell? ⟨rb, 7, none⟩ = some (.string ⟨#[]⟩))
    (first | exact HT.out | exact als_drew HT.out | exact als_call (by assumption) hb5 | exact als_call (by assumption) (below_new _ _) | exact als_drew (by assumption) | assumption)
    (first | (go_at_call 69; refine (HP.out _ _).mono ?_; rintro e w5 ⟨rfl, hb5⟩))
  rename_i hLast
  have HB5 : Hid (Below W0.heap.size W0 (w5.alloc (.cells (flatC fixedC).toArray 28))) := hLast.1.out.1
  clear a0 a1 a2 a3 a4 a5 a6 a7 hLast HT
  have HL5 : Hid (LaidU (w5.alloc (.cells (flatC fixedC).toArray 28))) := HL0.out.below HB5.out
  go_upto_region 5 with (first
    | (go_at_call 30; refine (HSe.out _ _ 1 0 9 (HX.out w5 _ HL5.out (Below.refl _ _))).mono ?_; rintro e w6 ⟨v6, rfl, hr6, hb6⟩; rw [fixed_seen1] at hr6; obtain ⟨g, cap, rfl, hc1, hc2, hg, hw⟩ := crow_one hr6)
    | (go_at_call 70; refine (HVa.out _ _ (HX.out w5 _ HL5.out hb6)).mono ?_; rintro e w7 ⟨rfl, hb7⟩))
  obtain ⟨W8, hW8⟩ : ∃ W8, w7.alloc (.cells #[.int .i64 1, .int .i64 5, .string ⟨#[]⟩] 26) = W8 := ⟨_, rfl⟩
  obtain ⟨vb, hvb⟩ : ∃ vb, w7.heap.size = vb := ⟨_, rfl⟩
  obtain ⟨lv, hlv⟩ : ∃ lv, Value.slice (some ⟨w5.heap.size, 0, none⟩) 4 4 = lv := ⟨_, rfl⟩
  have hb8 : Below w7.heap.size w7 W8 := by rw [← hW8]; exact below_new _ _
  have HQ : Hid (∀ W', Below W8.heap.size W8 W' → ClA W' lv fixedC ∧ LaidU W') := fun W' h => by
    have h1 := HX.out w5 _ HL5.out ((hb6.trans (hb7.mono hb6.size)).trans ((hb8.mono (Nat.le_trans hb6.size hb7.size)).trans (h.mono (Nat.le_trans (Nat.le_trans hb6.size hb7.size) hb8.size))))
    rw [hlv] at h1
    exact h1
  have HB8 : Hid (Below w.heap.size w W8) := by
    have h1 := HB0.out.trans (HB5.out.mono HB0.out.size)
    have h2 := h1.trans (hb6.mono h1.size)
    have h3 := h2.trans (hb7.mono h2.size)
    exact h3.trans (hb8.mono h3.size)
  have HT : Hid (AlT W8 g vb W8) := by
    have hg7 : g < w7.heap.size := Nat.lt_of_lt_of_le hg hb7.size
    have k : ∀ j, j < 8 → W8.cell? ⟨g, j, none⟩ = (putC 5).e[j]? := fun j hj => by
      rw [hb8.cell (p := ⟨g, j, none⟩) hg7, hb7.cell (p := ⟨g, j, none⟩) hg]
      exact hw j hj
    have hB : Blk W8 vb 26 #[.int .i64 1, .int .i64 5, .string ⟨#[]⟩] := by rw [← hW8, ← hvb]; exact Blk.new _ _ _
    exact ⟨hid ⟨Below.refl _ _, Nat.lt_of_lt_of_le hg7 hb8.size, hB.lt⟩, k 0 (by omega), k 1 (by omega), k 2 (by omega), k 3 (by omega), k 4 (by omega), k 5 (by omega), k 6 (by omega), k 7 (by omega), hB.cell 1⟩
  rw [hW8, hvb, hlv]
  clear hW8 hvb hlv hb8 hw hr6 hb6 hb7 HX HL5 HB5 HL0 HB0
  obtain ⟨-, a0, a1, a2, a3, a4, a5, a6, a7, a8⟩ := HT.out
  go_region_held3 (fun W' => Hid (Below W8.heap.size W8 W' ∧ g < W8.heap.size ∧ vb < W8.heap.size) ∧ W'.cell? ⟨g, 0, none⟩ = some (.string ⟨#[114]⟩) ∧ W'.cell? ⟨g, 1, none⟩ = some (.string ⟨#[102]⟩) ∧ W'.cell? ⟨g, 2, none⟩ = some (.string ⟨#[113]⟩) ∧ W'.cell? ⟨g, 3, none⟩ = some (.int .i64 5) ∧ W'.cell? ⟨g, 4, none⟩ = some (.int .i64 1) ∧ W'.cell? ⟨g, 5, none⟩ = some (.int .i64 1) ∧ W'.cell? ⟨g, 6, none⟩ = some (.int .i64 5) ∧ W'.cell? ⟨g, 7, none⟩ = some (.string ⟨#[]⟩) ∧ W'.cell? ⟨vb, 1, none⟩ = some (.int .i64 5))
    (first | exact HT.out | exact alt_drew HT.out | exact alt_call (by assumption) hb9 | exact alt_drew (by assumption) | assumption)
    (first
      | (go_at_call 69; refine (HPL.out _).mono ?_; rintro e w9 ⟨rfl, hb9⟩)
      | (go_at_call 25; refine (HSo.out _ _ (HQ.out _ (Hid.out (And.left (by assumption : AlT W8 g vb _))).1)).mono ?_; rintro e w9 ⟨A9, c9, rfl, hb9⟩)
      | (go_at_call 30; refine (HS8.out _ _ _ _ (HQ.out _ (Hid.out (And.left (by assumption : AlT W8 g vb _))).1)).mono ?_; rintro e w9 ⟨A9, c9, rfl, hb9⟩; (first | rw [fixed_seen8] | rw [fixed_seen3]))
      | (go_at_call 71; refine (HRo.out _ _ (HQ.out _ (Hid.out (And.left (by assumption : AlT W8 g vb _))).1)).mono ?_; rintro e w9 ⟨A9, c9, rfl, hb9⟩)
      | (go_at_call 72; refine (HNe.out _ _ (HQ.out _ (Hid.out (And.left (by assumption : AlT W8 g vb _))).1)).mono ?_; rintro e w9 ⟨A9, c9, rfl, hb9⟩))
  rename_i hLast
  have HZ := hid hLast.1.out.1
  clear a0 a1 a2 a3 a4 a5 a6 a7 a8 hLast HT
  go_wp2
  go_ret
  exact ⟨rfl, HB8.out.trans (HZ.out.mono HB8.out.size)⟩
end Go.Proofs.YtdjaofbjmnmlbaaDoor

/- What is let of sorted cells: of each column no more than so many, the latest first. -/
namespace Go.Proofs.YtdjaofbjmnmlbaaDoor
open Go.RowKit

theorem cmp_lex (x y : CT) : CT.cmp x y = (if Lib.compareBytes x.r.data.toList y.r.data.toList = 0 then (if Lib.compareBytes x.f.data.toList y.f.data.toList = 0 then (if Lib.compareInt (rankC x.k) (rankC y.k) = 0 then (if Lib.compareBytes x.q.data.toList y.q.data.toList = 0 then (if Lib.compareInt (-x.t) (-y.t) = 0 then (if Lib.compareInt (-x.k) (-y.k) = 0 then 0 else Lib.compareInt (-x.k) (-y.k)) else Lib.compareInt (-x.t) (-y.t)) else Lib.compareBytes x.q.data.toList y.q.data.toList) else Lib.compareInt (rankC x.k) (rankC y.k)) else Lib.compareBytes x.f.data.toList y.f.data.toList) else Lib.compareBytes x.r.data.toList y.r.data.toList) := by
  have n1 : ∀ a b : Int, Lib.compareInt b a = Lib.compareInt (-a) (-b) := fun a b => by unfold Lib.compareInt; split <;> (try split) <;> (try split) <;> (try split) <;> omega
  unfold CT.cmp cOrd
  simp only [orI_cons, n1 x.t y.t, n1 x.k y.k]
  rfl
theorem lex_le {f g : Int} (h : (if f = 0 then g else f) ≤ 0) : f ≤ 0 ∧ (f = 0 → g ≤ 0) := by
  split at h
  · exact ⟨by omega, fun _ => h⟩
  · exact ⟨h, fun e => by omega⟩
theorem ba_eq {x y : ByteArray} (h : x.data.toList = y.data.toList) : x = y := by
  apply ByteArray.ext
  exact Array.toList_inj.1 h
theorem ba_between {x y : ByteArray} (h1 : Lib.compareBytes x.data.toList y.data.toList ≤ 0) (h2 : Lib.compareBytes y.data.toList x.data.toList ≤ 0) : x = y := by
  have := cmpB_neg x.data.toList y.data.toList
  exact ba_eq (cmpB_zero _ _ (by omega))
theorem int_le {a b : Int} (h : Lib.compareInt a b ≤ 0) : a ≤ b := by
  unfold Lib.compareInt at h
  split at h
  · omega
  · split at h <;> omega
theorem int_self (a : Int) : Lib.compareInt a a = 0 := by
  unfold Lib.compareInt
  split
  · omega
  · rfl
theorem int_lt {a b : Int} (h : Lib.compareInt a b < 0) : a < b := by
  unfold Lib.compareInt at h
  split at h
  · assumption
  · split at h <;> omega

/-- Of one column. -/
abbrev colC (c d : CT) : Prop := c.r = d.r ∧ c.f = d.f ∧ c.q = d.q
/-- What stands between a column's put and another cell of the column is of the column. -/
theorem col_between {d a c : CT} (h : colC c d) (hk : d.k = 1) (h1 : CT.cmp d a ≤ 0) (h2 : CT.cmp a c ≤ 0) : colC c a ∧ c.k ≠ 4 := by
  obtain ⟨hr, hf, hq⟩ := h
  rw [cmp_lex] at h1 h2
  obtain ⟨r1, h1⟩ := lex_le h1
  obtain ⟨r2, h2⟩ := lex_le h2
  rw [hr] at r2
  have er : d.r = a.r := ba_between r1 r2
  have h1 := h1 (by rw [er]; exact cmpB_self _)
  have h2 := h2 (by rw [hr, er]; exact cmpB_self _)
  obtain ⟨f1, h1⟩ := lex_le h1
  obtain ⟨f2, h2⟩ := lex_le h2
  rw [hf] at f2
  have ef : d.f = a.f := ba_between f1 f2
  have h1 := h1 (by rw [ef]; exact cmpB_self _)
  have h2 := h2 (by rw [hf, ef]; exact cmpB_self _)
  obtain ⟨k1, h1⟩ := lex_le h1
  obtain ⟨k2, h2⟩ := lex_le h2
  have k1 := int_le k1
  have k2 := int_le k2
  have kd : rankC d.k = 1 := by rw [hk]; rfl
  have ka : rankC a.k ≤ 1 := by unfold rankC; split <;> omega
  have kc : rankC c.k ≤ 1 := by unfold rankC; split <;> omega
  have h1 := h1 (by rw [show rankC a.k = rankC d.k by omega]; exact int_self _)
  have h2 := h2 (by rw [show rankC c.k = rankC a.k by omega]; exact int_self _)
  obtain ⟨q1, _⟩ := lex_le h1
  obtain ⟨q2, _⟩ := lex_le h2
  rw [hq] at q2
  have eq : d.q = a.q := ba_between q1 q2
  refine ⟨⟨hr.trans er, hf.trans ef, hq.trans eq⟩, fun h4 => ?_⟩
  have : rankC c.k = 0 := by rw [h4]; rfl
  omega
theorem col_time {d c : CT} (h : colC c d) (hd : d.k = 1) (hc : c.k = 1) (h1 : CT.cmp d c < 0) : c.t < d.t := by
  obtain ⟨hr, hf, hq⟩ := h
  rw [cmp_lex, hr, hf, hq, hd, hc, if_pos (cmpB_self _), if_pos (cmpB_self _), if_pos (int_self _), if_pos (cmpB_self _)] at h1
  have := lex_le (Int.le_of_lt h1)
  by_cases e : Lib.compareInt (-d.t) (-c.t) = 0
  · rw [if_pos e, if_pos (int_self _)] at h1; omega
  · have := int_lt (a := -d.t) (b := -c.t) (by omega)
    omega

/-- The statement's walk: the last cell, how many of its column there are. -/
def fewM (ver : Int) : Option CT → Int → List CT → Bool
  | _, _, [] => true
  | p, n, c :: l =>
    if c.k ≠ 1 then false
    else match p with
      | some d => if colC c d then (if d.t ≤ c.t then false else if ver < IntKind.i64.wrap (n + 1) then false else fewM ver (some c) (IntKind.i64.wrap (n + 1)) l) else if ver < 1 then false else fewM ver (some c) 1 l
      | none => if ver < 1 then false else fewM ver (some c) 1 l

/-- How the sight stands to what has been let. -/
def FewI (g : SG) (p : Option CT) (n : Int) (m : List CT) : Prop :=
  0 ≤ g.seen ∧ g.seen ≤ 8 ∧ (p = none → g.seen = 0) ∧ ∀ d, p = some d → d.k = 1 ∧ CT.cmp d g.at' ≤ 0 ∧ (∀ c ∈ m, CT.cmp g.at' c < 0) ∧ (if colC g.at' d then g.seen = n else g.seen = 0)

theorem move_seen (g : SG) (c : CT) : (g.move c).at' = c ∧ (g.move c).seen = if colC c g.at' then g.seen else 0 := by
  unfold SG.move
  by_cases h1 : c.r ≠ g.at'.r ∨ c.f ≠ g.at'.f
  · rw [if_pos h1, if_neg (by rintro ⟨a, b, _⟩; rcases h1 with h | h <;> contradiction)]
    exact ⟨rfl, rfl⟩
  · rw [if_neg h1]
    by_cases h2 : c.q ≠ g.at'.q
    · rw [if_pos h2, if_neg (by rintro ⟨_, _, b⟩; contradiction)]
      exact ⟨rfl, rfl⟩
    · rw [if_neg h2, if_pos (by
        refine ⟨?_, ?_, ?_⟩
        · false_or_by_contra; rename_i q; exact h1 (.inl q)
        · false_or_by_contra; rename_i q; exact h1 (.inr q)
        · false_or_by_contra; rename_i q; exact h2 q)]
      exact ⟨rfl, rfl⟩
theorem lets_seen (g : SG) (c : CT) (ver life now : Int) : (g.lets c ver life now).1.at' = c ∧
    (((g.lets c ver life now).2 = true ∧ c.k = 1 ∧ (g.move c).seen < ver ∧ (g.lets c ver life now).1.seen = IntKind.i64.wrap ((g.move c).seen + 1)) ∨ ((g.lets c ver life now).2 = false ∧ (g.lets c ver life now).1.seen = (g.move c).seen)) := by
  have hm := (move_seen g c).1
  unfold SG.lets
  simp only
  split
  · exact ⟨hm, .inr ⟨rfl, rfl⟩⟩
  · split
    · exact ⟨hm, .inr ⟨rfl, rfl⟩⟩
    · split
      · exact ⟨hm, .inr ⟨rfl, rfl⟩⟩
      · split
        · rename_i h
          exact ⟨hm, .inl ⟨rfl, h.1, h.2.2.2, rfl⟩⟩
        · exact ⟨hm, .inr ⟨rfl, rfl⟩⟩

theorem few_go (ver life now : Int) (h8 : ver ≤ 8) : ∀ (m : List CT) (g : SG) (p : Option CT) (n : Int), m.Pairwise (fun x y => CT.cmp x y < 0) → FewI g p n m → fewM ver p n (seenF ver life now g m) = true
  | [], _, _, _, _, _ => rfl
  | c :: m, g, p, n, hp, hI => by
    obtain ⟨hc, hp'⟩ := List.pairwise_cons.1 hp
    obtain ⟨i0, i8, iN, iS⟩ := hI
    obtain ⟨ha, hs⟩ := lets_seen g c ver life now
    have hmv := (move_seen g c).2
    obtain ⟨G, hG⟩ : ∃ G, (g.lets c ver life now).1 = G := ⟨_, rfl⟩
    show fewM ver p n (if (g.lets c ver life now).2 = true then c :: seenF ver life now (g.lets c ver life now).1 m else seenF ver life now (g.lets c ver life now).1 m) = true
    rw [hG] at ha hs ⊢
    have m0 : 0 ≤ (g.move c).seen ∧ (g.move c).seen ≤ 8 := by rw [hmv]; split <;> omega
    rcases hs with ⟨h2, hk, hlt, hse⟩ | ⟨h2, hse⟩
    · rw [if_pos h2]
      have hw : IntKind.i64.wrap ((g.move c).seen + 1) = (g.move c).seen + 1 := by rw [IntKind.wrap_i64]; omega
      rw [hw] at hse
      have next : ∀ n', G.seen = n' → FewI G (some c) n' m := fun n' hn => by
        refine ⟨by omega, by omega, (fun h => by cases h), fun d hd => ?_⟩
        cases hd
        refine ⟨hk, by rw [ha, ct_c3.zero]; omega, fun x hx => by rw [ha]; exact hc x hx, ?_⟩
        rw [ha, if_pos ⟨rfl, rfl, rfl⟩]
        exact hn
      unfold fewM
      rw [if_neg (by omega)]
      cases p with
      | none =>
        have z := iN rfl
        have z2 : (g.move c).seen = 0 := by rw [hmv]; split <;> omega
        simp only
        rw [if_neg (by omega)]
        exact few_go ver life now h8 m G (some c) 1 hp' (next 1 (by omega))
      | some d =>
        obtain ⟨dk, d1, d2, d3⟩ := iS d rfl
        have hdc : CT.cmp d c < 0 := ct_c3.le_lt d1 (d2 c List.mem_cons_self)
        simp only
        by_cases hcol : colC c d
        · rw [if_pos hcol]
          have ht := col_time hcol dk hk hdc
          rw [if_neg (by omega)]
          have hca := (col_between hcol dk d1 (Int.le_of_lt (d2 c List.mem_cons_self))).1
          rw [if_pos ⟨hca.1.symm.trans hcol.1, hca.2.1.symm.trans hcol.2.1, hca.2.2.symm.trans hcol.2.2⟩] at d3
          rw [if_pos hca] at hmv
          have hw2 : IntKind.i64.wrap (n + 1) = n + 1 := by rw [IntKind.wrap_i64]; omega
          rw [hw2, if_neg (by omega)]
          exact few_go ver life now h8 m G (some c) (n + 1) hp' (next (n + 1) (by omega))
        · rw [if_neg hcol]
          have z2 : (g.move c).seen = 0 := by
            rw [hmv]
            by_cases hca : colC c g.at'
            · rw [if_pos hca]
              rw [if_neg (fun q => hcol ⟨hca.1.trans q.1, hca.2.1.trans q.2.1, hca.2.2.trans q.2.2⟩)] at d3
              exact d3
            · rw [if_neg hca]
          rw [if_neg (by omega)]
          exact few_go ver life now h8 m G (some c) 1 hp' (next 1 (by omega))
    · rw [if_neg (by rw [h2]; decide)]
      refine few_go ver life now h8 m G p n hp' ⟨by omega, by omega, fun h => ?_, fun d hd => ?_⟩
      · have z := iN h
        rw [hse, hmv]; split <;> omega
      · obtain ⟨dk, d1, d2, d3⟩ := iS d hd
        have hac := d2 c List.mem_cons_self
        refine ⟨dk, by rw [ha]; exact Int.le_of_lt (ct_c3.le_lt d1 hac), fun x hx => by rw [ha]; exact hc x hx, ?_⟩
        rw [ha, hse, hmv]
        by_cases hcol : colC c d
        · rw [if_pos hcol]
          have hca := (col_between hcol dk d1 (Int.le_of_lt hac)).1
          rw [if_pos ⟨hca.1.symm.trans hcol.1, hca.2.1.symm.trans hcol.2.1, hca.2.2.symm.trans hcol.2.2⟩] at d3
          rw [if_pos hca]
          exact d3
        · rw [if_neg hcol]
          by_cases hca : colC c g.at'
          · rw [if_pos hca]
            rw [if_neg (fun q => hcol ⟨hca.1.trans q.1, hca.2.1.trans q.2.1, hca.2.2.trans q.2.2⟩)] at d3
            exact d3
          · rw [if_neg hca]
/-- Of each column no more than so many, the latest first. -/
theorem few_all {l s : List CT} (h : SortOf l s) (ver life now : Int) : fewM ver none 0 (seenL ver life now s) = true := by
  unfold seenL
  split
  · rename_i hr
    have h8 : ver ≤ 8 := by
      unfold rightM at hr
      simp only [Bool.and_eq_true, decide_eq_true_eq] at hr
      exact hr.2.1
    exact few_go ver life now h8 s SG.zero none 0 h.rise ⟨by decide, by decide, fun _ => rfl, fun d hd => by cases hd⟩
  · rfl
end Go.Proofs.YtdjaofbjmnmlbaaDoor

/- The statement of layer 6: no column has more than so many versions to be seen. Conditions: the arguments stand, their numbers are of 64 bits; the tables of utf8 read as they are laid. -/
namespace Go.Proofs.YtdjaofbjmnmlbaaDoor
open Go.RowKit

set_option maxHeartbeats 1000000 in
theorem long_any (v : Value) (l : List CT) (w : World) (h : ClA w v l) :
    Calls Tryd.prog 24 #[v] w fun e w' => e = .returned (.bool (longC l)) ∧ Below w.heap.size w w' := by
  have HL := hid (longcells_any v l w h)
  clear h
  go_enter Tryd.func24, Tryd.ntmps24
  go_wp2_with (go_at_call 33; refine HL.out.mono ?_; rintro e w5 ⟨rfl, hb5⟩)
  go_ret
  exact ⟨rfl, hb5⟩
theorem longC_ok {l : List CT} (h : longC l = false) (hv : ∀ c ∈ l, inI c.vn) : l.length ≤ 100000 ∧ ∀ c ∈ l, okC c := by
  unfold longC at h
  rw [Bool.or_eq_false_iff] at h
  obtain ⟨h1, h2⟩ := h
  have h1 := of_decide_eq_false h1
  refine ⟨by omega, fun c hc => ?_⟩
  have h3 : longC1 c = false := by
    cases e : longC1 c with
    | false => rfl
    | true =>
      rw [List.any_eq_true.2 ⟨c, hc, e⟩] at h2
      cases h2
  unfold longC1 at h3
  simp only [Bool.or_eq_false_iff, decide_eq_false_iff_not] at h3
  exact ⟨by omega, by omega, hv c hc⟩

set_option maxHeartbeats 4000000 in
set_option maxRecDepth 100000 in
theorem cellfew_any (v : Value) (l : List CT) (ver life now : Int) (w : World) (h : ClA w v l) (hv : ∀ c ∈ l, inI c.vn) (hL : LaidU w) :
    Calls Tryd.prog 6 #[v, .int .i64 ver, .int .i64 life, .int .i64 now] w fun e w' => e = .returned (.bool true) ∧ Below w.heap.size w w' := by
  have mixed : Tryd.prog.follows .mixedOrders = true := by kernel_rfl
  have HA := hid (alive_any w hL)
  have HLg : Hid (∀ W, Below w.heap.size w W → Calls Tryd.prog 24 #[v] W fun e w' => e = .returned (.bool (longC l)) ∧ Below W.heap.size W w') := fun W hb => long_any v l W (h.below hb)
  cases hg : longC l with
  | true =>
    rw [hg] at HLg
    clear h hv hL hg
    go_enter Tryd.func6, Tryd.ntmps6
    go_wp2_with (first | (go_at_call 23; refine HA.out.mono ?_; rintro e w5 ⟨rfl, hb5⟩) | (go_at_call 24; refine (HLg.out _ hb5).mono ?_; rintro e w6 ⟨rfl, hb6⟩))
    go_ret
    exact ⟨rfl, hb5.trans (hb6.mono hb5.size)⟩
  | false =>
    rw [hg] at HLg
    have HS : Hid (∀ W, Below w.heap.size w W → Calls Tryd.prog 30 #[v, .int .i64 ver, .int .i64 life, .int .i64 now] W fun e w' => ∃ v' u, e = .returned v' ∧ CRow w' W.heap.size v' u ∧ Hid (fewM ver none 0 u = true ∧ u.length ≤ 100000) ∧ Below W.heap.size W w') := fun W hb => (cseen_any v l (longC_ok hg hv).1 ver life now W (h.below hb) (longC_ok hg hv).2 (hL.below hb)).mono fun _ _ ⟨v', s, h1, h2, h3, h4⟩ => ⟨v', _, h1, h3, ⟨few_all h2 ver life now, Nat.le_trans (seenL_len ver life now s) (Nat.le_trans h2.len (longC_ok hg hv).1)⟩, h4⟩
    clear h hv hL hg
    go_enter Tryd.func6, Tryd.ntmps6
    go_wp2_with (first | (go_at_call 23; refine HA.out.mono ?_; rintro e w5 ⟨rfl, hb5⟩) | (go_at_call 24; refine (HLg.out _ hb5).mono ?_; rintro e w6 ⟨rfl, hb6⟩) | (go_at_call 30; refine (HS.out _ (hb5.trans (hb6.mono hb5.size))).mono ?_; rintro e w7 ⟨v7, u, rfl, hr7, hF, hb7⟩; have K7 := hid hr7.cla; have BW := hid ((hb5.trans (hb6.mono hb5.size)).trans (hb7.mono (Nat.le_trans hb5.size hb6.size))); clear hr7; obtain ⟨A7, c7, rfl, hc7, hm7, hh7⟩ := K7.out; have HH := hid hh7; clear hh7 K7; obtain ⟨m, hm⟩ : ∃ m, u.length = m := ⟨_, rfl⟩; have HM := hid hm; rw [hm] at hc7 ⊢; clear hm))
    all_goals first
      | (go_ret; exact ⟨rfl, hb5.trans (hb6.mono hb5.size)⟩)
      | skip
    have hmL : m ≤ 100000 := by rw [← HM.out]; exact hF.out.2
    clear HA HLg HS
    go_loopw [10, 11] (fun vn vi wr => Hid (Below w7.heap.size w7 wr) ∧ ∃ (i : Nat) (n : Int) (p : Option CT), i ≤ m ∧ vn = .int .i64 n ∧ vi = .int .i64 i ∧ Hid (fewM ver p n (u.drop i) = true) ∧ ((i = 0 ∧ p = none) ∨ ∃ j, i = j + 1 ∧ Hid (∀ h : j < u.length, p = some u[j]))) (fun _ vi _ => m - (intOf vi).toNat)
    case atStart => exact ⟨Below.refl _ _, 0, 0, none, Nat.zero_le _, rfl, rfl, hF.out.1, .inl ⟨rfl, rfl⟩⟩
    case round =>
      obtain ⟨HB, i, n, p, hi, rfl, rfl, HF, hp⟩ := hrel
      by_cases hlt : i < m
      · have him : i < u.length := by rw [HM.out]; exact hlt
        obtain ⟨b, off, rfl, hhc⟩ := HH.out (by rw [HM.out]; omega)
        have hbw : b < w7.heap.size := hhc.lt (by omega)
        obtain ⟨c, hc⟩ : ∃ c, u[i] = c := ⟨_, rfl⟩
        have P : wr.cell? ⟨b, off + i * 8, none⟩ = some (.string c.r) ∧ wr.cell? ⟨b, off + i * 8 + 1, none⟩ = some (.string c.f) ∧ wr.cell? ⟨b, off + i * 8 + 2, none⟩ = some (.string c.q) ∧ wr.cell? ⟨b, off + i * 8 + 3, none⟩ = some (.int .i64 c.t) ∧ wr.cell? ⟨b, off + i * 8 + 4, none⟩ = some (.int .i64 c.k) ∧ wr.cell? ⟨b, off + i * 8 + 5, none⟩ = some (.int .i64 c.vk) ∧ wr.cell? ⟨b, off + i * 8 + 6, none⟩ = some (.int .i64 c.vn) ∧ wr.cell? ⟨b, off + i * 8 + 7, none⟩ = some (.string c.s) := by
          rw [← hc]
          exact (hhc.below HB.out hbw).words i him
        have HF0 : Hid (fewM ver p n (c :: u.drop (i + 1)) = true) := by
          unfold Hid
          rw [← hc, ← List.drop_eq_getElem_cons him]
          exact HF.out
        have hk : c.k = 1 := by
          false_or_by_contra
          rename_i q
          have := HF0.out
          unfold fewM at this
          rw [if_pos q] at this
          cases this
        have hk1 : (c.k != 1) = false := by simpa using hk
        rcases hp with ⟨rfl, rfl⟩ | ⟨j, rfl, hpj⟩
        · have HF2 : Hid (¬ ver < 1 ∧ fewM ver (some c) 1 (u.drop 1) = true) := by
            have hF := HF0.out
            unfold fewM at hF
            rw [if_neg (by omega)] at hF
            simp only at hF
            by_cases hv1 : ver < 1
            · rw [if_pos hv1] at hF; cases hF
            · rw [if_neg hv1] at hF; exact ⟨hv1, hF⟩
          have hv1 : ¬ ver < 1 := HF2.out.1
          have HCc : Hid (∀ h : 0 < u.length, some c = some u[0]) := fun h => by rw [hc]
          have hltz : (0 : Int) < (m : Int) := by omega
          rw [Nat.zero_mul, Nat.add_zero] at P
          obtain ⟨p0, p1, p2, p3, p4, p5, p6, p7⟩ := P
          clear hc hhc HF0 HF hk
          go_upto_region 12 with (fail)
          go_quiet (fail)
          go_wp2
          go_roundw
          case rel => exact ⟨below_drewN HB.out _, 1, 1, some c, by omega, rfl, by go_num, HF2.out.2, .inr ⟨0, rfl, HCc.out⟩⟩
          case measure => simp [intOf]; omega
        · have hju : j < u.length := by omega
          obtain ⟨d, hd⟩ : ∃ d, u[j] = d := ⟨_, rfl⟩
          have hpd := hpj.out hju
          rw [hd] at hpd
          subst hpd
          have Pd : wr.cell? ⟨b, off + j * 8, none⟩ = some (.string d.r) ∧ wr.cell? ⟨b, off + j * 8 + 1, none⟩ = some (.string d.f) ∧ wr.cell? ⟨b, off + j * 8 + 2, none⟩ = some (.string d.q) ∧ wr.cell? ⟨b, off + j * 8 + 3, none⟩ = some (.int .i64 d.t) ∧ wr.cell? ⟨b, off + j * 8 + 4, none⟩ = some (.int .i64 d.k) ∧ wr.cell? ⟨b, off + j * 8 + 5, none⟩ = some (.int .i64 d.vk) ∧ wr.cell? ⟨b, off + j * 8 + 6, none⟩ = some (.int .i64 d.vn) ∧ wr.cell? ⟨b, off + j * 8 + 7, none⟩ = some (.string d.s) := by
            rw [← hd]
            exact (hhc.below HB.out hbw).words j hju
          have HCc : Hid (∀ h : j + 1 < u.length, some c = some u[j + 1]) := fun h => by rw [hc]
          have HF : Hid ((if colC c d then (if d.t ≤ c.t then false else if ver < IntKind.i64.wrap (n + 1) then false else fewM ver (some c) (IntKind.i64.wrap (n + 1)) (u.drop (j + 1 + 1))) else if ver < 1 then false else fewM ver (some c) 1 (u.drop (j + 1 + 1))) = true) := by
            have hF := HF0.out
            unfold fewM at hF
            rw [if_neg (by omega)] at hF
            exact hF
          have hltz : (j : Int) + 1 < (m : Int) := by omega
          have hltp : (0 : Int) < (j : Int) + 1 := by omega
          have hge : (0 : Int) ≤ (j : Int) + 1 := by omega
          have htn : ((j : Int) + 1).toNat = j + 1 := by omega
          have hwj : IntKind.i64.wrap (j : Int) = (j : Int) := by rw [IntKind.wrap_i64]; omega
          have hwj1 : IntKind.i64.wrap ((j : Int) + 1 - 1) = (j : Int) := by rw [IntKind.wrap_i64]; omega
          have hjm : (j : Int) < (m : Int) := by omega
          obtain ⟨p0, p1, p2, p3, p4, p5, p6, p7⟩ := P
          obtain ⟨d0, d1, d2, d3, d4, d5, d6, d7⟩ := Pd
          clear hc hhc HF0 hk hd hpj
          by_cases h1 : c.r = d.r
          · have q1 : (c.r.toList == d.r.toList) = true := by rw [h1]; simp
            by_cases h2 : c.f = d.f
            · have q2 : (c.f.toList == d.f.toList) = true := by rw [h2]; simp
              by_cases h3 : c.q = d.q
              · have q3 : (c.q.toList == d.q.toList) = true := by rw [h3]; simp
                obtain ⟨x, hx⟩ : ∃ x, IntKind.i64.wrap (n + 1) = x := ⟨_, rfl⟩
                have HF2 : Hid (¬ d.t ≤ c.t ∧ ¬ ver < x ∧ fewM ver (some c) x (u.drop (j + 1 + 1)) = true) := by
                  have hF := HF.out
                  rw [if_pos ⟨h1, h2, h3⟩, hx] at hF
                  by_cases a1 : d.t ≤ c.t
                  · rw [if_pos a1] at hF; cases hF
                  · rw [if_neg a1] at hF
                    by_cases a2 : ver < x
                    · rw [if_pos a2] at hF; cases hF
                    · rw [if_neg a2] at hF; exact ⟨a1, a2, hF⟩
                have a1 : ¬ d.t ≤ c.t := HF2.out.1
                have a2 : ¬ ver < x := HF2.out.2.1
                clear h1 h2 h3
                go_upto_region 12 with (fail)
                go_quiet (fail)
                go_upto_region 14 with (fail)
                go_quiet (fail)
                go_wp2
                go_roundw
                case rel => exact ⟨below_drewN HB.out _, j + 1 + 1, x, some c, by omega, rfl, by go_num, HF2.out.2.2, .inr ⟨j + 1, rfl, HCc.out⟩⟩
                case measure => simp [intOf]; omega
              · have q3 : (c.q.toList == d.q.toList) = false := ba_ne h3
                have HF2 : Hid (¬ ver < 1 ∧ fewM ver (some c) 1 (u.drop (j + 1 + 1)) = true) := by
                  have hF := HF.out
                  rw [if_neg (fun h => h3 h.2.2)] at hF
                  by_cases hv1 : ver < 1
                  · rw [if_pos hv1] at hF; cases hF
                  · rw [if_neg hv1] at hF; exact ⟨hv1, hF⟩
                have hv1 : ¬ ver < 1 := HF2.out.1
                clear h1 h2 h3
                go_upto_region 12 with (fail)
                go_quiet (fail)
                go_wp2
                go_roundw
                case rel => exact ⟨below_drewN HB.out _, j + 1 + 1, 1, some c, by omega, rfl, by go_num, HF2.out.2, .inr ⟨j + 1, rfl, HCc.out⟩⟩
                case measure => simp [intOf]; omega
            · have q2 : (c.f.toList == d.f.toList) = false := ba_ne h2
              have HF2 : Hid (¬ ver < 1 ∧ fewM ver (some c) 1 (u.drop (j + 1 + 1)) = true) := by
                have hF := HF.out
                rw [if_neg (fun h => h2 h.2.1)] at hF
                by_cases hv1 : ver < 1
                · rw [if_pos hv1] at hF; cases hF
                · rw [if_neg hv1] at hF; exact ⟨hv1, hF⟩
              have hv1 : ¬ ver < 1 := HF2.out.1
              clear h1 h2
              go_upto_region 12 with (fail)
              go_quiet (fail)
              go_wp2
              go_roundw
              case rel => exact ⟨below_drewN HB.out _, j + 1 + 1, 1, some c, by omega, rfl, by go_num, HF2.out.2, .inr ⟨j + 1, rfl, HCc.out⟩⟩
              case measure => simp [intOf]; omega
          · have q1 : (c.r.toList == d.r.toList) = false := ba_ne h1
            have HF2 : Hid (¬ ver < 1 ∧ fewM ver (some c) 1 (u.drop (j + 1 + 1)) = true) := by
              have hF := HF.out
              rw [if_neg (fun h => h1 h.1)] at hF
              by_cases hv1 : ver < 1
              · rw [if_pos hv1] at hF; cases hF
              · rw [if_neg hv1] at hF; exact ⟨hv1, hF⟩
            have hv1 : ¬ ver < 1 := HF2.out.1
            clear h1
            go_upto_region 12 with (fail)
            go_quiet (fail)
            go_wp2
            go_roundw
            case rel => exact ⟨below_drewN HB.out _, j + 1 + 1, 1, some c, by omega, rfl, by go_num, HF2.out.2, .inr ⟨j + 1, rfl, HCc.out⟩⟩
            case measure => simp [intOf]; omega
      · obtain rfl : i = m := by omega
        go_wp2
        go_ret
        exact ⟨rfl, BW.out.trans (HB.out.mono BW.out.size)⟩
end Go.Proofs.YtdjaofbjmnmlbaaDoor

/- Cells can be told apart; texts that differ, as bytes. Conditions: as each theorem names them. -/
namespace Go.Proofs.YtdjaofbjmnmlbaaDoor
open Go.RowKit

deriving instance DecidableEq for CT
theorem ba_ne2 {x y : ByteArray} (h : x ≠ y) : ¬ x.toList = y.toList := fun e => by
  have := ba_ne h
  rw [e] at this
  simp at this
end Go.Proofs.YtdjaofbjmnmlbaaDoor

/- The statements' own comparison of two lists of cells. Conditions: both stand. -/
namespace Go.Proofs.YtdjaofbjmnmlbaaDoor
open Go.RowKit

set_option maxHeartbeats 4000000 in
set_option maxRecDepth 100000 in
theorem samecells_any (v1 v2 : Value) (u t : List CT) (w : World) (h1 : ClA w v1 u) (h2 : ClA w v2 t) :
    Calls Tryd.prog 29 #[v1, v2] w fun e w' => e = .returned (.bool (decide (u = t))) ∧ Below w.heap.size w w' := by
  have mixed : Tryd.prog.follows .mixedOrders = true := by kernel_rfl
  obtain ⟨A1, c1, rfl, hc1, hm1, hh1⟩ := h1
  obtain ⟨A2, c2, rfl, hc2, hm2, hh2⟩ := h2
  have H1 := hid hh1
  have H2 := hid hh2
  clear hh1 hh2
  obtain ⟨n, hn⟩ : ∃ n, u.length = n := ⟨_, rfl⟩
  have HN := hid hn
  rw [hn] at hc1 ⊢
  clear hn
  by_cases hl : t.length = n
  · have HT := hid hl
    rw [hl] at hc2 ⊢
    clear hl
    go_enter Tryd.func29, Tryd.ntmps29
    go_wp2
    go_loopw [5] (fun vi wr => Hid (Below w.heap.size w wr) ∧ ∃ i : Nat, i ≤ n ∧ vi = .int .i64 i ∧ Hid (u.take i = t.take i)) (fun vi _ => n - (intOf vi).toNat)
    case atStart => exact ⟨Below.refl _ _, 0, Nat.zero_le _, rfl, rfl⟩
    case round =>
      obtain ⟨HB, i, hi, rfl, HE⟩ := hrel
      by_cases hlt : i < n
      · have hiu : i < u.length := by rw [HN.out]; exact hlt
        have hit : i < t.length := by rw [HT.out]; exact hlt
        have hiz : (i : Int) < (n : Int) := by omega
        obtain ⟨b, off, rfl, hhc⟩ := H1.out (by omega)
        obtain ⟨b8, off8, rfl, hhd⟩ := H2.out (by omega)
        have hbw : b < w.heap.size := hhc.lt (by omega)
        have hbw8 : b8 < w.heap.size := hhd.lt (by omega)
        obtain ⟨c, hc⟩ : ∃ c, u[i] = c := ⟨_, rfl⟩
        obtain ⟨d, hd⟩ : ∃ d, t[i] = d := ⟨_, rfl⟩
        have P : wr.cell? ⟨b, off + i * 8, none⟩ = some (.string c.r) ∧ wr.cell? ⟨b, off + i * 8 + 1, none⟩ = some (.string c.f) ∧ wr.cell? ⟨b, off + i * 8 + 2, none⟩ = some (.string c.q) ∧ wr.cell? ⟨b, off + i * 8 + 3, none⟩ = some (.int .i64 c.t) ∧ wr.cell? ⟨b, off + i * 8 + 4, none⟩ = some (.int .i64 c.k) ∧ wr.cell? ⟨b, off + i * 8 + 5, none⟩ = some (.int .i64 c.vk) ∧ wr.cell? ⟨b, off + i * 8 + 6, none⟩ = some (.int .i64 c.vn) ∧ wr.cell? ⟨b, off + i * 8 + 7, none⟩ = some (.string c.s) := by
          rw [← hc]
          exact (hhc.below HB.out hbw).words i hiu
        have Pd : wr.cell? ⟨b8, off8 + i * 8, none⟩ = some (.string d.r) ∧ wr.cell? ⟨b8, off8 + i * 8 + 1, none⟩ = some (.string d.f) ∧ wr.cell? ⟨b8, off8 + i * 8 + 2, none⟩ = some (.string d.q) ∧ wr.cell? ⟨b8, off8 + i * 8 + 3, none⟩ = some (.int .i64 d.t) ∧ wr.cell? ⟨b8, off8 + i * 8 + 4, none⟩ = some (.int .i64 d.k) ∧ wr.cell? ⟨b8, off8 + i * 8 + 5, none⟩ = some (.int .i64 d.vk) ∧ wr.cell? ⟨b8, off8 + i * 8 + 6, none⟩ = some (.int .i64 d.vn) ∧ wr.cell? ⟨b8, off8 + i * 8 + 7, none⟩ = some (.string d.s) := by
          rw [← hd]
          exact (hhd.below HB.out hbw8).words i hit
        obtain ⟨p0, p1, p2, p3, p4, p5, p6, p7⟩ := P
        obtain ⟨d0, d1, d2, d3, d4, d5, d6, d7⟩ := Pd
        by_cases he : c = d
        · have HE2 : Hid (u.take (i + 1) = t.take (i + 1)) := by
            unfold Hid
            rw [List.take_add_one, List.take_add_one, HE.out, List.getElem?_eq_getElem hiu, List.getElem?_eq_getElem hit, hc, hd, he]
          clear hc hd hhc hhd HE
          subst he
          go_upto_region 6 with (fail); go_quiet (fail); go_wp2
          go_roundw
          case rel => exact ⟨below_drewN HB.out _, i + 1, by omega, by go_num, HE2.out⟩
          case measure => simp [intOf]; omega
        · have HNE : Hid (decide (u = t) = false) := by
            refine decide_eq_false fun e => he ?_
            subst e
            rw [← hc, ← hd]
          clear hc hd hhc hhd HE
          by_cases e0 : c.r = d.r
          · have n0 : c.r.toList = d.r.toList := by rw [e0]
            by_cases e1 : c.f = d.f
            · have n1 : c.f.toList = d.f.toList := by rw [e1]
              by_cases e2 : c.q = d.q
              · have n2 : c.q.toList = d.q.toList := by rw [e2]
                by_cases e3 : c.t = d.t
                · have n3 : c.t = d.t := e3
                  by_cases e4 : c.k = d.k
                  · have n4 : c.k = d.k := e4
                    by_cases e5 : c.vk = d.vk
                    · have n5 : c.vk = d.vk := e5
                      by_cases e6 : c.vn = d.vn
                      · have n6 : c.vn = d.vn := e6
                        by_cases e7 : c.s = d.s
                        · have n7 : c.s.toList = d.s.toList := by rw [e7]
                          exfalso
                          apply he
                          cases d; cases c; simp only at e0 e1 e2 e3 e4 e5 e6 e7; subst e0 e1 e2 e3 e4 e5 e6 e7; rfl
                        · have n7 : ¬ c.s.toList = d.s.toList := ba_ne2 e7
                          clear he e0 e1 e2 e3 e4 e5 e6 e7
                          go_upto_region 6 with (fail); go_quiet (fail); go_wp2
                          go_ret
                          refine ⟨?_, below_drewN HB.out _⟩
                          rw [HNE.out]
                          rfl
                      · have n6 : ¬ c.vn = d.vn := e6
                        clear he e0 e1 e2 e3 e4 e5 e6
                        go_upto_region 6 with (fail); go_quiet (fail); go_wp2
                        go_ret
                        refine ⟨?_, below_drewN HB.out _⟩
                        rw [HNE.out]
                        rfl
                    · have n5 : ¬ c.vk = d.vk := e5
                      clear he e0 e1 e2 e3 e4 e5
                      go_upto_region 6 with (fail); go_quiet (fail); go_wp2
                      go_ret
                      refine ⟨?_, below_drewN HB.out _⟩
                      rw [HNE.out]
                      rfl
                  · have n4 : ¬ c.k = d.k := e4
                    clear he e0 e1 e2 e3 e4
                    go_upto_region 6 with (fail); go_quiet (fail); go_wp2
                    go_ret
                    refine ⟨?_, below_drewN HB.out _⟩
                    rw [HNE.out]
                    rfl
                · have n3 : ¬ c.t = d.t := e3
                  clear he e0 e1 e2 e3
                  go_upto_region 6 with (fail); go_quiet (fail); go_wp2
                  go_ret
                  refine ⟨?_, below_drewN HB.out _⟩
                  rw [HNE.out]
                  rfl
              · have n2 : ¬ c.q.toList = d.q.toList := ba_ne2 e2
                clear he e0 e1 e2
                go_upto_region 6 with (fail); go_quiet (fail); go_wp2
                go_ret
                refine ⟨?_, below_drewN HB.out _⟩
                rw [HNE.out]
                rfl
            · have n1 : ¬ c.f.toList = d.f.toList := ba_ne2 e1
              clear he e0 e1
              go_upto_region 6 with (fail); go_quiet (fail); go_wp2
              go_ret
              refine ⟨?_, below_drewN HB.out _⟩
              rw [HNE.out]
              rfl
          · have n0 : ¬ c.r.toList = d.r.toList := ba_ne2 e0
            clear he e0
            go_upto_region 6 with (fail); go_quiet (fail); go_wp2
            go_ret
            refine ⟨?_, below_drewN HB.out _⟩
            rw [HNE.out]
            rfl
      · obtain rfl : i = n := by omega
        have HQ : Hid (decide (u = t) = true) := by
          have h := HE.out
          rw [List.take_of_length_le (by rw [HN.out]; exact Nat.le_refl _), List.take_of_length_le (by rw [HT.out]; exact Nat.le_refl _)] at h
          exact decide_eq_true h
        go_wp2
        go_ret
        exact ⟨by rw [HQ.out]; rfl, HB.out⟩
  · have HQ : Hid (decide (u = t) = false) := decide_eq_false fun e => hl (by rw [← e]; exact HN.out)
    obtain ⟨m, hm⟩ : ∃ m, t.length = m := ⟨_, rfl⟩
    rw [hm] at hl hc2 ⊢
    have hne : ((n : Int) == (m : Int)) = false := by simp; omega
    have hne2 : ((n : Int) != (m : Int)) = true := by simp; omega
    clear hl hm
    go_enter Tryd.func29, Tryd.ntmps29
    go_wp2
    go_ret
    exact ⟨by rw [HQ.out]; rfl, Below.refl _ _⟩
end Go.Proofs.YtdjaofbjmnmlbaaDoor
