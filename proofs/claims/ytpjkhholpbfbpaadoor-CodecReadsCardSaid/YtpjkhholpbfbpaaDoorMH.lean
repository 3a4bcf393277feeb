/- Several texts in one: CW CX CY PRea. Conditions: as each theorem names them. -/
import Derived.Test.YtpjkhholpbfbpaaDoorFK
import Derived.Lib.SmallJoins
import Derived.Test.YtpjkhholpbfbpaaDoorMC
import Derived.Test.YtpjkhholpbfbpaaDoorMB
import Derived.Test.YtpjkhholpbfbpaaDoorShelf
import Derived.Test.YtpjkhholpbfbpaaDoorCards
import Derived.Test.YtpjkhholpbfbpaaDoorTie
import Derived.WalkKit
import Derived.ProofKit
import Derived.OpenShut
import Derived.LaidLaws
import Derived.Deep.DeepHandedRow
import Derived.Lib.LaidTab
import Derived.Lib.LaidU8T
import Derived.Test.YtpjkhholpbfbpaaDoorMI
import Derived.Deep.Matrix
import Derived.SizedLaws
import Derived.Test.YtpjkhholpbfbpaaDoorMG
/- A cell of a law's, opened and shut. Conditions: none. -/
namespace Go.Proofs.YtpjkhholpbfbpaaDoor
open Go.ChangeShapes Go.WideShapes Go.ChangeAt Go.RowKit Go.Joins

theorem cellsC : Tryd.prog.cellsOf 28 = 8 := by kernel_rfl
theorem cellsV3 : Tryd.prog.cellsOf 26 = 3 := by kernel_rfl
theorem cellsS1 : Tryd.prog.cellsOf 9 = 1 := by kernel_rfl
theorem cellsI1 : Tryd.prog.cellsOf 3 = 1 := by kernel_rfl
theorem array8 {α : Type} {cs : Array α} (h : cs.size = 8) : ∃ c0 c1 c2 c3 c4 c5 c6 c7, cs = #[c0, c1, c2, c3, c4, c5, c6, c7] := by
  obtain ⟨l⟩ := cs
  match l, h with
  | [c0, c1, c2, c3, c4, c5, c6, c7], _ => exact ⟨c0, c1, c2, c3, c4, c5, c6, c7, rfl⟩
section
variable {H : Type} {enc : TypeId × Value → H} {W : World} {sp : Nat → Bool}
set_option maxRecDepth 100000 in
/-- A cell that came in, opened. -/
theorem open_cell {r : Reach} {b0 b1 : Nat} {v : Value} {d : DataW H} {p : List MemPlace} (hv : Value.okWide Tryd.prog W r b0 28 v) (h : DataW.Trod enc Tryd.prog W b1 sp true 28 v d p) :
    ∃ (r f q : ByteArray) (t k vk vn : Int) (s : ByteArray), v = .agg #[.string r, .string f, .string q, .int .i64 t, .int .i64 k, .int .i64 vk, .int .i64 vn, .string s] ∧
      d = .agg [.lit (.string r.data.toList), .lit (.string f.data.toList), .lit (.string q.data.toList), .lit (.int .i64 t), .lit (.int .i64 k), .agg [.lit (.int .i64 vk), .lit (.int .i64 vn), .lit (.string s.data.toList)]] ∧ p = [] ∧
      r.size ≤ maxLen ∧ f.size ≤ maxLen ∧ q.size ≤ maxLen ∧ (Lit.int .i64 t).wf = true ∧ (Lit.int .i64 k).wf = true ∧ (Lit.int .i64 vk).wf = true ∧ (Lit.int .i64 vn).wf = true ∧ s.size ≤ maxLen := by
  obtain ⟨cs, rfl, hsz⟩ := okWide_struct Tryd.underlying28 hv
  obtain ⟨c0, c1, c2, c3, c4, c5, c6, c7, rfl⟩ := array8 (hsz.trans cellsC)
  obtain ⟨fuel, hf⟩ := h
  obtain ⟨xs, n, _, hx, _, hlen, hg⟩ := DataW.trod_struct Tryd.underlying28 hf
  match xs, hlen with
  | [y0, y1, y2, y3, y4, y5], _ =>
    have h0 := hg 0 _ rfl
    have h1 := hg 1 _ rfl
    have h2 := hg 2 _ rfl
    have h3 := hg 3 _ rfl
    have h4 := hg 4 _ rfl
    have h5 := hg 5 _ rfl
    simp [Value.cells, cellsS1, cellsI1, cellsV3] at h0 h1 h2 h3 h4 h5
    obtain ⟨r, e0, z0, w0⟩ := DataW.trod_string Tryd.underlying9 h0
    obtain ⟨f, e1, z1, w1⟩ := DataW.trod_string Tryd.underlying9 h1
    obtain ⟨q, e2, z2, w2⟩ := DataW.trod_string Tryd.underlying9 h2
    obtain ⟨t, e3, z3, w3⟩ := DataW.trod_int Tryd.underlying3 h3
    obtain ⟨k, e4, z4, w4⟩ := DataW.trod_int Tryd.underlying3 h4
    obtain ⟨ys, n', _, hx', _, hlen', hg'⟩ := DataW.trod_struct Tryd.underlying26 h5
    match ys, hlen' with
    | [u0, u1, u2], _ =>
      have g0 := hg' 0 _ rfl
      have g1 := hg' 1 _ rfl
      have g2 := hg' 2 _ rfl
      simp [cellsS1, cellsI1] at g0 g1 g2
      obtain ⟨vk, e5, z5, w5⟩ := DataW.trod_int Tryd.underlying3 g0
      obtain ⟨vn, e6, z6, w6⟩ := DataW.trod_int Tryd.underlying3 g1
      obtain ⟨s, e7, z7, w7⟩ := DataW.trod_string Tryd.underlying9 g2
      simp at e0 e1 e2 e3 e4 e5 e6 e7
      subst e0 e1 e2 e3 e4 e5 e6 e7
      simp only [Prod.mk.injEq] at hx hx'
      exact ⟨r, f, q, t, k, vk, vn, s, rfl, by simp_all, by simp_all, w0, w1, w2, w3, w4, w5, w6, w7⟩
end
end Go.Proofs.YtpjkhholpbfbpaaDoor

/- A world in which the listed variables of layer 3's laws are laid, for the witness; what they give; a cell of the law's, shut. -/
namespace Go.Proofs.YtpjkhholpbfbpaaDoor
open Go.ChangeShapes Go.WideShapes Go.ChangeAt Go.RowKit Go.Joins

theorem seat_own : ownKnob Tryd.prog.godebug = none := by kernel_rfl
theorem laid_out : laidOutB Tryd.prog = true := by kernel_rfl
def seatLaid5 : List (String × DataW Unit) := [("unicode/utf8.acceptRanges", Rows.laid_unicode_utf8_acceptRanges), ("bytes.ErrTooLarge", Rows.laid_bytes_ErrTooLarge), ("unicode/utf8.first", Rows.laid_unicode_utf8_first)]
theorem seat_met5 {W : World} (h : laidMetH Tryd.prog seatLaid5 W) : laidMet Tryd.prog seatLaid5 W := h
theorem accept_is : (Rows.laid_unicode_utf8_acceptRanges : DataW Unit) = Lib.acceptData := by kernel_rfl
theorem first_is : (Rows.laid_unicode_utf8_first : DataW Unit) = Lib.firstData := by kernel_rfl
theorem u8extra : U8Extra Tryd.prog Tryd.lays196_ren where
  n3 := by kernel_rfl
  n4 := by kernel_rfl
  y3 := by kernel_rfl
  y4 := by kernel_rfl
  c5 := by kernel_rfl
  c119 := by kernel_rfl
  c138 := by kernel_rfl
theorem laid_u {W : World} (h : laidMet Tryd.prog seatLaid5 W) : LaidU W := ⟨by
    have h3 := Lib.laidMet.reads h (n := "unicode/utf8.first") (d := Rows.laid_unicode_utf8_first) (by simp [seatLaid5])
    have h4 := Lib.laidMet.reads h (n := "unicode/utf8.acceptRanges") (d := Rows.laid_unicode_utf8_acceptRanges) (by simp [seatLaid5])
    rw [first_is] at h3
    rw [accept_is] at h4
    exact utf8Tabs_of_readsT (U8Types.of196 Tryd.lays196) u8extra h3 h4⟩

/-- A world for the witness: the settled one, one block more for the error's text, the listed variables holding what their initialisers lay. -/
noncomputable def laidWorld5 (os : Os) : World :=
  let w0 := World.holding Tryd.prog os ⟨#[.cells #[.string ⟨#[98, 121, 116, 101, 115, 46, 66, 117, 102, 102, 101, 114, 58, 32, 116, 111, 111, 32, 108, 97, 114, 103, 101]⟩] 177], #[], []⟩
  { w0 with heap := ((w0.heap.modify 0 fun
      | .cells _ t frozen => .cells #[.iface 162 (.pointer (some ⟨(World.settled Tryd.prog os).heap.size, 0, none⟩))] t frozen
      | o => o).modify 3 fun
      | .cells _ t frozen => .cells ((List.range 16).flatMap fun i => [Value.int .u8 (Lib.accLo i), Value.int .u8 (Lib.accHi i)]).toArray t frozen
      | o => o).modify 2 fun
      | .cells _ t frozen => .cells (Lib.firstTab.map fun z => Value.int .u8 z).toArray t frozen
      | o => o }
set_option maxRecDepth 1000000 in
theorem laid_met5 (os : Os) (args : Array Value) : laidMet Tryd.prog seatLaid5 ((laidWorld5 os).forCall (fun _ _ => 0) ⟨#[], args, []⟩).memory :=
  laidMet_of_run' 8 (by kernel_rfl) (by kernel_rfl)
theorem inI_of_wf {n : Int} (h : (Lit.int .i64 n).wf = true) : inI n := by
  unfold inI
  simp [Lit.wf] at h
  have h1 : IntKind.i64.min = -9223372036854775808 := rfl
  have h2 : IntKind.i64.max = 9223372036854775807 := rfl
  omega
theorem size_of {n : Nat} (h : n ≤ maxLen) : n ≤ 9223372036854775807 := by unfold maxLen at h; omega

section
variable {H : Type} {enc : TypeId × Value → H} {W : World} {sp : Nat → Bool}
set_option maxRecDepth 100000 in
/-- A cell that came in, shut. -/
theorem shut_cell (r f q : ByteArray) (t k vk vn : Int) (s : ByteArray) (w0 : r.size ≤ maxLen) (w1 : f.size ≤ maxLen) (w2 : q.size ≤ maxLen) (w3 : (Lit.int .i64 t).wf = true) (w4 : (Lit.int .i64 k).wf = true) (w5 : (Lit.int .i64 vk).wf = true) (w6 : (Lit.int .i64 vn).wf = true) (w7 : s.size ≤ maxLen) (b1 : Nat) :
    DataW.Trod enc Tryd.prog W b1 sp true 28 (.agg #[.string r, .string f, .string q, .int .i64 t, .int .i64 k, .int .i64 vk, .int .i64 vn, .string s]) (.agg [.lit (.string r.data.toList), .lit (.string f.data.toList), .lit (.string q.data.toList), .lit (.int .i64 t), .lit (.int .i64 k), .agg [.lit (.int .i64 vk), .lit (.int .i64 vn), .lit (.string s.data.toList)]]) [] := by
  have hv : DataW.trod enc Tryd.prog W b1 sp true 2 26 [.int .i64 vk, .int .i64 vn, .string s] = some (.agg [.lit (.int .i64 vk), .lit (.int .i64 vn), .lit (.string s.data.toList)], []) := by
    have := trod_struct_mk (enc := enc) (w := W) (base := b1) (spare := sp) (held := true) (n := 1) (cs := [.int .i64 vk, .int .i64 vn, .string s]) (xs := [(.lit (.int .i64 vk), []), (.lit (.int .i64 vn), []), (.lit (.string s.data.toList), [])]) Tryd.underlying26 (by simp [cellsV3]) (by simp [DataW.trod, Tryd.underlying3, Tryd.underlying9, cellsS1, cellsI1, w5, w6, w7])
    simpa using this
  have := trod_struct_mk (enc := enc) (w := W) (base := b1) (spare := sp) (held := true) (n := 2) (cs := [.string r, .string f, .string q, .int .i64 t, .int .i64 k, .int .i64 vk, .int .i64 vn, .string s]) (xs := [(.lit (.string r.data.toList), []), (.lit (.string f.data.toList), []), (.lit (.string q.data.toList), []), (.lit (.int .i64 t), []), (.lit (.int .i64 k), []), (.agg [.lit (.int .i64 vk), .lit (.int .i64 vn), .lit (.string s.data.toList)], [])]) Tryd.underlying28 (by simp [cellsC]) (by
      simp [cellsS1, cellsI1, cellsV3, hv]
      simp [DataW.trod, Tryd.underlying3, Tryd.underlying9, w0, w1, w2, w3, w4])
  exact ⟨3, by simpa [Value.cells] using this⟩
end
end Go.Proofs.YtpjkhholpbfbpaaDoor

/- Slices of bytes and lists of them that came in, opened. Conditions: the reading's own reach. -/
namespace Go.Proofs.YtpjkhholpbfbpaaDoor
open Go.ChangeShapes Go.WideShapes Go.ChangeAt Go.RowKit

/-- Bytes read as numbers. -/
def u8s (zs : List Int) : List UInt8 := zs.map fun z => UInt8.ofNat z.toNat
theorem u8s_at (zs : List Int) (h : ∀ n ∈ zs, (Lit.int .u8 n).wf = true) (i : Nat) (hi : i < zs.length) : (((u8s zs).getD i 0).toNat : Int) = zs.getD i 0 := by
  have hz : zs[i]? = some (zs[i]'hi) := List.getElem?_eq_getElem _
  have hw := h (zs[i]'hi) (List.getElem_mem _)
  have b : 0 ≤ zs[i]'hi ∧ zs[i]'hi ≤ 255 := by
    simp [Lit.wf] at hw
    have h1 : IntKind.u8.min = 0 := rfl
    have h2 : IntKind.u8.max = 255 := rfl
    omega
  unfold u8s
  rw [List.getD_eq_getElem?_getD, List.getD_eq_getElem?_getD, List.getElem?_map, hz]
  simp only [Option.map_some, Option.getD_some]
  rw [UInt8.toNat_ofNat']
  omega
theorem sla_ints (a : Addr) (len cap : Nat) (zs : List Int) (W : World) (hl : len ≤ cap) (hm : cap ≤ 9223372036854775807) (hz : zs.length = cap) (hcell : ∀ i, i < zs.length → W.cell? (a.add i) = some (.int .u8 (zs.getD i 0))) (hwz : ∀ n ∈ zs, (Lit.int .u8 n).wf = true) :
    SlA W (.slice (some a) len cap) (u8s (zs.take len)) := by
  have hul : (u8s (zs.take len)).length = len := by unfold u8s; rw [List.length_map, List.length_take]; omega
  refine ⟨some a, cap, by rw [hul], by rw [hul]; exact hl, hm, fun h0 => ?_, fun h => by cases h⟩
  rw [hul] at h0
  obtain ⟨b, off, rfl, hc⟩ := ints_at hcell (by omega)
  refine ⟨b, off, rfl, fun i hi => ?_⟩
  rw [hul] at hi
  rw [hc i (by omega), u8s_at (zs.take len) (fun n hn => hwz n (List.mem_of_mem_take hn)) i (by rw [List.length_take]; omega)]
  simp only [List.getD_eq_getElem?_getD, List.getElem?_take_of_lt hi]
theorem sla_nil (W : World) : SlA W (.slice none 0 0) [] := ⟨none, 0, rfl, by simp, by omega, fun h => absurd h (by simp), fun _ => rfl⟩
theorem cells5 : Tryd.prog.cellsOf 5 = 1 := by kernel_rfl

section
variable {H : Type} {enc : TypeId × Value → H} {W : World} {sp : Nat → Bool}
set_option maxRecDepth 100000 in
/-- A slice of bytes that came in. -/
theorem open_sla {r : Reach} {b0 b1 : Nat} {v : Value} {d : DataW H} {p : List MemPlace} (hv : Value.okWide Tryd.prog W r b0 22 v) (h : DataW.Trod enc Tryd.prog W b1 (fun _ => true) true 22 v d p) : ∃ l, SlA W v l := by
  obtain ⟨a0, len, cap, rfl⟩ := okWide_slice Tryd.underlying22 hv
  obtain ⟨fuel, hf⟩ := h
  rcases open_ints Tryd.underlying22 Tryd.underlying5 cells5 hf with ⟨hcs, hx⟩ | ⟨a, len', cap', zs, hcs, _, hl, hm, hz, hx, hcell, hwz⟩
  · simp [Value.cells] at hcs
    obtain ⟨rfl, rfl, rfl⟩ := hcs
    exact ⟨[], sla_nil W⟩
  · simp [Value.cells] at hcs
    obtain ⟨rfl, rfl, rfl⟩ := hcs
    simp only [if_true] at hz
    exact ⟨_, sla_ints a len cap zs W hl (by unfold maxLen at hm; omega) hz hcell hwz⟩
end

theorem cells29 : Tryd.prog.cellsOf 22 = 1 := by kernel_rfl
theorem bytes5 : Tryd.prog.bytesOf 5 = 1 := by kernel_rfl
theorem weightsAll_mem {H : Type} {P : Program} {e : TypeId} {d : DataW H} {n : Nat} : ∀ {l : List (DataW H)}, d ∈ l → n ∈ d.weights P e → n ∈ DataW.weightsAll P e l
  | x :: l, hd, hn => by
    simp only [DataW.weightsAll, List.mem_append]
    rcases List.mem_cons.1 hd with rfl | hd
    · exact .inl hn
    · exact .inr (weightsAll_mem hd hn)

section
variable {H : Type} {enc : TypeId × Value → H} {W : World}
set_option maxRecDepth 100000 in
theorem open_lsa2 {r : Reach} {b0 b1 : Nat} {v : Value} {d : DataW H} {p : List MemPlace} (hv : Value.okWide Tryd.prog W r b0 33 v) (h : DataW.Trod enc Tryd.prog W b1 (fun _ => true) true 33 v d p)
    (hw : ∀ n ∈ d.weights Tryd.prog 33, n ≤ reachBytes) : ∃ ls, LsA W v ls ∧ ∀ x ∈ ls, x.length ≤ 9223372036850000000 := by
  obtain ⟨a0, len, cap, rfl⟩ := okWide_slice Tryd.underlying33 hv
  obtain ⟨fuel, hf⟩ := h
  rcases Go.Deep.open_int_rows Tryd.underlying33 Tryd.underlying22 Tryd.underlying5 cells29 cells5 hf with ⟨hcs, hx⟩ | ⟨a, len', cap', A, L, C, Z, hcs, _, hl, hm, hx, hr⟩
  · simp [Value.cells] at hcs
    obtain ⟨rfl, rfl, rfl⟩ := hcs
    exact ⟨[], lsa_nil W, fun x h => by cases h⟩
  · simp [Value.cells] at hcs
    obtain ⟨rfl, rfl, rfl⟩ := hcs
    have hd := (Prod.mk.inj hx).1
    refine ⟨(List.range len).map fun i => u8s ((Z i).take (L i)), ⟨some a, cap, by simp, by simpa using hl, by unfold maxLen at hm; omega, (fun h => by cases h), fun h0 => ?_⟩, fun x hxm => ?_⟩
    · have h0' : 0 < len := by simpa using h0
      obtain ⟨b, off, spot⟩ := a
      have hspot : spot = none := by simpa [Addr.add] using World.cell?_spot (hr 0 (by omega)).1
      subst hspot
      refine ⟨b, off, rfl, fun i l hl' => ?_⟩
      have hi : i < len := by
        rcases Nat.lt_or_ge i len with h1 | h1
        · exact h1
        · rw [List.getElem?_eq_none (by simp; omega)] at hl'; cases hl'
      have el : l = u8s ((Z i).take (L i)) := by
        rw [List.getElem?_map, List.getElem?_range hi] at hl'
        exact (Option.some.inj hl').symm
      subst el
      obtain ⟨q1, q2, q3, q4, q5, q6, q7⟩ := hr i (by omega)
      refine ⟨_, by rw [← Go.WideShapes.add_plain]; exact q1, ?_⟩
      cases hA : A i with
      | none =>
        have hc0 := q6 hA
        have hz : Z i = [] := List.eq_nil_of_length_eq_zero (by omega)
        have hL0 : L i = 0 := by omega
        rw [hz, hL0, hc0]
        exact sla_nil W
      | some a' =>
        have := sla_ints a' (L i) (C i) (Z i) W q2 (by unfold maxLen at q3; omega) q4 (fun j hj => (q7 a' hA).2 j (by omega)) q5
        exact this
    · obtain ⟨i, hi, rfl⟩ := List.mem_map.1 hxm
      have hi' : i < len := List.mem_range.1 hi
      obtain ⟨q1, q2, q3, q4, q5, q6, q7⟩ := hr i (by omega)
      have hzl : (u8s ((Z i).take (L i))).length ≤ (Z i).length := by unfold u8s; rw [List.length_map, List.length_take]; omega
      cases hA : A i with
      | none => have := q6 hA; omega
      | some a' =>
        have hmem : (Z i).length ∈ (Go.Deep.intRow .u8 (A i) (L i) (Z i) : DataW H).weights Tryd.prog 22 := by
          rw [hA]
          simp only [Go.Deep.intRow, DataW.weights, Tryd.underlying22, bytes5, Nat.mul_one]
          refine List.mem_cons.2 (.inl ?_)
          simp only [lits, List.length_map, List.length_take, List.length_drop]
          omega
        have hb : (Z i).length ≤ reachBytes := by
          apply hw
          rw [hd]
          simp only [DataW.weights, Tryd.underlying33]
          refine List.mem_cons_of_mem _ (List.mem_append_left _ ?_)
          exact weightsAll_mem (List.mem_map.2 ⟨i, hi, rfl⟩) hmem
        have := reachBytes_lt
        omega
end
end Go.Proofs.YtpjkhholpbfbpaaDoor

/- CodecReads: every Decode, Take and Parts answers what the document says. The row and its tied card. Conditions: none but the card's own (the listed variables of the library are laid by the program's text). -/
namespace Go.Proofs.YtpjkhholpbfbpaaDoor.codecReads
open Go.ChangeShapes Go.WideShapes Go.ChangeAt Go.RowKit

set_option maxRecDepth 100000 in
/-- What the walk gives, for every argument and every world that holds the listed variables. -/
theorem contract (H : Type) (enc : TypeId × Value → H) (W : World) (base : Nat) (args : Array Value) (ds gs : List (DataW H)) (before : List MemPlace)
    (hval : ∀ (j : Nat) t v, Tryd.f3.params[j]? = some t → args[j]? = some v → Value.okWide Tryd.prog W .any base t v)
    (hW : DataW.Whole enc Tryd.prog Tryd.f3.params.toList Rows.codecReadsSpec.vars false W args.toList ds gs before) (hL : laidMetH Tryd.prog Rows.codecReadsRow.laid W) :
    Calls Tryd.prog 3 args W fun e W' => ∃ v, e = .returned v ∧ Rows.codecReadsSpec.post enc Tryd.prog Tryd.f3 false true false false W args v W' := by
  have hW' := hW
  obtain ⟨p, q, hA0, hV, rfl, hfz, hnd⟩ := hW
  have hA : DataW.TrodAll enc Tryd.prog W 0 (fun _ => true) true Tryd.f3.params.toList args.toList ds p := hA0
  rw [Tryd.params3] at hA hval
  obtain ⟨v0, vs0, d0, ds0, p0, q_0, hargs, rfl, rfl, h0, r_0⟩ := trodAll_cons hA
  obtain ⟨rfl, rfl, rfl⟩ := trodAll_nil r_0
  obtain rfl : args = #[v0] := by cases args; simp_all
  obtain ⟨rfl, rfl⟩ := trodVars_none hV
  obtain ⟨l0, hs0⟩ := open_sla (hval 0 22 v0 rfl rfl) h0
  clear hA0
  simp only [List.append_nil] at hW'
  have hL2 : LaidU W := laid_u (seat_met5 hL)
  have hlt0 : ∀ x ∈ p0, x.block < W.heap.size := fun x hx => by simpa using hW'.lt x (by simp [hx])
  refine (reads_any v0 l0 W hL2 hs0).mono fun e W' ⟨he, hg⟩ => ?_
  subst he
  exact ⟨_, rfl, _, _, _, [], (p0 ++ []), [], hW', trodAll_cons_mk (shut_bool Tryd.underlying4 _) trodAll_mk0, (trodAll_cons_mk (Below.trod laid_out (by kernel_rfl) (of_decide_eq_true (by kernel_rfl)) h0 hg hlt0) trodAll_mk0), rfl, hg.frame _, fun h => by cases h⟩

theorem reads (os : Os) (H : Type) (enc : TypeId × Value → H) : ∃ places, DataW.whole enc Tryd.prog ((laidWorld5 os).forCall (fun _ _ => 0) ⟨#[], #[.slice none 0 0], []⟩).memory Tryd.f3.params.toList Rows.codecReadsSpec.vars false #[Value.slice none 0 0].toList 12 = some ([.nil], [], places) :=
  ⟨[], by kernel_rfl⟩

set_option maxRecDepth 100000 in
theorem lifted (os : Os) (started : os.Started) (H : Type) (enc : TypeId × Value → H) (F : Stop.Interp) :
    ReturnsInHanded {} Tryd.checked os 3 .any ((OpenSpec.ofChange Rows.codecReadsSpec).preRow enc Tryd.prog Tryd.f3 Rows.codecReadsRow.domain false Rows.codecReadsRow.laid) (((OpenSpec.ofChange Rows.codecReadsSpec).at F).post enc Tryd.prog Tryd.f3 false true false false) := by
  obtain ⟨places, hx⟩ := reads os H enc
  refine returnsInHanded_of_row (C := Tryd.checked) (s := OpenSpec.ofChange Rows.codecReadsSpec) seat_own started (by kernel_rfl) Tryd.func3
    (witness_row_at (enc := enc) (C := Tryd.checked) false (laidWorld5 os) #[.slice none 0 0] rfl (by kernel_rfl) (by kernel_rfl) (by kernel_rfl)
      (OpenSpec.preRow_of_cond 12 hx (by kernel_rfl) (fun k hk => by cases hk) (by kernel_rfl) (laid_met5 os _))) ?_
  intro W base args ds gs before hval hW _ _ _ hL _ _
  exact contract H enc W base args ds gs before hval hW hL

theorem said : Rows.CodecReadsSaid :=
  OpenClaim.holds_of_cond 3 Tryd.f3 rfl rfl rfl rfl rfl rfl rfl ⟨rfl, rfl, rfl, rfl, rfl⟩ rfl rfl rfl rfl rfl (by kernel_rfl) Tryd.func3 (by kernel_rfl)
    (of_decide_eq_true (by kernel_rfl)) (by unfold Func.isWrapper; first | (rw [if_pos (by decide +kernel)]; kernel_rfl) | (rw [if_neg (by decide +kernel)]; exact ⟨rfl, rfl⟩))
    (fun os started H enc _ F => by rw [OpenClaim.pre_eq_preRow]; exact lifted os started H enc F)

theorem plain (f : FuncId) (fn : Func) (hf : Tryd.pinned.checked.prog.funcNamed "joist/joistlaw03.CodecReads" = some f) (hfn : Tryd.pinned.checked.prog.funcs[f]? = some fn) :
    true = Tryd.pinned.checked.prog.looks [] ∧ ∀ (j : Nat) t, fn.params[j]? = some t → Tryd.pinned.checked.prog.wantsStandIn t = false := by
  obtain rfl : f = 3 := Option.some.inj ((show Tryd.prog.funcNamed "joist/joistlaw03.CodecReads" = some 3 by kernel_rfl).symm.trans hf) |>.symm
  obtain rfl : fn = Tryd.f3 := (Option.some.inj (Tryd.func3.symm.trans hfn)).symm
  refine ⟨by kernel_rfl, fun j t ht => ?_⟩
  rw [Tryd.params3] at ht
  have hm := Array.mem_of_getElem? ht
  obtain rfl : t = 22 := by simpa using hm
  exact (show Tryd.prog.wantsStandIn 22 = false by kernel_rfl)

/-- THE CARD. -/
theorem card : Rows.CodecReadsCardSaid :=
  Claim7.holds_tied_plain_at .later [] _ _ _ _ said (fun _ h => by cases h) (by kernel_rfl) (fun _ h => by cases h) codecReads_row_tie rfl ⟨rfl, rfl⟩ (by kernel_rfl) rfl plain (by kernel_rfl)
end Go.Proofs.YtpjkhholpbfbpaaDoor.codecReads
namespace Go.Proofs.YtpjkhholpbfbpaaDoor
theorem codecReads_card : Rows.CodecReadsCardSaid := codecReads.card
end Go.Proofs.YtpjkhholpbfbpaaDoor
