/- ValReads: every Decode and Read of package val answers the document's value, or false. The row and its tied card. Conditions: none but the card's own (the listed variables of the library are laid by the program's text). -/
import Derived.Test.YtadehoibjpmhhaaGreatDoorAR
import Derived.Test.YtadehoibjpmhhaaGreatDoorWM
namespace Go.Proofs.YtadehoibjpmhhaaGreatDoor.valReads
open Go.ChangeShapes Go.WideShapes Go.ChangeAt Go.RowKit
open Go.ChangeMaps (open_string shut_string)

theorem laid_out : laidOutB Tryz.prog = true := by kernel_rfl

theorem cells_u8 : Tryz.prog.cellsOf 5 = 1 := by kernel_rfl
/-- Bytes read as numbers are bytes. -/
theorem bytes_of (zs : List Int) (h : ∀ n ∈ zs, (Lit.int .u8 n).wf = true) (len : Nat) (hl : len ≤ zs.length) : ∀ i, i < len → (((((zs.take len).map fun z => UInt8.ofNat z.toNat)).getD i 0).toNat : Int) = zs.getD i 0 := by
  intro i hi
  have hz : zs[i]? = some (zs[i]'(by omega)) := List.getElem?_eq_getElem _
  have hw := h (zs[i]'(by omega)) (List.getElem_mem _)
  have b : 0 ≤ zs[i]'(by omega) ∧ zs[i]'(by omega) ≤ 255 := by
    simp [Lit.wf] at hw
    have h1 : IntKind.u8.min = 0 := rfl
    have h2 : IntKind.u8.max = 255 := rfl
    omega
  rw [List.getD_eq_getElem?_getD, List.getD_eq_getElem?_getD, List.getElem?_map, List.getElem?_take_of_lt hi, hz]
  simp only [Option.map_some, Option.getD_some]
  rw [UInt8.toNat_ofNat']
  omega

/-- Both Decodes end alike at this slice. -/
def DecBoth (V : Value) (W : World) : Prop := ∃ k n S o, (∀ W', Below W.heap.size W W' → Calls Tryz.prog 5 #[V] W' fun e w' => e = .returned (.tuple #[.agg #[.int .i64 k, .int .i64 n, .string S], .bool o]) ∧ Below W'.heap.size W' w') ∧ (∀ W', Below W.heap.size W W' → Calls Tryz.prog 6 #[V] W' fun e w' => e = .returned (.tuple #[.agg #[.int .i64 k, .int .i64 n, .string S], .bool o]) ∧ Below W'.heap.size W' w')
theorem end_shape (l : List UInt8) : ∃ k n S o, vdecEnd l = .returned (.tuple #[.agg #[.int .i64 k, .int .i64 n, .string S], .bool o]) := by
  unfold vdecEnd
  repeat' split
  all_goals exact ⟨_, _, _, _, rfl⟩
theorem both_nil (cap : Nat) (A : Option Addr) (W : World) (hL : LaidIn W) : DecBoth (.slice A 0 cap) W := by
  refine ⟨0, 0, ⟨#[]⟩, false, fun W' hW => ?_, fun W' _ => rdecode_short 0 cap (by omega) W'⟩
  exact vdecode_any [] (by simp) A cap (by simp) W' (fun h => by simp at h) (hL.below hW)
theorem both_of (a : Addr) (len cap : Nat) (zs : List Int) (W : World) (hlen : len ≤ 300) (hl : len ≤ cap) (hm : cap ≤ maxLen) (hz : zs.length = cap) (hcell : ∀ i, i < zs.length → W.cell? (a.add i) = some (.int .u8 (zs.getD i 0))) (hwz : ∀ n ∈ zs, (Lit.int .u8 n).wf = true) (hL : LaidIn W) : DecBoth (.slice (some a) len cap) W := by
  by_cases h0 : len = 0
  · subst h0; exact both_nil cap _ W hL
  · obtain ⟨b, off, rfl, hc⟩ := ints_at hcell (by omega)
    obtain ⟨l, hll⟩ : ∃ l, (zs.take len).map (fun z => UInt8.ofNat z.toNat) = l := ⟨_, rfl⟩
    have hlen' : l.length = len := by rw [← hll, List.length_map, List.length_take]; omega
    have hh : Holds W b off l := fun i hi => by rw [hc i (by omega), ← hll, bytes_of zs hwz len (by omega) i (by omega)]
    have hb : b < W.heap.size := cell_lt (hc 0 (by omega))
    have hcm : cap ≤ 9223372036854775807 := by unfold maxLen at hm; omega
    obtain ⟨k, n, S, o, he⟩ := end_shape l
    subst hlen'
    refine ⟨k, n, S, o, fun W' hW => ?_, fun W' hW => ?_⟩
    · rw [← he]
      exact vdecode_any l (by omega) _ cap hl W' (fun _ => ⟨b, off, rfl, hh.below hW hb⟩) (hL.below hW)
    · rw [← he]
      exact refVdecode_any l (by omega) b off cap hl hcm W' (hh.below hW hb) (by have := hW.size; omega)
theorem reads_q (A : Option Addr) (len cap : Nat) (s : ByteArray) (W : World) (hL : LaidIn W) (hs : s.size ≤ 300) (hd : DecBoth (.slice A len cap) W) : ∃ k1 n1 S1 o1 k2 n2 S2 o2, ReadsQ W (.slice A len cap) s k1 n1 S1 o1 k2 n2 S2 o2 := by
  obtain ⟨k1, n1, S1, o1, h1, h2⟩ := hd
  by_cases h : ∃ k n t, inI n ∧ vRight k n t = true ∧ vShow k n t = s.data.toList
  · obtain ⟨k, n, t, hn, hr, hv⟩ := h
    have e : s = ⟨(vShow k n (⟨t.toArray⟩ : ByteArray).data.toList).toArray⟩ := toList_lit s _ hv.symm
    rw [e]
    exact ⟨k1, n1, S1, o1, k, n, ⟨t.toArray⟩, true, h1, h2, fun W' hW => vread_yes hn ⟨t.toArray⟩ hr W' (hL.below hW), fun W' _ => rread_yes hn ⟨t.toArray⟩ hr W'⟩
  · have hno : NoVal s.data.toList := fun k n t hn hr hv => h ⟨k, n, t, hn, hr, hv⟩
    exact ⟨k1, n1, S1, o1, 0, 0, ⟨#[]⟩, false, h1, h2, fun W' hW => vread_no s (by omega) hno W' (hL.below hW), fun W' _ => rread_no s (by omega) hno W'⟩
theorem vreads_walk (A : Option Addr) (len cap : Nat) (s : ByteArray) (W : World) (hL : LaidIn W) (hd : len ≤ 300 → DecBoth (.slice A len cap) W) :
    Calls Tryz.prog 3 #[.slice A len cap, .string s] W fun e w' => e = .returned (.bool true) ∧ Below W.heap.size W w' := by
  have ha : AliveQ W := fun W' hW => alive_any W' (hL.below hW)
  by_cases h1 : len ≤ 300
  · by_cases h2 : s.size ≤ 300
    · obtain ⟨k1, n1, S1, o1, k2, n2, S2, o2, hq⟩ := reads_q A len cap s W hL h2 (hd h1)
      exact vreads_main A len cap s W ha h1 h2 k1 n1 S1 o1 k2 n2 S2 o2 hq
    · exact vreads_long A len cap s W ha (.inr ⟨h1, by omega⟩)
  · exact vreads_long A len cap s W ha (.inl (by omega))

set_option maxRecDepth 100000 in
/-- What the walk gives, for every argument and every world that holds the listed variables. -/
theorem contract (H : Type) (enc : TypeId × Value → H) (W : World) (base : Nat) (args : Array Value) (ds gs : List (DataW H)) (before : List MemPlace)
    (hval : ∀ (j : Nat) t v, Tryz.f3.params[j]? = some t → args[j]? = some v → Value.okWide Tryz.prog W .any base t v)
    (hW : DataW.Whole enc Tryz.prog Tryz.f3.params.toList Rows.valReadsSpec.vars false W args.toList ds gs before) (hL : laidMetH Tryz.prog Rows.valReadsRow.laid W) :
    Calls Tryz.prog 3 args W fun e W' => ∃ v, e = .returned v ∧ Rows.valReadsSpec.post enc Tryz.prog Tryz.f3 false true false false W args v W' := by
  have hW' := hW
  obtain ⟨p, q, hA0, hV, rfl, hfz, hnd⟩ := hW
  have hA : DataW.TrodAll enc Tryz.prog W 0 (fun _ => true) true Tryz.f3.params.toList args.toList ds p := hA0
  rw [Tryz.params3] at hA hval
  obtain ⟨v0, v1, d0, d1, p0, p1, hargs0, rfl, rfl, h0, h1⟩ := trodAll_two hA
  obtain rfl : args = #[v0, v1] := by cases args; simp_all
  obtain ⟨rfl, rfl⟩ := trodVars_none hV
  obtain ⟨s, rfl, rfl, rfl, hs⟩ := open_string Tryz.underlying9 (hval 1 9 v1 rfl rfl) h1
  obtain ⟨a0, len, cap, rfl⟩ := okWide_slice Tryz.underlying22 (hval 0 22 v0 rfl rfl)
  have h0k := h0
  obtain ⟨fuel, hf⟩ := h0
  clear hA0
  simp only [List.append_nil] at hW'
  have hlt : ∀ x ∈ p0, x.block < W.heap.size := fun x hx => by simpa using hW'.lt x hx
  have hargs : ∀ (W' : World), Below W.heap.size W W' → DataW.TrodAll enc Tryz.prog W' 0 (fun b => decide (b < W.heap.size)) true [22, 9] [.slice a0 len cap, .string s] [d0, .lit (.string s.data.toList)] (p0 ++ []) :=
    fun W' hn => trodAll_mk2 (Below.trod laid_out (by kernel_rfl) (of_decide_eq_true (by kernel_rfl)) h0k hn hlt) (shut_string Tryz.underlying9 hs)
  have hL2 := laid_in (seat_met hL)
  have hF : len ≤ 300 → DecBoth (.slice a0 len cap) W := fun h300 => by
    rcases open_ints Tryz.underlying22 Tryz.underlying5 cells_u8 hf with ⟨hcs, hx⟩ | ⟨a, len', cap', zs, hcs, _, hl, hm, hz, hx, hcell, hwz⟩
    · simp [Value.cells] at hcs
      obtain ⟨rfl, rfl, rfl⟩ := hcs
      exact both_nil 0 _ W hL2
    · simp [Value.cells] at hcs
      obtain ⟨rfl, rfl, rfl⟩ := hcs
      simp only [if_true] at hz
      exact both_of a len cap zs W h300 hl hm hz hcell hwz hL2
  refine (vreads_walk a0 len cap s W hL2 hF).mono fun e W' ⟨he, hg⟩ => ?_
  subst he
  exact ⟨_, rfl, _, _, _, [], p0 ++ [], [], hW', trodAll_cons_mk (shut_bool Tryz.underlying4 _) trodAll_mk0, hargs _ hg, rfl, hg.frame _, fun h => by cases h⟩

theorem reads (os : Os) (H : Type) (enc : TypeId × Value → H) : ∃ places, DataW.whole enc Tryz.prog ((laidWorld os).forCall (fun _ _ => 0) ⟨#[], #[.slice none 0 0, .string ByteArray.empty], []⟩).memory Tryz.f3.params.toList Rows.valReadsSpec.vars false #[Value.slice none 0 0, Value.string ByteArray.empty].toList 8 = some ([.nil, .lit (.string [])], [], places) :=
  ⟨[], by kernel_rfl⟩

set_option maxRecDepth 100000 in
theorem lifted (os : Os) (started : os.Started) (H : Type) (enc : TypeId × Value → H) (F : Stop.Interp) :
    ReturnsInHanded {} Tryz.checked os 3 .any ((OpenSpec.ofChange Rows.valReadsSpec).preRow enc Tryz.prog Tryz.f3 Rows.valReadsRow.domain false Rows.valReadsRow.laid) (((OpenSpec.ofChange Rows.valReadsSpec).at F).post enc Tryz.prog Tryz.f3 false true false false) := by
  obtain ⟨places, hx⟩ := reads os H enc
  refine returnsInHanded_of_row (C := Tryz.checked) (s := OpenSpec.ofChange Rows.valReadsSpec) seat_own started (by kernel_rfl) Tryz.func3
    (witness_row_at (enc := enc) (C := Tryz.checked) false (laidWorld os) #[.slice none 0 0, .string ByteArray.empty] rfl (by kernel_rfl) (by kernel_rfl) (by kernel_rfl)
      (OpenSpec.preRow_of_cond 12 hx (by kernel_rfl) (fun k hk => by cases hk) (by kernel_rfl) (laid_met os _))) ?_
  intro W base args ds gs before hval hW _ _ _ hL _ _
  exact contract H enc W base args ds gs before hval hW hL

theorem said : Rows.ValReadsSaid :=
  OpenClaim.holds_of_cond 3 Tryz.f3 rfl rfl rfl rfl rfl rfl rfl ⟨rfl, rfl, rfl, rfl, rfl⟩ rfl rfl rfl rfl rfl (by kernel_rfl) Tryz.func3 (by kernel_rfl)
    (of_decide_eq_true (by kernel_rfl)) (by unfold Func.isWrapper; first | (rw [if_pos (by decide +kernel)]; kernel_rfl) | (rw [if_neg (by decide +kernel)]; exact ⟨rfl, rfl⟩))
    (fun os started H enc _ F => by rw [OpenClaim.pre_eq_preRow]; exact lifted os started H enc F)

theorem plain (f : FuncId) (fn : Func) (hf : Tryz.pinned.checked.prog.funcNamed "joist/joistlaw02.ValReads" = some f) (hfn : Tryz.pinned.checked.prog.funcs[f]? = some fn) :
    true = Tryz.pinned.checked.prog.looks [] ∧ ∀ (j : Nat) t, fn.params[j]? = some t → Tryz.pinned.checked.prog.wantsStandIn t = false := by
  obtain rfl : f = 3 := Option.some.inj ((show Tryz.prog.funcNamed "joist/joistlaw02.ValReads" = some 3 by kernel_rfl).symm.trans hf) |>.symm
  obtain rfl : fn = Tryz.f3 := (Option.some.inj (Tryz.func3.symm.trans hfn)).symm
  refine ⟨by kernel_rfl, fun j t ht => ?_⟩
  rw [Tryz.params3] at ht
  have hm := Array.mem_of_getElem? ht
  have ht2 : t = 22 ∨ t = 9 := by simpa using hm
  rcases ht2 with rfl | rfl
  · exact (show Tryz.prog.wantsStandIn 22 = false by kernel_rfl)
  · exact (show Tryz.prog.wantsStandIn 9 = false by kernel_rfl)

/-- THE CARD. -/
theorem card : Rows.ValReadsCardSaid :=
  Claim7.holds_tied_plain_at .later [] _ _ _ _ said (fun _ h => by cases h) (by kernel_rfl) (fun _ h => by cases h) valReads_row_tie rfl ⟨rfl, rfl⟩ (by kernel_rfl) rfl plain (by kernel_rfl)
end Go.Proofs.YtadehoibjpmhhaaGreatDoor.valReads
namespace Go.Proofs.YtadehoibjpmhhaaGreatDoor
theorem valReads_card : Rows.ValReadsCardSaid := valReads.card
end Go.Proofs.YtadehoibjpmhhaaGreatDoor
