/- Several texts in one: UH PTFew. Conditions: as each theorem names them. -/
import Derived.Test.YtjbjdkginemedaaGreatDoorQT7
import Derived.Test.YtjbjdkginemedaaGreatDoorQP
import Derived.Test.YtjbjdkginemedaaGreatDoorIF
/- The statement of layer 9: a row of few cells is found by looking at few blocks. Conditions: the arguments stand, their numbers are of 64 bits; the tables of utf8 read as they are laid. -/
namespace Go.Proofs.YtjbjdkginemedaaGreatDoor
open Go.RowKit

set_option maxHeartbeats 8000000 in
set_option maxRecDepth 100000 in
theorem tablefew_any (v : Value) (l : List CT) (row : ByteArray) (w : World) (h : ClA w v l) (hv : ∀ c ∈ l, inI c.vn) (hL : LaidU w) :
    Calls Tryz.prog 7 #[v, .string row] w fun e w' => e = .returned (.bool true) ∧ Below w.heap.size w w' := by
  have mixed : Tryz.prog.follows .mixedOrders = true := by kernel_rfl
  have HAl : Hid (Calls Tryz.prog 22 #[] w fun e w' => e = .returned (.bool true) ∧ Below w.heap.size w w') := alive9_any w hL
  have HLo : Hid (∀ W, Below w.heap.size w W → Calls Tryz.prog 23 #[v] W fun e w' => e = .returned (.bool (longM 120 l)) ∧ Below W.heap.size W w') := fun W hW => long9_any v l W (h.below hW)
  cases hlo : longM 120 l with
  | true =>
    rw [hlo] at HLo
    clear h hv hL hlo
    go_enter Tryz.func7, Tryz.ntmps7
    go_wp2_with (first
      | (go_at_call 22; refine HAl.out.mono ?_; rintro e w1 ⟨rfl, hb1⟩)
      | (go_at_call 23; refine (HLo.out _ hb1).mono ?_; rintro e w2 ⟨rfl, hb2⟩))
    go_ret
    exact ⟨rfl, hb1.trans (hb2.mono hb1.size)⟩
  | false =>
    rw [hlo] at HLo
    obtain ⟨hl, hs⟩ := longM_sm hlo hv
    obtain ⟨rs, hrs⟩ : ∃ rs, row.size = rs := ⟨_, rfl⟩
    have HSo : Hid (∀ W, Below w.heap.size w W → Calls Tryz.prog 29 #[v] W fun e w' => ∃ As ns cs, e = .returned (.slice As ns cs) ∧ Hid (ClA w' (.slice As ns cs) (sortL [] l) ∧ Below W.heap.size W w')) := fun W hW => by
      refine (refsort_any v l W (h.below hW) hs (by omega)).mono fun e w' ⟨v', he, hr, hb⟩ => ?_
      obtain ⟨As, cs, rfl, _⟩ := hr.len
      exact ⟨As, _, cs, he, hr.cla, hb⟩
    have hSm := (sortL_i l [] sortI_nil hs).sm
    obtain ⟨hbc, hfine, hlen⟩ := sort_bc hs
    obtain ⟨s, hS⟩ : ∃ s, sortL [] l = s := ⟨_, rfl⟩
    rw [hS] at HSo hSm hbc hfine hlen
    obtain ⟨hpt, hflat⟩ := pt9_of (s := s) (by omega) hbc hfine
    obtain ⟨ps, hps⟩ : ∃ ps, cutL 256 s = ps := ⟨_, rfl⟩
    rw [hps] at hpt hflat
    have HBu : Hid (∀ W v, Below w.heap.size w W → ClA W v s → Calls Tryz.prog 24 #[v] W fun e w' => ∃ A nb cap, e = .returned (.tuple #[.slice A nb cap, .bool true]) ∧ Hid (SlA w' (.slice A nb cap) (tabB ps) ∧ Below W.heap.size W w')) := fun W u hW hu => by
      refine (tbuild_any u s (by omega) W hu hSm (hL.below hW)).mono fun e w' ⟨hb, hx⟩ => ?_
      unfold TbEnd at hx
      rw [if_pos hfine, hps] at hx
      obtain ⟨v', he, hr⟩ := hx
      obtain ⟨A, c, rfl, _⟩ := id hr.sla
      exact ⟨A, _, c, he, hr.sla, hb⟩
    have HOp : Hid (∀ W v, Below w.heap.size w W → SlA W v (tabB ps) → Calls Tryz.prog 26 #[v] W fun e w' => ∃ t vb vi u, e = .returned (.tuple #[.pointer (some ⟨t, 0, none⟩), .int .i64 0]) ∧ Hid (Tb9 W w' t vb vi ps u 0)) := fun W v hW hs =>
      topen_any v ps hpt.cut hpt.bc hpt.n hpt.ix hpt.pl W hs (hL.below hW)
    have HRo : Hid (rs ≤ 100 → ∀ W wb t vb vi u, Below w.heap.size w wb → Tb9 wb W t vb vi ps u 0 → Calls Tryz.prog 32 #[.pointer (some ⟨t, 0, none⟩), .string row] W fun e w' => ∃ A n c m, e = .returned (.tuple #[.slice A n c, .int .i64 0]) ∧ Hid (m ≤ n + 1 ∧ m ≤ ps.length ∧ Tb9 wb w' t vb vi ps u m ∧ n ≤ 120)) := fun hr W wb t vb vi u hW h => by
      refine (row9 h hpt (by omega) (hL.below hW) row (by omega)).mono fun e w' ⟨v, m1, m2, e1, e2, e3, e4, e5⟩ => ?_
      obtain ⟨r1, r2, _, r4⟩ := row_res hpt.cut row.data.toList rfl e2 e3
      obtain ⟨A, c, rfl, _⟩ := e4.len
      rw [Nat.zero_add] at e5
      have h9 := List.length_filter_le (rowF row) ps.flatten
      exact ⟨A, _, c, _, e1, r4, by omega, e5, by have := hpt.sum; omega⟩
    obtain ⟨n, hn⟩ : ∃ n, ps.length = n := ⟨_, rfl⟩
    have HBk : Hid (∀ W wb t vb vi u m, Tb9 wb W t vb vi ps u m → Calls Tryz.prog 35 #[.pointer (some ⟨t, 0, none⟩)] W fun e w' => e = .returned (.int .i64 (n : Int)) ∧ w' = W) := fun W wb t vb vi u m h => by
      obtain ⟨A, cap, rfl, _⟩ := h.vi
      rw [← hn]
      exact blocks_any t vb A _ cap _ W h.blk
    have HLk : Hid (∀ W wb t vb vi u m, Tb9 wb W t vb vi ps u m → Calls Tryz.prog 34 #[.pointer (some ⟨t, 0, none⟩)] W fun e w' => e = .returned (.int .i64 (m : Int)) ∧ w' = W) := fun W wb t vb vi u m h => looked_any t vb vi _ W h.blk
    have HN : Hid (ps.length = n ∧ n ≤ 120) := ⟨hn, by have := hpt.n; omega⟩
    have hrz : row.size = rs := hrs
    clear h hv hL hlo hl hs hSm hbc hfine hlen hS hpt hflat hps hn hrs
    by_cases hr : rs ≤ 100
    · have hz1 : ¬ (100 : Int) < (rs : Int) := by omega
      have HRo2 := hid (HRo.out hr)
      go_enter Tryz.func7, Tryz.ntmps7
      go_upto_region 11 with (first
        | (go_at_call 22; refine HAl.out.mono ?_; rintro e w1 ⟨rfl, hb1⟩; have HB := hid hb1; clear hb1)
        | (go_at_call 23; refine (HLo.out _ HB.out).mono ?_; rintro e w2 ⟨rfl, hb2⟩; have HB := hid (HB.out.trans (hb2.mono HB.out.size)); clear hb2)
        | (go_at_call 29; refine (HSo.out _ HB.out).mono ?_; rintro e w3 ⟨As, ns, cs, rfl, h3⟩; have HB := hid (HB.out.trans (h3.out.2.mono HB.out.size)); have HC3 := hid h3.out.1; clear h3)
        | (go_at_call 24; refine (HBu.out _ _ HB.out HC3.out).mono ?_; rintro e w4 ⟨A4, n4, c4, rfl, h4⟩; have HB := hid (HB.out.trans (h4.out.2.mono HB.out.size)); have HS4 := hid h4.out.1; clear h4)
        | (go_at_call 26; refine (HOp.out _ _ HB.out HS4.out).mono ?_; rintro e w5 ⟨t, vb, vi, u, rfl, h5⟩; have HT := hid h5.out; clear h5)
        | (go_at_call 32; have hq := HRo2.out _ _ _ _ _ _ HB.out HT.out; refine hq.mono ?_; clear hq; rintro e w6 ⟨A6, n6, c6, m, rfl, h6⟩; have HT6 := hid h6.out.2.2.1; have HM6 := hid (And.intro h6.out.1 (And.intro h6.out.2.1 h6.out.2.2.2)); clear h6))
      have hw1 : IntKind.i64.wrap ((n6 : Int) + 1) = (n6 : Int) + 1 := by rw [IntKind.wrap_i64]; have := HM6.out.2.2; omega
      have hz2 : (m : Int) ≤ (n6 : Int) + 1 := by have := HM6.out.1; omega
      have hz3 : (m : Int) ≤ (n : Int) := by have := HM6.out.2.1; have := HN.out.1; omega
      go_wp2_with (first
        | (go_at_call 35; have hq := HBk.out _ _ _ _ _ _ _ HT6.out; refine hq.mono ?_; clear hq; rintro e w11 ⟨rfl, rfl⟩)
        | (go_at_call 34; have hq := HLk.out _ _ _ _ _ _ _ HT6.out; refine hq.mono ?_; clear hq; rintro e w12 ⟨rfl, rfl⟩))
      go_ret
      exact ⟨rfl, HB.out.trans (HT6.out.bel.mono HB.out.size)⟩
    · have hz1 : (100 : Int) < (rs : Int) := by omega
      go_enter Tryz.func7, Tryz.ntmps7
      go_wp2_with (first
        | (go_at_call 22; refine HAl.out.mono ?_; rintro e w1 ⟨rfl, hb1⟩)
        | (go_at_call 23; refine (HLo.out _ hb1).mono ?_; rintro e w2 ⟨rfl, hb2⟩))
      go_ret
      exact ⟨rfl, hb1.trans (hb2.mono hb1.size)⟩
end Go.Proofs.YtjbjdkginemedaaGreatDoor

/- TableFew: a row of few cells is found by looking at few blocks. The row and its tied card. Conditions: none but the card's own (the listed variables of the library are laid by the program's text). -/
namespace Go.Proofs.YtjbjdkginemedaaGreatDoor.tableFew
open Go.ChangeShapes Go.WideShapes Go.ChangeAt Go.RowKit

set_option maxRecDepth 100000 in
/-- What the walk gives, for every argument and every world that holds the listed variables. -/
theorem contract (H : Type) (enc : TypeId × Value → H) (W : World) (base : Nat) (args : Array Value) (ds gs : List (DataW H)) (before : List MemPlace)
    (hval : ∀ (j : Nat) t v, Tryz.f7.params[j]? = some t → args[j]? = some v → Value.okWide Tryz.prog W .any base t v)
    (hW : DataW.Whole enc Tryz.prog Tryz.f7.params.toList Rows.tableFewSpec.vars false W args.toList ds gs before) (hL : laidMetH Tryz.prog Rows.tableFewRow.laid W) :
    Calls Tryz.prog 7 args W fun e W' => ∃ v, e = .returned v ∧ Rows.tableFewSpec.post enc Tryz.prog Tryz.f7 false true false false W args v W' := by
  have hW' := hW
  obtain ⟨p, q, hA0, hV, rfl, hfz, hnd⟩ := hW
  have hA : DataW.TrodAll enc Tryz.prog W 0 (fun _ => true) true Tryz.f7.params.toList args.toList ds p := hA0
  rw [Tryz.params7] at hA hval
  obtain ⟨v0, vs0, d0, ds0, p0, q_0, hargs, rfl, rfl, h0, r_0⟩ := trodAll_cons hA
  obtain ⟨v1, vs1, d1, ds1, p1, q_1, rfl, rfl, rfl, h1, r_1⟩ := trodAll_cons r_0
  obtain ⟨rfl, rfl, rfl⟩ := trodAll_nil r_1
  obtain rfl : args = #[v0, v1] := by cases args; simp_all
  obtain ⟨rfl, rfl⟩ := trodVars_none hV
  obtain ⟨l0, hs0, hv0⟩ := open_cla (hval 0 22 v0 rfl rfl) h0
  obtain ⟨x1, rfl, rfl, rfl, wx1⟩ := Go.ChangeMaps.open_string Tryz.underlying9 (hval 1 9 v1 rfl rfl) h1
  have hx1 : x1.size ≤ 9223372036854775807 := size_of wx1
  clear hA0
  simp only [List.append_nil] at hW'
  have hL2 : LaidU W := laid_u (seat_met5 hL)
  have hlt0 : ∀ x ∈ p0, x.block < W.heap.size := fun x hx => by simpa using hW'.lt x (by simp [hx])
  refine (tablefew_any v0 l0 x1 W hs0 hv0 hL2).mono fun e W' ⟨he, hg⟩ => ?_
  subst he
  exact ⟨_, rfl, _, _, _, [], (p0 ++ ([] ++ [])), [], hW', trodAll_cons_mk (shut_bool Tryz.underlying4 _) trodAll_mk0, (trodAll_cons_mk (Below.trod laid_out (by kernel_rfl) (of_decide_eq_true (by kernel_rfl)) h0 hg hlt0) (trodAll_cons_mk (Go.ChangeMaps.shut_string Tryz.underlying9 wx1) trodAll_mk0)), rfl, hg.frame _, fun h => by cases h⟩

theorem reads (os : Os) (H : Type) (enc : TypeId × Value → H) : ∃ places, DataW.whole enc Tryz.prog ((laidWorld5 os).forCall (fun _ _ => 0) ⟨#[], #[.slice none 0 0, .string ByteArray.empty], []⟩).memory Tryz.f7.params.toList Rows.tableFewSpec.vars false #[Value.slice none 0 0, Value.string ByteArray.empty].toList 12 = some ([.nil, .lit (.string [])], [], places) :=
  ⟨[], by kernel_rfl⟩

set_option maxRecDepth 100000 in
theorem lifted (os : Os) (started : os.Started) (H : Type) (enc : TypeId × Value → H) (F : Stop.Interp) :
    ReturnsInHanded {} Tryz.checked os 7 .any ((OpenSpec.ofChange Rows.tableFewSpec).preRow enc Tryz.prog Tryz.f7 Rows.tableFewRow.domain false Rows.tableFewRow.laid) (((OpenSpec.ofChange Rows.tableFewSpec).at F).post enc Tryz.prog Tryz.f7 false true false false) := by
  obtain ⟨places, hx⟩ := reads os H enc
  refine returnsInHanded_of_row (C := Tryz.checked) (s := OpenSpec.ofChange Rows.tableFewSpec) seat_own started (by kernel_rfl) Tryz.func7
    (witness_row_at (enc := enc) (C := Tryz.checked) false (laidWorld5 os) #[.slice none 0 0, .string ByteArray.empty] rfl (by kernel_rfl) (by kernel_rfl) (by kernel_rfl)
      (OpenSpec.preRow_of_cond 12 hx (by kernel_rfl) (fun k hk => by cases hk) (by kernel_rfl) (laid_met5 os _))) ?_
  intro W base args ds gs before hval hW _ _ _ hL _ _
  exact contract H enc W base args ds gs before hval hW hL

theorem said : Rows.TableFewSaid :=
  OpenClaim.holds_of_cond 7 Tryz.f7 rfl rfl rfl rfl rfl rfl rfl ⟨rfl, rfl, rfl, rfl, rfl⟩ rfl rfl rfl rfl rfl (by kernel_rfl) Tryz.func7 (by kernel_rfl)
    (of_decide_eq_true (by kernel_rfl)) (by unfold Func.isWrapper; first | (rw [if_pos (by decide +kernel)]; kernel_rfl) | (rw [if_neg (by decide +kernel)]; exact ⟨rfl, rfl⟩))
    (fun os started H enc _ F => by rw [OpenClaim.pre_eq_preRow]; exact lifted os started H enc F)

theorem plain (f : FuncId) (fn : Func) (hf : Tryz.pinned.checked.prog.funcNamed "joist/joistlaw09.TableFew" = some f) (hfn : Tryz.pinned.checked.prog.funcs[f]? = some fn) :
    true = Tryz.pinned.checked.prog.looks [] ∧ ∀ (j : Nat) t, fn.params[j]? = some t → Tryz.pinned.checked.prog.wantsStandIn t = false := by
  obtain rfl : f = 7 := Option.some.inj ((show Tryz.prog.funcNamed "joist/joistlaw09.TableFew" = some 7 by kernel_rfl).symm.trans hf) |>.symm
  obtain rfl : fn = Tryz.f7 := (Option.some.inj (Tryz.func7.symm.trans hfn)).symm
  refine ⟨by kernel_rfl, fun j t ht => ?_⟩
  rw [Tryz.params7] at ht
  have hm := Array.mem_of_getElem? ht
  rcases (show t = 22 ∨ t = 9 by simpa using hm) with rfl | rfl
  · exact (show Tryz.prog.wantsStandIn 22 = false by kernel_rfl)
  · exact (show Tryz.prog.wantsStandIn 9 = false by kernel_rfl)

/-- THE CARD. -/
theorem card : Rows.TableFewCardSaid :=
  Claim7.holds_tied_plain_at .later [] _ _ _ _ said (fun _ h => by cases h) (by kernel_rfl) (fun _ h => by cases h) tableFew_row_tie rfl ⟨rfl, rfl⟩ (by kernel_rfl) rfl plain (by kernel_rfl)
end Go.Proofs.YtjbjdkginemedaaGreatDoor.tableFew
namespace Go.Proofs.YtjbjdkginemedaaGreatDoor
theorem tableFew_card : Rows.TableFewCardSaid := tableFew.card
end Go.Proofs.YtjbjdkginemedaaGreatDoor
