/- Several texts in one: KFa KH NZb PBBui. Conditions: as each theorem names them. -/
import Derived.Test.YtfcnobcpnhfgmaaGreatDoorKD
import Derived.Test.YtfcnobcpnhfgmaaGreatDoorIF
import Derived.Handed
import Derived.SizedLaws
import Derived.Test.YtfcnobcpnhfgmaaGreatDoorQO
import Derived.Test.YtfcnobcpnhfgmaaGreatDoorQR
import Derived.Test.YtfcnobcpnhfgmaaGreatDoorSO
import Derived.Test.YtfcnobcpnhfgmaaGreatDoorQP
/- append of one cell as one step of a region that draws. Conditions: as it names them. -/
namespace Go.Proofs.YtfcnobcpnhfgmaaGreatDoor
open Go.RowKit

theorem step_append_cell {ops : Array Oper} {o : Oper} {a : Act} {K : Act → World → Prop} {Q : Exit → Act → World → Prop} {E : Prop} (hgd : o.guard = Option.none) (s x : Operand)
    (ho : o.op = .call { callee := .builtin .append, args := #[s, x], argTypes := #[22, 22] })
    (w : World) (base : Nat) (v : Value) (l : List CT) (hs : a.eval s = v) (hown : CRow w base v l)
    (G m : Nat) (hx : a.eval x = .slice (some ⟨G, 0, Option.none⟩) 1 m) (y : CT) (hc : ∀ j u, y.e[j]? = some u → w.cell? ((⟨G, 0, Option.none⟩ : Addr).add j) = some u)
    (hlen : l.length ≤ 1466015503658) (hbase : base ≤ w.heap.size)
    (hK : ∀ v' w', CRow w' base v' (l ++ [y]) → Below base w w' → K (a.put o.dst v') w') :
    if Region.wanted o (yielded ops a.tmps) = true then Oper.wp Tryz.prog o a w K Q else E := by
  have hw : Region.wanted o (yielded ops a.tmps) = true := by simp [Region.wanted, hgd]
  rw [if_pos hw]
  obtain ⟨i0, hi, hz0, hz1, hz2⟩ := info_parts info_cell
  obtain ⟨v', w', hrun, r1, r2, _⟩ := run_append_own (P := Tryz.prog) w base 22 o.type 26 i0 _ 8 96 Tryz.underlying22 hi hz0 hz1 hz2 rfl (by decide) v l.length (flatC l) hown ⟨G, 0, Option.none⟩ 1 m y.e (CT.e_len y) hc y.e_one (by unfold maxLen; omega) (by omega) hbase
  unfold Oper.wp
  simp [execOp, ho, resolve, invoke, builtin, hs, hx, hrun, Result.andThen]
  refine hK v' w' ?_ ((Below.refl _ _).grown r2 hbase fun k hk => (World.ownsRow.lt hown k hk).1)
  unfold CRow
  rw [flatC_app, flatC_one, List.length_append]
  exact r1
end Go.Proofs.YtfcnobcpnhfgmaaGreatDoor

/- An argument []api.Cell opened, with how long it may be: the reach of the machine's memory bounds it. Conditions: as it names them. -/
namespace Go.Proofs.YtfcnobcpnhfgmaaGreatDoor
open Go.ChangeShapes Go.WideShapes Go.ChangeAt Go.RowKit

theorem bytesCell : Tryz.prog.bytesOf 26 = 96 := by kernel_rfl
section
variable {H : Type} {enc : TypeId × Value → H} {W : World}
set_option maxRecDepth 100000 in
theorem open_cla2 {r : Reach} {b0 b1 : Nat} {v : Value} {d : DataW H} {p : List MemPlace} (hv : Value.okWide Tryz.prog W r b0 22 v) (h : DataW.Trod enc Tryz.prog W b1 (fun _ => true) true 22 v d p)
    (hw : ∀ n ∈ d.weights Tryz.prog 22, n ≤ reachBytes) : ∃ l, ClA W v l ∧ (∀ c ∈ l, inI c.vn) ∧ l.length ≤ 1466015503658 := by
  obtain ⟨l, hC, hn⟩ := open_cla hv h
  refine ⟨l, hC, hn, ?_⟩
  obtain ⟨A, c, e, _⟩ := hC
  obtain ⟨a0, len, cap, rfl⟩ := okWide_slice Tryz.underlying22 hv
  have el : len = l.length := by injection e
  obtain ⟨fuel, hf⟩ := h
  rcases DataW.trod_slice Tryz.underlying22 hf with ⟨hcs, _⟩ | ⟨a, len', cap', elems, rest, n, hfu, hcs, hx, hb, hl, hm, he, _⟩
  · simp [Value.cells] at hcs
    omega
  · simp [Value.cells] at hcs
    obtain ⟨rfl, rfl, rfl⟩ := hcs
    have hd := (Prod.mk.inj hx).1
    have hb : (elems.length + rest.length) * 96 ≤ reachBytes := by
      apply hw
      rw [hd]
      simp only [DataW.weights, Tryz.underlying22, bytesCell, List.length_map]
      exact List.mem_cons_self
    unfold reachBytes at hb
    omega
end
end Go.Proofs.YtfcnobcpnhfgmaaGreatDoor

/- The statement of layer 8: every Build, Parse, Find and Cut answers what the document says; cells are left as they were. Conditions: the arguments stand, their numbers are of 64 bits; the list is within the machine's reach; the tables of utf8 read as they are laid. -/
namespace Go.Proofs.YtfcnobcpnhfgmaaGreatDoor
open Go.RowKit

/-- What stands at a place of a list of parts. -/
theorem prowd_at {w : World} {B P c : Nat} {A : Option Addr} {ps : List (List CT)} (h : PRow w B (.slice A P c) ps) {i : Nat} {x : List CT} (hx : ps[i]? = some x) :
    ∃ g Au cu, A = some ⟨g, 0, none⟩ ∧ w.cell? ⟨g, i, none⟩ = some (.slice Au x.length cu) ∧ ClA w (.slice Au x.length cu) x ∧ g < w.heap.size := by
  obtain ⟨vs, ho, hr⟩ := h
  obtain ⟨u, hu, hc⟩ := hr i x hx
  have hi : i < ps.length := (List.getElem?_eq_some_iff.1 hx).1
  obtain ⟨Au, cu, rfl, _⟩ := hc.len
  have ho' := ho
  rcases ho'.2 with ⟨_, h0⟩ | ⟨g, cap, cur, e, _, hh, _⟩
  · omega
  · injection e with e1 e2 e3
    subst e1 e3
    refine ⟨g, Au, cu, rfl, ?_, hc.cla, ?_⟩
    · have h1 := World.ownsRow.cells ho (g := g) rfl i _ hu
      rwa [add_zero_off, Nat.zero_add] at h1
    · rcases Nat.lt_or_ge g w.heap.size with h' | h'
      · exact h'
      · rw [Array.getElem?_eq_none h'] at hh; cases hh
/-- Where the law is: the cells' own copy; the two blocks; what was found; the parts. -/
structure BzA (w W : World) (l : List CT) (d : CT) (vo : Value) : Prop where
  bel : Below w.heap.size w W
  dw : DW W w.heap.size d
  own : ClA W vo l
theorem BzA.below {w W W' : World} {l : List CT} {d : CT} {vo : Value} (h : BzA w W l d vo) (hb : Below W.heap.size W W') : BzA w W' l d vo :=
  ⟨h.bel.trans (hb.mono h.bel.size), h.dw.below hb, h.own.below hb⟩
structure BzB (w W : World) (l : List CT) (d : CT) (vo : Value) (bl : List UInt8) (va vb : Value) : Prop where
  a : BzA w W l d vo
  sa : SlA W va bl
  sb : SlA W vb bl
theorem BzB.below {w W W' : World} {l : List CT} {d : CT} {vo : Value} {bl : List UInt8} {va vb : Value} (h : BzB w W l d vo bl va vb) (hb : Below W.heap.size W W') : BzB w W' l d vo bl va vb :=
  ⟨h.a.below hb, h.sa.below hb, h.sb.below hb⟩
structure BzC (w W : World) (l : List CT) (d : CT) (vo : Value) (bl : List UInt8) (va vb : Value) (fx : CT) (b8 b9 : Nat) : Prop where
  b : BzB w W l d vo bl va vb
  x : DW W b8 fx
  y : DW W b9 fx
theorem BzC.below {w W W' : World} {l : List CT} {d : CT} {vo : Value} {bl : List UInt8} {va vb : Value} {fx : CT} {b8 b9 : Nat} (h : BzC w W l d vo bl va vb fx b8 b9) (hb : Below W.heap.size W W') : BzC w W' l d vo bl va vb fx b8 b9 :=
  ⟨h.b.below hb, h.x.below hb, h.y.below hb⟩
structure BzD (w W : World) (l : List CT) (d : CT) (vo : Value) (bl : List UInt8) (va vb : Value) (fx : CT) (b8 b9 : Nat) (ps : List (List CT)) (vp vq : Value) : Prop where
  c : BzC w W l d vo bl va vb fx b8 b9
  p : ∃ B, PRow W B vp ps
  q : ∃ B, PRow W B vq ps
theorem BzD.below {w W W' : World} {l : List CT} {d : CT} {vo : Value} {bl : List UInt8} {va vb : Value} {fx : CT} {b8 b9 : Nat} {ps : List (List CT)} {vp vq : Value} (h : BzD w W l d vo bl va vb fx b8 b9 ps vp vq) (hb : Below W.heap.size W W') : BzD w W' l d vo bl va vb fx b8 b9 ps vp vq := by
  obtain ⟨h1, ⟨B1, h2⟩, ⟨B2, h3⟩⟩ := h
  exact ⟨h1.below hb, ⟨B1, h2.below hb⟩, ⟨B2, h3.below hb⟩⟩

set_option maxHeartbeats 16000000 in
set_option maxRecDepth 100000 in
theorem blockbuilds_any (v : Value) (l : List CT) (d : CT) (size : Int) (w : World) (h : ClA w v l) (hlen : l.length ≤ 1466015503658) (hv : ∀ c ∈ l, inI c.vn) (hvd : inI d.vn) (hL : LaidU w) :
    Calls Tryz.prog 3 #[v, d.v, .int .i64 size] w fun e w' => e = .returned (.bool true) ∧ Below w.heap.size w w' := by
  have mixed : Tryz.prog.follows .mixedOrders = true := by kernel_rfl
  have HA := hid fun W (hb : Below w.heap.size w W) => alive8_any W (hL.below hb)
  have HCp : Hid (∀ W, Below w.heap.size w W → Calls Tryz.prog 11 #[v] W fun e w' => ∃ v', e = .returned v' ∧ CRow w' W.heap.size v' l ∧ Below W.heap.size W w') := fun W hb => copycells_any v l hlen W (h.below hb)
  have HLg : Hid (∀ W v', ClA W v' (l ++ [d]) → Calls Tryz.prog 10 #[v'] W fun e w' => e = .returned (.bool (longM 100 (l ++ [d]))) ∧ Below W.heap.size W w') := fun W v' h => long8_any v' (l ++ [d]) W h
  have HLen := hid hlen
  cases hg : longM 100 (l ++ [d]) with
  | true =>
    rw [hg] at HLg
    clear h hv hL hg hlen
    go_enter Tryz.func3, Tryz.ntmps3
    go_upto_region 3 with (go_at_call 9; refine (HA.out _ (below_new _ _)).mono ?_; rintro e w5 ⟨rfl, hb5⟩)
    have HB5 : Hid (Below w.heap.size w w5) := (below_new w _).trans (hb5.mono (by simp))
    have HD5 : Hid (DW w5 w.heap.size d) := DW.below (Blk.new w _ _) hb5
    have HG5 : Hid (w.heap.size < w5.heap.size) := by have := hb5.size; simp at this; exact this
    clear hb5
    obtain ⟨x0, x1, x2, x3, x4, x5, x6, x7⟩ := DW.words HD5.out
    have HBd : Hid (Below w.heap.size w w5.drew) := HB5.out.drew
    have HDd : Hid (DW w5.drew w.heap.size d) := DW.below HD5.out (Below.refl _ _).drew
    have HBa : Hid (∀ t, Below w.heap.size w (w5.drew.alloc (.cells #[.string d.r, .string d.f, .string d.q, .int .i64 d.t, .int .i64 d.k, .int .i64 d.vk, .int .i64 d.vn, .string d.s] t))) := fun t => HBd.out.trans ((below_new _ _).mono (by show w.heap.size ≤ w5.heap.size; exact Nat.le_of_lt HG5.out))
    have HDa : Hid (∀ t, DW (w5.drew.alloc (.cells #[.string d.r, .string d.f, .string d.q, .int .i64 d.t, .int .i64 d.k, .int .i64 d.vk, .int .i64 d.vn, .string d.s] t)) w.heap.size d) := fun t => DW.below HDd.out (below_new _ _)
    have HDn : Hid (DW (w5.drew.alloc (.cells #[.string d.r, .string d.f, .string d.q, .int .i64 d.t, .int .i64 d.k, .int .i64 d.vk, .int .i64 d.vn, .string d.s] 26)) w5.drew.heap.size d) := Blk.new w5.drew 26 d.e.toArray
    obtain ⟨y0, y1, y2, y3, y4, y5, y6, y7⟩ := DW.words HDd.out
    (first | (go_region_law (first
      | (go_simp; go_at_call 11; refine (HCp.out _ ?_).mono ?_; (first | exact HBd.out | exact HBa.out _); rintro e w6 ⟨v6, rfl, hr6, hb6⟩; have hd6 : DW w6 w.heap.size d := (by first | exact DW.below HDd.out hb6 | exact DW.below (HDa.out _) hb6); have HD6 := hid hd6; obtain ⟨z0, z1, z2, z3, z4, z5, z6, z7⟩ := DW.words hd6; have HB6 : Hid (Below w.heap.size w w6 ∧ w5.heap.size ≤ w6.heap.size) := (by first | exact ⟨HBd.out.trans (hb6.mono HBd.out.size), hb6.size⟩ | exact ⟨(HBa.out _).trans (hb6.mono (HBa.out _).size), Nat.le_trans (by simp) hb6.size⟩); have HZ6 : Hid (Below w5.heap.size w5 w6) := (by first | exact (Below.refl _ w5).drew.trans hb6 | exact (Below.refl _ w5).drew.trans ((below_new w5.drew _).trans (hb6.mono (by simp)))); have HR6 : Hid (CRow w6 w5.heap.size v6 l) := (by first | exact hr6 | exact hr6.le (by simp)); clear hd6)
      | (refine step_append_cell rfl (.tmp 22) (.tmp 24) rfl _ w5.heap.size v6 l rfl ?_ _ 1 rfl d ?_ HLen.out ?_ ?_; (first | exact HR6.out | exact World.ownsRow.alloc HR6.out _); (first | exact ct_dw (Blk.new w6 26 d.e.toArray) | exact ct_dw (DW.below HDn.out hb6)); (have := HB6.out.2; simp; omega); intro v7 w7 hr7 hb7; have HD7 : Hid (DW w7 w.heap.size d) := (by first | exact DW.keep HD6.out hb7 HG5.out | exact DW.keep (DW.below HD6.out (below_new _ _)) hb7 HG5.out); have HB7 : Hid (Below w.heap.size w w7) := (by first | exact HB6.out.1.trans (hb7.mono (Nat.le_of_lt HG5.out)) | exact (HB6.out.1.trans ((below_new _ _).mono HB6.out.1.size)).trans (hb7.mono (Nat.le_of_lt HG5.out))); have HZ7 : Hid (Below w5.heap.size w5 w7) := (by first | exact HZ6.out.trans hb7 | exact (HZ6.out.trans ((below_new _ _).mono HZ6.out.size)).trans hb7); have HC7 := hid hr7.cla; obtain ⟨t0, t1, t2, t3, t4, t5, t6, t7⟩ := DW.words HD7.out)
      | (go_simp; go_at_call 10; refine (HLg.out _ _ ?_).mono ?_; exact HC7.out; rintro e w8 ⟨rfl, hb8⟩; have HD8 := hid (DW.below HD7.out hb8); have HB8 := hid (HB7.out.trans (hb8.mono HB7.out.size)); obtain ⟨r0, r1, r2, r3, r4, r5, r6, r7⟩ := DW.words HD8.out))) | fail)
    all_goals (go_wp2; go_ret; exact ⟨rfl, HB8.out⟩)
  | false =>
    rw [hg] at HLg
    by_cases hsz : (1099511627776 : Int) < size
    · clear h hv hL hg hlen
      go_enter Tryz.func3, Tryz.ntmps3
      go_upto_region 3 with (go_at_call 9; refine (HA.out _ (below_new _ _)).mono ?_; rintro e w5 ⟨rfl, hb5⟩)
      have HB5 : Hid (Below w.heap.size w w5) := (below_new w _).trans (hb5.mono (by simp))
      have HD5 : Hid (DW w5 w.heap.size d) := DW.below (Blk.new w _ _) hb5
      have HG5 : Hid (w.heap.size < w5.heap.size) := by have := hb5.size; simp at this; exact this
      clear hb5
      obtain ⟨x0, x1, x2, x3, x4, x5, x6, x7⟩ := DW.words HD5.out
      have HBd : Hid (Below w.heap.size w w5.drew) := HB5.out.drew
      have HDd : Hid (DW w5.drew w.heap.size d) := DW.below HD5.out (Below.refl _ _).drew
      have HBa : Hid (∀ t, Below w.heap.size w (w5.drew.alloc (.cells #[.string d.r, .string d.f, .string d.q, .int .i64 d.t, .int .i64 d.k, .int .i64 d.vk, .int .i64 d.vn, .string d.s] t))) := fun t => HBd.out.trans ((below_new _ _).mono (by show w.heap.size ≤ w5.heap.size; exact Nat.le_of_lt HG5.out))
      have HDa : Hid (∀ t, DW (w5.drew.alloc (.cells #[.string d.r, .string d.f, .string d.q, .int .i64 d.t, .int .i64 d.k, .int .i64 d.vk, .int .i64 d.vn, .string d.s] t)) w.heap.size d) := fun t => DW.below HDd.out (below_new _ _)
      have HDn : Hid (DW (w5.drew.alloc (.cells #[.string d.r, .string d.f, .string d.q, .int .i64 d.t, .int .i64 d.k, .int .i64 d.vk, .int .i64 d.vn, .string d.s] 26)) w5.drew.heap.size d) := Blk.new w5.drew 26 d.e.toArray
      obtain ⟨y0, y1, y2, y3, y4, y5, y6, y7⟩ := DW.words HDd.out
      (first | (go_region_law (first
        | (go_simp; go_at_call 11; refine (HCp.out _ ?_).mono ?_; (first | exact HBd.out | exact HBa.out _); rintro e w6 ⟨v6, rfl, hr6, hb6⟩; have hd6 : DW w6 w.heap.size d := (by first | exact DW.below HDd.out hb6 | exact DW.below (HDa.out _) hb6); have HD6 := hid hd6; obtain ⟨z0, z1, z2, z3, z4, z5, z6, z7⟩ := DW.words hd6; have HB6 : Hid (Below w.heap.size w w6 ∧ w5.heap.size ≤ w6.heap.size) := (by first | exact ⟨HBd.out.trans (hb6.mono HBd.out.size), hb6.size⟩ | exact ⟨(HBa.out _).trans (hb6.mono (HBa.out _).size), Nat.le_trans (by simp) hb6.size⟩); have HZ6 : Hid (Below w5.heap.size w5 w6) := (by first | exact (Below.refl _ w5).drew.trans hb6 | exact (Below.refl _ w5).drew.trans ((below_new w5.drew _).trans (hb6.mono (by simp)))); have HR6 : Hid (CRow w6 w5.heap.size v6 l) := (by first | exact hr6 | exact hr6.le (by simp)); clear hd6)
        | (refine step_append_cell rfl (.tmp 22) (.tmp 24) rfl _ w5.heap.size v6 l rfl ?_ _ 1 rfl d ?_ HLen.out ?_ ?_; (first | exact HR6.out | exact World.ownsRow.alloc HR6.out _); (first | exact ct_dw (Blk.new w6 26 d.e.toArray) | exact ct_dw (DW.below HDn.out hb6)); (have := HB6.out.2; simp; omega); intro v7 w7 hr7 hb7; have HD7 : Hid (DW w7 w.heap.size d) := (by first | exact DW.keep HD6.out hb7 HG5.out | exact DW.keep (DW.below HD6.out (below_new _ _)) hb7 HG5.out); have HB7 : Hid (Below w.heap.size w w7) := (by first | exact HB6.out.1.trans (hb7.mono (Nat.le_of_lt HG5.out)) | exact (HB6.out.1.trans ((below_new _ _).mono HB6.out.1.size)).trans (hb7.mono (Nat.le_of_lt HG5.out))); have HZ7 : Hid (Below w5.heap.size w5 w7) := (by first | exact HZ6.out.trans hb7 | exact (HZ6.out.trans ((below_new _ _).mono HZ6.out.size)).trans hb7); have HC7 := hid hr7.cla; obtain ⟨t0, t1, t2, t3, t4, t5, t6, t7⟩ := DW.words HD7.out)
        | (go_simp; go_at_call 10; refine (HLg.out _ _ ?_).mono ?_; exact HC7.out; rintro e w8 ⟨rfl, hb8⟩; have HD8 := hid (DW.below HD7.out hb8); have HB8 := hid (HB7.out.trans (hb8.mono HB7.out.size)); obtain ⟨r0, r1, r2, r3, r4, r5, r6, r7⟩ := DW.words HD8.out))) | fail)
      all_goals (go_wp2; go_ret; exact ⟨rfl, HB8.out⟩)
    · obtain ⟨hl2, hsm⟩ := longM_sm hg (fun c hc => by rcases List.mem_append.1 hc with q | q; exact hv c q; exact (List.mem_singleton.1 q) ▸ hvd)
      have hds : Sm d := hsm d (by simp)
      have hs : ∀ c ∈ l, Sm c := fun c hc => hsm c (by simp [hc])
      have hl : l.length ≤ 100 := by rw [List.length_append] at hl2; omega
      obtain ⟨F, hF⟩ : ∃ F, fineK [] l = F := ⟨_, rfl⟩
      obtain ⟨bl, hbl⟩ : ∃ bl : List UInt8, (if F = true then blockB l else []) = bl := ⟨_, rfl⟩
      have hbe : ∀ (W W' : World) (e : Ending), BuEnd F l W e W' → ∃ A n c, e = .returned (.tuple #[.slice A n c, .bool F]) ∧ SlA W' (.slice A n c) bl := fun W W' e hx => by
        unfold BuEnd at hx
        cases F with
        | true =>
          rw [if_pos rfl] at hx hbl
          obtain ⟨v', he, hr⟩ := hx
          have hsl := hr.sla
          obtain ⟨A, c, rfl, _⟩ := hr.sla
          rw [hbl] at hsl he
          exact ⟨A, _, c, he, hsl⟩
        | false =>
          rw [if_neg (by simp)] at hx hbl
          refine ⟨none, 0, 0, hx, ?_⟩
          rw [← hbl]
          exact ⟨none, 0, rfl, by simp, by omega, fun h => absurd h (by simp), fun _ => rfl⟩
      have hbg : bl.length ≤ 60000 ∧ (bl.length ≤ 2000 ∨ ∃ ds, GoodB bl ds) := by
        cases F with
        | true =>
          rw [if_pos rfl] at hbl
          have hbc : ∀ c ∈ l, Bc c := fun c hc => ⟨((fineK_iff l).1 hF).1 c hc, (hs c hc).1.2.2, by have := (hs c hc).2.2.2.2; omega⟩
          rw [← hbl]
          exact ⟨by have := block_len hbc (by omega); omega, .inr ⟨l, hbc, hF, by omega, rfl⟩⟩
        | false =>
          rw [if_neg (by simp)] at hbl
          rw [← hbl]
          exact ⟨by simp, .inl (by simp)⟩
      have HBc : Hid (∀ (W : World) (u : Value), Below w.heap.size w W → ClA W u l → Calls Tryz.prog 12 #[u] W fun e w' => ∃ A n c, e = .returned (.tuple #[.slice A n c, .bool F]) ∧ SlA w' (.slice A n c) bl ∧ Below W.heap.size W w') := fun W u hW hu => by
        refine (build_any u l (by omega) W hu hs (hL.below hW)).mono fun e w' ⟨hb, hx⟩ => ?_
        rw [hF] at hx
        obtain ⟨A, n, c, h1, h2⟩ := hbe W w' e hx
        exact ⟨A, n, c, h1, h2, hb⟩
      have HBr : Hid (∀ (W : World), Below w.heap.size w W → Calls Tryz.prog 13 #[v] W fun e w' => ∃ A n c, e = .returned (.tuple #[.slice A n c, .bool F]) ∧ SlA w' (.slice A n c) bl ∧ Below W.heap.size W w') := fun W hW => by
        refine (refbuild_any v l (by omega) W (h.below hW) (fun c hc => (hs c hc).dc)).mono fun e w' ⟨hb, hx⟩ => ?_
        rw [hF] at hx
        obtain ⟨A, n, c, h1, h2⟩ := hbe W w' e hx
        exact ⟨A, n, c, h1, h2, hb⟩
      obtain ⟨cs, okb, hI⟩ := isb_ex bl
      obtain ⟨fx, hfx⟩ : ∃ fx, (findL cs d).getD default = fx := ⟨_, rfl⟩
      obtain ⟨fb, hfb⟩ : ∃ fb, (findL cs d).isSome = fb := ⟨_, rfl⟩
      have HFc : Hid (∀ (W : World) (u : Value), Below w.heap.size w W → SlA W u bl → Calls Tryz.prog 14 #[u, d.v] W fun e w' => e = .returned (.tuple #[fx.v, .bool fb]) ∧ Below W.heap.size W w') := fun W u hW hu =>
        (find_sla u bl d (by omega) W hu (hL.below hW)).mono fun e w' ⟨hb, ds, hd, he⟩ => by
          obtain rfl := isb_find hI hd
          exact ⟨by rw [he, hfx, hfb], hb⟩
      have HFr : Hid (∀ (W : World) (u : Value), Below w.heap.size w W → SlA W u bl → Calls Tryz.prog 15 #[u, d.v] W fun e w' => e = .returned (.tuple #[fx.v, .bool fb]) ∧ Below W.heap.size W w') := fun W u hW hu =>
        (reffind_any u bl d hds.dc W hu (fun W' hW' => refparse_any u bl hbg.1 hbg.2 W' (hu.below hW'))).mono fun e w' ⟨hb, ds, hd, he⟩ => by
          obtain rfl := isb_find hI hd
          exact ⟨by rw [he, hfx, hfb], hb⟩
      obtain ⟨ps, hps⟩ : ∃ ps, cutL size l = ps := ⟨_, rfl⟩
      obtain ⟨P, hP⟩ : ∃ P, ps.length = P := ⟨_, rfl⟩
      have HPl := hid hP
      have hPb : P ≤ 9223372036854775807 := by
        have h1 := cuts_all size l.length l (Nat.le_refl _) (by omega)
        rw [hps] at h1
        have h2 : ∀ (qs : List (List CT)), (∀ (i : Nat) (p : List CT), qs[i]? = some p → 0 < p.length) → qs.length ≤ qs.flatten.length := by
          intro qs
          induction qs with
          | nil => intro _; exact Nat.le_refl _
          | cons p qs ih =>
            intro hq
            have h3 := hq 0 p rfl
            have h4 := ih fun i q hi => hq (i + 1) q (by simpa using hi)
            rw [List.flatten_cons, List.length_append, List.length_cons]
            omega
        have h5 := h2 ps fun i p hp => (h1.one i p hp).1
        rw [h1.flat] at h5
        omega
      have HCc : Hid (∀ (W : World) (u : Value), Below w.heap.size w W → ClA W u l → Calls Tryz.prog 16 #[u, .int .i64 size] W fun e w' => ∃ A c, e = .returned (.slice A P c) ∧ (∃ B, PRow w' B (.slice A P c) ps) ∧ Below W.heap.size W w') := fun W u hW hu => by
        refine (cut_any u l size (by omega) W hu (fun c hc => ⟨(hs c hc).1, by have := (hs c hc).2.2.2.2; omega⟩) (hL.below hW)).mono fun e w' ⟨v', he, hr, hb⟩ => ?_
        rw [hps] at hr
        obtain ⟨A, c, rfl⟩ := hr.len
        rw [hP] at he hr
        exact ⟨A, c, he, ⟨_, hr⟩, hb⟩
      have HCr : Hid (∀ (W : World), Below w.heap.size w W → Calls Tryz.prog 17 #[v, .int .i64 size] W fun e w' => ∃ A c, e = .returned (.slice A P c) ∧ (∃ B, PRow w' B (.slice A P c) ps) ∧ Below W.heap.size W w') := fun W hW => by
        refine (refcut_any v l size (by omega) W (h.below hW) (fun c hc => (hs c hc).dc)).mono fun e w' ⟨v', he, hr, hb⟩ => ?_
        rw [hps] at hr
        obtain ⟨A, c, rfl⟩ := hr.len
        rw [hP] at he hr
        exact ⟨A, c, he, ⟨_, hr⟩, hb⟩
      have HSb : Hid (∀ (W : World) (u1 u2 : Value), SlA W u1 bl → SlA W u2 bl → Calls Tryz.prog 18 #[u1, u2] W fun e w' => e = .returned (.bool true) ∧ Below W.heap.size W w') := fun W u1 u2 h1 h2 => by
        have := same_sla u1 u2 bl bl (by omega) W h1 h2
        rwa [decide_eq_true rfl] at this
      have HSa : Hid (∀ (W : World) (u : Value), Below w.heap.size w W → ClA W u l → Calls Tryz.prog 19 #[u, v] W fun e w' => e = .returned (.bool true) ∧ Below W.heap.size W w') := fun W u hW hu => by
        have := samecells_any u v l l W hu (h.below hW)
        rwa [decide_eq_true rfl] at this
      have HSx : Hid (∀ (W : World) (u1 u2 : Value) (x : List CT), ClA W u1 x → ClA W u2 x → Calls Tryz.prog 19 #[u1, u2] W fun e w' => e = .returned (.bool true) ∧ Below W.heap.size W w') := fun W u1 u2 x h1 h2 => by
        have := samecells_any u1 u2 x x W h1 h2
        rwa [decide_eq_true rfl] at this
      clear h hv hL hg hlen hl2 hsm hds hs hl hF hbl hbe hbg hI hfx hfb hps hP
      go_enter Tryz.func3, Tryz.ntmps3
      go_upto_region 3 with (go_at_call 9; refine (HA.out _ (below_new _ _)).mono ?_; rintro e w5 ⟨rfl, hb5⟩)
      have HB5 : Hid (Below w.heap.size w w5) := (below_new w _).trans (hb5.mono (by simp))
      have HD5 : Hid (DW w5 w.heap.size d) := DW.below (Blk.new w _ _) hb5
      have HG5 : Hid (w.heap.size < w5.heap.size) := by have := hb5.size; simp at this; exact this
      clear hb5
      obtain ⟨x0, x1, x2, x3, x4, x5, x6, x7⟩ := DW.words HD5.out
      have HBd : Hid (Below w.heap.size w w5.drew) := HB5.out.drew
      have HDd : Hid (DW w5.drew w.heap.size d) := DW.below HD5.out (Below.refl _ _).drew
      have HBa : Hid (∀ t, Below w.heap.size w (w5.drew.alloc (.cells #[.string d.r, .string d.f, .string d.q, .int .i64 d.t, .int .i64 d.k, .int .i64 d.vk, .int .i64 d.vn, .string d.s] t))) := fun t => HBd.out.trans ((below_new _ _).mono (by show w.heap.size ≤ w5.heap.size; exact Nat.le_of_lt HG5.out))
      have HDa : Hid (∀ t, DW (w5.drew.alloc (.cells #[.string d.r, .string d.f, .string d.q, .int .i64 d.t, .int .i64 d.k, .int .i64 d.vk, .int .i64 d.vn, .string d.s] t)) w.heap.size d) := fun t => DW.below HDd.out (below_new _ _)
      have HDn : Hid (DW (w5.drew.alloc (.cells #[.string d.r, .string d.f, .string d.q, .int .i64 d.t, .int .i64 d.k, .int .i64 d.vk, .int .i64 d.vn, .string d.s] 26)) w5.drew.heap.size d) := Blk.new w5.drew 26 d.e.toArray
      obtain ⟨y0, y1, y2, y3, y4, y5, y6, y7⟩ := DW.words HDd.out
      (first | (go_region_law (first
        | (go_simp; go_at_call 11; refine (HCp.out _ ?_).mono ?_; (first | exact HBd.out | exact HBa.out _); rintro e w6 ⟨v6, rfl, hr6, hb6⟩; have hd6 : DW w6 w.heap.size d := (by first | exact DW.below HDd.out hb6 | exact DW.below (HDa.out _) hb6); have HD6 := hid hd6; obtain ⟨z0, z1, z2, z3, z4, z5, z6, z7⟩ := DW.words hd6; have HB6 : Hid (Below w.heap.size w w6 ∧ w5.heap.size ≤ w6.heap.size) := (by first | exact ⟨HBd.out.trans (hb6.mono HBd.out.size), hb6.size⟩ | exact ⟨(HBa.out _).trans (hb6.mono (HBa.out _).size), Nat.le_trans (by simp) hb6.size⟩); have HZ6 : Hid (Below w5.heap.size w5 w6) := (by first | exact (Below.refl _ w5).drew.trans hb6 | exact (Below.refl _ w5).drew.trans ((below_new w5.drew _).trans (hb6.mono (by simp)))); have HR6 : Hid (CRow w6 w5.heap.size v6 l) := (by first | exact hr6 | exact hr6.le (by simp)); clear hd6)
        | (refine step_append_cell rfl (.tmp 22) (.tmp 24) rfl _ w5.heap.size v6 l rfl ?_ _ 1 rfl d ?_ HLen.out ?_ ?_; (first | exact HR6.out | exact World.ownsRow.alloc HR6.out _); (first | exact ct_dw (Blk.new w6 26 d.e.toArray) | exact ct_dw (DW.below HDn.out hb6)); (have := HB6.out.2; simp; omega); intro v7 w7 hr7 hb7; have HD7 : Hid (DW w7 w.heap.size d) := (by first | exact DW.keep HD6.out hb7 HG5.out | exact DW.keep (DW.below HD6.out (below_new _ _)) hb7 HG5.out); have HB7 : Hid (Below w.heap.size w w7) := (by first | exact HB6.out.1.trans (hb7.mono (Nat.le_of_lt HG5.out)) | exact (HB6.out.1.trans ((below_new _ _).mono HB6.out.1.size)).trans (hb7.mono (Nat.le_of_lt HG5.out))); have HZ7 : Hid (Below w5.heap.size w5 w7) := (by first | exact HZ6.out.trans hb7 | exact (HZ6.out.trans ((below_new _ _).mono HZ6.out.size)).trans hb7); have HC7 := hid hr7.cla; obtain ⟨t0, t1, t2, t3, t4, t5, t6, t7⟩ := DW.words HD7.out)
        | (go_simp; go_at_call 10; refine (HLg.out _ _ ?_).mono ?_; exact HC7.out; rintro e w8 ⟨rfl, hb8⟩; have HD8 := hid (DW.below HD7.out hb8); have HB8 := hid (HB7.out.trans (hb8.mono HB7.out.size)); obtain ⟨r0, r1, r2, r3, r4, r5, r6, r7⟩ := DW.words HD8.out))) | fail)
      all_goals (
        have HB8 := HB8
        have HD8 := HD8
        clear HBd HDd HBa HDa HDn HB5 HD5 HG5 HB6 HD6 HB7 HD7 HC7 HR6 HZ6 HZ7 x0 x1 x2 x3 x4 x5 x6 x7 y0 y1 y2 y3 y4 y5 y6 y7 z0 z1 z2 z3 z4 z5 z6 z7 t0 t1 t2 t3 t4 t5 t6 t7 r0 r1 r2 r3 r4 r5 r6 r7 hb8
        go_upto_region 8 with (first
          | (go_at_call 11; refine (HCp.out _ HB8.out).mono ?_; rintro e w1 ⟨vo, rfl, hc1, hb1⟩; have HK := hid (show BzA w w1 l d vo from ⟨HB8.out.trans (hb1.mono HB8.out.size), DW.below HD8.out hb1, hc1.cla⟩); clear hc1 hb1)
          | (go_at_call 12; refine (HBc.out _ _ HK.out.bel HK.out.own).mono ?_; rintro e w2 ⟨Aa, na, ca, rfl, hsa, hb2⟩; have HK2 := hid (And.intro (HK.out.below hb2) hsa); clear hsa hb2)
          | (go_at_call 13; refine (HBr.out _ HK2.out.1.bel).mono ?_; rintro e w3 ⟨Ab, nb, cb, rfl, hsb, hb3⟩; have HK3 := hid (show BzB w w3 l d vo bl (.slice Aa na ca) (.slice Ab nb cb) from ⟨HK2.out.1.below hb3, HK2.out.2.below hb3, hsb⟩); clear hsb hb3))
        obtain ⟨u0, u1, u2, u3, u4, u5, u6, u7⟩ := DW.words HK3.out.a.dw
        go_upto_region 9 with (go_at_call 14; refine (HFc.out _ _ HK3.out.a.bel HK3.out.sb).mono ?_; rintro e w4 ⟨rfl, hb4⟩; have HK4 := hid (HK3.out.below hb4); clear hb4)
        have H4 : Hid (BzB w (w4.alloc (.cells #[.string fx.r, .string fx.f, .string fx.q, .int .i64 fx.t, .int .i64 fx.k, .int .i64 fx.vk, .int .i64 fx.vn, .string fx.s] 26)) l d vo bl (.slice Aa na ca) (.slice Ab nb cb) ∧ DW (w4.alloc (.cells #[.string fx.r, .string fx.f, .string fx.q, .int .i64 fx.t, .int .i64 fx.k, .int .i64 fx.vk, .int .i64 fx.vn, .string fx.s] 26)) w4.heap.size fx) := ⟨HK4.out.below (below_new w4 _), Blk.new w4 _ _⟩
        obtain ⟨W4, hW4⟩ : ∃ W4, w4.alloc (.cells #[.string fx.r, .string fx.f, .string fx.q, .int .i64 fx.t, .int .i64 fx.k, .int .i64 fx.vk, .int .i64 fx.vn, .string fx.s] 26) = W4 := ⟨_, rfl⟩
        obtain ⟨b8, hb8⟩ : ∃ b8, w4.heap.size = b8 := ⟨_, rfl⟩
        rw [hW4, hb8] at H4 ⊢
        clear hW4 hb8 u0 u1 u2 u3 u4 u5 u6 u7 HK HK2 HK3 HK4
        obtain ⟨u0, u1, u2, u3, u4, u5, u6, u7⟩ := DW.words H4.out.1.a.dw
        go_upto_region 10 with (go_at_call 15; refine (HFr.out _ _ H4.out.1.a.bel H4.out.1.sb).mono ?_; rintro e w6 ⟨rfl, hb6⟩; have HK6 := hid (And.intro (H4.out.1.below hb6) (DW.below H4.out.2 hb6)); clear hb6)
        have H6 : Hid (BzC w (w6.alloc (.cells #[.string fx.r, .string fx.f, .string fx.q, .int .i64 fx.t, .int .i64 fx.k, .int .i64 fx.vk, .int .i64 fx.vn, .string fx.s] 26)) l d vo bl (.slice Aa na ca) (.slice Ab nb cb) fx b8 w6.heap.size) := ⟨HK6.out.1.below (below_new w6 _), DW.below HK6.out.2 (below_new w6 _), Blk.new w6 _ _⟩
        obtain ⟨W6, hW6⟩ : ∃ W6, w6.alloc (.cells #[.string fx.r, .string fx.f, .string fx.q, .int .i64 fx.t, .int .i64 fx.k, .int .i64 fx.vk, .int .i64 fx.vn, .string fx.s] 26) = W6 := ⟨_, rfl⟩
        obtain ⟨b9, hb9⟩ : ∃ b9, w6.heap.size = b9 := ⟨_, rfl⟩
        rw [hW6, hb9] at H6 ⊢
        clear hW6 hb9 u0 u1 u2 u3 u4 u5 u6 u7 HK6 H4
        go_upto_region 12 with (first
          | (go_at_call 16; refine (HCc.out _ _ H6.out.b.a.bel H6.out.b.a.own).mono ?_; rintro e w7 ⟨Ap, cp, rfl, hp7, hb7⟩; have HK7 := hid (And.intro (H6.out.below hb7) hp7); clear hp7 hb7)
          | (go_at_call 17; refine (HCr.out _ HK7.out.1.b.a.bel).mono ?_; rintro e w8 ⟨Aq, cq, rfl, hq8, hb8⟩; have HK8 := hid (show BzD w w8 l d vo bl (.slice Aa na ca) (.slice Ab nb cb) fx b8 b9 ps (.slice Ap P cp) (.slice Aq P cq) from ⟨HK7.out.1.below hb8, (by obtain ⟨B, hB⟩ := HK7.out.2; exact ⟨B, hB.below hb8⟩), hq8⟩); clear hq8 hb8))
        have hPP : ((P : Int) != (P : Int)) = false := by simp
        go_upto_region 14 with (first
          | (go_at_call 18; refine (HSb.out _ _ _ HK8.out.c.b.sa HK8.out.c.b.sb).mono ?_; rintro e w9 ⟨rfl, hb9⟩; have HK9 := hid (HK8.out.below hb9); obtain ⟨y0, y1, y2, y3, y4, y5, y6, y7⟩ := DW.words HK9.out.c.x; obtain ⟨z0, z1, z2, z3, z4, z5, z6, z7⟩ := DW.words HK9.out.c.y; clear hb9)
          | (go_at_call 19; refine (HSa.out _ _ HK9.out.c.b.a.bel HK9.out.c.b.a.own).mono ?_; rintro e w10 ⟨rfl, hb10⟩; have HK10 := hid (HK9.out.below hb10); clear hb10))
        go_wp2
        go_loopw [18] (fun vi wr => ∃ i : Nat, i ≤ P ∧ vi = .int .i64 i ∧ Hid (Below w10.heap.size w10 wr)) (fun vi _ => P - (intOf vi).toNat)
        case atStart => exact ⟨0, Nat.zero_le _, rfl, Below.refl _ _⟩
        case round =>
          obtain ⟨i, hi, rfl, HB⟩ := hrel
          have HW := hid (HK10.out.below HB.out)
          by_cases hlt : i < P
          · have hltz : (i : Int) < (P : Int) := by omega
            obtain ⟨x, hx⟩ : ∃ x, ps[i]? = some x := ⟨_, List.getElem?_eq_getElem (by rw [HPl.out]; exact hlt)⟩
            obtain ⟨Bp, hp⟩ := HW.out.p
            obtain ⟨Bq, hq⟩ := HW.out.q
            obtain ⟨gp, A1, c1, e1, p1, p2, p3⟩ := prowd_at hp hx
            obtain ⟨gq, A2, c2, e2, q1, q2, q3⟩ := prowd_at hq hx
            subst e1 e2
            obtain ⟨xl, hxl⟩ : ∃ xl, x.length = xl := ⟨_, rfl⟩
            rw [hxl] at p1 p2 q1 q2
            have HSi := hid (HSx.out wr.drew _ _ x (p2.below (Below.refl _ wr).drew) (q2.below (Below.refl _ wr).drew))
            have d1 : wr.drew.cell? ⟨gp, i, none⟩ = some (.slice A1 xl c1) := p1
            have d2 : wr.drew.cell? ⟨gq, i, none⟩ = some (.slice A2 xl c2) := q1
            clear p2 p3 q2 q3 hp hq hx hxl
            go_upto_region 17 with (fail)
            go_region_law (go_simp; go_at_call 19; refine HSi.out.mono ?_; rintro e w11 ⟨rfl, hb11⟩; have HB11 : Hid (Below wr.heap.size wr w11) := ((Below.refl _ wr).drew.trans hb11))
            all_goals (
              go_wp2
              go_roundw
              case rel => exact ⟨i + 1, by omega, by go_num, HB.out.trans (HB11.out.mono HB.out.size)⟩
              case measure => simp [intOf]; omega)
          · obtain rfl : i = P := by omega
            go_wp2
            go_ret
            exact ⟨rfl, HW.out.c.b.a.bel⟩)
end Go.Proofs.YtfcnobcpnhfgmaaGreatDoor

/- BlockBuilds: every Build, Parse, Find and Cut answers what the document says; cells are left as they were. The row and its tied card. Conditions: none but the card's own (the listed variables of the library are laid by the program's text). -/
namespace Go.Proofs.YtfcnobcpnhfgmaaGreatDoor.blockBuilds
open Go.ChangeShapes Go.WideShapes Go.ChangeAt Go.RowKit

set_option maxRecDepth 100000 in
/-- What the walk gives, for every argument and every world that holds the listed variables. -/
theorem contract (H : Type) (enc : TypeId × Value → H) (W : World) (base : Nat) (args : Array Value) (ds gs : List (DataW H)) (before : List MemPlace)
    (hval : ∀ (j : Nat) t v, Tryz.f3.params[j]? = some t → args[j]? = some v → Value.okWide Tryz.prog W .any base t v)
    (hW : DataW.Whole enc Tryz.prog Tryz.f3.params.toList Rows.blockBuildsSpec.vars false W args.toList ds gs before) (hL : laidMetH Tryz.prog Rows.blockBuildsRow.laid W) (hz : (DataW.weightsEach Tryz.prog (Tryz.f3.params.toList ++ (OpenSpec.ofChange Rows.blockBuildsSpec).bare.plain.varTypes Tryz.prog) (ds ++ gs)).all (· ≤ reachBytes) = true) :
    Calls Tryz.prog 3 args W fun e W' => ∃ v, e = .returned v ∧ Rows.blockBuildsSpec.post enc Tryz.prog Tryz.f3 false true false false W args v W' := by
  have hW' := hW
  obtain ⟨p, q, hA0, hV, rfl, hfz, hnd⟩ := hW
  have hA : DataW.TrodAll enc Tryz.prog W 0 (fun _ => true) true Tryz.f3.params.toList args.toList ds p := hA0
  rw [Tryz.params3] at hA hval hz
  obtain ⟨v0, vs0, d0, ds0, p0, q_0, hargs, rfl, rfl, h0, r_0⟩ := trodAll_cons hA
  obtain ⟨v1, vs1, d1, ds1, p1, q_1, rfl, rfl, rfl, h1, r_1⟩ := trodAll_cons r_0
  obtain ⟨v2, vs2, d2, ds2, p2, q_2, rfl, rfl, rfl, h2, r_2⟩ := trodAll_cons r_1
  obtain ⟨rfl, rfl, rfl⟩ := trodAll_nil r_2
  obtain rfl : args = #[v0, v1, v2] := by cases args; simp_all
  obtain ⟨rfl, rfl⟩ := trodVars_none hV
  obtain ⟨l0, hs0, hv0, hb0⟩ := open_cla2 (hval 0 22 v0 rfl rfl) h0 (fun n hn => of_decide_eq_true (List.all_eq_true.1 hz n (DataW.weights_mem_each (j := 0) (t := 22) (d := d0) rfl rfl n hn)))
  obtain ⟨r1, f1, q1, t1, k1, vk1, vn1, s1, rfl, rfl, rfl, wr1, wf1, wq1, wt1, wk1, wvk1, wn1, ws1⟩ := open_cell (hval 1 26 v1 rfl rfl) h1
  have hr1 : r1.size ≤ 9223372036854775807 := size_of wr1
  have hf1 : f1.size ≤ 9223372036854775807 := size_of wf1
  have hq1 : q1.size ≤ 9223372036854775807 := size_of wq1
  have hs1 : s1.size ≤ 9223372036854775807 := size_of ws1
  obtain ⟨c2, rfl, rfl, rfl, wc2⟩ := open_int Tryz.underlying3 (hval 2 3 v2 rfl rfl) h2
  clear hA0
  simp only [List.append_nil] at hW'
  have hL2 : LaidU W := laid_u (seat_met5 hL)
  have hlt0 : ∀ x ∈ p0, x.block < W.heap.size := fun x hx => by simpa using hW'.lt x (by simp [hx])
  refine (blockbuilds_any v0 l0 ⟨r1, f1, q1, t1, k1, vk1, vn1, s1⟩ c2 W hs0 hb0 hv0 (inI_of_wf2 wn1) hL2).mono fun e W' ⟨he, hg⟩ => ?_
  subst he
  exact ⟨_, rfl, _, _, _, [], (p0 ++ ([] ++ ([] ++ []))), [], hW', trodAll_cons_mk (shut_bool Tryz.underlying4 _) trodAll_mk0, (trodAll_cons_mk (Below.trod laid_out (by kernel_rfl) (of_decide_eq_true (by kernel_rfl)) h0 hg hlt0) (trodAll_cons_mk (shut_cell r1 f1 q1 t1 k1 vk1 vn1 s1 wr1 wf1 wq1 wt1 wk1 wvk1 wn1 ws1 0) (trodAll_cons_mk (shut_int Tryz.underlying3 wc2) trodAll_mk0))), rfl, hg.frame _, fun h => by cases h⟩

theorem reads (os : Os) (H : Type) (enc : TypeId × Value → H) : ∃ places, DataW.whole enc Tryz.prog ((laidWorld5 os).forCall (fun _ _ => 0) ⟨#[], #[.slice none 0 0, .agg #[.string ByteArray.empty, .string ByteArray.empty, .string ByteArray.empty, .int .i64 0, .int .i64 0, .int .i64 0, .int .i64 0, .string ByteArray.empty], .int .i64 0], []⟩).memory Tryz.f3.params.toList Rows.blockBuildsSpec.vars false #[Value.slice none 0 0, Value.agg #[.string ByteArray.empty, .string ByteArray.empty, .string ByteArray.empty, .int .i64 0, .int .i64 0, .int .i64 0, .int .i64 0, .string ByteArray.empty], Value.int .i64 0].toList 12 = some ([.nil, .agg [.lit (.string []), .lit (.string []), .lit (.string []), .lit (.int .i64 0), .lit (.int .i64 0), .agg [.lit (.int .i64 0), .lit (.int .i64 0), .lit (.string [])]], .lit (.int .i64 0)], [], places) :=
  ⟨[], by kernel_rfl⟩

set_option maxRecDepth 100000 in
theorem lifted (os : Os) (started : os.Started) (H : Type) (enc : TypeId × Value → H) (F : Stop.Interp) :
    ReturnsInHanded {} Tryz.checked os 3 .any ((OpenSpec.ofChange Rows.blockBuildsSpec).preRow enc Tryz.prog Tryz.f3 Rows.blockBuildsRow.domain false Rows.blockBuildsRow.laid) (((OpenSpec.ofChange Rows.blockBuildsSpec).at F).post enc Tryz.prog Tryz.f3 false true false false) := by
  obtain ⟨places, hx⟩ := reads os H enc
  refine returnsInHanded_of_row (C := Tryz.checked) (s := OpenSpec.ofChange Rows.blockBuildsSpec) seat_own started (by kernel_rfl) Tryz.func3
    (witness_row_at (enc := enc) (C := Tryz.checked) false (laidWorld5 os) #[.slice none 0 0, .agg #[.string ByteArray.empty, .string ByteArray.empty, .string ByteArray.empty, .int .i64 0, .int .i64 0, .int .i64 0, .int .i64 0, .string ByteArray.empty], .int .i64 0] rfl (by kernel_rfl) (by kernel_rfl) (by kernel_rfl)
      (OpenSpec.preRow_of_cond 12 hx (by kernel_rfl) (fun k hk => by cases hk) (by kernel_rfl) (laid_met5 os _))) ?_
  intro W base args ds gs before hval hW _ _ hz hL _ _
  exact contract H enc W base args ds gs before hval hW hL hz

theorem said : Rows.BlockBuildsSaid :=
  OpenClaim.holds_of_cond 3 Tryz.f3 rfl rfl rfl rfl rfl rfl rfl ⟨rfl, rfl, rfl, rfl, rfl⟩ rfl rfl rfl rfl rfl (by kernel_rfl) Tryz.func3 (by kernel_rfl)
    (of_decide_eq_true (by kernel_rfl)) (by unfold Func.isWrapper; first | (rw [if_pos (by decide +kernel)]; kernel_rfl) | (rw [if_neg (by decide +kernel)]; exact ⟨rfl, rfl⟩))
    (fun os started H enc _ F => by rw [OpenClaim.pre_eq_preRow]; exact lifted os started H enc F)

theorem plain (f : FuncId) (fn : Func) (hf : Tryz.pinned.checked.prog.funcNamed "joist/joistlaw08.BlockBuilds" = some f) (hfn : Tryz.pinned.checked.prog.funcs[f]? = some fn) :
    true = Tryz.pinned.checked.prog.looks [] ∧ ∀ (j : Nat) t, fn.params[j]? = some t → Tryz.pinned.checked.prog.wantsStandIn t = false := by
  obtain rfl : f = 3 := Option.some.inj ((show Tryz.prog.funcNamed "joist/joistlaw08.BlockBuilds" = some 3 by kernel_rfl).symm.trans hf) |>.symm
  obtain rfl : fn = Tryz.f3 := (Option.some.inj (Tryz.func3.symm.trans hfn)).symm
  refine ⟨by kernel_rfl, fun j t ht => ?_⟩
  rw [Tryz.params3] at ht
  have hm := Array.mem_of_getElem? ht
  rcases (show t = 22 ∨ t = 26 ∨ t = 3 by simpa using hm) with rfl | rfl | rfl
  · exact (show Tryz.prog.wantsStandIn 22 = false by kernel_rfl)
  · exact (show Tryz.prog.wantsStandIn 26 = false by kernel_rfl)
  · exact (show Tryz.prog.wantsStandIn 3 = false by kernel_rfl)

/-- THE CARD. -/
theorem card : Rows.BlockBuildsCardSaid :=
  Claim7.holds_tied_plain_at .later [] _ _ _ _ said (fun _ h => by cases h) (by kernel_rfl) (fun _ h => by cases h) blockBuilds_row_tie rfl ⟨rfl, rfl⟩ (by kernel_rfl) rfl plain (by kernel_rfl)
end Go.Proofs.YtfcnobcpnhfgmaaGreatDoor.blockBuilds
namespace Go.Proofs.YtfcnobcpnhfgmaaGreatDoor
theorem blockBuilds_card : Rows.BlockBuildsCardSaid := blockBuilds.card
end Go.Proofs.YtfcnobcpnhfgmaaGreatDoor
