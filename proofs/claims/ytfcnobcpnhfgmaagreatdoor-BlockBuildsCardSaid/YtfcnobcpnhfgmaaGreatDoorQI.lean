/- Several texts in one: EC ED. Conditions: as each theorem names them. -/
import Derived.Test.YtfcnobcpnhfgmaaGreatDoorEA
import Derived.Test.YtfcnobcpnhfgmaaGreatDoorQG
import Derived.Test.YtfcnobcpnhfgmaaGreatDoorQA
import Derived.Deep.RegionHeld3
import Derived.Deep.RegionLawGrows
/- The document's Key of layer 3 at every cell. Conditions: the texts are short, as a law's cells are; the number is of 64 bits. -/
namespace Go.Proofs.YtfcnobcpnhfgmaaGreatDoor
open Go.RowKit

set_option maxHeartbeats 1000000 in
theorem refkey_no (r f q vs : ByteArray) (t k vk : Int) (vn : Int) (hf : f.size ≤ 9223372036854775807) (hv : vs.size ≤ 4000) (w : World) (hr : cRight r.data.toList f.data.toList q.data.toList t k vk vn vs.data.toList = false) :
    Calls Tryz.prog 46 #[cellV r f q t k vk vn vs] w fun e w' => e = .returned (.tuple #[.slice none 0 0, .bool false]) ∧ Below w.heap.size w w' := by
  have HR : Hid (∀ W, Below w.heap.size w W → Calls Tryz.prog 82 #[cellV r f q t k vk vn vs] W fun e w' => e = .returned (.bool false) ∧ Below w.heap.size w w') := fun W hW => by
    have := refcright_any r f q vs t k vk vn hf hv W
    rw [hr] at this
    exact this.mono fun e w' ⟨he, hb⟩ => ⟨he, hW.trans (hb.mono hW.size)⟩
  clear hr hf hv
  go_enter Tryz.func46, Tryz.ntmps46
  go_wp2_with (go_at_call 82; refine (HR.out _ (below_new _ _)).mono ?_; rintro e w1 ⟨rfl, hb⟩)
  go_ret2
  exact ⟨rfl, hb⟩

/-- append of bytes to a row of the call's own, as one step of a region that draws its order. -/
theorem step_append_bytes {ops : Array Oper} {o : Oper} {a : Act} {K : Act → World → Prop} {Q : Exit → Act → World → Prop} {E : Prop} (hgd : o.guard = Option.none) (s x : Operand)
    (ho : o.op = .call { callee := .builtin .append, args := #[s, x], argTypes := #[30, 30] })
    (w : World) (base : Nat) (v : Value) (l : List UInt8) (hs : a.eval s = v) (hown : Row w base v l)
    (ad : Addr) (m c : Nat) (news : List UInt8) (hm : news.length = m) (hx : a.eval x = .slice (some ad) m c) (hnews : ∀ j u, (bc news)[j]? = some u → w.cell? (ad.add j) = some u)
    (hlen : l.length + news.length ≤ 1000000) (hbase : base ≤ w.heap.size)
    (hK : ∀ v' w', Row w' base v' (l ++ news) → Below base w w' → K (a.put o.dst v') w') :
    if Region.wanted o (yielded ops a.tmps) = true then Oper.wp Tryz.prog o a w K Q else E := by
  have hw : Region.wanted o (yielded ops a.tmps) = true := by simp [Region.wanted, hgd]
  rw [if_pos hw]
  obtain ⟨i0, hi, hz0, hz1, hz2⟩ := info_parts info_u8
  subst hm
  obtain ⟨v', w', hrun, r1, r2, _⟩ := run_append_own (P := Tryz.prog) w base 30 o.type 5 i0 (.int .u8 0) 1 1 Tryz.underlying30 hi hz0 hz1 hz2 rfl (by decide) v l.length (bc l) hown ad news.length c (bc news) (by rw [bc_len]; omega) hnews (bc_one _) (by unfold maxLen; omega) (by omega) hbase
  unfold Oper.wp
  simp [execOp, ho, resolve, invoke, builtin, hs, hx, hrun, Result.andThen]
  refine hK v' w' ?_ ((Below.refl _ _).grown r2 hbase fun k hk => (World.ownsRow.lt hown k hk).1)
  unfold Row
  rw [bc_app, List.length_append]
  exact r1

/-- A cell in a block of the call's own. -/
abbrev OneC (w : World) (r f q vs : ByteArray) (t k vk vn : Int) (w' : World) : Prop :=
  Hid (Below w.heap.size w w' ∧ w.heap.size < w'.heap.size) ∧ w'.cell? ⟨w.heap.size, 0, none⟩ = some (.string r) ∧ w'.cell? ⟨w.heap.size, 1, none⟩ = some (.string f) ∧ w'.cell? ⟨w.heap.size, 2, none⟩ = some (.string q) ∧ w'.cell? ⟨w.heap.size, 3, none⟩ = some (.int .i64 t) ∧ w'.cell? ⟨w.heap.size, 4, none⟩ = some (.int .i64 k) ∧ w'.cell? ⟨w.heap.size, 5, none⟩ = some (.int .i64 vk) ∧ w'.cell? ⟨w.heap.size, 6, none⟩ = some (.int .i64 vn) ∧ w'.cell? ⟨w.heap.size, 7, none⟩ = some (.string vs)
theorem onec_to {w W W' : World} {r f q vs : ByteArray} {t k vk vn : Int} {B : Nat} (h : OneC w r f q vs t k vk vn W) (hb : Below B W W') (hB : w.heap.size < B) : OneC w r f q vs t k vk vn W' := by
  obtain ⟨hh, a0, a1, a2, a3, a4, a5, a6, a7⟩ := h
  obtain ⟨hbw, hz⟩ := hh.out
  have hc : ∀ o, W'.cell? ⟨w.heap.size, o, none⟩ = W.cell? ⟨w.heap.size, o, none⟩ := fun o => hb.cell (p := ⟨w.heap.size, o, none⟩) (show w.heap.size < B by omega)
  refine ⟨hid ⟨hbw.trans (hb.mono (by omega)), Nat.lt_of_lt_of_le hz hb.size⟩, ?_, ?_, ?_, ?_, ?_, ?_, ?_, ?_⟩ <;> (rw [hc]; assumption)
theorem onec_call {w W W' : World} {r f q vs : ByteArray} {t k vk vn : Int} (h : OneC w r f q vs t k vk vn W) (hb : Below W.heap.size W W') : OneC w r f q vs t k vk vn W' := onec_to h hb h.1.out.2
theorem onec_drew {w W : World} {r f q vs : ByteArray} {t k vk vn : Int} (h : OneC w r f q vs t k vk vn W) : OneC w r f q vs t k vk vn W.drew := by
  obtain ⟨hh, h⟩ := h
  exact ⟨hid ⟨hh.out.1.drew, hh.out.2⟩, h⟩
theorem escaped_at (s : ByteArray) (hs : s.size ≤ 1000) (W : World) :
    Calls Tryz.prog 105 #[.string s] W fun e w' => ∃ g c, e = .returned (.slice (some ⟨g, 0, none⟩) (esc s.data.toList ++ [0, 1]).length c) ∧ (Row w' W.heap.size (.slice (some ⟨g, 0, none⟩) (esc s.data.toList ++ [0, 1]).length c) (esc s.data.toList ++ [0, 1]) ∧ g < w'.heap.size ∧ ∀ j u, (bc (esc s.data.toList ++ [0, 1]))[j]? = some u → w'.cell? ((⟨g, 0, none⟩ : Addr).add j) = some u) ∧ Below W.heap.size W w' := by
  refine (refEscaped_any s (by omega) W).mono fun e w' ⟨v, he, hR, hb⟩ => ?_
  obtain ⟨g, c, rfl, hg, hc⟩ := row_write hR (by simp)
  exact ⟨g, c, he, ⟨hR, hR.block_lt g rfl, hc⟩, hb⟩

theorem lit_cells (l : List UInt8) (W : World) : ∀ j u, (bc l)[j]? = some u → (W.alloc (.cells (bc l).toArray 5)).cell? ((⟨W.heap.size, 0, none⟩ : Addr).add j) = some u := blk_cells (Blk.new W 5 _)
theorem byte_cell (k : Int) (hk : 0 ≤ k ∧ k < 256) (W : World) : ∀ j u, (bc [UInt8.ofNat k.toNat])[j]? = some u → (W.alloc (.cells #[.int .u8 k] 5)).cell? ((⟨W.heap.size, 0, none⟩ : Addr).add j) = some u := by
  have h := lit_cells [UInt8.ofNat k.toNat] W
  have e : (bc [UInt8.ofNat k.toNat]).toArray = #[.int .u8 k] := by
    have : (((UInt8.ofNat k.toNat).toNat : Nat) : Int) = k := by rw [UInt8.toNat_ofNat']; omega
    simp only [bc, List.map_cons, List.map_nil, this]
  rwa [e] at h

set_option maxRecDepth 100000 in
set_option maxHeartbeats 4000000 in
theorem refkey_yes (r f q vs : ByteArray) (t k vk : Int) (vn : Int) (hr0 : r.size ≤ 1000) (hf0 : f.size ≤ 1000) (hq0 : q.size ≤ 1000) (hv : vs.size ≤ 4000) (w : World) (hr : cRight r.data.toList f.data.toList q.data.toList t k vk vn vs.data.toList = true) :
    Calls Tryz.prog 46 #[cellV r f q t k vk vn vs] w fun e w' => ∃ v, e = .returned (.tuple #[v, .bool true]) ∧ Row w' w.heap.size v (keyM r.data.toList f.data.toList q.data.toList t k) ∧ Below w.heap.size w w' := by
  have HR : Hid (∀ W, Calls Tryz.prog 82 #[cellV r f q t k vk vn vs] W fun e w' => e = .returned (.bool true) ∧ Below W.heap.size W w') := fun W => by
    have := refcright_any r f q vs t k vk vn (by omega) hv W
    rwa [hr] at this
  have HEr := hid (escaped_at r hr0)
  have HEf := hid (escaped_at f hf0)
  have HEq := hid (escaped_at q hq0)
  have Hr2 : Hid ((esc r.data.toList ++ [0, 1]).length ≤ 2002) := by have h1 := esc_len r.data.toList; have h2 : r.data.toList.length = r.size := (by simp); unfold Hid; rw [List.length_append]; simp only [List.length_cons, List.length_nil]; omega
  have Hf2 : Hid ((esc f.data.toList ++ [0, 1]).length ≤ 2002) := by have h1 := esc_len f.data.toList; have h2 : f.data.toList.length = f.size := (by simp); unfold Hid; rw [List.length_append]; simp only [List.length_cons, List.length_nil]; omega
  have Hq2 : Hid ((esc q.data.toList ++ [0, 1]).length ≤ 2002) := by have h1 := esc_len q.data.toList; have h2 : q.data.toList.length = q.size := (by simp); unfold Hid; rw [List.length_append]; simp only [List.length_cons, List.length_nil]; omega
  have HKM : Hid (keyM r.data.toList f.data.toList q.data.toList t k = (esc r.data.toList ++ [0, 1]) ++ ((esc f.data.toList ++ [0, 1]) ++ ((if k = 4 then [0, 0] else esc q.data.toList ++ [0, 1]) ++ tailM t k))) := by unfold Hid keyM midM; simp only [List.append_assoc]
  generalize esc r.data.toList ++ [0, 1] = lr at *
  generalize esc f.data.toList ++ [0, 1] = lf at *
  generalize esc q.data.toList ++ [0, 1] = lq at *
  clear hr0 hf0 hq0 hv
  obtain ⟨-, -, -, -, -, ht0, ht1, hk0, hk9, -, -, -⟩ := cright_parts hr
  have HK1 := hid (byte_cell (255 - k) (by omega))
  have hx : IntKind.u64.wrap (9223372036854775807 - IntKind.u64.wrap t) = ((9223372036854775807 - t).toNat : Int) := by
    rw [IntKind.wrap_u64, IntKind.wrap_u64]; omega
  have e12 : IntKind.i64.wrap (255 - k) = 255 - k := by rw [IntKind.wrap_i64]; omega
  have e13 : IntKind.u8.wrap (255 - k) = 255 - k := by rw [IntKind.wrap_u8]; omega
  have HTL : Hid (tailM t k = byW 8 (9223372036854775807 - t).toNat ++ [UInt8.ofNat (255 - k).toNat]) := rfl
  obtain ⟨u, hu⟩ : ∃ u : Nat, (9223372036854775807 - t).toNat = u := ⟨_, rfl⟩
  have hu64 : u < 18446744073709551616 := by omega
  rw [hu] at hx HTL
  have HE8 : Hid (∀ W, Calls Tryz.prog 68 #[.int .u64 (u : Int)] W fun e w' => e = .returned (.slice (some ⟨W.heap.size, 0, none⟩) 8 8) ∧ (∀ j x, (bc (byW 8 u))[j]? = some x → w'.cell? ((⟨W.heap.size, 0, none⟩ : Addr).add j) = some x) ∧ Below W.heap.size W w') := fun W =>
    (eight_any u hu64 W).mono fun e w' ⟨he, hB, hb⟩ => ⟨he, blk_cells hB, hb⟩
  have HL8 : Hid ((byW 8 u).length = 8) := byW_len _ _
  generalize byW 8 u = l8 at *
  clear hu hu64 ht0 ht1 hk0 hk9 hr
  have HB1 : Hid (∀ W1 : World, Below (w.alloc (.cells #[.string r, .string f, .string q, .int .i64 t, .int .i64 k, .int .i64 vk, .int .i64 vn, .string vs] 26)).heap.size (w.alloc (.cells #[.string r, .string f, .string q, .int .i64 t, .int .i64 k, .int .i64 vk, .int .i64 vn, .string vs] 26)) W1 → OneC w r f q vs t k vk vn W1) := fun W1 hb => by
    have hz : w.heap.size < W1.heap.size := Nat.lt_of_lt_of_le (by simp) hb.size
    have B1 : Blk W1 w.heap.size 26 #[.string r, .string f, .string q, .int .i64 t, .int .i64 k, .int .i64 vk, .int .i64 vn, .string vs] := (Blk.new w _ _).keep hb (by simp)
    exact ⟨hid ⟨(below_new _ _).trans (hb.mono (by simp)), hz⟩, B1.cell 0, B1.cell 1, B1.cell 2, B1.cell 3, B1.cell 4, B1.cell 5, B1.cell 6, B1.cell 7⟩
  go_enter Tryz.func46, Tryz.ntmps46
  go_upto_region 3 with (go_at_call 82; refine (HR.out _).mono ?_; rintro e W ⟨rfl, hb⟩)
  have HT := hid (HB1.out _ hb)
  clear HB1 hb HR
  obtain ⟨h0, g0, g1, g2, g3, g4, g5, g6, g7⟩ := HT.out
  go_region_held3 (fun W' => Hid (Below w.heap.size w W' ∧ w.heap.size < W'.heap.size) ∧ W'.cell? ⟨w.heap.size, 0, none⟩ = some (.string r) ∧ W'.cell? ⟨w.heap.size, 1, none⟩ = some (.string f) ∧ W'.cell? ⟨w.heap.size, 2, none⟩ = some (.string q) ∧ W'.cell? ⟨w.heap.size, 3, none⟩ = some (.int .i64 t) ∧ W'.cell? ⟨w.heap.size, 4, none⟩ = some (.int .i64 k) ∧ W'.cell? ⟨w.heap.size, 5, none⟩ = some (.int .i64 vk) ∧ W'.cell? ⟨w.heap.size, 6, none⟩ = some (.int .i64 vn) ∧ W'.cell? ⟨w.heap.size, 7, none⟩ = some (.string vs))
    (first | exact HT.out | exact onec_drew HT.out | exact onec_call (by assumption) hb1 | exact onec_call (by assumption) hb2 | exact onec_to (by assumption) hb4 (Nat.lt_succ_self _) | exact onec_drew (by assumption) | assumption)
    (first
      | (go_at_call 105; (with_reducible refine (HEr.out _).mono ?_); rintro e w5 ⟨p1, c1, rfl, hR1, hb1⟩)
      | (go_at_call 105; (with_reducible refine (HEf.out _).mono ?_); rintro e w6 ⟨p2, c2, rfl, hR2, hb2⟩)
      | (refine step_append_bytes rfl (.tmp 10) (.tmp 13) rfl _ (w.heap.size + 1) (.slice (some ⟨p1, 0, none⟩) lr.length c1) lr rfl ((hR1.1.keep hb2 (fun g hg => by simp [Value.ownBlock] at hg; have := hR1.2.1; omega)).le h0.out.2) ⟨p2, 0, none⟩ lf.length c2 lf rfl rfl hR2.2.2 (by have := Hr2.out; have := Hf2.out; omega) (by have h1 := h0.out.2; have h2 := hb1.size; have h3 := hb2.size; simp at *; omega) ?_; intro v2 w7 hR3 hb4))
  rename_i hLast
  have HL := hid hLast
  have HRw := hid hR3
  clear hLast hR3 hR1 hR2 hb1 hb2 hb4 HT h0 g0 g1 g2 g3 g4 g5 g6 g7 HEr HEf
  obtain ⟨h0, -, -, g2, g3, g4, -, -, -⟩ := HL.out
  by_cases hk4 : k = 4
  · have q0 : (k == 4) = true := by simpa using hk4
    have HK4 := hid hk4
    clear hk4
    have HC0 : Hid (∀ j u, (bc [0, 0])[j]? = some u → (w7.alloc (.cells #[.int .u8 0, .int .u8 0] 5)).cell? ((⟨w7.heap.size, 0, none⟩ : Addr).add j) = some u) := lit_cells [0, 0] w7
    clear g2 g3 HEq
    go_wp2_with (first
    | (at_builtin; refine wpList_append_bytes rfl (.tmp 18) (.tmp 19) rfl _ (w.heap.size + 1) v2 (lr ++ lf) rfl (HRw.out.alloc _) ⟨w7.heap.size, 0, none⟩ 2 2 [0, 0] rfl rfl HC0.out (by have := Hr2.out; have := Hf2.out; simp only [List.length_append, List.length_cons, List.length_nil]; omega) (by have h1 := h0.out.2; simp; omega) ?_; intro v3 w8 hR4 hb5; have h8 := onec_to (onec_call HL.out (below_new _ _)) hb5 (Nat.lt_succ_self _); have g3' : w8.cell? ⟨w.heap.size, 3, none⟩ = some (.int .i64 t) := h8.2.2.2.2.1)
    | (go_at_call 68; refine (HE8.out _).mono ?_; rintro e w9 ⟨rfl, hB8, hb6⟩)
    | (at_builtin; refine wpList_append_bytes rfl (.tmp 26) (.tmp 31) rfl _ (w.heap.size + 1) v3 _ rfl (hR4.keep hb6 hR4.block_lt) ⟨w8.heap.size, 0, none⟩ 8 8 l8 HL8.out rfl hB8 (by have := Hr2.out; have := Hf2.out; have := Hq2.out; have := HL8.out; simp only [List.length_append, List.length_cons, List.length_nil]; omega) (by have h1 := h8.1.out.2; have h2 := hb6.size; omega) ?_; intro v4 w10 hR5 hb7; have h10 := onec_to (onec_call h8 hb6) hb7 (Nat.lt_succ_self _); have g4' : w10.cell? ⟨w.heap.size, 4, none⟩ = some (.int .i64 k) := h10.2.2.2.2.2.1)
    | (at_builtin; refine wpList_append_bytes rfl (.tmp 33) (.tmp 38) rfl _ (w.heap.size + 1) v4 _ rfl (hR5.alloc _) ⟨w10.heap.size, 0, none⟩ 1 1 [UInt8.ofNat (255 - k).toNat] rfl rfl (HK1.out w10) (by have := Hr2.out; have := Hf2.out; have := Hq2.out; have := HL8.out; simp only [List.length_append, List.length_cons, List.length_nil]; omega) (by have h1 := h10.1.out.2; simp; omega) ?_; intro v5 w11 hR6 hb8; have h11 := onec_to (onec_call h10 (below_new _ _)) hb8 (Nat.lt_succ_self _)))
    go_ret2
    refine ⟨_, rfl, ?_, h11.1.out.1⟩
    rw [HKM.out, if_pos HK4.out, HTL.out]
    have := hR6.le (Nat.le_succ w.heap.size)
    show Row w11 w.heap.size v5 _
    simpa only [List.append_assoc] using this
  · have q0 : (k == 4) = false := by simpa using hk4
    clear g3
    go_wp2_with (first
    | (go_at_call 105; refine (HEq.out _).mono ?_; rintro e w6 ⟨p3, c3, rfl, hR3, hb3⟩)
    | (at_builtin; refine wpList_append_bytes rfl (.tmp 21) (.tmp 24) rfl _ (w.heap.size + 1) v2 (lr ++ lf) rfl (HRw.out.keep hb3 HRw.out.block_lt) ⟨p3, 0, none⟩ lq.length c3 lq rfl rfl hR3.2.2 (by have := Hr2.out; have := Hf2.out; have := Hq2.out; simp only [List.length_append]; omega) (by have h1 := h0.out.2; have h2 := hb3.size; omega) ?_; intro v3 w8 hR4 hb5; have h8 := onec_to (onec_call HL.out hb3) hb5 (Nat.lt_succ_self _); have g3' : w8.cell? ⟨w.heap.size, 3, none⟩ = some (.int .i64 t) := h8.2.2.2.2.1)
    | (go_at_call 68; refine (HE8.out _).mono ?_; rintro e w9 ⟨rfl, hB8, hb6⟩)
    | (at_builtin; refine wpList_append_bytes rfl (.tmp 26) (.tmp 31) rfl _ (w.heap.size + 1) v3 _ rfl (hR4.keep hb6 hR4.block_lt) ⟨w8.heap.size, 0, none⟩ 8 8 l8 HL8.out rfl hB8 (by have := Hr2.out; have := Hf2.out; have := Hq2.out; have := HL8.out; simp only [List.length_append]; omega) (by have h1 := h8.1.out.2; have h2 := hb6.size; omega) ?_; intro v4 w10 hR5 hb7; have h10 := onec_to (onec_call h8 hb6) hb7 (Nat.lt_succ_self _); have g4' : w10.cell? ⟨w.heap.size, 4, none⟩ = some (.int .i64 k) := h10.2.2.2.2.2.1)
    | (at_builtin; refine wpList_append_bytes rfl (.tmp 33) (.tmp 38) rfl _ (w.heap.size + 1) v4 _ rfl (hR5.alloc _) ⟨w10.heap.size, 0, none⟩ 1 1 [UInt8.ofNat (255 - k).toNat] rfl rfl (HK1.out w10) (by have := Hr2.out; have := Hf2.out; have := Hq2.out; have := HL8.out; simp only [List.length_append, List.length_cons, List.length_nil]; omega) (by have h1 := h10.1.out.2; simp; omega) ?_; intro v5 w11 hR6 hb8; have h11 := onec_to (onec_call h10 (below_new _ _)) hb8 (Nat.lt_succ_self _)))
    go_ret2
    refine ⟨_, rfl, ?_, h11.1.out.1⟩
    rw [HKM.out, if_neg hk4, HTL.out]
    have := hR6.le (Nat.le_succ w.heap.size)
    show Row w11 w.heap.size v5 _
    simpa only [List.append_assoc] using this
end Go.Proofs.YtfcnobcpnhfgmaaGreatDoor

/- The document's Encode of layer 3 at every cell. Conditions: the texts are short, as a law's cells are; the number is of 64 bits. -/
namespace Go.Proofs.YtfcnobcpnhfgmaaGreatDoor
open Go.RowKit

set_option maxRecDepth 100000 in
set_option maxHeartbeats 4000000 in
theorem refenc_no (r f q vs : ByteArray) (t k vk : Int) (vn : Int) (hf : f.size ≤ 9223372036854775807) (hv : vs.size ≤ 4000) (w : World) (hr : cRight r.data.toList f.data.toList q.data.toList t k vk vn vs.data.toList = false) :
    Calls Tryz.prog 53 #[cellV r f q t k vk vn vs] w fun e w' => e = .returned (.tuple #[.slice none 0 0, .bool false]) ∧ Below w.heap.size w w' := by
  have HK : Hid (∀ W, Below w.heap.size w W → Calls Tryz.prog 46 #[cellV r f q t k vk vn vs] W fun e w' => e = .returned (.tuple #[.slice none 0 0, .bool false]) ∧ Below w.heap.size w w') := fun W hW =>
    (refkey_no r f q vs t k vk vn hf hv W hr).mono fun e w' ⟨he, hb⟩ => ⟨he, hW.trans (hb.mono hW.size)⟩
  clear hr hf hv
  go_enter Tryz.func53, Tryz.ntmps53
  go_wp2_with (go_at_call 46; refine (HK.out _ (below_new _ _)).mono ?_; rintro e w1 ⟨rfl, hb⟩)
  go_ret2
  exact ⟨rfl, hb⟩

set_option maxRecDepth 100000 in
set_option maxHeartbeats 4000000 in
theorem refenc_yes (r f q vs : ByteArray) (t k vk : Int) {vn : Int} (hn : inI vn) (hr0 : r.size ≤ 1000) (hf0 : f.size ≤ 1000) (hq0 : q.size ≤ 1000) (hv : vs.size ≤ 4000) (w : World) (hr : cRight r.data.toList f.data.toList q.data.toList t k vk vn vs.data.toList = true) :
    Calls Tryz.prog 53 #[cellV r f q t k vk vn vs] w fun e w' => ∃ v, e = .returned (.tuple #[v, .bool true]) ∧ Row w' w.heap.size v (cEnc r.data.toList f.data.toList q.data.toList t k vk vn vs.data.toList) ∧ Below w.heap.size w w' := by
  have HB1 : Hid (∀ W1 : World, Below (w.alloc (.cells #[.string r, .string f, .string q, .int .i64 t, .int .i64 k, .int .i64 vk, .int .i64 vn, .string vs] 26)).heap.size (w.alloc (.cells #[.string r, .string f, .string q, .int .i64 t, .int .i64 k, .int .i64 vk, .int .i64 vn, .string vs] 26)) W1 → OneC w r f q vs t k vk vn W1) := fun W1 hb => by
    have hz : w.heap.size < W1.heap.size := Nat.lt_of_lt_of_le (by simp) hb.size
    have B1 : Blk W1 w.heap.size 26 #[.string r, .string f, .string q, .int .i64 t, .int .i64 k, .int .i64 vk, .int .i64 vn, .string vs] := (Blk.new w _ _).keep hb (by simp)
    exact ⟨hid ⟨(below_new _ _).trans (hb.mono (by simp)), hz⟩, B1.cell 0, B1.cell 1, B1.cell 2, B1.cell 3, B1.cell 4, B1.cell 5, B1.cell 6, B1.cell 7⟩
  have HK : Hid (∀ W, Calls Tryz.prog 46 #[cellV r f q t k vk vn vs] W fun e w' => ∃ v, e = .returned (.tuple #[v, .bool true]) ∧ Row w' W.heap.size v (keyM r.data.toList f.data.toList q.data.toList t k) ∧ Below W.heap.size W w') := fun W => refkey_yes r f q vs t k vk vn hr0 hf0 hq0 hv W hr
  have hlen : (keyM r.data.toList f.data.toList q.data.toList t k).length ≤ 7000 := by
    have h1 := esc_len r.data.toList; have h2 : r.data.toList.length = r.size := (by simp)
    have h3 := esc_len f.data.toList; have h4 : f.data.toList.length = f.size := (by simp)
    have h5 := esc_len q.data.toList; have h6 : q.data.toList.length = q.size := (by simp)
    unfold keyM midM
    split <;> (simp only [List.length_append, List.length_cons, List.length_nil, tail_len]; omega)
  obtain ⟨-, -, -, -, -, -, -, -, -, -, hvr, -⟩ := cright_parts hr
  unfold cEnc
  generalize keyM r.data.toList f.data.toList q.data.toList t k = lk at *
  have HLK := hid hlen
  clear hlen hr
  by_cases h1 : k = 1
  · have q0 : (k == 1) = true := by simpa using h1
    rw [if_pos h1]
    have hvr := hvr h1
    have HE : Hid (∀ W, Calls Tryz.prog 47 #[.agg #[.int .i64 vk, .int .i64 vn, .string vs]] W fun e w' => ∃ g c, e = .returned (.tuple #[.slice (some ⟨g, 0, none⟩) (vEnc vk vn vs.data.toList).length c, .bool true]) ∧ (∀ j u, (bc (vEnc vk vn vs.data.toList))[j]? = some u → w'.cell? ((⟨g, 0, none⟩ : Addr).add j) = some u) ∧ Below W.heap.size W w') := fun W => by
      refine (refEncode_yes vk hn vs hv hvr W).mono fun e w' ⟨v, he, hR, hb⟩ => ?_
      obtain ⟨g, c, rfl, hg, hc⟩ := row_write hR (by have := enc_two hvr; omega)
      exact ⟨g, c, he, hc, hb⟩
    have HLE : Hid ((vEnc vk vn vs.data.toList).length ≤ 10000) := by
      unfold Hid vEnc vBody
      have h1 := esc_len vs.data.toList; have h2 : vs.data.toList.length = vs.size := (by simp)
      simp only [List.length_cons]
      repeat' split
      all_goals (simp only [List.length_append, List.length_cons, List.length_nil, byW_len]; omega)
    generalize vEnc vk vn vs.data.toList = le at *
    have H1 := hid h1
    clear h1 hr0 hf0 hq0 hv hvr hn
    go_enter Tryz.func53, Tryz.ntmps53
    go_wp2_with (first
      | (go_at_call 46; refine (HK.out _).mono ?_; rintro e w1 ⟨v, rfl, hR, hb⟩; have h1 := HB1.out _ hb; have h0 := h1.1; have g4 : w1.cell? ⟨w.heap.size, 4, none⟩ = some (.int .i64 k) := h1.2.2.2.2.2.1; have g5 : w1.cell? ⟨w.heap.size, 5, none⟩ = some (.int .i64 vk) := h1.2.2.2.2.2.2.1; have g6 : w1.cell? ⟨w.heap.size, 6, none⟩ = some (.int .i64 vn) := h1.2.2.2.2.2.2.2.1; have g7 : w1.cell? ⟨w.heap.size, 7, none⟩ = some (.string vs) := h1.2.2.2.2.2.2.2.2)
      | (go_at_call 47; refine (HE.out _).mono ?_; rintro e w2 ⟨p2, c2, rfl, hR2, hb2⟩)
      | (at_builtin; refine wpList_append_bytes rfl (.tmp 25) (.tmp 26) rfl _ (w.heap.size + 1) v lk rfl ((hR.le (by simp)).keep hb2 hR.block_lt) ⟨p2, 0, none⟩ le.length c2 le rfl rfl hR2 (by have := HLK.out; have := HLE.out; omega) (by have h1 := h0.out.2; have h2 := hb2.size; omega) ?_; intro v3 w3 hR3 hb3; have h9 := onec_to (onec_call h1 hb2) hb3 (Nat.lt_succ_self _)))
    go_ret2
    exact ⟨_, rfl, hR3.le (Nat.le_succ _), h9.1.out.1⟩
  · have q0 : (k == 1) = false := by simpa using h1
    rw [if_neg h1, List.append_nil]
    have H1 := hid h1
    clear h1 hr0 hf0 hq0 hv hvr hn
    go_enter Tryz.func53, Tryz.ntmps53
    go_wp2_with (go_at_call 46; refine (HK.out _).mono ?_; rintro e w1 ⟨v, rfl, hR, hb⟩; have h1 := HB1.out _ hb; have g4 : w1.cell? ⟨w.heap.size, 4, none⟩ = some (.int .i64 k) := h1.2.2.2.2.2.1)
    go_ret2
    exact ⟨_, rfl, hR.le (by simp), h1.1.out.1⟩
end Go.Proofs.YtfcnobcpnhfgmaaGreatDoor
