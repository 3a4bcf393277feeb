/- Several texts in one: EC ED YT RBa EB II YUa IK YV YW. Conditions: as each theorem names them. -/
import Derived.Test.YtdjaofbjmnmlbaaDoorMYQRH
import Derived.Test.YtdjaofbjmnmlbaaDoorMCGHM
import Derived.Deep.RegionHeld3
import Derived.Deep.RegionLawGrows
import Derived.Test.YtdjaofbjmnmlbaaDoorVJ
import Derived.Deep.QuietTactic
import Derived.BigQuiet
import Derived.Test.YtdjaofbjmnmlbaaDoorCE
import Derived.Test.YtdjaofbjmnmlbaaDoorMIAYP
import Derived.Test.YtdjaofbjmnmlbaaDoorMHFYA
import Derived.Deep.RegionWith
/- The document's Key of layer 3 at every cell. Conditions: the texts are short, as a law's cells are; the number is of 64 bits. -/
namespace Go.Proofs.YtdjaofbjmnmlbaaDoor
open Go.RowKit

set_option maxHeartbeats 1000000 in
theorem refkey_no (r f q vs : ByteArray) (t k vk : Int) (vn : Int) (hf : f.size ≤ 9223372036854775807) (hv : vs.size ≤ 4000) (w : World) (hr : cRight r.data.toList f.data.toList q.data.toList t k vk vn vs.data.toList = false) :
    Calls Tryd.prog 97 #[cellV r f q t k vk vn vs] w fun e w' => e = .returned (.tuple #[.slice none 0 0, .bool false]) ∧ Below w.heap.size w w' := by
  have HR : Hid (∀ W, Below w.heap.size w W → Calls Tryd.prog 26 #[cellV r f q t k vk vn vs] W fun e w' => e = .returned (.bool false) ∧ Below w.heap.size w w') := fun W hW => by
    have := refcright_any r f q vs t k vk vn hf hv W
    rw [hr] at this
    exact this.mono fun e w' ⟨he, hb⟩ => ⟨he, hW.trans (hb.mono hW.size)⟩
  clear hr hf hv
  go_enter Tryd.func97, Tryd.ntmps97
  go_wp2_with (go_at_call 26; refine (HR.out _ (below_new _ _)).mono ?_; rintro e w1 ⟨rfl, hb⟩)
  go_ret2
  exact ⟨rfl, hb⟩

/-- append of bytes to a row of the call's own, as one step of a region that draws its order. -/
theorem step_append_bytes {ops : Array Oper} {o : Oper} {a : Act} {K : Act → World → Prop} {Q : Exit → Act → World → Prop} {E : Prop} (hgd : o.guard = Option.none) (s x : Operand)
    (ho : o.op = .call { callee := .builtin .append, args := #[s, x], argTypes := #[22, 22] })
    (w : World) (base : Nat) (v : Value) (l : List UInt8) (hs : a.eval s = v) (hown : Row w base v l)
    (ad : Addr) (m c : Nat) (news : List UInt8) (hm : news.length = m) (hx : a.eval x = .slice (some ad) m c) (hnews : ∀ j u, (bc news)[j]? = some u → w.cell? (ad.add j) = some u)
    (hlen : l.length + news.length ≤ 1000000) (hbase : base ≤ w.heap.size)
    (hK : ∀ v' w', Row w' base v' (l ++ news) → Below base w w' → K (a.put o.dst v') w') :
    if Region.wanted o (yielded ops a.tmps) = true then Oper.wp Tryd.prog o a w K Q else E := by
  have hw : Region.wanted o (yielded ops a.tmps) = true := by simp [Region.wanted, hgd]
  rw [if_pos hw]
  obtain ⟨i0, hi, hz0, hz1, hz2⟩ := info_parts info_u8
  subst hm
  obtain ⟨v', w', hrun, r1, r2, _⟩ := run_append_own (P := Tryd.prog) w base 22 o.type 5 i0 (.int .u8 0) 1 1 Tryd.underlying22 hi hz0 hz1 hz2 rfl (by decide) v l.length (bc l) hown ad news.length c (bc news) (by rw [bc_len]; omega) hnews (bc_one _) (by unfold maxLen; omega) (by omega) hbase
  unfold Oper.wp
  simp [execOp, ho, resolve, invoke, builtin, hs, hx, hrun, Result.andThen]
  refine hK v' w' ?_ ((Below.refl _ _).grown r2 hbase fun k hk => (World.ownsRow.lt hown k hk).1)
  unfold Row
  rw [bc_app, List.length_append]
  exact r1

/-- A cell in a block of the call's own. -/
abbrev OneC (w : World) (r f q vs : ByteArray) (t k vk vn : Int) (w' : World) : Prop :=
  Hid (Below w.heap.size w w' ∧ w.heap.size < w'.heap.size) ∧ w'.cell? ⟨w.heap.size, 0, none⟩ = some (.string r) ∧ w'.cell? ⟨w.heap.size, 1, none⟩ = some (.string f) ∧ w'.cell? ⟨w.heap.size, 2, none⟩ = some (.string q) ∧ w'.cell? ⟨w.heap.size, 3, none⟩ = some (.int .i64 t) ∧ w'.cell? ⟨w.heap.size, 4, none⟩ = some (.int .i64 k) ∧ w'.cell? ⟨w.heap.size, 5, none⟩ = some (.int .i64 vk) ∧ w'.cell? ⟨w.heap.size, 6, none⟩ = some (.int .i64 vn) ∧ w'.cell? ⟨w.heap.size, 7, none⟩ = some (.string vs)
theorem onec_to {w W W' : World} {r f q vs : ByteArray} {t k vk vn : Int} {B : Nat} (h : OneC w r f q vs t k vk vn W) (hb : Below B W W') (hB : w.heap.size < B) : OneC w r f q vs t k vk vn W' := by
  obtain ⟨hh, a0, a1, a2, a3, a4, a5, a6, a7⟩ := h
  obtain ⟨hbw, hz⟩ := hh.out
  have hc : ∀ o, W'.cell? ⟨w.heap.size, o, none⟩ = W.cell? ⟨w.heap.size, o, none⟩ := fun o => hb.cell (p := ⟨w.heap.size, o, none⟩) (show w.heap.size < B by omega)
  refine ⟨hid ⟨hbw.trans (hb.mono (by omega)), Nat.lt_of_lt_of_le hz hb.size⟩, ?_, ?_, ?_, ?_, ?_, ?_, ?_, ?_⟩ <;> (rw [hc]; assumption)
theorem onec_call {w W W' : World} {r f q vs : ByteArray} {t k vk vn : Int} (h : OneC w r f q vs t k vk vn W) (hb : Below W.heap.size W W') : OneC w r f q vs t k vk vn W' := onec_to h hb h.1.out.2
theorem onec_drew {w W : World} {r f q vs : ByteArray} {t k vk vn : Int} (h : OneC w r f q vs t k vk vn W) : OneC w r f q vs t k vk vn W.drew := by
  obtain ⟨hh, h⟩ := h
  exact ⟨hid ⟨hh.out.1.drew, hh.out.2⟩, h⟩
theorem escaped_at (s : ByteArray) (hs : s.size ≤ 1000) (W : World) :
    Calls Tryd.prog 138 #[.string s] W fun e w' => ∃ g c, e = .returned (.slice (some ⟨g, 0, none⟩) (esc s.data.toList ++ [0, 1]).length c) ∧ (Row w' W.heap.size (.slice (some ⟨g, 0, none⟩) (esc s.data.toList ++ [0, 1]).length c) (esc s.data.toList ++ [0, 1]) ∧ g < w'.heap.size ∧ ∀ j u, (bc (esc s.data.toList ++ [0, 1]))[j]? = some u → w'.cell? ((⟨g, 0, none⟩ : Addr).add j) = some u) ∧ Below W.heap.size W w' := by
  refine (refEscaped_any s (by omega) W).mono fun e w' ⟨v, he, hR, hb⟩ => ?_
  obtain ⟨g, c, rfl, hg, hc⟩ := row_write hR (by simp)
  exact ⟨g, c, he, ⟨hR, hR.block_lt g rfl, hc⟩, hb⟩

theorem lit_cells (l : List UInt8) (W : World) : ∀ j u, (bc l)[j]? = some u → (W.alloc (.cells (bc l).toArray 5)).cell? ((⟨W.heap.size, 0, none⟩ : Addr).add j) = some u := blk_cells (Blk.new W 5 _)
theorem byte_cell (k : Int) (hk : 0 ≤ k ∧ k < 256) (W : World) : ∀ j u, (bc [UInt8.ofNat k.toNat])[j]? = some u → (W.alloc (.cells #[.int .u8 k] 5)).cell? ((⟨W.heap.size, 0, none⟩ : Addr).add j) = some u := by
  have h := lit_cells [UInt8.ofNat k.toNat] W
  have e : (bc [UInt8.ofNat k.toNat]).toArray = #[.int .u8 k] := by
    have : (((UInt8.ofNat k.toNat).toNat : Nat) : Int) = k := by rw [UInt8.toNat_ofNat']; omega
    simp only [bc, List.map_cons, List.map_nil, this]
  rwa [e] at h

set_option maxRecDepth 100000 in
set_option maxHeartbeats 4000000 in
theorem refkey_yes (r f q vs : ByteArray) (t k vk : Int) (vn : Int) (hr0 : r.size ≤ 1000) (hf0 : f.size ≤ 1000) (hq0 : q.size ≤ 1000) (hv : vs.size ≤ 4000) (w : World) (hr : cRight r.data.toList f.data.toList q.data.toList t k vk vn vs.data.toList = true) :
    Calls Tryd.prog 97 #[cellV r f q t k vk vn vs] w fun e w' => ∃ v, e = .returned (.tuple #[v, .bool true]) ∧ Row w' w.heap.size v (keyM r.data.toList f.data.toList q.data.toList t k) ∧ Below w.heap.size w w' := by
  have HR : Hid (∀ W, Calls Tryd.prog 26 #[cellV r f q t k vk vn vs] W fun e w' => e = .returned (.bool true) ∧ Below W.heap.size W w') := fun W => by
    have := refcright_any r f q vs t k vk vn (by omega) hv W
    rwa [hr] at this
  have HEr := hid (escaped_at r hr0)
  have HEf := hid (escaped_at f hf0)
  have HEq := hid (escaped_at q hq0)
  have Hr2 : Hid ((esc r.data.toList ++ [0, 1]).length ≤ 2002) := by have h1 := esc_len r.data.toList; have h2 : r.data.toList.length = r.size := (by simp); unfold Hid; rw [List.length_append]; simp only [List.length_cons, List.length_nil]; omega
  have Hf2 : Hid ((esc f.data.toList ++ [0, 1]).length ≤ 2002) := by have h1 := esc_len f.data.toList; have h2 : f.data.toList.length = f.size := (by simp); unfold Hid; rw [List.length_append]; simp only [List.length_cons, List.length_nil]; omega
  have Hq2 : Hid ((esc q.data.toList ++ [0, 1]).length ≤ 2002) := by have h1 := esc_len q.data.toList; have h2 : q.data.toList.length = q.size := (by simp); unfold Hid; rw [List.length_append]; simp only [List.length_cons, List.length_nil]; omega
  have HKM : Hid (keyM r.data.toList f.data.toList q.data.toList t k = (esc r.data.toList ++ [0, 1]) ++ ((esc f.data.toList ++ [0, 1]) ++ ((if k = 4 then [0, 0] else esc q.data.toList ++ [0, 1]) ++ tailM t k))) := by unfold Hid keyM midM; simp only [List.append_assoc]
  generalize esc r.data.toList ++ [0, 1] = lr at *
  generalize esc f.data.toList ++ [0, 1] = lf at *
  generalize esc q.data.toList ++ [0, 1] = lq at *
  clear hr0 hf0 hq0 hv
  obtain ⟨-, -, -, -, -, ht0, ht1, hk0, hk9, -, -, -⟩ := cright_parts hr
  have HK1 := hid (byte_cell (255 - k) (by omega))
  have hx : IntKind.u64.wrap (9223372036854775807 - IntKind.u64.wrap t) = ((9223372036854775807 - t).toNat : Int) := by
    rw [IntKind.wrap_u64, IntKind.wrap_u64]; omega
  have e12 : IntKind.i64.wrap (255 - k) = 255 - k := by rw [IntKind.wrap_i64]; omega
  have e13 : IntKind.u8.wrap (255 - k) = 255 - k := by rw [IntKind.wrap_u8]; omega
  have HTL : Hid (tailM t k = byW 8 (9223372036854775807 - t).toNat ++ [UInt8.ofNat (255 - k).toNat]) := rfl
  obtain ⟨u, hu⟩ : ∃ u : Nat, (9223372036854775807 - t).toNat = u := ⟨_, rfl⟩
  have hu64 : u < 18446744073709551616 := by omega
  rw [hu] at hx HTL
  have HE8 : Hid (∀ W, Calls Tryd.prog 139 #[.int .u64 (u : Int)] W fun e w' => e = .returned (.slice (some ⟨W.heap.size, 0, none⟩) 8 8) ∧ (∀ j x, (bc (byW 8 u))[j]? = some x → w'.cell? ((⟨W.heap.size, 0, none⟩ : Addr).add j) = some x) ∧ Below W.heap.size W w') := fun W =>
    (eight_any u hu64 W).mono fun e w' ⟨he, hB, hb⟩ => ⟨he, blk_cells hB, hb⟩
  have HL8 : Hid ((byW 8 u).length = 8) := byW_len _ _
  generalize byW 8 u = l8 at *
  clear hu hu64 ht0 ht1 hk0 hk9 hr
  have HB1 : Hid (∀ W1 : World, Below (w.alloc (.cells #[.string r, .string f, .string q, .int .i64 t, .int .i64 k, .int .i64 vk, .int .i64 vn, .string vs] 28)).heap.size (w.alloc (.cells #[.string r, .string f, .string q, .int .i64 t, .int .i64 k, .int .i64 vk, .int .i64 vn, .string vs] 28)) W1 → OneC w r f q vs t k vk vn W1) := fun W1 hb => by
    have hz : w.heap.size < W1.heap.size := Nat.lt_of_lt_of_le (by simp) hb.size
    have B1 : Blk W1 w.heap.size 28 #[.string r, .string f, .string q, .int .i64 t, .int .i64 k, .int .i64 vk, .int .i64 vn, .string vs] := (Blk.new w _ _).keep hb (by simp)
    exact ⟨hid ⟨(below_new _ _).trans (hb.mono (by simp)), hz⟩, B1.cell 0, B1.cell 1, B1.cell 2, B1.cell 3, B1.cell 4, B1.cell 5, B1.cell 6, B1.cell 7⟩
  go_enter Tryd.func97, Tryd.ntmps97
  go_upto_region 3 with (go_at_call 26; refine (HR.out _).mono ?_; rintro e W ⟨rfl, hb⟩)
  have HT := hid (HB1.out _ hb)
  clear HB1 hb HR
  obtain ⟨h0, g0, g1, g2, g3, g4, g5, g6, g7⟩ := HT.out
  go_region_held3 (fun W' => Hid (Below w.heap.size w W' ∧ w.heap.size < W'.heap.size) ∧ W'.cell? ⟨w.heap.size, 0, none⟩ = some (.string r) ∧ W'.cell? ⟨w.heap.size, 1, none⟩ = some (.string f) ∧ W'.cell? ⟨w.heap.size, 2, none⟩ = some (.string q) ∧ W'.cell? ⟨w.heap.size, 3, none⟩ = some (.int .i64 t) ∧ W'.cell? ⟨w.heap.size, 4, none⟩ = some (.int .i64 k) ∧ W'.cell? ⟨w.heap.size, 5, none⟩ = some (.int .i64 vk) ∧ W'.cell? ⟨w.heap.size, 6, none⟩ = some (.int .i64 vn) ∧ W'.cell? ⟨w.heap.size, 7, none⟩ = some (.string vs))
    (first | exact HT.out | exact onec_drew HT.out | exact onec_call (by assumption) hb1 | exact onec_call (by assumption) hb2 | exact onec_to (by assumption) hb4 (Nat.lt_succ_self _) | exact onec_drew (by assumption) | assumption)
    (first
      | (go_at_call 138; (with_reducible refine (HEr.out _).mono ?_); rintro e w5 ⟨p1, c1, rfl, hR1, hb1⟩)
      | (go_at_call 138; (with_reducible refine (HEf.out _).mono ?_); rintro e w6 ⟨p2, c2, rfl, hR2, hb2⟩)
      | (refine step_append_bytes rfl (.tmp 10) (.tmp 13) rfl _ (w.heap.size + 1) (.slice (some ⟨p1, 0, none⟩) lr.length c1) lr rfl ((hR1.1.keep hb2 (fun g hg => by simp [Value.ownBlock] at hg; have := hR1.2.1; omega)).le h0.out.2) ⟨p2, 0, none⟩ lf.length c2 lf rfl rfl hR2.2.2 (by have := Hr2.out; have := Hf2.out; omega) (by have h1 := h0.out.2; have h2 := hb1.size; have h3 := hb2.size; simp at *; omega) ?_; intro v2 w7 hR3 hb4))
  rename_i hLast
  have HL := hid hLast
  have HRw := hid hR3
  clear hLast hR3 hR1 hR2 hb1 hb2 hb4 HT h0 g0 g1 g2 g3 g4 g5 g6 g7 HEr HEf
  obtain ⟨h0, -, -, g2, g3, g4, -, -, -⟩ := HL.out
  by_cases hk4 : k = 4
  · have q0 : (k == 4) = true := by simpa using hk4
    have HK4 := hid hk4
    clear hk4
    have HC0 : Hid (∀ j u, (bc [0, 0])[j]? = some u → (w7.alloc (.cells #[.int .u8 0, .int .u8 0] 5)).cell? ((⟨w7.heap.size, 0, none⟩ : Addr).add j) = some u) := lit_cells [0, 0] w7
    clear g2 g3 HEq
    go_wp2_with (first
    | (at_builtin; refine wpList_append_bytes rfl (.tmp 18) (.tmp 19) rfl _ (w.heap.size + 1) v2 (lr ++ lf) rfl (HRw.out.alloc _) ⟨w7.heap.size, 0, none⟩ 2 2 [0, 0] rfl rfl HC0.out (by have := Hr2.out; have := Hf2.out; simp only [List.length_append, List.length_cons, List.length_nil]; omega) (by have h1 := h0.out.2; simp; omega) ?_; intro v3 w8 hR4 hb5; have h8 := onec_to (onec_call HL.out (below_new _ _)) hb5 (Nat.lt_succ_self _); have g3' : w8.cell? ⟨w.heap.size, 3, none⟩ = some (.int .i64 t) := h8.2.2.2.2.1)
    | (go_at_call 139; refine (HE8.out _).mono ?_; rintro e w9 ⟨rfl, hB8, hb6⟩)
    | (at_builtin; refine wpList_append_bytes rfl (.tmp 26) (.tmp 31) rfl _ (w.heap.size + 1) v3 _ rfl (hR4.keep hb6 hR4.block_lt) ⟨w8.heap.size, 0, none⟩ 8 8 l8 HL8.out rfl hB8 (by have := Hr2.out; have := Hf2.out; have := Hq2.out; have := HL8.out; simp only [List.length_append, List.length_cons, List.length_nil]; omega) (by have h1 := h8.1.out.2; have h2 := hb6.size; omega) ?_; intro v4 w10 hR5 hb7; have h10 := onec_to (onec_call h8 hb6) hb7 (Nat.lt_succ_self _); have g4' : w10.cell? ⟨w.heap.size, 4, none⟩ = some (.int .i64 k) := h10.2.2.2.2.2.1)
    | (at_builtin; refine wpList_append_bytes rfl (.tmp 33) (.tmp 38) rfl _ (w.heap.size + 1) v4 _ rfl (hR5.alloc _) ⟨w10.heap.size, 0, none⟩ 1 1 [UInt8.ofNat (255 - k).toNat] rfl rfl (HK1.out w10) (by have := Hr2.out; have := Hf2.out; have := Hq2.out; have := HL8.out; simp only [List.length_append, List.length_cons, List.length_nil]; omega) (by have h1 := h10.1.out.2; simp; omega) ?_; intro v5 w11 hR6 hb8; have h11 := onec_to (onec_call h10 (below_new _ _)) hb8 (Nat.lt_succ_self _)))
    go_ret2
    refine ⟨_, rfl, ?_, h11.1.out.1⟩
    rw [HKM.out, if_pos HK4.out, HTL.out]
    have := hR6.le (Nat.le_succ w.heap.size)
    show Row w11 w.heap.size v5 _
    simpa only [List.append_assoc] using this
  · have q0 : (k == 4) = false := by simpa using hk4
    clear g3
    go_wp2_with (first
    | (go_at_call 138; refine (HEq.out _).mono ?_; rintro e w6 ⟨p3, c3, rfl, hR3, hb3⟩)
    | (at_builtin; refine wpList_append_bytes rfl (.tmp 21) (.tmp 24) rfl _ (w.heap.size + 1) v2 (lr ++ lf) rfl (HRw.out.keep hb3 HRw.out.block_lt) ⟨p3, 0, none⟩ lq.length c3 lq rfl rfl hR3.2.2 (by have := Hr2.out; have := Hf2.out; have := Hq2.out; simp only [List.length_append]; omega) (by have h1 := h0.out.2; have h2 := hb3.size; omega) ?_; intro v3 w8 hR4 hb5; have h8 := onec_to (onec_call HL.out hb3) hb5 (Nat.lt_succ_self _); have g3' : w8.cell? ⟨w.heap.size, 3, none⟩ = some (.int .i64 t) := h8.2.2.2.2.1)
    | (go_at_call 139; refine (HE8.out _).mono ?_; rintro e w9 ⟨rfl, hB8, hb6⟩)
    | (at_builtin; refine wpList_append_bytes rfl (.tmp 26) (.tmp 31) rfl _ (w.heap.size + 1) v3 _ rfl (hR4.keep hb6 hR4.block_lt) ⟨w8.heap.size, 0, none⟩ 8 8 l8 HL8.out rfl hB8 (by have := Hr2.out; have := Hf2.out; have := Hq2.out; have := HL8.out; simp only [List.length_append]; omega) (by have h1 := h8.1.out.2; have h2 := hb6.size; omega) ?_; intro v4 w10 hR5 hb7; have h10 := onec_to (onec_call h8 hb6) hb7 (Nat.lt_succ_self _); have g4' : w10.cell? ⟨w.heap.size, 4, none⟩ = some (.int .i64 k) := h10.2.2.2.2.2.1)
    | (at_builtin; refine wpList_append_bytes rfl (.tmp 33) (.tmp 38) rfl _ (w.heap.size + 1) v4 _ rfl (hR5.alloc _) ⟨w10.heap.size, 0, none⟩ 1 1 [UInt8.ofNat (255 - k).toNat] rfl rfl (HK1.out w10) (by have := Hr2.out; have := Hf2.out; have := Hq2.out; have := HL8.out; simp only [List.length_append, List.length_cons, List.length_nil]; omega) (by have h1 := h10.1.out.2; simp; omega) ?_; intro v5 w11 hR6 hb8; have h11 := onec_to (onec_call h10 (below_new _ _)) hb8 (Nat.lt_succ_self _)))
    go_ret2
    refine ⟨_, rfl, ?_, h11.1.out.1⟩
    rw [HKM.out, if_neg hk4, HTL.out]
    have := hR6.le (Nat.le_succ w.heap.size)
    show Row w11 w.heap.size v5 _
    simpa only [List.append_assoc] using this
end Go.Proofs.YtdjaofbjmnmlbaaDoor

/- The document's Encode of layer 3 at every cell. Conditions: the texts are short, as a law's cells are; the number is of 64 bits. -/
namespace Go.Proofs.YtdjaofbjmnmlbaaDoor
open Go.RowKit

set_option maxRecDepth 100000 in
set_option maxHeartbeats 4000000 in
theorem refenc_no (r f q vs : ByteArray) (t k vk : Int) (vn : Int) (hf : f.size ≤ 9223372036854775807) (hv : vs.size ≤ 4000) (w : World) (hr : cRight r.data.toList f.data.toList q.data.toList t k vk vn vs.data.toList = false) :
    Calls Tryd.prog 53 #[cellV r f q t k vk vn vs] w fun e w' => e = .returned (.tuple #[.slice none 0 0, .bool false]) ∧ Below w.heap.size w w' := by
  have HK : Hid (∀ W, Below w.heap.size w W → Calls Tryd.prog 97 #[cellV r f q t k vk vn vs] W fun e w' => e = .returned (.tuple #[.slice none 0 0, .bool false]) ∧ Below w.heap.size w w') := fun W hW =>
    (refkey_no r f q vs t k vk vn hf hv W hr).mono fun e w' ⟨he, hb⟩ => ⟨he, hW.trans (hb.mono hW.size)⟩
  clear hr hf hv
  go_enter Tryd.func53, Tryd.ntmps53
  go_wp2_with (go_at_call 97; refine (HK.out _ (below_new _ _)).mono ?_; rintro e w1 ⟨rfl, hb⟩)
  go_ret2
  exact ⟨rfl, hb⟩

set_option maxRecDepth 100000 in
set_option maxHeartbeats 4000000 in
theorem refenc_yes (r f q vs : ByteArray) (t k vk : Int) {vn : Int} (hn : inI vn) (hr0 : r.size ≤ 1000) (hf0 : f.size ≤ 1000) (hq0 : q.size ≤ 1000) (hv : vs.size ≤ 4000) (w : World) (hr : cRight r.data.toList f.data.toList q.data.toList t k vk vn vs.data.toList = true) :
    Calls Tryd.prog 53 #[cellV r f q t k vk vn vs] w fun e w' => ∃ v, e = .returned (.tuple #[v, .bool true]) ∧ Row w' w.heap.size v (cEnc r.data.toList f.data.toList q.data.toList t k vk vn vs.data.toList) ∧ Below w.heap.size w w' := by
  have HB1 : Hid (∀ W1 : World, Below (w.alloc (.cells #[.string r, .string f, .string q, .int .i64 t, .int .i64 k, .int .i64 vk, .int .i64 vn, .string vs] 28)).heap.size (w.alloc (.cells #[.string r, .string f, .string q, .int .i64 t, .int .i64 k, .int .i64 vk, .int .i64 vn, .string vs] 28)) W1 → OneC w r f q vs t k vk vn W1) := fun W1 hb => by
    have hz : w.heap.size < W1.heap.size := Nat.lt_of_lt_of_le (by simp) hb.size
    have B1 : Blk W1 w.heap.size 28 #[.string r, .string f, .string q, .int .i64 t, .int .i64 k, .int .i64 vk, .int .i64 vn, .string vs] := (Blk.new w _ _).keep hb (by simp)
    exact ⟨hid ⟨(below_new _ _).trans (hb.mono (by simp)), hz⟩, B1.cell 0, B1.cell 1, B1.cell 2, B1.cell 3, B1.cell 4, B1.cell 5, B1.cell 6, B1.cell 7⟩
  have HK : Hid (∀ W, Calls Tryd.prog 97 #[cellV r f q t k vk vn vs] W fun e w' => ∃ v, e = .returned (.tuple #[v, .bool true]) ∧ Row w' W.heap.size v (keyM r.data.toList f.data.toList q.data.toList t k) ∧ Below W.heap.size W w') := fun W => refkey_yes r f q vs t k vk vn hr0 hf0 hq0 hv W hr
  have hlen : (keyM r.data.toList f.data.toList q.data.toList t k).length ≤ 7000 := by
    have h1 := esc_len r.data.toList; have h2 : r.data.toList.length = r.size := (by simp)
    have h3 := esc_len f.data.toList; have h4 : f.data.toList.length = f.size := (by simp)
    have h5 := esc_len q.data.toList; have h6 : q.data.toList.length = q.size := (by simp)
    unfold keyM midM
    split <;> (simp only [List.length_append, List.length_cons, List.length_nil, tail_len]; omega)
  obtain ⟨-, -, -, -, -, -, -, -, -, -, hvr, -⟩ := cright_parts hr
  unfold cEnc
  generalize keyM r.data.toList f.data.toList q.data.toList t k = lk at *
  have HLK := hid hlen
  clear hlen hr
  by_cases h1 : k = 1
  · have q0 : (k == 1) = true := by simpa using h1
    rw [if_pos h1]
    have hvr := hvr h1
    have HE : Hid (∀ W, Calls Tryd.prog 98 #[.agg #[.int .i64 vk, .int .i64 vn, .string vs]] W fun e w' => ∃ g c, e = .returned (.tuple #[.slice (some ⟨g, 0, none⟩) (vEnc vk vn vs.data.toList).length c, .bool true]) ∧ (∀ j u, (bc (vEnc vk vn vs.data.toList))[j]? = some u → w'.cell? ((⟨g, 0, none⟩ : Addr).add j) = some u) ∧ Below W.heap.size W w') := fun W => by
      refine (refEncode_yes vk hn vs hv hvr W).mono fun e w' ⟨v, he, hR, hb⟩ => ?_
      obtain ⟨g, c, rfl, hg, hc⟩ := row_write hR (by have := enc_two hvr; omega)
      exact ⟨g, c, he, hc, hb⟩
    have HLE : Hid ((vEnc vk vn vs.data.toList).length ≤ 10000) := by
      unfold Hid vEnc vBody
      have h1 := esc_len vs.data.toList; have h2 : vs.data.toList.length = vs.size := (by simp)
      simp only [List.length_cons]
      repeat' split
      all_goals (simp only [List.length_append, List.length_cons, List.length_nil, byW_len]; omega)
    generalize vEnc vk vn vs.data.toList = le at *
    have H1 := hid h1
    clear h1 hr0 hf0 hq0 hv hvr hn
    go_enter Tryd.func53, Tryd.ntmps53
    go_wp2_with (first
      | (go_at_call 97; refine (HK.out _).mono ?_; rintro e w1 ⟨v, rfl, hR, hb⟩; have h1 := HB1.out _ hb; have h0 := h1.1; have g4 : w1.cell? ⟨w.heap.size, 4, none⟩ = some (.int .i64 k) := h1.2.2.2.2.2.1; have g5 : w1.cell? ⟨w.heap.size, 5, none⟩ = some (.int .i64 vk) := h1.2.2.2.2.2.2.1; have g6 : w1.cell? ⟨w.heap.size, 6, none⟩ = some (.int .i64 vn) := h1.2.2.2.2.2.2.2.1; have g7 : w1.cell? ⟨w.heap.size, 7, none⟩ = some (.string vs) := h1.2.2.2.2.2.2.2.2)
      | (go_at_call 98; refine (HE.out _).mono ?_; rintro e w2 ⟨p2, c2, rfl, hR2, hb2⟩)
      | (at_builtin; refine wpList_append_bytes rfl (.tmp 25) (.tmp 26) rfl _ (w.heap.size + 1) v lk rfl ((hR.le (by simp)).keep hb2 hR.block_lt) ⟨p2, 0, none⟩ le.length c2 le rfl rfl hR2 (by have := HLK.out; have := HLE.out; omega) (by have h1 := h0.out.2; have h2 := hb2.size; omega) ?_; intro v3 w3 hR3 hb3; have h9 := onec_to (onec_call h1 hb2) hb3 (Nat.lt_succ_self _)))
    go_ret2
    exact ⟨_, rfl, hR3.le (Nat.le_succ _), h9.1.out.1⟩
  · have q0 : (k == 1) = false := by simpa using h1
    rw [if_neg h1, List.append_nil]
    have H1 := hid h1
    clear h1 hr0 hf0 hq0 hv hvr hn
    go_enter Tryd.func53, Tryd.ntmps53
    go_wp2_with (go_at_call 97; refine (HK.out _).mono ?_; rintro e w1 ⟨v, rfl, hR, hb⟩; have h1 := HB1.out _ hb; have g4 : w1.cell? ⟨w.heap.size, 4, none⟩ = some (.int .i64 k) := h1.2.2.2.2.2.1)
    go_ret2
    exact ⟨_, rfl, hR.le (by simp), h1.1.out.1⟩
end Go.Proofs.YtdjaofbjmnmlbaaDoor

/- How many bytes a table's cells have at most; a put whatever the cell. Conditions: as each theorem names them. -/
namespace Go.Proofs.YtdjaofbjmnmlbaaDoor
open Go.RowKit

theorem encL_le {c : CT} (hok : c.ok = true) (hs : c.s.size ≤ 1000) : encL c ≤ 3000 := by
  obtain ⟨h5, h6, h7⟩ := ok_small hok
  have h1 := esc_len c.r.data.toList
  have h2 := esc_len c.f.data.toList
  have h3 := esc_len c.q.data.toList
  have h4 := esc_len c.s.data.toList
  have e1 : c.r.data.toList.length = c.r.size := rfl
  have e2 : c.f.data.toList.length = c.f.size := rfl
  have e3 : c.q.data.toList.length = c.q.size := rfl
  have e4 : c.s.data.toList.length = c.s.size := rfl
  unfold encL cEnc keyM midM vEnc vBody
  repeat' split
  all_goals (simp only [List.length_append, List.length_cons, List.length_nil, tail_len, byW_len]; omega)
theorem bytesL_le : ∀ {l : List CT}, (∀ c ∈ l, c.ok = true ∧ okC c ∧ c.s.size ≤ 1000) → bytesL l ≤ 3000 * l.length
  | [], _ => by decide
  | c :: l, h => by
    have h1 := bytesL_le (l := l) fun x hx => h x (List.mem_cons_of_mem _ hx)
    have h2 := encL_le (h c List.mem_cons_self).1 (h c List.mem_cons_self).2.2
    show encL c + bytesL l ≤ 3000 * (l.length + 1)
    omega
theorem MemOf.okl {w : World} {B mb : Nat} {l : List CT} (h : MemOf w B mb l) : ∀ c ∈ l, c.ok = true ∧ okC c ∧ c.s.size ≤ 1000 := by
  obtain ⟨hd, L, h⟩ := h
  exact h.ok
theorem MemOf.rise {w : World} {B mb : Nat} {l : List CT} (h : MemOf w B mb l) : l.Pairwise (fun x y => CT.cmp x y < 0) := by
  obtain ⟨hd, L, h⟩ := h
  exact h.rise
/-- The cells with c in its place, if it is right. -/
def putR (l : List CT) (c : CT) : List CT := if c.ok then putL l c else l
theorem filter_two {p q : CT → Bool} : ∀ {l : List CT}, (∀ x, p x = true → q x = false) → (l.filter p).length + (l.filter q).length ≤ l.length
  | [], _ => Nat.le_refl _
  | x :: l, h => by
    have ih := filter_two (l := l) h
    rw [List.filter_cons, List.filter_cons, List.length_cons]
    cases hp : p x with
    | true => rw [h x hp]; simp only [if_true, List.length_cons, Bool.false_eq_true, if_false]; omega
    | false => cases hq : q x <;> simp only [if_true, List.length_cons, Bool.false_eq_true, if_false] <;> omega
theorem putR_len (l : List CT) (c : CT) : (putR l c).length ≤ l.length + 1 := by
  unfold putR
  split
  · unfold putL
    have := filter_two (p := fun x => decide (CT.cmp x c < 0)) (q := fun x => decide (0 < CT.cmp x c)) (l := l) fun x hx => by
      have := of_decide_eq_true hx
      exact decide_eq_false (by omega)
    rw [List.length_append, List.length_cons]
    omega
  · omega
/-- Put, whatever the cell. -/
theorem mes_put {B mb : Nat} {l : List CT} {w W : World} {c : CT} (h : MeS B mb l w W) (hL : LaidU w) (hBw : w.heap.size ≤ B) (hc : okC c) (hcs : c.s.size ≤ 1000) (hlen : l.length ≤ 100000) :
    Calls Tryd.prog 35 #[.pointer (some ⟨mb, 0, none⟩), c.v] W fun e w' => e = .returned (.bool c.ok) ∧ MeS B mb (putR l c) w w' := by
  have hM := h.out.1
  cases hok : c.ok with
  | true =>
    have e : putR l c = putL l c := by unfold putR; rw [if_pos hok]
    rw [e]
    have hb := bytesL_le hM.okl
    have he := encL_le hok hcs
    exact ms_put h hL hBw hc hcs hok (by omega) (by omega) (by omega)
  | false =>
    have e : putR l c = l := by unfold putR; rw [if_neg (by rw [hok]; decide)]
    rw [e]
    exact (put_no mb c W hc hok (hL.below (h.out.2.1.b.mono hBw))).mono fun e w' ⟨q1, q2⟩ => ⟨q1, h.below q2⟩
theorem MeS.drew {B mb : Nat} {l : List CT} {w W : World} (h : MeS B mb l w W) : MeS B mb l w W.drew := h.below (Below.refl _ _).drew
end Go.Proofs.YtdjaofbjmnmlbaaDoor

/- The document's Texts at every two texts. Conditions: texts no longer than any are. -/
namespace Go.Proofs.YtdjaofbjmnmlbaaDoor
open Go.RowKit

theorem cmpB_drop (l m : List UInt8) (k : Nat) (h : k < l.length) (h' : k < m.length) :
    Lib.compareBytes (l.drop k) (m.drop k) = if (l.getD k 0).toNat < (m.getD k 0).toNat then -1 else if (m.getD k 0).toNat < (l.getD k 0).toNat then 1 else Lib.compareBytes (l.drop (k + 1)) (m.drop (k + 1)) := by
  rw [List.drop_eq_getElem_cons h, List.drop_eq_getElem_cons h']
  conv => lhs; unfold Lib.compareBytes
  simp only [List.getD_eq_getElem?_getD, List.getElem?_eq_getElem h, List.getElem?_eq_getElem h', Option.getD_some, UInt8.lt_iff_toNat_lt]

theorem cmpB_end (l m : List UInt8) (h : l = [] ∨ m = []) : Lib.compareBytes l m = if l.length < m.length then -1 else if m.length < l.length then 1 else 0 := by
  rcases h with rfl | rfl
  · cases m with
    | nil => rfl
    | cons => simp [Lib.compareBytes]
  · cases l with
    | nil => rfl
    | cons => simp [Lib.compareBytes]

/-- What the loop knows. -/
def XInv (s t : ByteArray) (w : World) (vi : Value) (wr : World) : Prop :=
  ∃ (i m : Nat), i ≤ s.size ∧ i ≤ t.size ∧ vi = .int .i64 i ∧ wr = w.drewN m ∧ Lib.compareBytes s.data.toList t.data.toList = Lib.compareBytes (s.data.toList.drop i) (t.data.toList.drop i)

theorem dl (s : ByteArray) : s.data.toList.length = s.size := rfl
theorem getD_str (s : ByteArray) (i : Nat) (h : i < s.size) : s.data.toList.getD i 0 = s[i] := by
  rw [List.getD_eq_getElem?_getD, List.getElem?_eq_getElem (show i < s.data.toList.length from h)]
  rfl

set_option maxHeartbeats 2000000 in
theorem texts_any (s t : ByteArray) (hs : s.size ≤ 9223372036854775807) (_ : t.size ≤ 9223372036854775807) (w : World) :
    Calls Tryd.prog 77 #[.string s, .string t] w fun e w' => e = .returned (.int .i64 (Lib.compareBytes s.data.toList t.data.toList)) ∧ Below w.heap.size w w' := by
  go_enter Tryd.func77, Tryd.ntmps77
  go_wp2
  go_loopw [5] (fun vi wr => XInv s t w vi wr) (fun vi _ => s.size - (intOf vi).toNat)
  case atStart => exact ⟨0, 0, Nat.zero_le _, Nat.zero_le _, rfl, rfl, rfl⟩
  case round =>
    obtain ⟨i, m, hi1, hi2, rfl, rfl, hc⟩ := hrel
    by_cases hlt : i < s.size ∧ i < t.size
    · obtain ⟨h1, h2⟩ := hlt
      have hd := cmpB_drop s.data.toList t.data.toList i h1 h2
      rw [getD_str s i h1, getD_str t i h2] at hd
      have HD := hid (hc.trans hd)
      clear hd hc
      by_cases c0 : s[i].toNat = t[i].toNat
      · have q0 : (s[i].toNat != t[i].toNat) = false := by simpa using c0
        have HQ : Hid (Lib.compareBytes s.data.toList t.data.toList = Lib.compareBytes (s.data.toList.drop (i + 1)) (t.data.toList.drop (i + 1))) := by
          have := HD.out
          rw [if_neg (by omega), if_neg (by omega)] at this
          exact this
        clear HD
        go_wp2
        go_quiet (fail)
        go_wp2
        go_roundw
        case rel => exact ⟨i + 1, _, by omega, by omega, by go_num, rfl, HQ.out⟩
        case measure => simp [intOf]; omega
      · have q0 : (s[i].toNat != t[i].toNat) = true := by simpa using c0
        by_cases c1 : s[i].toNat < t[i].toNat
        · have HQ : Hid (Lib.compareBytes s.data.toList t.data.toList = -1) := by
            have := HD.out
            rw [if_pos c1] at this
            exact this
          have q1 : decide (s[i].toNat < t[i].toNat) = true := decide_eq_true c1
          clear HD c0
          go_wp2
          go_quiet (fail)
          go_wp2
          go_quiet (fail)
          go_wp2
          go_ret
          exact ⟨ret_int HQ.out.symm, by repeat (first | exact Below.refl _ _ | refine below_drewN ?_ _)⟩
        · have HQ : Hid (Lib.compareBytes s.data.toList t.data.toList = 1) := by
            have := HD.out
            rw [if_neg c1, if_pos (by omega)] at this
            exact this
          have q1 : decide (s[i].toNat < t[i].toNat) = false := decide_eq_false c1
          clear HD c0
          go_wp2
          go_quiet (fail)
          go_wp2
          go_quiet (fail)
          go_wp2
          go_ret
          exact ⟨ret_int HQ.out.symm, by repeat (first | exact Below.refl _ _ | refine below_drewN ?_ _)⟩
    · have hq : Lib.compareBytes s.data.toList t.data.toList = if s.size < t.size then -1 else if t.size < s.size then 1 else 0 := by
        rw [hc, cmpB_end _ _ (by rcases (show i = s.size ∨ i = t.size by omega) with rfl | rfl <;> simp)]
        simp only [List.length_drop, dl]
        by_cases z1 : s.size < t.size
        · rw [if_pos (by omega), if_pos z1]
        · rw [if_neg (by omega), if_neg z1]
          by_cases z2 : t.size < s.size
          · rw [if_pos (by omega), if_pos z2]
          · rw [if_neg (by omega), if_neg z2]
      have hsel : (i < s.size ∧ decide (i < t.size) = false) ∨ i = s.size := by
        rcases Nat.lt_or_ge i s.size with h | h
        · exact .inl ⟨h, decide_eq_false (by omega)⟩
        · exact .inr (by omega)
      clear hc hlt
      rcases (show s.size < t.size ∨ t.size < s.size ∨ s.size = t.size by omega) with z | z | z
      · rw [if_pos z] at hq
        have HQ := hid hq
        have d1 : decide (s.size < t.size) = true := decide_eq_true z
        clear hq
        rcases hsel with ⟨h1, h2⟩ | rfl
        all_goals
          go_wp2
          go_ret
          exact ⟨ret_int HQ.out.symm, by repeat (first | exact Below.refl _ _ | refine below_drewN ?_ _)⟩
      · rw [if_neg (by omega), if_pos z] at hq
        have HQ := hid hq
        have d1 : decide (s.size < t.size) = false := decide_eq_false (by omega)
        have d2 : decide (t.size < s.size) = true := decide_eq_true z
        clear hq
        rcases hsel with ⟨h1, h2⟩ | rfl
        all_goals
          go_wp2
          go_ret
          exact ⟨ret_int HQ.out.symm, by repeat (first | exact Below.refl _ _ | refine below_drewN ?_ _)⟩
      · rw [if_neg (by omega), if_neg (by omega)] at hq
        have HQ := hid hq
        have d1 : decide (s.size < t.size) = false := decide_eq_false (by omega)
        have d2 : decide (t.size < s.size) = false := decide_eq_false (by omega)
        clear hq z
        rcases hsel with ⟨h1, h2⟩ | rfl
        all_goals
          go_wp2
          go_ret
          exact ⟨ret_int HQ.out.symm, by repeat (first | exact Below.refl _ _ | refine below_drewN ?_ _)⟩

end Go.Proofs.YtdjaofbjmnmlbaaDoor

/- The document's cmp and Order of layer 3 at every two cells. Conditions: the texts are no longer than any are. -/
namespace Go.Proofs.YtdjaofbjmnmlbaaDoor
open Go.RowKit

theorem refcmp3_any (a b : Int) (w : World) :
    Calls Tryd.prog 78 #[.int .i64 a, .int .i64 b] w fun e w' => e = .returned (.int .i64 (Lib.compareInt a b)) ∧ w' = w := by
  unfold Lib.compareInt
  by_cases h1 : a < b
  · rw [if_pos h1]
    go_enter Tryd.func78, Tryd.ntmps78
    go_wp2
    go_ret
    exact ⟨rfl, rfl⟩
  · rw [if_neg h1]
    by_cases h2 : b < a
    · rw [if_pos h2]
      go_enter Tryd.func78, Tryd.ntmps78
      go_wp2
      go_ret
      exact ⟨rfl, rfl⟩
    · rw [if_neg h2]
      go_enter Tryd.func78, Tryd.ntmps78
      go_wp2
      go_ret
      exact ⟨rfl, rfl⟩

set_option maxRecDepth 100000 in
set_option maxHeartbeats 8000000 in
theorem refcorder_any (r1 f1 q1 s1 : ByteArray) (t1 k1 vk1 vn1 : Int) (r2 f2 q2 s2 : ByteArray) (t2 k2 vk2 vn2 : Int) (hr1 : r1.size ≤ 9223372036854775807) (hr2 : r2.size ≤ 9223372036854775807) (hf1 : f1.size ≤ 9223372036854775807) (hf2 : f2.size ≤ 9223372036854775807) (hq1 : q1.size ≤ 9223372036854775807) (hq2 : q2.size ≤ 9223372036854775807) (w : World) :
    Calls Tryd.prog 27 #[cellV r1 f1 q1 t1 k1 vk1 vn1 s1, cellV r2 f2 q2 t2 k2 vk2 vn2 s2] w fun e w' => e = .returned (.int .i64 (cOrd r1.data.toList f1.data.toList q1.data.toList t1 k1 r2.data.toList f2.data.toList q2.data.toList t2 k2)) ∧ Below w.heap.size w w' := by
  have HTr : Hid (∀ W, Calls Tryd.prog 77 #[.string r1, .string r2] W fun e w' => e = .returned (.int .i64 (Lib.compareBytes r1.data.toList r2.data.toList)) ∧ Below W.heap.size W w') := fun W => texts_any r1 r2 hr1 hr2 W
  have HTf : Hid (∀ W, Calls Tryd.prog 77 #[.string f1, .string f2] W fun e w' => e = .returned (.int .i64 (Lib.compareBytes f1.data.toList f2.data.toList)) ∧ Below W.heap.size W w') := fun W => texts_any f1 f2 hf1 hf2 W
  have HTq : Hid (∀ W, Calls Tryd.prog 77 #[.string q1, .string q2] W fun e w' => e = .returned (.int .i64 (Lib.compareBytes q1.data.toList q2.data.toList)) ∧ Below W.heap.size W w') := fun W => texts_any q1 q2 hq1 hq2 W
  clear hr1 hr2 hf1 hf2 hq1 hq2
  obtain ⟨x, hx⟩ : ∃ x, rankC k1 = x := ⟨_, rfl⟩
  obtain ⟨y, hy⟩ : ∃ y, rankC k2 = y := ⟨_, rfl⟩
  unfold cOrd
  rw [hx, hy]
  generalize hb1 : Lib.compareBytes r1.data.toList r2.data.toList = b1 at *
  generalize hb2 : Lib.compareBytes f1.data.toList f2.data.toList = b2 at *
  generalize hb3 : Lib.compareBytes q1.data.toList q2.data.toList = b3 at *
  clear hb1 hb2 hb3
  have HXY : Hid ((k1 = 4 ∧ x = 0) ∨ ((k1 == 4) = false ∧ x = 1)) := by
    unfold Hid; unfold rankC at hx
    by_cases h : k1 = 4
    · rw [if_pos h] at hx; exact .inl ⟨h, hx.symm⟩
    · rw [if_neg h] at hx; exact .inr ⟨by simpa using h, hx.symm⟩
  have HYY : Hid ((k2 = 4 ∧ y = 0) ∨ ((k2 == 4) = false ∧ y = 1)) := by
    unfold Hid; unfold rankC at hy
    by_cases h : k2 = 4
    · rw [if_pos h] at hy; exact .inl ⟨h, hy.symm⟩
    · rw [if_neg h] at hy; exact .inr ⟨by simpa using h, hy.symm⟩
  clear hx hy
  rcases HXY.out with ⟨rfl, rfl⟩ | ⟨hx1, rfl⟩ <;> rcases HYY.out with ⟨rfl, rfl⟩ | ⟨hy1, rfl⟩ <;> clear HXY HYY
  · go_enter Tryd.func27, Tryd.ntmps27
    go_upto_region 7 with (fail)
    obtain ⟨W, hW⟩ : ∃ W, ((w.alloc (.cells #[.string r1, .string f1, .string q1, .int .i64 t1, .int .i64 4, .int .i64 vk1, .int .i64 vn1, .string s1] 28)).alloc (.cells #[.string r2, .string f2, .string q2, .int .i64 t2, .int .i64 4, .int .i64 vk2, .int .i64 vn2, .string s2] 28)) = W := ⟨_, rfl⟩
    have HT : Hid (TwoC w r1 f1 q1 s1 t1 4 vk1 vn1 r2 f2 q2 s2 t2 4 vk2 vn2 W) := by
      subst hW
      have B1 : Blk (w.alloc (.cells #[Value.string r1, .string f1, .string q1, .int .i64 t1, .int .i64 4, .int .i64 vk1, .int .i64 vn1, .string s1] 28)) w.heap.size 28 #[Value.string r1, .string f1, .string q1, .int .i64 t1, .int .i64 4, .int .i64 vk1, .int .i64 vn1, .string s1] := Blk.new w _ _
      have B2 := B1.keep (below_new _ (.cells #[Value.string r2, .string f2, .string q2, .int .i64 t2, .int .i64 4, .int .i64 vk2, .int .i64 vn2, .string s2] 28)) (by simp)
      have B3 : Blk ((w.alloc (.cells #[Value.string r1, .string f1, .string q1, .int .i64 t1, .int .i64 4, .int .i64 vk1, .int .i64 vn1, .string s1] 28)).alloc (.cells #[Value.string r2, .string f2, .string q2, .int .i64 t2, .int .i64 4, .int .i64 vk2, .int .i64 vn2, .string s2] 28)) (w.heap.size + 1) 28 #[Value.string r2, .string f2, .string q2, .int .i64 t2, .int .i64 4, .int .i64 vk2, .int .i64 vn2, .string s2] := by
        have := Blk.new (w.alloc (.cells #[Value.string r1, .string f1, .string q1, .int .i64 t1, .int .i64 4, .int .i64 vk1, .int .i64 vn1, .string s1] 28)) 28 #[Value.string r2, .string f2, .string q2, .int .i64 t2, .int .i64 4, .int .i64 vk2, .int .i64 vn2, .string s2]
        simpa using this
      exact ⟨hid ⟨(below_new w _).alloc (by simp) _, by simp⟩, B2.cell 0, B2.cell 1, B2.cell 2, B2.cell 3, B2.cell 4, B2.cell 5, B2.cell 6, B2.cell 7, B3.cell 0, B3.cell 1, B3.cell 2, B3.cell 3, B3.cell 4, B3.cell 5, B3.cell 6, B3.cell 7⟩
    rw [hW]
    clear hW
    obtain ⟨h0, c0, c1, c2, c3, c4, c5, c6, c7, d0, d1, d2, d3, d4, d5, d6, d7⟩ := HT.out
    go_region_held3 (fun w' => Hid (Below w.heap.size w w' ∧ w.heap.size + 1 < w'.heap.size) ∧ w'.cell? ⟨w.heap.size, 0, none⟩ = some (.string r1) ∧ w'.cell? ⟨w.heap.size, 1, none⟩ = some (.string f1) ∧ w'.cell? ⟨w.heap.size, 2, none⟩ = some (.string q1) ∧ w'.cell? ⟨w.heap.size, 3, none⟩ = some (.int .i64 t1) ∧ w'.cell? ⟨w.heap.size, 4, none⟩ = some (.int .i64 4) ∧ w'.cell? ⟨w.heap.size, 5, none⟩ = some (.int .i64 vk1) ∧ w'.cell? ⟨w.heap.size, 6, none⟩ = some (.int .i64 vn1) ∧ w'.cell? ⟨w.heap.size, 7, none⟩ = some (.string s1) ∧ w'.cell? ⟨w.heap.size + 1, 0, none⟩ = some (.string r2) ∧ w'.cell? ⟨w.heap.size + 1, 1, none⟩ = some (.string f2) ∧ w'.cell? ⟨w.heap.size + 1, 2, none⟩ = some (.string q2) ∧ w'.cell? ⟨w.heap.size + 1, 3, none⟩ = some (.int .i64 t2) ∧ w'.cell? ⟨w.heap.size + 1, 4, none⟩ = some (.int .i64 4) ∧ w'.cell? ⟨w.heap.size + 1, 5, none⟩ = some (.int .i64 vk2) ∧ w'.cell? ⟨w.heap.size + 1, 6, none⟩ = some (.int .i64 vn2) ∧ w'.cell? ⟨w.heap.size + 1, 7, none⟩ = some (.string s2))
      (first | exact HT.out | exact twoc_drew HT.out | exact twoc_call (by assumption) hbo | exact twoc_drew (by assumption) | assumption | exact twoc_call (by assumption) (below_new _ _) | exact twoc_call (twoc_call (by assumption) (below_new _ _)) hbo)
      (first
        | (go_at_call 77; (first | (with_reducible refine (HTr.out _).mono ?_) | (with_reducible refine (HTf.out _).mono ?_) | (with_reducible refine (HTq.out _).mono ?_)); rintro e w5 ⟨rfl, hbo⟩)
        | (go_at_call 78; ((with_reducible refine (refcmp3_any _ _ _).mono ?_); rintro e w5 ⟨rfl, rfl⟩)))
    rename_i hLast
    have HB : Hid (Below w.heap.size w _) := hid hLast.1.out.1
    clear hLast HTr HTf HTq HT h0 c0 c1 c2 c3 c4 c5 c6 c7 d0 d1 d2 d3 d4 d5 d6 d7 hbo
    obtain ⟨l, hl⟩ : ∃ l : List Int, [b1, b2, Lib.compareInt 0 0, b3, Lib.compareInt t2 t1, Lib.compareInt 4 4] = l := ⟨_, rfl⟩
    have HL : Hid (l.length = 6) := hid (by rw [← hl]; rfl)
    have HC : Hid (∀ i (h : i < l.length), (w5.alloc (.cells #[.int .i64 b1, .int .i64 b2, .int .i64 (Lib.compareInt 0 0), .int .i64 b3, .int .i64 (Lib.compareInt t2 t1), .int .i64 (Lib.compareInt 4 4)] 3)).cell? ⟨w5.heap.size, i, none⟩ = some (.int .i64 l[i])) := by
      subst hl
      refine hid fun i hi => ?_
      rw [(Blk.new w5 3 _).cell i]
      match i, hi with
      | 0, _ => rfl
      | 1, _ => rfl
      | 2, _ => rfl
      | 3, _ => rfl
      | 4, _ => rfl
      | 5, _ => rfl
    have HE := hid hl
    clear hl
    generalize (w5.alloc (.cells #[.int .i64 b1, .int .i64 b2, .int .i64 (Lib.compareInt 0 0), .int .i64 b3, .int .i64 (Lib.compareInt t2 t1), .int .i64 (Lib.compareInt 4 4)] 3)) = V at HB HC ⊢
    generalize w5.heap.size = g at HC ⊢
    go_wp2
    go_loopw [8] (fun vi wr => ∃ i : Nat, i ≤ 6 ∧ vi = .int .i64 i ∧ wr = V ∧ Hid (orI l = orI (l.drop i))) (fun vi _ => 6 - (intOf vi).toNat)
    case atStart => exact ⟨0, Nat.zero_le _, rfl, rfl, rfl⟩
    case round =>
      obtain ⟨i, hi, rfl, rfl, HO⟩ := hrel
      by_cases hlt : i < 6
      · have hil : i < l.length := by rw [HL.out]; exact hlt
        have hc := HC.out i hil
        have HD : Hid (orI l = if l[i] = 0 then orI (l.drop (i + 1)) else l[i]) := by
          unfold Hid
          rw [HO.out, List.drop_eq_getElem_cons hil, orI]
        generalize l[i] = x at hc HD
        by_cases hx : x = 0
        · subst hx
          go_wp2
          go_roundw
          case rel => exact ⟨i + 1, by omega, by go_num, trivial, by unfold Hid; rw [HD.out, if_pos rfl]⟩
          case measure => simp [intOf]; omega
        · have q0 : (x != 0) = true := by simpa using hx
          go_wp2
          go_ret
          refine ⟨?_, HB.out⟩
          rw [HE.out, HD.out, if_neg hx]
          rfl
      · go_wp2
        go_ret
        refine ⟨?_, HB.out⟩
        rw [HE.out, HO.out, List.drop_eq_nil_of_le (by have := HL.out; omega)]
        rfl
  · go_enter Tryd.func27, Tryd.ntmps27
    go_upto_region 7 with (fail)
    obtain ⟨W, hW⟩ : ∃ W, ((w.alloc (.cells #[.string r1, .string f1, .string q1, .int .i64 t1, .int .i64 4, .int .i64 vk1, .int .i64 vn1, .string s1] 28)).alloc (.cells #[.string r2, .string f2, .string q2, .int .i64 t2, .int .i64 k2, .int .i64 vk2, .int .i64 vn2, .string s2] 28)) = W := ⟨_, rfl⟩
    have HT : Hid (TwoC w r1 f1 q1 s1 t1 4 vk1 vn1 r2 f2 q2 s2 t2 k2 vk2 vn2 W) := by
      subst hW
      have B1 : Blk (w.alloc (.cells #[Value.string r1, .string f1, .string q1, .int .i64 t1, .int .i64 4, .int .i64 vk1, .int .i64 vn1, .string s1] 28)) w.heap.size 28 #[Value.string r1, .string f1, .string q1, .int .i64 t1, .int .i64 4, .int .i64 vk1, .int .i64 vn1, .string s1] := Blk.new w _ _
      have B2 := B1.keep (below_new _ (.cells #[Value.string r2, .string f2, .string q2, .int .i64 t2, .int .i64 k2, .int .i64 vk2, .int .i64 vn2, .string s2] 28)) (by simp)
      have B3 : Blk ((w.alloc (.cells #[Value.string r1, .string f1, .string q1, .int .i64 t1, .int .i64 4, .int .i64 vk1, .int .i64 vn1, .string s1] 28)).alloc (.cells #[Value.string r2, .string f2, .string q2, .int .i64 t2, .int .i64 k2, .int .i64 vk2, .int .i64 vn2, .string s2] 28)) (w.heap.size + 1) 28 #[Value.string r2, .string f2, .string q2, .int .i64 t2, .int .i64 k2, .int .i64 vk2, .int .i64 vn2, .string s2] := by
        have := Blk.new (w.alloc (.cells #[Value.string r1, .string f1, .string q1, .int .i64 t1, .int .i64 4, .int .i64 vk1, .int .i64 vn1, .string s1] 28)) 28 #[Value.string r2, .string f2, .string q2, .int .i64 t2, .int .i64 k2, .int .i64 vk2, .int .i64 vn2, .string s2]
        simpa using this
      exact ⟨hid ⟨(below_new w _).alloc (by simp) _, by simp⟩, B2.cell 0, B2.cell 1, B2.cell 2, B2.cell 3, B2.cell 4, B2.cell 5, B2.cell 6, B2.cell 7, B3.cell 0, B3.cell 1, B3.cell 2, B3.cell 3, B3.cell 4, B3.cell 5, B3.cell 6, B3.cell 7⟩
    rw [hW]
    clear hW
    obtain ⟨h0, c0, c1, c2, c3, c4, c5, c6, c7, d0, d1, d2, d3, d4, d5, d6, d7⟩ := HT.out
    go_region_held3 (fun w' => Hid (Below w.heap.size w w' ∧ w.heap.size + 1 < w'.heap.size) ∧ w'.cell? ⟨w.heap.size, 0, none⟩ = some (.string r1) ∧ w'.cell? ⟨w.heap.size, 1, none⟩ = some (.string f1) ∧ w'.cell? ⟨w.heap.size, 2, none⟩ = some (.string q1) ∧ w'.cell? ⟨w.heap.size, 3, none⟩ = some (.int .i64 t1) ∧ w'.cell? ⟨w.heap.size, 4, none⟩ = some (.int .i64 4) ∧ w'.cell? ⟨w.heap.size, 5, none⟩ = some (.int .i64 vk1) ∧ w'.cell? ⟨w.heap.size, 6, none⟩ = some (.int .i64 vn1) ∧ w'.cell? ⟨w.heap.size, 7, none⟩ = some (.string s1) ∧ w'.cell? ⟨w.heap.size + 1, 0, none⟩ = some (.string r2) ∧ w'.cell? ⟨w.heap.size + 1, 1, none⟩ = some (.string f2) ∧ w'.cell? ⟨w.heap.size + 1, 2, none⟩ = some (.string q2) ∧ w'.cell? ⟨w.heap.size + 1, 3, none⟩ = some (.int .i64 t2) ∧ w'.cell? ⟨w.heap.size + 1, 4, none⟩ = some (.int .i64 k2) ∧ w'.cell? ⟨w.heap.size + 1, 5, none⟩ = some (.int .i64 vk2) ∧ w'.cell? ⟨w.heap.size + 1, 6, none⟩ = some (.int .i64 vn2) ∧ w'.cell? ⟨w.heap.size + 1, 7, none⟩ = some (.string s2))
      (first | exact HT.out | exact twoc_drew HT.out | exact twoc_call (by assumption) hbo | exact twoc_drew (by assumption) | assumption | exact twoc_call (by assumption) (below_new _ _) | exact twoc_call (twoc_call (by assumption) (below_new _ _)) hbo)
      (first
        | (go_at_call 77; (first | (with_reducible refine (HTr.out _).mono ?_) | (with_reducible refine (HTf.out _).mono ?_) | (with_reducible refine (HTq.out _).mono ?_)); rintro e w5 ⟨rfl, hbo⟩)
        | (go_at_call 78; ((with_reducible refine (refcmp3_any _ _ _).mono ?_); rintro e w5 ⟨rfl, rfl⟩)))
    rename_i hLast
    have HB : Hid (Below w.heap.size w _) := hid hLast.1.out.1
    clear hLast HTr HTf HTq HT h0 c0 c1 c2 c3 c4 c5 c6 c7 d0 d1 d2 d3 d4 d5 d6 d7 hbo
    obtain ⟨l, hl⟩ : ∃ l : List Int, [b1, b2, Lib.compareInt 0 1, b3, Lib.compareInt t2 t1, Lib.compareInt k2 4] = l := ⟨_, rfl⟩
    have HL : Hid (l.length = 6) := hid (by rw [← hl]; rfl)
    have HC : Hid (∀ i (h : i < l.length), (w5.alloc (.cells #[.int .i64 b1, .int .i64 b2, .int .i64 (Lib.compareInt 0 1), .int .i64 b3, .int .i64 (Lib.compareInt t2 t1), .int .i64 (Lib.compareInt k2 4)] 3)).cell? ⟨w5.heap.size, i, none⟩ = some (.int .i64 l[i])) := by
      subst hl
      refine hid fun i hi => ?_
      rw [(Blk.new w5 3 _).cell i]
      match i, hi with
      | 0, _ => rfl
      | 1, _ => rfl
      | 2, _ => rfl
      | 3, _ => rfl
      | 4, _ => rfl
      | 5, _ => rfl
    have HE := hid hl
    clear hl
    generalize (w5.alloc (.cells #[.int .i64 b1, .int .i64 b2, .int .i64 (Lib.compareInt 0 1), .int .i64 b3, .int .i64 (Lib.compareInt t2 t1), .int .i64 (Lib.compareInt k2 4)] 3)) = V at HB HC ⊢
    generalize w5.heap.size = g at HC ⊢
    go_wp2
    go_loopw [8] (fun vi wr => ∃ i : Nat, i ≤ 6 ∧ vi = .int .i64 i ∧ wr = V ∧ Hid (orI l = orI (l.drop i))) (fun vi _ => 6 - (intOf vi).toNat)
    case atStart => exact ⟨0, Nat.zero_le _, rfl, rfl, rfl⟩
    case round =>
      obtain ⟨i, hi, rfl, rfl, HO⟩ := hrel
      by_cases hlt : i < 6
      · have hil : i < l.length := by rw [HL.out]; exact hlt
        have hc := HC.out i hil
        have HD : Hid (orI l = if l[i] = 0 then orI (l.drop (i + 1)) else l[i]) := by
          unfold Hid
          rw [HO.out, List.drop_eq_getElem_cons hil, orI]
        generalize l[i] = x at hc HD
        by_cases hx : x = 0
        · subst hx
          go_wp2
          go_roundw
          case rel => exact ⟨i + 1, by omega, by go_num, trivial, by unfold Hid; rw [HD.out, if_pos rfl]⟩
          case measure => simp [intOf]; omega
        · have q0 : (x != 0) = true := by simpa using hx
          go_wp2
          go_ret
          refine ⟨?_, HB.out⟩
          rw [HE.out, HD.out, if_neg hx]
          rfl
      · go_wp2
        go_ret
        refine ⟨?_, HB.out⟩
        rw [HE.out, HO.out, List.drop_eq_nil_of_le (by have := HL.out; omega)]
        rfl
  · go_enter Tryd.func27, Tryd.ntmps27
    go_upto_region 7 with (fail)
    obtain ⟨W, hW⟩ : ∃ W, ((w.alloc (.cells #[.string r1, .string f1, .string q1, .int .i64 t1, .int .i64 k1, .int .i64 vk1, .int .i64 vn1, .string s1] 28)).alloc (.cells #[.string r2, .string f2, .string q2, .int .i64 t2, .int .i64 4, .int .i64 vk2, .int .i64 vn2, .string s2] 28)) = W := ⟨_, rfl⟩
    have HT : Hid (TwoC w r1 f1 q1 s1 t1 k1 vk1 vn1 r2 f2 q2 s2 t2 4 vk2 vn2 W) := by
      subst hW
      have B1 : Blk (w.alloc (.cells #[Value.string r1, .string f1, .string q1, .int .i64 t1, .int .i64 k1, .int .i64 vk1, .int .i64 vn1, .string s1] 28)) w.heap.size 28 #[Value.string r1, .string f1, .string q1, .int .i64 t1, .int .i64 k1, .int .i64 vk1, .int .i64 vn1, .string s1] := Blk.new w _ _
      have B2 := B1.keep (below_new _ (.cells #[Value.string r2, .string f2, .string q2, .int .i64 t2, .int .i64 4, .int .i64 vk2, .int .i64 vn2, .string s2] 28)) (by simp)
      have B3 : Blk ((w.alloc (.cells #[Value.string r1, .string f1, .string q1, .int .i64 t1, .int .i64 k1, .int .i64 vk1, .int .i64 vn1, .string s1] 28)).alloc (.cells #[Value.string r2, .string f2, .string q2, .int .i64 t2, .int .i64 4, .int .i64 vk2, .int .i64 vn2, .string s2] 28)) (w.heap.size + 1) 28 #[Value.string r2, .string f2, .string q2, .int .i64 t2, .int .i64 4, .int .i64 vk2, .int .i64 vn2, .string s2] := by
        have := Blk.new (w.alloc (.cells #[Value.string r1, .string f1, .string q1, .int .i64 t1, .int .i64 k1, .int .i64 vk1, .int .i64 vn1, .string s1] 28)) 28 #[Value.string r2, .string f2, .string q2, .int .i64 t2, .int .i64 4, .int .i64 vk2, .int .i64 vn2, .string s2]
        simpa using this
      exact ⟨hid ⟨(below_new w _).alloc (by simp) _, by simp⟩, B2.cell 0, B2.cell 1, B2.cell 2, B2.cell 3, B2.cell 4, B2.cell 5, B2.cell 6, B2.cell 7, B3.cell 0, B3.cell 1, B3.cell 2, B3.cell 3, B3.cell 4, B3.cell 5, B3.cell 6, B3.cell 7⟩
    rw [hW]
    clear hW
    obtain ⟨h0, c0, c1, c2, c3, c4, c5, c6, c7, d0, d1, d2, d3, d4, d5, d6, d7⟩ := HT.out
    go_region_held3 (fun w' => Hid (Below w.heap.size w w' ∧ w.heap.size + 1 < w'.heap.size) ∧ w'.cell? ⟨w.heap.size, 0, none⟩ = some (.string r1) ∧ w'.cell? ⟨w.heap.size, 1, none⟩ = some (.string f1) ∧ w'.cell? ⟨w.heap.size, 2, none⟩ = some (.string q1) ∧ w'.cell? ⟨w.heap.size, 3, none⟩ = some (.int .i64 t1) ∧ w'.cell? ⟨w.heap.size, 4, none⟩ = some (.int .i64 k1) ∧ w'.cell? ⟨w.heap.size, 5, none⟩ = some (.int .i64 vk1) ∧ w'.cell? ⟨w.heap.size, 6, none⟩ = some (.int .i64 vn1) ∧ w'.cell? ⟨w.heap.size, 7, none⟩ = some (.string s1) ∧ w'.cell? ⟨w.heap.size + 1, 0, none⟩ = some (.string r2) ∧ w'.cell? ⟨w.heap.size + 1, 1, none⟩ = some (.string f2) ∧ w'.cell? ⟨w.heap.size + 1, 2, none⟩ = some (.string q2) ∧ w'.cell? ⟨w.heap.size + 1, 3, none⟩ = some (.int .i64 t2) ∧ w'.cell? ⟨w.heap.size + 1, 4, none⟩ = some (.int .i64 4) ∧ w'.cell? ⟨w.heap.size + 1, 5, none⟩ = some (.int .i64 vk2) ∧ w'.cell? ⟨w.heap.size + 1, 6, none⟩ = some (.int .i64 vn2) ∧ w'.cell? ⟨w.heap.size + 1, 7, none⟩ = some (.string s2))
      (first | exact HT.out | exact twoc_drew HT.out | exact twoc_call (by assumption) hbo | exact twoc_drew (by assumption) | assumption | exact twoc_call (by assumption) (below_new _ _) | exact twoc_call (twoc_call (by assumption) (below_new _ _)) hbo)
      (first
        | (go_at_call 77; (first | (with_reducible refine (HTr.out _).mono ?_) | (with_reducible refine (HTf.out _).mono ?_) | (with_reducible refine (HTq.out _).mono ?_)); rintro e w5 ⟨rfl, hbo⟩)
        | (go_at_call 78; ((with_reducible refine (refcmp3_any _ _ _).mono ?_); rintro e w5 ⟨rfl, rfl⟩)))
    rename_i hLast
    have HB : Hid (Below w.heap.size w _) := hid hLast.1.out.1
    clear hLast HTr HTf HTq HT h0 c0 c1 c2 c3 c4 c5 c6 c7 d0 d1 d2 d3 d4 d5 d6 d7 hbo
    obtain ⟨l, hl⟩ : ∃ l : List Int, [b1, b2, Lib.compareInt 1 0, b3, Lib.compareInt t2 t1, Lib.compareInt 4 k1] = l := ⟨_, rfl⟩
    have HL : Hid (l.length = 6) := hid (by rw [← hl]; rfl)
    have HC : Hid (∀ i (h : i < l.length), (w5.alloc (.cells #[.int .i64 b1, .int .i64 b2, .int .i64 (Lib.compareInt 1 0), .int .i64 b3, .int .i64 (Lib.compareInt t2 t1), .int .i64 (Lib.compareInt 4 k1)] 3)).cell? ⟨w5.heap.size, i, none⟩ = some (.int .i64 l[i])) := by
      subst hl
      refine hid fun i hi => ?_
      rw [(Blk.new w5 3 _).cell i]
      match i, hi with
      | 0, _ => rfl
      | 1, _ => rfl
      | 2, _ => rfl
      | 3, _ => rfl
      | 4, _ => rfl
      | 5, _ => rfl
    have HE := hid hl
    clear hl
    generalize (w5.alloc (.cells #[.int .i64 b1, .int .i64 b2, .int .i64 (Lib.compareInt 1 0), .int .i64 b3, .int .i64 (Lib.compareInt t2 t1), .int .i64 (Lib.compareInt 4 k1)] 3)) = V at HB HC ⊢
    generalize w5.heap.size = g at HC ⊢
    go_wp2
    go_loopw [8] (fun vi wr => ∃ i : Nat, i ≤ 6 ∧ vi = .int .i64 i ∧ wr = V ∧ Hid (orI l = orI (l.drop i))) (fun vi _ => 6 - (intOf vi).toNat)
    case atStart => exact ⟨0, Nat.zero_le _, rfl, rfl, rfl⟩
    case round =>
      obtain ⟨i, hi, rfl, rfl, HO⟩ := hrel
      by_cases hlt : i < 6
      · have hil : i < l.length := by rw [HL.out]; exact hlt
        have hc := HC.out i hil
        have HD : Hid (orI l = if l[i] = 0 then orI (l.drop (i + 1)) else l[i]) := by
          unfold Hid
          rw [HO.out, List.drop_eq_getElem_cons hil, orI]
        generalize l[i] = x at hc HD
        by_cases hx : x = 0
        · subst hx
          go_wp2
          go_roundw
          case rel => exact ⟨i + 1, by omega, by go_num, trivial, by unfold Hid; rw [HD.out, if_pos rfl]⟩
          case measure => simp [intOf]; omega
        · have q0 : (x != 0) = true := by simpa using hx
          go_wp2
          go_ret
          refine ⟨?_, HB.out⟩
          rw [HE.out, HD.out, if_neg hx]
          rfl
      · go_wp2
        go_ret
        refine ⟨?_, HB.out⟩
        rw [HE.out, HO.out, List.drop_eq_nil_of_le (by have := HL.out; omega)]
        rfl
  · go_enter Tryd.func27, Tryd.ntmps27
    go_upto_region 7 with (fail)
    obtain ⟨W, hW⟩ : ∃ W, ((w.alloc (.cells #[.string r1, .string f1, .string q1, .int .i64 t1, .int .i64 k1, .int .i64 vk1, .int .i64 vn1, .string s1] 28)).alloc (.cells #[.string r2, .string f2, .string q2, .int .i64 t2, .int .i64 k2, .int .i64 vk2, .int .i64 vn2, .string s2] 28)) = W := ⟨_, rfl⟩
    have HT : Hid (TwoC w r1 f1 q1 s1 t1 k1 vk1 vn1 r2 f2 q2 s2 t2 k2 vk2 vn2 W) := by
      subst hW
      have B1 : Blk (w.alloc (.cells #[Value.string r1, .string f1, .string q1, .int .i64 t1, .int .i64 k1, .int .i64 vk1, .int .i64 vn1, .string s1] 28)) w.heap.size 28 #[Value.string r1, .string f1, .string q1, .int .i64 t1, .int .i64 k1, .int .i64 vk1, .int .i64 vn1, .string s1] := Blk.new w _ _
      have B2 := B1.keep (below_new _ (.cells #[Value.string r2, .string f2, .string q2, .int .i64 t2, .int .i64 k2, .int .i64 vk2, .int .i64 vn2, .string s2] 28)) (by simp)
      have B3 : Blk ((w.alloc (.cells #[Value.string r1, .string f1, .string q1, .int .i64 t1, .int .i64 k1, .int .i64 vk1, .int .i64 vn1, .string s1] 28)).alloc (.cells #[Value.string r2, .string f2, .string q2, .int .i64 t2, .int .i64 k2, .int .i64 vk2, .int .i64 vn2, .string s2] 28)) (w.heap.size + 1) 28 #[Value.string r2, .string f2, .string q2, .int .i64 t2, .int .i64 k2, .int .i64 vk2, .int .i64 vn2, .string s2] := by
        have := Blk.new (w.alloc (.cells #[Value.string r1, .string f1, .string q1, .int .i64 t1, .int .i64 k1, .int .i64 vk1, .int .i64 vn1, .string s1] 28)) 28 #[Value.string r2, .string f2, .string q2, .int .i64 t2, .int .i64 k2, .int .i64 vk2, .int .i64 vn2, .string s2]
        simpa using this
      exact ⟨hid ⟨(below_new w _).alloc (by simp) _, by simp⟩, B2.cell 0, B2.cell 1, B2.cell 2, B2.cell 3, B2.cell 4, B2.cell 5, B2.cell 6, B2.cell 7, B3.cell 0, B3.cell 1, B3.cell 2, B3.cell 3, B3.cell 4, B3.cell 5, B3.cell 6, B3.cell 7⟩
    rw [hW]
    clear hW
    obtain ⟨h0, c0, c1, c2, c3, c4, c5, c6, c7, d0, d1, d2, d3, d4, d5, d6, d7⟩ := HT.out
    go_region_held3 (fun w' => Hid (Below w.heap.size w w' ∧ w.heap.size + 1 < w'.heap.size) ∧ w'.cell? ⟨w.heap.size, 0, none⟩ = some (.string r1) ∧ w'.cell? ⟨w.heap.size, 1, none⟩ = some (.string f1) ∧ w'.cell? ⟨w.heap.size, 2, none⟩ = some (.string q1) ∧ w'.cell? ⟨w.heap.size, 3, none⟩ = some (.int .i64 t1) ∧ w'.cell? ⟨w.heap.size, 4, none⟩ = some (.int .i64 k1) ∧ w'.cell? ⟨w.heap.size, 5, none⟩ = some (.int .i64 vk1) ∧ w'.cell? ⟨w.heap.size, 6, none⟩ = some (.int .i64 vn1) ∧ w'.cell? ⟨w.heap.size, 7, none⟩ = some (.string s1) ∧ w'.cell? ⟨w.heap.size + 1, 0, none⟩ = some (.string r2) ∧ w'.cell? ⟨w.heap.size + 1, 1, none⟩ = some (.string f2) ∧ w'.cell? ⟨w.heap.size + 1, 2, none⟩ = some (.string q2) ∧ w'.cell? ⟨w.heap.size + 1, 3, none⟩ = some (.int .i64 t2) ∧ w'.cell? ⟨w.heap.size + 1, 4, none⟩ = some (.int .i64 k2) ∧ w'.cell? ⟨w.heap.size + 1, 5, none⟩ = some (.int .i64 vk2) ∧ w'.cell? ⟨w.heap.size + 1, 6, none⟩ = some (.int .i64 vn2) ∧ w'.cell? ⟨w.heap.size + 1, 7, none⟩ = some (.string s2))
      (first | exact HT.out | exact twoc_drew HT.out | exact twoc_call (by assumption) hbo | exact twoc_drew (by assumption) | assumption | exact twoc_call (by assumption) (below_new _ _) | exact twoc_call (twoc_call (by assumption) (below_new _ _)) hbo)
      (first
        | (go_at_call 77; (first | (with_reducible refine (HTr.out _).mono ?_) | (with_reducible refine (HTf.out _).mono ?_) | (with_reducible refine (HTq.out _).mono ?_)); rintro e w5 ⟨rfl, hbo⟩)
        | (go_at_call 78; ((with_reducible refine (refcmp3_any _ _ _).mono ?_); rintro e w5 ⟨rfl, rfl⟩)))
    rename_i hLast
    have HB : Hid (Below w.heap.size w _) := hid hLast.1.out.1
    clear hLast HTr HTf HTq HT h0 c0 c1 c2 c3 c4 c5 c6 c7 d0 d1 d2 d3 d4 d5 d6 d7 hbo
    obtain ⟨l, hl⟩ : ∃ l : List Int, [b1, b2, Lib.compareInt 1 1, b3, Lib.compareInt t2 t1, Lib.compareInt k2 k1] = l := ⟨_, rfl⟩
    have HL : Hid (l.length = 6) := hid (by rw [← hl]; rfl)
    have HC : Hid (∀ i (h : i < l.length), (w5.alloc (.cells #[.int .i64 b1, .int .i64 b2, .int .i64 (Lib.compareInt 1 1), .int .i64 b3, .int .i64 (Lib.compareInt t2 t1), .int .i64 (Lib.compareInt k2 k1)] 3)).cell? ⟨w5.heap.size, i, none⟩ = some (.int .i64 l[i])) := by
      subst hl
      refine hid fun i hi => ?_
      rw [(Blk.new w5 3 _).cell i]
      match i, hi with
      | 0, _ => rfl
      | 1, _ => rfl
      | 2, _ => rfl
      | 3, _ => rfl
      | 4, _ => rfl
      | 5, _ => rfl
    have HE := hid hl
    clear hl
    generalize (w5.alloc (.cells #[.int .i64 b1, .int .i64 b2, .int .i64 (Lib.compareInt 1 1), .int .i64 b3, .int .i64 (Lib.compareInt t2 t1), .int .i64 (Lib.compareInt k2 k1)] 3)) = V at HB HC ⊢
    generalize w5.heap.size = g at HC ⊢
    go_wp2
    go_loopw [8] (fun vi wr => ∃ i : Nat, i ≤ 6 ∧ vi = .int .i64 i ∧ wr = V ∧ Hid (orI l = orI (l.drop i))) (fun vi _ => 6 - (intOf vi).toNat)
    case atStart => exact ⟨0, Nat.zero_le _, rfl, rfl, rfl⟩
    case round =>
      obtain ⟨i, hi, rfl, rfl, HO⟩ := hrel
      by_cases hlt : i < 6
      · have hil : i < l.length := by rw [HL.out]; exact hlt
        have hc := HC.out i hil
        have HD : Hid (orI l = if l[i] = 0 then orI (l.drop (i + 1)) else l[i]) := by
          unfold Hid
          rw [HO.out, List.drop_eq_getElem_cons hil, orI]
        generalize l[i] = x at hc HD
        by_cases hx : x = 0
        · subst hx
          go_wp2
          go_roundw
          case rel => exact ⟨i + 1, by omega, by go_num, trivial, by unfold Hid; rw [HD.out, if_pos rfl]⟩
          case measure => simp [intOf]; omega
        · have q0 : (x != 0) = true := by simpa using hx
          go_wp2
          go_ret
          refine ⟨?_, HB.out⟩
          rw [HE.out, HD.out, if_neg hx]
          rfl
      · go_wp2
        go_ret
        refine ⟨?_, HB.out⟩
        rw [HE.out, HO.out, List.drop_eq_nil_of_le (by have := HL.out; omega)]
        rfl

end Go.Proofs.YtdjaofbjmnmlbaaDoor

/- The document's Right and Order at cells that the laws look at; a list's cells as words. Conditions: as each theorem names them. -/
namespace Go.Proofs.YtdjaofbjmnmlbaaDoor
open Go.RowKit

/-- A cell that the laws look at. -/
def Sm (c : CT) : Prop := okC c ∧ c.r.size ≤ 60 ∧ c.f.size ≤ 60 ∧ c.q.size ≤ 60 ∧ c.s.size ≤ 100
theorem reforder_ct (x y : CT) (hx : Sm x) (hy : Sm y) (w : World) :
    Calls Tryd.prog 27 #[x.v, y.v] w fun e w' => e = .returned (.int .i64 (CT.cmp x y)) ∧ Below w.heap.size w w' := by
  obtain ⟨_, h1, h2, h3, _⟩ := hx
  obtain ⟨_, g1, g2, g3, _⟩ := hy
  exact refcorder_any x.r x.f x.q x.s x.t x.k x.vk x.vn y.r y.f y.q y.s y.t y.k y.vk y.vn (by omega) (by omega) (by omega) (by omega) (by omega) (by omega) w
theorem refright_ct (c : CT) (hc : Sm c) (w : World) : Calls Tryd.prog 26 #[c.v] w fun e w' => e = .returned (.bool c.ok) ∧ Below w.heap.size w w' :=
  refcright_any c.r c.f c.q c.s c.t c.k c.vk c.vn (by have := hc.2.2.1; omega) (by have := hc.2.2.2.2; omega) w
theorem longC_sm {l : List CT} (h : longC l = false) (hv : ∀ c ∈ l, inI c.vn) : l.length ≤ 60 ∧ ∀ c ∈ l, Sm c := by
  unfold longC at h
  rw [Bool.or_eq_false_iff] at h
  obtain ⟨h1, h2⟩ := h
  have h1 := of_decide_eq_false h1
  refine ⟨by omega, fun c hc => ?_⟩
  have h3 : longC1 c = false := by
    cases e : longC1 c with
    | false => rfl
    | true =>
      rw [List.any_eq_true.2 ⟨c, hc, e⟩] at h2
      cases h2
  unfold longC1 at h3
  simp only [Bool.or_eq_false_iff, decide_eq_false_iff_not] at h3
  exact ⟨⟨by omega, by omega, hv c hc⟩, by omega, by omega, by omega, by omega⟩
theorem ct_words {w : World} {b off : Nat} {l : List CT} (h : HC w b off l) (i : Nat) {c : CT} (hc : l[i]? = some c) : w.cell? ⟨b, off + i * 8, none⟩ = some (.string c.r) ∧ w.cell? ⟨b, off + i * 8 + 1, none⟩ = some (.string c.f) ∧ w.cell? ⟨b, off + i * 8 + 2, none⟩ = some (.string c.q) ∧ w.cell? ⟨b, off + i * 8 + 3, none⟩ = some (.int .i64 c.t) ∧ w.cell? ⟨b, off + i * 8 + 4, none⟩ = some (.int .i64 c.k) ∧ w.cell? ⟨b, off + i * 8 + 5, none⟩ = some (.int .i64 c.vk) ∧ w.cell? ⟨b, off + i * 8 + 6, none⟩ = some (.int .i64 c.vn) ∧ w.cell? ⟨b, off + i * 8 + 7, none⟩ = some (.string c.s) := by
  obtain ⟨hi, hc⟩ := List.getElem?_eq_some_iff.1 hc
  rw [← hc]
  exact h.words i hi
theorem rise_at {s : List CT} {i : Nat} {b c : CT} (h : s.Pairwise (fun x y => CT.cmp x y < 0)) (hb : s[i]? = some b) (hc : s[i + 1]? = some c) : CT.cmp b c < 0 := by
  obtain ⟨hi, rfl⟩ := List.getElem?_eq_some_iff.1 hb
  obtain ⟨hj, rfl⟩ := List.getElem?_eq_some_iff.1 hc
  exact List.pairwise_iff_getElem.1 h i (i + 1) hi hj (by omega)
/-- The law's own cell stands. -/
def DW (W : World) (g : Nat) (d : CT) : Prop := Blk W g 28 d.e.toArray
theorem DW.words {W : World} {g : Nat} {d : CT} (h : DW W g d) : W.cell? ⟨g, 0, none⟩ = some (.string d.r) ∧ W.cell? ⟨g, 1, none⟩ = some (.string d.f) ∧ W.cell? ⟨g, 2, none⟩ = some (.string d.q) ∧ W.cell? ⟨g, 3, none⟩ = some (.int .i64 d.t) ∧ W.cell? ⟨g, 4, none⟩ = some (.int .i64 d.k) ∧ W.cell? ⟨g, 5, none⟩ = some (.int .i64 d.vk) ∧ W.cell? ⟨g, 6, none⟩ = some (.int .i64 d.vn) ∧ W.cell? ⟨g, 7, none⟩ = some (.string d.s) := by
  have h : Blk W g 28 d.e.toArray := h
  exact ⟨h.cell 0, h.cell 1, h.cell 2, h.cell 3, h.cell 4, h.cell 5, h.cell 6, h.cell 7⟩
theorem DW.below {W W' : World} {g : Nat} {d : CT} (h : DW W g d) (hb : Below W.heap.size W W') : DW W' g d := Blk.keep h hb (Blk.lt h)

theorem ct_dw {W : World} {G : Nat} {d : CT} (h : DW W G d) (j : Nat) (u : Value) (hu : d.e[j]? = some u) : W.cell? ((⟨G, 0, Option.none⟩ : Addr).add j) = some u := by
  have h : Blk W G 28 d.e.toArray := h
  rw [add_zero_off, Nat.zero_add, h.cell, List.getElem?_toArray]
  exact hu
theorem DW.keep {W W' : World} {g B : Nat} {d : CT} (h : DW W g d) (hb : Below B W W') (hg : g < B) : DW W' g d := Blk.keep h hb hg

section
variable {W0 W W' : World} {b o p : Nat} {x y : CT}
/-- Two cells of one list, in a region that draws. -/
abbrev PairW (W0 : World) (b o p : Nat) (x y : CT) (W : World) : Prop := Hid (Below W0.heap.size W0 W ∧ b < W0.heap.size) ∧ (W.cell? ⟨b, o, none⟩ = some (.string x.r) ∧ W.cell? ⟨b, o + 1, none⟩ = some (.string x.f) ∧ W.cell? ⟨b, o + 2, none⟩ = some (.string x.q) ∧ W.cell? ⟨b, o + 3, none⟩ = some (.int .i64 x.t) ∧ W.cell? ⟨b, o + 4, none⟩ = some (.int .i64 x.k) ∧ W.cell? ⟨b, o + 5, none⟩ = some (.int .i64 x.vk) ∧ W.cell? ⟨b, o + 6, none⟩ = some (.int .i64 x.vn) ∧ W.cell? ⟨b, o + 7, none⟩ = some (.string x.s)) ∧ (W.cell? ⟨b, p, none⟩ = some (.string y.r) ∧ W.cell? ⟨b, p + 1, none⟩ = some (.string y.f) ∧ W.cell? ⟨b, p + 2, none⟩ = some (.string y.q) ∧ W.cell? ⟨b, p + 3, none⟩ = some (.int .i64 y.t) ∧ W.cell? ⟨b, p + 4, none⟩ = some (.int .i64 y.k) ∧ W.cell? ⟨b, p + 5, none⟩ = some (.int .i64 y.vk) ∧ W.cell? ⟨b, p + 6, none⟩ = some (.int .i64 y.vn) ∧ W.cell? ⟨b, p + 7, none⟩ = some (.string y.s))
theorem pair_drew (h : PairW W0 b o p x y W) : PairW W0 b o p x y W.drew := ⟨hid ⟨h.1.out.1.drew, h.1.out.2⟩, h.2⟩
theorem pair_call (h : PairW W0 b o p x y W) (hb : Below W.heap.size W W') : PairW W0 b o p x y W' := by
  obtain ⟨hh, ⟨a0, a1, a2, a3, a4, a5, a6, a7⟩, ⟨b0, b1, b2, b3, b4, b5, b6, b7⟩⟩ := h
  obtain ⟨hbw, h2⟩ := hh.out
  have hz := hbw.size
  have hc : ∀ b o, b < W0.heap.size → W'.cell? ⟨b, o, none⟩ = W.cell? ⟨b, o, none⟩ := fun b o h => hb.cell (p := ⟨b, o, none⟩) (show b < W.heap.size by omega)
  refine ⟨hid ⟨hbw.trans (hb.mono hz), h2⟩, ⟨?_, ?_, ?_, ?_, ?_, ?_, ?_, ?_⟩, ⟨?_, ?_, ?_, ?_, ?_, ?_, ?_, ?_⟩⟩ <;> (rw [hc _ _ (by omega)]; assumption)
/-- One cell of a list, in a region that draws. -/
abbrev SingW (W0 : World) (b o : Nat) (x : CT) (W : World) : Prop := Hid (Below W0.heap.size W0 W ∧ b < W0.heap.size) ∧ (W.cell? ⟨b, o, none⟩ = some (.string x.r) ∧ W.cell? ⟨b, o + 1, none⟩ = some (.string x.f) ∧ W.cell? ⟨b, o + 2, none⟩ = some (.string x.q) ∧ W.cell? ⟨b, o + 3, none⟩ = some (.int .i64 x.t) ∧ W.cell? ⟨b, o + 4, none⟩ = some (.int .i64 x.k) ∧ W.cell? ⟨b, o + 5, none⟩ = some (.int .i64 x.vk) ∧ W.cell? ⟨b, o + 6, none⟩ = some (.int .i64 x.vn) ∧ W.cell? ⟨b, o + 7, none⟩ = some (.string x.s))
theorem sing_drew (h : SingW W0 b o x W) : SingW W0 b o x W.drew := ⟨hid ⟨h.1.out.1.drew, h.1.out.2⟩, h.2⟩
theorem sing_call (h : SingW W0 b o x W) (hb : Below W.heap.size W W') : SingW W0 b o x W' := by
  obtain ⟨hh, ⟨a0, a1, a2, a3, a4, a5, a6, a7⟩⟩ := h
  obtain ⟨hbw, h2⟩ := hh.out
  have hz := hbw.size
  have hc : ∀ b o, b < W0.heap.size → W'.cell? ⟨b, o, none⟩ = W.cell? ⟨b, o, none⟩ := fun b o h => hb.cell (p := ⟨b, o, none⟩) (show b < W.heap.size by omega)
  refine ⟨hid ⟨hbw.trans (hb.mono hz), h2⟩, ⟨?_, ?_, ?_, ?_, ?_, ?_, ?_, ?_⟩⟩ <;> (rw [hc _ _ (by omega)]; assumption)
end
end Go.Proofs.YtdjaofbjmnmlbaaDoor

/- What layer 7's laws lean on: a list's cells as words; how many bytes cells have together; the document's Encode of a right cell. Conditions: as each theorem names them. -/
namespace Go.Proofs.YtdjaofbjmnmlbaaDoor
open Go.RowKit

theorem bytesL_app (p q : List CT) : bytesL (p ++ q) = bytesL p + bytesL q := by
  unfold bytesL
  rw [List.map_append, List.sum_append]
theorem refE_yes (c : CT) (hok : c.ok = true) (ho : okC c) (hs : c.s.size ≤ 1000) (w : World) :
    Calls Tryd.prog 53 #[c.v] w fun e w' => ∃ g cap, e = .returned (.tuple #[.slice (some ⟨g, 0, none⟩) (encL c) cap, .bool true]) ∧ Below w.heap.size w w' := by
  obtain ⟨h1, h2, h3⟩ := ok_small hok
  refine (refenc_yes c.r c.f c.q c.s c.t c.k c.vk ho.2.2 (by omega) (by omega) (by omega) (by omega) w hok).mono fun e w' ⟨v, he, hr, hb⟩ => ?_
  have hp : 0 < (cEnc c.r.data.toList c.f.data.toList c.q.data.toList c.t c.k c.vk c.vn c.s.data.toList).length := by
    unfold cEnc keyM
    simp only [List.length_append, List.length_cons]
    omega
  obtain ⟨g, cap, rfl, _⟩ := hr.form hp
  exact ⟨g, cap, he, hb⟩
end Go.Proofs.YtdjaofbjmnmlbaaDoor

/- Cells of a row of the call's own change places; the low ten bits of a number. Conditions: as each theorem names them. -/
namespace Go.Proofs.YtdjaofbjmnmlbaaDoor
open Go.RowKit

theorem and_1023 (z : Int) : 0 ≤ bits .and .i64 z 1023 ∧ bits .and .i64 z 1023 ≤ 1023 := by
  have h : (BitVec.ofInt 64 z &&& BitVec.ofInt 64 1023).toNat ≤ 1023 := by
    rw [BitVec.toNat_and]
    exact Nat.and_le_right
  show 0 ≤ IntKind.i64.wrap ((BitVec.ofInt 64 z &&& BitVec.ofInt 64 1023).toNat : Int) ∧ IntKind.i64.wrap ((BitVec.ofInt 64 z &&& BitVec.ofInt 64 1023).toNat : Int) ≤ 1023
  rw [IntKind.wrap_i64]
  omega

/-- A row of the call's own, by its block. -/
def RowB (W : World) (g cap : Nat) (m : List CT) : Prop := ∃ cur : Array Value, Blk W g 28 cur ∧ cur.size = cap * 8 ∧ m.length ≤ cap ∧ cap ≤ maxLen ∧ cur.toList.take (m.length * 8) = flatC m
theorem RowB.of {W : World} {B g n cap : Nat} {m : List CT} (h : CRow W B (.slice (some ⟨g, 0, none⟩) n cap) m) : RowB W g cap m ∧ B ≤ g := by
  obtain ⟨h1, h2⟩ := h
  rcases h2 with ⟨e, _⟩ | ⟨g', cap', cur, e, hB, hb, q1, q2, q3, q4⟩
  · cases e
  · cases e
    exact ⟨⟨cur, hb, q3, q1, q2, q4⟩, hB⟩
theorem RowB.row {W : World} {B g cap : Nat} {m : List CT} (h : RowB W g cap m) (hB : B ≤ g) : CRow W B (.slice (some ⟨g, 0, none⟩) m.length cap) m := by
  obtain ⟨cur, hb, q3, q1, q2, q4⟩ := h
  exact ⟨flatC_len m, .inr ⟨g, cap, cur, rfl, hB, hb, q1, q2, q3, q4⟩⟩
theorem crow_rowB {W : World} {B n c : Nat} {A : Option Addr} {m : List CT} (h : CRow W B (.slice A n c) m) (h0 : 0 < m.length) : ∃ g, A = some ⟨g, 0, none⟩ ∧ RowB W g c m ∧ B ≤ g ∧ n = m.length := by
  rcases h.2 with ⟨_, e⟩ | ⟨g, cap, cur, e, hB, hb, q1, q2, q3, q4⟩
  · omega
  · cases e
    exact ⟨g, rfl, ⟨cur, hb, q3, q1, q2, q4⟩, hB, rfl⟩
theorem RowB.lt {W : World} {g cap : Nat} {m : List CT} (h : RowB W g cap m) : g < W.heap.size := by
  obtain ⟨cur, hb, _⟩ := h
  exact hb.lt
theorem RowB.keep {W W' : World} {g cap : Nat} {m : List CT} (h : RowB W g cap m) (hb : Below W.heap.size W W') : RowB W' g cap m := by
  obtain ⟨cur, h1, h2⟩ := h
  exact ⟨cur, h1.keep hb h1.lt, h2⟩
theorem RowB.words {W : World} {g cap : Nat} {m : List CT} (h : RowB W g cap m) (i : Nat) (hi : i < m.length) :
    W.cell? ⟨g, i * 8, none⟩ = some (.string m[i].r) ∧ W.cell? ⟨g, i * 8 + 1, none⟩ = some (.string m[i].f) ∧ W.cell? ⟨g, i * 8 + 2, none⟩ = some (.string m[i].q) ∧ W.cell? ⟨g, i * 8 + 3, none⟩ = some (.int .i64 m[i].t) ∧ W.cell? ⟨g, i * 8 + 4, none⟩ = some (.int .i64 m[i].k) ∧ W.cell? ⟨g, i * 8 + 5, none⟩ = some (.int .i64 m[i].vk) ∧ W.cell? ⟨g, i * 8 + 6, none⟩ = some (.int .i64 m[i].vn) ∧ W.cell? ⟨g, i * 8 + 7, none⟩ = some (.string m[i].s) := by
  have hc := (h.row (Nat.zero_le _)).hc
  have := hc.words i hi
  simp only [Nat.zero_add] at this
  exact this
theorem RowB.free {W : World} {g cap : Nat} {m : List CT} (h : RowB W g cap m) (o : Nat) : W.frozen? ⟨g, o, none⟩ = false := by
  obtain ⟨cur, hb, _⟩ := h
  exact hb.free o
/-- So many words of a block of the call's own. -/
def OwnB (W : World) (g n : Nat) : Prop := ∃ cur : Array Value, Blk W g 28 cur ∧ n ≤ cur.size
theorem RowB.own {W : World} {g cap : Nat} {m : List CT} (h : RowB W g cap m) : OwnB W g (m.length * 8) := by
  obtain ⟨cur, hb, q3, q1, q2, q4⟩ := h
  exact ⟨cur, hb, by omega⟩
theorem OwnB.set {W : World} {g n : Nat} (h : OwnB W g n) (p : Nat) (v : Value) : OwnB (W.setCell ⟨g, p, none⟩ v) g n := by
  obtain ⟨cur, hb, q⟩ := h
  exact ⟨_, hb.set p v, by rw [Array.size_setIfInBounds]; exact q⟩
theorem OwnB.get {W : World} {g n : Nat} (h : OwnB W g n) (o : Nat) (ho : o < n) : ∃ u, W.cell? ⟨g, o, none⟩ = some u := by
  obtain ⟨cur, hb, q⟩ := h
  have hlt : o < cur.size := by omega
  exact ⟨_, (hb.cell o).trans (Array.getElem?_eq_getElem hlt)⟩
/-- A world in which a cell has been stored at a place of a row. -/
def set8 (W : World) (g p : Nat) (c : CT) : World := (((((((W.setCell ⟨g, p, none⟩ (.string c.r)).setCell ⟨g, p + 1, none⟩ (.string c.f)).setCell ⟨g, p + 2, none⟩ (.string c.q)).setCell ⟨g, p + 3, none⟩ (.int .i64 c.t)).setCell ⟨g, p + 4, none⟩ (.int .i64 c.k)).setCell ⟨g, p + 5, none⟩ (.int .i64 c.vk)).setCell ⟨g, p + 6, none⟩ (.int .i64 c.vn)).setCell ⟨g, p + 7, none⟩ (.string c.s)
def put8 (a : Array Value) (p : Nat) (c : CT) : Array Value := (((((((a.setIfInBounds p (.string c.r)).setIfInBounds (p + 1) (.string c.f)).setIfInBounds (p + 2) (.string c.q)).setIfInBounds (p + 3) (.int .i64 c.t)).setIfInBounds (p + 4) (.int .i64 c.k)).setIfInBounds (p + 5) (.int .i64 c.vk)).setIfInBounds (p + 6) (.int .i64 c.vn)).setIfInBounds (p + 7) (.string c.s)
theorem put8_size (a : Array Value) (p : Nat) (c : CT) : (put8 a p c).size = a.size := by unfold put8; simp
theorem put8_in (a : Array Value) (p : Nat) (c : CT) (j : Nat) (hj : j < 8) (hp : p + 8 ≤ a.size) : (put8 a p c)[p + j]? = c.e[j]? := by
  have h0 : p + j < a.size := by omega
  match j, hj with
  | 0, _ => simp [put8, CT.e, show p < a.size by omega]
  | 1, _ => simp [put8, CT.e, h0]
  | 2, _ => simp [put8, CT.e, h0]
  | 3, _ => simp [put8, CT.e, h0]
  | 4, _ => simp [put8, CT.e, h0]
  | 5, _ => simp [put8, CT.e, h0]
  | 6, _ => simp [put8, CT.e, h0]
  | 7, _ => simp [put8, CT.e, h0]
theorem put8_out (a : Array Value) (p : Nat) (c : CT) (t : Nat) (h : t < p ∨ p + 8 ≤ t) : (put8 a p c)[t]? = a[t]? := by
  unfold put8
  rw [Array.getElem?_setIfInBounds_ne (by omega), Array.getElem?_setIfInBounds_ne (by omega), Array.getElem?_setIfInBounds_ne (by omega), Array.getElem?_setIfInBounds_ne (by omega), Array.getElem?_setIfInBounds_ne (by omega), Array.getElem?_setIfInBounds_ne (by omega), Array.getElem?_setIfInBounds_ne (by omega), Array.getElem?_setIfInBounds_ne (by omega)]
theorem blk_put8 {W : World} {g : Nat} {T : TypeId} {a : Array Value} (h : Blk W g T a) (p : Nat) (c : CT) : Blk (set8 W g p c) g T (put8 a p c) :=
  (((((((h.set p _).set (p + 1) _).set (p + 2) _).set (p + 3) _).set (p + 4) _).set (p + 5) _).set (p + 6) _).set (p + 7) _
theorem below_set8 {B g p : Nat} {w W : World} {c : CT} (h : Below B w W) (hB : B ≤ g) : Below B w (set8 W g p c) :=
  (((((((h.setCell (p := ⟨g, p, none⟩) hB _).setCell (p := ⟨g, p + 1, none⟩) hB _).setCell (p := ⟨g, p + 2, none⟩) hB _).setCell (p := ⟨g, p + 3, none⟩) hB _).setCell (p := ⟨g, p + 4, none⟩) hB _).setCell (p := ⟨g, p + 5, none⟩) hB _).setCell (p := ⟨g, p + 6, none⟩) hB _).setCell (p := ⟨g, p + 7, none⟩) hB _
theorem RowB.set {W : World} {g cap : Nat} {m : List CT} (h : RowB W g cap m) (i : Nat) (hi : i < m.length) (c : CT) : RowB (set8 W g (i * 8) c) g cap (m.set i c) := by
  obtain ⟨cur, hb, q3, q1, q2, q4⟩ := h
  refine ⟨put8 cur (i * 8) c, blk_put8 hb (i * 8) c, by rw [put8_size]; exact q3, by rw [List.length_set]; exact q1, q2, ?_⟩
  rw [List.length_set]
  apply List.ext_getElem?
  intro t
  by_cases ht : t < m.length * 8
  · rw [List.getElem?_take_of_lt ht, Array.getElem?_toList]
    have e : t = t / 8 * 8 + t % 8 := by omega
    have hl : t / 8 < (m.set i c).length := by rw [List.length_set]; omega
    have h1 : (flatC (m.set i c))[t]? = (m.set i c)[t / 8].e[t % 8]? := by
      conv => lhs; rw [e]
      exact flatC_at _ _ _ hl (by omega)
    rw [h1, List.getElem_set]
    by_cases ei : i = t / 8
    · rw [if_pos ei]
      have h2 := put8_in cur (i * 8) c (t % 8) (by omega) (by omega)
      rw [show i * 8 + t % 8 = t by omega] at h2
      exact h2
    · rw [if_neg ei, put8_out cur (i * 8) c t (by omega)]
      have h3 : (flatC m)[t]? = m[t / 8].e[t % 8]? := by
        conv => lhs; rw [e]
        exact flatC_at _ _ _ (by omega) (by omega)
      rw [← h3, ← q4, List.getElem?_take_of_lt ht, Array.getElem?_toList]
  · rw [List.getElem?_take_eq_none (by omega), List.getElem?_eq_none (by rw [flatC_len, List.length_set]; omega)]
/-- Two cells of a list change places. -/
def swapC (m : List CT) (a b : Nat) : List CT := (m.set a (m.getD b default)).set b (m.getD a default)
theorem swap_len (m : List CT) (a b : Nat) : (swapC m a b).length = m.length := by unfold swapC; simp
theorem swap_perm {m : List CT} {a b : Nat} (ha : a < m.length) (hb : b < m.length) : (swapC m a b).Perm m := by
  unfold swapC
  rw [List.getD_eq_getElem?_getD, List.getD_eq_getElem?_getD, List.getElem?_eq_getElem ha, List.getElem?_eq_getElem hb, Option.getD_some, Option.getD_some]
  exact List.set_set_perm ha hb
theorem RowB.swap {W : World} {g cap : Nat} {m : List CT} (h : RowB W g cap m) {a b : Nat} {x y : CT} (ha : a < m.length) (hb : b < m.length) (hx : m[a] = x) (hy : m[b] = y) : RowB (set8 (set8 W g (a * 8) y) g (b * 8) x) g cap (swapC m a b) := by
  have h1 := (h.set a ha y).set b (by rw [List.length_set]; exact hb) x
  unfold swapC
  rw [List.getD_eq_getElem?_getD, List.getD_eq_getElem?_getD, List.getElem?_eq_getElem ha, List.getElem?_eq_getElem hb, Option.getD_some, Option.getD_some, hx, hy]
  exact h1
end Go.Proofs.YtdjaofbjmnmlbaaDoor

/- Cells that are apart, put in whatever order, are the same cells in order. Conditions: as each theorem names them. -/
namespace Go.Proofs.YtdjaofbjmnmlbaaDoor
open Go.RowKit

theorem putL_holds {l : List CT} {c x : CT} : x ∈ putL l c ↔ x = c ∨ (x ∈ l ∧ CT.cmp x c ≠ 0) := by
  unfold putL
  rw [List.mem_append, List.mem_cons, List.mem_filter, List.mem_filter, decide_eq_true_iff, decide_eq_true_iff]
  constructor
  · rintro (⟨h, q⟩ | h | ⟨h, q⟩)
    · exact .inr ⟨h, by omega⟩
    · exact .inl h
    · exact .inr ⟨h, by omega⟩
  · rintro (h | ⟨h, q⟩)
    · exact .inr (.inl h)
    · rcases Int.lt_or_lt_of_ne q with q | q
      · exact .inl ⟨h, q⟩
      · exact .inr (.inr ⟨h, q⟩)
/-- What is held when the first j of some cells have been put. -/
def heldT (m d : List CT) (j : Nat) : Prop := ∀ x, x ∈ d ↔ x ∈ m.take j
theorem held_zero (m : List CT) : heldT m [] 0 := fun x => by simp
theorem held_next {m d : List CT} {j : Nat} {c : CT} (h : heldT m d j) (hc : m[j]? = some c) (hok : ∀ c ∈ m, c.ok = true) (hp : m.Pairwise (fun x y => CT.cmp x y ≠ 0)) : heldT m (putR d c) (j + 1) := by
  have hcm := List.mem_of_getElem? hc
  intro x
  unfold putR
  rw [if_pos (hok c hcm), putL_holds, h x, List.take_add_one, hc]
  show _ ↔ x ∈ m.take j ++ [c]
  rw [List.mem_append, List.mem_singleton]
  constructor
  · rintro (h | ⟨h, _⟩)
    · exact .inr h
    · exact .inl h
  · rintro (h | h)
    · refine .inr ⟨h, ?_⟩
      obtain ⟨hlt, rfl⟩ := List.getElem?_eq_some_iff.1 hc
      rw [← List.take_append_drop j m] at hp
      obtain ⟨_, _, h3⟩ := List.pairwise_append.1 hp
      exact h3 x h _ (by rw [List.drop_eq_getElem_cons hlt]; exact List.mem_cons_self)
    · exact .inl h
theorem apart_of {s m : List CT} (h : s.Pairwise (fun x y => CT.cmp x y < 0)) (hm : m.Perm s) : m.Pairwise (fun x y => CT.cmp x y ≠ 0) := by
  refine (hm.pairwise_iff (fun {x y} q => ?_)).2 (h.imp fun {a b} q => by omega)
  have := ct_c3.anti x y
  omega
theorem held_all {s m d : List CT} (hs : s.Pairwise (fun x y => CT.cmp x y < 0)) (hd : d.Pairwise (fun x y => CT.cmp x y < 0)) (hm : m.Perm s) (h : heldT m d m.length) : d = s := by
  refine rise_uniq hd hs fun c => ?_
  rw [h c, List.take_length]
  exact hm.mem_iff
theorem get_here {s : List CT} {i : Nat} {c : CT} (h : s.Pairwise (fun x y => CT.cmp x y < 0)) (hc : s[i]? = some c) : getL s c = some c := by
  obtain ⟨hi, rfl⟩ := List.getElem?_eq_some_iff.1 hc
  unfold getL
  rw [List.find?_eq_some_iff_append]
  refine ⟨decide_eq_true (ct_c3.zero _), s.take i, s.drop (i + 1), ?_, fun a ha => ?_⟩
  · rw [← List.drop_eq_getElem_cons hi, List.take_append_drop]
  · rw [← List.take_append_drop i s] at h
    obtain ⟨_, _, h3⟩ := List.pairwise_append.1 h
    have := h3 a ha s[i] (by rw [List.drop_eq_getElem_cons hi]; exact List.mem_cons_self)
    simp only [Bool.not_eq_true', decide_eq_false_iff_not]
    omega
end Go.Proofs.YtdjaofbjmnmlbaaDoor

/- What the document's own table keeps: a cell put among cells in order, step by step. Conditions: as each theorem names them. -/
namespace Go.Proofs.YtdjaofbjmnmlbaaDoor
open Go.RowKit

theorem put_between {p q : List CT} {c : CT} (hp : ∀ x ∈ p, CT.cmp x c < 0) (hq : ∀ y ∈ q, 0 < CT.cmp y c) : putL (p ++ q) c = p ++ c :: q := by
  unfold putL
  rw [List.filter_append, List.filter_append, List.filter_eq_self.2 (fun x hx => decide_eq_true (hp x hx)), List.filter_eq_nil_iff.2 (fun x hx => by have := hq x hx; rw [decide_eq_true_iff]; omega), List.filter_eq_nil_iff.2 (fun x hx => by have := hp x hx; rw [decide_eq_true_iff]; omega), List.filter_eq_self.2 (fun x hx => decide_eq_true (hq x hx)), List.append_nil, List.nil_append]
theorem put_upon {p q : List CT} {x c : CT} (hp : ∀ x ∈ p, CT.cmp x c < 0) (hx : CT.cmp x c = 0) (hq : ∀ y ∈ q, 0 < CT.cmp y c) : putL (p ++ x :: q) c = p ++ c :: q := by
  rw [← put_between hp hq]
  unfold putL
  rw [List.filter_append, List.filter_append, List.filter_append, List.filter_append, List.filter_cons, List.filter_cons, if_neg (by rw [decide_eq_true_iff]; omega), if_neg (by rw [decide_eq_true_iff]; omega)]
/-- What the document's Put has kept of the first i cells: nx, with c among them or not. -/
def NextI (d : List CT) (c : CT) (i : Nat) (done : Bool) (nx : List CT) : Prop :=
  (done = false ∧ nx = d.take i ∧ ∀ x ∈ d.take i, CT.cmp x c < 0) ∨ (done = true ∧ (∀ x ∈ d.drop i, 0 < CT.cmp x c) ∧ nx ++ d.drop i = putL d c)
theorem nxt_start (d : List CT) (c : CT) : NextI d c 0 false [] := .inl ⟨rfl, rfl, fun x hx => by cases hx⟩
section
variable {d nx : List CT} {c x : CT} {i : Nat}
theorem take_next (hx : d[i]? = some x) : d.take (i + 1) = d.take i ++ [x] := by rw [List.take_add_one, hx]; rfl
theorem drop_here (hx : d[i]? = some x) : d.drop i = x :: d.drop (i + 1) := by
  obtain ⟨hi, rfl⟩ := List.getElem?_eq_some_iff.1 hx
  exact List.drop_eq_getElem_cons hi
theorem split_here (hx : d[i]? = some x) : d = d.take i ++ x :: d.drop (i + 1) := by
  rw [← drop_here hx, List.take_append_drop]
theorem rest_above (hr : d.Pairwise (fun x y => CT.cmp x y < 0)) (hx : d[i]? = some x) (h : 0 ≤ CT.cmp x c) : ∀ y ∈ d.drop (i + 1), 0 < CT.cmp y c := fun y hy => by
  rw [split_here hx] at hr
  obtain ⟨_, h2, _⟩ := List.pairwise_append.1 hr
  have h1 := (List.pairwise_cons.1 h2).1 y hy
  false_or_by_contra
  have := ct_c3.lt_le (x := x) (y := y) (z := c) h1 (by omega)
  omega
theorem nxt_low (h : NextI d c i false nx) (hx : d[i]? = some x) (hlt : CT.cmp x c < 0) : NextI d c (i + 1) false (nx ++ [x]) := by
  rcases h with ⟨_, rfl, h⟩ | ⟨q, _⟩
  · refine .inl ⟨rfl, (take_next hx).symm, fun y hy => ?_⟩
    rw [take_next hx] at hy
    rcases List.mem_append.1 hy with hy | hy
    · exact h y hy
    · rw [List.mem_singleton.1 hy]; exact hlt
  · cases q
theorem nxt_same (hr : d.Pairwise (fun x y => CT.cmp x y < 0)) (h : NextI d c i false nx) (hx : d[i]? = some x) (he : CT.cmp x c = 0) : NextI d c (i + 1) true (nx ++ [c]) := by
  rcases h with ⟨_, rfl, h⟩ | ⟨q, _⟩
  · have ha := rest_above hr hx (c := c) (by omega)
    refine .inr ⟨rfl, ha, ?_⟩
    conv => rhs; rw [split_here hx]
    rw [put_upon h he ha, List.append_assoc]
    rfl
  · cases q
theorem nxt_high (hr : d.Pairwise (fun x y => CT.cmp x y < 0)) (h : NextI d c i false nx) (hx : d[i]? = some x) (hg : 0 < CT.cmp x c) : NextI d c (i + 1) true (nx ++ [c] ++ [x]) := by
  rcases h with ⟨_, rfl, h⟩ | ⟨q, _⟩
  · have ha := rest_above hr hx (c := c) (by omega)
    refine .inr ⟨rfl, ha, ?_⟩
    have hb : ∀ y ∈ x :: d.drop (i + 1), 0 < CT.cmp y c := fun y hy => by
      rcases List.mem_cons.1 hy with rfl | hy
      · exact hg
      · exact ha y hy
    conv => rhs; rw [split_here hx]
    rw [put_between h hb, List.append_assoc, List.append_assoc]
    rfl
  · cases q
theorem nxt_done (h : NextI d c i true nx) (hx : d[i]? = some x) : 0 < CT.cmp x c ∧ NextI d c (i + 1) true (nx ++ [x]) := by
  rcases h with ⟨q, _⟩ | ⟨_, h1, h2⟩
  · cases q
  · rw [drop_here hx] at h1 h2
    refine ⟨h1 x List.mem_cons_self, .inr ⟨rfl, fun y hy => h1 y (List.mem_cons_of_mem _ hy), ?_⟩⟩
    rw [← h2, List.append_assoc]
    rfl
theorem nxt_end0 (h : NextI d c d.length false nx) : nx ++ [c] = putL d c := by
  rcases h with ⟨_, rfl, h⟩ | ⟨q, _⟩
  · rw [List.take_length] at h ⊢
    have := put_between (q := []) h (fun y hy => by cases hy)
    rw [List.append_nil] at this
    exact this.symm
  · cases q
theorem nxt_end1 (h : NextI d c d.length true nx) : nx = putL d c := by
  rcases h with ⟨q, _⟩ | ⟨_, _, h⟩
  · cases q
  · rw [List.drop_length, List.append_nil] at h
    exact h
theorem nxt_len {b : Bool} (h : NextI d c i b nx) (hi : i ≤ d.length) : nx.length ≤ d.length + 1 := by
  rcases h with ⟨_, rfl, _⟩ | ⟨_, _, h⟩
  · rw [List.length_take]; omega
  · have h1 := congrArg List.length h
    rw [List.length_append] at h1
    have h2 : (putL d c).length ≤ d.length + 1 := by
      unfold putL
      have := filter_two (p := fun x => decide (CT.cmp x c < 0)) (q := fun x => decide (0 < CT.cmp x c)) (l := d) fun x hx => by
        have := of_decide_eq_true hx
        exact decide_eq_false (by omega)
      rw [List.length_append, List.length_cons]
      omega
    omega
end
theorem getL_skip {d : List CT} {c : CT} {i : Nat} (h : ∀ x ∈ d.take i, CT.cmp x c ≠ 0) : getL d c = getL (d.drop i) c := by
  unfold getL
  conv => lhs; rw [← List.take_append_drop i d]
  rw [List.find?_append, List.find?_eq_none.2 (fun x hx => by rw [decide_eq_true_iff]; exact h x hx), Option.none_or]
end Go.Proofs.YtdjaofbjmnmlbaaDoor
