/- Several texts in one: EC ED YT RBa EB II YUa IK YV YW YZ IC IE JBa JF CW CX IF KFa KH ZA ZB ZC. Conditions: as each theorem names them. -/
import Derived.Test.YtdjaofbjmnmlbaaDoorMYQRH
import Derived.Test.YtdjaofbjmnmlbaaDoorMCGHM
import Derived.Deep.RegionHeld3
import Derived.Deep.RegionLawGrows
import Derived.Test.YtdjaofbjmnmlbaaDoorVJ
import Derived.Deep.QuietTactic
import Derived.BigQuiet
import Derived.Test.YtdjaofbjmnmlbaaDoorCE
import Derived.Test.YtdjaofbjmnmlbaaDoorMIAYP
import Derived.Test.YtdjaofbjmnmlbaaDoorMHFYA
import Derived.Deep.RegionWith
import Derived.Test.YtdjaofbjmnmlbaaDoorFK
import Derived.Lib.SmallJoins
import Derived.Test.YtdjaofbjmnmlbaaDoorVLa
import Derived.Test.YtdjaofbjmnmlbaaDoorFN
import Derived.Test.YtdjaofbjmnmlbaaDoorShelf
import Derived.Test.YtdjaofbjmnmlbaaDoorCards
import Derived.Test.YtdjaofbjmnmlbaaDoorTie
import Derived.WalkKit
import Derived.ProofKit
import Derived.OpenShut
import Derived.LaidLaws
import Derived.Deep.DeepHandedRow
import Derived.Lib.LaidTab
import Derived.Lib.LaidU8T
import Derived.Test.YtdjaofbjmnmlbaaDoorHA
import Derived.Handed
import Derived.SizedLaws
/- The document's Key of layer 3 at every cell. Conditions: the texts are short, as a law's cells are; the number is of 64 bits. -/
namespace Go.Proofs.YtdjaofbjmnmlbaaDoor
open Go.RowKit

set_option maxHeartbeats 1000000 in
theorem refkey_no (r f q vs : ByteArray) (t k vk : Int) (vn : Int) (hf : f.size ≤ 9223372036854775807) (hv : vs.size ≤ 4000) (w : World) (hr : cRight r.data.toList f.data.toList q.data.toList t k vk vn vs.data.toList = false) :
    Calls Tryd.prog 97 #[cellV r f q t k vk vn vs] w fun e w' => e = .returned (.tuple #[.slice none 0 0, .bool false]) ∧ Below w.heap.size w w' := by
  have HR : Hid (∀ W, Below w.heap.size w W → Calls Tryd.prog 26 #[cellV r f q t k vk vn vs] W fun e w' => e = .returned (.bool false) ∧ Below w.heap.size w w') := fun W hW => by
    have := refcright_any r f q vs t k vk vn hf hv W
    rw [hr] at this
    exact this.mono fun e w' ⟨he, hb⟩ => ⟨he, hW.trans (hb.mono hW.size)⟩
  clear hr hf hv
  go_enter Tryd.func97, Tryd.ntmps97
  go_wp2_with (go_at_call 26; refine (HR.out _ (below_new _ _)).mono ?_; rintro e w1 ⟨rfl, hb⟩)
  go_ret2
  exact ⟨rfl, hb⟩

/-- append of bytes to a row of the call's own, as one step of a region that draws its order. -/
theorem step_append_bytes {ops : Array Oper} {o : Oper} {a : Act} {K : Act → World → Prop} {Q : Exit → Act → World → Prop} {E : Prop} (hgd : o.guard = Option.none) (s x : Operand)
    (ho : o.op = .call { callee := .builtin .append, args := #[s, x], argTypes := #[22, 22] })
    (w : World) (base : Nat) (v : Value) (l : List UInt8) (hs : a.eval s = v) (hown : Row w base v l)
    (ad : Addr) (m c : Nat) (news : List UInt8) (hm : news.length = m) (hx : a.eval x = .slice (some ad) m c) (hnews : ∀ j u, (bc news)[j]? = some u → w.cell? (ad.add j) = some u)
    (hlen : l.length + news.length ≤ 1000000) (hbase : base ≤ w.heap.size)
    (hK : ∀ v' w', Row w' base v' (l ++ news) → Below base w w' → K (a.put o.dst v') w') :
    if Region.wanted o (yielded ops a.tmps) = true then Oper.wp Tryd.prog o a w K Q else E := by
  have hw : Region.wanted o (yielded ops a.tmps) = true := by simp [Region.wanted, hgd]
  rw [if_pos hw]
  obtain ⟨i0, hi, hz0, hz1, hz2⟩ := info_parts info_u8
  subst hm
  obtain ⟨v', w', hrun, r1, r2, _⟩ := run_append_own (P := Tryd.prog) w base 22 o.type 5 i0 (.int .u8 0) 1 1 Tryd.underlying22 hi hz0 hz1 hz2 rfl (by decide) v l.length (bc l) hown ad news.length c (bc news) (by rw [bc_len]; omega) hnews (bc_one _) (by unfold maxLen; omega) (by omega) hbase
  unfold Oper.wp
  simp [execOp, ho, resolve, invoke, builtin, hs, hx, hrun, Result.andThen]
  refine hK v' w' ?_ ((Below.refl _ _).grown r2 hbase fun k hk => (World.ownsRow.lt hown k hk).1)
  unfold Row
  rw [bc_app, List.length_append]
  exact r1

/-- A cell in a block of the call's own. -/
abbrev OneC (w : World) (r f q vs : ByteArray) (t k vk vn : Int) (w' : World) : Prop :=
  Hid (Below w.heap.size w w' ∧ w.heap.size < w'.heap.size) ∧ w'.cell? ⟨w.heap.size, 0, none⟩ = some (.string r) ∧ w'.cell? ⟨w.heap.size, 1, none⟩ = some (.string f) ∧ w'.cell? ⟨w.heap.size, 2, none⟩ = some (.string q) ∧ w'.cell? ⟨w.heap.size, 3, none⟩ = some (.int .i64 t) ∧ w'.cell? ⟨w.heap.size, 4, none⟩ = some (.int .i64 k) ∧ w'.cell? ⟨w.heap.size, 5, none⟩ = some (.int .i64 vk) ∧ w'.cell? ⟨w.heap.size, 6, none⟩ = some (.int .i64 vn) ∧ w'.cell? ⟨w.heap.size, 7, none⟩ = some (.string vs)
theorem onec_to {w W W' : World} {r f q vs : ByteArray} {t k vk vn : Int} {B : Nat} (h : OneC w r f q vs t k vk vn W) (hb : Below B W W') (hB : w.heap.size < B) : OneC w r f q vs t k vk vn W' := by
  obtain ⟨hh, a0, a1, a2, a3, a4, a5, a6, a7⟩ := h
  obtain ⟨hbw, hz⟩ := hh.out
  have hc : ∀ o, W'.cell? ⟨w.heap.size, o, none⟩ = W.cell? ⟨w.heap.size, o, none⟩ := fun o => hb.cell (p := ⟨w.heap.size, o, none⟩) (show w.heap.size < B by omega)
  refine ⟨hid ⟨hbw.trans (hb.mono (by omega)), Nat.lt_of_lt_of_le hz hb.size⟩, ?_, ?_, ?_, ?_, ?_, ?_, ?_, ?_⟩ <;> (rw [hc]; assumption)
theorem onec_call {w W W' : World} {r f q vs : ByteArray} {t k vk vn : Int} (h : OneC w r f q vs t k vk vn W) (hb : Below W.heap.size W W') : OneC w r f q vs t k vk vn W' := onec_to h hb h.1.out.2
theorem onec_drew {w W : World} {r f q vs : ByteArray} {t k vk vn : Int} (h : OneC w r f q vs t k vk vn W) : OneC w r f q vs t k vk vn W.drew := by
  obtain ⟨hh, h⟩ := h
  exact ⟨hid ⟨hh.out.1.drew, hh.out.2⟩, h⟩
theorem escaped_at (s : ByteArray) (hs : s.size ≤ 1000) (W : World) :
    Calls Tryd.prog 138 #[.string s] W fun e w' => ∃ g c, e = .returned (.slice (some ⟨g, 0, none⟩) (esc s.data.toList ++ [0, 1]).length c) ∧ (Row w' W.heap.size (.slice (some ⟨g, 0, none⟩) (esc s.data.toList ++ [0, 1]).length c) (esc s.data.toList ++ [0, 1]) ∧ g < w'.heap.size ∧ ∀ j u, (bc (esc s.data.toList ++ [0, 1]))[j]? = some u → w'.cell? ((⟨g, 0, none⟩ : Addr).add j) = some u) ∧ Below W.heap.size W w' := by
  refine (refEscaped_any s (by omega) W).mono fun e w' ⟨v, he, hR, hb⟩ => ?_
  obtain ⟨g, c, rfl, hg, hc⟩ := row_write hR (by simp)
  exact ⟨g, c, he, ⟨hR, hR.block_lt g rfl, hc⟩, hb⟩

theorem lit_cells (l : List UInt8) (W : World) : ∀ j u, (bc l)[j]? = some u → (W.alloc (.cells (bc l).toArray 5)).cell? ((⟨W.heap.size, 0, none⟩ : Addr).add j) = some u := blk_cells (Blk.new W 5 _)
theorem byte_cell (k : Int) (hk : 0 ≤ k ∧ k < 256) (W : World) : ∀ j u, (bc [UInt8.ofNat k.toNat])[j]? = some u → (W.alloc (.cells #[.int .u8 k] 5)).cell? ((⟨W.heap.size, 0, none⟩ : Addr).add j) = some u := by
  have h := lit_cells [UInt8.ofNat k.toNat] W
  have e : (bc [UInt8.ofNat k.toNat]).toArray = #[.int .u8 k] := by
    have : (((UInt8.ofNat k.toNat).toNat : Nat) : Int) = k := by rw [UInt8.toNat_ofNat']; omega
    simp only [bc, List.map_cons, List.map_nil, this]
  rwa [e] at h

set_option maxRecDepth 100000 in
set_option maxHeartbeats 4000000 in
theorem refkey_yes (r f q vs : ByteArray) (t k vk : Int) (vn : Int) (hr0 : r.size ≤ 1000) (hf0 : f.size ≤ 1000) (hq0 : q.size ≤ 1000) (hv : vs.size ≤ 4000) (w : World) (hr : cRight r.data.toList f.data.toList q.data.toList t k vk vn vs.data.toList = true) :
    Calls Tryd.prog 97 #[cellV r f q t k vk vn vs] w fun e w' => ∃ v, e = .returned (.tuple #[v, .bool true]) ∧ Row w' w.heap.size v (keyM r.data.toList f.data.toList q.data.toList t k) ∧ Below w.heap.size w w' := by
  have HR : Hid (∀ W, Calls Tryd.prog 26 #[cellV r f q t k vk vn vs] W fun e w' => e = .returned (.bool true) ∧ Below W.heap.size W w') := fun W => by
    have := refcright_any r f q vs t k vk vn (by omega) hv W
    rwa [hr] at this
  have HEr := hid (escaped_at r hr0)
  have HEf := hid (escaped_at f hf0)
  have HEq := hid (escaped_at q hq0)
  have Hr2 : Hid ((esc r.data.toList ++ [0, 1]).length ≤ 2002) := by have h1 := esc_len r.data.toList; have h2 : r.data.toList.length = r.size := (by simp); unfold Hid; rw [List.length_append]; simp only [List.length_cons, List.length_nil]; omega
  have Hf2 : Hid ((esc f.data.toList ++ [0, 1]).length ≤ 2002) := by have h1 := esc_len f.data.toList; have h2 : f.data.toList.length = f.size := (by simp); unfold Hid; rw [List.length_append]; simp only [List.length_cons, List.length_nil]; omega
  have Hq2 : Hid ((esc q.data.toList ++ [0, 1]).length ≤ 2002) := by have h1 := esc_len q.data.toList; have h2 : q.data.toList.length = q.size := (by simp); unfold Hid; rw [List.length_append]; simp only [List.length_cons, List.length_nil]; omega
  have HKM : Hid (keyM r.data.toList f.data.toList q.data.toList t k = (esc r.data.toList ++ [0, 1]) ++ ((esc f.data.toList ++ [0, 1]) ++ ((if k = 4 then [0, 0] else esc q.data.toList ++ [0, 1]) ++ tailM t k))) := by unfold Hid keyM midM; simp only [List.append_assoc]
  generalize esc r.data.toList ++ [0, 1] = lr at *
  generalize esc f.data.toList ++ [0, 1] = lf at *
  generalize esc q.data.toList ++ [0, 1] = lq at *
  clear hr0 hf0 hq0 hv
  obtain ⟨-, -, -, -, -, ht0, ht1, hk0, hk9, -, -, -⟩ := cright_parts hr
  have HK1 := hid (byte_cell (255 - k) (by omega))
  have hx : IntKind.u64.wrap (9223372036854775807 - IntKind.u64.wrap t) = ((9223372036854775807 - t).toNat : Int) := by
    rw [IntKind.wrap_u64, IntKind.wrap_u64]; omega
  have e12 : IntKind.i64.wrap (255 - k) = 255 - k := by rw [IntKind.wrap_i64]; omega
  have e13 : IntKind.u8.wrap (255 - k) = 255 - k := by rw [IntKind.wrap_u8]; omega
  have HTL : Hid (tailM t k = byW 8 (9223372036854775807 - t).toNat ++ [UInt8.ofNat (255 - k).toNat]) := rfl
  obtain ⟨u, hu⟩ : ∃ u : Nat, (9223372036854775807 - t).toNat = u := ⟨_, rfl⟩
  have hu64 : u < 18446744073709551616 := by omega
  rw [hu] at hx HTL
  have HE8 : Hid (∀ W, Calls Tryd.prog 139 #[.int .u64 (u : Int)] W fun e w' => e = .returned (.slice (some ⟨W.heap.size, 0, none⟩) 8 8) ∧ (∀ j x, (bc (byW 8 u))[j]? = some x → w'.cell? ((⟨W.heap.size, 0, none⟩ : Addr).add j) = some x) ∧ Below W.heap.size W w') := fun W =>
    (eight_any u hu64 W).mono fun e w' ⟨he, hB, hb⟩ => ⟨he, blk_cells hB, hb⟩
  have HL8 : Hid ((byW 8 u).length = 8) := byW_len _ _
  generalize byW 8 u = l8 at *
  clear hu hu64 ht0 ht1 hk0 hk9 hr
  have HB1 : Hid (∀ W1 : World, Below (w.alloc (.cells #[.string r, .string f, .string q, .int .i64 t, .int .i64 k, .int .i64 vk, .int .i64 vn, .string vs] 28)).heap.size (w.alloc (.cells #[.string r, .string f, .string q, .int .i64 t, .int .i64 k, .int .i64 vk, .int .i64 vn, .string vs] 28)) W1 → OneC w r f q vs t k vk vn W1) := fun W1 hb => by
    have hz : w.heap.size < W1.heap.size := Nat.lt_of_lt_of_le (by simp) hb.size
    have B1 : Blk W1 w.heap.size 28 #[.string r, .string f, .string q, .int .i64 t, .int .i64 k, .int .i64 vk, .int .i64 vn, .string vs] := (Blk.new w _ _).keep hb (by simp)
    exact ⟨hid ⟨(below_new _ _).trans (hb.mono (by simp)), hz⟩, B1.cell 0, B1.cell 1, B1.cell 2, B1.cell 3, B1.cell 4, B1.cell 5, B1.cell 6, B1.cell 7⟩
  go_enter Tryd.func97, Tryd.ntmps97
  go_upto_region 3 with (go_at_call 26; refine (HR.out _).mono ?_; rintro e W ⟨rfl, hb⟩)
  have HT := hid (HB1.out _ hb)
  clear HB1 hb HR
  obtain ⟨h0, g0, g1, g2, g3, g4, g5, g6, g7⟩ := HT.out
  go_region_held3 (fun W' => Hid (Below w.heap.size w W' ∧ w.heap.size < W'.heap.size) ∧ W'.cell? ⟨w.heap.size, 0, none⟩ = some (.string r) ∧ W'.cell? ⟨w.heap.size, 1, none⟩ = some (.string f) ∧ W'.cell? ⟨w.heap.size, 2, none⟩ = some (.string q) ∧ W'.cell? ⟨w.heap.size, 3, none⟩ = some (.int .i64 t) ∧ W'.cell? ⟨w.heap.size, 4, none⟩ = some (.int .i64 k) ∧ W'.cell? ⟨w.heap.size, 5, none⟩ = some (.int .i64 vk) ∧ W'.cell? ⟨w.heap.size, 6, none⟩ = some (.int .i64 vn) ∧ W'.cell? ⟨w.heap.size, 7, none⟩ = some (.string vs))
    (first | exact HT.out | exact onec_drew HT.out | exact onec_call (by assumption) hb1 | exact onec_call (by assumption) hb2 | exact onec_to (by assumption) hb4 (Nat.lt_succ_self _) | exact onec_drew (by assumption) | assumption)
    (first
      | (go_at_call 138; (with_reducible refine (HEr.out _).mono ?_); rintro e w5 ⟨p1, c1, rfl, hR1, hb1⟩)
      | (go_at_call 138; (with_reducible refine (HEf.out _).mono ?_); rintro e w6 ⟨p2, c2, rfl, hR2, hb2⟩)
      | (refine step_append_bytes rfl (.tmp 10) (.tmp 13) rfl _ (w.heap.size + 1) (.slice (some ⟨p1, 0, none⟩) lr.length c1) lr rfl ((hR1.1.keep hb2 (fun g hg => by simp [Value.ownBlock] at hg; have := hR1.2.1; omega)).le h0.out.2) ⟨p2, 0, none⟩ lf.length c2 lf rfl rfl hR2.2.2 (by have := Hr2.out; have := Hf2.out; omega) (by have h1 := h0.out.2; have h2 := hb1.size; have h3 := hb2.size; simp at *; omega) ?_; intro v2 w7 hR3 hb4))
  rename_i hLast
  have HL := hid hLast
  have HRw := hid hR3
  clear hLast hR3 hR1 hR2 hb1 hb2 hb4 HT h0 g0 g1 g2 g3 g4 g5 g6 g7 HEr HEf
  obtain ⟨h0, -, -, g2, g3, g4, -, -, -⟩ := HL.out
  by_cases hk4 : k = 4
  · have q0 : (k == 4) = true := by simpa using hk4
    have HK4 := hid hk4
    clear hk4
    have HC0 : Hid (∀ j u, (bc [0, 0])[j]? = some u → (w7.alloc (.cells #[.int .u8 0, .int .u8 0] 5)).cell? ((⟨w7.heap.size, 0, none⟩ : Addr).add j) = some u) := lit_cells [0, 0] w7
    clear g2 g3 HEq
    go_wp2_with (first
    | (at_builtin; refine wpList_append_bytes rfl (.tmp 18) (.tmp 19) rfl _ (w.heap.size + 1) v2 (lr ++ lf) rfl (HRw.out.alloc _) ⟨w7.heap.size, 0, none⟩ 2 2 [0, 0] rfl rfl HC0.out (by have := Hr2.out; have := Hf2.out; simp only [List.length_append, List.length_cons, List.length_nil]; omega) (by have h1 := h0.out.2; simp; omega) ?_; intro v3 w8 hR4 hb5; have h8 := onec_to (onec_call HL.out (below_new _ _)) hb5 (Nat.lt_succ_self _); have g3' : w8.cell? ⟨w.heap.size, 3, none⟩ = some (.int .i64 t) := h8.2.2.2.2.1)
    | (go_at_call 139; refine (HE8.out _).mono ?_; rintro e w9 ⟨rfl, hB8, hb6⟩)
    | (at_builtin; refine wpList_append_bytes rfl (.tmp 26) (.tmp 31) rfl _ (w.heap.size + 1) v3 _ rfl (hR4.keep hb6 hR4.block_lt) ⟨w8.heap.size, 0, none⟩ 8 8 l8 HL8.out rfl hB8 (by have := Hr2.out; have := Hf2.out; have := Hq2.out; have := HL8.out; simp only [List.length_append, List.length_cons, List.length_nil]; omega) (by have h1 := h8.1.out.2; have h2 := hb6.size; omega) ?_; intro v4 w10 hR5 hb7; have h10 := onec_to (onec_call h8 hb6) hb7 (Nat.lt_succ_self _); have g4' : w10.cell? ⟨w.heap.size, 4, none⟩ = some (.int .i64 k) := h10.2.2.2.2.2.1)
    | (at_builtin; refine wpList_append_bytes rfl (.tmp 33) (.tmp 38) rfl _ (w.heap.size + 1) v4 _ rfl (hR5.alloc _) ⟨w10.heap.size, 0, none⟩ 1 1 [UInt8.ofNat (255 - k).toNat] rfl rfl (HK1.out w10) (by have := Hr2.out; have := Hf2.out; have := Hq2.out; have := HL8.out; simp only [List.length_append, List.length_cons, List.length_nil]; omega) (by have h1 := h10.1.out.2; simp; omega) ?_; intro v5 w11 hR6 hb8; have h11 := onec_to (onec_call h10 (below_new _ _)) hb8 (Nat.lt_succ_self _)))
    go_ret2
    refine ⟨_, rfl, ?_, h11.1.out.1⟩
    rw [HKM.out, if_pos HK4.out, HTL.out]
    have := hR6.le (Nat.le_succ w.heap.size)
    show Row w11 w.heap.size v5 _
    simpa only [List.append_assoc] using this
  · have q0 : (k == 4) = false := by simpa using hk4
    clear g3
    go_wp2_with (first
    | (go_at_call 138; refine (HEq.out _).mono ?_; rintro e w6 ⟨p3, c3, rfl, hR3, hb3⟩)
    | (at_builtin; refine wpList_append_bytes rfl (.tmp 21) (.tmp 24) rfl _ (w.heap.size + 1) v2 (lr ++ lf) rfl (HRw.out.keep hb3 HRw.out.block_lt) ⟨p3, 0, none⟩ lq.length c3 lq rfl rfl hR3.2.2 (by have := Hr2.out; have := Hf2.out; have := Hq2.out; simp only [List.length_append]; omega) (by have h1 := h0.out.2; have h2 := hb3.size; omega) ?_; intro v3 w8 hR4 hb5; have h8 := onec_to (onec_call HL.out hb3) hb5 (Nat.lt_succ_self _); have g3' : w8.cell? ⟨w.heap.size, 3, none⟩ = some (.int .i64 t) := h8.2.2.2.2.1)
    | (go_at_call 139; refine (HE8.out _).mono ?_; rintro e w9 ⟨rfl, hB8, hb6⟩)
    | (at_builtin; refine wpList_append_bytes rfl (.tmp 26) (.tmp 31) rfl _ (w.heap.size + 1) v3 _ rfl (hR4.keep hb6 hR4.block_lt) ⟨w8.heap.size, 0, none⟩ 8 8 l8 HL8.out rfl hB8 (by have := Hr2.out; have := Hf2.out; have := Hq2.out; have := HL8.out; simp only [List.length_append]; omega) (by have h1 := h8.1.out.2; have h2 := hb6.size; omega) ?_; intro v4 w10 hR5 hb7; have h10 := onec_to (onec_call h8 hb6) hb7 (Nat.lt_succ_self _); have g4' : w10.cell? ⟨w.heap.size, 4, none⟩ = some (.int .i64 k) := h10.2.2.2.2.2.1)
    | (at_builtin; refine wpList_append_bytes rfl (.tmp 33) (.tmp 38) rfl _ (w.heap.size + 1) v4 _ rfl (hR5.alloc _) ⟨w10.heap.size, 0, none⟩ 1 1 [UInt8.ofNat (255 - k).toNat] rfl rfl (HK1.out w10) (by have := Hr2.out; have := Hf2.out; have := Hq2.out; have := HL8.out; simp only [List.length_append, List.length_cons, List.length_nil]; omega) (by have h1 := h10.1.out.2; simp; omega) ?_; intro v5 w11 hR6 hb8; have h11 := onec_to (onec_call h10 (below_new _ _)) hb8 (Nat.lt_succ_self _)))
    go_ret2
    refine ⟨_, rfl, ?_, h11.1.out.1⟩
    rw [HKM.out, if_neg hk4, HTL.out]
    have := hR6.le (Nat.le_succ w.heap.size)
    show Row w11 w.heap.size v5 _
    simpa only [List.append_assoc] using this
end Go.Proofs.YtdjaofbjmnmlbaaDoor

/- The document's Encode of layer 3 at every cell. Conditions: the texts are short, as a law's cells are; the number is of 64 bits. -/
namespace Go.Proofs.YtdjaofbjmnmlbaaDoor
open Go.RowKit

set_option maxRecDepth 100000 in
set_option maxHeartbeats 4000000 in
theorem refenc_no (r f q vs : ByteArray) (t k vk : Int) (vn : Int) (hf : f.size ≤ 9223372036854775807) (hv : vs.size ≤ 4000) (w : World) (hr : cRight r.data.toList f.data.toList q.data.toList t k vk vn vs.data.toList = false) :
    Calls Tryd.prog 53 #[cellV r f q t k vk vn vs] w fun e w' => e = .returned (.tuple #[.slice none 0 0, .bool false]) ∧ Below w.heap.size w w' := by
  have HK : Hid (∀ W, Below w.heap.size w W → Calls Tryd.prog 97 #[cellV r f q t k vk vn vs] W fun e w' => e = .returned (.tuple #[.slice none 0 0, .bool false]) ∧ Below w.heap.size w w') := fun W hW =>
    (refkey_no r f q vs t k vk vn hf hv W hr).mono fun e w' ⟨he, hb⟩ => ⟨he, hW.trans (hb.mono hW.size)⟩
  clear hr hf hv
  go_enter Tryd.func53, Tryd.ntmps53
  go_wp2_with (go_at_call 97; refine (HK.out _ (below_new _ _)).mono ?_; rintro e w1 ⟨rfl, hb⟩)
  go_ret2
  exact ⟨rfl, hb⟩

set_option maxRecDepth 100000 in
set_option maxHeartbeats 4000000 in
theorem refenc_yes (r f q vs : ByteArray) (t k vk : Int) {vn : Int} (hn : inI vn) (hr0 : r.size ≤ 1000) (hf0 : f.size ≤ 1000) (hq0 : q.size ≤ 1000) (hv : vs.size ≤ 4000) (w : World) (hr : cRight r.data.toList f.data.toList q.data.toList t k vk vn vs.data.toList = true) :
    Calls Tryd.prog 53 #[cellV r f q t k vk vn vs] w fun e w' => ∃ v, e = .returned (.tuple #[v, .bool true]) ∧ Row w' w.heap.size v (cEnc r.data.toList f.data.toList q.data.toList t k vk vn vs.data.toList) ∧ Below w.heap.size w w' := by
  have HB1 : Hid (∀ W1 : World, Below (w.alloc (.cells #[.string r, .string f, .string q, .int .i64 t, .int .i64 k, .int .i64 vk, .int .i64 vn, .string vs] 28)).heap.size (w.alloc (.cells #[.string r, .string f, .string q, .int .i64 t, .int .i64 k, .int .i64 vk, .int .i64 vn, .string vs] 28)) W1 → OneC w r f q vs t k vk vn W1) := fun W1 hb => by
    have hz : w.heap.size < W1.heap.size := Nat.lt_of_lt_of_le (by simp) hb.size
    have B1 : Blk W1 w.heap.size 28 #[.string r, .string f, .string q, .int .i64 t, .int .i64 k, .int .i64 vk, .int .i64 vn, .string vs] := (Blk.new w _ _).keep hb (by simp)
    exact ⟨hid ⟨(below_new _ _).trans (hb.mono (by simp)), hz⟩, B1.cell 0, B1.cell 1, B1.cell 2, B1.cell 3, B1.cell 4, B1.cell 5, B1.cell 6, B1.cell 7⟩
  have HK : Hid (∀ W, Calls Tryd.prog 97 #[cellV r f q t k vk vn vs] W fun e w' => ∃ v, e = .returned (.tuple #[v, .bool true]) ∧ Row w' W.heap.size v (keyM r.data.toList f.data.toList q.data.toList t k) ∧ Below W.heap.size W w') := fun W => refkey_yes r f q vs t k vk vn hr0 hf0 hq0 hv W hr
  have hlen : (keyM r.data.toList f.data.toList q.data.toList t k).length ≤ 7000 := by
    have h1 := esc_len r.data.toList; have h2 : r.data.toList.length = r.size := (by simp)
    have h3 := esc_len f.data.toList; have h4 : f.data.toList.length = f.size := (by simp)
    have h5 := esc_len q.data.toList; have h6 : q.data.toList.length = q.size := (by simp)
    unfold keyM midM
    split <;> (simp only [List.length_append, List.length_cons, List.length_nil, tail_len]; omega)
  obtain ⟨-, -, -, -, -, -, -, -, -, -, hvr, -⟩ := cright_parts hr
  unfold cEnc
  generalize keyM r.data.toList f.data.toList q.data.toList t k = lk at *
  have HLK := hid hlen
  clear hlen hr
  by_cases h1 : k = 1
  · have q0 : (k == 1) = true := by simpa using h1
    rw [if_pos h1]
    have hvr := hvr h1
    have HE : Hid (∀ W, Calls Tryd.prog 98 #[.agg #[.int .i64 vk, .int .i64 vn, .string vs]] W fun e w' => ∃ g c, e = .returned (.tuple #[.slice (some ⟨g, 0, none⟩) (vEnc vk vn vs.data.toList).length c, .bool true]) ∧ (∀ j u, (bc (vEnc vk vn vs.data.toList))[j]? = some u → w'.cell? ((⟨g, 0, none⟩ : Addr).add j) = some u) ∧ Below W.heap.size W w') := fun W => by
      refine (refEncode_yes vk hn vs hv hvr W).mono fun e w' ⟨v, he, hR, hb⟩ => ?_
      obtain ⟨g, c, rfl, hg, hc⟩ := row_write hR (by have := enc_two hvr; omega)
      exact ⟨g, c, he, hc, hb⟩
    have HLE : Hid ((vEnc vk vn vs.data.toList).length ≤ 10000) := by
      unfold Hid vEnc vBody
      have h1 := esc_len vs.data.toList; have h2 : vs.data.toList.length = vs.size := (by simp)
      simp only [List.length_cons]
      repeat' split
      all_goals (simp only [List.length_append, List.length_cons, List.length_nil, byW_len]; omega)
    generalize vEnc vk vn vs.data.toList = le at *
    have H1 := hid h1
    clear h1 hr0 hf0 hq0 hv hvr hn
    go_enter Tryd.func53, Tryd.ntmps53
    go_wp2_with (first
      | (go_at_call 97; refine (HK.out _).mono ?_; rintro e w1 ⟨v, rfl, hR, hb⟩; have h1 := HB1.out _ hb; have h0 := h1.1; have g4 : w1.cell? ⟨w.heap.size, 4, none⟩ = some (.int .i64 k) := h1.2.2.2.2.2.1; have g5 : w1.cell? ⟨w.heap.size, 5, none⟩ = some (.int .i64 vk) := h1.2.2.2.2.2.2.1; have g6 : w1.cell? ⟨w.heap.size, 6, none⟩ = some (.int .i64 vn) := h1.2.2.2.2.2.2.2.1; have g7 : w1.cell? ⟨w.heap.size, 7, none⟩ = some (.string vs) := h1.2.2.2.2.2.2.2.2)
      | (go_at_call 98; refine (HE.out _).mono ?_; rintro e w2 ⟨p2, c2, rfl, hR2, hb2⟩)
      | (at_builtin; refine wpList_append_bytes rfl (.tmp 25) (.tmp 26) rfl _ (w.heap.size + 1) v lk rfl ((hR.le (by simp)).keep hb2 hR.block_lt) ⟨p2, 0, none⟩ le.length c2 le rfl rfl hR2 (by have := HLK.out; have := HLE.out; omega) (by have h1 := h0.out.2; have h2 := hb2.size; omega) ?_; intro v3 w3 hR3 hb3; have h9 := onec_to (onec_call h1 hb2) hb3 (Nat.lt_succ_self _)))
    go_ret2
    exact ⟨_, rfl, hR3.le (Nat.le_succ _), h9.1.out.1⟩
  · have q0 : (k == 1) = false := by simpa using h1
    rw [if_neg h1, List.append_nil]
    have H1 := hid h1
    clear h1 hr0 hf0 hq0 hv hvr hn
    go_enter Tryd.func53, Tryd.ntmps53
    go_wp2_with (go_at_call 97; refine (HK.out _).mono ?_; rintro e w1 ⟨v, rfl, hR, hb⟩; have h1 := HB1.out _ hb; have g4 : w1.cell? ⟨w.heap.size, 4, none⟩ = some (.int .i64 k) := h1.2.2.2.2.2.1)
    go_ret2
    exact ⟨_, rfl, hR.le (by simp), h1.1.out.1⟩
end Go.Proofs.YtdjaofbjmnmlbaaDoor

/- How many bytes a table's cells have at most; a put whatever the cell. Conditions: as each theorem names them. -/
namespace Go.Proofs.YtdjaofbjmnmlbaaDoor
open Go.RowKit

theorem encL_le {c : CT} (hok : c.ok = true) (hs : c.s.size ≤ 1000) : encL c ≤ 3000 := by
  obtain ⟨h5, h6, h7⟩ := ok_small hok
  have h1 := esc_len c.r.data.toList
  have h2 := esc_len c.f.data.toList
  have h3 := esc_len c.q.data.toList
  have h4 := esc_len c.s.data.toList
  have e1 : c.r.data.toList.length = c.r.size := rfl
  have e2 : c.f.data.toList.length = c.f.size := rfl
  have e3 : c.q.data.toList.length = c.q.size := rfl
  have e4 : c.s.data.toList.length = c.s.size := rfl
  unfold encL cEnc keyM midM vEnc vBody
  repeat' split
  all_goals (simp only [List.length_append, List.length_cons, List.length_nil, tail_len, byW_len]; omega)
theorem bytesL_le : ∀ {l : List CT}, (∀ c ∈ l, c.ok = true ∧ okC c ∧ c.s.size ≤ 1000) → bytesL l ≤ 3000 * l.length
  | [], _ => by decide
  | c :: l, h => by
    have h1 := bytesL_le (l := l) fun x hx => h x (List.mem_cons_of_mem _ hx)
    have h2 := encL_le (h c List.mem_cons_self).1 (h c List.mem_cons_self).2.2
    show encL c + bytesL l ≤ 3000 * (l.length + 1)
    omega
theorem MemOf.okl {w : World} {B mb : Nat} {l : List CT} (h : MemOf w B mb l) : ∀ c ∈ l, c.ok = true ∧ okC c ∧ c.s.size ≤ 1000 := by
  obtain ⟨hd, L, h⟩ := h
  exact h.ok
theorem MemOf.rise {w : World} {B mb : Nat} {l : List CT} (h : MemOf w B mb l) : l.Pairwise (fun x y => CT.cmp x y < 0) := by
  obtain ⟨hd, L, h⟩ := h
  exact h.rise
/-- The cells with c in its place, if it is right. -/
def putR (l : List CT) (c : CT) : List CT := if c.ok then putL l c else l
theorem filter_two {p q : CT → Bool} : ∀ {l : List CT}, (∀ x, p x = true → q x = false) → (l.filter p).length + (l.filter q).length ≤ l.length
  | [], _ => Nat.le_refl _
  | x :: l, h => by
    have ih := filter_two (l := l) h
    rw [List.filter_cons, List.filter_cons, List.length_cons]
    cases hp : p x with
    | true => rw [h x hp]; simp only [if_true, List.length_cons, Bool.false_eq_true, if_false]; omega
    | false => cases hq : q x <;> simp only [if_true, List.length_cons, Bool.false_eq_true, if_false] <;> omega
theorem putR_len (l : List CT) (c : CT) : (putR l c).length ≤ l.length + 1 := by
  unfold putR
  split
  · unfold putL
    have := filter_two (p := fun x => decide (CT.cmp x c < 0)) (q := fun x => decide (0 < CT.cmp x c)) (l := l) fun x hx => by
      have := of_decide_eq_true hx
      exact decide_eq_false (by omega)
    rw [List.length_append, List.length_cons]
    omega
  · omega
/-- Put, whatever the cell. -/
theorem mes_put {B mb : Nat} {l : List CT} {w W : World} {c : CT} (h : MeS B mb l w W) (hL : LaidU w) (hBw : w.heap.size ≤ B) (hc : okC c) (hcs : c.s.size ≤ 1000) (hlen : l.length ≤ 100000) :
    Calls Tryd.prog 35 #[.pointer (some ⟨mb, 0, none⟩), c.v] W fun e w' => e = .returned (.bool c.ok) ∧ MeS B mb (putR l c) w w' := by
  have hM := h.out.1
  cases hok : c.ok with
  | true =>
    have e : putR l c = putL l c := by unfold putR; rw [if_pos hok]
    rw [e]
    have hb := bytesL_le hM.okl
    have he := encL_le hok hcs
    exact ms_put h hL hBw hc hcs hok (by omega) (by omega) (by omega)
  | false =>
    have e : putR l c = l := by unfold putR; rw [if_neg (by rw [hok]; decide)]
    rw [e]
    exact (put_no mb c W hc hok (hL.below (h.out.2.1.b.mono hBw))).mono fun e w' ⟨q1, q2⟩ => ⟨q1, h.below q2⟩
theorem MeS.drew {B mb : Nat} {l : List CT} {w W : World} (h : MeS B mb l w W) : MeS B mb l w W.drew := h.below (Below.refl _ _).drew
end Go.Proofs.YtdjaofbjmnmlbaaDoor

/- The document's Texts at every two texts. Conditions: texts no longer than any are. -/
namespace Go.Proofs.YtdjaofbjmnmlbaaDoor
open Go.RowKit

theorem cmpB_drop (l m : List UInt8) (k : Nat) (h : k < l.length) (h' : k < m.length) :
    Lib.compareBytes (l.drop k) (m.drop k) = if (l.getD k 0).toNat < (m.getD k 0).toNat then -1 else if (m.getD k 0).toNat < (l.getD k 0).toNat then 1 else Lib.compareBytes (l.drop (k + 1)) (m.drop (k + 1)) := by
  rw [List.drop_eq_getElem_cons h, List.drop_eq_getElem_cons h']
  conv => lhs; unfold Lib.compareBytes
  simp only [List.getD_eq_getElem?_getD, List.getElem?_eq_getElem h, List.getElem?_eq_getElem h', Option.getD_some, UInt8.lt_iff_toNat_lt]

theorem cmpB_end (l m : List UInt8) (h : l = [] ∨ m = []) : Lib.compareBytes l m = if l.length < m.length then -1 else if m.length < l.length then 1 else 0 := by
  rcases h with rfl | rfl
  · cases m with
    | nil => rfl
    | cons => simp [Lib.compareBytes]
  · cases l with
    | nil => rfl
    | cons => simp [Lib.compareBytes]

/-- What the loop knows. -/
def XInv (s t : ByteArray) (w : World) (vi : Value) (wr : World) : Prop :=
  ∃ (i m : Nat), i ≤ s.size ∧ i ≤ t.size ∧ vi = .int .i64 i ∧ wr = w.drewN m ∧ Lib.compareBytes s.data.toList t.data.toList = Lib.compareBytes (s.data.toList.drop i) (t.data.toList.drop i)

theorem dl (s : ByteArray) : s.data.toList.length = s.size := rfl
theorem getD_str (s : ByteArray) (i : Nat) (h : i < s.size) : s.data.toList.getD i 0 = s[i] := by
  rw [List.getD_eq_getElem?_getD, List.getElem?_eq_getElem (show i < s.data.toList.length from h)]
  rfl

set_option maxHeartbeats 2000000 in
theorem texts_any (s t : ByteArray) (hs : s.size ≤ 9223372036854775807) (_ : t.size ≤ 9223372036854775807) (w : World) :
    Calls Tryd.prog 77 #[.string s, .string t] w fun e w' => e = .returned (.int .i64 (Lib.compareBytes s.data.toList t.data.toList)) ∧ Below w.heap.size w w' := by
  go_enter Tryd.func77, Tryd.ntmps77
  go_wp2
  go_loopw [5] (fun vi wr => XInv s t w vi wr) (fun vi _ => s.size - (intOf vi).toNat)
  case atStart => exact ⟨0, 0, Nat.zero_le _, Nat.zero_le _, rfl, rfl, rfl⟩
  case round =>
    obtain ⟨i, m, hi1, hi2, rfl, rfl, hc⟩ := hrel
    by_cases hlt : i < s.size ∧ i < t.size
    · obtain ⟨h1, h2⟩ := hlt
      have hd := cmpB_drop s.data.toList t.data.toList i h1 h2
      rw [getD_str s i h1, getD_str t i h2] at hd
      have HD := hid (hc.trans hd)
      clear hd hc
      by_cases c0 : s[i].toNat = t[i].toNat
      · have q0 : (s[i].toNat != t[i].toNat) = false := by simpa using c0
        have HQ : Hid (Lib.compareBytes s.data.toList t.data.toList = Lib.compareBytes (s.data.toList.drop (i + 1)) (t.data.toList.drop (i + 1))) := by
          have := HD.out
          rw [if_neg (by omega), if_neg (by omega)] at this
          exact this
        clear HD
        go_wp2
        go_quiet (fail)
        go_wp2
        go_roundw
        case rel => exact ⟨i + 1, _, by omega, by omega, by go_num, rfl, HQ.out⟩
        case measure => simp [intOf]; omega
      · have q0 : (s[i].toNat != t[i].toNat) = true := by simpa using c0
        by_cases c1 : s[i].toNat < t[i].toNat
        · have HQ : Hid (Lib.compareBytes s.data.toList t.data.toList = -1) := by
            have := HD.out
            rw [if_pos c1] at this
            exact this
          have q1 : decide (s[i].toNat < t[i].toNat) = true := decide_eq_true c1
          clear HD c0
          go_wp2
          go_quiet (fail)
          go_wp2
          go_quiet (fail)
          go_wp2
          go_ret
          exact ⟨ret_int HQ.out.symm, by repeat (first | exact Below.refl _ _ | refine Go.below_drewN ?_ _)⟩
        · have HQ : Hid (Lib.compareBytes s.data.toList t.data.toList = 1) := by
            have := HD.out
            rw [if_neg c1, if_pos (by omega)] at this
            exact this
          have q1 : decide (s[i].toNat < t[i].toNat) = false := decide_eq_false c1
          clear HD c0
          go_wp2
          go_quiet (fail)
          go_wp2
          go_quiet (fail)
          go_wp2
          go_ret
          exact ⟨ret_int HQ.out.symm, by repeat (first | exact Below.refl _ _ | refine Go.below_drewN ?_ _)⟩
    · have hq : Lib.compareBytes s.data.toList t.data.toList = if s.size < t.size then -1 else if t.size < s.size then 1 else 0 := by
        rw [hc, cmpB_end _ _ (by rcases (show i = s.size ∨ i = t.size by omega) with rfl | rfl <;> simp)]
        simp only [List.length_drop, dl]
        by_cases z1 : s.size < t.size
        · rw [if_pos (by omega), if_pos z1]
        · rw [if_neg (by omega), if_neg z1]
          by_cases z2 : t.size < s.size
          · rw [if_pos (by omega), if_pos z2]
          · rw [if_neg (by omega), if_neg z2]
      have hsel : (i < s.size ∧ decide (i < t.size) = false) ∨ i = s.size := by
        rcases Nat.lt_or_ge i s.size with h | h
        · exact .inl ⟨h, decide_eq_false (by omega)⟩
        · exact .inr (by omega)
      clear hc hlt
      rcases (show s.size < t.size ∨ t.size < s.size ∨ s.size = t.size by omega) with z | z | z
      · rw [if_pos z] at hq
        have HQ := hid hq
        have d1 : decide (s.size < t.size) = true := decide_eq_true z
        clear hq
        rcases hsel with ⟨h1, h2⟩ | rfl
        all_goals
          go_wp2
          go_ret
          exact ⟨ret_int HQ.out.symm, by repeat (first | exact Below.refl _ _ | refine Go.below_drewN ?_ _)⟩
      · rw [if_neg (by omega), if_pos z] at hq
        have HQ := hid hq
        have d1 : decide (s.size < t.size) = false := decide_eq_false (by omega)
        have d2 : decide (t.size < s.size) = true := decide_eq_true z
        clear hq
        rcases hsel with ⟨h1, h2⟩ | rfl
        all_goals
          go_wp2
          go_ret
          exact ⟨ret_int HQ.out.symm, by repeat (first | exact Below.refl _ _ | refine Go.below_drewN ?_ _)⟩
      · rw [if_neg (by omega), if_neg (by omega)] at hq
        have HQ := hid hq
        have d1 : decide (s.size < t.size) = false := decide_eq_false (by omega)
        have d2 : decide (t.size < s.size) = false := decide_eq_false (by omega)
        clear hq z
        rcases hsel with ⟨h1, h2⟩ | rfl
        all_goals
          go_wp2
          go_ret
          exact ⟨ret_int HQ.out.symm, by repeat (first | exact Below.refl _ _ | refine Go.below_drewN ?_ _)⟩

end Go.Proofs.YtdjaofbjmnmlbaaDoor

/- The document's cmp and Order of layer 3 at every two cells. Conditions: the texts are no longer than any are. -/
namespace Go.Proofs.YtdjaofbjmnmlbaaDoor
open Go.RowKit

theorem refcmp3_any (a b : Int) (w : World) :
    Calls Tryd.prog 78 #[.int .i64 a, .int .i64 b] w fun e w' => e = .returned (.int .i64 (Lib.compareInt a b)) ∧ w' = w := by
  unfold Lib.compareInt
  by_cases h1 : a < b
  · rw [if_pos h1]
    go_enter Tryd.func78, Tryd.ntmps78
    go_wp2
    go_ret
    exact ⟨rfl, rfl⟩
  · rw [if_neg h1]
    by_cases h2 : b < a
    · rw [if_pos h2]
      go_enter Tryd.func78, Tryd.ntmps78
      go_wp2
      go_ret
      exact ⟨rfl, rfl⟩
    · rw [if_neg h2]
      go_enter Tryd.func78, Tryd.ntmps78
      go_wp2
      go_ret
      exact ⟨rfl, rfl⟩

set_option maxRecDepth 100000 in
set_option maxHeartbeats 8000000 in
theorem refcorder_any (r1 f1 q1 s1 : ByteArray) (t1 k1 vk1 vn1 : Int) (r2 f2 q2 s2 : ByteArray) (t2 k2 vk2 vn2 : Int) (hr1 : r1.size ≤ 9223372036854775807) (hr2 : r2.size ≤ 9223372036854775807) (hf1 : f1.size ≤ 9223372036854775807) (hf2 : f2.size ≤ 9223372036854775807) (hq1 : q1.size ≤ 9223372036854775807) (hq2 : q2.size ≤ 9223372036854775807) (w : World) :
    Calls Tryd.prog 27 #[cellV r1 f1 q1 t1 k1 vk1 vn1 s1, cellV r2 f2 q2 t2 k2 vk2 vn2 s2] w fun e w' => e = .returned (.int .i64 (cOrd r1.data.toList f1.data.toList q1.data.toList t1 k1 r2.data.toList f2.data.toList q2.data.toList t2 k2)) ∧ Below w.heap.size w w' := by
  have HTr : Hid (∀ W, Calls Tryd.prog 77 #[.string r1, .string r2] W fun e w' => e = .returned (.int .i64 (Lib.compareBytes r1.data.toList r2.data.toList)) ∧ Below W.heap.size W w') := fun W => texts_any r1 r2 hr1 hr2 W
  have HTf : Hid (∀ W, Calls Tryd.prog 77 #[.string f1, .string f2] W fun e w' => e = .returned (.int .i64 (Lib.compareBytes f1.data.toList f2.data.toList)) ∧ Below W.heap.size W w') := fun W => texts_any f1 f2 hf1 hf2 W
  have HTq : Hid (∀ W, Calls Tryd.prog 77 #[.string q1, .string q2] W fun e w' => e = .returned (.int .i64 (Lib.compareBytes q1.data.toList q2.data.toList)) ∧ Below W.heap.size W w') := fun W => texts_any q1 q2 hq1 hq2 W
  clear hr1 hr2 hf1 hf2 hq1 hq2
  obtain ⟨x, hx⟩ : ∃ x, rankC k1 = x := ⟨_, rfl⟩
  obtain ⟨y, hy⟩ : ∃ y, rankC k2 = y := ⟨_, rfl⟩
  unfold cOrd
  rw [hx, hy]
  generalize hb1 : Lib.compareBytes r1.data.toList r2.data.toList = b1 at *
  generalize hb2 : Lib.compareBytes f1.data.toList f2.data.toList = b2 at *
  generalize hb3 : Lib.compareBytes q1.data.toList q2.data.toList = b3 at *
  clear hb1 hb2 hb3
  have HXY : Hid ((k1 = 4 ∧ x = 0) ∨ ((k1 == 4) = false ∧ x = 1)) := by
    unfold Hid; unfold rankC at hx
    by_cases h : k1 = 4
    · rw [if_pos h] at hx; exact .inl ⟨h, hx.symm⟩
    · rw [if_neg h] at hx; exact .inr ⟨by simpa using h, hx.symm⟩
  have HYY : Hid ((k2 = 4 ∧ y = 0) ∨ ((k2 == 4) = false ∧ y = 1)) := by
    unfold Hid; unfold rankC at hy
    by_cases h : k2 = 4
    · rw [if_pos h] at hy; exact .inl ⟨h, hy.symm⟩
    · rw [if_neg h] at hy; exact .inr ⟨by simpa using h, hy.symm⟩
  clear hx hy
  rcases HXY.out with ⟨rfl, rfl⟩ | ⟨hx1, rfl⟩ <;> rcases HYY.out with ⟨rfl, rfl⟩ | ⟨hy1, rfl⟩ <;> clear HXY HYY
  · go_enter Tryd.func27, Tryd.ntmps27
    go_upto_region 7 with (fail)
    obtain ⟨W, hW⟩ : ∃ W, ((w.alloc (.cells #[.string r1, .string f1, .string q1, .int .i64 t1, .int .i64 4, .int .i64 vk1, .int .i64 vn1, .string s1] 28)).alloc (.cells #[.string r2, .string f2, .string q2, .int .i64 t2, .int .i64 4, .int .i64 vk2, .int .i64 vn2, .string s2] 28)) = W := ⟨_, rfl⟩
    have HT : Hid (TwoC w r1 f1 q1 s1 t1 4 vk1 vn1 r2 f2 q2 s2 t2 4 vk2 vn2 W) := by
      subst hW
      have B1 : Blk (w.alloc (.cells #[Value.string r1, .string f1, .string q1, .int .i64 t1, .int .i64 4, .int .i64 vk1, .int .i64 vn1, .string s1] 28)) w.heap.size 28 #[Value.string r1, .string f1, .string q1, .int .i64 t1, .int .i64 4, .int .i64 vk1, .int .i64 vn1, .string s1] := Blk.new w _ _
      have B2 := B1.keep (below_new _ (.cells #[Value.string r2, .string f2, .string q2, .int .i64 t2, .int .i64 4, .int .i64 vk2, .int .i64 vn2, .string s2] 28)) (by simp)
      have B3 : Blk ((w.alloc (.cells #[Value.string r1, .string f1, .string q1, .int .i64 t1, .int .i64 4, .int .i64 vk1, .int .i64 vn1, .string s1] 28)).alloc (.cells #[Value.string r2, .string f2, .string q2, .int .i64 t2, .int .i64 4, .int .i64 vk2, .int .i64 vn2, .string s2] 28)) (w.heap.size + 1) 28 #[Value.string r2, .string f2, .string q2, .int .i64 t2, .int .i64 4, .int .i64 vk2, .int .i64 vn2, .string s2] := by
        have := Blk.new (w.alloc (.cells #[Value.string r1, .string f1, .string q1, .int .i64 t1, .int .i64 4, .int .i64 vk1, .int .i64 vn1, .string s1] 28)) 28 #[Value.string r2, .string f2, .string q2, .int .i64 t2, .int .i64 4, .int .i64 vk2, .int .i64 vn2, .string s2]
        simpa using this
      exact ⟨hid ⟨(below_new w _).alloc (by simp) _, by simp⟩, B2.cell 0, B2.cell 1, B2.cell 2, B2.cell 3, B2.cell 4, B2.cell 5, B2.cell 6, B2.cell 7, B3.cell 0, B3.cell 1, B3.cell 2, B3.cell 3, B3.cell 4, B3.cell 5, B3.cell 6, B3.cell 7⟩
    rw [hW]
    clear hW
    obtain ⟨h0, c0, c1, c2, c3, c4, c5, c6, c7, d0, d1, d2, d3, d4, d5, d6, d7⟩ := HT.out
    go_region_held3 (fun w' => Hid (Below w.heap.size w w' ∧ w.heap.size + 1 < w'.heap.size) ∧ w'.cell? ⟨w.heap.size, 0, none⟩ = some (.string r1) ∧ w'.cell? ⟨w.heap.size, 1, none⟩ = some (.string f1) ∧ w'.cell? ⟨w.heap.size, 2, none⟩ = some (.string q1) ∧ w'.cell? ⟨w.heap.size, 3, none⟩ = some (.int .i64 t1) ∧ w'.cell? ⟨w.heap.size, 4, none⟩ = some (.int .i64 4) ∧ w'.cell? ⟨w.heap.size, 5, none⟩ = some (.int .i64 vk1) ∧ w'.cell? ⟨w.heap.size, 6, none⟩ = some (.int .i64 vn1) ∧ w'.cell? ⟨w.heap.size, 7, none⟩ = some (.string s1) ∧ w'.cell? ⟨w.heap.size + 1, 0, none⟩ = some (.string r2) ∧ w'.cell? ⟨w.heap.size + 1, 1, none⟩ = some (.string f2) ∧ w'.cell? ⟨w.heap.size + 1, 2, none⟩ = some (.string q2) ∧ w'.cell? ⟨w.heap.size + 1, 3, none⟩ = some (.int .i64 t2) ∧ w'.cell? ⟨w.heap.size + 1, 4, none⟩ = some (.int .i64 4) ∧ w'.cell? ⟨w.heap.size + 1, 5, none⟩ = some (.int .i64 vk2) ∧ w'.cell? ⟨w.heap.size + 1, 6, none⟩ = some (.int .i64 vn2) ∧ w'.cell? ⟨w.heap.size + 1, 7, none⟩ = some (.string s2))
      (first | exact HT.out | exact twoc_drew HT.out | exact twoc_call (by assumption) hbo | exact twoc_drew (by assumption) | assumption | exact twoc_call (by assumption) (below_new _ _) | exact twoc_call (twoc_call (by assumption) (below_new _ _)) hbo)
      (first
        | (go_at_call 77; (first | (with_reducible refine (HTr.out _).mono ?_) | (with_reducible refine (HTf.out _).mono ?_) | (with_reducible refine (HTq.out _).mono ?_)); rintro e w5 ⟨rfl, hbo⟩)
        | (go_at_call 78; ((with_reducible refine (refcmp3_any _ _ _).mono ?_); rintro e w5 ⟨rfl, rfl⟩)))
    rename_i hLast
    have HB : Hid (Below w.heap.size w _) := hid hLast.1.out.1
    clear hLast HTr HTf HTq HT h0 c0 c1 c2 c3 c4 c5 c6 c7 d0 d1 d2 d3 d4 d5 d6 d7 hbo
    obtain ⟨l, hl⟩ : ∃ l : List Int, [b1, b2, Lib.compareInt 0 0, b3, Lib.compareInt t2 t1, Lib.compareInt 4 4] = l := ⟨_, rfl⟩
    have HL : Hid (l.length = 6) := hid (by rw [← hl]; rfl)
    have HC : Hid (∀ i (h : i < l.length), (w5.alloc (.cells #[.int .i64 b1, .int .i64 b2, .int .i64 (Lib.compareInt 0 0), .int .i64 b3, .int .i64 (Lib.compareInt t2 t1), .int .i64 (Lib.compareInt 4 4)] 3)).cell? ⟨w5.heap.size, i, none⟩ = some (.int .i64 l[i])) := by
      subst hl
      refine hid fun i hi => ?_
      rw [(Blk.new w5 3 _).cell i]
      match i, hi with
      | 0, _ => rfl
      | 1, _ => rfl
      | 2, _ => rfl
      | 3, _ => rfl
      | 4, _ => rfl
      | 5, _ => rfl
    have HE := hid hl
    clear hl
    generalize (w5.alloc (.cells #[.int .i64 b1, .int .i64 b2, .int .i64 (Lib.compareInt 0 0), .int .i64 b3, .int .i64 (Lib.compareInt t2 t1), .int .i64 (Lib.compareInt 4 4)] 3)) = V at HB HC ⊢
    generalize w5.heap.size = g at HC ⊢
    go_wp2
    go_loopw [8] (fun vi wr => ∃ i : Nat, i ≤ 6 ∧ vi = .int .i64 i ∧ wr = V ∧ Hid (orI l = orI (l.drop i))) (fun vi _ => 6 - (intOf vi).toNat)
    case atStart => exact ⟨0, Nat.zero_le _, rfl, rfl, rfl⟩
    case round =>
      obtain ⟨i, hi, rfl, rfl, HO⟩ := hrel
      by_cases hlt : i < 6
      · have hil : i < l.length := by rw [HL.out]; exact hlt
        have hc := HC.out i hil
        have HD : Hid (orI l = if l[i] = 0 then orI (l.drop (i + 1)) else l[i]) := by
          unfold Hid
          rw [HO.out, List.drop_eq_getElem_cons hil, orI]
        generalize l[i] = x at hc HD
        by_cases hx : x = 0
        · subst hx
          go_wp2
          go_roundw
          case rel => exact ⟨i + 1, by omega, by go_num, trivial, by unfold Hid; rw [HD.out, if_pos rfl]⟩
          case measure => simp [intOf]; omega
        · have q0 : (x != 0) = true := by simpa using hx
          go_wp2
          go_ret
          refine ⟨?_, HB.out⟩
          rw [HE.out, HD.out, if_neg hx]
          rfl
      · go_wp2
        go_ret
        refine ⟨?_, HB.out⟩
        rw [HE.out, HO.out, List.drop_eq_nil_of_le (by have := HL.out; omega)]
        rfl
  · go_enter Tryd.func27, Tryd.ntmps27
    go_upto_region 7 with (fail)
    obtain ⟨W, hW⟩ : ∃ W, ((w.alloc (.cells #[.string r1, .string f1, .string q1, .int .i64 t1, .int .i64 4, .int .i64 vk1, .int .i64 vn1, .string s1] 28)).alloc (.cells #[.string r2, .string f2, .string q2, .int .i64 t2, .int .i64 k2, .int .i64 vk2, .int .i64 vn2, .string s2] 28)) = W := ⟨_, rfl⟩
    have HT : Hid (TwoC w r1 f1 q1 s1 t1 4 vk1 vn1 r2 f2 q2 s2 t2 k2 vk2 vn2 W) := by
      subst hW
      have B1 : Blk (w.alloc (.cells #[Value.string r1, .string f1, .string q1, .int .i64 t1, .int .i64 4, .int .i64 vk1, .int .i64 vn1, .string s1] 28)) w.heap.size 28 #[Value.string r1, .string f1, .string q1, .int .i64 t1, .int .i64 4, .int .i64 vk1, .int .i64 vn1, .string s1] := Blk.new w _ _
      have B2 := B1.keep (below_new _ (.cells #[Value.string r2, .string f2, .string q2, .int .i64 t2, .int .i64 k2, .int .i64 vk2, .int .i64 vn2, .string s2] 28)) (by simp)
      have B3 : Blk ((w.alloc (.cells #[Value.string r1, .string f1, .string q1, .int .i64 t1, .int .i64 4, .int .i64 vk1, .int .i64 vn1, .string s1] 28)).alloc (.cells #[Value.string r2, .string f2, .string q2, .int .i64 t2, .int .i64 k2, .int .i64 vk2, .int .i64 vn2, .string s2] 28)) (w.heap.size + 1) 28 #[Value.string r2, .string f2, .string q2, .int .i64 t2, .int .i64 k2, .int .i64 vk2, .int .i64 vn2, .string s2] := by
        have := Blk.new (w.alloc (.cells #[Value.string r1, .string f1, .string q1, .int .i64 t1, .int .i64 4, .int .i64 vk1, .int .i64 vn1, .string s1] 28)) 28 #[Value.string r2, .string f2, .string q2, .int .i64 t2, .int .i64 k2, .int .i64 vk2, .int .i64 vn2, .string s2]
        simpa using this
      exact ⟨hid ⟨(below_new w _).alloc (by simp) _, by simp⟩, B2.cell 0, B2.cell 1, B2.cell 2, B2.cell 3, B2.cell 4, B2.cell 5, B2.cell 6, B2.cell 7, B3.cell 0, B3.cell 1, B3.cell 2, B3.cell 3, B3.cell 4, B3.cell 5, B3.cell 6, B3.cell 7⟩
    rw [hW]
    clear hW
    obtain ⟨h0, c0, c1, c2, c3, c4, c5, c6, c7, d0, d1, d2, d3, d4, d5, d6, d7⟩ := HT.out
    go_region_held3 (fun w' => Hid (Below w.heap.size w w' ∧ w.heap.size + 1 < w'.heap.size) ∧ w'.cell? ⟨w.heap.size, 0, none⟩ = some (.string r1) ∧ w'.cell? ⟨w.heap.size, 1, none⟩ = some (.string f1) ∧ w'.cell? ⟨w.heap.size, 2, none⟩ = some (.string q1) ∧ w'.cell? ⟨w.heap.size, 3, none⟩ = some (.int .i64 t1) ∧ w'.cell? ⟨w.heap.size, 4, none⟩ = some (.int .i64 4) ∧ w'.cell? ⟨w.heap.size, 5, none⟩ = some (.int .i64 vk1) ∧ w'.cell? ⟨w.heap.size, 6, none⟩ = some (.int .i64 vn1) ∧ w'.cell? ⟨w.heap.size, 7, none⟩ = some (.string s1) ∧ w'.cell? ⟨w.heap.size + 1, 0, none⟩ = some (.string r2) ∧ w'.cell? ⟨w.heap.size + 1, 1, none⟩ = some (.string f2) ∧ w'.cell? ⟨w.heap.size + 1, 2, none⟩ = some (.string q2) ∧ w'.cell? ⟨w.heap.size + 1, 3, none⟩ = some (.int .i64 t2) ∧ w'.cell? ⟨w.heap.size + 1, 4, none⟩ = some (.int .i64 k2) ∧ w'.cell? ⟨w.heap.size + 1, 5, none⟩ = some (.int .i64 vk2) ∧ w'.cell? ⟨w.heap.size + 1, 6, none⟩ = some (.int .i64 vn2) ∧ w'.cell? ⟨w.heap.size + 1, 7, none⟩ = some (.string s2))
      (first | exact HT.out | exact twoc_drew HT.out | exact twoc_call (by assumption) hbo | exact twoc_drew (by assumption) | assumption | exact twoc_call (by assumption) (below_new _ _) | exact twoc_call (twoc_call (by assumption) (below_new _ _)) hbo)
      (first
        | (go_at_call 77; (first | (with_reducible refine (HTr.out _).mono ?_) | (with_reducible refine (HTf.out _).mono ?_) | (with_reducible refine (HTq.out _).mono ?_)); rintro e w5 ⟨rfl, hbo⟩)
        | (go_at_call 78; ((with_reducible refine (refcmp3_any _ _ _).mono ?_); rintro e w5 ⟨rfl, rfl⟩)))
    rename_i hLast
    have HB : Hid (Below w.heap.size w _) := hid hLast.1.out.1
    clear hLast HTr HTf HTq HT h0 c0 c1 c2 c3 c4 c5 c6 c7 d0 d1 d2 d3 d4 d5 d6 d7 hbo
    obtain ⟨l, hl⟩ : ∃ l : List Int, [b1, b2, Lib.compareInt 0 1, b3, Lib.compareInt t2 t1, Lib.compareInt k2 4] = l := ⟨_, rfl⟩
    have HL : Hid (l.length = 6) := hid (by rw [← hl]; rfl)
    have HC : Hid (∀ i (h : i < l.length), (w5.alloc (.cells #[.int .i64 b1, .int .i64 b2, .int .i64 (Lib.compareInt 0 1), .int .i64 b3, .int .i64 (Lib.compareInt t2 t1), .int .i64 (Lib.compareInt k2 4)] 3)).cell? ⟨w5.heap.size, i, none⟩ = some (.int .i64 l[i])) := by
      subst hl
      refine hid fun i hi => ?_
      rw [(Blk.new w5 3 _).cell i]
      match i, hi with
      | 0, _ => rfl
      | 1, _ => rfl
      | 2, _ => rfl
      | 3, _ => rfl
      | 4, _ => rfl
      | 5, _ => rfl
    have HE := hid hl
    clear hl
    generalize (w5.alloc (.cells #[.int .i64 b1, .int .i64 b2, .int .i64 (Lib.compareInt 0 1), .int .i64 b3, .int .i64 (Lib.compareInt t2 t1), .int .i64 (Lib.compareInt k2 4)] 3)) = V at HB HC ⊢
    generalize w5.heap.size = g at HC ⊢
    go_wp2
    go_loopw [8] (fun vi wr => ∃ i : Nat, i ≤ 6 ∧ vi = .int .i64 i ∧ wr = V ∧ Hid (orI l = orI (l.drop i))) (fun vi _ => 6 - (intOf vi).toNat)
    case atStart => exact ⟨0, Nat.zero_le _, rfl, rfl, rfl⟩
    case round =>
      obtain ⟨i, hi, rfl, rfl, HO⟩ := hrel
      by_cases hlt : i < 6
      · have hil : i < l.length := by rw [HL.out]; exact hlt
        have hc := HC.out i hil
        have HD : Hid (orI l = if l[i] = 0 then orI (l.drop (i + 1)) else l[i]) := by
          unfold Hid
          rw [HO.out, List.drop_eq_getElem_cons hil, orI]
        generalize l[i] = x at hc HD
        by_cases hx : x = 0
        · subst hx
          go_wp2
          go_roundw
          case rel => exact ⟨i + 1, by omega, by go_num, trivial, by unfold Hid; rw [HD.out, if_pos rfl]⟩
          case measure => simp [intOf]; omega
        · have q0 : (x != 0) = true := by simpa using hx
          go_wp2
          go_ret
          refine ⟨?_, HB.out⟩
          rw [HE.out, HD.out, if_neg hx]
          rfl
      · go_wp2
        go_ret
        refine ⟨?_, HB.out⟩
        rw [HE.out, HO.out, List.drop_eq_nil_of_le (by have := HL.out; omega)]
        rfl
  · go_enter Tryd.func27, Tryd.ntmps27
    go_upto_region 7 with (fail)
    obtain ⟨W, hW⟩ : ∃ W, ((w.alloc (.cells #[.string r1, .string f1, .string q1, .int .i64 t1, .int .i64 k1, .int .i64 vk1, .int .i64 vn1, .string s1] 28)).alloc (.cells #[.string r2, .string f2, .string q2, .int .i64 t2, .int .i64 4, .int .i64 vk2, .int .i64 vn2, .string s2] 28)) = W := ⟨_, rfl⟩
    have HT : Hid (TwoC w r1 f1 q1 s1 t1 k1 vk1 vn1 r2 f2 q2 s2 t2 4 vk2 vn2 W) := by
      subst hW
      have B1 : Blk (w.alloc (.cells #[Value.string r1, .string f1, .string q1, .int .i64 t1, .int .i64 k1, .int .i64 vk1, .int .i64 vn1, .string s1] 28)) w.heap.size 28 #[Value.string r1, .string f1, .string q1, .int .i64 t1, .int .i64 k1, .int .i64 vk1, .int .i64 vn1, .string s1] := Blk.new w _ _
      have B2 := B1.keep (below_new _ (.cells #[Value.string r2, .string f2, .string q2, .int .i64 t2, .int .i64 4, .int .i64 vk2, .int .i64 vn2, .string s2] 28)) (by simp)
      have B3 : Blk ((w.alloc (.cells #[Value.string r1, .string f1, .string q1, .int .i64 t1, .int .i64 k1, .int .i64 vk1, .int .i64 vn1, .string s1] 28)).alloc (.cells #[Value.string r2, .string f2, .string q2, .int .i64 t2, .int .i64 4, .int .i64 vk2, .int .i64 vn2, .string s2] 28)) (w.heap.size + 1) 28 #[Value.string r2, .string f2, .string q2, .int .i64 t2, .int .i64 4, .int .i64 vk2, .int .i64 vn2, .string s2] := by
        have := Blk.new (w.alloc (.cells #[Value.string r1, .string f1, .string q1, .int .i64 t1, .int .i64 k1, .int .i64 vk1, .int .i64 vn1, .string s1] 28)) 28 #[Value.string r2, .string f2, .string q2, .int .i64 t2, .int .i64 4, .int .i64 vk2, .int .i64 vn2, .string s2]
        simpa using this
      exact ⟨hid ⟨(below_new w _).alloc (by simp) _, by simp⟩, B2.cell 0, B2.cell 1, B2.cell 2, B2.cell 3, B2.cell 4, B2.cell 5, B2.cell 6, B2.cell 7, B3.cell 0, B3.cell 1, B3.cell 2, B3.cell 3, B3.cell 4, B3.cell 5, B3.cell 6, B3.cell 7⟩
    rw [hW]
    clear hW
    obtain ⟨h0, c0, c1, c2, c3, c4, c5, c6, c7, d0, d1, d2, d3, d4, d5, d6, d7⟩ := HT.out
    go_region_held3 (fun w' => Hid (Below w.heap.size w w' ∧ w.heap.size + 1 < w'.heap.size) ∧ w'.cell? ⟨w.heap.size, 0, none⟩ = some (.string r1) ∧ w'.cell? ⟨w.heap.size, 1, none⟩ = some (.string f1) ∧ w'.cell? ⟨w.heap.size, 2, none⟩ = some (.string q1) ∧ w'.cell? ⟨w.heap.size, 3, none⟩ = some (.int .i64 t1) ∧ w'.cell? ⟨w.heap.size, 4, none⟩ = some (.int .i64 k1) ∧ w'.cell? ⟨w.heap.size, 5, none⟩ = some (.int .i64 vk1) ∧ w'.cell? ⟨w.heap.size, 6, none⟩ = some (.int .i64 vn1) ∧ w'.cell? ⟨w.heap.size, 7, none⟩ = some (.string s1) ∧ w'.cell? ⟨w.heap.size + 1, 0, none⟩ = some (.string r2) ∧ w'.cell? ⟨w.heap.size + 1, 1, none⟩ = some (.string f2) ∧ w'.cell? ⟨w.heap.size + 1, 2, none⟩ = some (.string q2) ∧ w'.cell? ⟨w.heap.size + 1, 3, none⟩ = some (.int .i64 t2) ∧ w'.cell? ⟨w.heap.size + 1, 4, none⟩ = some (.int .i64 4) ∧ w'.cell? ⟨w.heap.size + 1, 5, none⟩ = some (.int .i64 vk2) ∧ w'.cell? ⟨w.heap.size + 1, 6, none⟩ = some (.int .i64 vn2) ∧ w'.cell? ⟨w.heap.size + 1, 7, none⟩ = some (.string s2))
      (first | exact HT.out | exact twoc_drew HT.out | exact twoc_call (by assumption) hbo | exact twoc_drew (by assumption) | assumption | exact twoc_call (by assumption) (below_new _ _) | exact twoc_call (twoc_call (by assumption) (below_new _ _)) hbo)
      (first
        | (go_at_call 77; (first | (with_reducible refine (HTr.out _).mono ?_) | (with_reducible refine (HTf.out _).mono ?_) | (with_reducible refine (HTq.out _).mono ?_)); rintro e w5 ⟨rfl, hbo⟩)
        | (go_at_call 78; ((with_reducible refine (refcmp3_any _ _ _).mono ?_); rintro e w5 ⟨rfl, rfl⟩)))
    rename_i hLast
    have HB : Hid (Below w.heap.size w _) := hid hLast.1.out.1
    clear hLast HTr HTf HTq HT h0 c0 c1 c2 c3 c4 c5 c6 c7 d0 d1 d2 d3 d4 d5 d6 d7 hbo
    obtain ⟨l, hl⟩ : ∃ l : List Int, [b1, b2, Lib.compareInt 1 0, b3, Lib.compareInt t2 t1, Lib.compareInt 4 k1] = l := ⟨_, rfl⟩
    have HL : Hid (l.length = 6) := hid (by rw [← hl]; rfl)
    have HC : Hid (∀ i (h : i < l.length), (w5.alloc (.cells #[.int .i64 b1, .int .i64 b2, .int .i64 (Lib.compareInt 1 0), .int .i64 b3, .int .i64 (Lib.compareInt t2 t1), .int .i64 (Lib.compareInt 4 k1)] 3)).cell? ⟨w5.heap.size, i, none⟩ = some (.int .i64 l[i])) := by
      subst hl
      refine hid fun i hi => ?_
      rw [(Blk.new w5 3 _).cell i]
      match i, hi with
      | 0, _ => rfl
      | 1, _ => rfl
      | 2, _ => rfl
      | 3, _ => rfl
      | 4, _ => rfl
      | 5, _ => rfl
    have HE := hid hl
    clear hl
    generalize (w5.alloc (.cells #[.int .i64 b1, .int .i64 b2, .int .i64 (Lib.compareInt 1 0), .int .i64 b3, .int .i64 (Lib.compareInt t2 t1), .int .i64 (Lib.compareInt 4 k1)] 3)) = V at HB HC ⊢
    generalize w5.heap.size = g at HC ⊢
    go_wp2
    go_loopw [8] (fun vi wr => ∃ i : Nat, i ≤ 6 ∧ vi = .int .i64 i ∧ wr = V ∧ Hid (orI l = orI (l.drop i))) (fun vi _ => 6 - (intOf vi).toNat)
    case atStart => exact ⟨0, Nat.zero_le _, rfl, rfl, rfl⟩
    case round =>
      obtain ⟨i, hi, rfl, rfl, HO⟩ := hrel
      by_cases hlt : i < 6
      · have hil : i < l.length := by rw [HL.out]; exact hlt
        have hc := HC.out i hil
        have HD : Hid (orI l = if l[i] = 0 then orI (l.drop (i + 1)) else l[i]) := by
          unfold Hid
          rw [HO.out, List.drop_eq_getElem_cons hil, orI]
        generalize l[i] = x at hc HD
        by_cases hx : x = 0
        · subst hx
          go_wp2
          go_roundw
          case rel => exact ⟨i + 1, by omega, by go_num, trivial, by unfold Hid; rw [HD.out, if_pos rfl]⟩
          case measure => simp [intOf]; omega
        · have q0 : (x != 0) = true := by simpa using hx
          go_wp2
          go_ret
          refine ⟨?_, HB.out⟩
          rw [HE.out, HD.out, if_neg hx]
          rfl
      · go_wp2
        go_ret
        refine ⟨?_, HB.out⟩
        rw [HE.out, HO.out, List.drop_eq_nil_of_le (by have := HL.out; omega)]
        rfl
  · go_enter Tryd.func27, Tryd.ntmps27
    go_upto_region 7 with (fail)
    obtain ⟨W, hW⟩ : ∃ W, ((w.alloc (.cells #[.string r1, .string f1, .string q1, .int .i64 t1, .int .i64 k1, .int .i64 vk1, .int .i64 vn1, .string s1] 28)).alloc (.cells #[.string r2, .string f2, .string q2, .int .i64 t2, .int .i64 k2, .int .i64 vk2, .int .i64 vn2, .string s2] 28)) = W := ⟨_, rfl⟩
    have HT : Hid (TwoC w r1 f1 q1 s1 t1 k1 vk1 vn1 r2 f2 q2 s2 t2 k2 vk2 vn2 W) := by
      subst hW
      have B1 : Blk (w.alloc (.cells #[Value.string r1, .string f1, .string q1, .int .i64 t1, .int .i64 k1, .int .i64 vk1, .int .i64 vn1, .string s1] 28)) w.heap.size 28 #[Value.string r1, .string f1, .string q1, .int .i64 t1, .int .i64 k1, .int .i64 vk1, .int .i64 vn1, .string s1] := Blk.new w _ _
      have B2 := B1.keep (below_new _ (.cells #[Value.string r2, .string f2, .string q2, .int .i64 t2, .int .i64 k2, .int .i64 vk2, .int .i64 vn2, .string s2] 28)) (by simp)
      have B3 : Blk ((w.alloc (.cells #[Value.string r1, .string f1, .string q1, .int .i64 t1, .int .i64 k1, .int .i64 vk1, .int .i64 vn1, .string s1] 28)).alloc (.cells #[Value.string r2, .string f2, .string q2, .int .i64 t2, .int .i64 k2, .int .i64 vk2, .int .i64 vn2, .string s2] 28)) (w.heap.size + 1) 28 #[Value.string r2, .string f2, .string q2, .int .i64 t2, .int .i64 k2, .int .i64 vk2, .int .i64 vn2, .string s2] := by
        have := Blk.new (w.alloc (.cells #[Value.string r1, .string f1, .string q1, .int .i64 t1, .int .i64 k1, .int .i64 vk1, .int .i64 vn1, .string s1] 28)) 28 #[Value.string r2, .string f2, .string q2, .int .i64 t2, .int .i64 k2, .int .i64 vk2, .int .i64 vn2, .string s2]
        simpa using this
      exact ⟨hid ⟨(below_new w _).alloc (by simp) _, by simp⟩, B2.cell 0, B2.cell 1, B2.cell 2, B2.cell 3, B2.cell 4, B2.cell 5, B2.cell 6, B2.cell 7, B3.cell 0, B3.cell 1, B3.cell 2, B3.cell 3, B3.cell 4, B3.cell 5, B3.cell 6, B3.cell 7⟩
    rw [hW]
    clear hW
    obtain ⟨h0, c0, c1, c2, c3, c4, c5, c6, c7, d0, d1, d2, d3, d4, d5, d6, d7⟩ := HT.out
    go_region_held3 (fun w' => Hid (Below w.heap.size w w' ∧ w.heap.size + 1 < w'.heap.size) ∧ w'.cell? ⟨w.heap.size, 0, none⟩ = some (.string r1) ∧ w'.cell? ⟨w.heap.size, 1, none⟩ = some (.string f1) ∧ w'.cell? ⟨w.heap.size, 2, none⟩ = some (.string q1) ∧ w'.cell? ⟨w.heap.size, 3, none⟩ = some (.int .i64 t1) ∧ w'.cell? ⟨w.heap.size, 4, none⟩ = some (.int .i64 k1) ∧ w'.cell? ⟨w.heap.size, 5, none⟩ = some (.int .i64 vk1) ∧ w'.cell? ⟨w.heap.size, 6, none⟩ = some (.int .i64 vn1) ∧ w'.cell? ⟨w.heap.size, 7, none⟩ = some (.string s1) ∧ w'.cell? ⟨w.heap.size + 1, 0, none⟩ = some (.string r2) ∧ w'.cell? ⟨w.heap.size + 1, 1, none⟩ = some (.string f2) ∧ w'.cell? ⟨w.heap.size + 1, 2, none⟩ = some (.string q2) ∧ w'.cell? ⟨w.heap.size + 1, 3, none⟩ = some (.int .i64 t2) ∧ w'.cell? ⟨w.heap.size + 1, 4, none⟩ = some (.int .i64 k2) ∧ w'.cell? ⟨w.heap.size + 1, 5, none⟩ = some (.int .i64 vk2) ∧ w'.cell? ⟨w.heap.size + 1, 6, none⟩ = some (.int .i64 vn2) ∧ w'.cell? ⟨w.heap.size + 1, 7, none⟩ = some (.string s2))
      (first | exact HT.out | exact twoc_drew HT.out | exact twoc_call (by assumption) hbo | exact twoc_drew (by assumption) | assumption | exact twoc_call (by assumption) (below_new _ _) | exact twoc_call (twoc_call (by assumption) (below_new _ _)) hbo)
      (first
        | (go_at_call 77; (first | (with_reducible refine (HTr.out _).mono ?_) | (with_reducible refine (HTf.out _).mono ?_) | (with_reducible refine (HTq.out _).mono ?_)); rintro e w5 ⟨rfl, hbo⟩)
        | (go_at_call 78; ((with_reducible refine (refcmp3_any _ _ _).mono ?_); rintro e w5 ⟨rfl, rfl⟩)))
    rename_i hLast
    have HB : Hid (Below w.heap.size w _) := hid hLast.1.out.1
    clear hLast HTr HTf HTq HT h0 c0 c1 c2 c3 c4 c5 c6 c7 d0 d1 d2 d3 d4 d5 d6 d7 hbo
    obtain ⟨l, hl⟩ : ∃ l : List Int, [b1, b2, Lib.compareInt 1 1, b3, Lib.compareInt t2 t1, Lib.compareInt k2 k1] = l := ⟨_, rfl⟩
    have HL : Hid (l.length = 6) := hid (by rw [← hl]; rfl)
    have HC : Hid (∀ i (h : i < l.length), (w5.alloc (.cells #[.int .i64 b1, .int .i64 b2, .int .i64 (Lib.compareInt 1 1), .int .i64 b3, .int .i64 (Lib.compareInt t2 t1), .int .i64 (Lib.compareInt k2 k1)] 3)).cell? ⟨w5.heap.size, i, none⟩ = some (.int .i64 l[i])) := by
      subst hl
      refine hid fun i hi => ?_
      rw [(Blk.new w5 3 _).cell i]
      match i, hi with
      | 0, _ => rfl
      | 1, _ => rfl
      | 2, _ => rfl
      | 3, _ => rfl
      | 4, _ => rfl
      | 5, _ => rfl
    have HE := hid hl
    clear hl
    generalize (w5.alloc (.cells #[.int .i64 b1, .int .i64 b2, .int .i64 (Lib.compareInt 1 1), .int .i64 b3, .int .i64 (Lib.compareInt t2 t1), .int .i64 (Lib.compareInt k2 k1)] 3)) = V at HB HC ⊢
    generalize w5.heap.size = g at HC ⊢
    go_wp2
    go_loopw [8] (fun vi wr => ∃ i : Nat, i ≤ 6 ∧ vi = .int .i64 i ∧ wr = V ∧ Hid (orI l = orI (l.drop i))) (fun vi _ => 6 - (intOf vi).toNat)
    case atStart => exact ⟨0, Nat.zero_le _, rfl, rfl, rfl⟩
    case round =>
      obtain ⟨i, hi, rfl, rfl, HO⟩ := hrel
      by_cases hlt : i < 6
      · have hil : i < l.length := by rw [HL.out]; exact hlt
        have hc := HC.out i hil
        have HD : Hid (orI l = if l[i] = 0 then orI (l.drop (i + 1)) else l[i]) := by
          unfold Hid
          rw [HO.out, List.drop_eq_getElem_cons hil, orI]
        generalize l[i] = x at hc HD
        by_cases hx : x = 0
        · subst hx
          go_wp2
          go_roundw
          case rel => exact ⟨i + 1, by omega, by go_num, trivial, by unfold Hid; rw [HD.out, if_pos rfl]⟩
          case measure => simp [intOf]; omega
        · have q0 : (x != 0) = true := by simpa using hx
          go_wp2
          go_ret
          refine ⟨?_, HB.out⟩
          rw [HE.out, HD.out, if_neg hx]
          rfl
      · go_wp2
        go_ret
        refine ⟨?_, HB.out⟩
        rw [HE.out, HO.out, List.drop_eq_nil_of_le (by have := HL.out; omega)]
        rfl

end Go.Proofs.YtdjaofbjmnmlbaaDoor

/- The document's Right and Order at cells that the laws look at; a list's cells as words. Conditions: as each theorem names them. -/
namespace Go.Proofs.YtdjaofbjmnmlbaaDoor
open Go.RowKit

/-- A cell that the laws look at. -/
def Sm (c : CT) : Prop := okC c ∧ c.r.size ≤ 60 ∧ c.f.size ≤ 60 ∧ c.q.size ≤ 60 ∧ c.s.size ≤ 100
theorem reforder_ct (x y : CT) (hx : Sm x) (hy : Sm y) (w : World) :
    Calls Tryd.prog 27 #[x.v, y.v] w fun e w' => e = .returned (.int .i64 (CT.cmp x y)) ∧ Below w.heap.size w w' := by
  obtain ⟨_, h1, h2, h3, _⟩ := hx
  obtain ⟨_, g1, g2, g3, _⟩ := hy
  exact refcorder_any x.r x.f x.q x.s x.t x.k x.vk x.vn y.r y.f y.q y.s y.t y.k y.vk y.vn (by omega) (by omega) (by omega) (by omega) (by omega) (by omega) w
theorem refright_ct (c : CT) (hc : Sm c) (w : World) : Calls Tryd.prog 26 #[c.v] w fun e w' => e = .returned (.bool c.ok) ∧ Below w.heap.size w w' :=
  refcright_any c.r c.f c.q c.s c.t c.k c.vk c.vn (by have := hc.2.2.1; omega) (by have := hc.2.2.2.2; omega) w
theorem longC_sm {l : List CT} (h : longC l = false) (hv : ∀ c ∈ l, inI c.vn) : l.length ≤ 60 ∧ ∀ c ∈ l, Sm c := by
  unfold longC at h
  rw [Bool.or_eq_false_iff] at h
  obtain ⟨h1, h2⟩ := h
  have h1 := of_decide_eq_false h1
  refine ⟨by omega, fun c hc => ?_⟩
  have h3 : longC1 c = false := by
    cases e : longC1 c with
    | false => rfl
    | true =>
      rw [List.any_eq_true.2 ⟨c, hc, e⟩] at h2
      cases h2
  unfold longC1 at h3
  simp only [Bool.or_eq_false_iff, decide_eq_false_iff_not] at h3
  exact ⟨⟨by omega, by omega, hv c hc⟩, by omega, by omega, by omega, by omega⟩
theorem ct_words {w : World} {b off : Nat} {l : List CT} (h : HC w b off l) (i : Nat) {c : CT} (hc : l[i]? = some c) : w.cell? ⟨b, off + i * 8, none⟩ = some (.string c.r) ∧ w.cell? ⟨b, off + i * 8 + 1, none⟩ = some (.string c.f) ∧ w.cell? ⟨b, off + i * 8 + 2, none⟩ = some (.string c.q) ∧ w.cell? ⟨b, off + i * 8 + 3, none⟩ = some (.int .i64 c.t) ∧ w.cell? ⟨b, off + i * 8 + 4, none⟩ = some (.int .i64 c.k) ∧ w.cell? ⟨b, off + i * 8 + 5, none⟩ = some (.int .i64 c.vk) ∧ w.cell? ⟨b, off + i * 8 + 6, none⟩ = some (.int .i64 c.vn) ∧ w.cell? ⟨b, off + i * 8 + 7, none⟩ = some (.string c.s) := by
  obtain ⟨hi, hc⟩ := List.getElem?_eq_some_iff.1 hc
  rw [← hc]
  exact h.words i hi
theorem rise_at {s : List CT} {i : Nat} {b c : CT} (h : s.Pairwise (fun x y => CT.cmp x y < 0)) (hb : s[i]? = some b) (hc : s[i + 1]? = some c) : CT.cmp b c < 0 := by
  obtain ⟨hi, rfl⟩ := List.getElem?_eq_some_iff.1 hb
  obtain ⟨hj, rfl⟩ := List.getElem?_eq_some_iff.1 hc
  exact List.pairwise_iff_getElem.1 h i (i + 1) hi hj (by omega)
/-- The law's own cell stands. -/
def DW (W : World) (g : Nat) (d : CT) : Prop := Blk W g 28 d.e.toArray
theorem DW.words {W : World} {g : Nat} {d : CT} (h : DW W g d) : W.cell? ⟨g, 0, none⟩ = some (.string d.r) ∧ W.cell? ⟨g, 1, none⟩ = some (.string d.f) ∧ W.cell? ⟨g, 2, none⟩ = some (.string d.q) ∧ W.cell? ⟨g, 3, none⟩ = some (.int .i64 d.t) ∧ W.cell? ⟨g, 4, none⟩ = some (.int .i64 d.k) ∧ W.cell? ⟨g, 5, none⟩ = some (.int .i64 d.vk) ∧ W.cell? ⟨g, 6, none⟩ = some (.int .i64 d.vn) ∧ W.cell? ⟨g, 7, none⟩ = some (.string d.s) := by
  have h : Blk W g 28 d.e.toArray := h
  exact ⟨h.cell 0, h.cell 1, h.cell 2, h.cell 3, h.cell 4, h.cell 5, h.cell 6, h.cell 7⟩
theorem DW.below {W W' : World} {g : Nat} {d : CT} (h : DW W g d) (hb : Below W.heap.size W W') : DW W' g d := Blk.keep h hb (Blk.lt h)

theorem ct_dw {W : World} {G : Nat} {d : CT} (h : DW W G d) (j : Nat) (u : Value) (hu : d.e[j]? = some u) : W.cell? ((⟨G, 0, Option.none⟩ : Addr).add j) = some u := by
  have h : Blk W G 28 d.e.toArray := h
  rw [add_zero_off, Nat.zero_add, h.cell, List.getElem?_toArray]
  exact hu
theorem DW.keep {W W' : World} {g B : Nat} {d : CT} (h : DW W g d) (hb : Below B W W') (hg : g < B) : DW W' g d := Blk.keep h hb hg

section
variable {W0 W W' : World} {b o p : Nat} {x y : CT}
/-- Two cells of one list, in a region that draws. -/
abbrev PairW (W0 : World) (b o p : Nat) (x y : CT) (W : World) : Prop := Hid (Below W0.heap.size W0 W ∧ b < W0.heap.size) ∧ (W.cell? ⟨b, o, none⟩ = some (.string x.r) ∧ W.cell? ⟨b, o + 1, none⟩ = some (.string x.f) ∧ W.cell? ⟨b, o + 2, none⟩ = some (.string x.q) ∧ W.cell? ⟨b, o + 3, none⟩ = some (.int .i64 x.t) ∧ W.cell? ⟨b, o + 4, none⟩ = some (.int .i64 x.k) ∧ W.cell? ⟨b, o + 5, none⟩ = some (.int .i64 x.vk) ∧ W.cell? ⟨b, o + 6, none⟩ = some (.int .i64 x.vn) ∧ W.cell? ⟨b, o + 7, none⟩ = some (.string x.s)) ∧ (W.cell? ⟨b, p, none⟩ = some (.string y.r) ∧ W.cell? ⟨b, p + 1, none⟩ = some (.string y.f) ∧ W.cell? ⟨b, p + 2, none⟩ = some (.string y.q) ∧ W.cell? ⟨b, p + 3, none⟩ = some (.int .i64 y.t) ∧ W.cell? ⟨b, p + 4, none⟩ = some (.int .i64 y.k) ∧ W.cell? ⟨b, p + 5, none⟩ = some (.int .i64 y.vk) ∧ W.cell? ⟨b, p + 6, none⟩ = some (.int .i64 y.vn) ∧ W.cell? ⟨b, p + 7, none⟩ = some (.string y.s))
theorem pair_drew (h : PairW W0 b o p x y W) : PairW W0 b o p x y W.drew := ⟨hid ⟨h.1.out.1.drew, h.1.out.2⟩, h.2⟩
theorem pair_call (h : PairW W0 b o p x y W) (hb : Below W.heap.size W W') : PairW W0 b o p x y W' := by
  obtain ⟨hh, ⟨a0, a1, a2, a3, a4, a5, a6, a7⟩, ⟨b0, b1, b2, b3, b4, b5, b6, b7⟩⟩ := h
  obtain ⟨hbw, h2⟩ := hh.out
  have hz := hbw.size
  have hc : ∀ b o, b < W0.heap.size → W'.cell? ⟨b, o, none⟩ = W.cell? ⟨b, o, none⟩ := fun b o h => hb.cell (p := ⟨b, o, none⟩) (show b < W.heap.size by omega)
  refine ⟨hid ⟨hbw.trans (hb.mono hz), h2⟩, ⟨?_, ?_, ?_, ?_, ?_, ?_, ?_, ?_⟩, ⟨?_, ?_, ?_, ?_, ?_, ?_, ?_, ?_⟩⟩ <;> (rw [hc _ _ (by omega)]; assumption)
/-- One cell of a list, in a region that draws. -/
abbrev SingW (W0 : World) (b o : Nat) (x : CT) (W : World) : Prop := Hid (Below W0.heap.size W0 W ∧ b < W0.heap.size) ∧ (W.cell? ⟨b, o, none⟩ = some (.string x.r) ∧ W.cell? ⟨b, o + 1, none⟩ = some (.string x.f) ∧ W.cell? ⟨b, o + 2, none⟩ = some (.string x.q) ∧ W.cell? ⟨b, o + 3, none⟩ = some (.int .i64 x.t) ∧ W.cell? ⟨b, o + 4, none⟩ = some (.int .i64 x.k) ∧ W.cell? ⟨b, o + 5, none⟩ = some (.int .i64 x.vk) ∧ W.cell? ⟨b, o + 6, none⟩ = some (.int .i64 x.vn) ∧ W.cell? ⟨b, o + 7, none⟩ = some (.string x.s))
theorem sing_drew (h : SingW W0 b o x W) : SingW W0 b o x W.drew := ⟨hid ⟨h.1.out.1.drew, h.1.out.2⟩, h.2⟩
theorem sing_call (h : SingW W0 b o x W) (hb : Below W.heap.size W W') : SingW W0 b o x W' := by
  obtain ⟨hh, ⟨a0, a1, a2, a3, a4, a5, a6, a7⟩⟩ := h
  obtain ⟨hbw, h2⟩ := hh.out
  have hz := hbw.size
  have hc : ∀ b o, b < W0.heap.size → W'.cell? ⟨b, o, none⟩ = W.cell? ⟨b, o, none⟩ := fun b o h => hb.cell (p := ⟨b, o, none⟩) (show b < W.heap.size by omega)
  refine ⟨hid ⟨hbw.trans (hb.mono hz), h2⟩, ⟨?_, ?_, ?_, ?_, ?_, ?_, ?_, ?_⟩⟩ <;> (rw [hc _ _ (by omega)]; assumption)
end
end Go.Proofs.YtdjaofbjmnmlbaaDoor

/- What layer 7's laws lean on: a list's cells as words; how many bytes cells have together; the document's Encode of a right cell. Conditions: as each theorem names them. -/
namespace Go.Proofs.YtdjaofbjmnmlbaaDoor
open Go.RowKit

theorem bytesL_app (p q : List CT) : bytesL (p ++ q) = bytesL p + bytesL q := by
  unfold bytesL
  rw [List.map_append, List.sum_append]
theorem refE_yes (c : CT) (hok : c.ok = true) (ho : okC c) (hs : c.s.size ≤ 1000) (w : World) :
    Calls Tryd.prog 53 #[c.v] w fun e w' => ∃ g cap, e = .returned (.tuple #[.slice (some ⟨g, 0, none⟩) (encL c) cap, .bool true]) ∧ Below w.heap.size w w' := by
  obtain ⟨h1, h2, h3⟩ := ok_small hok
  refine (refenc_yes c.r c.f c.q c.s c.t c.k c.vk ho.2.2 (by omega) (by omega) (by omega) (by omega) w hok).mono fun e w' ⟨v, he, hr, hb⟩ => ?_
  have hp : 0 < (cEnc c.r.data.toList c.f.data.toList c.q.data.toList c.t c.k c.vk c.vn c.s.data.toList).length := by
    unfold cEnc keyM
    simp only [List.length_append, List.length_cons]
    omega
  obtain ⟨g, cap, rfl, _⟩ := hr.form hp
  exact ⟨g, cap, he, hb⟩
end Go.Proofs.YtdjaofbjmnmlbaaDoor

/- Cells of a row of the call's own change places; the low ten bits of a number. Conditions: as each theorem names them. -/
namespace Go.Proofs.YtdjaofbjmnmlbaaDoor
open Go.RowKit

theorem and_1023 (z : Int) : 0 ≤ bits .and .i64 z 1023 ∧ bits .and .i64 z 1023 ≤ 1023 := by
  have h : (BitVec.ofInt 64 z &&& BitVec.ofInt 64 1023).toNat ≤ 1023 := by
    rw [BitVec.toNat_and]
    exact Nat.and_le_right
  show 0 ≤ IntKind.i64.wrap ((BitVec.ofInt 64 z &&& BitVec.ofInt 64 1023).toNat : Int) ∧ IntKind.i64.wrap ((BitVec.ofInt 64 z &&& BitVec.ofInt 64 1023).toNat : Int) ≤ 1023
  rw [IntKind.wrap_i64]
  omega

/-- A row of the call's own, by its block. -/
def RowB (W : World) (g cap : Nat) (m : List CT) : Prop := ∃ cur : Array Value, Blk W g 28 cur ∧ cur.size = cap * 8 ∧ m.length ≤ cap ∧ cap ≤ maxLen ∧ cur.toList.take (m.length * 8) = flatC m
theorem RowB.of {W : World} {B g n cap : Nat} {m : List CT} (h : CRow W B (.slice (some ⟨g, 0, none⟩) n cap) m) : RowB W g cap m ∧ B ≤ g := by
  obtain ⟨h1, h2⟩ := h
  rcases h2 with ⟨e, _⟩ | ⟨g', cap', cur, e, hB, hb, q1, q2, q3, q4⟩
  · cases e
  · cases e
    exact ⟨⟨cur, hb, q3, q1, q2, q4⟩, hB⟩
theorem RowB.row {W : World} {B g cap : Nat} {m : List CT} (h : RowB W g cap m) (hB : B ≤ g) : CRow W B (.slice (some ⟨g, 0, none⟩) m.length cap) m := by
  obtain ⟨cur, hb, q3, q1, q2, q4⟩ := h
  exact ⟨flatC_len m, .inr ⟨g, cap, cur, rfl, hB, hb, q1, q2, q3, q4⟩⟩
theorem crow_rowB {W : World} {B n c : Nat} {A : Option Addr} {m : List CT} (h : CRow W B (.slice A n c) m) (h0 : 0 < m.length) : ∃ g, A = some ⟨g, 0, none⟩ ∧ RowB W g c m ∧ B ≤ g ∧ n = m.length := by
  rcases h.2 with ⟨_, e⟩ | ⟨g, cap, cur, e, hB, hb, q1, q2, q3, q4⟩
  · omega
  · cases e
    exact ⟨g, rfl, ⟨cur, hb, q3, q1, q2, q4⟩, hB, rfl⟩
theorem RowB.lt {W : World} {g cap : Nat} {m : List CT} (h : RowB W g cap m) : g < W.heap.size := by
  obtain ⟨cur, hb, _⟩ := h
  exact hb.lt
theorem RowB.keep {W W' : World} {g cap : Nat} {m : List CT} (h : RowB W g cap m) (hb : Below W.heap.size W W') : RowB W' g cap m := by
  obtain ⟨cur, h1, h2⟩ := h
  exact ⟨cur, h1.keep hb h1.lt, h2⟩
theorem RowB.words {W : World} {g cap : Nat} {m : List CT} (h : RowB W g cap m) (i : Nat) (hi : i < m.length) :
    W.cell? ⟨g, i * 8, none⟩ = some (.string m[i].r) ∧ W.cell? ⟨g, i * 8 + 1, none⟩ = some (.string m[i].f) ∧ W.cell? ⟨g, i * 8 + 2, none⟩ = some (.string m[i].q) ∧ W.cell? ⟨g, i * 8 + 3, none⟩ = some (.int .i64 m[i].t) ∧ W.cell? ⟨g, i * 8 + 4, none⟩ = some (.int .i64 m[i].k) ∧ W.cell? ⟨g, i * 8 + 5, none⟩ = some (.int .i64 m[i].vk) ∧ W.cell? ⟨g, i * 8 + 6, none⟩ = some (.int .i64 m[i].vn) ∧ W.cell? ⟨g, i * 8 + 7, none⟩ = some (.string m[i].s) := by
  have hc := (h.row (Nat.zero_le _)).hc
  have := hc.words i hi
  simp only [Nat.zero_add] at this
  exact this
theorem RowB.free {W : World} {g cap : Nat} {m : List CT} (h : RowB W g cap m) (o : Nat) : W.frozen? ⟨g, o, none⟩ = false := by
  obtain ⟨cur, hb, _⟩ := h
  exact hb.free o
/-- So many words of a block of the call's own. -/
def OwnB (W : World) (g n : Nat) : Prop := ∃ cur : Array Value, Blk W g 28 cur ∧ n ≤ cur.size
theorem RowB.own {W : World} {g cap : Nat} {m : List CT} (h : RowB W g cap m) : OwnB W g (m.length * 8) := by
  obtain ⟨cur, hb, q3, q1, q2, q4⟩ := h
  exact ⟨cur, hb, by omega⟩
theorem OwnB.set {W : World} {g n : Nat} (h : OwnB W g n) (p : Nat) (v : Value) : OwnB (W.setCell ⟨g, p, none⟩ v) g n := by
  obtain ⟨cur, hb, q⟩ := h
  exact ⟨_, hb.set p v, by rw [Array.size_setIfInBounds]; exact q⟩
theorem OwnB.get {W : World} {g n : Nat} (h : OwnB W g n) (o : Nat) (ho : o < n) : ∃ u, W.cell? ⟨g, o, none⟩ = some u := by
  obtain ⟨cur, hb, q⟩ := h
  have hlt : o < cur.size := by omega
  exact ⟨_, (hb.cell o).trans (Array.getElem?_eq_getElem hlt)⟩
/-- A world in which a cell has been stored at a place of a row. -/
def set8 (W : World) (g p : Nat) (c : CT) : World := (((((((W.setCell ⟨g, p, none⟩ (.string c.r)).setCell ⟨g, p + 1, none⟩ (.string c.f)).setCell ⟨g, p + 2, none⟩ (.string c.q)).setCell ⟨g, p + 3, none⟩ (.int .i64 c.t)).setCell ⟨g, p + 4, none⟩ (.int .i64 c.k)).setCell ⟨g, p + 5, none⟩ (.int .i64 c.vk)).setCell ⟨g, p + 6, none⟩ (.int .i64 c.vn)).setCell ⟨g, p + 7, none⟩ (.string c.s)
def put8 (a : Array Value) (p : Nat) (c : CT) : Array Value := (((((((a.setIfInBounds p (.string c.r)).setIfInBounds (p + 1) (.string c.f)).setIfInBounds (p + 2) (.string c.q)).setIfInBounds (p + 3) (.int .i64 c.t)).setIfInBounds (p + 4) (.int .i64 c.k)).setIfInBounds (p + 5) (.int .i64 c.vk)).setIfInBounds (p + 6) (.int .i64 c.vn)).setIfInBounds (p + 7) (.string c.s)
theorem put8_size (a : Array Value) (p : Nat) (c : CT) : (put8 a p c).size = a.size := by unfold put8; simp
theorem put8_in (a : Array Value) (p : Nat) (c : CT) (j : Nat) (hj : j < 8) (hp : p + 8 ≤ a.size) : (put8 a p c)[p + j]? = c.e[j]? := by
  have h0 : p + j < a.size := by omega
  match j, hj with
  | 0, _ => simp [put8, CT.e, show p < a.size by omega]
  | 1, _ => simp [put8, CT.e, h0]
  | 2, _ => simp [put8, CT.e, h0]
  | 3, _ => simp [put8, CT.e, h0]
  | 4, _ => simp [put8, CT.e, h0]
  | 5, _ => simp [put8, CT.e, h0]
  | 6, _ => simp [put8, CT.e, h0]
  | 7, _ => simp [put8, CT.e, h0]
theorem put8_out (a : Array Value) (p : Nat) (c : CT) (t : Nat) (h : t < p ∨ p + 8 ≤ t) : (put8 a p c)[t]? = a[t]? := by
  unfold put8
  rw [Array.getElem?_setIfInBounds_ne (by omega), Array.getElem?_setIfInBounds_ne (by omega), Array.getElem?_setIfInBounds_ne (by omega), Array.getElem?_setIfInBounds_ne (by omega), Array.getElem?_setIfInBounds_ne (by omega), Array.getElem?_setIfInBounds_ne (by omega), Array.getElem?_setIfInBounds_ne (by omega), Array.getElem?_setIfInBounds_ne (by omega)]
theorem blk_put8 {W : World} {g : Nat} {T : TypeId} {a : Array Value} (h : Blk W g T a) (p : Nat) (c : CT) : Blk (set8 W g p c) g T (put8 a p c) :=
  (((((((h.set p _).set (p + 1) _).set (p + 2) _).set (p + 3) _).set (p + 4) _).set (p + 5) _).set (p + 6) _).set (p + 7) _
theorem below_set8 {B g p : Nat} {w W : World} {c : CT} (h : Below B w W) (hB : B ≤ g) : Below B w (set8 W g p c) :=
  (((((((h.setCell (p := ⟨g, p, none⟩) hB _).setCell (p := ⟨g, p + 1, none⟩) hB _).setCell (p := ⟨g, p + 2, none⟩) hB _).setCell (p := ⟨g, p + 3, none⟩) hB _).setCell (p := ⟨g, p + 4, none⟩) hB _).setCell (p := ⟨g, p + 5, none⟩) hB _).setCell (p := ⟨g, p + 6, none⟩) hB _).setCell (p := ⟨g, p + 7, none⟩) hB _
theorem RowB.set {W : World} {g cap : Nat} {m : List CT} (h : RowB W g cap m) (i : Nat) (hi : i < m.length) (c : CT) : RowB (set8 W g (i * 8) c) g cap (m.set i c) := by
  obtain ⟨cur, hb, q3, q1, q2, q4⟩ := h
  refine ⟨put8 cur (i * 8) c, blk_put8 hb (i * 8) c, by rw [put8_size]; exact q3, by rw [List.length_set]; exact q1, q2, ?_⟩
  rw [List.length_set]
  apply List.ext_getElem?
  intro t
  by_cases ht : t < m.length * 8
  · rw [List.getElem?_take_of_lt ht, Array.getElem?_toList]
    have e : t = t / 8 * 8 + t % 8 := by omega
    have hl : t / 8 < (m.set i c).length := by rw [List.length_set]; omega
    have h1 : (flatC (m.set i c))[t]? = (m.set i c)[t / 8].e[t % 8]? := by
      conv => lhs; rw [e]
      exact flatC_at _ _ _ hl (by omega)
    rw [h1, List.getElem_set]
    by_cases ei : i = t / 8
    · rw [if_pos ei]
      have h2 := put8_in cur (i * 8) c (t % 8) (by omega) (by omega)
      rw [show i * 8 + t % 8 = t by omega] at h2
      exact h2
    · rw [if_neg ei, put8_out cur (i * 8) c t (by omega)]
      have h3 : (flatC m)[t]? = m[t / 8].e[t % 8]? := by
        conv => lhs; rw [e]
        exact flatC_at _ _ _ (by omega) (by omega)
      rw [← h3, ← q4, List.getElem?_take_of_lt ht, Array.getElem?_toList]
  · rw [List.getElem?_take_eq_none (by omega), List.getElem?_eq_none (by rw [flatC_len, List.length_set]; omega)]
/-- Two cells of a list change places. -/
def swapC (m : List CT) (a b : Nat) : List CT := (m.set a (m.getD b default)).set b (m.getD a default)
theorem swap_len (m : List CT) (a b : Nat) : (swapC m a b).length = m.length := by unfold swapC; simp
theorem swap_perm {m : List CT} {a b : Nat} (ha : a < m.length) (hb : b < m.length) : (swapC m a b).Perm m := by
  unfold swapC
  rw [List.getD_eq_getElem?_getD, List.getD_eq_getElem?_getD, List.getElem?_eq_getElem ha, List.getElem?_eq_getElem hb, Option.getD_some, Option.getD_some]
  exact List.set_set_perm ha hb
theorem RowB.swap {W : World} {g cap : Nat} {m : List CT} (h : RowB W g cap m) {a b : Nat} {x y : CT} (ha : a < m.length) (hb : b < m.length) (hx : m[a] = x) (hy : m[b] = y) : RowB (set8 (set8 W g (a * 8) y) g (b * 8) x) g cap (swapC m a b) := by
  have h1 := (h.set a ha y).set b (by rw [List.length_set]; exact hb) x
  unfold swapC
  rw [List.getD_eq_getElem?_getD, List.getD_eq_getElem?_getD, List.getElem?_eq_getElem ha, List.getElem?_eq_getElem hb, Option.getD_some, Option.getD_some, hx, hy]
  exact h1
end Go.Proofs.YtdjaofbjmnmlbaaDoor

/- Cells that are apart, put in whatever order, are the same cells in order. Conditions: as each theorem names them. -/
namespace Go.Proofs.YtdjaofbjmnmlbaaDoor
open Go.RowKit

theorem putL_holds {l : List CT} {c x : CT} : x ∈ putL l c ↔ x = c ∨ (x ∈ l ∧ CT.cmp x c ≠ 0) := by
  unfold putL
  rw [List.mem_append, List.mem_cons, List.mem_filter, List.mem_filter, decide_eq_true_iff, decide_eq_true_iff]
  constructor
  · rintro (⟨h, q⟩ | h | ⟨h, q⟩)
    · exact .inr ⟨h, by omega⟩
    · exact .inl h
    · exact .inr ⟨h, by omega⟩
  · rintro (h | ⟨h, q⟩)
    · exact .inr (.inl h)
    · rcases Int.lt_or_lt_of_ne q with q | q
      · exact .inl ⟨h, q⟩
      · exact .inr (.inr ⟨h, q⟩)
/-- What is held when the first j of some cells have been put. -/
def heldT (m d : List CT) (j : Nat) : Prop := ∀ x, x ∈ d ↔ x ∈ m.take j
theorem held_zero (m : List CT) : heldT m [] 0 := fun x => by simp
theorem held_next {m d : List CT} {j : Nat} {c : CT} (h : heldT m d j) (hc : m[j]? = some c) (hok : ∀ c ∈ m, c.ok = true) (hp : m.Pairwise (fun x y => CT.cmp x y ≠ 0)) : heldT m (putR d c) (j + 1) := by
  have hcm := List.mem_of_getElem? hc
  intro x
  unfold putR
  rw [if_pos (hok c hcm), putL_holds, h x, List.take_add_one, hc]
  show _ ↔ x ∈ m.take j ++ [c]
  rw [List.mem_append, List.mem_singleton]
  constructor
  · rintro (h | ⟨h, _⟩)
    · exact .inr h
    · exact .inl h
  · rintro (h | h)
    · refine .inr ⟨h, ?_⟩
      obtain ⟨hlt, rfl⟩ := List.getElem?_eq_some_iff.1 hc
      rw [← List.take_append_drop j m] at hp
      obtain ⟨_, _, h3⟩ := List.pairwise_append.1 hp
      exact h3 x h _ (by rw [List.drop_eq_getElem_cons hlt]; exact List.mem_cons_self)
    · exact .inl h
theorem apart_of {s m : List CT} (h : s.Pairwise (fun x y => CT.cmp x y < 0)) (hm : m.Perm s) : m.Pairwise (fun x y => CT.cmp x y ≠ 0) := by
  refine (hm.pairwise_iff (fun {x y} q => ?_)).2 (h.imp fun {a b} q => by omega)
  have := ct_c3.anti x y
  omega
theorem held_all {s m d : List CT} (hs : s.Pairwise (fun x y => CT.cmp x y < 0)) (hd : d.Pairwise (fun x y => CT.cmp x y < 0)) (hm : m.Perm s) (h : heldT m d m.length) : d = s := by
  refine rise_uniq hd hs fun c => ?_
  rw [h c, List.take_length]
  exact hm.mem_iff
theorem get_here {s : List CT} {i : Nat} {c : CT} (h : s.Pairwise (fun x y => CT.cmp x y < 0)) (hc : s[i]? = some c) : getL s c = some c := by
  obtain ⟨hi, rfl⟩ := List.getElem?_eq_some_iff.1 hc
  unfold getL
  rw [List.find?_eq_some_iff_append]
  refine ⟨decide_eq_true (ct_c3.zero _), s.take i, s.drop (i + 1), ?_, fun a ha => ?_⟩
  · rw [← List.drop_eq_getElem_cons hi, List.take_append_drop]
  · rw [← List.take_append_drop i s] at h
    obtain ⟨_, _, h3⟩ := List.pairwise_append.1 h
    have := h3 a ha s[i] (by rw [List.drop_eq_getElem_cons hi]; exact List.mem_cons_self)
    simp only [Bool.not_eq_true', decide_eq_false_iff_not]
    omega
end Go.Proofs.YtdjaofbjmnmlbaaDoor

/- What the document's own table keeps: a cell put among cells in order, step by step. Conditions: as each theorem names them. -/
namespace Go.Proofs.YtdjaofbjmnmlbaaDoor
open Go.RowKit

theorem put_between {p q : List CT} {c : CT} (hp : ∀ x ∈ p, CT.cmp x c < 0) (hq : ∀ y ∈ q, 0 < CT.cmp y c) : putL (p ++ q) c = p ++ c :: q := by
  unfold putL
  rw [List.filter_append, List.filter_append, List.filter_eq_self.2 (fun x hx => decide_eq_true (hp x hx)), List.filter_eq_nil_iff.2 (fun x hx => by have := hq x hx; rw [decide_eq_true_iff]; omega), List.filter_eq_nil_iff.2 (fun x hx => by have := hp x hx; rw [decide_eq_true_iff]; omega), List.filter_eq_self.2 (fun x hx => decide_eq_true (hq x hx)), List.append_nil, List.nil_append]
theorem put_upon {p q : List CT} {x c : CT} (hp : ∀ x ∈ p, CT.cmp x c < 0) (hx : CT.cmp x c = 0) (hq : ∀ y ∈ q, 0 < CT.cmp y c) : putL (p ++ x :: q) c = p ++ c :: q := by
  rw [← put_between hp hq]
  unfold putL
  rw [List.filter_append, List.filter_append, List.filter_append, List.filter_append, List.filter_cons, List.filter_cons, if_neg (by rw [decide_eq_true_iff]; omega), if_neg (by rw [decide_eq_true_iff]; omega)]
/-- What the document's Put has kept of the first i cells: nx, with c among them or not. -/
def NextI (d : List CT) (c : CT) (i : Nat) (done : Bool) (nx : List CT) : Prop :=
  (done = false ∧ nx = d.take i ∧ ∀ x ∈ d.take i, CT.cmp x c < 0) ∨ (done = true ∧ (∀ x ∈ d.drop i, 0 < CT.cmp x c) ∧ nx ++ d.drop i = putL d c)
theorem nxt_start (d : List CT) (c : CT) : NextI d c 0 false [] := .inl ⟨rfl, rfl, fun x hx => by cases hx⟩
section
variable {d nx : List CT} {c x : CT} {i : Nat}
theorem take_next (hx : d[i]? = some x) : d.take (i + 1) = d.take i ++ [x] := by rw [List.take_add_one, hx]; rfl
theorem drop_here (hx : d[i]? = some x) : d.drop i = x :: d.drop (i + 1) := by
  obtain ⟨hi, rfl⟩ := List.getElem?_eq_some_iff.1 hx
  exact List.drop_eq_getElem_cons hi
theorem split_here (hx : d[i]? = some x) : d = d.take i ++ x :: d.drop (i + 1) := by
  rw [← drop_here hx, List.take_append_drop]
theorem rest_above (hr : d.Pairwise (fun x y => CT.cmp x y < 0)) (hx : d[i]? = some x) (h : 0 ≤ CT.cmp x c) : ∀ y ∈ d.drop (i + 1), 0 < CT.cmp y c := fun y hy => by
  rw [split_here hx] at hr
  obtain ⟨_, h2, _⟩ := List.pairwise_append.1 hr
  have h1 := (List.pairwise_cons.1 h2).1 y hy
  false_or_by_contra
  have := ct_c3.lt_le (x := x) (y := y) (z := c) h1 (by omega)
  omega
theorem nxt_low (h : NextI d c i false nx) (hx : d[i]? = some x) (hlt : CT.cmp x c < 0) : NextI d c (i + 1) false (nx ++ [x]) := by
  rcases h with ⟨_, rfl, h⟩ | ⟨q, _⟩
  · refine .inl ⟨rfl, (take_next hx).symm, fun y hy => ?_⟩
    rw [take_next hx] at hy
    rcases List.mem_append.1 hy with hy | hy
    · exact h y hy
    · rw [List.mem_singleton.1 hy]; exact hlt
  · cases q
theorem nxt_same (hr : d.Pairwise (fun x y => CT.cmp x y < 0)) (h : NextI d c i false nx) (hx : d[i]? = some x) (he : CT.cmp x c = 0) : NextI d c (i + 1) true (nx ++ [c]) := by
  rcases h with ⟨_, rfl, h⟩ | ⟨q, _⟩
  · have ha := rest_above hr hx (c := c) (by omega)
    refine .inr ⟨rfl, ha, ?_⟩
    conv => rhs; rw [split_here hx]
    rw [put_upon h he ha, List.append_assoc]
    rfl
  · cases q
theorem nxt_high (hr : d.Pairwise (fun x y => CT.cmp x y < 0)) (h : NextI d c i false nx) (hx : d[i]? = some x) (hg : 0 < CT.cmp x c) : NextI d c (i + 1) true (nx ++ [c] ++ [x]) := by
  rcases h with ⟨_, rfl, h⟩ | ⟨q, _⟩
  · have ha := rest_above hr hx (c := c) (by omega)
    refine .inr ⟨rfl, ha, ?_⟩
    have hb : ∀ y ∈ x :: d.drop (i + 1), 0 < CT.cmp y c := fun y hy => by
      rcases List.mem_cons.1 hy with rfl | hy
      · exact hg
      · exact ha y hy
    conv => rhs; rw [split_here hx]
    rw [put_between h hb, List.append_assoc, List.append_assoc]
    rfl
  · cases q
theorem nxt_done (h : NextI d c i true nx) (hx : d[i]? = some x) : 0 < CT.cmp x c ∧ NextI d c (i + 1) true (nx ++ [x]) := by
  rcases h with ⟨q, _⟩ | ⟨_, h1, h2⟩
  · cases q
  · rw [drop_here hx] at h1 h2
    refine ⟨h1 x List.mem_cons_self, .inr ⟨rfl, fun y hy => h1 y (List.mem_cons_of_mem _ hy), ?_⟩⟩
    rw [← h2, List.append_assoc]
    rfl
theorem nxt_end0 (h : NextI d c d.length false nx) : nx ++ [c] = putL d c := by
  rcases h with ⟨_, rfl, h⟩ | ⟨q, _⟩
  · rw [List.take_length] at h ⊢
    have := put_between (q := []) h (fun y hy => by cases hy)
    rw [List.append_nil] at this
    exact this.symm
  · cases q
theorem nxt_end1 (h : NextI d c d.length true nx) : nx = putL d c := by
  rcases h with ⟨q, _⟩ | ⟨_, _, h⟩
  · cases q
  · rw [List.drop_length, List.append_nil] at h
    exact h
theorem nxt_len {b : Bool} (h : NextI d c i b nx) (hi : i ≤ d.length) : nx.length ≤ d.length + 1 := by
  rcases h with ⟨_, rfl, _⟩ | ⟨_, _, h⟩
  · rw [List.length_take]; omega
  · have h1 := congrArg List.length h
    rw [List.length_append] at h1
    have h2 : (putL d c).length ≤ d.length + 1 := by
      unfold putL
      have := filter_two (p := fun x => decide (CT.cmp x c < 0)) (q := fun x => decide (0 < CT.cmp x c)) (l := d) fun x hx => by
        have := of_decide_eq_true hx
        exact decide_eq_false (by omega)
      rw [List.length_append, List.length_cons]
      omega
    omega
end
theorem getL_skip {d : List CT} {c : CT} {i : Nat} (h : ∀ x ∈ d.take i, CT.cmp x c ≠ 0) : getL d c = getL (d.drop i) c := by
  unfold getL
  conv => lhs; rw [← List.take_append_drop i d]
  rw [List.find?_append, List.find?_eq_none.2 (fun x hx => by rw [decide_eq_true_iff]; exact h x hx), Option.none_or]
end Go.Proofs.YtdjaofbjmnmlbaaDoor

/- What is put among cells that the laws look at. Conditions: as each theorem names them. -/
namespace Go.Proofs.YtdjaofbjmnmlbaaDoor
open Go.RowKit

theorem putL_sm {d : List CT} {c : CT} (h : ∀ x ∈ d, Sm x) (hc : Sm c) : ∀ x ∈ putL d c, Sm x := fun x hx => by
  rcases putL_mem hx with rfl | hx
  · exact hc
  · exact h x hx
end Go.Proofs.YtdjaofbjmnmlbaaDoor

/- The statements' fixed cells: alive. Conditions: the tables of utf8 read as they are laid. -/
namespace Go.Proofs.YtdjaofbjmnmlbaaDoor
open Go.RowKit

abbrev AlS (W0 : World) (rb : Nat) (W : World) : Prop := Hid (Below W0.heap.size W0 W ∧ rb < W0.heap.size) ∧ W.cell? ⟨rb, 0, none⟩ = some (.string ⟨#[114]⟩) ∧ W.cell? ⟨rb, 1, none⟩ = some (.string ⟨#[102]⟩) ∧ W.cell? ⟨rb, 2, none⟩ = some (.string ⟨#[113]⟩) ∧ W.cell? ⟨rb, 3, none⟩ = some (.int .i64 3) ∧ W.cell? ⟨rb, 4, none⟩ = some (.int .i64 3) ∧ W.cell? ⟨rb, 5, none⟩ = some (.int .i64 0) ∧ W.cell? ⟨rb, 6, none⟩ = some (.int .i64 0) ∧ W.cell? ⟨rb, 7, none⟩ = some (.string ⟨#[]⟩)
abbrev AlT (W0 : World) (g vb : Nat) (W : World) : Prop := Hid (Below W0.heap.size W0 W ∧ g < W0.heap.size ∧ vb < W0.heap.size) ∧ W.cell? ⟨g, 0, none⟩ = some (.string ⟨#[114]⟩) ∧ W.cell? ⟨g, 1, none⟩ = some (.string ⟨#[102]⟩) ∧ W.cell? ⟨g, 2, none⟩ = some (.string ⟨#[113]⟩) ∧ W.cell? ⟨g, 3, none⟩ = some (.int .i64 5) ∧ W.cell? ⟨g, 4, none⟩ = some (.int .i64 1) ∧ W.cell? ⟨g, 5, none⟩ = some (.int .i64 1) ∧ W.cell? ⟨g, 6, none⟩ = some (.int .i64 5) ∧ W.cell? ⟨g, 7, none⟩ = some (.string ⟨#[]⟩) ∧ W.cell? ⟨vb, 1, none⟩ = some (.int .i64 5)
section
variable {W0 W W' : World} {rb g vb : Nat}
theorem als_drew (h : AlS W0 rb W) : AlS W0 rb W.drew := ⟨hid ⟨h.1.out.1.drew, h.1.out.2⟩, h.2⟩
theorem als_call (h : AlS W0 rb W) (hb : Below W.heap.size W W') : AlS W0 rb W' := by
  obtain ⟨hh, a0, a1, a2, a3, a4, a5, a6, a7⟩ := h
  obtain ⟨hbw, h1⟩ := hh.out
  have hz := hbw.size
  have hc : ∀ b o, b < W0.heap.size → W'.cell? ⟨b, o, none⟩ = W.cell? ⟨b, o, none⟩ := fun b o h => hb.cell (p := ⟨b, o, none⟩) (show b < W.heap.size by omega)
  refine ⟨hid ⟨hbw.trans (hb.mono hz), h1⟩, ?_, ?_, ?_, ?_, ?_, ?_, ?_, ?_⟩ <;> (rw [hc _ _ (by omega)]; assumption)
theorem alt_drew (h : AlT W0 g vb W) : AlT W0 g vb W.drew := ⟨hid ⟨h.1.out.1.drew, h.1.out.2⟩, h.2⟩
theorem alt_call (h : AlT W0 g vb W) (hb : Below W.heap.size W W') : AlT W0 g vb W' := by
  obtain ⟨hh, a0, a1, a2, a3, a4, a5, a6, a7, a8⟩ := h
  obtain ⟨hbw, h1, h2⟩ := hh.out
  have hz := hbw.size
  have hc : ∀ b o, b < W0.heap.size → W'.cell? ⟨b, o, none⟩ = W.cell? ⟨b, o, none⟩ := fun b o h => hb.cell (p := ⟨b, o, none⟩) (show b < W.heap.size by omega)
  refine ⟨hid ⟨hbw.trans (hb.mono hz), h1, h2⟩, ?_, ?_, ?_, ?_, ?_, ?_, ?_, ?_, ?_⟩ <;> (rw [hc _ _ (by omega)]; assumption)
end
/-- The fixed cells in memory. -/
theorem cla_fixed (w : World) : ClA (w.alloc (.cells (flatC fixedC).toArray 28)) (.slice (some ⟨w.heap.size, 0, none⟩) 4 4) fixedC := by
  refine ⟨_, 4, rfl, Nat.le_refl _, by omega, fun _ => ⟨_, 0, rfl, fun i hi j hj => ?_⟩⟩
  rw [(Blk.new w 28 (flatC fixedC).toArray).cell, Nat.zero_add, List.getElem?_toArray]
  exact flatC_at fixedC i j hi hj
theorem crow_one {w : World} {B : Nat} {v : Value} {c : CT} (h : CRow w B v [c]) : ∃ g cap, v = .slice (some ⟨g, 0, none⟩) 1 cap ∧ 1 ≤ cap ∧ cap ≤ 9223372036854775807 ∧ g < w.heap.size ∧ ∀ j, j < 8 → w.cell? ⟨g, j, none⟩ = c.e[j]? := by
  have h' := h
  rcases h.2 with ⟨e, hz⟩ | ⟨g, cap, cur, e, hB, hb, h1, h2, _⟩
  · cases hz
  · subst e
    refine ⟨g, cap, rfl, h1, by unfold maxLen at h2; omega, (Array.getElem?_eq_some_iff.1 hb).1, fun j hj => ?_⟩
    have := h'.hc 0 (by simp) j hj
    simpa using this
theorem fixed_okC : ∀ c ∈ fixedC, okC c := by
  intro c hc
  have q : okC (putC 3) ∧ okC (putC 4) ∧ okC goneC ∧ okC (putC 5) := by
    refine ⟨⟨?_, ?_, ?_⟩, ⟨?_, ?_, ?_⟩, ⟨?_, ?_, ?_⟩, ⟨?_, ?_, ?_⟩⟩ <;> (simp only [putC, goneC]; first | decide | (unfold inI; omega))
  simp only [fixedC, List.mem_cons, List.not_mem_nil, or_false] at hc
  rcases hc with rfl | rfl | rfl | rfl
  · exact q.1
  · exact q.2.1
  · exact q.2.2.1
  · exact q.2.2.2

set_option maxHeartbeats 4000000 in
set_option maxRecDepth 100000 in
theorem alive_any (w : World) (hL : LaidU w) : Calls Tryd.prog 23 #[] w fun e w' => e = .returned (.bool true) ∧ Below w.heap.size w w' := by
  have mixed : Tryd.prog.follows .mixedOrders = true := by kernel_rfl
  have HP := hid putc_any
  have HPL : Hid (∀ W, Calls Tryd.prog 69 #[.int .i64 5] W fun e w' => e = .returned (.agg #[.string ⟨#[114]⟩, .string ⟨#[102]⟩, .string ⟨#[113]⟩, .int .i64 5, .int .i64 1, .int .i64 1, .int .i64 5, .string ⟨#[]⟩]) ∧ Below W.heap.size W w') := putc_any 5
  have HX : Hid (∀ (w5 W : World) , LaidU (w5.alloc (.cells (flatC fixedC).toArray 28)) → Below (w5.alloc (.cells (flatC fixedC).toArray 28)).heap.size (w5.alloc (.cells (flatC fixedC).toArray 28)) W → ClA W (.slice (some ⟨w5.heap.size, 0, none⟩) 4 4) fixedC ∧ LaidU W) := fun w5 W h1 h2 => ⟨(cla_fixed w5).below h2, h1.below h2⟩
  have HSe : Hid (∀ (W : World) (v : Value) (a b d : Int), ClA W v fixedC ∧ LaidU W → Calls Tryd.prog 30 #[v, .int .i64 a, .int .i64 b, .int .i64 d] W fun e w' => ∃ v', e = .returned v' ∧ CRow w' W.heap.size v' (seenL a b d fixedS) ∧ Below W.heap.size W w') := fun W v a b d h => (cseen_any v fixedC (by decide) a b d W h.1 fixed_okC h.2).mono fun _ _ ⟨v', s, h1, h2, h3, h4⟩ => ⟨v', h1, by rw [fixed_sort h2] at h3; exact h3, h4⟩
  have HVa : Hid (∀ (W : World) (v : Value), ClA W v fixedC ∧ LaidU W → Calls Tryd.prog 70 #[v, .string ⟨#[102]⟩, .string ⟨#[113]⟩, .int .i64 1, .int .i64 0, .int .i64 9] W fun e w' => e = .returned (.tuple #[.agg #[.int .i64 1, .int .i64 5, .string ⟨#[]⟩], .bool true]) ∧ Below W.heap.size W w') := fun W v h => (cvalue_any v fixedC (by decide) _ _ 1 0 9 W h.1 fixed_okC h.2).mono fun _ _ ⟨s, h1, h2, h3⟩ => ⟨by rw [h1, fixed_sort h2]; exact congrArg (fun o => Ending.returned (valV o)) fixed_value, h3⟩
  have HSo : Hid (∀ (W : World) (v : Value), ClA W v fixedC ∧ LaidU W → Calls Tryd.prog 25 #[v] W fun e w' => ∃ A c, e = .returned (.slice A 4 c) ∧ Below W.heap.size W w') := fun W v h => (sort_any v fixedC (by decide) W h.1 fixed_okC h.2).mono fun _ _ ⟨v', s, h1, h2, h3, h4⟩ => by
    obtain ⟨A, c, e, _⟩ := h3.len
    rw [fixed_sort h2] at e
    exact ⟨A, c, by rw [h1, e]; rfl, h4⟩
  have HRo : Hid (∀ (W : World) (v : Value), ClA W v fixedC ∧ LaidU W → Calls Tryd.prog 71 #[v] W fun e w' => ∃ A c, e = .returned (.slice A 1 c) ∧ Below W.heap.size W w') := fun W v h => (crows_any v fixedC (by decide) W h.1).mono fun _ _ ⟨v', h1, h2, h3⟩ => by
    have h4 := h2.2
    rw [fixed_rows] at h4
    rcases h4 with ⟨_, hz⟩ | ⟨g, cap, cur, e, _⟩
    · cases hz
    · exact ⟨_, cap, by rw [h1, e], h3⟩
  have HS8 : Hid (∀ (W : World) (v : Value) (b d : Int), ClA W v fixedC ∧ LaidU W → Calls Tryd.prog 30 #[v, .int .i64 8, .int .i64 b, .int .i64 d] W fun e w' => ∃ A c, e = .returned (.slice A (seenL 8 b d fixedS).length c) ∧ Below W.heap.size W w') := fun W v b d h => (HSe.out W v 8 b d h).mono fun _ _ ⟨v', h1, h2, h3⟩ => by
    obtain ⟨A, c, e, _⟩ := h2.len
    exact ⟨A, c, by rw [h1, e], h3⟩
  have HNe : Hid (∀ (W : World) (v : Value), ClA W v fixedC ∧ LaidU W → Calls Tryd.prog 72 #[v, .int .i64 8, .int .i64 0, .int .i64 9] W fun e w' => ∃ A c, e = .returned (.slice A 2 c) ∧ Below W.heap.size W w') := fun W v h => (cneeded_any v fixedC (by decide) 8 0 9 W h.1 fixed_okC h.2).mono fun _ _ ⟨v', s, h1, h2, h3, h4⟩ => by
    obtain ⟨A, c, e, _⟩ := h3.len
    rw [fixed_sort h2] at e
    exact ⟨A, c, by rw [h1, e]; rfl, h4⟩
  go_enter Tryd.func23, Tryd.ntmps23
  go_upto_region 2 with (fail)
  obtain ⟨rb, hrb⟩ : ∃ rb, w.heap.size = rb := ⟨_, rfl⟩
  obtain ⟨W0, hW0⟩ : ∃ W0, w.alloc (.cells goneC.e.toArray 28) = W0 := ⟨_, rfl⟩
  have HT : Hid (AlS W0 rb W0) := by
    rw [← hW0, ← hrb]
    have hB := Blk.new w 28 goneC.e.toArray
    exact ⟨hid ⟨Below.refl _ _, hB.lt⟩, blk_words (c := goneC) hB⟩
  have HB0 : Hid (Below w.heap.size w W0) := by rw [← hW0]; exact below_new _ _
  have HL0 : Hid (LaidU W0) := hL.below HB0.out
  rw [show w.alloc (.cells #[.string ⟨#[114]⟩, .string ⟨#[102]⟩, .string ⟨#[113]⟩, .int .i64 3, .int .i64 3, .int .i64 0, .int .i64 0, .string ⟨#[]⟩] 28) = W0 from hW0, hrb]
  clear hrb hW0 hL
  obtain ⟨-, a0, a1, a2, a3, a4, a5, a6, a7⟩ := HT.out
  go_region_held3 (fun W' => Hid (Below W0.heap.size W0 W' ∧ rb < W0.heap.size) ∧ W'.cell? ⟨rb, 0, none⟩ = some (.string ⟨#[114]⟩) ∧ W'.cell? ⟨rb, 1, none⟩ = some (.string ⟨#[102]⟩) ∧ W'.cell? ⟨rb, 2, none⟩ = some (.string ⟨#[113]⟩) ∧ W'.cell? ⟨rb, 3, none⟩ = some (.int .i64 3) ∧ W'.cell? ⟨rb, 4, none⟩ = some (.int .i64 3) ∧ W'.cell? ⟨rb, 5, none⟩ = some (.int .i64 0) ∧ W'.cell? ⟨rb, 6, none⟩ = some (.int .i64 0) ∧ W'.cell? ⟨rb, 7, none⟩ = some (.string ⟨#[]⟩))
    (first | exact HT.out | exact als_drew HT.out | exact als_call (by assumption) hb5 | exact als_call (by assumption) (below_new _ _) | exact als_drew (by assumption) | assumption)
    (first | (go_at_call 69; refine (HP.out _ _).mono ?_; rintro e w5 ⟨rfl, hb5⟩))
  rename_i hLast
  have HB5 : Hid (Below W0.heap.size W0 (w5.alloc (.cells (flatC fixedC).toArray 28))) := hLast.1.out.1
  clear a0 a1 a2 a3 a4 a5 a6 a7 hLast HT
  have HL5 : Hid (LaidU (w5.alloc (.cells (flatC fixedC).toArray 28))) := HL0.out.below HB5.out
  go_upto_region 5 with (first
    | (go_at_call 30; refine (HSe.out _ _ 1 0 9 (HX.out w5 _ HL5.out (Below.refl _ _))).mono ?_; rintro e w6 ⟨v6, rfl, hr6, hb6⟩; rw [fixed_seen1] at hr6; obtain ⟨g, cap, rfl, hc1, hc2, hg, hw⟩ := crow_one hr6)
    | (go_at_call 70; refine (HVa.out _ _ (HX.out w5 _ HL5.out hb6)).mono ?_; rintro e w7 ⟨rfl, hb7⟩))
  obtain ⟨W8, hW8⟩ : ∃ W8, w7.alloc (.cells #[.int .i64 1, .int .i64 5, .string ⟨#[]⟩] 26) = W8 := ⟨_, rfl⟩
  obtain ⟨vb, hvb⟩ : ∃ vb, w7.heap.size = vb := ⟨_, rfl⟩
  obtain ⟨lv, hlv⟩ : ∃ lv, Value.slice (some ⟨w5.heap.size, 0, none⟩) 4 4 = lv := ⟨_, rfl⟩
  have hb8 : Below w7.heap.size w7 W8 := by rw [← hW8]; exact below_new _ _
  have HQ : Hid (∀ W', Below W8.heap.size W8 W' → ClA W' lv fixedC ∧ LaidU W') := fun W' h => by
    have h1 := HX.out w5 _ HL5.out ((hb6.trans (hb7.mono hb6.size)).trans ((hb8.mono (Nat.le_trans hb6.size hb7.size)).trans (h.mono (Nat.le_trans (Nat.le_trans hb6.size hb7.size) hb8.size))))
    rw [hlv] at h1
    exact h1
  have HB8 : Hid (Below w.heap.size w W8) := by
    have h1 := HB0.out.trans (HB5.out.mono HB0.out.size)
    have h2 := h1.trans (hb6.mono h1.size)
    have h3 := h2.trans (hb7.mono h2.size)
    exact h3.trans (hb8.mono h3.size)
  have HT : Hid (AlT W8 g vb W8) := by
    have hg7 : g < w7.heap.size := Nat.lt_of_lt_of_le hg hb7.size
    have k : ∀ j, j < 8 → W8.cell? ⟨g, j, none⟩ = (putC 5).e[j]? := fun j hj => by
      rw [hb8.cell (p := ⟨g, j, none⟩) hg7, hb7.cell (p := ⟨g, j, none⟩) hg]
      exact hw j hj
    have hB : Blk W8 vb 26 #[.int .i64 1, .int .i64 5, .string ⟨#[]⟩] := by rw [← hW8, ← hvb]; exact Blk.new _ _ _
    exact ⟨hid ⟨Below.refl _ _, Nat.lt_of_lt_of_le hg7 hb8.size, hB.lt⟩, k 0 (by omega), k 1 (by omega), k 2 (by omega), k 3 (by omega), k 4 (by omega), k 5 (by omega), k 6 (by omega), k 7 (by omega), hB.cell 1⟩
  rw [hW8, hvb, hlv]
  clear hW8 hvb hlv hb8 hw hr6 hb6 hb7 HX HL5 HB5 HL0 HB0
  obtain ⟨-, a0, a1, a2, a3, a4, a5, a6, a7, a8⟩ := HT.out
  go_region_held3 (fun W' => Hid (Below W8.heap.size W8 W' ∧ g < W8.heap.size ∧ vb < W8.heap.size) ∧ W'.cell? ⟨g, 0, none⟩ = some (.string ⟨#[114]⟩) ∧ W'.cell? ⟨g, 1, none⟩ = some (.string ⟨#[102]⟩) ∧ W'.cell? ⟨g, 2, none⟩ = some (.string ⟨#[113]⟩) ∧ W'.cell? ⟨g, 3, none⟩ = some (.int .i64 5) ∧ W'.cell? ⟨g, 4, none⟩ = some (.int .i64 1) ∧ W'.cell? ⟨g, 5, none⟩ = some (.int .i64 1) ∧ W'.cell? ⟨g, 6, none⟩ = some (.int .i64 5) ∧ W'.cell? ⟨g, 7, none⟩ = some (.string ⟨#[]⟩) ∧ W'.cell? ⟨vb, 1, none⟩ = some (.int .i64 5))
    (first | exact HT.out | exact alt_drew HT.out | exact alt_call (by assumption) hb9 | exact alt_drew (by assumption) | assumption)
    (first
      | (go_at_call 69; refine (HPL.out _).mono ?_; rintro e w9 ⟨rfl, hb9⟩)
      | (go_at_call 25; refine (HSo.out _ _ (HQ.out _ (Hid.out (And.left (by assumption : AlT W8 g vb _))).1)).mono ?_; rintro e w9 ⟨A9, c9, rfl, hb9⟩)
      | (go_at_call 30; refine (HS8.out _ _ _ _ (HQ.out _ (Hid.out (And.left (by assumption : AlT W8 g vb _))).1)).mono ?_; rintro e w9 ⟨A9, c9, rfl, hb9⟩; (first | rw [fixed_seen8] | rw [fixed_seen3]))
      | (go_at_call 71; refine (HRo.out _ _ (HQ.out _ (Hid.out (And.left (by assumption : AlT W8 g vb _))).1)).mono ?_; rintro e w9 ⟨A9, c9, rfl, hb9⟩)
      | (go_at_call 72; refine (HNe.out _ _ (HQ.out _ (Hid.out (And.left (by assumption : AlT W8 g vb _))).1)).mono ?_; rintro e w9 ⟨A9, c9, rfl, hb9⟩))
  rename_i hLast
  have HZ := hid hLast.1.out.1
  clear a0 a1 a2 a3 a4 a5 a6 a7 a8 hLast HT
  go_wp2
  go_ret
  exact ⟨rfl, HB8.out.trans (HZ.out.mono HB8.out.size)⟩
end Go.Proofs.YtdjaofbjmnmlbaaDoor

/- The statement of layer 6: no column has more than so many versions to be seen. Conditions: the arguments stand, their numbers are of 64 bits; the tables of utf8 read as they are laid. -/
namespace Go.Proofs.YtdjaofbjmnmlbaaDoor
open Go.RowKit

set_option maxHeartbeats 1000000 in
theorem long_any (v : Value) (l : List CT) (w : World) (h : ClA w v l) :
    Calls Tryd.prog 24 #[v] w fun e w' => e = .returned (.bool (longC l)) ∧ Below w.heap.size w w' := by
  have HL := hid (longcells_any v l w h)
  clear h
  go_enter Tryd.func24, Tryd.ntmps24
  go_wp2_with (go_at_call 33; refine HL.out.mono ?_; rintro e w5 ⟨rfl, hb5⟩)
  go_ret
  exact ⟨rfl, hb5⟩
theorem longC_ok {l : List CT} (h : longC l = false) (hv : ∀ c ∈ l, inI c.vn) : l.length ≤ 100000 ∧ ∀ c ∈ l, okC c := by
  unfold longC at h
  rw [Bool.or_eq_false_iff] at h
  obtain ⟨h1, h2⟩ := h
  have h1 := of_decide_eq_false h1
  refine ⟨by omega, fun c hc => ?_⟩
  have h3 : longC1 c = false := by
    cases e : longC1 c with
    | false => rfl
    | true =>
      rw [List.any_eq_true.2 ⟨c, hc, e⟩] at h2
      cases h2
  unfold longC1 at h3
  simp only [Bool.or_eq_false_iff, decide_eq_false_iff_not] at h3
  exact ⟨by omega, by omega, hv c hc⟩

set_option maxHeartbeats 4000000 in
set_option maxRecDepth 100000 in
theorem cellfew_any (v : Value) (l : List CT) (ver life now : Int) (w : World) (h : ClA w v l) (hv : ∀ c ∈ l, inI c.vn) (hL : LaidU w) :
    Calls Tryd.prog 6 #[v, .int .i64 ver, .int .i64 life, .int .i64 now] w fun e w' => e = .returned (.bool true) ∧ Below w.heap.size w w' := by
  have mixed : Tryd.prog.follows .mixedOrders = true := by kernel_rfl
  have HA := hid (alive_any w hL)
  have HLg : Hid (∀ W, Below w.heap.size w W → Calls Tryd.prog 24 #[v] W fun e w' => e = .returned (.bool (longC l)) ∧ Below W.heap.size W w') := fun W hb => long_any v l W (h.below hb)
  cases hg : longC l with
  | true =>
    rw [hg] at HLg
    clear h hv hL hg
    go_enter Tryd.func6, Tryd.ntmps6
    go_wp2_with (first | (go_at_call 23; refine HA.out.mono ?_; rintro e w5 ⟨rfl, hb5⟩) | (go_at_call 24; refine (HLg.out _ hb5).mono ?_; rintro e w6 ⟨rfl, hb6⟩))
    go_ret
    exact ⟨rfl, hb5.trans (hb6.mono hb5.size)⟩
  | false =>
    rw [hg] at HLg
    have HS : Hid (∀ W, Below w.heap.size w W → Calls Tryd.prog 30 #[v, .int .i64 ver, .int .i64 life, .int .i64 now] W fun e w' => ∃ v' u, e = .returned v' ∧ CRow w' W.heap.size v' u ∧ Hid (fewM ver none 0 u = true ∧ u.length ≤ 100000) ∧ Below W.heap.size W w') := fun W hb => (cseen_any v l (longC_ok hg hv).1 ver life now W (h.below hb) (longC_ok hg hv).2 (hL.below hb)).mono fun _ _ ⟨v', s, h1, h2, h3, h4⟩ => ⟨v', _, h1, h3, ⟨few_all h2 ver life now, Nat.le_trans (seenL_len ver life now s) (Nat.le_trans h2.len (longC_ok hg hv).1)⟩, h4⟩
    clear h hv hL hg
    go_enter Tryd.func6, Tryd.ntmps6
    go_wp2_with (first | (go_at_call 23; refine HA.out.mono ?_; rintro e w5 ⟨rfl, hb5⟩) | (go_at_call 24; refine (HLg.out _ hb5).mono ?_; rintro e w6 ⟨rfl, hb6⟩) | (go_at_call 30; refine (HS.out _ (hb5.trans (hb6.mono hb5.size))).mono ?_; rintro e w7 ⟨v7, u, rfl, hr7, hF, hb7⟩; have K7 := hid hr7.cla; have BW := hid ((hb5.trans (hb6.mono hb5.size)).trans (hb7.mono (Nat.le_trans hb5.size hb6.size))); clear hr7; obtain ⟨A7, c7, rfl, hc7, hm7, hh7⟩ := K7.out; have HH := hid hh7; clear hh7 K7; obtain ⟨m, hm⟩ : ∃ m, u.length = m := ⟨_, rfl⟩; have HM := hid hm; rw [hm] at hc7 ⊢; clear hm))
    all_goals first
      | (go_ret; exact ⟨rfl, hb5.trans (hb6.mono hb5.size)⟩)
      | skip
    have hmL : m ≤ 100000 := by rw [← HM.out]; exact hF.out.2
    clear HA HLg HS
    go_loopw [10, 11] (fun vn vi wr => Hid (Below w7.heap.size w7 wr) ∧ ∃ (i : Nat) (n : Int) (p : Option CT), i ≤ m ∧ vn = .int .i64 n ∧ vi = .int .i64 i ∧ Hid (fewM ver p n (u.drop i) = true) ∧ ((i = 0 ∧ p = none) ∨ ∃ j, i = j + 1 ∧ Hid (∀ h : j < u.length, p = some u[j]))) (fun _ vi _ => m - (intOf vi).toNat)
    case atStart => exact ⟨Below.refl _ _, 0, 0, none, Nat.zero_le _, rfl, rfl, hF.out.1, .inl ⟨rfl, rfl⟩⟩
    case round =>
      obtain ⟨HB, i, n, p, hi, rfl, rfl, HF, hp⟩ := hrel
      by_cases hlt : i < m
      · have him : i < u.length := by rw [HM.out]; exact hlt
        obtain ⟨b, off, rfl, hhc⟩ := HH.out (by rw [HM.out]; omega)
        have hbw : b < w7.heap.size := hhc.lt (by omega)
        obtain ⟨c, hc⟩ : ∃ c, u[i] = c := ⟨_, rfl⟩
        have P : wr.cell? ⟨b, off + i * 8, none⟩ = some (.string c.r) ∧ wr.cell? ⟨b, off + i * 8 + 1, none⟩ = some (.string c.f) ∧ wr.cell? ⟨b, off + i * 8 + 2, none⟩ = some (.string c.q) ∧ wr.cell? ⟨b, off + i * 8 + 3, none⟩ = some (.int .i64 c.t) ∧ wr.cell? ⟨b, off + i * 8 + 4, none⟩ = some (.int .i64 c.k) ∧ wr.cell? ⟨b, off + i * 8 + 5, none⟩ = some (.int .i64 c.vk) ∧ wr.cell? ⟨b, off + i * 8 + 6, none⟩ = some (.int .i64 c.vn) ∧ wr.cell? ⟨b, off + i * 8 + 7, none⟩ = some (.string c.s) := by
          rw [← hc]
          exact (hhc.below HB.out hbw).words i him
        have HF0 : Hid (fewM ver p n (c :: u.drop (i + 1)) = true) := by
          unfold Hid
          rw [← hc, ← List.drop_eq_getElem_cons him]
          exact HF.out
        have hk : c.k = 1 := by
          false_or_by_contra
          rename_i q
          have := HF0.out
          unfold fewM at this
          rw [if_pos q] at this
          cases this
        have hk1 : (c.k != 1) = false := by simpa using hk
        rcases hp with ⟨rfl, rfl⟩ | ⟨j, rfl, hpj⟩
        · have HF2 : Hid (¬ ver < 1 ∧ fewM ver (some c) 1 (u.drop 1) = true) := by
            have hF := HF0.out
            unfold fewM at hF
            rw [if_neg (by omega)] at hF
            simp only at hF
            by_cases hv1 : ver < 1
            · rw [if_pos hv1] at hF; cases hF
            · rw [if_neg hv1] at hF; exact ⟨hv1, hF⟩
          have hv1 : ¬ ver < 1 := HF2.out.1
          have HCc : Hid (∀ h : 0 < u.length, some c = some u[0]) := fun h => by rw [hc]
          have hltz : (0 : Int) < (m : Int) := by omega
          rw [Nat.zero_mul, Nat.add_zero] at P
          obtain ⟨p0, p1, p2, p3, p4, p5, p6, p7⟩ := P
          clear hc hhc HF0 HF hk
          go_upto_region 12 with (fail)
          go_quiet (fail)
          go_wp2
          go_roundw
          case rel => exact ⟨Go.below_drewN HB.out _, 1, 1, some c, by omega, rfl, by go_num, HF2.out.2, .inr ⟨0, rfl, HCc.out⟩⟩
          case measure => simp [intOf]; omega
        · have hju : j < u.length := by omega
          obtain ⟨d, hd⟩ : ∃ d, u[j] = d := ⟨_, rfl⟩
          have hpd := hpj.out hju
          rw [hd] at hpd
          subst hpd
          have Pd : wr.cell? ⟨b, off + j * 8, none⟩ = some (.string d.r) ∧ wr.cell? ⟨b, off + j * 8 + 1, none⟩ = some (.string d.f) ∧ wr.cell? ⟨b, off + j * 8 + 2, none⟩ = some (.string d.q) ∧ wr.cell? ⟨b, off + j * 8 + 3, none⟩ = some (.int .i64 d.t) ∧ wr.cell? ⟨b, off + j * 8 + 4, none⟩ = some (.int .i64 d.k) ∧ wr.cell? ⟨b, off + j * 8 + 5, none⟩ = some (.int .i64 d.vk) ∧ wr.cell? ⟨b, off + j * 8 + 6, none⟩ = some (.int .i64 d.vn) ∧ wr.cell? ⟨b, off + j * 8 + 7, none⟩ = some (.string d.s) := by
            rw [← hd]
            exact (hhc.below HB.out hbw).words j hju
          have HCc : Hid (∀ h : j + 1 < u.length, some c = some u[j + 1]) := fun h => by rw [hc]
          have HF : Hid ((if colC c d then (if d.t ≤ c.t then false else if ver < IntKind.i64.wrap (n + 1) then false else fewM ver (some c) (IntKind.i64.wrap (n + 1)) (u.drop (j + 1 + 1))) else if ver < 1 then false else fewM ver (some c) 1 (u.drop (j + 1 + 1))) = true) := by
            have hF := HF0.out
            unfold fewM at hF
            rw [if_neg (by omega)] at hF
            exact hF
          have hltz : (j : Int) + 1 < (m : Int) := by omega
          have hltp : (0 : Int) < (j : Int) + 1 := by omega
          have hge : (0 : Int) ≤ (j : Int) + 1 := by omega
          have htn : ((j : Int) + 1).toNat = j + 1 := by omega
          have hwj : IntKind.i64.wrap (j : Int) = (j : Int) := by rw [IntKind.wrap_i64]; omega
          have hwj1 : IntKind.i64.wrap ((j : Int) + 1 - 1) = (j : Int) := by rw [IntKind.wrap_i64]; omega
          have hjm : (j : Int) < (m : Int) := by omega
          obtain ⟨p0, p1, p2, p3, p4, p5, p6, p7⟩ := P
          obtain ⟨d0, d1, d2, d3, d4, d5, d6, d7⟩ := Pd
          clear hc hhc HF0 hk hd hpj
          by_cases h1 : c.r = d.r
          · have q1 : (c.r.toList == d.r.toList) = true := by rw [h1]; simp
            by_cases h2 : c.f = d.f
            · have q2 : (c.f.toList == d.f.toList) = true := by rw [h2]; simp
              by_cases h3 : c.q = d.q
              · have q3 : (c.q.toList == d.q.toList) = true := by rw [h3]; simp
                obtain ⟨x, hx⟩ : ∃ x, IntKind.i64.wrap (n + 1) = x := ⟨_, rfl⟩
                have HF2 : Hid (¬ d.t ≤ c.t ∧ ¬ ver < x ∧ fewM ver (some c) x (u.drop (j + 1 + 1)) = true) := by
                  have hF := HF.out
                  rw [if_pos ⟨h1, h2, h3⟩, hx] at hF
                  by_cases a1 : d.t ≤ c.t
                  · rw [if_pos a1] at hF; cases hF
                  · rw [if_neg a1] at hF
                    by_cases a2 : ver < x
                    · rw [if_pos a2] at hF; cases hF
                    · rw [if_neg a2] at hF; exact ⟨a1, a2, hF⟩
                have a1 : ¬ d.t ≤ c.t := HF2.out.1
                have a2 : ¬ ver < x := HF2.out.2.1
                clear h1 h2 h3
                go_upto_region 12 with (fail)
                go_quiet (fail)
                go_upto_region 14 with (fail)
                go_quiet (fail)
                go_wp2
                go_roundw
                case rel => exact ⟨Go.below_drewN HB.out _, j + 1 + 1, x, some c, by omega, rfl, by go_num, HF2.out.2.2, .inr ⟨j + 1, rfl, HCc.out⟩⟩
                case measure => simp [intOf]; omega
              · have q3 : (c.q.toList == d.q.toList) = false := ba_ne h3
                have HF2 : Hid (¬ ver < 1 ∧ fewM ver (some c) 1 (u.drop (j + 1 + 1)) = true) := by
                  have hF := HF.out
                  rw [if_neg (fun h => h3 h.2.2)] at hF
                  by_cases hv1 : ver < 1
                  · rw [if_pos hv1] at hF; cases hF
                  · rw [if_neg hv1] at hF; exact ⟨hv1, hF⟩
                have hv1 : ¬ ver < 1 := HF2.out.1
                clear h1 h2 h3
                go_upto_region 12 with (fail)
                go_quiet (fail)
                go_wp2
                go_roundw
                case rel => exact ⟨Go.below_drewN HB.out _, j + 1 + 1, 1, some c, by omega, rfl, by go_num, HF2.out.2, .inr ⟨j + 1, rfl, HCc.out⟩⟩
                case measure => simp [intOf]; omega
            · have q2 : (c.f.toList == d.f.toList) = false := ba_ne h2
              have HF2 : Hid (¬ ver < 1 ∧ fewM ver (some c) 1 (u.drop (j + 1 + 1)) = true) := by
                have hF := HF.out
                rw [if_neg (fun h => h2 h.2.1)] at hF
                by_cases hv1 : ver < 1
                · rw [if_pos hv1] at hF; cases hF
                · rw [if_neg hv1] at hF; exact ⟨hv1, hF⟩
              have hv1 : ¬ ver < 1 := HF2.out.1
              clear h1 h2
              go_upto_region 12 with (fail)
              go_quiet (fail)
              go_wp2
              go_roundw
              case rel => exact ⟨Go.below_drewN HB.out _, j + 1 + 1, 1, some c, by omega, rfl, by go_num, HF2.out.2, .inr ⟨j + 1, rfl, HCc.out⟩⟩
              case measure => simp [intOf]; omega
          · have q1 : (c.r.toList == d.r.toList) = false := ba_ne h1
            have HF2 : Hid (¬ ver < 1 ∧ fewM ver (some c) 1 (u.drop (j + 1 + 1)) = true) := by
              have hF := HF.out
              rw [if_neg (fun h => h1 h.1)] at hF
              by_cases hv1 : ver < 1
              · rw [if_pos hv1] at hF; cases hF
              · rw [if_neg hv1] at hF; exact ⟨hv1, hF⟩
            have hv1 : ¬ ver < 1 := HF2.out.1
            clear h1
            go_upto_region 12 with (fail)
            go_quiet (fail)
            go_wp2
            go_roundw
            case rel => exact ⟨Go.below_drewN HB.out _, j + 1 + 1, 1, some c, by omega, rfl, by go_num, HF2.out.2, .inr ⟨j + 1, rfl, HCc.out⟩⟩
            case measure => simp [intOf]; omega
      · obtain rfl : i = m := by omega
        go_wp2
        go_ret
        exact ⟨rfl, BW.out.trans (HB.out.mono BW.out.size)⟩
end Go.Proofs.YtdjaofbjmnmlbaaDoor

/- Cells can be told apart; texts that differ, as bytes. Conditions: as each theorem names them. -/
namespace Go.Proofs.YtdjaofbjmnmlbaaDoor
open Go.RowKit

deriving instance DecidableEq for CT
theorem ba_ne2 {x y : ByteArray} (h : x ≠ y) : ¬ x.toList = y.toList := fun e => by
  have := ba_ne h
  rw [e] at this
  simp at this
end Go.Proofs.YtdjaofbjmnmlbaaDoor

/- The statements' own comparison of two lists of cells. Conditions: both stand. -/
namespace Go.Proofs.YtdjaofbjmnmlbaaDoor
open Go.RowKit

set_option maxHeartbeats 4000000 in
set_option maxRecDepth 100000 in
theorem samecells_any (v1 v2 : Value) (u t : List CT) (w : World) (h1 : ClA w v1 u) (h2 : ClA w v2 t) :
    Calls Tryd.prog 29 #[v1, v2] w fun e w' => e = .returned (.bool (decide (u = t))) ∧ Below w.heap.size w w' := by
  have mixed : Tryd.prog.follows .mixedOrders = true := by kernel_rfl
  obtain ⟨A1, c1, rfl, hc1, hm1, hh1⟩ := h1
  obtain ⟨A2, c2, rfl, hc2, hm2, hh2⟩ := h2
  have H1 := hid hh1
  have H2 := hid hh2
  clear hh1 hh2
  obtain ⟨n, hn⟩ : ∃ n, u.length = n := ⟨_, rfl⟩
  have HN := hid hn
  rw [hn] at hc1 ⊢
  clear hn
  by_cases hl : t.length = n
  · have HT := hid hl
    rw [hl] at hc2 ⊢
    clear hl
    go_enter Tryd.func29, Tryd.ntmps29
    go_wp2
    go_loopw [5] (fun vi wr => Hid (Below w.heap.size w wr) ∧ ∃ i : Nat, i ≤ n ∧ vi = .int .i64 i ∧ Hid (u.take i = t.take i)) (fun vi _ => n - (intOf vi).toNat)
    case atStart => exact ⟨Below.refl _ _, 0, Nat.zero_le _, rfl, rfl⟩
    case round =>
      obtain ⟨HB, i, hi, rfl, HE⟩ := hrel
      by_cases hlt : i < n
      · have hiu : i < u.length := by rw [HN.out]; exact hlt
        have hit : i < t.length := by rw [HT.out]; exact hlt
        have hiz : (i : Int) < (n : Int) := by omega
        obtain ⟨b, off, rfl, hhc⟩ := H1.out (by omega)
        obtain ⟨b8, off8, rfl, hhd⟩ := H2.out (by omega)
        have hbw : b < w.heap.size := hhc.lt (by omega)
        have hbw8 : b8 < w.heap.size := hhd.lt (by omega)
        obtain ⟨c, hc⟩ : ∃ c, u[i] = c := ⟨_, rfl⟩
        obtain ⟨d, hd⟩ : ∃ d, t[i] = d := ⟨_, rfl⟩
        have P : wr.cell? ⟨b, off + i * 8, none⟩ = some (.string c.r) ∧ wr.cell? ⟨b, off + i * 8 + 1, none⟩ = some (.string c.f) ∧ wr.cell? ⟨b, off + i * 8 + 2, none⟩ = some (.string c.q) ∧ wr.cell? ⟨b, off + i * 8 + 3, none⟩ = some (.int .i64 c.t) ∧ wr.cell? ⟨b, off + i * 8 + 4, none⟩ = some (.int .i64 c.k) ∧ wr.cell? ⟨b, off + i * 8 + 5, none⟩ = some (.int .i64 c.vk) ∧ wr.cell? ⟨b, off + i * 8 + 6, none⟩ = some (.int .i64 c.vn) ∧ wr.cell? ⟨b, off + i * 8 + 7, none⟩ = some (.string c.s) := by
          rw [← hc]
          exact (hhc.below HB.out hbw).words i hiu
        have Pd : wr.cell? ⟨b8, off8 + i * 8, none⟩ = some (.string d.r) ∧ wr.cell? ⟨b8, off8 + i * 8 + 1, none⟩ = some (.string d.f) ∧ wr.cell? ⟨b8, off8 + i * 8 + 2, none⟩ = some (.string d.q) ∧ wr.cell? ⟨b8, off8 + i * 8 + 3, none⟩ = some (.int .i64 d.t) ∧ wr.cell? ⟨b8, off8 + i * 8 + 4, none⟩ = some (.int .i64 d.k) ∧ wr.cell? ⟨b8, off8 + i * 8 + 5, none⟩ = some (.int .i64 d.vk) ∧ wr.cell? ⟨b8, off8 + i * 8 + 6, none⟩ = some (.int .i64 d.vn) ∧ wr.cell? ⟨b8, off8 + i * 8 + 7, none⟩ = some (.string d.s) := by
          rw [← hd]
          exact (hhd.below HB.out hbw8).words i hit
        obtain ⟨p0, p1, p2, p3, p4, p5, p6, p7⟩ := P
        obtain ⟨d0, d1, d2, d3, d4, d5, d6, d7⟩ := Pd
        by_cases he : c = d
        · have HE2 : Hid (u.take (i + 1) = t.take (i + 1)) := by
            unfold Hid
            rw [List.take_add_one, List.take_add_one, HE.out, List.getElem?_eq_getElem hiu, List.getElem?_eq_getElem hit, hc, hd, he]
          clear hc hd hhc hhd HE
          subst he
          go_upto_region 6 with (fail); go_quiet (fail); go_wp2
          go_roundw
          case rel => exact ⟨Go.below_drewN HB.out _, i + 1, by omega, by go_num, HE2.out⟩
          case measure => simp [intOf]; omega
        · have HNE : Hid (decide (u = t) = false) := by
            refine decide_eq_false fun e => he ?_
            subst e
            rw [← hc, ← hd]
          clear hc hd hhc hhd HE
          by_cases e0 : c.r = d.r
          · have n0 : c.r.toList = d.r.toList := by rw [e0]
            by_cases e1 : c.f = d.f
            · have n1 : c.f.toList = d.f.toList := by rw [e1]
              by_cases e2 : c.q = d.q
              · have n2 : c.q.toList = d.q.toList := by rw [e2]
                by_cases e3 : c.t = d.t
                · have n3 : c.t = d.t := e3
                  by_cases e4 : c.k = d.k
                  · have n4 : c.k = d.k := e4
                    by_cases e5 : c.vk = d.vk
                    · have n5 : c.vk = d.vk := e5
                      by_cases e6 : c.vn = d.vn
                      · have n6 : c.vn = d.vn := e6
                        by_cases e7 : c.s = d.s
                        · have n7 : c.s.toList = d.s.toList := by rw [e7]
                          exfalso
                          apply he
                          cases d; cases c; simp only at e0 e1 e2 e3 e4 e5 e6 e7; subst e0 e1 e2 e3 e4 e5 e6 e7; rfl
                        · have n7 : ¬ c.s.toList = d.s.toList := ba_ne2 e7
                          clear he e0 e1 e2 e3 e4 e5 e6 e7
                          go_upto_region 6 with (fail); go_quiet (fail); go_wp2
                          go_ret
                          refine ⟨?_, Go.below_drewN HB.out _⟩
                          rw [HNE.out]
                          rfl
                      · have n6 : ¬ c.vn = d.vn := e6
                        clear he e0 e1 e2 e3 e4 e5 e6
                        go_upto_region 6 with (fail); go_quiet (fail); go_wp2
                        go_ret
                        refine ⟨?_, Go.below_drewN HB.out _⟩
                        rw [HNE.out]
                        rfl
                    · have n5 : ¬ c.vk = d.vk := e5
                      clear he e0 e1 e2 e3 e4 e5
                      go_upto_region 6 with (fail); go_quiet (fail); go_wp2
                      go_ret
                      refine ⟨?_, Go.below_drewN HB.out _⟩
                      rw [HNE.out]
                      rfl
                  · have n4 : ¬ c.k = d.k := e4
                    clear he e0 e1 e2 e3 e4
                    go_upto_region 6 with (fail); go_quiet (fail); go_wp2
                    go_ret
                    refine ⟨?_, Go.below_drewN HB.out _⟩
                    rw [HNE.out]
                    rfl
                · have n3 : ¬ c.t = d.t := e3
                  clear he e0 e1 e2 e3
                  go_upto_region 6 with (fail); go_quiet (fail); go_wp2
                  go_ret
                  refine ⟨?_, Go.below_drewN HB.out _⟩
                  rw [HNE.out]
                  rfl
              · have n2 : ¬ c.q.toList = d.q.toList := ba_ne2 e2
                clear he e0 e1 e2
                go_upto_region 6 with (fail); go_quiet (fail); go_wp2
                go_ret
                refine ⟨?_, Go.below_drewN HB.out _⟩
                rw [HNE.out]
                rfl
            · have n1 : ¬ c.f.toList = d.f.toList := ba_ne2 e1
              clear he e0 e1
              go_upto_region 6 with (fail); go_quiet (fail); go_wp2
              go_ret
              refine ⟨?_, Go.below_drewN HB.out _⟩
              rw [HNE.out]
              rfl
          · have n0 : ¬ c.r.toList = d.r.toList := ba_ne2 e0
            clear he e0
            go_upto_region 6 with (fail); go_quiet (fail); go_wp2
            go_ret
            refine ⟨?_, Go.below_drewN HB.out _⟩
            rw [HNE.out]
            rfl
      · obtain rfl : i = n := by omega
        have HQ : Hid (decide (u = t) = true) := by
          have h := HE.out
          rw [List.take_of_length_le (by rw [HN.out]; exact Nat.le_refl _), List.take_of_length_le (by rw [HT.out]; exact Nat.le_refl _)] at h
          exact decide_eq_true h
        go_wp2
        go_ret
        exact ⟨by rw [HQ.out]; rfl, HB.out⟩
  · have HQ : Hid (decide (u = t) = false) := decide_eq_false fun e => hl (by rw [← e]; exact HN.out)
    obtain ⟨m, hm⟩ : ∃ m, t.length = m := ⟨_, rfl⟩
    rw [hm] at hl hc2 ⊢
    have hne : ((n : Int) == (m : Int)) = false := by simp; omega
    have hne2 : ((n : Int) != (m : Int)) = true := by simp; omega
    clear hl hm
    go_enter Tryd.func29, Tryd.ntmps29
    go_wp2
    go_ret
    exact ⟨by rw [HQ.out]; rfl, Below.refl _ _⟩
end Go.Proofs.YtdjaofbjmnmlbaaDoor

/- A cell of a law's, opened and shut. Conditions: none. -/
namespace Go.Proofs.YtdjaofbjmnmlbaaDoor
open Go.ChangeShapes Go.WideShapes Go.ChangeAt Go.RowKit Go.Joins

theorem cellsC : Tryd.prog.cellsOf 28 = 8 := by kernel_rfl
theorem cellsV3 : Tryd.prog.cellsOf 26 = 3 := by kernel_rfl
theorem cellsS1 : Tryd.prog.cellsOf 9 = 1 := by kernel_rfl
theorem cellsI1 : Tryd.prog.cellsOf 3 = 1 := by kernel_rfl
theorem array8 {α : Type} {cs : Array α} (h : cs.size = 8) : ∃ c0 c1 c2 c3 c4 c5 c6 c7, cs = #[c0, c1, c2, c3, c4, c5, c6, c7] := by
  obtain ⟨l⟩ := cs
  match l, h with
  | [c0, c1, c2, c3, c4, c5, c6, c7], _ => exact ⟨c0, c1, c2, c3, c4, c5, c6, c7, rfl⟩
section
variable {H : Type} {enc : TypeId × Value → H} {W : World} {sp : Nat → Bool}
set_option maxRecDepth 100000 in
/-- A cell that came in, opened. -/
theorem open_cell {r : Reach} {b0 b1 : Nat} {v : Value} {d : DataW H} {p : List MemPlace} (hv : Value.okWide Tryd.prog W r b0 28 v) (h : DataW.Trod enc Tryd.prog W b1 sp true 28 v d p) :
    ∃ (r f q : ByteArray) (t k vk vn : Int) (s : ByteArray), v = .agg #[.string r, .string f, .string q, .int .i64 t, .int .i64 k, .int .i64 vk, .int .i64 vn, .string s] ∧
      d = .agg [.lit (.string r.data.toList), .lit (.string f.data.toList), .lit (.string q.data.toList), .lit (.int .i64 t), .lit (.int .i64 k), .agg [.lit (.int .i64 vk), .lit (.int .i64 vn), .lit (.string s.data.toList)]] ∧ p = [] ∧
      r.size ≤ maxLen ∧ f.size ≤ maxLen ∧ q.size ≤ maxLen ∧ (Lit.int .i64 t).wf = true ∧ (Lit.int .i64 k).wf = true ∧ (Lit.int .i64 vk).wf = true ∧ (Lit.int .i64 vn).wf = true ∧ s.size ≤ maxLen := by
  obtain ⟨cs, rfl, hsz⟩ := okWide_struct Tryd.underlying28 hv
  obtain ⟨c0, c1, c2, c3, c4, c5, c6, c7, rfl⟩ := array8 (hsz.trans cellsC)
  obtain ⟨fuel, hf⟩ := h
  obtain ⟨xs, n, _, hx, _, hlen, hg⟩ := DataW.trod_struct Tryd.underlying28 hf
  match xs, hlen with
  | [y0, y1, y2, y3, y4, y5], _ =>
    have h0 := hg 0 _ rfl
    have h1 := hg 1 _ rfl
    have h2 := hg 2 _ rfl
    have h3 := hg 3 _ rfl
    have h4 := hg 4 _ rfl
    have h5 := hg 5 _ rfl
    simp [Value.cells, cellsS1, cellsI1, cellsV3] at h0 h1 h2 h3 h4 h5
    obtain ⟨r, e0, z0, w0⟩ := DataW.trod_string Tryd.underlying9 h0
    obtain ⟨f, e1, z1, w1⟩ := DataW.trod_string Tryd.underlying9 h1
    obtain ⟨q, e2, z2, w2⟩ := DataW.trod_string Tryd.underlying9 h2
    obtain ⟨t, e3, z3, w3⟩ := DataW.trod_int Tryd.underlying3 h3
    obtain ⟨k, e4, z4, w4⟩ := DataW.trod_int Tryd.underlying3 h4
    obtain ⟨ys, n', _, hx', _, hlen', hg'⟩ := DataW.trod_struct Tryd.underlying26 h5
    match ys, hlen' with
    | [u0, u1, u2], _ =>
      have g0 := hg' 0 _ rfl
      have g1 := hg' 1 _ rfl
      have g2 := hg' 2 _ rfl
      simp [cellsS1, cellsI1] at g0 g1 g2
      obtain ⟨vk, e5, z5, w5⟩ := DataW.trod_int Tryd.underlying3 g0
      obtain ⟨vn, e6, z6, w6⟩ := DataW.trod_int Tryd.underlying3 g1
      obtain ⟨s, e7, z7, w7⟩ := DataW.trod_string Tryd.underlying9 g2
      simp at e0 e1 e2 e3 e4 e5 e6 e7
      subst e0 e1 e2 e3 e4 e5 e6 e7
      simp only [Prod.mk.injEq] at hx hx'
      exact ⟨r, f, q, t, k, vk, vn, s, rfl, by simp_all, by simp_all, w0, w1, w2, w3, w4, w5, w6, w7⟩
end
end Go.Proofs.YtdjaofbjmnmlbaaDoor

/- A world in which the listed variables of layer 3's laws are laid, for the witness; what they give; a cell of the law's, shut. -/
namespace Go.Proofs.YtdjaofbjmnmlbaaDoor
open Go.ChangeShapes Go.WideShapes Go.ChangeAt Go.RowKit Go.Joins

theorem seat_own : ownKnob Tryd.prog.godebug = none := by kernel_rfl
theorem laid_out : laidOutB Tryd.prog = true := by kernel_rfl
def seatLaid5 : List (String × DataW Unit) := [("unicode/utf8.acceptRanges", Rows.laid_unicode_utf8_acceptRanges), ("bytes.ErrTooLarge", Rows.laid_bytes_ErrTooLarge), ("unicode/utf8.first", Rows.laid_unicode_utf8_first)]
theorem seat_met5 {W : World} (h : laidMetH Tryd.prog seatLaid5 W) : laidMet Tryd.prog seatLaid5 W := h
theorem accept_is : (Rows.laid_unicode_utf8_acceptRanges : DataW Unit) = Lib.acceptData := by kernel_rfl
theorem first_is : (Rows.laid_unicode_utf8_first : DataW Unit) = Lib.firstData := by kernel_rfl
theorem u8extra : U8Extra Tryd.prog Tryd.lays196_ren where
  n3 := by kernel_rfl
  n4 := by kernel_rfl
  y3 := by kernel_rfl
  y4 := by kernel_rfl
  c5 := by kernel_rfl
  c119 := by kernel_rfl
  c138 := by kernel_rfl
theorem laid_u {W : World} (h : laidMet Tryd.prog seatLaid5 W) : LaidU W := ⟨by
    have h3 := Lib.laidMet.reads h (n := "unicode/utf8.first") (d := Rows.laid_unicode_utf8_first) (by simp [seatLaid5])
    have h4 := Lib.laidMet.reads h (n := "unicode/utf8.acceptRanges") (d := Rows.laid_unicode_utf8_acceptRanges) (by simp [seatLaid5])
    rw [first_is] at h3
    rw [accept_is] at h4
    exact utf8Tabs_of_readsT (U8Types.of196 Tryd.lays196) u8extra h3 h4⟩

/-- A world for the witness: the settled one, one block more for the error's text, the listed variables holding what their initialisers lay. -/
noncomputable def laidWorld5 (os : Os) : World :=
  let w0 := World.holding Tryd.prog os ⟨#[.cells #[.string ⟨#[98, 121, 116, 101, 115, 46, 66, 117, 102, 102, 101, 114, 58, 32, 116, 111, 111, 32, 108, 97, 114, 103, 101]⟩] 222], #[], []⟩
  { w0 with heap := ((w0.heap.modify 1 fun
      | .cells _ t frozen => .cells #[.iface 208 (.pointer (some ⟨(World.settled Tryd.prog os).heap.size, 0, none⟩))] t frozen
      | o => o).modify 3 fun
      | .cells _ t frozen => .cells ((List.range 16).flatMap fun i => [Value.int .u8 (Lib.accLo i), Value.int .u8 (Lib.accHi i)]).toArray t frozen
      | o => o).modify 2 fun
      | .cells _ t frozen => .cells (Lib.firstTab.map fun z => Value.int .u8 z).toArray t frozen
      | o => o }
set_option maxRecDepth 1000000 in
theorem laid_met5 (os : Os) (args : Array Value) : laidMet Tryd.prog seatLaid5 ((laidWorld5 os).forCall (fun _ _ => 0) ⟨#[], args, []⟩).memory :=
  laidMet_of_run' 8 (by kernel_rfl) (by kernel_rfl)
theorem inI_of_wf {n : Int} (h : (Lit.int .i64 n).wf = true) : inI n := by
  unfold inI
  simp [Lit.wf] at h
  have h1 : IntKind.i64.min = -9223372036854775808 := rfl
  have h2 : IntKind.i64.max = 9223372036854775807 := rfl
  omega
theorem size_of {n : Nat} (h : n ≤ maxLen) : n ≤ 9223372036854775807 := by unfold maxLen at h; omega

section
variable {H : Type} {enc : TypeId × Value → H} {W : World} {sp : Nat → Bool}
set_option maxRecDepth 100000 in
/-- A cell that came in, shut. -/
theorem shut_cell (r f q : ByteArray) (t k vk vn : Int) (s : ByteArray) (w0 : r.size ≤ maxLen) (w1 : f.size ≤ maxLen) (w2 : q.size ≤ maxLen) (w3 : (Lit.int .i64 t).wf = true) (w4 : (Lit.int .i64 k).wf = true) (w5 : (Lit.int .i64 vk).wf = true) (w6 : (Lit.int .i64 vn).wf = true) (w7 : s.size ≤ maxLen) (b1 : Nat) :
    DataW.Trod enc Tryd.prog W b1 sp true 28 (.agg #[.string r, .string f, .string q, .int .i64 t, .int .i64 k, .int .i64 vk, .int .i64 vn, .string s]) (.agg [.lit (.string r.data.toList), .lit (.string f.data.toList), .lit (.string q.data.toList), .lit (.int .i64 t), .lit (.int .i64 k), .agg [.lit (.int .i64 vk), .lit (.int .i64 vn), .lit (.string s.data.toList)]]) [] := by
  have hv : DataW.trod enc Tryd.prog W b1 sp true 2 26 [.int .i64 vk, .int .i64 vn, .string s] = some (.agg [.lit (.int .i64 vk), .lit (.int .i64 vn), .lit (.string s.data.toList)], []) := by
    have := trod_struct_mk (enc := enc) (w := W) (base := b1) (spare := sp) (held := true) (n := 1) (cs := [.int .i64 vk, .int .i64 vn, .string s]) (xs := [(.lit (.int .i64 vk), []), (.lit (.int .i64 vn), []), (.lit (.string s.data.toList), [])]) Tryd.underlying26 (by simp [cellsV3]) (by simp [DataW.trod, Tryd.underlying3, Tryd.underlying9, cellsS1, cellsI1, w5, w6, w7])
    simpa using this
  have := trod_struct_mk (enc := enc) (w := W) (base := b1) (spare := sp) (held := true) (n := 2) (cs := [.string r, .string f, .string q, .int .i64 t, .int .i64 k, .int .i64 vk, .int .i64 vn, .string s]) (xs := [(.lit (.string r.data.toList), []), (.lit (.string f.data.toList), []), (.lit (.string q.data.toList), []), (.lit (.int .i64 t), []), (.lit (.int .i64 k), []), (.agg [.lit (.int .i64 vk), .lit (.int .i64 vn), .lit (.string s.data.toList)], [])]) Tryd.underlying28 (by simp [cellsC]) (by
      simp [cellsS1, cellsI1, cellsV3, hv]
      simp [DataW.trod, Tryd.underlying3, Tryd.underlying9, w0, w1, w2, w3, w4])
  exact ⟨3, by simpa [Value.cells] using this⟩
end
end Go.Proofs.YtdjaofbjmnmlbaaDoor

/- Lists of cells that came in, opened. Conditions: the reading's own reach. -/
namespace Go.Proofs.YtdjaofbjmnmlbaaDoor
open Go.ChangeShapes Go.WideShapes Go.ChangeAt Go.RowKit Go.Joins

theorem inI_of_wf2 {n : Int} (h : (Lit.int .i64 n).wf = true) : inI n := by
  unfold inI
  simp [Lit.wf] at h
  have h1 : IntKind.i64.min = -9223372036854775808 := rfl
  have h2 : IntKind.i64.max = 9223372036854775807 := rfl
  omega

section
variable {H : Type} {enc : TypeId × Value → H} {W : World} {sp : Nat → Bool}
set_option maxRecDepth 100000 in
/-- Eight words that read as a cell are one. -/
theorem cell_words {b1 fuel : Nat} {cs : List Value} {x : DataW H × List MemPlace} (hl : cs.length = 8) (hf : DataW.trod enc Tryd.prog W b1 sp true fuel 28 cs = some x) : ∃ c : CT, cs = c.e ∧ inI c.vn := by
  match cs, hl with
  | [c0, c1, c2, c3, c4, c5, c6, c7], _ =>
    obtain ⟨xs, n, _, hx, _, hlen, hg⟩ := DataW.trod_struct Tryd.underlying28 hf
    match xs, hlen with
    | [y0, y1, y2, y3, y4, y5], _ =>
      have h0 := hg 0 _ rfl
      have h1 := hg 1 _ rfl
      have h2 := hg 2 _ rfl
      have h3 := hg 3 _ rfl
      have h4 := hg 4 _ rfl
      have h5 := hg 5 _ rfl
      simp [cellsS1, cellsI1, cellsV3] at h0 h1 h2 h3 h4 h5
      obtain ⟨r, e0, z0, w0⟩ := DataW.trod_string Tryd.underlying9 h0
      obtain ⟨f, e1, z1, w1⟩ := DataW.trod_string Tryd.underlying9 h1
      obtain ⟨q, e2, z2, w2⟩ := DataW.trod_string Tryd.underlying9 h2
      obtain ⟨t, e3, z3, w3⟩ := DataW.trod_int Tryd.underlying3 h3
      obtain ⟨k, e4, z4, w4⟩ := DataW.trod_int Tryd.underlying3 h4
      obtain ⟨ys, n', _, hx', _, hlen', hg'⟩ := DataW.trod_struct Tryd.underlying26 h5
      match ys, hlen' with
      | [u0, u1, u2], _ =>
        have g0 := hg' 0 _ rfl
        have g1 := hg' 1 _ rfl
        have g2 := hg' 2 _ rfl
        simp [cellsS1, cellsI1] at g0 g1 g2
        obtain ⟨vk, e5, z5, w5⟩ := DataW.trod_int Tryd.underlying3 g0
        obtain ⟨vn, e6, z6, w6⟩ := DataW.trod_int Tryd.underlying3 g1
        obtain ⟨s, e7, z7, w7⟩ := DataW.trod_string Tryd.underlying9 g2
        simp at e0 e1 e2 e3 e4 e5 e6 e7
        subst e0 e1 e2 e3 e4 e5 e6 e7
        exact ⟨⟨r, f, q, t, k, vk, vn, s⟩, rfl, inI_of_wf2 w6⟩
theorem addr_at (b off n : Nat) : (⟨b, off, none⟩ : Addr).add n = ⟨b, off + n, none⟩ := by
  by_cases h : n = 0
  · subst h; rfl
  · simp [Addr.add, h]
theorem bind_some {α β : Type} {o : Option α} {g : α → Option β} {y : β} (h : o.bind g = some y) : ∃ x, o = some x ∧ g x = some y := by
  cases o with
  | none => cases h
  | some x => exact ⟨x, rfl, h⟩
/-- A choice for each of the first n numbers is a list. -/
theorem list_of {P : Nat → CT → Prop} : ∀ n : Nat, (∀ i, i < n → ∃ c, P i c) → ∃ l : List CT, l.length = n ∧ ∀ i (h : i < l.length), P i l[i]
  | 0, _ => ⟨[], rfl, fun i h => absurd h (by simp)⟩
  | n + 1, h => by
    obtain ⟨l, h1, h2⟩ := list_of n (fun i hi => h i (by omega))
    obtain ⟨c, hc⟩ := h n (by omega)
    refine ⟨l ++ [c], by simp [h1], fun i hi => ?_⟩
    rcases Nat.lt_or_ge i l.length with h3 | h3
    · rw [List.getElem_append_left h3]; exact h2 i h3
    · have : i = n := by simp at hi; omega
      subst this
      rw [List.getElem_append_right h3]
      simp only [h1, Nat.sub_self, List.getElem_cons_zero]
      exact hc
set_option maxRecDepth 100000 in
/-- A list of cells that came in. -/
theorem open_cla {r : Reach} {b0 b1 : Nat} {v : Value} {d : DataW H} {p : List MemPlace} (hv : Value.okWide Tryd.prog W r b0 39 v) (h : DataW.Trod enc Tryd.prog W b1 (fun _ => true) true 39 v d p) : ∃ l, ClA W v l ∧ ∀ c ∈ l, inI c.vn := by
  obtain ⟨a0, len, cap, rfl⟩ := okWide_slice Tryd.underlying39 hv
  obtain ⟨fuel, hf⟩ := h
  rcases DataW.trod_slice Tryd.underlying39 hf with ⟨hcs, hx⟩ | ⟨a, len', cap', elems, rest, n, hfu, hcs, hx, hb, hl, hm, he, hi, _, _⟩
  · simp [Value.cells] at hcs
    obtain ⟨rfl, rfl, rfl⟩ := hcs
    exact ⟨[], cla_nil W, fun c h => by cases h⟩
  · simp [Value.cells] at hcs
    obtain ⟨rfl, rfl, rfl⟩ := hcs
    rw [cellsC] at hi
    have hP : ∀ i, i < len → ∃ c : CT, (∀ j, j < 8 → W.cell? (a.add (i * 8 + j)) = c.e[j]?) ∧ inI c.vn := fun i hi' => by
      have h1 := hi i hi'
      rw [List.getElem?_eq_getElem (by omega)] at h1
      obtain ⟨cs, hcs, htr⟩ := bind_some h1
      obtain ⟨_, hlen, hcell⟩ := World.cells?_some hcs
      obtain ⟨c, rfl, hvn⟩ := cell_words hlen htr
      refine ⟨c, fun j hj => ?_, hvn⟩
      have := hcell j hj
      rw [Addr.add_add] at this
      exact this
    obtain ⟨l, hlen, hall⟩ := list_of len hP
    have hmx : cap ≤ 9223372036854775807 := by unfold maxLen at hm; omega
    refine ⟨l, ⟨some a, cap, by rw [hlen], by omega, hmx, fun h0 => ?_⟩, fun c hc => ?_⟩
    · obtain ⟨b, off, spot⟩ := a
      have h00 := (hall 0 h0).1 0 (by omega)
      have hspot : spot = none := by
        have h0' : W.cell? ((⟨b, off, spot⟩ : Addr).add 0) = some (.string l[0].r) := h00
        simpa [Addr.add] using World.cell?_spot h0'
      subst hspot
      refine ⟨b, off, rfl, fun i hi' j hj => ?_⟩
      have := (hall i hi').1 j hj
      rw [← this]
      rw [addr_at, Nat.add_assoc]
    · obtain ⟨i, hi', rfl⟩ := List.getElem_of_mem hc
      exact (hall i hi').2
end
end Go.Proofs.YtdjaofbjmnmlbaaDoor

/- append of one cell as one step of a region that draws. Conditions: as it names them. -/
namespace Go.Proofs.YtdjaofbjmnmlbaaDoor
open Go.RowKit

theorem step_append_cell {ops : Array Oper} {o : Oper} {a : Act} {K : Act → World → Prop} {Q : Exit → Act → World → Prop} {E : Prop} (hgd : o.guard = Option.none) (s x : Operand)
    (ho : o.op = .call { callee := .builtin .append, args := #[s, x], argTypes := #[39, 39] })
    (w : World) (base : Nat) (v : Value) (l : List CT) (hs : a.eval s = v) (hown : CRow w base v l)
    (G m : Nat) (hx : a.eval x = .slice (some ⟨G, 0, Option.none⟩) 1 m) (y : CT) (hc : ∀ j u, y.e[j]? = some u → w.cell? ((⟨G, 0, Option.none⟩ : Addr).add j) = some u)
    (hlen : l.length ≤ 1466015503658) (hbase : base ≤ w.heap.size)
    (hK : ∀ v' w', CRow w' base v' (l ++ [y]) → Below base w w' → K (a.put o.dst v') w') :
    if Region.wanted o (yielded ops a.tmps) = true then Oper.wp Tryd.prog o a w K Q else E := by
  have hw : Region.wanted o (yielded ops a.tmps) = true := by simp [Region.wanted, hgd]
  rw [if_pos hw]
  obtain ⟨i0, hi, hz0, hz1, hz2⟩ := info_parts info_cell
  obtain ⟨v', w', hrun, r1, r2, _⟩ := run_append_own (P := Tryd.prog) w base 39 o.type 28 i0 _ 8 96 Tryd.underlying39 hi hz0 hz1 hz2 rfl (by decide) v l.length (flatC l) hown ⟨G, 0, Option.none⟩ 1 m y.e (CT.e_len y) hc y.e_one (by unfold maxLen; omega) (by omega) hbase
  unfold Oper.wp
  simp [execOp, ho, resolve, invoke, builtin, hs, hx, hrun, Result.andThen]
  refine hK v' w' ?_ ((Below.refl _ _).grown r2 hbase fun k hk => (World.ownsRow.lt hown k hk).1)
  unfold CRow
  rw [flatC_app, flatC_one, List.length_append]
  exact r1
end Go.Proofs.YtdjaofbjmnmlbaaDoor

/- An argument []api.Cell opened, with how long it may be: the reach of the machine's memory bounds it. Conditions: as it names them. -/
namespace Go.Proofs.YtdjaofbjmnmlbaaDoor
open Go.ChangeShapes Go.WideShapes Go.ChangeAt Go.RowKit

theorem bytesCell : Tryd.prog.bytesOf 28 = 96 := by kernel_rfl
section
variable {H : Type} {enc : TypeId × Value → H} {W : World}
set_option maxRecDepth 100000 in
theorem open_cla2 {r : Reach} {b0 b1 : Nat} {v : Value} {d : DataW H} {p : List MemPlace} (hv : Value.okWide Tryd.prog W r b0 39 v) (h : DataW.Trod enc Tryd.prog W b1 (fun _ => true) true 39 v d p)
    (hw : ∀ n ∈ d.weights Tryd.prog 39, n ≤ reachBytes) : ∃ l, ClA W v l ∧ (∀ c ∈ l, inI c.vn) ∧ l.length ≤ 1466015503658 := by
  obtain ⟨l, hC, hn⟩ := open_cla hv h
  refine ⟨l, hC, hn, ?_⟩
  obtain ⟨A, c, e, _⟩ := hC
  obtain ⟨a0, len, cap, rfl⟩ := okWide_slice Tryd.underlying39 hv
  have el : len = l.length := by injection e
  obtain ⟨fuel, hf⟩ := h
  rcases DataW.trod_slice Tryd.underlying39 hf with ⟨hcs, _⟩ | ⟨a, len', cap', elems, rest, n, hfu, hcs, hx, hb, hl, hm, he, _⟩
  · simp [Value.cells] at hcs
    omega
  · simp [Value.cells] at hcs
    obtain ⟨rfl, rfl, rfl⟩ := hcs
    have hd := (Prod.mk.inj hx).1
    have hb : (elems.length + rest.length) * 96 ≤ reachBytes := by
      apply hw
      rw [hd]
      simp only [DataW.weights, Tryd.underlying39, bytesCell, List.length_map]
      exact List.mem_cons_self
    unfold reachBytes at hb
    omega
end
end Go.Proofs.YtdjaofbjmnmlbaaDoor

/- The document's own table: Put. Conditions: its list stands in memory of the call's own. -/
namespace Go.Proofs.YtdjaofbjmnmlbaaDoor
open Go.RowKit

/-- The document's table stands. -/
structure RfS (W : World) (B rb : Nat) (v : Value) (d : List CT) : Prop where
  lo : B ≤ rb
  blk : Blk W rb 56 #[v]
  row : CRow W B v d
  rise : d.Pairwise (fun x y => CT.cmp x y < 0)
  sm : ∀ x ∈ d, Sm x
theorem CRow.butL {W W' : World} {B rb : Nat} {v : Value} {l : List CT} (h : CRow W B v l) (hb : But W.heap.size rb W W') (hr : rb < B) : CRow W' B v l := by
  refine ⟨h.1, ?_⟩
  rcases h.2 with q | ⟨g, cap, cur, e, h1, h2, hr2⟩
  · exact .inl q
  · have h3 : Blk W g 28 cur := h2
    exact .inr ⟨g, cap, cur, e, h1, (hb.block g h3.lt (by omega)).trans h2, hr2⟩
section
variable {W0 W W' : World} {g rb b o : Nat} {c x : CT} {v : Value}
abbrev TabW (W0 : World) (g rb b o : Nat) (c x : CT) (v : Value) (W : World) : Prop := Hid (Below W0.heap.size W0 W ∧ g < W0.heap.size ∧ rb < W0.heap.size ∧ b < W0.heap.size) ∧ (W.cell? ⟨g, 0, none⟩ = some (.string c.r) ∧ W.cell? ⟨g, 1, none⟩ = some (.string c.f) ∧ W.cell? ⟨g, 2, none⟩ = some (.string c.q) ∧ W.cell? ⟨g, 3, none⟩ = some (.int .i64 c.t) ∧ W.cell? ⟨g, 4, none⟩ = some (.int .i64 c.k) ∧ W.cell? ⟨g, 5, none⟩ = some (.int .i64 c.vk) ∧ W.cell? ⟨g, 6, none⟩ = some (.int .i64 c.vn) ∧ W.cell? ⟨g, 7, none⟩ = some (.string c.s)) ∧ (W.cell? ⟨rb, 0, none⟩ = some v ∧ (W.cell? ⟨b, o, none⟩ = some (.string x.r) ∧ W.cell? ⟨b, o + 1, none⟩ = some (.string x.f) ∧ W.cell? ⟨b, o + 2, none⟩ = some (.string x.q) ∧ W.cell? ⟨b, o + 3, none⟩ = some (.int .i64 x.t) ∧ W.cell? ⟨b, o + 4, none⟩ = some (.int .i64 x.k) ∧ W.cell? ⟨b, o + 5, none⟩ = some (.int .i64 x.vk) ∧ W.cell? ⟨b, o + 6, none⟩ = some (.int .i64 x.vn) ∧ W.cell? ⟨b, o + 7, none⟩ = some (.string x.s)))
theorem tab_drew (h : TabW W0 g rb b o c x v W) : TabW W0 g rb b o c x v W.drew := ⟨hid ⟨h.1.out.1.drew, h.1.out.2⟩, h.2⟩
theorem tab_call (h : TabW W0 g rb b o c x v W) (hb : Below W.heap.size W W') : TabW W0 g rb b o c x v W' := by
  obtain ⟨hh, ⟨a0, a1, a2, a3, a4, a5, a6, a7⟩, r0, ⟨b0, b1, b2, b3, b4, b5, b6, b7⟩⟩ := h
  obtain ⟨hbw, h1, h2, h3⟩ := hh.out
  have hz := hbw.size
  have hc : ∀ b o, b < W0.heap.size → W'.cell? ⟨b, o, none⟩ = W.cell? ⟨b, o, none⟩ := fun b o h => hb.cell (p := ⟨b, o, none⟩) (show b < W.heap.size by omega)
  refine ⟨hid ⟨hbw.trans (hb.mono hz), h1, h2, h3⟩, ⟨?_, ?_, ?_, ?_, ?_, ?_, ?_, ?_⟩, ?_, ⟨?_, ?_, ?_, ?_, ?_, ?_, ?_, ?_⟩⟩ <;> (rw [hc _ _ (by omega)]; assumption)
end
set_option maxHeartbeats 8000000 in
set_option maxRecDepth 100000 in
theorem refput_any (B rb : Nat) (v : Value) (d : List CT) (c : CT) (w : World) (h : RfS w B rb v d) (hB : B ≤ w.heap.size) (hc : Sm c) (hlen : d.length ≤ 1000) :
    Calls Tryd.prog 36 #[.pointer (some ⟨rb, 0, none⟩), c.v] w fun e w' => e = .returned (.bool c.ok) ∧ ∃ v', RfS w' B rb v' (putR d c) ∧ But w.heap.size rb w w' := by
  have mixed : Tryd.prog.follows .mixedOrders = true := by kernel_rfl
  have HRi : Hid (∀ W, Calls Tryd.prog 26 #[c.v] W fun e w' => e = .returned (.bool c.ok) ∧ Below W.heap.size W w') := fun W =>
    refcright_any c.r c.f c.q c.s c.t c.k c.vk c.vn (by have := hc.2.2.1; omega) (by have := hc.2.2.2.2; omega) W
  cases hok : c.ok with
  | false =>
    rw [hok] at HRi
    have H := hid h
    have e : putR d c = d := by unfold putR; rw [hok]; rfl
    rw [e]
    clear h hc hok e
    go_enter Tryd.func36, Tryd.ntmps36
    go_wp2_with (go_at_call 26; refine (HRi.out _).mono ?_; rintro e w5 ⟨rfl, hb5⟩)
    go_ret
    have hb := (below_new w _).trans (hb5.mono (by simp))
    exact ⟨rfl, v, ⟨H.out.lo, H.out.blk.keep hb H.out.blk.lt, H.out.row.below hb, H.out.rise, H.out.sm⟩, But.of_below hb _⟩
  | true =>
    rw [hok] at HRi
    have e : putR d c = putL d c := by unfold putR; rw [if_pos hok]
    rw [e]
    have HOr : Hid (∀ x ∈ d, ∀ W, Calls Tryd.prog 27 #[c.v, x.v] W fun e w' => e = .returned (.int .i64 (CT.cmp c x)) ∧ Below W.heap.size W w') := fun x hx W => reforder_ct c x hc (h.sm x hx) W
    have HK := hid h.row.cla
    have HG := hid h.blk
    have HRs := hid h.rise
    have HSm := hid h.sm
    have HLo := hid (show B ≤ rb ∧ B ≤ w.heap.size from ⟨h.lo, hB⟩)
    have HC := hid hc
    have hrb : rb < w.heap.size := h.blk.lt
    clear h hB hc hok e
    obtain ⟨A, cc, rfl, hc1, hc2, hh⟩ := HK.out
    have HH := hid hh
    clear hh HK
    obtain ⟨n, hn⟩ : ∃ n, d.length = n := ⟨_, rfl⟩
    have HLd := hid hn
    rw [hn] at hc1 hlen HG
    clear hn
    go_enter Tryd.func36, Tryd.ntmps36
    go_upto_region 3 with (go_at_call 26; refine (HRi.out _).mono ?_; rintro e w5 ⟨rfl, hb5⟩)
    have HB5 : Hid (Below w.heap.size w w5) := (below_new w _).trans (hb5.mono (by simp))
    have HD5 : Hid (DW w5 w.heap.size c) := DW.below (Blk.new w _ _) hb5
    have HG5 : Hid (w.heap.size < w5.heap.size) := by have := hb5.size; simp at this; exact this
    have HE5 := hid (empty_crow w5 w5.heap.size (Nat.le_refl _))
    have HA5 := hid (below_new w5 (.cells #[] 28))
    clear hb5 HRi
    go_wp2
    go_loopw [5, 6, 7] (fun vn vd vi wr => ∃ (i : Nat) (dn : Bool) (nx : List CT), i ≤ n ∧ vi = .int .i64 i ∧ vd = .bool dn ∧ Hid (CRow wr w5.heap.size vn nx) ∧ Hid (Below w5.heap.size w5 wr) ∧ Hid (NextI d c i dn nx)) (fun _ _ vi _ => n - (intOf vi).toNat)
    case atStart => exact ⟨0, false, [], Nat.zero_le _, rfl, rfl, HE5.out, HA5.out, nxt_start d c⟩
    case round =>
      clear HE5 HA5
      obtain ⟨i, dn, nx, hi, rfl, rfl, HR, HB, HN⟩ := hrel
      have r0 : wr.cell? ⟨rb, 0, none⟩ = some (.slice A n cc) := ((HG.out.keep HB5.out hrb).keep HB.out (Nat.lt_trans hrb HG5.out)).cell 0
      obtain ⟨a0, a1, a2, a3, a4, a5, a6, a7⟩ := DW.words (DW.keep HD5.out HB.out HG5.out)
      obtain ⟨A9, c9, e9, hc9, hm9⟩ := HR.out.len
      subst e9
      by_cases hlt : i < n
      · have hin : i < d.length := by rw [HLd.out]; exact hlt
        have hltz : (i : Int) < (n : Int) := by omega
        obtain ⟨b, off, rfl, hhc⟩ := HH.out (by omega)
        have hbw : b < w.heap.size := hhc.lt (by omega)
        obtain ⟨x, hx⟩ : ∃ x, d[i]? = some x := ⟨_, List.getElem?_eq_getElem hin⟩
        have HX := hid hx
        have hwd : ∀ W, Below w5.heap.size w5 W → TabW wr w.heap.size rb b (off + i * 8) c x (.slice (some ⟨b, off, none⟩) n cc) W → True := fun _ _ _ => trivial
        have HTw : Hid (∀ W, Below w5.heap.size w5 W → TabW W w.heap.size rb b (off + i * 8) c x (.slice (some ⟨b, off, none⟩) n cc) W) := fun W hW => ⟨hid ⟨Below.refl _ _, Nat.lt_of_lt_of_le HG5.out hW.size, Nat.lt_of_lt_of_le (Nat.lt_trans hrb HG5.out) hW.size, Nat.lt_of_lt_of_le (Nat.lt_trans hbw HG5.out) hW.size⟩, DW.words (DW.keep HD5.out hW HG5.out), ((HG.out.keep HB5.out hrb).keep hW (Nat.lt_trans hrb HG5.out)).cell 0, ct_words ((hhc.below HB5.out hbw).below hW (Nat.lt_trans hbw HG5.out)) i hx⟩
        have HT := hid (HTw.out wr HB.out)
        obtain ⟨-, -, -, ⟨x0, x1, x2, x3, x4, x5, x6, x7⟩⟩ := HT.out
        have HOx := hid (HOr.out x (List.mem_of_getElem? hx))
        have hnl : nx.length ≤ n + 1 := by have := nxt_len HN.out (by omega); rw [HLd.out] at this; exact this
        have HLn : Hid (nx.length ≤ 100000) := by show nx.length ≤ _; omega
        have HLm : Hid (∀ y, (nx ++ [y]).length ≤ 100000) := fun y => by rw [List.length_append, List.length_singleton]; omega
        clear hhc hin hx hwd hnl
        obtain ⟨o, ho⟩ : ∃ o, CT.cmp c x = o := ⟨_, rfl⟩
        rw [ho] at HOx
        have HO : Hid (CT.cmp x c = - o) := by rw [← ho]; exact ct_c3.anti c x
        clear ho
        cases dn with
        | true =>
          have hq : 0 < CT.cmp x c := (nxt_done HN.out HX.out).1
          have h1 : o < 0 := by have := HO.out; omega
          have h2 : (o != 0) = true := by simp; omega
          clear hq
          go_upto_region 8 with (fail)
          go_region_held3 (fun W' => Hid (Below wr.heap.size wr W' ∧ w.heap.size < wr.heap.size ∧ rb < wr.heap.size ∧ b < wr.heap.size) ∧ (W'.cell? ⟨w.heap.size, 0, none⟩ = some (.string c.r) ∧ W'.cell? ⟨w.heap.size, 1, none⟩ = some (.string c.f) ∧ W'.cell? ⟨w.heap.size, 2, none⟩ = some (.string c.q) ∧ W'.cell? ⟨w.heap.size, 3, none⟩ = some (.int .i64 c.t) ∧ W'.cell? ⟨w.heap.size, 4, none⟩ = some (.int .i64 c.k) ∧ W'.cell? ⟨w.heap.size, 5, none⟩ = some (.int .i64 c.vk) ∧ W'.cell? ⟨w.heap.size, 6, none⟩ = some (.int .i64 c.vn) ∧ W'.cell? ⟨w.heap.size, 7, none⟩ = some (.string c.s)) ∧ (W'.cell? ⟨rb, 0, none⟩ = some (.slice (some ⟨b, off, none⟩) n cc) ∧ (W'.cell? ⟨b, off + i * 8, none⟩ = some (.string x.r) ∧ W'.cell? ⟨b, off + i * 8 + 1, none⟩ = some (.string x.f) ∧ W'.cell? ⟨b, off + i * 8 + 2, none⟩ = some (.string x.q) ∧ W'.cell? ⟨b, off + i * 8 + 3, none⟩ = some (.int .i64 x.t) ∧ W'.cell? ⟨b, off + i * 8 + 4, none⟩ = some (.int .i64 x.k) ∧ W'.cell? ⟨b, off + i * 8 + 5, none⟩ = some (.int .i64 x.vk) ∧ W'.cell? ⟨b, off + i * 8 + 6, none⟩ = some (.int .i64 x.vn) ∧ W'.cell? ⟨b, off + i * 8 + 7, none⟩ = some (.string x.s))))
            (first | exact HT.out | exact tab_drew HT.out | exact tab_call (by assumption) hb3 | exact tab_drew (by assumption) | assumption)
            (first | (go_at_call 27; refine (HOx.out _).mono ?_; rintro e w3 ⟨rfl, hb3⟩))
          rename_i hLast
          have HZ := hid hLast.1.out.1
          have HR3 := hid (HR.out.below HZ.out)
          have HB3 := hid (HB.out.trans (HZ.out.mono HB.out.size))
          clear HT a0 a1 a2 a3 a4 a5 a6 a7 r0 x0 x1 x2 x3 x4 x5 x6 x7
          obtain ⟨-, ⟨a0, a1, a2, a3, a4, a5, a6, a7⟩, r0, ⟨x0, x1, x2, x3, x4, x5, x6, x7⟩⟩ := hLast
          have HN2 : Hid (NextI d c (i + 1) true (nx ++ [x])) := (nxt_done HN.out HX.out).2
          clear HN HX HO
          go_wp2_with (first | (at_builtin; refine wpList_append_cell rfl (.tmp 43) (.tmp 51) rfl _ w5.heap.size _ _ rfl (HR3.out.below (below_new _ _)) _ 1 rfl x (ct_new x _ _) HLn.out (by have := HB3.out.size; simp; omega) ?_; intro v7 w7 h7 hb7 _; have HR7 := hid h7; have HB7 := hid (HB3.out.trans (((below_new _ _).mono HB3.out.size).trans hb7))))
          go_roundw
          case rel => exact ⟨i + 1, true, _, by omega, by go_num, rfl, HR7.out, HB7.out, HN2.out⟩
          case measure => simp [intOf]; omega
        | false =>
          rcases Int.lt_trichotomy o 0 with h1 | h1 | h1
          · have h2 : (o != 0) = true := by simp; omega
            have h3 : o ≤ 0 := by omega
            go_upto_region 8 with (fail)
            go_region_held3 (fun W' => Hid (Below wr.heap.size wr W' ∧ w.heap.size < wr.heap.size ∧ rb < wr.heap.size ∧ b < wr.heap.size) ∧ (W'.cell? ⟨w.heap.size, 0, none⟩ = some (.string c.r) ∧ W'.cell? ⟨w.heap.size, 1, none⟩ = some (.string c.f) ∧ W'.cell? ⟨w.heap.size, 2, none⟩ = some (.string c.q) ∧ W'.cell? ⟨w.heap.size, 3, none⟩ = some (.int .i64 c.t) ∧ W'.cell? ⟨w.heap.size, 4, none⟩ = some (.int .i64 c.k) ∧ W'.cell? ⟨w.heap.size, 5, none⟩ = some (.int .i64 c.vk) ∧ W'.cell? ⟨w.heap.size, 6, none⟩ = some (.int .i64 c.vn) ∧ W'.cell? ⟨w.heap.size, 7, none⟩ = some (.string c.s)) ∧ (W'.cell? ⟨rb, 0, none⟩ = some (.slice (some ⟨b, off, none⟩) n cc) ∧ (W'.cell? ⟨b, off + i * 8, none⟩ = some (.string x.r) ∧ W'.cell? ⟨b, off + i * 8 + 1, none⟩ = some (.string x.f) ∧ W'.cell? ⟨b, off + i * 8 + 2, none⟩ = some (.string x.q) ∧ W'.cell? ⟨b, off + i * 8 + 3, none⟩ = some (.int .i64 x.t) ∧ W'.cell? ⟨b, off + i * 8 + 4, none⟩ = some (.int .i64 x.k) ∧ W'.cell? ⟨b, off + i * 8 + 5, none⟩ = some (.int .i64 x.vk) ∧ W'.cell? ⟨b, off + i * 8 + 6, none⟩ = some (.int .i64 x.vn) ∧ W'.cell? ⟨b, off + i * 8 + 7, none⟩ = some (.string x.s))))
              (first | exact HT.out | exact tab_drew HT.out | exact tab_call (by assumption) hb3 | exact tab_drew (by assumption) | assumption)
              (first | (go_at_call 27; refine (HOx.out _).mono ?_; rintro e w3 ⟨rfl, hb3⟩))
            rename_i hLast
            have HZ := hid hLast.1.out.1
            have HR3 := hid (HR.out.below HZ.out)
            have HB3 := hid (HB.out.trans (HZ.out.mono HB.out.size))
            clear HT a0 a1 a2 a3 a4 a5 a6 a7 r0 x0 x1 x2 x3 x4 x5 x6 x7
            obtain ⟨-, ⟨a0, a1, a2, a3, a4, a5, a6, a7⟩, r0, ⟨x0, x1, x2, x3, x4, x5, x6, x7⟩⟩ := hLast
            have HN2 : Hid (NextI d c (i + 1) true (nx ++ [c] ++ [x])) := nxt_high HRs.out HN.out HX.out (by have := HO.out; omega)
            clear HN HX HO
            go_wp2_with (first | (at_builtin; refine wpList_append_cell rfl (.tmp 37) (.tmp 39) rfl _ w5.heap.size _ _ rfl (HR3.out.below (below_new _ _)) _ 1 rfl c (ct_new c _ _) HLn.out (by have := HB3.out.size; simp; omega) ?_; intro v6 w6 h6 hb6 _; have HR6 := hid h6; have HB6 := hid (HB3.out.trans (((below_new _ _).mono HB3.out.size).trans hb6)); obtain ⟨-, -, s0, ⟨y0, y1, y2, y3, y4, y5, y6, y7⟩⟩ := HTw.out _ HB6.out) | (at_builtin; refine wpList_append_cell rfl (.tmp 43) (.tmp 51) rfl _ w5.heap.size _ _ rfl (HR6.out.below (below_new _ _)) _ 1 rfl x (ct_new x _ _) (HLm.out c) (by have := HB6.out.size; simp; omega) ?_; intro v7 w7 h7 hb7 _; have HR7 := hid h7; have HB7 := hid (HB6.out.trans (((below_new _ _).mono HB6.out.size).trans hb7))))
            go_roundw
            case rel => exact ⟨i + 1, true, _, by omega, by go_num, rfl, HR7.out, HB7.out, HN2.out⟩
            case measure => simp [intOf]; omega
          · subst h1
            go_upto_region 8 with (fail)
            go_region_held3 (fun W' => Hid (Below wr.heap.size wr W' ∧ w.heap.size < wr.heap.size ∧ rb < wr.heap.size ∧ b < wr.heap.size) ∧ (W'.cell? ⟨w.heap.size, 0, none⟩ = some (.string c.r) ∧ W'.cell? ⟨w.heap.size, 1, none⟩ = some (.string c.f) ∧ W'.cell? ⟨w.heap.size, 2, none⟩ = some (.string c.q) ∧ W'.cell? ⟨w.heap.size, 3, none⟩ = some (.int .i64 c.t) ∧ W'.cell? ⟨w.heap.size, 4, none⟩ = some (.int .i64 c.k) ∧ W'.cell? ⟨w.heap.size, 5, none⟩ = some (.int .i64 c.vk) ∧ W'.cell? ⟨w.heap.size, 6, none⟩ = some (.int .i64 c.vn) ∧ W'.cell? ⟨w.heap.size, 7, none⟩ = some (.string c.s)) ∧ (W'.cell? ⟨rb, 0, none⟩ = some (.slice (some ⟨b, off, none⟩) n cc) ∧ (W'.cell? ⟨b, off + i * 8, none⟩ = some (.string x.r) ∧ W'.cell? ⟨b, off + i * 8 + 1, none⟩ = some (.string x.f) ∧ W'.cell? ⟨b, off + i * 8 + 2, none⟩ = some (.string x.q) ∧ W'.cell? ⟨b, off + i * 8 + 3, none⟩ = some (.int .i64 x.t) ∧ W'.cell? ⟨b, off + i * 8 + 4, none⟩ = some (.int .i64 x.k) ∧ W'.cell? ⟨b, off + i * 8 + 5, none⟩ = some (.int .i64 x.vk) ∧ W'.cell? ⟨b, off + i * 8 + 6, none⟩ = some (.int .i64 x.vn) ∧ W'.cell? ⟨b, off + i * 8 + 7, none⟩ = some (.string x.s))))
              (first | exact HT.out | exact tab_drew HT.out | exact tab_call (by assumption) hb3 | exact tab_drew (by assumption) | assumption)
              (first | (go_at_call 27; refine (HOx.out _).mono ?_; rintro e w3 ⟨rfl, hb3⟩))
            rename_i hLast
            have HZ := hid hLast.1.out.1
            have HR3 := hid (HR.out.below HZ.out)
            have HB3 := hid (HB.out.trans (HZ.out.mono HB.out.size))
            clear HT a0 a1 a2 a3 a4 a5 a6 a7 r0 x0 x1 x2 x3 x4 x5 x6 x7
            obtain ⟨-, ⟨a0, a1, a2, a3, a4, a5, a6, a7⟩, r0, ⟨x0, x1, x2, x3, x4, x5, x6, x7⟩⟩ := hLast
            have HN2 : Hid (NextI d c (i + 1) true (nx ++ [c])) := nxt_same HRs.out HN.out HX.out (by have := HO.out; omega)
            clear HN HX HO
            go_wp2_with (first | (at_builtin; refine wpList_append_cell rfl (.tmp 37) (.tmp 39) rfl _ w5.heap.size _ _ rfl (HR3.out.below (below_new _ _)) _ 1 rfl c (ct_new c _ _) HLn.out (by have := HB3.out.size; simp; omega) ?_; intro v6 w6 h6 hb6 _; have HR6 := hid h6; have HB6 := hid (HB3.out.trans (((below_new _ _).mono HB3.out.size).trans hb6)); obtain ⟨-, -, s0, ⟨y0, y1, y2, y3, y4, y5, y6, y7⟩⟩ := HTw.out _ HB6.out))
            go_roundw
            case rel => exact ⟨i + 1, true, _, by omega, by go_num, rfl, HR6.out, HB6.out, HN2.out⟩
            case measure => simp [intOf]; omega
          · have h2 : (o != 0) = true := by simp; omega
            have h3 : ¬ o ≤ 0 := by omega
            go_upto_region 8 with (fail)
            go_region_held3 (fun W' => Hid (Below wr.heap.size wr W' ∧ w.heap.size < wr.heap.size ∧ rb < wr.heap.size ∧ b < wr.heap.size) ∧ (W'.cell? ⟨w.heap.size, 0, none⟩ = some (.string c.r) ∧ W'.cell? ⟨w.heap.size, 1, none⟩ = some (.string c.f) ∧ W'.cell? ⟨w.heap.size, 2, none⟩ = some (.string c.q) ∧ W'.cell? ⟨w.heap.size, 3, none⟩ = some (.int .i64 c.t) ∧ W'.cell? ⟨w.heap.size, 4, none⟩ = some (.int .i64 c.k) ∧ W'.cell? ⟨w.heap.size, 5, none⟩ = some (.int .i64 c.vk) ∧ W'.cell? ⟨w.heap.size, 6, none⟩ = some (.int .i64 c.vn) ∧ W'.cell? ⟨w.heap.size, 7, none⟩ = some (.string c.s)) ∧ (W'.cell? ⟨rb, 0, none⟩ = some (.slice (some ⟨b, off, none⟩) n cc) ∧ (W'.cell? ⟨b, off + i * 8, none⟩ = some (.string x.r) ∧ W'.cell? ⟨b, off + i * 8 + 1, none⟩ = some (.string x.f) ∧ W'.cell? ⟨b, off + i * 8 + 2, none⟩ = some (.string x.q) ∧ W'.cell? ⟨b, off + i * 8 + 3, none⟩ = some (.int .i64 x.t) ∧ W'.cell? ⟨b, off + i * 8 + 4, none⟩ = some (.int .i64 x.k) ∧ W'.cell? ⟨b, off + i * 8 + 5, none⟩ = some (.int .i64 x.vk) ∧ W'.cell? ⟨b, off + i * 8 + 6, none⟩ = some (.int .i64 x.vn) ∧ W'.cell? ⟨b, off + i * 8 + 7, none⟩ = some (.string x.s))))
              (first | exact HT.out | exact tab_drew HT.out | exact tab_call (by assumption) hb3 | exact tab_drew (by assumption) | assumption)
              (first | (go_at_call 27; refine (HOx.out _).mono ?_; rintro e w3 ⟨rfl, hb3⟩))
            rename_i hLast
            have HZ := hid hLast.1.out.1
            have HR3 := hid (HR.out.below HZ.out)
            have HB3 := hid (HB.out.trans (HZ.out.mono HB.out.size))
            clear HT a0 a1 a2 a3 a4 a5 a6 a7 r0 x0 x1 x2 x3 x4 x5 x6 x7
            obtain ⟨-, ⟨a0, a1, a2, a3, a4, a5, a6, a7⟩, r0, ⟨x0, x1, x2, x3, x4, x5, x6, x7⟩⟩ := hLast
            have HN2 : Hid (NextI d c (i + 1) false (nx ++ [x])) := nxt_low HN.out HX.out (by have := HO.out; omega)
            clear HN HX HO
            go_wp2_with (first | (at_builtin; refine wpList_append_cell rfl (.tmp 43) (.tmp 51) rfl _ w5.heap.size _ _ rfl (HR3.out.below (below_new _ _)) _ 1 rfl x (ct_new x _ _) HLn.out (by have := HB3.out.size; simp; omega) ?_; intro v7 w7 h7 hb7 _; have HR7 := hid h7; have HB7 := hid (HB3.out.trans (((below_new _ _).mono HB3.out.size).trans hb7))))
            go_roundw
            case rel => exact ⟨i + 1, false, _, by omega, by go_num, rfl, HR7.out, HB7.out, HN2.out⟩
            case measure => simp [intOf]; omega
      · obtain rfl : i = n := by omega
        have f0 : wr.frozen? ⟨rb, 0, none⟩ = false := ((HG.out.keep HB5.out hrb).keep HB.out (Nat.lt_trans hrb HG5.out)).free 0
        have HF : Hid (∀ (W : World) (v' : Value), CRow W w5.heap.size v' (putL d c) → Below w5.heap.size w5 W → (∃ v'', RfS (W.setCell ⟨rb, 0, none⟩ v') B rb v'' (putL d c) ∧ But w.heap.size rb w (W.setCell ⟨rb, 0, none⟩ v'))) := fun W v' h1 h2 => by
          have hk := (HG.out.keep HB5.out hrb).keep h2 (Nat.lt_trans hrb HG5.out)
          have hbw := HB5.out.trans (h2.mono (Nat.le_of_lt HG5.out))
          have h3 := CRow.butL h1 ((But.refl W.heap.size rb W).setCell 0 v') (Nat.lt_trans hrb HG5.out)
          refine ⟨v', ⟨HLo.out.1, hk.set 0 v', h3.le (by have := HLo.out; have := HG5.out; omega), putL_rise c HRs.out, putL_sm HSm.out HC.out⟩, (But.of_below hbw rb).setCell 0 v'⟩
        have HNl := hid (nxt_len HN.out (by rw [HLd.out]; exact Nat.le_refl _))
        cases dn with
        | true =>
          have HQ : Hid (CRow wr w5.heap.size (.slice A9 nx.length c9) (putL d c)) := by
            have h1 := HN.out
            rw [← HLd.out] at h1
            rw [← nxt_end1 h1]
            exact HR.out
          clear HN HR
          go_wp2
          go_ret
          exact ⟨rfl, HF.out _ _ HQ.out HB.out⟩
        | false =>
          have HQ : Hid (nx ++ [c] = putL d c) := by
            have h1 := HN.out
            rw [← HLd.out] at h1
            exact nxt_end0 h1
          have HLn : Hid (nx.length ≤ 100000) := by have := HNl.out; rw [HLd.out] at this; show nx.length ≤ _; omega
          clear HN
          go_wp2_with (at_builtin; refine wpList_append_cell rfl (.tmp 55) (.tmp 57) rfl _ w5.heap.size _ _ rfl (HR.out.below (below_new _ _)) _ 1 rfl c (ct_new c _ _) HLn.out (by have := HB.out.size; simp; omega) ?_; intro v6 w6 h6 hb6 _; obtain ⟨A6, c6, e6, hc6, hm6⟩ := h6.len; rw [HQ.out] at e6 hc6; subst e6; have HR6 := hid h6; have HB6 := hid (HB.out.trans (((below_new _ _).mono HB.out.size).trans hb6)); have f6 : w6.frozen? ⟨rb, 0, none⟩ = false := ((HG.out.keep HB5.out hrb).keep HB6.out (Nat.lt_trans hrb HG5.out)).free 0; have r6 : w6.cell? ⟨rb, 0, none⟩ = some (.slice A i cc) := ((HG.out.keep HB5.out hrb).keep HB6.out (Nat.lt_trans hrb HG5.out)).cell 0)
          go_ret
          rw [HQ.out] at HR6
          exact ⟨rfl, HF.out _ _ HR6.out HB6.out⟩
end Go.Proofs.YtdjaofbjmnmlbaaDoor

/- The program's table and the document's, side by side: what the one's Put leaves of the other. Conditions: both stand in memory of the call's own. -/
namespace Go.Proofs.YtdjaofbjmnmlbaaDoor
open Go.RowKit

abbrev memTs2 : List TypeId := [103, 100, 105, 56]
theorem RfS.kt {W W' : World} {B rb : Nat} {v : Value} {d : List CT} (h : RfS W B rb v d) (hk : KT memTs B W W') : RfS W' B rb v d := by
  refine ⟨h.lo, hk.k _ _ _ h.blk (by decide), ⟨h.row.1, ?_⟩, h.rise, h.sm⟩
  rcases h.row.2 with q | ⟨g, cap, cur, e, h1, h2, hr⟩
  · exact .inl q
  · exact .inr ⟨g, cap, cur, e, h1, hk.k g 28 cur h2 (by decide), hr⟩
theorem RfS.below {W W' : World} {B rb : Nat} {v : Value} {d : List CT} (h : RfS W B rb v d) (hb : Below W.heap.size W W') : RfS W' B rb v d := ⟨h.lo, h.blk.keep hb h.blk.lt, h.row.below hb, h.rise, h.sm⟩
theorem MemOf.but {W W' : World} {B mb rb : Nat} {d : List CT} {v : Value} (h : MemOf W B mb d) (hr : Blk W rb 56 #[v]) (hb : But W.heap.size rb W W') : MemOf W' B mb d := by
  obtain ⟨hd, L, h⟩ := h
  refine ⟨hd, L, h.lo, (hb.block _ h.blk.lt (blk_ne h.blk hr (by decide))).trans h.blk, h.sk.other hr (by decide) (fun k hk hne => hb.block k hk hne), h.cs, h.rise, h.ok⟩

/-- Both tables of the call's own stand: the program's holds d, the document's u. -/
structure Me2 (B mb rb : Nat) (v : Value) (d u : List CT) (w W : World) : Prop where
  out : MemOf W B mb d ∧ RfS W B rb v u ∧ KT memTs2 B w W ∧ B ≤ W.heap.size
theorem Me2.below {B mb rb : Nat} {v : Value} {d u : List CT} {w W W' : World} (h : Me2 B mb rb v d u w W) (hb : Below W.heap.size W W') : Me2 B mb rb v d u w W' := by
  obtain ⟨h1, h2, h3, h4⟩ := h.out
  exact ⟨h1.below hb, h2.below hb, h3.trans (KT.of_below hb h4), Nat.le_trans h4 hb.size⟩
theorem Me2.drew {B mb rb : Nat} {v : Value} {d u : List CT} {w W : World} (h : Me2 B mb rb v d u w W) : Me2 B mb rb v d u w W.drew := h.below (Below.refl _ _).drew
theorem me2_new {w W W' : World} {mb : Nat} {t : TypeId} (h : MemOf W w.heap.size mb []) (hb : Below w.heap.size w W) (ht : t = 56) (hW : W' = W.alloc (.cells #[.slice none 0 0] t)) : Me2 w.heap.size mb W.heap.size (.slice none 0 0) [] [] w W' := by
  subst ht hW
  have hn := below_new W (.cells #[.slice none 0 0] 56)
  exact ⟨h.below hn, ⟨hb.size, Blk.new W _ _, CRow.none _ _, List.Pairwise.nil, fun x hx => by cases hx⟩, (KT.of_below hb (Nat.le_refl _)).trans (KT.of_below hn hb.size), Nat.le_trans hb.size (by simp)⟩
/-- Put into the program's table, whatever the cell. -/
theorem me2_put {B mb rb : Nat} {v : Value} {d u : List CT} {w W : World} {c : CT} (h : Me2 B mb rb v d u w W) (hL : LaidU w) (hBw : w.heap.size ≤ B) (hc : Sm c) (hlen : d.length ≤ 100000) :
    Calls Tryd.prog 35 #[.pointer (some ⟨mb, 0, none⟩), c.v] W fun e w' => e = .returned (.bool c.ok) ∧ Me2 B mb rb v (putR d c) u w w' := by
  obtain ⟨hM, hR, hK, hS⟩ := h.out
  have hcs : c.s.size ≤ 1000 := by have := hc.2.2.2.2; omega
  cases hok : c.ok with
  | true =>
    have e : putR d c = putL d c := by unfold putR; rw [if_pos hok]
    rw [e]
    have hb := bytesL_le hM.okl
    have he := encL_le hok hcs
    exact (put_yes mb d c B W hM hc.1 hcs hok (hL.below (hK.b.mono hBw)) hS (by omega) (by omega) (by omega)).mono fun e w' ⟨q1, q2, q3⟩ => ⟨q1, q2, hR.kt q3, hK.trans (q3.mono (by decide)), Nat.le_trans hS q3.b.size⟩
  | false =>
    have e : putR d c = d := by unfold putR; rw [if_neg (by rw [hok]; decide)]
    rw [e]
    exact (put_no mb c W hc.1 hok (hL.below (hK.b.mono hBw))).mono fun e w' ⟨q1, q2⟩ => ⟨q1, h.below q2⟩
/-- Put into the document's. -/
theorem me2_ref {B mb rb : Nat} {v : Value} {d u : List CT} {w W : World} {c : CT} (h : Me2 B mb rb v d u w W) (hc : Sm c) (hlen : u.length ≤ 1000) :
    Calls Tryd.prog 36 #[.pointer (some ⟨rb, 0, none⟩), c.v] W fun e w' => e = .returned (.bool c.ok) ∧ ∃ v', Me2 B mb rb v' d (putR u c) w w' := by
  obtain ⟨hM, hR, hK, hS⟩ := h.out
  exact (refput_any B rb v u c W hR hS hc hlen).mono fun e w' ⟨q1, v', q2, q3⟩ => ⟨q1, v', hM.but hR.blk q3, q2, hK.trans (KT.of_but hR.blk (by decide) q3 hR.lo hS), Nat.le_trans hS q3.size⟩
end Go.Proofs.YtdjaofbjmnmlbaaDoor

/- The document's own table: Get, Row, From, Bytes. Conditions: its list stands in memory of the call's own. -/
namespace Go.Proofs.YtdjaofbjmnmlbaaDoor
open Go.RowKit

theorem boxes_two (w : World) (c : CT) : Hid (Below w.heap.size w ((w.alloc (.cells c.e.toArray 28)).alloc (.cells (default : CT).e.toArray 28)) ∧ Blk ((w.alloc (.cells c.e.toArray 28)).alloc (.cells (default : CT).e.toArray 28)) w.heap.size 28 c.e.toArray ∧ Blk ((w.alloc (.cells c.e.toArray 28)).alloc (.cells (default : CT).e.toArray 28)) (w.heap.size + 1) 28 (default : CT).e.toArray ∧ ((w.alloc (.cells c.e.toArray 28)).alloc (.cells (default : CT).e.toArray 28)).heap.size = w.heap.size + 1 + 1) := by
  have k1 := Blk.new w 28 c.e.toArray
  have s1 : (w.alloc (.cells c.e.toArray 28)).heap.size = w.heap.size + 1 := World.size_alloc _ _
  have k2 := Blk.new (w.alloc (.cells c.e.toArray 28)) 28 (default : CT).e.toArray
  have b2 := below_new (w.alloc (.cells c.e.toArray 28)) (.cells (default : CT).e.toArray 28)
  rw [s1] at k2
  exact ⟨(below_new w _).trans (b2.mono (by omega)), k1.keep b2 (by omega), k2, by rw [World.size_alloc, s1]⟩
theorem crow_some {W : World} {B : Nat} {v : Value} {l : List CT} (h : CRow W B v l) (h0 : 0 < l.length) : ∃ g k c, v = .slice (some ⟨g, 0, none⟩) k c := by
  rcases h.2 with ⟨_, e⟩ | ⟨g, cap, cur, e, _⟩
  · omega
  · exact ⟨_, _, _, e⟩
theorem getL_nextx {d : List CT} {c x : CT} {i : Nat} (hx : d[i]? = some x) (h : CT.cmp x c ≠ 0) : getL (d.drop i) c = getL (d.drop (i + 1)) c := by
  rw [drop_here hx]
  unfold getL
  rw [List.find?_cons, decide_eq_false h]
theorem getL_this {d : List CT} {c x : CT} {i : Nat} (hx : d[i]? = some x) (h : CT.cmp x c = 0) : getL (d.drop i) c = some x := by
  rw [drop_here hx]
  unfold getL
  rw [List.find?_cons, decide_eq_true h]
theorem one_all (q : CT) : q.e.toArray.all (·.oneCell') = true := by rw [Array.all_eq_true_iff_forall_mem]; intro u hu; exact q.e_one u (by simpa using hu)

set_option maxHeartbeats 8000000 in
set_option maxRecDepth 100000 in
theorem refget_any (B rb : Nat) (v : Value) (d : List CT) (c : CT) (w : World) (h : RfS w B rb v d) (hc : Sm c) (hlen : d.length ≤ 1000) :
    Calls Tryd.prog 39 #[.pointer (some ⟨rb, 0, none⟩), c.v] w fun e w' => e = .returned (.tuple #[((getL d c).getD default).v, .bool (getL d c).isSome]) ∧ Below w.heap.size w w' := by
  have mixed : Tryd.prog.follows .mixedOrders = true := by kernel_rfl
  have hi28 : (Tryd.prog.info? 28).map (·.size) = some 8 := by kernel_rfl
  have HOr : Hid (∀ x ∈ d, ∀ W, Calls Tryd.prog 27 #[c.v, x.v] W fun e w' => e = .returned (.int .i64 (CT.cmp c x)) ∧ Below W.heap.size W w') := fun x hx W => reforder_ct c x hc (h.sm x hx) W
  have HRv : Hid (∃ Rv : Ending, .returned (.tuple #[((getL d c).getD default).v, .bool (getL d c).isSome]) = Rv) := ⟨_, rfl⟩
  obtain ⟨Rv, hRv⟩ := HRv.out
  rw [hRv]
  have HR := hid hRv
  clear hRv HRv hc
  have HK := hid h.row.cla
  have HG := hid h.blk
  have HSm := hid h.sm
  have hrb : rb < w.heap.size := h.blk.lt
  obtain ⟨A, cc, rfl, hc1, hc2, hh⟩ := HK.out
  have HH := hid hh
  clear hh HK h
  obtain ⟨n, hn⟩ : ∃ n, d.length = n := ⟨_, rfl⟩
  have HLd := hid hn
  rw [hn] at hc1 hlen HG
  clear hn
  have HB0 := boxes_two w c
  go_enter Tryd.func39, Tryd.ntmps39
  go_upto_region 1 with (fail)
  refine wp_ltc (fun W => Hid (Below w.heap.size w W ∧ Blk W w.heap.size 28 c.e.toArray ∧ Blk W (w.heap.size + 1) 28 (default : CT).e.toArray ∧ W.heap.size = w.heap.size + 1 + 1)) HB0.out (fun W0 HW0 => ?_)
  clear HB0
  have HG0 : Hid (w.heap.size + 1 < W0.heap.size) := by have := HW0.out.2.2.2; show _ < _; omega
  go_wp2
  go_loopw [6] (fun vi wr => ∃ i : Nat, i ≤ n ∧ vi = .int .i64 i ∧ Hid (Below W0.heap.size W0 wr) ∧ Hid (getL d c = getL (d.drop i) c)) (fun vi _ => n - (intOf vi).toNat)
  case atStart => exact ⟨0, Nat.zero_le _, rfl, Below.refl _ _, rfl⟩
  case round =>
    obtain ⟨i, hi, rfl, HB, HL⟩ := hrel
    have HBw : Hid (Below w.heap.size w wr) := HW0.out.1.trans (HB.out.mono HW0.out.1.size)
    have r0 : wr.cell? ⟨rb, 0, none⟩ = some (.slice A n cc) := (HG.out.keep HBw.out hrb).cell 0
    by_cases hlt : i < n
    · have hin : i < d.length := by rw [HLd.out]; exact hlt
      have hltz : (i : Int) < (n : Int) := by omega
      obtain ⟨b, off, rfl, hhc⟩ := HH.out (by rw [HLd.out]; omega)
      have hbw : b < w.heap.size := hhc.lt (by rw [HLd.out]; omega)
      obtain ⟨x, hx⟩ : ∃ x, d[i]? = some x := ⟨_, List.getElem?_eq_getElem hin⟩
      have HX := hid hx
      have HTw : Hid (∀ W, Below W0.heap.size W0 W → TabW W w.heap.size rb b (off + i * 8) c x (.slice (some ⟨b, off, none⟩) n cc) W) := fun W hW => by
        have h1 := HW0.out.1.trans (hW.mono HW0.out.1.size)
        have h2 := h1.size
        have h3 := HG0.out
        have h4 := hW.size
        exact ⟨hid ⟨Below.refl _ _, by omega, by omega, by omega⟩, DW.words (HW0.out.2.1.keep hW (by omega)), (HG.out.keep h1 hrb).cell 0, ct_words (hhc.below h1 hbw) i hx⟩
      have HT := hid (HTw.out wr HB.out)
      obtain ⟨-, ⟨a0, a1, a2, a3, a4, a5, a6, a7⟩, -, ⟨x0, x1, x2, x3, x4, x5, x6, x7⟩⟩ := HT.out
      have HOx := hid (HOr.out x (List.mem_of_getElem? hx))
      clear hhc hin hx
      obtain ⟨o, ho⟩ : ∃ o, CT.cmp c x = o := ⟨_, rfl⟩
      rw [ho] at HOx
      have HO : Hid (CT.cmp x c = - o) := by rw [← ho]; exact ct_c3.anti c x
      clear ho
      by_cases ho : o = 0
      · subst ho
        have HRx : Hid (Rv = .returned (.tuple #[x.v, .bool true])) := by
          have := getL_this HX.out (by rw [HO.out]; rfl)
          show Rv = _
          rw [← HR.out, HL.out, this]
          rfl
        go_upto_region 4 with (fail)
        go_region_held3 (fun W' => Hid (Below wr.heap.size wr W' ∧ w.heap.size < wr.heap.size ∧ rb < wr.heap.size ∧ b < wr.heap.size) ∧ (W'.cell? ⟨w.heap.size, 0, none⟩ = some (.string c.r) ∧ W'.cell? ⟨w.heap.size, 1, none⟩ = some (.string c.f) ∧ W'.cell? ⟨w.heap.size, 2, none⟩ = some (.string c.q) ∧ W'.cell? ⟨w.heap.size, 3, none⟩ = some (.int .i64 c.t) ∧ W'.cell? ⟨w.heap.size, 4, none⟩ = some (.int .i64 c.k) ∧ W'.cell? ⟨w.heap.size, 5, none⟩ = some (.int .i64 c.vk) ∧ W'.cell? ⟨w.heap.size, 6, none⟩ = some (.int .i64 c.vn) ∧ W'.cell? ⟨w.heap.size, 7, none⟩ = some (.string c.s)) ∧ (W'.cell? ⟨rb, 0, none⟩ = some (.slice (some ⟨b, off, none⟩) n cc) ∧ (W'.cell? ⟨b, off + i * 8, none⟩ = some (.string x.r) ∧ W'.cell? ⟨b, off + i * 8 + 1, none⟩ = some (.string x.f) ∧ W'.cell? ⟨b, off + i * 8 + 2, none⟩ = some (.string x.q) ∧ W'.cell? ⟨b, off + i * 8 + 3, none⟩ = some (.int .i64 x.t) ∧ W'.cell? ⟨b, off + i * 8 + 4, none⟩ = some (.int .i64 x.k) ∧ W'.cell? ⟨b, off + i * 8 + 5, none⟩ = some (.int .i64 x.vk) ∧ W'.cell? ⟨b, off + i * 8 + 6, none⟩ = some (.int .i64 x.vn) ∧ W'.cell? ⟨b, off + i * 8 + 7, none⟩ = some (.string x.s))))
          (first | exact HT.out | exact tab_drew HT.out | exact tab_call (by assumption) hb3 | exact tab_drew (by assumption) | assumption)
          (first | (go_at_call 27; refine (HOx.out _).mono ?_; rintro e w3 ⟨rfl, hb3⟩))
        rename_i hLast
        have HZ := hid hLast.1.out.1
        clear HT r0 a0 a1 a2 a3 a4 a5 a6 a7 x0 x1 x2 x3 x4 x5 x6 x7
        obtain ⟨-, ⟨a0, a1, a2, a3, a4, a5, a6, a7⟩, r0, ⟨x0, x1, x2, x3, x4, x5, x6, x7⟩⟩ := hLast
        have HT3 := HTw.out _ (HB.out.trans (HZ.out.mono HB.out.size))
        have HK3 : Hid (Blk _ (w.heap.size + 1) 28 (default : CT).e.toArray) := HW0.out.2.2.1.keep (HB.out.trans (HZ.out.mono HB.out.size)) HG0.out
        clear HT3 HR HTw
        have hone0 := one_all x
        have HB3 := hid (HBw.out.trans (HZ.out.mono HBw.out.size))
        go_wp2_with (refine wpList_store_row rfl 28 (.tmp 4) (.tmp 32) rfl (w.heap.size + 1) x.e.toArray rfl rfl 28 (default : CT).e.toArray HK3.out hi28 rfl hone0 ?_)
        refine bodyPost_ret (v := .tuple #[x.v, .bool true]) (results_cell_tmp_row rfl _ _ (w.heap.size + 1) 28 x.e.toArray _ rfl (setRow_heap _ _ (default : CT).e.toArray _ _ (0, 0) HK3.out) Tryd.underlying28 rfl hi28 _ rfl) rfl ?_
        exact ⟨HRx.out.symm, below_row HB3.out (by omega)⟩
      · have h2 : (o == 0) = false := by simpa using ho
        have HL2 : Hid (getL d c = getL (d.drop (i + 1)) c) := HL.out.trans (getL_nextx HX.out (by have := HO.out; omega))
        go_upto_region 4 with (fail)
        go_region_held3 (fun W' => Hid (Below wr.heap.size wr W' ∧ w.heap.size < wr.heap.size ∧ rb < wr.heap.size ∧ b < wr.heap.size) ∧ (W'.cell? ⟨w.heap.size, 0, none⟩ = some (.string c.r) ∧ W'.cell? ⟨w.heap.size, 1, none⟩ = some (.string c.f) ∧ W'.cell? ⟨w.heap.size, 2, none⟩ = some (.string c.q) ∧ W'.cell? ⟨w.heap.size, 3, none⟩ = some (.int .i64 c.t) ∧ W'.cell? ⟨w.heap.size, 4, none⟩ = some (.int .i64 c.k) ∧ W'.cell? ⟨w.heap.size, 5, none⟩ = some (.int .i64 c.vk) ∧ W'.cell? ⟨w.heap.size, 6, none⟩ = some (.int .i64 c.vn) ∧ W'.cell? ⟨w.heap.size, 7, none⟩ = some (.string c.s)) ∧ (W'.cell? ⟨rb, 0, none⟩ = some (.slice (some ⟨b, off, none⟩) n cc) ∧ (W'.cell? ⟨b, off + i * 8, none⟩ = some (.string x.r) ∧ W'.cell? ⟨b, off + i * 8 + 1, none⟩ = some (.string x.f) ∧ W'.cell? ⟨b, off + i * 8 + 2, none⟩ = some (.string x.q) ∧ W'.cell? ⟨b, off + i * 8 + 3, none⟩ = some (.int .i64 x.t) ∧ W'.cell? ⟨b, off + i * 8 + 4, none⟩ = some (.int .i64 x.k) ∧ W'.cell? ⟨b, off + i * 8 + 5, none⟩ = some (.int .i64 x.vk) ∧ W'.cell? ⟨b, off + i * 8 + 6, none⟩ = some (.int .i64 x.vn) ∧ W'.cell? ⟨b, off + i * 8 + 7, none⟩ = some (.string x.s))))
          (first | exact HT.out | exact tab_drew HT.out | exact tab_call (by assumption) hb3 | exact tab_drew (by assumption) | assumption)
          (first | (go_at_call 27; refine (HOx.out _).mono ?_; rintro e w3 ⟨rfl, hb3⟩))
        rename_i hLast
        have HZ := hid hLast.1.out.1
        clear HT r0 a0 a1 a2 a3 a4 a5 a6 a7 x0 x1 x2 x3 x4 x5 x6 x7
        obtain ⟨-, ⟨a0, a1, a2, a3, a4, a5, a6, a7⟩, r0, ⟨x0, x1, x2, x3, x4, x5, x6, x7⟩⟩ := hLast
        clear HL HTw
        go_wp2
        go_roundw
        case rel => exact ⟨i + 1, by omega, by go_num, HB.out.trans (HZ.out.mono HB.out.size), HL2.out⟩
        case measure => simp [intOf]; omega
    · obtain rfl : i = n := by omega
      have HRx : Hid (Rv = .returned (.tuple #[(default : CT).v, .bool false])) := by
        show Rv = _
        rw [← HR.out, HL.out, List.drop_of_length_le (by rw [HLd.out]; exact Nat.le_refl _)]
        rfl
      have HK3 : Hid (Blk wr (w.heap.size + 1) 28 (default : CT).e.toArray) := HW0.out.2.2.1.keep HB.out HG0.out
      clear HR HL
      have hone0 := one_all default
      go_wp2_with (refine wpList_store_row rfl 28 (.tmp 4) (.tmp 33) rfl (w.heap.size + 1) (default : CT).e.toArray rfl rfl 28 (default : CT).e.toArray HK3.out hi28 rfl hone0 ?_)
      refine bodyPost_ret (v := .tuple #[(default : CT).v, .bool false]) (results_cell_tmp_row rfl _ _ (w.heap.size + 1) 28 (default : CT).e.toArray _ rfl (setRow_heap _ _ (default : CT).e.toArray _ _ (0, 0) HK3.out) Tryd.underlying28 rfl hi28 _ rfl) rfl ?_
      exact ⟨HRx.out.symm, below_row HBw.out (by omega)⟩

set_option maxHeartbeats 8000000 in
set_option maxRecDepth 100000 in
theorem refrow_any (B rb : Nat) (v : Value) (d : List CT) (row : ByteArray) (w : World) (h : RfS w B rb v d) (hlen : d.length ≤ 1000) :
    Calls Tryd.prog 42 #[.pointer (some ⟨rb, 0, none⟩), .string row] w fun e w' => ∃ v, e = .returned v ∧ CRow w' w.heap.size v (rowL d row) ∧ Below w.heap.size w w' := by
  have mixed : Tryd.prog.follows .mixedOrders = true := by kernel_rfl
  have HK := hid h.row.cla
  have HG := hid h.blk
  have HSm := hid h.sm
  have hrb : rb < w.heap.size := h.blk.lt
  obtain ⟨A, cc, rfl, hc1, hc2, hh⟩ := HK.out
  have HH := hid hh
  clear hh HK h
  obtain ⟨n, hn⟩ : ∃ n, d.length = n := ⟨_, rfl⟩
  have HLd := hid hn
  rw [hn] at hc1 hlen HG
  clear hn
  have HE5 := hid (empty_crow w w.heap.size (Nat.le_refl _))
  have HA5 := hid (below_new w (.cells #[] 28))
  go_enter Tryd.func42, Tryd.ntmps42
  go_wp2
  go_loopw [5, 6] (fun vn vi wr => ∃ (i : Nat) (nx : List CT), i ≤ n ∧ vi = .int .i64 i ∧ Hid (CRow wr w.heap.size vn nx) ∧ Hid (Below w.heap.size w wr) ∧ Hid (nx = rowL (d.take i) row ∧ nx.length ≤ i)) (fun _ vi _ => n - (intOf vi).toNat)
  case atStart => exact ⟨0, [], Nat.zero_le _, rfl, HE5.out, HA5.out, ⟨rfl, Nat.zero_le _⟩⟩
  case round =>
    clear HE5 HA5
    obtain ⟨i, nx, hi, rfl, HR, HB, HN⟩ := hrel
    have r0 : wr.cell? ⟨rb, 0, none⟩ = some (.slice A n cc) := (HG.out.keep HB.out hrb).cell 0
    obtain ⟨A9, c9, e9, hc9, hm9⟩ := HR.out.len
    subst e9
    by_cases hlt : i < n
    · have hin : i < d.length := by rw [HLd.out]; exact hlt
      have hltz : (i : Int) < (n : Int) := by omega
      obtain ⟨b, off, rfl, hhc⟩ := HH.out (by rw [HLd.out]; omega)
      have hbw : b < w.heap.size := hhc.lt (by rw [HLd.out]; omega)
      obtain ⟨x, hx⟩ : ∃ x, d[i]? = some x := ⟨_, List.getElem?_eq_getElem hin⟩
      have HX := hid hx
      obtain ⟨x0, x1, x2, x3, x4, x5, x6, x7⟩ := ct_words (hhc.below HB.out hbw) i hx
      have HLn : Hid (nx.length ≤ 100000) := by have := HN.out.2; show nx.length ≤ _; omega
      clear hhc hin hx
      by_cases hr : x.r = row
      · have hrt : (x.r.toList == row.toList) = true := by rw [hr]; simp
        have HN2 : Hid (nx ++ [x] = rowL (d.take (i + 1)) row ∧ (nx ++ [x]).length ≤ i + 1) := by
          refine ⟨?_, by rw [List.length_append, List.length_singleton]; have := HN.out.2; omega⟩
          rw [take_next HX.out]
          unfold rowL
          rw [List.filter_append, List.filter_cons, if_pos (decide_eq_true hr), HN.out.1]
          rfl
        clear HN HX hr
        go_wp2_with (at_builtin; refine wpList_append_cell rfl (.tmp 27) (.tmp 35) rfl _ w.heap.size _ _ rfl (HR.out.below (below_new _ _)) _ 1 rfl x (ct_new x _ _) HLn.out (by have := HB.out.size; simp; omega) ?_; intro v6 w6 h6 hb6 _; have HR6 := hid h6; have HB6 := hid (HB.out.trans (((below_new _ _).mono HB.out.size).trans hb6)))
        go_roundw
        case rel => exact ⟨i + 1, _, by omega, by go_num, HR6.out, HB6.out, HN2.out⟩
        case measure => simp [intOf]; omega
      · have hrt : (x.r.toList == row.toList) = false := by simpa using ba_ne2 hr
        have HN2 : Hid (nx = rowL (d.take (i + 1)) row ∧ nx.length ≤ i + 1) := by
          refine ⟨?_, by have := HN.out.2; omega⟩
          rw [take_next HX.out]
          unfold rowL
          rw [List.filter_append, List.filter_cons, if_neg (by simpa using hr), List.filter_nil, List.append_nil]
          exact HN.out.1
        clear HN HX hr
        go_wp2
        go_roundw
        case rel => exact ⟨i + 1, nx, by omega, by go_num, HR.out, HB.out, HN2.out⟩
        case measure => simp [intOf]; omega
    · obtain rfl : i = n := by omega
      have HQ : Hid (CRow wr w.heap.size (.slice A9 nx.length c9) (rowL d row)) := by
        have h1 := HN.out.1
        rw [List.take_of_length_le (by rw [HLd.out]; exact Nat.le_refl _)] at h1
        rw [← h1]
        exact HR.out
      clear HN HR
      go_wp2
      go_ret
      exact ⟨_, rfl, HQ.out, HB.out⟩


set_option maxHeartbeats 8000000 in
set_option maxRecDepth 100000 in
theorem reffrom_any (B rb : Nat) (v : Value) (d : List CT) (c : CT) (w : World) (h : RfS w B rb v d) (hc : Sm c) (hlen : d.length ≤ 1000) :
    Calls Tryd.prog 46 #[.pointer (some ⟨rb, 0, none⟩), c.v] w fun e w' => ∃ v, e = .returned v ∧ CRow w' w.heap.size v (fromL d c) ∧ (∃ g k c, v = .slice (some ⟨g, 0, none⟩) k c) ∧ Below w.heap.size w w' := by
  have mixed : Tryd.prog.follows .mixedOrders = true := by kernel_rfl
  have HOr : Hid (∀ x ∈ d, ∀ W, Calls Tryd.prog 27 #[x.v, c.v] W fun e w' => e = .returned (.int .i64 (CT.cmp x c)) ∧ Below W.heap.size W w') := fun x hx W => reforder_ct x c (h.sm x hx) hc W
  clear hc
  have HK := hid h.row.cla
  have HG := hid h.blk
  have HSm := hid h.sm
  have hrb : rb < w.heap.size := h.blk.lt
  obtain ⟨A, cc, rfl, hc1, hc2, hh⟩ := HK.out
  have HH := hid hh
  clear hh HK h
  obtain ⟨n, hn⟩ : ∃ n, d.length = n := ⟨_, rfl⟩
  have HLd := hid hn
  rw [hn] at hc1 hlen HG
  clear hn
  go_enter Tryd.func46, Tryd.ntmps46
  go_upto_region 1 with (fail)
  refine wp_ltc (fun W => Hid (Below w.heap.size w W ∧ Blk W w.heap.size 28 c.e.toArray ∧ w.heap.size < W.heap.size)) ⟨below_new w _, Blk.new w _ _, by simp⟩ (fun W0 HW0 => ?_)
  have HE5 := hid (empty_crow W0 W0.heap.size (Nat.le_refl _))
  have HA5 := hid (below_new W0 (.cells #[] 28))
  go_wp2
  go_loopw [5, 6] (fun vn vi wr => ∃ (i : Nat) (nx : List CT), i ≤ n ∧ vi = .int .i64 i ∧ Hid (CRow wr W0.heap.size vn nx) ∧ Hid (Below W0.heap.size W0 wr) ∧ Hid (nx = fromL (d.take i) c ∧ nx.length ≤ i) ∧ Hid (∃ g k c, vn = .slice (some ⟨g, 0, none⟩) k c)) (fun _ vi _ => n - (intOf vi).toNat)
  case atStart => exact ⟨0, [], Nat.zero_le _, rfl, HE5.out, HA5.out, ⟨rfl, Nat.zero_le _⟩, ⟨_, _, _, rfl⟩⟩
  case round =>
    clear HE5 HA5
    obtain ⟨i, nx, hi, rfl, HR, HB, HN, HV⟩ := hrel
    have HBw : Hid (Below w.heap.size w wr) := HW0.out.1.trans (HB.out.mono HW0.out.1.size)
    have r0 : wr.cell? ⟨rb, 0, none⟩ = some (.slice A n cc) := (HG.out.keep HBw.out hrb).cell 0
    obtain ⟨A9, c9, e9, hc9, hm9⟩ := HR.out.len
    subst e9
    by_cases hlt : i < n
    · have hin : i < d.length := by rw [HLd.out]; exact hlt
      have hltz : (i : Int) < (n : Int) := by omega
      obtain ⟨b, off, rfl, hhc⟩ := HH.out (by rw [HLd.out]; omega)
      have hbw : b < w.heap.size := hhc.lt (by rw [HLd.out]; omega)
      obtain ⟨x, hx⟩ : ∃ x, d[i]? = some x := ⟨_, List.getElem?_eq_getElem hin⟩
      have HX := hid hx
      have HTw : Hid (∀ W, Below W0.heap.size W0 W → TabW W w.heap.size rb b (off + i * 8) c x (.slice (some ⟨b, off, none⟩) n cc) W) := fun W hW => by
        have h1 := HW0.out.1.trans (hW.mono HW0.out.1.size)
        have h2 := h1.size
        have h3 := HW0.out.2.2
        have h4 := hW.size
        exact ⟨hid ⟨Below.refl _ _, by omega, by omega, by omega⟩, DW.words (HW0.out.2.1.keep hW (by omega)), (HG.out.keep h1 hrb).cell 0, ct_words (hhc.below h1 hbw) i hx⟩
      have HT := hid (HTw.out wr HB.out)
      obtain ⟨-, ⟨a0, a1, a2, a3, a4, a5, a6, a7⟩, -, ⟨x0, x1, x2, x3, x4, x5, x6, x7⟩⟩ := HT.out
      have HOx := hid (HOr.out x (List.mem_of_getElem? hx))
      have HLn : Hid (nx.length ≤ 100000) := by have := HN.out.2; show nx.length ≤ _; omega
      clear hhc hin hx HTw
      obtain ⟨o, ho⟩ : ∃ o, CT.cmp x c = o := ⟨_, rfl⟩
      rw [ho] at HOx
      have HO := hid ho
      clear ho
      by_cases ho : 0 ≤ o
      · have HN2 : Hid (nx ++ [x] = fromL (d.take (i + 1)) c ∧ (nx ++ [x]).length ≤ i + 1) := by
          refine ⟨?_, by rw [List.length_append, List.length_singleton]; have := HN.out.2; omega⟩
          rw [take_next HX.out]
          unfold fromL
          rw [List.filter_append, List.filter_cons, if_pos (by rw [decide_eq_false (by rw [HO.out]; omega)]; rfl), HN.out.1]
          rfl
        go_upto_region 5 with (fail)
        go_region_held3 (fun W' => Hid (Below wr.heap.size wr W' ∧ w.heap.size < wr.heap.size ∧ rb < wr.heap.size ∧ b < wr.heap.size) ∧ (W'.cell? ⟨w.heap.size, 0, none⟩ = some (.string c.r) ∧ W'.cell? ⟨w.heap.size, 1, none⟩ = some (.string c.f) ∧ W'.cell? ⟨w.heap.size, 2, none⟩ = some (.string c.q) ∧ W'.cell? ⟨w.heap.size, 3, none⟩ = some (.int .i64 c.t) ∧ W'.cell? ⟨w.heap.size, 4, none⟩ = some (.int .i64 c.k) ∧ W'.cell? ⟨w.heap.size, 5, none⟩ = some (.int .i64 c.vk) ∧ W'.cell? ⟨w.heap.size, 6, none⟩ = some (.int .i64 c.vn) ∧ W'.cell? ⟨w.heap.size, 7, none⟩ = some (.string c.s)) ∧ (W'.cell? ⟨rb, 0, none⟩ = some (.slice (some ⟨b, off, none⟩) n cc) ∧ (W'.cell? ⟨b, off + i * 8, none⟩ = some (.string x.r) ∧ W'.cell? ⟨b, off + i * 8 + 1, none⟩ = some (.string x.f) ∧ W'.cell? ⟨b, off + i * 8 + 2, none⟩ = some (.string x.q) ∧ W'.cell? ⟨b, off + i * 8 + 3, none⟩ = some (.int .i64 x.t) ∧ W'.cell? ⟨b, off + i * 8 + 4, none⟩ = some (.int .i64 x.k) ∧ W'.cell? ⟨b, off + i * 8 + 5, none⟩ = some (.int .i64 x.vk) ∧ W'.cell? ⟨b, off + i * 8 + 6, none⟩ = some (.int .i64 x.vn) ∧ W'.cell? ⟨b, off + i * 8 + 7, none⟩ = some (.string x.s))))
          (first | exact HT.out | exact tab_drew HT.out | exact tab_call (by assumption) hb3 | exact tab_drew (by assumption) | assumption)
          (first | (go_at_call 27; refine (HOx.out _).mono ?_; rintro e w3 ⟨rfl, hb3⟩))
        rename_i hLast
        have HZ := hid hLast.1.out.1
        clear HT r0 a0 a1 a2 a3 a4 a5 a6 a7 x0 x1 x2 x3 x4 x5 x6 x7
        obtain ⟨-, ⟨a0, a1, a2, a3, a4, a5, a6, a7⟩, r0, ⟨x0, x1, x2, x3, x4, x5, x6, x7⟩⟩ := hLast
        have HR3 := hid (HR.out.below HZ.out)
        have HB3 := hid (HB.out.trans (HZ.out.mono HB.out.size))
        clear HN HX HO
        go_wp2_with (at_builtin; refine wpList_append_cell rfl (.tmp 27) (.tmp 35) rfl _ W0.heap.size _ _ rfl (HR3.out.below (below_new _ _)) _ 1 rfl x (ct_new x _ _) HLn.out (by have := HB3.out.size; simp; omega) ?_; intro v6 w6 h6 hb6 _; have HR6 := hid h6; have HV6 := hid (crow_some h6 (by simp)); have HB6 := hid (HB3.out.trans (((below_new _ _).mono HB3.out.size).trans hb6)))
        go_roundw
        case rel => exact ⟨i + 1, _, by omega, by go_num, HR6.out, HB6.out, HN2.out, HV6.out⟩
        case measure => simp [intOf]; omega
      · have HN2 : Hid (nx = fromL (d.take (i + 1)) c ∧ nx.length ≤ i + 1) := by
          refine ⟨?_, by have := HN.out.2; omega⟩
          rw [take_next HX.out]
          unfold fromL
          rw [List.filter_append, List.filter_cons, if_neg (by rw [decide_eq_true (by rw [HO.out]; omega)]; decide), List.filter_nil, List.append_nil]
          exact HN.out.1
        go_upto_region 5 with (fail)
        go_region_held3 (fun W' => Hid (Below wr.heap.size wr W' ∧ w.heap.size < wr.heap.size ∧ rb < wr.heap.size ∧ b < wr.heap.size) ∧ (W'.cell? ⟨w.heap.size, 0, none⟩ = some (.string c.r) ∧ W'.cell? ⟨w.heap.size, 1, none⟩ = some (.string c.f) ∧ W'.cell? ⟨w.heap.size, 2, none⟩ = some (.string c.q) ∧ W'.cell? ⟨w.heap.size, 3, none⟩ = some (.int .i64 c.t) ∧ W'.cell? ⟨w.heap.size, 4, none⟩ = some (.int .i64 c.k) ∧ W'.cell? ⟨w.heap.size, 5, none⟩ = some (.int .i64 c.vk) ∧ W'.cell? ⟨w.heap.size, 6, none⟩ = some (.int .i64 c.vn) ∧ W'.cell? ⟨w.heap.size, 7, none⟩ = some (.string c.s)) ∧ (W'.cell? ⟨rb, 0, none⟩ = some (.slice (some ⟨b, off, none⟩) n cc) ∧ (W'.cell? ⟨b, off + i * 8, none⟩ = some (.string x.r) ∧ W'.cell? ⟨b, off + i * 8 + 1, none⟩ = some (.string x.f) ∧ W'.cell? ⟨b, off + i * 8 + 2, none⟩ = some (.string x.q) ∧ W'.cell? ⟨b, off + i * 8 + 3, none⟩ = some (.int .i64 x.t) ∧ W'.cell? ⟨b, off + i * 8 + 4, none⟩ = some (.int .i64 x.k) ∧ W'.cell? ⟨b, off + i * 8 + 5, none⟩ = some (.int .i64 x.vk) ∧ W'.cell? ⟨b, off + i * 8 + 6, none⟩ = some (.int .i64 x.vn) ∧ W'.cell? ⟨b, off + i * 8 + 7, none⟩ = some (.string x.s))))
          (first | exact HT.out | exact tab_drew HT.out | exact tab_call (by assumption) hb3 | exact tab_drew (by assumption) | assumption)
          (first | (go_at_call 27; refine (HOx.out _).mono ?_; rintro e w3 ⟨rfl, hb3⟩))
        rename_i hLast
        have HZ := hid hLast.1.out.1
        clear HT r0 a0 a1 a2 a3 a4 a5 a6 a7 x0 x1 x2 x3 x4 x5 x6 x7
        obtain ⟨-, ⟨a0, a1, a2, a3, a4, a5, a6, a7⟩, r0, ⟨x0, x1, x2, x3, x4, x5, x6, x7⟩⟩ := hLast
        have HR3 := hid (HR.out.below HZ.out)
        have HB3 := hid (HB.out.trans (HZ.out.mono HB.out.size))
        clear HN HX HO
        go_wp2
        go_roundw
        case rel => exact ⟨i + 1, nx, by omega, by go_num, HR3.out, HB3.out, HN2.out, HV.out⟩
        case measure => simp [intOf]; omega
    · obtain rfl : i = n := by omega
      have HQ : Hid (CRow wr w.heap.size (.slice A9 nx.length c9) (fromL d c)) := by
        have h1 := HN.out.1
        rw [List.take_of_length_le (by rw [HLd.out]; exact Nat.le_refl _)] at h1
        rw [← h1]
        exact HR.out.le (Nat.le_of_lt HW0.out.2.2)
      clear HN HR
      go_wp2
      go_ret
      exact ⟨_, rfl, HQ.out, HV.out, HBw.out⟩


theorem bytesL_take {d : List CT} {i : Nat} {x : CT} (hx : d[i]? = some x) : bytesL (d.take (i + 1)) = bytesL (d.take i) + encL x := by
  rw [take_next hx, bytesL_app]
  rfl
set_option maxHeartbeats 8000000 in
set_option maxRecDepth 100000 in
theorem refbytes_any (B rb : Nat) (v : Value) (d : List CT) (w : World) (h : RfS w B rb v d) (hok : ∀ x ∈ d, x.ok = true) (hlen : d.length ≤ 1000) :
    Calls Tryd.prog 44 #[.pointer (some ⟨rb, 0, none⟩)] w fun e w' => e = .returned (.int .i64 (bytesL d : Int)) ∧ Below w.heap.size w w' := by
  have mixed : Tryd.prog.follows .mixedOrders = true := by kernel_rfl
  have HEn : Hid (∀ x ∈ d, ∀ W, Calls Tryd.prog 53 #[x.v] W fun e w' => ∃ g cap, e = .returned (.tuple #[.slice (some ⟨g, 0, none⟩) (encL x) cap, .bool true]) ∧ Below W.heap.size W w') := fun x hx W => refE_yes x (hok x hx) (h.sm x hx).1 (by have := (h.sm x hx).2.2.2.2; omega) W
  have HEl : Hid (∀ x ∈ d, encL x ≤ 3000) := fun x hx => encL_le (hok x hx) (by have := (h.sm x hx).2.2.2.2; omega)
  clear hok
  have HK := hid h.row.cla
  have HG := hid h.blk
  have HSm := hid h.sm
  have hrb : rb < w.heap.size := h.blk.lt
  obtain ⟨A, cc, rfl, hc1, hc2, hh⟩ := HK.out
  have HH := hid hh
  clear hh HK h
  obtain ⟨n, hn⟩ : ∃ n, d.length = n := ⟨_, rfl⟩
  have HLd := hid hn
  rw [hn] at hc1 hlen HG
  clear hn
  go_enter Tryd.func44, Tryd.ntmps44
  go_wp2
  go_loopw [3, 4] (fun vs vi wr => ∃ i s : Nat, i ≤ n ∧ vi = .int .i64 i ∧ vs = .int .i64 s ∧ s ≤ 3000 * i ∧ Hid (Below w.heap.size w wr) ∧ Hid (s = bytesL (d.take i))) (fun _ vi _ => n - (intOf vi).toNat)
  case atStart => exact ⟨0, 0, Nat.zero_le _, rfl, rfl, Nat.zero_le _, Below.refl _ _, rfl⟩
  case round =>
    obtain ⟨i, s, hi, rfl, rfl, hs, HB, HN⟩ := hrel
    have r0 : wr.cell? ⟨rb, 0, none⟩ = some (.slice A n cc) := (HG.out.keep HB.out hrb).cell 0
    by_cases hlt : i < n
    · have hin : i < d.length := by rw [HLd.out]; exact hlt
      have hltz : (i : Int) < (n : Int) := by omega
      obtain ⟨b, off, rfl, hhc⟩ := HH.out (by rw [HLd.out]; omega)
      have hbw : b < w.heap.size := hhc.lt (by rw [HLd.out]; omega)
      obtain ⟨x, hx⟩ : ∃ x, d[i]? = some x := ⟨_, List.getElem?_eq_getElem hin⟩
      have HX := hid hx
      obtain ⟨x0, x1, x2, x3, x4, x5, x6, x7⟩ := ct_words (hhc.below HB.out hbw) i hx
      have HEx := hid (HEn.out x (List.mem_of_getElem? hx))
      have hex : encL x ≤ 3000 := HEl.out x (List.mem_of_getElem? hx)
      obtain ⟨ex, he⟩ : ∃ ex, encL x = ex := ⟨_, rfl⟩
      have HN2 : Hid (s + ex = bytesL (d.take (i + 1))) := by
        show s + ex = _
        rw [bytesL_take hx, ← HN.out, he]
      rw [he] at HEx hex
      clear hhc hin hx he HN HX
      have hsum : (s : Int) + (ex : Int) ≤ 6000000 := by omega
      go_wp2_with (go_at_call 53; refine (HEx.out _).mono ?_; rintro e w6 ⟨g6, c6, rfl, hb6⟩; have HB6 := hid (HB.out.trans (hb6.mono HB.out.size)); clear hb6)
      go_roundw
      case rel => exact ⟨i + 1, s + ex, by omega, by go_num, by go_num, by omega, HB6.out, HN2.out⟩
      case measure => simp [intOf]; omega
    · obtain rfl : i = n := by omega
      have HQ : Hid (bytesL d = s) := by
        have h1 := HN.out
        rw [List.take_of_length_le (by rw [HLd.out]; exact Nat.le_refl _)] at h1
        exact h1.symm
      clear HN
      go_wp2
      go_ret
      exact ⟨by rw [HQ.out]; rfl, HB.out⟩

end Go.Proofs.YtdjaofbjmnmlbaaDoor
