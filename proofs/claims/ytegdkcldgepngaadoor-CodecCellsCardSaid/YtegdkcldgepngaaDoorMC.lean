/- Several texts in one: EC ED EE PCel. Conditions: as each theorem names them. -/
import Derived.Test.YtegdkcldgepngaaDoorEA
import Derived.Test.YtegdkcldgepngaaDoorMD
import Derived.Test.YtegdkcldgepngaaDoorCH
import Derived.Deep.RegionHeld3
import Derived.Deep.RegionLawGrows
import Derived.Test.YtegdkcldgepngaaDoorME
import Derived.Test.YtegdkcldgepngaaDoorSO
import Derived.Test.YtegdkcldgepngaaDoorMF
import Derived.Deep.QuietTactic
import Derived.BigQuiet
import Derived.Test.YtegdkcldgepngaaDoorMG
/- The document's Key of layer 3 at every cell. Conditions: the texts are short, as a law's cells are; the number is of 64 bits. -/
namespace Go.Proofs.YtegdkcldgepngaaDoor
open Go.RowKit

set_option maxHeartbeats 1000000 in
theorem refkey_no (r f q vs : ByteArray) (t k vk : Int) (vn : Int) (hf : f.size ≤ 9223372036854775807) (hv : vs.size ≤ 1000) (w : World) (hr : cRight r.data.toList f.data.toList q.data.toList t k vk vn vs.data.toList = false) :
    Calls Tryd.prog 12 #[cellV r f q t k vk vn vs] w fun e w' => e = .returned (.tuple #[.slice none 0 0, .bool false]) ∧ Below w.heap.size w w' := by
  have HR : Hid (∀ W, Below w.heap.size w W → Calls Tryd.prog 16 #[cellV r f q t k vk vn vs] W fun e w' => e = .returned (.bool false) ∧ Below w.heap.size w w') := fun W hW => by
    have := refcright_any r f q vs t k vk vn hf hv W
    rw [hr] at this
    exact this.mono fun e w' ⟨he, hb⟩ => ⟨he, hW.trans (hb.mono hW.size)⟩
  clear hr hf hv
  go_enter Tryd.func12, Tryd.ntmps12
  go_wp2_with (go_at_call 16; refine (HR.out _ (below_new _ _)).mono ?_; rintro e w1 ⟨rfl, hb⟩)
  go_ret2
  exact ⟨rfl, hb⟩

/-- append of bytes to a row of the call's own, as one step of a region that draws its order. -/
theorem step_append_bytes {ops : Array Oper} {o : Oper} {a : Act} {K : Act → World → Prop} {Q : Exit → Act → World → Prop} {E : Prop} (hgd : o.guard = Option.none) (s x : Operand)
    (ho : o.op = .call { callee := .builtin .append, args := #[s, x], argTypes := #[29, 29] })
    (w : World) (base : Nat) (v : Value) (l : List UInt8) (hs : a.eval s = v) (hown : Row w base v l)
    (ad : Addr) (m c : Nat) (news : List UInt8) (hm : news.length = m) (hx : a.eval x = .slice (some ad) m c) (hnews : ∀ j u, (bc news)[j]? = some u → w.cell? (ad.add j) = some u)
    (hlen : l.length + news.length ≤ 1000000) (hbase : base ≤ w.heap.size)
    (hK : ∀ v' w', Row w' base v' (l ++ news) → Below base w w' → K (a.put o.dst v') w') :
    if Region.wanted o (yielded ops a.tmps) = true then Oper.wp Tryd.prog o a w K Q else E := by
  have hw : Region.wanted o (yielded ops a.tmps) = true := by simp [Region.wanted, hgd]
  rw [if_pos hw]
  obtain ⟨i0, hi, hz0, hz1, hz2⟩ := info_parts info_u8
  subst hm
  obtain ⟨v', w', hrun, r1, r2, _⟩ := run_append_own (P := Tryd.prog) w base 29 o.type 5 i0 (.int .u8 0) 1 1 Tryd.underlying29 hi hz0 hz1 hz2 rfl (by decide) v l.length (bc l) hown ad news.length c (bc news) (by rw [bc_len]; omega) hnews (bc_one _) (by unfold maxLen; omega) (by omega) hbase
  unfold Oper.wp
  simp [execOp, ho, resolve, invoke, builtin, hs, hx, hrun, Result.andThen]
  refine hK v' w' ?_ ((Below.refl _ _).grown r2 hbase fun k hk => (World.ownsRow.lt hown k hk).1)
  unfold Row
  rw [bc_app, List.length_append]
  exact r1

/-- A cell in a block of the call's own. -/
abbrev OneC (w : World) (r f q vs : ByteArray) (t k vk vn : Int) (w' : World) : Prop :=
  Hid (Below w.heap.size w w' ∧ w.heap.size < w'.heap.size) ∧ w'.cell? ⟨w.heap.size, 0, none⟩ = some (.string r) ∧ w'.cell? ⟨w.heap.size, 1, none⟩ = some (.string f) ∧ w'.cell? ⟨w.heap.size, 2, none⟩ = some (.string q) ∧ w'.cell? ⟨w.heap.size, 3, none⟩ = some (.int .i64 t) ∧ w'.cell? ⟨w.heap.size, 4, none⟩ = some (.int .i64 k) ∧ w'.cell? ⟨w.heap.size, 5, none⟩ = some (.int .i64 vk) ∧ w'.cell? ⟨w.heap.size, 6, none⟩ = some (.int .i64 vn) ∧ w'.cell? ⟨w.heap.size, 7, none⟩ = some (.string vs)
theorem onec_to {w W W' : World} {r f q vs : ByteArray} {t k vk vn : Int} {B : Nat} (h : OneC w r f q vs t k vk vn W) (hb : Below B W W') (hB : w.heap.size < B) : OneC w r f q vs t k vk vn W' := by
  obtain ⟨hh, a0, a1, a2, a3, a4, a5, a6, a7⟩ := h
  obtain ⟨hbw, hz⟩ := hh.out
  have hc : ∀ o, W'.cell? ⟨w.heap.size, o, none⟩ = W.cell? ⟨w.heap.size, o, none⟩ := fun o => hb.cell (p := ⟨w.heap.size, o, none⟩) (show w.heap.size < B by omega)
  refine ⟨hid ⟨hbw.trans (hb.mono (by omega)), Nat.lt_of_lt_of_le hz hb.size⟩, ?_, ?_, ?_, ?_, ?_, ?_, ?_, ?_⟩ <;> (rw [hc]; assumption)
theorem onec_call {w W W' : World} {r f q vs : ByteArray} {t k vk vn : Int} (h : OneC w r f q vs t k vk vn W) (hb : Below W.heap.size W W') : OneC w r f q vs t k vk vn W' := onec_to h hb h.1.out.2
theorem onec_drew {w W : World} {r f q vs : ByteArray} {t k vk vn : Int} (h : OneC w r f q vs t k vk vn W) : OneC w r f q vs t k vk vn W.drew := by
  obtain ⟨hh, h⟩ := h
  exact ⟨hid ⟨hh.out.1.drew, hh.out.2⟩, h⟩
theorem escaped_at (s : ByteArray) (hs : s.size ≤ 1000) (W : World) :
    Calls Tryd.prog 35 #[.string s] W fun e w' => ∃ g c, e = .returned (.slice (some ⟨g, 0, none⟩) (esc s.data.toList ++ [0, 1]).length c) ∧ (Row w' W.heap.size (.slice (some ⟨g, 0, none⟩) (esc s.data.toList ++ [0, 1]).length c) (esc s.data.toList ++ [0, 1]) ∧ g < w'.heap.size ∧ ∀ j u, (bc (esc s.data.toList ++ [0, 1]))[j]? = some u → w'.cell? ((⟨g, 0, none⟩ : Addr).add j) = some u) ∧ Below W.heap.size W w' := by
  refine (refEscaped_any s hs W).mono fun e w' ⟨v, he, hR, hb⟩ => ?_
  obtain ⟨g, c, rfl, hg, hc⟩ := row_write hR (by simp)
  exact ⟨g, c, he, ⟨hR, hR.block_lt g rfl, hc⟩, hb⟩

theorem lit_cells (l : List UInt8) (W : World) : ∀ j u, (bc l)[j]? = some u → (W.alloc (.cells (bc l).toArray 5)).cell? ((⟨W.heap.size, 0, none⟩ : Addr).add j) = some u := blk_cells (Blk.new W 5 _)
theorem byte_cell (k : Int) (hk : 0 ≤ k ∧ k < 256) (W : World) : ∀ j u, (bc [UInt8.ofNat k.toNat])[j]? = some u → (W.alloc (.cells #[.int .u8 k] 5)).cell? ((⟨W.heap.size, 0, none⟩ : Addr).add j) = some u := by
  have h := lit_cells [UInt8.ofNat k.toNat] W
  have e : (bc [UInt8.ofNat k.toNat]).toArray = #[.int .u8 k] := by
    have : (((UInt8.ofNat k.toNat).toNat : Nat) : Int) = k := by rw [UInt8.toNat_ofNat']; omega
    simp only [bc, List.map_cons, List.map_nil, this]
  rwa [e] at h

set_option maxRecDepth 100000 in
set_option maxHeartbeats 4000000 in
theorem refkey_yes (r f q vs : ByteArray) (t k vk : Int) (vn : Int) (hr0 : r.size ≤ 1000) (hf0 : f.size ≤ 1000) (hq0 : q.size ≤ 1000) (hv : vs.size ≤ 1000) (w : World) (hr : cRight r.data.toList f.data.toList q.data.toList t k vk vn vs.data.toList = true) :
    Calls Tryd.prog 12 #[cellV r f q t k vk vn vs] w fun e w' => ∃ v, e = .returned (.tuple #[v, .bool true]) ∧ Row w' w.heap.size v (keyM r.data.toList f.data.toList q.data.toList t k) ∧ Below w.heap.size w w' := by
  have HR : Hid (∀ W, Calls Tryd.prog 16 #[cellV r f q t k vk vn vs] W fun e w' => e = .returned (.bool true) ∧ Below W.heap.size W w') := fun W => by
    have := refcright_any r f q vs t k vk vn (by omega) hv W
    rwa [hr] at this
  have HEr := hid (escaped_at r hr0)
  have HEf := hid (escaped_at f hf0)
  have HEq := hid (escaped_at q hq0)
  have Hr2 : Hid ((esc r.data.toList ++ [0, 1]).length ≤ 2002) := by have h1 := esc_len r.data.toList; have h2 : r.data.toList.length = r.size := (by simp); unfold Hid; rw [List.length_append]; simp only [List.length_cons, List.length_nil]; omega
  have Hf2 : Hid ((esc f.data.toList ++ [0, 1]).length ≤ 2002) := by have h1 := esc_len f.data.toList; have h2 : f.data.toList.length = f.size := (by simp); unfold Hid; rw [List.length_append]; simp only [List.length_cons, List.length_nil]; omega
  have Hq2 : Hid ((esc q.data.toList ++ [0, 1]).length ≤ 2002) := by have h1 := esc_len q.data.toList; have h2 : q.data.toList.length = q.size := (by simp); unfold Hid; rw [List.length_append]; simp only [List.length_cons, List.length_nil]; omega
  have HKM : Hid (keyM r.data.toList f.data.toList q.data.toList t k = (esc r.data.toList ++ [0, 1]) ++ ((esc f.data.toList ++ [0, 1]) ++ ((if k = 4 then [0, 0] else esc q.data.toList ++ [0, 1]) ++ tailM t k))) := by unfold Hid keyM midM; simp only [List.append_assoc]
  generalize esc r.data.toList ++ [0, 1] = lr at *
  generalize esc f.data.toList ++ [0, 1] = lf at *
  generalize esc q.data.toList ++ [0, 1] = lq at *
  clear hr0 hf0 hq0 hv
  obtain ⟨-, -, -, -, -, ht0, ht1, hk0, hk9, -, -, -⟩ := cright_parts hr
  have HK1 := hid (byte_cell (255 - k) (by omega))
  have hx : IntKind.u64.wrap (9223372036854775807 - IntKind.u64.wrap t) = ((9223372036854775807 - t).toNat : Int) := by
    rw [IntKind.wrap_u64, IntKind.wrap_u64]; omega
  have e12 : IntKind.i64.wrap (255 - k) = 255 - k := by rw [IntKind.wrap_i64]; omega
  have e13 : IntKind.u8.wrap (255 - k) = 255 - k := by rw [IntKind.wrap_u8]; omega
  have HTL : Hid (tailM t k = byW 8 (9223372036854775807 - t).toNat ++ [UInt8.ofNat (255 - k).toNat]) := rfl
  obtain ⟨u, hu⟩ : ∃ u : Nat, (9223372036854775807 - t).toNat = u := ⟨_, rfl⟩
  have hu64 : u < 18446744073709551616 := by omega
  rw [hu] at hx HTL
  have HE8 : Hid (∀ W, Calls Tryd.prog 36 #[.int .u64 (u : Int)] W fun e w' => e = .returned (.slice (some ⟨W.heap.size, 0, none⟩) 8 8) ∧ (∀ j x, (bc (byW 8 u))[j]? = some x → w'.cell? ((⟨W.heap.size, 0, none⟩ : Addr).add j) = some x) ∧ Below W.heap.size W w') := fun W =>
    (eight_any u hu64 W).mono fun e w' ⟨he, hB, hb⟩ => ⟨he, blk_cells hB, hb⟩
  have HL8 : Hid ((byW 8 u).length = 8) := byW_len _ _
  generalize byW 8 u = l8 at *
  clear hu hu64 ht0 ht1 hk0 hk9 hr
  have HB1 : Hid (∀ W1 : World, Below (w.alloc (.cells #[.string r, .string f, .string q, .int .i64 t, .int .i64 k, .int .i64 vk, .int .i64 vn, .string vs] 25)).heap.size (w.alloc (.cells #[.string r, .string f, .string q, .int .i64 t, .int .i64 k, .int .i64 vk, .int .i64 vn, .string vs] 25)) W1 → OneC w r f q vs t k vk vn W1) := fun W1 hb => by
    have hz : w.heap.size < W1.heap.size := Nat.lt_of_lt_of_le (by simp) hb.size
    have B1 : Blk W1 w.heap.size 25 #[.string r, .string f, .string q, .int .i64 t, .int .i64 k, .int .i64 vk, .int .i64 vn, .string vs] := (Blk.new w _ _).keep hb (by simp)
    exact ⟨hid ⟨(below_new _ _).trans (hb.mono (by simp)), hz⟩, B1.cell 0, B1.cell 1, B1.cell 2, B1.cell 3, B1.cell 4, B1.cell 5, B1.cell 6, B1.cell 7⟩
  go_enter Tryd.func12, Tryd.ntmps12
  go_upto_region 3 with (go_at_call 16; refine (HR.out _).mono ?_; rintro e W ⟨rfl, hb⟩)
  have HT := hid (HB1.out _ hb)
  clear HB1 hb HR
  obtain ⟨h0, g0, g1, g2, g3, g4, g5, g6, g7⟩ := HT.out
  go_region_held3 (fun W' => Hid (Below w.heap.size w W' ∧ w.heap.size < W'.heap.size) ∧ W'.cell? ⟨w.heap.size, 0, none⟩ = some (.string r) ∧ W'.cell? ⟨w.heap.size, 1, none⟩ = some (.string f) ∧ W'.cell? ⟨w.heap.size, 2, none⟩ = some (.string q) ∧ W'.cell? ⟨w.heap.size, 3, none⟩ = some (.int .i64 t) ∧ W'.cell? ⟨w.heap.size, 4, none⟩ = some (.int .i64 k) ∧ W'.cell? ⟨w.heap.size, 5, none⟩ = some (.int .i64 vk) ∧ W'.cell? ⟨w.heap.size, 6, none⟩ = some (.int .i64 vn) ∧ W'.cell? ⟨w.heap.size, 7, none⟩ = some (.string vs))
    (first | exact HT.out | exact onec_drew HT.out | exact onec_call (by assumption) hb1 | exact onec_call (by assumption) hb2 | exact onec_to (by assumption) hb4 (Nat.lt_succ_self _) | exact onec_drew (by assumption) | assumption)
    (first
      | (go_at_call 35; (with_reducible refine (HEr.out _).mono ?_); rintro e w5 ⟨p1, c1, rfl, hR1, hb1⟩)
      | (go_at_call 35; (with_reducible refine (HEf.out _).mono ?_); rintro e w6 ⟨p2, c2, rfl, hR2, hb2⟩)
      | (refine step_append_bytes rfl (.tmp 10) (.tmp 13) rfl _ (w.heap.size + 1) (.slice (some ⟨p1, 0, none⟩) lr.length c1) lr rfl ((hR1.1.keep hb2 (fun g hg => by simp [Value.ownBlock] at hg; have := hR1.2.1; omega)).le h0.out.2) ⟨p2, 0, none⟩ lf.length c2 lf rfl rfl hR2.2.2 (by have := Hr2.out; have := Hf2.out; omega) (by have h1 := h0.out.2; have h2 := hb1.size; have h3 := hb2.size; simp at *; omega) ?_; intro v2 w7 hR3 hb4))
  rename_i hLast
  have HL := hid hLast
  have HRw := hid hR3
  clear hLast hR3 hR1 hR2 hb1 hb2 hb4 HT h0 g0 g1 g2 g3 g4 g5 g6 g7 HEr HEf
  obtain ⟨h0, -, -, g2, g3, g4, -, -, -⟩ := HL.out
  by_cases hk4 : k = 4
  · have q0 : (k == 4) = true := by simpa using hk4
    have HK4 := hid hk4
    clear hk4
    have HC0 : Hid (∀ j u, (bc [0, 0])[j]? = some u → (w7.alloc (.cells #[.int .u8 0, .int .u8 0] 5)).cell? ((⟨w7.heap.size, 0, none⟩ : Addr).add j) = some u) := lit_cells [0, 0] w7
    clear g2 g3 HEq
    go_wp2_with (first
    | (at_builtin; refine wpList_append_bytes rfl (.tmp 18) (.tmp 19) rfl _ (w.heap.size + 1) v2 (lr ++ lf) rfl (HRw.out.alloc _) ⟨w7.heap.size, 0, none⟩ 2 2 [0, 0] rfl rfl HC0.out (by have := Hr2.out; have := Hf2.out; simp only [List.length_append, List.length_cons, List.length_nil]; omega) (by have h1 := h0.out.2; simp; omega) ?_; intro v3 w8 hR4 hb5; have h8 := onec_to (onec_call HL.out (below_new _ _)) hb5 (Nat.lt_succ_self _); have g3' : w8.cell? ⟨w.heap.size, 3, none⟩ = some (.int .i64 t) := h8.2.2.2.2.1)
    | (go_at_call 36; refine (HE8.out _).mono ?_; rintro e w9 ⟨rfl, hB8, hb6⟩)
    | (at_builtin; refine wpList_append_bytes rfl (.tmp 26) (.tmp 31) rfl _ (w.heap.size + 1) v3 _ rfl (hR4.keep hb6 hR4.block_lt) ⟨w8.heap.size, 0, none⟩ 8 8 l8 HL8.out rfl hB8 (by have := Hr2.out; have := Hf2.out; have := Hq2.out; have := HL8.out; simp only [List.length_append, List.length_cons, List.length_nil]; omega) (by have h1 := h8.1.out.2; have h2 := hb6.size; omega) ?_; intro v4 w10 hR5 hb7; have h10 := onec_to (onec_call h8 hb6) hb7 (Nat.lt_succ_self _); have g4' : w10.cell? ⟨w.heap.size, 4, none⟩ = some (.int .i64 k) := h10.2.2.2.2.2.1)
    | (at_builtin; refine wpList_append_bytes rfl (.tmp 33) (.tmp 38) rfl _ (w.heap.size + 1) v4 _ rfl (hR5.alloc _) ⟨w10.heap.size, 0, none⟩ 1 1 [UInt8.ofNat (255 - k).toNat] rfl rfl (HK1.out w10) (by have := Hr2.out; have := Hf2.out; have := Hq2.out; have := HL8.out; simp only [List.length_append, List.length_cons, List.length_nil]; omega) (by have h1 := h10.1.out.2; simp; omega) ?_; intro v5 w11 hR6 hb8; have h11 := onec_to (onec_call h10 (below_new _ _)) hb8 (Nat.lt_succ_self _)))
    go_ret2
    refine ⟨_, rfl, ?_, h11.1.out.1⟩
    rw [HKM.out, if_pos HK4.out, HTL.out]
    have := hR6.le (Nat.le_succ w.heap.size)
    show Row w11 w.heap.size v5 _
    simpa only [List.append_assoc] using this
  · have q0 : (k == 4) = false := by simpa using hk4
    clear g3
    go_wp2_with (first
    | (go_at_call 35; refine (HEq.out _).mono ?_; rintro e w6 ⟨p3, c3, rfl, hR3, hb3⟩)
    | (at_builtin; refine wpList_append_bytes rfl (.tmp 21) (.tmp 24) rfl _ (w.heap.size + 1) v2 (lr ++ lf) rfl (HRw.out.keep hb3 HRw.out.block_lt) ⟨p3, 0, none⟩ lq.length c3 lq rfl rfl hR3.2.2 (by have := Hr2.out; have := Hf2.out; have := Hq2.out; simp only [List.length_append]; omega) (by have h1 := h0.out.2; have h2 := hb3.size; omega) ?_; intro v3 w8 hR4 hb5; have h8 := onec_to (onec_call HL.out hb3) hb5 (Nat.lt_succ_self _); have g3' : w8.cell? ⟨w.heap.size, 3, none⟩ = some (.int .i64 t) := h8.2.2.2.2.1)
    | (go_at_call 36; refine (HE8.out _).mono ?_; rintro e w9 ⟨rfl, hB8, hb6⟩)
    | (at_builtin; refine wpList_append_bytes rfl (.tmp 26) (.tmp 31) rfl _ (w.heap.size + 1) v3 _ rfl (hR4.keep hb6 hR4.block_lt) ⟨w8.heap.size, 0, none⟩ 8 8 l8 HL8.out rfl hB8 (by have := Hr2.out; have := Hf2.out; have := Hq2.out; have := HL8.out; simp only [List.length_append]; omega) (by have h1 := h8.1.out.2; have h2 := hb6.size; omega) ?_; intro v4 w10 hR5 hb7; have h10 := onec_to (onec_call h8 hb6) hb7 (Nat.lt_succ_self _); have g4' : w10.cell? ⟨w.heap.size, 4, none⟩ = some (.int .i64 k) := h10.2.2.2.2.2.1)
    | (at_builtin; refine wpList_append_bytes rfl (.tmp 33) (.tmp 38) rfl _ (w.heap.size + 1) v4 _ rfl (hR5.alloc _) ⟨w10.heap.size, 0, none⟩ 1 1 [UInt8.ofNat (255 - k).toNat] rfl rfl (HK1.out w10) (by have := Hr2.out; have := Hf2.out; have := Hq2.out; have := HL8.out; simp only [List.length_append, List.length_cons, List.length_nil]; omega) (by have h1 := h10.1.out.2; simp; omega) ?_; intro v5 w11 hR6 hb8; have h11 := onec_to (onec_call h10 (below_new _ _)) hb8 (Nat.lt_succ_self _)))
    go_ret2
    refine ⟨_, rfl, ?_, h11.1.out.1⟩
    rw [HKM.out, if_neg hk4, HTL.out]
    have := hR6.le (Nat.le_succ w.heap.size)
    show Row w11 w.heap.size v5 _
    simpa only [List.append_assoc] using this
end Go.Proofs.YtegdkcldgepngaaDoor

/- The document's Encode of layer 3 at every cell. Conditions: the texts are short, as a law's cells are; the number is of 64 bits. -/
namespace Go.Proofs.YtegdkcldgepngaaDoor
open Go.RowKit

set_option maxRecDepth 100000 in
set_option maxHeartbeats 4000000 in
theorem refenc_no (r f q vs : ByteArray) (t k vk : Int) (vn : Int) (hf : f.size ≤ 9223372036854775807) (hv : vs.size ≤ 1000) (w : World) (hr : cRight r.data.toList f.data.toList q.data.toList t k vk vn vs.data.toList = false) :
    Calls Tryd.prog 14 #[cellV r f q t k vk vn vs] w fun e w' => e = .returned (.tuple #[.slice none 0 0, .bool false]) ∧ Below w.heap.size w w' := by
  have HK : Hid (∀ W, Below w.heap.size w W → Calls Tryd.prog 12 #[cellV r f q t k vk vn vs] W fun e w' => e = .returned (.tuple #[.slice none 0 0, .bool false]) ∧ Below w.heap.size w w') := fun W hW =>
    (refkey_no r f q vs t k vk vn hf hv W hr).mono fun e w' ⟨he, hb⟩ => ⟨he, hW.trans (hb.mono hW.size)⟩
  clear hr hf hv
  go_enter Tryd.func14, Tryd.ntmps14
  go_wp2_with (go_at_call 12; refine (HK.out _ (below_new _ _)).mono ?_; rintro e w1 ⟨rfl, hb⟩)
  go_ret2
  exact ⟨rfl, hb⟩

set_option maxRecDepth 100000 in
set_option maxHeartbeats 4000000 in
theorem refenc_yes (r f q vs : ByteArray) (t k vk : Int) {vn : Int} (hn : inI vn) (hr0 : r.size ≤ 1000) (hf0 : f.size ≤ 1000) (hq0 : q.size ≤ 1000) (hv : vs.size ≤ 1000) (w : World) (hr : cRight r.data.toList f.data.toList q.data.toList t k vk vn vs.data.toList = true) :
    Calls Tryd.prog 14 #[cellV r f q t k vk vn vs] w fun e w' => ∃ v, e = .returned (.tuple #[v, .bool true]) ∧ Row w' w.heap.size v (cEnc r.data.toList f.data.toList q.data.toList t k vk vn vs.data.toList) ∧ Below w.heap.size w w' := by
  have HB1 : Hid (∀ W1 : World, Below (w.alloc (.cells #[.string r, .string f, .string q, .int .i64 t, .int .i64 k, .int .i64 vk, .int .i64 vn, .string vs] 25)).heap.size (w.alloc (.cells #[.string r, .string f, .string q, .int .i64 t, .int .i64 k, .int .i64 vk, .int .i64 vn, .string vs] 25)) W1 → OneC w r f q vs t k vk vn W1) := fun W1 hb => by
    have hz : w.heap.size < W1.heap.size := Nat.lt_of_lt_of_le (by simp) hb.size
    have B1 : Blk W1 w.heap.size 25 #[.string r, .string f, .string q, .int .i64 t, .int .i64 k, .int .i64 vk, .int .i64 vn, .string vs] := (Blk.new w _ _).keep hb (by simp)
    exact ⟨hid ⟨(below_new _ _).trans (hb.mono (by simp)), hz⟩, B1.cell 0, B1.cell 1, B1.cell 2, B1.cell 3, B1.cell 4, B1.cell 5, B1.cell 6, B1.cell 7⟩
  have HK : Hid (∀ W, Calls Tryd.prog 12 #[cellV r f q t k vk vn vs] W fun e w' => ∃ v, e = .returned (.tuple #[v, .bool true]) ∧ Row w' W.heap.size v (keyM r.data.toList f.data.toList q.data.toList t k) ∧ Below W.heap.size W w') := fun W => refkey_yes r f q vs t k vk vn hr0 hf0 hq0 hv W hr
  have hlen : (keyM r.data.toList f.data.toList q.data.toList t k).length ≤ 7000 := by
    have h1 := esc_len r.data.toList; have h2 : r.data.toList.length = r.size := (by simp)
    have h3 := esc_len f.data.toList; have h4 : f.data.toList.length = f.size := (by simp)
    have h5 := esc_len q.data.toList; have h6 : q.data.toList.length = q.size := (by simp)
    unfold keyM midM
    split <;> (simp only [List.length_append, List.length_cons, List.length_nil, tail_len]; omega)
  obtain ⟨-, -, -, -, -, -, -, -, -, -, hvr, -⟩ := cright_parts hr
  unfold cEnc
  generalize keyM r.data.toList f.data.toList q.data.toList t k = lk at *
  have HLK := hid hlen
  clear hlen hr
  by_cases h1 : k = 1
  · have q0 : (k == 1) = true := by simpa using h1
    rw [if_pos h1]
    have hvr := hvr h1
    have HE : Hid (∀ W, Calls Tryd.prog 39 #[.agg #[.int .i64 vk, .int .i64 vn, .string vs]] W fun e w' => ∃ g c, e = .returned (.tuple #[.slice (some ⟨g, 0, none⟩) (vEnc vk vn vs.data.toList).length c, .bool true]) ∧ (∀ j u, (bc (vEnc vk vn vs.data.toList))[j]? = some u → w'.cell? ((⟨g, 0, none⟩ : Addr).add j) = some u) ∧ Below W.heap.size W w') := fun W => by
      refine (refEncode_yes vk hn vs hv hvr W).mono fun e w' ⟨v, he, hR, hb⟩ => ?_
      obtain ⟨g, c, rfl, hg, hc⟩ := row_write hR (by have := enc_two hvr; omega)
      exact ⟨g, c, he, hc, hb⟩
    have HLE : Hid ((vEnc vk vn vs.data.toList).length ≤ 10000) := by
      unfold Hid vEnc vBody
      have h1 := esc_len vs.data.toList; have h2 : vs.data.toList.length = vs.size := (by simp)
      simp only [List.length_cons]
      repeat' split
      all_goals (simp only [List.length_append, List.length_cons, List.length_nil, byW_len]; omega)
    generalize vEnc vk vn vs.data.toList = le at *
    have H1 := hid h1
    clear h1 hr0 hf0 hq0 hv hvr hn
    go_enter Tryd.func14, Tryd.ntmps14
    go_wp2_with (first
      | (go_at_call 12; refine (HK.out _).mono ?_; rintro e w1 ⟨v, rfl, hR, hb⟩; have h1 := HB1.out _ hb; have h0 := h1.1; have g4 : w1.cell? ⟨w.heap.size, 4, none⟩ = some (.int .i64 k) := h1.2.2.2.2.2.1; have g5 : w1.cell? ⟨w.heap.size, 5, none⟩ = some (.int .i64 vk) := h1.2.2.2.2.2.2.1; have g6 : w1.cell? ⟨w.heap.size, 6, none⟩ = some (.int .i64 vn) := h1.2.2.2.2.2.2.2.1; have g7 : w1.cell? ⟨w.heap.size, 7, none⟩ = some (.string vs) := h1.2.2.2.2.2.2.2.2)
      | (go_at_call 39; refine (HE.out _).mono ?_; rintro e w2 ⟨p2, c2, rfl, hR2, hb2⟩)
      | (at_builtin; refine wpList_append_bytes rfl (.tmp 25) (.tmp 26) rfl _ (w.heap.size + 1) v lk rfl ((hR.le (by simp)).keep hb2 hR.block_lt) ⟨p2, 0, none⟩ le.length c2 le rfl rfl hR2 (by have := HLK.out; have := HLE.out; omega) (by have h1 := h0.out.2; have h2 := hb2.size; omega) ?_; intro v3 w3 hR3 hb3; have h9 := onec_to (onec_call h1 hb2) hb3 (Nat.lt_succ_self _)))
    go_ret2
    exact ⟨_, rfl, hR3.le (Nat.le_succ _), h9.1.out.1⟩
  · have q0 : (k == 1) = false := by simpa using h1
    rw [if_neg h1, List.append_nil]
    have H1 := hid h1
    clear h1 hr0 hf0 hq0 hv hvr hn
    go_enter Tryd.func14, Tryd.ntmps14
    go_wp2_with (go_at_call 12; refine (HK.out _).mono ?_; rintro e w1 ⟨v, rfl, hR, hb⟩; have h1 := HB1.out _ hb; have g4 : w1.cell? ⟨w.heap.size, 4, none⟩ = some (.int .i64 k) := h1.2.2.2.2.2.1)
    go_ret2
    exact ⟨_, rfl, hR.le (by simp), h1.1.out.1⟩
end Go.Proofs.YtegdkcldgepngaaDoor

/- The law CodecCells at every two cells: true. Conditions: the texts are no longer than any are, the numbers of the values of 64 bits; the tables of utf8 read as they are laid. -/
namespace Go.Proofs.YtegdkcldgepngaaDoor
open Go.RowKit

abbrev FourC (w : World) (r f q vs : ByteArray) (t k vk vn : Int) (r2 f2 q2 vs2 : ByteArray) (t2 k2 vk2 vn2 : Int) (v1 v2 v3 v4 : Value) (lk le : List UInt8) (W : World) : Prop := Hid ((TwoB w W (w.heap.size + 1) #[.string r, .string f, .string q, .int .i64 t, .int .i64 k, .int .i64 vk, .int .i64 vn, .string vs] #[.string r2, .string f2, .string q2, .int .i64 t2, .int .i64 k2, .int .i64 vk2, .int .i64 vn2, .string vs2] ∧ SlA W v1 lk ∧ SlA W v2 lk) ∧ SlA W v3 le ∧ SlA W v4 le) ∧ W.cell? ⟨w.heap.size, 0, none⟩ = some (.string r) ∧ W.cell? ⟨w.heap.size, 1, none⟩ = some (.string f) ∧ W.cell? ⟨w.heap.size, 2, none⟩ = some (.string q) ∧ W.cell? ⟨w.heap.size, 3, none⟩ = some (.int .i64 t) ∧ W.cell? ⟨w.heap.size, 4, none⟩ = some (.int .i64 k) ∧ W.cell? ⟨w.heap.size, 5, none⟩ = some (.int .i64 vk) ∧ W.cell? ⟨w.heap.size, 6, none⟩ = some (.int .i64 vn) ∧ W.cell? ⟨w.heap.size, 7, none⟩ = some (.string vs) ∧ W.cell? ⟨(w.heap.size + 1), 0, none⟩ = some (.string r2) ∧ W.cell? ⟨(w.heap.size + 1), 1, none⟩ = some (.string f2) ∧ W.cell? ⟨(w.heap.size + 1), 2, none⟩ = some (.string q2) ∧ W.cell? ⟨(w.heap.size + 1), 3, none⟩ = some (.int .i64 t2) ∧ W.cell? ⟨(w.heap.size + 1), 4, none⟩ = some (.int .i64 k2) ∧ W.cell? ⟨(w.heap.size + 1), 5, none⟩ = some (.int .i64 vk2) ∧ W.cell? ⟨(w.heap.size + 1), 6, none⟩ = some (.int .i64 vn2) ∧ W.cell? ⟨(w.heap.size + 1), 7, none⟩ = some (.string vs2)
section
variable {w W W' : World} {r f q vs r2 f2 q2 vs2 : ByteArray} {t k vk vn t2 k2 vk2 vn2 : Int} {v1 v2 v3 v4 : Value} {lk le : List UInt8}
theorem fourc_mk (h : TwoB w W (w.heap.size + 1) #[.string r, .string f, .string q, .int .i64 t, .int .i64 k, .int .i64 vk, .int .i64 vn, .string vs] #[.string r2, .string f2, .string q2, .int .i64 t2, .int .i64 k2, .int .i64 vk2, .int .i64 vn2, .string vs2]) (h1 : SlA W v1 lk) (h2 : SlA W v2 lk) (h3 : SlA W v3 le) (h4 : SlA W v4 le) : FourC w r f q vs t k vk vn r2 f2 q2 vs2 t2 k2 vk2 vn2 v1 v2 v3 v4 lk le W :=
  ⟨hid ⟨⟨h, h1, h2⟩, h3, h4⟩, h.c.cell 0, h.c.cell 1, h.c.cell 2, h.c.cell 3, h.c.cell 4, h.c.cell 5, h.c.cell 6, h.c.cell 7, h.d.cell 0, h.d.cell 1, h.d.cell 2, h.d.cell 3, h.d.cell 4, h.d.cell 5, h.d.cell 6, h.d.cell 7⟩
theorem fourc_call (h : FourC w r f q vs t k vk vn r2 f2 q2 vs2 t2 k2 vk2 vn2 v1 v2 v3 v4 lk le W) (hb : Below W.heap.size W W') : FourC w r f q vs t k vk vn r2 f2 q2 vs2 t2 k2 vk2 vn2 v1 v2 v3 v4 lk le W' := by
  obtain ⟨⟨a, b, c⟩, d, e⟩ := h.1.out
  exact fourc_mk (a.below hb) (b.below hb) (c.below hb) (d.below hb) (e.below hb)
theorem fourc_drew (h : FourC w r f q vs t k vk vn r2 f2 q2 vs2 t2 k2 vk2 vn2 v1 v2 v3 v4 lk le W) : FourC w r f q vs t k vk vn r2 f2 q2 vs2 t2 k2 vk2 vn2 v1 v2 v3 v4 lk le W.drew := by
  obtain ⟨⟨a, b, c⟩, d, e⟩ := h.1.out
  exact fourc_mk ⟨a.c, a.d, a.bw.drew⟩ b c d e
end

set_option maxRecDepth 100000 in
set_option maxHeartbeats 8000000 in
theorem ccells_main (r f q vs : ByteArray) (t k vk vn : Int) (r2 f2 q2 vs2 : ByteArray) (t2 k2 vk2 vn2 : Int) (w : World) (lo b : Bool) (lk le : List UInt8) (o : Int)
    (hlo : ∀ (W : World), Calls Tryd.prog 10 #[.slice (some ⟨W.heap.size, 0, none⟩) 2 2] (W.alloc (.cells #[.string r, .string f, .string q, .int .i64 t, .int .i64 k, .int .i64 vk, .int .i64 vn, .string vs, .string r2, .string f2, .string q2, .int .i64 t2, .int .i64 k2, .int .i64 vk2, .int .i64 vn2, .string vs2] 25)) fun e w' => e = .returned (.bool lo) ∧ Below (W.alloc (.cells #[.string r, .string f, .string q, .int .i64 t, .int .i64 k, .int .i64 vk, .int .i64 vn, .string vs, .string r2, .string f2, .string q2, .int .i64 t2, .int .i64 k2, .int .i64 vk2, .int .i64 vn2, .string vs2] 25)).heap.size (W.alloc (.cells #[.string r, .string f, .string q, .int .i64 t, .int .i64 k, .int .i64 vk, .int .i64 vn, .string vs, .string r2, .string f2, .string q2, .int .i64 t2, .int .i64 k2, .int .i64 vk2, .int .i64 vn2, .string vs2] 25)) w')
    (ha : ∀ W, Below w.heap.size w W → Calls Tryd.prog 9 #[] W fun e w' => e = .returned (.bool true) ∧ Below W.heap.size W w')
    (hk : lo = true ∨ (lo = false ∧ (lk.length ≤ 1000000 ∧ le.length ≤ 1000000) ∧
      (∀ W, Below w.heap.size w W → Calls Tryd.prog 15 #[cellV r f q t k vk vn vs] W fun e w' => e = .returned (.bool b) ∧ Below W.heap.size W w') ∧ (∀ W, Calls Tryd.prog 16 #[cellV r f q t k vk vn vs] W fun e w' => e = .returned (.bool b) ∧ Below W.heap.size W w') ∧
      (∀ W, Calls Tryd.prog 17 #[cellV r f q t k vk vn vs, cellV r2 f2 q2 t2 k2 vk2 vn2 vs2] W fun e w' => e = .returned (.int .i64 o) ∧ Below W.heap.size W w') ∧ (∀ W, Calls Tryd.prog 18 #[cellV r f q t k vk vn vs, cellV r2 f2 q2 t2 k2 vk2 vn2 vs2] W fun e w' => e = .returned (.int .i64 o) ∧ Below W.heap.size W w') ∧
      (∀ W, Below w.heap.size w W → Calls Tryd.prog 11 #[cellV r f q t k vk vn vs] W fun e w' => ∃ v, e = .returned (.tuple #[v, .bool b]) ∧ SlA w' v lk ∧ Below W.heap.size W w') ∧ (∀ W, Calls Tryd.prog 12 #[cellV r f q t k vk vn vs] W fun e w' => ∃ v, e = .returned (.tuple #[v, .bool b]) ∧ SlA w' v lk ∧ Below W.heap.size W w') ∧ (∀ W, Below w.heap.size w W → Calls Tryd.prog 13 #[cellV r f q t k vk vn vs] W fun e w' => ∃ v, e = .returned (.tuple #[v, .bool b]) ∧ SlA w' v le ∧ Below W.heap.size W w') ∧ (∀ W, Calls Tryd.prog 14 #[cellV r f q t k vk vn vs] W fun e w' => ∃ v, e = .returned (.tuple #[v, .bool b]) ∧ SlA w' v le ∧ Below W.heap.size W w')))
    : Calls Tryd.prog 3 #[cellV r f q t k vk vn vs, cellV r2 f2 q2 t2 k2 vk2 vn2 vs2] w fun e w' => e = .returned (.bool true) ∧ Below w.heap.size w w' := by
  have HA := hid ha
  have HLo := hid hlo
  have HK := hid hk
  clear ha hlo hk
  go_enter Tryd.func3, Tryd.ntmps3
  go_upto_region 3 with (go_at_call 9; refine (HA.out _ ((below_new _ _).alloc (by simp) _)).mono ?_; rintro e w1 ⟨rfl, hb1⟩)
  refine wp_ltr (fun W => TwoS w (w.heap.size + 1) r f q vs t k vk vn r2 f2 q2 vs2 t2 k2 vk2 vn2 W) ?_ (fun W2 hW2 => ?_)
  · have B0 : Blk (w.alloc (.cells #[.string r, .string f, .string q, .int .i64 t, .int .i64 k, .int .i64 vk, .int .i64 vn, .string vs] 25)) w.heap.size 25 #[.string r, .string f, .string q, .int .i64 t, .int .i64 k, .int .i64 vk, .int .i64 vn, .string vs] := Blk.new w _ _
    have B1 := B0.keep (below_new _ (.cells #[.string r2, .string f2, .string q2, .int .i64 t2, .int .i64 k2, .int .i64 vk2, .int .i64 vn2, .string vs2] 25)) (by simp)
    have B2 : Blk ((w.alloc (.cells #[.string r, .string f, .string q, .int .i64 t, .int .i64 k, .int .i64 vk, .int .i64 vn, .string vs] 25)).alloc (.cells #[.string r2, .string f2, .string q2, .int .i64 t2, .int .i64 k2, .int .i64 vk2, .int .i64 vn2, .string vs2] 25)) (w.heap.size + 1) 25 #[.string r2, .string f2, .string q2, .int .i64 t2, .int .i64 k2, .int .i64 vk2, .int .i64 vn2, .string vs2] := by have := Blk.new (w.alloc (.cells #[.string r, .string f, .string q, .int .i64 t, .int .i64 k, .int .i64 vk, .int .i64 vn, .string vs] 25)) 25 #[.string r2, .string f2, .string q2, .int .i64 t2, .int .i64 k2, .int .i64 vk2, .int .i64 vn2, .string vs2]; simpa using this
    exact twos_of ((⟨B1, B2, (below_new w _).alloc (by simp) _⟩ : TwoB w _ (w.heap.size + 1) #[.string r, .string f, .string q, .int .i64 t, .int .i64 k, .int .i64 vk, .int .i64 vn, .string vs] #[.string r2, .string f2, .string q2, .int .i64 t2, .int .i64 k2, .int .i64 vk2, .int .i64 vn2, .string vs2]).below hb1)
  clear hb1
  obtain ⟨HT2, c0, c1, c2, c3, c4, c5, c6, c7, d0, d1, d2, d3, d4, d5, d6, d7⟩ := hW2
  have HT3 : Hid (∀ w3, Below (W2.alloc (.cells #[.string r, .string f, .string q, .int .i64 t, .int .i64 k, .int .i64 vk, .int .i64 vn, .string vs, .string r2, .string f2, .string q2, .int .i64 t2, .int .i64 k2, .int .i64 vk2, .int .i64 vn2, .string vs2] 25)).heap.size (W2.alloc (.cells #[.string r, .string f, .string q, .int .i64 t, .int .i64 k, .int .i64 vk, .int .i64 vn, .string vs, .string r2, .string f2, .string q2, .int .i64 t2, .int .i64 k2, .int .i64 vk2, .int .i64 vn2, .string vs2] 25)) w3 → TwoB w w3 (w.heap.size + 1) #[.string r, .string f, .string q, .int .i64 t, .int .i64 k, .int .i64 vk, .int .i64 vn, .string vs] #[.string r2, .string f2, .string q2, .int .i64 t2, .int .i64 k2, .int .i64 vk2, .int .i64 vn2, .string vs2]) := fun w3 h => (HT2.out.below (below_new _ _)).below h
  rcases HK.out with rfl | ⟨rfl, hlen, hR1, hR2, hO1, hO2, hK1, hK2, hE1, hE2⟩
  · clear HK
    go_wp2_with (go_at_call 10; refine (HLo.out _).mono ?_; rintro e w3 ⟨rfl, hb3⟩; have HB3 := hid (HT3.out w3 hb3))
    go_ret
    exact ⟨rfl, HB3.out.bw⟩
  clear HK
  have HR1 := hid hR1; have HR2 := hid hR2; have HO1 := hid hO1; have HO2 := hid hO2; have HK1 := hid hK1; have HK2 := hid hK2; have HE1 := hid hE1; have HE2 := hid hE2; have HLn := hid hlen
  clear hR1 hR2 hO1 hO2 hK1 hK2 hE1 hE2 hlen
  go_upto_region 9 with (first
    | (go_at_call 10; refine (HLo.out _).mono ?_; rintro e w3 ⟨rfl, hb3⟩; have HB3 := hid (HT3.out w3 hb3); have e0 : w3.cell? ⟨w.heap.size, 0, none⟩ = some (.string r) := HB3.out.c.cell 0; have e1 : w3.cell? ⟨w.heap.size, 1, none⟩ = some (.string f) := HB3.out.c.cell 1; have e2 : w3.cell? ⟨w.heap.size, 2, none⟩ = some (.string q) := HB3.out.c.cell 2; have e3 : w3.cell? ⟨w.heap.size, 3, none⟩ = some (.int .i64 t) := HB3.out.c.cell 3; have e4 : w3.cell? ⟨w.heap.size, 4, none⟩ = some (.int .i64 k) := HB3.out.c.cell 4; have e5 : w3.cell? ⟨w.heap.size, 5, none⟩ = some (.int .i64 vk) := HB3.out.c.cell 5; have e6 : w3.cell? ⟨w.heap.size, 6, none⟩ = some (.int .i64 vn) := HB3.out.c.cell 6; have e7 : w3.cell? ⟨w.heap.size, 7, none⟩ = some (.string vs) := HB3.out.c.cell 7)
    | (go_at_call 11; refine (HK1.out w3 HB3.out.bw).mono ?_; rintro e w4 ⟨v1, rfl, hs1, hb4⟩; have HB4 := hid (HB3.out.below hb4); have g0 : w4.cell? ⟨w.heap.size, 0, none⟩ = some (.string r) := HB4.out.c.cell 0; have g1 : w4.cell? ⟨w.heap.size, 1, none⟩ = some (.string f) := HB4.out.c.cell 1; have g2 : w4.cell? ⟨w.heap.size, 2, none⟩ = some (.string q) := HB4.out.c.cell 2; have g3 : w4.cell? ⟨w.heap.size, 3, none⟩ = some (.int .i64 t) := HB4.out.c.cell 3; have g4 : w4.cell? ⟨w.heap.size, 4, none⟩ = some (.int .i64 k) := HB4.out.c.cell 4; have g5 : w4.cell? ⟨w.heap.size, 5, none⟩ = some (.int .i64 vk) := HB4.out.c.cell 5; have g6 : w4.cell? ⟨w.heap.size, 6, none⟩ = some (.int .i64 vn) := HB4.out.c.cell 6; have g7 : w4.cell? ⟨w.heap.size, 7, none⟩ = some (.string vs) := HB4.out.c.cell 7)
    | (go_at_call 12; refine (HK2.out w4).mono ?_; rintro e w5 ⟨v2, rfl, hs2, hb5⟩; have HB5 := hid (HB4.out.below hb5); have hs1' := hs1.below hb5; have i0 : w5.cell? ⟨w.heap.size, 0, none⟩ = some (.string r) := HB5.out.c.cell 0; have i1 : w5.cell? ⟨w.heap.size, 1, none⟩ = some (.string f) := HB5.out.c.cell 1; have i2 : w5.cell? ⟨w.heap.size, 2, none⟩ = some (.string q) := HB5.out.c.cell 2; have i3 : w5.cell? ⟨w.heap.size, 3, none⟩ = some (.int .i64 t) := HB5.out.c.cell 3; have i4 : w5.cell? ⟨w.heap.size, 4, none⟩ = some (.int .i64 k) := HB5.out.c.cell 4; have i5 : w5.cell? ⟨w.heap.size, 5, none⟩ = some (.int .i64 vk) := HB5.out.c.cell 5; have i6 : w5.cell? ⟨w.heap.size, 6, none⟩ = some (.int .i64 vn) := HB5.out.c.cell 6; have i7 : w5.cell? ⟨w.heap.size, 7, none⟩ = some (.string vs) := HB5.out.c.cell 7)
    | (go_at_call 13; refine (HE1.out w5 HB5.out.bw).mono ?_; rintro e w6 ⟨v3, rfl, hs3, hb6⟩; have HB6 := hid (HB5.out.below hb6); have j0 : w6.cell? ⟨w.heap.size, 0, none⟩ = some (.string r) := HB6.out.c.cell 0; have j1 : w6.cell? ⟨w.heap.size, 1, none⟩ = some (.string f) := HB6.out.c.cell 1; have j2 : w6.cell? ⟨w.heap.size, 2, none⟩ = some (.string q) := HB6.out.c.cell 2; have j3 : w6.cell? ⟨w.heap.size, 3, none⟩ = some (.int .i64 t) := HB6.out.c.cell 3; have j4 : w6.cell? ⟨w.heap.size, 4, none⟩ = some (.int .i64 k) := HB6.out.c.cell 4; have j5 : w6.cell? ⟨w.heap.size, 5, none⟩ = some (.int .i64 vk) := HB6.out.c.cell 5; have j6 : w6.cell? ⟨w.heap.size, 6, none⟩ = some (.int .i64 vn) := HB6.out.c.cell 6; have j7 : w6.cell? ⟨w.heap.size, 7, none⟩ = some (.string vs) := HB6.out.c.cell 7)
    | (go_at_call 14; refine (HE2.out w6).mono ?_; rintro e w7 ⟨v4, rfl, hs4, hb7⟩; have HF := hid (fourc_mk (HB6.out.below hb7) ((hs1'.below hb6).below hb7) ((hs2.below hb6).below hb7) (hs3.below hb7) hs4)))
  have HS1 : Hid (∀ W, FourC w r f q vs t k vk vn r2 f2 q2 vs2 t2 k2 vk2 vn2 v1 v2 v3 v4 lk le W → Calls Tryd.prog 19 #[v1, v2] W fun e w' => e = .returned (.bool true) ∧ Below W.heap.size W w') := fun W hW => by
    have := same_sla v1 v2 lk lk HLn.out.1 W hW.1.out.1.2.1 hW.1.out.1.2.2
    rwa [decide_eq_true rfl] at this
  have HS2 : Hid (∀ W, FourC w r f q vs t k vk vn r2 f2 q2 vs2 t2 k2 vk2 vn2 v1 v2 v3 v4 lk le W → Calls Tryd.prog 19 #[v3, v4] W fun e w' => e = .returned (.bool true) ∧ Below W.heap.size W w') := fun W hW => by
    have := same_sla v3 v4 le le HLn.out.2 W hW.1.out.2.1 hW.1.out.2.2
    rwa [decide_eq_true rfl] at this
  clear HT2 HT3 HB3 HB4 HB5 HB6 HLo HA HK1 HK2 HE1 HE2 HLn hb3 hb4 hb5 hb6 hb7 hs1 hs1' hs2 hs3 hs4 c0 c1 c2 c3 c4 c5 c6 c7 d0 d1 d2 d3 d4 d5 d6 d7 e0 e1 e2 e3 e4 e5 e6 e7 g0 g1 g2 g3 g4 g5 g6 g7 i0 i1 i2 i3 i4 i5 i6 i7 j0 j1 j2 j3 j4 j5 j6 j7
  obtain ⟨_, c0, c1, c2, c3, c4, c5, c6, c7, d0, d1, d2, d3, d4, d5, d6, d7⟩ := HF.out
  go_region_held3 (fun W => Hid ((TwoB w W (w.heap.size + 1) #[.string r, .string f, .string q, .int .i64 t, .int .i64 k, .int .i64 vk, .int .i64 vn, .string vs] #[.string r2, .string f2, .string q2, .int .i64 t2, .int .i64 k2, .int .i64 vk2, .int .i64 vn2, .string vs2] ∧ SlA W v1 lk ∧ SlA W v2 lk) ∧ SlA W v3 le ∧ SlA W v4 le) ∧ W.cell? ⟨w.heap.size, 0, none⟩ = some (.string r) ∧ W.cell? ⟨w.heap.size, 1, none⟩ = some (.string f) ∧ W.cell? ⟨w.heap.size, 2, none⟩ = some (.string q) ∧ W.cell? ⟨w.heap.size, 3, none⟩ = some (.int .i64 t) ∧ W.cell? ⟨w.heap.size, 4, none⟩ = some (.int .i64 k) ∧ W.cell? ⟨w.heap.size, 5, none⟩ = some (.int .i64 vk) ∧ W.cell? ⟨w.heap.size, 6, none⟩ = some (.int .i64 vn) ∧ W.cell? ⟨w.heap.size, 7, none⟩ = some (.string vs) ∧ W.cell? ⟨(w.heap.size + 1), 0, none⟩ = some (.string r2) ∧ W.cell? ⟨(w.heap.size + 1), 1, none⟩ = some (.string f2) ∧ W.cell? ⟨(w.heap.size + 1), 2, none⟩ = some (.string q2) ∧ W.cell? ⟨(w.heap.size + 1), 3, none⟩ = some (.int .i64 t2) ∧ W.cell? ⟨(w.heap.size + 1), 4, none⟩ = some (.int .i64 k2) ∧ W.cell? ⟨(w.heap.size + 1), 5, none⟩ = some (.int .i64 vk2) ∧ W.cell? ⟨(w.heap.size + 1), 6, none⟩ = some (.int .i64 vn2) ∧ W.cell? ⟨(w.heap.size + 1), 7, none⟩ = some (.string vs2))
    (first | exact fourc_drew HF.out | exact F13.out | exact F12.out | exact F11.out | exact F10.out | exact F9.out | exact F8.out | exact HF.out | assumption)
    (first
      | (go_at_call 15; ((with_reducible refine (HR1.out _ (fourc_drew HF.out).1.out.1.1.bw).mono ?_); rintro e w8 ⟨rfl, hb8⟩; have F8 := hid (fourc_call (fourc_drew HF.out) hb8)))
      | (go_at_call 16; ((with_reducible refine (HR2.out _).mono ?_); rintro e w9 ⟨rfl, hb9⟩; have F9 := hid (fourc_call F8.out hb9)))
      | (go_at_call 17; ((with_reducible refine (HO1.out _).mono ?_); rintro e w10 ⟨rfl, hb10⟩; have F10 := hid (fourc_call F9.out hb10)))
      | (go_at_call 18; ((with_reducible refine (HO2.out _).mono ?_); rintro e w11 ⟨rfl, hb11⟩; have F11 := hid (fourc_call F10.out hb11)))
      | (go_at_call 19; ((with_reducible refine (HS1.out w11 F11.out).mono ?_); rintro e w12 ⟨rfl, hb12⟩; have F12 := hid (fourc_call F11.out hb12)))
      | (go_at_call 19; ((with_reducible refine (HS2.out w12 F12.out).mono ?_); rintro e w13 ⟨rfl, hb13⟩; have F13 := hid (fourc_call F12.out hb13))))
  go_wp2
  go_ret
  exact ⟨rfl, F13.out.1.out.1.1.bw⟩

theorem sla_none (w : World) : SlA w (.slice none 0 0) [] := (Row.none w 0).sla
/-- The law CodecCells, whatever the cells. -/
theorem cells_any (r f q vs : ByteArray) (t k vk : Int) {vn : Int} (r2 f2 q2 vs2 : ByteArray) (t2 k2 vk2 : Int) {vn2 : Int} (hn : inI vn) (hr : r.size ≤ 9223372036854775807) (hf : f.size ≤ 9223372036854775807) (hq : q.size ≤ 9223372036854775807) (hv : vs.size ≤ 9223372036854775807) (hr2 : r2.size ≤ 9223372036854775807) (hf2 : f2.size ≤ 9223372036854775807) (hq2 : q2.size ≤ 9223372036854775807) (w : World) (hL : LaidU w) :
    Calls Tryd.prog 3 #[cellV r f q t k vk vn vs, cellV r2 f2 q2 t2 k2 vk2 vn2 vs2] w fun e w' => e = .returned (.bool true) ∧ Below w.heap.size w w' := by
  refine ccells_main r f q vs t k vk vn r2 f2 q2 vs2 t2 k2 vk2 vn2 w (longC r f q vs || longC r2 f2 q2 vs2) (cRight r.data.toList f.data.toList q.data.toList t k vk vn vs.data.toList) (if cRight r.data.toList f.data.toList q.data.toList t k vk vn vs.data.toList = true then keyM r.data.toList f.data.toList q.data.toList t k else []) (if cRight r.data.toList f.data.toList q.data.toList t k vk vn vs.data.toList = true then cEnc r.data.toList f.data.toList q.data.toList t k vk vn vs.data.toList else []) (cOrd r.data.toList f.data.toList q.data.toList t k r2.data.toList f2.data.toList q2.data.toList t2 k2) (fun W => long2 r f q vs r2 f2 q2 vs2 t k vk vn t2 k2 vk2 vn2 W _ rfl) (fun W hW => calive_any W (hL.below hW)) ?_
  cases hlo : longC r f q vs || longC r2 f2 q2 vs2
  · refine .inr ⟨rfl, ?_, fun W hW => cright_any r f q vs t k vk hn hf hv W (hL.below hW), fun W => ?_, fun W => corder_any r f q vs t k vk vn r2 f2 q2 vs2 t2 k2 vk2 vn2 W, fun W => refcorder_any r f q vs t k vk vn r2 f2 q2 vs2 t2 k2 vk2 vn2 hr hr2 hf hf2 hq hq2 W, ?_⟩
    all_goals
      have hs : r.size ≤ 60 ∧ f.size ≤ 60 ∧ q.size ≤ 60 ∧ vs.size ≤ 100 := by
        have h := hlo
        unfold longC at h
        simp only [Bool.or_eq_false_iff, decide_eq_false_iff_not] at h
        omega
      obtain ⟨z1, z2, z3, z4⟩ := hs
    · cases hr1 : cRight r.data.toList f.data.toList q.data.toList t k vk vn vs.data.toList
      · simp
      · rw [if_pos rfl, if_pos rfl]
        have h1 := key_len hr1
        refine ⟨by omega, ?_⟩
        obtain ⟨-, -, -, -, -, -, -, -, -, -, hvr, -⟩ := cright_parts hr1
        unfold cEnc
        rw [List.length_append]
        by_cases h2 : k = 1
        · rw [if_pos h2]
          have h3 := enc_small (hvr h2)
          omega
        · rw [if_neg h2]
          simp only [List.length_nil]; omega
    · exact refcright_any r f q vs t k vk vn hf (by omega) W
    · cases hr1 : cRight r.data.toList f.data.toList q.data.toList t k vk vn vs.data.toList
      · rw [if_neg (by decide), if_neg (by decide)]
        refine ⟨fun W hW => ?_, fun W => ?_, fun W hW => ?_, fun W => ?_⟩
        · exact (key_no r f q vs t k vk hn hf hv W (hL.below hW) hr1).mono fun e w' ⟨he, hb⟩ => ⟨_, he, sla_none w', hb⟩
        · exact (refkey_no r f q vs t k vk vn hf (by omega) W hr1).mono fun e w' ⟨he, hb⟩ => ⟨_, he, sla_none w', hb⟩
        · exact (encode_no r f q vs t k vk hn hf hv W (hL.below hW) hr1).mono fun e w' ⟨he, hb⟩ => ⟨_, he, sla_none w', hb⟩
        · exact (refenc_no r f q vs t k vk vn hf (by omega) W hr1).mono fun e w' ⟨he, hb⟩ => ⟨_, he, sla_none w', hb⟩
      · rw [if_pos rfl, if_pos rfl]
        refine ⟨fun W hW => ?_, fun W => ?_, fun W hW => ?_, fun W => ?_⟩
        · exact (key_yes r f q vs t k vk hn hf hv W (hL.below hW) hr1).mono fun e w' ⟨v, he, hR, hb⟩ => ⟨v, he, hR.sla, hb⟩
        · exact (refkey_yes r f q vs t k vk vn (by omega) (by omega) (by omega) (by omega) W hr1).mono fun e w' ⟨v, he, hR, hb⟩ => ⟨v, he, hR.sla, hb⟩
        · exact (encode_yes r f q vs t k vk hn hf hv W (hL.below hW) hr1).mono fun e w' ⟨v, he, hR, hb⟩ => ⟨v, he, hR.sla, hb⟩
        · exact (refenc_yes r f q vs t k vk hn (by omega) (by omega) (by omega) (by omega) W hr1).mono fun e w' ⟨v, he, hR, hb⟩ => ⟨v, he, hR.sla, hb⟩
  · exact .inl rfl
end Go.Proofs.YtegdkcldgepngaaDoor

/- CodecCells: every Right, Order, Key and Encode answers as the document does. The row and its tied card. Conditions: none but the card's own (the listed variables of the library are laid by the program's text). -/
namespace Go.Proofs.YtegdkcldgepngaaDoor.codecCells
open Go.ChangeShapes Go.WideShapes Go.ChangeAt Go.RowKit

set_option maxRecDepth 100000 in
/-- What the walk gives, for every argument and every world that holds the listed variables. -/
theorem contract (H : Type) (enc : TypeId × Value → H) (W : World) (base : Nat) (args : Array Value) (ds gs : List (DataW H)) (before : List MemPlace)
    (hval : ∀ (j : Nat) t v, Tryd.f3.params[j]? = some t → args[j]? = some v → Value.okWide Tryd.prog W .any base t v)
    (hW : DataW.Whole enc Tryd.prog Tryd.f3.params.toList Rows.codecCellsSpec.vars false W args.toList ds gs before) (hL : laidMetH Tryd.prog Rows.codecCellsRow.laid W) :
    Calls Tryd.prog 3 args W fun e W' => ∃ v, e = .returned v ∧ Rows.codecCellsSpec.post enc Tryd.prog Tryd.f3 false true false false W args v W' := by
  have hW' := hW
  obtain ⟨p, q, hA0, hV, rfl, hfz, hnd⟩ := hW
  have hA : DataW.TrodAll enc Tryd.prog W 0 (fun _ => true) true Tryd.f3.params.toList args.toList ds p := hA0
  rw [Tryd.params3] at hA hval
  obtain ⟨v0, vs0, d0, ds0, p0, q_0, hargs, rfl, rfl, h0, r_0⟩ := trodAll_cons hA
  obtain ⟨v1, vs1, d1, ds1, p1, q_1, rfl, rfl, rfl, h1, r_1⟩ := trodAll_cons r_0
  obtain ⟨rfl, rfl, rfl⟩ := trodAll_nil r_1
  obtain rfl : args = #[v0, v1] := by cases args; simp_all
  obtain ⟨rfl, rfl⟩ := trodVars_none hV
  obtain ⟨r0, f0, q0, t0, k0, vk0, vn0, s0, rfl, rfl, rfl, wr0, wf0, wq0, wt0, wk0, wvk0, wn0, ws0⟩ := open_cell (hval 0 25 v0 rfl rfl) h0
  have hr0 : r0.size ≤ 9223372036854775807 := size_of wr0
  have hf0 : f0.size ≤ 9223372036854775807 := size_of wf0
  have hq0 : q0.size ≤ 9223372036854775807 := size_of wq0
  have hs0 : s0.size ≤ 9223372036854775807 := size_of ws0
  obtain ⟨r1, f1, q1, t1, k1, vk1, vn1, s1, rfl, rfl, rfl, wr1, wf1, wq1, wt1, wk1, wvk1, wn1, ws1⟩ := open_cell (hval 1 25 v1 rfl rfl) h1
  have hr1 : r1.size ≤ 9223372036854775807 := size_of wr1
  have hf1 : f1.size ≤ 9223372036854775807 := size_of wf1
  have hq1 : q1.size ≤ 9223372036854775807 := size_of wq1
  have hs1 : s1.size ≤ 9223372036854775807 := size_of ws1
  clear hA0
  simp only [List.append_nil] at hW'
  have hL2 : LaidU W := laid_u (seat_met5 hL)
  refine (cells_any r0 f0 q0 s0 t0 k0 vk0 r1 f1 q1 s1 t1 k1 vk1 (inI_of_wf wn0) hr0 hf0 hq0 hs0 hr1 hf1 hq1 W hL2).mono fun e W' ⟨he, hg⟩ => ?_
  subst he
  exact ⟨_, rfl, _, _, _, [], [], [], hW', trodAll_cons_mk (shut_bool Tryd.underlying4 _) trodAll_mk0, (trodAll_cons_mk (shut_cell r0 f0 q0 t0 k0 vk0 vn0 s0 wr0 wf0 wq0 wt0 wk0 wvk0 wn0 ws0 0) (trodAll_cons_mk (shut_cell r1 f1 q1 t1 k1 vk1 vn1 s1 wr1 wf1 wq1 wt1 wk1 wvk1 wn1 ws1 0) trodAll_mk0)), rfl, hg.frame _, fun h => by cases h⟩

theorem reads (os : Os) (H : Type) (enc : TypeId × Value → H) : ∃ places, DataW.whole enc Tryd.prog ((laidWorld5 os).forCall (fun _ _ => 0) ⟨#[], #[.agg #[.string ByteArray.empty, .string ByteArray.empty, .string ByteArray.empty, .int .i64 0, .int .i64 0, .int .i64 0, .int .i64 0, .string ByteArray.empty], .agg #[.string ByteArray.empty, .string ByteArray.empty, .string ByteArray.empty, .int .i64 0, .int .i64 0, .int .i64 0, .int .i64 0, .string ByteArray.empty]], []⟩).memory Tryd.f3.params.toList Rows.codecCellsSpec.vars false #[Value.agg #[.string ByteArray.empty, .string ByteArray.empty, .string ByteArray.empty, .int .i64 0, .int .i64 0, .int .i64 0, .int .i64 0, .string ByteArray.empty], Value.agg #[.string ByteArray.empty, .string ByteArray.empty, .string ByteArray.empty, .int .i64 0, .int .i64 0, .int .i64 0, .int .i64 0, .string ByteArray.empty]].toList 12 = some ([.agg [.lit (.string []), .lit (.string []), .lit (.string []), .lit (.int .i64 0), .lit (.int .i64 0), .agg [.lit (.int .i64 0), .lit (.int .i64 0), .lit (.string [])]], .agg [.lit (.string []), .lit (.string []), .lit (.string []), .lit (.int .i64 0), .lit (.int .i64 0), .agg [.lit (.int .i64 0), .lit (.int .i64 0), .lit (.string [])]]], [], places) :=
  ⟨[], by kernel_rfl⟩

set_option maxRecDepth 100000 in
theorem lifted (os : Os) (started : os.Started) (H : Type) (enc : TypeId × Value → H) (F : Stop.Interp) :
    ReturnsInHanded {} Tryd.checked os 3 .any ((OpenSpec.ofChange Rows.codecCellsSpec).preRow enc Tryd.prog Tryd.f3 Rows.codecCellsRow.domain false Rows.codecCellsRow.laid) (((OpenSpec.ofChange Rows.codecCellsSpec).at F).post enc Tryd.prog Tryd.f3 false true false false) := by
  obtain ⟨places, hx⟩ := reads os H enc
  refine returnsInHanded_of_row (C := Tryd.checked) (s := OpenSpec.ofChange Rows.codecCellsSpec) seat_own started (by kernel_rfl) Tryd.func3
    (witness_row_at (enc := enc) (C := Tryd.checked) false (laidWorld5 os) #[.agg #[.string ByteArray.empty, .string ByteArray.empty, .string ByteArray.empty, .int .i64 0, .int .i64 0, .int .i64 0, .int .i64 0, .string ByteArray.empty], .agg #[.string ByteArray.empty, .string ByteArray.empty, .string ByteArray.empty, .int .i64 0, .int .i64 0, .int .i64 0, .int .i64 0, .string ByteArray.empty]] rfl (by kernel_rfl) (by kernel_rfl) (by kernel_rfl)
      (OpenSpec.preRow_of_cond 12 hx (by kernel_rfl) (fun k hk => by cases hk) (by kernel_rfl) (laid_met5 os _))) ?_
  intro W base args ds gs before hval hW _ _ _ hL _ _
  exact contract H enc W base args ds gs before hval hW hL

theorem said : Rows.CodecCellsSaid :=
  OpenClaim.holds_of_cond 3 Tryd.f3 rfl rfl rfl rfl rfl rfl rfl ⟨rfl, rfl, rfl, rfl, rfl⟩ rfl rfl rfl rfl rfl (by kernel_rfl) Tryd.func3 (by kernel_rfl)
    (of_decide_eq_true (by kernel_rfl)) (by unfold Func.isWrapper; first | (rw [if_pos (by decide +kernel)]; kernel_rfl) | (rw [if_neg (by decide +kernel)]; exact ⟨rfl, rfl⟩))
    (fun os started H enc _ F => by rw [OpenClaim.pre_eq_preRow]; exact lifted os started H enc F)

theorem plain (f : FuncId) (fn : Func) (hf : Tryd.pinned.checked.prog.funcNamed "joist/joistlaw03.CodecCells" = some f) (hfn : Tryd.pinned.checked.prog.funcs[f]? = some fn) :
    true = Tryd.pinned.checked.prog.looks [] ∧ ∀ (j : Nat) t, fn.params[j]? = some t → Tryd.pinned.checked.prog.wantsStandIn t = false := by
  obtain rfl : f = 3 := Option.some.inj ((show Tryd.prog.funcNamed "joist/joistlaw03.CodecCells" = some 3 by kernel_rfl).symm.trans hf) |>.symm
  obtain rfl : fn = Tryd.f3 := (Option.some.inj (Tryd.func3.symm.trans hfn)).symm
  refine ⟨by kernel_rfl, fun j t ht => ?_⟩
  rw [Tryd.params3] at ht
  have hm := Array.mem_of_getElem? ht
  obtain rfl : t = 25 := by simpa using hm
  exact (show Tryd.prog.wantsStandIn 25 = false by kernel_rfl)

/-- THE CARD. -/
theorem card : Rows.CodecCellsCardSaid :=
  Claim7.holds_tied_plain_at .later [] _ _ _ _ said (fun _ h => by cases h) (by kernel_rfl) (fun _ h => by cases h) codecCells_row_tie rfl ⟨rfl, rfl⟩ (by kernel_rfl) rfl plain (by kernel_rfl)
end Go.Proofs.YtegdkcldgepngaaDoor.codecCells
namespace Go.Proofs.YtegdkcldgepngaaDoor
theorem codecCells_card : Rows.CodecCellsCardSaid := codecCells.card
end Go.Proofs.YtegdkcldgepngaaDoor
