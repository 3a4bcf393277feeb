/- Appending bytes to a row of the call's own, told which block is turned; block.appendBytes. Conditions: a million bytes at most; the part stands in another block. -/
import Derived.Test.YtjbjdkginemedaaGreatDoorQ9
import Derived.Test.YtjbjdkginemedaaGreatDoorQ4
import Derived.Laws.AppendOwn
import Derived.Maps.AppendAt
import Derived.Maps.Range
import Derived.Deep.QuietTactic
import Derived.BigQuiet
namespace Go.Proofs.YtjbjdkginemedaaGreatDoor
open Go.RowKit

/-- Row g of w holds l. -/
def RowG (w : World) (B g cap : Nat) (l : List UInt8) : Prop := 0 < l.length ∧ Row w B (.slice (some ⟨g, 0, none⟩) l.length cap) l
theorem Row.toG {w : World} {B : Nat} {v : Value} {l : List UInt8} (h : Row w B v l) (hl : 0 < l.length) : ∃ g cap, v = .slice (some ⟨g, 0, Option.none⟩) l.length cap ∧ RowG w B g cap l := by
  obtain ⟨g, cap, rfl, _⟩ := h.form hl
  exact ⟨g, cap, rfl, hl, h⟩
theorem RowG.lt {w : World} {B g cap : Nat} {l : List UInt8} (h : RowG w B g cap l) : B ≤ g ∧ g < w.heap.size := World.ownsRow.lt h.2 g rfl
theorem RowG.caps {w : World} {B g cap : Nat} {l : List UInt8} (h : RowG w B g cap l) : l.length ≤ cap ∧ cap ≤ 9223372036854775807 := by
  rcases h.2.2 with ⟨e, _⟩ | ⟨g', cap', cur, e, _, _, h1, h2, _⟩
  · cases e
  · injection e with e1 e2 e3
    subst e3
    exact ⟨h1, by unfold maxLen at h2; omega⟩
theorem RowG.holds {w : World} {B g cap : Nat} {l : List UInt8} (h : RowG w B g cap l) : Holds w g 0 l := fun i hi => by
  obtain ⟨g', cap', e, _, _, _, hc⟩ := h.2.form h.1
  injection e with e1 e2 e3
  injection e1 with e1
  injection e1 with e1
  subst e1
  rw [Nat.zero_add]
  exact hc i hi
theorem RowG.below {w w' : World} {B g cap : Nat} {l : List UInt8} (h : RowG w B g cap l) (hb : Below w.heap.size w w') : RowG w' B g cap l := ⟨h.1, h.2.keep hb h.2.block_lt⟩
theorem grown_of_below {w w' : World} (h : Below w.heap.size w w') (row : Option Nat) : w.grownBy w' row := ⟨h.os, h.tape, h.output, h.size, fun k hk _ => h.block k hk⟩
theorem Holds.grown {w w' : World} {b off : Nat} {l : List UInt8} {row : Option Nat} (h : Holds w b off l) (hg : w.grownBy w' row) (hb : some b ≠ row) : Holds w' b off l := fun i hi => hg.cell (h i hi) hb
theorem HoldsA.grown {w w' : World} {A : Option Addr} {l : List UInt8} {row : Option Nat} (h : HoldsA w A l) (hg : w.grownBy w' row) (hb : ∀ b off, A = some ⟨b, off, none⟩ → some b ≠ row) : HoldsA w' A l := fun h0 => by
  obtain ⟨b, off, e, hh⟩ := h h0
  exact ⟨b, off, e, hh.grown hg (hb b off e)⟩

theorem run_append_g (w : World) (ty : TypeId) (base g cap : Nat) (l : List UInt8) (hown : RowG w base g cap l) (b off c : Nat) (news : List UInt8) (h0 : 0 < news.length) (hnews : Holds w b off news) (hlen : l.length + news.length ≤ 1000000) (hbase : base ≤ w.heap.size) :
    ∃ g' cap' w', (Builtin.append_ #[30, 30] ty #[.slice (some ⟨g, 0, none⟩) l.length cap, .slice (some ⟨b, off, none⟩) news.length c]).run Tryz.prog w = .ok (.slice (some ⟨g', 0, none⟩) (l ++ news).length cap') w' ∧ RowG w' base g' cap' (l ++ news) ∧ w.grownBy w' (some g) ∧ (g' = g ∨ w.heap.size ≤ g') := by
  obtain ⟨i0, hi, hz0, hz1, hz2⟩ := info_parts info_u8
  have hcells : ∀ j u, (bc news)[j]? = some u → w.cell? ((⟨b, off, none⟩ : Addr).add j) = some u := fun j u hj => by
    have hjn : j < news.length := by
      rcases Nat.lt_or_ge j news.length with h1 | h1
      · exact h1
      · rw [bc_at, List.getElem?_eq_none h1] at hj; cases hj
    rw [add_zero_off, hnews j hjn, ← hj, bc_at, List.getElem?_eq_getElem hjn, List.getD_eq_getElem?_getD, List.getElem?_eq_getElem hjn]
    rfl
  obtain ⟨v', w', hrun, r1, r2, _⟩ := run_append_own (P := Tryz.prog) w base 30 ty 5 i0 (.int .u8 0) 1 1 Tryz.underlying30 hi hz0 hz1 hz2 rfl (by decide) _ l.length (bc l) hown.2 ⟨b, off, none⟩ news.length c (bc news) (by rw [bc_len]; omega) hcells (bc_one _) (by unfold maxLen; omega) (by omega) hbase
  have hr1 : Row w' base v' (l ++ news) := by
    unfold Row
    rw [bc_app, List.length_append]
    exact r1
  have hpos : 0 < (l ++ news).length := by rw [List.length_append]; omega
  obtain ⟨g1, cap1, e1, hG⟩ := hr1.toG hpos
  subst e1
  have hown2 := hown.2
  rcases hown.2.2 with ⟨e, _⟩ | ⟨g0, cap0, cur, e, hbg, hg, hnc, hcm, hcs, htake⟩
  · cases e
  · injection e with e1 e2 e3
    injection e1 with e1
    injection e1 with e1
    subst e1 e3
    refine ⟨g1, cap1, w', hrun, hG, r2, ?_⟩
    by_cases hroom : l.length + news.length ≤ cap
    · have hr := run_append_room (P := Tryz.prog) w 30 ty 5 i0 Tryz.underlying30 hi g l.length cap cur hg ⟨b, off, none⟩ news.length c (bc news) (by rw [hz1, bc_len]; omega) hcells (bc_one _) hroom (by rw [hz1, bc_len]; omega)
      rw [hrun] at hr
      injection hr with h1 h2
      injection h1 with h1
      injection h1 with h1
      injection h1 with h1
      exact .inl h1
    · have holds : ∀ j u, (bc l)[j]? = some u → w.cell? ((⟨g, 0, none⟩ : Addr).add j) = some u := World.ownsRow.cells hown2 (g := g) rfl
      have hr := run_append_grow (P := Tryz.prog) w 30 ty 5 i0 (.int .u8 0) Tryz.underlying30 hi hz0 ⟨g, 0, none⟩ l.length cap (bc l) (by rw [hz1, bc_len]; omega) holds ⟨b, off, none⟩ news.length c (bc news) (by rw [hz1, bc_len]; omega) hcells (by omega) (by omega) (by rw [hz2]; exact growslice_fits (by omega) (by omega))
      rw [hrun] at hr
      injection hr with h1 h2
      injection h1 with h1
      injection h1 with h1
      injection h1 with h1
      exact .inr (by omega)

section
variable {ops : Array Oper} {rest : List Oper} {o : Oper} {a : Act} {Q : Exit → Act → World → Prop}
/-- append of some bytes to a row of the call's own: its block is turned alone, or a new one is made. -/
theorem wpList_append_g (hgd : o.guard = Option.none) (s x : Operand)
    (ho : o.op = .call { callee := .builtin .append, args := #[s, x], argTypes := #[30, 30] })
    (w : World) (base g cap : Nat) (l : List UInt8) (m : Nat) (hm : m = l.length) (hs : a.eval s = .slice (some ⟨g, 0, none⟩) m cap) (hown : RowG w base g cap l)
    (b off k c : Nat) (news : List UInt8) (hk : k = news.length) (hx : a.eval x = .slice (some ⟨b, off, none⟩) k c) (h0 : 0 < news.length) (hnews : Holds w b off news)
    (hlen : l.length + news.length ≤ 1000000) (hbase : base ≤ w.heap.size)
    (h : ∀ g' cap' w' n', Hid ((l ++ news).length = n') → RowG w' base g' cap' (l ++ news) → w.grownBy w' (some g) → (g' = g ∨ w.heap.size ≤ g') → wpList Tryz.prog ops Q rest (a.put o.dst (.slice (some ⟨g', 0, none⟩) n' cap')) w') : wpList Tryz.prog ops Q (o :: rest) a w := by
  subst hm hk
  obtain ⟨g', cap', w', hrun, r1, r2, r3⟩ := run_append_g w o.type base g cap l hown b off c news h0 hnews hlen hbase
  exact Lib.wpList_append_run w hgd s x 30 30 ho _ _ hs hx _ w' hrun (h g' cap' w' _ (hid rfl) r1 r2 r3)
end

set_option maxRecDepth 100000 in
set_option maxHeartbeats 2000000 in
theorem abytes_any (B g cap : Nat) (l : List UInt8) (b off c : Nat) (part : List UInt8) (h0 : 0 < part.length) (hlen : l.length + part.length ≤ 900000) (w : World) (h : RowG w B g cap l) (hp : Holds w b off part) (hne : b ≠ g) (hB : B ≤ w.heap.size) :
    Calls Tryz.prog 42 #[.slice (some ⟨g, 0, none⟩) l.length cap, .slice (some ⟨b, off, none⟩) part.length c] w fun e w' => ∃ g' cap', e = .returned (.slice (some ⟨g', 0, none⟩) (l ++ (numW part.length ++ part)).length cap') ∧ RowG w' B g' cap' (l ++ (numW part.length ++ part)) ∧ w.grownBy w' (some g) ∧ (g' = g ∨ w.heap.size ≤ g') := by
  have HN : Hid (∀ W, Calls Tryz.prog 38 #[.int .i64 part.length] W fun e w' => ∃ v, e = .returned v ∧ Row w' W.heap.size v (numW part.length) ∧ Below W.heap.size W w') := fun W => num_any part.length (by omega) W
  have hn9 := numW_len9 part.length (by omega)
  have hn0 : 0 < (numW part.length).length := numW_pos part.length
  have HL : Hid (l.length + (numW part.length).length ≤ 1000000 ∧ (l ++ numW part.length).length + part.length ≤ 1000000 ∧ 0 < (numW part.length).length ∧ 0 < part.length) := ⟨by omega, by rw [List.length_append]; omega, hn0, h0⟩
  have HR := hid h
  have HP := hid hp
  have HB := hid hB
  have HE := hid hne
  obtain ⟨N, hN⟩ : ∃ N, numW part.length = N := ⟨_, rfl⟩
  have e1 : l ++ (N ++ part) = l ++ N ++ part := by rw [List.append_assoc]
  rw [hN, e1]
  rw [hN] at HN HL
  clear hN hn9 hn0 h0 hlen h hp hne hB e1
  obtain ⟨m, hm⟩ : ∃ m, l.length = m := ⟨_, rfl⟩
  obtain ⟨k, hk⟩ : ∃ k, part.length = k := ⟨_, rfl⟩
  have HM := hid hm
  have HK := hid hk
  rw [hm, hk]
  rw [hk] at HN
  clear hm hk
  go_enter Tryz.func42, Tryz.ntmps42
  go_wp2_with (first
    | (go_at_call 38; refine (HN.out _).mono ?_; rintro e w1 ⟨v, rfl, h1, hb1⟩; obtain ⟨g1, cap1, rfl, hG1⟩ := h1.toG HL.out.2.2.1)
    | (at_builtin; refine wpList_append_g rfl (.tmp 5) (.tmp 8) rfl w1 B g cap l m HM.out.symm ?_ (HR.out.below hb1) g1 0 N.length cap1 N rfl ?_ HL.out.2.2.1 hG1.holds HL.out.1 (Nat.le_trans HB.out hb1.size) ?_; rfl; rfl; intro g2 cap2 w2 n2 hn2 hG2 hg2 hd2)
    | (at_builtin; refine wpList_append_g rfl (.tmp 10) (.tmp 11) rfl w2 B g2 cap2 (l ++ N) n2 hn2.out.symm ?_ hG2 b off k c part HK.out.symm ?_ HL.out.2.2.2 ((HP.out.below hb1 (HP.out.lt HL.out.2.2.2)).grown hg2 (fun e => HE.out (Option.some.inj e))) HL.out.2.1 (Nat.le_trans HB.out (Nat.le_trans hb1.size hg2.size)) ?_; rfl; rfl; intro g3 cap3 w3 n3 hn3 hG3 hg3 hd3))
  go_ret
  refine ⟨g3, cap3, congrArg (fun z => Ending.returned (Value.slice (some ⟨g3, 0, none⟩) z cap3)) hn3.out.symm, hG3, ?_, ?_⟩
  · refine ((grown_of_below hb1 (some g)).trans hg2).andThen hg3 (fun j hj => ?_)
    injection hj with hj
    subst hj
    rcases hd2 with rfl | hd2
    · exact .inr rfl
    · exact .inl (Nat.le_trans hb1.size hd2)
  · have := hb1.size
    have := hg2.size
    rcases hd3 with rfl | hd3
    · rcases hd2 with rfl | hd2
      · exact .inl rfl
      · exact .inr (by omega)
    · exact .inr (by omega)
end Go.Proofs.YtjbjdkginemedaaGreatDoor
