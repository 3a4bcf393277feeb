/- Several texts in one: SO SLb DA DB DC. Conditions: as each theorem names them. -/
import Derived.Test.YtjbjdkginemedaaGreatDoorQ4
import Derived.Deep.RegionHeld3
import Derived.Laws.BytesArg
import Derived.Laws.MakeOwn
import Derived.Deep.AppendSrc
import Derived.Test.YtjbjdkginemedaaGreatDoorQB
import Derived.Test.YtjbjdkginemedaaGreatDoorQA
/- SameBytes at any two slices: are their bytes the same. Conditions: the slices hold their bytes. -/
namespace Go.Proofs.YtjbjdkginemedaaGreatDoor
open Go.RowKit

set_option maxHeartbeats 1000000 in
theorem same_ne (A1 A2 : Option Addr) (n1 n2 c1 c2 : Nat) (hn : n1 ≠ n2) (w : World) :
    Calls Tryz.prog 18 #[.slice A1 n1 c1, .slice A2 n2 c2] w fun e w' => e = .returned (.bool false) ∧ w' = w := by
  have h : ¬ ((n1 : Int) = (n2 : Int)) := by omega
  go_enter Tryz.func18, Tryz.ntmps18
  go_wp2
  go_ret
  exact ⟨rfl, rfl⟩

set_option maxHeartbeats 1000000 in
theorem same_zero (A1 A2 : Option Addr) (c1 c2 : Nat) (w : World) :
    Calls Tryz.prog 18 #[.slice A1 0 c1, .slice A2 0 c2] w fun e w' => e = .returned (.bool true) ∧ w' = w := by
  go_enter Tryz.func18, Tryz.ntmps18
  go_wp2
  go_loopw [5] (fun vi wr => vi = .int .i64 0 ∧ w = wr) (fun _ _ => 0)
  case atStart => exact ⟨rfl, rfl⟩
  case round =>
    obtain ⟨rfl, rfl⟩ := hrel
    go_wp2
    go_ret
    exact ⟨rfl, rfl⟩

theorem take_next (l : List UInt8) (k : Nat) (h : k < l.length) : l.take (k + 1) = l.take k ++ [l[k]] := List.take_succ_eq_append_getElem h

set_option maxHeartbeats 2000000 in
theorem same_in (b1 o1 c1 b2 o2 c2 n : Nat) (l1 l2 : List UInt8) (h1 : l1.length = n) (h2 : l2.length = n) (hn : n ≤ 1000000) (w : World) (hh1 : Holds w b1 o1 l1) (hh2 : Holds w b2 o2 l2) :
    Calls Tryz.prog 18 #[.slice (some ⟨b1, o1, none⟩) n c1, .slice (some ⟨b2, o2, none⟩) n c2] w fun e w' => e = .returned (.bool (decide (l1 = l2))) ∧ Below w.heap.size w w' := by
  have H1 := hid h1
  have H2 := hid h2
  have K1 := hid hh1
  have K2 := hid hh2
  clear h1 h2 hh1 hh2
  go_enter Tryz.func18, Tryz.ntmps18
  go_wp2
  go_loopw [5] (fun vi wr => ∃ k m : Nat, k ≤ n ∧ vi = .int .i64 k ∧ Hid (l1.take k = l2.take k) ∧ wr = w.drewN m) (fun vi _ => n - (intOf vi).toNat)
  case atStart => exact ⟨0, 0, by omega, rfl, rfl, rfl⟩
  case round =>
    obtain ⟨k, m, hk, rfl, HE, rfl⟩ := hrel
    by_cases hlt : k < n
    · have g1 : k < l1.length := by rw [H1.out]; exact hlt
      have g2 : k < l2.length := by rw [H2.out]; exact hlt
      have q1 := K1.out k g1
      have q2 := K2.out k g2
      rw [List.getD_eq_getElem?_getD, List.getElem?_eq_getElem g1, Option.getD_some] at q1
      rw [List.getD_eq_getElem?_getD, List.getElem?_eq_getElem g2, Option.getD_some] at q2
      obtain ⟨x, hx⟩ : ∃ x : Int, (((l1[k]).toNat : Nat) : Int) = x := ⟨_, rfl⟩
      obtain ⟨y, hy⟩ : ∃ y : Int, (((l2[k]).toNat : Nat) : Int) = y := ⟨_, rfl⟩
      rw [hx] at q1; rw [hy] at q2
      have HX := hid hx; have HY := hid hy
      clear hx hy
      by_cases hxy : x = y
      · subst hxy
        have hb : (x != x) = false := by simp
        go_wp2
        go_region
        all_goals
          go_wp2
          go_roundw
          case rel =>
            refine ⟨k + 1, _, by omega, by go_num, ?_, rfl⟩
            unfold Hid
            rw [take_next l1 k g1, take_next l2 k g2, HE.out]
            have : l1[k] = l2[k] := UInt8.toNat_inj.1 (by have := HX.out; have := HY.out; omega)
            rw [this]
          case measure => simp [intOf]; omega
      · have hb : (x != y) = true := by simpa using hxy
        have HN := hid hxy
        go_wp2
        go_region
        all_goals
          go_wp2
          go_ret
          have hne : l1 ≠ l2 := by
            intro e
            subst e
            exact HN.out (HX.out.symm.trans HY.out)
          rw [decide_eq_false hne]
          exact ⟨rfl, by repeat' (first | exact Below.refl _ _ | apply Below.drew | apply below_drewN)⟩
    · go_wp2
      go_ret
      have e : l1 = l2 := by
        have := HE.out
        rwa [List.take_of_length_le (by have := H1.out; omega), List.take_of_length_le (by have := H2.out; omega)] at this
      rw [decide_eq_true e]
      exact ⟨rfl, by repeat' (first | exact Below.refl _ _ | apply Below.drew | apply below_drewN)⟩

theorem same_sla (v1 v2 : Value) (l1 l2 : List UInt8) (hl1 : l1.length ≤ 1000000) (w : World) (h1 : SlA w v1 l1) (h2 : SlA w v2 l2) :
    Calls Tryz.prog 18 #[v1, v2] w fun e w' => e = .returned (.bool (decide (l1 = l2))) ∧ Below w.heap.size w w' := by
  obtain ⟨A1, c1, rfl, _, _, g1, _⟩ := h1
  obtain ⟨A2, c2, rfl, _, _, g2, _⟩ := h2
  by_cases hn : l1.length = l2.length
  · by_cases h0 : 0 < l1.length
    · obtain ⟨b1, o1, rfl, k1⟩ := g1 h0
      obtain ⟨b2, o2, rfl, k2⟩ := g2 (by omega)
      rw [← hn]
      exact same_in b1 o1 c1 b2 o2 c2 l1.length l1 l2 rfl hn.symm hl1 w k1 k2
    · have e1 : l1 = [] := List.eq_nil_of_length_eq_zero (by omega)
      have e2 : l2 = [] := List.eq_nil_of_length_eq_zero (by omega)
      subst e1; subst e2
      exact (same_zero A1 A2 c1 c2 w).mono fun e w' ⟨he, hw⟩ => ⟨he, by rw [hw]; exact Below.refl _ _⟩
  · have hne : l1 ≠ l2 := fun e => hn (by rw [e])
    rw [decide_eq_false hne]
    exact (same_ne A1 A2 _ _ c1 c2 hn w).mono fun e w' ⟨he, hw⟩ => ⟨he, by rw [hw]; exact Below.refl _ _⟩
end Go.Proofs.YtjbjdkginemedaaGreatDoor

/- Lists of rows of bytes in memory; SameLists, CopyBytes. Conditions: the slices hold their bytes, rows of a million at most. -/
namespace Go.Proofs.YtjbjdkginemedaaGreatDoor
open Go.RowKit

theorem info_row : (Tryz.prog.info? 30).map (fun i => (i.zero, i.size, i.bytes)) = some (some (.slice none 0 0), 1, 24) := by kernel_rfl

/-- The slice v is the call's own (from block B on) and its elements are rows of the call's own that hold xs. -/
def RowL (w : World) (B : Nat) (v : Value) (xs : List (List UInt8)) : Prop :=
  ∃ vs : List Value, w.ownsRow B 30 1 v xs.length vs ∧ ∀ (i : Nat) (x : List UInt8), xs[i]? = some x → ∃ u, vs[i]? = some u ∧ Row w B u x
theorem RowL.none (w : World) (B : Nat) : RowL w B (.slice none 0 0) [] := ⟨[], ⟨rfl, .inl ⟨rfl, rfl⟩⟩, fun i x h => by simp at h⟩
theorem RowL.len {w : World} {B : Nat} {v : Value} {xs : List (List UInt8)} (h : RowL w B v xs) : ∃ A c, v = .slice A xs.length c := by
  obtain ⟨vs, ⟨_, h⟩, _⟩ := h
  rcases h with ⟨e, h0⟩ | ⟨g, cap, cur, e, _⟩
  · exact ⟨Option.none, 0, by rw [e, h0]⟩
  · exact ⟨_, _, e⟩
theorem RowL.below {w w' : World} {B : Nat} {v : Value} {xs : List (List UInt8)} (h : RowL w B v xs) (hb : Below w.heap.size w w') : RowL w' B v xs := by
  obtain ⟨vs, ho, hr⟩ := h
  refine ⟨vs, ?_, fun i x hx => ?_⟩
  · refine ⟨ho.1, ?_⟩
    rcases ho.2 with h2 | ⟨g, cap, cur, rfl, hB, hh, hrest⟩
    · exact .inl h2
    · refine .inr ⟨g, cap, cur, rfl, hB, ?_, hrest⟩
      rw [hb.block g (by rcases Nat.lt_or_ge g w.heap.size with h' | h'
                         · exact h'
                         · rw [Array.getElem?_eq_none h'] at hh; cases hh)]
      exact hh
  · obtain ⟨u, hu, hR⟩ := hr i x hx
    exact ⟨u, hu, hR.keep hb (hR.block_lt)⟩
/-- A row of bytes does not lie where a list of rows lies. -/
theorem row_ne_list {w : World} {B : Nat} {u v : Value} {x : List UInt8} {n : Nat} {vs : List Value} (h : Row w B u x) (ho : w.ownsRow B 30 1 v n vs) : u.ownBlock = Option.none ∨ u.ownBlock ≠ v.ownBlock := by
  rcases h.2 with ⟨rfl, _⟩ | ⟨g, cap, cur, rfl, _, hh, _⟩
  · exact .inl rfl
  · refine .inr fun e => ?_
    rcases ho.2 with ⟨rfl, _⟩ | ⟨g', cap', cur', rfl, _, hh', _⟩
    · cases e
    · simp only [Value.ownBlock, Option.some.injEq] at e
      rw [← e, hh] at hh'
      simp only [Option.some.injEq, Obj.cells.injEq] at hh'
      exact absurd hh'.2.1 (by decide)
theorem Row.grown {w w' : World} {B : Nat} {u : Value} {x : List UInt8} {row : Option Nat} (h : Row w B u x) (hg : w.grownBy w' row) (hne : u.ownBlock = Option.none ∨ u.ownBlock ≠ row) : Row w' B u x := World.ownsRow.kept h hg hne

section
variable {ops : Array Oper} {rest : List Oper} {o : Oper} {a : Act} {Q : Exit → Act → World → Prop}
/-- append of one row to a list of the call's own. -/
theorem wpList_append_row (hgd : o.guard = Option.none) (s x : Operand)
    (ho : o.op = .call { callee := .builtin .append, args := #[s, x], argTypes := #[79, 79] })
    (w : World) (base : Nat) (v : Value) (xs : List (List UInt8)) (hs : a.eval s = v) (hown : RowL w base v xs)
    (G : Nat) (c : Nat) (u : Value) (y : List UInt8) (hx : a.eval x = .slice (some ⟨G, 0, Option.none⟩) 1 c) (hc : w.cell? ⟨G, 0, Option.none⟩ = some u) (hu : Row w base u y)
    (hlen : xs.length ≤ 1000000) (hbase : base ≤ w.heap.size)
    (h : ∀ v' w', RowL w' base v' (xs ++ [y]) → Below base w w' → wpList Tryz.prog ops Q rest (a.put o.dst v') w') : wpList Tryz.prog ops Q (o :: rest) a w := by
  obtain ⟨i0, hi, hz0, hz1, hz2⟩ := info_parts info_row
  obtain ⟨vs, how, hr⟩ := hown
  have hvl : vs.length = xs.length := by have := how.1; omega
  refine wpList_append_own w hgd s x 79 ho base 30 i0 (.slice Option.none 0 0) 1 24 Tryz.underlying79 hi hz0 hz1 hz2 rfl (by decide) v xs.length vs hs how ⟨G, 0, Option.none⟩ 1 c [u] hx rfl ?_ ?_ (by unfold maxLen; omega) (by omega) hbase ?_
  · intro j e he
    match j, he with
    | 0, he => simp at he; subst he; rw [add_zero_off]; exact hc
    | j + 1, he => simp at he
  · intro e he
    have : e = u := by simpa using he
    subst this
    rcases hu.2 with ⟨rfl, _⟩ | ⟨g, cap, cur, rfl, _⟩ <;> rfl
  · intro v' w' h1 h2 _
    refine h v' w' ⟨vs ++ [u], by rw [List.length_append]; exact h1, fun i x hx => ?_⟩ ((Below.refl _ _).grown h2 hbase fun k hk => (World.ownsRow.lt how k hk).1)
    by_cases hi' : i < xs.length
    · rw [List.getElem?_append_left hi'] at hx
      obtain ⟨u', hu', hR⟩ := hr i x hx
      exact ⟨u', by rw [List.getElem?_append_left (by omega)]; exact hu', hR.grown h2 (row_ne_list hR how)⟩
    · rw [List.getElem?_append_right (by omega)] at hx
      have hi0 : i - xs.length = 0 := by
        rcases Nat.eq_zero_or_pos (i - xs.length) with e | e
        · exact e
        · rw [List.getElem?_eq_none (by simp; omega)] at hx; cases hx
      rw [hi0] at hx
      have ey : y = x := by simpa using hx
      subst ey
      exact ⟨u, by rw [List.getElem?_append_right (by omega), hvl, hi0]; rfl, hu.grown h2 (row_ne_list hu how)⟩
end

/-- The value is a slice of slices that hold ls. -/
def LsA (w : World) (v : Value) (ls : List (List UInt8)) : Prop := ∃ A c, v = .slice A ls.length c ∧ ls.length ≤ c ∧ c ≤ 9223372036854775807 ∧ (A = none → c = 0) ∧
  (0 < ls.length → ∃ b off, A = some ⟨b, off, none⟩ ∧ ∀ i l, ls[i]? = some l → ∃ u, w.cell? ⟨b, off + i, none⟩ = some u ∧ SlA w u l)
theorem LsA.below {w w' : World} {v : Value} {ls : List (List UInt8)} (h : LsA w v ls) (hb : Below w.heap.size w w') : LsA w' v ls := by
  obtain ⟨A, c, h1, h2, h3, h4, h5⟩ := h
  refine ⟨A, c, h1, h2, h3, h4, fun h0 => ?_⟩
  obtain ⟨b, off, e, hh⟩ := h5 h0
  refine ⟨b, off, e, fun i l hl => ?_⟩
  obtain ⟨u, hu, hS⟩ := hh i l hl
  exact ⟨u, (hb.cell (p := ⟨b, off + i, none⟩) (cell_lt hu)).trans hu, hS.below hb⟩
theorem lsa_nil (w : World) : LsA w (.slice none 0 0) [] := ⟨none, 0, rfl, by simp, by omega, fun _ => rfl, fun h => absurd h (by simp)⟩

/-- A list whose rows can be reached one by one. -/
def LsB (w : World) (v : Value) (ls : List (List UInt8)) : Prop := ∃ A c, v = .slice A ls.length c ∧ (0 < ls.length → ∃ b off, A = some ⟨b, off, none⟩ ∧ ∀ i (h : i < ls.length), ∃ A' c', w.cell? ⟨b, off + i, none⟩ = some (.slice A' (ls[i]).length c') ∧ SlA w (.slice A' (ls[i]).length c') ls[i])
theorem LsB.below {w w' : World} {v : Value} {ls : List (List UInt8)} (h : LsB w v ls) (hb : Below w.heap.size w w') : LsB w' v ls := by
  obtain ⟨A, c, e, hh⟩ := h
  refine ⟨A, c, e, fun h0 => ?_⟩
  obtain ⟨b, off, e2, hc⟩ := hh h0
  refine ⟨b, off, e2, fun i hi => ?_⟩
  obtain ⟨A', c', hu, hS⟩ := hc i hi
  exact ⟨A', c', (hb.cell (p := ⟨b, off + i, none⟩) (cell_lt hu)).trans hu, hS.below hb⟩
theorem LsA.lsb {w : World} {v : Value} {ls : List (List UInt8)} (h : LsA w v ls) : LsB w v ls := by
  obtain ⟨A, c, e, _, _, _, hh⟩ := h
  refine ⟨A, c, e, fun h0 => ?_⟩
  obtain ⟨b, off, e2, hc⟩ := hh h0
  refine ⟨b, off, e2, fun i hi => ?_⟩
  obtain ⟨u, hu, hS⟩ := hc i ls[i] (List.getElem?_eq_getElem hi)
  obtain ⟨A', c', e3, hx⟩ := id hS
  subst e3
  exact ⟨A', c', hu, hS⟩
theorem RowL.lsb {w : World} {B : Nat} {v : Value} {ls : List (List UInt8)} (h : RowL w B v ls) : LsB w v ls := by
  obtain ⟨A, c, e⟩ := h.len
  refine ⟨A, c, e, fun h0 => ?_⟩
  obtain ⟨vs, ho, hr⟩ := h
  have hvl : vs.length = ls.length := by have := ho.1; omega
  rcases ho.2 with ⟨_, hz⟩ | ⟨g, cap, cur, e2, _, hh, _, _, _, ht⟩
  · omega
  · rw [e] at e2
    injection e2 with e2 _ _
    refine ⟨g, 0, e2, fun i hi => ?_⟩
    obtain ⟨u, hu, hR⟩ := hr i ls[i] (List.getElem?_eq_getElem hi)
    obtain ⟨A', c', e3, hx⟩ := id hR.sla
    subst e3
    refine ⟨A', c', ?_, hR.sla⟩
    rw [Nat.zero_add, cell_of_row w g i cur _ (0, 0) hh]
    have h2 : (cur.toList.take (ls.length * 1))[i]? = vs[i]? := by rw [ht]
    rw [List.getElem?_take_of_lt (by omega), hu] at h2
    rw [← Array.getElem?_toList, h2]
theorem LsB.take {w : World} {A : Option Addr} {c : Nat} {ls : List (List UInt8)} (h : LsB w (.slice A ls.length c) ls) (k : Nat) (hk : k ≤ ls.length) (c' : Nat) : LsB w (.slice A k c') (ls.take k) := by
  obtain ⟨A1, c1, e, hh⟩ := h
  injection e with e _ _
  subst e
  have hl : (ls.take k).length = k := by rw [List.length_take]; omega
  refine ⟨A, c', by rw [hl], fun h0 => ?_⟩
  rw [hl] at h0
  obtain ⟨b, off, e2, hc⟩ := hh (by omega)
  refine ⟨b, off, e2, fun i hi => ?_⟩
  rw [hl] at hi
  rw [List.getElem_take]
  exact hc i (by omega)

theorem LsB.at {w : World} {A : Option Addr} {n c : Nat} {ls : List (List UInt8)} (h : LsB w (.slice A n c) ls) (k : Nat) (hk : k < ls.length) :
    ∃ b off A' c', A = some ⟨b, off, none⟩ ∧ w.cell? ⟨b, off + k, none⟩ = some (.slice A' (ls[k]).length c') ∧ SlA w (.slice A' (ls[k]).length c') ls[k] := by
  obtain ⟨A1, c1, e0, hh⟩ := h
  injection e0 with ea _ _
  obtain ⟨b, off, ea2, hcells⟩ := hh (by omega)
  obtain ⟨A', c', hu, hS⟩ := hcells k hk
  exact ⟨b, off, A', c', ea.trans ea2, hu, hS⟩
/-- Two cells and the world behind, carried. -/
abbrev TwoP (W : World) (p1 p2 : Addr) (u1 u2 : Value) (w' : World) : Prop := Hid (Below W.heap.size W w') ∧ w'.cell? p1 = some u1 ∧ w'.cell? p2 = some u2
section
variable {W w1 w' : World} {b1 o1 b2 o2 : Nat} {u1 u2 : Value}
theorem twoP_drew (h : TwoP W ⟨b1, o1, none⟩ ⟨b2, o2, none⟩ u1 u2 w1) : TwoP W ⟨b1, o1, none⟩ ⟨b2, o2, none⟩ u1 u2 w1.drew := ⟨hid h.1.out.drew, h.2⟩
theorem twoP_call (h : TwoP W ⟨b1, o1, none⟩ ⟨b2, o2, none⟩ u1 u2 w1) (hb : Below w1.heap.size w1 w') : TwoP W ⟨b1, o1, none⟩ ⟨b2, o2, none⟩ u1 u2 w' :=
  ⟨hid (h.1.out.trans (hb.mono h.1.out.size)), (hb.cell (p := ⟨b1, o1, none⟩) (cell_lt h.2.1)).trans h.2.1, (hb.cell (p := ⟨b2, o2, none⟩) (cell_lt h.2.2)).trans h.2.2⟩
end

set_option maxRecDepth 100000 in
set_option maxHeartbeats 1000000 in
theorem lists_ne (A1 A2 : Option Addr) (n1 n2 c1 c2 : Nat) (hn : n1 ≠ n2) (w : World) :
    Calls Tryz.prog 80 #[.slice A1 n1 c1, .slice A2 n2 c2] w fun e w' => e = .returned (.bool false) ∧ Below w.heap.size w w' := by
  have h : ¬ ((n1 : Int) = (n2 : Int)) := by omega
  go_enter Tryz.func80, Tryz.ntmps80
  go_wp2
  go_ret
  exact ⟨rfl, Below.refl _ _⟩

set_option maxRecDepth 100000 in
set_option maxHeartbeats 2000000 in
/-- Two lists of the same rows. -/
theorem lists_same (v1 v2 : Value) (ls : List (List UInt8)) (hrow : ∀ x ∈ ls, x.length ≤ 1000000) (hn : ls.length ≤ 1000000) (w : World) (h1 : LsB w v1 ls) (h2 : LsB w v2 ls) :
    Calls Tryz.prog 80 #[v1, v2] w fun e w' => e = .returned (.bool true) ∧ Below w.heap.size w w' := by
  have H1 := hid h1
  have H2 := hid h2
  obtain ⟨A1, c1, rfl, _⟩ := h1
  obtain ⟨A2, c2, rfl, _⟩ := h2
  have HR := hid hrow
  obtain ⟨n, hnl⟩ : ∃ n, ls.length = n := ⟨_, rfl⟩
  have HN := hid hnl
  rw [hnl] at hn ⊢
  clear hnl hrow
  go_enter Tryz.func80, Tryz.ntmps80
  go_wp2
  go_loopw [5] (fun vi wr => ∃ k : Nat, k ≤ n ∧ vi = .int .i64 k ∧ Below w.heap.size w wr) (fun vi _ => n - (intOf vi).toNat)
  case atStart => exact ⟨0, by omega, rfl, Below.refl _ _⟩
  case round =>
    obtain ⟨k, hk, rfl, hb⟩ := hrel
    by_cases hlt : k < n
    · have hkl : k < ls.length := by rw [HN.out]; exact hlt
      have HC : Hid (∀ W u1 u2, SlA W u1 ls[k] → SlA W u2 ls[k] → Calls Tryz.prog 18 #[u1, u2] W fun e w' => e = .returned (.bool true) ∧ Below W.heap.size W w') := fun W u1 u2 q1 q2 => by
        have := same_sla u1 u2 ls[k] ls[k] (HR.out _ (List.getElem_mem hkl)) W q1 q2
        rwa [decide_eq_true rfl] at this
      obtain ⟨b1, o1, A3, c3, ea1, hu1, hs1⟩ := (H1.out.below hb).at k hkl
      obtain ⟨b2, o2, A4, c4, ea2, hu2, hs2⟩ := (H2.out.below hb).at k hkl
      subst ea1; subst ea2
      have hS1 := hid hs1; have hS2 := hid hs2
      obtain ⟨m, hm⟩ : ∃ m, (ls[k]).length = m := ⟨_, rfl⟩
      rw [hm] at hu1 hu2 hS1 hS2
      have HN2 : TwoP wr ⟨b1, o1 + k, none⟩ ⟨b2, o2 + k, none⟩ (.slice A3 m c3) (.slice A4 m c4) wr := ⟨hid (Below.refl _ _), hu1, hu2⟩
      have HN2 := hid HN2
      have p1 : (0 : Int) ≤ (k : Int) := by omega
      have p2 : (k : Int) < (n : Int) := by omega
      clear hs1 hs2 hm
      go_wp2
      go_region_held3 (fun w' => Hid (Below wr.heap.size wr w') ∧ w'.cell? ⟨b1, o1 + k, none⟩ = some (.slice A3 m c3) ∧ w'.cell? ⟨b2, o2 + k, none⟩ = some (.slice A4 m c4))
        (first | exact HN2.out | exact twoP_drew HN2.out | exact twoP_call (by assumption) hbo | exact twoP_drew (by assumption) | assumption)
        ((go_at_call 18; ((with_reducible refine (HC.out _ _ _ ?_ ?_).mono ?_); (first | exact hS1.out | exact SlA.below hS1.out (Below.refl _ _).drew); (first | exact hS2.out | exact SlA.below hS2.out (Below.refl _ _).drew); rintro e w5 ⟨rfl, hbo⟩)))
      all_goals
        rename_i hLast
        go_wp2
        go_roundw
        case rel => exact ⟨k + 1, by omega, by go_num, hb.trans (hLast.1.out.mono hb.size)⟩
        case measure => simp [intOf]; omega
    · go_wp2
      go_ret
      exact ⟨rfl, hb⟩

theorem SlA.holdsA {w : World} {A : Option Addr} {n c : Nat} {l : List UInt8} (h : SlA w (.slice A n c) l) : HoldsA w A l := by
  obtain ⟨_, _, e1, _, _, g1, _⟩ := h
  injection e1 with e1 _ _
  subst e1
  exact g1

theorem empty_row (W : World) (B : Nat) (hB : B ≤ W.heap.size) : Row (W.alloc (.cells #[] 5)) B (.slice (some ⟨W.heap.size, 0, none⟩) 0 0) [] := Row.new W B hB [] (by unfold maxLen; simp)
set_option maxHeartbeats 1000000 in
theorem copy_any (v : Value) (l : List UInt8) (hl : l.length ≤ 1000000) (w : World) (h : SlA w v l) :
    Calls Tryz.prog 58 #[v] w fun e w' => ∃ v', e = .returned v' ∧ Row w' w.heap.size v' l ∧ Below w.heap.size w w' := by
  have HS := hid h
  obtain ⟨A, c, rfl, _⟩ := h
  have HR := hid (empty_row w w.heap.size (Nat.le_refl _))
  have HL := hid hl
  clear hl
  go_enter Tryz.func58, Tryz.ntmps58
  go_wp2_with (at_builtin; refine wpList_append_any rfl (.tmp 5) (.tmp 6) rfl rfl _ w.heap.size _ [] rfl HR.out A c l rfl (HS.out.below (below_new w _)).holdsA (by have := HL.out; simp only [List.length_nil]; omega) (by simp) ?_; intro v' w' hR' hb')
  go_ret
  exact ⟨_, rfl, hR', (below_new w _).trans hb'⟩
end Go.Proofs.YtjbjdkginemedaaGreatDoor

/- Lists of package codec: the bytes of a list, and the list of bytes; the reader's some bytes and its list at any bytes; codec.Parts. Conditions: the reader holds the bytes, a hundred thousand at most. -/
namespace Go.Proofs.YtjbjdkginemedaaGreatDoor
open Go.RowKit

def rowsM : List (List UInt8) → List UInt8
  | [] => []
  | x :: t => numW x.length ++ (x ++ rowsM t)
/-- A list's bytes. -/
def listM (ls : List (List UInt8)) : List UInt8 := numW ls.length ++ rowsM ls
def ptM : Nat → List UInt8 → Option (List (List UInt8) × List UInt8)
  | 0, l => some ([], l)
  | n + 1, l => match tk l with
    | none => none
    | some (k, r) => if k ≤ r.length then (ptM n (r.drop k)).map fun p => (r.take k :: p.1, p.2) else none
/-- The list of bytes. -/
def partsM (l : List UInt8) : Option (List (List UInt8)) := match tk l with
  | none => none
  | some (n, r) => match ptM n r with
    | some (ls, []) => some ls
    | _ => none
theorem ptM_rows : ∀ (ls : List (List UInt8)) (u : List UInt8), (∀ x ∈ ls, x.length < 9223372036854775808) → ptM ls.length (rowsM ls ++ u) = some (ls, u)
  | [], u, _ => rfl
  | x :: t, u, h => by
    have hx := h x (List.mem_cons_self ..)
    show ptM (t.length + 1) _ = _
    rw [ptM]
    have e : rowsM (x :: t) ++ u = numW x.length ++ (x ++ (rowsM t ++ u)) := by
      show (numW x.length ++ (x ++ rowsM t)) ++ u = _
      simp [List.append_assoc]
    rw [e, tk_num _ hx]
    simp only []
    rw [if_pos (by simp), List.drop_left, List.take_left, ptM_rows t u (fun y hy => h y (List.mem_cons_of_mem _ hy))]
    rfl
theorem parts_list (ls : List (List UInt8)) (h : ∀ x ∈ ls, x.length < 9223372036854775808) (hl : ls.length < 9223372036854775808) : partsM (listM ls) = some ls := by
  unfold partsM listM
  rw [tk_num _ hl]
  have := ptM_rows ls [] h
  rw [List.append_nil] at this
  simp only [this]

set_option maxHeartbeats 1000000 in
theorem some_z0 (rb : Nat) (A : Option Addr) (w : World) (h0 : w.cell? ⟨rb, 0, none⟩ = some (.slice A 0 0)) (hf : w.frozen? ⟨rb, 0, none⟩ = false) :
    Calls Tryz.prog 182 #[.pointer (some ⟨rb, 0, none⟩), .int .i64 0] w fun e w' => e = .returned (.slice A 0 0) ∧ w' = w.setCell ⟨rb, 0, none⟩ (.slice A 0 0) := by
  cases A with
  | none =>
    go_enter Tryz.func182, Tryz.ntmps182
    go_wp2_with (go_at_call 171; refine (want_yes _ _).mono ?_; rintro e w1 ⟨rfl, rfl⟩)
    go_ret
    exact ⟨rfl, rfl⟩
  | some ad =>
    go_enter Tryz.func182, Tryz.ntmps182
    go_wp2_with (go_at_call 171; refine (want_yes _ _).mono ?_; rintro e w1 ⟨rfl, rfl⟩)
    go_ret
    exact ⟨rfl, rfl⟩
set_option maxHeartbeats 1000000 in
theorem some_z1 (rb c : Nat) (A : Option Addr) (hc : 0 < c) (_hc2 : c ≤ 9223372036854775807) (w : World) (h0 : w.cell? ⟨rb, 0, none⟩ = some (.slice A 0 c)) (hf : w.frozen? ⟨rb, 0, none⟩ = false) :
    Calls Tryz.prog 182 #[.pointer (some ⟨rb, 0, none⟩), .int .i64 0] w fun e w' => e = .returned (.slice A 0 c) ∧ w' = w.setCell ⟨rb, 0, none⟩ (.slice A 0 c) := by
  cases A with
  | none =>
    go_enter Tryz.func182, Tryz.ntmps182
    go_wp2_with (go_at_call 171; refine (want_yes _ _).mono ?_; rintro e w1 ⟨rfl, rfl⟩)
    go_ret
    exact ⟨rfl, rfl⟩
  | some ad =>
    go_enter Tryz.func182, Tryz.ntmps182
    go_wp2_with (go_at_call 171; refine (want_yes _ _).mono ?_; rintro e w1 ⟨rfl, rfl⟩)
    go_ret
    exact ⟨rfl, rfl⟩

def SoEndC (w : World) (rb : Nat) (l : List UInt8) (k : Nat) (e : Ending) (w' : World) : Prop :=
  But w.heap.size rb w w' ∧ if k ≤ l.length then (∃ A c, e = .returned (.slice A k c) ∧ HoldsA w' A (l.take k)) ∧ St w' rb (l.drop k) else e = otherP
theorem some_any (rb k : Nat) (l : List UInt8) (w : World) (h : St w rb l) :
    Calls Tryz.prog 182 #[.pointer (some ⟨rb, 0, none⟩), .int .i64 k] w (SoEndC w rb l k) := by
  obtain ⟨⟨v, h0, A, c, rfl, h2, h3, h4⟩, hf, hlt⟩ := id h
  unfold SoEndC
  by_cases hk : k ≤ l.length
  · by_cases hl : 0 < l.length
    · obtain ⟨b, off, rfl, hb, hh⟩ := h4 hl
      have hB : ∀ v, But w.heap.size rb w (w.setCell ⟨rb, 0, none⟩ v) := fun v => (But.refl _ _ _).setCell _ _
      have hR : Rd w rb (restV b off l.length c k) (l.drop k) := rd_rest hk h2 h3 hb hh
      have fin : ∀ w' e c', e = .returned (.slice (some ⟨b, off, none⟩) k c') → w' = w.setCell ⟨rb, 0, none⟩ (restV b off l.length c k) → But w.heap.size rb w w' ∧ if k ≤ l.length then (∃ A c, e = .returned (.slice A k c) ∧ HoldsA w' A (l.take k)) ∧ St w' rb (l.drop k) else e = otherP := by
        intro w' e c' he hw
        subst hw
        rw [if_pos hk]
        refine ⟨hB _, ⟨⟨_, c', he, fun _ => ⟨b, off, rfl, fun i hi => ?_⟩⟩, ⟨⟨_, cell_set_rb h0 _, hR.below ((hB _).low hlt)⟩, by rw [World.frozen?_setCell]; exact hf, by simpa using hlt⟩⟩⟩
        have hik : i < k := by rw [List.length_take] at hi; omega
        rw [World.cell?_setCell_other _ _ _ _ (by intro e; have := congrArg Addr.block e; simp at this; omega), hh i (by omega)]
        simp only [List.getD_eq_getElem?_getD, List.getElem?_take_of_lt hik]
      by_cases hkc : k < c
      · refine (some_in rb b off l.length c k hkc hk h2 h3 w h0 hf).mono fun e w' ⟨he, hw⟩ => fin w' e c he ?_
        unfold restV; rw [if_pos hkc]; exact hw
      · have e1 : c = k := by omega
        have e2 : l.length = k := by omega
        have h0' : w.cell? ⟨rb, 0, none⟩ = some (.slice (some ⟨b, off, none⟩) k k) := by rw [h0, e1, e2]
        refine (some_all rb b off k (by omega) w h0' hf).mono fun e w' ⟨he, hw⟩ => fin w' e k he ?_
        unfold restV; rw [if_neg hkc]; exact hw
    · have hl0 : l = [] := List.eq_nil_of_length_eq_zero (by omega)
      subst hl0
      obtain rfl : k = 0 := by simpa using hk
      have fin : ∀ w' e, e = .returned (.slice A 0 c) → w' = w.setCell ⟨rb, 0, none⟩ (.slice A 0 c) → But w.heap.size rb w w' ∧ if (0 : Nat) ≤ ([] : List UInt8).length then (∃ A c, e = .returned (.slice A 0 c) ∧ HoldsA w' A (([] : List UInt8).take 0)) ∧ St w' rb (([] : List UInt8).drop 0) else e = otherP := by
        intro w' e he hw
        subst hw
        rw [if_pos (by simp)]
        have hB : But w.heap.size rb w (w.setCell ⟨rb, 0, none⟩ (.slice A 0 c)) := (But.refl _ _ _).setCell _ _
        exact ⟨hB, ⟨_, c, he, fun h => absurd h (by simp)⟩, ⟨⟨_, cell_set_rb h0 _, A, c, rfl, by simp, h3, fun h => absurd h (by simp)⟩, by rw [World.frozen?_setCell]; exact hf, by simpa using hlt⟩⟩
      by_cases hc : 0 < c
      · exact (some_z1 rb c A hc h3 w h0 hf).mono fun e w' ⟨he, hw⟩ => fin w' e he hw
      · obtain rfl : c = 0 := by omega
        exact (some_z0 rb A w h0 hf).mono fun e w' ⟨he, hw⟩ => fin w' e he hw
  · exact (some_no rb l.length c k A (by omega) w h0).mono fun e w' ⟨he, hw⟩ => ⟨by rw [← hw]; exact But.refl _ _ _, by rw [if_neg hk]; exact he⟩

theorem RowL.but {w w' : World} {B rb : Nat} {v : Value} {xs : List (List UInt8)} (h : RowL w B v xs) (hb : But w.heap.size rb w w') (hr : rb < B) : RowL w' B v xs := by
  obtain ⟨vs, ho, hx⟩ := h
  refine ⟨vs, ?_, fun i x hi => ?_⟩
  · refine ⟨ho.1, ?_⟩
    rcases ho.2 with h2 | ⟨g, cap, cur, rfl, hB, hh, hrest⟩
    · exact .inl h2
    · have hg : g < w.heap.size := by
        rcases Nat.lt_or_ge g w.heap.size with h' | h'
        · exact h'
        · rw [Array.getElem?_eq_none h'] at hh; cases hh
      exact .inr ⟨g, cap, cur, rfl, hB, by rw [hb.block g hg (by omega)]; exact hh, hrest⟩
  · obtain ⟨u, hu, hR⟩ := hx i x hi
    exact ⟨u, hu, hR.but hb hr⟩

def LiEnd (w : World) (rb : Nat) (l : List UInt8) (e : Ending) (w' : World) : Prop :=
  But w.heap.size rb w w' ∧ match partsM l with
    | some ls => ∃ v, e = .returned v ∧ RowL w' w.heap.size v ls
    | none => e = otherP
theorem LiEnd.no {w w' : World} {rb : Nat} {l : List UInt8} (h : partsM l = none) (hb : But w.heap.size rb w w') : LiEnd w rb l otherP w' := by
  unfold LiEnd; rw [h]; exact ⟨hb, rfl⟩
theorem ptM_some {n : Nat} {l r : List UInt8} {k : Nat} (ht : tk l = some (k, r)) (hk : k ≤ r.length) : ptM (n + 1) l = (ptM n (r.drop k)).map fun p => (r.take k :: p.1, p.2) := by
  rw [ptM, ht]; simp only []; rw [if_pos hk]

set_option maxRecDepth 100000 in
set_option maxHeartbeats 4000000 in
theorem rlist_any (rb : Nat) (l : List UInt8) (hl : l.length ≤ 100000) (w : World) (h : St w rb l) :
    Calls Tryz.prog 160 #[.pointer (some ⟨rb, 0, none⟩)] w (LiEnd w rb l) := by
  have HLT := hid h.2.2
  have HN := number_any rb l w h
  unfold NEnd at HN
  cases ht : tk l with
  | none =>
    rw [ht] at HN
    have HN := hid HN
    have HP : Hid (partsM l = none) := by unfold Hid partsM; rw [ht]
    clear h ht
    go_enter Tryz.func160, Tryz.ntmps160
    go_wp2_with (go_at_call 151; refine HN.out.mono ?_; rintro e w1 ⟨hb1, rfl⟩)
    refine ⟨rfl, ?_⟩
    exact LiEnd.no HP.out hb1
  | some p =>
    obtain ⟨n, r0⟩ := p
    rw [ht] at HN
    obtain ⟨j, hj1, _, hj2, hr0, hn128⟩ := tkGo_rest _ _ _ _ _ ht
    have hr0l : r0.length ≤ 100000 := by rw [hr0, List.length_drop]; omega
    have hnb : n < 9223372036854775808 := by
      have hj9 : j ≤ 9 := by omega
      have : 128 ^ j ≤ 128 ^ 9 := Nat.pow_le_pow_right (by decide) hj9
      have : (128 : Nat) ^ 9 = 9223372036854775808 := by decide
      omega
    obtain ⟨y, hy⟩ : ∃ y : Int, (n : Int) = y := ⟨_, rfl⟩
    have HY := hid (And.intro hy hnb)
    have HN : Hid (Calls Tryz.prog 151 #[.pointer (some ⟨rb, 0, none⟩)] w fun e w' => But w.heap.size rb w w' ∧ e = .returned (.int .i64 y) ∧ St w' rb r0) := by rw [← hy]; exact HN
    have HP : Hid (∀ q, ptM n r0 = q → partsM l = match q with | some (ls, []) => some ls | _ => none) := fun q hq => by unfold partsM; rw [ht]; simp only []; rw [hq]
    have HR0 := hid hr0l
    have hy0 : 0 ≤ y := by omega
    have hyb : y ≤ 9223372036854775807 := by omega
    clear h ht hj1 hj2 hr0 hn128 hr0l hy hnb
    go_enter Tryz.func160, Tryz.ntmps160
    go_wp2_with (go_at_call 151; refine HN.out.mono ?_; rintro e w1 ⟨hb1, rfl, hS1⟩)
    clear HN
    have HB1 := hid hb1
    have HS1 := hid hS1
    clear hb1 hS1
    go_loopw [3, 6] (fun vl vi wr => ∃ (i : Nat) (x : Int) (xs : List (List UInt8)) (t : List UInt8), vi = .int .i64 x ∧ 0 ≤ x ∧ x ≤ y ∧ Hid (x = (i : Int)) ∧ Hid (RowL wr w.heap.size vl xs) ∧ Hid (ptM n r0 = (ptM (n - i) t).map fun p => (xs ++ p.1, p.2)) ∧ Hid (St wr rb t) ∧ Hid (But w.heap.size rb w wr) ∧ Hid (xs.length + t.length ≤ 100000)) (fun _ vi _ => y.toNat - (intOf vi).toNat)
    case atStart => exact ⟨0, 0, [], r0, rfl, by omega, hy0, rfl, RowL.none _ _, by unfold Hid; rw [Nat.sub_zero]; cases ptM n r0 <;> simp, HS1.out, HB1.out, by unfold Hid; have := HR0.out; simp; omega⟩
    case round =>
      obtain ⟨i, x, xs, t, rfl, hx0, hxy, HI, HR, HT, HS, HB, HL⟩ := hrel
      by_cases hlt : x < y
      · have HNN : Hid (n - i = (n - (i + 1)) + 1) := by have := HI.out; have := HY.out.1; unfold Hid; omega
        have HO := number_any rb t wr HS.out
        unfold NEnd at HO
        cases ht : tk t with
        | none =>
          rw [ht] at HO
          have HO := hid HO
          have HE : Hid (partsM l = none) := by
            have h1 := HT.out
            rw [HNN.out, ptM, ht] at h1
            exact HP.out _ h1
          clear ht
          go_wp2_with (go_at_call 151; refine HO.out.mono ?_; rintro e w2 ⟨hb2, rfl⟩)
          refine ⟨rfl, ?_⟩
          exact LiEnd.no HE.out (HB.out.trans (hb2.mono HB.out.size))
        | some p =>
          obtain ⟨k, r⟩ := p
          rw [ht] at HO
          obtain ⟨j, hj1, _, hj2, hr0, hk128⟩ := tkGo_rest _ _ _ _ _ ht
          have hrl : r.length + 1 ≤ t.length := by rw [hr0, List.length_drop]; omega
          obtain ⟨z, hz⟩ : ∃ z : Int, (k : Int) = z := ⟨_, rfl⟩
          have HO : Hid (Calls Tryz.prog 151 #[.pointer (some ⟨rb, 0, none⟩)] wr fun e w' => But wr.heap.size rb wr w' ∧ e = .returned (.int .i64 z) ∧ St w' rb r) := by rw [← hz]; exact HO
          by_cases hk : k ≤ r.length
          · have HM : Hid (∀ W, St W rb r → Calls Tryz.prog 182 #[.pointer (some ⟨rb, 0, none⟩), .int .i64 z] W fun e w' => But W.heap.size rb W w' ∧ (∃ A c, e = .returned (.slice A k c) ∧ HoldsA w' A (r.take k)) ∧ St w' rb (r.drop k)) := fun W hW => by
              rw [← hz]
              refine (some_any rb k r W hW).mono fun e w' h => ?_
              unfold SoEndC at h
              rwa [if_pos hk] at h
            have HCl : Hid (∀ W A c, HoldsA W A (r.take k) → Calls Tryz.prog 72 #[.slice A k c] W fun e w' => ∃ v, e = .returned v ∧ Row w' W.heap.size v (r.take k) ∧ Below W.heap.size W w') := fun W A c hA => by
              have h := clone_any A c (r.take k) (by have := HL.out; simp; omega) W hA
              rwa [show (r.take k).length = k by simp; omega] at h
            have HT2 : Hid (ptM n r0 = (ptM (n - (i + 1)) (r.drop k)).map fun p => ((xs ++ [r.take k]) ++ p.1, p.2)) := by
              unfold Hid
              rw [HT.out, HNN.out, ptM_some ht hk, Option.map_map]
              congr 1
              funext p
              simp
            have HL2 : Hid ((xs ++ [r.take k]).length + (r.drop k).length ≤ 100000) := by
              have := HL.out
              unfold Hid
              simp only [List.length_append, List.length_cons, List.length_nil, List.length_drop]
              omega
            have HXL : Hid (xs.length ≤ 1000000) := by have := HL.out; unfold Hid; omega
            clear ht hz hj1 hj2 hr0 hk128 hrl hk
            generalize r.take k = Y at HM HCl HT2 HL2
            go_wp2_with (first
              | (go_at_call 151; refine HO.out.mono ?_; rintro e w2 ⟨hb2, rfl, hS2⟩)
              | (go_at_call 182; refine (HM.out _ hS2).mono ?_; rintro e w3 ⟨hb3, ⟨A3, c3, rfl, hA3⟩, hS3⟩)
              | (go_at_call 72; refine (HCl.out _ _ _ hA3).mono ?_; rintro e w4 ⟨v4, rfl, hR4, hb4⟩; have HR4 := hid hR4; obtain ⟨A4, c4, rfl, _⟩ := hR4.sla)
              | (at_builtin; (refine wpList_append_row rfl (.tmp 8) (.tmp 14) rfl _ w.heap.size _ xs rfl ((((HR.out.but hb2 HLT.out).but hb3 HLT.out).below hb4).below (below_new _ _)) w4.heap.size 1 _ Y rfl (cell_one _ _ _) ((HR4.out.le (Nat.le_trans (Nat.le_trans HB.out.size hb2.size) hb3.size)).alloc _) HXL.out (by have := HB.out.size; have := hb2.size; have := hb3.size; have := hb4.size; simp; omega) ?_; intro v5 w5 hR5 hb5)))
            have hz3 : w.heap.size ≤ w3.heap.size := Nat.le_trans (Nat.le_trans HB.out.size hb2.size) hb3.size
            have hz4 : w.heap.size ≤ w4.heap.size := Nat.le_trans hz3 hb4.size
            have hk5 : Below w.heap.size w3 w5 := ((hb4.mono hz3).alloc hz4 _).trans hb5
            go_roundw
            case rel => exact ⟨i + 1, x + 1, xs ++ [Y], r.drop k, by go_num, by omega, by omega, by unfold Hid; have := HI.out; omega, hR5, HT2.out, hS3.keep (hk5.mono HLT.out), ((HB.out.trans (hb2.mono HB.out.size)).trans (hb3.mono (Nat.le_trans HB.out.size hb2.size))).trans (But.of_below hk5 rb), HL2.out⟩
            case measure => simp [intOf]; omega
          · have HM : Hid (∀ W, St W rb r → Calls Tryz.prog 182 #[.pointer (some ⟨rb, 0, none⟩), .int .i64 z] W fun e w' => But W.heap.size rb W w' ∧ e = otherP) := fun W hW => by
              rw [← hz]
              refine (some_any rb k r W hW).mono fun e w' h => ?_
              unfold SoEndC at h
              rwa [if_neg hk] at h
            have HE : Hid (partsM l = none) := by
              have h1 := HT.out
              rw [HNN.out, ptM, ht] at h1
              simp only [] at h1
              rw [if_neg hk] at h1
              exact HP.out _ h1
            clear ht hz hj1 hj2 hr0 hk128 hrl hk
            go_wp2_with (first
              | (go_at_call 151; refine HO.out.mono ?_; rintro e w2 ⟨hb2, rfl, hS2⟩)
              | (go_at_call 182; refine (HM.out _ hS2).mono ?_; rintro e w3 ⟨hb3, rfl⟩))
            refine ⟨rfl, ?_⟩
            exact LiEnd.no HE.out ((HB.out.trans (hb2.mono HB.out.size)).trans (hb3.mono (Nat.le_trans HB.out.size hb2.size)))
      · have HZ : Hid (n - i = 0) := by have := HI.out; have := HY.out.1; unfold Hid; omega
        have hst := HS.out
        obtain ⟨⟨v, hv, A, c, rfl, hs2, hs3, hs4⟩, hs5, hs6⟩ := hst
        cases t with
        | nil =>
          have hv : wr.cell? ⟨rb, 0, none⟩ = some (.slice A 0 c) := hv
          have HE : Hid (partsM l = some xs) := by
            have h1 := HT.out
            rw [HZ.out, ptM] at h1
            have h2 := HP.out _ h1
            unfold Hid
            simpa using h2
          clear hs2 hs3 hs4 hs5 hs6
          go_wp2_with (go_at_call 171; ((with_reducible refine (want_yes _ _).mono ?_); rintro e w9 ⟨rfl, rfl⟩))
          go_ret
          unfold LiEnd
          rw [HE.out]
          exact ⟨HB.out, _, rfl, HR.out⟩
        | cons y' t =>
          have hv : wr.cell? ⟨rb, 0, none⟩ = some (.slice A (t.length + 1) c) := hv
          have q9 : ((t.length : Int) + 1 == 0) = false := by simp; omega
          have HE : Hid (partsM l = none) := by
            have h1 := HT.out
            rw [HZ.out, ptM] at h1
            have h2 := HP.out _ h1
            unfold Hid
            simpa using h2
          clear hs2 hs3 hs4 hs5 hs6
          go_wp2_with (go_at_call 171; ((with_reducible refine (want_no _ _).mono ?_); rintro e w9 ⟨rfl, rfl⟩))
          refine ⟨rfl, ?_⟩
          exact LiEnd.no HE.out HB.out
end Go.Proofs.YtjbjdkginemedaaGreatDoor

/- codec.List at every list, and codec.Parts at any bytes. Conditions: lists of at most a hundred thousand bytes in all; the slices hold their bytes. -/
namespace Go.Proofs.YtjbjdkginemedaaGreatDoor
open Go.RowKit

set_option maxRecDepth 100000 in
set_option maxHeartbeats 4000000 in
/-- Nothing is written. -/
theorem wwrite_nil (B b : Nat) (l : List UInt8) (A : Option Addr) (c : Nat) (w : World) (h : Wr w B b l) (_hBw : B ≤ w.heap.size) :
    Calls Tryz.prog 122 #[.pointer (some ⟨b, 0, none⟩), .slice A 0 c] w fun e w' => e = .returned (.tuple #[.int .i64 0, .nilIface]) ∧ Wr w' B b l ∧ Below B w w' := by
  have hinfo : (Tryz.prog.info? 5).map (·.size) = some 1 := by
    obtain ⟨i0, hi, -, hz1, -⟩ := info_parts info_u8
    rw [hi]; simp [hz1]
  have hce : ∀ d dLen dCap W, (Builtin.copy_ #[30, 30] 3 #[.slice d dLen dCap, .slice A 0 c]).run Tryz.prog W = .ok (goInt 0) W := fun d dLen dCap W => run_copy_none W 30 30 3 5 d A dLen dCap 0 c Tryz.underlying30 hinfo (by simp)
  have HT : Hid (∀ W, LibA.IsBuffer 114 (fun _ => none) 5 B b 0 (bc l) W → Calls Tryz.prog 156 #[.pointer (some ⟨b, 0, none⟩), .int .i64 0] W fun e w' =>
      e = .returned (.tuple #[.int .i64 l.length, .bool true]) ∧ LibA.IsBuffer 114 (fun _ => none) 5 B b 0 (bc l) w' ∧ Below B W w') := fun W hW => by
    refine (Any.Buffer_tryGrow_at (P := Tryz.prog) (ρ := Tryz.laysM180_ren) { Tryz.laysM180 with } 114 (fun _ => none) B b 0 0 (bc l) W hW).mono ?_
    rintro e w' (⟨rfl, xs, hxl, hI, hbel, hk, hg⟩ | ⟨rfl, rfl, hnr⟩)
    · have hx0 : xs = [] := List.eq_nil_of_length_eq_zero hxl
      subst hx0
      rw [List.append_nil] at hI
      exact ⟨by rw [bc_len], hI, hbel⟩
    · obtain ⟨_, _, _, _, hlt⟩ := hnr
      omega
  obtain ⟨hB, v0, lr, hbk, -, -⟩ := id h
  have c2 : w.cell? ⟨b, 0 + 2, none⟩ = some (.int .i8 lr) := hbk.c2
  have f2 : w.frozen? ⟨b, 0 + 2, none⟩ = false := hbk.f (0 + 2)
  rw [Nat.zero_add] at c2 f2
  have h' := hid (h.setLast 0)
  have hbel0 : Hid (Below B w (w.setCell ⟨b, 2, none⟩ (.int .i8 0))) := (Below.refl B w).setCell (p := ⟨b, 2, none⟩) hB _
  clear hbk v0 hinfo
  go_enter Tryz.func122, Tryz.ntmps122
  go_wp2_with (go_at_call 156; refine (HT.out _ ?_).mono ?_)
  · exact h'.out
  rintro e W1 rfl hI hbel
  clear c2 f2 HT
  have HI := hid hI
  obtain ⟨-, lr2, hc⟩ := hI.cases
  rw [bc_len] at hc
  rcases hc with ⟨hb0, hbk2⟩ | ⟨g, cap, cur, hbk2, -, -, hnc, hcm, -, -, -⟩
  · have d0 : W1.cell? ⟨b, 0, none⟩ = some (.slice none 0 0) := hbk2.c0
    have hl0 : l = [] := by unfold bc at hb0; exact List.map_eq_nil_iff.1 hb0
    subst hl0
    go_wp2
    all_goals (go_ret2; exact ⟨rfl, HI.out, hbel0.out.trans hbel⟩)
  · have d0 : W1.cell? ⟨b, 0, none⟩ = some (.slice (some ⟨g, 0, none⟩) l.length cap) := hbk2.c0
    unfold maxLen at hcm
    go_wp2
    all_goals (go_ret2; exact ⟨rfl, HI.out, hbel0.out.trans hbel⟩)

/-- A slice that holds bytes, or none, is written. -/
theorem wwrite_any (B b : Nat) (l cs : List UInt8) (hl : l.length + cs.length ≤ 1000000) (A : Option Addr) (c : Nat) (w : World) (h : Wr w B b l) (hB : B ≤ w.heap.size) (hA : HoldsA w A cs) (hb : ∀ g, (∃ o s, A = some ⟨g, o, s⟩) → 0 < cs.length → g ≠ b) :
    Calls Tryz.prog 122 #[.pointer (some ⟨b, 0, none⟩), .slice A cs.length c] w fun e w' => e = .returned (.tuple #[.int .i64 cs.length, .nilIface]) ∧ Wr w' B b (l ++ cs) ∧ Below B w w' := by
  by_cases h0 : 0 < cs.length
  · obtain ⟨g, o, rfl, hh⟩ := hA h0
    refine (wwrite' B b l cs hl ⟨g, o, none⟩ cs.length c rfl (hb g ⟨o, none, rfl⟩ h0) w h hB (fun j u hu => ?_)).mono fun e w' ⟨h1, h2, h3⟩ => ⟨h1, h2, h3.below⟩
    have hj : j < cs.length := by
      rcases Nat.lt_or_ge j cs.length with h1 | h1
      · exact h1
      · rw [bc_at, List.getElem?_eq_none h1] at hu; cases hu
    rw [add_zero_off, hh j hj, ← hu, bc_at, List.getElem?_eq_getElem hj, List.getD_eq_getElem?_getD, List.getElem?_eq_getElem hj]
    rfl
  · have e : cs = [] := List.eq_nil_of_length_eq_zero (by omega)
    subst e
    rw [List.append_nil]
    exact wwrite_nil B b l A c w h hB

theorem rowsM_app : ∀ (a b : List (List UInt8)), rowsM (a ++ b) = rowsM a ++ rowsM b
  | [], b => rfl
  | x :: t, b => by
    show numW x.length ++ (x ++ rowsM (t ++ b)) = (numW x.length ++ (x ++ rowsM t)) ++ rowsM b
    rw [rowsM_app t b]; simp [List.append_assoc]
theorem rowsM_next (ls : List (List UInt8)) (i : Nat) (h : i < ls.length) : rowsM (ls.take (i + 1)) = rowsM (ls.take i) ++ (numW (ls[i]).length ++ ls[i]) := by
  rw [List.take_succ_eq_append_getElem h, rowsM_app]
  show _ ++ (numW _ ++ (_ ++ [])) = _
  rw [List.append_nil]
theorem rowsM_take (ls : List (List UInt8)) (i : Nat) : (rowsM (ls.take i)).length ≤ (rowsM ls).length := by
  have := rowsM_app (ls.take i) (ls.drop i)
  rw [List.take_append_drop] at this
  rw [this, List.length_append]; omega

set_option maxHeartbeats 1000000 in
theorem wnumber_big (B b n : Nat) (hn : n < 9223372036854775808) (l : List UInt8) (hl : l.length ≤ 900000) (w : World) (h : Wr w B b l) (hB : B ≤ w.heap.size) :
    Calls Tryz.prog 96 #[.pointer (some ⟨b, 0, none⟩), .int .i64 n] w fun e w' => e = .returned (.tuple #[]) ∧ Wr w' B b (l ++ numW n) ∧ Below B w w' := by
  have hlen := hid (numW_len9 n hn)
  obtain ⟨y, hy⟩ : ∃ y : Int, (n : Int) = y := ⟨_, rfl⟩
  have HY := hid (And.intro hy.symm hn)
  rw [hy]
  have H0 : 0 ≤ y := by omega
  clear hy hn
  go_enter Tryz.func96, Tryz.ntmps96
  go_wp2
  go_loopw [1] (fun vn wr => ∃ (m : Nat) (x : Int) (pre : List UInt8), Hid (x = (m : Int) ∧ m < 9223372036854775808) ∧ 0 ≤ x ∧ vn = .int .i64 x ∧ numW n = pre ++ numW m ∧ Wr wr B b (l ++ pre) ∧ Below B w wr) (fun vn _ => (intOf vn).toNat)
  case atStart => exact ⟨n, y, [], HY, H0, rfl, rfl, by simpa using h, Below.refl _ _⟩
  case round =>
    obtain ⟨m, x, pre, HX, h0, rfl, hp, hW, hbel⟩ := hrel
    have HC : Hid (∀ (z : Int) (c : UInt8), z = (c.toNat : Int) → Calls Tryz.prog 139 #[.pointer (some ⟨b, 0, none⟩), .int .u8 z] wr fun e w' => e = .returned .nilIface ∧ Wr w' B b (l ++ pre ++ [c]) ∧ Below B wr w') := by
      intro z c hz
      have hpl : pre.length ≤ 9 := by have := congrArg List.length hp; have h9 := hlen.out; rw [List.length_append] at this; omega
      exact wbyte B b (l ++ pre) (by rw [List.length_append]; omega) c z hz wr hW (Nat.le_trans hB hbel.size)
    by_cases h128 : x < 128
    · have HE : Hid (x = ((UInt8.ofNat m).toNat : Int)) := by unfold Hid; have := HX.out; rw [UInt8.toNat_ofNat']; omega
      have HN : Hid (numW m = [UInt8.ofNat m]) := numW_small (by have := HX.out; omega)
      have HP := hid hp
      clear hW hlen hp
      go_wp2_with (go_at_call 139; refine (HC.out _ _ HE.out).mono ?_; rintro e w1 ⟨rfl, h1, h2⟩)
      go_end0
      refine ⟨rfl, ?_, hbel.trans h2⟩
      rw [HP.out, HN.out, ← List.append_assoc]
      exact h1
    · have HO : Hid (bits .or .u8 (x % 256) 128 = (((UInt8.ofNat (128 + m % 128)).toNat : Nat) : Int)) := by have := or_more m; rwa [← HX.out.1] at this
      have HN : Hid (numW m = UInt8.ofNat (128 + m % 128) :: numW (m / 128)) := numW_big (by have := HX.out; omega)
      have HP := hid hp
      clear hW hlen hp
      go_wp2_with (go_at_call 139; refine (HC.out _ _ HO.out).mono ?_; rintro e w1 ⟨rfl, h1, h2⟩)
      go_roundw
      case rel =>
        refine ⟨m / 128, x / 128, pre ++ [UInt8.ofNat (128 + m % 128)], ?_, ?_, rfl, ?_, ?_, hbel.trans h2⟩
        · unfold Hid; have := HX.out; omega
        · omega
        · rw [HP.out, HN.out, List.append_assoc]; rfl
        · rw [← List.append_assoc]; exact h1
      case measure => simp [intOf]; omega

theorem LsB.at' {w : World} {A : Option Addr} {n c : Nat} {ls : List (List UInt8)} (h : LsB w (.slice A n c) ls) (k : Nat) (hk : k < ls.length) :
    ∃ b off A' c', A = some ⟨b, off, none⟩ ∧ w.cell? ⟨b, off + k, none⟩ = some (.slice A' (ls[k]).length c') ∧ HoldsA w A' ls[k] := by
  obtain ⟨b, off, A', c', h1, h2, h3⟩ := h.at k hk
  exact ⟨b, off, A', c', h1, h2, h3.holdsA⟩

set_option maxRecDepth 100000 in
set_option maxHeartbeats 4000000 in
theorem list_any (v : Value) (ls : List (List UInt8)) (hlen : ls.length ≤ 100000) (hsz : (rowsM ls).length ≤ 500000) (w : World) (h : LsB w v ls) :
    Calls Tryz.prog 63 #[v] w fun e w' => ∃ v', e = .returned v' ∧ Row w' w.heap.size v' (listM ls) ∧ Below w.heap.size w w' := by
  have HS := hid h
  obtain ⟨A, c, rfl, _⟩ := h
  obtain ⟨n, hn⟩ : ∃ n, ls.length = n := ⟨_, rfl⟩
  have HN := hid hn
  have HZ := hid hsz
  have hn9 : (numW ls.length).length ≤ 9 := numW_len9 _ (by omega)
  have HN9 := hid hn9
  have HNum : Hid (∀ (W : World) (m : Nat) (l : List UInt8), m < 9223372036854775808 → l.length ≤ 900000 → Wr W w.heap.size w.heap.size l → w.heap.size ≤ W.heap.size → Calls Tryz.prog 96 #[.pointer (some ⟨w.heap.size, 0, none⟩), .int .i64 m] W fun e w' => e = .returned (.tuple #[]) ∧ Wr w' w.heap.size w.heap.size (l ++ numW m) ∧ Below w.heap.size W w') :=
    fun W m l hm hl hW hs => wnumber_big w.heap.size w.heap.size m hm l hl W hW hs
  have HW := hid (wr_new w w.heap.size (Nat.le_refl _))
  rw [hn] at hlen ⊢
  clear hn hsz hn9
  go_enter Tryz.func63, Tryz.ntmps63
  go_wp2_with (go_at_call 96; refine (HNum.out _ n [] (by omega) (by decide) HW.out (by simp)).mono ?_; rintro e w1 ⟨rfl, h1, k1⟩)
  have HB1 : Hid (Below w.heap.size w w1) := ((Below.refl _ _).alloc (Nat.le_refl _) _).trans k1
  have HW1 := hid h1
  clear k1 h1
  go_loopw [11] (fun vi wr => ∃ i : Nat, i ≤ n ∧ vi = .int .i64 i ∧ Hid (Wr wr w.heap.size w.heap.size (numW n ++ rowsM (ls.take i))) ∧ Hid (Below w.heap.size w wr)) (fun vi _ => n - (intOf vi).toNat)
  case atStart => exact ⟨0, Nat.zero_le _, rfl, by simpa [rowsM] using HW1, HB1⟩
  case round =>
    obtain ⟨i, hi, rfl, HWi, HB⟩ := hrel
    by_cases hlt : i < n
    · have hil : i < ls.length := by rw [HN.out]; exact hlt
      obtain ⟨b, off, A', c', rfl, hcw, hA⟩ := HS.out.at' i hil
      have hc := (HB.out.cell (p := ⟨b, off + i, none⟩) (cell_lt hcw)).trans hcw
      have hg : ∀ g, (∃ o s, A' = some ⟨g, o, s⟩) → 0 < (ls[i]).length → g ≠ w.heap.size := by
        rintro g ⟨o, s, rfl⟩ h0
        obtain ⟨g2, o3, e4, hh⟩ := hA h0
        injection e4 with e4
        injection e4 with e4 _ _
        have := hh.lt h0
        omega
      clear hcw
      have HX : Hid (rowsM (ls.take (i + 1)) = rowsM (ls.take i) ++ (numW (ls[i]).length ++ ls[i])) := rowsM_next ls i hil
      have HXL : Hid ((numW n ++ rowsM (ls.take i)).length + (numW (ls[i]).length ++ ls[i]).length ≤ 600000) := by
        have h1 := rowsM_take ls (i + 1)
        rw [HX.out, List.length_append] at h1
        have h2 := HZ.out
        have h3 := HN9.out
        rw [HN.out] at h3
        unfold Hid
        rw [List.length_append]
        omega
      have HA' := hid hA
      have HG := hid hg
      generalize ls[i] = Y at *
      have HYL : Hid (Y.length < 9223372036854775808) := by have := HXL.out; unfold Hid; rw [List.length_append, List.length_append] at this; omega
      have HBs : Hid (w.heap.size ≤ wr.heap.size) := HB.out.size
      have HXW : Hid ((numW n ++ rowsM (ls.take i) ++ numW Y.length).length + Y.length ≤ 1000000) := by have := HXL.out; unfold Hid; simp only [List.length_append] at this ⊢; omega
      clear hA hg
      go_wp2_with (first
        | (go_at_call 96; refine (HNum.out _ Y.length _ HYL.out (by have := HXL.out; omega) HWi.out HBs.out).mono ?_; rintro e w2 ⟨rfl, h2, k2⟩; have HB2 := hid (HB.out.trans k2); have HA2 : Hid (HoldsA w2 A' Y) := HA'.out.below HB2.out; have HW2 := hid h2; have HZ2 : Hid (w.heap.size ≤ w2.heap.size) := Nat.le_trans HBs.out k2.size)
        | (go_at_call 122; (refine (wwrite_any w.heap.size w.heap.size _ Y HXW.out A' c' w2 HW2.out HZ2.out HA2.out HG.out).mono ?_; rintro e w3 ⟨rfl, h3, k3⟩)))
      go_roundw
      case rel =>
        refine ⟨i + 1, by omega, by go_num, ?_, HB2.out.trans k3⟩
        rw [HX.out]
        have := h3
        simp only [List.append_assoc] at this ⊢
        exact this
      case measure => simp [intOf]; omega
    · have HE : Hid (listM ls = numW n ++ rowsM (ls.take i)) := by
        unfold Hid listM
        rw [HN.out, List.take_of_length_le (by rw [HN.out]; omega)]
      have HBs : Hid (w.heap.size ≤ wr.heap.size) := HB.out.size
      go_wp2_with (go_at_call 97; refine (wbytes_any _ _ _ _ HWi.out).mono ?_; rintro e w2 ⟨v, rfl, h3, h4⟩)
      go_ret
      exact ⟨_, rfl, by rw [HE.out]; exact h3, HB.out.trans (h4.mono HBs.out)⟩
end Go.Proofs.YtjbjdkginemedaaGreatDoor

/- codec.Parts at any bytes: the list whose bytes they are, or none. Conditions: the slice holds the bytes, a hundred thousand at most. -/
namespace Go.Proofs.YtjbjdkginemedaaGreatDoor
open Go.RowKit

def PClo (rb : Nat) (l : List UInt8) (w : World) (e : Ending) (w' : World) : Prop :=
  Below rb w w' ∧ match partsM l with
    | some ls => e = .returned (.tuple #[]) ∧ ∃ A c, w'.cell? ⟨rb + 1, 0, none⟩ = some (.slice A ls.length c) ∧ LsB w' (.slice A ls.length c) ls
    | none => e = otherP ∧ w'.cell? ⟨rb + 1, 0, none⟩ = some (.slice none 0 0)

set_option maxRecDepth 100000 in
set_option maxHeartbeats 2000000 in
theorem partsclo_any (rb : Nat) (l : List UInt8) (hl : l.length ≤ 100000) (w : World) (h : St w rb l) (hn : w.cell? ⟨rb + 1, 0, none⟩ = some (.slice none 0 0)) (hf : w.frozen? ⟨rb + 1, 0, none⟩ = false) :
    Calls Tryz.prog 159 #[.pointer (some ⟨rb, 0, none⟩), .pointer (some ⟨rb + 1, 0, none⟩)] w (PClo rb l w) := by
  have HN := rlist_any rb l hl w h
  have hlt := h.2.2
  have hlt2 := cell_lt hn
  unfold PClo
  cases hk : partsM l with
  | none =>
    have HN : Hid (Calls Tryz.prog 160 #[.pointer (some ⟨rb, 0, none⟩)] w fun e w' => But w.heap.size rb w w' ∧ e = otherP) := HN.mono fun e w' h => by
      unfold LiEnd at h
      rwa [hk] at h
    clear h hk
    go_enter Tryz.func159, Tryz.ntmps159
    go_wp2_with (go_at_call 160; refine HN.out.mono ?_; rintro e w1 ⟨hb, rfl⟩)
    refine ⟨rfl, ?_⟩
    exact ⟨(hb.mono (Nat.le_of_lt hlt)).below (Nat.le_refl _), rfl, (hb.cell hlt2 (by omega) 0).trans hn⟩
  | some ls =>
    have HN : Hid (Calls Tryz.prog 160 #[.pointer (some ⟨rb, 0, none⟩)] w fun e w' => But w.heap.size rb w w' ∧ ∃ A c, e = .returned (.slice A ls.length c) ∧ RowL w' w.heap.size (.slice A ls.length c) ls) := HN.mono fun e w' h => by
      unfold LiEnd at h
      rw [hk] at h
      obtain ⟨hb, v, he, hR⟩ := h
      obtain ⟨A, c, rfl⟩ := hR.len
      exact ⟨hb, A, c, he, hR⟩
    clear h hk
    obtain ⟨n, hnl⟩ : ∃ n, ls.length = n := ⟨_, rfl⟩
    rw [hnl] at HN
    have HNL := hid hnl
    clear hnl
    go_enter Tryz.func159, Tryz.ntmps159
    go_wp2_with (go_at_call 160; refine HN.out.mono ?_; rintro e w1 ⟨hb, A, c, rfl, hR⟩; have hc1 := (hb.cell hlt2 (by omega) 0).trans hn; have hf1 := (hb.frozen hlt2 (by omega) 0).trans hf)
    go_end0
    refine ⟨((hb.mono (Nat.le_of_lt hlt)).below (Nat.le_refl _)).setCell (p := ⟨rb + 1, 0, none⟩) (by simp) _, rfl, A, c, ?_, ?_⟩
    · rw [HNL.out]; exact World.cell?_setCell_same' _ _ _ (by rw [hc1]; rfl)
    · rw [HNL.out]
      exact (hR.but ((But.refl w1.heap.size (rb + 1) w1).setCell 0 _) (by omega)).lsb

set_option maxHeartbeats 1000000 in
/-- holds over Parts' closure: it ended. -/
theorem holdsP_yes (rb : Nat) (w : World) (Q : World → Prop) (H : Calls Tryz.prog 159 #[.pointer (some ⟨rb, 0, none⟩), .pointer (some ⟨rb + 1, 0, none⟩)] w fun e w' => e = .returned (.tuple #[]) ∧ Q w') :
    Calls Tryz.prog 149 #[.func (.func 159) #[] #[.pointer (some ⟨rb, 0, none⟩), .pointer (some ⟨rb + 1, 0, none⟩)]] w fun e w' => e = .returned (.bool true) ∧ Q w' := by
  have H := hid H
  go_enter_defers Tryz.func149, Tryz.ntmps149
  go_wp2_with (go_at_call 159; refine H.out.mono ?_; rintro e w1 ⟨rfl, hQ⟩)
  refine leaves_cons (f := 169) (args := #[]) (by simp) (by simp [go_sem]) ?_
  refine (catch_none _).mono ?_
  rintro e u' w2 ⟨rfl, rfl, rfl⟩
  simp only [Leaves, settle, results, Tryz.results149, go_sem]
  simp
  exact hQ

set_option maxHeartbeats 1000000 in
/-- holds over Parts' closure: it met something else. -/
theorem holdsP_no (rb : Nat) (w : World) (Q : World → Prop) (hQ : ∀ w1 w2, Q w1 → Below w1.heap.size w1 w2 → Q w2) (H : Calls Tryz.prog 159 #[.pointer (some ⟨rb, 0, none⟩), .pointer (some ⟨rb + 1, 0, none⟩)] w fun e w' => e = otherP ∧ Q w') :
    Calls Tryz.prog 149 #[.func (.func 159) #[] #[.pointer (some ⟨rb, 0, none⟩), .pointer (some ⟨rb + 1, 0, none⟩)]] w fun e w' => e = .returned (.bool false) ∧ Q w' := by
  have H := hid H
  have HQ := hid hQ
  clear hQ
  go_enter_defers Tryz.func149, Tryz.ntmps149
  go_wp2_with (go_at_call 159; refine H.out.mono ?_; rintro e w1 ⟨rfl, hq⟩)
  refine leaves_cons (f := 169) (args := #[]) (by simp) (by simp [go_sem]) ?_
  refine (catch_other [] _).mono ?_
  rintro e u' w2 ⟨rfl, rfl, hb2⟩
  simp [Leaves, settle, results, Tryz.results149, go_sem]
  exact HQ.out _ _ hq hb2

/-- What Parts answers. -/
def PaEnd (l : List UInt8) (w : World) (e : Ending) (w' : World) : Prop :=
  Below w.heap.size w w' ∧ match partsM l with
    | some ls => ∃ v, e = .returned (.tuple #[v, .bool true]) ∧ LsB w' v ls
    | none => e = .returned (.tuple #[.slice none 0 0, .bool false])

set_option maxRecDepth 100000 in
set_option maxHeartbeats 2000000 in
theorem parts_walk (A0 : Option Addr) (m c0 n : Nat) (ok : Bool) (Q : World → Option Addr → Nat → Prop) (w : World)
    (HH : Calls Tryz.prog 149 #[.func (.func 159) #[] #[.pointer (some ⟨w.heap.size, 0, none⟩), .pointer (some ⟨w.heap.size + 1, 0, none⟩)]] ((w.alloc (.cells #[.slice A0 m c0] 152)).alloc (.cells #[.slice none 0 0] 79)) fun e w' => e = .returned (.bool ok) ∧ Below w.heap.size ((w.alloc (.cells #[.slice A0 m c0] 152)).alloc (.cells #[.slice none 0 0] 79)) w' ∧ ∃ A c, w'.cell? ⟨w.heap.size + 1, 0, none⟩ = some (.slice A n c) ∧ Q w' A c) :
    Calls Tryz.prog 127 #[.slice A0 m c0] w fun e w' => Below w.heap.size w w' ∧ ∃ A c, e = .returned (.tuple #[.slice A n c, .bool ok]) ∧ Q w' A c := by
  have hmf : ∀ (fn : Fn) (first cap : Array Value) (w : World), (Instr.makeFunc fn first cap).run Tryz.prog w = .ok (.func fn first cap) w := fun _ _ _ _ => rfl
  have HH := hid HH
  go_enter Tryz.func127, Tryz.ntmps127
  go_wp2_with (go_at_call 149; refine HH.out.mono ?_; rintro e w1 ⟨rfl, hb, A, c, hc, hQ⟩)
  go_ret2
  exact ⟨((below_new w _).alloc (by simp) _).trans hb, A, c, rfl, hQ⟩

theorem parts_any (A : Option Addr) (c : Nat) (l : List UInt8) (hl : l.length ≤ 100000) (hc : l.length ≤ c) (hc2 : c ≤ 9223372036854775807) (w : World) (h : HoldsA w A l) :
    Calls Tryz.prog 127 #[.slice A l.length c] w (PaEnd l w) := by
  obtain ⟨h1, h2, h3, h4, h5, h6⟩ := two_cells w (.slice A l.length c) (.slice none 0 0) 152 79
  obtain ⟨W, hW⟩ : ∃ W, ((w.alloc (.cells #[.slice A l.length c] 152)).alloc (.cells #[.slice none 0 0] 79)) = W := ⟨_, rfl⟩
  rw [hW] at h1 h2 h3 h4 h5 h6
  have hS : St W w.heap.size l := by
    refine ⟨⟨_, h1, A, c, rfl, hc, hc2, fun h0 => ?_⟩, h3, by rw [h5]; omega⟩
    obtain ⟨b, off, e1, e2⟩ := h h0
    exact ⟨b, off, e1, e2.lt h0, e2.below h6 (e2.lt h0)⟩
  have H := partsclo_any w.heap.size l hl W hS h2 h4
  unfold PaEnd
  unfold PClo at H
  cases hk : partsM l with
  | none =>
    rw [hk] at H
    refine (parts_walk A l.length c 0 false (fun _ A c => A = none ∧ c = 0) w ?_).mono fun e w' ⟨hb, A', c', he, hA, hc'⟩ => ⟨hb, by rw [he, hA, hc']⟩
    rw [hW]
    refine (holdsP_no w.heap.size W (fun w' => Below w.heap.size W w' ∧ w'.cell? ⟨w.heap.size + 1, 0, none⟩ = some (.slice none 0 0)) ?_ (H.mono fun e w' hx => ⟨hx.2.1, hx.1, hx.2.2⟩)).mono fun e w' ⟨he, hb, hcl⟩ => ⟨he, hb, none, 0, hcl, rfl, rfl⟩
    rintro w1 w2 ⟨a, b⟩ hb
    have hz := cell_lt b
    exact ⟨a.trans (hb.mono (by omega)), (hb.cell (p := ⟨w.heap.size + 1, 0, none⟩) hz).trans b⟩
  | some ls =>
    rw [hk] at H
    refine (parts_walk A l.length c ls.length true (fun w' A c => LsB w' (.slice A ls.length c) ls) w ?_).mono fun e w' ⟨hb, A', c', he, hQ⟩ => ⟨hb, _, he, hQ⟩
    rw [hW]
    exact (holdsP_yes w.heap.size W (fun w' => Below w.heap.size W w' ∧ ∃ A c, w'.cell? ⟨w.heap.size + 1, 0, none⟩ = some (.slice A ls.length c) ∧ LsB w' (.slice A ls.length c) ls) (H.mono fun e w' hx => ⟨hx.2.1, hx.1, hx.2.2⟩))
end Go.Proofs.YtjbjdkginemedaaGreatDoor
