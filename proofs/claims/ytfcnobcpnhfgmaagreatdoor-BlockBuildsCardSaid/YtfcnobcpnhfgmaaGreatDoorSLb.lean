/- Lists of rows of bytes in memory; SameLists, CopyBytes. Conditions: the slices hold their bytes, rows of a million at most. -/
import Derived.Test.YtfcnobcpnhfgmaaGreatDoorSO
import Derived.Test.YtfcnobcpnhfgmaaGreatDoorQ4
import Derived.Deep.RegionHeld3
import Derived.Laws.BytesArg
import Derived.Laws.MakeOwn
import Derived.Deep.AppendSrc
namespace Go.Proofs.YtfcnobcpnhfgmaaGreatDoor
open Go.RowKit

theorem info_row : (Tryz.prog.info? 30).map (fun i => (i.zero, i.size, i.bytes)) = some (some (.slice none 0 0), 1, 24) := by kernel_rfl

/-- The slice v is the call's own (from block B on) and its elements are rows of the call's own that hold xs. -/
def RowL (w : World) (B : Nat) (v : Value) (xs : List (List UInt8)) : Prop :=
  ∃ vs : List Value, w.ownsRow B 30 1 v xs.length vs ∧ ∀ (i : Nat) (x : List UInt8), xs[i]? = some x → ∃ u, vs[i]? = some u ∧ Row w B u x
theorem RowL.none (w : World) (B : Nat) : RowL w B (.slice none 0 0) [] := ⟨[], ⟨rfl, .inl ⟨rfl, rfl⟩⟩, fun i x h => by simp at h⟩
theorem RowL.len {w : World} {B : Nat} {v : Value} {xs : List (List UInt8)} (h : RowL w B v xs) : ∃ A c, v = .slice A xs.length c := by
  obtain ⟨vs, ⟨_, h⟩, _⟩ := h
  rcases h with ⟨e, h0⟩ | ⟨g, cap, cur, e, _⟩
  · exact ⟨Option.none, 0, by rw [e, h0]⟩
  · exact ⟨_, _, e⟩
theorem RowL.below {w w' : World} {B : Nat} {v : Value} {xs : List (List UInt8)} (h : RowL w B v xs) (hb : Below w.heap.size w w') : RowL w' B v xs := by
  obtain ⟨vs, ho, hr⟩ := h
  refine ⟨vs, ?_, fun i x hx => ?_⟩
  · refine ⟨ho.1, ?_⟩
    rcases ho.2 with h2 | ⟨g, cap, cur, rfl, hB, hh, hrest⟩
    · exact .inl h2
    · refine .inr ⟨g, cap, cur, rfl, hB, ?_, hrest⟩
      rw [hb.block g (by rcases Nat.lt_or_ge g w.heap.size with h' | h'
                         · exact h'
                         · rw [Array.getElem?_eq_none h'] at hh; cases hh)]
      exact hh
  · obtain ⟨u, hu, hR⟩ := hr i x hx
    exact ⟨u, hu, hR.keep hb (hR.block_lt)⟩
/-- A row of bytes does not lie where a list of rows lies. -/
theorem row_ne_list {w : World} {B : Nat} {u v : Value} {x : List UInt8} {n : Nat} {vs : List Value} (h : Row w B u x) (ho : w.ownsRow B 30 1 v n vs) : u.ownBlock = Option.none ∨ u.ownBlock ≠ v.ownBlock := by
  rcases h.2 with ⟨rfl, _⟩ | ⟨g, cap, cur, rfl, _, hh, _⟩
  · exact .inl rfl
  · refine .inr fun e => ?_
    rcases ho.2 with ⟨rfl, _⟩ | ⟨g', cap', cur', rfl, _, hh', _⟩
    · cases e
    · simp only [Value.ownBlock, Option.some.injEq] at e
      rw [← e, hh] at hh'
      simp only [Option.some.injEq, Obj.cells.injEq] at hh'
      exact absurd hh'.2.1 (by decide)
theorem Row.grown {w w' : World} {B : Nat} {u : Value} {x : List UInt8} {row : Option Nat} (h : Row w B u x) (hg : w.grownBy w' row) (hne : u.ownBlock = Option.none ∨ u.ownBlock ≠ row) : Row w' B u x := World.ownsRow.kept h hg hne

section
variable {ops : Array Oper} {rest : List Oper} {o : Oper} {a : Act} {Q : Exit → Act → World → Prop}
/-- append of one row to a list of the call's own. -/
theorem wpList_append_row (hgd : o.guard = Option.none) (s x : Operand)
    (ho : o.op = .call { callee := .builtin .append, args := #[s, x], argTypes := #[79, 79] })
    (w : World) (base : Nat) (v : Value) (xs : List (List UInt8)) (hs : a.eval s = v) (hown : RowL w base v xs)
    (G : Nat) (c : Nat) (u : Value) (y : List UInt8) (hx : a.eval x = .slice (some ⟨G, 0, Option.none⟩) 1 c) (hc : w.cell? ⟨G, 0, Option.none⟩ = some u) (hu : Row w base u y)
    (hlen : xs.length ≤ 1000000) (hbase : base ≤ w.heap.size)
    (h : ∀ v' w', RowL w' base v' (xs ++ [y]) → Below base w w' → wpList Tryz.prog ops Q rest (a.put o.dst v') w') : wpList Tryz.prog ops Q (o :: rest) a w := by
  obtain ⟨i0, hi, hz0, hz1, hz2⟩ := info_parts info_row
  obtain ⟨vs, how, hr⟩ := hown
  have hvl : vs.length = xs.length := by have := how.1; omega
  refine wpList_append_own w hgd s x 79 ho base 30 i0 (.slice Option.none 0 0) 1 24 Tryz.underlying79 hi hz0 hz1 hz2 rfl (by decide) v xs.length vs hs how ⟨G, 0, Option.none⟩ 1 c [u] hx rfl ?_ ?_ (by unfold maxLen; omega) (by omega) hbase ?_
  · intro j e he
    match j, he with
    | 0, he => simp at he; subst he; rw [add_zero_off]; exact hc
    | j + 1, he => simp at he
  · intro e he
    have : e = u := by simpa using he
    subst this
    rcases hu.2 with ⟨rfl, _⟩ | ⟨g, cap, cur, rfl, _⟩ <;> rfl
  · intro v' w' h1 h2 _
    refine h v' w' ⟨vs ++ [u], by rw [List.length_append]; exact h1, fun i x hx => ?_⟩ ((Below.refl _ _).grown h2 hbase fun k hk => (World.ownsRow.lt how k hk).1)
    by_cases hi' : i < xs.length
    · rw [List.getElem?_append_left hi'] at hx
      obtain ⟨u', hu', hR⟩ := hr i x hx
      exact ⟨u', by rw [List.getElem?_append_left (by omega)]; exact hu', hR.grown h2 (row_ne_list hR how)⟩
    · rw [List.getElem?_append_right (by omega)] at hx
      have hi0 : i - xs.length = 0 := by
        rcases Nat.eq_zero_or_pos (i - xs.length) with e | e
        · exact e
        · rw [List.getElem?_eq_none (by simp; omega)] at hx; cases hx
      rw [hi0] at hx
      have ey : y = x := by simpa using hx
      subst ey
      exact ⟨u, by rw [List.getElem?_append_right (by omega), hvl, hi0]; rfl, hu.grown h2 (row_ne_list hu how)⟩
end

/-- The value is a slice of slices that hold ls. -/
def LsA (w : World) (v : Value) (ls : List (List UInt8)) : Prop := ∃ A c, v = .slice A ls.length c ∧ ls.length ≤ c ∧ c ≤ 9223372036854775807 ∧ (A = none → c = 0) ∧
  (0 < ls.length → ∃ b off, A = some ⟨b, off, none⟩ ∧ ∀ i l, ls[i]? = some l → ∃ u, w.cell? ⟨b, off + i, none⟩ = some u ∧ SlA w u l)
theorem LsA.below {w w' : World} {v : Value} {ls : List (List UInt8)} (h : LsA w v ls) (hb : Below w.heap.size w w') : LsA w' v ls := by
  obtain ⟨A, c, h1, h2, h3, h4, h5⟩ := h
  refine ⟨A, c, h1, h2, h3, h4, fun h0 => ?_⟩
  obtain ⟨b, off, e, hh⟩ := h5 h0
  refine ⟨b, off, e, fun i l hl => ?_⟩
  obtain ⟨u, hu, hS⟩ := hh i l hl
  exact ⟨u, (hb.cell (p := ⟨b, off + i, none⟩) (cell_lt hu)).trans hu, hS.below hb⟩
theorem lsa_nil (w : World) : LsA w (.slice none 0 0) [] := ⟨none, 0, rfl, by simp, by omega, fun _ => rfl, fun h => absurd h (by simp)⟩

/-- A list whose rows can be reached one by one. -/
def LsB (w : World) (v : Value) (ls : List (List UInt8)) : Prop := ∃ A c, v = .slice A ls.length c ∧ (0 < ls.length → ∃ b off, A = some ⟨b, off, none⟩ ∧ ∀ i (h : i < ls.length), ∃ A' c', w.cell? ⟨b, off + i, none⟩ = some (.slice A' (ls[i]).length c') ∧ SlA w (.slice A' (ls[i]).length c') ls[i])
theorem LsB.below {w w' : World} {v : Value} {ls : List (List UInt8)} (h : LsB w v ls) (hb : Below w.heap.size w w') : LsB w' v ls := by
  obtain ⟨A, c, e, hh⟩ := h
  refine ⟨A, c, e, fun h0 => ?_⟩
  obtain ⟨b, off, e2, hc⟩ := hh h0
  refine ⟨b, off, e2, fun i hi => ?_⟩
  obtain ⟨A', c', hu, hS⟩ := hc i hi
  exact ⟨A', c', (hb.cell (p := ⟨b, off + i, none⟩) (cell_lt hu)).trans hu, hS.below hb⟩
theorem LsA.lsb {w : World} {v : Value} {ls : List (List UInt8)} (h : LsA w v ls) : LsB w v ls := by
  obtain ⟨A, c, e, _, _, _, hh⟩ := h
  refine ⟨A, c, e, fun h0 => ?_⟩
  obtain ⟨b, off, e2, hc⟩ := hh h0
  refine ⟨b, off, e2, fun i hi => ?_⟩
  obtain ⟨u, hu, hS⟩ := hc i ls[i] (List.getElem?_eq_getElem hi)
  obtain ⟨A', c', e3, hx⟩ := id hS
  subst e3
  exact ⟨A', c', hu, hS⟩
theorem RowL.lsb {w : World} {B : Nat} {v : Value} {ls : List (List UInt8)} (h : RowL w B v ls) : LsB w v ls := by
  obtain ⟨A, c, e⟩ := h.len
  refine ⟨A, c, e, fun h0 => ?_⟩
  obtain ⟨vs, ho, hr⟩ := h
  have hvl : vs.length = ls.length := by have := ho.1; omega
  rcases ho.2 with ⟨_, hz⟩ | ⟨g, cap, cur, e2, _, hh, _, _, _, ht⟩
  · omega
  · rw [e] at e2
    injection e2 with e2 _ _
    refine ⟨g, 0, e2, fun i hi => ?_⟩
    obtain ⟨u, hu, hR⟩ := hr i ls[i] (List.getElem?_eq_getElem hi)
    obtain ⟨A', c', e3, hx⟩ := id hR.sla
    subst e3
    refine ⟨A', c', ?_, hR.sla⟩
    rw [Nat.zero_add, cell_of_row w g i cur _ (0, 0) hh]
    have h2 : (cur.toList.take (ls.length * 1))[i]? = vs[i]? := by rw [ht]
    rw [List.getElem?_take_of_lt (by omega), hu] at h2
    rw [← Array.getElem?_toList, h2]
theorem LsB.take {w : World} {A : Option Addr} {c : Nat} {ls : List (List UInt8)} (h : LsB w (.slice A ls.length c) ls) (k : Nat) (hk : k ≤ ls.length) (c' : Nat) : LsB w (.slice A k c') (ls.take k) := by
  obtain ⟨A1, c1, e, hh⟩ := h
  injection e with e _ _
  subst e
  have hl : (ls.take k).length = k := by rw [List.length_take]; omega
  refine ⟨A, c', by rw [hl], fun h0 => ?_⟩
  rw [hl] at h0
  obtain ⟨b, off, e2, hc⟩ := hh (by omega)
  refine ⟨b, off, e2, fun i hi => ?_⟩
  rw [hl] at hi
  rw [List.getElem_take]
  exact hc i (by omega)

theorem LsB.at {w : World} {A : Option Addr} {n c : Nat} {ls : List (List UInt8)} (h : LsB w (.slice A n c) ls) (k : Nat) (hk : k < ls.length) :
    ∃ b off A' c', A = some ⟨b, off, none⟩ ∧ w.cell? ⟨b, off + k, none⟩ = some (.slice A' (ls[k]).length c') ∧ SlA w (.slice A' (ls[k]).length c') ls[k] := by
  obtain ⟨A1, c1, e0, hh⟩ := h
  injection e0 with ea _ _
  obtain ⟨b, off, ea2, hcells⟩ := hh (by omega)
  obtain ⟨A', c', hu, hS⟩ := hcells k hk
  exact ⟨b, off, A', c', ea.trans ea2, hu, hS⟩
/-- Two cells and the world behind, carried. -/
abbrev TwoP (W : World) (p1 p2 : Addr) (u1 u2 : Value) (w' : World) : Prop := Hid (Below W.heap.size W w') ∧ w'.cell? p1 = some u1 ∧ w'.cell? p2 = some u2
section
variable {W w1 w' : World} {b1 o1 b2 o2 : Nat} {u1 u2 : Value}
theorem twoP_drew (h : TwoP W ⟨b1, o1, none⟩ ⟨b2, o2, none⟩ u1 u2 w1) : TwoP W ⟨b1, o1, none⟩ ⟨b2, o2, none⟩ u1 u2 w1.drew := ⟨hid h.1.out.drew, h.2⟩
theorem twoP_call (h : TwoP W ⟨b1, o1, none⟩ ⟨b2, o2, none⟩ u1 u2 w1) (hb : Below w1.heap.size w1 w') : TwoP W ⟨b1, o1, none⟩ ⟨b2, o2, none⟩ u1 u2 w' :=
  ⟨hid (h.1.out.trans (hb.mono h.1.out.size)), (hb.cell (p := ⟨b1, o1, none⟩) (cell_lt h.2.1)).trans h.2.1, (hb.cell (p := ⟨b2, o2, none⟩) (cell_lt h.2.2)).trans h.2.2⟩
end

set_option maxRecDepth 100000 in
set_option maxHeartbeats 1000000 in
theorem lists_ne (A1 A2 : Option Addr) (n1 n2 c1 c2 : Nat) (hn : n1 ≠ n2) (w : World) :
    Calls Tryz.prog 80 #[.slice A1 n1 c1, .slice A2 n2 c2] w fun e w' => e = .returned (.bool false) ∧ Below w.heap.size w w' := by
  have h : ¬ ((n1 : Int) = (n2 : Int)) := by omega
  go_enter Tryz.func80, Tryz.ntmps80
  go_wp2
  go_ret
  exact ⟨rfl, Below.refl _ _⟩

set_option maxRecDepth 100000 in
set_option maxHeartbeats 2000000 in
/-- Two lists of the same rows. -/
theorem lists_same (v1 v2 : Value) (ls : List (List UInt8)) (hrow : ∀ x ∈ ls, x.length ≤ 1000000) (hn : ls.length ≤ 1000000) (w : World) (h1 : LsB w v1 ls) (h2 : LsB w v2 ls) :
    Calls Tryz.prog 80 #[v1, v2] w fun e w' => e = .returned (.bool true) ∧ Below w.heap.size w w' := by
  have H1 := hid h1
  have H2 := hid h2
  obtain ⟨A1, c1, rfl, _⟩ := h1
  obtain ⟨A2, c2, rfl, _⟩ := h2
  have HR := hid hrow
  obtain ⟨n, hnl⟩ : ∃ n, ls.length = n := ⟨_, rfl⟩
  have HN := hid hnl
  rw [hnl] at hn ⊢
  clear hnl hrow
  go_enter Tryz.func80, Tryz.ntmps80
  go_wp2
  go_loopw [5] (fun vi wr => ∃ k : Nat, k ≤ n ∧ vi = .int .i64 k ∧ Below w.heap.size w wr) (fun vi _ => n - (intOf vi).toNat)
  case atStart => exact ⟨0, by omega, rfl, Below.refl _ _⟩
  case round =>
    obtain ⟨k, hk, rfl, hb⟩ := hrel
    by_cases hlt : k < n
    · have hkl : k < ls.length := by rw [HN.out]; exact hlt
      have HC : Hid (∀ W u1 u2, SlA W u1 ls[k] → SlA W u2 ls[k] → Calls Tryz.prog 18 #[u1, u2] W fun e w' => e = .returned (.bool true) ∧ Below W.heap.size W w') := fun W u1 u2 q1 q2 => by
        have := same_sla u1 u2 ls[k] ls[k] (HR.out _ (List.getElem_mem hkl)) W q1 q2
        rwa [decide_eq_true rfl] at this
      obtain ⟨b1, o1, A3, c3, ea1, hu1, hs1⟩ := (H1.out.below hb).at k hkl
      obtain ⟨b2, o2, A4, c4, ea2, hu2, hs2⟩ := (H2.out.below hb).at k hkl
      subst ea1; subst ea2
      have hS1 := hid hs1; have hS2 := hid hs2
      obtain ⟨m, hm⟩ : ∃ m, (ls[k]).length = m := ⟨_, rfl⟩
      rw [hm] at hu1 hu2 hS1 hS2
      have HN2 : TwoP wr ⟨b1, o1 + k, none⟩ ⟨b2, o2 + k, none⟩ (.slice A3 m c3) (.slice A4 m c4) wr := ⟨hid (Below.refl _ _), hu1, hu2⟩
      have HN2 := hid HN2
      have p1 : (0 : Int) ≤ (k : Int) := by omega
      have p2 : (k : Int) < (n : Int) := by omega
      clear hs1 hs2 hm
      go_wp2
      go_region_held3 (fun w' => Hid (Below wr.heap.size wr w') ∧ w'.cell? ⟨b1, o1 + k, none⟩ = some (.slice A3 m c3) ∧ w'.cell? ⟨b2, o2 + k, none⟩ = some (.slice A4 m c4))
        (first | exact HN2.out | exact twoP_drew HN2.out | exact twoP_call (by assumption) hbo | exact twoP_drew (by assumption) | assumption)
        ((go_at_call 18; ((with_reducible refine (HC.out _ _ _ ?_ ?_).mono ?_); (first | exact hS1.out | exact SlA.below hS1.out (Below.refl _ _).drew); (first | exact hS2.out | exact SlA.below hS2.out (Below.refl _ _).drew); rintro e w5 ⟨rfl, hbo⟩)))
      all_goals
        rename_i hLast
        go_wp2
        go_roundw
        case rel => exact ⟨k + 1, by omega, by go_num, hb.trans (hLast.1.out.mono hb.size)⟩
        case measure => simp [intOf]; omega
    · go_wp2
      go_ret
      exact ⟨rfl, hb⟩

theorem SlA.holdsA {w : World} {A : Option Addr} {n c : Nat} {l : List UInt8} (h : SlA w (.slice A n c) l) : HoldsA w A l := by
  obtain ⟨_, _, e1, _, _, g1, _⟩ := h
  injection e1 with e1 _ _
  subst e1
  exact g1

theorem empty_row (W : World) (B : Nat) (hB : B ≤ W.heap.size) : Row (W.alloc (.cells #[] 5)) B (.slice (some ⟨W.heap.size, 0, none⟩) 0 0) [] := Row.new W B hB [] (by unfold maxLen; simp)
set_option maxHeartbeats 1000000 in
theorem copy_any (v : Value) (l : List UInt8) (hl : l.length ≤ 1000000) (w : World) (h : SlA w v l) :
    Calls Tryz.prog 58 #[v] w fun e w' => ∃ v', e = .returned v' ∧ Row w' w.heap.size v' l ∧ Below w.heap.size w w' := by
  have HS := hid h
  obtain ⟨A, c, rfl, _⟩ := h
  have HR := hid (empty_row w w.heap.size (Nat.le_refl _))
  have HL := hid hl
  clear hl
  go_enter Tryz.func58, Tryz.ntmps58
  go_wp2_with (at_builtin; refine wpList_append_any rfl (.tmp 5) (.tmp 6) rfl rfl _ w.heap.size _ [] rfl HR.out A c l rfl (HS.out.below (below_new w _)).holdsA (by have := HL.out; simp only [List.length_nil]; omega) (by simp) ?_; intro v' w' hR' hb')
  go_ret
  exact ⟨_, rfl, hR', (below_new w _).trans hb'⟩
end Go.Proofs.YtfcnobcpnhfgmaaGreatDoor
