/- Lists of rows of bytes that a call makes; sum.All at any bytes. Conditions: the slice holds its bytes, a million at most. -/
import Derived.Test.YtadehoibjpmhhaaDoorSN
namespace Go.Proofs.YtadehoibjpmhhaaDoor
open Go.RowKit

theorem info_row : (Tryd.prog.info? 29).map (fun i => (i.zero, i.size, i.bytes)) = some (some (.slice none 0 0), 1, 24) := by kernel_rfl

/-- The slice v is the call's own (from block B on) and its elements are rows of the call's own that hold xs. -/
def RowL (w : World) (B : Nat) (v : Value) (xs : List (List UInt8)) : Prop :=
  ∃ vs : List Value, w.ownsRow B 29 1 v xs.length vs ∧ ∀ (i : Nat) (x : List UInt8), xs[i]? = some x → ∃ u, vs[i]? = some u ∧ Row w B u x
theorem RowL.none (w : World) (B : Nat) : RowL w B (.slice none 0 0) [] := ⟨[], ⟨rfl, .inl ⟨rfl, rfl⟩⟩, fun i x h => by simp at h⟩
theorem RowL.len {w : World} {B : Nat} {v : Value} {xs : List (List UInt8)} (h : RowL w B v xs) : ∃ A c, v = .slice A xs.length c := by
  obtain ⟨vs, ⟨_, h⟩, _⟩ := h
  rcases h with ⟨e, h0⟩ | ⟨g, cap, cur, e, _⟩
  · exact ⟨Option.none, 0, by rw [e, h0]⟩
  · exact ⟨_, _, e⟩
theorem RowL.below {w w' : World} {B : Nat} {v : Value} {xs : List (List UInt8)} (h : RowL w B v xs) (hb : Below w.heap.size w w') : RowL w' B v xs := by
  obtain ⟨vs, ho, hr⟩ := h
  refine ⟨vs, ?_, fun i x hx => ?_⟩
  · refine ⟨ho.1, ?_⟩
    rcases ho.2 with h2 | ⟨g, cap, cur, rfl, hB, hh, hrest⟩
    · exact .inl h2
    · refine .inr ⟨g, cap, cur, rfl, hB, ?_, hrest⟩
      rw [hb.block g (by rcases Nat.lt_or_ge g w.heap.size with h' | h'
                         · exact h'
                         · rw [Array.getElem?_eq_none h'] at hh; cases hh)]
      exact hh
  · obtain ⟨u, hu, hR⟩ := hr i x hx
    exact ⟨u, hu, hR.keep hb (hR.block_lt)⟩
/-- A row of bytes does not lie where a list of rows lies. -/
theorem row_ne_list {w : World} {B : Nat} {u v : Value} {x : List UInt8} {n : Nat} {vs : List Value} (h : Row w B u x) (ho : w.ownsRow B 29 1 v n vs) : u.ownBlock = Option.none ∨ u.ownBlock ≠ v.ownBlock := by
  rcases h.2 with ⟨rfl, _⟩ | ⟨g, cap, cur, rfl, _, hh, _⟩
  · exact .inl rfl
  · refine .inr fun e => ?_
    rcases ho.2 with ⟨rfl, _⟩ | ⟨g', cap', cur', rfl, _, hh', _⟩
    · cases e
    · simp only [Value.ownBlock, Option.some.injEq] at e
      rw [← e, hh] at hh'
      simp only [Option.some.injEq, Obj.cells.injEq] at hh'
      exact absurd hh'.2.1 (by decide)
theorem Row.grown {w w' : World} {B : Nat} {u : Value} {x : List UInt8} {row : Option Nat} (h : Row w B u x) (hg : w.grownBy w' row) (hne : u.ownBlock = Option.none ∨ u.ownBlock ≠ row) : Row w' B u x := World.ownsRow.kept h hg hne

section
variable {ops : Array Oper} {rest : List Oper} {o : Oper} {a : Act} {Q : Exit → Act → World → Prop}
/-- append of one row to a list of the call's own. -/
theorem wpList_append_row (hgd : o.guard = Option.none) (s x : Operand)
    (ho : o.op = .call { callee := .builtin .append, args := #[s, x], argTypes := #[41, 41] })
    (w : World) (base : Nat) (v : Value) (xs : List (List UInt8)) (hs : a.eval s = v) (hown : RowL w base v xs)
    (G : Nat) (c : Nat) (u : Value) (y : List UInt8) (hx : a.eval x = .slice (some ⟨G, 0, Option.none⟩) 1 c) (hc : w.cell? ⟨G, 0, Option.none⟩ = some u) (hu : Row w base u y)
    (hlen : xs.length ≤ 1000000) (hbase : base ≤ w.heap.size)
    (h : ∀ v' w', RowL w' base v' (xs ++ [y]) → Below base w w' → wpList Tryd.prog ops Q rest (a.put o.dst v') w') : wpList Tryd.prog ops Q (o :: rest) a w := by
  obtain ⟨i0, hi, hz0, hz1, hz2⟩ := info_parts info_row
  obtain ⟨vs, how, hr⟩ := hown
  have hvl : vs.length = xs.length := by have := how.1; omega
  refine wpList_append_own w hgd s x 41 ho base 29 i0 (.slice Option.none 0 0) 1 24 Tryd.underlying41 hi hz0 hz1 hz2 rfl (by decide) v xs.length vs hs how ⟨G, 0, Option.none⟩ 1 c [u] hx rfl ?_ ?_ (by unfold maxLen; omega) (by omega) hbase ?_
  · intro j e he
    match j, he with
    | 0, he => simp at he; subst he; rw [add_zero_off]; exact hc
    | j + 1, he => simp at he
  · intro e he
    have : e = u := by simpa using he
    subst this
    rcases hu.2 with ⟨rfl, _⟩ | ⟨g, cap, cur, rfl, _⟩ <;> rfl
  · intro v' w' h1 h2 _
    refine h v' w' ⟨vs ++ [u], by rw [List.length_append]; exact h1, fun i x hx => ?_⟩ ((Below.refl _ _).grown h2 hbase fun k hk => (World.ownsRow.lt how k hk).1)
    by_cases hi' : i < xs.length
    · rw [List.getElem?_append_left hi'] at hx
      obtain ⟨u', hu', hR⟩ := hr i x hx
      exact ⟨u', by rw [List.getElem?_append_left (by omega)]; exact hu', hR.grown h2 (row_ne_list hR how)⟩
    · rw [List.getElem?_append_right (by omega)] at hx
      have hi0 : i - xs.length = 0 := by
        rcases Nat.eq_zero_or_pos (i - xs.length) with e | e
        · exact e
        · rw [List.getElem?_eq_none (by simp; omega)] at hx; cases hx
      rw [hi0] at hx
      have ey : y = x := by simpa using hx
      subst ey
      exact ⟨u, by rw [List.getElem?_append_right (by omega), hvl, hi0]; rfl, hu.grown h2 (row_ne_list hu how)⟩
end

def AEnd (w : World) (p : List (List UInt8) × Nat × Nat) (e : Ending) (w' : World) : Prop :=
  ∃ v, e = .returned (.tuple #[v, .int .i64 (p.2.1 : Int), .int .i64 (p.2.2 : Int)]) ∧ RowL w' w.heap.size v p.1 ∧ Below w.heap.size w w'

def AInv (w : World) (l : List UInt8) (vb va : Value) (wr : World) : Prop :=
  ∃ (k : Nat) (xs : List (List UInt8)), k ≤ l.length ∧ va = .int .i64 (k : Int) ∧ Hid (allF l = (xs ++ (allF (l.drop k)).1, k + (allF (l.drop k)).2.1, (allF (l.drop k)).2.2) ∧ xs.length ≤ k) ∧ RowL wr w.heap.size vb xs ∧ Below w.heap.size w wr

set_option maxRecDepth 100000 in
set_option maxHeartbeats 4000000 in
theorem all_in (b off c : Nat) (l : List UInt8) (hlen : l.length ≤ 1000000) (hlc : l.length ≤ c) (hc : c ≤ 9223372036854775807) (w : World) (hh : Holds w b off l) :
    Calls Tryd.prog 42 #[.slice (some ⟨b, off, none⟩) l.length c] w (AEnd w (allF l)) := by
  have HK : Hid (∀ (W : World) (k : Nat), k < l.length → Below w.heap.size w W → Calls Tryd.prog 80 #[.slice (some ⟨b, off + k, none⟩) (l.length - k) (c - k)] W (LEnd W (l.drop k) (nextM (l.drop k)))) := fun W k hk hW => by
    have q := sla_part hlc hc hh k (l.length - k) (by omega)
    rw [List.take_of_length_le (by rw [List.length_drop]; omega)] at q
    exact look_any _ _ (by rw [List.length_drop]; omega) W (q.below hW)
  have HC : Hid (∀ (W : World) (A' : Option Addr) (c' : Nat) (x : List UInt8), x.length ≤ 1000000 → SlA W (.slice A' x.length c') x → Calls Tryd.prog 71 #[.slice A' x.length c'] W fun e w' => ∃ A2 c2, e = .returned (.slice A2 x.length c2) ∧ Hid (Row w' W.heap.size (.slice A2 x.length c2) x) ∧ Below W.heap.size W w') := fun W A' c' x hx hS => by
    refine (clone_sla _ x hx W hS).mono fun e w' ⟨v', he, hR, hb⟩ => ?_
    obtain ⟨A2, c2, rfl, _⟩ := hR.sla
    exact ⟨A2, c2, he, hR, hb⟩
  obtain ⟨m, hm⟩ : ∃ m, l.length = m := ⟨_, rfl⟩
  have HM := hid hm
  rw [hm] at HK hlen hlc
  rw [hm]
  clear hm hh
  go_enter Tryd.func42, Tryd.ntmps42
  go_wp2
  go_loopw [5, 6] (fun vb va wr => AInv w l vb va wr) (fun _ va _ => m - (intOf va).toNat)
  case atStart => exact ⟨0, [], Nat.zero_le _, rfl, ⟨by simp, Nat.le_refl _⟩, RowL.none _ _, Below.refl _ _⟩
  case round =>
    obtain ⟨k, xs, hk, rfl, HE, hL, hb⟩ := hrel
    rw [HM.out] at hk
    by_cases hlt : k < m
    · have hLk := HK.out wr k hlt hb
      obtain ⟨A5, c5, e5⟩ := hL.len
      subst e5
      have HL := hid hL
      cases hn : nextM (l.drop k) with
      | torn =>
        rw [hn] at hLk
        have hLk := hid hLk
        clear hL
        go_wp2_with (go_at_call 80; refine hLk.out.mono ?_; rintro e w1 ⟨rfl, hb1⟩)
        refine bodyPost_ret (results_tmp3 rfl _ _ _) rfl ?_
        have hne : l.drop k ≠ [] := fun e => by have := congrArg List.length e; rw [List.length_drop, List.length_nil] at this; have := HM.out; omega
        have he := HE.out.1
        rw [allF_torn hn hne, List.append_nil, Nat.add_zero] at he
        rw [he]
        exact ⟨_, rfl, HL.out.below hb1, hb.trans (hb1.mono hb.size)⟩
      | bad =>
        rw [hn] at hLk
        have hLk := hid hLk
        clear hL
        go_wp2_with (go_at_call 80; refine hLk.out.mono ?_; rintro e w1 ⟨rfl, hb1⟩)
        refine bodyPost_ret (results_tmp3 rfl _ _ _) rfl ?_
        have hne : l.drop k ≠ [] := fun e => by have := congrArg List.length e; rw [List.length_drop, List.length_nil] at this; have := HM.out; omega
        have he := HE.out.1
        rw [allF_bad hn hne, List.append_nil, Nat.add_zero] at he
        rw [he]
        exact ⟨_, rfl, HL.out.below hb1, hb.trans (hb1.mono hb.size)⟩
      | whole x r =>
        rw [hn] at hLk
        obtain ⟨s, hs⟩ : ∃ s, (l.drop k).length - r.length = s := ⟨_, rfl⟩
        obtain ⟨j, j1, j2, j3, j4, j5, _⟩ := next_less hn
        have hdl : (l.drop k).length = m - k := by rw [List.length_drop, HM.out]
        have hrl : r.length = (l.drop k).length - (j + x.length + 4) := by rw [j4, List.length_drop]
        have hsm : k + s ≤ m := by omega
        have hs1 : 1 ≤ s := by omega
        have hxl : x.length ≤ 1000000 := by omega
        have hLk : Hid (Calls Tryd.prog 80 #[.slice (some ⟨b, off + k, none⟩) (m - k) (c - k)] wr fun e w' => ∃ A' c', e = .returned (.tuple #[.slice A' x.length c', .int .i64 (s : Int), .int .i64 0]) ∧ Hid (SlA w' (.slice A' x.length c') x) ∧ Below wr.heap.size wr w') := by
          refine hLk.mono ?_
          rintro e w' ⟨A', c', rfl, hS, hbb⟩
          exact ⟨A', c', by rw [hs], hS, hbb⟩
        have HN : Hid (allF l = ((xs ++ [x]) ++ (allF (l.drop (k + s))).1, (k + s) + (allF (l.drop (k + s))).2.1, (allF (l.drop (k + s))).2.2) ∧ (xs ++ [x]).length ≤ k + s) := by
          have he := HE.out
          have er : r = l.drop (k + s) := by rw [j4, List.drop_drop]; congr 1; omega
          refine ⟨?_, by rw [List.length_append, List.length_singleton]; omega⟩
          rw [he.1, allF_whole hn, hs, ← er]
          simp only [List.append_assoc, List.singleton_append, Prod.mk.injEq, true_and, and_true]
          omega
        have hXL : xs.length ≤ 1000000 := by have := HE.out.2; omega
        have HXL := hid hXL
        have HXX := hid hxl
        have hbs := hb.size
        clear hL hs hn hXL j1 j2 j3 j4 j5 hdl hrl hxl
        go_wp2_with (first
          | (go_at_call 80; refine hLk.out.mono ?_; rintro e w1 ⟨A', c', rfl, hS, hb1⟩)
          | (go_at_call 71; refine (HC.out _ _ _ _ HXX.out hS.out).mono ?_; rintro e w2 ⟨A2, c2, rfl, hR, hb2⟩)
          | (at_builtin; refine wpList_append_row rfl (.tmp 27) (.tmp 30) rfl _ w.heap.size _ xs rfl (HL.out.below ((hb1.trans (hb2.mono hb1.size)).alloc (Nat.le_trans hb1.size hb2.size) _)) w2.heap.size 1 _ x rfl (cell_one _ _ _) ((hR.out.le (Nat.le_trans hbs hb1.size)).alloc _) HXL.out (by have := hb1.size; have := hb2.size; simp; omega) ?_; intro v' w' hL' hb'))
        go_roundw
        case rel => exact ⟨k + s, xs ++ [x], by rw [HM.out]; exact hsm, by go_num, HN.out, hL', (((hb.trans (hb1.mono hbs)).trans (hb2.mono (Nat.le_trans hbs hb1.size))).alloc (by have := hb1.size; have := hb2.size; omega) _).trans hb'⟩
        case measure => simp [intOf]; omega
    · go_wp2
      refine bodyPost_ret (results_tmp3 rfl _ _ _) rfl ?_
      have hkm : k = l.length := by have := HM.out; omega
      have he := HE.out.1
      rw [hkm, List.drop_length, allF_nil, List.append_nil, Nat.add_zero] at he
      rw [he, hkm]
      exact ⟨_, rfl, hL, hb⟩

set_option maxHeartbeats 1000000 in
theorem all_nil (A : Option Addr) (c : Nat) (w : World) :
    Calls Tryd.prog 42 #[.slice A 0 c] w (AEnd w (allF [])) := by
  rw [allF_nil]
  go_enter Tryd.func42, Tryd.ntmps42
  go_wp2
  go_loopw [5, 6] (fun vb va wr => vb = .slice Option.none 0 0 ∧ va = .int .i64 0 ∧ w = wr) (fun _ _ _ => 0)
  case atStart => exact ⟨rfl, rfl, rfl⟩
  case round =>
    obtain ⟨rfl, rfl, rfl⟩ := hrel
    go_wp2
    refine bodyPost_ret (results_tmp3 rfl _ _ _) rfl ?_
    exact ⟨_, rfl, RowL.none _ _, Below.refl _ _⟩

/-- sum.All of a slice that holds l. -/
theorem all_any (v : Value) (l : List UInt8) (hlen : l.length ≤ 1000000) (w : World) (h : SlA w v l) :
    Calls Tryd.prog 42 #[v] w (AEnd w (allF l)) := by
  obtain ⟨A, c, rfl, h2, h3, h4, _⟩ := h
  by_cases h0 : 0 < l.length
  · obtain ⟨b, off, rfl, hh⟩ := h4 h0
    exact all_in b off c l hlen h2 h3 w hh
  · have : l = [] := List.eq_nil_of_length_eq_zero (by omega)
    subst this
    exact all_nil A c w
end Go.Proofs.YtadehoibjpmhhaaDoor
