/- Several texts in one: SO SLe SNa SCT MfJ. Conditions: as each theorem names them. -/
import Derived.Test.YtofkfafdodhmdaaGreatDoorNC
import Derived.Test.YtofkfafdodhmdaaGreatDoorNB
import Derived.Deep.RegionHeld3
import Derived.Test.YtofkfafdodhmdaaGreatDoorND
import Derived.Laws.BytesArg
import Derived.Laws.MakeOwn
import Derived.Deep.AppendSrc
import Derived.Test.YtofkfafdodhmdaaGreatDoorNE
import Derived.Test.YtofkfafdodhmdaaGreatDoorNF
/- What stands in SOa, behind SLa. Conditions: none. -/

/- Lists of rows of bytes in memory; CopyBytes. Conditions: as each names them. -/
namespace Go.Proofs.YtofkfafdodhmdaaGreatDoor
open Go.RowKit

theorem info_row : (Tryz.prog.info? 25).map (fun i => (i.zero, i.size, i.bytes)) = some (some (.slice none 0 0), 1, 24) := by kernel_rfl

/-- The slice v is the call's own (from block B on) and its elements are rows of the call's own that hold xs. -/
def RowL (w : World) (B : Nat) (v : Value) (xs : List (List UInt8)) : Prop :=
  ∃ vs : List Value, w.ownsRow B 25 1 v xs.length vs ∧ ∀ (i : Nat) (x : List UInt8), xs[i]? = some x → ∃ u, vs[i]? = some u ∧ Row w B u x
theorem RowL.none (w : World) (B : Nat) : RowL w B (.slice none 0 0) [] := ⟨[], ⟨rfl, .inl ⟨rfl, rfl⟩⟩, fun i x h => by simp at h⟩
theorem RowL.len {w : World} {B : Nat} {v : Value} {xs : List (List UInt8)} (h : RowL w B v xs) : ∃ A c, v = .slice A xs.length c := by
  obtain ⟨vs, ⟨_, h⟩, _⟩ := h
  rcases h with ⟨e, h0⟩ | ⟨g, cap, cur, e, _⟩
  · exact ⟨Option.none, 0, by rw [e, h0]⟩
  · exact ⟨_, _, e⟩
theorem RowL.below {w w' : World} {B : Nat} {v : Value} {xs : List (List UInt8)} (h : RowL w B v xs) (hb : Below w.heap.size w w') : RowL w' B v xs := by
  obtain ⟨vs, ho, hr⟩ := h
  refine ⟨vs, ?_, fun i x hx => ?_⟩
  · refine ⟨ho.1, ?_⟩
    rcases ho.2 with h2 | ⟨g, cap, cur, rfl, hB, hh, hrest⟩
    · exact .inl h2
    · refine .inr ⟨g, cap, cur, rfl, hB, ?_, hrest⟩
      rw [hb.block g (by rcases Nat.lt_or_ge g w.heap.size with h' | h'
                         · exact h'
                         · rw [Array.getElem?_eq_none h'] at hh; cases hh)]
      exact hh
  · obtain ⟨u, hu, hR⟩ := hr i x hx
    exact ⟨u, hu, hR.keep hb (hR.block_lt)⟩
/-- A row of bytes does not lie where a list of rows lies. -/
theorem row_ne_list {w : World} {B : Nat} {u v : Value} {x : List UInt8} {n : Nat} {vs : List Value} (h : Row w B u x) (ho : w.ownsRow B 25 1 v n vs) : u.ownBlock = Option.none ∨ u.ownBlock ≠ v.ownBlock := by
  rcases h.2 with ⟨rfl, _⟩ | ⟨g, cap, cur, rfl, _, hh, _⟩
  · exact .inl rfl
  · refine .inr fun e => ?_
    rcases ho.2 with ⟨rfl, _⟩ | ⟨g', cap', cur', rfl, _, hh', _⟩
    · cases e
    · simp only [Value.ownBlock, Option.some.injEq] at e
      rw [← e, hh] at hh'
      simp only [Option.some.injEq, Obj.cells.injEq] at hh'
      exact absurd hh'.2.1 (by decide)
theorem Row.grown {w w' : World} {B : Nat} {u : Value} {x : List UInt8} {row : Option Nat} (h : Row w B u x) (hg : w.grownBy w' row) (hne : u.ownBlock = Option.none ∨ u.ownBlock ≠ row) : Row w' B u x := World.ownsRow.kept h hg hne

section
variable {ops : Array Oper} {rest : List Oper} {o : Oper} {a : Act} {Q : Exit → Act → World → Prop}
/-- append of one row to a list of the call's own. -/
theorem wpList_append_row (hgd : o.guard = Option.none) (s x : Operand)
    (ho : o.op = .call { callee := .builtin .append, args := #[s, x], argTypes := #[47, 47] })
    (w : World) (base : Nat) (v : Value) (xs : List (List UInt8)) (hs : a.eval s = v) (hown : RowL w base v xs)
    (G : Nat) (c : Nat) (u : Value) (y : List UInt8) (hx : a.eval x = .slice (some ⟨G, 0, Option.none⟩) 1 c) (hc : w.cell? ⟨G, 0, Option.none⟩ = some u) (hu : Row w base u y)
    (hlen : xs.length ≤ 1000000) (hbase : base ≤ w.heap.size)
    (h : ∀ v' w', RowL w' base v' (xs ++ [y]) → Below base w w' → wpList Tryz.prog ops Q rest (a.put o.dst v') w') : wpList Tryz.prog ops Q (o :: rest) a w := by
  obtain ⟨i0, hi, hz0, hz1, hz2⟩ := info_parts info_row
  obtain ⟨vs, how, hr⟩ := hown
  have hvl : vs.length = xs.length := by have := how.1; omega
  refine wpList_append_own w hgd s x 47 ho base 25 i0 (.slice Option.none 0 0) 1 24 Tryz.underlying47 hi hz0 hz1 hz2 rfl (by decide) v xs.length vs hs how ⟨G, 0, Option.none⟩ 1 c [u] hx rfl ?_ ?_ (by unfold maxLen; omega) (by omega) hbase ?_
  · intro j e he
    match j, he with
    | 0, he => simp at he; subst he; rw [add_zero_off]; exact hc
    | j + 1, he => simp at he
  · intro e he
    have : e = u := by simpa using he
    subst this
    rcases hu.2 with ⟨rfl, _⟩ | ⟨g, cap, cur, rfl, _⟩ <;> rfl
  · intro v' w' h1 h2 _
    refine h v' w' ⟨vs ++ [u], by rw [List.length_append]; exact h1, fun i x hx => ?_⟩ ((Below.refl _ _).grown h2 hbase fun k hk => (World.ownsRow.lt how k hk).1)
    by_cases hi' : i < xs.length
    · rw [List.getElem?_append_left hi'] at hx
      obtain ⟨u', hu', hR⟩ := hr i x hx
      exact ⟨u', by rw [List.getElem?_append_left (by omega)]; exact hu', hR.grown h2 (row_ne_list hR how)⟩
    · rw [List.getElem?_append_right (by omega)] at hx
      have hi0 : i - xs.length = 0 := by
        rcases Nat.eq_zero_or_pos (i - xs.length) with e | e
        · exact e
        · rw [List.getElem?_eq_none (by simp; omega)] at hx; cases hx
      rw [hi0] at hx
      have ey : y = x := by simpa using hx
      subst ey
      exact ⟨u, by rw [List.getElem?_append_right (by omega), hvl, hi0]; rfl, hu.grown h2 (row_ne_list hu how)⟩
end

/-- The value is a slice of slices that hold ls. -/
def LsA (w : World) (v : Value) (ls : List (List UInt8)) : Prop := ∃ A c, v = .slice A ls.length c ∧ ls.length ≤ c ∧ c ≤ 9223372036854775807 ∧ (A = none → c = 0) ∧
  (0 < ls.length → ∃ b off, A = some ⟨b, off, none⟩ ∧ ∀ i l, ls[i]? = some l → ∃ u, w.cell? ⟨b, off + i, none⟩ = some u ∧ SlA w u l)
theorem LsA.below {w w' : World} {v : Value} {ls : List (List UInt8)} (h : LsA w v ls) (hb : Below w.heap.size w w') : LsA w' v ls := by
  obtain ⟨A, c, h1, h2, h3, h4, h5⟩ := h
  refine ⟨A, c, h1, h2, h3, h4, fun h0 => ?_⟩
  obtain ⟨b, off, e, hh⟩ := h5 h0
  refine ⟨b, off, e, fun i l hl => ?_⟩
  obtain ⟨u, hu, hS⟩ := hh i l hl
  exact ⟨u, (hb.cell (p := ⟨b, off + i, none⟩) (cell_lt hu)).trans hu, hS.below hb⟩
theorem lsa_nil (w : World) : LsA w (.slice none 0 0) [] := ⟨none, 0, rfl, by simp, by omega, fun _ => rfl, fun h => absurd h (by simp)⟩

/-- A list whose rows can be reached one by one. -/
def LsB (w : World) (v : Value) (ls : List (List UInt8)) : Prop := ∃ A c, v = .slice A ls.length c ∧ (0 < ls.length → ∃ b off, A = some ⟨b, off, none⟩ ∧ ∀ i (h : i < ls.length), ∃ A' c', w.cell? ⟨b, off + i, none⟩ = some (.slice A' (ls[i]).length c') ∧ SlA w (.slice A' (ls[i]).length c') ls[i])
theorem LsB.below {w w' : World} {v : Value} {ls : List (List UInt8)} (h : LsB w v ls) (hb : Below w.heap.size w w') : LsB w' v ls := by
  obtain ⟨A, c, e, hh⟩ := h
  refine ⟨A, c, e, fun h0 => ?_⟩
  obtain ⟨b, off, e2, hc⟩ := hh h0
  refine ⟨b, off, e2, fun i hi => ?_⟩
  obtain ⟨A', c', hu, hS⟩ := hc i hi
  exact ⟨A', c', (hb.cell (p := ⟨b, off + i, none⟩) (cell_lt hu)).trans hu, hS.below hb⟩
theorem LsA.lsb {w : World} {v : Value} {ls : List (List UInt8)} (h : LsA w v ls) : LsB w v ls := by
  obtain ⟨A, c, e, _, _, _, hh⟩ := h
  refine ⟨A, c, e, fun h0 => ?_⟩
  obtain ⟨b, off, e2, hc⟩ := hh h0
  refine ⟨b, off, e2, fun i hi => ?_⟩
  obtain ⟨u, hu, hS⟩ := hc i ls[i] (List.getElem?_eq_getElem hi)
  obtain ⟨A', c', e3, hx⟩ := id hS
  subst e3
  exact ⟨A', c', hu, hS⟩
theorem RowL.lsb {w : World} {B : Nat} {v : Value} {ls : List (List UInt8)} (h : RowL w B v ls) : LsB w v ls := by
  obtain ⟨A, c, e⟩ := h.len
  refine ⟨A, c, e, fun h0 => ?_⟩
  obtain ⟨vs, ho, hr⟩ := h
  have hvl : vs.length = ls.length := by have := ho.1; omega
  rcases ho.2 with ⟨_, hz⟩ | ⟨g, cap, cur, e2, _, hh, _, _, _, ht⟩
  · omega
  · rw [e] at e2
    injection e2 with e2 _ _
    refine ⟨g, 0, e2, fun i hi => ?_⟩
    obtain ⟨u, hu, hR⟩ := hr i ls[i] (List.getElem?_eq_getElem hi)
    obtain ⟨A', c', e3, hx⟩ := id hR.sla
    subst e3
    refine ⟨A', c', ?_, hR.sla⟩
    rw [Nat.zero_add, cell_of_row w g i cur _ (0, 0) hh]
    have h2 : (cur.toList.take (ls.length * 1))[i]? = vs[i]? := by rw [ht]
    rw [List.getElem?_take_of_lt (by omega), hu] at h2
    rw [← Array.getElem?_toList, h2]
theorem LsB.take {w : World} {A : Option Addr} {c : Nat} {ls : List (List UInt8)} (h : LsB w (.slice A ls.length c) ls) (k : Nat) (hk : k ≤ ls.length) (c' : Nat) : LsB w (.slice A k c') (ls.take k) := by
  obtain ⟨A1, c1, e, hh⟩ := h
  injection e with e _ _
  subst e
  have hl : (ls.take k).length = k := by rw [List.length_take]; omega
  refine ⟨A, c', by rw [hl], fun h0 => ?_⟩
  rw [hl] at h0
  obtain ⟨b, off, e2, hc⟩ := hh (by omega)
  refine ⟨b, off, e2, fun i hi => ?_⟩
  rw [hl] at hi
  rw [List.getElem_take]
  exact hc i (by omega)

theorem LsB.at {w : World} {A : Option Addr} {n c : Nat} {ls : List (List UInt8)} (h : LsB w (.slice A n c) ls) (k : Nat) (hk : k < ls.length) :
    ∃ b off A' c', A = some ⟨b, off, none⟩ ∧ w.cell? ⟨b, off + k, none⟩ = some (.slice A' (ls[k]).length c') ∧ SlA w (.slice A' (ls[k]).length c') ls[k] := by
  obtain ⟨A1, c1, e0, hh⟩ := h
  injection e0 with ea _ _
  obtain ⟨b, off, ea2, hcells⟩ := hh (by omega)
  obtain ⟨A', c', hu, hS⟩ := hcells k hk
  exact ⟨b, off, A', c', ea.trans ea2, hu, hS⟩
/-- Two cells and the world behind, carried. -/
abbrev TwoP (W : World) (p1 p2 : Addr) (u1 u2 : Value) (w' : World) : Prop := Hid (Below W.heap.size W w') ∧ w'.cell? p1 = some u1 ∧ w'.cell? p2 = some u2
section
variable {W w1 w' : World} {b1 o1 b2 o2 : Nat} {u1 u2 : Value}
theorem twoP_drew (h : TwoP W ⟨b1, o1, none⟩ ⟨b2, o2, none⟩ u1 u2 w1) : TwoP W ⟨b1, o1, none⟩ ⟨b2, o2, none⟩ u1 u2 w1.drew := ⟨hid h.1.out.drew, h.2⟩
theorem twoP_call (h : TwoP W ⟨b1, o1, none⟩ ⟨b2, o2, none⟩ u1 u2 w1) (hb : Below w1.heap.size w1 w') : TwoP W ⟨b1, o1, none⟩ ⟨b2, o2, none⟩ u1 u2 w' :=
  ⟨hid (h.1.out.trans (hb.mono h.1.out.size)), (hb.cell (p := ⟨b1, o1, none⟩) (cell_lt h.2.1)).trans h.2.1, (hb.cell (p := ⟨b2, o2, none⟩) (cell_lt h.2.2)).trans h.2.2⟩
end

theorem SlA.holdsA {w : World} {A : Option Addr} {n c : Nat} {l : List UInt8} (h : SlA w (.slice A n c) l) : HoldsA w A l := by
  obtain ⟨_, _, e1, _, _, g1, _⟩ := h
  injection e1 with e1 _ _
  subst e1
  exact g1

theorem empty_row (W : World) (B : Nat) (hB : B ≤ W.heap.size) : Row (W.alloc (.cells #[] 5)) B (.slice (some ⟨W.heap.size, 0, none⟩) 0 0) [] := Row.new W B hB [] (by unfold maxLen; simp)
set_option maxHeartbeats 1000000 in
theorem copy_any (v : Value) (l : List UInt8) (hl : l.length ≤ 1000000) (w : World) (h : SlA w v l) :
    Calls Tryz.prog 68 #[v] w fun e w' => ∃ v', e = .returned v' ∧ Row w' w.heap.size v' l ∧ Below w.heap.size w w' := by
  have HS := hid h
  obtain ⟨A, c, rfl, _⟩ := h
  have HR := hid (empty_row w w.heap.size (Nat.le_refl _))
  have HL := hid hl
  clear hl
  go_enter Tryz.func68, Tryz.ntmps68
  go_wp2_with (at_builtin; refine wpList_append_any rfl (.tmp 5) (.tmp 6) rfl rfl _ w.heap.size _ [] rfl HR.out A c l rfl (HS.out.below (below_new w _)).holdsA (by have := HL.out; simp only [List.length_nil]; omega) (by simp) ?_; intro v' w' hR' hb')
  go_ret
  exact ⟨_, rfl, hR', (below_new w _).trans hb'⟩
end Go.Proofs.YtofkfafdodhmdaaGreatDoor

/- bytes.Clone of a slice. Conditions: the slice holds its bytes, a million at most. -/
namespace Go.Proofs.YtofkfafdodhmdaaGreatDoor
open Go.RowKit

theorem clone_sla (v : Value) (l : List UInt8) (hl : l.length ≤ 1000000) (w : World) (h : SlA w v l) :
    Calls Tryz.prog 67 #[v] w fun e w' => ∃ v', e = .returned v' ∧ Row w' w.heap.size v' l ∧ Below w.heap.size w w' := by
  obtain ⟨A, c, rfl, _, _, h4, _⟩ := h
  exact clone_any A c l hl w h4
end Go.Proofs.YtofkfafdodhmdaaGreatDoor

/- sum.All at any bytes, over lists in memory. Conditions: the slice holds its bytes, a million at most. -/
namespace Go.Proofs.YtofkfafdodhmdaaGreatDoor
open Go.RowKit

def AEnd (w : World) (p : List (List UInt8) × Nat × Nat) (e : Ending) (w' : World) : Prop :=
  ∃ v, e = .returned (.tuple #[v, .int .i64 (p.2.1 : Int), .int .i64 (p.2.2 : Int)]) ∧ RowL w' w.heap.size v p.1 ∧ Below w.heap.size w w'

def AInv (w : World) (l : List UInt8) (vb va : Value) (wr : World) : Prop :=
  ∃ (k : Nat) (xs : List (List UInt8)), k ≤ l.length ∧ va = .int .i64 (k : Int) ∧ Hid (allF l = (xs ++ (allF (l.drop k)).1, k + (allF (l.drop k)).2.1, (allF (l.drop k)).2.2) ∧ xs.length ≤ k) ∧ RowL wr w.heap.size vb xs ∧ Below w.heap.size w wr

set_option maxRecDepth 100000 in
set_option maxHeartbeats 4000000 in
theorem all_in (b off c : Nat) (l : List UInt8) (hlen : l.length ≤ 1000000) (hlc : l.length ≤ c) (hc : c ≤ 9223372036854775807) (w : World) (hh : Holds w b off l) :
    Calls Tryz.prog 44 #[.slice (some ⟨b, off, none⟩) l.length c] w (AEnd w (allF l)) := by
  have HK : Hid (∀ (W : World) (k : Nat), k < l.length → Below w.heap.size w W → Calls Tryz.prog 78 #[.slice (some ⟨b, off + k, none⟩) (l.length - k) (c - k)] W (LEnd W (l.drop k) (nextM (l.drop k)))) := fun W k hk hW => by
    have q := sla_part hlc hc hh k (l.length - k) (by omega)
    rw [List.take_of_length_le (by rw [List.length_drop]; omega)] at q
    exact look_any _ _ (by rw [List.length_drop]; omega) W (q.below hW)
  have HC : Hid (∀ (W : World) (A' : Option Addr) (c' : Nat) (x : List UInt8), x.length ≤ 1000000 → SlA W (.slice A' x.length c') x → Calls Tryz.prog 67 #[.slice A' x.length c'] W fun e w' => ∃ A2 c2, e = .returned (.slice A2 x.length c2) ∧ Hid (Row w' W.heap.size (.slice A2 x.length c2) x) ∧ Below W.heap.size W w') := fun W A' c' x hx hS => by
    refine (clone_sla _ x hx W hS).mono fun e w' ⟨v', he, hR, hb⟩ => ?_
    obtain ⟨A2, c2, rfl, _⟩ := hR.sla
    exact ⟨A2, c2, he, hR, hb⟩
  obtain ⟨m, hm⟩ : ∃ m, l.length = m := ⟨_, rfl⟩
  have HM := hid hm
  rw [hm] at HK hlen hlc
  rw [hm]
  clear hm hh
  go_enter Tryz.func44, Tryz.ntmps44
  go_wp2
  go_loopw [5, 6] (fun vb va wr => AInv w l vb va wr) (fun _ va _ => m - (intOf va).toNat)
  case atStart => exact ⟨0, [], Nat.zero_le _, rfl, ⟨by simp, Nat.le_refl _⟩, RowL.none _ _, Below.refl _ _⟩
  case round =>
    obtain ⟨k, xs, hk, rfl, HE, hL, hb⟩ := hrel
    rw [HM.out] at hk
    by_cases hlt : k < m
    · have hLk := HK.out wr k hlt hb
      obtain ⟨A5, c5, e5⟩ := hL.len
      subst e5
      have HL := hid hL
      cases hn : nextM (l.drop k) with
      | torn =>
        rw [hn] at hLk
        have hLk := hid hLk
        clear hL
        go_wp2_with (go_at_call 78; refine hLk.out.mono ?_; rintro e w1 ⟨rfl, hb1⟩)
        refine bodyPost_ret (results_tmp3 rfl _ _ _) rfl ?_
        have hne : l.drop k ≠ [] := fun e => by have := congrArg List.length e; rw [List.length_drop, List.length_nil] at this; have := HM.out; omega
        have he := HE.out.1
        rw [allF_torn hn hne, List.append_nil, Nat.add_zero] at he
        rw [he]
        exact ⟨_, rfl, HL.out.below hb1, hb.trans (hb1.mono hb.size)⟩
      | bad =>
        rw [hn] at hLk
        have hLk := hid hLk
        clear hL
        go_wp2_with (go_at_call 78; refine hLk.out.mono ?_; rintro e w1 ⟨rfl, hb1⟩)
        refine bodyPost_ret (results_tmp3 rfl _ _ _) rfl ?_
        have hne : l.drop k ≠ [] := fun e => by have := congrArg List.length e; rw [List.length_drop, List.length_nil] at this; have := HM.out; omega
        have he := HE.out.1
        rw [allF_bad hn hne, List.append_nil, Nat.add_zero] at he
        rw [he]
        exact ⟨_, rfl, HL.out.below hb1, hb.trans (hb1.mono hb.size)⟩
      | whole x r =>
        rw [hn] at hLk
        obtain ⟨s, hs⟩ : ∃ s, (l.drop k).length - r.length = s := ⟨_, rfl⟩
        obtain ⟨j, j1, j2, j3, j4, j5, _⟩ := next_less hn
        have hdl : (l.drop k).length = m - k := by rw [List.length_drop, HM.out]
        have hrl : r.length = (l.drop k).length - (j + x.length + 4) := by rw [j4, List.length_drop]
        have hsm : k + s ≤ m := by omega
        have hs1 : 1 ≤ s := by omega
        have hxl : x.length ≤ 1000000 := by omega
        have hLk : Hid (Calls Tryz.prog 78 #[.slice (some ⟨b, off + k, none⟩) (m - k) (c - k)] wr fun e w' => ∃ A' c', e = .returned (.tuple #[.slice A' x.length c', .int .i64 (s : Int), .int .i64 0]) ∧ Hid (SlA w' (.slice A' x.length c') x) ∧ Below wr.heap.size wr w') := by
          refine hLk.mono ?_
          rintro e w' ⟨A', c', rfl, hS, hbb⟩
          exact ⟨A', c', by rw [hs], hS, hbb⟩
        have HN : Hid (allF l = ((xs ++ [x]) ++ (allF (l.drop (k + s))).1, (k + s) + (allF (l.drop (k + s))).2.1, (allF (l.drop (k + s))).2.2) ∧ (xs ++ [x]).length ≤ k + s) := by
          have he := HE.out
          have er : r = l.drop (k + s) := by rw [j4, List.drop_drop]; congr 1; omega
          refine ⟨?_, by rw [List.length_append, List.length_singleton]; omega⟩
          rw [he.1, allF_whole hn, hs, ← er]
          simp only [List.append_assoc, List.singleton_append, Prod.mk.injEq, true_and, and_true]
          omega
        have hXL : xs.length ≤ 1000000 := by have := HE.out.2; omega
        have HXL := hid hXL
        have HXX := hid hxl
        have hbs := hb.size
        clear hL hs hn hXL j1 j2 j3 j4 j5 hdl hrl hxl
        go_wp2_with (first
          | (go_at_call 78; refine hLk.out.mono ?_; rintro e w1 ⟨A', c', rfl, hS, hb1⟩)
          | (go_at_call 67; refine (HC.out _ _ _ _ HXX.out hS.out).mono ?_; rintro e w2 ⟨A2, c2, rfl, hR, hb2⟩)
          | (at_builtin; refine wpList_append_row rfl (.tmp 27) (.tmp 30) rfl _ w.heap.size _ xs rfl (HL.out.below ((hb1.trans (hb2.mono hb1.size)).alloc (Nat.le_trans hb1.size hb2.size) _)) w2.heap.size 1 _ x rfl (cell_one _ _ _) ((hR.out.le (Nat.le_trans hbs hb1.size)).alloc _) HXL.out (by have := hb1.size; have := hb2.size; simp; omega) ?_; intro v' w' hL' hb'))
        go_roundw
        case rel => exact ⟨k + s, xs ++ [x], by rw [HM.out]; exact hsm, by go_num, HN.out, hL', (((hb.trans (hb1.mono hbs)).trans (hb2.mono (Nat.le_trans hbs hb1.size))).alloc (by have := hb1.size; have := hb2.size; omega) _).trans hb'⟩
        case measure => simp [intOf]; omega
    · go_wp2
      refine bodyPost_ret (results_tmp3 rfl _ _ _) rfl ?_
      have hkm : k = l.length := by have := HM.out; omega
      have he := HE.out.1
      rw [hkm, List.drop_length, allF_nil, List.append_nil, Nat.add_zero] at he
      rw [he, hkm]
      exact ⟨_, rfl, hL, hb⟩

set_option maxHeartbeats 1000000 in
theorem all_nil (A : Option Addr) (c : Nat) (w : World) :
    Calls Tryz.prog 44 #[.slice A 0 c] w (AEnd w (allF [])) := by
  rw [allF_nil]
  go_enter Tryz.func44, Tryz.ntmps44
  go_wp2
  go_loopw [5, 6] (fun vb va wr => vb = .slice Option.none 0 0 ∧ va = .int .i64 0 ∧ w = wr) (fun _ _ _ => 0)
  case atStart => exact ⟨rfl, rfl, rfl⟩
  case round =>
    obtain ⟨rfl, rfl, rfl⟩ := hrel
    go_wp2
    refine bodyPost_ret (results_tmp3 rfl _ _ _) rfl ?_
    exact ⟨_, rfl, RowL.none _ _, Below.refl _ _⟩

/-- sum.All of a slice that holds l. -/
theorem all_any (v : Value) (l : List UInt8) (hlen : l.length ≤ 1000000) (w : World) (h : SlA w v l) :
    Calls Tryz.prog 44 #[v] w (AEnd w (allF l)) := by
  obtain ⟨A, c, rfl, h2, h3, h4, _⟩ := h
  by_cases h0 : 0 < l.length
  · obtain ⟨b, off, rfl, hh⟩ := h4 h0
    exact all_in b off c l hlen h2 h3 w hh
  · have : l = [] := List.eq_nil_of_length_eq_zero (by omega)
    subst this
    exact all_nil A c w
end Go.Proofs.YtofkfafdodhmdaaGreatDoor

/- package manifest's Read. Conditions: the slice holds its bytes, a million at most. -/
namespace Go.Proofs.YtofkfafdodhmdaaGreatDoor
open Go.RowKit

theorem allF_rows : ∀ (n : Nat) (l : List UInt8), l.length ≤ n → (allF l).1.length ≤ l.length ∧ (∀ x ∈ (allF l).1, x.length ≤ l.length) ∧ (allF l).2.1 ≤ l.length
  | n, [], _ => by rw [allF_nil]; exact ⟨by simp, fun x hx => (by cases hx), by simp⟩
  | 0, y :: t, h => by simp at h
  | n + 1, y :: t, h => by
    cases hn : nextM (y :: t) with
    | torn => rw [allF_torn hn (by simp)]; exact ⟨by simp, fun x hx => (by cases hx), by simp⟩
    | bad => rw [allF_bad hn (by simp)]; exact ⟨by simp, fun x hx => (by cases hx), by simp⟩
    | whole x r =>
      obtain ⟨k, h1, h2, h3, h4, _⟩ := next_less hn
      have hr : r.length + (k + x.length + 4) = (y :: t).length := by rw [h4, List.length_drop]; omega
      obtain ⟨i1, i2, i3⟩ := allF_rows n r (by omega)
      rw [allF_whole hn]
      refine ⟨by rw [List.length_cons]; omega, fun z hz => ?_, by show (y :: t).length - r.length + (allF r).2.1 ≤ _; omega⟩
      rcases List.mem_cons.1 hz with e | e
      · rw [e]; omega
      · have := i2 z e; omega
theorem foldS_take {xs : List (List UInt8)} {k : Nat} (hk : k < xs.length) {s : Sta} (h : foldS true sta0 (xs.take k) = some s) :
    foldS true sta0 (xs.take (k + 1)) = match decS xs[k] with
      | some x => if k = 0 ∨ x.g = s.g + 1 then some x else none
      | none => none := by
  rw [List.take_succ_eq_append_getElem hk, foldS_app, h]
  show foldS _ s [xs[k]] = _
  rw [foldS_cons]
  cases decS xs[k] with
  | none => rfl
  | some x =>
    have e : (true && (xs.take k).isEmpty) = true ↔ k = 0 := by
      rw [Bool.true_and, List.isEmpty_iff]
      constructor
      · intro q
        have := congrArg List.length q
        rw [List.length_take, List.length_nil] at this
        omega
      · intro q
        rw [q, List.take_zero]
    show (if (true && (xs.take k).isEmpty) = true ∨ x.g = s.g + 1 then foldS false x [] else none) = if k = 0 ∨ x.g = s.g + 1 then some x else none
    by_cases q : k = 0 ∨ x.g = s.g + 1
    · rw [if_pos q, if_pos (q.imp_left e.2)]; rfl
    · rw [if_neg q, if_neg fun h => q (h.imp_left e.1)]
theorem foldS_no {xs : List (List UInt8)} (k : Nat) (h : foldS true sta0 (xs.take k) = none) : foldS true sta0 xs = none := by
  have e : xs = xs.take k ++ xs.drop k := (List.take_append_drop k xs).symm
  rw [e, foldS_app, h]
  rfl
/-- What Read ends with. -/
def RdsEnd (w : World) (l : List UInt8) (e : Ending) (w' : World) : Prop :=
  (match readS l with
    | some (s, n) => ∃ v, e = .returned (.tuple #[staV s.g s.a s.n v, .int .i64 (n : Int), .int .i64 0]) ∧ SlI w' v s.t ∧ OwnN v w.heap.size w'.heap.size
    | none => e = .returned (.tuple #[staV 0 0 0 (.slice Option.none 0 0), .int .i64 0, .int .i64 20])) ∧ Below w.heap.size w w'
/-- The last state stands in a block. -/
def LastS (w : World) (s b : Nat) (T : TypeId) (x : Sta) (V : Value) : Prop :=
  Blk w b T #[.int .i64 x.g, .int .i64 x.a, .int .i64 x.n, V] ∧ SlI w V x.t ∧ OwnN V (b + 1) w.heap.size ∧ Blk w s T #[.int .i64 0, .int .i64 0, .int .i64 0, .slice Option.none 0 0]
theorem LastS.keep9 {w w' : World} {s b : Nat} {T : TypeId} {x : Sta} {V : Value} (h : LastS w s b T x V) (hb : Below w.heap.size w w') : LastS w' s b T x V :=
  ⟨h.1.keep hb h.1.lt, h.2.1.below hb, h.2.2.1.mono (Nat.le_refl _) hb.size, h.2.2.2.keep hb h.2.2.2.lt⟩
theorem LastS.set9 {w : World} {s b : Nat} {T : TypeId} {x y : Sta} {V U : Value} (h : LastS w s b T x V) (hU : SlI w U y.t) (hO : OwnN U (b + 1) w.heap.size) (hs : s < b) :
    LastS ((((w.setCell ⟨b, 0, Option.none⟩ (.int .i64 y.g)).setCell ⟨b, 1, Option.none⟩ (.int .i64 y.a)).setCell ⟨b, 2, Option.none⟩ (.int .i64 y.n)).setCell ⟨b, 3, Option.none⟩ U) s b T y U := by
  have hn : U.ownBlock ≠ some b := fun e => by have := hO b e; omega
  refine ⟨?_, (((hU.set hn).set hn).set hn).set hn, hO.mono (Nat.le_refl _) (by simp), ?_⟩
  · have := (((h.1.set 0 (.int .i64 y.g)).set 1 (.int .i64 y.a)).set 2 (.int .i64 y.n)).set 3 U
    exact this
  · have hb : Below b w ((((w.setCell ⟨b, 0, Option.none⟩ (.int .i64 y.g)).setCell ⟨b, 1, Option.none⟩ (.int .i64 y.a)).setCell ⟨b, 2, Option.none⟩ (.int .i64 y.n)).setCell ⟨b, 3, Option.none⟩ U) := by
      iterate 4 (refine Below.setCell ?_ (by simp) _)
      exact Below.refl _ _
    exact h.2.2.2.keep hb hs

set_option maxRecDepth 100000 in
set_option maxHeartbeats 16000000 in
theorem read9_any (v : Value) (l : List UInt8) (hlen : l.length ≤ 1000000) (w : World) (h : SlA w v l) :
    Calls Tryz.prog 13 #[v] w (RdsEnd w l) := by
  obtain ⟨xs, hxs⟩ : ∃ xs, (allF l).1 = xs := ⟨_, rfl⟩
  obtain ⟨N, hN⟩ : ∃ N, (allF l).2.1 = N := ⟨_, rfl⟩
  obtain ⟨Q, hQ⟩ : ∃ Q, (allF l).2.2 = Q := ⟨_, rfl⟩
  have HA : Hid (∀ W, Below w.heap.size w W → Calls Tryz.prog 44 #[v] W fun e w' => ∃ A5 c5, e = .returned (.tuple #[.slice A5 xs.length c5, .int .i64 (N : Int), .int .i64 (Q : Int)]) ∧ Hid (LsB w' (.slice A5 xs.length c5) xs) ∧ Below W.heap.size W w') := fun W hW => by
    refine (all_any v l hlen W (h.below hW)).mono ?_
    rintro e w' ⟨u, rfl, hR, hb⟩
    rw [hxs] at hR
    obtain ⟨A5, c5, rfl⟩ := hR.len
    rw [hN, hQ]
    exact ⟨A5, c5, rfl, hR.lsb, hb⟩
  have HRw : Hid ((∀ x ∈ xs, x.length ≤ 1000000) ∧ xs.length ≤ 1000000) := by
    obtain ⟨i1, i2, _⟩ := allF_rows _ l (Nat.le_refl _)
    rw [hxs] at i1 i2
    exact ⟨fun x hx => Nat.le_trans (i2 x hx) hlen, by omega⟩
  have HE : Hid (readS l = if Q = 2 then none else (foldS true sta0 xs).map fun s => (s, N)) := by unfold Hid readS; rw [hQ, hxs, hN]
  have HF : Hid (∀ e w', e = .returned (.tuple #[staV 0 0 0 (.slice Option.none 0 0), .int .i64 0, .int .i64 20]) → readS l = none → Below w.heap.size w w' → RdsEnd w l e w') := fun e w' h1 h2 h3 => ⟨by rw [h2]; exact h1, h3⟩
  obtain ⟨A, c, rfl, _⟩ := h
  generalize l.length = m at *
  clear hxs hN hQ hlen
  obtain ⟨m5, hm5⟩ : ∃ m5, xs.length = m5 := ⟨_, rfl⟩
  rw [hm5] at HA HRw
  have HM := hid hm5
  clear hm5
  go_enter Tryz.func13, Tryz.ntmps13
  go_upto_region 2 with (go_at_call 44; refine (HA.out _ (below_new _ _)).mono ?_; rintro e w1 ⟨A5, c5, rfl, HL, hb⟩)
  have HB1 : Hid (Blk w1 w.heap.size 29 #[.int .i64 0, .int .i64 0, .int .i64 0, .slice Option.none 0 0] ∧ Below w.heap.size w w1) := ⟨(Blk.new w _ _).keep hb (by simp), (below_new w _).trans (hb.mono (by simp))⟩
  clear hb HA
  by_cases hq2 : Q = 2
  · subst hq2
    have HN : Hid (readS l = none) := by unfold Hid; rw [HE.out, if_pos rfl]
    have r0 : w1.cell? ⟨w.heap.size, 0, Option.none⟩ = some (.int .i64 0) := HB1.out.1.cell 0
    have r1 : w1.cell? ⟨w.heap.size, 1, Option.none⟩ = some (.int .i64 0) := HB1.out.1.cell 1
    have r2 : w1.cell? ⟨w.heap.size, 2, Option.none⟩ = some (.int .i64 0) := HB1.out.1.cell 2
    have r3 : w1.cell? ⟨w.heap.size, 3, Option.none⟩ = some (.slice Option.none 0 0) := HB1.out.1.cell 3
    have rf : ∀ j, w1.frozen? ⟨w.heap.size, j, Option.none⟩ = false := fun j => HB1.out.1.free j
    go_wp2
    refine bodyPost_ret (v := .tuple #[staV 0 0 0 (.slice Option.none 0 0), .int .i64 0, .int .i64 20]) (by simp [results, Tryz.results13, go_sem, cell_set_eq9, r0, r1, r2, r3]) rfl ?_
    refine HF.out _ _ rfl HN.out ?_
    iterate 4 (refine Below.setCell ?_ (by simp) _)
    exact HB1.out.2
  have hq3 : ((Q : Int) == 2) = false := by simp; omega
  have HE2 : Hid (readS l = (foldS true sta0 xs).map fun s => (s, N)) := by unfold Hid; rw [HE.out, if_neg hq2]
  clear HE
  go_upto_region 5 with (fail)
  obtain ⟨b8, hb8⟩ : ∃ b8, w1.heap.size = b8 := ⟨_, rfl⟩
  have HW2 : Hid (Below w.heap.size w w1 ∧ LsB w1 (.slice A5 m5 c5) xs ∧ Blk w1 w.heap.size 29 #[.int .i64 0, .int .i64 0, .int .i64 0, .slice Option.none 0 0]) := ⟨HB1.out.2, HL.out, HB1.out.1⟩
  refine wp_ltc (fun W => Hid (LastS W w.heap.size b8 29 sta0 (.slice Option.none 0 0) ∧ Below b8 w1 W ∧ b8 < W.heap.size)) ?_ ?_
  · rw [← hb8]
    have e1 := below_new w1 (.cells #[.int .i64 0, .int .i64 0, .int .i64 1, .slice Option.none 0 0] 29)
    exact ⟨⟨Blk.new _ _ _, slI_nil _, fun k q => (by cases q), HW2.out.2.2.keep e1 HW2.out.2.2.lt⟩, e1, by simp⟩
  rw [hb8]
  intro W HW
  have hsb : w.heap.size < b8 := by rw [← hb8]; exact HW2.out.2.2.lt
  have HL3 : Hid (∀ W', Below b8 w1 W' → LsB W' (.slice A5 m5 c5) xs ∧ Below w.heap.size w W') := fun W' h' => ⟨HW2.out.2.1.below (by rw [hb8]; exact h'), HW2.out.1.trans (h'.mono (by omega))⟩
  clear HL HB1 hb8 HW2
  go_wp2
  go_loopw [25] (fun vi wr => ∃ (k : Nat) (x : Sta) (A3 : Option Addr) (m3 c3 : Nat), k ≤ m5 ∧ vi = .int .i64 k ∧ Hid (foldS true sta0 (xs.take k) = some x ∧ (0 < k → x.right = true)) ∧ Hid (LastS wr w.heap.size b8 29 x (.slice A3 m3 c3) ∧ Below b8 w1 wr ∧ b8 < wr.heap.size)) (fun vi _ => m5 - (intOf vi).toNat)
  case atStart => exact ⟨0, sta0, _, _, _, Nat.zero_le _, rfl, ⟨by rw [List.take_zero]; rfl, fun h => by omega⟩, HW.out.1, HW.out.2.1, HW.out.2.2⟩
  case round =>
    obtain ⟨k, x, A3, m3, c3, hk, rfl, HX, HS⟩ := hrel
    obtain ⟨g, a, n, t⟩ := x
    have hBW : Hid (Below w.heap.size w wr) := (HL3.out wr HS.out.2.1).2
    have hLs : Hid (LsB wr (.slice A5 m5 c5) xs) := (HL3.out wr HS.out.2.1).1
    clear HW
    by_cases hlt : k < m5
    · have hkl : k < xs.length := by rw [HM.out]; exact hlt
      have hm6 : m5 ≤ 1000000 := HRw.out.2
      obtain ⟨B, o, A', c', rfl, hcell, hS⟩ := hLs.out.at k hkl
      obtain ⟨y, hy⟩ : ∃ y, xs[k] = y := ⟨_, rfl⟩
      have HT := hid (foldS_take hkl HX.out.1)
      rw [hy] at hcell hS HT
      have hyl : y.length ≤ 1000000 := HRw.out.1 y (by rw [← hy]; exact List.getElem_mem hkl)
      obtain ⟨my, hmy⟩ : ∃ my, y.length = my := ⟨_, rfl⟩
      have HD := decode9_any (.slice A' y.length c') y hyl wr hS
      rw [hmy] at hcell HD
      have hs8 := HS.out.1.1.lt
      have q0 : wr.cell? ⟨b8, 0, Option.none⟩ = some (.int .i64 g) := HS.out.1.1.cell 0
      clear hy hyl hS hmy
      cases hd : decS y with
      | none =>
        have HN : Hid (readS l = none) := by
          have h1 := HT.out
          rw [hd] at h1
          unfold Hid
          rw [HE2.out, foldS_no (k + 1) h1]
          rfl
        rw [hd] at HD
        have HD := hid HD
        go_upto_region 10 with (go_at_call 11; refine HD.out.mono ?_; rintro e w3 ⟨rfl, hb3⟩)
        refine wp_ltc (fun W => Hid (Blk W w.heap.size 29 #[.int .i64 0, .int .i64 0, .int .i64 0, .slice Option.none 0 0] ∧ Below w.heap.size w W)) ?_ ?_
        · have e1 := below_new w3 (.cells #[.int .i64 0, .int .i64 0, .int .i64 0, .slice Option.none 0 0] 29)
          have e2 := hb3.trans (e1.mono hb3.size)
          exact ⟨HS.out.1.2.2.2.keep e2 HS.out.1.2.2.2.lt, hBW.out.trans (e2.mono hBW.out.size)⟩
        intro W5 HB5
        have r0 : W5.cell? ⟨w.heap.size, 0, Option.none⟩ = some (.int .i64 0) := HB5.out.1.cell 0
        have r1 : W5.cell? ⟨w.heap.size, 1, Option.none⟩ = some (.int .i64 0) := HB5.out.1.cell 1
        have r2 : W5.cell? ⟨w.heap.size, 2, Option.none⟩ = some (.int .i64 0) := HB5.out.1.cell 2
        have r3 : W5.cell? ⟨w.heap.size, 3, Option.none⟩ = some (.slice Option.none 0 0) := HB5.out.1.cell 3
        have rf : ∀ j, W5.frozen? ⟨w.heap.size, j, Option.none⟩ = false := fun j => HB5.out.1.free j
        clear q0 hcell hb3 hs8
        go_wp2
        refine bodyPost_ret (v := .tuple #[staV 0 0 0 (.slice Option.none 0 0), .int .i64 0, .int .i64 20]) (by simp [results, Tryz.results13, go_sem, cell_set_eq9, r0, r1, r2, r3]) rfl ?_
        refine HF.out _ _ rfl HN.out ?_
        iterate 4 (refine Below.setCell ?_ (by simp) _)
        exact HB5.out.2
      | some x =>
        rw [hd] at HD HT
        obtain ⟨g2, a2, n2, t2⟩ := x
        have HDx := hid hd
        have HD : Hid (Calls Tryz.prog 11 #[.slice A' my c'] wr fun e w' => ∃ A6 m6 c6, e = .returned (.tuple #[staV g2 a2 n2 (.slice A6 m6 c6), .bool true]) ∧ Hid (SlI w' (.slice A6 m6 c6) t2 ∧ OwnN (.slice A6 m6 c6) wr.heap.size w'.heap.size) ∧ Below wr.heap.size wr w') := by
          refine HD.mono ?_
          rintro e w' ⟨v, rfl, h1, h2, h3⟩
          obtain ⟨A6, c6, rfl, _⟩ := id h1
          exact ⟨A6, _, c6, rfl, ⟨h1, h2⟩, h3⟩
        clear hd
        by_cases hk0 : k = 0
        · have HG : Hid (foldS true sta0 (xs.take (k + 1)) = some ⟨g2, a2, n2, t2⟩) := by unfold Hid; rw [HT.out]; exact if_pos (.inl hk0)
          have hk1 : ¬ (0 < (k : Int)) := by omega
          clear hk0
          go_upto_region 11 with (go_at_call 11; refine HD.out.mono ?_; rintro e w3 ⟨A6, m6, c6, rfl, HV, hb3⟩)
          obtain ⟨b9, hb9⟩ : ∃ b9, w3.heap.size = b9 := ⟨_, rfl⟩
          refine wp_ltc (fun W => Hid (LastS W w.heap.size b8 29 ⟨g, a, n, t⟩ (.slice A3 m3 c3) ∧ Blk W b9 29 #[.int .i64 g2, .int .i64 a2, .int .i64 n2, .slice A6 m6 c6] ∧ SlI W (.slice A6 m6 c6) t2 ∧ Below b8 w1 W ∧ b8 < b9 ∧ b9 < W.heap.size)) ?_ ?_
          · have e1 := below_new w3 (.cells #[.int .i64 g2, .int .i64 a2, .int .i64 n2, .slice A6 m6 c6] 29)
            have e2 := hb3.trans (e1.mono hb3.size)
            have e3 := hb3.size
            refine ⟨HS.out.1.keep9 e2, by rw [← hb9]; exact Blk.new _ _ _, HV.out.1.below e1, HS.out.2.1.trans (e2.mono (by have := HS.out.2.2; omega)), by omega, by simp; omega⟩
          rw [hb9] at HV ⊢
          intro W5 HB5
          have q0 : W5.cell? ⟨b9, 0, Option.none⟩ = some (.int .i64 g2) := HB5.out.2.1.cell 0
          have q1 : W5.cell? ⟨b9, 1, Option.none⟩ = some (.int .i64 a2) := HB5.out.2.1.cell 1
          have q2 : W5.cell? ⟨b9, 2, Option.none⟩ = some (.int .i64 n2) := HB5.out.2.1.cell 2
          have q3 : W5.cell? ⟨b9, 3, Option.none⟩ = some (.slice A6 m6 c6) := HB5.out.2.1.cell 3
          have r0 : W5.cell? ⟨b8, 0, Option.none⟩ = some (.int .i64 g) := HB5.out.1.1.cell 0
          have r1 : W5.cell? ⟨b8, 1, Option.none⟩ = some (.int .i64 a) := HB5.out.1.1.cell 1
          have r2 : W5.cell? ⟨b8, 2, Option.none⟩ = some (.int .i64 n) := HB5.out.1.1.cell 2
          have r3 : W5.cell? ⟨b8, 3, Option.none⟩ = some (.slice A3 m3 c3) := HB5.out.1.1.cell 3
          have rf : ∀ j, W5.frozen? ⟨b8, j, Option.none⟩ = false := fun j => HB5.out.1.1.free j
          clear hcell hb3 hs8 hb9
          go_wp2
          go_roundw
          case rel =>
            refine ⟨k + 1, ⟨g2, a2, n2, t2⟩, A6, m6, c6, by omega, by go_num, ⟨HG.out, fun _ => dec_right HDx.out⟩, ?_⟩
            have hO : OwnN (.slice A6 m6 c6) (b8 + 1) W5.heap.size := HV.out.2.mono (by have := HS.out.2.2; omega) (by have := HB5.out.2.2.2.2.2; omega)
            refine ⟨LastS.set9 (y := ⟨g2, a2, n2, t2⟩) HB5.out.1 HB5.out.2.2.1 hO hsb, ?_, by simp; have := HB5.out.2.2.2.2; omega⟩
            iterate 4 (refine Below.setCell ?_ (by simp) _)
            exact HB5.out.2.2.2.1
          case measure => simp [intOf]; omega
        have hk1 : 0 < (k : Int) := by omega
        have hgr := ((Sta.right_iff _).1 (HX.out.2 (by omega))).g1
        have hg0 := ((Sta.right_iff _).1 (HX.out.2 (by omega))).g0
        dsimp only at hgr hg0
        by_cases hgg : g2 = g + 1
        · have HG : Hid (foldS true sta0 (xs.take (k + 1)) = some ⟨g2, a2, n2, t2⟩) := by unfold Hid; rw [HT.out]; exact if_pos (.inr hgg)
          have hgb : (g2 != g + 1) = false := by simpa using hgg
          clear hk0 hgg
          go_upto_region 11 with (go_at_call 11; refine HD.out.mono ?_; rintro e w3 ⟨A6, m6, c6, rfl, HV, hb3⟩; have z0 : ∀ o, (w3.alloc o).cell? ⟨b8, 0, Option.none⟩ = some (.int .i64 g) := fun o => ((HS.out.1.1.keep hb3 hs8).keep (below_new _ _) (Nat.lt_of_lt_of_le hs8 hb3.size)).cell 0)
          obtain ⟨b9, hb9⟩ : ∃ b9, w3.heap.size = b9 := ⟨_, rfl⟩
          refine wp_ltc (fun W => Hid (LastS W w.heap.size b8 29 ⟨g, a, n, t⟩ (.slice A3 m3 c3) ∧ Blk W b9 29 #[.int .i64 g2, .int .i64 a2, .int .i64 n2, .slice A6 m6 c6] ∧ SlI W (.slice A6 m6 c6) t2 ∧ Below b8 w1 W ∧ b8 < b9 ∧ b9 < W.heap.size)) ?_ ?_
          · have e1 := below_new w3 (.cells #[.int .i64 g2, .int .i64 a2, .int .i64 n2, .slice A6 m6 c6] 29)
            have e2 := hb3.trans (e1.mono hb3.size)
            have e3 := hb3.size
            refine ⟨HS.out.1.keep9 e2, by rw [← hb9]; exact Blk.new _ _ _, HV.out.1.below e1, HS.out.2.1.trans (e2.mono (by have := HS.out.2.2; omega)), by omega, by simp; omega⟩
          rw [hb9] at HV ⊢
          intro W5 HB5
          have q0 : W5.cell? ⟨b9, 0, Option.none⟩ = some (.int .i64 g2) := HB5.out.2.1.cell 0
          have q1 : W5.cell? ⟨b9, 1, Option.none⟩ = some (.int .i64 a2) := HB5.out.2.1.cell 1
          have q2 : W5.cell? ⟨b9, 2, Option.none⟩ = some (.int .i64 n2) := HB5.out.2.1.cell 2
          have q3 : W5.cell? ⟨b9, 3, Option.none⟩ = some (.slice A6 m6 c6) := HB5.out.2.1.cell 3
          have r0 : W5.cell? ⟨b8, 0, Option.none⟩ = some (.int .i64 g) := HB5.out.1.1.cell 0
          have r1 : W5.cell? ⟨b8, 1, Option.none⟩ = some (.int .i64 a) := HB5.out.1.1.cell 1
          have r2 : W5.cell? ⟨b8, 2, Option.none⟩ = some (.int .i64 n) := HB5.out.1.1.cell 2
          have r3 : W5.cell? ⟨b8, 3, Option.none⟩ = some (.slice A3 m3 c3) := HB5.out.1.1.cell 3
          have rf : ∀ j, W5.frozen? ⟨b8, j, Option.none⟩ = false := fun j => HB5.out.1.1.free j
          clear hcell hb3 hs8 hb9
          go_wp2
          go_roundw
          case rel =>
            refine ⟨k + 1, ⟨g2, a2, n2, t2⟩, A6, m6, c6, by omega, by go_num, ⟨HG.out, fun _ => dec_right HDx.out⟩, ?_⟩
            have hO : OwnN (.slice A6 m6 c6) (b8 + 1) W5.heap.size := HV.out.2.mono (by have := HS.out.2.2; omega) (by have := HB5.out.2.2.2.2.2; omega)
            refine ⟨LastS.set9 (y := ⟨g2, a2, n2, t2⟩) HB5.out.1 HB5.out.2.2.1 hO hsb, ?_, by simp; have := HB5.out.2.2.2.2; omega⟩
            iterate 4 (refine Below.setCell ?_ (by simp) _)
            exact HB5.out.2.2.2.1
          case measure => simp [intOf]; omega
        have HN : Hid (readS l = none) := by
          have h1 : foldS true sta0 (xs.take (k + 1)) = none := by rw [HT.out]; exact if_neg (fun e => e.elim hk0 hgg)
          unfold Hid
          rw [HE2.out, foldS_no (k + 1) h1]
          rfl
        have hgb : (g2 != g + 1) = true := by simpa using hgg
        clear hk0 hgg
        go_upto_region 10 with (go_at_call 11; refine HD.out.mono ?_; rintro e w3 ⟨A6, m6, c6, rfl, HV, hb3⟩; have z0 : ∀ o, (w3.alloc o).cell? ⟨b8, 0, Option.none⟩ = some (.int .i64 g) := fun o => ((HS.out.1.1.keep hb3 hs8).keep (below_new _ _) (Nat.lt_of_lt_of_le hs8 hb3.size)).cell 0)
        refine wp_ltc (fun W => Hid (Blk W w.heap.size 29 #[.int .i64 0, .int .i64 0, .int .i64 0, .slice Option.none 0 0] ∧ Below w.heap.size w W)) ?_ ?_
        · have e1 := below_new w3 (.cells #[.int .i64 g2, .int .i64 a2, .int .i64 n2, .slice A6 m6 c6] 29)
          have e2 := hb3.trans (e1.mono hb3.size)
          exact ⟨HS.out.1.2.2.2.keep e2 HS.out.1.2.2.2.lt, hBW.out.trans (e2.mono hBW.out.size)⟩
        intro W5 HB5
        have r0 : W5.cell? ⟨w.heap.size, 0, Option.none⟩ = some (.int .i64 0) := HB5.out.1.cell 0
        have r1 : W5.cell? ⟨w.heap.size, 1, Option.none⟩ = some (.int .i64 0) := HB5.out.1.cell 1
        have r2 : W5.cell? ⟨w.heap.size, 2, Option.none⟩ = some (.int .i64 0) := HB5.out.1.cell 2
        have r3 : W5.cell? ⟨w.heap.size, 3, Option.none⟩ = some (.slice Option.none 0 0) := HB5.out.1.cell 3
        have rf : ∀ j, W5.frozen? ⟨w.heap.size, j, Option.none⟩ = false := fun j => HB5.out.1.free j
        clear q0 hcell hb3 hs8
        go_wp2
        refine bodyPost_ret (v := .tuple #[staV 0 0 0 (.slice Option.none 0 0), .int .i64 0, .int .i64 20]) (by simp [results, Tryz.results13, go_sem, cell_set_eq9, r0, r1, r2, r3]) rfl ?_
        refine HF.out _ _ rfl HN.out ?_
        iterate 4 (refine Below.setCell ?_ (by simp) _)
        exact HB5.out.2
    · have ek : k = m5 := by omega
      subst ek
      have HE3 : Hid (readS l = some (⟨g, a, n, t⟩, N)) := by
        have h1 := HX.out.1
        rw [List.take_of_length_le (by rw [HM.out]; omega)] at h1
        unfold Hid
        rw [HE2.out, h1]
        rfl
      have q0 : wr.cell? ⟨b8, 0, Option.none⟩ = some (.int .i64 g) := HS.out.1.1.cell 0
      have q1 : wr.cell? ⟨b8, 1, Option.none⟩ = some (.int .i64 a) := HS.out.1.1.cell 1
      have q2 : wr.cell? ⟨b8, 2, Option.none⟩ = some (.int .i64 n) := HS.out.1.1.cell 2
      have q3 : wr.cell? ⟨b8, 3, Option.none⟩ = some (.slice A3 m3 c3) := HS.out.1.1.cell 3
      have r0 : wr.cell? ⟨w.heap.size, 0, Option.none⟩ = some (.int .i64 0) := HS.out.1.2.2.2.cell 0
      have r1 : wr.cell? ⟨w.heap.size, 1, Option.none⟩ = some (.int .i64 0) := HS.out.1.2.2.2.cell 1
      have r2 : wr.cell? ⟨w.heap.size, 2, Option.none⟩ = some (.int .i64 0) := HS.out.1.2.2.2.cell 2
      have r3 : wr.cell? ⟨w.heap.size, 3, Option.none⟩ = some (.slice Option.none 0 0) := HS.out.1.2.2.2.cell 3
      have rf : ∀ j, wr.frozen? ⟨w.heap.size, j, Option.none⟩ = false := fun j => HS.out.1.2.2.2.free j
      have HO : Hid (OwnN (.slice A3 m3 c3) w.heap.size wr.heap.size ∧ (Value.slice A3 m3 c3).ownBlock ≠ some w.heap.size) := ⟨HS.out.1.2.2.1.mono (by omega) (Nat.le_refl _), fun e => by have := HS.out.1.2.2.1 _ e; omega⟩
      go_wp2
      refine bodyPost_ret (v := .tuple #[staV g a n (.slice A3 m3 c3), .int .i64 N, .int .i64 0]) (by simp [results, Tryz.results13, go_sem, cell_set_eq9, r0, r1, r2, r3]) rfl ?_
      refine ⟨?_, ?_⟩
      · rw [HE3.out]
        exact ⟨_, rfl, (((HS.out.1.2.1.set HO.out.2).set HO.out.2).set HO.out.2).set HO.out.2, HO.out.1.mono (Nat.le_refl _) (by simp)⟩
      · iterate 4 (refine Below.setCell ?_ (by simp) _)
        exact hBW.out
end Go.Proofs.YtofkfafdodhmdaaGreatDoor
