/- Several texts in one: TC TL TM TE. Conditions: as each theorem names them. -/
import Derived.Test.YtjbjdkginemedaaGreatDoorQR
import Derived.Test.YtjbjdkginemedaaGreatDoorNE
import Derived.Test.YtjbjdkginemedaaGreatDoorQE0
import Derived.Test.YtjbjdkginemedaaGreatDoorQ9
import Derived.Test.YtjbjdkginemedaaGreatDoorQ6
import Derived.Test.YtjbjdkginemedaaGreatDoorQ8
import Derived.Test.YtjbjdkginemedaaGreatDoorQD
/- Plain mathematics: a table's bytes; bytes and lists of rows that grow side by side. Conditions: as each theorem names them. -/
namespace Go.Proofs.YtjbjdkginemedaaGreatDoor
open Go.RowKit

/-- The blocks of some parts, framed, one behind the other. -/
def blkF (ps : List (List CT)) : List UInt8 := framesM (ps.map blockB)
/-- The key of a part's first cell. -/
def headK (p : List CT) : List UInt8 := keyL (p.headD default)
/-- What the index tells: each part's first key, and where its frame is. -/
def idxL : Nat → List (List CT) → List (List UInt8)
  | _, [] => []
  | n, p :: ps => headK p :: numW n :: idxL (n + (frameM (blockB p)).length) ps
/-- A table's bytes. -/
def tabB (ps : List (List CT)) : List UInt8 := blkF ps ++ (frameM (listM (idxL 0 ps)) ++ byW 8 (blkF ps).length)
theorem blkF_snoc (ps : List (List CT)) (p : List CT) : blkF (ps ++ [p]) = blkF ps ++ frameM (blockB p) := by
  unfold blkF
  rw [List.map_append, frames_app]
  show _ ++ (frameM (blockB p) ++ []) = _
  rw [List.append_nil]
theorem idxL_snoc : ∀ (ps : List (List CT)) (n : Nat) (p : List CT), idxL n (ps ++ [p]) = idxL n ps ++ [headK p, numW (n + (blkF ps).length)]
  | [], n, p => rfl
  | q :: ps, n, p => by
    have h := idxL_snoc ps (n + (frameM (blockB q)).length) p
    have e : n + (frameM (blockB q)).length + (blkF ps).length = n + (blkF (q :: ps)).length := by
      unfold blkF
      rw [List.map_cons, framesM, List.length_append]
      omega
    rw [e] at h
    show headK q :: numW n :: idxL (n + (frameM (blockB q)).length) (ps ++ [p]) = _
    rw [h]
    rfl
theorem idxL_len : ∀ (ps : List (List CT)) (n : Nat), (idxL n ps).length = 2 * ps.length
  | [], _ => rfl
  | p :: ps, n => by
    have := idxL_len ps (n + (frameM (blockB p)).length)
    show (idxL _ ps).length + 1 + 1 = 2 * (ps.length + 1)
    omega

/-- Nothing, or some bytes of the call's own; a list of rows that lie elsewhere. -/
structure TbS (w W : World) (vb : Value) (lb : List UInt8) (vp : Value) (xs : List (List UInt8)) : Prop where
  bel : Below w.heap.size w W
  b : Row W w.heap.size vb lb
  nil : lb = [] → vb = .slice none 0 0
  pr : ∃ vs : List Value, W.ownsRow w.heap.size 30 1 vp xs.length vs ∧ ∀ (i : Nat) (x : List UInt8), xs[i]? = some x → ∃ u, vs[i]? = some u ∧ Row W w.heap.size u x ∧ (u.ownBlock = none ∨ u.ownBlock ≠ vb.ownBlock)
theorem own_grow_none {w w' : World} {B : Nat} {T : TypeId} {v : Value} {n : Nat} {vs : List Value} (h : w.ownsRow B T 1 v n vs) (hb : Below w.heap.size w w') : w'.ownsRow B T 1 v n vs :=
  World.ownsRow.kept h (row := none) ⟨hb.os, hb.tape, hb.output, hb.size, fun k hk _ => hb.block k hk⟩ (by
    rcases h.2 with ⟨rfl, _⟩ | ⟨g, _, _, rfl, _⟩
    · exact .inl rfl
    · exact .inr (by simp [Value.ownBlock]))
theorem TbS.below {w W W' : World} {vb vp : Value} {lb : List UInt8} {xs : List (List UInt8)} (h : TbS w W vb lb vp xs) (hb : Below W.heap.size W W') : TbS w W' vb lb vp xs := by
  obtain ⟨h1, h2, h3, vs, h4, h5⟩ := h
  refine ⟨h1.trans (hb.mono h1.size), h2.keep hb h2.block_lt, h3, vs, own_grow_none h4 hb, fun i x hx => ?_⟩
  obtain ⟨u, h6, h7, h8⟩ := h5 i x hx
  exact ⟨u, h6, h7.keep hb h7.block_lt, h8⟩
theorem TbS.lsb {w W : World} {vb vp : Value} {lb : List UInt8} {xs : List (List UInt8)} (h : TbS w W vb lb vp xs) : RowL W w.heap.size vp xs := by
  obtain ⟨_, _, _, vs, h4, h5⟩ := h
  exact ⟨vs, h4, fun i x hx => by
    obtain ⟨u, h6, h7, _⟩ := h5 i x hx
    exact ⟨u, h6, h7⟩⟩
theorem row_ne_rows {w : World} {B B' : Nat} {u v : Value} {x : List UInt8} {n : Nat} {vs : List Value} (h : Row w B u x) (ho : w.ownsRow B' 30 1 v n vs) : u.ownBlock = Option.none ∨ u.ownBlock ≠ v.ownBlock := by
  rcases h.2 with ⟨rfl, _⟩ | ⟨g, cap, cur, rfl, _, hh, _⟩
  · exact .inl rfl
  · refine .inr fun e => ?_
    rcases ho.2 with ⟨rfl, _⟩ | ⟨g', cap', cur', rfl, _, hh', _⟩
    · cases e
    · simp only [Value.ownBlock, Option.some.injEq] at e
      rw [← e, hh] at hh'
      simp only [Option.some.injEq, Obj.cells.injEq] at hh'
      exact absurd hh'.2.1 (by decide)
theorem row_grown {w w' : World} {B : Nat} {u : Value} {x : List UInt8} {row : Option Nat} (h : Row w B u x) (hg : w.grownBy w' row) (hne : u.ownBlock = Option.none ∨ u.ownBlock ≠ row) : Row w' B u x := World.ownsRow.kept h hg hne
theorem rows_grown {w w' : World} {B : Nat} {v : Value} {n : Nat} {vs : List Value} {u : Value} {x : List UInt8} (h : w.ownsRow B 30 1 v n vs) (hu : Row w B u x) (hg : w.grownBy w' u.ownBlock) : w'.ownsRow B 30 1 v n vs := by
  refine World.ownsRow.kept h hg ?_
  cases e : v.ownBlock with
  | none => exact .inl rfl
  | some k =>
    refine .inr fun q => ?_
    rcases row_ne_rows hu h with h1 | h1
    · rw [h1] at q; cases q
    · exact h1 (by rw [← q, e])
/-- Two rows more. -/
theorem TbS.more {w W W' : World} {vb vp vp' u1 u2 : Value} {lb x1 x2 : List UInt8} {xs : List (List UInt8)} {M : Nat} (h : TbS w W vb lb vp xs) {vs : List Value} (g4 : W.ownsRow w.heap.size 30 1 vp xs.length vs) (g5 : ∀ (i : Nat) (x : List UInt8), xs[i]? = some x → ∃ u, vs[i]? = some u ∧ Row W w.heap.size u x ∧ (u.ownBlock = none ∨ u.ownBlock ≠ vb.ownBlock))
    (h1 : Row W M u1 x1) (h2 : Row W M u2 x2) (hM : ∀ k, vb.ownBlock = some k → k < M) (hMw : w.heap.size ≤ M)
    (hr : W'.ownsRow w.heap.size 30 1 vp' (xs.length + 2) (vs ++ [u1, u2])) (hg : W.grownBy W' vp.ownBlock) (hb : Below w.heap.size w W') : TbS w W' vb lb vp' (xs ++ [x1, x2]) := by
  obtain ⟨_, g2, g3, _⟩ := h
  have hne : ∀ (u : Value) (x : List UInt8), Row W M u x → u.ownBlock = none ∨ u.ownBlock ≠ vb.ownBlock := fun u x hu => by
    cases e : u.ownBlock with
    | none => exact .inl rfl
    | some k =>
      refine .inr fun q => ?_
      have h3 := (World.ownsRow.lt hu k e).1
      have h4 := hM k q.symm
      omega
  have hvl : vs.length = xs.length := by have := g4.1; omega
  refine ⟨hb, row_grown g2 hg (row_ne_rows g2 g4), g3, vs ++ [u1, u2], by rw [List.length_append]; exact hr, fun i x hx => ?_⟩
  by_cases hi : i < xs.length
  · rw [List.getElem?_append_left hi] at hx
    obtain ⟨u, h6, h7, h8⟩ := g5 i x hx
    exact ⟨u, by rw [List.getElem?_append_left (by omega)]; exact h6, row_grown h7 hg (row_ne_rows h7 g4), h8⟩
  · rw [List.getElem?_append_right (by omega)] at hx
    have hi2 : i - xs.length = 0 ∨ i - xs.length = 1 := by
      rcases Nat.lt_or_ge (i - xs.length) 2 with q | q
      · omega
      · rw [List.getElem?_eq_none (by simpa using q)] at hx; cases hx
    rcases hi2 with e | e
    · rw [e] at hx
      obtain rfl : x1 = x := by simpa using hx
      exact ⟨u1, by rw [List.getElem?_append_right (by omega), hvl, e]; rfl, row_grown (h1.le hMw) hg (row_ne_rows h1 g4), hne u1 _ h1⟩
    · rw [e] at hx
      obtain rfl : x2 = x := by simpa using hx
      exact ⟨u2, by rw [List.getElem?_append_right (by omega), hvl, e]; rfl, row_grown (h2.le hMw) hg (row_ne_rows h2 g4), hne u2 _ h2⟩
/-- Some bytes more. -/
theorem TbS.bytes {w W W' : World} {vb vb' vp : Value} {lb lb' : List UInt8} {xs : List (List UInt8)} (h : TbS w W vb lb vp xs) (hr : Row W' w.heap.size vb' lb') (h0 : 0 < lb'.length) (hg : W.grownBy W' vb.ownBlock) (hd : vb'.ownBlock = vb.ownBlock ∨ ∀ k, vb'.ownBlock = some k → W.heap.size ≤ k) (hb : Below w.heap.size w W') : TbS w W' vb' lb' vp xs := by
  obtain ⟨_, g2, _, vs, g4, g5⟩ := h
  refine ⟨hb, hr, (fun e => by rw [e] at h0; cases h0), vs, rows_grown g4 g2 hg, fun i x hx => ?_⟩
  obtain ⟨u, h6, h7, h8⟩ := g5 i x hx
  refine ⟨u, h6, row_grown h7 hg h8, ?_⟩
  rcases hd with e | hd
  · rw [e]; exact h8
  · cases e : u.ownBlock with
    | none => exact .inl rfl
    | some k =>
      refine .inr fun q => ?_
      have h9 := hd k q.symm
      have h10 := (World.ownsRow.lt h7 k e).2
      omega

section
variable {ops : Array Oper} {rest : List Oper} {o : Oper} {a : Act} {Q : Exit → Act → World → Prop}
/-- append of some bytes to nothing, or to a row of the call's own: its block is turned alone, or a new one is made. -/
theorem wpList_append_n (hgd : o.guard = Option.none) (s x : Operand)
    (ho : o.op = .call { callee := .builtin .append, args := #[s, x], argTypes := #[30, 30] })
    (w : World) (base : Nat) (v : Value) (l : List UInt8) (hs : a.eval s = v) (hown : Row w base v l) (hnil : l = [] → v = .slice none 0 0)
    (b off k c : Nat) (news : List UInt8) (hk : k = news.length) (hx : a.eval x = .slice (some ⟨b, off, none⟩) k c) (h0 : 0 < news.length) (hnews : Holds w b off news)
    (hlen : l.length + news.length ≤ 1000000) (hbase : base ≤ w.heap.size)
    (h : ∀ A' cap' w' n', Hid ((l ++ news).length = n') → Row w' base (.slice A' n' cap') (l ++ news) → w.grownBy w' v.ownBlock → ((Value.slice A' n' cap').ownBlock = v.ownBlock ∨ ∀ k, (Value.slice A' n' cap').ownBlock = some k → w.heap.size ≤ k) → wpList Tryz.prog ops Q rest (a.put o.dst (.slice A' n' cap')) w') : wpList Tryz.prog ops Q (o :: rest) a w := by
  subst hk
  rcases Nat.eq_zero_or_pos l.length with hl | hl
  · obtain rfl := List.eq_nil_of_length_eq_zero hl
    obtain rfl := hnil rfl
    obtain ⟨i0, hi, hz0, hz1, hz2⟩ := info_parts info_u8
    have hcells : ∀ j u, (bc news)[j]? = some u → w.cell? ((⟨b, off, none⟩ : Addr).add j) = some u := fun j u hj => by
      have hjn : j < news.length := by
        rcases Nat.lt_or_ge j news.length with h1 | h1
        · exact h1
        · rw [bc_at, List.getElem?_eq_none h1] at hj; cases hj
      rw [add_zero_off, hnews j hjn, ← hj, bc_at, List.getElem?_eq_getElem hjn, List.getD_eq_getElem?_getD, List.getElem?_eq_getElem hjn]
      rfl
    refine wpList_append_own w hgd s x 30 ho w.heap.size 5 i0 (.int .u8 0) 1 1 Tryz.underlying30 hi hz0 hz1 hz2 rfl (by decide) _ 0 [] hs (World.ownsRow_nil w _ _ _) ⟨b, off, none⟩ news.length c (bc news) hx (by rw [bc_len]; omega) hcells (bc_one _) (by unfold maxLen; omega) (by omega) (Nat.le_refl _) ?_
    intro v' w' h1 h2 _
    have hr : Row w' w.heap.size v' news := by
      unfold Row
      rw [Nat.zero_add, List.nil_append] at h1
      exact h1
    obtain ⟨A', c', e, _⟩ := hr.sla
    subst e
    refine h A' c' w' _ (hid rfl) ?_ ?_ (.inr fun k hk => (World.ownsRow.lt hr k hk).1)
    · rw [List.nil_append]; exact hr.le hbase
    · exact h2
  · obtain ⟨g, cap, rfl, hG⟩ := hown.toG hl
    obtain ⟨g', cap', w', hrun, r1, r2, r3⟩ := run_append_g w o.type base g cap l hG b off c news h0 hnews hlen hbase
    refine Lib.wpList_append_run w hgd s x 30 30 ho _ _ hs hx _ w' hrun (h _ cap' w' _ (hid rfl) r1.2 r2 ?_)
    rcases r3 with rfl | r3
    · exact .inl rfl
    · exact .inr fun k hk => by
        have : k = g' := (Option.some.inj hk).symm
        omega
/-- append of two rows to a list of the call's own. -/
theorem wpList_append_two (hgd : o.guard = Option.none) (s x : Operand)
    (ho : o.op = .call { callee := .builtin .append, args := #[s, x], argTypes := #[79, 79] })
    (w : World) (base : Nat) (v : Value) (n : Nat) (vs0 : List Value) (hs : a.eval s = v) (hown : w.ownsRow base 30 1 v n vs0)
    (G c : Nat) (u1 u2 : Value) (hx : a.eval x = .slice (some ⟨G, 0, Option.none⟩) 2 c) (hc1 : w.cell? ⟨G, 0, Option.none⟩ = some u1) (hc2 : w.cell? ⟨G, 1, Option.none⟩ = some u2) (h1 : u1.oneCell' = true) (h2 : u2.oneCell' = true)
    (hlen : n ≤ 1000000) (hbase : base ≤ w.heap.size)
    (h : ∀ g' c' w', w'.ownsRow base 30 1 (.slice (some ⟨g', 0, none⟩) (n + 2) c') (n + 2) (vs0 ++ [u1, u2]) → Below base w w' → w.grownBy w' v.ownBlock → wpList Tryz.prog ops Q rest (a.put o.dst (.slice (some ⟨g', 0, none⟩) (n + 2) c')) w') : wpList Tryz.prog ops Q (o :: rest) a w := by
  obtain ⟨i0, hi, hz0, hz1, hz2⟩ := info_parts info_row
  refine wpList_append_own w hgd s x 79 ho base 30 i0 (.slice Option.none 0 0) 1 24 Tryz.underlying79 hi hz0 hz1 hz2 rfl (by decide) v n vs0 hs hown ⟨G, 0, Option.none⟩ 2 c [u1, u2] hx rfl ?_ ?_ (by unfold maxLen; omega) (by omega) hbase ?_
  · intro j e he
    match j, he with
    | 0, he => simp at he; subst he; rw [add_zero_off]; exact hc1
    | 1, he => simp at he; subst he; rw [add_zero_off]; exact hc2
    | j + 2, he => simp at he
  · intro e he
    have : e = u1 ∨ e = u2 := by simpa using he
    rcases this with rfl | rfl
    · exact h1
    · exact h2
  · intro v' w' h1 h2 _
    have h3 := h1
    rcases h1.2 with ⟨_, h0⟩ | ⟨g', cap', cur, rfl, hrest⟩
    · omega
    · exact h g' cap' w' h3 ((Below.refl _ _).grown h2 hbase fun k hk => (World.ownsRow.lt hown k hk).1) h2
end
end Go.Proofs.YtjbjdkginemedaaGreatDoor

/- Plain mathematics: a table's blocks: which ones a row's cells lie in. Conditions: right cells in order, no part empty. -/
namespace Go.Proofs.YtjbjdkginemedaaGreatDoor

/-- Parts of right cells in order, none empty. -/
structure Cut9 (ps : List (List CT)) : Prop where
  pos : ∀ p ∈ ps, 0 < p.length
  ok : ∀ c ∈ ps.flatten, c.ok = true
  up : ps.flatten.Pairwise (fun x y => CT.cmp x y < 0)
/-- What the keys of a row's cells begin with. -/
def firstL (r : List UInt8) : List UInt8 := esc r ++ [0, 1]
theorem pre_row (c : CT) (r : List UInt8) : firstL r <+: keyL c ↔ c.r.data.toList = r := by
  constructor
  · rintro ⟨u, e⟩
    have h1 : rdT (keyL c) = some (c.r.data.toList, _) := rdT_esc _ _
    have h2 : rdT (firstL r ++ u) = some (r, u) := by
      unfold firstL
      rw [List.append_assoc]
      exact rdT_esc _ _
    rw [e, h1] at h2
    exact (Prod.mk.inj (Option.some.inj h2)).1
  · rintro rfl
    exact ⟨_, by unfold firstL keyL keyM; rw [List.append_assoc]⟩
theorem cmp_pre : ∀ (a b : List UInt8), b ≠ [] → Lib.compareBytes a (a ++ b) < 0
  | [], b, h => by
    cases b with
    | nil => exact absurd rfl h
    | cons x t => show Lib.compareBytes [] (x :: t) < 0; unfold Lib.compareBytes; decide
  | x :: a, b, h => by
    show Lib.compareBytes (x :: a) (x :: (a ++ b)) < 0
    unfold Lib.compareBytes
    rw [if_neg (by simp), if_neg (by simp)]
    exact cmp_pre a b h
theorem cmp_first {c : CT} {r : List UInt8} (h : c.r.data.toList = r) : Lib.compareBytes (firstL r) (keyL c) < 0 := by
  obtain ⟨u, e⟩ := (pre_row c r).2 h
  rw [← e]
  refine cmp_pre _ _ fun hu => ?_
  rw [hu, List.append_nil] at e
  have h1 : rdT (keyL c) = some (c.r.data.toList, esc c.f.data.toList ++ (0 :: 1 :: (midM c.q.data.toList c.k ++ tailM c.t c.k))) := rdT_esc _ _
  have h2 : rdT (firstL r) = some (r, []) := by unfold firstL; exact rdT_esc _ _
  rw [e, h1] at h2
  have h3 := (Prod.mk.inj (Option.some.inj h2)).2
  simp at h3
/-- What begins so stands together. -/
theorem pre_gap : ∀ (f k1 k2 : List UInt8), Lib.compareBytes f k1 < 0 → ¬ f <+: k1 → Lib.compareBytes k1 k2 ≤ 0 → ¬ f <+: k2
  | [], k1, _, _, h, _ => absurd List.nil_prefix h
  | x :: f, [], _, h, _, _ => by unfold Lib.compareBytes at h; exact absurd h (by decide)
  | x :: f, y :: k1, k2, h1, h2, h3 => by
    rintro ⟨u, rfl⟩
    rw [List.cons_append] at h3
    unfold Lib.compareBytes at h1 h3
    by_cases a : x < y
    · rw [if_neg (by exact UInt8.lt_asymm a), if_pos a] at h3
      exact absurd h3 (by decide)
    · rw [if_neg a] at h1
      by_cases b : y < x
      · rw [if_pos b] at h1
        exact absurd h1 (by decide)
      · rw [if_neg b] at h1
        rw [if_neg b, if_neg a] at h3
        have hxy : x = y := UInt8.le_antisymm (UInt8.not_lt.1 b) (UInt8.not_lt.1 a)
        subst hxy
        exact pre_gap f k1 (f ++ u) h1 (fun ⟨v, e⟩ => h2 ⟨v, by rw [List.cons_append, e]⟩) h3 ⟨u, rfl⟩
end Go.Proofs.YtjbjdkginemedaaGreatDoor

/- Plain mathematics: of a table's blocks those that may have a row's cells, and those from a place on. Conditions: right cells in order, no part empty. -/
namespace Go.Proofs.YtjbjdkginemedaaGreatDoor

theorem bytes_le_lt {a b c : List UInt8} (h1 : Lib.compareBytes a b ≤ 0) (h2 : Lib.compareBytes b c < 0) : Lib.compareBytes a c < 0 := (C3.bytes (fun x : List UInt8 => x)).le_lt h1 h2
theorem bytes_lt_le {a b c : List UInt8} (h1 : Lib.compareBytes a b < 0) (h2 : Lib.compareBytes b c ≤ 0) : Lib.compareBytes a c < 0 := (C3.bytes (fun x : List UInt8 => x)).lt_le h1 h2
theorem head_in {p : List CT} (h : 0 < p.length) : ∃ d r, p = d :: r ∧ headK p = keyL d := by
  cases p with
  | nil => cases h
  | cons d r => exact ⟨d, r, rfl, rfl⟩
theorem cut_parts (ps : List (List CT)) (j : Nat) : ps.flatten = (ps.take j).flatten ++ (ps.drop j).flatten := by
  rw [← List.flatten_append, List.take_append_drop]
theorem mem_take {ps : List (List CT)} {i j : Nat} {p : List CT} {c : CT} (hp : ps[i]? = some p) (hc : c ∈ p) (hij : i < j) : c ∈ (ps.take j).flatten := by
  refine List.mem_flatten.2 ⟨p, ?_, hc⟩
  have h1 : (ps.take j)[i]? = some p := by rw [List.getElem?_take_of_lt hij]; exact hp
  exact List.mem_of_getElem? h1
theorem mem_drop {ps : List (List CT)} {i j : Nat} {p : List CT} {c : CT} (hp : ps[i]? = some p) (hc : c ∈ p) (hij : j ≤ i) : c ∈ (ps.drop j).flatten := by
  refine List.mem_flatten.2 ⟨p, ?_, hc⟩
  have h1 : (ps.drop j)[i - j]? = some p := by rw [List.getElem?_drop, Nat.add_sub_cancel' hij]; exact hp
  exact List.mem_of_getElem? h1
/-- A cell ahead of a block is less than its first one. -/
theorem less_head {ps : List (List CT)} (h : Cut9 ps) {j : Nat} {q : List CT} (hq : ps[j]? = some q) {c : CT} (hc : c ∈ (ps.take j).flatten) : ∃ d, d ∈ q ∧ headK q = keyL d ∧ CT.cmp c d < 0 ∧ Lib.compareBytes (keyL c) (headK q) < 0 := by
  obtain ⟨d, r, rfl, e⟩ := head_in (h.pos q (List.mem_of_getElem? hq))
  have h1 := h.up
  rw [cut_parts ps j, List.pairwise_append] at h1
  have hd := mem_drop hq (List.mem_cons_self (a := d) (l := r)) (Nat.le_refl j)
  have h2 := h1.2.2 c hc d hd
  refine ⟨d, List.mem_cons_self, e, h2, ?_⟩
  rw [e, key_cmp]
  · exact h2
  · exact h.ok c (by rw [cut_parts ps j]; exact List.mem_append_left _ hc)
  · exact h.ok d (by rw [cut_parts ps j]; exact List.mem_append_right _ hd)
/-- A cell from a block on is not less than its first one. -/
theorem head_le {ps : List (List CT)} (h : Cut9 ps) {j : Nat} {q : List CT} (hq : ps[j]? = some q) {c : CT} (hc : c ∈ (ps.drop j).flatten) : Lib.compareBytes (headK q) (keyL c) ≤ 0 := by
  obtain ⟨d, r, rfl, e⟩ := head_in (h.pos q (List.mem_of_getElem? hq))
  have hj : j < ps.length := (List.getElem?_eq_some_iff.1 hq).1
  have e2 : ps.drop j = (d :: r) :: ps.drop (j + 1) := by
    rw [List.drop_eq_getElem_cons hj]
    rw [(List.getElem?_eq_some_iff.1 hq).2]
  have h1 := h.up
  rw [cut_parts ps j, List.pairwise_append, e2] at h1
  have h2 := h1.2.1
  rw [List.flatten_cons, List.cons_append, List.pairwise_cons] at h2
  have hc2 := hc
  rw [e2, List.flatten_cons, List.cons_append] at hc2
  have hok : ∀ x ∈ (ps.drop j).flatten, x.ok = true := fun x hx => h.ok x (by rw [cut_parts ps j]; exact List.mem_append_right _ hx)
  rw [e]
  rcases List.mem_cons.1 hc2 with rfl | hc3
  · rw [cmpB_refl]; exact Int.le_refl 0
  · rw [key_cmp (hok d (mem_drop hq List.mem_cons_self (Nat.le_refl j))) (hok c hc)]
    exact Int.le_of_lt (h2.1 c hc3)
/-- The blocks between two. -/
theorem cut_three (ps : List (List CT)) {a b : Nat} (hab : a ≤ b) : ps.flatten = (ps.take a).flatten ++ (((ps.drop a).take (b - a)).flatten ++ (ps.drop b).flatten) := by
  rw [cut_parts ps a]
  congr 1
  rw [cut_parts (ps.drop a) (b - a), List.drop_drop, Nat.add_sub_cancel' hab]
/-- A row's cells lie in the blocks from the last one whose first key isn't above the row's on, up to the first one that is above and begins otherwise. -/
theorem row_mid {ps : List (List CT)} (h : Cut9 ps) (r : List UInt8) {a b : Nat} (hab : a ≤ b)
    (ha : a = 0 ∨ ∃ q, ps[a]? = some q ∧ Lib.compareBytes (headK q) (firstL r) ≤ 0)
    (hb : ∀ q, ps[b]? = some q → Lib.compareBytes (firstL r) (headK q) < 0 ∧ ¬ firstL r <+: headK q) :
    ((ps.drop a).take (b - a)).flatten.filter (fun c => decide (c.r.data.toList = r)) = ps.flatten.filter (fun c => decide (c.r.data.toList = r)) := by
  rw [cut_three ps hab, List.filter_append, List.filter_append]
  have h1 : (ps.take a).flatten.filter (fun c => decide (c.r.data.toList = r)) = [] := by
    rw [List.filter_eq_nil_iff]
    intro c hc
    rw [decide_eq_true_eq]
    intro hr
    rcases ha with rfl | ⟨q, hq, hle⟩
    · simp at hc
    · obtain ⟨d, _, _, _, h2⟩ := less_head h hq hc
      have h3 := bytes_lt_le h2 hle
      have h4 := cmp_first hr
      rw [cmpB_neg] at h4
      omega
  have h2 : (ps.drop b).flatten.filter (fun c => decide (c.r.data.toList = r)) = [] := by
    rw [List.filter_eq_nil_iff]
    intro c hc
    rw [decide_eq_true_eq]
    intro hr
    rcases Nat.lt_or_ge b ps.length with hbl | hbl
    · have hq : ps[b]? = some ps[b] := List.getElem?_eq_getElem hbl
      obtain ⟨h3, h4⟩ := hb _ hq
      exact pre_gap _ _ _ h3 h4 (head_le h hq hc) ((pre_row c r).2 hr)
    · rw [List.drop_eq_nil_of_le hbl] at hc
      simp at hc
  rw [h1, h2, List.nil_append, List.append_nil]
theorem few_all (f : CT → Bool) : ∀ qs : List (List CT), (∀ q ∈ qs, ∃ d ∈ q, f d = true) → qs.length ≤ (qs.flatten.filter f).length
  | [], _ => Nat.zero_le _
  | q :: qs, h => by
    have h1 := few_all f qs fun x hx => h x (List.mem_cons_of_mem _ hx)
    obtain ⟨d, hd, hf⟩ := h q List.mem_cons_self
    rw [List.flatten_cons, List.filter_append, List.length_append, List.length_cons]
    have h2 : 0 < (q.filter f).length := List.length_pos_of_mem (List.mem_filter.2 ⟨hd, hf⟩)
    omega
/-- No more blocks are looked at than the row has cells, and one. -/
theorem row_few {ps : List (List CT)} (h : Cut9 ps) (r : List UInt8) {a b : Nat} (hab : a ≤ b) (hbn : b ≤ ps.length)
    (hm : ∀ i q, a < i → i < b → ps[i]? = some q → firstL r <+: headK q) :
    b - a ≤ (((ps.drop a).take (b - a)).flatten.filter (fun c => decide (c.r.data.toList = r))).length + 1 := by
  rcases Nat.lt_or_ge a b with hlt | hge
  · have e : (ps.drop a).take (b - a) = ps[a] :: (ps.drop (a + 1)).take (b - a - 1) := by
      rw [List.drop_eq_getElem_cons (by omega), show b - a = (b - a - 1) + 1 by omega, List.take_succ_cons]
      rfl
    have h1 := few_all (fun c => decide (c.r.data.toList = r)) ((ps.drop (a + 1)).take (b - a - 1)) fun q hq => by
      obtain ⟨k, hk, e⟩ := List.mem_iff_getElem.1 hq
      have hk2 : k < b - a - 1 := by rw [List.length_take] at hk; omega
      have h2 : ps[a + 1 + k]? = some q := by
        have h3 : ((ps.drop (a + 1)).take (b - a - 1))[k]? = some q := by rw [List.getElem?_eq_getElem hk, e]
        rwa [List.getElem?_take_of_lt hk2, List.getElem?_drop] at h3
      obtain ⟨d, t, rfl, e2⟩ := head_in (h.pos q (List.mem_of_getElem? h2))
      refine ⟨d, List.mem_cons_self, ?_⟩
      have h4 := hm _ _ (by omega) (by omega) h2
      rw [e2] at h4
      simpa using (pre_row d r).1 h4
    rw [e, List.flatten_cons, List.filter_append, List.length_append]
    have h5 : ((ps.drop (a + 1)).take (b - a - 1)).length = b - a - 1 := by rw [List.length_take, List.length_drop]; omega
    omega
  · omega
/-- The cells from a place on lie in the blocks from the last one whose first cell isn't above that on. -/
theorem from_tail {ps : List (List CT)} (h : Cut9 ps) (c : CT) {a : Nat} (ha : a = 0 ∨ ∃ q d t, ps[a]? = some q ∧ q = d :: t ∧ CT.cmp d c ≤ 0) :
    (ps.drop a).flatten.filter (fun x => !decide (CT.cmp x c < 0)) = ps.flatten.filter (fun x => !decide (CT.cmp x c < 0)) := by
  rw [cut_parts ps a, List.filter_append]
  have h1 : (ps.take a).flatten.filter (fun x => !decide (CT.cmp x c < 0)) = [] := by
    rw [List.filter_eq_nil_iff]
    intro x hx
    rcases ha with rfl | ⟨q, d, t, hq, rfl, hle⟩
    · simp at hx
    · have h0 := h.up
      rw [cut_parts ps a, List.pairwise_append] at h0
      have h2 := h0.2.2 x hx d (mem_drop hq List.mem_cons_self (Nat.le_refl a))
      have h3 := ct_c3.lt_le h2 hle
      simp [h3]
  rw [h1, List.nil_append]
end Go.Proofs.YtjbjdkginemedaaGreatDoor

/- Plain mathematics: the cell of a key. Conditions: as each theorem names them. -/
namespace Go.Proofs.YtjbjdkginemedaaGreatDoor
open Go.RowKit

/-- The cell that a key's bytes give: a put has the value that is taken for all. -/
def kc (c : CT) : CT := if c.k = 1 then { c with vk := 4, vn := 0, s := ⟨#[]⟩ } else c
theorem kc_put {c : CT} (h : c.k = 1) : kc c = { c with vk := 4, vn := 0, s := ⟨#[]⟩ } := if_pos h
theorem kc_other {c : CT} (h : ¬ c.k = 1) : kc c = c := if_neg h
theorem kc_key (c : CT) : keyL (kc c) = keyL c := by
  by_cases h : c.k = 1
  · rw [kc_put h]; rfl
  · rw [kc_other h]
theorem kc_bc {c : CT} (h : Bc c) : Bc (kc c) := by
  by_cases hk : c.k = 1
  · rw [kc_put hk]
    have h1 := h.1
    unfold CT.ok cRight at h1
    rw [Bool.and_eq_true] at h1
    refine ⟨?_, ?_, ?_⟩
    · show (cHead _ _ _ _ && cTail c.q.data.toList c.k 4 0 []) = true
      rw [h1.1, hk]
      rfl
    · show inI 0
      unfold inI; decide
    · show (0 : Nat) ≤ 1000
      omega
  · rw [kc_other hk]; exact h
theorem kc_enc {c : CT} (h : c.k = 1) : encB (kc c) = keyL c ++ vEnc 4 0 [] := by rw [kc_put h, encB_is, if_pos h]; rfl
/-- The key of a put is no cell's bytes. -/
theorem put_no {c : CT} (hk : c.k = 1) : NoCell (keyL c) := fun r f q t k vk vn vs hr hi he => by
  have g1 : rdT (keyL c) = some (c.r.data.toList, esc c.f.data.toList ++ (0 :: 1 :: (midM c.q.data.toList c.k ++ tailM c.t c.k))) := rdT_esc _ _
  obtain ⟨_, _, e3⟩ := enc_in g1 (rdT_esc _ _) he
  obtain ⟨_, _, _, _, _, _, _, k1, k4, _⟩ := cright_parts hr
  have m2 : rdT (midM c.q.data.toList c.k ++ tailM c.t c.k) = some (c.q.data.toList, tailM c.t c.k) := mid_text (by rw [hk]; decide)
  by_cases h4 : k = 4
  · subst h4
    rw [← e3] at m2
    have : rdT (midM q 4 ++ (tailM t 4 ++ vPart 4 vk vn vs)) = none := rdT_two _
    rw [this] at m2
    cases m2
  · have m1 : rdT (midM q k ++ (tailM t k ++ vPart k vk vn vs)) = some (q, tailM t k ++ vPart k vk vn vs) := mid_text h4
    rw [e3, m2] at m1
    have e4 := (Prod.mk.inj (Option.some.inj m1)).2
    have e5 := congrArg List.length e4
    rw [List.length_append, tail_len, tail_len] at e5
    have e6 : vPart k vk vn vs = [] := List.eq_nil_of_length_eq_zero (by omega)
    rw [e6, List.append_nil] at e4
    by_cases hk1 : k = 1
    · rw [hk1] at e6
      unfold vPart vEnc at e6
      simp at e6
    · have e7 := congrArg List.getLast? e4
      unfold tailM at e7
      rw [List.getLast?_append, List.getLast?_append, hk] at e7
      have e8 := congrArg UInt8.toNat (Option.some.inj e7)
      have e9 : (UInt8.ofNat (255 - 1 : Int).toNat).toNat = (UInt8.ofNat (255 - k).toNat).toNat := e8
      rw [UInt8.toNat_ofNat', UInt8.toNat_ofNat'] at e9
      omega
end Go.Proofs.YtjbjdkginemedaaGreatDoor
