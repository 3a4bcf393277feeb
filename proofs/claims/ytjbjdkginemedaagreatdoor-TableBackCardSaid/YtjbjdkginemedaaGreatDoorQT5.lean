/- Several texts in one: TX UBa UA UAa. Conditions: as each theorem names them. -/
import Derived.Test.YtjbjdkginemedaaGreatDoorQT3
import Derived.Test.YtjbjdkginemedaaGreatDoorQT0
import Derived.Test.YtjbjdkginemedaaGreatDoorQR
import Derived.Test.YtjbjdkginemedaaGreatDoorQT1
import Derived.Test.YtjbjdkginemedaaGreatDoorCH
import Derived.Laws.EntriesVeiled
/- Plain mathematics: a table's blocks are its cells' parts; what is so of a block is so of all behind it; what a row and a place find in the blocks. Conditions: right cells in order. -/
namespace Go.Proofs.YtjbjdkginemedaaGreatDoor

theorem cut9_of {s : List CT} (hl : s.length ≤ 1000) (h : fineK [] s = true) : Cut9 (cutL 256 s) ∧ (cutL 256 s).flatten = s := by
  have hc := cuts_all 256 s.length s (Nat.le_refl _) hl
  obtain ⟨h1, h2⟩ := (fineK_iff s).1 h
  refine ⟨⟨fun p hp => ?_, ?_, ?_⟩, hc.flat⟩
  · obtain ⟨i, hi, e⟩ := List.mem_iff_getElem.1 hp
    exact (hc.one i p (by rw [List.getElem?_eq_getElem hi, e])).1
  · rw [hc.flat]; exact h1
  · rw [hc.flat]; exact h2
theorem head_mono {ps : List (List CT)} (h : Cut9 ps) {i j : Nat} {p q : List CT} (hp : ps[i]? = some p) (hq : ps[j]? = some q) (hij : i ≤ j) : Lib.compareBytes (headK p) (headK q) ≤ 0 := by
  obtain ⟨d, t, rfl, e⟩ := head_in (h.pos q (List.mem_of_getElem? hq))
  rw [e]
  exact head_le h hp (mem_drop hq List.mem_cons_self hij)
theorem kc_cmp (d c : CT) : CT.cmp (kc d) c = CT.cmp d c := by
  unfold kc
  split <;> rfl
/-- Is a block's first key above what a row's begin with; is it, and does it begin otherwise; is its first cell behind one? -/
def abvP (ps : List (List CT)) (F : List UInt8) (i : Nat) : Bool := match ps[i]? with
  | some p => decide (0 < Lib.compareBytes (headK p) F)
  | none => true
def behP (ps : List (List CT)) (F : List UInt8) (i : Nat) : Bool := match ps[i]? with
  | some p => decide (0 < Lib.compareBytes (headK p) F) && !decide (F <+: headK p)
  | none => true
def froP (ps : List (List CT)) (c : CT) (i : Nat) : Bool := match ps[i]? with
  | some p => decide (0 < CT.cmp (kc (p.headD default)) c)
  | none => true
theorem abv_some {ps : List (List CT)} {F : List UInt8} {i : Nat} {p : List CT} (h : ps[i]? = some p) : abvP ps F i = decide (0 < Lib.compareBytes (headK p) F) := by unfold abvP; rw [h]
theorem beh_some {ps : List (List CT)} {F : List UInt8} {i : Nat} {p : List CT} (h : ps[i]? = some p) : behP ps F i = (decide (0 < Lib.compareBytes (headK p) F) && !decide (F <+: headK p)) := by unfold behP; rw [h]
theorem fro_some {ps : List (List CT)} {c : CT} {i : Nat} {p : List CT} (h : ps[i]? = some p) : froP ps c i = decide (0 < CT.cmp (kc (p.headD default)) c) := by unfold froP; rw [h]
theorem pos_neg {a b : List UInt8} : 0 < Lib.compareBytes a b ↔ Lib.compareBytes b a < 0 := by
  have := cmpB_neg a b
  constructor <;> intro h <;> omega
theorem abv_mono {ps : List (List CT)} (h : Cut9 ps) (F : List UInt8) {n : Nat} (hn : ps.length = n) : ∀ i j, i ≤ j → j < n → abvP ps F i = true → abvP ps F j = true := fun i j hij hj hi => by
  have hp : ps[i]? = some ps[i] := List.getElem?_eq_getElem (by omega)
  have hq : ps[j]? = some ps[j] := List.getElem?_eq_getElem (by omega)
  rw [abv_some hp, decide_eq_true_eq, pos_neg] at hi
  rw [abv_some hq, decide_eq_true_eq, pos_neg]
  exact bytes_lt_le hi (head_mono h hp hq hij)
theorem beh_mono {ps : List (List CT)} (h : Cut9 ps) (F : List UInt8) {n : Nat} (hn : ps.length = n) : ∀ i j, i ≤ j → j < n → behP ps F i = true → behP ps F j = true := fun i j hij hj hi => by
  have hp : ps[i]? = some ps[i] := List.getElem?_eq_getElem (by omega)
  have hq : ps[j]? = some ps[j] := List.getElem?_eq_getElem (by omega)
  have h3 := head_mono h hp hq hij
  rw [beh_some hp, Bool.and_eq_true, decide_eq_true_eq, pos_neg, Bool.not_eq_true', decide_eq_false_iff_not] at hi
  rw [beh_some hq, Bool.and_eq_true, decide_eq_true_eq, pos_neg, Bool.not_eq_true', decide_eq_false_iff_not]
  exact ⟨bytes_lt_le hi.1 h3, pre_gap _ _ _ hi.1 hi.2 h3⟩
theorem head_cell {ps : List (List CT)} (h : Cut9 ps) {i : Nat} {p : List CT} (hp : ps[i]? = some p) : ∃ d t, p = d :: t ∧ p.headD default = d ∧ d ∈ (ps.drop i).flatten := by
  obtain ⟨d, t, rfl, _⟩ := head_in (h.pos p (List.mem_of_getElem? hp))
  exact ⟨d, t, rfl, rfl, mem_drop hp List.mem_cons_self (Nat.le_refl i)⟩
/-- A block's first cell isn't behind any that stands from it on. -/
theorem first_le {ps : List (List CT)} (h : Cut9 ps) {i : Nat} {p : List CT} (hp : ps[i]? = some p) {c : CT} (hc : c ∈ (ps.drop i).flatten) : CT.cmp (p.headD default) c ≤ 0 := by
  obtain ⟨d, t, rfl, e, hd⟩ := head_cell h hp
  have h1 := head_le h hp hc
  have hok : ∀ x ∈ (ps.drop i).flatten, x.ok = true := fun x hx => h.ok x (by rw [cut_parts ps i]; exact List.mem_append_right _ hx)
  have e2 : headK (d :: t) = keyL d := rfl
  rw [e2, key_cmp (hok d hd) (hok c hc)] at h1
  exact h1
theorem fro_mono {ps : List (List CT)} (h : Cut9 ps) (c : CT) {n : Nat} (hn : ps.length = n) : ∀ i j, i ≤ j → j < n → froP ps c i = true → froP ps c j = true := fun i j hij hj hi => by
  have hp : ps[i]? = some ps[i] := List.getElem?_eq_getElem (by omega)
  have hq : ps[j]? = some ps[j] := List.getElem?_eq_getElem (by omega)
  rw [fro_some hp, decide_eq_true_eq, kc_cmp] at hi
  rw [fro_some hq, decide_eq_true_eq, kc_cmp]
  obtain ⟨d, t, e0, e, _⟩ := head_cell h hq
  have hd : d ∈ (ps.drop i).flatten := mem_drop hq (by rw [e0]; exact List.mem_cons_self) hij
  have h1 := first_le h hp hd
  rw [e]
  have h2 : CT.cmp c (ps[i].headD default) < 0 := by have := ct_c3.anti (ps[i].headD default) c; omega
  have h3 := ct_c3.lt_le h2 h1
  have := ct_c3.anti c d
  omega
/-- What Row finds. -/
theorem row_res {ps : List (List CT)} (h : Cut9 ps) (r : List UInt8) {n m1 m2 : Nat} (hn : ps.length = n) (h1 : At9 (abvP ps (firstL r)) n m1) (h2 : At9 (behP ps (firstL r)) n m2) :
    m1 - 1 ≤ m2 ∧ m2 ≤ n ∧ ((ps.drop (m1 - 1)).take (m2 - (m1 - 1))).flatten.filter (fun c => decide (c.r.data.toList = r)) = ps.flatten.filter (fun c => decide (c.r.data.toList = r)) ∧ m2 - (m1 - 1) ≤ (ps.flatten.filter (fun c => decide (c.r.data.toList = r))).length + 1 := by
  obtain ⟨a1, a2, a3⟩ := h1
  obtain ⟨b1, b2, b3⟩ := h2
  have hat : ∀ i, i < n → ∃ q, ps[i]? = some q := fun i hi => ⟨_, List.getElem?_eq_getElem (by omega)⟩
  have hab : m1 - 1 ≤ m2 := by
    rcases Nat.lt_or_ge m2 m1 with hlt | hge
    · exfalso
      obtain ⟨q, hq⟩ := hat m2 (by omega)
      have e1 := a2 m2 hlt
      have e2 := b3 (by omega)
      rw [abv_some hq] at e1
      rw [beh_some hq, e1] at e2
      cases e2
    · omega
  have hmid := row_mid h r hab (a := m1 - 1) (b := m2) (by
    rcases Nat.eq_zero_or_pos m1 with e | e
    · left; omega
    · right
      obtain ⟨q, hq⟩ := hat (m1 - 1) (by omega)
      have e1 := a2 (m1 - 1) (by omega)
      rw [abv_some hq, decide_eq_false_iff_not] at e1
      exact ⟨q, hq, by omega⟩) (fun q hq => by
    have hlt : m2 < n := by have := (List.getElem?_eq_some_iff.1 hq).1; omega
    have e2 := b3 hlt
    rw [beh_some hq, Bool.and_eq_true, decide_eq_true_eq, pos_neg, Bool.not_eq_true', decide_eq_false_iff_not] at e2
    exact e2)
  refine ⟨hab, b1, hmid, ?_⟩
  rw [← hmid]
  refine row_few h r hab (by omega) fun i q hi1 hi2 hq => ?_
  have e1 : abvP ps (firstL r) i = true := abv_mono h (firstL r) hn m1 i (by omega) (by omega) (a3 (by omega))
  have e2 := b2 i hi2
  rw [abv_some hq] at e1
  rw [beh_some hq, e1, Bool.true_and, Bool.not_eq_false', decide_eq_true_eq] at e2
  exact e2
/-- What is gathered without an end. -/
theorem gath_row (f : CT → Bool) (m : Nat) : ∀ (ps : List (List CT)) (acc : List CT), acc.length + ps.flatten.length < m → gath f m ps acc = (acc ++ ps.flatten.filter f, ps.length)
  | [], acc, _ => by show (acc, 0) = (acc ++ [].filter f, 0); rw [List.filter_nil, List.append_nil]
  | p :: ps, acc, h => by
    rw [List.flatten_cons, List.length_append] at h
    have hfl := List.length_filter_le f p
    have h1 := gathIn_take f m p acc (by omega)
    rw [List.take_of_length_le (by rw [List.length_append]; omega)] at h1
    have e : gath f m (p :: ps) acc = ((gath f m ps (gathIn f m p acc)).1, (gath f m ps (gathIn f m p acc)).2 + 1) := by rw [gath, if_neg (by omega)]
    rw [e, h1.1, gath_row f m ps (acc ++ p.filter f) (by rw [List.length_append]; omega), List.flatten_cons, List.filter_append, List.append_assoc]
    rfl
theorem fro_fun (c : CT) : (fun x => decide (0 ≤ CT.cmp x c)) = (fun x => !decide (CT.cmp x c < 0)) := by
  funext x
  by_cases h : CT.cmp x c < 0
  · rw [decide_eq_true h, decide_eq_false (by omega)]; rfl
  · rw [decide_eq_false h, decide_eq_true (by omega)]; rfl
theorem gathIn_none (f : CT → Bool) (most : Int) (h : most ≤ 0) : ∀ p : List CT, gathIn f most p [] = []
  | [] => rfl
  | c :: p => by
    show gathIn f most p (if (([] : List CT).length : Int) < most ∧ f c = true then [] ++ [c] else []) = []
    rw [if_neg (by rw [List.length_nil]; omega)]
    exact gathIn_none f most h p
/-- What From finds. -/
theorem from_res {ps : List (List CT)} (h : Cut9 ps) (c : CT) (most : Int) {n m : Nat} (hn : ps.length = n) (h1 : At9 (froP ps c) n m) :
    (gath (fun x => decide (0 ≤ CT.cmp x c)) most (ps.drop (m - 1)) []).1 = gathIn (fun x => decide (0 ≤ CT.cmp x c)) most ps.flatten [] ∧ (gath (fun x => decide (0 ≤ CT.cmp x c)) most (ps.drop (m - 1)) []).2 ≤ (gath (fun x => decide (0 ≤ CT.cmp x c)) most (ps.drop (m - 1)) []).1.length + 2 := by
  obtain ⟨a1, a2, a3⟩ := h1
  rcases Int.le_total most 0 with hm | hm
  · rw [gath_none _ _ hm, gathIn_none _ _ hm]
    exact ⟨rfl, by simp⟩
  · obtain ⟨k, rfl⟩ : ∃ k : Nat, most = (k : Int) := ⟨most.toNat, by omega⟩
    have hat : ∀ i, i < n → ∃ q, ps[i]? = some q := fun i hi => ⟨_, List.getElem?_eq_getElem (by omega)⟩
    constructor
    · rw [gath_take _ _ _ _ (by simp), (gathIn_take _ _ _ _ (by simp)).1, List.nil_append, List.nil_append, fro_fun, from_tail h c]
      rcases Nat.eq_zero_or_pos m with e | e
      · left; omega
      · right
        obtain ⟨q, hq⟩ := hat (m - 1) (by omega)
        obtain ⟨d, t, e0, e1, _⟩ := head_cell h hq
        have e2 := a2 (m - 1) (by omega)
        rw [fro_some hq, decide_eq_false_iff_not, kc_cmp, e1] at e2
        exact ⟨q, d, t, hq, e0, by omega⟩
    · rcases Nat.lt_or_ge (m - 1) n with hlt | hge
      · obtain ⟨q, hq⟩ := hat (m - 1) hlt
        have ed : ps.drop (m - 1) = q :: ps.drop (m - 1 + 1) := by
          obtain ⟨h2, rfl⟩ := List.getElem?_eq_some_iff.1 hq
          exact List.drop_eq_getElem_cons h2
        rw [ed]
        rcases Nat.eq_zero_or_pos k with hk | hk
        · subst hk; rw [gath_none _ _ (by omega)]; simp
        have e : ∀ f : CT → Bool, gath f k (q :: ps.drop (m - 1 + 1)) [] = ((gath f k (ps.drop (m - 1 + 1)) (gathIn f k q [])).1, (gath f k (ps.drop (m - 1 + 1)) (gathIn f k q [])).2 + 1) := fun f => by rw [gath, if_neg (by rw [List.length_nil]; omega)]
        rw [e]
        have h5 := gath_near (fun x => decide (0 ≤ CT.cmp x c)) k (ps.drop (m - 1 + 1)) (gathIn (fun x => decide (0 ≤ CT.cmp x c)) k q []) (gathIn_take _ _ _ _ (by simp)).2 (fun p hp => by
          obtain ⟨i, hi, rfl⟩ := List.mem_iff_getElem.1 hp
          rw [List.length_drop] at hi
          have hq2 : ps[m - 1 + 1 + i]? = some (ps.drop (m - 1 + 1))[i] := by rw [← List.getElem?_drop, List.getElem?_eq_getElem]
          refine ⟨h.pos _ (List.mem_of_getElem? hq2), fun x hx => ?_⟩
          have e1 : froP ps c (m - 1 + 1 + i) = true := fro_mono h c hn m _ (by omega) (by omega) (a3 (by omega))
          rw [fro_some hq2, decide_eq_true_eq, kc_cmp] at e1
          have h6 := first_le h hq2 (mem_drop hq2 hx (Nat.le_refl _))
          have h7 : CT.cmp c ((ps.drop (m - 1 + 1))[i].headD default) < 0 := by have := ct_c3.anti ((ps.drop (m - 1 + 1))[i].headD default) c; omega
          have h8 := ct_c3.lt_le h7 h6
          rw [decide_eq_true_eq]
          have := ct_c3.anti c x
          omega)
        dsimp only
        omega
      · rw [List.drop_eq_nil_of_le (by omega)]
        show 0 ≤ _
        omega
end Go.Proofs.YtjbjdkginemedaaGreatDoor

/- Plain mathematics: what an index tells, place by place. Conditions: as each theorem names them. -/
namespace Go.Proofs.YtjbjdkginemedaaGreatDoor
open Go.RowKit

/-- Where a part's frame is. -/
def plN (ps : List (List CT)) (i : Nat) : Nat := (blkF (ps.take i)).length
theorem idxL_at : ∀ (ps : List (List CT)) (n i : Nat) (p : List CT), ps[i]? = some p → (idxL n ps)[2 * i]? = some (headK p) ∧ (idxL n ps)[2 * i + 1]? = some (numW (n + plN ps i))
  | [], n, i, p, h => by simp at h
  | q :: ps, n, 0, p, h => by
    have e : q = p := by simpa using h
    subst e
    exact ⟨rfl, rfl⟩
  | q :: ps, n, i + 1, p, h => by
    obtain ⟨h1, h2⟩ := idxL_at ps (n + (frameM (blockB q)).length) i p (by simpa using h)
    have e : n + (frameM (blockB q)).length + plN ps i = n + plN (q :: ps) (i + 1) := by
      unfold plN
      rw [List.take_succ_cons]
      unfold blkF
      rw [List.map_cons, framesM, List.length_append]
      omega
    rw [e] at h2
    exact ⟨h1, h2⟩
theorem plN_zero (ps : List (List CT)) : plN ps 0 = 0 := by unfold plN; rw [List.take_zero]; rfl
theorem blkF_app : ∀ a b : List (List CT), blkF (a ++ b) = blkF a ++ blkF b := fun a b => by
  unfold blkF
  rw [List.map_append]
  induction a with
  | nil => rfl
  | cons x a ih =>
    show frameM (blockB x) ++ framesM (a.map blockB ++ b.map blockB) = (frameM (blockB x) ++ framesM (a.map blockB)) ++ framesM (b.map blockB)
    rw [ih, List.append_assoc]
theorem plN_lt {ps : List (List CT)} {i j : Nat} (hij : i < j) (hj : j ≤ ps.length) : plN ps i < plN ps j := by
  unfold plN
  have e : ps.take j = ps.take i ++ (ps.drop i).take (j - i) := by
    rw [← List.take_append_drop i (ps.take j), List.take_take, Nat.min_eq_left (by omega), List.drop_take]
  rw [e, blkF_app, List.length_append]
  have h2 : (ps.drop i).take (j - i) = ps[i] :: ((ps.drop i).take (j - i)).tail := by
    rw [List.drop_eq_getElem_cons (by omega), show j - i = (j - i - 1) + 1 by omega, List.take_succ_cons]
    rfl
  rw [h2]
  unfold blkF
  rw [List.map_cons, framesM, List.length_append, frame_len]
  omega
theorem plN_end (ps : List (List CT)) : plN ps ps.length = (blkF ps).length := by unfold plN; rw [List.take_length]
/-- A block's frame stands at its place. -/
theorem plN_drop {ps : List (List CT)} {i : Nat} {p : List CT} (h : ps[i]? = some p) : (blkF ps).drop (plN ps i) = frameM (blockB p) ++ blkF (ps.drop (i + 1)) := by
  obtain ⟨hi, rfl⟩ := List.getElem?_eq_some_iff.1 h
  have e : blkF ps = blkF (ps.take i) ++ (frameM (blockB ps[i]) ++ blkF (ps.drop (i + 1))) := by
    conv => lhs; rw [← List.take_append_drop i ps, blkF_app, List.drop_eq_getElem_cons hi]
    rfl
  rw [e]
  unfold plN
  rw [List.drop_left]
/-- What the index tells of the block at a place. -/
def enL (ps : List (List CT)) (u : Nat → Value) (i : Nat) : En := ⟨kc ((ps.getD i []).headD default), u (2 * i), plN ps i⟩
def esL (ps : List (List CT)) (u : Nat → Value) : List En := (List.range ps.length).map (enL ps u)
theorem esL_len (ps : List (List CT)) (u : Nat → Value) : (esL ps u).length = ps.length := by unfold esL; rw [List.length_map, List.length_range]
theorem esL_at {ps : List (List CT)} {u : Nat → Value} {i : Nat} {p : List CT} (h : ps[i]? = some p) : (esL ps u)[i]? = some ⟨kc (p.headD default), u (2 * i), plN ps i⟩ := by
  obtain ⟨hi, rfl⟩ := List.getElem?_eq_some_iff.1 h
  unfold esL enL
  rw [List.getElem?_map, List.getElem?_range hi]
  simp [List.getD_eq_getElem?_getD, List.getElem?_eq_getElem hi]
theorem headK_kc {p : List CT} : keyL (kc (p.headD default)) = headK p := by unfold headK; rw [kc_key]
end Go.Proofs.YtjbjdkginemedaaGreatDoor

/- (*table.Table).Row of a table with a block. Conditions: the table and its index stand, each block is as the index tells, right cells in order. -/
namespace Go.Proofs.YtjbjdkginemedaaGreatDoor
open Go.RowKit

theorem HE.take {w : World} {b off : Nat} {l : List En} (h : HE w b off l) (k : Nat) : HE w b off (l.take k) := fun i hi j hj => by
  rw [List.length_take] at hi
  rw [h i (by omega) j hj, List.getElem_take]
/-- A row's cells. -/
def rowF (row : ByteArray) : CT → Bool := fun c => decide (c.r.data.toList = row.data.toList)
theorem rowF_is (row : ByteArray) (c : CT) : (c.r.toList == row.toList) = rowF row c := by
  unfold rowF
  rw [toList_eq, toList_eq]
  by_cases h : c.r.data.toList = row.data.toList
  · rw [decide_eq_true h, h]; simp
  · rw [decide_eq_false h]; simpa using h
abbrev RwS (W1 : World) (t q1 : Nat) (vi f : Value) (W : World) : Prop := Hid (Below W1.heap.size W1 W ∧ t < W1.heap.size) ∧ W.cell? ⟨t, 1, none⟩ = some vi ∧ W.cell? ⟨q1, 0, none⟩ = some f
theorem rw_drew {W1 W : World} {t q1 : Nat} {vi f : Value} (h : RwS W1 t q1 vi f W) : RwS W1 t q1 vi f W.drew := ⟨⟨h.1.out.1.drew, h.1.out.2⟩, h.2⟩
theorem rw_call {W1 W W' : World} {t q1 : Nat} {vi f : Value} (h : RwS W1 t q1 vi f W) (hb : Below W.heap.size W W') : RwS W1 t q1 vi f W' := by
  obtain ⟨⟨h1, h2⟩, h3, h4⟩ := h
  exact ⟨⟨h1.trans (hb.mono h1.size), h2⟩, (hb.cell (p := ⟨t, 1, none⟩) (cell_lt h3)).trans h3, (hb.cell (p := ⟨q1, 0, none⟩) (cell_lt h4)).trans h4⟩
/-- Where Row asks: the boxes of the row, of what its keys begin with, and of the first closure. -/
structure Rw9 (w W : World) (q0 q q1 : Nat) (row : ByteArray) (Af : Option Addr) (m cf : Nat) (F : List UInt8) : Prop where
  bel : Below w.heap.size w W
  h0 : W.cell? ⟨q0, 0, none⟩ = some (.string row)
  h1 : W.cell? ⟨q, 0, none⟩ = some (.slice Af m cf)
  h2 : W.cell? ⟨q1, 0, none⟩ = some (.func (.func 88) #[] #[.pointer (some ⟨q, 0, none⟩)])
  hh : HoldsA W Af F
  len : F.length = m
  ge : w.heap.size ≤ q0
theorem Rw9.below {w W W' : World} {q0 q q1 : Nat} {row : ByteArray} {Af : Option Addr} {m cf : Nat} {F : List UInt8} (h : Rw9 w W q0 q q1 row Af m cf F) (hb : Below W.heap.size W W') : Rw9 w W' q0 q q1 row Af m cf F :=
  ⟨h.bel.trans (hb.mono h.bel.size), (hb.cell (p := ⟨q0, 0, none⟩) (cell_lt h.h0)).trans h.h0, (hb.cell (p := ⟨q, 0, none⟩) (cell_lt h.h1)).trans h.h1, (hb.cell (p := ⟨q1, 0, none⟩) (cell_lt h.h2)).trans h.h2, h.hh.below hb, h.len, h.ge⟩

/-- Two boxes. -/
theorem box_two (w : World) (x z : Value) (T U : TypeId) : Below w.heap.size w ((w.alloc (.cells #[x] T)).alloc (.cells #[z] U)) ∧ ((w.alloc (.cells #[x] T)).alloc (.cells #[z] U)).cell? ⟨w.heap.size, 0, none⟩ = some x ∧ ((w.alloc (.cells #[x] T)).alloc (.cells #[z] U)).cell? ⟨w.heap.size + 1, 0, none⟩ = some z := by
  have s1 : (w.alloc (.cells #[x] T)).heap.size = w.heap.size + 1 := World.size_alloc _ _
  have hb1 := below_new w (.cells #[x] T)
  have k1 := Blk.new w T #[x]
  have hb2 := below_new (w.alloc (.cells #[x] T)) (.cells #[z] U)
  rw [s1] at hb2
  have k2 := Blk.new (w.alloc (.cells #[x] T)) U #[z]
  rw [s1] at k2
  refine ⟨hb1.trans (hb2.mono (by omega)), ?_, k2.cell 0⟩
  exact (hb2.cell (p := ⟨w.heap.size, 0, none⟩) (Nat.lt_succ_self _)).trans (k1.cell 0)
set_option maxRecDepth 100000 in
set_option maxHeartbeats 16000000 in
theorem row_any9 (t : Nat) (vb : Value) (g off n cap : Nat) (hn : n ≤ 1000000) (hn0 : 0 < n) (hcap : n ≤ cap) (hgt : g ≠ t) (row : ByteArray) (hrow : row.size ≤ 1000) (k : Nat) (es : List En) (ps : List (List CT)) (hes : es.length = n) (hps : ps.length = n) (hcut : Cut9 ps)
    (hsum : ps.flatten.length ≤ 10000) (w : World)
    (hK : ∀ (i : Nat) (x : En) (p : List CT), es[i]? = some x → ps[i]? = some p → Sx w t x.u (headK p) ∧ (headK p).length ≤ 1000000)
    (ht : Blk w t 92 #[vb, .slice (some ⟨g, off, none⟩) n cap, .int .i64 (k : Int)]) (hE : HE w g off es)
    (HL : ∀ W i j x p, es[i]? = some x → ps[i]? = some p → j ≤ k + i → But w.heap.size t w W → Blk W t 92 #[vb, .slice (some ⟨g, off, none⟩) n cap, .int .i64 (j : Int)] → Calls Tryz.prog 135 #[.pointer (some ⟨t, 0, none⟩), .agg x.e.toArray] W fun e w' => ∃ v, e = .returned (.tuple #[v, .bool true]) ∧ But W.heap.size t W w' ∧ Blk w' t 92 #[vb, .slice (some ⟨g, off, none⟩) n cap, .int .i64 ((j + 1 : Nat) : Int)] ∧ CRow w' W.heap.size v p) :
    Calls Tryz.prog 32 #[.pointer (some ⟨t, 0, none⟩), .string row] w fun e w' => ∃ v m1 m2, e = .returned (.tuple #[v, .int .i64 0]) ∧ At9 (abvP ps (firstL row.data.toList)) n m1 ∧ At9 (behP ps (firstL row.data.toList)) n m2 ∧ Gt w w' t vb (.slice (some ⟨g, off, none⟩) n cap) (k + (m2 - (m1 - 1))) v (ps.flatten.filter (rowF row)) := by
  have hmf : ∀ (fn : Fn) (first cap : Array Value) (w : World), (Instr.makeFunc fn first cap).run Tryz.prog w = .ok (.func fn first cap) w := fun _ _ _ _ => rfl
  have htl := ht.lt
  have hEl := hE.lt (by omega)
  have hU : ∀ x ∈ es, ∃ Au ku cu, x.u = .slice Au ku cu := fun x hx => by
    obtain ⟨i, hi, e⟩ := List.mem_iff_getElem.1 hx
    obtain ⟨A, c, h1, _⟩ := (hK i x ps[i] (by rw [List.getElem?_eq_getElem hi, e]) (List.getElem?_eq_getElem (by omega))).1
    exact ⟨A, _, c, h1⟩
  obtain ⟨F, hF⟩ : ∃ F, firstL row.data.toList = F := ⟨_, rfl⟩
  have hFl : F.length ≤ 1000000 := by
    rw [← hF]
    have h1 := esc_len row.data.toList
    have h2 : row.data.toList.length = row.size := rfl
    unfold firstL
    rw [List.length_append]
    simp only [List.length_cons, List.length_nil]
    omega
  have HFi : Hid (∀ W, Calls Tryz.prog 87 #[.string row] W fun e w' => ∃ A m c, e = .returned (.slice A m c) ∧ Hid (F.length = m ∧ HoldsA w' A F ∧ Below W.heap.size W w')) := fun W => by
    refine (first_any row hrow W).mono fun e w' ⟨v, he, hr, hb⟩ => ?_
    obtain ⟨A, c, rfl, _, _, hh, _⟩ := hr.sla
    refine ⟨A, _, c, he, ?_, ?_, hb⟩
    · rw [← hF]; rfl
    · rw [← hF]; exact hh
  -- what an entry's key is
  have hKy : ∀ (W : World) (i : Nat) (x : En) (p : List CT), es[i]? = some x → ps[i]? = some p → But w.heap.size t w W → ∃ Au cu, x.u = .slice Au (headK p).length cu ∧ (headK p).length ≤ cu ∧ HoldsA W Au (headK p) ∧ (headK p).length ≤ 1000000 := fun W i x p hx hp hW => by
    obtain ⟨h1, h2⟩ := hK i x p hx hp
    obtain ⟨A, c, e, h3, _, _, h6⟩ := (h1.but hW).form
    exact ⟨A, c, e, h3, h6, h2⟩
  have HLN : Hid (∀ W q0 q q1 Af m cf, Rw9 w W q0 q q1 row Af m cf F → Calls Tryz.prog 91 #[.pointer (some ⟨t, 0, none⟩), .func (.func 88) #[] #[.pointer (some ⟨q, 0, none⟩)]] W fun e w' => ∃ a m1 : Nat, e = .returned (.int .i64 (a : Int)) ∧ Hid (a = m1 - 1 ∧ At9 (abvP ps F) n m1) ∧ Below W.heap.size W w') := fun W q0 q q1 Af m cf hR => by
    refine (lastnot_row1 t g off vb n cap hn k _ es hes (abvP ps F) (abv_mono hcut F hps) W (ht.keep hR.bel htl) (hE.below hR.bel hEl) fun W' i x hx hW' => ?_).mono fun e w' ⟨m, e1, e2, e3⟩ => ⟨m - 1, m, e1, ⟨rfl, e2⟩, e3⟩
    have hi : i < ps.length := by have := (List.getElem?_eq_some_iff.1 hx).1; omega
    have hp : ps[i]? = some ps[i] := List.getElem?_eq_getElem hi
    have hR' := hR.below hW'
    obtain ⟨Au, cu, e1, e2, e3, e4⟩ := hKy W' i x _ hx hp (But.of_below hR'.bel t)
    rw [abv_some hp]
    refine above_any x q Au Af cu cf (headK ps[i]) F e1 W' e3 hR'.hh ?_
    rw [hR'.len]; exact hR'.h1
  have HCN : Hid (∀ W q0 q q1 Af m cf, Rw9 w W q0 q q1 row Af m cf F → Calls Tryz.prog 92 #[.pointer (some ⟨t, 0, none⟩), .func (.func 89) #[] #[.pointer (some ⟨q1, 0, none⟩), .pointer (some ⟨q, 0, none⟩)]] W fun e w' => ∃ m2 : Nat, e = .returned (.int .i64 (m2 : Int)) ∧ Hid (At9 (behP ps F) n m2) ∧ Below W.heap.size W w') := fun W q0 q q1 Af m cf hR => by
    refine (count_row2 t g off vb n cap hn k _ _ es hes (behP ps F) (beh_mono hcut F hps) W (ht.keep hR.bel htl) (hE.below hR.bel hEl) fun W' i x hx hW' => ?_).mono fun e w' ⟨m, e1, e2, e3⟩ => ⟨m, e1, e2, e3⟩
    have hi : i < ps.length := by have := (List.getElem?_eq_some_iff.1 hx).1; omega
    have hp : ps[i]? = some ps[i] := List.getElem?_eq_getElem hi
    have hR' := hR.below hW'
    obtain ⟨Au, cu, e1, e2, e3, e4⟩ := hKy W' i x _ hx hp (But.of_below hR'.bel t)
    rw [beh_some hp]
    refine behind_any x q1 q Au Af cu cf (headK ps[i]) F e4 hFl e2 e1 W' e3 hR'.hh ?_ hR'.h2
    rw [hR'.len]; exact hR'.h1
  have HRs : Hid (∀ m1 m2, At9 (abvP ps F) n m1 → At9 (behP ps F) n m2 → m1 - 1 ≤ m2 ∧ m2 ≤ n ∧ ((ps.drop (m1 - 1)).take (m2 - (m1 - 1))).flatten.filter (rowF row) = ps.flatten.filter (rowF row) ∧ m2 - (m1 - 1) ≤ (ps.flatten.filter (rowF row)).length + 1) := fun m1 m2 h1 h2 => by
    subst hF
    exact row_res hcut row.data.toList hps h1 h2
  have HGa : Hid (∀ W a b q0 q q1 Af m cf, a ≤ b → b ≤ n → Rw9 w W q0 q q1 row Af m cf F → Calls Tryz.prog 83 #[.pointer (some ⟨t, 0, none⟩), .slice (some ⟨g, off + a * 10, none⟩) (b - a) (cap - a), .int .i64 9223372036854775807, .func (.func 93) #[] #[.pointer (some ⟨q0, 0, none⟩)]] W fun e w' => ∃ v, e = .returned (.tuple #[v, .int .i64 0]) ∧ Hid (Gt W w' t vb (.slice (some ⟨g, off, none⟩) n cap) (k + (b - a)) v (((ps.drop a).take (b - a)).flatten.filter (rowF row)))) := fun W a b q0 q q1 Af m cf hab hb hR => by
    have hwW := hR.bel
    have hcutl : ((ps.drop a).take (b - a)).flatten.length ≤ ps.flatten.length := by
      rw [cut_three ps hab, List.length_append, List.length_append]; omega
    have hlen : ((ps.drop a).take (b - a)).length = b - a := by rw [List.length_take, List.length_drop]; omega
    have h1 := gather_row t vb (.slice (some ⟨g, off, none⟩) n cap) (some ⟨g, off + a * 10, none⟩) (b - a) (cap - a) (by omega) 9223372036854775807 (.pointer (some ⟨q0, 0, none⟩)) k (rowF row) ((es.drop a).take (b - a)) ((ps.drop a).take (b - a)) (by rw [List.length_take, List.length_drop]; omega) hlen (fun x hx => hU x (List.mem_of_mem_drop (List.mem_of_mem_take hx))) (by omega) W (ht.keep hwW htl) (fun _ => ⟨g, off + a * 10, rfl, hgt, ((hE.below hwW hEl).drop a).take _⟩)
      (fun W' x hb => by
        have h2 := letrow_any x q0 row W' ((hb.cell (k := q0) (cell_lt hR.h0) (by have := hR.ge; omega) 0).trans hR.h0)
        rw [rowF_is] at h2
        exact h2)
      (fun W' i j x p hx hp hj hb hbl => by
        have hi1 : i < b - a := by have := (List.getElem?_eq_some_iff.1 hp).1; omega
        rw [List.getElem?_take_of_lt hi1, List.getElem?_drop] at hx hp
        exact HL W' (a + i) j x p hx hp (by omega) ((But.of_below hwW t).trans (hb.mono hwW.size)) hbl)
    have h2 := gath_row (rowF row) 9223372036854775807 ((ps.drop a).take (b - a)) [] (by rw [List.length_nil]; omega)
    have e : ((9223372036854775807 : Nat) : Int) = 9223372036854775807 := rfl
    rw [e] at h2
    rw [h2, hlen, List.nil_append] at h1
    exact h1.mono fun e w' ⟨v, e1, e2⟩ => ⟨v, e1, e2⟩
  obtain ⟨W1, hW1⟩ : ∃ W1, w.alloc (.cells #[.string row] 9) = W1 := ⟨_, rfl⟩
  have HW1 : Hid (Below w.heap.size w W1 ∧ W1.cell? ⟨w.heap.size, 0, none⟩ = some (.string row)) := by
    rw [← hW1]
    exact ⟨below_new _ _, (Blk.new w 9 #[.string row]).cell 0⟩
  have c0 : W1.cell? ⟨w.heap.size, 0, none⟩ = some (.string row) := HW1.out.2
  have HT := hid ht
  clear hE HL hU hK hKy hEl hFl ht hcut hsum hes hps
  go_enter Tryz.func32, Tryz.ntmps32
  go_upto_region 1 with (fail)
  clear hW1
  go_upto_region 4 with (go_at_call 87; refine (HFi.out _).mono ?_; rintro e w2 ⟨Af, m, cf, rfl, h2⟩; have H2 := hid h2.out; clear h2)
  have hX := box_two w2 (.slice Af m cf) (.func (.func 88) #[] #[.pointer (some ⟨w2.heap.size, 0, none⟩)]) 30 107
  obtain ⟨W3, hW3⟩ : ∃ W3, (w2.alloc (.cells #[.slice Af m cf] 30)).alloc (.cells #[.func (.func 88) #[] #[.pointer (some ⟨w2.heap.size, 0, none⟩)]] 107) = W3 := ⟨_, rfl⟩
  have H3 : Hid (Rw9 w W3 w.heap.size w2.heap.size (w2.heap.size + 1) row Af m cf F) := by
    obtain ⟨h1, h2, h3⟩ := H2.out
    rw [hW3] at hX
    obtain ⟨hb3, k1, k2⟩ := hX
    have hz := HW1.out.1.size
    have hz2 : w.heap.size < W1.heap.size := cell_lt HW1.out.2
    have c2 : w2.cell? ⟨w.heap.size, 0, none⟩ = some (.string row) := (h3.cell (p := ⟨w.heap.size, 0, none⟩) hz2).trans HW1.out.2
    have c3 : W3.cell? ⟨w.heap.size, 0, none⟩ = some (.string row) := (hb3.cell (p := ⟨w.heap.size, 0, none⟩) (cell_lt c2)).trans c2
    exact ⟨(HW1.out.1.trans (h3.mono hz)).trans (hb3.mono (Nat.le_trans hz h3.size)), c3, k1, k2, h2.below hb3, h1, Nat.le_refl _⟩
  rw [hW3]
  clear hW3 hX H2 HW1 HFi c0
  have ht3 := HT.out.keep H3.out.bel htl
  have x1 := ht3.cell 1
  have xf := H3.out.h2
  have HT0 : Hid (RwS W3 t (w2.heap.size + 1) (.slice (some ⟨g, off, none⟩) n cap) (.func (.func 88) #[] #[.pointer (some ⟨w2.heap.size, 0, none⟩)]) W3) := ⟨⟨Below.refl _ _, ht3.lt⟩, x1, xf⟩
  have HBl : Hid (∀ W, RwS W3 t (w2.heap.size + 1) (.slice (some ⟨g, off, none⟩) n cap) (.func (.func 88) #[] #[.pointer (some ⟨w2.heap.size, 0, none⟩)]) W → Rw9 w W w.heap.size w2.heap.size (w2.heap.size + 1) row Af m cf F) := fun W h => H3.out.below h.1.out.1
  clear ht3
  go_region_held3 (fun W' => Hid (Below W3.heap.size W3 W' ∧ t < W3.heap.size) ∧ W'.cell? ⟨t, 1, none⟩ = some (.slice (some ⟨g, off, none⟩) n cap) ∧ W'.cell? ⟨w2.heap.size + 1, 0, none⟩ = some (.func (.func 88) #[] #[.pointer (some ⟨w2.heap.size, 0, none⟩)]))
    (first | exact HT0.out | exact rw_drew HT0.out | exact rw_call (by assumption) hb6 | exact rw_call (by assumption) hb5 | exact rw_drew (by assumption) | assumption)
    (first
      | (go_at_call 91; refine (HLN.out _ w.heap.size w2.heap.size (w2.heap.size + 1) Af m cf ?_).mono ?_; (first | exact HBl.out _ (by assumption) | exact HBl.out _ HT0.out | exact HBl.out _ (rw_drew HT0.out)); rintro e w5 ⟨a, m1, rfl, hM1, hb5⟩)
      | (go_at_call 92; refine (HCN.out _ w.heap.size w2.heap.size (w2.heap.size + 1) Af m cf ?_).mono ?_; (first | exact HBl.out _ (by assumption) | exact HBl.out _ HT0.out | exact HBl.out _ (rw_drew HT0.out)); rintro e w6 ⟨m2, rfl, hM2, hb6⟩; obtain ⟨q1, q2, q3, q4⟩ := HRs.out m1 m2 hM1.out.2 hM2.out; rw [← hM1.out.1] at q1 q3 q4; have HQ := hid (And.intro q3 q4); have hz1 : (a : Int) ≤ (m2 : Int) := (by omega); have hz2 : (0 : Int) ≤ (a : Int) := (by omega); have han : a < n := (by have e1 := hM1.out.1; have e2 := hM1.out.2.1; omega); have hz3 : ¬ (cap = a) := (by omega); have hz4 : m2 ≤ cap := (by omega); have hz5 : (m2 : Int) ≤ (cap : Int) := (by omega); clear q3 q4))
  rename_i hLast
  have H5 := hid (HBl.out _ hLast)
  clear hLast
  have HG2 := hid (HGa.out _ a m2 _ _ _ _ _ _ q1 q2 H5.out)
  clear HGa HLN HCN HRs
  go_wp2_with (go_at_call 83; refine HG2.out.mono ?_; rintro e w7 ⟨v, rfl, h7⟩)
  go_ret2
  have hb := H5.out.bel
  have e1 := hM1.out.1
  have h8 := h7.out
  rw [HQ.out.1, e1] at h8
  subst hF
  exact ⟨v, m1, m2, rfl, hM1.out.2, hM2.out, (But.of_below hb t).trans (h8.but.mono hb.size), h8.tb, h8.row.le hb.size, Nat.le_trans hb.size h8.siz⟩
end Go.Proofs.YtjbjdkginemedaaGreatDoor

/- count, lastNot, Row and From of a table without a block. Conditions: the table stands, its index is nil. -/
namespace Go.Proofs.YtjbjdkginemedaaGreatDoor
open Go.RowKit

set_option maxRecDepth 100000 in
set_option maxHeartbeats 8000000 in
theorem count_nil (t cap : Nat) (vb : Value) (k : Int) (f : Nat) (cs : Array Value) (w : World) (ht : Blk w t 92 #[vb, .slice none 0 cap, .int .i64 k]) :
    Calls Tryz.prog 92 #[.pointer (some ⟨t, 0, none⟩), .func (.func f) #[] cs] w fun e w' => e = .returned (.int .i64 0) ∧ Below w.heap.size w w' := by
  have hmf : ∀ (fn : Fn) (first cap : Array Value) (w : World), (Instr.makeFunc fn first cap).run Tryz.prog w = .ok (.func fn first cap) w := fun _ _ _ _ => rfl
  obtain ⟨W2, hW2⟩ : ∃ W2, (w.alloc (.cells #[.pointer (some ⟨t, 0, none⟩)] 43)).alloc (.cells #[.func (.func f) #[] cs] 107) = W2 := ⟨_, rfl⟩
  have hb2 : Below w.heap.size w W2 := by rw [← hW2]; exact (below_new _ _).alloc (by simp) _
  have h2 : W2.cell? ⟨w.heap.size, 0, none⟩ = some (.pointer (some ⟨t, 0, none⟩)) := by
    have := (Blk.new w 43 #[.pointer (some ⟨t, 0, none⟩)]).keep (below_new _ (.cells #[.func (.func f) #[] cs] 107)) (by simp)
    rw [hW2] at this
    exact this.cell 0
  have ht2 := ht.keep hb2 ht.lt
  have HS : Hid (Calls Tryz.prog 137 #[.int .i64 0, .func (.func 138) #[] #[.pointer (some ⟨w.heap.size + 1, 0, none⟩), .pointer (some ⟨w.heap.size, 0, none⟩)]] W2 fun e w' => e = .returned (.int .i64 0) ∧ Hid (Below w.heap.size w w')) := by
    refine (search_any 0 (by omega) (fun _ => true) (fun i j _ h => by omega) _ _ W2 fun W i hi hW => by omega).mono fun e w' ⟨m, e1, e2, _, _, e5⟩ => ⟨?_, hb2.trans (e5.mono hb2.size)⟩
    have : m = 0 := by omega
    subst this
    exact e1
  have x1 := ht2.cell 1
  clear ht ht2 hb2
  go_enter Tryz.func92, Tryz.ntmps92
  go_upto_region 1 with (fail)
  go_wp2_with (go_at_call 137; refine HS.out.mono ?_; rintro e w6 ⟨rfl, h6⟩)
  go_ret
  exact ⟨rfl, h6.out⟩
theorem lastnot_nil (t cap : Nat) (vb : Value) (k : Int) (f : Nat) (cs : Array Value) (w : World) (ht : Blk w t 92 #[vb, .slice none 0 cap, .int .i64 k]) :
    Calls Tryz.prog 91 #[.pointer (some ⟨t, 0, none⟩), .func (.func f) #[] cs] w fun e w' => e = .returned (.int .i64 0) ∧ Below w.heap.size w w' := by
  have HC := hid (count_nil t cap vb k f cs w ht)
  clear ht
  go_enter Tryz.func91, Tryz.ntmps91
  go_wp2_with (go_at_call 92; refine HC.out.mono ?_; rintro e w6 ⟨rfl, h6⟩)
  go_ret
  exact ⟨rfl, h6⟩
set_option maxRecDepth 100000 in
set_option maxHeartbeats 16000000 in
theorem from_nil9 (t : Nat) (vb : Value) (most : Int) (c : CT) (k : Nat) (w : World)
    (ht : Blk w t 92 #[vb, .slice none 0 0, .int .i64 (k : Int)]) :
    Calls Tryz.prog 33 #[.pointer (some ⟨t, 0, none⟩), c.v, .int .i64 most] w fun e w' => ∃ v, e = .returned (.tuple #[v, .int .i64 0]) ∧ Gt w w' t vb (.slice none 0 0) k v [] := by
  have hmf : ∀ (fn : Fn) (first cap : Array Value) (w : World), (Instr.makeFunc fn first cap).run Tryz.prog w = .ok (.func fn first cap) w := fun _ _ _ _ => rfl
  have htl := ht.lt
  obtain ⟨W1, hW1⟩ : ∃ W1, w.alloc (.cells #[.string c.r, .string c.f, .string c.q, .int .i64 c.t, .int .i64 c.k, .int .i64 c.vk, .int .i64 c.vn, .string c.s] 26) = W1 := ⟨_, rfl⟩
  have hb1 : Below w.heap.size w W1 := by rw [← hW1]; exact below_new _ _
  have hd1 : DW W1 w.heap.size c := by rw [← hW1]; exact Blk.new _ _ _
  have hs1 : w.heap.size < W1.heap.size := hd1.lt
  have HLN : Hid (∀ W, Below W1.heap.size W1 W → Calls Tryz.prog 91 #[.pointer (some ⟨t, 0, none⟩), .func (.func 94) #[] #[.pointer (some ⟨w.heap.size, 0, none⟩)]] W fun e w' => e = .returned (.int .i64 0) ∧ Below W.heap.size W w') := fun W hW => lastnot_nil t 0 vb k _ _ W (ht.keep (hb1.trans (hW.mono (Nat.le_of_lt hs1))) htl)
  have HGa : Hid (∀ W, Below W1.heap.size W1 W → Calls Tryz.prog 83 #[.pointer (some ⟨t, 0, none⟩), .slice none 0 0, .int .i64 most, .func (.func 95) #[] #[.pointer (some ⟨w.heap.size, 0, none⟩)]] W fun e w' => ∃ v, e = .returned (.tuple #[v, .int .i64 0]) ∧ Hid (Gt W w' t vb (.slice none 0 0) k v [])) := fun W hW => by
    have hwW := hb1.trans (hW.mono (Nat.le_of_lt hs1))
    have hdW : DW W w.heap.size c := Blk.keep hd1 hW hd1.lt
    have h1 := gather_from t vb (.slice none 0 0) none 0 0 (by omega) most (.pointer (some ⟨w.heap.size, 0, none⟩)) k (fun x => decide (0 ≤ CT.cmp x c)) [] [] rfl rfl (fun x hx => by cases hx) (by simp) W (ht.keep hwW htl) (fun h => by omega)
      (fun W' x hb => letfrom_any x c w.heap.size W' (blk_other hdW hb (Nat.lt_of_lt_of_le hs1 hW.size) (by omega)))
      (fun W' i j x p hx => by cases i <;> cases hx)
    exact h1.mono fun e w' ⟨v, e1, e2⟩ => ⟨v, e1, e2⟩
  have ht1 := ht.keep hb1 htl
  have x1 := ht1.cell 1
  have HT0 : Hid (FrS W1 t (.slice none 0 0) W1) := ⟨⟨Below.refl _ _, ht1.lt⟩, x1⟩
  have HB1 := hid hb1
  have HBl : Hid (∀ W, FrS W1 t (.slice none 0 0) W → Below W1.heap.size W1 W) := fun W h => h.1.out.1
  have HS1 := hid hs1
  clear ht1 hb1 hd1 ht hs1
  go_enter Tryz.func33, Tryz.ntmps33
  go_upto_region 2 with (fail)
  go_region_held3 (fun W' => Hid (Below W1.heap.size W1 W' ∧ t < W1.heap.size) ∧ W'.cell? ⟨t, 1, none⟩ = some (.slice none 0 0))
    (first | exact HT0.out | exact fr_drew HT0.out | exact fr_call (by assumption) hb5 | exact fr_drew (by assumption) | assumption)
    (first
      | (go_at_call 91; refine (HLN.out _ ?_).mono ?_; (first | exact HBl.out _ (by assumption) | exact (Below.refl _ _) | exact (Below.refl _ _).drew); rintro e w5 ⟨rfl, hb5⟩))
  rename_i hLast
  have H5 := hid hLast.1.out.1
  clear hLast
  have HG2 := hid (HGa.out _ H5.out)
  clear HGa HLN
  go_wp2_with (go_at_call 83; refine HG2.out.mono ?_; rintro e w6 ⟨v, rfl, h6⟩)
  go_ret2
  refine ⟨v, rfl, ?_⟩
  have hb := HB1.out.trans (H5.out.mono (Nat.le_of_lt HS1.out))
  exact ⟨(But.of_below hb t).trans (h6.out.but.mono hb.size), h6.out.tb, h6.out.row.le hb.size, Nat.le_trans hb.size h6.out.siz⟩

set_option maxRecDepth 100000 in
set_option maxHeartbeats 16000000 in
theorem row_nil9 (t : Nat) (vb : Value) (row : ByteArray) (hrow : row.size ≤ 1000) (k : Nat) (w : World)
    (ht : Blk w t 92 #[vb, .slice none 0 0, .int .i64 (k : Int)]) :
    Calls Tryz.prog 32 #[.pointer (some ⟨t, 0, none⟩), .string row] w fun e w' => ∃ v, e = .returned (.tuple #[v, .int .i64 0]) ∧ Gt w w' t vb (.slice none 0 0) k v [] := by
  have hmf : ∀ (fn : Fn) (first cap : Array Value) (w : World), (Instr.makeFunc fn first cap).run Tryz.prog w = .ok (.func fn first cap) w := fun _ _ _ _ => rfl
  have htl := ht.lt
  obtain ⟨F, hF⟩ : ∃ F, firstL row.data.toList = F := ⟨_, rfl⟩
  have _hFl : F.length ≤ 1000000 := by
    rw [← hF]
    have h1 := esc_len row.data.toList
    have h2 : row.data.toList.length = row.size := rfl
    unfold firstL
    rw [List.length_append]
    simp only [List.length_cons, List.length_nil]
    omega
  have HFi : Hid (∀ W, Calls Tryz.prog 87 #[.string row] W fun e w' => ∃ A m c, e = .returned (.slice A m c) ∧ Hid (F.length = m ∧ HoldsA w' A F ∧ Below W.heap.size W w')) := fun W => by
    refine (first_any row hrow W).mono fun e w' ⟨v, he, hr, hb⟩ => ?_
    obtain ⟨A, c, rfl, _, _, hh, _⟩ := hr.sla
    refine ⟨A, _, c, he, ?_, ?_, hb⟩
    · rw [← hF]; rfl
    · rw [← hF]; exact hh
  have HLN : Hid (∀ W q, Below w.heap.size w W → Calls Tryz.prog 91 #[.pointer (some ⟨t, 0, none⟩), .func (.func 88) #[] #[.pointer (some ⟨q, 0, none⟩)]] W fun e w' => e = .returned (.int .i64 0) ∧ Below W.heap.size W w') := fun W q hW => lastnot_nil t 0 vb k _ _ W (ht.keep hW htl)
  have HCN : Hid (∀ W cs, Below w.heap.size w W → Calls Tryz.prog 92 #[.pointer (some ⟨t, 0, none⟩), .func (.func 89) #[] cs] W fun e w' => e = .returned (.int .i64 0) ∧ Below W.heap.size W w') := fun W cs hW => count_nil t 0 vb k _ cs W (ht.keep hW htl)
  have HGa : Hid (∀ W q0 q q1 Af m cf, Rw9 w W q0 q q1 row Af m cf F → Calls Tryz.prog 83 #[.pointer (some ⟨t, 0, none⟩), .slice none 0 0, .int .i64 9223372036854775807, .func (.func 93) #[] #[.pointer (some ⟨q0, 0, none⟩)]] W fun e w' => ∃ v, e = .returned (.tuple #[v, .int .i64 0]) ∧ Hid (Gt W w' t vb (.slice none 0 0) k v [])) := fun W q0 q q1 Af m cf hR => by
    have hwW := hR.bel
    have h1 := gather_row t vb (.slice none 0 0) none 0 0 (by omega) 9223372036854775807 (.pointer (some ⟨q0, 0, none⟩)) k (rowF row) [] [] rfl rfl (fun x hx => by cases hx) (by simp) W (ht.keep hwW htl) (fun h => by omega)
      (fun W' x hb => by
        have h2 := letrow_any x q0 row W' ((hb.cell (k := q0) (cell_lt hR.h0) (by have := hR.ge; omega) 0).trans hR.h0)
        rw [rowF_is] at h2
        exact h2)
      (fun W' i j x p hx => by cases i <;> cases hx)
    exact h1.mono fun e w' ⟨v, e1, e2⟩ => ⟨v, e1, e2⟩
  obtain ⟨W1, hW1⟩ : ∃ W1, w.alloc (.cells #[.string row] 9) = W1 := ⟨_, rfl⟩
  have HW1 : Hid (Below w.heap.size w W1 ∧ W1.cell? ⟨w.heap.size, 0, none⟩ = some (.string row)) := by
    rw [← hW1]
    exact ⟨below_new _ _, (Blk.new w 9 #[.string row]).cell 0⟩
  have c0 : W1.cell? ⟨w.heap.size, 0, none⟩ = some (.string row) := HW1.out.2
  have HT := hid ht
  clear ht
  go_enter Tryz.func32, Tryz.ntmps32
  go_upto_region 1 with (fail)
  clear hW1
  go_upto_region 4 with (go_at_call 87; refine (HFi.out _).mono ?_; rintro e w2 ⟨Af, m, cf, rfl, h2⟩; have H2 := hid h2.out; clear h2)
  have hX := box_two w2 (.slice Af m cf) (.func (.func 88) #[] #[.pointer (some ⟨w2.heap.size, 0, none⟩)]) 30 107
  obtain ⟨W3, hW3⟩ : ∃ W3, (w2.alloc (.cells #[.slice Af m cf] 30)).alloc (.cells #[.func (.func 88) #[] #[.pointer (some ⟨w2.heap.size, 0, none⟩)]] 107) = W3 := ⟨_, rfl⟩
  have H3 : Hid (Rw9 w W3 w.heap.size w2.heap.size (w2.heap.size + 1) row Af m cf F) := by
    obtain ⟨h1, h2, h3⟩ := H2.out
    rw [hW3] at hX
    obtain ⟨hb3, k1, k2⟩ := hX
    have hz := HW1.out.1.size
    have hz2 : w.heap.size < W1.heap.size := cell_lt HW1.out.2
    have c2 : w2.cell? ⟨w.heap.size, 0, none⟩ = some (.string row) := (h3.cell (p := ⟨w.heap.size, 0, none⟩) hz2).trans HW1.out.2
    have c3 : W3.cell? ⟨w.heap.size, 0, none⟩ = some (.string row) := (hb3.cell (p := ⟨w.heap.size, 0, none⟩) (cell_lt c2)).trans c2
    exact ⟨(HW1.out.1.trans (h3.mono hz)).trans (hb3.mono (Nat.le_trans hz h3.size)), c3, k1, k2, h2.below hb3, h1, Nat.le_refl _⟩
  rw [hW3]
  clear hW3 hX H2 HW1 HFi c0
  have ht3 := HT.out.keep H3.out.bel htl
  have x1 := ht3.cell 1
  have xf := H3.out.h2
  have HT0 : Hid (RwS W3 t (w2.heap.size + 1) (.slice none 0 0) (.func (.func 88) #[] #[.pointer (some ⟨w2.heap.size, 0, none⟩)]) W3) := ⟨⟨Below.refl _ _, ht3.lt⟩, x1, xf⟩
  have HBl : Hid (∀ W, RwS W3 t (w2.heap.size + 1) (.slice none 0 0) (.func (.func 88) #[] #[.pointer (some ⟨w2.heap.size, 0, none⟩)]) W → Rw9 w W w.heap.size w2.heap.size (w2.heap.size + 1) row Af m cf F) := fun W h => H3.out.below h.1.out.1
  clear ht3
  go_region_held3 (fun W' => Hid (Below W3.heap.size W3 W' ∧ t < W3.heap.size) ∧ W'.cell? ⟨t, 1, none⟩ = some (.slice none 0 0) ∧ W'.cell? ⟨w2.heap.size + 1, 0, none⟩ = some (.func (.func 88) #[] #[.pointer (some ⟨w2.heap.size, 0, none⟩)]))
    (first | exact HT0.out | exact rw_drew HT0.out | exact rw_call (by assumption) hb6 | exact rw_call (by assumption) hb5 | exact rw_drew (by assumption) | assumption)
    (first
      | (go_at_call 91; refine (HLN.out _ _ ?_).mono ?_; (first | exact (HBl.out _ (by assumption)).bel | exact (HBl.out _ HT0.out).bel | exact (HBl.out _ (rw_drew HT0.out)).bel); rintro e w5 ⟨rfl, hb5⟩)
      | (go_at_call 92; refine (HCN.out _ _ ?_).mono ?_; (first | exact (HBl.out _ (by assumption)).bel | exact (HBl.out _ HT0.out).bel | exact (HBl.out _ (rw_drew HT0.out)).bel); rintro e w6 ⟨rfl, hb6⟩))
  rename_i hLast
  have H5 := hid (HBl.out _ hLast)
  clear hLast
  have HG2 := hid (HGa.out _ _ _ _ _ _ _ H5.out)
  clear HGa HLN HCN
  go_wp2_with (go_at_call 83; refine HG2.out.mono ?_; rintro e w7 ⟨v, rfl, h7⟩)
  go_ret2
  have hb := H5.out.bel
  have h8 := h7.out
  exact ⟨v, rfl, (But.of_below hb t).trans (h8.but.mono hb.size), h8.tb, h8.row.le hb.size, Nat.le_trans hb.size h8.siz⟩
end Go.Proofs.YtjbjdkginemedaaGreatDoor
