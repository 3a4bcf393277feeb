/- Several texts in one: YB YC YD YE YF YG YH CF. Conditions: as each theorem names them. -/
import Derived.Test.YtdjaofbjmnmlbaaDoorMHFYA
import Derived.Deep.RegionHeld3
import Derived.Deep.QuietTactic
import Derived.BigQuiet
import Derived.Deep.WholeRow
import Derived.LaidEqlPtr
import Derived.RegionTactic
import Derived.Deep.RegionLaw
import Derived.Test.YtdjaofbjmnmlbaaDoorShelfC
import Derived.Test.YtdjaofbjmnmlbaaDoorSC
import Derived.Test.YtdjaofbjmnmlbaaDoorVD
import Derived.Lib.BufferKept
/- A node more, and a node raised by a level: the whole of the nodes stands. Conditions: as each theorem names them. -/
namespace Go.Proofs.YtdjaofbjmnmlbaaDoor
open Go.RowKit

theorem NdAt.bg {w : World} {B : Nat} {n m : Nd} {R R' : List Nd} (h : NdAt w B n R) (k : NdAt w B m R') : n.b ≠ m.g := by
  obtain ⟨cur, h1, _⟩ := k.rowb
  have h2 := h.blk
  intro e
  unfold Blk at h1 h2
  rw [e, h1] at h2
  injection h2 with h2
  injection h2 with _ h3 _
  revert h3; decide
/-- A pointer of a node's row is stored. -/
theorem NdAt.store {w : World} {B : Nat} {n : Nd} {R R' : List Nd} (h : NdAt w B n R) (j : Nat) (v : Value) (e : ∀ i, i < n.h → nx R' i = if i = j then v else nx R i) : NdAt (w.setCell ⟨n.g, j, none⟩ v) B n R' := by
  obtain ⟨cur, h1, h2, h3, h4, h5⟩ := h.rowb
  have hs := h1.set j v
  have ho : But w.heap.size n.g w (w.setCell ⟨n.g, j, none⟩ v) := (But.refl _ _ _).setCell j v
  refine ⟨h.lo, (ho.block n.b h.blk.lt (h.bg h)).trans h.blk, ⟨by rw [rowN_len]; omega, .inr ⟨n.g, n.cap, _, rfl, h.g_lt.1, hs, h2, h5, by simp [h3], ?_⟩⟩⟩
  rw [Nat.mul_one]
  apply List.ext_getElem?
  intro i
  by_cases hi : i < n.h
  · rw [rowN_at R' hi, List.getElem?_take_of_lt hi, Array.getElem?_toList, e i hi]
    have hc : i < cur.size := by omega
    have h6 := rowN_at R hi
    rw [← h4, List.getElem?_take_of_lt hi, Array.getElem?_toList] at h6
    by_cases q : i = j
    · subst q
      rw [if_pos rfl]
      simp [hc]
    · rw [if_neg q, Array.getElem?_setIfInBounds_ne (fun z => q z.symm)]
      exact h6
  · rw [List.getElem?_eq_none (by rw [List.length_take]; omega), List.getElem?_eq_none (by rw [rowN_len]; omega)]

/-- A new node behind the last one that is ahead. -/
theorem Sk.insert {w W : World} {B : Nat} {hd x : Nd} {P Q : List Nd} (h : Sk w B hd (P ++ Q)) (hB : Below w.heap.size w W) (hx : NdAt W B x Q) (hh : x.h = 1) (hxb : w.heap.size ≤ x.b) (hxg : w.heap.size ≤ x.g) :
    Sk (W.setCell ⟨(lastH hd P 0).g, 0, none⟩ x.p) B hd (P ++ x :: Q) := by
  obtain ⟨A, R, e, hR, h0⟩ := lastH_split 0 hd P
  generalize lastH hd P 0 = n0 at *
  have h0 := h0 (by rw [h.h0]; omega)
  have hR0 : R = [] := by
    cases R with
    | nil => rfl
    | cons r R =>
      exfalso
      have h1 := hR r List.mem_cons_self
      have hm : r ∈ P := by
        cases A with
        | nil => injection e with e1 e2; rw [e2]; exact List.mem_cons_self
        | cons a A => injection e with e1 e2; rw [e2]; simp
      have := h.hs r (List.mem_append_left _ hm)
      omega
  subst hR0
  have e1 : hd :: (P ++ Q) = A ++ n0 :: Q := by rw [← List.cons_append, e]; simp
  have e2 : hd :: (P ++ x :: Q) = A ++ n0 :: x :: Q := by rw [← List.cons_append, e]; simp
  have hc := h.ch
  rw [e1] at hc
  have lt := fun n hn => Chain.lts (n := n) hc hn
  have hcW : Chain W B (A ++ n0 :: Q) := hc.keep fun n hn => ⟨hB.block _ (lt n hn).1, hB.block _ (lt n hn).2⟩
  have db := h.db
  have dg := h.dg
  rw [e1] at db dg
  have m0 : n0 ∈ A ++ n0 :: Q := by simp
  have pg : ((A ++ n0 :: Q).map Nd.g).Perm (n0.g :: (A ++ Q).map Nd.g) := by
    have := (List.perm_middle (a := n0) (l₁ := A) (l₂ := Q)).map Nd.g
    exact this
  have ng := (List.nodup_cons.1 (pg.nodup_iff.1 dg)).1
  have ho : But W.heap.size n0.g W (W.setCell ⟨n0.g, 0, none⟩ x.p) := (But.refl _ _ _).setCell 0 x.p
  have hn0 : NdAt W B n0 Q := hcW.at
  have keep : ∀ n, n ∈ A ++ Q → (W.setCell ⟨n0.g, 0, none⟩ x.p).heap[n.b]? = W.heap[n.b]? ∧ (W.setCell ⟨n0.g, 0, none⟩ x.p).heap[n.g]? = W.heap[n.g]? := fun n hn => by
    have hn' : n ∈ A ++ n0 :: Q := by
      rcases List.mem_append.1 hn with q | q
      · exact List.mem_append_left _ q
      · exact List.mem_append_right _ (List.mem_cons_of_mem _ q)
    obtain ⟨R1, hR1⟩ := hcW.mem hn'
    refine ⟨ho.block _ hR1.blk.lt (hR1.bg hn0), ho.block _ hR1.g_lt.2 fun q => ng ?_⟩
    rw [← q]
    exact List.mem_map_of_mem hn
  have hxn : x.b ≠ n0.g := by have := (lt n0 m0).2; omega
  have hxn2 : x.g ≠ n0.g := by have := (lt n0 m0).2; omega
  have hxk : NdAt (W.setCell ⟨n0.g, 0, none⟩ x.p) B x Q := hx.keep (ho.block _ hx.blk.lt hxn) (ho.block _ hx.g_lt.2 hxn2) fun _ _ => rfl
  have hnk : NdAt (W.setCell ⟨n0.g, 0, none⟩ x.p) B n0 (x :: Q) := hn0.store 0 x.p fun i hi => by
    show (if i < x.h then x.p else nx Q i) = _
    rw [hh]
    by_cases q : i = 0
    · rw [if_pos (by omega), if_pos q]
    · rw [if_neg (by omega), if_neg q]
  have px : (A ++ n0 :: x :: Q).Perm (x :: (A ++ n0 :: Q)) := by
    have : A ++ n0 :: x :: Q = (A ++ [n0]) ++ x :: Q := by simp
    rw [this]
    have := List.perm_middle (a := x) (l₁ := A ++ [n0]) (l₂ := Q)
    simpa using this
  refine ⟨?_, ?_, ?_, h.h0, ?_⟩
  · rw [e2]
    refine Chain.glue hcW (fun n hn => keep n (List.mem_append_left _ hn)) (fun A1 n A2 _ j _ => nx_congr ?_) ⟨hnk, hxk, hcW.drop.2.keep fun n hn => keep n (List.mem_append_right _ hn)⟩
    show (if j < n0.h then n0.p else nx Q j) = (if j < n0.h then n0.p else (if j < x.h then x.p else nx Q j))
    by_cases q : j < n0.h
    · rw [if_pos q, if_pos q]
    · rw [if_neg q, if_neg q, if_neg (by omega)]
  · rw [e2, ((px.map Nd.b).nodup_iff)]
    refine List.nodup_cons.2 ⟨fun q => ?_, db⟩
    obtain ⟨n, hn, q⟩ := List.mem_map.1 q
    have := (lt n hn).1
    omega
  · rw [e2, ((px.map Nd.g).nodup_iff)]
    refine List.nodup_cons.2 ⟨fun q => ?_, dg⟩
    obtain ⟨n, hn, q⟩ := List.mem_map.1 q
    have := (lt n hn).2
    omega
  · intro n hn
    rcases List.mem_append.1 hn with hn | hn
    · exact h.hs n (List.mem_append_left _ hn)
    · rcases List.mem_cons.1 hn with rfl | hn
      · omega
      · exact h.hs n (List.mem_append_right _ hn)

/-- A node is raised by a level: the one ahead of it that stands there points to it. -/
theorem Sk.raise {w w' : World} {B : Nat} {hd a x x' : Nd} {L A S T : List Nd} (h : Sk w B hd L) (e : hd :: L = A ++ a :: (S ++ x :: T)) (hxb : x'.b = x.b) (hh : x'.h = x.h + 1) (ha : x.h < a.h) (hS : ∀ s ∈ S, s.h ≤ x.h)
    (hk : ∀ k, k < w.heap.size → k ≠ x.g → k ≠ x.b → k ≠ a.g → w'.heap[k]? = w.heap[k]?) (hx : NdAt w' B x' T) (haN : NdAt w' B a (S ++ x' :: T)) (hg : x'.g = x.g ∨ w.heap.size ≤ x'.g) :
    ∃ L', hd :: L' = A ++ a :: (S ++ x' :: T) ∧ Sk w' B hd L' := by
  have hc := h.ch
  rw [e] at hc
  have lt := fun n hn => Chain.lts (n := n) hc hn
  have db := h.db
  have dg := h.dg
  rw [e] at db dg
  have hx0 : NdAt w B x T := Chain.at (A := S) (Chain.drop (A := A) hc).2
  have ha0 : NdAt w B a (S ++ x :: T) := hc.at
  have pm : ∀ y : Nd, (A ++ a :: (S ++ y :: T)).Perm (y :: a :: (A ++ (S ++ T))) := fun y => by
    refine List.perm_middle.trans ?_
    have e1 : A ++ (S ++ y :: T) = (A ++ S) ++ y :: T := by simp
    have e2 : A ++ (S ++ T) = (A ++ S) ++ T := by simp
    rw [e1, e2]
    exact (List.Perm.cons a List.perm_middle).trans (List.Perm.swap _ _ _)
  have nb := List.nodup_cons.1 (((pm x).map Nd.b).nodup_iff.1 db)
  have ng := List.nodup_cons.1 (((pm x).map Nd.g).nodup_iff.1 dg)
  have ng2 := List.nodup_cons.1 ng.2
  have keep : ∀ n, n ∈ A ++ (S ++ T) → w'.heap[n.b]? = w.heap[n.b]? ∧ w'.heap[n.g]? = w.heap[n.g]? := fun n hn => by
    have hn' : n ∈ A ++ a :: (S ++ x :: T) := (pm x).mem_iff.2 (List.mem_cons_of_mem _ (List.mem_cons_of_mem _ hn))
    obtain ⟨R1, hR1⟩ := hc.mem hn'
    refine ⟨hk _ (lt n hn').1 (hR1.bg hx0) (fun q => nb.1 ?_) (hR1.bg ha0), hk _ (lt n hn').2 (fun q => ng.1 ?_) (fun q => hx0.bg hR1 q.symm) (fun q => ng2.1 ?_)⟩
    · rw [← q]; exact List.mem_cons_of_mem _ (List.mem_map_of_mem hn)
    · rw [← q]; exact List.mem_cons_of_mem _ (List.mem_map_of_mem hn)
    · rw [← q]; exact List.mem_map_of_mem hn
  have mA : ∀ n ∈ A, n ∈ A ++ (S ++ T) := fun n hn => List.mem_append_left _ hn
  have mS : ∀ n ∈ S, n ∈ A ++ (S ++ T) := fun n hn => List.mem_append_right _ (List.mem_append_left _ hn)
  have mT : ∀ n ∈ T, n ∈ A ++ (S ++ T) := fun n hn => List.mem_append_right _ (List.mem_append_right _ hn)
  have px : x'.p = x.p := by unfold Nd.p; rw [hxb]
  have nT : ∀ j, j ≠ x.h → nx (x :: T) j = nx (x' :: T) j := fun j hj => by
    show (if j < x.h then x.p else nx T j) = (if j < x'.h then x'.p else nx T j)
    rw [px]
    by_cases q : j < x.h
    · rw [if_pos q, if_pos (by omega)]
    · rw [if_neg q, if_neg (by omega)]
  have hcc : Chain w' B (A ++ a :: (S ++ x' :: T)) := by
    refine Chain.glue hc (fun n hn => keep n (mA n hn)) (fun A1 n A2 _ j _ => nx_congr ?_) ⟨haN, Chain.glue (Chain.drop (A := A) hc).2 (fun n hn => keep n (mS n hn)) (fun A1 n A2 e2 j hj => nx_congr (nT j ?_)) ⟨hx, (Chain.drop (A := S) (Chain.drop (A := A) hc).2).2.keep fun n hn => keep n (mT n hn)⟩⟩
    · show (if j < a.h then a.p else nx (S ++ x :: T) j) = (if j < a.h then a.p else nx (S ++ x' :: T) j)
      by_cases q : j < a.h
      · rw [if_pos q, if_pos q]
      · rw [if_neg q, if_neg q]
        exact nx_congr (nT j (by omega))
    · have := hS n (by rw [e2]; simp)
      omega
  have hL : ∃ L', hd :: L' = A ++ a :: (S ++ x' :: T) ∧ ∀ n ∈ L', n = x' ∨ n ∈ L := by
    cases A with
    | nil =>
      injection e with e1 e2
      refine ⟨S ++ x' :: T, by rw [e1]; rfl, fun n hn => ?_⟩
      rw [e2]
      rcases List.mem_append.1 hn with q | q
      · exact .inr (List.mem_append_left _ q)
      · rcases List.mem_cons.1 q with q | q
        · exact .inl q
        · exact .inr (List.mem_append_right _ (List.mem_cons_of_mem _ q))
    | cons y A =>
      injection e with e1 e2
      refine ⟨A ++ a :: (S ++ x' :: T), by rw [e1]; rfl, fun n hn => ?_⟩
      rw [e2]
      rcases List.mem_append.1 hn with q | q
      · exact .inr (List.mem_append_left _ q)
      · rcases List.mem_cons.1 q with q | q
        · exact .inr (by rw [q]; simp)
        · rcases List.mem_append.1 q with q | q
          · exact .inr (by simp [q])
          · rcases List.mem_cons.1 q with q | q
            · exact .inl q
            · exact .inr (by simp [q])
  obtain ⟨L', e', hL'⟩ := hL
  refine ⟨L', e', ?_, ?_, ?_, h.h0, ?_⟩
  · rw [e']; exact hcc
  · rw [e', ((pm x').map Nd.b).nodup_iff]
    show (x'.b :: _).Nodup
    rw [hxb]
    exact List.nodup_cons.2 nb
  · rw [e', ((pm x').map Nd.g).nodup_iff]
    refine List.nodup_cons.2 ⟨?_, ng.2⟩
    rcases hg with q | q
    · rw [q]; exact ng.1
    · intro z
      obtain ⟨n, hn, z⟩ := List.mem_map.1 z
      have hn' : n ∈ A ++ a :: (S ++ x :: T) := (pm x).mem_iff.2 (List.mem_cons_of_mem _ hn)
      have := (lt n hn').2
      omega
  · intro n hn
    rcases hL' n hn with rfl | hn
    · have : x ∈ hd :: L := by rw [e]; simp
      have hx32 : a.h ≤ 32 := by
        have ha1 : a ∈ hd :: L := by rw [e]; simp
        rcases List.mem_cons.1 ha1 with rfl | q
        · rw [h.h0]; omega
        · exact (h.hs a q).2
      omega
    · exact h.hs n hn
end Go.Proofs.YtdjaofbjmnmlbaaDoor

/- (*mem.Mem).find: on each level the last node that is ahead of a cell. Conditions: the nodes stand; those ahead of the cell come first. -/
namespace Go.Proofs.YtdjaofbjmnmlbaaDoor
open Go.RowKit

def blockOf : Value → Nat
  | .pointer (some a) => a.block
  | _ => 0
/-- How many nodes stand from the one that v points to on. -/
def leftN (L : List Nd) (v : Value) : Nat := (L.dropWhile (fun n => decide (n.b ≠ blockOf v))).length
theorem leftN_at : ∀ {A : List Nd} {x : Nd} {R : List Nd}, ((A ++ x :: R).map Nd.b).Nodup → leftN (A ++ x :: R) (.pointer (some ⟨x.b, 0, none⟩)) = R.length + 1
  | [], x, R, _ => by
    unfold leftN
    rw [List.nil_append, List.dropWhile_cons, if_neg (by simp [blockOf])]
    rfl
  | a :: A, x, R, h => by
    have h1 := List.nodup_cons.1 h
    have ih := leftN_at h1.2
    unfold leftN at ih ⊢
    rw [List.cons_append, List.dropWhile_cons, if_pos]
    · exact ih
    · refine decide_eq_true fun e => h1.1 ?_
      have e : a.b = x.b := e
      rw [e]
      exact List.mem_map_of_mem (by simp)

/-- Where find is. -/
structure FdS (w W : World) (c : CT) (xs : Array Value) : Prop where
  cb : Blk W w.heap.size 28 c.e.toArray
  rb : ∃ zs, Blk W (w.heap.size + 1) 107 zs ∧ zs.size = 32
  pb : Blk W (w.heap.size + 1 + 1) 107 xs
  b : Below w.heap.size w W
theorem FdS.below {w W W' : World} {c : CT} {xs : Array Value} (h : FdS w W c xs) (hb : Below W.heap.size W W') : FdS w W' c xs := by
  obtain ⟨zs, h1, h2⟩ := h.rb
  exact ⟨h.cb.keep hb h.cb.lt, ⟨zs, h1.keep hb h1.lt, h2⟩, h.pb.keep hb h.pb.lt, h.b.trans (hb.mono h.b.size)⟩
theorem FdS.set {w W : World} {c : CT} {xs : Array Value} (h : FdS w W c xs) (i : Nat) (v : Value) : FdS w (W.setCell ⟨w.heap.size + 1 + 1, i, none⟩ v) c (xs.setIfInBounds i v) := by
  obtain ⟨zs, h1, h2⟩ := h.rb
  have ho : But W.heap.size (w.heap.size + 1 + 1) W (W.setCell ⟨w.heap.size + 1 + 1, i, none⟩ v) := (But.refl _ _ _).setCell i v
  exact ⟨(ho.block _ h.cb.lt (by omega)).trans h.cb, ⟨zs, (ho.block _ h1.lt (by omega)).trans h1, h2⟩, h.pb.set i v, h.b.trans ((ho.mono h.b.size).below (by omega))⟩

/-- What the test of a step reads. -/
abbrev FndT (w : World) (cb : Nat) (c : CT) (xb xg xh xcap i yb : Nat) (d : CT) (w' : World) : Prop :=
  Hid (Below w.heap.size w w' ∧ cb < w.heap.size ∧ xb < w.heap.size ∧ xg < w.heap.size ∧ yb < w.heap.size) ∧ w'.cell? ⟨xb, 8, none⟩ = some (.slice (some ⟨xg, 0, none⟩) xh xcap) ∧ w'.cell? ⟨xg, i, none⟩ = some (.pointer (some ⟨yb, 0, none⟩)) ∧ w'.cell? ⟨yb, 0, none⟩ = some (.string d.r) ∧ w'.cell? ⟨yb, 1, none⟩ = some (.string d.f) ∧ w'.cell? ⟨yb, 2, none⟩ = some (.string d.q) ∧ w'.cell? ⟨yb, 3, none⟩ = some (.int .i64 d.t) ∧ w'.cell? ⟨yb, 4, none⟩ = some (.int .i64 d.k) ∧ w'.cell? ⟨yb, 5, none⟩ = some (.int .i64 d.vk) ∧ w'.cell? ⟨yb, 6, none⟩ = some (.int .i64 d.vn) ∧ w'.cell? ⟨yb, 7, none⟩ = some (.string d.s) ∧ w'.cell? ⟨cb, 0, none⟩ = some (.string c.r) ∧ w'.cell? ⟨cb, 1, none⟩ = some (.string c.f) ∧ w'.cell? ⟨cb, 2, none⟩ = some (.string c.q) ∧ w'.cell? ⟨cb, 3, none⟩ = some (.int .i64 c.t) ∧ w'.cell? ⟨cb, 4, none⟩ = some (.int .i64 c.k) ∧ w'.cell? ⟨cb, 5, none⟩ = some (.int .i64 c.vk) ∧ w'.cell? ⟨cb, 6, none⟩ = some (.int .i64 c.vn) ∧ w'.cell? ⟨cb, 7, none⟩ = some (.string c.s)
theorem fndt_call {w W W' : World} {cb : Nat} {c : CT} {xb xg xh xcap i yb : Nat} {d : CT} (h : FndT w cb c xb xg xh xcap i yb d W) (hb : Below W.heap.size W W') : FndT w cb c xb xg xh xcap i yb d W' := by
  obtain ⟨hh, xs8, xgi, y0, y1, y2, y3, y4, y5, y6, y7, c0, c1, c2, c3, c4, c5, c6, c7⟩ := h
  obtain ⟨hbw, l1, l2, l3, l4⟩ := hh.out
  have hz := hbw.size
  have hc : ∀ b o, b < w.heap.size → W'.cell? ⟨b, o, none⟩ = W.cell? ⟨b, o, none⟩ := fun b o h => hb.cell (p := ⟨b, o, none⟩) (show b < W.heap.size by omega)
  refine ⟨hid ⟨hbw.trans (hb.mono hz), l1, l2, l3, l4⟩, ?_, ?_, ?_, ?_, ?_, ?_, ?_, ?_, ?_, ?_, ?_, ?_, ?_, ?_, ?_, ?_, ?_, ?_⟩ <;> (rw [hc _ _ (by assumption)]; assumption)
theorem fndt_drew {w W : World} {cb : Nat} {c : CT} {xb xg xh xcap i yb : Nat} {d : CT} (h : FndT w cb c xb xg xh xcap i yb d W) : FndT w cb c xb xg xh xcap i yb d W.drew := by
  obtain ⟨hh, h⟩ := h
  exact ⟨hid ⟨hh.out.1.drew, hh.out.2⟩, h⟩

set_option maxRecDepth 100000 in
set_option maxHeartbeats 4000000 in
theorem find_any (mb : Nat) (hd : Nd) (P Q : List Nd) (c : CT) (B : Nat) (w : World) (hm : w.cell? ⟨mb, 0, none⟩ = some (.pointer (some ⟨hd.b, 0, none⟩))) (h : Sk w B hd (P ++ Q)) (hP : ∀ n ∈ P, CT.cmp n.c c < 0) (hQ : ∀ n ∈ Q, ¬ CT.cmp n.c c < 0) :
    Calls Tryd.prog 81 #[.pointer (some ⟨mb, 0, none⟩), c.v] w fun e w' => ∃ xs : Array Value, e = .returned (.agg xs) ∧ xs.size = 32 ∧ (∀ j, j < 32 → xs[j]? = some (lastH hd P j).p) ∧ Below w.heap.size w w' := by
  have mixed : Tryd.prog.follows .mixedOrders = true := by kernel_rfl
  have HSk := hid h
  have HP := hid hP
  have HQ := hid hQ
  have hOr : Hid (∀ (x y : CT) (W : World), Calls Tryd.prog 56 #[x.v, y.v] W fun e w' => e = .returned (.int .i64 (CT.cmp x y)) ∧ Below W.heap.size W w') := fun x y W => corder_any x.r x.f x.q x.s x.t x.k x.vk x.vn y.r y.f y.q y.s y.t y.k y.vk y.vn W
  have hnd : Hid (((hd :: P).map Nd.b).Nodup) := by
    have h1 := h.db
    rw [← List.cons_append, List.map_append] at h1
    exact (List.nodup_append.1 h1).1
  have hml := cell_lt hm
  clear h hP hQ
  have hFS : Hid (FdS w (((w.alloc (.cells c.e.toArray 28)).alloc (.cells (Array.replicate 32 (.pointer none)) 107)).alloc (.cells (Array.replicate 32 (.pointer none)) 107)) c (Array.replicate 32 (.pointer none))) := by
    have b1 := below_new w (.cells c.e.toArray 28)
    have k1 := Blk.new w 28 c.e.toArray
    have k2 := Blk.new (w.alloc (.cells c.e.toArray 28)) 107 (Array.replicate 32 (.pointer none))
    have k3 := Blk.new ((w.alloc (.cells c.e.toArray 28)).alloc (.cells (Array.replicate 32 (.pointer none)) 107)) 107 (Array.replicate 32 (.pointer none))
    have b2 := below_new (w.alloc (.cells c.e.toArray 28)) (.cells (Array.replicate 32 (.pointer none)) 107)
    have b3 := below_new ((w.alloc (.cells c.e.toArray 28)).alloc (.cells (Array.replicate 32 (.pointer none)) 107)) (.cells (Array.replicate 32 (.pointer none)) 107)
    have s1 : (w.alloc (.cells c.e.toArray 28)).heap.size = w.heap.size + 1 := World.size_alloc _ _
    have s2 : ((w.alloc (.cells c.e.toArray 28)).alloc (.cells (Array.replicate 32 (.pointer none)) 107)).heap.size = w.heap.size + 2 := by rw [World.size_alloc, s1]
    rw [s1] at k2
    rw [s2] at k3
    exact ⟨(k1.keep b2 (by omega)).keep b3 (by omega), ⟨_, k2.keep b3 (by omega), by simp⟩, k3, (b1.trans (b2.mono (by omega))).trans (b3.mono (by omega))⟩
  go_enter Tryd.func81, Tryd.ntmps81
  go_upto_region 2 with (fail)
  refine wp_ltc (fun W => Hid (FdS w W c (Array.replicate 32 (.pointer none))) ∧ W.cell? ⟨mb, 0, none⟩ = some (.pointer (some ⟨hd.b, 0, none⟩))) ⟨hFS.out, (hFS.out.b.cell (p := ⟨mb, 0, none⟩) hml).trans hm⟩ (fun W hW => ?_)
  clear hFS
  obtain ⟨HF, hmW⟩ := hW
  have HSW : Hid (∀ W', Below w.heap.size w W' → Sk W' B hd (P ++ Q)) := fun W' hb => HSk.out.below hb
  go_wp2
  go_loopw [6, 7] (fun vn vi wr => ∃ (z : Int) (x : Nd), -1 ≤ z ∧ z ≤ 31 ∧ vi = .int .i64 z ∧ vn = .pointer (some ⟨x.b, 0, none⟩) ∧ Hid (∃ A R, hd :: P = A ++ x :: R ∧ z < x.h) ∧ Hid (∃ xs, FdS w wr c xs ∧ xs.size = 32 ∧ ∀ j : Nat, z < j → j < 32 → xs[j]? = some (lastH hd P j).p)) (fun _ vi _ => (intOf vi + 1).toNat)
  case atStart => exact ⟨31, hd, by omega, by omega, rfl, rfl, ⟨[], P, rfl, by rw [HSk.out.h0]; omega⟩, _, HF.out, by simp, fun j h1 h2 => by omega⟩
  case round =>
    obtain ⟨z, x, hz1, hz2, rfl, rfl, HX, HW⟩ := hrel
    by_cases hz : 0 ≤ z
    · obtain ⟨i, rfl⟩ : ∃ i : Nat, z = i := ⟨z.toNat, by omega⟩
      have hi : i < 32 := by omega
      obtain ⟨xs, hF, hs, hxs⟩ := HW.out
      have HXs := hid hxs
      have HF0 := hid hF
      clear HW hF hxs
      go_wp2
      go_loopw [6] (fun vn wr2 => ∃ x : Nd, vn = .pointer (some ⟨x.b, 0, none⟩) ∧ Hid (∃ A R, hd :: P = A ++ x :: R ∧ (i : Int) < x.h) ∧ Hid (FdS w wr2 c xs)) (fun vn _ => leftN (hd :: P) vn)
      case atStart => exact ⟨x, rfl, HX.out, HF0.out⟩
      case round =>
        clear HX HF0
        obtain ⟨x, rfl, HX, HF⟩ := hrel
        obtain ⟨A, R, e, hxh⟩ := HX.out
        have hsk := HSW.out _ HF.out.b
        have hch : Chain wr B (A ++ x :: (R ++ Q)) := by
          have h1 := hsk.ch
          rw [← List.cons_append, e, List.append_assoc] at h1
          exact h1
        have hN := hch.at
        have hxl : x.b < wr.heap.size ∧ x.g < wr.heap.size := ⟨hN.blk.lt, hN.g_lt.2⟩
        have x8 := hN.words.2.2.2.2.2.2.2.2
        have hih : i < x.h := by omega
        have xg := hN.at hih
        unfold Nd.s at x8
        have hi0 : (0 : Int) ≤ (i : Int) := by omega
        rcases nx_cases (R ++ Q) i with ⟨hn, hall⟩ | ⟨S, y, T, hst, hn, hy, hS⟩
        · rw [hn] at xg
          have hR : ∀ r ∈ R, r.h ≤ i := fun r hr => hall r (List.mem_append_left _ hr)
          have hF := HF.out
          have hxs := HXs.out
          have hL := lastH_is e (by omega : i < x.h) hR
          have HE : Hid (∃ A R, hd :: P = A ++ x :: R ∧ ((i : Int) - 1) < x.h) := ⟨A, R, e, by omega⟩
          have HW2 : Hid (∀ W, FdS w W c xs → ∃ ys, FdS w (W.setCell ⟨w.heap.size + 1 + 1, i, none⟩ (.pointer (some ⟨x.b, 0, none⟩))) c ys ∧ ys.size = 32 ∧ ∀ j : Nat, (i : Int) - 1 < j → j < 32 → ys[j]? = some (lastH hd P j).p) := fun W hW => by
            refine ⟨_, hW.set i _, by simp [hs], fun j h1 h2 => ?_⟩
            by_cases q : j = i
            · subst q
              rw [hL]
              simp [hs, h2, Nd.p]
            · rw [Array.getElem?_setIfInBounds_ne (fun z => q z.symm)]
              exact hxs j (by omega) h2
          have hi0 : (0 : Int) ≤ (i : Int) := by omega
          have hi32 : (i : Int) < 32 := by omega
          obtain ⟨vi, hvi⟩ : ∃ vi, xs[i]? = some vi := ⟨_, Array.getElem?_eq_getElem (by omega)⟩
          have pc : wr.cell? ⟨w.heap.size + 1 + 1, i, none⟩ = some vi := (hF.pb.cell i).trans hvi
          have pf : wr.frozen? ⟨w.heap.size + 1 + 1, i, none⟩ = false := hF.pb.free i
          have hw1 : IntKind.i64.wrap ((i : Int) - 1) = (i : Int) - 1 := by rw [IntKind.wrap_i64]; omega
          clear hF hxs hL hR hvi hch hN hsk hall hn HX HXs e
          go_upto_region 8 with (fail)
          go_quiet (fail)
          go_wp2
          go_roundw
          case rel => exact ⟨(i : Int) - 1, x, by omega, by omega, by go_num, rfl, HE.out, HW2.out _ (HF.out.below (below_drewN (Below.refl _ _) _))⟩
          case measure => simp [intOf]
        · obtain ⟨hy1, hy2⟩ : Hid (y.b < wr.heap.size) ∧ Hid (∃ R1, NdAt wr B y R1) := by
            have hm : y ∈ A ++ x :: (R ++ Q) := by rw [hst]; simp
            obtain ⟨R1, h1⟩ := hch.mem hm
            exact ⟨h1.blk.lt, R1, h1⟩
          obtain ⟨R1, hyN⟩ := hy2.out
          obtain ⟨y0, y1, y2, y3, y4, y5, y6, y7, _⟩ := hyN.words
          rw [hn] at xg
          unfold Nd.p at xg
          have HT : Hid (FndT wr w.heap.size c x.b x.g x.h x.cap i y.b y.c wr) := by
            have h1 := HF.out.cb
            exact ⟨hid ⟨Below.refl _ _, h1.lt, hxl.1, hxl.2, hy1.out⟩, x8, xg, y0, y1, y2, y3, y4, y5, y6, y7, h1.cell 0, h1.cell 1, h1.cell 2, h1.cell 3, h1.cell 4, h1.cell 5, h1.cell 6, h1.cell 7⟩
          have hOd : Hid (∀ W', Calls Tryd.prog 56 #[y.c.v, c.v] W' fun e w' => e = .returned (.int .i64 (CT.cmp y.c c)) ∧ Below W'.heap.size W' w') := fun W' => hOr.out y.c c W'
          clear y0 y1 y2 y3 y4 y5 y6 y7 x8 xg
          have HSt := hid hst
          have HSS := hid hS
          have HCh := hid hch
          have HE0 := hid e
          clear hst hS hch hN hsk hyN hn e
          by_cases hlt : CT.cmp y.c c < 0
          · have HN2 : Hid (∃ A2 R2, hd :: P = A2 ++ y :: R2 ∧ (i : Int) < y.h) := by
              have h1 := HSt.out
              rcases List.append_eq_append_iff.1 h1 with ⟨a', h2, h3⟩ | ⟨c', h2, h3⟩
              · exfalso
                have hq := HQ.out y (by rw [h3]; simp)
                omega
              · cases c' with
                | nil =>
                  exfalso
                  have hq := HQ.out y (by rw [List.nil_append] at h3; rw [← h3]; simp)
                  omega
                | cons y' c'' =>
                  injection h3 with h4 h5
                  subst h4
                  exact ⟨A ++ x :: S, c'', by rw [HE0.out, h2]; simp, by omega⟩
            have HM : Hid (leftN (hd :: P) (.pointer (some ⟨y.b, 0, none⟩)) < leftN (hd :: P) (.pointer (some ⟨x.b, 0, none⟩))) := by
              have h1 := HSt.out
              have hnd1 := hnd.out
              rcases List.append_eq_append_iff.1 h1 with ⟨a', h2, h3⟩ | ⟨c', h2, h3⟩
              · exfalso
                have hq := HQ.out y (by rw [h3]; simp)
                omega
              · cases c' with
                | nil =>
                  exfalso
                  have hq := HQ.out y (by rw [List.nil_append] at h3; rw [← h3]; simp)
                  omega
                | cons y' c'' =>
                  injection h3 with h4 h5
                  subst h4
                  have e1 : hd :: P = A ++ x :: R := HE0.out
                  have e2 : hd :: P = (A ++ x :: S) ++ y :: c'' := by rw [HE0.out, h2]; simp
                  unfold Hid
                  have l1 : leftN (hd :: P) (.pointer (some ⟨x.b, 0, none⟩)) = R.length + 1 := by
                    rw [e1] at hnd1 ⊢; exact leftN_at hnd1
                  have l2 : leftN (hd :: P) (.pointer (some ⟨y.b, 0, none⟩)) = c''.length + 1 := by
                    rw [e2] at hnd1 ⊢; exact leftN_at hnd1
                  rw [l1, l2, h2]
                  simp only [List.length_append, List.length_cons]
                  omega
            obtain ⟨o, ho⟩ : ∃ o, CT.cmp y.c c = o := ⟨_, rfl⟩
            rw [ho] at hOd hlt
            clear ho
            obtain ⟨h0, x8, xg, y0, y1, y2, y3, y4, y5, y6, y7, c0, c1, c2, c3, c4, c5, c6, c7⟩ := HT.out
            go_upto_region 8 with (fail)
            go_region_held3 (fun W' => Hid (Below wr.heap.size wr W' ∧ w.heap.size < wr.heap.size ∧ x.b < wr.heap.size ∧ x.g < wr.heap.size ∧ y.b < wr.heap.size) ∧ W'.cell? ⟨x.b, 8, none⟩ = some (.slice (some ⟨x.g, 0, none⟩) x.h x.cap) ∧ W'.cell? ⟨x.g, i, none⟩ = some (.pointer (some ⟨y.b, 0, none⟩)) ∧ W'.cell? ⟨y.b, 0, none⟩ = some (.string y.c.r) ∧ W'.cell? ⟨y.b, 1, none⟩ = some (.string y.c.f) ∧ W'.cell? ⟨y.b, 2, none⟩ = some (.string y.c.q) ∧ W'.cell? ⟨y.b, 3, none⟩ = some (.int .i64 y.c.t) ∧ W'.cell? ⟨y.b, 4, none⟩ = some (.int .i64 y.c.k) ∧ W'.cell? ⟨y.b, 5, none⟩ = some (.int .i64 y.c.vk) ∧ W'.cell? ⟨y.b, 6, none⟩ = some (.int .i64 y.c.vn) ∧ W'.cell? ⟨y.b, 7, none⟩ = some (.string y.c.s) ∧ W'.cell? ⟨w.heap.size, 0, none⟩ = some (.string c.r) ∧ W'.cell? ⟨w.heap.size, 1, none⟩ = some (.string c.f) ∧ W'.cell? ⟨w.heap.size, 2, none⟩ = some (.string c.q) ∧ W'.cell? ⟨w.heap.size, 3, none⟩ = some (.int .i64 c.t) ∧ W'.cell? ⟨w.heap.size, 4, none⟩ = some (.int .i64 c.k) ∧ W'.cell? ⟨w.heap.size, 5, none⟩ = some (.int .i64 c.vk) ∧ W'.cell? ⟨w.heap.size, 6, none⟩ = some (.int .i64 c.vn) ∧ W'.cell? ⟨w.heap.size, 7, none⟩ = some (.string c.s))
              (first | exact HT.out | exact fndt_drew HT.out | exact fndt_call (by assumption) hb5 | exact fndt_drew (by assumption) | assumption)
              (first | (go_at_call 56; refine (hOd.out _).mono ?_; rintro e w5 ⟨rfl, hb5⟩))
            rename_i hLast
            obtain ⟨h0', x8', xg', -⟩ := hLast
            have HF5 : Hid (FdS w w5 c xs) := HF.out.below h0'.out.1
            clear h0' HF HT h0 x8 xg y0 y1 y2 y3 y4 y5 y6 y7 c0 c1 c2 c3 c4 c5 c6 c7
            go_wp2
            go_roundw
            case rel => exact ⟨y, rfl, HN2.out, HF5.out⟩
            case measure => exact HM.out
          · have hR : ∀ r ∈ R, r.h ≤ i := fun r hr => by
              have h1 := HSt.out
              have hin : ∀ z ∈ R, z ∈ P := fun z hz => by
                have h2 := HE0.out
                cases A with
                | nil => injection h2 with _ h3; rw [h3]; exact hz
                | cons a A => injection h2 with _ h3; rw [h3]; simp [hz]
              rcases List.append_eq_append_iff.1 h1 with ⟨a', h2, h3⟩ | ⟨c', h2, h3⟩
              · exact HSS.out r (by rw [h2]; simp [hr])
              · cases c' with
                | nil => exact HSS.out r (by rw [h2] at hr; simpa using hr)
                | cons y' c'' =>
                  exfalso
                  injection h3 with h4 h5
                  subst h4
                  exact hlt (HP.out y (hin y (by rw [h2]; simp)))
            have e := HE0.out
            have hxs := HXs.out
            have hL := lastH_is e (by omega : i < x.h) hR
            have HE : Hid (∃ A R, hd :: P = A ++ x :: R ∧ ((i : Int) - 1) < x.h) := ⟨A, R, e, by omega⟩
            have HW2 : Hid (∀ W, FdS w W c xs → ∃ ys, FdS w (W.setCell ⟨w.heap.size + 1 + 1, i, none⟩ (.pointer (some ⟨x.b, 0, none⟩))) c ys ∧ ys.size = 32 ∧ ∀ j : Nat, (i : Int) - 1 < j → j < 32 → ys[j]? = some (lastH hd P j).p) := fun W hW => by
              refine ⟨_, hW.set i _, by simp [hs], fun j h1 h2 => ?_⟩
              by_cases q : j = i
              · subst q
                rw [hL]
                simp [hs, h2, Nd.p]
              · rw [Array.getElem?_setIfInBounds_ne (fun z => q z.symm)]
                exact hxs j (by omega) h2
            have hi0 : (0 : Int) ≤ (i : Int) := by omega
            have hi32 : (i : Int) < 32 := by omega
            clear hxs hL hR e HE0 HSS HSt HCh
            obtain ⟨o, ho⟩ : ∃ o, CT.cmp y.c c = o := ⟨_, rfl⟩
            rw [ho] at hOd hlt
            clear ho
            obtain ⟨h0, x8, xg, y0, y1, y2, y3, y4, y5, y6, y7, c0, c1, c2, c3, c4, c5, c6, c7⟩ := HT.out
            go_upto_region 8 with (fail)
            go_region_held3 (fun W' => Hid (Below wr.heap.size wr W' ∧ w.heap.size < wr.heap.size ∧ x.b < wr.heap.size ∧ x.g < wr.heap.size ∧ y.b < wr.heap.size) ∧ W'.cell? ⟨x.b, 8, none⟩ = some (.slice (some ⟨x.g, 0, none⟩) x.h x.cap) ∧ W'.cell? ⟨x.g, i, none⟩ = some (.pointer (some ⟨y.b, 0, none⟩)) ∧ W'.cell? ⟨y.b, 0, none⟩ = some (.string y.c.r) ∧ W'.cell? ⟨y.b, 1, none⟩ = some (.string y.c.f) ∧ W'.cell? ⟨y.b, 2, none⟩ = some (.string y.c.q) ∧ W'.cell? ⟨y.b, 3, none⟩ = some (.int .i64 y.c.t) ∧ W'.cell? ⟨y.b, 4, none⟩ = some (.int .i64 y.c.k) ∧ W'.cell? ⟨y.b, 5, none⟩ = some (.int .i64 y.c.vk) ∧ W'.cell? ⟨y.b, 6, none⟩ = some (.int .i64 y.c.vn) ∧ W'.cell? ⟨y.b, 7, none⟩ = some (.string y.c.s) ∧ W'.cell? ⟨w.heap.size, 0, none⟩ = some (.string c.r) ∧ W'.cell? ⟨w.heap.size, 1, none⟩ = some (.string c.f) ∧ W'.cell? ⟨w.heap.size, 2, none⟩ = some (.string c.q) ∧ W'.cell? ⟨w.heap.size, 3, none⟩ = some (.int .i64 c.t) ∧ W'.cell? ⟨w.heap.size, 4, none⟩ = some (.int .i64 c.k) ∧ W'.cell? ⟨w.heap.size, 5, none⟩ = some (.int .i64 c.vk) ∧ W'.cell? ⟨w.heap.size, 6, none⟩ = some (.int .i64 c.vn) ∧ W'.cell? ⟨w.heap.size, 7, none⟩ = some (.string c.s))
              (first | exact HT.out | exact fndt_drew HT.out | exact fndt_call (by assumption) hb5 | exact fndt_drew (by assumption) | assumption)
              (first | (go_at_call 56; refine (hOd.out _).mono ?_; rintro e w5 ⟨rfl, hb5⟩))
            rename_i hLast
            obtain ⟨h0', -⟩ := hLast
            have HF5 : Hid (FdS w w5 c xs) := HF.out.below h0'.out.1
            obtain ⟨vi, hvi⟩ : ∃ vi, xs[i]? = some vi := ⟨_, Array.getElem?_eq_getElem (by omega)⟩
            have pc : w5.cell? ⟨w.heap.size + 1 + 1, i, none⟩ = some vi := (HF5.out.pb.cell i).trans hvi
            have pf : w5.frozen? ⟨w.heap.size + 1 + 1, i, none⟩ = false := HF5.out.pb.free i
            have hw1 : IntKind.i64.wrap ((i : Int) - 1) = (i : Int) - 1 := by rw [IntKind.wrap_i64]; omega
            clear h0' HF HT h0 x8 xg y0 y1 y2 y3 y4 y5 y6 y7 c0 c1 c2 c3 c4 c5 c6 c7 hvi
            go_wp2
            go_roundw
            case rel => exact ⟨(i : Int) - 1, x, by omega, by omega, by go_num, rfl, HE.out, HW2.out _ HF5.out⟩
            case measure => simp [intOf]
    · obtain rfl : z = -1 := by omega
      obtain ⟨xs, hF, hs, hxs⟩ := HW.out
      obtain ⟨zs, hr, hzs⟩ := hF.rb
      have hi102 : (Tryd.prog.info? 107).map (·.size) = some 32 := by kernel_rfl
      have hone : xs.all (·.oneCell') = true := by
        rw [Array.all_eq_true]
        intro j hj
        have := hxs j (by omega) (by omega)
        rw [Array.getElem?_eq_getElem hj] at this
        injection this with this
        rw [this]
        rfl
      have HRes : Hid (∀ W, Blk W (w.heap.size + 1) 107 xs → ∀ fn : Func, ∀ tmps, fn.results = #[.cell 4 107] → tmps.getD 4 undef = .pointer (some ⟨w.heap.size + 1, 0, none⟩) → (results fn tmps).run Tryd.prog W = .ok (.agg xs) W) := fun W hW fn tmps h1 h2 => results_cell_row h1 tmps W (w.heap.size + 1) 107 xs (0, 0) _ h2 hW Tryd.underlying107 rfl (by rw [hs]; exact hi102)
      have HEnd : Hid (Blk (wr.setRow (w.heap.size + 1) xs) (w.heap.size + 1) 107 xs ∧ Below w.heap.size w (wr.setRow (w.heap.size + 1) xs)) := by
        refine ⟨setRow_heap wr _ zs _ _ (0, 0) hr, hF.b.trans ⟨rfl, rfl, rfl, by simp, fun k hk => ?_⟩⟩
        simp only [World.setRow, Array.getElem?_modify]
        rw [if_neg (by omega)]
      go_wp2_with (first
        | (refine wpList_load_row rfl 107 (.tmp 5) rfl (w.heap.size + 1 + 1) rfl 107 xs (0, 0) _ hF.pb Tryd.underlying107 rfl (by rw [hs]; exact hi102) ?_)
        | (refine wpList_store_row rfl 107 (.tmp 4) (.tmp 49) rfl (w.heap.size + 1) xs rfl rfl 107 zs hr (by rw [hs]; exact hi102) (by omega) hone ?_))
      refine bodyPost_ret (v := .agg xs) (HRes.out _ HEnd.out.1 _ _ rfl rfl) rfl ?_
      exact ⟨xs, rfl, hs, fun j hj => hxs j (by omega) hj, HEnd.out.2⟩
end Go.Proofs.YtdjaofbjmnmlbaaDoor

/- (*mem.path).at: the node at a cell's place. Conditions: the nodes stand; the path holds the last node that is ahead of the cell. -/
namespace Go.Proofs.YtdjaofbjmnmlbaaDoor
open Go.RowKit

/-- The last node ahead is the last one on level nought. -/
theorem Sk.last0 {w : World} {B : Nat} {hd : Nd} {P Q : List Nd} (h : Sk w B hd (P ++ Q)) : (∃ A, hd :: P = A ++ [lastH hd P 0]) ∧ 0 < (lastH hd P 0).h := by
  obtain ⟨A, R, e, hR, h0⟩ := lastH_split 0 hd P
  generalize lastH hd P 0 = n0 at *
  have h0 := h0 (by rw [h.h0]; omega)
  refine ⟨?_, h0⟩
  cases R with
  | nil => exact ⟨A, e⟩
  | cons r R =>
    exfalso
    have h1 := hR r List.mem_cons_self
    have hm : r ∈ P := by
      cases A with
      | nil => injection e with e1 e2; rw [e2]; exact List.mem_cons_self
      | cons a A => injection e with e1 e2; rw [e2]; simp
    have := h.hs r (List.mem_append_left _ hm)
    omega
/-- It stands, with what isn't ahead behind it. -/
theorem Sk.at0 {w : World} {B : Nat} {hd : Nd} {P Q : List Nd} (h : Sk w B hd (P ++ Q)) : NdAt w B (lastH hd P 0) Q := by
  obtain ⟨⟨A, e⟩, _⟩ := h.last0
  have h1 := h.ch
  rw [← List.cons_append, e, List.append_assoc] at h1
  exact h1.at
theorem Sk.q0 {w : World} {B : Nat} {hd q : Nd} {P Q : List Nd} (h : Sk w B hd (P ++ q :: Q)) : nx (q :: Q) 0 = q.p := if_pos (by have := h.hs q (by simp); omega)

/-- What the test of a place reads. -/
abbrev AtT (W : World) (cb : Nat) (c : CT) (q : Nd) (W' : World) : Prop := Hid (Below W.heap.size W W' ∧ cb < W.heap.size ∧ q.b < W.heap.size) ∧ W'.cell? ⟨q.b, 0, none⟩ = some (.string q.c.r) ∧ W'.cell? ⟨q.b, 1, none⟩ = some (.string q.c.f) ∧ W'.cell? ⟨q.b, 2, none⟩ = some (.string q.c.q) ∧ W'.cell? ⟨q.b, 3, none⟩ = some (.int .i64 q.c.t) ∧ W'.cell? ⟨q.b, 4, none⟩ = some (.int .i64 q.c.k) ∧ W'.cell? ⟨q.b, 5, none⟩ = some (.int .i64 q.c.vk) ∧ W'.cell? ⟨q.b, 6, none⟩ = some (.int .i64 q.c.vn) ∧ W'.cell? ⟨q.b, 7, none⟩ = some (.string q.c.s) ∧ W'.cell? ⟨cb, 0, none⟩ = some (.string c.r) ∧ W'.cell? ⟨cb, 1, none⟩ = some (.string c.f) ∧ W'.cell? ⟨cb, 2, none⟩ = some (.string c.q) ∧ W'.cell? ⟨cb, 3, none⟩ = some (.int .i64 c.t) ∧ W'.cell? ⟨cb, 4, none⟩ = some (.int .i64 c.k) ∧ W'.cell? ⟨cb, 5, none⟩ = some (.int .i64 c.vk) ∧ W'.cell? ⟨cb, 6, none⟩ = some (.int .i64 c.vn) ∧ W'.cell? ⟨cb, 7, none⟩ = some (.string c.s)
theorem atT_call {W W1 W2 : World} {cb : Nat} {c : CT} {q : Nd} (h : AtT W cb c q W1) (hb : Below W1.heap.size W1 W2) : AtT W cb c q W2 := by
  obtain ⟨hh, y0, y1, y2, y3, y4, y5, y6, y7, c0, c1, c2, c3, c4, c5, c6, c7⟩ := h
  obtain ⟨hbw, l1, l2⟩ := hh.out
  have hz := hbw.size
  have hc : ∀ b o, b < W.heap.size → W2.cell? ⟨b, o, none⟩ = W1.cell? ⟨b, o, none⟩ := fun b o h => hb.cell (p := ⟨b, o, none⟩) (show b < W1.heap.size by omega)
  refine ⟨hid ⟨hbw.trans (hb.mono hz), l1, l2⟩, ?_, ?_, ?_, ?_, ?_, ?_, ?_, ?_, ?_, ?_, ?_, ?_, ?_, ?_, ?_, ?_⟩ <;> (rw [hc _ _ (by assumption)]; assumption)
theorem atT_drew {W W1 : World} {cb : Nat} {c : CT} {q : Nd} (h : AtT W cb c q W1) : AtT W cb c q W1.drew := by
  obtain ⟨hh, h⟩ := h
  exact ⟨hid ⟨hh.out.1.drew, hh.out.2⟩, h⟩

/-- The node at a cell's place among those that aren't ahead of it. -/
def hereN (Q : List Nd) (c : CT) : Option Nd := match Q with
  | [] => none
  | q :: _ => if CT.cmp q.c c = 0 then some q else none
def ptrO : Option Nd → Value
  | none => .pointer none
  | some n => n.p

set_option maxRecDepth 100000 in
set_option maxHeartbeats 4000000 in
theorem at_any (ab : Nat) (xs : Array Value) (hd : Nd) (P Q : List Nd) (c : CT) (B : Nat) (w : World) (ha : Blk w ab 107 xs) (hx : xs[0]? = some (lastH hd P 0).p) (h : Sk w B hd (P ++ Q)) :
    Calls Tryd.prog 82 #[.pointer (some ⟨ab, 0, none⟩), c.v] w fun e w' => e = .returned (ptrO (hereN Q c)) ∧ Below w.heap.size w w' := by
  have mixed : Tryd.prog.follows .mixedOrders = true := by kernel_rfl
  have hN := h.at0
  have hn0 := h.last0.2
  generalize hn : lastH hd P 0 = n0 at *
  clear hn
  have HN := hid hN
  have hOr : Hid (∀ (x y : CT) (W : World), Calls Tryd.prog 56 #[x.v, y.v] W fun e w' => e = .returned (.int .i64 (CT.cmp x y)) ∧ Below W.heap.size W w') := fun x y W => corder_any x.r x.f x.q x.s x.t x.k x.vk x.vn y.r y.f y.q y.s y.t y.k y.vk y.vn W
  have HF0 : Hid (∀ W, Below w.heap.size w W → W.cell? ⟨ab, 0, none⟩ = some (.pointer (some ⟨n0.b, 0, none⟩)) ∧ W.cell? ⟨n0.b, 8, none⟩ = some (.slice (some ⟨n0.g, 0, none⟩) n0.h n0.cap) ∧ W.cell? ⟨n0.g, 0, none⟩ = some (nx Q 0)) := fun W hb =>
    ⟨((ha.keep hb ha.lt).cell 0).trans hx, (hb.cell (p := ⟨n0.b, 8, none⟩) hN.blk.lt).trans hN.words.2.2.2.2.2.2.2.2, (hb.cell (p := ⟨n0.g, 0, none⟩) hN.g_lt.2).trans (hN.at hn0)⟩
  have hn0z : (0 : Int) < (n0.h : Int) := by omega
  cases Q with
  | nil =>
    clear ha hx hN h
    go_enter Tryd.func82, Tryd.ntmps82
    go_upto_region 1 with (fail)
    refine wp_ltc (fun W => Hid (Below w.heap.size w W) ∧ W.cell? ⟨ab, 0, none⟩ = some (.pointer (some ⟨n0.b, 0, none⟩)) ∧ W.cell? ⟨n0.b, 8, none⟩ = some (.slice (some ⟨n0.g, 0, none⟩) n0.h n0.cap) ∧ W.cell? ⟨n0.g, 0, none⟩ = some (.pointer none)) ⟨below_new _ _, HF0.out _ (below_new _ _)⟩ (fun W hW => ?_)
    obtain ⟨HBW, a0, x8, xg⟩ := hW
    go_upto_region 2 with (fail)
    go_quiet (fail)
    go_wp2
    go_ret
    exact ⟨rfl, below_drewN HBW.out _⟩
  | cons q Q =>
    have hq0 := h.q0
    have hqm : q ∈ hd :: (P ++ q :: Q) := by simp
    obtain ⟨R1, hqN⟩ := h.ch.mem hqm
    have HqN := hid hqN
    rw [hq0] at HF0
    have hOd : Hid (∀ W', Calls Tryd.prog 56 #[q.c.v, c.v] W' fun e w' => e = .returned (.int .i64 (CT.cmp q.c c)) ∧ Below W'.heap.size W' w') := fun W' => hOr.out q.c c W'
    clear ha hx hN h hq0 hqm hqN hOr
    have e1 : hereN (q :: Q) c = if CT.cmp q.c c = 0 then some q else none := rfl
    rw [e1]
    clear e1
    obtain ⟨o, ho⟩ : ∃ o, CT.cmp q.c c = o := ⟨_, rfl⟩
    rw [ho] at hOd ⊢
    clear ho
    obtain ⟨Rv, hRv⟩ : ∃ Rv, ptrO (if o = 0 then some q else none) = Rv := ⟨_, rfl⟩
    rw [hRv]
    have HR := hid hRv
    clear hRv
    go_enter Tryd.func82, Tryd.ntmps82
    go_upto_region 1 with (fail)
    refine wp_ltc (fun W => Hid (Below w.heap.size w W ∧ Blk W w.heap.size 28 c.e.toArray) ∧ W.cell? ⟨ab, 0, none⟩ = some (.pointer (some ⟨n0.b, 0, none⟩)) ∧ W.cell? ⟨n0.b, 8, none⟩ = some (.slice (some ⟨n0.g, 0, none⟩) n0.h n0.cap) ∧ W.cell? ⟨n0.g, 0, none⟩ = some (.pointer (some ⟨q.b, 0, none⟩))) ⟨⟨below_new _ _, Blk.new w _ _⟩, HF0.out _ (below_new _ _)⟩ (fun W hW => ?_)
    obtain ⟨HBC, a0, x8, xg⟩ := hW
    have HBW := hid HBC.out.1
    obtain ⟨cb, hcb⟩ : ∃ cb, w.heap.size = cb := ⟨_, rfl⟩
    have HT : Hid (AtT W cb c q W) := by
      rw [← hcb]
      have h1 := HBC.out.2
      have h2 := HqN.out.blk.lt
      have h3 := HqN.out.words
      have hc : ∀ o, W.cell? ⟨q.b, o, none⟩ = w.cell? ⟨q.b, o, none⟩ := fun o => HBC.out.1.cell (p := ⟨q.b, o, none⟩) h2
      exact ⟨hid ⟨Below.refl _ _, h1.lt, Nat.lt_of_lt_of_le h2 HBC.out.1.size⟩, (hc 0).trans h3.1, (hc 1).trans h3.2.1, (hc 2).trans h3.2.2.1, (hc 3).trans h3.2.2.2.1, (hc 4).trans h3.2.2.2.2.1, (hc 5).trans h3.2.2.2.2.2.1, (hc 6).trans h3.2.2.2.2.2.2.1, (hc 7).trans h3.2.2.2.2.2.2.2.1, h1.cell 0, h1.cell 1, h1.cell 2, h1.cell 3, h1.cell 4, h1.cell 5, h1.cell 6, h1.cell 7⟩
    clear HBC
    rw [hcb]
    go_upto_region 2 with (fail)
    clear a0 x8 xg
    by_cases hz : o = 0
    · have HR2 : Hid (q.p = Rv) := by rw [← HR.out, if_pos hz]; rfl
      have hz2 : (o != 0) = false := by simpa using hz
      obtain ⟨h0, y0, y1, y2, y3, y4, y5, y6, y7, c0, c1, c2, c3, c4, c5, c6, c7⟩ := HT.out
      go_region_held3 (fun W' => Hid (Below W.heap.size W W' ∧ cb < W.heap.size ∧ q.b < W.heap.size) ∧ W'.cell? ⟨q.b, 0, none⟩ = some (.string q.c.r) ∧ W'.cell? ⟨q.b, 1, none⟩ = some (.string q.c.f) ∧ W'.cell? ⟨q.b, 2, none⟩ = some (.string q.c.q) ∧ W'.cell? ⟨q.b, 3, none⟩ = some (.int .i64 q.c.t) ∧ W'.cell? ⟨q.b, 4, none⟩ = some (.int .i64 q.c.k) ∧ W'.cell? ⟨q.b, 5, none⟩ = some (.int .i64 q.c.vk) ∧ W'.cell? ⟨q.b, 6, none⟩ = some (.int .i64 q.c.vn) ∧ W'.cell? ⟨q.b, 7, none⟩ = some (.string q.c.s) ∧ W'.cell? ⟨cb, 0, none⟩ = some (.string c.r) ∧ W'.cell? ⟨cb, 1, none⟩ = some (.string c.f) ∧ W'.cell? ⟨cb, 2, none⟩ = some (.string c.q) ∧ W'.cell? ⟨cb, 3, none⟩ = some (.int .i64 c.t) ∧ W'.cell? ⟨cb, 4, none⟩ = some (.int .i64 c.k) ∧ W'.cell? ⟨cb, 5, none⟩ = some (.int .i64 c.vk) ∧ W'.cell? ⟨cb, 6, none⟩ = some (.int .i64 c.vn) ∧ W'.cell? ⟨cb, 7, none⟩ = some (.string c.s))
        (first | exact HT.out | exact atT_drew HT.out | exact atT_call (by assumption) hb5 | exact atT_drew (by assumption) | assumption)
        (first | (go_at_call 56; refine (hOd.out _).mono ?_; rintro e w5 ⟨rfl, hb5⟩))
      rename_i hLast
      obtain ⟨h0', -⟩ := hLast
      have HB5 := hid h0'.out.1
      clear h0'
      go_wp2
      go_ret
      exact ⟨by rw [← HR2.out]; rfl, HBW.out.trans (HB5.out.mono HBW.out.size)⟩
    · have HR2 : Hid (Value.pointer none = Rv) := by rw [← HR.out, if_neg hz]; rfl
      have hz2 : (o != 0) = true := by simpa using hz
      obtain ⟨h0, y0, y1, y2, y3, y4, y5, y6, y7, c0, c1, c2, c3, c4, c5, c6, c7⟩ := HT.out
      go_region_held3 (fun W' => Hid (Below W.heap.size W W' ∧ cb < W.heap.size ∧ q.b < W.heap.size) ∧ W'.cell? ⟨q.b, 0, none⟩ = some (.string q.c.r) ∧ W'.cell? ⟨q.b, 1, none⟩ = some (.string q.c.f) ∧ W'.cell? ⟨q.b, 2, none⟩ = some (.string q.c.q) ∧ W'.cell? ⟨q.b, 3, none⟩ = some (.int .i64 q.c.t) ∧ W'.cell? ⟨q.b, 4, none⟩ = some (.int .i64 q.c.k) ∧ W'.cell? ⟨q.b, 5, none⟩ = some (.int .i64 q.c.vk) ∧ W'.cell? ⟨q.b, 6, none⟩ = some (.int .i64 q.c.vn) ∧ W'.cell? ⟨q.b, 7, none⟩ = some (.string q.c.s) ∧ W'.cell? ⟨cb, 0, none⟩ = some (.string c.r) ∧ W'.cell? ⟨cb, 1, none⟩ = some (.string c.f) ∧ W'.cell? ⟨cb, 2, none⟩ = some (.string c.q) ∧ W'.cell? ⟨cb, 3, none⟩ = some (.int .i64 c.t) ∧ W'.cell? ⟨cb, 4, none⟩ = some (.int .i64 c.k) ∧ W'.cell? ⟨cb, 5, none⟩ = some (.int .i64 c.vk) ∧ W'.cell? ⟨cb, 6, none⟩ = some (.int .i64 c.vn) ∧ W'.cell? ⟨cb, 7, none⟩ = some (.string c.s))
        (first | exact HT.out | exact atT_drew HT.out | exact atT_call (by assumption) hb5 | exact atT_drew (by assumption) | assumption)
        (first | (go_at_call 56; refine (hOd.out _).mono ?_; rintro e w5 ⟨rfl, hb5⟩))
      rename_i hLast
      obtain ⟨h0', -⟩ := hLast
      have HB5 := hid h0'.out.1
      clear h0'
      go_wp2
      go_ret
      exact ⟨by rw [← HR2.out]; rfl, HBW.out.trans (HB5.out.mono HBW.out.size)⟩
end Go.Proofs.YtdjaofbjmnmlbaaDoor

/- (*mem.node).middle: the second of three nodes that stand on a level between a node and the next one of the level above. Conditions: the nodes stand; the node is among them, and stands on the level above. -/
namespace Go.Proofs.YtdjaofbjmnmlbaaDoor
open Go.RowKit

/-- The k-th node behind a on level i, and no level above; T stands behind it. -/
def MidI (a : Nd) (R : List Nd) (i : Nat) : Nat → Nd → List Nd → Prop
  | 0, l, T => l = a ∧ T = R
  | k + 1, l, T => ∃ l' S, MidI a R i k l' (S ++ l :: T) ∧ (∀ s ∈ S, s.h ≤ i) ∧ l.h = i + 1
theorem MidI.split {a : Nd} {R : List Nd} {i : Nat} {A : List Nd} : ∀ {k : Nat} {l : Nd} {T : List Nd}, MidI a R i k l T → ∃ A', A ++ a :: R = A' ++ l :: T
  | 0, _, _, ⟨h1, h2⟩ => ⟨A, by rw [h1, h2]⟩
  | k + 1, l, T, ⟨l', S, h1, _, _⟩ => by
    obtain ⟨A', e⟩ := MidI.split (A := A) h1
    exact ⟨A' ++ l' :: S, by rw [e]; simp⟩
theorem MidI.skip {a : Nd} {R : List Nd} {i : Nat} : ∀ {k : Nat} {l : Nd} {T : List Nd}, MidI a R i k l T → nx R (i + 1) = nx T (i + 1)
  | 0, _, _, ⟨_, h2⟩ => by rw [h2]
  | k + 1, l, T, ⟨l', S, h1, h2, h3⟩ => by
    rw [MidI.skip h1, nx_skip fun s hs => Nat.le_succ_of_le (h2 s hs)]
    show (if i + 1 < l.h then l.p else nx T (i + 1)) = _
    rw [if_neg (by omega)]
theorem MidI.low {a : Nd} {R : List Nd} {i : Nat} : ∀ {k : Nat} {l : Nd} {T : List Nd}, MidI a R i (k + 1) l T → ∃ S, R = S ++ l :: T ∧ l.h = i + 1 ∧ ∀ s ∈ S, s.h ≤ i + 1
  | 0, l, T, ⟨l', S, ⟨_, h1⟩, h2, h3⟩ => ⟨S, h1.symm, h3, fun s hs => Nat.le_succ_of_le (h2 s hs)⟩
  | k + 1, l, T, ⟨l', S, h1, h2, h3⟩ => by
    obtain ⟨S', e, h4, h5⟩ := MidI.low h1
    refine ⟨S' ++ l' :: S, by rw [e]; simp, h3, fun s hs => ?_⟩
    rcases List.mem_append.1 hs with hs | hs
    · exact h5 s hs
    · rcases List.mem_cons.1 hs with rfl | hs
      · omega
      · exact Nat.le_succ_of_le (h2 s hs)
theorem MidI.high {a : Nd} {R : List Nd} {i k : Nat} (ha : i < a.h) {l : Nd} {T : List Nd} (h : MidI a R i k l T) : i < l.h := by
  cases k with
  | zero => rw [h.1]; exact ha
  | succ k => obtain ⟨_, _, _, _, h3⟩ := h; omega

theorem info_node : (Tryd.prog.info? 103).map (fun i => i.size) = some 9 := by kernel_rfl
theorem eql_same (b : Nat) (W : World) : (binOp .eql 100 (.pointer (some ⟨b, 0, none⟩)) (.pointer (some ⟨b, 0, none⟩))).run Tryd.prog W = .ok (.bool true) W := by
  obtain ⟨j, hj, _⟩ := Option.map_eq_some_iff.1 info_node
  exact run_eql_ptr_same W _ Tryd.underlying100 hj
theorem eql_other {b b' : Nat} {W : World} {xs ys : Array Value} (hne : b ≠ b') (h1 : Blk W b 103 xs) (h2 : Blk W b' 103 ys) : (binOp .eql 100 (.pointer (some ⟨b, 0, none⟩)) (.pointer (some ⟨b', 0, none⟩))).run Tryd.prog W = .ok (.bool false) W := by
  obtain ⟨j, hj, hs⟩ := Option.map_eq_some_iff.1 info_node
  exact run_eql_ptr_other W Tryd.underlying100 hj (by omega) (fun e => hne (by injection e)) h1 h2

set_option maxRecDepth 100000 in
set_option maxHeartbeats 4000000 in
theorem middle_any (hd a : Nd) (L A R : List Nd) (i : Nat) (B : Nat) (w : World) (h : Sk w B hd L) (e : hd :: L = A ++ a :: R) (hi : i + 1 < a.h) (h32 : a.h ≤ 32) :
    Calls Tryd.prog 128 #[.pointer (some ⟨a.b, 0, none⟩), .int .i64 i] w fun e w' => (∃ o : Option Nd, e = .returned (ptrO o) ∧ ∀ x, o = some x → ∃ S T, R = S ++ x :: T ∧ x.h = i + 1 ∧ ∀ s ∈ S, s.h ≤ i + 1) ∧ Below w.heap.size w w' := by
  have mixed : Tryd.prog.follows .mixedOrders = true := by kernel_rfl
  have hc := h.ch
  rw [e] at hc
  have HC := hid hc
  have hnd := h.db
  rw [e] at hnd
  have HND := hid hnd
  have hN : NdAt w B a R := hc.at
  have a8 := hN.words.2.2.2.2.2.2.2.2
  have ai := hN.at (show i < a.h by omega)
  have aj := hN.at hi
  unfold Nd.s at a8
  have hi0 : (0 : Int) ≤ (i : Int) := by omega
  have hiz : (i : Int) < (a.h : Int) := by omega
  have hj0 : (0 : Int) ≤ (i : Int) + 1 := by omega
  have hjz : (i : Int) + 1 < (a.h : Int) := by omega
  have hjw : IntKind.i64.wrap ((i : Int) + 1) = (i : Int) + 1 := by rw [IntKind.wrap_i64]; omega
  have hjn : ((i : Int) + 1).toNat = i + 1 := by omega
  clear h e hc hnd hN h32
  obtain ⟨u, hu⟩ : ∃ u, nx R (i + 1) = u := ⟨_, rfl⟩
  have HU := hid hu
  rw [hu] at aj
  clear hu
  go_enter Tryd.func128, Tryd.ntmps128
  go_wp2
  go_loopw [5, 7] (fun vl vk wr => wr = w ∧ ∃ (k : Nat) (l : Nd), k ≤ 3 ∧ vk = .int .i64 k ∧ vl = .pointer (some ⟨l.b, 0, none⟩) ∧ Hid (∃ T, MidI a R i k l T)) (fun _ vk _ => 3 - (intOf vk).toNat)
  case atStart => exact ⟨rfl, 0, a, by omega, rfl, rfl, R, rfl, rfl⟩
  case round =>
    obtain ⟨rfl, k, l, hk, rfl, rfl, HM⟩ := hrel
    by_cases hk3 : k < 3
    · have hk3z : (k : Int) < 3 := by omega
      obtain ⟨T, hM⟩ := HM.out
      obtain ⟨A', e'⟩ := hM.split (A := A)
      have hcl := HC.out
      rw [e'] at hcl
      have hlN := hcl.at
      have l8 := hlN.words.2.2.2.2.2.2.2.2
      have hlh : i < l.h := hM.high (by omega)
      have lz : (i : Int) < (l.h : Int) := by omega
      have li := hlN.at hlh
      unfold Nd.s at l8
      rcases nx_cases T i with ⟨hn, hall⟩ | ⟨S, y, T', hst, hn, hy, hS⟩
      · rw [hn] at li
        have hun : u = .pointer none := by
          rw [← HU.out, hM.skip]
          rcases nx_cases T (i + 1) with ⟨h1, _⟩ | ⟨S, y, T', h1, _, h2, _⟩
          · exact h1
          · have := hall y (by rw [h1]; simp)
            omega
        rw [hun] at aj
        clear hM hcl hlN hall hn hun e' HU
        go_wp2
        go_ret
        exact ⟨⟨none, rfl, fun x hx => by cases hx⟩, Below.refl _ _⟩
      · rw [hn] at li
        unfold Nd.p at li
        by_cases hyh : y.h = i + 1
        · have hM2 : MidI a R i (k + 1) y T' := ⟨l, S, by rw [← hst]; exact hM, hS, hyh⟩
          have HM2 := hid hM2
          have hu2 : u = nx T' (i + 1) := by rw [← HU.out, hM2.skip]
          obtain ⟨A2, e2⟩ := hM2.split (A := A)
          have hnd := HND.out
          rw [e2] at hnd
          rcases nx_cases T' (i + 1) with ⟨h1, _⟩ | ⟨S2, z, T2, h1, h2, _, _⟩
          · rw [hu2, h1] at aj
            clear hM hcl hlN hn hu2 e' HU hM2 e2 hnd hst hS h1
            go_wp2
            go_roundw
            case rel => exact ⟨by trivial, k + 1, y, by omega, by go_num, rfl, T', HM2.out⟩
            case measure => simp [intOf]; omega
          · have hne : ¬ y.b = z.b := by
              rw [h1, List.map_append, List.map_cons] at hnd
              have h3 := (List.nodup_append.1 hnd).2.1
              have h4 := (List.nodup_cons.1 h3).1
              intro q
              apply h4
              rw [q]
              exact List.mem_map_of_mem (by simp)
            rw [hu2, h2] at aj
            unfold Nd.p at aj
            have hcz := HC.out
            obtain ⟨R8, hz8⟩ := hcz.mem (n := z) (by rw [e2, h1]; simp)
            obtain ⟨R9, hy9⟩ := hcz.mem (n := y) (by rw [e2]; simp)
            have hcmp := eql_other hne hy9.blk hz8.blk
            clear hM hcl hlN hn hu2 e' HU hM2 e2 hnd hst hS h1 h2 hcz hz8 hy9
            go_wp2
            go_roundw
            case rel => exact ⟨by trivial, k + 1, y, by omega, by go_num, rfl, T', HM2.out⟩
            case measure => simp [intOf]; omega
        · have hun : u = y.p := by
            rw [← HU.out, hM.skip, hst, nx_skip fun s hs => Nat.le_succ_of_le (hS s hs)]
            exact if_pos (by omega)
          rw [hun] at aj
          unfold Nd.p at aj
          have hcmp := eql_same y.b wr
          clear hM hcl hlN hn hun e' HU hst hS
          go_wp2
          go_ret
          exact ⟨⟨none, rfl, fun x hx => by cases hx⟩, Below.refl _ _⟩
    · obtain rfl : k = 3 := by omega
      obtain ⟨T3, l2, S3, ⟨l1, S2, ⟨l0, S1, ⟨h0, h1⟩, h2, h3⟩, h4, h5⟩, h6, h7⟩ := HM.out
      have hM1 : MidI a R i 1 l1 (S2 ++ l2 :: (S3 ++ l :: T3)) := ⟨l0, S1, ⟨h0, h1⟩, h2, h3⟩
      have hM2 : MidI a R i 2 l2 (S3 ++ l :: T3) := ⟨l1, S2, hM1, h4, h5⟩
      obtain ⟨A1, e1⟩ := hM1.split (A := A)
      have hc1 := HC.out
      rw [e1] at hc1
      have hN1 := hc1.at
      have l8 := hN1.words.2.2.2.2.2.2.2.2
      have li := hN1.at (show i < l1.h by omega)
      have lz : (i : Int) < (l1.h : Int) := by omega
      rw [nx_skip h4] at li
      have en : nx (l2 :: (S3 ++ l :: T3)) i = l2.p := if_pos (by omega)
      rw [en] at li
      unfold Nd.s at l8
      unfold Nd.p at li
      have ea : nx R i = l1.p := by
        rw [← h1, nx_skip h2]
        exact if_pos (by omega)
      rw [ea] at ai
      unfold Nd.p at ai
      obtain ⟨S, eS, h8, h9⟩ := hM2.low
      have HE : Hid (∃ S T, R = S ++ l2 :: T ∧ l2.h = i + 1 ∧ ∀ s ∈ S, s.h ≤ i + 1) := ⟨S, _, eS, h8, h9⟩
      clear hM1 hM2 e1 hc1 hN1 ea en eS h8 h9 h0 h1 h2 h3 h4 h5 h6 h7
      go_wp2
      go_ret
      exact ⟨⟨some l2, rfl, fun x hx => by cases hx; exact HE.out⟩, Below.refl _ _⟩
end Go.Proofs.YtdjaofbjmnmlbaaDoor

/- What (*mem.path).add does to memory: frames by types, an append of a pointer, a new node. Conditions: as each theorem names them. -/
namespace Go.Proofs.YtdjaofbjmnmlbaaDoor
open Go.RowKit

/-- Blocks of other types than those of ts are as they were, and all that lay below B. -/
structure KT (ts : List TypeId) (B : Nat) (w w' : World) : Prop where
  b : Below B w w'
  k : ∀ k T xs, Blk w k T xs → T ∉ ts → Blk w' k T xs
theorem KT.refl (ts : List TypeId) (B : Nat) (w : World) : KT ts B w w := ⟨Below.refl _ _, fun _ _ _ h _ => h⟩
theorem KT.trans {ts : List TypeId} {B : Nat} {w w' w'' : World} (h : KT ts B w w') (h2 : KT ts B w' w'') : KT ts B w w'' := ⟨h.b.trans h2.b, fun k T xs hb hT => h2.k k T xs (h.k k T xs hb hT) hT⟩
theorem KT.of_below {ts : List TypeId} {B : Nat} {w w' : World} (h : Below w.heap.size w w') (hB : B ≤ w.heap.size) : KT ts B w w' := ⟨h.mono hB, fun _ _ _ hb _ => hb.keep h hb.lt⟩
theorem KT.mono {ts us : List TypeId} {B : Nat} {w w' : World} (h : KT ts B w w') (hs : ∀ T, T ∈ ts → T ∈ us) : KT us B w w' := ⟨h.b, fun k T xs hb hT => h.k k T xs hb fun q => hT (hs T q)⟩
theorem KT.le {ts : List TypeId} {B B' : Nat} {w w' : World} (h : KT ts B w w') (hB : B' ≤ B) : KT ts B' w w' := ⟨h.b.mono hB, h.k⟩
/-- One block of such a type has turned. -/
theorem KT.of_but {ts : List TypeId} {B g : Nat} {w w' : World} {T : TypeId} {xs : Array Value} (hg : Blk w g T xs) (hT : T ∈ ts) (h : But w.heap.size g w w') (hB : B ≤ g) (hB2 : B ≤ w.heap.size) : KT ts B w w' := by
  refine ⟨(h.mono hB2).below hB, fun k T' xs' hb hT' => ?_⟩
  have hne : k ≠ g := by
    rintro rfl
    unfold Blk at hb hg
    rw [hb] at hg
    injection hg with hg
    injection hg with _ h3 _
    rw [h3] at hT'
    exact hT' hT
  exact (h.block k hb.lt hne).trans hb
theorem But.of_grown {g : Nat} {w w' : World} (h : w.grownBy w' (some g)) : But w.heap.size g w w' := ⟨h.os, h.tape, h.output, h.size, fun k hk hne => h.block k hk (fun e => hne (by injection e))⟩

theorem but_grown {g : Nat} {w w' w'' : World} (h : w'.grownBy w'' (some g)) (hb : Below w.heap.size w w') : But w.heap.size g w w'' := (But.of_below hb g).trans ((But.of_grown h).mono hb.size)

/-- A row of the call's own lies in a block of its type. -/
theorem own_in {w : World} {B n cap g : Nat} {T : TypeId} {xs : List Value} (h : w.ownsRow B T 1 (.slice (some ⟨g, 0, none⟩) n cap) n xs) : ∃ cur, Blk w g T cur := by
  rcases h.2 with ⟨e, _⟩ | ⟨g', cap', cur, e, _, h2, _⟩
  · cases e
  · injection e with e1 _ _
    injection e1 with e1
    injection e1 with e1
    subst e1
    exact ⟨cur, h2⟩

theorem sc_alloc (w : World) (o : Obj) (a : Addr) (v : Value) (h : a.block < w.heap.size) : (w.alloc o).setCell a v = (w.setCell a v).alloc o := by
  simp only [World.setCell, World.alloc]
  congr 1
  apply Array.ext_getElem?
  intro i
  rw [Array.getElem?_modify, Array.getElem?_push, Array.getElem?_push, Array.getElem?_modify, Array.size_modify]
  by_cases q : i = w.heap.size
  · rw [if_pos q, if_pos q, if_neg (by omega)]
  · rw [if_neg q, if_neg q]

theorem info_ptr : (Tryd.prog.info? 100).map (fun i => (i.zero, i.size, i.bytes)) = some (some (.pointer none), 1, 8) := by kernel_rfl
/-- append of one pointer: the row is the same one, or a new one. -/
theorem run_append_ptr (w : World) (ty : TypeId) (base g n cap : Nat) (xs : List Value) (hown : w.ownsRow base 100 1 (.slice (some ⟨g, 0, none⟩) n cap) n xs) (G m : Nat) (y : Option Addr) (hc : w.cell? ⟨G, 0, none⟩ = some (.pointer y)) (hlen : n ≤ 100) (hbase : base ≤ w.heap.size) :
    ∃ g' cap' w', (Builtin.append_ #[101, 101] ty #[.slice (some ⟨g, 0, none⟩) n cap, .slice (some ⟨G, 0, none⟩) 1 m]).run Tryd.prog w = .ok (.slice (some ⟨g', 0, none⟩) (n + 1) cap') w' ∧ w'.ownsRow base 100 1 (.slice (some ⟨g', 0, none⟩) (n + 1) cap') (n + 1) (xs ++ [.pointer y]) ∧ w.grownBy w' (some g) ∧ (g' = g ∨ w.heap.size ≤ g') := by
  obtain ⟨i0, hi, hz0, hz1, hz2⟩ := info_parts info_ptr
  have hnews : ∀ j u, [Value.pointer y][j]? = some u → w.cell? ((⟨G, 0, none⟩ : Addr).add j) = some u := fun j u hj => by
    match j, hj with
    | 0, hj => simp at hj; subst hj; exact hc
  have hone : ∀ u ∈ [Value.pointer y], u.oneCell' = true := fun u hu => by simp at hu; subst hu; rfl
  obtain ⟨v', w', hrun, r1, r2, _⟩ := run_append_own (P := Tryd.prog) w base 101 ty 100 i0 (.pointer none) 1 8 Tryd.underlying101 hi hz0 hz1 hz2 rfl (by decide) _ n xs hown ⟨G, 0, none⟩ 1 m [.pointer y] rfl hnews hone (by unfold maxLen; omega) (by omega) hbase
  have hown2 := hown
  rcases hown.2 with ⟨e, _⟩ | ⟨g0, cap0, cur, e, hbg, hg, hnc, hcm, hcs, htake⟩
  · cases e
  · injection e with e1 e2 e3
    injection e1 with e1
    injection e1 with e1
    subst e1 e3
    by_cases hroom : n + 1 ≤ cap
    · have hr := run_append_room (P := Tryd.prog) w 101 ty 100 i0 Tryd.underlying101 hi g n cap cur hg ⟨G, 0, none⟩ 1 m [.pointer y] (by rw [hz1]; rfl) hnews hone hroom (by rw [hz1]; simp; omega)
      rw [hrun] at hr
      injection hr with h1 h2
      subst h1
      exact ⟨g, cap, w', hrun, r1, r2, .inl rfl⟩
    · have holds : ∀ j u, xs[j]? = some u → w.cell? ((⟨g, 0, none⟩ : Addr).add j) = some u := World.ownsRow.cells hown2 (g := g) rfl
      have hr := run_append_grow (P := Tryd.prog) w 101 ty 100 i0 (.pointer none) Tryd.underlying101 hi hz0 ⟨g, 0, none⟩ n cap xs (by rw [hz1]; exact hown2.1) holds ⟨G, 0, none⟩ 1 m [.pointer y] (by rw [hz1]; rfl) hnews (by omega) (by omega) (by rw [hz2]; exact growslice_fits (by omega) (by omega))
      rw [hrun] at hr
      injection hr with h1 h2
      subst h1
      exact ⟨w.heap.size, _, w', hrun, r1, r2, .inr (Nat.le_refl _)⟩
/-- append of one pointer to a row of the call's own, as one step of a region that draws its order. -/
theorem step_append_ptr {ops : Array Oper} {o : Oper} {a : Act} {K : Act → World → Prop} {Q : Exit → Act → World → Prop} {E : Prop} (hgd : o.guard = Option.none) (s x : Operand)
    (ho : o.op = .call { callee := .builtin .append, args := #[s, x], argTypes := #[101, 101] })
    (w : World) (base g n cap : Nat) (xs : List Value) (hs : a.eval s = .slice (some ⟨g, 0, none⟩) n cap) (hown : w.ownsRow base 100 1 (.slice (some ⟨g, 0, none⟩) n cap) n xs)
    (G m : Nat) (y : Option Addr) (hx : a.eval x = .slice (some ⟨G, 0, none⟩) 1 m) (hc : w.cell? ⟨G, 0, none⟩ = some (.pointer y))
    (hlen : n ≤ 100) (hbase : base ≤ w.heap.size)
    (hK : ∀ g' cap' w', w'.ownsRow base 100 1 (.slice (some ⟨g', 0, none⟩) (n + 1) cap') (n + 1) (xs ++ [.pointer y]) → w.grownBy w' (some g) → (g' = g ∨ w.heap.size ≤ g') → K (a.put o.dst (.slice (some ⟨g', 0, none⟩) (n + 1) cap')) w') :
    if Region.wanted o (yielded ops a.tmps) = true then Oper.wp Tryd.prog o a w K Q else E := by
  have hw : Region.wanted o (yielded ops a.tmps) = true := by simp [Region.wanted, hgd]
  rw [if_pos hw]
  obtain ⟨g', cap', w', hrun, r1, r2, r3⟩ := run_append_ptr w o.type base g n cap xs hown G m y hc hlen hbase
  unfold Oper.wp
  simp [execOp, ho, resolve, invoke, builtin, hs, hx, hrun, Result.andThen]
  exact hK g' cap' w' r1 r2 r3

/-- Where add is. -/
structure AdS (w W : World) (B ab : Nat) (xs : Array Value) (hd : Nd) (L : List Nd) (cs : List CT) : Prop where
  sk : Sk W B hd L
  pa : Blk W ab 107 xs
  px : ∀ j, j < 32 → ∃ n ∈ hd :: L, xs[j]? = some n.p ∧ j < n.h
  cs : L.map Nd.c = cs
  fr : KT [103, 100] B w W
theorem AdS.below {w W W' : World} {B ab : Nat} {xs : Array Value} {hd : Nd} {L : List Nd} {cs : List CT} (h : AdS w W B ab xs hd L cs) (hb : Below W.heap.size W W') (hB : B ≤ W.heap.size) : AdS w W' B ab xs hd L cs :=
  ⟨h.sk.below hb, h.pa.keep hb h.pa.lt, h.px, h.cs, h.fr.trans (KT.of_below hb hB)⟩
theorem lastH_mem (hd : Nd) (P : List Nd) (j : Nat) : lastH hd P j ∈ hd :: P := by
  obtain ⟨A, R, e, _⟩ := lastH_split j hd P
  rw [e]; simp
/-- The new node stands. -/
theorem AdS.start {w W : World} {B ab : Nat} {xs : Array Value} {hd : Nd} {P Q : List Nd} {c : CT} {u : Option Addr} (h : Sk w B hd (P ++ Q)) (hB : B ≤ w.heap.size) (hW : Below w.heap.size w W) (ha : Blk w ab 107 xs) (hxs : ∀ j, j < 32 → xs[j]? = some (lastH hd P j).p) (hu : nx Q 0 = .pointer u) :
    ∃ L, AdS w (((W.setCell ⟨(lastH hd P 0).g, 0, none⟩ (.pointer (some ⟨W.heap.size + 1, 0, none⟩))).alloc (.cells #[.pointer u] 100)).alloc (.cells (c.e ++ [Value.slice (some ⟨W.heap.size, 0, none⟩) 1 1]).toArray 103)) B ab xs hd L (P.map Nd.c ++ c :: Q.map Nd.c) := by
  have hW2 := hW.trans ((below_new W (.cells #[.pointer u] 100)).mono hW.size)
  have hs1 : (W.alloc (.cells #[.pointer u] 100)).heap.size = W.heap.size + 1 := World.size_alloc _ _
  have hW3 := hW2.trans ((below_new (W.alloc (.cells #[.pointer u] 100)) (.cells (c.e ++ [Value.slice (some ⟨W.heap.size, 0, none⟩) 1 1]).toArray 103)).mono (by rw [hs1]; have := hW.size; omega))
  have hz := hW.size
  have hmem : lastH hd P 0 ∈ hd :: (P ++ Q) := by
    have := lastH_mem hd P 0
    rcases List.mem_cons.1 this with q | q
    · rw [q]; exact List.mem_cons_self
    · exact List.mem_cons_of_mem _ (List.mem_append_left _ q)
  have hn0 : (lastH hd P 0).g < w.heap.size := (h.ch.lts hmem).2
  have k1 := Blk.new W 100 #[.pointer u]
  have k2 := Blk.new (W.alloc (.cells #[.pointer u] 100)) 103 (c.e ++ [Value.slice (some ⟨W.heap.size, 0, none⟩) 1 1]).toArray
  have k1' := k1.keep (below_new (W.alloc (.cells #[.pointer u] 100)) (.cells (c.e ++ [Value.slice (some ⟨W.heap.size, 0, none⟩) 1 1]).toArray 103)) k1.lt
  rw [hs1] at k2
  have hx : NdAt ((W.alloc (.cells #[.pointer u] 100)).alloc (.cells (c.e ++ [Value.slice (some ⟨W.heap.size, 0, none⟩) 1 1]).toArray 103)) B ⟨W.heap.size + 1, c, W.heap.size, 1, 1⟩ Q := by
    refine ⟨by show B ≤ W.heap.size + 1; omega, k2, ⟨by rw [rowN_len]; rfl, .inr ⟨W.heap.size, 1, #[.pointer u], rfl, by omega, k1', Nat.le_refl _, by unfold maxLen; omega, rfl, ?_⟩⟩⟩
    show [Value.pointer u].take 1 = rowN Q 1
    unfold rowN
    simp [List.range_succ, hu]
  have hI := Sk.insert (x := ⟨W.heap.size + 1, c, W.heap.size, 1, 1⟩) h hW3 hx rfl (by show w.heap.size ≤ W.heap.size + 1; omega) hz
  have ew : ((W.alloc (.cells #[.pointer u] 100)).alloc (.cells (c.e ++ [Value.slice (some ⟨W.heap.size, 0, none⟩) 1 1]).toArray 103)).setCell ⟨(lastH hd P 0).g, 0, none⟩ (.pointer (some ⟨W.heap.size + 1, 0, none⟩)) = (((W.setCell ⟨(lastH hd P 0).g, 0, none⟩ (.pointer (some ⟨W.heap.size + 1, 0, none⟩))).alloc (.cells #[.pointer u] 100)).alloc (.cells (c.e ++ [Value.slice (some ⟨W.heap.size, 0, none⟩) 1 1]).toArray 103)) := by
    rw [sc_alloc _ _ _ _ (by show (lastH hd P 0).g < _; rw [hs1]; omega), sc_alloc _ _ _ _ (by show (lastH hd P 0).g < _; omega)]
  unfold Nd.p at hI
  rw [ew] at hI
  obtain ⟨cur, hcur, _⟩ := h.at0.rowb
  have hBg := h.at0.g_lt.1
  have f1 : KT [103, 100] B w W := KT.of_below hW hB
  have hcW := hcur.keep hW hcur.lt
  have f2 : KT [103, 100] B W (W.setCell ⟨(lastH hd P 0).g, 0, none⟩ (.pointer (some ⟨W.heap.size + 1, 0, none⟩))) := KT.of_but hcW (by decide) ((But.refl _ _ _).setCell 0 _) hBg (by omega)
  have s3 : (W.setCell ⟨(lastH hd P 0).g, 0, none⟩ (.pointer (some ⟨W.heap.size + 1, 0, none⟩))).heap.size = W.heap.size := by simp
  have f3 := f2.trans (KT.of_below (ts := [103, 100]) (B := B) (below_new _ (.cells #[.pointer u] 100)) (by rw [s3]; omega))
  have f4 := f3.trans (KT.of_below (ts := [103, 100]) (B := B) (below_new _ (.cells (c.e ++ [Value.slice (some ⟨W.heap.size, 0, none⟩) 1 1]).toArray 103)) (by rw [World.size_alloc, s3]; omega))
  have fr := f1.trans f4
  refine ⟨_, hI, fr.k _ _ _ ha (by decide), fun j hj => ⟨lastH hd P j, ?_, hxs j hj, ?_⟩, by simp, fr⟩
  · have := lastH_mem hd P j
    rcases List.mem_cons.1 this with q | q
    · rw [q]; exact List.mem_cons_self
    · exact List.mem_cons_of_mem _ (List.mem_append_left _ q)
  · obtain ⟨_, _, _, _, h3⟩ := lastH_split j hd P
    exact h3 (by rw [h.h0]; omega)

theorem nx_ptr (R : List Nd) (j : Nat) : ∃ u, nx R j = .pointer u := by
  rcases nx_cases R j with ⟨h, _⟩ | ⟨_, n, _, _, h, _⟩
  · exact ⟨_, h⟩
  · exact ⟨_, h⟩


theorem heap_set_ne {w : World} {g j k : Nat} {v : Value} (h : k ≠ g) : (w.setCell ⟨g, j, none⟩ v).heap[k]? = w.heap[k]? := heap_setCell_other w ⟨g, j, none⟩ k v h
theorem size_set (w : World) (a : Addr) (v : Value) : (w.setCell a v).heap.size = w.heap.size := by simp
theorem blk_ne {w : World} {k g : Nat} {T T' : TypeId} {xs ys : Array Value} (h : Blk w k T xs) (h2 : Blk w g T' ys) (hT : T ≠ T') : k ≠ g := by
  rintro rfl
  unfold Blk at h h2
  rw [h] at h2
  injection h2 with h2
  injection h2 with _ h3 _
  exact hT h3
/-- Behind the append and the two stores the node stands on one level more. -/
theorem AdS.raise {w w6 w7 : World} {B ab : Nat} {xs : Array Value} {hd a x : Nd} {L A S T : List Nd} {cs : List CT} {k g' cap' : Nat} {u : Option Addr}
    (hS : AdS w w6 B ab xs hd L cs) (eL : hd :: L = A ++ a :: (S ++ x :: T)) (hxh : x.h = k + 1) (hah : k + 1 < a.h) (hSl : ∀ s ∈ S, s.h ≤ k + 1) (hu : nx T (k + 1) = .pointer u) (hB : B ≤ w6.heap.size)
    (hb : But w6.heap.size x.g w6 w7) (hr : w7.ownsRow B 100 1 (.slice (some ⟨g', 0, none⟩) (x.h + 1) cap') (x.h + 1) (rowN T x.h ++ [.pointer u])) (hg : g' = x.g ∨ w6.heap.size ≤ g') :
    (∃ L', AdS w ((w7.setCell ⟨x.b, 8, none⟩ (.slice (some ⟨g', 0, none⟩) (x.h + 1) cap')).setCell ⟨a.g, k + 1, none⟩ (.pointer (some ⟨x.b, 0, none⟩))) B ab xs hd L' cs) ∧
      (∃ v, (w7.setCell ⟨x.b, 8, none⟩ (.slice (some ⟨g', 0, none⟩) (x.h + 1) cap')).cell? ⟨a.b, 8, none⟩ = some a.s ∧ (w7.setCell ⟨x.b, 8, none⟩ (.slice (some ⟨g', 0, none⟩) (x.h + 1) cap')).cell? ⟨a.g, k + 1, none⟩ = some v) ∧ (w7.setCell ⟨x.b, 8, none⟩ (.slice (some ⟨g', 0, none⟩) (x.h + 1) cap')).frozen? ⟨a.g, k + 1, none⟩ = false := by
  have hc := hS.sk.ch
  rw [eL] at hc
  have haN : NdAt w6 B a (S ++ x :: T) := hc.at
  have hxN : NdAt w6 B x T := Chain.at (A := S) (Chain.drop (A := A) hc).2
  have db := hS.sk.db
  have dg := hS.sk.dg
  rw [eL] at db dg
  have pm : (A ++ a :: (S ++ x :: T)).Perm (x :: a :: (A ++ (S ++ T))) := by
    refine List.perm_middle.trans ?_
    have e1 : A ++ (S ++ x :: T) = (A ++ S) ++ x :: T := by simp
    have e2 : A ++ (S ++ T) = (A ++ S) ++ T := by simp
    rw [e1, e2]
    exact (List.Perm.cons a List.perm_middle).trans (List.Perm.swap _ _ _)
  have nb : x.b ≠ a.b := fun q => (List.nodup_cons.1 ((pm.map Nd.b).nodup_iff.1 db)).1 (by rw [List.map_cons, q]; exact List.mem_cons_self)
  have ng : x.g ≠ a.g := fun q => (List.nodup_cons.1 ((pm.map Nd.g).nodup_iff.1 dg)).1 (by rw [List.map_cons, q]; exact List.mem_cons_self)
  have hxx : x.b ≠ x.g := hxN.bg hxN
  have hxa : x.b ≠ a.g := hxN.bg haN
  have hax : a.b ≠ x.g := haN.bg hxN
  have hz := hb.size
  have bx7 : Blk w7 x.b 103 (x.c.e ++ [x.s]).toArray := (hb.block x.b hxN.blk.lt hxx).trans hxN.blk
  obtain ⟨cur7, hcur7⟩ := own_in hr
  obtain ⟨cura, hcura, _⟩ := haN.rowb
  have ba7 : Blk w7 a.g 100 cura := (hb.block a.g hcura.lt (fun q => ng q.symm)).trans hcura
  have hgx : g' ≠ x.b := blk_ne hcur7 bx7 (by decide)
  have hga : g' ≠ a.g := by
    rcases hg with q | q
    · rw [q]; exact ng
    · have := hcura.lt; omega
  obtain ⟨W8, hW8⟩ : ∃ W8, w7.setCell ⟨x.b, 8, none⟩ (.slice (some ⟨g', 0, none⟩) (x.h + 1) cap') = W8 := ⟨_, rfl⟩
  have b8 : ∀ k, k ≠ x.b → W8.heap[k]? = w7.heap[k]? := fun k hk => by rw [← hW8]; exact heap_set_ne hk
  have bx8 : Blk W8 x.b 103 (x.c.e ++ [Value.slice (some ⟨g', 0, none⟩) (x.h + 1) cap']).toArray := by
    have := bx7.set 8 (.slice (some ⟨g', 0, none⟩) (x.h + 1) cap')
    rw [hW8] at this
    exact this
  have ba8 : Blk W8 a.g 100 cura := (b8 a.g (fun q => hxa q.symm)).trans ba7
  have bg8 : Blk W8 g' 100 cur7 := (b8 g' hgx).trans hcur7
  have hr8 : W8.ownsRow B 100 1 (.slice (some ⟨g', 0, none⟩) (x.h + 1) cap') (x.h + 1) (rowN T x.h ++ [.pointer u]) := own_block hr fun g q => by
    cases q
    exact b8 g' hgx
  have haN8 : NdAt W8 B a (S ++ x :: T) := haN.keep ((b8 a.b (fun q => nb q.symm)).trans (hb.block a.b haN.blk.lt hax)) ((b8 a.g (fun q => hxa q.symm)).trans (hb.block a.g hcura.lt (fun q => ng q.symm))) fun _ _ => rfl
  have key : ∀ i, i < a.h → nx (S ++ ⟨x.b, x.c, g', cap', x.h + 1⟩ :: T) i = if i = k + 1 then .pointer (some ⟨x.b, 0, none⟩) else nx (S ++ x :: T) i := fun i _ => by
    by_cases q : i = k + 1
    · rw [if_pos q, q, nx_skip hSl]
      exact if_pos (by show k + 1 < x.h + 1; omega)
    · rw [if_neg q]
      refine nx_congr ?_
      show (if i < x.h + 1 then x.p else nx T i) = if i < x.h then x.p else nx T i
      by_cases q2 : i < x.h
      · rw [if_pos q2, if_pos (by omega)]
      · rw [if_neg q2, if_neg (by omega)]
  have haE := haN8.store (k + 1) (.pointer (some ⟨x.b, 0, none⟩)) key
  have hxE : NdAt (W8.setCell ⟨a.g, k + 1, none⟩ (.pointer (some ⟨x.b, 0, none⟩))) B ⟨x.b, x.c, g', cap', x.h + 1⟩ T := by
    refine ⟨hxN.lo, (heap_set_ne hxa).trans bx8, ?_⟩
    have e : rowN T (x.h + 1) = rowN T x.h ++ [.pointer u] := by
      unfold rowN
      rw [List.range_succ, List.map_append]
      congr 1
      simp [hxh, hu]
    show World.ownsRow _ B _ 1 (.slice (some ⟨g', 0, none⟩) (x.h + 1) cap') (x.h + 1) (rowN T (x.h + 1))
    rw [e]
    exact own_block hr8 fun g q => by
      cases q
      exact heap_set_ne hga
  have f1 : KT [103, 100] B w6 w7 := KT.of_but (xs := hxN.rowb.choose) hxN.rowb.choose_spec.1 (by decide) hb hxN.g_lt.1 hB
  have f2 : KT [103, 100] B w7 W8 := by
    rw [← hW8]
    exact KT.of_but bx7 (by decide) ((But.refl _ _ _).setCell 8 _) hxN.lo (by omega)
  have hz8 : W8.heap.size = w7.heap.size := by rw [← hW8]; exact size_set _ _ _
  have f3 : KT [103, 100] B W8 (W8.setCell ⟨a.g, k + 1, none⟩ (.pointer (some ⟨x.b, 0, none⟩))) := KT.of_but ba8 (by decide) ((But.refl _ _ _).setCell (k + 1) _) haN.g_lt.1 (by omega)
  have fr := f1.trans (f2.trans f3)
  obtain ⟨L', e', hsk⟩ := Sk.raise (x' := ⟨x.b, x.c, g', cap', x.h + 1⟩) hS.sk eL rfl rfl (by omega) (fun s hs => by rw [hxh]; exact hSl s hs) (fun k hk h1 h2 h3 => ((heap_set_ne h3).trans (b8 k h2)).trans (hb.block k hk h1)) hxE haE hg
  refine ⟨⟨L', by rw [hW8]; exact hsk, fr.k _ _ _ hS.pa (by decide) |> fun q => by rw [hW8]; exact q, fun j hj => ?_, ?_, by rw [hW8]; exact hS.fr.trans fr⟩, ⟨_, by rw [hW8]; exact haN8.words.2.2.2.2.2.2.2.2, by rw [hW8]; exact haN8.at (by omega)⟩, by rw [hW8]; exact ba8.free _⟩
  · obtain ⟨n, hn, h1, h2⟩ := hS.px j hj
    rw [eL] at hn
    rw [e']
    rcases List.mem_append.1 hn with q | q
    · exact ⟨n, List.mem_append_left _ q, h1, h2⟩
    · rcases List.mem_cons.1 q with q | q
      · exact ⟨n, by rw [q]; simp, h1, h2⟩
      · rcases List.mem_append.1 q with q | q
        · exact ⟨n, by simp [q], h1, h2⟩
        · rcases List.mem_cons.1 q with q | q
          · exact ⟨⟨x.b, x.c, g', cap', x.h + 1⟩, by simp, by rw [h1, q]; rfl, by show j < x.h + 1; rw [q] at h2; omega⟩
          · exact ⟨n, by simp [q], h1, h2⟩
  · rw [← hS.cs]
    have m1 := congrArg (List.map Nd.c) e'
    have m2 := congrArg (List.map Nd.c) eL
    simp only [List.map_cons, List.map_append] at m1 m2
    rw [← m2] at m1
    injection m1
end Go.Proofs.YtdjaofbjmnmlbaaDoor

/- (*mem.path).add: a cell stands at the end of its path. Conditions: the nodes stand; the path holds, on each level, the last node that is ahead of the cell. -/
namespace Go.Proofs.YtdjaofbjmnmlbaaDoor
open Go.RowKit

set_option maxRecDepth 100000 in
set_option maxHeartbeats 4000000 in
theorem add_any (ab : Nat) (xs : Array Value) (hd : Nd) (P Q : List Nd) (c : CT) (B : Nat) (w : World) (ha : Blk w ab 107 xs) (hxs : ∀ j, j < 32 → xs[j]? = some (lastH hd P j).p) (h : Sk w B hd (P ++ Q)) (hB : B ≤ w.heap.size) :
    Calls Tryd.prog 84 #[.pointer (some ⟨ab, 0, none⟩), c.v] w fun e w' => e = .returned (.tuple #[]) ∧ (∃ L', Sk w' B hd L' ∧ L'.map Nd.c = P.map Nd.c ++ c :: Q.map Nd.c) ∧ KT [103, 100] B w w' := by
  have mixed : Tryd.prog.follows .mixedOrders = true := by kernel_rfl
  have hN := h.at0
  have hn0 := h.last0.2
  have hx0 := hxs 0 (by omega)
  obtain ⟨n0, hn⟩ : ∃ n0, lastH hd P 0 = n0 := ⟨_, rfl⟩
  have HN0 := hid hn
  rw [hn] at hN hn0 hx0
  clear hn
  have HF0 : Hid (∀ W, Below w.heap.size w W → W.cell? ⟨ab, 0, none⟩ = some (.pointer (some ⟨n0.b, 0, none⟩)) ∧ W.cell? ⟨n0.b, 8, none⟩ = some (.slice (some ⟨n0.g, 0, none⟩) n0.h n0.cap) ∧ W.cell? ⟨n0.g, 0, none⟩ = some (nx Q 0) ∧ W.frozen? ⟨n0.g, 0, none⟩ = false) := fun W hb => by
    obtain ⟨cur, hcur, _⟩ := hN.rowb
    exact ⟨((ha.keep hb ha.lt).cell 0).trans hx0, (hb.cell (p := ⟨n0.b, 8, none⟩) hN.blk.lt).trans hN.words.2.2.2.2.2.2.2.2, (hb.cell (p := ⟨n0.g, 0, none⟩) hN.g_lt.2).trans (hN.at hn0), (hcur.keep hb hcur.lt).free 0⟩
  have hn0z : (0 : Int) < (n0.h : Int) := by omega
  obtain ⟨u, hu⟩ : ∃ u, nx Q 0 = .pointer u := nx_ptr Q 0
  have HU := hid hu
  rw [hu] at HF0
  clear hu hN hx0
  have HA := hid ha
  have HXS := hid hxs
  have HSk := hid h
  clear ha hxs h
  go_enter Tryd.func84, Tryd.ntmps84
  go_upto_region 1 with (fail)
  refine wp_ltc (fun W => Hid (Below w.heap.size w W ∧ Blk W w.heap.size 28 c.e.toArray) ∧ (W.cell? ⟨ab, 0, none⟩ = some (.pointer (some ⟨n0.b, 0, none⟩)) ∧ W.cell? ⟨n0.b, 8, none⟩ = some (.slice (some ⟨n0.g, 0, none⟩) n0.h n0.cap) ∧ W.cell? ⟨n0.g, 0, none⟩ = some (.pointer u) ∧ W.frozen? ⟨n0.g, 0, none⟩ = false)) ⟨⟨below_new _ _, Blk.new w _ _⟩, HF0.out _ (below_new _ _)⟩ (fun W hW => ?_)
  obtain ⟨HBC, a0, x8, xg, xf⟩ := hW
  obtain ⟨cb, hcb⟩ : ∃ cb, w.heap.size = cb := ⟨_, rfl⟩
  have hC := HBC.out.2
  rw [hcb] at hC
  have c0 := hC.cell 0
  have c1 := hC.cell 1
  have c2 := hC.cell 2
  have c3 := hC.cell 3
  have c4 := hC.cell 4
  have c5 := hC.cell 5
  have c6 := hC.cell 6
  have c7 := hC.cell 7
  simp only [CT.e, List.getElem?_toArray, List.getElem?_cons_zero, List.getElem?_cons_succ] at c0 c1 c2 c3 c4 c5 c6 c7
  rw [hcb]
  have lcb := hC.lt
  have lab := cell_lt a0
  have lnb := cell_lt x8
  have lng := cell_lt xg
  clear hC
  go_region
  obtain ⟨W1, hW1⟩ : ∃ W1, (((W.setCell ⟨n0.g, 0, none⟩ (.pointer (some ⟨W.heap.size + 1, 0, none⟩))).alloc (.cells #[.pointer u] 100)).alloc (.cells #[.string c.r, .string c.f, .string c.q, .int .i64 c.t, .int .i64 c.k, .int .i64 c.vk, .int .i64 c.vn, .string c.s, .slice (some ⟨W.heap.size, 0, none⟩) 1 1] 103)).drew = W1 := ⟨_, rfl⟩
  rw [hW1]
  have HS1 : Hid (∃ L, AdS w W1 B ab xs hd L (P.map Nd.c ++ c :: Q.map Nd.c)) := by
    obtain ⟨L, hL⟩ := AdS.start (c := c) HSk.out hB HBC.out.1 HA.out HXS.out HU.out
    rw [HN0.out] at hL
    have h1 := hL.below (W' := W1) (by rw [← hW1]; exact (Below.refl _ _).drew) (by have := hL.fr.b.size; omega)
    exact ⟨L, h1⟩
  clear hW1 HBC a0 x8 xg xf c0 c1 c2 c3 c4 c5 c6 c7 lcb lab lnb lng HA HXS HSk HF0 HU HN0
  have HMid : Hid (∀ (W : World) (L A R : List Nd) (a : Nd) (i : Nat), Sk W B hd L → hd :: L = A ++ a :: R → i + 1 < a.h → a.h ≤ 32 → Calls Tryd.prog 128 #[.pointer (some ⟨a.b, 0, none⟩), .int .i64 i] W fun e w' => (∃ o : Option Nd, e = .returned (ptrO o) ∧ ∀ x, o = some x → ∃ S T, R = S ++ x :: T ∧ x.h = i + 1 ∧ ∀ s ∈ S, s.h ≤ i + 1) ∧ Below W.heap.size W w') := fun W L A R a i h1 h2 h3 h4 => middle_any hd a L A R i B W h1 h2 h3 h4
  go_wp2
  go_loopw [28] (fun vk wr => ∃ k : Nat, k ≤ 31 ∧ vk = .int .i64 k ∧ Hid (∃ L, AdS w wr B ab xs hd L (P.map Nd.c ++ c :: Q.map Nd.c))) (fun vk _ => 31 - (intOf vk).toNat)
  case atStart => exact ⟨0, by omega, rfl, HS1.out⟩
  case round =>
    clear HS1
    obtain ⟨k, hk, rfl, HS⟩ := hrel
    by_cases hk31 : k < 31
    · have hk31z : (k : Int) < 31 := by omega
      obtain ⟨L, hS⟩ := HS.out
      obtain ⟨a, ham, hxa, hah⟩ := hS.px (k + 1) (by omega)
      obtain ⟨A, R, eL⟩ := List.append_of_mem ham
      have HE := hid eL
      have HSS := hid hS
      have hwk : IntKind.i64.wrap ((k : Int) + 1) = (k : Int) + 1 := by rw [IntKind.wrap_i64]; omega
      have hk1 : ((k : Int) + 1).toNat = k + 1 := by omega
      have hk0 : (0 : Int) ≤ (k : Int) + 1 := by omega
      have hk32 : (k : Int) + 1 < 32 := by omega
      have pa : wr.cell? ⟨ab, k + 1, none⟩ = some (.pointer (some ⟨a.b, 0, none⟩)) := (hS.pa.cell (k + 1)).trans hxa
      have h32 : a.h ≤ 32 := by
        rcases List.mem_cons.1 ham with q | q
        · rw [q, hS.sk.h0]; omega
        · exact (hS.sk.hs a q).2
      have HM := hid (HMid.out wr L A R a k hS.sk eL hah h32)
      clear hS ham hxa eL HS
      go_upto_region 7 with (go_at_call 128; refine HM.out.mono ?_; rintro e w6 ⟨⟨o, rfl, ho⟩, hb6⟩)
      have HSS6 : Hid (AdS w w6 B ab xs hd L (P.map Nd.c ++ c :: Q.map Nd.c)) := HSS.out.below hb6 (Nat.le_trans hB HSS.out.fr.b.size)
      clear HM HSS hb6
      cases o with
      | none =>
        dsimp only [ptrO]
        go_wp2
        refine bodyPost_ret (results_none rfl _ _ _) rfl ?_
        exact ⟨rfl, ⟨L, HSS6.out.sk, HSS6.out.cs⟩, HSS6.out.fr⟩
      | some x =>
        dsimp only [ptrO]
        unfold Nd.p
        obtain ⟨S, T, eR, hxh, hSl⟩ := ho x rfl
        have eL := HE.out
        rw [eR] at eL
        have hc := HSS6.out.sk.ch
        rw [eL] at hc
        have haN : NdAt w6 B a (S ++ x :: T) := hc.at
        have hxN : NdAt w6 B x T := Chain.at (A := S) (Chain.drop (A := A) hc).2
        have HaN := hid haN
        have HxN := hid hxN
        have x8 := hxN.words.2.2.2.2.2.2.2.2
        have a8 := haN.words.2.2.2.2.2.2.2.2
        unfold Nd.s at x8 a8
        have aj := haN.at hah
        obtain ⟨u, hu⟩ := nx_ptr (S ++ x :: T) (k + 1)
        have hu2 : nx T (k + 1) = .pointer u := by
          rw [← hu, nx_skip hSl]
          show _ = if k + 1 < x.h then x.p else nx T (k + 1)
          rw [if_neg (by omega)]
        have HU2 := hid hu2
        rw [hu] at aj
        have lab := haN.blk.lt
        have lag := haN.g_lt.2
        have lxb := hxN.blk.lt
        have lxg := hxN.g_lt.2
        have hxg : x.b ≠ x.g := hxN.bg hxN
        have hah1 : (k : Int) + 1 < (a.h : Int) := by omega
        have hB6 : B ≤ w6.heap.size := Nat.le_trans hB HSS6.out.fr.b.size
        have HSl := hid hSl
        have HEL := hid eL
        have hxlen : x.h ≤ 100 := by omega
        have HXh := hid hxh
        clear ho eR eL hc haN hxN hu hu2 hSl hxh
        go_upto_region 8 with (fail)
        have HB8 := hid hB6
        have HK1 := hid hah
        clear hB6 h32
        have HRa : Hid (∀ (w7 : World) (g' cap' : Nat), But w6.heap.size x.g w6 w7 → w7.ownsRow B 100 1 (.slice (some ⟨g', 0, none⟩) (x.h + 1) cap') (x.h + 1) (rowN T x.h ++ [.pointer u]) → (g' = x.g ∨ w6.heap.size ≤ g') → _) := fun w7 g' cap' h1 h2 h3 => AdS.raise HSS6.out HEL.out HXh.out HK1.out HSl.out HU2.out HB8.out h1 h2 h3
        go_region_law (refine step_append_ptr rfl (.tmp 46) (.tmp 55) rfl _ B x.g x.h x.cap (rowN T x.h) rfl (World.ownsRow.alloc HxN.out.row _) w6.heap.size 1 u rfl (by simp) hxlen (by have := HB8.out; simp; omega) ?_; intro g' cap' w7 hr7 hg7 hk7; have hb7 : But w6.heap.size x.g w6 w7 := but_grown hg7 ⟨rfl, rfl, rfl, by simp, fun k hk => heap_alloc_old w6 _ hk⟩; have HR7 := hid (HRa.out w7 g' cap' hb7 hr7 (by rcases hk7 with q | q; exact .inl q; exact .inr (by simp at q; omega))); have q8 : w7.cell? ⟨x.b, 8, none⟩ = some (.slice (some ⟨x.g, 0, none⟩) x.h x.cap) := (World.cell?_of_block (hb7.block x.b lxb hxg)).trans x8; have f8 : w7.frozen? ⟨x.b, 8, none⟩ = false := (show Blk w7 x.b _ _ from (hb7.block x.b lxb hxg).trans HxN.out.blk).free 8; clear hr7 hg7 hk7 hb7)
        all_goals (
          obtain ⟨HW8, ⟨v8, y8, yj⟩, yf⟩ := HR7.out
          have HW9 := hid HW8
          clear HW8 HR7 q8 f8 HRa
          obtain ⟨W8, hW8⟩ : ∃ W8, w7.setCell ⟨x.b, 8, none⟩ (.slice (some ⟨g', 0, none⟩) (x.h + 1) cap') = W8 := ⟨_, rfl⟩
          rw [hW8] at HW9 y8 yj yf ⊢
          unfold Nd.s at y8
          clear hW8 x8 a8 aj
          go_wp2
          go_roundw
          case rel => exact ⟨k + 1, by omega, by go_num, HW9.out⟩
          case measure => simp [intOf]; omega)
    · obtain rfl : k = 31 := by omega
      have HSE := hid HS.out
      go_wp2
      go_end0
      obtain ⟨L, hL⟩ := HSE.out
      exact ⟨rfl, ⟨L, hL.sk, hL.cs⟩, hL.fr⟩
end Go.Proofs.YtdjaofbjmnmlbaaDoor

/- mem.own: a cell with texts of its own is the cell. Conditions: its texts are no longer than any are. -/
namespace Go.Proofs.YtdjaofbjmnmlbaaDoor
open Go.RowKit

set_option maxHeartbeats 1000000 in
theorem sclone_any (s : ByteArray) (hs : s.size ≤ 281474976710656) (w : World) :
    Calls Tryd.prog 127 #[.string s] w fun e w' => e = .returned (.string s) ∧ Below w.heap.size w w' := by
  go_enter Tryd.func127, Tryd.ntmps127
  go_wp2_with (go_at_call 159; refine (Tryd.stringslite_Clone s _ hs).mono ?_; rintro e w5 ⟨rfl, hb5⟩)
  go_ret
  exact ⟨rfl, hb5⟩

/-- A store of what stands there. -/
theorem below_same {W : World} {b j : Nat} {T : TypeId} {xs : Array Value} {v : Value} (h : Blk W b T xs) (hj : xs[j]? = some v) : Below W.heap.size W (W.setCell ⟨b, j, none⟩ v) := by
  refine ⟨rfl, rfl, rfl, by simp, fun k _ => ?_⟩
  by_cases q : k = b
  · subst q
    have h1 := h.set j v
    unfold Blk at h1 h
    rw [h1, h]
    congr 2
    apply Array.ext_getElem?
    intro i
    by_cases q : i = j
    · subst q
      rw [hj]
      have : i < xs.size := by
        rcases Nat.lt_or_ge i xs.size with z | z
        · exact z
        · rw [Array.getElem?_eq_none z] at hj; cases hj
      simp [this]
    · rw [Array.getElem?_setIfInBounds_ne (fun z => q z.symm)]
  · exact heap_setCell_other W ⟨b, j, none⟩ k v q
abbrev OwnT (W0 : World) (ob : Nat) (c : CT) (W : World) : Prop :=
  Hid (Below W0.heap.size W0 W ∧ Blk W ob 28 c.e.toArray ∧ ob < W0.heap.size) ∧ (W.cell? ⟨ob, 0, none⟩ = some (.string c.r) ∧ W.cell? ⟨ob, 1, none⟩ = some (.string c.f) ∧ W.cell? ⟨ob, 2, none⟩ = some (.string c.q)) ∧ W.frozen? ⟨ob, 0, none⟩ = false ∧ W.frozen? ⟨ob, 1, none⟩ = false ∧ W.frozen? ⟨ob, 2, none⟩ = false
theorem ownT_of {W0 W : World} {ob : Nat} {c : CT} (h1 : Below W0.heap.size W0 W) (h2 : Blk W ob 28 c.e.toArray) (h3 : ob < W0.heap.size) : OwnT W0 ob c W := ⟨⟨h1, h2, h3⟩, ⟨h2.cell 0, h2.cell 1, h2.cell 2⟩, h2.free 0, h2.free 1, h2.free 2⟩
theorem ownT_call {W0 W W' : World} {ob : Nat} {c : CT} (h : OwnT W0 ob c W) (hb : Below W.heap.size W W') : OwnT W0 ob c W' := by
  obtain ⟨h1, h2, h3⟩ := h.1.out
  exact ownT_of (h1.trans (hb.mono h1.size)) (h2.keep hb h2.lt) h3
theorem ownT_drew {W0 W : World} {ob : Nat} {c : CT} (h : OwnT W0 ob c W) : OwnT W0 ob c W.drew := ownT_call h (Below.refl _ _).drew
theorem ownT_set {W0 W : World} {ob : Nat} {c : CT} (h : OwnT W0 ob c W) (j : Nat) (v : Value) (hj : c.e[j]? = some v) : OwnT W0 ob c (W.setCell ⟨ob, j, none⟩ v) := by
  obtain ⟨h1, h2, h3⟩ := h.1.out
  have hb := below_same h2 (j := j) (v := v) (by rw [List.getElem?_toArray]; exact hj)
  exact ownT_call h hb

theorem own_end {w W0 W : World} {ob : Nat} {c : CT} (h1 : Below W0.heap.size W0 W) (h2 : Blk W ob 28 c.e.toArray) (h3 : ob + 1 < W0.heap.size) (h4 : Blk W0 (ob + 1) 28 (default : CT).e.toArray) (h5 : Below w.heap.size w W0) (w6 : World) (hb : Below W.heap.size W w6) :
    Blk w6 ob 28 c.e.toArray ∧ Blk (w6.setCell ⟨ob, 7, none⟩ (.string c.s)) ob 28 c.e.toArray ∧ Blk (w6.setCell ⟨ob, 7, none⟩ (.string c.s)) (ob + 1) 28 (default : CT).e.toArray ∧ Below w.heap.size w (w6.setCell ⟨ob, 7, none⟩ (.string c.s)) := by
  have k6 := h2.keep hb h2.lt
  have z := h1.size
  have k1 := (h4.keep h1 h4.lt).keep hb (by omega)
  have b6 := below_same k6 (j := 7) (v := .string c.s) rfl
  exact ⟨k6, k6.keep b6 k6.lt, k1.keep b6 k1.lt, (h5.trans ((h1.trans (hb.mono z)).mono h5.size)).trans (b6.mono (Nat.le_trans h5.size (Nat.le_trans z hb.size)))⟩

set_option maxRecDepth 100000 in
set_option maxHeartbeats 4000000 in
theorem own_any (c : CT) (hr : c.r.size ≤ 281474976710656) (hf : c.f.size ≤ 281474976710656) (hq : c.q.size ≤ 281474976710656) (hs : c.s.size ≤ 281474976710656) (w : World) :
    Calls Tryd.prog 83 #[c.v] w fun e w' => e = .returned c.v ∧ Below w.heap.size w w' := by
  have mixed : Tryd.prog.follows .mixedOrders = true := by kernel_rfl
  have HCr : Hid (∀ W, Calls Tryd.prog 127 #[.string c.r] W fun e w' => e = .returned (.string c.r) ∧ Below W.heap.size W w') := fun W => sclone_any c.r hr W
  have HCf : Hid (∀ W, Calls Tryd.prog 127 #[.string c.f] W fun e w' => e = .returned (.string c.f) ∧ Below W.heap.size W w') := fun W => sclone_any c.f hf W
  have HCq : Hid (∀ W, Calls Tryd.prog 127 #[.string c.q] W fun e w' => e = .returned (.string c.q) ∧ Below W.heap.size W w') := fun W => sclone_any c.q hq W
  have HCs : Hid (∀ W, Calls Tryd.prog 127 #[.string c.s] W fun e w' => e = .returned (.string c.s) ∧ Below W.heap.size W w') := fun W => sclone_any c.s hs W
  clear hr hf hq hs
  go_enter Tryd.func83, Tryd.ntmps83
  go_upto_region 1 with (fail)
  obtain ⟨ob, hob⟩ : ∃ ob, w.heap.size = ob := ⟨_, rfl⟩
  refine wp_ltc (fun W => Hid (OwnT W ob c W ∧ Below w.heap.size w W ∧ ob + 1 < W.heap.size ∧ Blk W (ob + 1) 28 (default : CT).e.toArray)) ?_ (fun W HW => ?_)
  · rw [← hob]
    have k1 := Blk.new w 28 c.e.toArray
    have b1 := below_new w (.cells c.e.toArray 28)
    have k2 := Blk.new (w.alloc (.cells c.e.toArray 28)) 28 (default : CT).e.toArray
    have b2 := below_new (w.alloc (.cells c.e.toArray 28)) (.cells (default : CT).e.toArray 28)
    have s1 : (w.alloc (.cells c.e.toArray 28)).heap.size = w.heap.size + 1 := World.size_alloc _ _
    rw [s1] at k2
    exact ⟨ownT_of (Below.refl _ _) (k1.keep b2 k1.lt) (by rw [World.size_alloc, World.size_alloc]; omega), b1.trans (b2.mono (by omega)), by rw [World.size_alloc, World.size_alloc]; omega, k2⟩
  rw [hob]
  obtain ⟨HT, -⟩ := HW.out
  have HTT := hid HT
  obtain ⟨h0, ⟨c0, c1, c2⟩, f0, f1, f2⟩ := HT
  go_region_held3 (fun W' => Hid (Below W.heap.size W W' ∧ Blk W' ob 28 c.e.toArray ∧ ob < W.heap.size) ∧ (W'.cell? ⟨ob, 0, none⟩ = some (.string c.r) ∧ W'.cell? ⟨ob, 1, none⟩ = some (.string c.f) ∧ W'.cell? ⟨ob, 2, none⟩ = some (.string c.q)) ∧ W'.frozen? ⟨ob, 0, none⟩ = false ∧ W'.frozen? ⟨ob, 1, none⟩ = false ∧ W'.frozen? ⟨ob, 2, none⟩ = false)
    (first | exact HTT.out | exact ownT_drew HTT.out | exact ownT_call (by assumption) hb5 | exact ownT_set (by assumption) 0 _ rfl | exact ownT_set (by assumption) 1 _ rfl | exact ownT_set (by assumption) 2 _ rfl | exact ownT_drew (by assumption) | assumption)
    (first | (go_at_call 127; ((with_reducible refine (HCr.out _).mono ?_)); rintro e w5 ⟨rfl, hb5⟩) | (go_at_call 127; ((with_reducible refine (HCf.out _).mono ?_)); rintro e w5 ⟨rfl, hb5⟩) | (go_at_call 127; ((with_reducible refine (HCq.out _).mono ?_)); rintro e w5 ⟨rfl, hb5⟩))
  rename_i hLast
  have hB5 := hLast.1.out.2.1
  have q7 := hB5.cell 7
  simp only [CT.e, List.getElem?_toArray, List.getElem?_cons_zero, List.getElem?_cons_succ] at q7
  have HX := hid (own_end hLast.1.out.1 hB5 HW.out.2.2.1 HW.out.2.2.2 HW.out.2.1)
  have hi28 : (Tryd.prog.info? 28).map (·.size) = some 8 := by kernel_rfl
  have hone : c.e.toArray.all (·.oneCell') = true := by rw [Array.all_eq_true_iff_forall_mem]; intro u hu; exact c.e_one u (by simpa using hu)
  have hle : w.heap.size ≤ ob := Nat.le_of_eq hob
  clear hLast hB5 HW HTT h0 c0 c1 c2 f0 f1 f2
  go_wp2_with (first
    | (go_at_call 127; refine (HCs.out _).mono ?_; rintro e w6 ⟨rfl, hb6⟩; have hX := HX.out w6 hb6; have z7 : w6.cell? ⟨ob, 7, none⟩ = some (.string c.s) := hX.1.cell 7; have zf : w6.frozen? ⟨ob, 7, none⟩ = false := hX.1.free 7; have HX6 := hid hX.2; clear hX HX)
    | (refine wpList_load_row rfl 28 (.tmp 1) rfl ob rfl 28 c.e.toArray (0, 0) _ HX6.out.1 Tryd.underlying28 rfl hi28 ?_)
    | (refine wpList_store_row rfl 28 (.tmp 2) (.tmp 21) rfl (ob + 1) c.e.toArray rfl rfl 28 (default : CT).e.toArray HX6.out.2.1 hi28 rfl hone ?_))
  refine bodyPost_ret (v := c.v) (results_cell_row rfl _ _ (ob + 1) 28 c.e.toArray (0, 0) _ rfl (setRow_heap _ _ (default : CT).e.toArray _ _ (0, 0) HX6.out.2.1) Tryd.underlying28 rfl hi28) rfl ?_
  refine ⟨rfl, HX6.out.2.2.trans ⟨rfl, rfl, rfl, by simp, fun k hk => ?_⟩⟩
  simp only [World.setRow, Array.getElem?_modify]
  rw [if_neg (by omega)]
end Go.Proofs.YtdjaofbjmnmlbaaDoor

/- The writer of package codec: what it leaves alone; a text's bytes, each 0 escaped, and a time, behind what a buffer holds. Conditions: buffers of at most a million bytes, texts of at most a thousand. -/
namespace Go.Proofs.YtdjaofbjmnmlbaaDoor
open Go.RowKit

/-- What a writer in block b does: nothing below B, and above it nothing but to its own block and to rows of bytes. -/
structure WF (B b : Nat) (w w' : World) : Prop where
  below : Below B w w'
  kept : Lib.OthersKept 5 (some b) w w'
section
variable {B b : Nat} {w w1 w' : World}
theorem WF.refl (B b : Nat) (w : World) : WF B b w w := ⟨Below.refl _ _, Lib.OthersKept.refl _ _ _⟩
theorem WF.trans (h : WF B b w w1) (k : WF B b w1 w') : WF B b w w' := ⟨h.below.trans k.below, h.kept.trans k.kept⟩
theorem WF.drew (h : WF B b w w1) : WF B b w w1.drew := ⟨h.below.drew, h.kept.drew⟩
theorem WF.size (h : WF B b w w1) : w.heap.size ≤ w1.heap.size := h.below.size
theorem WF.alloc (h : WF B b w w1) (hB : B ≤ w.heap.size) (o : Obj) : WF B b w (w1.alloc o) := ⟨h.below.alloc (Nat.le_trans hB h.size) o, h.kept.alloc o⟩
theorem WF.of_below (h : Below w.heap.size w w') (hB : B ≤ w.heap.size) : WF B b w w' := ⟨h.mono hB, (Lib.OthersKept.refl _ _ _).below h⟩
theorem WF.blk (h : WF B b w w') {k : Nat} {T : TypeId} {xs : Array Value} (hk : Blk w k T xs) (hb : k ≠ b) (hT : T ≠ 5) : Blk w' k T xs :=
  h.kept k _ hk (by simpa using hb) (by intro c fz e; injection e with _ e2 _; exact hT e2)
theorem WF.mono {B' : Nat} (h : WF B b w w') (hb : B' ≤ B) : WF B' b w w' := ⟨h.below.mono hb, h.kept⟩
theorem hwf_refl (B b : Nat) (w : World) : Hid (WF B b w w) := WF.refl B b w
theorem hwf_drew (h : Hid (WF B b w w1)) : Hid (WF B b w w1.drew) := h.out.drew
theorem hwf_call (h : Hid (WF B b w w1)) (k : WF B b w1 w') : Hid (WF B b w w') := h.out.trans k
end

theorem wbyte' (B b : Nat) (l : List UInt8) (hl : l.length ≤ 1000000) (c : UInt8) (x : Int) (hx : x = (c.toNat : Int)) (w : World) (h : Wr w B b l) (hB : B ≤ w.heap.size) :
    Calls Tryd.prog 143 #[.pointer (some ⟨b, 0, none⟩), .int .u8 x] w fun e w' => e = .returned .nilIface ∧ Wr w' B b (l ++ [c]) ∧ WF B b w w' := by
  subst hx
  refine (Tryd.Buffer_WriteByte_at 127 (fun _ => none) B b 0 (bc l) (c.toNat : Int) w h hB (bc_one l) (by rw [bc_len]; omega)).mono ?_
  rintro e w' ⟨rfl, h1, h2, h3⟩
  refine ⟨rfl, ?_, h2, h3⟩
  unfold Wr
  rw [bc_app]
  exact h1
theorem wwrite' (B b : Nat) (l cs : List UInt8) (hl : l.length + cs.length ≤ 1000000) (a : Addr) (n c : Nat) (hn : cs.length = n) (hab : a.block ≠ b) (w : World) (h : Wr w B b l) (hB : B ≤ w.heap.size) (hsrc : ∀ j u, (bc cs)[j]? = some u → w.cell? (a.add j) = some u) :
    Calls Tryd.prog 102 #[.pointer (some ⟨b, 0, none⟩), .slice (some a) n c] w fun e w' => e = .returned (.tuple #[.int .i64 n, .nilIface]) ∧ Wr w' B b (l ++ cs) ∧ WF B b w w' := by
  refine (Tryd.Buffer_Write_at 127 (fun _ => none) B b 0 (bc l) (bc cs) a n c w h hB (bc_one l) (by rw [bc_len]; exact hn) hab hsrc (bc_one cs) (by rw [bc_len]; omega)).mono ?_
  rintro e w' ⟨rfl, h1, h2, h3⟩
  refine ⟨rfl, ?_, h2, h3⟩
  unfold Wr
  rw [bc_app]
  exact h1
theorem Wr.lt {w : World} {B b : Nat} {l : List UInt8} (h : Wr w B b l) : b < w.heap.size := LibA.IsBuffer.lt h
theorem Wr.alloc {w : World} {B b : Nat} {l : List UInt8} (h : Wr w B b l) (o : Obj) : Wr (w.alloc o) B b l := LibA.IsBuffer.alloc h o

set_option maxRecDepth 100000 in
set_option maxHeartbeats 2000000 in
theorem wtext_any (B b : Nat) (s : ByteArray) (hs : s.size ≤ 1000) (l : List UInt8) (hl : l.length ≤ 10000) (w : World) (h : Wr w B b l) (hB : B ≤ w.heap.size) :
    Calls Tryd.prog 141 #[.pointer (some ⟨b, 0, none⟩), .string s] w fun e w' => e = .returned (.tuple #[]) ∧ Wr w' B b (l ++ (esc s.data.toList ++ [0, 1])) ∧ WF B b w w' := by
  have HBB := hid hB
  have HC : Hid (∀ (W : World) (c : UInt8) (x : Int) (m : List UInt8), m.length ≤ 100000 → x = (c.toNat : Int) → Wr W B b m → B ≤ W.heap.size → Calls Tryd.prog 143 #[.pointer (some ⟨b, 0, none⟩), .int .u8 x] W fun e w' => e = .returned .nilIface ∧ Wr w' B b (m ++ [c]) ∧ WF B b W w') :=
    fun W c x m h1 hx h2 h3 => wbyte' B b m (by omega) c x hx W h2 h3
  have HE : Hid (∀ (W : World) (m : List UInt8), m.length ≤ 100000 → Wr W B b m → B ≤ W.heap.size → Calls Tryd.prog 102 #[.pointer (some ⟨b, 0, none⟩), .slice (some ⟨W.heap.size, 0, none⟩) 2 2] (W.alloc (.cells #[.int .u8 0, .int .u8 1] 5)) fun e w' => e = .returned (.tuple #[.int .i64 2, .nilIface]) ∧ Wr w' B b (m ++ [0, 1]) ∧ WF B b (W.alloc (.cells #[.int .u8 0, .int .u8 1] 5)) w') :=
    fun W m h1 h2 h3 => wwrite' B b m [0, 1] (by simp only [List.length_cons, List.length_nil]; omega) _ 2 2 rfl (by have := Wr.lt h2; simp; omega) _ (Wr.alloc h2 _) (by simp; omega) (two_new W 0 1 _ 0 1 rfl rfl)
  have HW := hid h
  clear h hB
  go_enter Tryd.func141, Tryd.ntmps141
  go_wp2
  go_loopw [7] (fun vi wr => ∃ k : Nat, k ≤ s.size ∧ vi = .int .i64 k ∧ Hid (Wr wr B b (l ++ esc (s.data.toList.take k))) ∧ Hid (WF B b w wr)) (fun vi _ => s.size - (intOf vi).toNat)
  case atStart => exact ⟨0, by omega, rfl, by simpa [esc] using HW, WF.refl _ _ _⟩
  case round =>
    obtain ⟨k, hk, rfl, hR, hbel⟩ := hrel
    have HL : Hid ((l ++ esc (s.data.toList.take k)).length ≤ 13000) := by
      have := esc_take_len s k hk
      unfold Hid
      rw [List.length_append]
      omega
    have HBr : Hid (B ≤ wr.heap.size) := Nat.le_trans HBB.out hbel.out.size
    by_cases hlt : k < s.size
    · have HS := hid (esc_snoc s k hlt)
      go_wp2
      have HN := hwf_refl B b wr
      go_region_held3 (fun w' => Hid (WF B b wr w'))
        (first | exact HN | exact hwf_drew HN | exact hwf_call (by assumption) hbo | exact hwf_drew (by assumption) | assumption)
        ((go_at_call 143; ((with_reducible refine (HC.out _ s[k] _ (l ++ esc (s.data.toList.take k)) (by have := HL.out; omega) rfl ?_ ?_).mono ?_); (first | exact hR.out | exact LibA.IsBuffer.drew hR.out); exact HBr.out; rintro e w1 ⟨rfl, h1, hbo⟩)))
      rename_i hHeld
      have HS1 : Hid (B ≤ w1.heap.size) := Nat.le_trans HBr.out hHeld.out.size
      by_cases hz : s[k] = 0
      · have q0 : ((s[k].toNat : Int) == 0) = true := by rw [hz]; rfl
        go_wp2_with (go_at_call 143; refine (HC.out _ 255 _ _ (by have := HL.out; rw [List.length_append]; simp only [List.length_cons, List.length_nil]; omega) rfl h1 HS1.out).mono ?_; rintro e w2 ⟨rfl, h2, k2⟩)
        go_roundw
        case rel =>
          refine ⟨k + 1, by omega, by go_num, ?_, (hbel.out.trans hHeld.out).trans k2⟩
          rw [HS.out, if_pos hz]
          have := h2
          simp only [List.append_assoc, List.cons_append, List.nil_append] at this ⊢
          exact this
        case measure => simp [intOf]; omega
      · have q0 : ((s[k].toNat : Int) == 0) = false := by
          have : ¬ s[k].toNat = 0 := fun e => hz (UInt8.toNat_inj.1 e)
          simp; omega
        go_wp2
        go_roundw
        case rel =>
          refine ⟨k + 1, by omega, by go_num, ?_, hbel.out.trans hHeld.out⟩
          rw [HS.out, if_neg hz, ← List.append_assoc]
          exact h1
        case measure => simp [intOf]; omega
    · obtain rfl : k = s.size := by omega
      go_wp2_with (go_at_call 102; refine (HE.out _ _ (by have := HL.out; omega) hR.out HBr.out).mono ?_; rintro e w1 ⟨rfl, h1, h2⟩)
      go_end0
      refine ⟨rfl, ?_, (hbel.out.alloc HBB.out _).trans h2⟩
      have := h1
      rwa [List.take_of_length_le (by simp), List.append_assoc] at this
end Go.Proofs.YtdjaofbjmnmlbaaDoor
