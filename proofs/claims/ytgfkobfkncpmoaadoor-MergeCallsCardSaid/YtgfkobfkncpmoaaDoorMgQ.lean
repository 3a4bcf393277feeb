/- A merger that stands, by what it tells: Next, Skip, Left; its mathematics. Conditions: the runs rise, their numbers are apart. -/
import Derived.Test.YtgfkobfkncpmoaaDoorMgP
namespace Go.Proofs.YtgfkobfkncpmoaaDoor
open Go.RowKit

/-- All blocks below B and from G on stand as they stood. -/
structure Mdl (B G : Nat) (w w' : World) : Prop where
  os : w'.os = w.os
  tape : w'.tape = w.tape
  output : w'.output = w.output
  size : w.heap.size ≤ w'.heap.size
  block : ∀ k, k < w.heap.size → (k < B ∨ G ≤ k) → w'.heap[k]? = w.heap[k]?
theorem Mdl.of {B G : Nat} {w w' : World} (h : Below w.heap.size w w') : Mdl B G w w' := ⟨h.os, h.tape, h.output, h.size, fun k hk _ => h.block k hk⟩
theorem Mdl.refl (B G : Nat) (w : World) : Mdl B G w w := .of (Below.refl _ w)
theorem Mdl.trans {B G : Nat} {w w1 w2 : World} (h : Mdl B G w w1) (h2 : Mdl B G w1 w2) : Mdl B G w w2 :=
  ⟨h2.os.trans h.os, h2.tape.trans h.tape, h2.output.trans h.output, Nat.le_trans h.size h2.size, fun k hk q => (h2.block k (by have := h.size; omega) q).trans (h.block k hk q)⟩
theorem Mdl.below {B G : Nat} {w w' : World} (h : Mdl B G w w') (hB : B ≤ w.heap.size) : Below B w w' := ⟨h.os, h.tape, h.output, h.size, fun k hk => h.block k (by omega) (.inl hk)⟩
theorem Chy.mid {g mb B G : Nat} {w w' : World} (h : Chy g mb w w') (h1 : B ≤ g) (h2 : g < G) (h3 : B ≤ mb) (h4 : mb < G) : Mdl B G w w' :=
  ⟨h.os, h.tape, h.output, h.size, fun k hk q => h.block k hk (by omega) (by omega)⟩
/-- Runs that can be made one. -/
structure Gd (H : List (Rn CT)) : Prop where
  rise : ∀ r ∈ H, Rise CT.cmp r
  dst : Dst H
  len : H.length ≤ 1000000
  cnt : cntR H ≤ 1000000000
theorem cntR_pop (c : CT) : ∀ H : List (Rn CT), cntR (popA CT.cmp c H) ≤ cntR H
  | [] => Nat.le_refl _
  | r :: t => by
    have h := cntR_pop c t
    unfold popA at h ⊢
    rw [List.filterMap_cons]
    cases hp : popR CT.cmp c r with
    | none => rw [cntR_cons]; show cntR (t.filterMap _) ≤ _; omega
    | some x =>
      have hx : x.cs.length ≤ r.cs.length := by
        unfold popR at hp
        split at hp
        · unfold tlR at hp
          split at hp
          · cases hp
          · rename_i a u hu
            cases hp
            show u.length + 1 ≤ r.t.length + 1
            rw [hu, List.length_cons]
            omega
        · cases hp; exact Nat.le_refl _
      show cntR (x :: t.filterMap _) ≤ _
      rw [cntR_cons, cntR_cons]
      omega
theorem cntR_pop_lt {r : Rn CT} {t : List (Rn CT)} : cntR (popA CT.cmp r.h (r :: t)) < cntR (r :: t) := by
  have h := cntR_pop r.h t
  unfold popA at h ⊢
  rw [List.filterMap_cons]
  have e : popR CT.cmp r.h r = tlR r := by unfold popR; rw [if_pos (ct_c3.zero _)]
  rw [e, cntR_cons]
  cases hp : tlR r with
  | none => show cntR (t.filterMap _) < (r.t.length + 1) + _; omega
  | some x =>
    unfold tlR at hp
    split at hp
    · cases hp
    · rename_i a u hu
      cases hp
      show (u.length + 1) + cntR (t.filterMap _) < (r.t.length + 1) + _
      rw [hu, List.length_cons]
      omega
theorem cntR_sk (c : CT) : ∀ H : List (Rn CT), cntR (skA CT.cmp c H) ≤ cntR H
  | [] => Nat.le_refl _
  | r :: t => by
    have h := cntR_sk c t
    unfold skA at h ⊢
    rw [List.filterMap_cons]
    cases hp : skR CT.cmp c r with
    | none => rw [cntR_cons]; show cntR (t.filterMap _) ≤ _; omega
    | some x =>
      have hx : x.cs.length ≤ r.cs.length := by
        unfold skR at hp
        have h1 := (of_mem.1 hp).1
        have := (List.dropWhile_sublist (p := fun y => decide (CT.cmp y c < 0)) (l := r.h :: r.t)).length_le
        rw [h1] at this
        exact this
      show cntR (x :: t.filterMap _) ≤ _
      rw [cntR_cons, cntR_cons]
      omega
theorem Gd.perm {H K : List (Rn CT)} (h : Gd H) (hp : H.Perm K) : Gd K := ⟨fun r hr => h.rise r (hp.mem_iff.2 hr), dst_perm hp h.dst, by rw [← hp.length_eq]; exact h.len, by rw [← cntR_perm hp]; exact h.cnt⟩
theorem Gd.pop {H : List (Rn CT)} (h : Gd H) (c : CT) : Gd (popA CT.cmp c H) := ⟨pop_rise h.rise, pop_dst h.dst, Nat.le_trans (List.length_filterMap_le _ _) h.len, Nat.le_trans (cntR_pop c H) h.cnt⟩
theorem Gd.sk {H : List (Rn CT)} (h : Gd H) (c : CT) : Gd (skA CT.cmp c H) := ⟨sk_rise h.rise, sk_dst h.dst, Nat.le_trans (List.length_filterMap_le _ _) h.len, Nat.le_trans (cntR_sk c H) h.cnt⟩
theorem least_ex : ∀ (a : Rn CT) (H : List (Rn CT)), ∃ r t, (a :: H).Perm (r :: t) ∧ ∀ x ∈ r :: t, leR CT.cmp r x
  | a, [] => ⟨a, [], List.Perm.refl _, fun x hx => by rw [List.mem_singleton.1 hx]; exact leR_refl ct_c3 a⟩
  | a, b :: H => by
    obtain ⟨r, t, hp, hl⟩ := least_ex b H
    rcases leR_total ct_c3 a r with q | q
    · refine ⟨a, r :: t, hp.cons a, fun x hx => ?_⟩
      rcases List.mem_cons.1 hx with rfl | hx
      · exact leR_refl ct_c3 x
      · exact leR_trans ct_c3 q (hl x hx)
    · refine ⟨r, a :: t, (hp.cons a).trans (List.Perm.swap r a t), fun x hx => ?_⟩
      rcases List.mem_cons.1 hx with rfl | hx
      · exact leR_refl ct_c3 x
      · rcases List.mem_cons.1 hx with rfl | hx
        · exact q
        · exact hl x (List.mem_cons_of_mem _ hx)
/-- Runs tell something. -/
theorem mgo_ex : ∀ (n : Nat) (H : List (Rn CT)), cntR H ≤ n → (∀ r ∈ H, Rise CT.cmp r) → Dst H → ∃ l, MgO CT.cmp H l
  | _, [], _, _, _ => ⟨[], mgo_nil_nil⟩
  | 0, a :: H, h, _, _ => by rw [cntR_cons] at h; have : 0 < a.cs.length := by show 0 < _ + 1; omega
                             omega
  | n + 1, a :: H, h, hR, hD => by
    obtain ⟨r, t, hp, hl⟩ := least_ex a H
    have hR2 : ∀ x ∈ r :: t, Rise CT.cmp x := fun x hx => hR x (hp.mem_iff.2 hx)
    have h1 := cntR_pop_lt (r := r) (t := t)
    rw [← cntR_perm hp] at h1
    obtain ⟨l, hl2⟩ := mgo_ex n (popA CT.cmp r.h (r :: t)) (by omega) (pop_rise hR2) (pop_dst (dst_perm hp hD))
    exact ⟨_, mgo_perm hp.symm (mgo_cons ct_c3 hl hR2 (dst_perm hp hD) hl2)⟩
theorem mgs_of {W : World} {B G C mb g cap : Nat} {l : List Mx} {H : List (Rn CT)} (h : MAg W B mb g cap C l (cntR (l.map Mx.r))) (hp : (l.map Mx.r).Perm H) (hH : Hp CT.cmp 0 (l.map Mx.r)) (hg : g < G) (hm : mb < G) (hG : G ≤ W.heap.size) : MgS W B G C mb H := by
  refine ⟨hm, hG, ?_⟩
  cases l with
  | nil => exact .inl ⟨List.nil_perm.1 hp, _, h.at, fun k hk => by cases hk; exact hg⟩
  | cons x t => exact .inr ⟨g, cap, x, t, hg, h, hp, hH⟩
theorem MgS.below {W W2 : World} {B G C mb : Nat} {H : List (Rn CT)} (h : MgS W B G C mb H) (hb : Below W.heap.size W W2) : MgS W2 B G C mb H := by
  obtain ⟨h1, h2, h3⟩ := h
  refine ⟨h1, Nat.le_trans h2 hb.size, ?_⟩
  rcases h3 with ⟨e, v, h3, h9⟩ | ⟨g, cap, x, l, q, h4, h5, h6⟩
  · exact .inl ⟨e, v, h3.below hb, h9⟩
  · exact .inr ⟨g, cap, x, l, q, h4.below hb, h5, h6⟩
/-- What Next answers, by what the runs tell. -/
def NxE (w : World) (B G C mb : Nat) (H : List (Rn CT)) (ml : List CT) (e : Ending) (w' : World) : Prop := match ml with
  | [] => e = .returned (.tuple #[(default : CT).v, .int .i64 0, .bool false]) ∧ MgS w' B G C mb [] ∧ Mdl B G w w' ∧ H = []
  | d :: l => ∃ r t, H.Perm (r :: t) ∧ (∀ x ∈ r :: t, leR CT.cmp r x) ∧ r.h = d ∧ e = .returned (.tuple #[d.v, .int .i64 (r.i : Int), .bool true]) ∧ MgS w' B G C mb (popA CT.cmp d (r :: t)) ∧ Mdl B G w w' ∧ Gd (popA CT.cmp d (r :: t)) ∧ MgO CT.cmp (popA CT.cmp d (r :: t)) l
theorem next_mg {B G C mb : Nat} {H : List (Rn CT)} {ml : List CT} (w : World) (h : MgS w B G C mb H) (hG : Gd H) (hm : MgO CT.cmp H ml) (hC : C ≤ w.heap.size) :
    Calls Tryd.prog 52 #[.pointer (some ⟨mb, 0, none⟩)] w fun e w' => NxE w B G C mb H ml e w' := by
  obtain ⟨h1, h2, h3⟩ := h
  rcases h3 with ⟨rfl, v, h3, h9⟩ | ⟨g, cap, x, l, hg, h4, h5, h6⟩
  · obtain rfl := mgo_nil hm
    refine (next_no w h3).mono fun e w' ⟨he, hb⟩ => ⟨he, ⟨h1, Nat.le_trans h2 hb.size, .inl ⟨rfl, v, h3.below hb, h9⟩⟩, Mdl.of hb, rfl⟩
  · have hG2 := hG.perm h5.symm
    have hl := hp_least ct_c3 h6
    obtain ⟨l', rfl, hm'⟩ := mgo_uncons ct_c3 hl hG2.rise hG2.dst (mgo_perm h5.symm hm)
    refine (next_any w h4 h6 hG2.rise rfl (by have := hG2.len; rw [List.length_map, List.length_cons] at this; omega) (by have := hG2.cnt; omega) hC).mono ?_
    rintro e w' ⟨rfl, l2, hA, hB⟩
    exact ⟨x.r, l.map Mx.r, h5.symm, hl, rfl, rfl, mgs_of hB.out.1 hA.out.1 hA.out.2 hg h1 (Nat.le_trans h2 hB.out.2.size), hB.out.2.mid h4.lg hg h4.lo h1, hG2.pop _, hm'⟩
set_option maxRecDepth 100000 in
set_option maxHeartbeats 8000000 in
theorem skip_no {B mb n : Nat} {v : Value} (c : CT) (w : World) (h : MAt w B mb v [] n) :
    Calls Tryd.prog 56 #[.pointer (some ⟨mb, 0, none⟩), c.v] w fun e w' => e = .returned (.tuple #[]) ∧ Below w.heap.size w w' := by
  have mixed : Tryd.prog.follows .mixedOrders = true := by kernel_rfl
  have HB0 := hid (below_new w (.cells #[.string c.r, .string c.f, .string c.q, .int .i64 c.t, .int .i64 c.k, .int .i64 c.vk, .int .i64 c.vn, .string c.s] 28))
  have HF := hid (first_any (h.below HB0.out) c)
  have HW : Hid (Blk (w.alloc (.cells #[.string c.r, .string c.f, .string c.q, .int .i64 c.t, .int .i64 c.k, .int .i64 c.vk, .int .i64 c.vn, .string c.s] 28)) w.heap.size 28 c.e.toArray) := Blk.new w _ _
  clear h
  go_enter Tryd.func56, Tryd.ntmps56
  go_upto_region 1 with (fail)
  obtain ⟨W1, hW1⟩ : ∃ W, w.alloc (.cells #[.string c.r, .string c.f, .string c.q, .int .i64 c.t, .int .i64 c.k, .int .i64 c.vk, .int .i64 c.vn, .string c.s] 28) = W := ⟨_, rfl⟩
  obtain ⟨cb, hcb⟩ : ∃ cb, w.heap.size = cb := ⟨_, rfl⟩
  rw [hW1] at HF HB0 HW ⊢
  rw [hcb] at HW ⊢
  clear hW1 hcb
  have c0 : W1.cell? ⟨cb, 0, none⟩ = some (.string c.r) := HW.out.cell 0; have c1 : W1.cell? ⟨cb, 1, none⟩ = some (.string c.f) := HW.out.cell 1; have c2 : W1.cell? ⟨cb, 2, none⟩ = some (.string c.q) := HW.out.cell 2; have c3 : W1.cell? ⟨cb, 3, none⟩ = some (.int .i64 c.t) := HW.out.cell 3; have c4 : W1.cell? ⟨cb, 4, none⟩ = some (.int .i64 c.k) := HW.out.cell 4; have c5 : W1.cell? ⟨cb, 5, none⟩ = some (.int .i64 c.vk) := HW.out.cell 5; have c6 : W1.cell? ⟨cb, 6, none⟩ = some (.int .i64 c.vn) := HW.out.cell 6; have c7 : W1.cell? ⟨cb, 7, none⟩ = some (.string c.s) := HW.out.cell 7
  refine wp_loop_rounds 1 ?_
  rw [rounds_succ]
  go_wp2_with (first | (go_at_call 129; refine HF.out.mono ?_; rintro e v2 ⟨rfl, hb2⟩))
  refine bodyPost_end (results_none rfl _ _ _) rfl ?_
  exact ⟨rfl, HB0.out.trans (hb2.mono HB0.out.size)⟩
theorem skip_mg {B G C mb : Nat} {H : List (Rn CT)} (c : CT) (w : World) (h : MgS w B G C mb H) (hG : Gd H) :
    Calls Tryd.prog 56 #[.pointer (some ⟨mb, 0, none⟩), c.v] w fun e w' => e = .returned (.tuple #[]) ∧ MgS w' B G C mb (skA CT.cmp c H) ∧ Mdl B G w w' := by
  obtain ⟨h1, h2, h3⟩ := h
  rcases h3 with ⟨rfl, v, h3, h9⟩ | ⟨g, cap, x, l, hg, h4, h5, h6⟩
  · exact (skip_no c w h3).mono fun e w' ⟨he, hb⟩ => ⟨he, ⟨h1, Nat.le_trans h2 hb.size, .inl ⟨rfl, v, h3.below hb, h9⟩⟩, Mdl.of hb⟩
  · have hG2 := hG.perm h5.symm
    refine (skip_any c w h4 h6 hG2.rise rfl (by have := hG2.len; rw [List.length_map] at this; omega) (by have := hG2.cnt; omega)).mono ?_
    rintro e w' ⟨rfl, l2, hA, hB⟩
    exact ⟨rfl, mgs_of hB.out.1 (hA.out.1.trans (sk_perm h5)) hA.out.2 hg h1 (Nat.le_trans h2 hB.out.2.size), hB.out.2.mid h4.lg hg h4.lo h1⟩
theorem left_mg {B G C mb : Nat} {H : List (Rn CT)} {w : World} (h : MgS w B G C mb H) :
    Calls Tryd.prog 54 #[.pointer (some ⟨mb, 0, none⟩)] w fun e w' => e = .returned (.int .i64 (cntR H : Int)) ∧ w' = w := by
  obtain ⟨h1, h2, h3⟩ := h
  rcases h3 with ⟨rfl, v, h3, h9⟩ | ⟨g, cap, x, l, hg, h4, h5, h6⟩
  · exact left_any h3
  · rw [← cntR_perm h5]
    exact left_any h4.at
/-- What Next answers, in one form. -/
def NxU (w : World) (B G C mb : Nat) (H : List (Rn CT)) (ml : List CT) (e : Ending) (w' : World) : Prop := ∃ (d : CT) (k : Nat) (ok : Bool) (H' : List (Rn CT)), e = .returned (.tuple #[d.v, .int .i64 (k : Int), .bool ok]) ∧ Hid (MgS w' B G C mb H' ∧ Mdl B G w w' ∧ Gd H' ∧ (ok = false → ml = [] ∧ d = default ∧ H' = [] ∧ k = 0) ∧ (ok = true → cntR H' < cntR H ∧ ∃ l, ml = d :: l ∧ MgO CT.cmp H' l))
theorem next_mu {B G C mb : Nat} {H : List (Rn CT)} {ml : List CT} (w : World) (h : MgS w B G C mb H) (hG : Gd H) (hm : MgO CT.cmp H ml) (hC : C ≤ w.heap.size) :
    Calls Tryd.prog 52 #[.pointer (some ⟨mb, 0, none⟩)] w fun e w' => NxU w B G C mb H ml e w' := by
  refine (next_mg w h hG hm hC).mono fun e w' he => ?_
  cases ml with
  | nil =>
    obtain ⟨h1, h2, h3, rfl⟩ := he
    exact ⟨_, 0, false, [], h1, h2, h3, hG, fun _ => ⟨rfl, rfl, rfl, rfl⟩, fun e => (by cases e)⟩
  | cons d l =>
    obtain ⟨r, t, hp, hl, rfl, h1, h2, h3, h4, h5⟩ := he
    exact ⟨_, r.i, true, _, h1, h2, h3, h4, fun e => (by cases e), fun _ => ⟨by rw [cntR_perm hp]; exact cntR_pop_lt, l, rfl, h5⟩⟩
end Go.Proofs.YtgfkobfkncpmoaaDoor
