/- Several texts in one: MgXa MgY MgZa. Conditions: as each theorem names them. -/
import Derived.Test.YtgfkobfkncpmoaaDoorMgW
import Derived.Test.YtgfkobfkncpmoaaDoorPA
import Derived.Test.YtgfkobfkncpmoaaDoorLM
import Derived.Test.YtgfkobfkncpmoaaDoorNO
/- A sorted list is a run; its halves are runs. Conditions: as each theorem names them. -/
namespace Go.Proofs.YtgfkobfkncpmoaaDoor
open Go.RowKit

theorem sort_run {l : List CT} (h : ∀ x ∈ l, Sm x) : Run CT.cmp CT.ok (sortL [] l) ∧ (∀ x ∈ sortL [] l, Sm x) ∧ (sortL [] l).length ≤ l.length := by
  have h1 := sortL_i l [] sortI_nil h
  refine ⟨⟨h1.ok, h1.rise⟩, h1.sm, ?_⟩
  have := sortL_len l []
  rw [List.length_nil] at this
  omega
theorem sm_okn {c : CT} (h : Sm c) : OkN c := ⟨h.1, by have := h.2.1; omega, by have := h.2.2.1; omega, by have := h.2.2.2.1; omega, by have := h.2.2.2.2; omega⟩
/-- Runs tell what is told to be told. -/
theorem mgr_ex {rs : List (List CT)} (hs : ∀ l ∈ rs, l.length ≤ 1000000) (hl : rs.length ≤ 1000) : ∃ l, MgO CT.cmp (runsF begL 0 rs) l := by
  have := runs_gd hs hl
  exact mgo_ex _ _ (Nat.le_refl _) this.rise this.dst
theorem filt_part {l : List CT} (p : CT → Bool) : (l.filter p).length + (l.filter fun c => !p c).length = l.length := by
  induction l with
  | nil => rfl
  | cons a t ih =>
    rw [List.filter_cons, List.filter_cons]
    cases h : p a
    · simp at ih ⊢; omega
    · simp at ih ⊢; omega
theorem halves_mgo {s : List CT} (hs : Run CT.cmp CT.ok s) (hl : s.length ≤ 1000) (p : CT → Bool) : MgO CT.cmp (runsF begL 0 [s.filter p, s.filter fun c => !p c]) s ∧ MgO CT.cmp (runsF begL 0 [s.filter fun c => !p c, s.filter p]) s := by
  have hle : ∀ q : CT → Bool, (s.filter q).length ≤ 1000000 := fun q => by have := List.length_filter_le q s; omega
  have hin : ∀ d ∈ s, d ∈ s.filter p ∨ d ∈ s.filter (fun c => !p c) := fun d hd => by
    cases h : p d
    · exact .inr (List.mem_filter.2 ⟨hd, by rw [h]; rfl⟩)
    · exact .inl (List.mem_filter.2 ⟨hd, h⟩)
  have hno : ∀ d ∈ s.filter p, d ∉ s.filter (fun c => !p c) := fun d h1 h2 => by
    have a := (List.mem_filter.1 h1).2
    have b := (List.mem_filter.1 h2).2
    rw [a] at b
    cases b
  constructor
  · obtain ⟨ml, hml⟩ := mgr_ex (rs := [s.filter p, s.filter fun c => !p c]) (fun l hl => by
      rcases List.mem_cons.1 hl with rfl | hl
      · exact hle _
      · rw [List.mem_singleton.1 hl]; exact hle _) (by show (2 : Nat) ≤ _; omega)
    have e := halves_all ct_c3 CT.ok hs List.filter_sublist List.filter_sublist hin hno hml
    rw [e] at hml
    exact hml
  · obtain ⟨ml, hml⟩ := mgr_ex (rs := [s.filter fun c => !p c, s.filter p]) (fun l hl => by
      rcases List.mem_cons.1 hl with rfl | hl
      · exact hle _
      · rw [List.mem_singleton.1 hl]; exact hle _) (by show (2 : Nat) ≤ _; omega)
    have e := halves_all ct_c3 CT.ok hs List.filter_sublist List.filter_sublist (fun d hd => (hin d hd).symm) (fun d h1 h2 => hno d h2 h1) hml
    rw [e] at hml
    exact hml
end Go.Proofs.YtgfkobfkncpmoaaDoor

/- Runs that are sorted and kept in a list of the call's own; great of layer 10. Conditions: the argument stands. -/
namespace Go.Proofs.YtgfkobfkncpmoaaDoor
open Go.RowKit

theorem info_part9 : (Tryd.prog.info? 39).map (fun i => (i.zero, i.size, i.bytes)) = some (some (.slice none 0 0), 1, 24) := by kernel_rfl

/-- The slice v is the call's own (from block B on) and its elements are rows of the call's own that hold xs. -/
def QRow (w : World) (B : Nat) (v : Value) (xs : List (List CT)) : Prop :=
  ∃ vs : List Value, w.ownsRow B 39 1 v xs.length vs ∧ ∀ (i : Nat) (x : List CT), xs[i]? = some x → ∃ u, vs[i]? = some u ∧ CRow w B u x
theorem QRow.none (w : World) (B : Nat) : QRow w B (.slice none 0 0) [] := ⟨[], ⟨rfl, .inl ⟨rfl, rfl⟩⟩, fun i x h => by simp at h⟩
theorem QRow.len {w : World} {B : Nat} {v : Value} {xs : List (List CT)} (h : QRow w B v xs) : ∃ A c, v = .slice A xs.length c := by
  obtain ⟨vs, ⟨_, h⟩, _⟩ := h
  rcases h with ⟨e, h0⟩ | ⟨g, cap, cur, e, _⟩
  · exact ⟨Option.none, 0, by rw [e, h0]⟩
  · exact ⟨_, _, e⟩
theorem QRow.below {w w' : World} {B : Nat} {v : Value} {xs : List (List CT)} (h : QRow w B v xs) (hb : Below w.heap.size w w') : QRow w' B v xs := by
  obtain ⟨vs, ho, hr⟩ := h
  refine ⟨vs, ?_, fun i x hx => ?_⟩
  · refine ⟨ho.1, ?_⟩
    rcases ho.2 with h2 | ⟨g, cap, cur, rfl, hB, hh, hrest⟩
    · exact .inl h2
    · refine .inr ⟨g, cap, cur, rfl, hB, ?_, hrest⟩
      rw [hb.block g (by rcases Nat.lt_or_ge g w.heap.size with h' | h'
                         · exact h'
                         · rw [Array.getElem?_eq_none h'] at hh; cases hh)]
      exact hh
  · obtain ⟨u, hu, hR⟩ := hr i x hx
    exact ⟨u, hu, hR.below hb⟩
/-- A row of bytes does not lie where a list of rows lies. -/
theorem part_ne9 {w : World} {B : Nat} {u v : Value} {x : List CT} {n : Nat} {vs : List Value} (h : CRow w B u x) (ho : w.ownsRow B 39 1 v n vs) : u.ownBlock = Option.none ∨ u.ownBlock ≠ v.ownBlock := by
  rcases h.2 with ⟨rfl, _⟩ | ⟨g, cap, cur, rfl, _, hh, _⟩
  · exact .inl rfl
  · refine .inr fun e => ?_
    rcases ho.2 with ⟨rfl, _⟩ | ⟨g', cap', cur', rfl, _, hh', _⟩
    · cases e
    · simp only [Value.ownBlock, Option.some.injEq] at e
      rw [← e, hh] at hh'
      simp only [Option.some.injEq, Obj.cells.injEq] at hh'
      exact absurd hh'.2.1 (by decide)
theorem crow_grown9 {w w' : World} {B : Nat} {u : Value} {x : List CT} {row : Option Nat} (h : CRow w B u x) (hg : w.grownBy w' row) (hne : u.ownBlock = Option.none ∨ u.ownBlock ≠ row) : CRow w' B u x := World.ownsRow.kept h hg hne

section
variable {ops : Array Oper} {rest : List Oper} {o : Oper} {a : Act} {Q : Exit → Act → World → Prop}
/-- append of one row to a list of the call's own. -/
theorem wpList_append_part9 (hgd : o.guard = Option.none) (s x : Operand)
    (ho : o.op = .call { callee := .builtin .append, args := #[s, x], argTypes := #[61, 61] })
    (w : World) (base : Nat) (v : Value) (xs : List (List CT)) (hs : a.eval s = v) (hown : QRow w base v xs)
    (G : Nat) (c : Nat) (u : Value) (y : List CT) (hx : a.eval x = .slice (some ⟨G, 0, Option.none⟩) 1 c) (hc : w.cell? ⟨G, 0, Option.none⟩ = some u) (hu : CRow w base u y)
    (hlen : xs.length ≤ 1000000) (hbase : base ≤ w.heap.size)
    (h : ∀ v' w', QRow w' base v' (xs ++ [y]) → Below base w w' → wpList Tryd.prog ops Q rest (a.put o.dst v') w') : wpList Tryd.prog ops Q (o :: rest) a w := by
  obtain ⟨i0, hi, hz0, hz1, hz2⟩ := info_parts info_part9
  obtain ⟨vs, how, hr⟩ := hown
  have hvl : vs.length = xs.length := by have := how.1; omega
  refine wpList_append_own w hgd s x 61 ho base 39 i0 (.slice Option.none 0 0) 1 24 Tryd.underlying61 hi hz0 hz1 hz2 rfl (by decide) v xs.length vs hs how ⟨G, 0, Option.none⟩ 1 c [u] hx rfl ?_ ?_ (by unfold maxLen; omega) (by omega) hbase ?_
  · intro j e he
    match j, he with
    | 0, he => simp at he; subst he; rw [add_zero_off]; exact hc
    | j + 1, he => simp at he
  · intro e he
    have : e = u := by simpa using he
    subst this
    rcases hu.2 with ⟨rfl, _⟩ | ⟨g, cap, cur, rfl, _⟩ <;> rfl
  · intro v' w' h1 h2 _
    refine h v' w' ⟨vs ++ [u], by rw [List.length_append]; exact h1, fun i x hx => ?_⟩ ((Below.refl _ _).grown h2 hbase fun k hk => (World.ownsRow.lt how k hk).1)
    by_cases hi' : i < xs.length
    · rw [List.getElem?_append_left hi'] at hx
      obtain ⟨u', hu', hR⟩ := hr i x hx
      exact ⟨u', by rw [List.getElem?_append_left (by omega)]; exact hu', crow_grown9 hR h2 (part_ne9 hR how)⟩
    · rw [List.getElem?_append_right (by omega)] at hx
      have hi0 : i - xs.length = 0 := by
        rcases Nat.eq_zero_or_pos (i - xs.length) with e | e
        · exact e
        · rw [List.getElem?_eq_none (by simp; omega)] at hx; cases hx
      rw [hi0] at hx
      have ey : y = x := by simpa using hx
      subst ey
      exact ⟨u, by rw [List.getElem?_append_right (by omega), hvl, hi0]; rfl, crow_grown9 hu h2 (part_ne9 hu how)⟩
end


theorem empty_qrow (W : World) (B : Nat) (hB : B ≤ W.heap.size) : QRow (W.alloc (.cells #[] 39)) B (.slice (some ⟨W.heap.size, 0, none⟩) 0 0) [] := ⟨[], ⟨rfl, .inr ⟨W.heap.size, 0, #[], rfl, hB, Blk.new _ _ _, Nat.le_refl _, by unfold maxLen; omega, rfl, rfl⟩⟩, fun i x h => by simp at h⟩
theorem QRow.rsa {w : World} {B : Nat} {v : Value} {xs : List (List CT)} (h : QRow w B v xs) : RsA w v xs := by
  obtain ⟨vs, ho, hr⟩ := h
  rcases ho.2 with ⟨rfl, h0⟩ | ⟨g, cap, cur, rfl, _, hb, h1, h2, h3, h4⟩
  · exact ⟨Option.none, 0, by rw [h0], by omega, by omega, fun h => by omega⟩
  · refine ⟨_, cap, rfl, h1, by unfold maxLen at h2; omega, fun _ => ⟨g, 0, rfl, fun i l hl => ?_⟩⟩
    obtain ⟨u, hu, hc⟩ := hr i l hl
    refine ⟨u, ?_, hc.cla⟩
    have hb2 : Blk w g 39 cur := hb
    rw [Nat.zero_add, hb2.cell]
    have hi : i < xs.length := (List.getElem?_eq_some_iff.1 hl).1
    rw [← h4, List.getElem?_take_of_lt (by omega), Array.getElem?_toList] at hu
    exact hu
theorem rsa_take {w : World} {A : Option Addr} {n c : Nat} {rs : List (List CT)} (h : RsA w (.slice A n c) rs) (k : Nat) (hk : k ≤ rs.length) : RsA w (.slice A k c) (rs.take k) := by
  obtain ⟨A', c', e, h1, h2, h3⟩ := h
  injection e with e1 e2 e3
  subst e1 e3
  have hl : (rs.take k).length = k := by rw [List.length_take]; omega
  refine ⟨A, c, by rw [hl], by omega, h2, fun h0 => ?_⟩
  obtain ⟨b, off, e, hh⟩ := h3 (by omega)
  refine ⟨b, off, e, fun i l hl2 => hh i l ?_⟩
  have hi : i < (rs.take k).length := (List.getElem?_eq_some_iff.1 hl2).1
  rw [List.getElem?_take_of_lt (by omega)] at hl2
  exact hl2
/-- Is a list of runs greater than is looked at? -/
def greatB (rs : List (List CT)) : Bool := decide (12 < rs.length) || rs.any (longM 60)
theorem great_ok10 {rs : List (List CT)} (h : greatB rs = false) (hv : ∀ l ∈ rs, ∀ c ∈ l, inI c.vn) : rs.length ≤ 12 ∧ ∀ l ∈ rs, l.length ≤ 60 ∧ ∀ c ∈ l, Sm c := by
  unfold greatB at h
  rw [Bool.or_eq_false_iff] at h
  have h1 := of_decide_eq_false h.1
  refine ⟨by omega, fun l hl => ?_⟩
  have h2 : longM 60 l = false := by
    cases e : longM 60 l with
    | false => rfl
    | true =>
      have := h.2
      rw [List.any_eq_true.2 ⟨l, hl, e⟩] at this
      cases this
  have h3 := longM_ok h2 (hv l hl)
  exact ⟨h3.1, fun c hc => h3.2 c hc⟩

set_option maxHeartbeats 4000000 in
set_option maxRecDepth 100000 in
theorem great10_any (v : Value) (rs : List (List CT)) (w : World) (h : RsA w v rs) :
    Calls Tryd.prog 49 #[v] w fun e w' => e = .returned (.bool (greatB rs)) ∧ Below w.heap.size w w' := by
  have mixed : Tryd.prog.follows .mixedOrders = true := by kernel_rfl
  obtain ⟨A, cap, rfl, hc1, hc2, hh⟩ := h
  have HH := hid hh
  obtain ⟨N, hN⟩ : ∃ N, rs.length = N := ⟨_, rfl⟩
  have HN := hid hN
  have HG : Hid (greatB rs = (decide (12 < N) || rs.any (longM 60))) := by show greatB rs = _; rw [← hN]; rfl
  rw [hN] at hc1 ⊢
  obtain ⟨b, hb⟩ : ∃ b, greatB rs = b := ⟨_, rfl⟩
  rw [hb] at HG ⊢
  clear hh hN hb
  go_enter Tryd.func49, Tryd.ntmps49
  by_cases h12 : 12 < N
  · have h12z : (12 : Int) < (N : Int) := by omega
    obtain rfl : b = true := by rw [HG.out, decide_eq_true h12]; rfl
    go_wp2
    go_ret
    exact ⟨rfl, Below.refl _ _⟩
  · have h12z : ¬ (12 : Int) < (N : Int) := by omega
    have HG2 : Hid (b = rs.any (longM 60)) := by show b = _; rw [HG.out, decide_eq_false h12]; rfl
    clear HG
    go_wp2
    go_loopw [3] (fun vi wr => ∃ i : Nat, i ≤ N ∧ vi = .int .i64 i ∧ Hid ((rs.take i).any (longM 60) = false) ∧ Hid (Below w.heap.size w wr)) (fun vi _ => N - (intOf vi).toNat)
    case atStart => exact ⟨0, Nat.zero_le _, rfl, rfl, Below.refl _ _⟩
    case round =>
      obtain ⟨i, hi, rfl, HI, HB⟩ := hrel
      by_cases hlt : i < N
      · have hltz : (i : Int) < (N : Int) := by omega
        have hil : i < rs.length := by rw [HN.out]; exact hlt
        obtain ⟨bb, off, rfl, hhc⟩ := HH.out (by omega)
        obtain ⟨r, hr⟩ : ∃ r, rs[i]? = some r := ⟨_, List.getElem?_eq_getElem hil⟩
        obtain ⟨u, hu, hcl⟩ := hhc i r hr
        have x0 := (HB.out.cell (p := ⟨bb, off + i, none⟩) (cell_lt hu)).trans hu
        have HLo := hid (longcells_at 60 u r wr (hcl.below HB.out))
        have HTk : Hid ((rs.take (i + 1)).any (longM 60) = longM 60 r) := by
          have e1 : rs.take (i + 1) = rs.take i ++ [r] := by rw [List.take_add_one, hr]; rfl
          show List.any _ _ = _
          rw [e1, List.any_append, HI.out]
          simp
        have HTr : Hid (longM 60 r = true → b = true) := fun e => by rw [HG2.out]; exact List.any_eq_true.2 ⟨r, List.mem_of_getElem? hr, e⟩
        obtain ⟨Au, cu, rfl, -⟩ := hcl
        obtain ⟨nr, hnr⟩ : ∃ nr, r.length = nr := ⟨_, rfl⟩
        rw [hnr] at x0 HLo
        clear hr hu hnr hil hhc
        cases hq : longM 60 r with
        | true =>
          obtain rfl := HTr.out hq
          rw [hq] at HLo
          clear hq
          go_wp2_with (first | (go_at_call 32; refine HLo.out.mono ?_; rintro e w5 ⟨rfl, hb5⟩))
          go_ret
          exact ⟨rfl, HB.out.trans (hb5.mono HB.out.size)⟩
        | false =>
          rw [hq] at HLo HTk
          clear hq
          go_wp2_with (first | (go_at_call 32; refine HLo.out.mono ?_; rintro e w5 ⟨rfl, hb5⟩))
          go_roundw
          case rel => exact ⟨i + 1, by omega, by go_num, HTk.out, HB.out.trans (hb5.mono HB.out.size)⟩
          case measure => simp [intOf]; omega
      · obtain rfl : i = N := by omega
        obtain rfl : b = false := by
          have := HI.out
          rw [← HN.out, List.take_length] at this
          rw [HG2.out, this]
        go_wp2
        go_ret
        exact ⟨rfl, HB.out⟩
/-- The runs of a law: sorted. -/
def srt (rs : List (List CT)) : List (List CT) := rs.map (sortL [])
theorem srt_ok {rs : List (List CT)} (h : ∀ l ∈ rs, l.length ≤ 60 ∧ ∀ c ∈ l, Sm c) : ∀ l ∈ srt rs, Run CT.cmp CT.ok l ∧ l.length ≤ 60 ∧ ∀ c ∈ l, Sm c := fun l hl => by
  obtain ⟨r, hr, rfl⟩ := List.mem_map.1 hl
  have h1 := sort_run (h r hr).2
  have h2 := (h r hr).1
  exact ⟨h1.1, by have := h1.2.2; omega, h1.2.1⟩
theorem srt_len (rs : List (List CT)) : (srt rs).length = rs.length := by unfold srt; rw [List.length_map]
theorem srt_snoc {rs : List (List CT)} {i : Nat} {r : List CT} (hr : rs[i]? = some r) : srt (rs.take (i + 1)) = srt (rs.take i) ++ [sortL [] r] := by
  have e1 : rs.take (i + 1) = rs.take i ++ [r] := by rw [List.take_add_one, hr]; rfl
  unfold srt
  rw [e1, List.map_append]
  rfl
end Go.Proofs.YtgfkobfkncpmoaaDoor

/- Parts of a list of runs; what is told of runs. Conditions: as each theorem names them. -/
namespace Go.Proofs.YtgfkobfkncpmoaaDoor
open Go.RowKit

theorem rsa_drop {w : World} {A : Option Addr} {n c : Nat} {rs : List (List CT)} (h : RsA w (.slice A n c) rs) (k : Nat) (hk : k ≤ rs.length) (A2 : Option Addr) (hA : ∀ b off, A = some ⟨b, off, none⟩ → k < rs.length → A2 = some ⟨b, off + k, none⟩) : RsA w (.slice A2 (n - k) (c - k)) (rs.drop k) := by
  obtain ⟨A', c', e, h1, h2, h3⟩ := h
  injection e with e1 e2 e3
  subst e1 e3
  have hl : (rs.drop k).length = n - k := by rw [List.length_drop, ← e2]
  refine ⟨A2, c - k, by rw [hl], by omega, by omega, fun h0 => ?_⟩
  have hk2 : k < rs.length := by rw [List.length_drop] at h0; omega
  obtain ⟨b, off, rfl, hh⟩ := h3 (by omega)
  refine ⟨b, off + k, hA b off rfl hk2, fun i l hl2 => ?_⟩
  rw [List.getElem?_drop] at hl2
  obtain ⟨u, hu, hc⟩ := hh (k + i) l hl2
  exact ⟨u, by rw [Nat.add_assoc]; exact hu, hc⟩
theorem qrow_some {w : World} {B : Nat} {v : Value} {xs : List (List CT)} (h : QRow w B v xs) (h0 : 0 < xs.length) : ∃ g c, v = .slice (some ⟨g, 0, none⟩) xs.length c := by
  obtain ⟨vs, ho, _⟩ := h
  rcases ho.2 with ⟨_, hz⟩ | ⟨g, cap, cur, e, _⟩
  · omega
  · exact ⟨g, cap, e⟩
/-- What is told of some runs. -/
theorem told_ok {rs : List (List CT)} (h : ∀ l ∈ rs, Run CT.cmp CT.ok l ∧ l.length ≤ 60 ∧ ∀ c ∈ l, Sm c) (hl : rs.length ≤ 12) : ∃ ml, MgO CT.cmp (runsF begL 0 rs) ml ∧ Run CT.cmp CT.ok ml ∧ ml.length ≤ 720 ∧ ∀ c ∈ ml, Sm c := by
  obtain ⟨ml, hm⟩ := mgr_ex (rs := rs) (fun l hl => by have := (h l hl).2.1; omega) (by omega)
  have hr := mgr_run CT.ok (fun l hl => (h l hl).1) (l := ml) hm
  refine ⟨ml, hm, hr, ?_, fun c hc => ?_⟩
  · have hlen : ∀ (k : Nat) (H : List (Rn CT)) (ml : List CT), cntR H ≤ k → (∀ r ∈ H, Rise CT.cmp r) → Dst H → MgO CT.cmp H ml → ml.length ≤ cntR H := by
      intro k
      induction k with
      | zero =>
        intro H ml h0 _ _ hm
        cases H with
        | nil => rw [mgo_nil hm]; exact Nat.zero_le _
        | cons a t => rw [cntR_cons] at h0; have : 0 < a.cs.length := by show 0 < _ + 1; omega
                      omega
      | succ k ih =>
        intro H ml h0 hR hD hm
        cases H with
        | nil => rw [mgo_nil hm]; exact Nat.zero_le _
        | cons a t =>
          obtain ⟨r, t', hp, hl⟩ := least_ex a t
          have hR2 : ∀ x ∈ r :: t', Rise CT.cmp x := fun x hx => hR x (hp.mem_iff.2 hx)
          obtain ⟨l', rfl, hm'⟩ := mgo_uncons ct_c3 hl hR2 (dst_perm hp hD) (mgo_perm hp hm)
          have h1 := cntR_pop_lt (r := r) (t := t')
          rw [← cntR_perm hp] at h1
          have := ih _ l' (by omega) (pop_rise hR2) (pop_dst (dst_perm hp hD)) hm'
          rw [List.length_cons]
          omega
    have hg := runs_gd (rs := rs) (fun l hl => by have := (h l hl).2.1; omega) (by omega)
    have h1 := hlen _ _ ml (Nat.le_refl _) hg.rise hg.dst hm
    have h2 : ∀ (k : Nat) (a : List (List CT)), (∀ l ∈ a, l.length ≤ 60) → cntR (runsF begL k a) ≤ a.length * 60 := by
      intro k a
      induction a generalizing k with
      | nil => exact fun _ => Nat.le_refl _
      | cons x t ih =>
        intro ha
        have t1 := ih (k + 1) fun l hl => ha l (List.mem_cons_of_mem _ hl)
        rw [runsF, List.length_cons, cntR_app]
        have hx : (begL x).length ≤ 60 := by
          show (x.take (begI x)).length ≤ _
          rw [List.length_take]
          have := ha x (List.mem_cons_self ..)
          omega
        have h2 : cntR (ofL (begL x) k).toList ≤ 60 := by
          cases hb : begL x with
          | nil => exact Nat.zero_le _
          | cons a u =>
            rw [hb, List.length_cons] at hx
            show (u.length + 1) + 0 ≤ _
            omega
        omega
    have h3 := h2 0 rs (fun l hl => (h l hl).2.1)
    omega
  · obtain ⟨j, l, h1, h2, _⟩ := (tld_run CT.ok (fun l hl => (h l hl).1) c).1 ((hm.mem c).1 hc)
    exact (h l (List.mem_of_getElem? h1)).2.2 c h2
end Go.Proofs.YtgfkobfkncpmoaaDoor
