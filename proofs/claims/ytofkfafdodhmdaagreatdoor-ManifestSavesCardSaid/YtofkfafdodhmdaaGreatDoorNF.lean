/- Several texts in one: MfF RgT MfG. Conditions: as each theorem names them. -/
import Derived.Test.YtofkfafdodhmdaaGreatDoorNA
import Derived.Test.YtofkfafdodhmdaaGreatDoorMfE
import Derived.Test.YtofkfafdodhmdaaGreatDoorNE
import Derived.Test.YtofkfafdodhmdaaGreatDoorRows
import Derived.Deep.RegionHeld3
import Derived.StillTail
import Derived.Lib.Hide
import Derived.Test.YtofkfafdodhmdaaGreatDoorNB
/- package manifest's numbers. Conditions: the slice holds its bytes, a million at most. -/
namespace Go.Proofs.YtofkfafdodhmdaaGreatDoor
open Go.RowKit

theorem decS_long {l : List UInt8} {zs t : List Int} (h : takesF l = some (zs ++ t)) (hz : zs.length = 54) (ht : t ≠ []) : decS l = none := by
  unfold decS
  rw [h]
  show staOf (zs ++ t) = none
  match zs, hz with
  | g :: a :: n :: k :: r, hz =>
    show (if k = ((r ++ t).length : Int) ∧ (⟨g, a, n, r ++ t⟩ : Sta).right = true then some (⟨g, a, n, r ++ t⟩ : Sta) else none) = none
    rw [if_neg]
    rintro ⟨_, h2⟩
    have h3 := ((Sta.right_iff _).1 h2).tl
    have h4 : 0 < t.length := List.length_pos_iff.2 ht
    simp only [List.length_append, List.length_cons] at h3 hz
    omega
theorem decS_none {l : List UInt8} (h : takesF l = none) : decS l = none := by unfold decS; rw [h]; rfl

def lenS : Value → Nat
  | .slice _ n _ => n
  | _ => 0
theorem ret9_val {a b : Value} (h : a = b) : Ending.returned a = .returned b := by rw [h]
theorem tuple2_val {a b c d : Value} (h : a = c) (k : b = d) : Value.tuple #[a, b] = .tuple #[c, d] := by rw [h, k]
theorem bool_val {a b : Bool} (h : a = b) : Value.bool a = .bool b := by rw [h]
theorem takesF_empty {l : List UInt8} (h : takesF l = some []) : l = [] := by
  cases l with
  | nil => rfl
  | cons x t =>
    exfalso
    cases ht : tk (x :: t) with
    | none => rw [takesF_none (by simp) ht] at h; cases h
    | some p =>
      obtain ⟨n, r⟩ := p
      rw [takesF_some ht] at h
      cases hr : takesF r with
      | none => rw [hr] at h; cases h
      | some y => rw [hr] at h; cases h
/-- What numbers ends with. -/
def NsEnd (w : World) (l : List UInt8) (e : Ending) (w' : World) : Prop :=
  ((∃ v zs, e = .returned (.tuple #[v, .bool true]) ∧ takesF l = some zs ∧ zs.length ≤ 54 ∧ IRow w' w.heap.size v zs) ∨ (∃ v, e = .returned (.tuple #[v, .bool false]) ∧ decS l = none)) ∧ Below w.heap.size w w'

set_option maxHeartbeats 1000000 in
theorem numbers_nil (A : Option Addr) (c : Nat) (w : World) :
    Calls Tryz.prog 42 #[.slice A 0 c] w (NsEnd w []) := by
  go_enter Tryz.func42, Tryz.ntmps42
  go_wp2
  go_loopw [0, 4] (fun vb vl wr => vb = .slice A 0 c ∧ vl = .slice Option.none 0 0 ∧ w = wr) (fun _ _ _ => 0)
  case atStart => exact ⟨rfl, rfl, rfl⟩
  case round =>
    obtain ⟨rfl, rfl, rfl⟩ := hrel
    go_wp2
    go_ret2
    exact ⟨.inl ⟨_, [], rfl, takesF_nil, by simp, IRow.none _ _⟩, Below.refl _ _⟩

theorem one_holds (w : World) (z : Int) : HoldsIA (w.alloc (.cells #[.int .i64 z] 3)) (some ⟨w.heap.size, 0, Option.none⟩) [z] := fun _ => ⟨w.heap.size, 0, rfl, fun i hi => by
  obtain rfl : i = 0 := by simpa using hi
  exact cell_one _ _ _⟩

set_option maxRecDepth 100000 in
set_option maxHeartbeats 8000000 in
theorem numbers_in (b off c m : Nat) (l : List UInt8) (hm : l.length = m) (hlen : m ≤ 1000000) (hlc : m ≤ c) (hc : c ≤ 9223372036854775807) (w : World) (hh : Holds w b off l) :
    Calls Tryz.prog 42 #[.slice (some ⟨b, off, Option.none⟩) m c] w (NsEnd w l) := by
  have HK : Hid (∀ (W : World) (k p q cc h : Nat), k < m → p = off + k → q = m - k → cc = c - k → h = min q 9 → Below w.heap.size w W → Calls Tryz.prog 77 #[.slice (some ⟨b, p, Option.none⟩) h cc] W (TEndO W (tk ((l.drop k).take 9)))) := by
    rintro W k p q cc h hk rfl rfl rfl rfl hW
    have q1 := (sla_part (by rw [hm]; exact hlc) hc hh k (m - k) (by omega)).below hW
    rw [List.take_of_length_le (by rw [List.length_drop]; omega)] at q1
    have hl : (l.drop k).length = m - k := by rw [List.length_drop, hm]
    rw [← hl] at q1
    have q2 := sla_head q1
    obtain ⟨A', c', e, g2, g3, g4, g5⟩ := q2
    injection e with e1 e0 e2
    subst e1; subst e2
    have := take_any _ _ _ (by rw [List.length_take]; omega) g2 g3 W g4
    rw [← e0, hl] at this
    exact this
  have HM := hid hm
  clear hh hm
  go_enter Tryz.func42, Tryz.ntmps42
  go_wp2
  go_loopw [0, 4] (fun vb vl wr => ∃ (k p q cc : Nat) (A : Option Addr) (zs : List Int), k ≤ m ∧ p = off + k ∧ q = m - k ∧ cc = c - k ∧ vb = .slice A q cc ∧ (0 < q → A = some ⟨b, p, Option.none⟩) ∧ Hid (takesF l = (takesF (l.drop k)).map (zs ++ ·)) ∧ zs.length ≤ 54 ∧ IRow wr w.heap.size vl zs ∧ Below w.heap.size w wr) (fun vb _ _ => lenS vb)
  case atStart => exact ⟨0, off, m, c, _, [], Nat.zero_le _, rfl, rfl, rfl, rfl, fun _ => rfl, (by unfold Hid; rw [List.drop_zero]; cases takesF l <;> rfl), by simp, IRow.none _ _, Below.refl _ _⟩
  case round =>
    obtain ⟨k, p, q, cc, A, zs, hk, hp, hq, hcc, rfl, hA, HE, hz, hI, hb⟩ := hrel
    obtain ⟨A4, c4, e4, _⟩ := hI.slI
    subst e4
    have HI := hid hI
    have HQ := hid (And.intro hp (And.intro hq hcc))
    have hqc : q ≤ cc := by omega
    have hq1 : q ≤ 1000000 := by omega
    have hc1 : cc ≤ 9223372036854775807 := by omega
    clear hI hp hq hcc
    by_cases hlt : k < m
    · have hq0 : 0 < q := by have := HQ.out; omega
      obtain rfl := hA hq0
      by_cases hz2 : zs.length = 54
      · have hbq : ((q : Int) == 0) = false := by simp; omega
        have HZ := hid hz2
        go_wp2
        go_ret2
        refine ⟨.inr ⟨_, rfl, ?_⟩, hb⟩
        have he := HE.out
        cases ht : takesF (l.drop k) with
        | none => rw [ht] at he; exact decS_none he
        | some t =>
          rw [ht] at he
          refine decS_long he HZ.out fun e => ?_
          subst e
          have h1 := takesF_empty ht
          have h2 := congrArg List.length h1
          rw [List.length_drop, List.length_nil, HM.out] at h2
          omega
      · obtain ⟨h, hh⟩ : ∃ h, min q 9 = h := ⟨_, rfl⟩
        have hmin : min (q : Int) 9 = (h : Int) := by omega
        have hz3 : zs.length < 54 := by omega
        have hhq : h ≤ q := by omega
        have hh0 : 0 < h := by omega
        have HT := HK.out wr k p q cc h hlt HQ.out.1 HQ.out.2.1 HQ.out.2.2 hh.symm hb
        have HH := hid hh
        clear hh hz2
        cases hk1 : tk (l.drop k) with
        | none =>
          rw [tk_head_none hk1] at HT
          have HT := hid HT
          have HN : Hid (takesF l = none) := by
            unfold Hid
            rw [HE.out, takesF_none (fun e => by have h2 := congrArg List.length e; rw [List.length_drop, List.length_nil, HM.out] at h2; omega) hk1]
            rfl
          go_wp2_with (go_at_call 77; refine HT.out.mono ?_; rintro e w1 ⟨rfl, hb1⟩)
          go_ret2
          exact ⟨.inr ⟨_, rfl, decS_none HN.out⟩, hb.trans (hb1.mono hb.size)⟩
        | some pr =>
          obtain ⟨n, t⟩ := pr
          obtain ⟨j, j1, j2, j3, ht, hmm⟩ := tkGo_more 9 0 _ _ _ hk1
          have hhead : tk ((l.drop k).take 9) = some (n, ((l.drop k).take 9).drop j) := hmm 9 j2
          have hdl : (l.drop k).length = q := by rw [List.length_drop, HM.out]; have := HQ.out; omega
          have hrl : (((l.drop k).take 9).drop j).length = h - j := by rw [List.length_drop, List.length_take, hdl, ← HH.out, Nat.min_comm]
          rw [hhead] at HT
          obtain ⟨r, hr⟩ : ∃ r, h - j = r := ⟨_, rfl⟩
          have hjh : r + j = h := by have := HH.out; omega
          have HT : Hid (Calls Tryz.prog 77 #[.slice (some ⟨b, p, Option.none⟩) h cc] wr fun e w' => ∃ A' c', e = .returned (.tuple #[.int .i64 (n : Int), .slice A' r c', .bool true]) ∧ Below wr.heap.size wr w') := by
            refine HT.mono ?_
            rintro e w' ⟨v, rfl, hR, hb'⟩
            obtain ⟨A2, c2, rfl, _⟩ := hR.sla
            rw [hrl, hr]
            exact ⟨A2, c2, rfl, hb'⟩
          have HN : Hid (takesF l = (takesF (l.drop (k + j))).map ((zs ++ [(n : Int)]) ++ ·)) := by
            unfold Hid
            have et : t = l.drop (k + j) := by rw [ht, List.drop_drop]
            rw [HE.out, takesF_some hk1, ← et]
            cases takesF t with
            | none => rfl
            | some x => show some (zs ++ ((n : Int) :: x)) = some ((zs ++ [(n : Int)]) ++ x); rw [List.append_assoc]; rfl
          have hkj : k + j ≤ m := by have := HQ.out; omega
          have hbs := hb.size
          clear hr hrl hdl hmm ht hhead hk1 j2 j3
          go_wp2_with (first
            | (go_at_call 77; refine HT.out.mono ?_; rintro e w1 ⟨A', c', rfl, hb1⟩)
            | (at_builtin; refine wpList_append_ints rfl (.tmp 30) (.tmp 32) rfl rfl _ w.heap.size _ zs rfl ((HI.out.below hb1).below (below_new _ _)) _ 1 [(n : Int)] rfl (one_holds _ _) (by simp; omega) (by have := hb1.size; simp; omega) ?_; intro v' w' hI' hb' _))
          go_roundw
          case rel =>
            refine ⟨k + j, _, _, _, _, zs ++ [(n : Int)], hkj, rfl, ?_, ?_, rfl, fun h0 => ?_, HN, by simp; omega, hI', ((hb.trans (hb1.mono hbs)).alloc (by have := hb1.size; omega) _).trans hb'⟩
            · have := HQ.out; omega
            · have := HQ.out; omega
            · have := HQ.out
              rw [if_neg (by omega)]
              congr 2
              omega
          case measure => simp [lenS]; omega
    · clear hA
      have hq0 : q = 0 := by have := HQ.out; omega
      have hbq : ((0 : Int) == 0) = true := rfl
      go_wp2
      go_ret2
      refine ⟨.inl ⟨_, zs, rfl, ?_, hz, HI.out⟩, hb⟩
      have e : l.drop k = [] := List.eq_nil_of_length_eq_zero (by rw [List.length_drop, HM.out]; omega)
      have he := HE.out
      rw [e, takesF_nil] at he
      rw [he]
      show some (zs ++ []) = some zs
      rw [List.append_nil]

theorem numbers_any (v : Value) (l : List UInt8) (hlen : l.length ≤ 1000000) (w : World) (h : SlA w v l) :
    Calls Tryz.prog 42 #[v] w (NsEnd w l) := by
  obtain ⟨A, c, rfl, h2, h3, h4, _⟩ := h
  by_cases h0 : 0 < l.length
  · obtain ⟨b, off, rfl, hh⟩ := h4 h0
    exact numbers_in b off c l.length l rfl hlen h2 h3 w hh
  · have : l = [] := List.eq_nil_of_length_eq_zero (by omega)
    subst this
    exact numbers_nil A c w
end Go.Proofs.YtofkfafdodhmdaaGreatDoor

/- A region that draws its order and ends in an operation that waits for all others: a condition on the world is asked behind every operation but that last one. Conditions: none. -/
namespace Go.Proofs.YtofkfafdodhmdaaGreatDoor
open Go.RowKit

section
variable {P : Program} {ops : Array Oper} {Q : Exit → Act → World → Prop} {md : Region.Mode} {S : World → Prop} {z : Nat}
/-- Whatever order is picked, S holds behind every operation but number z. -/
def wpAnyT (P : Program) (md : Region.Mode) (ops : Array Oper) (Q : Exit → Act → World → Prop) (S : World → Prop) (z : Nat) : Nat → Array Bool → Act → World → Prop
  | 0, listed, a, w => Region.ready md ops listed = [] ∧ Q .normal a w
  | fuel + 1, listed, a, w =>
    (Region.ready md ops listed = [] → Q .normal a w) ∧
    ∀ i ∈ Region.ready md ops listed, wpOp P ops Q i (fun a' w' => (i = z ∨ S w') ∧ wpAnyT P md ops Q S z fuel (listed.setIfInBounds i true) a' w') a w
theorem wpAny_of_till : ∀ (fuel : Nat) (listed : Array Bool) (a : Act) (w : World), wpAnyT P md ops Q S z fuel listed a w → wpAny P md ops Q fuel listed a w
  | 0, _, _, _, h => h
  | fuel + 1, _, _, _, h => ⟨h.1, fun i hi => wpOp_mono (fun a' w' h' => wpAny_of_till fuel _ a' w' h'.2) (h.2 i hi)⟩
theorem wpAnyT_first {i : Nat} {oi : Oper} {v : Value} (hi : ops[i]? = some oi) (hsel : ∀ (j : Nat) (o : Oper) cs b, ops[j]? = some o → o.op ≠ .select cs b)
    (hQ : ∀ c a w, Q (.panic c) (a.put oi.dst v) w → Q (.panic c) a w) (hs : Region.sinkB md ops z = true) (hc : Region.chainB md ops z = true) (hz : z < ops.size) (hiz : i < z) :
    ∀ (fuel : Nat) (listed : Array Bool) (a : Act) (w : World), HeadInv md ops z listed →
      (∀ j oj, ops[j]? = some oj → j ≠ i → listed.getD j true = false → (∀ e ∈ oj.after, Region.binds md e = true → e.on ≠ i) → oi.apart ops oj = true) →
      i ∈ Region.ready md ops listed → YieldsIf P ops S oi v a → S w →
      wpAnyT P md ops Q S z fuel (listed.setIfInBounds i true) (a.put oi.dst v) w → wpAnyT P md ops Q S z (fuel + 1) listed a w := by
  intro fuel
  induction fuel with
  | zero =>
    intro listed a w _ _ hr hy hS H
    refine ⟨fun h => (by rw [h] at hr; cases hr), fun j hj => ?_⟩
    by_cases hji : j = i
    · subst hji; exact hy.wpOp hi hS ⟨.inr hS, H⟩
    · have := ready_mono hj hji
      rw [H.1] at this
      cases this
  | succ fuel ih =>
    intro listed a w inv hfree hr hy hS H
    refine ⟨fun h => (by rw [h] at hr; cases hr), fun j hj => ?_⟩
    by_cases hji : j = i
    · subst hji; exact hy.wpOp hi hS ⟨.inr hS, H⟩
    · have hun := (mem_ready.1 hr).1
      obtain ⟨hjun, oj, hoj, hall⟩ := mem_ready.1 hj
      have hjz : j < z := by
        have hjs : j < ops.size := (Array.getElem?_eq_some_iff.1 hoj).1
        rcases Nat.lt_or_ge j z with h | h
        · exact h
        · exact absurd hj (tail_waits hs hc hz inv _ i rfl hiz hun j h)
      have h1 := H.2 j (ready_mono hj hji)
      have hnot : ∀ e ∈ oj.after, Region.binds md e = true → e.on ≠ i := fun e he hb heq => by
        have h1 := hall e he hb
        rw [heq, getD_both hun] at h1
        cases h1
      have h2 := wpOp_putIf hoj (hfree j oj hoj hji hjun hnot) (fun cs b => hsel i oi cs b hi) (fun cs b => hsel j oj cs b hoj) hQ hy h1
      have hfree' : ∀ k ok, ops[k]? = some ok → k ≠ i → (listed.setIfInBounds j true).getD k true = false →
          (∀ e ∈ ok.after, Region.binds md e = true → e.on ≠ i) → oi.apart ops ok = true := fun k ok hk hki hun hno => by
        refine hfree k ok hk hki ?_ hno
        by_cases hjk : j = k
        · subst hjk; exact hjun
        · rw [getD_set_ne true hjk] at hun; exact hun
      refine wpOp_mono (fun a' w' h3 => ?_) h2
      have hSw : S w' := h3.2.1.resolve_left (Nat.ne_of_lt hjz)
      refine ⟨.inr hSw, ih (listed.setIfInBounds j true) a' w' (inv.set hj hjz) hfree' (ready_mono hr (Ne.symm hji)) h3.1 hSw ?_⟩
      rw [Array.setIfInBounds_comm _ _ hji]
      exact h3.2.2
/-- The state of the list, as a Bool. -/
def headB (md : Region.Mode) (ops : Array Oper) (n : Nat) (listed : Array Bool) : Bool :=
  decide (listed.size = ops.size) && ((List.range ops.size).all fun j => match ops[j]? with
    | some oj => !listed.getD j false || oj.after.all fun e => !Region.binds md e || listed.getD e.on false
    | none => true) && (List.range ops.size).all fun t => decide (t < n) || !listed.getD t true
theorem headB_spec {n : Nat} {listed : Array Bool} (h : headB md ops n listed = true) : HeadInv md ops n listed := by
  unfold headB at h
  rw [Bool.and_eq_true, Bool.and_eq_true, decide_eq_true_iff] at h
  obtain ⟨⟨h1, h2⟩, h3⟩ := h
  refine ⟨h1, fun j oj hj hl e he hb => ?_, fun t ht hts => ?_⟩
  · have hlt : j < ops.size := (Array.getElem?_eq_some_iff.1 hj).1
    have := List.all_eq_true.1 h2 j (List.mem_range.2 hlt)
    simp only [hj, hl, Bool.not_true, Bool.false_or] at this
    have h4 := Array.all_eq_true_iff_forall_mem.1 this e he
    simp only [hb, Bool.not_true, Bool.false_or] at h4
    exact h4
  · have := List.all_eq_true.1 h3 t (List.mem_range.2 hts)
    rw [Bool.or_eq_true, decide_eq_true_iff, Bool.not_eq_true'] at this
    exact this.resolve_left (by omega)
/-- May number i be taken first? -/
def takeB (md : Region.Mode) (ops : Array Oper) (z : Nat) (listed : Array Bool) (i : Nat) : Bool :=
  Region.noSelect ops && Region.free md ops listed i && (Region.ready md ops listed).contains i && Region.sinkB md ops z && Region.chainB md ops z && headB md ops z listed && decide (i < z) && decide (z < ops.size)
theorem wpAnyT_take {i : Nat} {oi : Oper} {v : Value} {fuel : Nat} {listed : Array Bool} {a : Act} {w : World} (hi : ops[i]? = some oi) (hB : takeB md ops z listed i = true)
    (hQ : ∀ c a w, Q (.panic c) (a.put oi.dst v) w → Q (.panic c) a w) (hy : YieldsIf P ops S oi v a) (hS : S w)
    (h : wpAnyT P md ops Q S z fuel (listed.setIfInBounds i true) (a.put oi.dst v) w) : wpAnyT P md ops Q S z (fuel + 1) listed a w := by
  unfold takeB at hB
  simp only [Bool.and_eq_true, decide_eq_true_iff] at hB
  obtain ⟨⟨⟨⟨⟨⟨⟨h1, h2⟩, h3⟩, h4⟩, h5⟩, h6⟩, h7⟩, h8⟩ := hB
  exact wpAnyT_first hi (Region.noSelect_spec h1) hQ h4 h5 h8 h7 fuel listed a w (headB_spec h6) (Region.free_spec hi h2) (by simpa using h3) hy hS h
/-- One operation alone may come up. -/
theorem wpAnyT_one {i : Nat} {o : Oper} {fuel : Nat} {listed : Array Bool} {a : Act} {w : World} (hr : Region.ready md ops listed = [i]) (ho : ops[i]? = some o)
    (h : ∀ K' : Act → World → Prop, Hid (∀ a w, (i = z ∨ S w) → ((i = z ∨ S w) → wpAnyT P md ops Q S z fuel (listed.setIfInBounds i true) a w) → K' a w) → if Region.wanted o (yielded ops a.tmps) = true then Oper.wp P o a w K' Q else K' (a.put o.dst undef) w) :
    wpAnyT P md ops Q S z (fuel + 1) listed a w :=
  ⟨fun h0 => (by rw [hr] at h0; cases h0), fun j hj => by
    rw [hr] at hj
    obtain rfl := List.mem_singleton.1 hj
    exact wpOp_step ho fun K' hK => h K' fun a w hS hw => hK a w ⟨hS, hw hS⟩⟩
theorem wpAnyT_done {listed : Array Bool} {a : Act} {w : World} (hr : Region.ready md ops listed = []) (h : Q .normal a w) : ∀ fuel, wpAnyT P md ops Q S z fuel listed a w
  | 0 => ⟨hr, h⟩
  | _ + 1 => ⟨fun _ => h, by rw [hr]; simp⟩
theorem wp_region_till (z : Nat) (S : World → Prop) {id : Nat} {a : Act} {w : World} (hm : P.follows .mixedOrders = true) (hS : S w.drew)
    (h : S w.drew → wpAnyT P .any ops Q S z ops.size (Array.replicate ops.size false) a w.drew) : (Code.region id ops true).wp P Q a w :=
  wp_region_any hm (wpAny_of_till _ _ _ _ (h hS))
end
end Go.Proofs.YtofkfafdodhmdaaGreatDoor

/- package manifest's Decode. Conditions: the slice holds its bytes, a million at most. -/
namespace Go.Proofs.YtofkfafdodhmdaaGreatDoor
open Go.RowKit

/-- Three ints in a row. -/
abbrev ThreeC (B o : Nat) (g a n : Int) (W : World) : Prop := W.cell? ⟨B, o, Option.none⟩ = some (.int .i64 g) ∧ W.cell? ⟨B, o + 1, Option.none⟩ = some (.int .i64 a) ∧ W.cell? ⟨B, o + 2, Option.none⟩ = some (.int .i64 n)
theorem ThreeC.below {B o : Nat} {g a n : Int} {W W' : World} (h : ThreeC B o g a n W) (hb : Below W.heap.size W W') : ThreeC B o g a n W' :=
  ⟨(hb.cell (p := ⟨B, o, Option.none⟩) (cell_lt h.1)).trans h.1, (hb.cell (p := ⟨B, o + 1, Option.none⟩) (cell_lt h.1)).trans h.2.1, (hb.cell (p := ⟨B, o + 2, Option.none⟩) (cell_lt h.1)).trans h.2.2⟩
theorem ThreeC.drew {B o : Nat} {g a n : Int} {W : World} (h : ThreeC B o g a n W) : ThreeC B o g a n W.drew := h
/-- The slice's block is one of these. -/
def OwnN (v : Value) (lo hi : Nat) : Prop := ∀ k, v.ownBlock = some k → lo ≤ k ∧ k < hi
theorem OwnN.mono {v : Value} {lo hi lo' hi' : Nat} (h : OwnN v lo hi) (h1 : lo' ≤ lo) (h2 : hi ≤ hi') : OwnN v lo' hi' := fun k q => by have := h k q; omega
theorem IRow.ownN {w : World} {B : Nat} {v : Value} {zs : List Int} (h : IRow w B v zs) : OwnN v B w.heap.size := fun k q => World.ownsRow.lt h k q
theorem HoldsI.set {w : World} {b off s i : Nat} {zs : List Int} {u : Value} (h : HoldsI w b off zs) (hn : b ≠ s) : HoldsI (w.setCell ⟨s, i, Option.none⟩ u) b off zs := fun j hj => by
  rw [World.cell?_of_block (w := w) (Below.heap_setCell w ⟨s, i, Option.none⟩ u b hn)]
  exact h j hj
theorem SlI.set {w : World} {v : Value} {zs : List Int} {s i : Nat} {u : Value} (h : SlI w v zs) (hn : v.ownBlock ≠ some s) : SlI (w.setCell ⟨s, i, Option.none⟩ u) v zs := by
  obtain ⟨A, c, rfl, h1, h2, h3, h4⟩ := h
  refine ⟨A, c, rfl, h1, h2, fun h0 => ?_, h4⟩
  obtain ⟨b, off, rfl, hh⟩ := h3 h0
  exact ⟨b, off, rfl, hh.set fun e => hn (by rw [← e]; rfl)⟩
theorem slI_drop {w : World} {b o c n : Nat} {zs : List Int} (h1 : zs.length = n) (hc : n ≤ c) (hc2 : c ≤ 9223372036854775807) (hh : HoldsI w b o zs) (k : Nat) (hk : k ≤ n) : SlI w (.slice (if c = k then some ⟨b, o, Option.none⟩ else some ⟨b, o + k, Option.none⟩) (n - k) (c - k)) (zs.drop k) := by
  have e : (zs.drop k).length = n - k := by rw [List.length_drop, h1]
  refine ⟨_, c - k, by rw [e], by omega, by omega, fun h0 => ?_, fun h => ?_⟩
  · rw [if_neg (by omega)]
    exact ⟨b, o + k, rfl, hh.drop k⟩
  · exfalso
    by_cases q : c = k
    · rw [if_pos q] at h; cases h
    · rw [if_neg q] at h; cases h
def DcEnd (w : World) : Option Sta → Ending → World → Prop
  | some s, e, w' => ∃ v, e = .returned (.tuple #[staV s.g s.a s.n v, .bool true]) ∧ SlI w' v s.t ∧ OwnN v w.heap.size w'.heap.size ∧ Below w.heap.size w w'
  | none, e, w' => e = .returned (.tuple #[staV 0 0 0 (.slice Option.none 0 0), .bool false]) ∧ Below w.heap.size w w'

theorem cell_set_eq9 {w : World} {a : Addr} {u : Value} (h : (w.cell? a).isSome = true) : (w.setCell a u).cell? a = some u := by
  obtain ⟨v, hv⟩ := Option.isSome_iff_exists.1 h
  exact World.cell?_setCell_same w a u hv
/-- What numbers tells, without cases. -/
def NsQ (B : Nat) (l : List UInt8) (u : Value) (q : Bool) (w' : World) : Prop := (q = true → ∃ zs, takesF l = some zs ∧ zs.length ≤ 54 ∧ IRow w' B u zs) ∧ (q = false → decS l = none)

set_option maxRecDepth 100000 in
set_option maxHeartbeats 8000000 in
theorem decode9_any (v : Value) (l : List UInt8) (hlen : l.length ≤ 1000000) (w : World) (h : SlA w v l) :
    Calls Tryz.prog 11 #[v] w (DcEnd w (decS l)) := by
  have HN : Hid (∀ W, Below w.heap.size w W → Calls Tryz.prog 42 #[v] W fun e w' => ∃ u q, e = .returned (.tuple #[u, .bool q]) ∧ Hid (NsQ W.heap.size l u q w') ∧ Below W.heap.size W w') := fun W hW => by
    refine (numbers_any v l hlen W (h.below hW)).mono ?_
    rintro e w' ⟨⟨u, zs, rfl, h1, h2, h3⟩ | ⟨u, rfl, h1⟩, hb⟩
    · exact ⟨u, true, rfl, ⟨fun _ => ⟨zs, h1, h2, h3⟩, fun h => by cases h⟩, hb⟩
    · exact ⟨u, false, rfl, ⟨fun h => (by cases h), fun _ => h1⟩, hb⟩
  obtain ⟨A, c, rfl, _⟩ := h
  generalize l.length = m at HN ⊢
  clear hlen
  go_enter Tryz.func11, Tryz.ntmps11
  go_upto_region 2 with (go_at_call 42; refine (HN.out _ (below_new _ _)).mono ?_; rintro e w1 ⟨u, q, rfl, HQ, hb⟩)
  have HB1 : Hid (Blk w1 w.heap.size 29 #[.int .i64 0, .int .i64 0, .int .i64 0, .slice Option.none 0 0] ∧ Below w.heap.size w w1) := ⟨(Blk.new w _ _).keep hb (by simp), (below_new w _).trans (hb.mono (by simp))⟩
  have HQ : Hid (NsQ (w.heap.size + 1) l u q w1) := by
    refine ⟨fun h => ?_, HQ.out.2⟩
    obtain ⟨zs, h1, h2, h3⟩ := HQ.out.1 h
    exact ⟨zs, h1, h2, h3.mono (by simp)⟩
  clear hb HN
  have r0 : w1.cell? ⟨w.heap.size, 0, Option.none⟩ = some (.int .i64 0) := HB1.out.1.cell 0
  have r1 : w1.cell? ⟨w.heap.size, 1, Option.none⟩ = some (.int .i64 0) := HB1.out.1.cell 1
  have r2 : w1.cell? ⟨w.heap.size, 2, Option.none⟩ = some (.int .i64 0) := HB1.out.1.cell 2
  have r3 : w1.cell? ⟨w.heap.size, 3, Option.none⟩ = some (.slice Option.none 0 0) := HB1.out.1.cell 3
  have rf : ∀ j, w1.frozen? ⟨w.heap.size, j, Option.none⟩ = false := fun j => HB1.out.1.free j
  cases q with
  | false =>
    have hd := HQ.out.2 rfl
    go_wp2
    refine bodyPost_ret (v := .tuple #[staV 0 0 0 (.slice Option.none 0 0), .bool false]) (by simp [results, Tryz.results11, go_sem, cell_set_eq9, r0, r1, r2, r3]) rfl ?_
    (try rw [hd])
    refine ⟨rfl, ?_⟩
    iterate 4 (refine Below.setCell ?_ (by simp) _)
    exact HB1.out.2
  | true =>
    obtain ⟨zs, h1, h2, h3⟩ := HQ.out.1 rfl
    have HT := hid h1
    have HO := hid h3.ownN
    obtain ⟨A2, c2, e2, h4, h5, h6, _⟩ := h3.slI
    subst e2
    obtain ⟨m2, hm2⟩ : ∃ m2, zs.length = m2 := ⟨_, rfl⟩
    rw [hm2] at h2 h4 ⊢
    have HM := hid hm2
    clear HQ h1 h3 hm2
    by_cases h7 : m2 < 4
    · have hd : decS l = none := by
        unfold decS
        rw [HT.out]
        show staOf zs = none
        match zs, HM.out with
        | [], _ => rfl
        | [_], _ => rfl
        | [_, _], _ => rfl
        | [_, _, _], _ => rfl
        | _ :: _ :: _ :: _ :: t, e => simp at e; omega
      go_wp2
      refine bodyPost_ret (v := .tuple #[staV 0 0 0 (.slice Option.none 0 0), .bool false]) (by simp [results, Tryz.results11, go_sem, cell_set_eq9, r0, r1, r2, r3]) rfl ?_
      (try rw [hd])
      refine ⟨rfl, ?_⟩
      iterate 4 (refine Below.setCell ?_ (by simp) _)
      exact HB1.out.2
    · obtain ⟨B, o, rfl, hh⟩ := h6 (by have := HM.out; omega)
      obtain ⟨g, a, n, k, t, rfl⟩ : ∃ g a n k t, zs = g :: a :: n :: k :: t := by
        match zs, HM.out with
        | [], e => simp at e; omega
        | [_], e => simp at e; omega
        | [_, _], e => simp at e; omega
        | [_, _, _], e => simp at e; omega
        | g :: a :: n :: k :: t, _ => exact ⟨g, a, n, k, t, rfl⟩
      have q0 : w1.cell? ⟨B, o, Option.none⟩ = some (.int .i64 g) := hh 0 (by simp)
      have q1 : w1.cell? ⟨B, o + 1, Option.none⟩ = some (.int .i64 a) := hh 1 (by simp)
      have q2 : w1.cell? ⟨B, o + 2, Option.none⟩ = some (.int .i64 n) := hh 2 (by simp)
      have q3 : w1.cell? ⟨B, o + 3, Option.none⟩ = some (.int .i64 k) := hh 3 (by simp)
      have HH := hid hh
      have HD : Hid (decS l = if k = (t.length : Int) ∧ (⟨g, a, n, t⟩ : Sta).right = true then some ⟨g, a, n, t⟩ else none) := by unfold Hid decS; rw [HT.out]; rfl
      have hmt : m2 = t.length + 4 := by have := HM.out; simp only [List.length_cons] at this; omega
      have HMT := hid hmt
      clear hh h6
      by_cases h8 : k = ((m2 : Int) - 4)
      · have h9 : (k != (m2 : Int) - 4) = false := by simpa using h8
        have p0 : (0 : Int) < (m2 : Int) := by omega
        have p1 : (1 : Int) < (m2 : Int) := by omega
        have p2 : (2 : Int) < (m2 : Int) := by omega
        have p4 : (4 : Int) ≤ (m2 : Int) := by omega
        have p5 : 4 ≤ m2 := by omega
        have p6 : 0 < m2 := by omega
        have HMT2 := hid hmt
        have HK8 := hid h8
        clear hmt h8
        have HC3 : Hid (ThreeC B o g a n w1) := ⟨q0, q1, q2⟩
        go_upto_region 4 with (fail)
        refine wp_region_till 13 (ThreeC B o g a n) (by kernel_rfl) (HC3.out.drew) (fun hHeld => ?_)
        (refine wpAnyT_take (i := 0) (v := ?_) rfl (by kernel_rfl) (fun _ _ _ h => h) (Or.inl ⟨by kernel_rfl, ?_⟩) (by assumption) ?_; rotate_left; · (intro w hSw; (try dsimp only at hSw); go_split_ands; go_simp; first | done | with_reducible rfl))
        (try simp only [Act.put]); (try simp only [List.getElem_toArray]); (try simp only [List.getElem_cons_succ]); (try simp only [List.getElem_cons_zero]); (try simp only [List.setIfInBounds_toArray]); (try simp only [List.set_cons_succ]); (try simp only [List.set_cons_zero])
        (refine wpAnyT_take (i := 1) (v := ?_) rfl (by kernel_rfl) (fun _ _ _ h => h) (Or.inl ⟨by kernel_rfl, ?_⟩) (by assumption) ?_; rotate_left; · (intro w hSw; (try dsimp only at hSw); go_split_ands; go_simp; first | done | with_reducible rfl))
        (try simp only [Act.put]); (try simp only [List.getElem_toArray]); (try simp only [List.getElem_cons_succ]); (try simp only [List.getElem_cons_zero]); (try simp only [List.setIfInBounds_toArray]); (try simp only [List.set_cons_succ]); (try simp only [List.set_cons_zero])
        (refine wpAnyT_take (i := 2) (v := ?_) rfl (by kernel_rfl) (fun _ _ _ h => h) (Or.inl ⟨by kernel_rfl, ?_⟩) (by assumption) ?_; rotate_left; · (intro w hSw; (try dsimp only at hSw); go_split_ands; go_simp; first | done | with_reducible rfl))
        (try simp only [Act.put]); (try simp only [List.getElem_toArray]); (try simp only [List.getElem_cons_succ]); (try simp only [List.getElem_cons_zero]); (try simp only [List.setIfInBounds_toArray]); (try simp only [List.set_cons_succ]); (try simp only [List.set_cons_zero])
        (refine wpAnyT_take (i := 3) (v := ?_) rfl (by kernel_rfl) (fun _ _ _ h => h) (Or.inl ⟨by kernel_rfl, ?_⟩) (by assumption) ?_; rotate_left; · (intro w hSw; (try dsimp only at hSw); go_split_ands; go_simp; first | done | with_reducible rfl))
        (try simp only [Act.put]); (try simp only [List.getElem_toArray]); (try simp only [List.getElem_cons_succ]); (try simp only [List.getElem_cons_zero]); (try simp only [List.setIfInBounds_toArray]); (try simp only [List.set_cons_succ]); (try simp only [List.set_cons_zero])
        (refine wpAnyT_take (i := 4) (v := ?_) rfl (by kernel_rfl) (fun _ _ _ h => h) (Or.inl ⟨by kernel_rfl, ?_⟩) (by assumption) ?_; rotate_left; · (intro w hSw; (try dsimp only at hSw); go_split_ands; go_simp; first | done | with_reducible rfl))
        (try simp only [Act.put]); (try simp only [List.getElem_toArray]); (try simp only [List.getElem_cons_succ]); (try simp only [List.getElem_cons_zero]); (try simp only [List.setIfInBounds_toArray]); (try simp only [List.set_cons_succ]); (try simp only [List.set_cons_zero])
        (refine wpAnyT_take (i := 5) (v := ?_) rfl (by kernel_rfl) (fun _ _ _ h => h) (Or.inl ⟨by kernel_rfl, ?_⟩) (by assumption) ?_; rotate_left; · (intro w hSw; (try dsimp only at hSw); go_split_ands; go_simp; first | done | with_reducible rfl))
        (try simp only [Act.put]); (try simp only [List.getElem_toArray]); (try simp only [List.getElem_cons_succ]); (try simp only [List.getElem_cons_zero]); (try simp only [List.setIfInBounds_toArray]); (try simp only [List.set_cons_succ]); (try simp only [List.set_cons_zero])
        (refine wpAnyT_take (i := 6) (v := ?_) rfl (by kernel_rfl) (fun _ _ _ h => h) (Or.inl ⟨by kernel_rfl, ?_⟩) (by assumption) ?_; rotate_left; · (intro w hSw; (try dsimp only at hSw); go_split_ands; go_simp; first | done | with_reducible rfl))
        (try simp only [Act.put]); (try simp only [List.getElem_toArray]); (try simp only [List.getElem_cons_succ]); (try simp only [List.getElem_cons_zero]); (try simp only [List.setIfInBounds_toArray]); (try simp only [List.set_cons_succ]); (try simp only [List.set_cons_zero])
        (refine wpAnyT_take (i := 7) (v := ?_) rfl (by kernel_rfl) (fun _ _ _ h => h) (Or.inl ⟨by kernel_rfl, ?_⟩) (by assumption) ?_; rotate_left; · (intro w hSw; (try dsimp only at hSw); go_split_ands; go_simp; first | done | with_reducible rfl))
        (try simp only [Act.put]); (try simp only [List.getElem_toArray]); (try simp only [List.getElem_cons_succ]); (try simp only [List.getElem_cons_zero]); (try simp only [List.setIfInBounds_toArray]); (try simp only [List.set_cons_succ]); (try simp only [List.set_cons_zero])
        (refine wpAnyT_take (i := 8) (v := ?_) rfl (by kernel_rfl) (fun _ _ _ h => h) (Or.inl ⟨by kernel_rfl, ?_⟩) (by assumption) ?_; rotate_left; · (intro w hSw; (try dsimp only at hSw); go_split_ands; go_simp; first | done | with_reducible rfl))
        (try simp only [Act.put]); (try simp only [List.getElem_toArray]); (try simp only [List.getElem_cons_succ]); (try simp only [List.getElem_cons_zero]); (try simp only [List.setIfInBounds_toArray]); (try simp only [List.set_cons_succ]); (try simp only [List.set_cons_zero])
        (refine wpAnyT_take (i := 9) (v := ?_) rfl (by kernel_rfl) (fun _ _ _ h => h) (Or.inl ⟨by kernel_rfl, ?_⟩) (by assumption) ?_; rotate_left; · (intro w hSw; (try dsimp only at hSw); go_split_ands; go_simp; first | done | with_reducible rfl))
        (try simp only [Act.put]); (try simp only [List.getElem_toArray]); (try simp only [List.getElem_cons_succ]); (try simp only [List.getElem_cons_zero]); (try simp only [List.setIfInBounds_toArray]); (try simp only [List.set_cons_succ]); (try simp only [List.set_cons_zero])
        (refine wpAnyT_take (i := 10) (v := ?_) rfl (by kernel_rfl) (fun _ _ _ h => h) (Or.inl ⟨by kernel_rfl, ?_⟩) (by assumption) ?_; rotate_left; · (intro w hSw; (try dsimp only at hSw); go_split_ands; go_simp; first | done | with_reducible rfl))
        (try simp only [Act.put]); (try simp only [List.getElem_toArray]); (try simp only [List.getElem_cons_succ]); (try simp only [List.getElem_cons_zero]); (try simp only [List.setIfInBounds_toArray]); (try simp only [List.set_cons_succ]); (try simp only [List.set_cons_zero])
        (refine wpAnyT_take (i := 11) (v := ?_) rfl (by kernel_rfl) (fun _ _ _ h => h) (Or.inl ⟨by kernel_rfl, ?_⟩) (by assumption) ?_; rotate_left; · (intro w hSw; (try dsimp only at hSw); go_split_ands; go_simp; first | done | with_reducible rfl))
        (try simp only [Act.put]); (try simp only [List.getElem_toArray]); (try simp only [List.getElem_cons_succ]); (try simp only [List.getElem_cons_zero]); (try simp only [List.setIfInBounds_toArray]); (try simp only [List.set_cons_succ]); (try simp only [List.set_cons_zero])
        (refine wpAnyT_one (i := 12) (by kernel_rfl) rfl (fun K hK => ?_); go_simp; refine hK.out _ _ (.inr ?_) (fun hHeld => ?_))
        · exact hHeld.below (below_new _ _)
        replace hHeld := hHeld.resolve_left (by decide)
        clear hK K
        (try simp only [Act.put]); (try simp only [List.getElem_toArray]); (try simp only [List.getElem_cons_succ]); (try simp only [List.getElem_cons_zero]); (try simp only [List.setIfInBounds_toArray]); (try simp only [List.set_cons_succ]); (try simp only [List.set_cons_zero])
        (refine wpAnyT_one (i := 13) (by kernel_rfl) rfl (fun K hK => ?_); obtain ⟨r0, r1, r2⟩ := hHeld; go_simp; refine hK.out _ _ (.inl rfl) (fun _ => ?_))
        clear hK K
        (try simp only [Act.put]); (try simp only [List.getElem_toArray]); (try simp only [List.getElem_cons_succ]); (try simp only [List.getElem_cons_zero]); (try simp only [List.setIfInBounds_toArray]); (try simp only [List.set_cons_succ]); (try simp only [List.set_cons_zero])
        refine wpAnyT_done (by kernel_rfl) ?_ _
        have HV0 : Hid (SlI w1 (.slice (if c2 = 4 then some ⟨B, o, Option.none⟩ else some ⟨B, o + 4, Option.none⟩) (m2 - 4) (c2 - 4)) t) := slI_drop HM.out h4 h5 HH.out 4 p5
        have HO : Hid (OwnN (.slice (if c2 = 4 then some ⟨B, o, Option.none⟩ else some ⟨B, o + 4, Option.none⟩) (m2 - 4) (c2 - 4)) (w.heap.size + 1) w1.heap.size) := by
          intro k q
          refine HO.out k ?_
          by_cases e : c2 = 4
          · rw [if_pos e] at q; exact q
          · rw [if_neg e] at q; exact q
        obtain ⟨A4, hA4⟩ : ∃ A4, (if c2 = 4 then some (⟨B, o, Option.none⟩ : Addr) else some ⟨B, o + 4, Option.none⟩) = A4 := ⟨_, rfl⟩
        obtain ⟨m4, hm4⟩ : ∃ m4, m2 - 4 = m4 := ⟨_, rfl⟩
        obtain ⟨c4, hc4⟩ : ∃ c4, c2 - 4 = c4 := ⟨_, rfl⟩
        rw [hA4, hm4, hc4] at HV0 HO ⊢
        clear hA4 hm4 hc4
        go_upto_region 5 with (fail)
        obtain ⟨b2, hb2⟩ : ∃ b2, w1.heap.size = b2 := ⟨_, rfl⟩
        refine wp_ltc (fun W => Hid (Blk W w.heap.size 29 #[.int .i64 0, .int .i64 0, .int .i64 0, .slice Option.none 0 0] ∧ Blk W b2 29 #[.int .i64 g, .int .i64 a, .int .i64 n, .slice A4 m4 c4] ∧ Below w.heap.size w W ∧ SlI W (.slice A4 m4 c4) t ∧ w1.heap.size ≤ W.heap.size)) ?_ ?_
        · refine ⟨HB1.out.1.keep (below_new _ _).drew HB1.out.1.lt, by rw [← hb2]; exact Blk.new _ _ _, (HB1.out.2.trans ((below_new _ _).mono HB1.out.2.size)).drew, HV0.out.below (below_new _ _).drew, by simp⟩
        rw [hb2] at HO ⊢
        intro W HW
        clear r0 r1 r2 r3 rf q0 q1 q2 q3 HB1 HV0 HC3 hHeld
        have g0 : W.cell? ⟨b2, 0, Option.none⟩ = some (.int .i64 g) := HW.out.2.1.cell 0
        have g1 : W.cell? ⟨b2, 1, Option.none⟩ = some (.int .i64 a) := HW.out.2.1.cell 1
        have g2 : W.cell? ⟨b2, 2, Option.none⟩ = some (.int .i64 n) := HW.out.2.1.cell 2
        have g3 : W.cell? ⟨b2, 3, Option.none⟩ = some (.slice A4 m4 c4) := HW.out.2.1.cell 3
        cases hR : (⟨g, a, n, t⟩ : Sta).right with
        | false =>
          have HR : Hid (decS l = none) := by unfold Hid; rw [HD.out, if_neg (fun e => by rw [hR] at e; cases e.2)]
          go_upto_region 6 with (go_at_call 15; refine (right9_any ⟨g, a, n, t⟩ (.slice A4 m4 c4) W HW.out.2.2.2.1).mono ?_; rintro e w3 ⟨rfl, hb3⟩; rw [hR])
          have HB3 : Hid (Blk w3 w.heap.size 29 #[.int .i64 0, .int .i64 0, .int .i64 0, .slice Option.none 0 0] ∧ Below w.heap.size w w3) := ⟨HW.out.1.keep hb3 HW.out.1.lt, HW.out.2.2.1.trans (hb3.mono HW.out.2.2.1.size)⟩
          have r0 : w3.cell? ⟨w.heap.size, 0, Option.none⟩ = some (.int .i64 0) := HB3.out.1.cell 0
          have r1 : w3.cell? ⟨w.heap.size, 1, Option.none⟩ = some (.int .i64 0) := HB3.out.1.cell 1
          have r2 : w3.cell? ⟨w.heap.size, 2, Option.none⟩ = some (.int .i64 0) := HB3.out.1.cell 2
          have r3 : w3.cell? ⟨w.heap.size, 3, Option.none⟩ = some (.slice Option.none 0 0) := HB3.out.1.cell 3
          have rf : ∀ j, w3.frozen? ⟨w.heap.size, j, Option.none⟩ = false := fun j => HB3.out.1.free j
          clear g0 g1 g2 g3
          go_wp2
          refine bodyPost_ret (v := .tuple #[staV 0 0 0 (.slice Option.none 0 0), .bool false]) (by simp [results, Tryz.results11, go_sem, cell_set_eq9, r0, r1, r2, r3]) rfl ?_
          rw [HR.out]
          refine ⟨rfl, ?_⟩
          iterate 4 (refine Below.setCell ?_ (by simp) _)
          exact HB3.out.2
        | true =>
          have HR : Hid (decS l = some ⟨g, a, n, t⟩) := by
            have h8 := HK8.out
            have := HMT2.out
            unfold Hid
            rw [HD.out, if_pos ⟨by omega, hR⟩]
          go_upto_region 7 with (go_at_call 15; refine (right9_any ⟨g, a, n, t⟩ (.slice A4 m4 c4) W HW.out.2.2.2.1).mono ?_; rintro e w3 ⟨rfl, hb3⟩; rw [hR])
          have HB3 : Hid (Blk w3 w.heap.size 29 #[.int .i64 0, .int .i64 0, .int .i64 0, .slice Option.none 0 0] ∧ Blk w3 b2 29 #[.int .i64 g, .int .i64 a, .int .i64 n, .slice A4 m4 c4] ∧ Below w.heap.size w w3 ∧ SlI w3 (.slice A4 m4 c4) t) := ⟨HW.out.1.keep hb3 HW.out.1.lt, HW.out.2.1.keep hb3 HW.out.2.1.lt, HW.out.2.2.1.trans (hb3.mono HW.out.2.2.1.size), HW.out.2.2.2.1.below hb3⟩
          have HO3 : Hid (OwnN (.slice A4 m4 c4) (w.heap.size + 1) w3.heap.size) := HO.out.mono (Nat.le_refl _) (Nat.le_trans HW.out.2.2.2.2 hb3.size)
          clear g0 g1 g2 g3
          have r0 : w3.cell? ⟨w.heap.size, 0, Option.none⟩ = some (.int .i64 0) := HB3.out.1.cell 0
          have r1 : w3.cell? ⟨w.heap.size, 1, Option.none⟩ = some (.int .i64 0) := HB3.out.1.cell 1
          have r2 : w3.cell? ⟨w.heap.size, 2, Option.none⟩ = some (.int .i64 0) := HB3.out.1.cell 2
          have r3 : w3.cell? ⟨w.heap.size, 3, Option.none⟩ = some (.slice Option.none 0 0) := HB3.out.1.cell 3
          have rf : ∀ j, w3.frozen? ⟨w.heap.size, j, Option.none⟩ = false := fun j => HB3.out.1.free j
          have g0 : w3.cell? ⟨b2, 0, Option.none⟩ = some (.int .i64 g) := HB3.out.2.1.cell 0
          have g1 : w3.cell? ⟨b2, 1, Option.none⟩ = some (.int .i64 a) := HB3.out.2.1.cell 1
          have g2 : w3.cell? ⟨b2, 2, Option.none⟩ = some (.int .i64 n) := HB3.out.2.1.cell 2
          have g3 : w3.cell? ⟨b2, 3, Option.none⟩ = some (.slice A4 m4 c4) := HB3.out.2.1.cell 3
          go_wp2
          refine bodyPost_ret (v := .tuple #[staV g a n (.slice A4 m4 c4), .bool true]) (by simp [results, Tryz.results11, go_sem, cell_set_eq9, r0, r1, r2, r3]) rfl ?_
          rw [HR.out]
          have hne : (Value.slice A4 m4 c4).ownBlock ≠ some w.heap.size := fun e => by have := HO3.out _ e; omega
          refine ⟨_, rfl, ?_, HO3.out.mono (by omega) (by simp), ?_⟩
          · exact (((HB3.out.2.2.2.set hne).set hne).set hne).set hne
          · iterate 4 (refine Below.setCell ?_ (by simp) _)
            exact HB3.out.2.2.1
      · have hd : decS l = none := by rw [HD.out, if_neg (fun e => h8 (by rw [e.1]; omega))]
        have h9 : (k != (m2 : Int) - 4) = true := by simpa using h8
        clear hmt h8
        go_wp2
        refine bodyPost_ret (v := .tuple #[staV 0 0 0 (.slice Option.none 0 0), .bool false]) (by simp [results, Tryz.results11, go_sem, cell_set_eq9, r0, r1, r2, r3]) rfl ?_
        (try rw [hd])
        refine ⟨rfl, ?_⟩
        iterate 4 (refine Below.setCell ?_ (by simp) _)
        exact HB1.out.2
end Go.Proofs.YtofkfafdodhmdaaGreatDoor
