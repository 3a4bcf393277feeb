/- The document's Take and Parts at any bytes. Conditions: the slice holds its bytes, a hundred thousand at most. -/
import Derived.Test.YtfcnobcpnhfgmaaGreatDoorEF
import Derived.Test.YtfcnobcpnhfgmaaGreatDoorDC
namespace Go.Proofs.YtfcnobcpnhfgmaaGreatDoor
open Go.RowKit

theorem cut_sla {w : World} {b off c : Nat} {l : List UInt8} (hc : l.length ≤ c) (hc2 : c ≤ 9223372036854775807) (hh : Holds w b off l) (k n : Nat) (h : k + n ≤ l.length) : SlA w (.slice (some ⟨b, off + k, none⟩) n (c - k)) ((l.drop k).take n) := by
  have hl : ((l.drop k).take n).length = n := by rw [List.length_take, List.length_drop]; omega
  refine ⟨_, c - k, by rw [hl], by rw [hl]; omega, by omega, fun _ => ⟨b, off + k, rfl, fun i hi => ?_⟩, fun h => by cases h⟩
  rw [hl] at hi
  have := (hh.drop k) i (by rw [List.length_drop]; omega)
  rw [this]
  simp only [List.getD_eq_getElem?_getD, List.getElem?_take_of_lt hi]

def TkE (w : World) : Option (Nat × List UInt8) → Ending → World → Prop
  | some p, e, w' => ∃ v, e = .returned (.tuple #[.int .i64 (p.1 : Int), v, .bool true]) ∧ Row w' w.heap.size v p.2 ∧ Below w.heap.size w w'
  | none, e, w' => e = .returned (.tuple #[.int .i64 0, .slice none 0 0, .bool false]) ∧ Below w.heap.size w w'

set_option maxRecDepth 100000 in
set_option maxHeartbeats 2000000 in
theorem reftake3_any (v : Value) (l : List UInt8) (hl : l.length ≤ 1000000) (w : World) (h : SlA w v l) :
    Calls Tryz.prog 56 #[v] w (TkE w (tk l)) := by
  obtain ⟨A, c, rfl, hc1, hc2, hh, _⟩ := h
  have HH := hid hh
  obtain ⟨m, hm⟩ : ∃ m, l.length = m := ⟨_, rfl⟩
  rw [hm] at hl hc1 ⊢
  have HM := hid hm
  clear hm hh
  go_enter Tryz.func56, Tryz.ntmps56
  go_wp2
  go_loopw [5, 6, 7] (fun vn vp vi wr => ∃ (k n : Nat) (N P : Int), k ≤ m ∧ k ≤ 9 ∧ Hid (N = (n : Int) ∧ n < 2 ^ (7 * k) ∧ (k ≤ 8 → P = ((2 ^ (7 * k) : Nat) : Int))) ∧ vn = .int .i64 N ∧ vp = .int .i64 P ∧ vi = .int .i64 k ∧ Hid (tk l = (tkGo (9 - k) k (l.drop k)).map (fun p => (n + 2 ^ (7 * k) * p.1, p.2))) ∧ wr = w) (fun _ _ vi _ => 9 - (intOf vi).toNat)
  case atStart => exact ⟨0, 0, 0, 1, by omega, by omega, ⟨rfl, by decide, fun _ => rfl⟩, rfl, rfl, rfl, by unfold Hid tk; simp, rfl⟩
  case round =>
    obtain ⟨k, n, N, P, hk, hk9, HK, rfl, rfl, rfl, HT, rfl⟩ := hrel
    by_cases hlt : k < m
    · by_cases h9 : k < 9
      · have hkl : k < l.length := by rw [HM.out]; exact hlt
        obtain ⟨b, off, rfl, hc⟩ := HH.out (by omega)
        have hb := hc k hkl
        rw [List.getD_eq_getElem?_getD, List.getElem?_eq_getElem hkl, Option.getD_some] at hb
        obtain ⟨x, hx⟩ : ∃ x : Int, (((l[k]).toNat : Nat) : Int) = x := ⟨_, rfl⟩
        rw [hx] at hb
        have HX := hid hx
        have x0 : 0 ≤ x := by omega
        have x1 : x < 256 := by have := u8_lt l[k]; omega
        have HV : Hid (wrap64 (N + wrap64 (x % 128 * P)) = ((n + 2 ^ (7 * k) * (l[k].toNat % 128) : Nat) : Int) ∧ n + 2 ^ (7 * k) * (l[k].toNat % 128) < 2 ^ (7 * (k + 1)) ∧ (k + 1 ≤ 8 → wrap64 (P * 128) = ((2 ^ (7 * (k + 1)) : Nat) : Int))) := by
          obtain ⟨q1, q2, q3⟩ := HK.out
          have q3 := q3 (by omega)
          have hp : (2 : Nat) ^ (7 * k) ≤ 2 ^ 56 := Nat.pow_le_pow_right (by decide) (by omega)
          have hmm : 2 ^ (7 * k) * (l[k].toNat % 128) ≤ 2 ^ (7 * k) * 127 := Nat.mul_le_mul (Nat.le_refl _) (by omega)
          have e0 : x % 128 * P = ((2 ^ (7 * k) * (l[k].toNat % 128) : Nat) : Int) := by
            rw [q3, ← HX.out]
            push_cast
            rw [Int.mul_comm]
          have e7 : 2 ^ (7 * (k + 1)) = 2 ^ (7 * k) * 128 := by rw [show 7 * (k + 1) = 7 * k + 7 by omega, Nat.pow_add]
          have e1 : wrap64 (x % 128 * P) = ((2 ^ (7 * k) * (l[k].toNat % 128) : Nat) : Int) := by rw [e0]; unfold wrap64; omega
          refine ⟨?_, by rw [e7]; omega, fun h8 => ?_⟩
          · rw [e1, q1]; unfold wrap64; omega
          · have hp2 : (2 : Nat) ^ (7 * k) ≤ 2 ^ 49 := Nat.pow_le_pow_right (by decide) (by omega)
            rw [e7, q3]; unfold wrap64; omega
        have HD : Hid (tk l = (tkGo (9 - (k + 1) + 1) k (l[k] :: l.drop (k + 1))).map (fun p => (n + 2 ^ (7 * k) * p.1, p.2))) := by
          unfold Hid
          rw [HT.out, show 9 - (k + 1) + 1 = 9 - k by omega, List.drop_eq_getElem_cons hkl]
        have HY := hid hc
        clear hx hc HT HK
        by_cases hx128 : x < 128
        · by_cases hz : 0 < k ∧ x = 0
          · obtain ⟨hk0, rfl⟩ := hz
            go_wp2
            refine bodyPost_ret (results_tmp3 rfl _ _ _) rfl ?_
            have e : tk l = none := by
              have := HX.out
              rw [HD.out, tkGo, if_pos (by omega), if_pos (by omega)]; rfl
            rw [e]
            exact ⟨rfl, Below.refl _ _⟩
          · have hz2 : k < 1 ∨ ¬ x = 0 := by omega
            have e : Hid (tk l = some (n + 2 ^ (7 * k) * (l[k].toNat % 128), l.drop (k + 1))) := by
              have := HX.out
              unfold Hid
              rw [HD.out, tkGo, if_pos (by omega), if_neg (by omega)]
              simp only [Option.map_some, Option.some.injEq, Prod.mk.injEq, and_true]
              rw [Nat.mod_eq_of_lt (by omega : l[k].toNat < 128)]
            by_cases hkc : k + 1 < c
            · have HC : Hid (Calls Tryz.prog 58 #[.slice (some ⟨b, off + (k + 1), none⟩) (m - (k + 1)) (c - (k + 1))] wr fun e w' => ∃ v', e = .returned v' ∧ Row w' wr.heap.size v' (l.drop (k + 1)) ∧ Below wr.heap.size wr w') := by
                have q := cut_sla (by rw [HM.out]; exact hc1) hc2 HY.out (k + 1) (m - (k + 1)) (by rw [HM.out]; omega)
                rw [List.take_of_length_le (by rw [List.length_drop, HM.out]; omega)] at q
                exact copy_any _ (l.drop (k + 1)) (by rw [List.length_drop, HM.out]; omega) wr q
              rcases hz2 with hz2 | hz2
              all_goals
                go_wp2_with (go_at_call 58; refine HC.out.mono ?_; rintro e w1 ⟨v', rfl, hR, hb1⟩)
                all_goals
                  refine bodyPost_ret (results_tmp3 rfl _ _ _) rfl ?_
                  rw [e.out]
                  exact ⟨v', congrArg (fun z => Ending.returned (.tuple #[.int .i64 z, v', .bool true])) HV.out.1, hR, hb1⟩
            · obtain rfl : c = k + 1 := by omega
              obtain rfl : m = k + 1 := by omega
              have HC : Hid (Calls Tryz.prog 58 #[.slice (some ⟨b, off, none⟩) 0 0] wr fun e w' => ∃ v', e = .returned v' ∧ Row w' wr.heap.size v' (l.drop (k + 1)) ∧ Below wr.heap.size wr w') := by
                have e2 : l.drop (k + 1) = [] := List.drop_eq_nil_of_le (by rw [HM.out]; omega)
                rw [e2]
                exact copy_any _ [] (by simp) wr ⟨_, 0, rfl, by simp, by omega, fun h => absurd h (by simp), fun h => by cases h⟩
              rcases hz2 with hz2 | hz2
              all_goals
                go_wp2_with (go_at_call 58; refine HC.out.mono ?_; rintro e w1 ⟨v', rfl, hR, hb1⟩)
                all_goals
                  refine bodyPost_ret (results_tmp3 rfl _ _ _) rfl ?_
                  rw [e.out]
                  exact ⟨v', congrArg (fun z => Ending.returned (.tuple #[.int .i64 z, v', .bool true])) HV.out.1, hR, hb1⟩
        · go_wp2
          go_roundw
          case rel =>
            have h3 := HV.out
            refine ⟨k + 1, n + 2 ^ (7 * k) * (l[k].toNat % 128), _, _, by omega, by omega, ⟨h3.1, h3.2.1, h3.2.2⟩, rfl, rfl, by go_num, ?_, trivial⟩
            unfold Hid
            have := HX.out
            rw [HD.out, tkGo, if_neg (by omega), Option.map_map]
            congr 1
            funext p
            simp only [Function.comp, Prod.mk.injEq, and_true]
            rw [show 7 * (k + 1) = 7 * k + 7 by omega, Nat.pow_add, Nat.mul_add, Nat.mul_assoc, Nat.add_assoc]
          case measure => simp [intOf]; omega
      · have e : tk l = none := by
          rw [HT.out, show 9 - k = 0 by omega]; rfl
        go_wp2
        refine bodyPost_ret (results_tmp3 rfl _ _ _) rfl ?_
        rw [e]
        exact ⟨rfl, Below.refl _ _⟩
    · have e : tk l = none := by
        rw [HT.out, List.drop_eq_nil_of_le (by have := HM.out; omega)]
        cases 9 - k <;> rfl
      go_wp2
      refine bodyPost_ret (results_tmp3 rfl _ _ _) rfl ?_
      rw [e]
      exact ⟨rfl, Below.refl _ _⟩

theorem RowL.new3 (w : World) (B : Nat) (hB : B ≤ w.heap.size) : RowL (w.alloc (.cells #[] 30)) B (.slice (some ⟨w.heap.size, 0, Option.none⟩) 0 0) [] :=
  ⟨[], ⟨rfl, .inr ⟨w.heap.size, 0, #[], rfl, hB, heap_alloc_new w _, Nat.le_refl _, by unfold maxLen; simp, by simp, by simp⟩⟩, fun i x h => by simp at h⟩

section
variable {ops : Array Oper} {rest : List Oper} {o : Oper} {a : Act} {Q : Exit → Act → World → Prop}
/-- append of one row to a list of the call's own; every row of the call's own stands. -/
theorem wpList_append_row3 (hgd : o.guard = Option.none) (s x : Operand)
    (ho : o.op = .call { callee := .builtin .append, args := #[s, x], argTypes := #[79, 79] })
    (w : World) (base : Nat) (v : Value) (xs : List (List UInt8)) (hs : a.eval s = v) (hown : RowL w base v xs)
    (G : Nat) (c : Nat) (u : Value) (y : List UInt8) (hx : a.eval x = .slice (some ⟨G, 0, Option.none⟩) 1 c) (hc : w.cell? ⟨G, 0, Option.none⟩ = some u) (hu : Row w base u y)
    (hlen : xs.length ≤ 1000000) (hbase : base ≤ w.heap.size)
    (h : ∀ v' w', RowL w' base v' (xs ++ [y]) → Below base w w' → (∀ q z, Row w base q z → Row w' base q z) → wpList Tryz.prog ops Q rest (a.put o.dst v') w') : wpList Tryz.prog ops Q (o :: rest) a w := by
  obtain ⟨i0, hi, hz0, hz1, hz2⟩ := info_parts info_row
  obtain ⟨vs, how, hr⟩ := hown
  have hvl : vs.length = xs.length := by have := how.1; omega
  refine wpList_append_own w hgd s x 79 ho base 30 i0 (.slice Option.none 0 0) 1 24 Tryz.underlying79 hi hz0 hz1 hz2 rfl (by decide) v xs.length vs hs how ⟨G, 0, Option.none⟩ 1 c [u] hx rfl ?_ ?_ (by unfold maxLen; omega) (by omega) hbase ?_
  · intro j e he
    match j, he with
    | 0, he => simp at he; subst he; rw [add_zero_off]; exact hc
    | j + 1, he => simp at he
  · intro e he
    have : e = u := by simpa using he
    subst this
    rcases hu.2 with ⟨rfl, _⟩ | ⟨g, cap, cur, rfl, _⟩ <;> rfl
  · intro v' w' h1 h2 _
    refine h v' w' ⟨vs ++ [u], by rw [List.length_append]; exact h1, fun i x hx => ?_⟩ ((Below.refl _ _).grown h2 hbase fun k hk => (World.ownsRow.lt how k hk).1) (fun q z hq => hq.grown h2 (row_ne_list hq how))
    by_cases hi' : i < xs.length
    · rw [List.getElem?_append_left hi'] at hx
      obtain ⟨u', hu', hR⟩ := hr i x hx
      exact ⟨u', by rw [List.getElem?_append_left (by omega)]; exact hu', hR.grown h2 (row_ne_list hR how)⟩
    · rw [List.getElem?_append_right (by omega)] at hx
      have hi0 : i - xs.length = 0 := by
        rcases Nat.eq_zero_or_pos (i - xs.length) with e | e
        · exact e
        · rw [List.getElem?_eq_none (by simp; omega)] at hx; cases hx
      rw [hi0] at hx
      have ey : y = x := by simpa using hx
      subst ey
      exact ⟨u, by rw [List.getElem?_append_right (by omega), hvl, hi0]; rfl, hu.grown h2 (row_ne_list hu how)⟩
end

def lenOf3 : Value → Nat
  | .slice _ n _ => n
  | _ => 0


theorem row_form3 {w : World} {B : Nat} {v : Value} {l : List UInt8} (h : Row w B v l) : (v = .slice none 0 0 ∧ l = []) ∨ ∃ g c, v = .slice (some ⟨g, 0, none⟩) l.length c ∧ l.length ≤ c ∧ c ≤ 9223372036854775807 := by
  obtain ⟨A, c, e, h1, h2, h3, h4⟩ := h.sla
  obtain ⟨_, h5⟩ := h
  rcases h5 with ⟨rfl, hz⟩ | ⟨g, cap, cur, e', _⟩
  · exact .inl ⟨rfl, List.eq_nil_of_length_eq_zero hz⟩
  · rw [e] at e'
    injection e' with e1 e2 e3
    subst e1
    exact .inr ⟨g, c, e, h1, h2⟩

/-- What is left stands in a row of the call's own. -/
def RestP (wr : World) (B : Nat) (v : Value) (t : List UInt8) : Prop := ∃ V L, Row wr B V L ∧ ∀ W, Row W B V L → SlA W v t
theorem RestP.sla {wr : World} {B : Nat} {v : Value} {t : List UInt8} (h : RestP wr B v t) : SlA wr v t := by
  obtain ⟨V, L, h1, h2⟩ := h
  exact h2 wr h1
def PInv (w : World) (n0 : Nat) (r0 : List UInt8) (vr vo vi : Value) (wr : World) : Prop :=
  ∃ (i : Nat) (ls : List (List UInt8)) (t : List UInt8) (A : Option Addr) (c : Nat), i ≤ n0 ∧ vi = .int .i64 i ∧ vr = .slice A t.length c ∧ Hid (RestP wr w.heap.size vr t) ∧ Hid (ptM n0 r0 = (ptM (n0 - i) t).map (fun p => (ls ++ p.1, p.2)) ∧ i + t.length ≤ r0.length ∧ ls.length + t.length ≤ r0.length) ∧ RowL wr w.heap.size vo ls ∧ Below w.heap.size w wr

set_option maxRecDepth 100000 in
set_option maxHeartbeats 4000000 in
theorem refparts_any (v : Value) (l : List UInt8) (hl : l.length ≤ 100000) (w : World) (h : SlA w v l) :
    Calls Tryz.prog 74 #[v] w (PaEnd l w) := by
  have HK : Hid (∀ (W : World) (u : Value) (t : List UInt8), t.length ≤ 100000 → SlA W u t → Calls Tryz.prog 56 #[u] W (TkE W (tk t))) := fun W u t ht hu => reftake3_any u t (by omega) W hu
  have HT := HK.out w v l hl h
  cases ht : tk l with
  | none =>
    rw [ht] at HT
    have HT := hid HT
    have HE : Hid (partsM l = none) := by unfold Hid partsM; rw [ht]
    clear ht h HK
    go_enter Tryz.func74, Tryz.ntmps74
    go_wp2_with (go_at_call 56; refine HT.out.mono ?_; rintro e w1 ⟨rfl, hb1⟩)
    go_loopw [5, 7, 8] (fun _ _ vi wr => vi = .int .i64 0 ∧ Below w.heap.size w wr) (fun _ _ _ _ => 0)
    case atStart => exact ⟨rfl, hb1.alloc hb1.size _⟩
    case round =>
      obtain ⟨rfl, hb⟩ := hrel
      go_wp2
      go_ret2
      unfold PaEnd; rw [HE.out]
      exact ⟨hb, rfl⟩
  | some p =>
    obtain ⟨n0, r0⟩ := p
    rw [ht] at HT
    have HT := hid HT
    have hr0 : r0.length < l.length := tk_less ht
    have HPM : Hid (partsM l = match ptM n0 r0 with | some (ls, []) => some ls | _ => none) := by unfold Hid partsM; rw [ht]; rfl
    clear ht h
    go_enter Tryz.func74, Tryz.ntmps74
    go_wp2_with (go_at_call 56; refine HT.out.mono ?_; rintro e w1 ⟨v0, rfl, hR0, hb1⟩; obtain ⟨A0, c0, rfl, _⟩ := hR0.sla)
    go_loopw [5, 7, 8] (fun vr vo vi wr => PInv w n0 r0 vr vo vi wr) (fun vr _ _ _ => lenOf3 vr)
    case atStart =>
      exact ⟨0, [], r0, A0, c0, Nat.zero_le _, rfl, rfl, ⟨_, _, hR0.alloc _, fun W h => h.sla⟩, ⟨by simp, by simp, by simp⟩, RowL.new3 w1 _ hb1.size, hb1.alloc hb1.size _⟩
    case round =>
      obtain ⟨i, ls, t, A, c, hi, rfl, rfl, HR, HQ, hL, hb⟩ := hrel
      obtain ⟨A5, c5, e5⟩ := hL.len
      subst e5
      have HL := hid hL
      obtain ⟨z, hz⟩ : ∃ z, t.length = z := ⟨_, rfl⟩
      rw [hz] at HR ⊢
      have HZ := hid hz
      have hbs := hb.size
      have hib : i ≤ 200000 := by have := HQ.out.2.1; omega
      by_cases hin : i < n0
      · have hLk := HK.out wr (.slice A z c) t (by have := HQ.out.2.1; omega) HR.out.sla
        obtain ⟨s, hs⟩ : ∃ s, n0 - i = s + 1 := ⟨n0 - i - 1, by omega⟩
        cases htk : tk t with
        | none =>
          rw [htk] at hLk
          have hLk := hid hLk
          have HE : Hid (partsM l = none) := by
            unfold Hid
            rw [HPM.out, HQ.out.1, hs, ptM_none htk]
            rfl
          clear htk hL hs hz
          go_wp2_with (go_at_call 56; refine hLk.out.mono ?_; rintro e w2 ⟨rfl, hb2⟩)
          go_ret2
          unfold PaEnd; rw [HE.out]
          exact ⟨hb.trans (hb2.mono hbs), rfl⟩
        | some p =>
          obtain ⟨k, r⟩ := p
          rw [htk] at hLk
          have hLk := hid hLk
          have hrt : r.length < t.length := tk_less htk
          by_cases hk : k ≤ r.length
          · have HQ2 : Hid (ptM n0 r0 = (ptM (n0 - (i + 1)) (r.drop k)).map (fun p => ((ls ++ [r.take k]) ++ p.1, p.2)) ∧ i + 1 + (r.drop k).length ≤ r0.length ∧ (ls ++ [r.take k]).length + (r.drop k).length ≤ r0.length ∧ (r.drop k).length < z) := by
              obtain ⟨q1, q2, q3⟩ := HQ.out
              refine ⟨?_, ?_, ?_, ?_⟩
              · rw [q1, hs, ptM_some htk hk, show n0 - (i + 1) = s by omega, Option.map_map]
                congr 1
                funext p
                simp
              · rw [List.length_drop]; omega
              · rw [List.length_drop, List.length_append, List.length_singleton]; omega
              · rw [List.length_drop]; omega
            have HXL : Hid (ls.length ≤ 1000000) := by have := HQ.out.2.2; unfold Hid; omega
            have hrl : r.length ≤ 100000 := by have := HQ.out.2.1; omega
            obtain ⟨m, hm⟩ : ∃ m, r.length = m := ⟨_, rfl⟩
            have HM := hid hm
            rw [hm] at hk hrl
            obtain ⟨xk, hxk⟩ : ∃ xk, r.take k = xk := ⟨_, rfl⟩
            have HXK := hid hxk
            rw [hxk] at HQ2
            clear hxk
            have hdk : Hid ((r.drop k).length = m - k) := by unfold Hid; rw [List.length_drop, hm]
            clear htk hL hs hz hrt hm
            go_upto_region 9 with (go_at_call 56; refine hLk.out.mono ?_; rintro e w2 ⟨v1, rfl, hR1, hb2⟩; obtain ⟨A1, c1, e1, _⟩ := hR1.sla; rw [HM.out] at e1; subst e1)
            have HR1 := hid (hR1.le hbs)
            have hbs2 : w.heap.size ≤ w2.heap.size := Nat.le_trans hbs hb2.size
            rcases row_form3 hR1 with ⟨e1, e2⟩ | ⟨g, c2, e1, e2, e3⟩
            · injection e1 with e1 e3 e4
              subst e1 e3 e4
              subst e2
              obtain rfl : k = 0 := by omega
              obtain rfl : [] = xk := HXK.out
              have HCp : Hid (Calls Tryz.prog 58 #[.slice none 0 0] w2 fun e w' => ∃ v', e = .returned v' ∧ Row w' w2.heap.size v' [] ∧ Below w2.heap.size w2 w') := copy_any _ [] (by simp) w2 ⟨none, 0, rfl, by simp, by omega, fun h => absurd h (by simp), fun _ => rfl⟩
              clear hR1
              go_wp2_with (first
                | (go_at_call 58; refine HCp.out.mono ?_; rintro e w3 ⟨v3, rfl, hR3, hb3⟩; have HR3 := hid (hR3.le hbs2); obtain ⟨A3, c3, rfl, _⟩ := hR3.sla)
                | (at_builtin; refine wpList_append_row3 rfl (.tmp 41) (.tmp 46) rfl _ w.heap.size _ ls rfl (((HL.out.below hb2).below hb3).below (below_new w3 _)) w3.heap.size 1 _ [] rfl (cell_one _ _ _) (HR3.out.alloc _) HXL.out (by have := hb3.size; simp; omega) ?_; intro v' w' hL' hb' hk'))
              go_roundw
              case rel =>
                exact ⟨i + 1, ls ++ [[]], [], none, 0, by omega, by go_num, rfl, ⟨_, _, Row.none _ _, fun W h => h.sla⟩, ⟨HQ2.out.1, HQ2.out.2.1, HQ2.out.2.2.1⟩, hL', ((hb.trans (hb2.mono hbs)).trans ((hb3.mono hbs2).trans ((below_new w3 _).mono (Nat.le_trans hbs2 hb3.size)))).trans hb'⟩
              case measure => have := HQ2.out.2.2.2; simp [lenOf3] at *; omega
            · rw [HM.out] at e1 e2
              injection e1 with e1 _ e4
              subst e1 e4
              have HCp : Hid (Calls Tryz.prog 58 #[.slice (some ⟨g, 0, none⟩) k c1] w2 fun e w' => ∃ v', e = .returned v' ∧ Row w' w2.heap.size v' xk ∧ Below w2.heap.size w2 w') := by
                rw [← HXK.out]
                refine copy_any _ (r.take k) (by rw [List.length_take]; omega) w2 ?_
                obtain ⟨A', c', q1, q2, q3, q4, q5⟩ := hR1.sla
                injection q1 with q1 _ q6
                subst q1 q6
                refine ⟨_, c1, by rw [List.length_take, HM.out, Nat.min_eq_left hk], by rw [List.length_take]; omega, q3, fun h0 => ?_, fun h => by cases h⟩
                rw [List.length_take] at h0
                obtain ⟨b', o', q7, hh⟩ := q4 (by rw [HM.out]; omega)
                refine ⟨b', o', q7, fun i hi => ?_⟩
                rw [List.length_take] at hi
                rw [hh i (by omega)]
                simp only [List.getD_eq_getElem?_getD, List.getElem?_take_of_lt (show i < k by omega)]
              have HRS : Hid (∀ W, Row W w.heap.size (.slice (some ⟨g, 0, none⟩) m c1) r → (k < c1 → SlA W (.slice (some ⟨g, k, none⟩) (m - k) (c1 - k)) (r.drop k)) ∧ (c1 ≤ k → SlA W (.slice (some ⟨g, 0, none⟩) 0 0) (r.drop k))) := fun W hW => by
                obtain ⟨A', c', q1, q2, q3, q4, q5⟩ := hW.sla
                injection q1 with q1 _ q6
                subst q1 q6
                refine ⟨fun hlt => ⟨_, c1 - k, by rw [hdk.out], by rw [hdk.out]; omega, by omega, fun h0 => ?_, fun h => by cases h⟩, fun hle => ?_⟩
                · rw [hdk.out] at h0
                  obtain ⟨b', o', q7, hh⟩ := q4 (by rw [HM.out]; omega)
                  injection q7 with q7
                  injection q7 with q7 q8
                  subst q7 q8
                  exact ⟨g, k, rfl, by have := hh.drop k; rwa [Nat.zero_add] at this⟩
                · have e : r.drop k = [] := List.drop_eq_nil_of_le (by rw [HM.out]; omega)
                  rw [e]
                  exact ⟨_, 0, rfl, by simp, by omega, fun h => absurd h (by simp), fun h => by cases h⟩
              clear hR1
              by_cases hc : k < c1
              · go_wp2_with (first
                  | (go_at_call 58; refine HCp.out.mono ?_; rintro e w3 ⟨v3, rfl, hR3, hb3⟩; have HR3 := hid (hR3.le hbs2); obtain ⟨A3, c3, rfl, _⟩ := hR3.sla)
                  | (at_builtin; refine wpList_append_row3 rfl (.tmp 41) (.tmp 46) rfl _ w.heap.size _ ls rfl (((HL.out.below hb2).below hb3).below (below_new w3 _)) w3.heap.size 1 _ xk rfl (cell_one _ _ _) (HR3.out.alloc _) HXL.out (by have := hb3.size; simp; omega) ?_; intro v' w' hL' hb' hk'))
                go_roundw
                case rel =>
                  exact ⟨i + 1, ls ++ [xk], r.drop k, some ⟨g, k, none⟩, c1 - k, by omega, by go_num, by rw [hdk.out], ⟨_, _, hk' _ _ ((HR1.out.keep hb3 HR1.out.block_lt).alloc _), fun W h => (HRS.out W h).1 hc⟩, ⟨HQ2.out.1, HQ2.out.2.1, HQ2.out.2.2.1⟩, hL', ((hb.trans (hb2.mono hbs)).trans ((hb3.mono hbs2).trans ((below_new w3 _).mono (Nat.le_trans hbs2 hb3.size)))).trans hb'⟩
                case measure => have := HQ2.out.2.2.2; have := hdk.out; simp [lenOf3] at *; omega
              · obtain rfl : c1 = k := by omega
                obtain rfl : m = c1 := by omega
                go_wp2_with (first
                  | (go_at_call 58; refine HCp.out.mono ?_; rintro e w3 ⟨v3, rfl, hR3, hb3⟩; have HR3 := hid (hR3.le hbs2); obtain ⟨A3, c3, rfl, _⟩ := hR3.sla)
                  | (at_builtin; refine wpList_append_row3 rfl (.tmp 41) (.tmp 46) rfl _ w.heap.size _ ls rfl (((HL.out.below hb2).below hb3).below (below_new w3 _)) w3.heap.size 1 _ xk rfl (cell_one _ _ _) (HR3.out.alloc _) HXL.out (by have := hb3.size; simp; omega) ?_; intro v' w' hL' hb' hk'))
                go_roundw
                case rel =>
                  exact ⟨i + 1, ls ++ [xk], r.drop m, some ⟨g, 0, none⟩, 0, by omega, by go_num, by rw [hdk.out, Nat.sub_self], ⟨_, _, hk' _ _ ((HR1.out.keep hb3 HR1.out.block_lt).alloc _), fun W h => (HRS.out W h).2 (Nat.le_refl _)⟩, ⟨HQ2.out.1, HQ2.out.2.1, HQ2.out.2.2.1⟩, hL', ((hb.trans (hb2.mono hbs)).trans ((hb3.mono hbs2).trans ((below_new w3 _).mono (Nat.le_trans hbs2 hb3.size)))).trans hb'⟩
                case measure => have := HQ2.out.2.2.2; have := hdk.out; simp [lenOf3] at *; omega
          · have HE : Hid (partsM l = none) := by
              unfold Hid
              rw [HPM.out, HQ.out.1, hs, ptM_long htk hk]
              rfl
            obtain ⟨m, hm⟩ : ∃ m, r.length = m := ⟨_, rfl⟩
            have HM := hid hm
            rw [hm] at hk
            have hk2 : m < k := by omega
            clear htk hL hs hz hk hrt hm
            go_wp2_with (go_at_call 56; refine hLk.out.mono ?_; rintro e w2 ⟨v1, rfl, hR1, hb2⟩; obtain ⟨A1, c1, e1, _⟩ := hR1.sla; rw [HM.out] at e1; subst e1)
            go_ret2
            unfold PaEnd; rw [HE.out]
            exact ⟨hb.trans (hb2.mono hbs), rfl⟩
      · obtain rfl : i = n0 := by omega
        by_cases hz0 : 0 < z
        · have HE : Hid (partsM l = none) := by
            unfold Hid
            rw [HPM.out, HQ.out.1, Nat.sub_self]
            cases t with
            | nil => have := HZ.out; simp at this; omega
            | cons x t => rfl
          clear hL hz
          go_wp2
          go_ret2
          unfold PaEnd; rw [HE.out]
          exact ⟨hb, rfl⟩
        · have hzz : z = 0 := by omega
          subst hzz
          have HE : Hid (partsM l = some ls) := by
            unfold Hid
            have : t = [] := List.eq_nil_of_length_eq_zero HZ.out
            rw [HPM.out, HQ.out.1, Nat.sub_self, this]
            show (match (some (ls ++ [], []) : Option (List (List UInt8) × List UInt8)) with | some (ls, []) => some ls | _ => none) = _
            simp
          clear hL hz
          go_wp2
          go_ret2
          unfold PaEnd; rw [HE.out]
          exact ⟨hb, _, rfl, HL.out.lsb⟩
end Go.Proofs.YtfcnobcpnhfgmaaGreatDoor
