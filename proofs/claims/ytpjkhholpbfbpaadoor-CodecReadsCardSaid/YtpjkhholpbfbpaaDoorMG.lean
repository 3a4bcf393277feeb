/- Several texts in one: DC EI CS EJ. Conditions: as each theorem names them. -/
import Derived.Test.YtpjkhholpbfbpaaDoorMI
import Derived.Test.YtpjkhholpbfbpaaDoorCR
import Derived.Test.YtpjkhholpbfbpaaDoorMJ
import Derived.Test.YtpjkhholpbfbpaaDoorEH
/- codec.Parts at any bytes: the list whose bytes they are, or none. Conditions: the slice holds the bytes, a hundred thousand at most. -/
namespace Go.Proofs.YtpjkhholpbfbpaaDoor
open Go.RowKit

def PClo (rb : Nat) (l : List UInt8) (w : World) (e : Ending) (w' : World) : Prop :=
  Below rb w w' ∧ match partsM l with
    | some ls => e = .returned (.tuple #[]) ∧ ∃ A c, w'.cell? ⟨rb + 1, 0, none⟩ = some (.slice A ls.length c) ∧ LsB w' (.slice A ls.length c) ls
    | none => e = otherP ∧ w'.cell? ⟨rb + 1, 0, none⟩ = some (.slice none 0 0)

set_option maxRecDepth 100000 in
set_option maxHeartbeats 2000000 in
theorem partsclo_any (rb : Nat) (l : List UInt8) (hl : l.length ≤ 100000) (w : World) (h : St w rb l) (hn : w.cell? ⟨rb + 1, 0, none⟩ = some (.slice none 0 0)) (hf : w.frozen? ⟨rb + 1, 0, none⟩ = false) :
    Calls Tryd.prog 43 #[.pointer (some ⟨rb, 0, none⟩), .pointer (some ⟨rb + 1, 0, none⟩)] w (PClo rb l w) := by
  have HN := rlist_any rb l hl w h
  have hlt := h.2.2
  have hlt2 := cell_lt hn
  unfold PClo
  cases hk : partsM l with
  | none =>
    have HN : Hid (Calls Tryd.prog 44 #[.pointer (some ⟨rb, 0, none⟩)] w fun e w' => But w.heap.size rb w w' ∧ e = otherP) := HN.mono fun e w' h => by
      unfold LiEnd at h
      rwa [hk] at h
    clear h hk
    go_enter Tryd.func43, Tryd.ntmps43
    go_wp2_with (go_at_call 44; refine HN.out.mono ?_; rintro e w1 ⟨hb, rfl⟩)
    refine ⟨rfl, ?_⟩
    exact ⟨(hb.mono (Nat.le_of_lt hlt)).below (Nat.le_refl _), rfl, (hb.cell hlt2 (by omega) 0).trans hn⟩
  | some ls =>
    have HN : Hid (Calls Tryd.prog 44 #[.pointer (some ⟨rb, 0, none⟩)] w fun e w' => But w.heap.size rb w w' ∧ ∃ A c, e = .returned (.slice A ls.length c) ∧ RowL w' w.heap.size (.slice A ls.length c) ls) := HN.mono fun e w' h => by
      unfold LiEnd at h
      rw [hk] at h
      obtain ⟨hb, v, he, hR⟩ := h
      obtain ⟨A, c, rfl⟩ := hR.len
      exact ⟨hb, A, c, he, hR⟩
    clear h hk
    obtain ⟨n, hnl⟩ : ∃ n, ls.length = n := ⟨_, rfl⟩
    rw [hnl] at HN
    have HNL := hid hnl
    clear hnl
    go_enter Tryd.func43, Tryd.ntmps43
    go_wp2_with (go_at_call 44; refine HN.out.mono ?_; rintro e w1 ⟨hb, A, c, rfl, hR⟩; have hc1 := (hb.cell hlt2 (by omega) 0).trans hn; have hf1 := (hb.frozen hlt2 (by omega) 0).trans hf)
    go_end0
    refine ⟨((hb.mono (Nat.le_of_lt hlt)).below (Nat.le_refl _)).setCell (p := ⟨rb + 1, 0, none⟩) (by simp) _, rfl, A, c, ?_, ?_⟩
    · rw [HNL.out]; exact World.cell?_setCell_same' _ _ _ (by rw [hc1]; rfl)
    · rw [HNL.out]
      exact (hR.but ((But.refl w1.heap.size (rb + 1) w1).setCell 0 _) (by omega)).lsb

set_option maxHeartbeats 1000000 in
/-- holds over Parts' closure: it ended. -/
theorem holdsP_yes (rb : Nat) (w : World) (Q : World → Prop) (H : Calls Tryd.prog 43 #[.pointer (some ⟨rb, 0, none⟩), .pointer (some ⟨rb + 1, 0, none⟩)] w fun e w' => e = .returned (.tuple #[]) ∧ Q w') :
    Calls Tryd.prog 34 #[.func (.func 43) #[] #[.pointer (some ⟨rb, 0, none⟩), .pointer (some ⟨rb + 1, 0, none⟩)]] w fun e w' => e = .returned (.bool true) ∧ Q w' := by
  have H := hid H
  go_enter_defers Tryd.func34, Tryd.ntmps34
  go_wp2_with (go_at_call 43; refine H.out.mono ?_; rintro e w1 ⟨rfl, hQ⟩)
  refine leaves_cons (f := 67) (args := #[]) (by simp) (by simp [go_sem]) ?_
  refine (catch_none _).mono ?_
  rintro e u' w2 ⟨rfl, rfl, rfl⟩
  simp only [Leaves, settle, results, Tryd.results34, go_sem]
  simp
  exact hQ

set_option maxHeartbeats 1000000 in
/-- holds over Parts' closure: it met something else. -/
theorem holdsP_no (rb : Nat) (w : World) (Q : World → Prop) (hQ : ∀ w1 w2, Q w1 → Below w1.heap.size w1 w2 → Q w2) (H : Calls Tryd.prog 43 #[.pointer (some ⟨rb, 0, none⟩), .pointer (some ⟨rb + 1, 0, none⟩)] w fun e w' => e = otherP ∧ Q w') :
    Calls Tryd.prog 34 #[.func (.func 43) #[] #[.pointer (some ⟨rb, 0, none⟩), .pointer (some ⟨rb + 1, 0, none⟩)]] w fun e w' => e = .returned (.bool false) ∧ Q w' := by
  have H := hid H
  have HQ := hid hQ
  clear hQ
  go_enter_defers Tryd.func34, Tryd.ntmps34
  go_wp2_with (go_at_call 43; refine H.out.mono ?_; rintro e w1 ⟨rfl, hq⟩)
  refine leaves_cons (f := 67) (args := #[]) (by simp) (by simp [go_sem]) ?_
  refine (catch_other [] _).mono ?_
  rintro e u' w2 ⟨rfl, rfl, hb2⟩
  simp [Leaves, settle, results, Tryd.results34, go_sem]
  exact HQ.out _ _ hq hb2

/-- What Parts answers. -/
def PaEnd (l : List UInt8) (w : World) (e : Ending) (w' : World) : Prop :=
  Below w.heap.size w w' ∧ match partsM l with
    | some ls => ∃ v, e = .returned (.tuple #[v, .bool true]) ∧ LsB w' v ls
    | none => e = .returned (.tuple #[.slice none 0 0, .bool false])

set_option maxRecDepth 100000 in
set_option maxHeartbeats 2000000 in
theorem parts_walk (A0 : Option Addr) (m c0 n : Nat) (ok : Bool) (Q : World → Option Addr → Nat → Prop) (w : World)
    (HH : Calls Tryd.prog 34 #[.func (.func 43) #[] #[.pointer (some ⟨w.heap.size, 0, none⟩), .pointer (some ⟨w.heap.size + 1, 0, none⟩)]] ((w.alloc (.cells #[.slice A0 m c0] 57)).alloc (.cells #[.slice none 0 0] 33)) fun e w' => e = .returned (.bool ok) ∧ Below w.heap.size ((w.alloc (.cells #[.slice A0 m c0] 57)).alloc (.cells #[.slice none 0 0] 33)) w' ∧ ∃ A c, w'.cell? ⟨w.heap.size + 1, 0, none⟩ = some (.slice A n c) ∧ Q w' A c) :
    Calls Tryd.prog 16 #[.slice A0 m c0] w fun e w' => Below w.heap.size w w' ∧ ∃ A c, e = .returned (.tuple #[.slice A n c, .bool ok]) ∧ Q w' A c := by
  have hmf : ∀ (fn : Fn) (first cap : Array Value) (w : World), (Instr.makeFunc fn first cap).run Tryd.prog w = .ok (.func fn first cap) w := fun _ _ _ _ => rfl
  have HH := hid HH
  go_enter Tryd.func16, Tryd.ntmps16
  go_wp2_with (go_at_call 34; refine HH.out.mono ?_; rintro e w1 ⟨rfl, hb, A, c, hc, hQ⟩)
  go_ret2
  exact ⟨((below_new w _).alloc (by simp) _).trans hb, A, c, rfl, hQ⟩

theorem parts_any (A : Option Addr) (c : Nat) (l : List UInt8) (hl : l.length ≤ 100000) (hc : l.length ≤ c) (hc2 : c ≤ 9223372036854775807) (w : World) (h : HoldsA w A l) :
    Calls Tryd.prog 16 #[.slice A l.length c] w (PaEnd l w) := by
  obtain ⟨h1, h2, h3, h4, h5, h6⟩ := two_cells w (.slice A l.length c) (.slice none 0 0) 57 33
  obtain ⟨W, hW⟩ : ∃ W, ((w.alloc (.cells #[.slice A l.length c] 57)).alloc (.cells #[.slice none 0 0] 33)) = W := ⟨_, rfl⟩
  rw [hW] at h1 h2 h3 h4 h5 h6
  have hS : St W w.heap.size l := by
    refine ⟨⟨_, h1, A, c, rfl, hc, hc2, fun h0 => ?_⟩, h3, by rw [h5]; omega⟩
    obtain ⟨b, off, e1, e2⟩ := h h0
    exact ⟨b, off, e1, e2.lt h0, e2.below h6 (e2.lt h0)⟩
  have H := partsclo_any w.heap.size l hl W hS h2 h4
  unfold PaEnd
  unfold PClo at H
  cases hk : partsM l with
  | none =>
    rw [hk] at H
    refine (parts_walk A l.length c 0 false (fun _ A c => A = none ∧ c = 0) w ?_).mono fun e w' ⟨hb, A', c', he, hA, hc'⟩ => ⟨hb, by rw [he, hA, hc']⟩
    rw [hW]
    refine (holdsP_no w.heap.size W (fun w' => Below w.heap.size W w' ∧ w'.cell? ⟨w.heap.size + 1, 0, none⟩ = some (.slice none 0 0)) ?_ (H.mono fun e w' hx => ⟨hx.2.1, hx.1, hx.2.2⟩)).mono fun e w' ⟨he, hb, hcl⟩ => ⟨he, hb, none, 0, hcl, rfl, rfl⟩
    rintro w1 w2 ⟨a, b⟩ hb
    have hz := cell_lt b
    exact ⟨a.trans (hb.mono (by omega)), (hb.cell (p := ⟨w.heap.size + 1, 0, none⟩) hz).trans b⟩
  | some ls =>
    rw [hk] at H
    refine (parts_walk A l.length c ls.length true (fun w' A c => LsB w' (.slice A ls.length c) ls) w ?_).mono fun e w' ⟨hb, A', c', he, hQ⟩ => ⟨hb, _, he, hQ⟩
    rw [hW]
    exact (holdsP_yes w.heap.size W (fun w' => Below w.heap.size W w' ∧ ∃ A c, w'.cell? ⟨w.heap.size + 1, 0, none⟩ = some (.slice A ls.length c) ∧ LsB w' (.slice A ls.length c) ls) (H.mono fun e w' hx => ⟨hx.2.1, hx.1, hx.2.2⟩))
end Go.Proofs.YtpjkhholpbfbpaaDoor

/- The document's Take and Parts at any bytes. Conditions: the slice holds its bytes, a hundred thousand at most. -/
namespace Go.Proofs.YtpjkhholpbfbpaaDoor
open Go.RowKit

theorem cut_sla {w : World} {b off c : Nat} {l : List UInt8} (hc : l.length ≤ c) (hc2 : c ≤ 9223372036854775807) (hh : Holds w b off l) (k n : Nat) (h : k + n ≤ l.length) : SlA w (.slice (some ⟨b, off + k, none⟩) n (c - k)) ((l.drop k).take n) := by
  have hl : ((l.drop k).take n).length = n := by rw [List.length_take, List.length_drop]; omega
  refine ⟨_, c - k, by rw [hl], by rw [hl]; omega, by omega, fun _ => ⟨b, off + k, rfl, fun i hi => ?_⟩, fun h => by cases h⟩
  rw [hl] at hi
  have := (hh.drop k) i (by rw [List.length_drop]; omega)
  rw [this]
  simp only [List.getD_eq_getElem?_getD, List.getElem?_take_of_lt hi]

def TkE (w : World) : Option (Nat × List UInt8) → Ending → World → Prop
  | some p, e, w' => ∃ v, e = .returned (.tuple #[.int .i64 (p.1 : Int), v, .bool true]) ∧ Row w' w.heap.size v p.2 ∧ Below w.heap.size w w'
  | none, e, w' => e = .returned (.tuple #[.int .i64 0, .slice none 0 0, .bool false]) ∧ Below w.heap.size w w'

set_option maxRecDepth 100000 in
set_option maxHeartbeats 2000000 in
theorem reftake3_any (v : Value) (l : List UInt8) (hl : l.length ≤ 1000000) (w : World) (h : SlA w v l) :
    Calls Tryd.prog 15 #[v] w (TkE w (tk l)) := by
  obtain ⟨A, c, rfl, hc1, hc2, hh, _⟩ := h
  have HH := hid hh
  obtain ⟨m, hm⟩ : ∃ m, l.length = m := ⟨_, rfl⟩
  rw [hm] at hl hc1 ⊢
  have HM := hid hm
  clear hm hh
  go_enter Tryd.func15, Tryd.ntmps15
  go_wp2
  go_loopw [5, 6, 7] (fun vn vp vi wr => ∃ (k n : Nat) (N P : Int), k ≤ m ∧ k ≤ 9 ∧ Hid (N = (n : Int) ∧ n < 2 ^ (7 * k) ∧ (k ≤ 8 → P = ((2 ^ (7 * k) : Nat) : Int))) ∧ vn = .int .i64 N ∧ vp = .int .i64 P ∧ vi = .int .i64 k ∧ Hid (tk l = (tkGo (9 - k) k (l.drop k)).map (fun p => (n + 2 ^ (7 * k) * p.1, p.2))) ∧ wr = w) (fun _ _ vi _ => 9 - (intOf vi).toNat)
  case atStart => exact ⟨0, 0, 0, 1, by omega, by omega, ⟨rfl, by decide, fun _ => rfl⟩, rfl, rfl, rfl, by unfold Hid tk; simp, rfl⟩
  case round =>
    obtain ⟨k, n, N, P, hk, hk9, HK, rfl, rfl, rfl, HT, rfl⟩ := hrel
    by_cases hlt : k < m
    · by_cases h9 : k < 9
      · have hkl : k < l.length := by rw [HM.out]; exact hlt
        obtain ⟨b, off, rfl, hc⟩ := HH.out (by omega)
        have hb := hc k hkl
        rw [List.getD_eq_getElem?_getD, List.getElem?_eq_getElem hkl, Option.getD_some] at hb
        obtain ⟨x, hx⟩ : ∃ x : Int, (((l[k]).toNat : Nat) : Int) = x := ⟨_, rfl⟩
        rw [hx] at hb
        have HX := hid hx
        have x0 : 0 ≤ x := by omega
        have x1 : x < 256 := by have := u8_lt l[k]; omega
        have HV : Hid (wrap64 (N + wrap64 (x % 128 * P)) = ((n + 2 ^ (7 * k) * (l[k].toNat % 128) : Nat) : Int) ∧ n + 2 ^ (7 * k) * (l[k].toNat % 128) < 2 ^ (7 * (k + 1)) ∧ (k + 1 ≤ 8 → wrap64 (P * 128) = ((2 ^ (7 * (k + 1)) : Nat) : Int))) := by
          obtain ⟨q1, q2, q3⟩ := HK.out
          have q3 := q3 (by omega)
          have hp : (2 : Nat) ^ (7 * k) ≤ 2 ^ 56 := Nat.pow_le_pow_right (by decide) (by omega)
          have hmm : 2 ^ (7 * k) * (l[k].toNat % 128) ≤ 2 ^ (7 * k) * 127 := Nat.mul_le_mul (Nat.le_refl _) (by omega)
          have e0 : x % 128 * P = ((2 ^ (7 * k) * (l[k].toNat % 128) : Nat) : Int) := by
            rw [q3, ← HX.out]
            push_cast
            rw [Int.mul_comm]
          have e7 : 2 ^ (7 * (k + 1)) = 2 ^ (7 * k) * 128 := by rw [show 7 * (k + 1) = 7 * k + 7 by omega, Nat.pow_add]
          have e1 : wrap64 (x % 128 * P) = ((2 ^ (7 * k) * (l[k].toNat % 128) : Nat) : Int) := by rw [e0]; unfold wrap64; omega
          refine ⟨?_, by rw [e7]; omega, fun h8 => ?_⟩
          · rw [e1, q1]; unfold wrap64; omega
          · have hp2 : (2 : Nat) ^ (7 * k) ≤ 2 ^ 49 := Nat.pow_le_pow_right (by decide) (by omega)
            rw [e7, q3]; unfold wrap64; omega
        have HD : Hid (tk l = (tkGo (9 - (k + 1) + 1) k (l[k] :: l.drop (k + 1))).map (fun p => (n + 2 ^ (7 * k) * p.1, p.2))) := by
          unfold Hid
          rw [HT.out, show 9 - (k + 1) + 1 = 9 - k by omega, List.drop_eq_getElem_cons hkl]
        have HY := hid hc
        clear hx hc HT HK
        by_cases hx128 : x < 128
        · by_cases hz : 0 < k ∧ x = 0
          · obtain ⟨hk0, rfl⟩ := hz
            go_wp2
            refine bodyPost_ret (results_tmp3 rfl _ _ _) rfl ?_
            have e : tk l = none := by
              have := HX.out
              rw [HD.out, tkGo, if_pos (by omega), if_pos (by omega)]; rfl
            rw [e]
            exact ⟨rfl, Below.refl _ _⟩
          · have hz2 : k < 1 ∨ ¬ x = 0 := by omega
            have e : Hid (tk l = some (n + 2 ^ (7 * k) * (l[k].toNat % 128), l.drop (k + 1))) := by
              have := HX.out
              unfold Hid
              rw [HD.out, tkGo, if_pos (by omega), if_neg (by omega)]
              simp only [Option.map_some, Option.some.injEq, Prod.mk.injEq, and_true]
              rw [Nat.mod_eq_of_lt (by omega : l[k].toNat < 128)]
            by_cases hkc : k + 1 < c
            · have HC : Hid (Calls Tryd.prog 11 #[.slice (some ⟨b, off + (k + 1), none⟩) (m - (k + 1)) (c - (k + 1))] wr fun e w' => ∃ v', e = .returned v' ∧ Row w' wr.heap.size v' (l.drop (k + 1)) ∧ Below wr.heap.size wr w') := by
                have q := cut_sla (by rw [HM.out]; exact hc1) hc2 HY.out (k + 1) (m - (k + 1)) (by rw [HM.out]; omega)
                rw [List.take_of_length_le (by rw [List.length_drop, HM.out]; omega)] at q
                exact copy_any _ (l.drop (k + 1)) (by rw [List.length_drop, HM.out]; omega) wr q
              rcases hz2 with hz2 | hz2
              all_goals
                go_wp2_with (go_at_call 11; refine HC.out.mono ?_; rintro e w1 ⟨v', rfl, hR, hb1⟩)
                all_goals
                  refine bodyPost_ret (results_tmp3 rfl _ _ _) rfl ?_
                  rw [e.out]
                  exact ⟨v', congrArg (fun z => Ending.returned (.tuple #[.int .i64 z, v', .bool true])) HV.out.1, hR, hb1⟩
            · obtain rfl : c = k + 1 := by omega
              obtain rfl : m = k + 1 := by omega
              have HC : Hid (Calls Tryd.prog 11 #[.slice (some ⟨b, off, none⟩) 0 0] wr fun e w' => ∃ v', e = .returned v' ∧ Row w' wr.heap.size v' (l.drop (k + 1)) ∧ Below wr.heap.size wr w') := by
                have e2 : l.drop (k + 1) = [] := List.drop_eq_nil_of_le (by rw [HM.out]; omega)
                rw [e2]
                exact copy_any _ [] (by simp) wr ⟨_, 0, rfl, by simp, by omega, fun h => absurd h (by simp), fun h => by cases h⟩
              rcases hz2 with hz2 | hz2
              all_goals
                go_wp2_with (go_at_call 11; refine HC.out.mono ?_; rintro e w1 ⟨v', rfl, hR, hb1⟩)
                all_goals
                  refine bodyPost_ret (results_tmp3 rfl _ _ _) rfl ?_
                  rw [e.out]
                  exact ⟨v', congrArg (fun z => Ending.returned (.tuple #[.int .i64 z, v', .bool true])) HV.out.1, hR, hb1⟩
        · go_wp2
          go_roundw
          case rel =>
            have h3 := HV.out
            refine ⟨k + 1, n + 2 ^ (7 * k) * (l[k].toNat % 128), _, _, by omega, by omega, ⟨h3.1, h3.2.1, h3.2.2⟩, rfl, rfl, by go_num, ?_, trivial⟩
            unfold Hid
            have := HX.out
            rw [HD.out, tkGo, if_neg (by omega), Option.map_map]
            congr 1
            funext p
            simp only [Function.comp, Prod.mk.injEq, and_true]
            rw [show 7 * (k + 1) = 7 * k + 7 by omega, Nat.pow_add, Nat.mul_add, Nat.mul_assoc, Nat.add_assoc]
          case measure => simp [intOf]; omega
      · have e : tk l = none := by
          rw [HT.out, show 9 - k = 0 by omega]; rfl
        go_wp2
        refine bodyPost_ret (results_tmp3 rfl _ _ _) rfl ?_
        rw [e]
        exact ⟨rfl, Below.refl _ _⟩
    · have e : tk l = none := by
        rw [HT.out, List.drop_eq_nil_of_le (by have := HM.out; omega)]
        cases 9 - k <;> rfl
      go_wp2
      refine bodyPost_ret (results_tmp3 rfl _ _ _) rfl ?_
      rw [e]
      exact ⟨rfl, Below.refl _ _⟩

theorem RowL.new3 (w : World) (B : Nat) (hB : B ≤ w.heap.size) : RowL (w.alloc (.cells #[] 22)) B (.slice (some ⟨w.heap.size, 0, Option.none⟩) 0 0) [] :=
  ⟨[], ⟨rfl, .inr ⟨w.heap.size, 0, #[], rfl, hB, heap_alloc_new w _, Nat.le_refl _, by unfold maxLen; simp, by simp, by simp⟩⟩, fun i x h => by simp at h⟩

section
variable {ops : Array Oper} {rest : List Oper} {o : Oper} {a : Act} {Q : Exit → Act → World → Prop}
/-- append of one row to a list of the call's own; every row of the call's own stands. -/
theorem wpList_append_row3 (hgd : o.guard = Option.none) (s x : Operand)
    (ho : o.op = .call { callee := .builtin .append, args := #[s, x], argTypes := #[33, 33] })
    (w : World) (base : Nat) (v : Value) (xs : List (List UInt8)) (hs : a.eval s = v) (hown : RowL w base v xs)
    (G : Nat) (c : Nat) (u : Value) (y : List UInt8) (hx : a.eval x = .slice (some ⟨G, 0, Option.none⟩) 1 c) (hc : w.cell? ⟨G, 0, Option.none⟩ = some u) (hu : Row w base u y)
    (hlen : xs.length ≤ 1000000) (hbase : base ≤ w.heap.size)
    (h : ∀ v' w', RowL w' base v' (xs ++ [y]) → Below base w w' → (∀ q z, Row w base q z → Row w' base q z) → wpList Tryd.prog ops Q rest (a.put o.dst v') w') : wpList Tryd.prog ops Q (o :: rest) a w := by
  obtain ⟨i0, hi, hz0, hz1, hz2⟩ := info_parts info_row
  obtain ⟨vs, how, hr⟩ := hown
  have hvl : vs.length = xs.length := by have := how.1; omega
  refine wpList_append_own w hgd s x 33 ho base 22 i0 (.slice Option.none 0 0) 1 24 Tryd.underlying33 hi hz0 hz1 hz2 rfl (by decide) v xs.length vs hs how ⟨G, 0, Option.none⟩ 1 c [u] hx rfl ?_ ?_ (by unfold maxLen; omega) (by omega) hbase ?_
  · intro j e he
    match j, he with
    | 0, he => simp at he; subst he; rw [add_zero_off]; exact hc
    | j + 1, he => simp at he
  · intro e he
    have : e = u := by simpa using he
    subst this
    rcases hu.2 with ⟨rfl, _⟩ | ⟨g, cap, cur, rfl, _⟩ <;> rfl
  · intro v' w' h1 h2 _
    refine h v' w' ⟨vs ++ [u], by rw [List.length_append]; exact h1, fun i x hx => ?_⟩ ((Below.refl _ _).grown h2 hbase fun k hk => (World.ownsRow.lt how k hk).1) (fun q z hq => hq.grown h2 (row_ne_list hq how))
    by_cases hi' : i < xs.length
    · rw [List.getElem?_append_left hi'] at hx
      obtain ⟨u', hu', hR⟩ := hr i x hx
      exact ⟨u', by rw [List.getElem?_append_left (by omega)]; exact hu', hR.grown h2 (row_ne_list hR how)⟩
    · rw [List.getElem?_append_right (by omega)] at hx
      have hi0 : i - xs.length = 0 := by
        rcases Nat.eq_zero_or_pos (i - xs.length) with e | e
        · exact e
        · rw [List.getElem?_eq_none (by simp; omega)] at hx; cases hx
      rw [hi0] at hx
      have ey : y = x := by simpa using hx
      subst ey
      exact ⟨u, by rw [List.getElem?_append_right (by omega), hvl, hi0]; rfl, hu.grown h2 (row_ne_list hu how)⟩
end

def lenOf3 : Value → Nat
  | .slice _ n _ => n
  | _ => 0


theorem row_form3 {w : World} {B : Nat} {v : Value} {l : List UInt8} (h : Row w B v l) : (v = .slice none 0 0 ∧ l = []) ∨ ∃ g c, v = .slice (some ⟨g, 0, none⟩) l.length c ∧ l.length ≤ c ∧ c ≤ 9223372036854775807 := by
  obtain ⟨A, c, e, h1, h2, h3, h4⟩ := h.sla
  obtain ⟨_, h5⟩ := h
  rcases h5 with ⟨rfl, hz⟩ | ⟨g, cap, cur, e', _⟩
  · exact .inl ⟨rfl, List.eq_nil_of_length_eq_zero hz⟩
  · rw [e] at e'
    injection e' with e1 e2 e3
    subst e1
    exact .inr ⟨g, c, e, h1, h2⟩

/-- What is left stands in a row of the call's own. -/
def RestP (wr : World) (B : Nat) (v : Value) (t : List UInt8) : Prop := ∃ V L, Row wr B V L ∧ ∀ W, Row W B V L → SlA W v t
theorem RestP.sla {wr : World} {B : Nat} {v : Value} {t : List UInt8} (h : RestP wr B v t) : SlA wr v t := by
  obtain ⟨V, L, h1, h2⟩ := h
  exact h2 wr h1
def PInv (w : World) (n0 : Nat) (r0 : List UInt8) (vr vo vi : Value) (wr : World) : Prop :=
  ∃ (i : Nat) (ls : List (List UInt8)) (t : List UInt8) (A : Option Addr) (c : Nat), i ≤ n0 ∧ vi = .int .i64 i ∧ vr = .slice A t.length c ∧ Hid (RestP wr w.heap.size vr t) ∧ Hid (ptM n0 r0 = (ptM (n0 - i) t).map (fun p => (ls ++ p.1, p.2)) ∧ i + t.length ≤ r0.length ∧ ls.length + t.length ≤ r0.length) ∧ RowL wr w.heap.size vo ls ∧ Below w.heap.size w wr

set_option maxRecDepth 100000 in
set_option maxHeartbeats 4000000 in
theorem refparts_any (v : Value) (l : List UInt8) (hl : l.length ≤ 100000) (w : World) (h : SlA w v l) :
    Calls Tryd.prog 17 #[v] w (PaEnd l w) := by
  have HK : Hid (∀ (W : World) (u : Value) (t : List UInt8), t.length ≤ 100000 → SlA W u t → Calls Tryd.prog 15 #[u] W (TkE W (tk t))) := fun W u t ht hu => reftake3_any u t (by omega) W hu
  have HT := HK.out w v l hl h
  cases ht : tk l with
  | none =>
    rw [ht] at HT
    have HT := hid HT
    have HE : Hid (partsM l = none) := by unfold Hid partsM; rw [ht]
    clear ht h HK
    go_enter Tryd.func17, Tryd.ntmps17
    go_wp2_with (go_at_call 15; refine HT.out.mono ?_; rintro e w1 ⟨rfl, hb1⟩)
    go_loopw [5, 7, 8] (fun _ _ vi wr => vi = .int .i64 0 ∧ Below w.heap.size w wr) (fun _ _ _ _ => 0)
    case atStart => exact ⟨rfl, hb1.alloc hb1.size _⟩
    case round =>
      obtain ⟨rfl, hb⟩ := hrel
      go_wp2
      go_ret2
      unfold PaEnd; rw [HE.out]
      exact ⟨hb, rfl⟩
  | some p =>
    obtain ⟨n0, r0⟩ := p
    rw [ht] at HT
    have HT := hid HT
    have hr0 : r0.length < l.length := tk_less ht
    have HPM : Hid (partsM l = match ptM n0 r0 with | some (ls, []) => some ls | _ => none) := by unfold Hid partsM; rw [ht]; rfl
    clear ht h
    go_enter Tryd.func17, Tryd.ntmps17
    go_wp2_with (go_at_call 15; refine HT.out.mono ?_; rintro e w1 ⟨v0, rfl, hR0, hb1⟩; obtain ⟨A0, c0, rfl, _⟩ := hR0.sla)
    go_loopw [5, 7, 8] (fun vr vo vi wr => PInv w n0 r0 vr vo vi wr) (fun vr _ _ _ => lenOf3 vr)
    case atStart =>
      exact ⟨0, [], r0, A0, c0, Nat.zero_le _, rfl, rfl, ⟨_, _, hR0.alloc _, fun W h => h.sla⟩, ⟨by simp, by simp, by simp⟩, RowL.new3 w1 _ hb1.size, hb1.alloc hb1.size _⟩
    case round =>
      obtain ⟨i, ls, t, A, c, hi, rfl, rfl, HR, HQ, hL, hb⟩ := hrel
      obtain ⟨A5, c5, e5⟩ := hL.len
      subst e5
      have HL := hid hL
      obtain ⟨z, hz⟩ : ∃ z, t.length = z := ⟨_, rfl⟩
      rw [hz] at HR ⊢
      have HZ := hid hz
      have hbs := hb.size
      have hib : i ≤ 200000 := by have := HQ.out.2.1; omega
      by_cases hin : i < n0
      · have hLk := HK.out wr (.slice A z c) t (by have := HQ.out.2.1; omega) HR.out.sla
        obtain ⟨s, hs⟩ : ∃ s, n0 - i = s + 1 := ⟨n0 - i - 1, by omega⟩
        cases htk : tk t with
        | none =>
          rw [htk] at hLk
          have hLk := hid hLk
          have HE : Hid (partsM l = none) := by
            unfold Hid
            rw [HPM.out, HQ.out.1, hs, ptM_none htk]
            rfl
          clear htk hL hs hz
          go_wp2_with (go_at_call 15; refine hLk.out.mono ?_; rintro e w2 ⟨rfl, hb2⟩)
          go_ret2
          unfold PaEnd; rw [HE.out]
          exact ⟨hb.trans (hb2.mono hbs), rfl⟩
        | some p =>
          obtain ⟨k, r⟩ := p
          rw [htk] at hLk
          have hLk := hid hLk
          have hrt : r.length < t.length := tk_less htk
          by_cases hk : k ≤ r.length
          · have HQ2 : Hid (ptM n0 r0 = (ptM (n0 - (i + 1)) (r.drop k)).map (fun p => ((ls ++ [r.take k]) ++ p.1, p.2)) ∧ i + 1 + (r.drop k).length ≤ r0.length ∧ (ls ++ [r.take k]).length + (r.drop k).length ≤ r0.length ∧ (r.drop k).length < z) := by
              obtain ⟨q1, q2, q3⟩ := HQ.out
              refine ⟨?_, ?_, ?_, ?_⟩
              · rw [q1, hs, ptM_some htk hk, show n0 - (i + 1) = s by omega, Option.map_map]
                congr 1
                funext p
                simp
              · rw [List.length_drop]; omega
              · rw [List.length_drop, List.length_append, List.length_singleton]; omega
              · rw [List.length_drop]; omega
            have HXL : Hid (ls.length ≤ 1000000) := by have := HQ.out.2.2; unfold Hid; omega
            have hrl : r.length ≤ 100000 := by have := HQ.out.2.1; omega
            obtain ⟨m, hm⟩ : ∃ m, r.length = m := ⟨_, rfl⟩
            have HM := hid hm
            rw [hm] at hk hrl
            obtain ⟨xk, hxk⟩ : ∃ xk, r.take k = xk := ⟨_, rfl⟩
            have HXK := hid hxk
            rw [hxk] at HQ2
            clear hxk
            have hdk : Hid ((r.drop k).length = m - k) := by unfold Hid; rw [List.length_drop, hm]
            clear htk hL hs hz hrt hm
            go_upto_region 9 with (go_at_call 15; refine hLk.out.mono ?_; rintro e w2 ⟨v1, rfl, hR1, hb2⟩; obtain ⟨A1, c1, e1, _⟩ := hR1.sla; rw [HM.out] at e1; subst e1)
            have HR1 := hid (hR1.le hbs)
            have hbs2 : w.heap.size ≤ w2.heap.size := Nat.le_trans hbs hb2.size
            rcases row_form3 hR1 with ⟨e1, e2⟩ | ⟨g, c2, e1, e2, e3⟩
            · injection e1 with e1 e3 e4
              subst e1 e3 e4
              subst e2
              obtain rfl : k = 0 := by omega
              obtain rfl : [] = xk := HXK.out
              have HCp : Hid (Calls Tryd.prog 11 #[.slice none 0 0] w2 fun e w' => ∃ v', e = .returned v' ∧ Row w' w2.heap.size v' [] ∧ Below w2.heap.size w2 w') := copy_any _ [] (by simp) w2 ⟨none, 0, rfl, by simp, by omega, fun h => absurd h (by simp), fun _ => rfl⟩
              clear hR1
              go_wp2_with (first
                | (go_at_call 11; refine HCp.out.mono ?_; rintro e w3 ⟨v3, rfl, hR3, hb3⟩; have HR3 := hid (hR3.le hbs2); obtain ⟨A3, c3, rfl, _⟩ := hR3.sla)
                | (at_builtin; refine wpList_append_row3 rfl (.tmp 41) (.tmp 46) rfl _ w.heap.size _ ls rfl (((HL.out.below hb2).below hb3).below (below_new w3 _)) w3.heap.size 1 _ [] rfl (cell_one _ _ _) (HR3.out.alloc _) HXL.out (by have := hb3.size; simp; omega) ?_; intro v' w' hL' hb' hk'))
              go_roundw
              case rel =>
                exact ⟨i + 1, ls ++ [[]], [], none, 0, by omega, by go_num, rfl, ⟨_, _, Row.none _ _, fun W h => h.sla⟩, ⟨HQ2.out.1, HQ2.out.2.1, HQ2.out.2.2.1⟩, hL', ((hb.trans (hb2.mono hbs)).trans ((hb3.mono hbs2).trans ((below_new w3 _).mono (Nat.le_trans hbs2 hb3.size)))).trans hb'⟩
              case measure => have := HQ2.out.2.2.2; simp [lenOf3] at *; omega
            · rw [HM.out] at e1 e2
              injection e1 with e1 _ e4
              subst e1 e4
              have HCp : Hid (Calls Tryd.prog 11 #[.slice (some ⟨g, 0, none⟩) k c1] w2 fun e w' => ∃ v', e = .returned v' ∧ Row w' w2.heap.size v' xk ∧ Below w2.heap.size w2 w') := by
                rw [← HXK.out]
                refine copy_any _ (r.take k) (by rw [List.length_take]; omega) w2 ?_
                obtain ⟨A', c', q1, q2, q3, q4, q5⟩ := hR1.sla
                injection q1 with q1 _ q6
                subst q1 q6
                refine ⟨_, c1, by rw [List.length_take, HM.out, Nat.min_eq_left hk], by rw [List.length_take]; omega, q3, fun h0 => ?_, fun h => by cases h⟩
                rw [List.length_take] at h0
                obtain ⟨b', o', q7, hh⟩ := q4 (by rw [HM.out]; omega)
                refine ⟨b', o', q7, fun i hi => ?_⟩
                rw [List.length_take] at hi
                rw [hh i (by omega)]
                simp only [List.getD_eq_getElem?_getD, List.getElem?_take_of_lt (show i < k by omega)]
              have HRS : Hid (∀ W, Row W w.heap.size (.slice (some ⟨g, 0, none⟩) m c1) r → (k < c1 → SlA W (.slice (some ⟨g, k, none⟩) (m - k) (c1 - k)) (r.drop k)) ∧ (c1 ≤ k → SlA W (.slice (some ⟨g, 0, none⟩) 0 0) (r.drop k))) := fun W hW => by
                obtain ⟨A', c', q1, q2, q3, q4, q5⟩ := hW.sla
                injection q1 with q1 _ q6
                subst q1 q6
                refine ⟨fun hlt => ⟨_, c1 - k, by rw [hdk.out], by rw [hdk.out]; omega, by omega, fun h0 => ?_, fun h => by cases h⟩, fun hle => ?_⟩
                · rw [hdk.out] at h0
                  obtain ⟨b', o', q7, hh⟩ := q4 (by rw [HM.out]; omega)
                  injection q7 with q7
                  injection q7 with q7 q8
                  subst q7 q8
                  exact ⟨g, k, rfl, by have := hh.drop k; rwa [Nat.zero_add] at this⟩
                · have e : r.drop k = [] := List.drop_eq_nil_of_le (by rw [HM.out]; omega)
                  rw [e]
                  exact ⟨_, 0, rfl, by simp, by omega, fun h => absurd h (by simp), fun h => by cases h⟩
              clear hR1
              by_cases hc : k < c1
              · go_wp2_with (first
                  | (go_at_call 11; refine HCp.out.mono ?_; rintro e w3 ⟨v3, rfl, hR3, hb3⟩; have HR3 := hid (hR3.le hbs2); obtain ⟨A3, c3, rfl, _⟩ := hR3.sla)
                  | (at_builtin; refine wpList_append_row3 rfl (.tmp 41) (.tmp 46) rfl _ w.heap.size _ ls rfl (((HL.out.below hb2).below hb3).below (below_new w3 _)) w3.heap.size 1 _ xk rfl (cell_one _ _ _) (HR3.out.alloc _) HXL.out (by have := hb3.size; simp; omega) ?_; intro v' w' hL' hb' hk'))
                go_roundw
                case rel =>
                  exact ⟨i + 1, ls ++ [xk], r.drop k, some ⟨g, k, none⟩, c1 - k, by omega, by go_num, by rw [hdk.out], ⟨_, _, hk' _ _ ((HR1.out.keep hb3 HR1.out.block_lt).alloc _), fun W h => (HRS.out W h).1 hc⟩, ⟨HQ2.out.1, HQ2.out.2.1, HQ2.out.2.2.1⟩, hL', ((hb.trans (hb2.mono hbs)).trans ((hb3.mono hbs2).trans ((below_new w3 _).mono (Nat.le_trans hbs2 hb3.size)))).trans hb'⟩
                case measure => have := HQ2.out.2.2.2; have := hdk.out; simp [lenOf3] at *; omega
              · obtain rfl : c1 = k := by omega
                obtain rfl : m = c1 := by omega
                go_wp2_with (first
                  | (go_at_call 11; refine HCp.out.mono ?_; rintro e w3 ⟨v3, rfl, hR3, hb3⟩; have HR3 := hid (hR3.le hbs2); obtain ⟨A3, c3, rfl, _⟩ := hR3.sla)
                  | (at_builtin; refine wpList_append_row3 rfl (.tmp 41) (.tmp 46) rfl _ w.heap.size _ ls rfl (((HL.out.below hb2).below hb3).below (below_new w3 _)) w3.heap.size 1 _ xk rfl (cell_one _ _ _) (HR3.out.alloc _) HXL.out (by have := hb3.size; simp; omega) ?_; intro v' w' hL' hb' hk'))
                go_roundw
                case rel =>
                  exact ⟨i + 1, ls ++ [xk], r.drop m, some ⟨g, 0, none⟩, 0, by omega, by go_num, by rw [hdk.out, Nat.sub_self], ⟨_, _, hk' _ _ ((HR1.out.keep hb3 HR1.out.block_lt).alloc _), fun W h => (HRS.out W h).2 (Nat.le_refl _)⟩, ⟨HQ2.out.1, HQ2.out.2.1, HQ2.out.2.2.1⟩, hL', ((hb.trans (hb2.mono hbs)).trans ((hb3.mono hbs2).trans ((below_new w3 _).mono (Nat.le_trans hbs2 hb3.size)))).trans hb'⟩
                case measure => have := HQ2.out.2.2.2; have := hdk.out; simp [lenOf3] at *; omega
          · have HE : Hid (partsM l = none) := by
              unfold Hid
              rw [HPM.out, HQ.out.1, hs, ptM_long htk hk]
              rfl
            obtain ⟨m, hm⟩ : ∃ m, r.length = m := ⟨_, rfl⟩
            have HM := hid hm
            rw [hm] at hk
            have hk2 : m < k := by omega
            clear htk hL hs hz hk hrt hm
            go_wp2_with (go_at_call 15; refine hLk.out.mono ?_; rintro e w2 ⟨v1, rfl, hR1, hb2⟩; obtain ⟨A1, c1, e1, _⟩ := hR1.sla; rw [HM.out] at e1; subst e1)
            go_ret2
            unfold PaEnd; rw [HE.out]
            exact ⟨hb.trans (hb2.mono hbs), rfl⟩
      · obtain rfl : i = n0 := by omega
        by_cases hz0 : 0 < z
        · have HE : Hid (partsM l = none) := by
            unfold Hid
            rw [HPM.out, HQ.out.1, Nat.sub_self]
            cases t with
            | nil => have := HZ.out; simp at this; omega
            | cons x t => rfl
          clear hL hz
          go_wp2
          go_ret2
          unfold PaEnd; rw [HE.out]
          exact ⟨hb, rfl⟩
        · have hzz : z = 0 := by omega
          subst hzz
          have HE : Hid (partsM l = some ls) := by
            unfold Hid
            have : t = [] := List.eq_nil_of_length_eq_zero HZ.out
            rw [HPM.out, HQ.out.1, Nat.sub_self, this]
            show (match (some (ls ++ [], []) : Option (List (List UInt8) × List UInt8)) with | some (ls, []) => some ls | _ => none) = _
            simp
          clear hL hz
          go_wp2
          go_ret2
          unfold PaEnd; rw [HE.out]
          exact ⟨hb, _, rfl, HL.out.lsb⟩
end Go.Proofs.YtpjkhholpbfbpaaDoor

/- The fixed rows of layer 3's laws are as they ask. Conditions: the tables of utf8 read as they are laid. -/
namespace Go.Proofs.YtpjkhholpbfbpaaDoor
open Go.RowKit

/-- A right cell comes back. -/
theorem DEnd.back {r f q vs : List UInt8} {t k vk vn : Int} {w w' : World} {e : Ending} (h : cRight r f q t k vk vn vs = true) (hi : inI vn) (hd : DEnd (cEnc r f q t k vk vn vs) w e w') : e = .returned (.tuple #[cellV ⟨r.toArray⟩ ⟨f.toArray⟩ ⟨q.toArray⟩ t k vk vn ⟨vs.toArray⟩, .bool true]) ∧ Below w.heap.size w w' := by
  rcases hd.2 with ⟨r', f', q', t', k', vk', vn', vs', h1, h2, h3, h4⟩ | ⟨h1, _⟩
  · obtain ⟨rfl, rfl, rfl, rfl, rfl, rfl, rfl, rfl⟩ := cEnc_one h1 h h2 hi h3
    exact ⟨h4, hd.1⟩
  · exact absurd rfl (h1 _ _ _ _ _ _ _ _ h hi)

abbrev aX : Array Value := #[.string ⟨#[114]⟩, .string ⟨#[102]⟩, .string ⟨#[113]⟩, .int .i64 5, .int .i64 1, .int .i64 1, .int .i64 0, .string ⟨#[]⟩]
abbrev bX : Array Value := #[.string ⟨#[114]⟩, .string ⟨#[102]⟩, .string ⟨#[113]⟩, .int .i64 4, .int .i64 1, .int .i64 1, .int .i64 0, .string ⟨#[]⟩]
structure AS (w W : World) (cb : Nat) : Prop where
  a : Blk W w.heap.size 28 aX
  b : Blk W (w.heap.size + 1) 28 bX
  c : Blk W cb 28 aX
  bw : Below w.heap.size w W
theorem AS.below {w W W' : World} {cb : Nat} (h : AS w W cb) (hb : Below W.heap.size W W') : AS w W' cb := ⟨h.a.keep hb h.a.lt, h.b.keep hb h.b.lt, h.c.keep hb h.c.lt, h.bw.trans (hb.mono h.bw.size)⟩

theorem fix_right : cRight [114] [102] [113] 5 1 1 0 [] = true := by decide +kernel
theorem fix_wrong : cRight [] [] [] 0 0 0 0 [] = false := by decide +kernel
theorem fix_tk : tk [172, 2, 7] = some (300, [7]) := by decide +kernel
theorem fix_num : numW 300 = [172, 2] := by
  rw [numW_big (by decide), numW_small (by decide)]; decide
theorem fix_ord : cOrd [114] [102] [113] 5 1 [114] [102] [113] 4 1 = -1 := by decide +kernel

set_option maxRecDepth 100000 in
set_option maxHeartbeats 4000000 in
theorem calive_any (w : World) (hL : LaidU w) :
    Calls Tryd.prog 10 #[] w fun e w' => e = .returned (.bool true) ∧ Below w.heap.size w w' := by
  have HEn : Hid (∀ W, Below w.heap.size w W → Calls Tryd.prog 30 #[.agg aX] W fun e w' => ∃ v, e = .returned (.tuple #[v, .bool true]) ∧ Row w' W.heap.size v (cEnc [114] [102] [113] 5 1 1 0 []) ∧ Below W.heap.size W w') :=
    fun W hW => encode_yes ⟨#[114]⟩ ⟨#[102]⟩ ⟨#[113]⟩ ⟨#[]⟩ 5 1 1 (vn := 0) (by unfold inI; omega) (by decide) (by decide) W (hL.below hW) fix_right
  have hlen : (cEnc [114] [102] [113] 5 1 1 0 []).length ≤ 4000 := by decide +kernel
  have HDe : Hid (∀ (W : World) (A : Option Addr) (c : Nat), Below w.heap.size w W → HoldsA W A (cEnc [114] [102] [113] 5 1 1 0 []) → (cEnc [114] [102] [113] 5 1 1 0 []).length ≤ c → c ≤ 9223372036854775807 → Calls Tryd.prog 12 #[.slice A (cEnc [114] [102] [113] 5 1 1 0 []).length c] W fun e w' => e = .returned (.tuple #[.agg aX, .bool true]) ∧ Below W.heap.size W w') :=
    fun W A c hW hA h1 h2 => (cdecode_any A c _ hlen h1 h2 W hA (hL.below hW)).mono fun e w' h => h.back fix_right (by unfold inI; omega)
  have HTk : Hid (∀ (W : World) (bb : Nat), bb = W.heap.size → Calls Tryd.prog 14 #[.slice (some ⟨bb, 0, none⟩) 3 3] (W.alloc (.cells #[.int .u8 172, .int .u8 2, .int .u8 7] 5)) fun e w' => ∃ g c, e = .returned (.tuple #[.int .i64 300, .slice (some ⟨g, 0, none⟩) 1 c, .bool true]) ∧ Below (W.alloc (.cells #[.int .u8 172, .int .u8 2, .int .u8 7] 5)).heap.size (W.alloc (.cells #[.int .u8 172, .int .u8 2, .int .u8 7] 5)) w') := by
    intro W bb hbb
    subst hbb
    have hB : Blk (W.alloc (.cells #[.int .u8 172, .int .u8 2, .int .u8 7] 5)) W.heap.size 5 #[.int .u8 172, .int .u8 2, .int .u8 7] := Blk.new W _ _
    have hA : HoldsA (W.alloc (.cells #[.int .u8 172, .int .u8 2, .int .u8 7] 5)) (some ⟨W.heap.size, 0, none⟩) [172, 2, 7] := fun _ => ⟨_, _, rfl, fun i hi => by
      rw [Nat.zero_add, hB.cell i]
      match i, hi with
      | 0, _ => rfl
      | 1, _ => rfl
      | 2, _ => rfl⟩
    have h := take_any (some ⟨W.heap.size, 0, none⟩) 3 [172, 2, 7] (by decide) (by decide) (by decide) _ hA
    rw [fix_tk] at h
    refine h.mono ?_
    rintro e w' ⟨v, rfl, hR, hb⟩
    obtain ⟨g, c, rfl, _⟩ := hR.form (by decide)
    exact ⟨g, c, rfl, hb⟩
  have HOr : Hid (∀ W : World, Calls Tryd.prog 31 #[.agg aX, .agg bX] W fun e w' => e = .returned (.int .i64 (-1)) ∧ Below W.heap.size W w') := fun W => by
    have h := corder_any ⟨#[114]⟩ ⟨#[102]⟩ ⟨#[113]⟩ ⟨#[]⟩ 5 1 1 0 ⟨#[114]⟩ ⟨#[102]⟩ ⟨#[113]⟩ ⟨#[]⟩ 4 1 1 0 W
    rwa [show cOrd (⟨#[114]⟩ : ByteArray).data.toList (⟨#[102]⟩ : ByteArray).data.toList (⟨#[113]⟩ : ByteArray).data.toList 5 1 (⟨#[114]⟩ : ByteArray).data.toList (⟨#[102]⟩ : ByteArray).data.toList (⟨#[113]⟩ : ByteArray).data.toList 4 1 = -1 from fix_ord] at h
  have HNu : Hid (∀ W : World, Calls Tryd.prog 32 #[.int .i64 300] W fun e w' => ∃ v, e = .returned v ∧ Row w' W.heap.size v [172, 2] ∧ Below W.heap.size W w') := fun W => by
    have h := num_any 300 (by decide) W
    rwa [fix_num] at h
  have HSm : Hid (∀ (W : World) (v : Value) (B : Nat), Row W B v [172, 2] → Calls Tryd.prog 18 #[v, .slice (some ⟨W.heap.size, 0, none⟩) 2 2] (W.alloc (.cells #[.int .u8 172, .int .u8 2] 5)) fun e w' => e = .returned (.bool true) ∧ Below (W.alloc (.cells #[.int .u8 172, .int .u8 2] 5)).heap.size (W.alloc (.cells #[.int .u8 172, .int .u8 2] 5)) w') := by
    intro W v B hR
    have hR2 : Row (W.alloc (.cells #[.int .u8 172, .int .u8 2] 5)) W.heap.size (.slice (some ⟨W.heap.size, 0, none⟩) 2 2) [172, 2] := Row.new W _ (Nat.le_refl _) [172, 2] (by unfold maxLen; decide)
    exact same_sla v _ [172, 2] [172, 2] (by decide) _ (hR.alloc _).sla hR2.sla
  have HRi : Hid (∀ W, Below w.heap.size w W → Calls Tryd.prog 33 #[.agg aX] W fun e w' => e = .returned (.bool true) ∧ Below W.heap.size W w') := fun W hW => by
    have h := cright_any ⟨#[114]⟩ ⟨#[102]⟩ ⟨#[113]⟩ ⟨#[]⟩ 5 1 1 (vn := 0) (by unfold inI; omega) (by decide) (by decide) W (hL.below hW)
    rwa [show cRight (⟨#[114]⟩ : ByteArray).data.toList (⟨#[102]⟩ : ByteArray).data.toList (⟨#[113]⟩ : ByteArray).data.toList 5 1 1 0 (⟨#[]⟩ : ByteArray).data.toList = true from fix_right] at h
  have HRz : Hid (∀ W, Below w.heap.size w W → Calls Tryd.prog 33 #[cellV ⟨#[]⟩ ⟨#[]⟩ ⟨#[]⟩ 0 0 0 0 ⟨#[]⟩] W fun e w' => e = .returned (.bool false) ∧ Below W.heap.size W w') := fun W hW => by
    have h := cright_any ⟨#[]⟩ ⟨#[]⟩ ⟨#[]⟩ ⟨#[]⟩ 0 0 0 (vn := 0) (by unfold inI; omega) (by decide) (by decide) W (hL.below hW)
    rwa [show cRight (⟨#[]⟩ : ByteArray).data.toList (⟨#[]⟩ : ByteArray).data.toList (⟨#[]⟩ : ByteArray).data.toList 0 0 0 0 (⟨#[]⟩ : ByteArray).data.toList = false from fix_wrong] at h
  obtain ⟨L, hLL⟩ : ∃ L, cEnc [114] [102] [113] 5 1 1 0 [] = L := ⟨_, rfl⟩
  rw [hLL] at HEn HDe
  clear hL hlen hLL
  go_enter Tryd.func10, Tryd.ntmps10
  go_upto_region 4 with (fail)
  refine wp_ltr (fun W => Hid (Blk W w.heap.size 28 aX ∧ Blk W (w.heap.size + 1) 28 bX ∧ Below w.heap.size w W) ∧ W.cell? ⟨w.heap.size, 0, none⟩ = some (.string ⟨#[114]⟩) ∧ W.cell? ⟨w.heap.size, 1, none⟩ = some (.string ⟨#[102]⟩) ∧ W.cell? ⟨w.heap.size, 2, none⟩ = some (.string ⟨#[113]⟩) ∧ W.cell? ⟨w.heap.size, 3, none⟩ = some (.int .i64 5) ∧ W.cell? ⟨w.heap.size, 4, none⟩ = some (.int .i64 1) ∧ W.cell? ⟨w.heap.size, 5, none⟩ = some (.int .i64 1) ∧ W.cell? ⟨w.heap.size, 6, none⟩ = some (.int .i64 0) ∧ W.cell? ⟨w.heap.size, 7, none⟩ = some (.string ⟨#[]⟩)) ?_ (fun W hW => ?_)
  · have B0 : Blk (w.alloc (.cells aX 28)) w.heap.size 28 aX := Blk.new w _ _
    have B1 := B0.keep (below_new _ (.cells bX 28)) (by simp)
    have B2 : Blk ((w.alloc (.cells aX 28)).alloc (.cells bX 28)) (w.heap.size + 1) 28 bX := by have := Blk.new (w.alloc (.cells aX 28)) 28 bX; simpa using this
    exact ⟨⟨B1, B2, (below_new w _).alloc (by simp) _⟩, B1.cell 0, B1.cell 1, B1.cell 2, B1.cell 3, B1.cell 4, B1.cell 5, B1.cell 6, B1.cell 7⟩
  obtain ⟨HW, a0, a1, a2, a3, a4, a5, a6, a7⟩ := hW
  go_upto_region 5 with (first
    | (go_at_call 30; refine (HEn.out _ HW.out.2.2).mono ?_; rintro e w1 ⟨v1, rfl, hR1, hb1⟩; obtain ⟨A1, c1, rfl, hc1, hc1', hA1, _⟩ := hR1.sla; have HW1 := hid (HW.out.2.2.trans (hb1.mono HW.out.2.2.size)))
    )
  clear a0 a1 a2 a3 a4 a5 a6 a7
  go_upto_region 6 with (first
    | (go_at_call 12; refine (HDe.out _ A1 c1 HW1.out hA1 hc1 hc1').mono ?_; rintro e w2 ⟨rfl, hb2⟩)
    )
  go_upto_region 7 with (first
    | (go_at_call 14; refine (HTk.out (w2.alloc (.cells aX 28)) (w2.heap.size + 1) (by simp)).mono ?_; rintro e w3 ⟨g3, c3, rfl, hb3⟩))
  obtain ⟨cb, hcb⟩ : ∃ cb, w2.heap.size = cb := ⟨_, rfl⟩
  refine wp_ltr (fun W => Hid (AS w W cb) ∧ W.cell? ⟨w.heap.size, 0, none⟩ = some (.string ⟨#[114]⟩) ∧ W.cell? ⟨w.heap.size, 1, none⟩ = some (.string ⟨#[102]⟩) ∧ W.cell? ⟨w.heap.size, 2, none⟩ = some (.string ⟨#[113]⟩) ∧ W.cell? ⟨w.heap.size, 3, none⟩ = some (.int .i64 5) ∧ W.cell? ⟨w.heap.size, 4, none⟩ = some (.int .i64 1) ∧ W.cell? ⟨w.heap.size, 5, none⟩ = some (.int .i64 1) ∧ W.cell? ⟨w.heap.size, 6, none⟩ = some (.int .i64 0) ∧ W.cell? ⟨w.heap.size, 7, none⟩ = some (.string ⟨#[]⟩) ∧ W.cell? ⟨(w.heap.size + 1), 0, none⟩ = some (.string ⟨#[114]⟩) ∧ W.cell? ⟨(w.heap.size + 1), 1, none⟩ = some (.string ⟨#[102]⟩) ∧ W.cell? ⟨(w.heap.size + 1), 2, none⟩ = some (.string ⟨#[113]⟩) ∧ W.cell? ⟨(w.heap.size + 1), 3, none⟩ = some (.int .i64 4) ∧ W.cell? ⟨(w.heap.size + 1), 4, none⟩ = some (.int .i64 1) ∧ W.cell? ⟨(w.heap.size + 1), 5, none⟩ = some (.int .i64 1) ∧ W.cell? ⟨(w.heap.size + 1), 6, none⟩ = some (.int .i64 0) ∧ W.cell? ⟨(w.heap.size + 1), 7, none⟩ = some (.string ⟨#[]⟩) ∧ W.cell? ⟨cb, 0, none⟩ = some (.string ⟨#[114]⟩) ∧ W.cell? ⟨cb, 1, none⟩ = some (.string ⟨#[102]⟩) ∧ W.cell? ⟨cb, 2, none⟩ = some (.string ⟨#[113]⟩) ∧ W.cell? ⟨cb, 3, none⟩ = some (.int .i64 5) ∧ W.cell? ⟨cb, 4, none⟩ = some (.int .i64 1) ∧ W.cell? ⟨cb, 5, none⟩ = some (.int .i64 1) ∧ W.cell? ⟨cb, 6, none⟩ = some (.int .i64 0) ∧ W.cell? ⟨cb, 7, none⟩ = some (.string ⟨#[]⟩)) ?_ (fun W7 hW7 => ?_)
  · have B2 : Blk w2 w.heap.size 28 aX := ((HW.out.1.keep hb1 HW.out.1.lt).keep hb2 (HW.out.1.keep hb1 HW.out.1.lt).lt)
    have B2' : Blk w2 (w.heap.size + 1) 28 bX := ((HW.out.2.1.keep hb1 HW.out.2.1.lt).keep hb2 (HW.out.2.1.keep hb1 HW.out.2.1.lt).lt)
    have HB2 : Below w.heap.size w w2 := HW1.out.trans (hb2.mono HW1.out.size)
    have A0 : AS w (w2.alloc (.cells aX 28)) cb := ⟨B2.keep (below_new _ _) B2.lt, B2'.keep (below_new _ _) B2'.lt, by rw [← hcb]; exact Blk.new w2 _ _, HB2.alloc HB2.size _⟩
    have A3 : AS w w3 cb := (A0.below (below_new _ _)).below hb3
    exact ⟨A3, A3.a.cell 0, A3.a.cell 1, A3.a.cell 2, A3.a.cell 3, A3.a.cell 4, A3.a.cell 5, A3.a.cell 6, A3.a.cell 7, A3.b.cell 0, A3.b.cell 1, A3.b.cell 2, A3.b.cell 3, A3.b.cell 4, A3.b.cell 5, A3.b.cell 6, A3.b.cell 7, A3.c.cell 0, A3.c.cell 1, A3.c.cell 2, A3.c.cell 3, A3.c.cell 4, A3.c.cell 5, A3.c.cell 6, A3.c.cell 7⟩
  rw [hcb]
  obtain ⟨HA, a0, a1, a2, a3, a4, a5, a6, a7, b0, b1, b2, b3, b4, b5, b6, b7, c0, c1, c2, c3, c4, c5, c6, c7⟩ := hW7
  clear hcb hb1 hb2 hb3 HW HW1 hR1 hc1 hc1' hA1 HEn HDe HTk
  go_wp2_with (first
    | (go_at_call 31; refine (HOr.out _).mono ?_; rintro e w1 ⟨rfl, hb1⟩; have HA1 := hid (HA.out.below hb1))
    | (go_at_call 32; refine (HNu.out _).mono ?_; rintro e w2 ⟨v2, rfl, hR2, hb2⟩; have HA2 := hid (HA1.out.below hb2))
    | (go_at_call 18; refine (HSm.out _ _ _ hR2).mono ?_; rintro e w3 ⟨rfl, hb3⟩; have HA3 := hid ((HA2.out.below (below_new _ _)).below hb3); have d0 : w3.cell? ⟨w.heap.size, 0, none⟩ = some (.string ⟨#[114]⟩) := HA3.out.a.cell 0; have d1 : w3.cell? ⟨w.heap.size, 1, none⟩ = some (.string ⟨#[102]⟩) := HA3.out.a.cell 1; have d2 : w3.cell? ⟨w.heap.size, 2, none⟩ = some (.string ⟨#[113]⟩) := HA3.out.a.cell 2; have d3 : w3.cell? ⟨w.heap.size, 3, none⟩ = some (.int .i64 5) := HA3.out.a.cell 3; have d4 : w3.cell? ⟨w.heap.size, 4, none⟩ = some (.int .i64 1) := HA3.out.a.cell 4; have d5 : w3.cell? ⟨w.heap.size, 5, none⟩ = some (.int .i64 1) := HA3.out.a.cell 5; have d6 : w3.cell? ⟨w.heap.size, 6, none⟩ = some (.int .i64 0) := HA3.out.a.cell 6; have d7 : w3.cell? ⟨w.heap.size, 7, none⟩ = some (.string ⟨#[]⟩) := HA3.out.a.cell 7)
    | (go_at_call 33; ((with_reducible refine (HRi.out w3 HA3.out.bw).mono ?_); rintro e w4 ⟨rfl, hb4⟩; have HA4 := hid (HA3.out.below hb4)))
    | (go_at_call 33; ((with_reducible refine (HRz.out w4 HA4.out.bw).mono ?_); rintro e w5 ⟨rfl, hb5⟩; have HA5 := hid (HA4.out.below hb5))))
  go_ret
  exact ⟨rfl, HA5.out.bw⟩
end Go.Proofs.YtpjkhholpbfbpaaDoor

/- CodecReads at any bytes. Conditions: the slice holds its bytes; the tables of utf8 read as they are laid. -/
namespace Go.Proofs.YtpjkhholpbfbpaaDoor
open Go.RowKit

theorem ptM_rows_le : ∀ (n : Nat) (l : List UInt8) (ls : List (List UInt8)) (u : List UInt8), ptM n l = some (ls, u) → (∀ x ∈ ls, x.length ≤ l.length) ∧ ls.length + u.length ≤ l.length
  | 0, l, ls, u, h => by
    cases h
    simp
  | n + 1, l, ls, u, h => by
    cases ht : tk l with
    | none => rw [ptM_none ht] at h; cases h
    | some p =>
      obtain ⟨k, r⟩ := p
      have h0 := tk_less ht
      by_cases hk : k ≤ r.length
      · rw [ptM_some ht hk] at h
        obtain ⟨⟨ls', u'⟩, h1, h2⟩ := Option.map_eq_some_iff.1 h
        injection h2 with h2 h3
        subst h2 h3
        obtain ⟨i1, i2⟩ := ptM_rows_le n _ _ _ h1
        rw [List.length_drop] at i1 i2
        refine ⟨fun x hx => ?_, by simp only [List.length_cons]; omega⟩
        rcases List.mem_cons.1 hx with rfl | hx
        · rw [List.length_take]; omega
        · have := i1 x hx; omega
      · rw [ptM_long ht hk] at h; cases h
theorem parts_rows_le {l : List UInt8} {ls : List (List UInt8)} (h : partsM l = some ls) : (∀ x ∈ ls, x.length ≤ l.length) ∧ ls.length ≤ l.length := by
  unfold partsM at h
  cases ht : tk l with
  | none => rw [ht] at h; cases h
  | some p =>
    obtain ⟨n, r⟩ := p
    rw [ht] at h
    have h0 := tk_less ht
    simp only [] at h
    split at h
    · rename_i ls' hq
      cases h
      obtain ⟨a, b⟩ := ptM_rows_le n r ls [] hq
      exact ⟨fun x hx => Nat.le_trans (a x hx) (by omega), by simp at b; omega⟩
    · cases h

theorem dend_one (l : List UInt8) : ∃ (R F Q S : ByteArray) (t k vk vn : Int) (ok : Bool), ∀ w e w', DEnd l w e w' → e = .returned (.tuple #[cellV R F Q t k vk vn S, .bool ok]) ∧ Below w.heap.size w w' := by
  by_cases hno : NoCell l
  · refine ⟨⟨#[]⟩, ⟨#[]⟩, ⟨#[]⟩, ⟨#[]⟩, 0, 0, 0, 0, false, fun w e w' h => ⟨?_, h.1⟩⟩
    rcases h.2 with ⟨r, f, q, t, k, vk, vn, vs, h1, h2, h3, _⟩ | ⟨_, h4⟩
    · exact absurd h3 (hno _ _ _ _ _ _ _ _ h1 h2)
    · exact h4
  · have hex : ∃ (r f q : List UInt8) (t k vk vn : Int) (vs : List UInt8), cRight r f q t k vk vn vs = true ∧ inI vn ∧ cEnc r f q t k vk vn vs = l := by
      unfold NoCell at hno
      false_or_by_contra
      rename_i hh
      exact hno fun r f q t k vk vn vs a b e => hh ⟨r, f, q, t, k, vk, vn, vs, a, b, e⟩
    obtain ⟨r, f, q, t, k, vk, vn, vs, h1, h2, h3⟩ := hex
    refine ⟨⟨r.toArray⟩, ⟨f.toArray⟩, ⟨q.toArray⟩, ⟨vs.toArray⟩, t, k, vk, vn, true, fun w e w' h => ?_⟩
    subst h3
    exact h.back h1 h2
theorem tend_one (l : List UInt8) (hl : l.length ≤ 2000) : ∃ (n : Int) (x : List UInt8) (b : Bool), x.length ≤ 1000000 ∧ (∀ w e w', TEndO w (tk l) e w' → ∃ v, e = .returned (.tuple #[.int .i64 n, v, .bool b]) ∧ Hid (SlA w' v x) ∧ Below w.heap.size w w') ∧ (∀ w e w', TkE w (tk l) e w' → ∃ v, e = .returned (.tuple #[.int .i64 n, v, .bool b]) ∧ Hid (SlA w' v x) ∧ Below w.heap.size w w') := by
  have hz : ∀ w, SlA w (.slice none 0 0) [] := fun w => ⟨none, 0, rfl, by simp, by omega, fun h => absurd h (by simp), fun _ => rfl⟩
  cases ht : tk l with
  | none => exact ⟨0, [], false, by simp, fun w e w' ⟨he, hb⟩ => ⟨_, he, hz _, hb⟩, fun w e w' ⟨he, hb⟩ => ⟨_, he, hz _, hb⟩⟩
  | some p =>
    obtain ⟨n, r⟩ := p
    have := tk_less ht
    exact ⟨n, r, true, by omega, fun w e w' ⟨v, he, hR, hb⟩ => ⟨v, he, hR.sla, hb⟩, fun w e w' ⟨v, he, hR, hb⟩ => ⟨v, he, hR.sla, hb⟩⟩
theorem pend_one (l : List UInt8) (hl : l.length ≤ 2000) : ∃ (L : List (List UInt8)) (b : Bool), ((∀ x ∈ L, x.length ≤ 1000000) ∧ L.length ≤ 1000000) ∧ ∀ w e w', PaEnd l w e w' → ∃ v, e = .returned (.tuple #[v, .bool b]) ∧ Hid (LsB w' v L) ∧ Below w.heap.size w w' := by
  unfold PaEnd
  cases hp : partsM l with
  | none => exact ⟨[], false, ⟨fun x hx => (by cases hx), by simp⟩, fun w e w' ⟨hb, he⟩ => ⟨_, he, (lsa_nil w').lsb, hb⟩⟩
  | some ls =>
    obtain ⟨a, b⟩ := parts_rows_le hp
    exact ⟨ls, true, ⟨fun x hx => by have := a x hx; omega, by omega⟩, fun w e w' ⟨hb, v, he, hL⟩ => ⟨v, he, hL, hb⟩⟩

theorem same_self3 (v1 v2 : Value) (l : List UInt8) (hl : l.length ≤ 1000000) (w : World) (h1 : SlA w v1 l) (h2 : SlA w v2 l) :
    Calls Tryd.prog 18 #[v1, v2] w fun e w' => e = .returned (.bool true) ∧ Below w.heap.size w w' := by
  have := same_sla v1 v2 l l hl w h1 h2
  rwa [decide_eq_true (rfl : l = l)] at this

/-- What the law's last line walks by. -/
structure RdEnd (w : World) (vb vo vx vy vl vk : Value) : Prop where
  b1 : ∀ W, Below w.heap.size w W → Calls Tryd.prog 18 #[vx, vy] W fun e w' => e = .returned (.bool true) ∧ Below W.heap.size W w'
  ls : ∀ W, Below w.heap.size w W → Calls Tryd.prog 19 #[vl, vk] W fun e w' => e = .returned (.bool true) ∧ Below W.heap.size W w'
  b2 : ∀ W, Below w.heap.size w W → Calls Tryd.prog 18 #[vo, vb] W fun e w' => e = .returned (.bool true) ∧ Below W.heap.size W w'

/-- What the law walks by. -/
structure RdHyp (w : World) (vb : Value) (l X : List UInt8) (L : List (List UInt8)) (R F Q S : ByteArray) (t k vk vn n : Int) (b1 b2 b3 : Bool) : Prop where
  alive : Calls Tryd.prog 10 #[] w fun e w' => e = .returned (.bool true) ∧ Below w.heap.size w w'
  copy : ∀ W, Below w.heap.size w W → Calls Tryd.prog 11 #[vb] W fun e w' => ∃ v', e = .returned v' ∧ Hid (SlA w' v' l) ∧ Below W.heap.size W w'
  dec : ∀ W u, Below w.heap.size w W → SlA W u l → Calls Tryd.prog 12 #[u] W fun e w' => e = .returned (.tuple #[cellV R F Q t k vk vn S, .bool b1]) ∧ Below W.heap.size W w'
  rdec : ∀ W, Below w.heap.size w W → Calls Tryd.prog 13 #[vb] W fun e w' => e = .returned (.tuple #[cellV R F Q t k vk vn S, .bool b1]) ∧ Below W.heap.size W w'
  take : ∀ W u, SlA W u l → Calls Tryd.prog 14 #[u] W fun e w' => ∃ v, e = .returned (.tuple #[.int .i64 n, v, .bool b2]) ∧ Hid (SlA w' v X) ∧ Below W.heap.size W w'
  rtake : ∀ W, Below w.heap.size w W → Calls Tryd.prog 15 #[vb] W fun e w' => ∃ v, e = .returned (.tuple #[.int .i64 n, v, .bool b2]) ∧ Hid (SlA w' v X) ∧ Below W.heap.size W w'
  parts : ∀ W u, SlA W u l → Calls Tryd.prog 16 #[u] W fun e w' => ∃ v, e = .returned (.tuple #[v, .bool b3]) ∧ Hid (LsB w' v L) ∧ Below W.heap.size W w'
  rparts : ∀ W, Below w.heap.size w W → Calls Tryd.prog 17 #[vb] W fun e w' => ∃ v, e = .returned (.tuple #[v, .bool b3]) ∧ Hid (LsB w' v L) ∧ Below W.heap.size W w'
  fin : ∀ W vo vx vy vl vk, Below w.heap.size w W → SlA W vo l → SlA W vx X → SlA W vy X → LsB W vl L → LsB W vk L → RdEnd W vb vo vx vy vl vk

abbrev cellA (R F Q S : ByteArray) (t k vk vn : Int) : Array Value := #[.string R, .string F, .string Q, .int .i64 t, .int .i64 k, .int .i64 vk, .int .i64 vn, .string S]

set_option maxRecDepth 100000 in
set_option maxHeartbeats 4000000 in
theorem reads_walk (A : Option Addr) (m c : Nat) (hm : m ≤ 2000) (l X : List UInt8) (L : List (List UInt8)) (R F Q S : ByteArray) (t k vk vn n : Int) (b1 b2 b3 : Bool) (w : World) (H : RdHyp w (.slice A m c) l X L R F Q S t k vk vn n b1 b2 b3) :
    Calls Tryd.prog 3 #[.slice A m c] w fun e w' => e = .returned (.bool true) ∧ Below w.heap.size w w' := by
  have H := hid H
  have HBlk : Hid (∀ (W W1 : World), Below (W.alloc (.cells (cellA R F Q S t k vk vn) 28)).heap.size (W.alloc (.cells (cellA R F Q S t k vk vn) 28)) W1 → Blk W1 W.heap.size 28 (cellA R F Q S t k vk vn) ∧ Below W.heap.size W W1) := fun W W1 hb => ⟨(Blk.new W _ _).keep hb (by simp), (below_new W _).trans (hb.mono (by simp))⟩
  go_enter Tryd.func3, Tryd.ntmps3
  go_upto_region 12 with (first
    | (go_at_call 10; refine H.out.alive.mono ?_; rintro e w1 ⟨rfl, hb1⟩)
    | (go_at_call 11; refine (H.out.copy _ hb1).mono ?_; rintro e w2 ⟨vo, rfl, hO, hb2⟩; have hc2 := hb1.trans (hb2.mono hb1.size))
    | (go_at_call 12; refine (H.out.dec _ _ hc2 hO.out).mono ?_; rintro e w3 ⟨rfl, hb3⟩; have hc3 := hc2.trans (hb3.mono hc2.size); have hO3 := hid (hO.out.below hb3))
    | (go_at_call 13; refine (H.out.rdec _ (hc3.alloc hc3.size _)).mono ?_; rintro e w4 ⟨rfl, hb4⟩; have hC4 := hid (HBlk.out _ _ hb4); clear hb4; have hc4 := hc3.trans (hC4.out.2.mono hc3.size); have hO4 := hid (hO3.out.below hC4.out.2))
    | (go_at_call 14; refine (H.out.take _ _ (hO4.out.below (below_new _ _))).mono ?_; rintro e w5 ⟨vx, rfl, hX, hb5⟩; have hD5 := hid (HBlk.out _ _ hb5); clear hb5; have hc5 := hc4.trans (hD5.out.2.mono hc4.size); have hO5 := hid (hO4.out.below hD5.out.2); have hC5 := hid (hC4.out.1.keep hD5.out.2 hC4.out.1.lt))
    | (go_at_call 15; refine (H.out.rtake _ hc5).mono ?_; rintro e w6 ⟨vy, rfl, hY, hb6⟩; have hc6 := hc5.trans (hb6.mono hc5.size))
    | (go_at_call 16; refine (H.out.parts _ _ (hO5.out.below hb6)).mono ?_; rintro e w7 ⟨vl, rfl, hL, hb7⟩; have hc7 := hc6.trans (hb7.mono hc6.size))
    | (go_at_call 17; refine (H.out.rparts _ hc7).mono ?_; rintro e w8 ⟨vk', rfl, hK, hb8⟩; have hc8 := hc7.trans (hb8.mono hc7.size); have e7 := hb7.trans (hb8.mono hb7.size); have e6 := hb6.trans (e7.mono hb6.size); have HZ := hid (H.out.fin w8 vo vx vy vl vk' hc8 (hO5.out.below e6) (hX.out.below e6) (hY.out.below e7) (hL.out.below hb8) hK.out); have HC := hid (hC5.out.keep e6 hC5.out.lt); have HD := hid (hD5.out.1.keep e6 hD5.out.1.lt); have p0 : w8.cell? ⟨w3.heap.size, 0, none⟩ = some (.string R) := HC.out.cell 0; have p1 : w8.cell? ⟨w3.heap.size, 1, none⟩ = some (.string F) := HC.out.cell 1; have p2 : w8.cell? ⟨w3.heap.size, 2, none⟩ = some (.string Q) := HC.out.cell 2; have p3 : w8.cell? ⟨w3.heap.size, 3, none⟩ = some (.int .i64 t) := HC.out.cell 3; have p4 : w8.cell? ⟨w3.heap.size, 4, none⟩ = some (.int .i64 k) := HC.out.cell 4; have p5 : w8.cell? ⟨w3.heap.size, 5, none⟩ = some (.int .i64 vk) := HC.out.cell 5; have p6 : w8.cell? ⟨w3.heap.size, 6, none⟩ = some (.int .i64 vn) := HC.out.cell 6; have p7 : w8.cell? ⟨w3.heap.size, 7, none⟩ = some (.string S) := HC.out.cell 7; have q0 : w8.cell? ⟨w4.heap.size, 0, none⟩ = some (.string R) := HD.out.cell 0; have q1 : w8.cell? ⟨w4.heap.size, 1, none⟩ = some (.string F) := HD.out.cell 1; have q2 : w8.cell? ⟨w4.heap.size, 2, none⟩ = some (.string Q) := HD.out.cell 2; have q3 : w8.cell? ⟨w4.heap.size, 3, none⟩ = some (.int .i64 t) := HD.out.cell 3; have q4 : w8.cell? ⟨w4.heap.size, 4, none⟩ = some (.int .i64 k) := HD.out.cell 4; have q5 : w8.cell? ⟨w4.heap.size, 5, none⟩ = some (.int .i64 vk) := HD.out.cell 5; have q6 : w8.cell? ⟨w4.heap.size, 6, none⟩ = some (.int .i64 vn) := HD.out.cell 6; have q7 : w8.cell? ⟨w4.heap.size, 7, none⟩ = some (.string S) := HD.out.cell 7))
  clear hb1 hb2 hb3 hb6 hb7 hb8 hc2 hc3 hc4 hc5 hc6 hc7 hO hO3 hO4 hO5 hC4 hC5 hD5 hX hY hL hK e6 e7 HC HD HBlk
  go_wp2_with (first
    | (go_at_call 18; with_reducible refine (HZ.out.b1 _ (Below.refl _ _)).mono ?_; rintro e w9 ⟨rfl, g1⟩)
    | (go_at_call 19; with_reducible refine (HZ.out.ls _ g1).mono ?_; rintro e w10 ⟨rfl, gg⟩; have g2 := g1.trans (gg.mono g1.size))
    | (go_at_call 18; with_reducible refine (HZ.out.b2 _ g2).mono ?_; rintro e w11 ⟨rfl, gg⟩; have g3 := g2.trans (gg.mono g2.size)))
  go_ret
  exact ⟨rfl, hc8.trans (g3.mono hc8.size)⟩

set_option maxRecDepth 100000 in
set_option maxHeartbeats 1000000 in
theorem reads_big (A : Option Addr) (m c : Nat) (h1 : 2000 < m) (w : World) (hL : LaidU w) :
    Calls Tryd.prog 3 #[.slice A m c] w fun e w' => e = .returned (.bool true) ∧ Below w.heap.size w w' := by
  have H := hid (calive_any w hL)
  go_enter Tryd.func3, Tryd.ntmps3
  go_wp2_with (go_at_call 10; refine H.out.mono ?_; rintro e w1 ⟨rfl, hb1⟩)
  go_ret
  exact ⟨rfl, hb1⟩

theorem reads_any (v : Value) (l : List UInt8) (w : World) (hL : LaidU w) (h : SlA w v l) :
    Calls Tryd.prog 3 #[v] w fun e w' => e = .returned (.bool true) ∧ Below w.heap.size w w' := by
  have h' := h
  obtain ⟨A, c, rfl, _⟩ := h'
  by_cases h1 : l.length ≤ 2000
  · obtain ⟨R, F, Q, S, t, k, vk, vn, b1, hd⟩ := dend_one l
    obtain ⟨n, X, b2, hX, ht, hr⟩ := tend_one l h1
    obtain ⟨L, b3, ⟨hL1, hL2⟩, hp⟩ := pend_one l h1
    exact reads_walk A l.length c h1 l X L R F Q S t k vk vn n b1 b2 b3 w {
      alive := calive_any w hL
      copy := fun W hW => (copy_any _ l (by omega) W (h.below hW)).mono fun e w' ⟨v, he, hR, hb⟩ => ⟨v, he, hR.sla, hb⟩
      dec := fun W u hW hu => by
        obtain ⟨A', c', rfl, q1, q2, q3, _⟩ := hu
        exact (cdecode_any A' c' l (by omega) q1 q2 W q3 (hL.below hW)).mono fun e w' hh => hd _ _ _ hh
      rdec := fun W hW => (refdecode3_any _ l (by omega) W (h.below hW)).mono fun e w' hh => hd _ _ _ hh
      take := fun W u hu => by
        obtain ⟨A', c', rfl, q1, q2, q3, _⟩ := hu
        exact (take_any A' c' l (by omega) q1 q2 W q3).mono fun e w' hh => ht _ _ _ hh
      rtake := fun W hW => (reftake3_any _ l (by omega) W (h.below hW)).mono fun e w' hh => hr _ _ _ hh
      parts := fun W u hu => by
        obtain ⟨A', c', rfl, q1, q2, q3, _⟩ := hu
        exact (parts_any A' c' l (by omega) q1 q2 W q3).mono fun e w' hh => hp _ _ _ hh
      rparts := fun W hW => (refparts_any _ l (by omega) W (h.below hW)).mono fun e w' hh => hp _ _ _ hh
      fin := fun W vo vx vy vl vk' hW ho hx hy hl hk => {
        b1 := fun V hV => same_self3 _ _ _ hX V (hx.below hV) (hy.below hV)
        ls := fun V hV => lists_same _ _ _ hL1 hL2 V (hl.below hV) (hk.below hV)
        b2 := fun V hV => same_self3 _ _ l (by omega) V (ho.below hV) ((h.below hW).below hV) } }
  · exact reads_big A l.length c (by omega) w hL
end Go.Proofs.YtpjkhholpbfbpaaDoor
