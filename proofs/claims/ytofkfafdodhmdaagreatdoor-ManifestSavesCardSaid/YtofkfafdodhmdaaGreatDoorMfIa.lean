/- package manifest's Encode. Conditions: the tables' slice holds its ints. -/
import Derived.Test.YtofkfafdodhmdaaGreatDoorNB
import Derived.Test.YtofkfafdodhmdaaGreatDoorMfE
import Derived.Test.YtofkfafdodhmdaaGreatDoorNF
import Derived.Test.YtofkfafdodhmdaaGreatDoorNC
namespace Go.Proofs.YtofkfafdodhmdaaGreatDoor
open Go.RowKit

def EcEnd (w : World) (s : Sta) (e : Ending) (w' : World) : Prop :=
  (if s.right = true then ∃ v, e = .returned (.tuple #[v, .bool true]) ∧ Row w' w.heap.size v s.enc else e = .returned (.tuple #[.slice Option.none 0 0, .bool false])) ∧ Below w.heap.size w w'
theorem nums_len {s : Sta} (h : s.Ok) : s.nums.length ≤ 54 := by
  have := h.tl
  unfold Sta.nums
  simp only [List.length_cons]
  omega
theorem numsW_len : ∀ l : List Int, (∀ x ∈ l, 0 ≤ x ∧ x < 9223372036854775808) → (numsW l).length ≤ 9 * l.length
  | [], _ => by simp [numsW]
  | x :: t, h => by
    have hx := h x List.mem_cons_self
    have h1 := numW_len9 x.toNat (by omega)
    have h2 := numsW_len t fun y hy => h y (List.mem_cons_of_mem _ hy)
    show (numW x.toNat ++ numsW t).length ≤ _
    rw [List.length_append, List.length_cons]
    omega
theorem enc_len {s : Sta} (h : s.Ok) : s.enc.length ≤ 486 := by
  have h1 := numsW_len s.nums (nums_in h)
  have h2 := nums_len h
  unfold Sta.enc
  omega
theorem empty_rowd9 (W : World) (B : Nat) (hB : B ≤ W.heap.size) : Row (W.alloc (.cells #[] 5)) B (.slice (some ⟨W.heap.size, 0, none⟩) 0 0) [] := Row.new W B hB [] (by unfold maxLen; simp)
theorem SlA.hadA {w : World} {A : Option Addr} {n c : Nat} {l : List UInt8} (h : SlA w (.slice A n c) l) : HoldsA w A l := by
  obtain ⟨_, _, e1, _, _, g1, _⟩ := h
  injection e1 with e1 _ _
  subst e1
  exact g1
theorem numsW_take (l : List Int) (k : Nat) (h : k < l.length) : numsW (l.take (k + 1)) = numsW (l.take k) ++ numW (l.getD k 0).toNat := by
  rw [List.take_succ_eq_append_getElem h, numsW_app, List.getD_eq_getElem?_getD, List.getElem?_eq_getElem h]
  show _ ++ (numW _ ++ []) = _
  rw [List.append_nil]
  rfl

set_option maxRecDepth 100000 in
set_option maxHeartbeats 4000000 in
theorem encode_no (s : Sta) (v : Value) (w : World) (h : SlI w v s.t) (hr : s.right = false) :
    Calls Tryz.prog 8 #[staV s.g s.a s.n v] w (EcEnd w s) := by
  have HR : Hid (∀ W, Below w.heap.size w W → Calls Tryz.prog 15 #[staV s.g s.a s.n v] W fun e w' => e = .returned (.bool false) ∧ Below W.heap.size W w') := fun W hW => by
    have := right9_any s v W (h.below hW)
    rwa [hr] at this
  have HE : Hid (∀ w', Below w.heap.size w w' → EcEnd w s (.returned (.tuple #[.slice Option.none 0 0, .bool false])) w') := fun w' hb => ⟨by rw [hr]; exact rfl, hb⟩
  obtain ⟨A, c, e, _⟩ := h
  obtain ⟨g, a, n, t⟩ := s
  dsimp only at e HR ⊢
  subst e
  go_enter Tryz.func8, Tryz.ntmps8
  go_wp2_with (go_at_call 15; refine (HR.out _ (below_new _ _)).mono ?_; rintro e w1 ⟨rfl, hb⟩)
  go_ret2
  exact HE.out _ ((below_new _ _).trans (hb.mono (by simp)))

set_option maxRecDepth 100000 in
set_option maxHeartbeats 8000000 in
theorem encode_yes (s : Sta) (v : Value) (w : World) (h : SlI w v s.t) (hr : s.right = true) :
    Calls Tryz.prog 8 #[staV s.g s.a s.n v] w (EcEnd w s) := by
  have HR : Hid (∀ W, Below w.heap.size w W → Calls Tryz.prog 15 #[staV s.g s.a s.n v] W fun e w' => e = .returned (.bool true) ∧ Below W.heap.size W w') := fun W hW => by
    have := right9_any s v W (h.below hW)
    rwa [hr] at this
  have HE : Hid (∀ u w', Row w' w.heap.size u s.enc → Below w.heap.size w w' → EcEnd w s (.returned (.tuple #[u, .bool true])) w') := fun u w' hu hb => ⟨by rw [hr]; exact ⟨_, rfl, hu⟩, hb⟩
  have hk := (s.right_iff).1 hr
  have HIn := hid (nums_in hk)
  have HLn := hid (nums_len hk)
  have htl := hk.tl
  have HNm : Hid (∀ (W : World) (x : Int), 0 ≤ x → x < 9223372036854775808 → Calls Tryz.prog 39 #[.int .i64 x] W fun e w' => ∃ v, e = .returned v ∧ Row w' W.heap.size v (numW x.toNat) ∧ Below W.heap.size W w') := fun W x h0 h1 => by
    have := num_any x.toNat (by omega) W
    rwa [Int.toNat_of_nonneg h0] at this
  have HS := hid h
  obtain ⟨A, c, e, _⟩ := h
  obtain ⟨g, a, n, t⟩ := s
  dsimp only at e HR HE HIn HLn HS htl ⊢
  subst e
  obtain ⟨m, hm⟩ : ∃ m, t.length = m := ⟨_, rfl⟩
  rw [hm] at HR HS htl ⊢
  have HM := hid hm
  clear hr hk hm
  go_enter Tryz.func8, Tryz.ntmps8
  go_upto_region 4 with (go_at_call 15; refine (HR.out _ (below_new _ _)).mono ?_; rintro e w1 ⟨rfl, hb⟩)
  have HB1 : Hid (Blk w1 w.heap.size 29 #[.int .i64 g, .int .i64 a, .int .i64 n, .slice A m c] ∧ Below w.heap.size w w1) := ⟨(Blk.new w _ _).keep hb (by simp), (below_new w _).trans (hb.mono (by simp))⟩
  clear hb HR
  have r0 : w1.cell? ⟨w.heap.size, 0, Option.none⟩ = some (.int .i64 g) := HB1.out.1.cell 0
  have r1 : w1.cell? ⟨w.heap.size, 1, Option.none⟩ = some (.int .i64 a) := HB1.out.1.cell 1
  have r2 : w1.cell? ⟨w.heap.size, 2, Option.none⟩ = some (.int .i64 n) := HB1.out.1.cell 2
  have r3 : w1.cell? ⟨w.heap.size, 3, Option.none⟩ = some (.slice A m c) := HB1.out.1.cell 3
  have r4 : ∀ o, (w1.alloc o).cell? ⟨w.heap.size, 3, Option.none⟩ = some (.slice A m c) := fun o => (HB1.out.1.keep (below_new _ _) HB1.out.1.lt).cell 3
  have HC : Hid (Calls Tryz.prog 38 #[.slice (some ⟨w1.heap.size + 1, 0, Option.none⟩) 2 2] ((w1.alloc (.cells #[.int .i64 g, .int .i64 a, .int .i64 n, .int .i64 m] 3)).alloc (.cells #[.slice (some ⟨w1.heap.size, 0, Option.none⟩) 4 4, .slice A m c] 22)) fun e w' => ∃ A5 c5, e = .returned (.slice A5 (m + 4) c5) ∧ Hid (SlI w' (.slice A5 (m + 4) c5) (⟨g, a, n, t⟩ : Sta).nums ∧ Below w.heap.size w w')) := by
    have hb1 := HB1.out.2.size
    have e1 := below_new w1 (.cells #[.int .i64 g, .int .i64 a, .int .i64 n, .int .i64 m] 3)
    have e2 := below_new (w1.alloc (.cells #[.int .i64 g, .int .i64 a, .int .i64 n, .int .i64 m] 3)) (.cells #[.slice (some ⟨w1.heap.size, 0, Option.none⟩) 4 4, .slice A m c] 22)
    have e3 : (w1.alloc (.cells #[.int .i64 g, .int .i64 a, .int .i64 n, .int .i64 m] 3)).heap.size = w1.heap.size + 1 := by simp
    have b2 := Blk.new (w1.alloc (.cells #[.int .i64 g, .int .i64 a, .int .i64 n, .int .i64 m] 3)) 22 #[.slice (some ⟨w1.heap.size, 0, Option.none⟩) 4 4, .slice A m c]
    rw [e3] at b2
    have i1 := (irow_new w1 w1.heap.size (Nat.le_refl _) [g, a, n, (m : Int)] (by simp) #[.int .i64 g, .int .i64 a, .int .i64 n, .int .i64 m] rfl (0, 0) rfl).slI.below e2
    have i2 := ((HS.out.below HB1.out.2).below e1).below e2
    refine (concat2 (w1.heap.size + 1) (some ⟨w1.heap.size, 0, Option.none⟩) A 4 c [g, a, n, (m : Int)] t (by simp) (by rw [HM.out]; simp; omega) _ ⟨Below.refl _ _, b2.cell 0, ?_, i1.holdsI, i2.holdsI⟩).mono ?_
    · rw [HM.out]; exact b2.cell 1
    · rintro e w' ⟨v5, rfl, h5, hb5⟩
      have e5 : [g, a, n, (m : Int)] ++ t = (⟨g, a, n, t⟩ : Sta).nums := by unfold Sta.nums; rw [HM.out]; rfl
      have e6 : (⟨g, a, n, t⟩ : Sta).nums.length = m + 4 := by unfold Sta.nums; simp only [List.length_cons]; rw [HM.out]
      rw [e5] at h5
      have h6 := h5.slI
      obtain ⟨A5, c5, rfl, _⟩ := id h6
      rw [e6] at h6 ⊢
      exact ⟨A5, c5, rfl, h6, (HB1.out.2.trans (e1.mono hb1)).trans ((e2.mono (by rw [e3]; omega)).trans (hb5.mono (by simp; omega)))⟩
  go_wp2_with (go_at_call 38; refine HC.out.mono ?_; rintro e w2 ⟨A5, c5, rfl, HS5⟩)
  obtain ⟨ns, hns⟩ : ∃ ns, (⟨g, a, n, t⟩ : Sta).nums = ns := ⟨_, rfl⟩
  have HEn : Hid ((⟨g, a, n, t⟩ : Sta).enc = numsW ns) := by unfold Hid Sta.enc; rw [hns]
  rw [hns] at HS5 HIn HLn
  have hnl : ns.length = m + 4 := by rw [← hns]; unfold Sta.nums; simp only [List.length_cons]; rw [HM.out]
  have HNl := hid hnl
  obtain ⟨B, o, rfl, hh⟩ := HS5.out.1.holdsI (by omega)
  obtain ⟨q, hq⟩ : ∃ q, m + 4 = q := ⟨_, rfl⟩
  have hq2 : q ≤ 54 := by omega
  have hqm : (m : Int) + 4 = (q : Int) := by omega
  rw [hq] at HNl ⊢
  rw [hqm]
  have hw2 := HS5.out.2.size
  have HH := hid hh
  clear hqm hns hnl hh r0 r1 r2 r3 r4 HS HM HB1 HC htl hq
  go_loopw [4, 25] (fun vb vi wr => ∃ k : Nat, k ≤ q ∧ vi = .int .i64 k ∧ Row wr w2.heap.size vb (numsW (ns.take k)) ∧ Hid (Below w2.heap.size w2 wr)) (fun _ vi _ => q - (intOf vi).toNat)
  case atStart => exact ⟨0, Nat.zero_le _, rfl, Row.none _ _, Below.refl _ _⟩
  case round =>
    obtain ⟨k, hk, rfl, hR, HB⟩ := hrel
    have HR := hid hR
    obtain ⟨A4, c4, e4, _⟩ := hR.sla
    subst e4
    clear hR
    by_cases hlt : k < q
    · have hkl : k < ns.length := by rw [HNl.out]; exact hlt
      have q1 : wr.cell? ⟨B, o + k, Option.none⟩ = some (.int .i64 (ns.getD k 0)) := HH.out.below HB.out (HH.out.lt (by omega)) k hkl
      obtain ⟨y, hy⟩ : ∃ y : Int, ns.getD k 0 = y := ⟨_, rfl⟩
      have HT : Hid (numsW (ns.take (k + 1)) = numsW (ns.take k) ++ numW y.toNat) := by rw [← hy]; exact numsW_take ns k hkl
      have hyn : 0 ≤ y ∧ y < 9223372036854775808 := by
        refine HIn.out y ?_
        rw [← hy, List.getD_eq_getElem?_getD, List.getElem?_eq_getElem hkl]
        exact List.getElem_mem hkl
      have HN : Hid (Calls Tryz.prog 39 #[.int .i64 y] wr fun e w' => ∃ A5 c5, e = .returned (.slice A5 (numW y.toNat).length c5) ∧ Hid (Row w' wr.heap.size (.slice A5 (numW y.toNat).length c5) (numW y.toNat)) ∧ Below wr.heap.size wr w') := by
        refine (HNm.out wr y hyn.1 hyn.2).mono ?_
        rintro e w' ⟨v, rfl, hR', hb'⟩
        obtain ⟨A5, c5, rfl, _⟩ := id hR'.sla
        exact ⟨A5, c5, rfl, hR', hb'⟩
      have HL : Hid ((numsW (ns.take k)).length + (numW y.toNat).length ≤ 1000000) := by
        have h1 := numsW_len (ns.take (k + 1)) fun x hx => HIn.out x (List.mem_of_mem_take hx)
        have h2 : (ns.take (k + 1)).length ≤ 54 := by rw [List.length_take]; have := HNl.out; omega
        rw [HT.out, List.length_append] at h1
        unfold Hid
        omega
      rw [hy] at q1
      have hbs := HB.out.size
      clear hy hyn
      go_wp2_with (first
        | (go_at_call 39; refine HN.out.mono ?_; rintro e w3 ⟨A5, c5, rfl, hR3, hb3⟩)
        | (at_builtin; refine wpList_append_any rfl (.tmp 29) (.tmp 31) rfl rfl _ w2.heap.size _ (numsW (ns.take k)) rfl (HR.out.keep hb3 HR.out.block_lt) A5 c5 (numW y.toNat) rfl hR3.out.sla.hadA HL.out (Nat.le_trans hbs hb3.size) ?_; intro v' w' hR' hb'))
      go_roundw
      case rel => exact ⟨k + 1, by omega, by go_num, by rw [HT.out]; exact hR', (HB.out.trans (hb3.mono hbs)).trans hb'⟩
      case measure => simp [intOf]; omega
    · go_wp2
      go_ret2
      have e : ns.take k = ns := List.take_of_length_le (by rw [HNl.out]; omega)
      have hR := HR.out
      refine HE.out _ _ ?_ (HS5.out.2.trans (HB.out.mono hw2))
      show Row wr w.heap.size (.slice A4 (numsW (ns.take k)).length c4) _
      have h1 := hR.le hw2
      rw [HEn.out]
      rw [e] at h1 ⊢
      exact h1
theorem encode_any (s : Sta) (v : Value) (w : World) (h : SlI w v s.t) : Calls Tryz.prog 8 #[staV s.g s.a s.n v] w (EcEnd w s) := by
  cases hr : s.right with
  | false => exact encode_no s v w h hr
  | true => exact encode_yes s v w h hr
end Go.Proofs.YtofkfafdodhmdaaGreatDoor
