/- The document's Encode. Conditions: the tables' slice holds its ints. -/
import Derived.Test.YtofkfafdodhmdaaGreatDoorMfD
import Derived.Test.YtofkfafdodhmdaaGreatDoorMfIa
import Derived.Test.YtofkfafdodhmdaaGreatDoorNQ
namespace Go.Proofs.YtofkfafdodhmdaaGreatDoor
open Go.RowKit

set_option maxRecDepth 100000 in
set_option maxHeartbeats 4000000 in
theorem rencode_no (s : Sta) (v : Value) (w : World) (h : SlI w v s.t) (hr : s.right = false) :
    Calls Tryz.prog 10 #[staV s.g s.a s.n v] w (EcEnd w s) := by
  have HR : Hid (∀ W, Below w.heap.size w W → Calls Tryz.prog 16 #[staV s.g s.a s.n v] W fun e w' => e = .returned (.bool false) ∧ Below W.heap.size W w') := fun W hW => by
    have := rright_any s v W (h.below hW)
    rwa [hr] at this
  have HE : Hid (∀ w', Below w.heap.size w w' → EcEnd w s (.returned (.tuple #[.slice Option.none 0 0, .bool false])) w') := fun w' hb => ⟨by rw [hr]; exact rfl, hb⟩
  obtain ⟨A, c, e, _⟩ := h
  obtain ⟨g, a, n, t⟩ := s
  dsimp only at e HR ⊢
  subst e
  go_enter Tryz.func10, Tryz.ntmps10
  go_wp2_with (go_at_call 16; refine (HR.out _ (below_new _ _)).mono ?_; rintro e w1 ⟨rfl, hb⟩)
  go_ret2
  exact HE.out _ ((below_new _ _).trans (hb.mono (by simp)))

set_option maxRecDepth 100000 in
set_option maxHeartbeats 8000000 in
theorem rencode_yes (s : Sta) (v : Value) (w : World) (h : SlI w v s.t) (hr : s.right = true) :
    Calls Tryz.prog 10 #[staV s.g s.a s.n v] w (EcEnd w s) := by
  have HR : Hid (∀ W, Below w.heap.size w W → Calls Tryz.prog 16 #[staV s.g s.a s.n v] W fun e w' => e = .returned (.bool true) ∧ Below W.heap.size W w') := fun W hW => by
    have := rright_any s v W (h.below hW)
    rwa [hr] at this
  have HE : Hid (∀ u w', Row w' w.heap.size u s.enc → Below w.heap.size w w' → EcEnd w s (.returned (.tuple #[u, .bool true])) w') := fun u w' hu hb => ⟨by rw [hr]; exact ⟨_, rfl, hu⟩, hb⟩
  have hk := (s.right_iff).1 hr
  have HIn := hid (nums_in hk)
  have HLn := hid (nums_len hk)
  have htl := hk.tl
  have HNm : Hid (∀ (W : World) (x : Int), 0 ≤ x → x < 9223372036854775808 → Calls Tryz.prog 41 #[.int .i64 x] W fun e w' => ∃ v, e = .returned v ∧ Row w' W.heap.size v (numW x.toNat) ∧ Below W.heap.size W w') := fun W x h0 h1 => by
    have := refNum_any x.toNat (by omega) W
    rwa [Int.toNat_of_nonneg h0] at this
  have HS := hid h
  obtain ⟨A, c, e, _⟩ := h
  obtain ⟨g, a, n, t⟩ := s
  dsimp only at e HR HE HIn HLn HS htl ⊢
  subst e
  obtain ⟨m, hm⟩ : ∃ m, t.length = m := ⟨_, rfl⟩
  rw [hm] at HR HS htl ⊢
  have HM := hid hm
  clear hr hk hm
  go_enter Tryz.func10, Tryz.ntmps10
  go_upto_region 3 with (go_at_call 16; refine (HR.out _ (below_new _ _)).mono ?_; rintro e w1 ⟨rfl, hb⟩)
  have HB1 : Hid (Blk w1 w.heap.size 24 #[.int .i64 g, .int .i64 a, .int .i64 n, .slice A m c] ∧ Below w.heap.size w w1) := ⟨(Blk.new w _ _).keep hb (by simp), (below_new w _).trans (hb.mono (by simp))⟩
  clear hb HR
  have r0 : w1.cell? ⟨w.heap.size, 0, Option.none⟩ = some (.int .i64 g) := HB1.out.1.cell 0
  have r1 : w1.cell? ⟨w.heap.size, 1, Option.none⟩ = some (.int .i64 a) := HB1.out.1.cell 1
  have r2 : w1.cell? ⟨w.heap.size, 2, Option.none⟩ = some (.int .i64 n) := HB1.out.1.cell 2
  have r3 : w1.cell? ⟨w.heap.size, 3, Option.none⟩ = some (.slice A m c) := HB1.out.1.cell 3
  have r4 : ∀ o, (w1.alloc o).cell? ⟨w.heap.size, 3, Option.none⟩ = some (.slice A m c) := fun o => (HB1.out.1.keep (below_new _ _) HB1.out.1.lt).cell 3
  have hb1 := HB1.out.2.size
  have HI1 : Hid (IRow (w1.alloc (.cells #[.int .i64 g, .int .i64 a, .int .i64 n, .int .i64 m] 3)) w.heap.size (.slice (some ⟨w1.heap.size, 0, Option.none⟩) 4 4) [g, a, n, (m : Int)] ∧ SlI (w1.alloc (.cells #[.int .i64 g, .int .i64 a, .int .i64 n, .int .i64 m] 3)) (.slice A m c) t) := ⟨irow_new w1 w.heap.size hb1 [g, a, n, (m : Int)] (by simp) #[.int .i64 g, .int .i64 a, .int .i64 n, .int .i64 m] rfl (0, 0) rfl, (HS.out.below HB1.out.2).below (below_new _ _)⟩
  go_upto_region 5 with (at_builtin; refine wpList_append_ints rfl (.tmp 20) (.tmp 22) rfl rfl _ w.heap.size _ [g, a, n, (m : Int)] rfl HI1.out.1 A c t (by rw [HM.out]; rfl) HI1.out.2.holdsI (by rw [HM.out]; simp; omega) (by simp; omega) ?_; intro v2 w2 hI2 hb2 _)
  have HS5 : Hid (IRow w2 w.heap.size v2 (⟨g, a, n, t⟩ : Sta).nums ∧ Below w.heap.size w w2) := by
    have e5 : [g, a, n, (m : Int)] ++ t = (⟨g, a, n, t⟩ : Sta).nums := by unfold Sta.nums; rw [HM.out]; rfl
    rw [e5] at hI2
    exact ⟨hI2, (HB1.out.2.trans ((below_new _ _).mono hb1)).trans hb2⟩
  clear hI2 hb2
  obtain ⟨ns, hns⟩ : ∃ ns, (⟨g, a, n, t⟩ : Sta).nums = ns := ⟨_, rfl⟩
  have HEn : Hid ((⟨g, a, n, t⟩ : Sta).enc = numsW ns) := by unfold Hid Sta.enc; rw [hns]
  rw [hns] at HS5 HIn HLn
  have hnl : ns.length = m + 4 := by rw [← hns]; unfold Sta.nums; simp only [List.length_cons]; rw [HM.out]
  obtain ⟨A5, c5, e5, _⟩ := HS5.out.1.slI
  subst e5
  obtain ⟨B, o, rfl, hh⟩ := HS5.out.1.slI.holdsI (by omega)
  obtain ⟨q, hq⟩ : ∃ q, ns.length = q := ⟨_, rfl⟩
  have hq2 : q ≤ 54 := by omega
  rw [hq]
  have HNl := hid hq
  have hw2 := HS5.out.2.size
  have HH := hid hh
  have HR0 := hid (empty_rowd9 w2 w2.heap.size (Nat.le_refl _))
  clear hns hnl hh r0 r1 r2 r3 r4 HS HM HB1 htl hq
  go_wp2
  go_loopw [5, 6] (fun vb vi wr => ∃ k : Nat, k ≤ q ∧ vi = .int .i64 k ∧ Row wr w2.heap.size vb (numsW (ns.take k)) ∧ Hid (Below w2.heap.size w2 wr)) (fun _ vi _ => q - (intOf vi).toNat)
  case atStart => exact ⟨0, Nat.zero_le _, rfl, HR0.out, below_new _ _⟩
  case round =>
    obtain ⟨k, hk, rfl, hR, HB⟩ := hrel
    have HR := hid hR
    obtain ⟨A4, c4, e4, _⟩ := hR.sla
    subst e4
    clear hR HR0
    by_cases hlt : k < q
    · have hkl : k < ns.length := by rw [HNl.out]; exact hlt
      have q1 : wr.cell? ⟨B, o + k, Option.none⟩ = some (.int .i64 (ns.getD k 0)) := HH.out.below HB.out (HH.out.lt (by omega)) k hkl
      obtain ⟨y, hy⟩ : ∃ y : Int, ns.getD k 0 = y := ⟨_, rfl⟩
      have HT : Hid (numsW (ns.take (k + 1)) = numsW (ns.take k) ++ numW y.toNat) := by rw [← hy]; exact numsW_take ns k hkl
      have hyn : 0 ≤ y ∧ y < 9223372036854775808 := by
        refine HIn.out y ?_
        rw [← hy, List.getD_eq_getElem?_getD, List.getElem?_eq_getElem hkl]
        exact List.getElem_mem hkl
      have HN : Hid (Calls Tryz.prog 41 #[.int .i64 y] wr fun e w' => ∃ A5 c5, e = .returned (.slice A5 (numW y.toNat).length c5) ∧ Hid (Row w' wr.heap.size (.slice A5 (numW y.toNat).length c5) (numW y.toNat)) ∧ Below wr.heap.size wr w') := by
        refine (HNm.out wr y hyn.1 hyn.2).mono ?_
        rintro e w' ⟨v, rfl, hR', hb'⟩
        obtain ⟨A5, c5, rfl, _⟩ := id hR'.sla
        exact ⟨A5, c5, rfl, hR', hb'⟩
      have HL : Hid ((numsW (ns.take k)).length + (numW y.toNat).length ≤ 1000000) := by
        have h1 := numsW_len (ns.take (k + 1)) fun x hx => HIn.out x (List.mem_of_mem_take hx)
        have h2 : (ns.take (k + 1)).length ≤ 54 := by rw [List.length_take]; have := HNl.out; omega
        rw [HT.out, List.length_append] at h1
        unfold Hid
        omega
      rw [hy] at q1
      have hbs := HB.out.size
      clear hy hyn
      go_wp2_with (first
        | (go_at_call 41; refine HN.out.mono ?_; rintro e w3 ⟨A5, c5, rfl, hR3, hb3⟩)
        | (at_builtin; refine wpList_append_any rfl (.tmp 31) (.tmp 36) rfl rfl _ w2.heap.size _ (numsW (ns.take k)) rfl (HR.out.keep hb3 HR.out.block_lt) A5 c5 (numW y.toNat) rfl hR3.out.sla.hadA HL.out (Nat.le_trans hbs hb3.size) ?_; intro v' w' hR' hb'))
      go_roundw
      case rel => exact ⟨k + 1, by omega, by go_num, by rw [HT.out]; exact hR', (HB.out.trans (hb3.mono hbs)).trans hb'⟩
      case measure => simp [intOf]; omega
    · go_wp2
      go_ret2
      have e : ns.take k = ns := List.take_of_length_le (by rw [HNl.out]; omega)
      have hR := HR.out
      refine HE.out _ _ ?_ (HS5.out.2.trans (HB.out.mono hw2))
      show Row wr w.heap.size (.slice A4 (numsW (ns.take k)).length c4) _
      have h1 := hR.le hw2
      rw [HEn.out]
      rw [e] at h1 ⊢
      exact h1
theorem rencode_any (s : Sta) (v : Value) (w : World) (h : SlI w v s.t) : Calls Tryz.prog 10 #[staV s.g s.a s.n v] w (EcEnd w s) := by
  cases hr : s.right with
  | false => exact rencode_no s v w h hr
  | true => exact rencode_yes s v w h hr
end Go.Proofs.YtofkfafdodhmdaaGreatDoor
