/- The law SumBack's walk. Conditions: the list holds its rows; the int is one of 64 bits. -/
import Derived.Test.YtadehoibjpmhhaaDoorSZ
namespace Go.Proofs.YtadehoibjpmhhaaDoor
open Go.RowKit

structure BkHyp (w : World) (ls : List (List UInt8)) (A : Option Addr) (n c fl : Nat) : Prop where
  alive : Calls Tryd.prog 37 #[] w fun e w' => e = .returned (.bool true) ∧ Below w.heap.size w w'
  frame : ∀ W k (h : k < ls.length) A' c', SlA W (.slice A' (ls[k]).length c') ls[k] → Calls Tryd.prog 38 #[.slice A' (ls[k]).length c'] W fun e w' => ∃ g c2, e = .returned (.tuple #[.slice (some ⟨g, 0, none⟩) (frameM ls[k]).length c2, .bool true]) ∧ Hid (SlA w' (.slice (some ⟨g, 0, none⟩) (frameM ls[k]).length c2) (frameM ls[k])) ∧ Below W.heap.size W w'
  all : ∀ W v k t, k ≤ n → t ≤ fl → en ls k ≤ t → (k = n ∨ t < en ls (k + 1)) → SlA W v ((framesM ls).take t) → Calls Tryd.prog 42 #[v] W fun e w' => ∃ v2, e = .returned (.tuple #[v2, .int .i64 (en ls k : Nat), .int .i64 (if en ls k = t then 0 else 1)]) ∧ Hid (LsB w' v2 (ls.take k)) ∧ Below W.heap.size W w'
  same : ∀ W v k c', k ≤ n → Below w.heap.size w W → LsB W v (ls.take k) → Calls Tryd.prog 32 #[v, .slice A k c'] W fun e w' => e = .returned (.bool true) ∧ Below W.heap.size W w'

theorem bk_hyp (ls : List (List UInt8)) (A : Option Addr) (c : Nat) (hw : wgt ls ≤ 3000) (w : World) (hL : LsA w (.slice A ls.length c) ls) : BkHyp w ls A ls.length c (framesM ls).length where
  alive := alive4_any w
  frame := fun W k h A' c' hS => by
    have hx : (ls[k]).length + 1 ≤ wgt ls := wgt_mem (List.getElem_mem h)
    refine (frame_any _ ls[k] (by omega) W hS).mono fun e w' ⟨v, he, hR, hb⟩ => ?_
    obtain ⟨A2, c2, hv, hx⟩ := hR.sla
    obtain ⟨g, c3, hv2, _⟩ := hR.form (by rw [frame_len]; omega)
    subst hv2
    exact ⟨g, c3, he, hR.sla, hb⟩
  all := fun W v k t hk ht h1 h2 hS => by
    have hx : ∀ x ∈ ls, x.length ≤ 65536 := fun x hx => by have := wgt_mem hx; omega
    have hf := frames_small ls hx
    refine (all_any v _ (by rw [List.length_take]; omega) W hS).mono fun e w' ⟨v2, he, hR, hb⟩ => ?_
    rw [cut_frames ls hx k t hk ht h1 h2] at he hR
    refine ⟨v2, ?_, hR.lsb, hb⟩
    rw [he]
    by_cases hz : en ls k = t
    · simp [hz]
    · simp [hz]
  same := fun W v k c' hk hW hv => by
    have hx : ∀ x ∈ ls.take k, x.length ≤ 1000000 := fun x hx => by have := wgt_mem (List.mem_of_mem_take hx); omega
    have := wgt_len ls
    exact lists_same v _ (ls.take k) hx (by rw [List.length_take]; omega) W hv ((hL.below hW).lsb.take k hk c')

set_option maxRecDepth 100000 in
set_option maxHeartbeats 8000000 in
theorem back_walk (ls : List (List UInt8)) (A : Option Addr) (c n fl : Nat) (cut : Int) (hn : n ≤ 3000) (hnc : n ≤ c) (hcc : c ≤ 9223372036854775807) (hnl : ls.length = n) (hwg : wgt ls ≤ 3000) (hfl : (framesM ls).length = fl) (w : World) (hL : LsA w (.slice A n c) ls) (HW : WeighLe w (.slice A n c) 3000) (H : BkHyp w ls A n c fl) :
    Calls Tryd.prog 10 #[.slice A n c, .int .i64 cut] w fun e w' => e = .returned (.bool true) ∧ Below w.heap.size w w' := by
  have H := hid H
  have HW := hid HW
  have HL := hid hL
  have HN := hid hnl
  have HFE := hid hfl
  have HX : Hid (∀ x ∈ ls, x.length ≤ 65536) := fun x hx => by have := wgt_mem hx; omega
  have HF : Hid (∀ k, (framesM (ls.take k)).length ≤ 42000) := fun k => by
    have h1 := frames_small (ls.take k) (fun x hx => HX.out x (List.mem_of_mem_take hx))
    have := wgt_take_le ls k
    omega
  have H0 : Hid (∀ W : World, w.heap.size ≤ W.heap.size → Row ((W.alloc (.cells #[] 5)).alloc (.cells #[.int .i64 0] 3)) w.heap.size (.slice (some ⟨W.heap.size, 0, none⟩) 0 0) [] ∧ IRow ((W.alloc (.cells #[] 5)).alloc (.cells #[.int .i64 0] 3)) w.heap.size (.slice (some ⟨W.heap.size + 1, 0, none⟩) 1 1) (enZ ls 0)) := fun W hW => by
    refine ⟨(Row.new W w.heap.size hW [] (by unfold maxLen; simp)).alloc _, ?_⟩
    have e0 : enZ ls 0 = [0] := by unfold enZ; simp [en_zero]
    rw [e0]
    have hB : Blk ((W.alloc (.cells #[] 5)).alloc (.cells #[.int .i64 0] 3)) (W.heap.size + 1) 3 #[.int .i64 0] := by have := Blk.new (W.alloc (.cells #[] 5)) 3 #[.int .i64 0]; simpa using this
    exact ⟨rfl, .inr ⟨W.heap.size + 1, 1, #[.int .i64 0], rfl, by omega, hB, Nat.le_refl _, by unfold maxLen; omega, rfl, rfl⟩⟩
  clear hL hnl hfl
  go_enter Tryd.func10, Tryd.ntmps10
  go_wp2_with (first
    | (go_at_call 37; refine H.out.alive.mono ?_; rintro e w1 ⟨rfl, hb1⟩)
    | (go_at_call 34; refine (HW.out _ hb1).mono ?_; rintro e w2 ⟨z, rfl, hz, hb2⟩))
  go_loopw [5, 6, 7] (fun va ve vi wr => ∃ k : Nat, k ≤ n ∧ vi = .int .i64 k ∧ (∃ g5 c5, va = .slice (some ⟨g5, 0, none⟩) (framesM (ls.take k)).length c5 ∧ Row wr w.heap.size (.slice (some ⟨g5, 0, none⟩) (framesM (ls.take k)).length c5) (framesM (ls.take k))) ∧ IRow wr w.heap.size ve (enZ ls k) ∧ Below w.heap.size w wr) (fun _ _ vi _ => n - (intOf vi).toNat)
  case atStart => exact ⟨0, Nat.zero_le _, rfl, ⟨_, 0, rfl, by simpa [framesM] using (H0.out w2 (Nat.le_trans hb1.size hb2.size)).1⟩, (H0.out w2 (Nat.le_trans hb1.size hb2.size)).2, ((hb1.trans (hb2.mono hb1.size)).alloc (Nat.le_trans hb1.size hb2.size) _).alloc (by have := hb1.size; have := hb2.size; simp; omega) _⟩
  case round =>
    obtain ⟨k, hk, rfl, ⟨g5, c5, rfl, hR⟩, hI, hb⟩ := hrel
    have HR := hid hR
    obtain ⟨g6, c6, he6, hcells⟩ := hI.cells (by rw [enZ_len]; omega)
    subst he6
    have HI := hid hI
    have HCE := hid hcells
    clear hR hI hcells
    by_cases hlt : k < n
    · have hkl : k < ls.length := by rw [HN.out]; exact hlt
      obtain ⟨b, off, A', c', ea, hu, hSu⟩ := (HL.out.below hb).at k hkl
      have hSU := hid hSu
      subst ea
      have HT := hid (frames_take ls k hkl)
      have hbs := hb.size
      clear hSu
      go_wp2_with (first
        | (go_at_call 38; refine (H.out.frame _ k hkl _ _ hSU.out).mono ?_; rintro e w3 ⟨g2, c2, rfl, hS2, hb3⟩)
        | (at_builtin; refine wpList_append_any2 rfl (.tmp 38) (.tmp 39) rfl _ w.heap.size _ (framesM (ls.take k)) rfl (HR.out.keep hb3 HR.out.block_lt) ⟨g2, 0, none⟩ c2 (frameM ls[k]) rfl hS2.out.holdsA (by have := HF.out (k + 1); rw [HT.out, List.length_append] at this; omega) (Nat.le_trans hbs hb3.size) ?_; intro v4 w4 hR4 hb4 hg4; obtain ⟨g4, c4, e4, _⟩ := hR4.form (by rw [List.length_append, frame_len]; omega); subst e4; have hI4 := hid (World.ownsRow.kept (own_below HI.out hb3) hg4 (own_ne (by decide) (own_below HI.out hb3) (HR.out.keep hb3 HR.out.block_lt))))
        | (at_builtin; refine wpList_append_int rfl (.tmp 41) (.tmp 44) rfl _ w.heap.size _ (enZ ls k) rfl (World.ownsRow.alloc hI4.out _) w4.heap.size 1 _ rfl (cell_one _ _ _) (by rw [enZ_len]; omega) (by have := hb3.size; have := hb4.size; simp; omega) ?_; intro v5 w5 hI5 hb5 hg5))
      go_roundw
      case rel =>
        refine ⟨k + 1, by omega, by go_num, ?_, ?_, (((hb.trans (hb3.mono hbs)).trans hb4).alloc (by have := hb3.size; have := hb4.size; omega) _).trans hb5⟩
        · have hx : Row w5 w.heap.size (.slice (some ⟨g4, 0, none⟩) (framesM (ls.take k) ++ frameM ls[k]).length c4) (framesM (ls.take k) ++ frameM ls[k]) := by
            refine Row.grown ?_ hg5 (own_ne (by decide) hR4 hI4.out)
            exact hR4.alloc _
          rw [HT.out]
          exact ⟨g4, c4, by rw [List.length_append], hx⟩
        · rw [enZ_succ]
          have e1 : en ls (k + 1) = (framesM (ls.take k) ++ frameM ls[k]).length := by unfold en; rw [HT.out]
          rw [e1, List.length_append, Int.natCast_add]
          exact hI5
      case measure => simp [intOf]; omega
    · have hkn : k = ls.length := by have := HN.out; omega
      have HR2 : Hid (Row wr w.heap.size (.slice (some ⟨g5, 0, none⟩) fl c5) (framesM ls)) := by
        have := HR.out
        rwa [hkn, List.take_of_length_le (Nat.le_refl _), HFE.out] at this
      have hlen5 : (framesM (ls.take k)).length = fl := by rw [hkn, List.take_of_length_le (Nat.le_refl _)]; exact HFE.out
      have hFL : fl ≤ 42000 := by
        have := HF.out ls.length
        rwa [List.take_of_length_le (Nat.le_refl _), HFE.out] at this
      have hlen6 : (enZ ls k).length = n + 1 := by rw [enZ_len]; omega
      have HCE2 : Hid (∀ i, i ≤ n → wr.cell? ⟨g6, i, none⟩ = some (.int .i64 ((en ls i : Nat) : Int))) := fun i hi => by
        have := HCE.out i (by rw [hlen6]; omega)
        rwa [enZ_at] at this
      have HEA : Hid (∀ i, i ≤ n → en ls i ≤ fl) := fun i hi => by
        unfold en
        have := HFE.out
        have h1 := frames_app (ls.take i) (ls.drop i)
        rw [List.take_append_drop] at h1
        rw [h1, List.length_append] at this
        omega
      have HE0 := hid (en_zero ls)
      have HEN : Hid (en ls n = fl) := by unfold Hid; rw [← HN.out, en_all ls _ (Nat.le_refl _)]; exact HFE.out
      rw [hlen5, hlen6]
      clear HR HI HCE hlen5 hlen6 hkn
      have hbs := hb.size
      have hc3 : cut < 0 ∨ (0 ≤ cut ∧ (fl : Int) < cut) ∨ (∃ t : Nat, cut = t ∧ t ≤ fl) := by
        by_cases h1 : cut < 0
        · exact .inl h1
        · by_cases h2 : (fl : Int) < cut
          · exact .inr (.inl ⟨by omega, h2⟩)
          · exact .inr (.inr ⟨cut.toNat, by omega, by omega⟩)
      have hcap : fl ≤ c5 := by
        obtain ⟨A9, c9, e9, g9, _⟩ := HR2.out.sla
        injection e9 with _ e9 e10
        omega
      rcases hc3 with h1 | ⟨h1, h2⟩ | ⟨t, rfl, ht⟩
      · have HTL : Hid (fl ≤ fl) := by unfold Hid; omega
        go_wp2
        go_loopw [10] (fun vk wr' => ∃ k2 : Nat, k2 ≤ n ∧ vk = .int .i64 k2 ∧ Hid (en ls k2 ≤ fl) ∧ wr' = wr) (fun vk _ => n - (intOf vk).toNat)
        case atStart => exact ⟨0, Nat.zero_le _, rfl, by unfold Hid; rw [HE0.out]; exact Nat.zero_le _, rfl⟩
        case round =>
          obtain ⟨k2, hk2, rfl, HT2, rfl⟩ := hrel
          have hc0 := HCE2.out k2 hk2
          obtain ⟨E0, hE0⟩ : ∃ E0, en ls k2 = E0 := ⟨_, rfl⟩
          have HAL : Hid (∀ W v, (k2 = n ∨ fl < en ls (k2 + 1)) → SlA W v ((framesM ls).take fl) → Calls Tryd.prog 42 #[v] W fun e w' => ∃ A6 c6, e = .returned (.tuple #[.slice A6 k2 c6, .int .i64 (E0 : Nat), .int .i64 (if E0 = fl then 0 else 1)]) ∧ Hid (LsB w' (.slice A6 k2 c6) (ls.take k2)) ∧ Below W.heap.size W w') := fun W v hv hS => by
            refine (H.out.all W v k2 fl hk2 (by have := HTL.out; omega) HT2.out hv hS).mono ?_
            rintro e w' ⟨v2, rfl, hB, hbb⟩
            obtain ⟨A6, c6, e6, hx6⟩ := id hB.out
            have hl6 : (ls.take k2).length = k2 := by rw [List.length_take]; have := HN.out; omega
            rw [hl6] at e6
            subst e6
            rw [hE0]
            exact ⟨A6, c6, rfl, hB, hbb⟩
          have hE1 : E0 ≤ fl := by rw [← hE0]; exact HT2.out
          have hETL : fl ≤ 42000 := by have := HTL.out; omega
          rw [hE0] at hc0
          have HSL := hid (sla_take HR2.out.sla HFE.out fl HTL.out)
          clear hE0
          by_cases hlt2 : k2 < n
          · have hc1 := HCE2.out (k2 + 1) (by omega)
            obtain ⟨E, hE⟩ : ∃ E, en ls (k2 + 1) = E := ⟨_, rfl⟩
            rw [hE] at hc1
            by_cases hle : E ≤ fl
            · have HE2 : Hid (en ls (k2 + 1) ≤ fl) := by unfold Hid; omega
              clear hE
              go_wp2
              go_roundw
              case rel => exact ⟨k2 + 1, by omega, by go_num, HE2, trivial⟩
              case measure => simp [intOf]; omega
            · have HV : Hid (k2 = n ∨ fl < en ls (k2 + 1)) := .inr (by omega)
              clear hE
              by_cases hz : E0 = fl
              · simp only [if_pos hz] at HAL
                go_wp2_with (first
                  | (go_at_call 42; refine (HAL.out _ _ HV.out HSL.out).mono ?_; rintro e w7 ⟨A6, c6, rfl, hB6, hb7⟩; have q7 := (hb7.cell (p := ⟨g6, k2, none⟩) (cell_lt hc0)).trans hc0)
                  | (go_at_call 32; refine (H.out.same _ _ k2 _ hk2 (hb.trans (hb7.mono hbs)) hB6.out).mono ?_; rintro e w8 ⟨rfl, hb8⟩; have q8 := (hb8.cell (p := ⟨g6, k2, none⟩) (cell_lt q7)).trans q7))
                go_ret
                exact ⟨rfl, (hb.trans (hb7.mono hbs)).trans (hb8.mono (Nat.le_trans hbs hb7.size))⟩
              · simp only [if_neg hz] at HAL
                go_wp2_with (first
                  | (go_at_call 42; refine (HAL.out _ _ HV.out HSL.out).mono ?_; rintro e w7 ⟨A6, c6, rfl, hB6, hb7⟩; have q7 := (hb7.cell (p := ⟨g6, k2, none⟩) (cell_lt hc0)).trans hc0)
                  | (go_at_call 32; refine (H.out.same _ _ k2 _ hk2 (hb.trans (hb7.mono hbs)) hB6.out).mono ?_; rintro e w8 ⟨rfl, hb8⟩; have q8 := (hb8.cell (p := ⟨g6, k2, none⟩) (cell_lt q7)).trans q7))
                go_ret
                exact ⟨rfl, (hb.trans (hb7.mono hbs)).trans (hb8.mono (Nat.le_trans hbs hb7.size))⟩
          · have HV : Hid (k2 = n ∨ fl < en ls (k2 + 1)) := .inl (by omega)
            by_cases hz : E0 = fl
            · simp only [if_pos hz] at HAL
              go_wp2_with (first
                | (go_at_call 42; refine (HAL.out _ _ HV.out HSL.out).mono ?_; rintro e w7 ⟨A6, c6, rfl, hB6, hb7⟩; have q7 := (hb7.cell (p := ⟨g6, k2, none⟩) (cell_lt hc0)).trans hc0)
                | (go_at_call 32; refine (H.out.same _ _ k2 _ hk2 (hb.trans (hb7.mono hbs)) hB6.out).mono ?_; rintro e w8 ⟨rfl, hb8⟩; have q8 := (hb8.cell (p := ⟨g6, k2, none⟩) (cell_lt q7)).trans q7))
              go_ret
              exact ⟨rfl, (hb.trans (hb7.mono hbs)).trans (hb8.mono (Nat.le_trans hbs hb7.size))⟩
            · simp only [if_neg hz] at HAL
              go_wp2_with (first
                | (go_at_call 42; refine (HAL.out _ _ HV.out HSL.out).mono ?_; rintro e w7 ⟨A6, c6, rfl, hB6, hb7⟩; have q7 := (hb7.cell (p := ⟨g6, k2, none⟩) (cell_lt hc0)).trans hc0)
                | (go_at_call 32; refine (H.out.same _ _ k2 _ hk2 (hb.trans (hb7.mono hbs)) hB6.out).mono ?_; rintro e w8 ⟨rfl, hb8⟩; have q8 := (hb8.cell (p := ⟨g6, k2, none⟩) (cell_lt q7)).trans q7))
              go_ret
              exact ⟨rfl, (hb.trans (hb7.mono hbs)).trans (hb8.mono (Nat.le_trans hbs hb7.size))⟩
      · have HTL : Hid (fl ≤ fl) := by unfold Hid; omega
        go_wp2
        go_loopw [10] (fun vk wr' => ∃ k2 : Nat, k2 ≤ n ∧ vk = .int .i64 k2 ∧ Hid (en ls k2 ≤ fl) ∧ wr' = wr) (fun vk _ => n - (intOf vk).toNat)
        case atStart => exact ⟨0, Nat.zero_le _, rfl, by unfold Hid; rw [HE0.out]; exact Nat.zero_le _, rfl⟩
        case round =>
          obtain ⟨k2, hk2, rfl, HT2, rfl⟩ := hrel
          have hc0 := HCE2.out k2 hk2
          obtain ⟨E0, hE0⟩ : ∃ E0, en ls k2 = E0 := ⟨_, rfl⟩
          have HAL : Hid (∀ W v, (k2 = n ∨ fl < en ls (k2 + 1)) → SlA W v ((framesM ls).take fl) → Calls Tryd.prog 42 #[v] W fun e w' => ∃ A6 c6, e = .returned (.tuple #[.slice A6 k2 c6, .int .i64 (E0 : Nat), .int .i64 (if E0 = fl then 0 else 1)]) ∧ Hid (LsB w' (.slice A6 k2 c6) (ls.take k2)) ∧ Below W.heap.size W w') := fun W v hv hS => by
            refine (H.out.all W v k2 fl hk2 (by have := HTL.out; omega) HT2.out hv hS).mono ?_
            rintro e w' ⟨v2, rfl, hB, hbb⟩
            obtain ⟨A6, c6, e6, hx6⟩ := id hB.out
            have hl6 : (ls.take k2).length = k2 := by rw [List.length_take]; have := HN.out; omega
            rw [hl6] at e6
            subst e6
            rw [hE0]
            exact ⟨A6, c6, rfl, hB, hbb⟩
          have hE1 : E0 ≤ fl := by rw [← hE0]; exact HT2.out
          have hETL : fl ≤ 42000 := by have := HTL.out; omega
          rw [hE0] at hc0
          have HSL := hid (sla_take HR2.out.sla HFE.out fl HTL.out)
          clear hE0
          by_cases hlt2 : k2 < n
          · have hc1 := HCE2.out (k2 + 1) (by omega)
            obtain ⟨E, hE⟩ : ∃ E, en ls (k2 + 1) = E := ⟨_, rfl⟩
            rw [hE] at hc1
            by_cases hle : E ≤ fl
            · have HE2 : Hid (en ls (k2 + 1) ≤ fl) := by unfold Hid; omega
              clear hE
              go_wp2
              go_roundw
              case rel => exact ⟨k2 + 1, by omega, by go_num, HE2, trivial⟩
              case measure => simp [intOf]; omega
            · have HV : Hid (k2 = n ∨ fl < en ls (k2 + 1)) := .inr (by omega)
              clear hE
              by_cases hz : E0 = fl
              · simp only [if_pos hz] at HAL
                go_wp2_with (first
                  | (go_at_call 42; refine (HAL.out _ _ HV.out HSL.out).mono ?_; rintro e w7 ⟨A6, c6, rfl, hB6, hb7⟩; have q7 := (hb7.cell (p := ⟨g6, k2, none⟩) (cell_lt hc0)).trans hc0)
                  | (go_at_call 32; refine (H.out.same _ _ k2 _ hk2 (hb.trans (hb7.mono hbs)) hB6.out).mono ?_; rintro e w8 ⟨rfl, hb8⟩; have q8 := (hb8.cell (p := ⟨g6, k2, none⟩) (cell_lt q7)).trans q7))
                go_ret
                exact ⟨rfl, (hb.trans (hb7.mono hbs)).trans (hb8.mono (Nat.le_trans hbs hb7.size))⟩
              · simp only [if_neg hz] at HAL
                go_wp2_with (first
                  | (go_at_call 42; refine (HAL.out _ _ HV.out HSL.out).mono ?_; rintro e w7 ⟨A6, c6, rfl, hB6, hb7⟩; have q7 := (hb7.cell (p := ⟨g6, k2, none⟩) (cell_lt hc0)).trans hc0)
                  | (go_at_call 32; refine (H.out.same _ _ k2 _ hk2 (hb.trans (hb7.mono hbs)) hB6.out).mono ?_; rintro e w8 ⟨rfl, hb8⟩; have q8 := (hb8.cell (p := ⟨g6, k2, none⟩) (cell_lt q7)).trans q7))
                go_ret
                exact ⟨rfl, (hb.trans (hb7.mono hbs)).trans (hb8.mono (Nat.le_trans hbs hb7.size))⟩
          · have HV : Hid (k2 = n ∨ fl < en ls (k2 + 1)) := .inl (by omega)
            by_cases hz : E0 = fl
            · simp only [if_pos hz] at HAL
              go_wp2_with (first
                | (go_at_call 42; refine (HAL.out _ _ HV.out HSL.out).mono ?_; rintro e w7 ⟨A6, c6, rfl, hB6, hb7⟩; have q7 := (hb7.cell (p := ⟨g6, k2, none⟩) (cell_lt hc0)).trans hc0)
                | (go_at_call 32; refine (H.out.same _ _ k2 _ hk2 (hb.trans (hb7.mono hbs)) hB6.out).mono ?_; rintro e w8 ⟨rfl, hb8⟩; have q8 := (hb8.cell (p := ⟨g6, k2, none⟩) (cell_lt q7)).trans q7))
              go_ret
              exact ⟨rfl, (hb.trans (hb7.mono hbs)).trans (hb8.mono (Nat.le_trans hbs hb7.size))⟩
            · simp only [if_neg hz] at HAL
              go_wp2_with (first
                | (go_at_call 42; refine (HAL.out _ _ HV.out HSL.out).mono ?_; rintro e w7 ⟨A6, c6, rfl, hB6, hb7⟩; have q7 := (hb7.cell (p := ⟨g6, k2, none⟩) (cell_lt hc0)).trans hc0)
                | (go_at_call 32; refine (H.out.same _ _ k2 _ hk2 (hb.trans (hb7.mono hbs)) hB6.out).mono ?_; rintro e w8 ⟨rfl, hb8⟩; have q8 := (hb8.cell (p := ⟨g6, k2, none⟩) (cell_lt q7)).trans q7))
              go_ret
              exact ⟨rfl, (hb.trans (hb7.mono hbs)).trans (hb8.mono (Nat.le_trans hbs hb7.size))⟩
      · have HTL : Hid (t ≤ fl) := by unfold Hid; omega
        go_wp2
        go_loopw [10] (fun vk wr' => ∃ k2 : Nat, k2 ≤ n ∧ vk = .int .i64 k2 ∧ Hid (en ls k2 ≤ t) ∧ wr' = wr) (fun vk _ => n - (intOf vk).toNat)
        case atStart => exact ⟨0, Nat.zero_le _, rfl, by unfold Hid; rw [HE0.out]; exact Nat.zero_le _, rfl⟩
        case round =>
          obtain ⟨k2, hk2, rfl, HT2, rfl⟩ := hrel
          have hc0 := HCE2.out k2 hk2
          obtain ⟨E0, hE0⟩ : ∃ E0, en ls k2 = E0 := ⟨_, rfl⟩
          have HAL : Hid (∀ W v, (k2 = n ∨ t < en ls (k2 + 1)) → SlA W v ((framesM ls).take t) → Calls Tryd.prog 42 #[v] W fun e w' => ∃ A6 c6, e = .returned (.tuple #[.slice A6 k2 c6, .int .i64 (E0 : Nat), .int .i64 (if E0 = t then 0 else 1)]) ∧ Hid (LsB w' (.slice A6 k2 c6) (ls.take k2)) ∧ Below W.heap.size W w') := fun W v hv hS => by
            refine (H.out.all W v k2 t hk2 (by have := HTL.out; omega) HT2.out hv hS).mono ?_
            rintro e w' ⟨v2, rfl, hB, hbb⟩
            obtain ⟨A6, c6, e6, hx6⟩ := id hB.out
            have hl6 : (ls.take k2).length = k2 := by rw [List.length_take]; have := HN.out; omega
            rw [hl6] at e6
            subst e6
            rw [hE0]
            exact ⟨A6, c6, rfl, hB, hbb⟩
          have hE1 : E0 ≤ t := by rw [← hE0]; exact HT2.out
          have hETL : t ≤ 42000 := by have := HTL.out; omega
          have htc : t ≤ c5 := by have := HTL.out; omega
          rw [hE0] at hc0
          have HSL := hid (sla_take HR2.out.sla HFE.out t HTL.out)
          clear hE0
          by_cases hlt2 : k2 < n
          · have hc1 := HCE2.out (k2 + 1) (by omega)
            obtain ⟨E, hE⟩ : ∃ E, en ls (k2 + 1) = E := ⟨_, rfl⟩
            rw [hE] at hc1
            by_cases hle : E ≤ t
            · have HE2 : Hid (en ls (k2 + 1) ≤ t) := by unfold Hid; omega
              clear hE
              go_wp2
              go_roundw
              case rel => exact ⟨k2 + 1, by omega, by go_num, HE2, trivial⟩
              case measure => simp [intOf]; omega
            · have HV : Hid (k2 = n ∨ t < en ls (k2 + 1)) := .inr (by omega)
              clear hE
              by_cases hz : E0 = t
              · simp only [if_pos hz] at HAL
                go_wp2_with (first
                  | (go_at_call 42; refine (HAL.out _ _ HV.out HSL.out).mono ?_; rintro e w7 ⟨A6, c6, rfl, hB6, hb7⟩; have q7 := (hb7.cell (p := ⟨g6, k2, none⟩) (cell_lt hc0)).trans hc0)
                  | (go_at_call 32; refine (H.out.same _ _ k2 _ hk2 (hb.trans (hb7.mono hbs)) hB6.out).mono ?_; rintro e w8 ⟨rfl, hb8⟩; have q8 := (hb8.cell (p := ⟨g6, k2, none⟩) (cell_lt q7)).trans q7))
                go_ret
                exact ⟨rfl, (hb.trans (hb7.mono hbs)).trans (hb8.mono (Nat.le_trans hbs hb7.size))⟩
              · simp only [if_neg hz] at HAL
                go_wp2_with (first
                  | (go_at_call 42; refine (HAL.out _ _ HV.out HSL.out).mono ?_; rintro e w7 ⟨A6, c6, rfl, hB6, hb7⟩; have q7 := (hb7.cell (p := ⟨g6, k2, none⟩) (cell_lt hc0)).trans hc0)
                  | (go_at_call 32; refine (H.out.same _ _ k2 _ hk2 (hb.trans (hb7.mono hbs)) hB6.out).mono ?_; rintro e w8 ⟨rfl, hb8⟩; have q8 := (hb8.cell (p := ⟨g6, k2, none⟩) (cell_lt q7)).trans q7))
                go_ret
                exact ⟨rfl, (hb.trans (hb7.mono hbs)).trans (hb8.mono (Nat.le_trans hbs hb7.size))⟩
          · have HV : Hid (k2 = n ∨ t < en ls (k2 + 1)) := .inl (by omega)
            by_cases hz : E0 = t
            · simp only [if_pos hz] at HAL
              go_wp2_with (first
                | (go_at_call 42; refine (HAL.out _ _ HV.out HSL.out).mono ?_; rintro e w7 ⟨A6, c6, rfl, hB6, hb7⟩; have q7 := (hb7.cell (p := ⟨g6, k2, none⟩) (cell_lt hc0)).trans hc0)
                | (go_at_call 32; refine (H.out.same _ _ k2 _ hk2 (hb.trans (hb7.mono hbs)) hB6.out).mono ?_; rintro e w8 ⟨rfl, hb8⟩; have q8 := (hb8.cell (p := ⟨g6, k2, none⟩) (cell_lt q7)).trans q7))
              go_ret
              exact ⟨rfl, (hb.trans (hb7.mono hbs)).trans (hb8.mono (Nat.le_trans hbs hb7.size))⟩
            · simp only [if_neg hz] at HAL
              go_wp2_with (first
                | (go_at_call 42; refine (HAL.out _ _ HV.out HSL.out).mono ?_; rintro e w7 ⟨A6, c6, rfl, hB6, hb7⟩; have q7 := (hb7.cell (p := ⟨g6, k2, none⟩) (cell_lt hc0)).trans hc0)
                | (go_at_call 32; refine (H.out.same _ _ k2 _ hk2 (hb.trans (hb7.mono hbs)) hB6.out).mono ?_; rintro e w8 ⟨rfl, hb8⟩; have q8 := (hb8.cell (p := ⟨g6, k2, none⟩) (cell_lt q7)).trans q7))
              go_ret
              exact ⟨rfl, (hb.trans (hb7.mono hbs)).trans (hb8.mono (Nat.le_trans hbs hb7.size))⟩

set_option maxRecDepth 100000 in
set_option maxHeartbeats 1000000 in
theorem back_gt (A : Option Addr) (n c : Nat) (cut : Int) (w : World) (HW : WeighGt w (.slice A n c) 3000) :
    Calls Tryd.prog 10 #[.slice A n c, .int .i64 cut] w fun e w' => e = .returned (.bool true) ∧ Below w.heap.size w w' := by
  have H := hid (alive4_any w)
  have HW := hid HW
  go_enter Tryd.func10, Tryd.ntmps10
  go_wp2_with (first
    | (go_at_call 37; refine H.out.mono ?_; rintro e w1 ⟨rfl, hb1⟩)
    | (go_at_call 34; refine (HW.out _ hb1).mono ?_; rintro e w2 ⟨z, rfl, hz, hb2⟩))
  go_ret
  exact ⟨rfl, hb1.trans (hb2.mono hb1.size)⟩

theorem back_any (v : Value) (ls : List (List UInt8)) (cut : Int) (w : World) (hL : LsA w v ls) (hrow : ∀ x ∈ ls, x.length ≤ 9223372036850000000) (_ : (Lit.int .i64 cut).wf = true) :
    Calls Tryd.prog 10 #[v, .int .i64 cut] w fun e w' => e = .returned (.bool true) ∧ Below w.heap.size w w' := by
  have hL' := hL
  obtain ⟨A, c, rfl, h2, h3, _⟩ := hL'
  by_cases hw : wgt ls ≤ 3000
  · exact back_walk ls A c ls.length _ cut (Nat.le_trans (wgt_len ls) hw) h2 h3 rfl hw rfl w hL (weigh_le _ ls 3000 (by omega) hrow w hL hw) (bk_hyp ls A c hw w hL)
  · exact back_gt A _ c cut w (weigh_gt _ ls 3000 (by omega) hrow w hL (by omega))
end Go.Proofs.YtadehoibjpmhhaaDoor
