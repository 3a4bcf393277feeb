/- The law ManifestBits at every state and bit: true. Conditions: the slice holds its ints. -/
import Derived.Test.YtofkfafdodhmdaaGreatDoorNG
import Derived.Test.YtofkfafdodhmdaaGreatDoorNP
import Derived.Test.YtofkfafdodhmdaaGreatDoorMfTa
import Derived.Test.YtofkfafdodhmdaaGreatDoorNE
import Derived.Test.YtofkfafdodhmdaaGreatDoorSCR
namespace Go.Proofs.YtofkfafdodhmdaaGreatDoor
open Go.RowKit

/-- A frame of which one byte is another one, read. -/
theorem read_turned (l : List UInt8) (hl : l.length ≤ 65536) (p : Nat) (hp : (numW l.length).length ≤ p) (hpF : p < (frameM l).length) (c : UInt8) (hc : c ≠ (frameM l).getD p 0) : readS ((frameM l).set p c) = none := by
  have hfl := frame_len l
  have hbad := next_turned l hl (p - (numW l.length).length) (by omega) c (by
    intro e
    apply hc
    rw [e]
    have hfr : frameM l = numW l.length ++ (l ++ byW 4 (sumN l)) := by unfold frameM; rw [List.append_assoc]
    rw [List.getD_eq_getElem?_getD, hfr, List.getElem?_append_right (by omega), List.getElem?_eq_getElem (by rw [List.length_append, byW_len]; omega)]
    rfl)
  rw [show (numW l.length).length + (p - (numW l.length).length) = p by omega] at hbad
  unfold readS
  rw [allF_bad hbad (fun e => by have h0 := congrArg List.length e; rw [List.length_set] at h0; have h1 : ([] : List UInt8).length = 0 := rfl; omega), if_pos rfl]
theorem RowAt.below9 {w w1 : World} {g : Nat} {l : List UInt8} (h : RowAt w g l) (hb : Below w.heap.size w w1) (h0 : 0 < l.length) : RowAt w1 g l := ⟨h.1.below hb (h.1.lt h0), fun i => (hb.frozen (p := ⟨g, i, none⟩) (h.1.lt h0)).trans (h.2 i)⟩
theorem numW_sizes9 (m : Nat) (h : m ≤ 486) : ((numW m).length = 1 ∧ m < 128) ∨ ((numW m).length = 2 ∧ 128 ≤ m) := by
  by_cases q : m < 128
  · exact .inl ⟨by rw [numW_small q]; rfl, q⟩
  · refine .inr ⟨?_, by omega⟩
    rw [numW_big q, List.length_cons, numW_small (by omega)]
    rfl

set_option maxRecDepth 100000 in
set_option maxHeartbeats 16000000 in
theorem mbits_any (s : Sta) (v : Value) (bit : Int) (w : World) (hv : SlI w v s.t) (hbt : -9223372036854775808 ≤ bit ∧ bit < 9223372036854775808) :
    Calls Tryz.prog 6 #[staV s.g s.a s.n v, .int .i64 bit] w fun e w' => e = .returned (.bool true) ∧ Below w.heap.size w w' := by
  have HAl : Hid (∀ W, Calls Tryz.prog 7 #[] W fun e w' => e = .returned (.bool true) ∧ Below W.heap.size W w') := fun W => alive9_any W
  by_cases hbig : 60 < s.t.length
  · obtain ⟨A, c, e1, _⟩ := hv
    obtain ⟨g, a, n, t⟩ := s
    dsimp only at e1 hbig ⊢
    subst e1
    generalize t.length = m at *
    clear hbt
    go_enter Tryz.func6, Tryz.ntmps6
    go_upto_region 3 with (go_at_call 7; refine (HAl.out _).mono ?_; rintro e w1 ⟨rfl, hb1⟩; have HX1 := hid (bx_keep hb1); have z3 : w1.cell? ⟨w.heap.size, 3, Option.none⟩ = some (.slice A m c) := HX1.out.1.cell 3)
    go_wp2
    go_ret
    exact ⟨rfl, HX1.out.2⟩
  have hb1 : s.t.length ≤ 60 := by omega
  have HOf : Hid (∀ W, Below w.heap.size w W → Calls Tryz.prog 9 #[staV s.g s.a s.n v] W fun e w' => ∃ A3 m3 c3, e = .returned (staV s.g s.a s.n (.slice A3 m3 c3)) ∧ Hid (SlI w' (.slice A3 m3 c3) s.t) ∧ Below W.heap.size W w') := fun W hW => by
    refine (of9_any s v W (hv.below hW) (by omega)).mono ?_
    rintro e w' ⟨v', rfl, hI, hb⟩
    obtain ⟨A3, c3, rfl, _⟩ := id hI
    exact ⟨A3, _, c3, rfl, hI, hb⟩
  have HRt : Hid (∀ W, Below w.heap.size w W → Calls Tryz.prog 16 #[staV s.g s.a s.n v] W fun e w' => e = .returned (.bool s.right) ∧ Below W.heap.size W w') := fun W hW => rright_any s v W (hv.below hW)
  cases hr : s.right with
  | false =>
    rw [hr] at HRt
    have HEn : Hid (∀ W v2, SlI W v2 s.t → Calls Tryz.prog 8 #[staV s.g s.a s.n v2] W fun e w' => e = .returned (.tuple #[.slice Option.none 0 0, .bool false]) ∧ Below W.heap.size W w') := fun W v2 h2 => by
      refine (encode_any s v2 W h2).mono ?_
      rintro e w' ⟨h1, h3⟩
      rw [if_neg (by rw [hr]; decide)] at h1
      exact ⟨h1, h3⟩
    clear hr
    obtain ⟨A, c, e1, _⟩ := hv
    obtain ⟨g, a, n, t⟩ := s
    dsimp only at e1 hb1 HOf HRt HEn ⊢
    subst e1
    obtain ⟨m, hm⟩ : ∃ m, t.length = m := ⟨_, rfl⟩
    rw [hm] at hb1 HOf HRt ⊢
    clear hm hbig hbt
    go_enter Tryz.func6, Tryz.ntmps6
    go_upto_region 5 with (go_at_call 7; refine (HAl.out _).mono ?_; rintro e w1 ⟨rfl, hb1⟩; have HX1 := hid (bx_keep hb1); have z0 : w1.cell? ⟨w.heap.size, 0, Option.none⟩ = some (.int .i64 g) := HX1.out.1.cell 0; have z1 : w1.cell? ⟨w.heap.size, 1, Option.none⟩ = some (.int .i64 a) := HX1.out.1.cell 1; have z2 : w1.cell? ⟨w.heap.size, 2, Option.none⟩ = some (.int .i64 n) := HX1.out.1.cell 2; have z3 : w1.cell? ⟨w.heap.size, 3, Option.none⟩ = some (.slice A m c) := HX1.out.1.cell 3)
    go_wp2_with (first
      | (go_at_call 9; refine (HOf.out _ HX1.out.2).mono ?_; rintro e w2 ⟨A2, m2, c2, rfl, HV2, hb2⟩; have HX2 := hid (bx_go HX1.out hb2))
      | (go_at_call 8; refine (HEn.out _ _ HV2.out).mono ?_; rintro e w3 ⟨rfl, hb3⟩; have HX3 := hid (bx_go HX2.out hb3); have y0 : w3.cell? ⟨w.heap.size, 0, Option.none⟩ = some (.int .i64 g) := HX3.out.1.cell 0; have y1 : w3.cell? ⟨w.heap.size, 1, Option.none⟩ = some (.int .i64 a) := HX3.out.1.cell 1; have y2 : w3.cell? ⟨w.heap.size, 2, Option.none⟩ = some (.int .i64 n) := HX3.out.1.cell 2; have y3 : w3.cell? ⟨w.heap.size, 3, Option.none⟩ = some (.slice A m c) := HX3.out.1.cell 3)
      | (go_at_call 16; refine (HRt.out _ HX3.out.2).mono ?_; rintro e w4 ⟨rfl, hb4⟩; have HX4 := hid (bx_go HX3.out hb4)))
    go_ret
    exact ⟨rfl, HX4.out.2⟩
  | true =>
    have hok := (Sta.right_iff _).1 hr
    have hel := enc_len hok
    obtain ⟨l, hl⟩ : ∃ l, s.enc = l := ⟨_, rfl⟩
    have hdl : decS l = some s := by rw [← hl]; exact dec_enc hr
    obtain ⟨ne, hne⟩ : ∃ ne, l.length = ne := ⟨_, rfl⟩
    rw [hl, hne] at hel
    obtain ⟨F, hF⟩ : ∃ F, (frameM l).length = F := ⟨_, rfl⟩
    obtain ⟨k, hk⟩ : ∃ k, (numW l.length).length = k := ⟨_, rfl⟩
    have hFk : F = k + ne + 4 := by rw [← hF, frame_len, hk, hne]
    have hkz : k = 1 ∨ k = 2 := by
      rcases numW_sizes9 ne hel with ⟨h, _⟩ | ⟨h, _⟩
      · left; rw [← hk, hne]; exact h
      · right; rw [← hk, hne]; exact h
    have HEn : Hid (∀ W v2, SlI W v2 s.t → Calls Tryz.prog 8 #[staV s.g s.a s.n v2] W fun e w' => ∃ A7 c7, e = .returned (.tuple #[.slice A7 ne c7, .bool true]) ∧ Hid (SlA w' (.slice A7 ne c7) l) ∧ Below W.heap.size W w') := fun W v2 h2 => by
      refine (encode_any s v2 W h2).mono ?_
      rintro e w' ⟨h1, h3⟩
      rw [if_pos hr] at h1
      obtain ⟨v7, rfl, h4⟩ := h1
      have h5 := h4.sla
      rw [hl] at h5
      obtain ⟨A7, c7, rfl, _⟩ := id h5
      rw [hne] at h5 ⊢
      exact ⟨A7, c7, rfl, h5, h3⟩
    have HDc : Hid (∀ W v2, SlA W v2 l → Calls Tryz.prog 11 #[v2] W fun e w' => ∃ A9 c9, e = .returned (.tuple #[staV s.g s.a s.n (.slice A9 s.t.length c9), .bool true]) ∧ Hid (SlI w' (.slice A9 s.t.length c9) s.t) ∧ Below W.heap.size W w') := fun W v2 h2 => by
      refine (decode9_any v2 l (by omega) W h2).mono ?_
      intro e w' h
      rw [hdl] at h
      obtain ⟨v9, rfl, h1, _, h3⟩ := h
      obtain ⟨A9, c9, rfl, _⟩ := id h1
      exact ⟨A9, c9, rfl, h1, h3⟩
    have HFr : Hid (∀ W v2, SlA W v2 l → Calls Tryz.prog 37 #[v2] W fun e w' => ∃ b cf, e = .returned (.tuple #[.slice (some ⟨b, 0, none⟩) F cf, .bool true]) ∧ (F ≤ cf ∧ cf ≤ 9223372036854775807 ∧ W.heap.size ≤ b) ∧ Hid (RowAt w' b (frameM l)) ∧ Below W.heap.size W w') := fun W v2 h2 => by
      refine (refFrame_any v2 l (by omega) W h2).mono ?_
      rintro e w' ⟨v3, he, hR, hb⟩
      obtain ⟨b, cf, rfl, hB, h5, h6, h7⟩ := hR.at (by rw [hF]; omega)
      rw [hF] at he h5
      exact ⟨b, cf, he, ⟨h5, h6, hB⟩, h7, hb⟩
    have HSm : Hid (∀ W v1, Below w.heap.size w W → SlI W v1 s.t → Calls Tryz.prog 18 #[staV s.g s.a s.n v1, staV s.g s.a s.n v] W fun e w' => e = .returned (.bool true) ∧ Below W.heap.size W w') := fun W v1 hW h1 => by
      have := lsame_any s s v1 v W h1 (hv.below hW) (by omega) (by omega)
      rwa [same_ok] at this
    have HSz : Hid (∀ W, Calls Tryz.prog 18 #[staV 0 0 0 (.slice Option.none 0 0), staV 0 0 0 (.slice Option.none 0 0)] W fun e w' => e = .returned (.bool true) ∧ Below W.heap.size W w') := fun W => by
      have := lsame_any staZ staZ (.slice Option.none 0 0) (.slice Option.none 0 0) W (slI_nil W) (slI_nil W) (by show ([] : List Int).length ≤ _; simp) (by show ([] : List Int).length ≤ _; simp)
      rwa [same_ok] at this
    have HRd : Hid (∀ W b cf p q, F ≤ cf → cf ≤ 9223372036854775807 → k ≤ p → p < F → q < 8 → RowAt W b (frameM l) → Calls Tryz.prog 13 #[.slice (some ⟨b, 0, none⟩) F cf] (W.setCell ⟨b, p, none⟩ (.int .u8 ((((frameM l)[p]?.getD 0).toNat ^^^ 2 ^ q : Nat) : Int))) fun e w' => e = .returned (.tuple #[staV 0 0 0 (.slice Option.none 0 0), .int .i64 0, .int .i64 20]) ∧ Below W.heap.size (W.setCell ⟨b, p, none⟩ (.int .u8 ((((frameM l)[p]?.getD 0).toNat ^^^ 2 ^ q : Nat) : Int))) w') := fun W b cf p q h2 h3 hkp hpF hq hR => by
      obtain ⟨f1, f2⟩ := flip_ne ((frameM l).getD p 0) q hq
      have hS := hR.set p (by rw [hF]; exact hpF) (UInt8.ofNat (((frameM l).getD p 0).toNat ^^^ 2 ^ q))
      rw [f2, List.getD_eq_getElem?_getD] at hS
      have hn := read_turned l (by omega) p (by omega) (by omega) _ f1
      rw [List.getD_eq_getElem?_getD] at hn
      have hSl : SlA (W.setCell ⟨b, p, none⟩ (.int .u8 ((((frameM l)[p]?.getD 0).toNat ^^^ 2 ^ q : Nat) : Int))) (.slice (some ⟨b, 0, none⟩) F cf) ((frameM l).set p (UInt8.ofNat (((frameM l)[p]?.getD 0).toNat ^^^ 2 ^ q))) :=
        ⟨_, cf, by rw [List.length_set, hF], by rw [List.length_set, hF]; exact h2, h3, fun _ => ⟨b, 0, rfl, hS⟩, fun h => by cases h⟩
      refine (read9_any _ _ (by rw [List.length_set, hF]; omega) _ hSl).mono ?_
      rintro e w' ⟨h4, h5⟩
      rw [hn] at h4
      exact ⟨h4, by simpa using h5⟩
    have HFL := hid hF
    clear hr hok hdl hne hF hk hl hbig
    obtain ⟨A, c, e1, _⟩ := hv
    obtain ⟨g, a, n, t⟩ := s
    dsimp only at e1 hb1 HOf HRt HEn HDc HSm ⊢
    subst e1
    obtain ⟨m, hm⟩ : ∃ m, t.length = m := ⟨_, rfl⟩
    rw [hm] at hb1 HOf HRt HDc HSm ⊢
    clear hm HRt
    have h60 : ¬ (60 < (m : Int)) := by omega
    have hF1 : (F : Int) - (ne : Int) - 4 = (k : Int) := by omega
    have hk2 : k ≤ 2 := by omega
    have hFb : F ≤ 3006 := by omega
    have hF0 : 0 < F := by omega
    have hn9 : ne ≤ 486 := hel
    clear hFk hkz hel
    go_enter Tryz.func6, Tryz.ntmps6
    go_upto_region 5 with (go_at_call 7; refine (HAl.out _).mono ?_; rintro e w1 ⟨rfl, hb1⟩; have HX1 := hid (bx_keep hb1); have z0 : w1.cell? ⟨w.heap.size, 0, Option.none⟩ = some (.int .i64 g) := HX1.out.1.cell 0; have z1 : w1.cell? ⟨w.heap.size, 1, Option.none⟩ = some (.int .i64 a) := HX1.out.1.cell 1; have z2 : w1.cell? ⟨w.heap.size, 2, Option.none⟩ = some (.int .i64 n) := HX1.out.1.cell 2; have z3 : w1.cell? ⟨w.heap.size, 3, Option.none⟩ = some (.slice A m c) := HX1.out.1.cell 3)
    go_upto_region 8 with (first
      | (go_at_call 9; refine (HOf.out _ HX1.out.2).mono ?_; rintro e w2 ⟨A2, m2, c2, rfl, HV2, hb2⟩; have HX2 := hid (bx_go HX1.out hb2))
      | (go_at_call 8; refine (HEn.out _ _ HV2.out).mono ?_; rintro e w3 ⟨A7, c7, rfl, HVx, hb3⟩; have HX3 := hid (bx_go HX2.out hb3)))
    clear z0 z1 z2 z3 HX1 HX2 HV2 hb1 hb2 hb3 HEn HOf HAl
    go_upto_region 9 with (go_at_call 11; refine (HDc.out _ _ HVx.out).mono ?_; rintro e w5 ⟨A9, c9, rfl, HV9, hb5⟩)
    have HX5 := hid (bx_go HX3.out hb5)
    have e5 := below_new w5 (.cells #[.int .i64 g, .int .i64 a, .int .i64 n, .slice A9 m c9] 29)
    have HX6 := hid (bx_go HX5.out e5)
    have HB9 := hid (Blk.new w5 29 #[.int .i64 g, .int .i64 a, .int .i64 n, .slice A9 m c9])
    have HC6 := hid (And.intro ((HVx.out.below hb5).below e5) (HV9.out.below e5))
    obtain ⟨b9, hb9⟩ : ∃ b, w5.heap.size = b := ⟨_, rfl⟩
    obtain ⟨w6, hw6⟩ : ∃ w6, w5.alloc (.cells #[.int .i64 g, .int .i64 a, .int .i64 n, .slice A9 m c9] 29) = w6 := ⟨_, rfl⟩
    rw [hw6, hb9] at HB9
    rw [hw6] at HX6 HC6 ⊢
    rw [hb9]
    clear hw6 e5 HX5 HX3 hb5 HVx HV9 hb9 HDc
    go_upto_region 10 with (go_at_call 37; refine (HFr.out _ _ HC6.out.1).mono ?_; rintro e w7 ⟨b, cf, rfl, ⟨hf1, hf2, hf3⟩, HR7, hb7⟩)
    have HX7 := hid (bx_go HX6.out hb7)
    have HB97 := hid (HB9.out.keep hb7 HB9.out.lt)
    have HV97 := hid (HC6.out.2.below hb7)
    have z0 : w7.cell? ⟨w.heap.size, 0, Option.none⟩ = some (.int .i64 g) := HX7.out.1.cell 0
    have z1 : w7.cell? ⟨w.heap.size, 1, Option.none⟩ = some (.int .i64 a) := HX7.out.1.cell 1
    have z2 : w7.cell? ⟨w.heap.size, 2, Option.none⟩ = some (.int .i64 n) := HX7.out.1.cell 2
    have z3 : w7.cell? ⟨w.heap.size, 3, Option.none⟩ = some (.slice A m c) := HX7.out.1.cell 3
    have x0 : w7.cell? ⟨b9, 0, Option.none⟩ = some (.int .i64 g) := HB97.out.cell 0
    have x1 : w7.cell? ⟨b9, 1, Option.none⟩ = some (.int .i64 a) := HB97.out.cell 1
    have x2 : w7.cell? ⟨b9, 2, Option.none⟩ = some (.int .i64 n) := HB97.out.cell 2
    have x3 : w7.cell? ⟨b9, 3, Option.none⟩ = some (.slice A9 m c9) := HB97.out.cell 3
    have HG : Hid (w.heap.size ≤ b) := Nat.le_trans HX6.out.2.size hf3
    clear hb7 hf3 HX6 HB9 HC6 HFr
    go_upto_region 13 with (go_at_call 18; refine (HSm.out _ _ HX7.out.2 HV97.out).mono ?_; rintro e w8 ⟨rfl, hb8⟩; have HR8 := hid (And.intro (HX7.out.2.trans (hb8.mono HX7.out.2.size)) (show RowAt w8 b (frameM l) from HR7.out.below9 hb8 (by rw [HFL.out]; exact hF0))))
    clear z0 z1 z2 z3 x0 x1 x2 x3 HX7 HR7 HB97 HV97 hb8 HSm
    by_cases hin : 8 * (k : Int) ≤ bit ∧ bit < 8 * (F : Int)
    · obtain ⟨p, hp⟩ : ∃ p : Nat, bit / 8 = (p : Int) := ⟨(bit / 8).toNat, by omega⟩
      obtain ⟨q, hq⟩ : ∃ q : Nat, bit % 8 = (q : Int) := ⟨(bit % 8).toNat, by omega⟩
      obtain ⟨h1, h2⟩ := hin
      have hpF : p < F := by omega
      have hkp : k ≤ p := by omega
      have hq8 : q < 8 := by omega
      have HX : Hid (bits .xor .u8 ((((frameM l)[p]?.getD 0).toNat : Nat) : Int) (2 ^ q % 256) = ((((frameM l)[p]?.getD 0).toNat ^^^ 2 ^ q : Nat) : Int)) := by
        have hp2 : (2 : Nat) ^ q < 2 ^ 8 := Nat.pow_lt_pow_right (by decide) hq8
        have e : ((2 : Int) ^ q % 256) = ((2 ^ q : Nat) : Int) := by
          have : ((2 : Int) ^ q) = ((2 ^ q : Nat) : Int) := by push_cast; rfl
          rw [this]
          clear this
          generalize (2 : Nat) ^ q = Q at hp2 ⊢
          omega
        unfold Hid
        rw [e, u8_xor_nat _ _ (u8_lt _) (by omega)]
      have hb0 : 0 ≤ bit := by omega
      have hdv : bit.tdiv 8 = (p : Int) := by rw [Int.tdiv_eq_ediv_of_nonneg hb0]; exact hp
      have hmd : bit.tmod 8 = (q : Int) := by rw [Int.tmod_eq_emod_of_nonneg hb0]; exact hq
      have hpb : p ≤ 3006 := by omega
      have hbit : bit ≤ 24048 := by omega
      have hcell : w8.cell? ⟨b, p, Option.none⟩ = some (.int .u8 (((frameM l)[p]?.getD 0).toNat : Int)) := by
        have := HR8.out.2.1 p (by rw [HFL.out]; exact hpF)
        rwa [Nat.zero_add, List.getD_eq_getElem?_getD] at this
      have hfr : w8.frozen? ⟨b, p, Option.none⟩ = false := HR8.out.2.2 p
      have HRd2 := hid (HRd.out w8 b cf p q hf1 hf2 hkp hpF hq8 HR8.out.2)
      clear HRd hp hq hbt
      go_upto_region 17 with (go_at_call 13; rw [HX.out]; refine HRd2.out.mono ?_; rintro e w9 ⟨rfl, hb9⟩)
      have HB9 : Hid (Below w.heap.size w w9) := (HR8.out.1.setCell (p := ⟨b, p, none⟩) HG.out _).trans (hb9.mono HR8.out.1.size)
      have e9 := below_new w9 (.cells #[.int .i64 0, .int .i64 0, .int .i64 0, .slice Option.none 0 0] 29)
      have HBx := hid (Blk.new w9 29 #[.int .i64 0, .int .i64 0, .int .i64 0, .slice Option.none 0 0])
      have HB10 := hid (HB9.out.trans (e9.mono HB9.out.size))
      obtain ⟨w10, hw10⟩ : ∃ w10, w9.alloc (.cells #[.int .i64 0, .int .i64 0, .int .i64 0, .slice Option.none 0 0] 29) = w10 := ⟨_, rfl⟩
      rw [hw10] at HBx HB10 ⊢
      obtain ⟨bx, hbx⟩ : ∃ b, w9.heap.size = b := ⟨_, rfl⟩
      rw [hbx] at HBx ⊢
      have y0 : w10.cell? ⟨bx, 0, Option.none⟩ = some (.int .i64 0) := HBx.out.cell 0
      have y1 : w10.cell? ⟨bx, 1, Option.none⟩ = some (.int .i64 0) := HBx.out.cell 1
      have y2 : w10.cell? ⟨bx, 2, Option.none⟩ = some (.int .i64 0) := HBx.out.cell 2
      have y3 : w10.cell? ⟨bx, 3, Option.none⟩ = some (.slice Option.none 0 0) := HBx.out.cell 3
      clear hw10 hbx e9 hb9 HBx HB9 hcell hfr
      go_wp2_with (go_at_call 18; refine (HSz.out _).mono ?_; rintro e w11 ⟨rfl, hb11⟩)
      go_ret
      exact ⟨rfl, HB10.out.trans (hb11.mono HB10.out.size)⟩
    · have hout : bit < 8 * (k : Int) ∨ 8 * (F : Int) ≤ bit := by omega
      clear hin HRd HSz
      rcases hout with hout | hout
      · go_wp2
        go_ret
        exact ⟨rfl, HR8.out.1⟩
      · have hnb : ¬ (bit < 8 * (k : Int)) := by omega
        go_wp2
        go_ret
        exact ⟨rfl, HR8.out.1⟩
end Go.Proofs.YtofkfafdodhmdaaGreatDoor
