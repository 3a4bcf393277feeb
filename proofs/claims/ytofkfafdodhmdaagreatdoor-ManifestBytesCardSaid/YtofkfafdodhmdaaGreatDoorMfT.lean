/- The law ManifestBytes at every state and slice: true. Conditions: the slices hold their ints and bytes. -/
import Derived.Test.YtofkfafdodhmdaaGreatDoorMfI
import Derived.Test.YtofkfafdodhmdaaGreatDoorMfK
import Derived.Test.YtofkfafdodhmdaaGreatDoorNG
import Derived.Test.YtofkfafdodhmdaaGreatDoorNP
import Derived.Test.YtofkfafdodhmdaaGreatDoorMfTa
namespace Go.Proofs.YtofkfafdodhmdaaGreatDoor
open Go.RowKit

/-- What the last line stands on. -/
abbrev LastB (w : World) (b9 b11 b13 b16 : Nat) (s : Sta) (v : Value) (p : Sta) (v9 v11 : Value) (u : Sta) (v13 v16 : Value) (vx vy : Value) (xb : List UInt8) (W : World) : Prop :=
  Hid (Below w.heap.size w W ∧ SlI W v s.t ∧ SlA W vx xb ∧ SlA W vy xb ∧ SlI W v9 p.t ∧ SlI W v11 p.t ∧ SlI W v13 u.t ∧ SlI W v16 u.t) ∧
  St4 W w.heap.size s.g s.a s.n v ∧ St4 W b9 p.g p.a p.n v9 ∧ St4 W b11 p.g p.a p.n v11 ∧ St4 W b13 u.g u.a u.n v13 ∧ St4 W b16 u.g u.a u.n v16
theorem LastB.below {w W W' : World} {b9 b11 b13 b16 : Nat} {s p u : Sta} {v v9 v11 v13 v16 vx vy : Value} {xb : List UInt8} (h : LastB w b9 b11 b13 b16 s v p v9 v11 u v13 v16 vx vy xb W) (hb : Below W.heap.size W W') : LastB w b9 b11 b13 b16 s v p v9 v11 u v13 v16 vx vy xb W' := by
  obtain ⟨h0, c0, c1, c2, c3, c4⟩ := h
  obtain ⟨k0, k1, k2, k3, k4, k5, k6, k7⟩ := h0
  exact ⟨⟨k0.trans (hb.mono k0.size), k1.below hb, k2.below hb, k3.below hb, k4.below hb, k5.below hb, k6.below hb, k7.below hb⟩, c0.below hb c0.lt, c1.below hb c1.lt, c2.below hb c2.lt, c3.below hb c3.lt, c4.below hb c4.lt⟩
set_option maxRecDepth 100000 in
set_option maxHeartbeats 32000000 in
theorem bytes_any (s : Sta) (v : Value) (u : Value) (l : List UInt8) (w : World) (hv : SlI w v s.t) (hu : SlA w u l) :
    Calls Tryz.prog 3 #[staV s.g s.a s.n v, u] w fun e w' => e = .returned (.bool true) ∧ Below w.heap.size w w' := by
  have HAl : Hid (∀ W, Calls Tryz.prog 7 #[] W fun e w' => e = .returned (.bool true) ∧ Below W.heap.size W w') := fun W => alive9_any W
  by_cases hbig : 200 < s.t.length ∨ 3000 < l.length
  · obtain ⟨A, c, e1, _⟩ := hv
    obtain ⟨B, d, e2, _⟩ := hu
    obtain ⟨g, a, n, t⟩ := s
    dsimp only at e1 hbig ⊢
    subst e1; subst e2
    generalize t.length = m at *
    generalize l.length = ml at *
    go_enter Tryz.func3, Tryz.ntmps3
    go_upto_region 3 with (go_at_call 7; refine (HAl.out _).mono ?_; rintro e w1 ⟨rfl, hb1⟩; have HX1 := hid (bx_keep hb1); have z0 : w1.cell? ⟨w.heap.size, 0, Option.none⟩ = some (.int .i64 g) := HX1.out.1.cell 0; have z1 : w1.cell? ⟨w.heap.size, 1, Option.none⟩ = some (.int .i64 a) := HX1.out.1.cell 1; have z2 : w1.cell? ⟨w.heap.size, 2, Option.none⟩ = some (.int .i64 n) := HX1.out.1.cell 2; have z3 : w1.cell? ⟨w.heap.size, 3, Option.none⟩ = some (.slice A m c) := HX1.out.1.cell 3)
    by_cases h2 : 200 < m
    · go_wp2
      go_ret
      exact ⟨rfl, HX1.out.2⟩
    · have h3 : 3000 < ml := hbig.resolve_left h2
      go_wp2
      go_ret
      exact ⟨rfl, HX1.out.2⟩
  have hb1 : s.t.length ≤ 200 := by omega
  have hb2 : l.length ≤ 3000 := by omega
  have HOf : Hid (∀ W, Below w.heap.size w W → Calls Tryz.prog 9 #[staV s.g s.a s.n v] W fun e w' => ∃ A3 m3 c3, e = .returned (staV s.g s.a s.n (.slice A3 m3 c3)) ∧ Hid (SlI w' (.slice A3 m3 c3) s.t) ∧ Below W.heap.size W w') := fun W hW => by
    refine (of9_any s v W (hv.below hW) (by omega)).mono ?_
    rintro e w' ⟨v', rfl, hI, hb⟩
    obtain ⟨A3, c3, rfl, _⟩ := id hI
    exact ⟨A3, _, c3, rfl, hI, hb⟩
  have HEn : Hid (∀ W v2, SlI W v2 s.t → Calls Tryz.prog 8 #[staV s.g s.a s.n v2] W fun e w' => ∃ A m c, e = .returned (.tuple #[.slice A m c, .bool s.right]) ∧ Hid (SlA w' (.slice A m c) (encU s)) ∧ Below W.heap.size W w') := fun W v2 h2 => (encode_any s v2 W h2).mono fun e w' h => ec_u h
  have HRe : Hid (∀ W, Below w.heap.size w W → Calls Tryz.prog 10 #[staV s.g s.a s.n v] W fun e w' => ∃ A m c, e = .returned (.tuple #[.slice A m c, .bool s.right]) ∧ Hid (SlA w' (.slice A m c) (encU s)) ∧ Below W.heap.size W w') := fun W hW => (rencode_any s v W (hv.below hW)).mono fun e w' h => ec_u h
  have HDc : Hid (∀ W, Below w.heap.size w W → Calls Tryz.prog 11 #[u] W fun e w' => ∃ A m c, e = .returned (.tuple #[staV (decU l).g (decU l).a (decU l).n (.slice A m c), .bool (decS l).isSome]) ∧ Hid (SlI w' (.slice A m c) (decU l).t) ∧ Below W.heap.size W w') := fun W hW => (decode9_any u l (by omega) W (hu.below hW)).mono fun e w' h => dc_u h
  have HRd : Hid (∀ W, Below w.heap.size w W → Calls Tryz.prog 12 #[u] W fun e w' => ∃ A m c, e = .returned (.tuple #[staV (decU l).g (decU l).a (decU l).n (.slice A m c), .bool (decS l).isSome]) ∧ Hid (SlI w' (.slice A m c) (decU l).t) ∧ Below W.heap.size W w') := fun W hW => (rdecode_any u l (by omega) W (hu.below hW)).mono fun e w' h => dc_u h
  have HMr : Hid (∀ W, Below w.heap.size w W → Calls Tryz.prog 13 #[u] W fun e w' => ∃ A m c, e = .returned (.tuple #[staV (readU l).1.g (readU l).1.a (readU l).1.n (.slice A m c), .int .i64 ((readU l).2.1 : Int), .int .i64 (readU l).2.2]) ∧ Hid (SlI w' (.slice A m c) (readU l).1.t) ∧ Below W.heap.size W w') := fun W hW => (read9_any u l (by omega) W (hu.below hW)).mono fun e w' h => rds_u h
  have HRr : Hid (∀ W, Below w.heap.size w W → Calls Tryz.prog 14 #[u] W fun e w' => ∃ A m c, e = .returned (.tuple #[staV (readU l).1.g (readU l).1.a (readU l).1.n (.slice A m c), .int .i64 ((readU l).2.1 : Int), .int .i64 (readU l).2.2]) ∧ Hid (SlI w' (.slice A m c) (readU l).1.t) ∧ Below W.heap.size W w') := fun W hW => (rread_any u l (by omega) W (hu.below hW)).mono fun e w' h => rds_u h
  have HSb : Hid (∀ W v1 v2, SlA W v1 (encU s) → SlA W v2 (encU s) → Calls Tryz.prog 17 #[v1, v2] W fun e w' => e = .returned (.bool true) ∧ Below W.heap.size W w') := fun W v1 v2 h1 h2 => by
    have hl : (encU s).length ≤ 1000000 := by
      unfold encU
      by_cases hr : s.right = true
      · rw [if_pos hr]; have := enc_len ((Sta.right_iff _).1 hr); omega
      · rw [if_neg hr]; simp
    have := same_sla v1 v2 (encU s) (encU s) hl W h1 h2
    rwa [decide_eq_true rfl] at this
  have HMt : Hid (∀ W v2, SlI W v2 s.t → Calls Tryz.prog 15 #[staV s.g s.a s.n v2] W fun e w' => e = .returned (.bool s.right) ∧ Below W.heap.size W w') := fun W v2 h2 => right9_any s v2 W h2
  have HRt : Hid (∀ W, Below w.heap.size w W → Calls Tryz.prog 16 #[staV s.g s.a s.n v] W fun e w' => e = .returned (.bool s.right) ∧ Below W.heap.size W w') := fun W hW => rright_any s v W (hv.below hW)
  have HSd : Hid (∀ W v1 v2, SlI W v1 (decU l).t → SlI W v2 (decU l).t → Calls Tryz.prog 18 #[staV (decU l).g (decU l).a (decU l).n v1, staV (decU l).g (decU l).a (decU l).n v2] W fun e w' => e = .returned (.bool true) ∧ Below W.heap.size W w') := fun W v1 v2 h1 h2 => by
    have := lsame_any (decU l) (decU l) v1 v2 W h1 h2 (decU_len l) (decU_len l)
    rwa [same_ok] at this
  have HSr : Hid (∀ W v1 v2, SlI W v1 (readU l).1.t → SlI W v2 (readU l).1.t → Calls Tryz.prog 18 #[staV (readU l).1.g (readU l).1.a (readU l).1.n v1, staV (readU l).1.g (readU l).1.a (readU l).1.n v2] W fun e w' => e = .returned (.bool true) ∧ Below W.heap.size W w') := fun W v1 v2 h1 h2 => by
    have := lsame_any (readU l).1 (readU l).1 v1 v2 W h1 h2 (readU_len l) (readU_len l)
    rwa [same_ok] at this
  have HV := hid hv
  obtain ⟨A, c, e1, _⟩ := hv
  obtain ⟨B, d, e2, _⟩ := hu
  obtain ⟨xb, hxb⟩ : ∃ xb, encU s = xb := ⟨_, rfl⟩
  obtain ⟨rr, hrr⟩ : ∃ r, s.right = r := ⟨_, rfl⟩
  obtain ⟨p, hp⟩ : ∃ p, decU l = p := ⟨_, rfl⟩
  obtain ⟨pd, hpd⟩ : ∃ pd, (decS l).isSome = pd := ⟨_, rfl⟩
  obtain ⟨y, hy⟩ : ∃ y, readU l = y := ⟨_, rfl⟩
  obtain ⟨y, N, E⟩ := y
  obtain ⟨m, hm⟩ : ∃ m, s.t.length = m := ⟨_, rfl⟩
  obtain ⟨ml, hml⟩ : ∃ m, l.length = m := ⟨_, rfl⟩
  rw [hxb, hrr] at HEn HRe
  rw [hxb] at HSb
  rw [hrr] at HMt HRt
  rw [hp, hpd] at HDc HRd
  rw [hp] at HSd
  rw [hy] at HMr HRr HSr
  rw [hm] at e1 hb1
  rw [hml] at e2 hb2
  subst e1; subst e2
  obtain ⟨g, a, n, t⟩ := s
  obtain ⟨g2, a2, n2, t2⟩ := p
  obtain ⟨g3, a3, n3, t3⟩ := y
  dsimp only at HOf HEn HRe HDc HRd HMr HRr HMt HRt HSd HSr HV ⊢
  have hrb : (rr == rr) = true := by cases rr <;> rfl
  have hpb : (pd == pd) = true := by cases pd <;> rfl
  have hNb : ((N : Int) == (N : Int)) = true := by simp
  have hEb : (E == E) = true := by simp
  have h200 : ¬ (200 < (m : Int)) := by omega
  have h3000 : ¬ (3000 < (ml : Int)) := by omega
  clear hxb hrr hp hpd hy hm hml hb1 hb2 hbig
  go_enter Tryz.func3, Tryz.ntmps3
  go_upto_region 5 with (go_at_call 7; refine (HAl.out _).mono ?_; rintro e w1 ⟨rfl, hb1⟩; have HX1 := hid (bx_keep hb1); have z0 : w1.cell? ⟨w.heap.size, 0, Option.none⟩ = some (.int .i64 g) := HX1.out.1.cell 0; have z1 : w1.cell? ⟨w.heap.size, 1, Option.none⟩ = some (.int .i64 a) := HX1.out.1.cell 1; have z2 : w1.cell? ⟨w.heap.size, 2, Option.none⟩ = some (.int .i64 n) := HX1.out.1.cell 2; have z3 : w1.cell? ⟨w.heap.size, 3, Option.none⟩ = some (.slice A m c) := HX1.out.1.cell 3)
  clear HAl hb1
  go_upto_region 7 with (first
    | (go_at_call 9; refine (HOf.out _ HX1.out.2).mono ?_; rintro e w2 ⟨A2, m2, c2, rfl, HV2, hb2⟩; have HX2 := hid (bx_go HX1.out hb2))
    | (go_at_call 8; refine (HEn.out _ _ HV2.out).mono ?_; rintro e w3 ⟨A7, m7, c7, rfl, HVx, hb3⟩; have HX3 := hid (bx_go HX2.out hb3); have y0 : w3.cell? ⟨w.heap.size, 0, Option.none⟩ = some (.int .i64 g) := HX3.out.1.cell 0; have y1 : w3.cell? ⟨w.heap.size, 1, Option.none⟩ = some (.int .i64 a) := HX3.out.1.cell 1; have y2 : w3.cell? ⟨w.heap.size, 2, Option.none⟩ = some (.int .i64 n) := HX3.out.1.cell 2; have y3 : w3.cell? ⟨w.heap.size, 3, Option.none⟩ = some (.slice A m c) := HX3.out.1.cell 3)
    | (go_at_call 10; refine (HRe.out _ HX3.out.2).mono ?_; rintro e w4 ⟨A8, m8, c8, rfl, HVy, hb4⟩; have HX4 := hid (bx_go HX3.out hb4)))
  have HVx4 := hid (HVx.out.below hb4)
  clear z0 z1 z2 z3 HX1 HX2 HX3 HV2 HVx hb2 hb3 hb4 y0 y1 y2 y3 HEn HRe
  go_upto_region 8 with (go_at_call 11; refine (HDc.out _ HX4.out.2).mono ?_; rintro e w5 ⟨A9, m9, c9, rfl, HV9, hb5⟩)
  have HX5 := hid (bx_go HX4.out hb5)
  have e5 := below_new w5 (.cells #[.int .i64 g2, .int .i64 a2, .int .i64 n2, .slice A9 m9 c9] 29)
  have HX6 := hid (bx_go HX5.out e5)
  have HB9 := hid (Blk.new w5 29 #[.int .i64 g2, .int .i64 a2, .int .i64 n2, .slice A9 m9 c9])
  have HC6 := hid (And.intro ((HVx4.out.below hb5).below e5) (And.intro ((HVy.out.below hb5).below e5) (HV9.out.below e5)))
  obtain ⟨b9, hb9⟩ : ∃ b, w5.heap.size = b := ⟨_, rfl⟩
  obtain ⟨w6, hw6⟩ : ∃ w6, w5.alloc (.cells #[.int .i64 g2, .int .i64 a2, .int .i64 n2, .slice A9 m9 c9] 29) = w6 := ⟨_, rfl⟩
  rw [hw6, hb9] at HB9
  rw [hw6] at HX6 HC6 ⊢
  rw [hb9]
  clear hw6 e5 HX5 HX4 hb5 HVx4 HVy HV9 hb9
  go_upto_region 9 with (go_at_call 12; refine (HRd.out _ HX6.out.2).mono ?_; rintro e w7 ⟨A11, m11, c11, rfl, HV11, hb7⟩)
  have HX7 := hid (bx_go HX6.out hb7)
  have e7 := below_new w7 (.cells #[.int .i64 g2, .int .i64 a2, .int .i64 n2, .slice A11 m11 c11] 24)
  have HX8 := hid (bx_go HX7.out e7)
  have HB9' := hid ((HB9.out.keep hb7 HB9.out.lt).keep e7 (HB9.out.keep hb7 HB9.out.lt).lt)
  have HB11 := hid (Blk.new w7 24 #[.int .i64 g2, .int .i64 a2, .int .i64 n2, .slice A11 m11 c11])
  have HC8 := hid (And.intro ((HC6.out.1.below hb7).below e7) (And.intro ((HC6.out.2.1.below hb7).below e7) (And.intro ((HC6.out.2.2.below hb7).below e7) (HV11.out.below e7))))
  obtain ⟨b11, hb11⟩ : ∃ b, w7.heap.size = b := ⟨_, rfl⟩
  obtain ⟨w8, hw8⟩ : ∃ w8, w7.alloc (.cells #[.int .i64 g2, .int .i64 a2, .int .i64 n2, .slice A11 m11 c11] 24) = w8 := ⟨_, rfl⟩
  rw [hw8, hb11] at HB11
  rw [hw8] at HX8 HC8 HB9' ⊢
  rw [hb11]
  clear hw8 e7 HX7 HX6 hb7 HC6 HB9 HV11 hb11
  go_upto_region 10 with (go_at_call 13; refine (HMr.out _ HX8.out.2).mono ?_; rintro e w9 ⟨A13, m13, c13, rfl, HV13, hb9⟩)
  have HX9 := hid (bx_go HX8.out hb9)
  have e9 := below_new w9 (.cells #[.int .i64 g3, .int .i64 a3, .int .i64 n3, .slice A13 m13 c13] 29)
  have HX10 := hid (bx_go HX9.out e9)
  have HBa := hid (And.intro ((HB9'.out.keep hb9 HB9'.out.lt).keep e9 (HB9'.out.keep hb9 HB9'.out.lt).lt) ((HB11.out.keep hb9 HB11.out.lt).keep e9 (HB11.out.keep hb9 HB11.out.lt).lt))
  have HB13 := hid (Blk.new w9 29 #[.int .i64 g3, .int .i64 a3, .int .i64 n3, .slice A13 m13 c13])
  have HC10 := hid (And.intro ((HC8.out.1.below hb9).below e9) (And.intro ((HC8.out.2.1.below hb9).below e9) (And.intro ((HC8.out.2.2.1.below hb9).below e9) (And.intro ((HC8.out.2.2.2.below hb9).below e9) (HV13.out.below e9)))))
  obtain ⟨b13, hb13⟩ : ∃ b, w9.heap.size = b := ⟨_, rfl⟩
  obtain ⟨w10, hw10⟩ : ∃ w10, w9.alloc (.cells #[.int .i64 g3, .int .i64 a3, .int .i64 n3, .slice A13 m13 c13] 29) = w10 := ⟨_, rfl⟩
  rw [hw10, hb13] at HB13
  rw [hw10] at HX10 HC10 HBa ⊢
  rw [hb13]
  clear hw10 e9 HX9 HX8 hb9 HC8 HB9' HB11 HV13 hb13
  go_upto_region 11 with (go_at_call 14; refine (HRr.out _ HX10.out.2).mono ?_; rintro e w11 ⟨A16, m16, c16, rfl, HV16, hb11⟩)
  have HX11 := hid (bx_go HX10.out hb11)
  have e11 := below_new w11 (.cells #[.int .i64 g3, .int .i64 a3, .int .i64 n3, .slice A16 m16 c16] 24)
  have HX12 := hid (bx_go HX11.out e11)
  have HB16 := hid (Blk.new w11 24 #[.int .i64 g3, .int .i64 a3, .int .i64 n3, .slice A16 m16 c16])
  obtain ⟨b16, hb16⟩ : ∃ b, w11.heap.size = b := ⟨_, rfl⟩
  have k9 := HBa.out.1.keep hb11 HBa.out.1.lt
  have k11 := HBa.out.2.keep hb11 HBa.out.2.lt
  have k13 := HB13.out.keep hb11 HB13.out.lt
  have HS : Hid (LastB w b9 b11 b13 b16 ⟨g, a, n, t⟩ (.slice A m c) ⟨g2, a2, n2, t2⟩ (.slice A9 m9 c9) (.slice A11 m11 c11) ⟨g3, a3, n3, t3⟩ (.slice A13 m13 c13) (.slice A16 m16 c16) (.slice A7 m7 c7) (.slice A8 m8 c8) xb (w11.alloc (.cells #[.int .i64 g3, .int .i64 a3, .int .i64 n3, .slice A16 m16 c16] 24))) :=
    ⟨⟨HX12.out.2, HV.out.below HX12.out.2, (HC10.out.1.below hb11).below e11, (HC10.out.2.1.below hb11).below e11, (HC10.out.2.2.1.below hb11).below e11, (HC10.out.2.2.2.1.below hb11).below e11, (HC10.out.2.2.2.2.below hb11).below e11, HV16.out.below e11⟩, HX12.out.1.st4, (k9.keep e11 k9.lt).st4, (k11.keep e11 k11.lt).st4, (k13.keep e11 k13.lt).st4, by rw [← hb16]; exact HB16.out.st4⟩
  rw [hb16]
  obtain ⟨w12, hw12⟩ : ∃ w12, w11.alloc (.cells #[.int .i64 g3, .int .i64 a3, .int .i64 n3, .slice A16 m16 c16] 24) = w12 := ⟨_, rfl⟩
  rw [hw12] at HS ⊢
  clear hw12 hb16 e11 HX12 HX11 HX10 hb11 HC10 HBa HB13 HB16 HV16 k9 k11 k13 HV HDc HRd HMr HRr
  refine wp_region_till 41 (LastB w b9 b11 b13 b16 ⟨g, a, n, t⟩ (.slice A m c) ⟨g2, a2, n2, t2⟩ (.slice A9 m9 c9) (.slice A11 m11 c11) ⟨g3, a3, n3, t3⟩ (.slice A13 m13 c13) (.slice A16 m16 c16) (.slice A7 m7 c7) (.slice A8 m8 c8) xb) (by kernel_rfl) ((LastB.below HS.out (Below.refl _ _).drew)) (fun hHeld => ?_)
  (refine wpAnyT_take (i := 0) (v := ?_) rfl (by kernel_rfl) (fun _ _ _ h => h) (Or.inl ⟨by kernel_rfl, ?_⟩) (by assumption) ?_; rotate_left; · (intro w hSw; (try dsimp only at hSw); (obtain ⟨q0, q1, q2, q3⟩ := hSw.2.1); go_simp; first | done | with_reducible rfl))
  (try simp only [Act.put]); (try simp only [List.getElem_toArray]); (try simp only [List.getElem_cons_succ]); (try simp only [List.getElem_cons_zero]); (try simp only [List.setIfInBounds_toArray]); (try simp only [List.set_cons_succ]); (try simp only [List.set_cons_zero])
  (refine wpAnyT_take (i := 3) (v := ?_) rfl (by kernel_rfl) (fun _ _ _ h => h) (Or.inl ⟨by kernel_rfl, ?_⟩) (by assumption) ?_; rotate_left; · (intro w hSw; (try dsimp only at hSw); (obtain ⟨q0, q1, q2, q3⟩ := hSw.2.1); go_simp; first | done | with_reducible rfl))
  (try simp only [Act.put]); (try simp only [List.getElem_toArray]); (try simp only [List.getElem_cons_succ]); (try simp only [List.getElem_cons_zero]); (try simp only [List.setIfInBounds_toArray]); (try simp only [List.set_cons_succ]); (try simp only [List.set_cons_zero])
  (refine wpAnyT_one (i := 1) (by kernel_rfl) rfl (fun K hK => ?_); (go_simp; go_at_call 9; refine (HOf.out _ hHeld.1.out.1).mono ?_; rintro e v1 ⟨A2, m2, c2, rfl, HV2, hbn⟩; have hSn := hHeld.below hbn); refine hK.out _ _ (.inr ?_) (fun hHeld => ?_))
  · exact hSn
  replace hHeld := hHeld.resolve_left (by decide)
  clear hK K
  (try simp only [Act.put]); (try simp only [List.getElem_toArray]); (try simp only [List.getElem_cons_succ]); (try simp only [List.getElem_cons_zero]); (try simp only [List.setIfInBounds_toArray]); (try simp only [List.set_cons_succ]); (try simp only [List.set_cons_zero])
  clear hSn hbn
  (refine wpAnyT_one (i := 2) (by kernel_rfl) rfl (fun K hK => ?_); (go_simp; go_at_call 15; refine (HMt.out _ _ HV2.out).mono ?_; rintro e v2 ⟨rfl, hbn⟩; have hSn := hHeld.below hbn); refine hK.out _ _ (.inr ?_) (fun hHeld => ?_))
  · exact hSn
  replace hHeld := hHeld.resolve_left (by decide)
  clear hK K
  (try simp only [Act.put]); (try simp only [List.getElem_toArray]); (try simp only [List.getElem_cons_succ]); (try simp only [List.getElem_cons_zero]); (try simp only [List.setIfInBounds_toArray]); (try simp only [List.set_cons_succ]); (try simp only [List.set_cons_zero])
  clear hSn hbn
  (refine wpAnyT_one (i := 4) (by kernel_rfl) rfl (fun K hK => ?_); (go_simp; go_at_call 16; refine (HRt.out _ hHeld.1.out.1).mono ?_; rintro e v3 ⟨rfl, hbn⟩; have hSn := hHeld.below hbn); refine hK.out _ _ (.inr ?_) (fun hHeld => ?_))
  · exact hSn
  replace hHeld := hHeld.resolve_left (by decide)
  clear hK K
  (try simp only [Act.put]); (try simp only [List.getElem_toArray]); (try simp only [List.getElem_cons_succ]); (try simp only [List.getElem_cons_zero]); (try simp only [List.setIfInBounds_toArray]); (try simp only [List.set_cons_succ]); (try simp only [List.set_cons_zero])
  clear hSn hbn
  (refine wpAnyT_take (i := 5) (v := ?_) rfl (by kernel_rfl) (fun _ _ _ h => h) (Or.inl ⟨by kernel_rfl, ?_⟩) (by assumption) ?_; rotate_left; · (intro w hSw; (try dsimp only at hSw); go_split_ands; go_simp; first | done | with_reducible rfl))
  (try simp only [Act.put]); (try simp only [List.getElem_toArray]); (try simp only [List.getElem_cons_succ]); (try simp only [List.getElem_cons_zero]); (try simp only [List.setIfInBounds_toArray]); (try simp only [List.set_cons_succ]); (try simp only [List.set_cons_zero])
  (refine wpAnyT_take (i := 6) (v := ?_) rfl (by kernel_rfl) (fun _ _ _ h => h) (Or.inl ⟨by kernel_rfl, ?_⟩) (by assumption) ?_; rotate_left; · (intro w hSw; (try dsimp only at hSw); go_split_ands; go_simp; first | done | with_reducible rfl))
  (try simp only [Act.put]); (try simp only [List.getElem_toArray]); (try simp only [List.getElem_cons_succ]); (try simp only [List.getElem_cons_zero]); (try simp only [List.setIfInBounds_toArray]); (try simp only [List.set_cons_succ]); (try simp only [List.set_cons_zero])
  (refine wpAnyT_take (i := 7) (v := ?_) rfl (by kernel_rfl) (fun _ _ _ h => h) (Or.inl ⟨by kernel_rfl, ?_⟩) (by assumption) ?_; rotate_left; · (intro w hSw; (try dsimp only at hSw); go_split_ands; go_simp; first | done | with_reducible rfl))
  (try simp only [Act.put]); (try simp only [List.getElem_toArray]); (try simp only [List.getElem_cons_succ]); (try simp only [List.getElem_cons_zero]); (try simp only [List.setIfInBounds_toArray]); (try simp only [List.set_cons_succ]); (try simp only [List.set_cons_zero])
  (refine wpAnyT_take (i := 8) (v := ?_) rfl (by kernel_rfl) (fun _ _ _ h => h) (Or.inl ⟨by kernel_rfl, ?_⟩) (by assumption) ?_; rotate_left; · (intro w hSw; (try dsimp only at hSw); go_split_ands; go_simp; first | done | with_reducible rfl))
  (try simp only [Act.put]); (try simp only [List.getElem_toArray]); (try simp only [List.getElem_cons_succ]); (try simp only [List.getElem_cons_zero]); (try simp only [List.setIfInBounds_toArray]); (try simp only [List.set_cons_succ]); (try simp only [List.set_cons_zero])
  (refine wpAnyT_one (i := 9) (by kernel_rfl) rfl (fun K hK => ?_); (go_simp; go_at_call 17; refine (HSb.out _ _ _ hHeld.1.out.2.2.1 hHeld.1.out.2.2.2.1).mono ?_; rintro e v4 ⟨rfl, hbn⟩; have hSn := hHeld.below hbn); refine hK.out _ _ (.inr ?_) (fun hHeld => ?_))
  · exact hSn
  replace hHeld := hHeld.resolve_left (by decide)
  clear hK K
  (try simp only [Act.put]); (try simp only [List.getElem_toArray]); (try simp only [List.getElem_cons_succ]); (try simp only [List.getElem_cons_zero]); (try simp only [List.setIfInBounds_toArray]); (try simp only [List.set_cons_succ]); (try simp only [List.set_cons_zero])
  clear hSn hbn
  (refine wpAnyT_take (i := 10) (v := ?_) rfl (by kernel_rfl) (fun _ _ _ h => h) (Or.inl ⟨by kernel_rfl, ?_⟩) (by assumption) ?_; rotate_left; · (intro w hSw; (try dsimp only at hSw); go_split_ands; go_simp; first | done | with_reducible rfl))
  (try simp only [Act.put]); (try simp only [List.getElem_toArray]); (try simp only [List.getElem_cons_succ]); (try simp only [List.getElem_cons_zero]); (try simp only [List.setIfInBounds_toArray]); (try simp only [List.set_cons_succ]); (try simp only [List.set_cons_zero])
  (refine wpAnyT_take (i := 11) (v := ?_) rfl (by kernel_rfl) (fun _ _ _ h => h) (Or.inl ⟨by kernel_rfl, ?_⟩) (by assumption) ?_; rotate_left; · (intro w hSw; (try dsimp only at hSw); go_split_ands; go_simp; first | done | with_reducible rfl))
  (try simp only [Act.put]); (try simp only [List.getElem_toArray]); (try simp only [List.getElem_cons_succ]); (try simp only [List.getElem_cons_zero]); (try simp only [List.setIfInBounds_toArray]); (try simp only [List.set_cons_succ]); (try simp only [List.set_cons_zero])
  (refine wpAnyT_take (i := 12) (v := ?_) rfl (by kernel_rfl) (fun _ _ _ h => h) (Or.inl ⟨by kernel_rfl, ?_⟩) (by assumption) ?_; rotate_left; · (intro w hSw; (try dsimp only at hSw); go_split_ands; go_simp; first | done | with_reducible rfl))
  (try simp only [Act.put]); (try simp only [List.getElem_toArray]); (try simp only [List.getElem_cons_succ]); (try simp only [List.getElem_cons_zero]); (try simp only [List.setIfInBounds_toArray]); (try simp only [List.set_cons_succ]); (try simp only [List.set_cons_zero])
  (refine wpAnyT_take (i := 13) (v := ?_) rfl (by kernel_rfl) (fun _ _ _ h => h) (Or.inl ⟨by kernel_rfl, ?_⟩) (by assumption) ?_; rotate_left; · (intro w hSw; (try dsimp only at hSw); go_split_ands; go_simp; first | done | with_reducible rfl))
  (try simp only [Act.put]); (try simp only [List.getElem_toArray]); (try simp only [List.getElem_cons_succ]); (try simp only [List.getElem_cons_zero]); (try simp only [List.setIfInBounds_toArray]); (try simp only [List.set_cons_succ]); (try simp only [List.set_cons_zero])
  (refine wpAnyT_take (i := 14) (v := ?_) rfl (by kernel_rfl) (fun _ _ _ h => h) (Or.inl ⟨by kernel_rfl, ?_⟩) (by assumption) ?_; rotate_left; · (intro w hSw; (try dsimp only at hSw); go_split_ands; go_simp; first | done | with_reducible rfl))
  (try simp only [Act.put]); (try simp only [List.getElem_toArray]); (try simp only [List.getElem_cons_succ]); (try simp only [List.getElem_cons_zero]); (try simp only [List.setIfInBounds_toArray]); (try simp only [List.set_cons_succ]); (try simp only [List.set_cons_zero])
  (refine wpAnyT_take (i := 15) (v := ?_) rfl (by kernel_rfl) (fun _ _ _ h => h) (Or.inl ⟨by kernel_rfl, ?_⟩) (by assumption) ?_; rotate_left; · (intro w hSw; (try dsimp only at hSw); go_split_ands; go_simp; first | done | with_reducible rfl))
  (try simp only [Act.put]); (try simp only [List.getElem_toArray]); (try simp only [List.getElem_cons_succ]); (try simp only [List.getElem_cons_zero]); (try simp only [List.setIfInBounds_toArray]); (try simp only [List.set_cons_succ]); (try simp only [List.set_cons_zero])
  (refine wpAnyT_take (i := 16) (v := ?_) rfl (by kernel_rfl) (fun _ _ _ h => h) (Or.inl ⟨by kernel_rfl, ?_⟩) (by assumption) ?_; rotate_left; · (intro w hSw; (try dsimp only at hSw); go_split_ands; go_simp; first | done | with_reducible rfl))
  (try simp only [Act.put]); (try simp only [List.getElem_toArray]); (try simp only [List.getElem_cons_succ]); (try simp only [List.getElem_cons_zero]); (try simp only [List.setIfInBounds_toArray]); (try simp only [List.set_cons_succ]); (try simp only [List.set_cons_zero])
  (refine wpAnyT_take (i := 17) (v := ?_) rfl (by kernel_rfl) (fun _ _ _ h => h) (Or.inl ⟨by kernel_rfl, ?_⟩) (by assumption) ?_; rotate_left; · (intro w hSw; (try dsimp only at hSw); (obtain ⟨q0, q1, q2, q3⟩ := hSw.2.2.1); go_simp; first | done | with_reducible rfl))
  (try simp only [Act.put]); (try simp only [List.getElem_toArray]); (try simp only [List.getElem_cons_succ]); (try simp only [List.getElem_cons_zero]); (try simp only [List.setIfInBounds_toArray]); (try simp only [List.set_cons_succ]); (try simp only [List.set_cons_zero])
  (refine wpAnyT_take (i := 18) (v := ?_) rfl (by kernel_rfl) (fun _ _ _ h => h) (Or.inl ⟨by kernel_rfl, ?_⟩) (by assumption) ?_; rotate_left; · (intro w hSw; (try dsimp only at hSw); (obtain ⟨q0, q1, q2, q3⟩ := hSw.2.2.2.1); go_simp; first | done | with_reducible rfl))
  (try simp only [Act.put]); (try simp only [List.getElem_toArray]); (try simp only [List.getElem_cons_succ]); (try simp only [List.getElem_cons_zero]); (try simp only [List.setIfInBounds_toArray]); (try simp only [List.set_cons_succ]); (try simp only [List.set_cons_zero])
  (refine wpAnyT_one (i := 19) (by kernel_rfl) rfl (fun K hK => ?_); (go_simp; go_at_call 18; refine (HSd.out _ _ _ hHeld.1.out.2.2.2.2.1 hHeld.1.out.2.2.2.2.2.1).mono ?_; rintro e v5 ⟨rfl, hbn⟩; have hSn := hHeld.below hbn); refine hK.out _ _ (.inr ?_) (fun hHeld => ?_))
  · exact hSn
  replace hHeld := hHeld.resolve_left (by decide)
  clear hK K
  (try simp only [Act.put]); (try simp only [List.getElem_toArray]); (try simp only [List.getElem_cons_succ]); (try simp only [List.getElem_cons_zero]); (try simp only [List.setIfInBounds_toArray]); (try simp only [List.set_cons_succ]); (try simp only [List.set_cons_zero])
  clear hSn hbn
  (refine wpAnyT_take (i := 20) (v := ?_) rfl (by kernel_rfl) (fun _ _ _ h => h) (Or.inl ⟨by kernel_rfl, ?_⟩) (by assumption) ?_; rotate_left; · (intro w hSw; (try dsimp only at hSw); go_split_ands; go_simp; first | done | with_reducible rfl))
  (try simp only [Act.put]); (try simp only [List.getElem_toArray]); (try simp only [List.getElem_cons_succ]); (try simp only [List.getElem_cons_zero]); (try simp only [List.setIfInBounds_toArray]); (try simp only [List.set_cons_succ]); (try simp only [List.set_cons_zero])
  (refine wpAnyT_take (i := 21) (v := ?_) rfl (by kernel_rfl) (fun _ _ _ h => h) (Or.inl ⟨by kernel_rfl, ?_⟩) (by assumption) ?_; rotate_left; · (intro w hSw; (try dsimp only at hSw); go_split_ands; go_simp; first | done | with_reducible rfl))
  (try simp only [Act.put]); (try simp only [List.getElem_toArray]); (try simp only [List.getElem_cons_succ]); (try simp only [List.getElem_cons_zero]); (try simp only [List.setIfInBounds_toArray]); (try simp only [List.set_cons_succ]); (try simp only [List.set_cons_zero])
  (refine wpAnyT_take (i := 22) (v := ?_) rfl (by kernel_rfl) (fun _ _ _ h => h) (Or.inl ⟨by kernel_rfl, ?_⟩) (by assumption) ?_; rotate_left; · (intro w hSw; (try dsimp only at hSw); go_split_ands; go_simp; first | done | with_reducible rfl))
  (try simp only [Act.put]); (try simp only [List.getElem_toArray]); (try simp only [List.getElem_cons_succ]); (try simp only [List.getElem_cons_zero]); (try simp only [List.setIfInBounds_toArray]); (try simp only [List.set_cons_succ]); (try simp only [List.set_cons_zero])
  (refine wpAnyT_take (i := 23) (v := ?_) rfl (by kernel_rfl) (fun _ _ _ h => h) (Or.inl ⟨by kernel_rfl, ?_⟩) (by assumption) ?_; rotate_left; · (intro w hSw; (try dsimp only at hSw); go_split_ands; go_simp; first | done | with_reducible rfl))
  (try simp only [Act.put]); (try simp only [List.getElem_toArray]); (try simp only [List.getElem_cons_succ]); (try simp only [List.getElem_cons_zero]); (try simp only [List.setIfInBounds_toArray]); (try simp only [List.set_cons_succ]); (try simp only [List.set_cons_zero])
  (refine wpAnyT_take (i := 24) (v := ?_) rfl (by kernel_rfl) (fun _ _ _ h => h) (Or.inl ⟨by kernel_rfl, ?_⟩) (by assumption) ?_; rotate_left; · (intro w hSw; (try dsimp only at hSw); go_split_ands; go_simp; first | done | with_reducible rfl))
  (try simp only [Act.put]); (try simp only [List.getElem_toArray]); (try simp only [List.getElem_cons_succ]); (try simp only [List.getElem_cons_zero]); (try simp only [List.setIfInBounds_toArray]); (try simp only [List.set_cons_succ]); (try simp only [List.set_cons_zero])
  (refine wpAnyT_take (i := 25) (v := ?_) rfl (by kernel_rfl) (fun _ _ _ h => h) (Or.inl ⟨by kernel_rfl, ?_⟩) (by assumption) ?_; rotate_left; · (intro w hSw; (try dsimp only at hSw); go_split_ands; go_simp; first | done | with_reducible rfl))
  (try simp only [Act.put]); (try simp only [List.getElem_toArray]); (try simp only [List.getElem_cons_succ]); (try simp only [List.getElem_cons_zero]); (try simp only [List.setIfInBounds_toArray]); (try simp only [List.set_cons_succ]); (try simp only [List.set_cons_zero])
  (refine wpAnyT_take (i := 26) (v := ?_) rfl (by kernel_rfl) (fun _ _ _ h => h) (Or.inl ⟨by kernel_rfl, ?_⟩) (by assumption) ?_; rotate_left; · (intro w hSw; (try dsimp only at hSw); go_split_ands; go_simp; first | done | with_reducible rfl))
  (try simp only [Act.put]); (try simp only [List.getElem_toArray]); (try simp only [List.getElem_cons_succ]); (try simp only [List.getElem_cons_zero]); (try simp only [List.setIfInBounds_toArray]); (try simp only [List.set_cons_succ]); (try simp only [List.set_cons_zero])
  (refine wpAnyT_take (i := 27) (v := ?_) rfl (by kernel_rfl) (fun _ _ _ h => h) (Or.inl ⟨by kernel_rfl, ?_⟩) (by assumption) ?_; rotate_left; · (intro w hSw; (try dsimp only at hSw); (obtain ⟨q0, q1, q2, q3⟩ := hSw.2.2.2.2.1); go_simp; first | done | with_reducible rfl))
  (try simp only [Act.put]); (try simp only [List.getElem_toArray]); (try simp only [List.getElem_cons_succ]); (try simp only [List.getElem_cons_zero]); (try simp only [List.setIfInBounds_toArray]); (try simp only [List.set_cons_succ]); (try simp only [List.set_cons_zero])
  (refine wpAnyT_take (i := 28) (v := ?_) rfl (by kernel_rfl) (fun _ _ _ h => h) (Or.inl ⟨by kernel_rfl, ?_⟩) (by assumption) ?_; rotate_left; · (intro w hSw; (try dsimp only at hSw); (obtain ⟨q0, q1, q2, q3⟩ := hSw.2.2.2.2.2); go_simp; first | done | with_reducible rfl))
  (try simp only [Act.put]); (try simp only [List.getElem_toArray]); (try simp only [List.getElem_cons_succ]); (try simp only [List.getElem_cons_zero]); (try simp only [List.setIfInBounds_toArray]); (try simp only [List.set_cons_succ]); (try simp only [List.set_cons_zero])
  (refine wpAnyT_one (i := 29) (by kernel_rfl) rfl (fun K hK => ?_); (go_simp; go_at_call 18; refine (HSr.out _ _ _ hHeld.1.out.2.2.2.2.2.2.1 hHeld.1.out.2.2.2.2.2.2.2).mono ?_; rintro e v6 ⟨rfl, hbn⟩; have hSn := hHeld.below hbn); refine hK.out _ _ (.inr ?_) (fun hHeld => ?_))
  · exact hSn
  replace hHeld := hHeld.resolve_left (by decide)
  clear hK K
  (try simp only [Act.put]); (try simp only [List.getElem_toArray]); (try simp only [List.getElem_cons_succ]); (try simp only [List.getElem_cons_zero]); (try simp only [List.setIfInBounds_toArray]); (try simp only [List.set_cons_succ]); (try simp only [List.set_cons_zero])
  clear hSn hbn
  (refine wpAnyT_take (i := 30) (v := ?_) rfl (by kernel_rfl) (fun _ _ _ h => h) (Or.inl ⟨by kernel_rfl, ?_⟩) (by assumption) ?_; rotate_left; · (intro w hSw; (try dsimp only at hSw); go_split_ands; go_simp; first | done | with_reducible rfl))
  (try simp only [Act.put]); (try simp only [List.getElem_toArray]); (try simp only [List.getElem_cons_succ]); (try simp only [List.getElem_cons_zero]); (try simp only [List.setIfInBounds_toArray]); (try simp only [List.set_cons_succ]); (try simp only [List.set_cons_zero])
  (refine wpAnyT_take (i := 31) (v := ?_) rfl (by kernel_rfl) (fun _ _ _ h => h) (Or.inl ⟨by kernel_rfl, ?_⟩) (by assumption) ?_; rotate_left; · (intro w hSw; (try dsimp only at hSw); go_split_ands; go_simp; first | done | with_reducible rfl))
  (try simp only [Act.put]); (try simp only [List.getElem_toArray]); (try simp only [List.getElem_cons_succ]); (try simp only [List.getElem_cons_zero]); (try simp only [List.setIfInBounds_toArray]); (try simp only [List.set_cons_succ]); (try simp only [List.set_cons_zero])
  (refine wpAnyT_take (i := 32) (v := ?_) rfl (by kernel_rfl) (fun _ _ _ h => h) (Or.inl ⟨by kernel_rfl, ?_⟩) (by assumption) ?_; rotate_left; · (intro w hSw; (try dsimp only at hSw); go_split_ands; go_simp; first | done | with_reducible rfl))
  (try simp only [Act.put]); (try simp only [List.getElem_toArray]); (try simp only [List.getElem_cons_succ]); (try simp only [List.getElem_cons_zero]); (try simp only [List.setIfInBounds_toArray]); (try simp only [List.set_cons_succ]); (try simp only [List.set_cons_zero])
  (refine wpAnyT_take (i := 33) (v := ?_) rfl (by kernel_rfl) (fun _ _ _ h => h) (Or.inl ⟨by kernel_rfl, ?_⟩) (by assumption) ?_; rotate_left; · (intro w hSw; (try dsimp only at hSw); go_split_ands; go_simp; first | done | with_reducible rfl))
  (try simp only [Act.put]); (try simp only [List.getElem_toArray]); (try simp only [List.getElem_cons_succ]); (try simp only [List.getElem_cons_zero]); (try simp only [List.setIfInBounds_toArray]); (try simp only [List.set_cons_succ]); (try simp only [List.set_cons_zero])
  (refine wpAnyT_take (i := 34) (v := ?_) rfl (by kernel_rfl) (fun _ _ _ h => h) (Or.inl ⟨by kernel_rfl, ?_⟩) (by assumption) ?_; rotate_left; · (intro w hSw; (try dsimp only at hSw); go_split_ands; go_simp; first | done | with_reducible rfl))
  (try simp only [Act.put]); (try simp only [List.getElem_toArray]); (try simp only [List.getElem_cons_succ]); (try simp only [List.getElem_cons_zero]); (try simp only [List.setIfInBounds_toArray]); (try simp only [List.set_cons_succ]); (try simp only [List.set_cons_zero])
  (refine wpAnyT_take (i := 35) (v := ?_) rfl (by kernel_rfl) (fun _ _ _ h => h) (Or.inl ⟨by kernel_rfl, ?_⟩) (by assumption) ?_; rotate_left; · (intro w hSw; (try dsimp only at hSw); go_split_ands; go_simp; first | done | with_reducible rfl))
  (try simp only [Act.put]); (try simp only [List.getElem_toArray]); (try simp only [List.getElem_cons_succ]); (try simp only [List.getElem_cons_zero]); (try simp only [List.setIfInBounds_toArray]); (try simp only [List.set_cons_succ]); (try simp only [List.set_cons_zero])
  (refine wpAnyT_take (i := 36) (v := ?_) rfl (by kernel_rfl) (fun _ _ _ h => h) (Or.inl ⟨by kernel_rfl, ?_⟩) (by assumption) ?_; rotate_left; · (intro w hSw; (try dsimp only at hSw); go_split_ands; go_simp; first | done | with_reducible rfl))
  (try simp only [Act.put]); (try simp only [List.getElem_toArray]); (try simp only [List.getElem_cons_succ]); (try simp only [List.getElem_cons_zero]); (try simp only [List.setIfInBounds_toArray]); (try simp only [List.set_cons_succ]); (try simp only [List.set_cons_zero])
  (refine wpAnyT_take (i := 37) (v := ?_) rfl (by kernel_rfl) (fun _ _ _ h => h) (Or.inl ⟨by kernel_rfl, ?_⟩) (by assumption) ?_; rotate_left; · (intro w hSw; (try dsimp only at hSw); go_split_ands; go_simp; first | done | with_reducible rfl))
  (try simp only [Act.put]); (try simp only [List.getElem_toArray]); (try simp only [List.getElem_cons_succ]); (try simp only [List.getElem_cons_zero]); (try simp only [List.setIfInBounds_toArray]); (try simp only [List.set_cons_succ]); (try simp only [List.set_cons_zero])
  (refine wpAnyT_take (i := 38) (v := ?_) rfl (by kernel_rfl) (fun _ _ _ h => h) (Or.inl ⟨by kernel_rfl, ?_⟩) (by assumption) ?_; rotate_left; · (intro w hSw; (try dsimp only at hSw); go_split_ands; go_simp; first | done | with_reducible rfl))
  (try simp only [Act.put]); (try simp only [List.getElem_toArray]); (try simp only [List.getElem_cons_succ]); (try simp only [List.getElem_cons_zero]); (try simp only [List.setIfInBounds_toArray]); (try simp only [List.set_cons_succ]); (try simp only [List.set_cons_zero])
  (refine wpAnyT_take (i := 39) (v := ?_) rfl (by kernel_rfl) (fun _ _ _ h => h) (Or.inl ⟨by kernel_rfl, ?_⟩) (by assumption) ?_; rotate_left; · (intro w hSw; (try dsimp only at hSw); go_split_ands; go_simp; first | done | with_reducible rfl))
  (try simp only [Act.put]); (try simp only [List.getElem_toArray]); (try simp only [List.getElem_cons_succ]); (try simp only [List.getElem_cons_zero]); (try simp only [List.setIfInBounds_toArray]); (try simp only [List.set_cons_succ]); (try simp only [List.set_cons_zero])
  (refine wpAnyT_take (i := 40) (v := ?_) rfl (by kernel_rfl) (fun _ _ _ h => h) (Or.inl ⟨by kernel_rfl, ?_⟩) (by assumption) ?_; rotate_left; · (intro w hSw; (try dsimp only at hSw); go_split_ands; go_simp; first | done | with_reducible rfl))
  (try simp only [Act.put]); (try simp only [List.getElem_toArray]); (try simp only [List.getElem_cons_succ]); (try simp only [List.getElem_cons_zero]); (try simp only [List.setIfInBounds_toArray]); (try simp only [List.set_cons_succ]); (try simp only [List.set_cons_zero])
  (refine wpAnyT_one (i := 41) (by kernel_rfl) rfl (fun K hK => ?_); (have HZ := hid hHeld.1.out.1; go_simp); refine hK.out _ _ (.inl rfl) (fun _ => ?_))
  clear hK K
  (try simp only [Act.put]); (try simp only [List.getElem_toArray]); (try simp only [List.getElem_cons_succ]); (try simp only [List.getElem_cons_zero]); (try simp only [List.setIfInBounds_toArray]); (try simp only [List.set_cons_succ]); (try simp only [List.set_cons_zero])
  refine wpAnyT_done (by kernel_rfl) ?_ _
  go_wp2
  go_ret
  exact ⟨rfl, HZ.out⟩
end Go.Proofs.YtofkfafdodhmdaaGreatDoor
