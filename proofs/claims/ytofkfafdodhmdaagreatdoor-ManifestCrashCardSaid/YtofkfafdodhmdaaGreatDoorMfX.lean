/- The law ManifestCrash at every list of states and number: true. Conditions: the slice holds its states. -/
import Derived.Test.YtofkfafdodhmdaaGreatDoorMfI
import Derived.Test.YtofkfafdodhmdaaGreatDoorMfK
import Derived.Test.YtofkfafdodhmdaaGreatDoorNG
import Derived.Test.YtofkfafdodhmdaaGreatDoorMfSa
import Derived.Test.YtofkfafdodhmdaaGreatDoorMfTa
import Derived.Test.YtofkfafdodhmdaaGreatDoorMfXa
import Derived.Test.YtofkfafdodhmdaaGreatDoorSuRa
import Derived.Test.YtofkfafdodhmdaaGreatDoorSCR
import Derived.Test.YtofkfafdodhmdaaGreatDoorStIa
namespace Go.Proofs.YtofkfafdodhmdaaGreatDoor
open Go.RowKit

/-- Behind k states. -/
structure CrL (w1 W : World) (db mb b8 k : Nat) (fs : List Fl) (p : PV) (ss : List Sta) (V vA : Value) : Prop where
  al : Al w1 W db mb 1048576 (6 * k) fs p
  om : OnlyM p ss
  ln : (framesM (bodies ss)).length ≤ 2546
  bx : Blk W b8 24 #[.int .i64 (ss.getLastD sta0).g, .int .i64 (ss.getLastD sta0).a, .int .i64 (ss.getLastD sta0).n, V]
  sv : SlI w1 V (ss.getLastD sta0).t
  nb : ¬ Ft db mb fs b8
  lb : w1.heap.size ≤ b8
  rw : Row W w1.heap.size vA (framesM (bodies ss))
  nr : ∀ g, vA.ownBlock = some g → ¬ Ft db mb fs g ∧ g ≠ b8
section
variable {w1 W W2 : World} {db mb b8 k : Nat} {fs fs2 : List Fl} {p : PV} {ss : List Sta} {V vA : Value}
theorem CrL.below (h : CrL w1 W db mb b8 k fs p ss V vA) (hb : Below W.heap.size W W2) : CrL w1 W2 db mb b8 k fs p ss V vA :=
  ⟨h.al.below hb, h.om, h.ln, h.bx.keep hb h.bx.lt, h.sv, h.nb, h.lb, h.rw.keep hb h.rw.block_lt, h.nr⟩
theorem CrL.no (h : CrL w1 W db mb b8 k fs p ss V vA) (ha : Al w1 W2 db mb 1048576 (6 * k + 6) fs2 p) (hm : Mv W W2 db mb fs fs2) : CrL w1 W2 db mb b8 (k + 1) fs2 p ss V vA :=
  ⟨ha.upto (by omega), h.om, h.ln, (hm.blk h.bx h.nb).1, h.sv, (hm.blk h.bx h.nb).2, h.lb, row_blk h.rw fun g q => hm.ch.block g (h.rw.block_lt g q) (h.nr g q).1,
    fun g q => ⟨fun r => (hm.sub g r).elim (h.nr g q).1 fun r2 => absurd (h.rw.block_lt g q) (Nat.not_lt.2 r2), (h.nr g q).2⟩⟩
end
theorem Blk.grown9 {w w1 : World} {b : Nat} {T : TypeId} {xs : Array Value} {r : Option Nat} (h : Blk w b T xs) (hg : w.grownBy w1 r) (hn : r ≠ some b) : Blk w1 b T xs := (hg.block b h.lt fun e => hn e.symm).trans h
theorem SlI.grown9 {w w1 : World} {v : Value} {zs : List Int} {r : Option Nat} (h : SlI w v zs) (hg : w.grownBy w1 r) (hn : ∀ k, v.ownBlock = some k → r ≠ some k) : SlI w1 v zs := by
  obtain ⟨A, c, rfl, h1, h2, h3, h4⟩ := h
  refine ⟨A, c, rfl, h1, h2, fun h0 => ?_, h4⟩
  obtain ⟨b, off, rfl, hh⟩ := h3 h0
  refine ⟨b, off, rfl, fun i hi => ?_⟩
  rw [World.cell?_of_block (w := w) (hg.block b (hh.lt h0) fun e => hn b rfl e.symm)]
  exact hh i hi
/-- What is read where a beginning of one more state's frame stands behind the frames. -/
theorem read_part {ss : List Sta} (h : Chain ss) (nx : Sta) (hr : nx.right = true) (hg : nx.g = (ss.getLastD sta0).g + 1) (ct : Nat) (hct : ct ≤ (frameM nx.enc).length) :
    readS (framesM (bodies ss) ++ (frameM nx.enc).take ct) = if ct = (frameM nx.enc).length then some (nx, (framesM (bodies ss)).length + (frameM nx.enc).length) else some (ss.getLastD sta0, (framesM (bodies ss)).length) := by
  have hel := enc_len ((Sta.right_iff _).1 hr)
  by_cases q : ct = (frameM nx.enc).length
  · rw [if_pos q, q, List.take_length]
    have e : framesM (bodies ss) ++ frameM nx.enc = framesM (bodies (ss ++ [nx])) := by
      unfold bodies
      rw [List.map_append, frames_app]
      show _ = _ ++ framesM [nx.enc]
      rw [framesM_one]
    rw [e, readS_whole _ (chain_snoc h hr fun _ => hg), ← e, List.length_append]
    congr 2
    simp
  · rw [if_neg q]
    exact readS_frames ss h _ (next_cut _ (by omega) _ (by omega))
/-- A state that may be saved or not. -/
theorem save_cases {p : PV} {ss : List Sta} (h : OnlyM p ss) (hl : (framesM (bodies ss)).length ≤ 2546) (s : Sta) :
    (∃ p2 ss2, pSave s 1048576 p = (0, p2) ∧ OnlyM p2 ss2 ∧ ss2.getLastD sta0 = s ∧ (framesM (bodies ss2)).length ≤ 2546) ∨ pSave s 1048576 p = (10, p) := by
  cases hr : s.right with
  | false => exact .inr (pSave_bad s hr _ _)
  | true =>
    have hf := frame_le hr
    by_cases hg : ss ≠ [] → s.g = (ss.getLastD sta0).g + 1
    · obtain ⟨p2, ss2, e2, o2, n2, l2, b2, _⟩ := pSave_yes h s hr hg 1048576 (by omega)
      exact .inl ⟨p2, ss2, e2, o2, l2, by omega⟩
    · have hne : ss ≠ [] := fun e => hg fun h => absurd e h
      exact .inr (pSave_gen h s hne (fun e => hg fun _ => e) _)

set_option maxRecDepth 100000 in
set_option maxHeartbeats 32000000 in
theorem crash_any (v : Value) (cs : List Sta) (keep : Int) (w : World) (hv : StArg w v cs) :
    Calls Tryz.prog 5 #[v, .int .i64 keep] w fun e w' => e = .returned (.bool true) ∧ Below w.heap.size w w' := by
  have HAl : Hid (∀ W, Calls Tryz.prog 7 #[] W fun e w' => e = .returned (.bool true) ∧ Below W.heap.size W w') := fun W => alive9_any W
  obtain ⟨A, c, rfl, hl, hh⟩ := hv
  have HH := hid hh
  obtain ⟨n, hn⟩ : ∃ n, cs.length = n := ⟨_, rfl⟩
  have HN := hid hn
  rw [hn] at hl ⊢
  clear hn hh
  by_cases hbig : 100 < n
  · go_enter Tryz.func5, Tryz.ntmps5
    go_wp2_with (go_at_call 7; refine (HAl.out _).mono ?_; rintro e w1 ⟨rfl, hb1⟩)
    go_ret
    exact ⟨rfl, hb1⟩
  have h100 : n ≤ 100 := by omega
  clear hbig hl
  go_enter Tryz.func5, Tryz.ntmps5
  go_upto_region 5 with (go_at_call 7; refine (HAl.out _).mono ?_; rintro e w1 ⟨rfl, hb1⟩; have HB1 := hid hb1; clear hb1)
  go_upto_region 6 with (go_at_call 20; refine (Al.new (w := w1) 1048576 (by decide) (by decide)).mono ?_; rintro e w2 ⟨rfl, HA2⟩)
  obtain ⟨db, hdb⟩ : ∃ db, w1.heap.size + 1 = db := ⟨_, rfl⟩
  obtain ⟨mb, hmb⟩ : ∃ mb, w1.heap.size = mb := ⟨_, rfl⟩
  have HA3 : Hid (Al w1 w2 db mb 1048576 0 [] ([], 0)) := by rw [← hdb, ← hmb]; exact HA2.out
  rw [hdb]
  clear HA2 hdb hmb
  go_upto_region 9 with (fail)
  obtain ⟨w3, hw3⟩ : ∃ w3, w2.alloc (.cells #[] 5) = w3 := ⟨_, rfl⟩
  have HR3 : Hid (Row w3 w1.heap.size (.slice (some ⟨w2.heap.size, 0, none⟩) 0 0) []) := by rw [← hw3]; exact empty_rowd9 w2 w1.heap.size HA3.out.be.size
  have HB3 : Hid (Below w2.heap.size w2 w3 ∧ w3.heap.size = w2.heap.size + 1) := by rw [← hw3]; exact ⟨below_new _ _, by simp⟩
  rw [hw3]
  go_upto_region 10 with (go_at_call 35; refine (rfirst_any w3).mono ?_; rintro e w4 ⟨rfl, hb4⟩)
  obtain ⟨b8, hb8⟩ : ∃ b8, w4.heap.size = b8 := ⟨_, rfl⟩
  have HL0 : Hid (CrL w1 (w4.alloc (.cells #[.int .i64 0, .int .i64 0, .int .i64 1, .slice Option.none 0 0] 24)) db mb b8 0 [] ([], 0) [] (.slice Option.none 0 0) (.slice (some ⟨w2.heap.size, 0, none⟩) 0 0)) := by
    have e5 := below_new w4 (.cells #[.int .i64 0, .int .i64 0, .int .i64 1, .slice Option.none 0 0] 24)
    have h4 := (HA3.out.below HB3.out.1).below hb4
    refine ⟨h4.below e5, ⟨trivial, .inl ⟨rfl, rfl⟩⟩, by show 0 ≤ _; omega, by rw [← hb8]; exact Blk.new _ _ _, slI_nil _, by rw [← hb8]; exact not_ft h4 (Nat.le_refl _), by rw [← hb8]; exact h4.be.size, ?_, fun g q => ?_⟩
    · exact (HR3.out.keep hb4 HR3.out.block_lt).keep e5 (HR3.out.keep hb4 HR3.out.block_lt).block_lt
    · have q2 : w2.heap.size = g := Option.some.inj q
      subst q2
      refine ⟨not_ft HA3.out (Nat.le_refl _), ?_⟩
      have h1 := HB3.out.2
      have h2 := hb4.size
      omega
  rw [hb8]
  obtain ⟨w5, hw5⟩ : ∃ w5, w4.alloc (.cells #[.int .i64 0, .int .i64 0, .int .i64 1, .slice Option.none 0 0] 24) = w5 := ⟨_, rfl⟩
  rw [hw5] at HL0 ⊢
  obtain ⟨A7, hA7⟩ : ∃ A7, (some ⟨w2.heap.size, 0, none⟩ : Option Addr) = A7 := ⟨_, rfl⟩
  rw [hA7] at HL0 ⊢
  clear hw5 hb8 hb4 HB3 HR3 HA3 hw3 hA7
  go_wp2
  go_loopw [7, 9] (fun vA vi wr => ∃ (k : Nat) (fs : List Fl) (p : PV) (ss : List Sta) (V : Value), vi = .int .i64 (k : Int) ∧ k ≤ n ∧ Hid (CrL w1 wr db mb b8 k fs p ss V vA)) (fun _ vi _ => n - (intOf vi).toNat)
  case atStart => exact ⟨0, [], ([], 0), [], _, rfl, Nat.zero_le _, HL0.out⟩
  case round =>
    obtain ⟨k, fs, p, ss, V, rfl, hk, HL⟩ := hrel
    by_cases hkn : k < n
    · have hkl : k < cs.length := by rw [HN.out]; exact hkn
      obtain ⟨b, o, u, rfl, hc⟩ := HH.out k hkl
      obtain ⟨s, hs⟩ : ∃ s, cs[k] = s := ⟨_, rfl⟩
      rw [hs] at hc
      have HC1 := hid (hc.below HB1.out)
      have HCr := hid (HC1.out.below HL.out.al.be)
      obtain ⟨Au, cu, eu, _⟩ := hc.sl
      obtain ⟨m, hm⟩ : ∃ m, s.t.length = m := ⟨_, rfl⟩
      rw [hm] at eu
      subst eu
      have c0 := HCr.out.c0
      have c1 := HCr.out.c1
      have c2 := HCr.out.c2
      have c3 := HCr.out.c3
      by_cases h60 : 60 < m
      · clear hc hm hs
        go_wp2
        go_ret
        exact ⟨rfl, HB1.out.trans (HL.out.al.be.mono HB1.out.size)⟩
      · have hsl := hc.sl
        have HOf : Hid (∀ W, Below wr.heap.size wr W → Calls Tryz.prog 9 #[staV s.g s.a s.n (.slice Au m cu)] W fun e w' => ∃ A3 m3 c3, e = .returned (staV s.g s.a s.n (.slice A3 m3 c3)) ∧ Hid (SlI w' (.slice A3 m3 c3) s.t) ∧ Below W.heap.size W w') := fun W hW => by
          refine (of9_any s (.slice Au m cu) W (HCr.out.sl.below hW) (by omega)).mono ?_
          rintro e w' ⟨v', rfl, hI, hb⟩
          obtain ⟨A3, c3, rfl, _⟩ := id hI
          exact ⟨A3, _, c3, rfl, hI, hb⟩
        have HSm : Hid (∀ W v1, SlI W v1 s.t → Below w1.heap.size w1 W → Calls Tryz.prog 18 #[staV s.g s.a s.n v1, staV s.g s.a s.n (.slice Au m cu)] W fun e w' => e = .returned (.bool true) ∧ Below W.heap.size W w') := fun W v1 h1 h2 => by
          have := lsame_any s s v1 (.slice Au m cu) W h1 (HC1.out.sl.below h2) (by omega) (by omega)
          rwa [same_ok] at this
        have hrl : (rdM p).length ≤ 1000000 := by rw [onlyM_rd HL.out.om]; have := HL.out.ln; omega
        rcases save_cases HL.out.om HL.out.ln s with ⟨p2, ss2, e2, o2, l2, b2⟩ | e2
        · have HSv : Hid (∀ W v2, Al w1 W db mb 1048576 (6 * k) fs p → SlI W v2 s.t → Calls Tryz.prog 22 #[.pointer (some ⟨db, 0, none⟩), .string mN, staV s.g s.a s.n v2] W fun e w' => ∃ fs2, e = .returned (.int .i64 0) ∧ Hid (Al w1 w' db mb 1048576 (6 * k + 6) fs2 p2 ∧ Mv W w' db mb fs fs2)) := fun W v2 h h2 =>
            h.save2 (by omega) (by decide) s v2 h2 hrl e2
          have hrl2 : (rdM p2).length ≤ 1000000 := by rw [onlyM_rd o2]; omega
          have HLd : Hid (∀ W fs2, Al w1 W db mb 1048576 (6 * k + 6) fs2 p2 → Calls Tryz.prog 28 #[.pointer (some ⟨db, 0, none⟩), .string mN] W fun e w' => ∃ A3 m3 c3, e = .returned (.tuple #[staV s.g s.a s.n (.slice A3 m3 c3), .int .i64 0]) ∧ Hid (SlI w' (.slice A3 m3 c3) s.t) ∧ Below W.heap.size W w') := fun W fs2 h => by
            refine (load9_any h.sd hrl2).mono ?_
            rintro e w' ⟨h1, h2⟩
            rw [onlyM_rd o2, readS_whole ss2 o2.1, l2] at h1
            obtain ⟨v3, rfl, h3⟩ := h1
            obtain ⟨A3, c3, rfl, _⟩ := id h3
            exact ⟨A3, _, c3, rfl, h3, h2⟩
          have HLo : Hid (∀ W fs2, Al w1 W db mb 1048576 (6 * k + 6) fs2 p2 → Calls Tryz.prog 36 #[.pointer (some ⟨db, 0, none⟩)] W fun e w' => e = .returned (.int .i64 0) ∧ Below W.heap.size W w') := fun W fs2 h => by
            have hg : GoodV (viewF fs2) 1048576 p2.2 (6 * k + 6) := by rw [h.sd.v]; exact h.sd.good
            obtain ⟨_, f2, _, _, _, f6, _⟩ := good_fs hg (by omega) (by decide)
            have h0 : looseF fs2 = 0 := by rw [← view_loose, h.sd.v]; exact onlyM_loose o2
            have := loose_ok h.sd.dk (by omega) fun f hf => (f6 f hf).2.2.1
            rw [h0] at this
            exact this
          have HRd : Hid (∀ W fs2, Al w1 W db mb 1048576 (6 * k + 6) fs2 p2 → Calls Tryz.prog 30 #[.pointer (some ⟨db, 0, none⟩), .string mN] W fun e w' => ∃ A3 m3 c3 q, e = .returned (.tuple #[.slice A3 m3 c3, .bool q]) ∧ Hid (Row w' W.heap.size (.slice A3 m3 c3) (framesM (bodies ss2))) ∧ Below W.heap.size W w') := fun W fs2 h => by
            refine (read9m h.sd hrl2).mono ?_
            rintro e w' ⟨v3, q, rfl, h3, h4⟩
            rw [onlyM_rd o2] at h3
            obtain ⟨A3, c3, rfl, _⟩ := h3.sla
            exact ⟨A3, _, c3, q, rfl, h3, h4⟩
          have HO2 := hid (And.intro o2 (And.intro l2 b2))
          clear e2 o2 l2 b2 hrl hrl2 hsl hc hm hs
          obtain ⟨g, a, nn, t⟩ := s
          dsimp only at c0 c1 c2 HOf HSm HSv HLd
          go_upto_region 16 with (first
            | (go_at_call 9; refine (HOf.out _ (Below.refl _ _)).mono ?_; rintro e w2x ⟨A2, m2, c2x, rfl, HV2, hb2⟩)
            | (go_at_call 22; refine (HSv.out _ _ (HL.out.al.below hb2) HV2.out).mono ?_; rintro e w3x ⟨fs3, rfl, HA3⟩))
          have HB3 := hid (HA3.out.2.blk (HL.out.bx.keep hb2 HL.out.bx.lt) HL.out.nb)
          have HC3 := hid (HC1.out.below HA3.out.1.be)
          clear c0 c1 c2 c3 hb2 HV2 HOf HSv HCr
          have c0 := HC3.out.c0
          have c1 := HC3.out.c1
          have c2 := HC3.out.c2
          have c3 := HC3.out.c3
          dsimp only at c0 c1 c2
          have y0 : w3x.cell? ⟨b8, 0, Option.none⟩ = some (.int .i64 (ss.getLastD sta0).g) := HB3.out.1.cell 0
          have y1 : w3x.cell? ⟨b8, 1, Option.none⟩ = some (.int .i64 (ss.getLastD sta0).a) := HB3.out.1.cell 1
          have y2 : w3x.cell? ⟨b8, 2, Option.none⟩ = some (.int .i64 (ss.getLastD sta0).n) := HB3.out.1.cell 2
          have y3 : w3x.cell? ⟨b8, 3, Option.none⟩ = some V := HB3.out.1.cell 3
          have yf : ∀ j, w3x.frozen? ⟨b8, j, Option.none⟩ = false := fun j => HB3.out.1.free j
          go_upto_region 17 with (fail)
          have HA4 : Hid (Al w1 ((((w3x.setCell ⟨b8, 0, none⟩ (.int .i64 g)).setCell ⟨b8, 1, none⟩ (.int .i64 a)).setCell ⟨b8, 2, none⟩ (.int .i64 nn)).setCell ⟨b8, 3, none⟩ (.slice Au m cu)) db mb 1048576 (6 * k + 6) fs3 p2) :=
            (((HA3.out.1.sets HB3.out.2 HL.out.lb 0 _).sets HB3.out.2 HL.out.lb 1 _).sets HB3.out.2 HL.out.lb 2 _).sets HB3.out.2 HL.out.lb 3 _
          have HB4 : Hid (Blk ((((w3x.setCell ⟨b8, 0, none⟩ (.int .i64 g)).setCell ⟨b8, 1, none⟩ (.int .i64 a)).setCell ⟨b8, 2, none⟩ (.int .i64 nn)).setCell ⟨b8, 3, none⟩ (.slice Au m cu)) b8 24 #[.int .i64 g, .int .i64 a, .int .i64 nn, .slice Au m cu]) :=
            (((HB3.out.1.set 0 (.int .i64 g)).set 1 (.int .i64 a)).set 2 (.int .i64 nn)).set 3 (.slice Au m cu)
          have HN4 := hid HB3.out.2
          obtain ⟨w4x, hw4⟩ : ∃ W, ((((w3x.setCell ⟨b8, 0, none⟩ (.int .i64 g)).setCell ⟨b8, 1, none⟩ (.int .i64 a)).setCell ⟨b8, 2, none⟩ (.int .i64 nn)).setCell ⟨b8, 3, none⟩ (.slice Au m cu)) = W := ⟨_, rfl⟩
          rw [hw4] at HA4 HB4 ⊢
          clear hw4 c0 c1 c2 c3 y0 y1 y2 y3 yf HB3 HA3 HC3
          go_upto_region 18 with (go_at_call 28; refine (HLd.out _ _ HA4.out).mono ?_; rintro e w5x ⟨A5, m5, c5, rfl, HV5, hb5⟩)
          have e6 := below_new w5x (.cells #[.int .i64 g, .int .i64 a, .int .i64 nn, .slice A5 m5 c5] 29)
          have HB6 := hid ((HB4.out.keep hb5 HB4.out.lt).keep e6 (HB4.out.keep hb5 HB4.out.lt).lt)
          have HA6 := hid ((HA4.out.below hb5).below e6)
          have HX6 := hid (Blk.new w5x 29 #[.int .i64 g, .int .i64 a, .int .i64 nn, .slice A5 m5 c5])
          have HV6 := hid (HV5.out.below e6)
          obtain ⟨b10, hb10⟩ : ∃ b, w5x.heap.size = b := ⟨_, rfl⟩
          obtain ⟨w6x, hw6⟩ : ∃ W, w5x.alloc (.cells #[.int .i64 g, .int .i64 a, .int .i64 nn, .slice A5 m5 c5] 29) = W := ⟨_, rfl⟩
          rw [hw6, hb10] at HX6
          rw [hw6] at HB6 HA6 HV6 ⊢
          rw [hb10]
          clear hw6 hb10 e6 hb5 HV5 HB4 HA4 HLd
          have x0 : w6x.cell? ⟨b10, 0, Option.none⟩ = some (.int .i64 g) := HX6.out.cell 0
          have x1 : w6x.cell? ⟨b10, 1, Option.none⟩ = some (.int .i64 a) := HX6.out.cell 1
          have x2 : w6x.cell? ⟨b10, 2, Option.none⟩ = some (.int .i64 nn) := HX6.out.cell 2
          have x3 : w6x.cell? ⟨b10, 3, Option.none⟩ = some (.slice A5 m5 c5) := HX6.out.cell 3
          have y0 : w6x.cell? ⟨b8, 0, Option.none⟩ = some (.int .i64 g) := HB6.out.cell 0
          have y1 : w6x.cell? ⟨b8, 1, Option.none⟩ = some (.int .i64 a) := HB6.out.cell 1
          have y2 : w6x.cell? ⟨b8, 2, Option.none⟩ = some (.int .i64 nn) := HB6.out.cell 2
          have y3 : w6x.cell? ⟨b8, 3, Option.none⟩ = some (.slice Au m cu) := HB6.out.cell 3
          go_wp2_with (first
            | (go_at_call 18; refine (HSm.out _ _ HV6.out HA6.out.be).mono ?_; rintro e w7x ⟨rfl, hb7⟩; have HA7 := hid (HA6.out.below hb7))
            | (go_at_call 36; refine (HLo.out _ _ HA7.out).mono ?_; rintro e w8x ⟨rfl, hb8⟩; have HA8 := hid (HA7.out.below hb8))
            | (go_at_call 30; refine (HRd.out _ _ HA8.out).mono ?_; rintro e w9x ⟨A9, m9, c9, q9, rfl, HR9, hb9⟩))
          go_roundw
          case rel =>
            have hbs := ((hb7.trans (hb8.mono hb7.size)).trans (hb9.mono (Nat.le_trans hb7.size hb8.size)))
            have el : ss2.getLastD sta0 = ⟨g, a, nn, t⟩ := HO2.out.2.1
            refine ⟨k + 1, fs3, p2, ss2, .slice Au m cu, by go_num, by omega, (HA8.out.below hb9).upto (by omega), HO2.out.1, HO2.out.2.2, ?_, by rw [el]; exact HC1.out.sl, HN4.out, HL.out.lb, HR9.out.le HA8.out.be.size, fun j q => ⟨fun r => ?_, fun r => ?_⟩⟩
            · rw [el]
              exact HB6.out.keep hbs HB6.out.lt
            · have h1 := (World.ownsRow.lt HR9.out j q).1
              have h2 := (HA8.out.sd.lt r).2
              omega
            · have h1 := (World.ownsRow.lt HR9.out j q).1
              have h2 := HB6.out.lt
              have h3 := hb7.size
              have h4 := hb8.size
              omega
          case measure => simp [intOf]; omega
        · have HSv : Hid (∀ W v2, Al w1 W db mb 1048576 (6 * k) fs p → SlI W v2 s.t → Calls Tryz.prog 22 #[.pointer (some ⟨db, 0, none⟩), .string mN, staV s.g s.a s.n v2] W fun e w' => ∃ fs2, e = .returned (.int .i64 10) ∧ Hid (Al w1 w' db mb 1048576 (6 * k + 6) fs2 p ∧ Mv W w' db mb fs fs2)) := fun W v2 h h2 =>
            h.save2 (by omega) (by decide) s v2 h2 hrl e2
          clear e2 hrl hsl hc hm hs HSm
          obtain ⟨g, a, nn, t⟩ := s
          dsimp only at c0 c1 c2 HOf HSv
          go_wp2_with (first
            | (go_at_call 9; refine (HOf.out _ (Below.refl _ _)).mono ?_; rintro e w2x ⟨A2, m2, c2x, rfl, HV2, hb2⟩)
            | (go_at_call 22; refine (HSv.out _ _ (HL.out.al.below hb2) HV2.out).mono ?_; rintro e w3x ⟨fs3, rfl, HA3⟩))
          go_roundw
          case rel => exact ⟨k + 1, fs3, p, ss, V, by go_num, by omega, (HL.out.below hb2).no HA3.out.1 HA3.out.2⟩
          case measure => simp [intOf]; omega
    · obtain ⟨L, hL⟩ : ∃ L, ss.getLastD sta0 = L := ⟨_, rfl⟩
      have hlg := last_g HL.out.om.1
      rw [hL] at hlg
      obtain ⟨lg, la, ln, lt⟩ := L
      dsimp only at hlg
      have HS := hid hL
      have HBx : Hid (Blk wr b8 24 #[.int .i64 lg, .int .i64 la, .int .i64 ln, V]) := by have := HL.out.bx; rw [hL] at this; exact this
      have HSV : Hid (SlI w1 V lt) := by have := HL.out.sv; rw [hL] at this; exact this
      have HLn := hid HL.out.ln
      obtain ⟨AV, cV, eV, _⟩ := HSV.out
      obtain ⟨mV, hmV⟩ : ∃ m, lt.length = m := ⟨_, rfl⟩
      rw [hmV] at eV
      subst eV
      obtain ⟨fl, hfl⟩ : ∃ fl, framesM (bodies ss) = fl := ⟨_, rfl⟩
      obtain ⟨nf, hnf⟩ : ∃ nf, fl.length = nf := ⟨_, rfl⟩
      have HRa : Hid (Row wr w1.heap.size u7 fl) := by rw [← hfl]; exact HL.out.rw
      obtain ⟨A7a, c7a, e7a, _⟩ := HRa.out.sla
      rw [hnf] at e7a
      subst e7a
      have HFl := hid hfl
      have HNf := hid hnf
      rw [hfl, hnf] at HLn
      have hnf9 : nf ≤ 2546 := HLn.out
      have hbs := hid HL.out.al.be
      have hlb := HL.out.lb
      have z0 : wr.cell? ⟨b8, 0, Option.none⟩ = some (.int .i64 lg) := HBx.out.cell 0
      clear hL hfl hnf hmV
      go_upto_region 22 with (fail)
      obtain ⟨nx, hnx⟩ : ∃ nx : Sta, nx = ⟨lg + 1, 7, 9, [8]⟩ := ⟨_, rfl⟩
      have HBw : Hid (Below wr.heap.size wr ((wr.alloc (.cells #[.int .i64 8] 3)).alloc (.cells #[.int .i64 (lg + 1), .int .i64 7, .int .i64 9, .slice (some ⟨wr.heap.size, 0, none⟩) 1 1] 24))) := (below_new wr _).trans ((below_new _ _).mono (by simp))
      have HS8 : Hid (SlI ((wr.alloc (.cells #[.int .i64 8] 3)).alloc (.cells #[.int .i64 (lg + 1), .int .i64 7, .int .i64 9, .slice (some ⟨wr.heap.size, 0, none⟩) 1 1] 24)) (.slice (some ⟨wr.heap.size, 0, none⟩) 1 1) [8]) := (irow_new wr wr.heap.size (Nat.le_refl _) [8] (by simp) _ rfl _ rfl).slI.below (below_new _ _)
      have HB12 : Hid (Blk ((wr.alloc (.cells #[.int .i64 8] 3)).alloc (.cells #[.int .i64 (lg + 1), .int .i64 7, .int .i64 9, .slice (some ⟨wr.heap.size, 0, none⟩) 1 1] 24)) (wr.heap.size + 1) 24 #[.int .i64 (lg + 1), .int .i64 7, .int .i64 9, .slice (some ⟨wr.heap.size, 0, none⟩) 1 1]) := by
        have := Blk.new (wr.alloc (.cells #[.int .i64 8] 3)) 24 #[.int .i64 (lg + 1), .int .i64 7, .int .i64 9, .slice (some ⟨wr.heap.size, 0, none⟩) 1 1]
        rwa [World.size_alloc] at this
      obtain ⟨b12, hb12⟩ : ∃ b, wr.heap.size + 1 = b := ⟨_, rfl⟩
      obtain ⟨b11, hb11⟩ : ∃ b, wr.heap.size = b := ⟨_, rfl⟩
      have HLb : Hid (b8 < b11) := by rw [← hb11]; exact HBx.out.lt
      have HLc : Hid (∀ g, (Value.slice A7a nf c7a).ownBlock = some g → g < b11) := by rw [← hb11]; exact HRa.out.block_lt
      have HLd : Hid (b12 = b11 + 1) := by rw [← hb11, ← hb12]; rfl
      obtain ⟨wn, hwn⟩ : ∃ W, (wr.alloc (.cells #[.int .i64 8] 3)).alloc (.cells #[.int .i64 (lg + 1), .int .i64 7, .int .i64 9, .slice (some ⟨wr.heap.size, 0, none⟩) 1 1] 24) = W := ⟨_, rfl⟩
      have HRn := hid (HRa.out.keep HBw.out HRa.out.block_lt)
      have HBn := hid (HBx.out.keep HBw.out HBx.out.lt)
      have HWn := hid (hbs.out.trans (HBw.out.mono hbs.out.size))
      have HWs : Hid (w1.heap.size ≤ b11) := by rw [← hb11]; exact hbs.out.size
      rw [hwn] at HBw HS8 HB12 HRn HBn HWn ⊢
      rw [hb12]
      rw [hb12] at HB12
      rw [hb11] at HS8 HB12
      clear hwn hb12 hb11 HRa HBx z0 HBw
      have x0 : wn.cell? ⟨b12, 0, Option.none⟩ = some (.int .i64 (lg + 1)) := HB12.out.cell 0
      have x1 : wn.cell? ⟨b12, 1, Option.none⟩ = some (.int .i64 7) := HB12.out.cell 1
      have x2 : wn.cell? ⟨b12, 2, Option.none⟩ = some (.int .i64 9) := HB12.out.cell 2
      have x3 : wn.cell? ⟨b12, 3, Option.none⟩ = some (.slice (some ⟨b11, 0, none⟩) 1 1) := HB12.out.cell 3
      cases hr : nx.right with
      | false =>
        have HEn : Hid (Calls Tryz.prog 10 #[staV (lg + 1) 7 9 (.slice (some ⟨b11, 0, none⟩) 1 1)] wn fun e w' => e = .returned (.tuple #[.slice Option.none 0 0, .bool false]) ∧ Below wn.heap.size wn w') := by
          refine (rencode_any ⟨lg + 1, 7, 9, [8]⟩ (.slice (some ⟨b11, 0, none⟩) 1 1) wn HS8.out).mono ?_
          rintro e w' ⟨h1, h3⟩
          rw [if_neg (by rw [← hnx, hr]; decide)] at h1
          exact ⟨h1, h3⟩
        clear hr hnx
        go_wp2_with (go_at_call 10; refine HEn.out.mono ?_; rintro e w11 ⟨rfl, hb11⟩)
        go_ret
        exact ⟨rfl, HB1.out.trans ((HWn.out.trans (hb11.mono HWn.out.size)).mono HB1.out.size)⟩
      | true =>
        obtain ⟨l, hl⟩ : ∃ l, nx.enc = l := ⟨_, rfl⟩
        have hel := enc_len ((Sta.right_iff _).1 hr)
        rw [hl] at hel
        obtain ⟨ne, hne⟩ : ∃ ne, l.length = ne := ⟨_, rfl⟩
        obtain ⟨F, hF⟩ : ∃ F, (frameM l).length = F := ⟨_, rfl⟩
        have hFb : F ≤ 499 := by have := frame_le hr; rw [hl] at this; omega
        obtain ⟨mk, hmk⟩ : ∃ mk : Int, min keep (F : Int) = mk := ⟨_, rfl⟩
        obtain ⟨ct, hct⟩ : ∃ ct : Nat, max mk 0 = (ct : Int) := ⟨(max mk 0).toNat, by omega⟩
        have hcF : ct ≤ F := by omega
        obtain ⟨all, hall⟩ : ∃ all, fl ++ (frameM l).take ct = all := ⟨_, rfl⟩
        obtain ⟨na, hna⟩ : ∃ na, all.length = na := ⟨_, rfl⟩
        have htl : ((frameM l).take ct).length = ct := by rw [List.length_take]; omega
        have hrp := read_part HL.out.om.1 nx hr (by rw [HS.out, hnx]) ct (by rw [hl, hF]; exact hcF)
        rw [HFl.out, HNf.out, hl, hall, hF, HS.out] at hrp
        have hna9 : na ≤ 10000 := by rw [← hna, ← hall, List.length_append, htl, HNf.out]; omega
        have HEn : Hid (Calls Tryz.prog 10 #[staV (lg + 1) 7 9 (.slice (some ⟨b11, 0, none⟩) 1 1)] wn fun e w' => ∃ A7 c7, e = .returned (.tuple #[.slice A7 ne c7, .bool true]) ∧ Hid (SlA w' (.slice A7 ne c7) l) ∧ Below wn.heap.size wn w') := by
          refine (rencode_any ⟨lg + 1, 7, 9, [8]⟩ (.slice (some ⟨b11, 0, none⟩) 1 1) wn HS8.out).mono ?_
          rintro e w' ⟨h1, h3⟩
          rw [if_pos (by rw [← hnx, hr]), ← hnx, hl] at h1
          obtain ⟨v7, rfl, h4⟩ := h1
          have h5 := h4.sla
          obtain ⟨A7, c7, rfl, _⟩ := id h5
          rw [hne] at h5 ⊢
          exact ⟨A7, c7, rfl, h5, h3⟩
        have HFr : Hid (∀ W v2, SlA W v2 l → Calls Tryz.prog 37 #[v2] W fun e w' => ∃ AF cF, e = .returned (.tuple #[.slice AF F cF, .bool true]) ∧ F ≤ cF ∧ Hid (SlA w' (.slice AF F cF) (frameM l)) ∧ Below W.heap.size W w') := fun W v2 h2 => by
          refine (refFrame_any v2 l (by omega) W h2).mono ?_
          rintro e w' ⟨v3, he, hR, hb⟩
          have h5 := hR.sla
          obtain ⟨AF, cF, rfl, h6, _⟩ := id h5
          rw [hF] at h5 he h6
          exact ⟨AF, cF, he, h6, h5, hb⟩
        have HRd : Hid (∀ W A13 c13, SlA W (.slice A13 na c13) all → Calls Tryz.prog 13 #[.slice A13 na c13] W fun e w' => RdsEnd W all e w') := fun W A13 c13 h => read9_any _ all (by omega) W h
        have HHd : Hid (∀ W AF cF, SlA W (.slice AF F cF) (frameM l) → HoldsA W AF ((frameM l).take ct)) := fun W AF cF h => (slA_take9 h hF ct hcF).hadA
        have HTl := hid htl
        have HAll := hid hall
        have HNa := hid hna
        have HMn := hid hmk
        have hnx9 := hnx
        have HTn : Hid (lt.length ≤ 1000000) := by
          have h1 : lt = (ss.getLastD sta0).t := by rw [HS.out]
          have h2 := HL.out.om.1
          unfold Hid
          rw [h1]
          rcases List.eq_nil_or_concat ss with e | ⟨l9, s9, e⟩
          · rw [e]; show ([] : List Int).length ≤ _; simp
          · have e3 : ss.getLastD sta0 = s9 := by rw [e, List.concat_eq_append]; simp
            rw [e3]
            have := ((Sta.right_iff _).1 (chain_right h2 s9 (by rw [e, List.concat_eq_append]; simp))).tl
            omega
        clear hall hna hr hl hne hF htl hnx
        go_upto_region 26 with (first
          | (go_at_call 10; refine HEn.out.mono ?_; rintro e w11 ⟨A11, c11, rfl, HVx, hb11⟩)
          | (go_at_call 37; refine (HFr.out _ _ HVx.out).mono ?_; rintro e w12 ⟨AF, cF, rfl, hFc, HF12, hb12⟩))
        have HBb := hid (hb11.trans (hb12.mono hb11.size))
        have HR12 := hid (HRn.out.keep HBb.out HRn.out.block_lt)
        have HB8 := hid (HBn.out.keep HBb.out HBn.out.lt)
        have HBx := hid (HB12.out.keep HBb.out HB12.out.lt)
        have HW12 := hid (HWn.out.trans (HBb.out.mono HWn.out.size))
        have HS12 := hid (HS8.out.below HBb.out)
        clear x0 x1 x2 x3 hb11 hb12 HEn HFr HVx HBb HRn HBn HB12 HS8 HWn
        have hcc : ct ≤ cF := Nat.le_trans hcF hFc
        by_cases hq : ct = F
        · subst hq
          rw [if_pos rfl] at hrp
          obtain ⟨N, hN⟩ : ∃ N, nf + ct = N := ⟨_, rfl⟩
          rw [hN] at hrp
          have HRd2 : Hid (∀ W A13 c13, SlA W (.slice A13 na c13) all → Calls Tryz.prog 13 #[.slice A13 na c13] W fun e w' => ∃ A14 m14 c14, e = .returned (.tuple #[staV (lg + 1) 7 9 (.slice A14 m14 c14), .int .i64 (N : Int), .int .i64 0]) ∧ Hid (SlI w' (.slice A14 m14 c14) [8]) ∧ Below W.heap.size W w') := fun W A13 c13 h => by
            refine (HRd.out W A13 c13 h).mono ?_
            rintro e w' ⟨h1, h2⟩
            rw [hrp] at h1
            obtain ⟨v3, rfl, h3, _⟩ := h1
            rw [hnx9] at h3 ⊢
            obtain ⟨A3, c3, rfl, _⟩ := id h3
            exact ⟨A3, _, c3, rfl, h3, h2⟩
          have HSm : Hid (∀ W v1 v2, SlI W v1 [8] → SlI W v2 [8] → Calls Tryz.prog 18 #[staV (lg + 1) 7 9 v1, staV (lg + 1) 7 9 v2] W fun e w' => e = .returned (.bool true) ∧ Below W.heap.size W w') := fun W v1 v2 h1 h2 => by
            have := lsame_any ⟨lg + 1, 7, 9, [8]⟩ ⟨lg + 1, 7, 9, [8]⟩ v1 v2 W h1 h2 (by simp) (by simp)
            rwa [same_ok] at this
          have hNb : ((N : Int) == (nf : Int) + (ct : Int)) = true := by rw [← hN]; simp
          clear HRd hN hrp hnx9
          go_upto_region 28 with (first
            | (at_builtin; refine wpList_append_rg rfl (.tmp 108) (.tmp 111) rfl rfl _ w1.heap.size _ fl rfl HR12.out AF ct cF ((frameM l).take ct) HTl.out rfl (HHd.out _ _ _ HF12.out) (by have h1 := HTl.out; have h2 := HNf.out; omega) HW12.out.size ?_; intro v13 w13 hr13 hg13; rw [HAll.out] at hr13; obtain ⟨A13, c13, e13, _⟩ := hr13.sla; rw [HNa.out] at e13; subst e13; have HR13 := hid hr13; have HG13 := hid hg13; clear hr13 hg13)
            | (go_at_call 13; refine (HRd2.out _ _ _ HR13.out.sla).mono ?_; rintro e w14 ⟨A14, m14, c14, rfl, HV14, hb14⟩))
          have HNe : Hid ((Value.slice A7a nf c7a).ownBlock ≠ some b8 ∧ (Value.slice A7a nf c7a).ownBlock ≠ some b12 ∧ ∀ k, (Value.slice A7a nf c7a).ownBlock = some k → k < b11) := ⟨fun e => (HL.out.nr b8 e).2 rfl, fun e => by have h1 := HLc.out b12 e; have h2 := HLd.out; omega, HLc.out⟩
          have HB13 : Hid (Below w1.heap.size w1 w13) := HW12.out.grown HG13.out HW12.out.size fun k e => (World.ownsRow.lt HR12.out k e).1
          have HB14 := hid (HB13.out.trans (hb14.mono HB13.out.size))
          have e15 := below_new w14 (.cells #[.int .i64 (lg + 1), .int .i64 7, .int .i64 9, .slice A14 m14 c14] 29)
          have HB15 := hid (HB14.out.trans (e15.mono HB14.out.size))
          have HX15 := hid (Blk.new w14 29 #[.int .i64 (lg + 1), .int .i64 7, .int .i64 9, .slice A14 m14 c14])
          have HV15 := hid (HV14.out.below e15)
          have HY13 := hid (HBx.out.grown9 HG13.out HNe.out.2.1)
          have HY15 := hid ((HY13.out.keep hb14 HY13.out.lt).keep e15 (HY13.out.keep hb14 HY13.out.lt).lt)
          have HS15 := hid (((HS12.out.grown9 HG13.out fun k q r => by have h1 : b11 = k := Option.some.inj q; have h2 := HNe.out.2.2 k r; omega).below hb14).below e15)
          obtain ⟨b18, hb18⟩ : ∃ b, w14.heap.size = b := ⟨_, rfl⟩
          obtain ⟨w15, hw15⟩ : ∃ W, w14.alloc (.cells #[.int .i64 (lg + 1), .int .i64 7, .int .i64 9, .slice A14 m14 c14] 29) = W := ⟨_, rfl⟩
          rw [hw15, hb18] at HX15
          rw [hw15] at HB15 HV15 HY15 HS15 ⊢
          rw [hb18]
          clear hw15 hb18 e15 hb14 HY13 HB14 HB13 HV14 HR12 HF12 HW12
          have x0 : w15.cell? ⟨b18, 0, Option.none⟩ = some (.int .i64 (lg + 1)) := HX15.out.cell 0
          have x1 : w15.cell? ⟨b18, 1, Option.none⟩ = some (.int .i64 7) := HX15.out.cell 1
          have x2 : w15.cell? ⟨b18, 2, Option.none⟩ = some (.int .i64 9) := HX15.out.cell 2
          have x3 : w15.cell? ⟨b18, 3, Option.none⟩ = some (.slice A14 m14 c14) := HX15.out.cell 3
          have y0 : w15.cell? ⟨b12, 0, Option.none⟩ = some (.int .i64 (lg + 1)) := HY15.out.cell 0
          have y1 : w15.cell? ⟨b12, 1, Option.none⟩ = some (.int .i64 7) := HY15.out.cell 1
          have y2 : w15.cell? ⟨b12, 2, Option.none⟩ = some (.int .i64 9) := HY15.out.cell 2
          have y3 : w15.cell? ⟨b12, 3, Option.none⟩ = some (.slice (some ⟨b11, 0, none⟩) 1 1) := HY15.out.cell 3
          go_wp2_with (go_at_call 18; refine (HSm.out _ _ _ HV15.out HS15.out).mono ?_; rintro e w16 ⟨rfl, hb16⟩)
          go_ret
          exact ⟨rfl, HB1.out.trans ((HB15.out.trans (hb16.mono HB15.out.size)).mono HB1.out.size)⟩
        · rw [if_neg hq] at hrp
          have HRd2 : Hid (∀ W A13 c13, SlA W (.slice A13 na c13) all → Calls Tryz.prog 13 #[.slice A13 na c13] W fun e w' => ∃ A14 m14 c14, e = .returned (.tuple #[staV lg la ln (.slice A14 m14 c14), .int .i64 (nf : Int), .int .i64 0]) ∧ Hid (SlI w' (.slice A14 m14 c14) lt) ∧ Below W.heap.size W w') := fun W A13 c13 h => by
            refine (HRd.out W A13 c13 h).mono ?_
            rintro e w' ⟨h1, h2⟩
            rw [hrp] at h1
            obtain ⟨v3, rfl, h3, _⟩ := h1
            obtain ⟨A3, c3, rfl, _⟩ := id h3
            exact ⟨A3, _, c3, rfl, h3, h2⟩
          have HSm : Hid (∀ W v1 v2, SlI W v1 lt → SlI W v2 lt → Calls Tryz.prog 18 #[staV lg la ln v1, staV lg la ln v2] W fun e w' => e = .returned (.bool true) ∧ Below W.heap.size W w') := fun W v1 v2 h1 h2 => by
            have := lsame_any ⟨lg, la, ln, lt⟩ ⟨lg, la, ln, lt⟩ v1 v2 W h1 h2 HTn.out HTn.out
            rwa [same_ok] at this
          have hqb : ((ct : Int) == (F : Int)) = false := beq_eq_false_iff_ne.2 (by omega)
          clear HRd hrp hnx9 hq
          go_upto_region 28 with (first
            | (at_builtin; refine wpList_append_rg rfl (.tmp 108) (.tmp 111) rfl rfl _ w1.heap.size _ fl rfl HR12.out AF ct cF ((frameM l).take ct) HTl.out rfl (HHd.out _ _ _ HF12.out) (by have h1 := HTl.out; have h2 := HNf.out; omega) HW12.out.size ?_; intro v13 w13 hr13 hg13; rw [HAll.out] at hr13; obtain ⟨A13, c13, e13, _⟩ := hr13.sla; rw [HNa.out] at e13; subst e13; have HR13 := hid hr13; have HG13 := hid hg13; clear hr13 hg13)
            | (go_at_call 13; refine (HRd2.out _ _ _ HR13.out.sla).mono ?_; rintro e w14 ⟨A14, m14, c14, rfl, HV14, hb14⟩))
          have HNe : Hid ((Value.slice A7a nf c7a).ownBlock ≠ some b8 ∧ (Value.slice A7a nf c7a).ownBlock ≠ some b12 ∧ ∀ k, (Value.slice A7a nf c7a).ownBlock = some k → k < b11) := ⟨fun e => (HL.out.nr b8 e).2 rfl, fun e => by have h1 := HLc.out b12 e; have h2 := HLd.out; omega, HLc.out⟩
          have HB13 : Hid (Below w1.heap.size w1 w13) := HW12.out.grown HG13.out HW12.out.size fun k e => (World.ownsRow.lt HR12.out k e).1
          have HB14 := hid (HB13.out.trans (hb14.mono HB13.out.size))
          have e15 := below_new w14 (.cells #[.int .i64 lg, .int .i64 la, .int .i64 ln, .slice A14 m14 c14] 29)
          have HB15 := hid (HB14.out.trans (e15.mono HB14.out.size))
          have HX15 := hid (Blk.new w14 29 #[.int .i64 lg, .int .i64 la, .int .i64 ln, .slice A14 m14 c14])
          have HV15 := hid (HV14.out.below e15)
          have HY13 := hid (HB8.out.grown9 HG13.out HNe.out.1)
          have HY15 := hid ((HY13.out.keep hb14 HY13.out.lt).keep e15 (HY13.out.keep hb14 HY13.out.lt).lt)
          have HS15 := hid (HSV.out.below HB15.out)
          obtain ⟨b18, hb18⟩ : ∃ b, w14.heap.size = b := ⟨_, rfl⟩
          obtain ⟨w15, hw15⟩ : ∃ W, w14.alloc (.cells #[.int .i64 lg, .int .i64 la, .int .i64 ln, .slice A14 m14 c14] 29) = W := ⟨_, rfl⟩
          rw [hw15, hb18] at HX15
          rw [hw15] at HB15 HV15 HY15 HS15 ⊢
          rw [hb18]
          clear hw15 hb18 e15 hb14 HY13 HB14 HB13 HV14 HR12 HF12 HW12
          have x0 : w15.cell? ⟨b18, 0, Option.none⟩ = some (.int .i64 lg) := HX15.out.cell 0
          have x1 : w15.cell? ⟨b18, 1, Option.none⟩ = some (.int .i64 la) := HX15.out.cell 1
          have x2 : w15.cell? ⟨b18, 2, Option.none⟩ = some (.int .i64 ln) := HX15.out.cell 2
          have x3 : w15.cell? ⟨b18, 3, Option.none⟩ = some (.slice A14 m14 c14) := HX15.out.cell 3
          have y0 : w15.cell? ⟨b8, 0, Option.none⟩ = some (.int .i64 lg) := HY15.out.cell 0
          have y1 : w15.cell? ⟨b8, 1, Option.none⟩ = some (.int .i64 la) := HY15.out.cell 1
          have y2 : w15.cell? ⟨b8, 2, Option.none⟩ = some (.int .i64 ln) := HY15.out.cell 2
          have y3 : w15.cell? ⟨b8, 3, Option.none⟩ = some (.slice AV mV cV) := HY15.out.cell 3
          go_wp2_with (go_at_call 18; refine (HSm.out _ _ _ HV15.out HS15.out).mono ?_; rintro e w16 ⟨rfl, hb16⟩)
          go_ret
          exact ⟨rfl, HB1.out.trans ((HB15.out.trans (hb16.mono HB15.out.size)).mono HB1.out.size)⟩
end Go.Proofs.YtofkfafdodhmdaaGreatDoor
