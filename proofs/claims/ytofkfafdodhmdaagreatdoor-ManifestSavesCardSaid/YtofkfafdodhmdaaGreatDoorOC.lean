/- Several texts in one: SuK SuL SuM SuN SuO SuP. Conditions: as each theorem names them. -/
import Derived.Test.YtofkfafdodhmdaaGreatDoorOB
import Derived.Deep.QuietTactic
import Derived.BigQuiet
/- The document's Read. Conditions: the disk stands. -/
namespace Go.Proofs.YtofkfafdodhmdaaGreatDoor
open Go.RowKit

abbrev RisM (ms : List Rm) : Prop := ms.Pairwise fun f g => bef f.n g.n = true
theorem find_yes {x : ByteArray} {P Q : List Rm} {m : Rm} {i : Nat} {ok : Bool} (h : FindE x (P ++ m :: Q) i ok) (hr : RisM (P ++ m :: Q)) (hm : m.n = x) : i = P.length ∧ ok = true := by
  have hlen : P.length < (P ++ m :: Q).length := by simp
  have hat : (P ++ m :: Q)[P.length]'hlen = m := by simp
  have hge : P.length ≤ i := by
    rcases Nat.lt_or_ge i P.length with q | q
    · have hi : i < (P ++ m :: Q).length := by omega
      have hb := List.pairwise_iff_getElem.1 hr i P.length hi hlen q
      rw [hat, hm] at hb
      cases ok with
      | true =>
        obtain ⟨_, e⟩ := h.yes rfl
        exact absurd e (bef_ne hb)
      | false =>
        have := bef_asymm (h.no rfl hi)
        rw [this] at hb
        cases hb
    · exact q
  have hle : i ≤ P.length := by
    rcases Nat.lt_or_ge P.length i with q | q
    · have hb := h.lo P.length hlen q
      rw [hat, hm, bef_irr] at hb
      cases hb
    · exact q
  have e : i = P.length := by omega
  subst e
  refine ⟨rfl, ?_⟩
  cases ok with
  | true => rfl
  | false =>
    have hb := h.no rfl hlen
    rw [hat, hm, bef_irr] at hb
    cases hb
theorem find_no {x : ByteArray} {P Q : List Rm} {i : Nat} {ok : Bool} (h : FindE x (P ++ Q) i ok) (hP : ∀ a ∈ P, bef a.n x = true) (hQ : ∀ c ∈ Q, bef x c.n = true) : i = P.length ∧ ok = false := by
  have hok : ok = false := by
    cases ok with
    | false => rfl
    | true =>
      obtain ⟨hi, e⟩ := h.yes rfl
      rcases List.mem_append.1 (List.getElem_mem hi) with q | q
      · exact absurd e (bef_ne (hP _ q))
      · exact absurd e.symm (bef_ne (hQ _ q))
  subst hok
  refine ⟨?_, rfl⟩
  rcases Nat.lt_trichotomy i P.length with q | q | q
  · have hi : i < (P ++ Q).length := by rw [List.length_append]; omega
    have hb := h.no rfl hi
    rw [List.getElem_append_left q] at hb
    rw [bef_asymm (hP _ (List.getElem_mem q))] at hb
    cases hb
  · exact q
  · have hl := h.le
    have hlen : P.length < (P ++ Q).length := by omega
    have hb := h.lo P.length hlen q
    rw [List.getElem_append_right (Nat.le_refl _)] at hb
    rw [bef_asymm (hQ _ (List.getElem_mem _))] at hb
    cases hb
set_option maxHeartbeats 1000000 in
theorem rread_no {w : World} {B rb nx : Nat} {fv lv : Value} {P Q : List Rm} {ls : List Lm} {z : Int} (h : Rk w B rb fv lv (P ++ Q) ls z nx) (x : ByteArray) (hx : x.size ≤ maxLen) (hn : ∀ m ∈ P ++ Q, m.n.size ≤ maxLen) (hl : (P ++ Q).length ≤ 100000) (hP : ∀ a ∈ P, bef a.n x = true) (hQ : ∀ c ∈ Q, bef x c.n = true) :
    Calls Tryz.prog 31 #[.pointer (some ⟨rb, 0, none⟩), .string x] w fun e w' => e = .returned (.tuple #[.slice none 0 0, .bool false]) ∧ Below w.heap.size w w' := by
  have HF := hid (rfind_ok h x hx hn (by omega))
  have HP := hid hP
  have HQ := hid hQ
  clear h hP hQ hn hl
  go_enter Tryz.func31, Tryz.ntmps31
  go_wp2_with (go_at_call 61; refine HF.out.mono ?_; rintro e w1 ⟨i, ok, rfl, hE, hb⟩; obtain ⟨rfl, rfl⟩ := find_no hE HP.out HQ.out; have HB := hid hb; clear hE hb)
  go_ret2
  exact ⟨rfl, HB.out⟩
/-- What is read so far. -/
structure ReS (w wr : World) (v : Value) (l : List UInt8) : Prop where
  b : Below w.heap.size w wr
  row : Row wr w.heap.size v l

set_option maxRecDepth 100000 in
set_option maxHeartbeats 8000000 in
theorem rread_yes {w : World} {B rb nx : Nat} {fv lv : Value} {P Q : List Rm} {m : Rm} {ls : List Lm} {z : Int} (h : Rk w B rb fv lv (P ++ m :: Q) ls z nx) (x : ByteArray) (hx : x.size ≤ maxLen) (hn : ∀ m' ∈ P ++ m :: Q, m'.n.size ≤ maxLen) (hl : (P ++ m :: Q).length ≤ 100000) (hr : RisM (P ++ m :: Q)) (hm : m.n = x) (hs : m.s.length ≤ 100000) (hls : ls.length ≤ 100000) :
    Calls Tryz.prog 31 #[.pointer (some ⟨rb, 0, none⟩), .string x] w fun e w' => ∃ v, e = .returned (.tuple #[v, .bool true]) ∧ Row w' w.heap.size v (m.s ++ bytesM ls m.no) ∧ Below w.heap.size w w' := by
  have HF := hid (rfind_ok h x hx hn (by omega))
  have hlen : P.length < (P ++ m :: Q).length := by simp
  have hat : (P ++ m :: Q)[P.length]'hlen = m := by simp
  obtain ⟨n, hn1⟩ : ∃ n, (P ++ m :: Q).length = n := ⟨_, rfl⟩
  obtain ⟨p, hp1⟩ : ∃ p, ls.length = p := ⟨_, rfl⟩
  obtain ⟨A, c, rfl⟩ := mrow_form h.fr hn1
  obtain ⟨A2, c2, rfl⟩ := lrow_form h.lr hp1
  have m0 : w.cell? ⟨rb, 0, none⟩ = some (.slice A n c) := h.blk.cell 0
  have m1 : w.cell? ⟨rb, 1, none⟩ = some (.slice A2 p c2) := h.blk.cell 1
  obtain ⟨g, rfl, hc⟩ := mrow_at h.fr hlen
  rw [hat] at hc
  obtain ⟨As, cs, es⟩ := row_form (h.sr m (by simp)) rfl
  have x1 := hc 1 _ (by omega) rfl
  have x2 := hc 2 _ (by omega) rfl
  rw [es] at x2
  have HSs := hid (h.sr m (by simp))
  rw [es] at HSs
  have HFE := hid fun i ok (hE : FindE x (P ++ m :: Q) i ok) => find_yes hE hr hm
  have H := hid h
  have HP1 := hid hp1
  obtain ⟨i, hi⟩ : ∃ i, P.length = i := ⟨_, rfl⟩
  rw [hn1, hi] at hlen
  rw [hi] at x1 x2 HFE
  rw [hp1] at hls
  obtain ⟨ns, hns⟩ : ∃ ns, m.s.length = ns := ⟨_, rfl⟩
  rw [hns] at x2 HSs hs
  have HNs := hid hns
  obtain ⟨no, hno⟩ : ∃ no, m.no = no := ⟨_, rfl⟩
  rw [hno] at x1 ⊢
  clear h hn1 hp1 hc hat es hr hm hi hns hn hl hno
  go_enter Tryz.func31, Tryz.ntmps31
  go_upto_region 4 with (go_at_call 61; refine HF.out.mono ?_; rintro e w1 ⟨i', ok, rfl, hE, hb⟩; obtain ⟨rfl, rfl⟩ := HFE.out i' ok hE; have HB1 := hid hb; clear hE hb)
  have y0 : w1.cell? ⟨rb, 0, none⟩ = some (.slice (some ⟨g, 0, none⟩) n c) := (HB1.out.cell (p := ⟨rb, 0, none⟩) (cell_lt m0)).trans m0
  have y2 := (HB1.out.cell (p := ⟨g, _, none⟩) (cell_lt x2)).trans x2
  have HCb := hid (copyb_any (.slice As ns cs) m.s (by rw [HNs.out]; omega) w1 (HSs.out.sla.below HB1.out))
  go_upto_region 5 with (go_at_call 68; refine HCb.out.mono ?_; rintro e w2 ⟨v2, rfl, hr, hb⟩; obtain ⟨A5, q5, rfl⟩ := row_form hr HNs.out; have HRe : Hid (ReS w w2 (.slice A5 ns q5) m.s) := ⟨HB1.out.trans (hb.mono HB1.out.size), row_low hr HB1.out.size⟩; clear hr hb)
  clear HCb HFE HF y0 y2 HB1 HSs
  go_wp2
  go_loopw [8, 9] (fun vo vk wr => ∃ (k n5 q5 : Nat) (A5 : Option Addr), vo = .slice A5 n5 q5 ∧ vk = .int .i64 (k : Int) ∧ k ≤ p ∧ Hid (ReS w wr (.slice A5 n5 q5) (m.s ++ bytesM (ls.take k) no))) (fun _ vk _ => p - (intOf vk).toNat)
  case atStart => exact ⟨0, ns, q5, A5, rfl, rfl, Nat.zero_le _, by rw [List.take_zero, show bytesM [] no = [] from rfl, List.append_nil]; exact HRe.out⟩
  case round =>
    obtain ⟨k, n5, q5, A5, rfl, rfl, hk, HI⟩ := hrel
    have m3 : wr.cell? ⟨rb, 1, none⟩ = some (.slice A2 p c2) := (HI.out.b.cell (p := ⟨rb, 1, none⟩) (cell_lt m1)).trans m1
    by_cases hkn : k < p
    · have hkl : k < ls.length := by rw [HP1.out]; exact hkn
      obtain ⟨g2, rfl, z0, z1⟩ := lrow_at H.out.lr hkl
      have m4 : wr.cell? ⟨rb, 0, none⟩ = some (.slice (some ⟨g, 0, none⟩) n c) := (HI.out.b.cell (p := ⟨rb, 0, none⟩) (cell_lt m0)).trans m0
      have y1 := (HI.out.b.cell (p := ⟨g, _, none⟩) (cell_lt x1)).trans x1
      have u0 := (HI.out.b.cell (p := ⟨g2, _, none⟩) (cell_lt z0)).trans z0
      have u1 := (HI.out.b.cell (p := ⟨g2, _, none⟩) (cell_lt z1)).trans z1
      have hf1 := filter_take hkl (ofNo no)
      have hlen1 : (m.s ++ bytesM (ls.take k) no).length ≤ 200000 := by
        unfold bytesM
        rw [List.length_append, List.length_map, HNs.out]
        have h1 := List.length_filter_le (ofNo no) (ls.take k)
        rw [List.length_take] at h1
        omega
      obtain ⟨⟨yn, yb⟩, hy⟩ : ∃ y, ls[k] = y := ⟨_, rfl⟩
      rw [hy] at u0 u1 hf1
      have HL1 := hid hlen1
      clear hy z0 z1 hlen1 hkl
      by_cases hq : yn = no
      · have HO : Hid (bytesM (ls.take (k + 1)) no = bytesM (ls.take k) no ++ [yb]) := by
          unfold Hid bytesM
          rw [hf1, if_pos (show ofNo no (yn, yb) = true from decide_eq_true hq), List.map_append]
          rfl
        clear hf1
        subst hq
        go_upto_region 8 with (fail)
        go_quiet (fail)
        obtain ⟨W2, hW2⟩ : ∃ W2, wr.drewN nq = W2 := ⟨_, rfl⟩
        have HB2 : Hid (Below wr.heap.size wr W2) := by rw [← hW2]; exact Go.below_drewN (Below.refl _ _) _
        rw [hW2]
        clear hW2
        have m5 := (HB2.out.cell (p := ⟨rb, _, none⟩) (cell_lt m3)).trans m3
        have u2 := (HB2.out.cell (p := ⟨g2, _, none⟩) (cell_lt u0)).trans u0
        have u3 := (HB2.out.cell (p := ⟨g2, _, none⟩) (cell_lt u1)).trans u1
        have HRw : Hid (Row W2 w.heap.size (.slice A5 n5 q5) (m.s ++ bytesM (ls.take k) yn)) := own_block0 HI.out.row fun g3 hg3 => HB2.out.block g3 (World.ownsRow.lt HI.out.row g3 hg3).2
        have HBw : Hid (Below w.heap.size w W2) := HI.out.b.trans (HB2.out.mono HI.out.b.size)
        clear m3 m4 u0 u1 y1
        go_wp2_with (at_builtin; refine wpList_append_at rfl _ _ rfl _ w.heap.size (.slice A5 n5 q5) _ rfl (own_block0 HRw.out fun g2 hg2 => (below_new W2 _).block g2 (World.ownsRow.lt HRw.out g2 hg2).2) _ _ [yb] rfl (by simp) (holds_one _ _) (by have := HL1.out; simp only [List.length_cons, List.length_nil]; omega) (by have := HBw.out.size; simp; omega) ?_; intro v2 w5 hr2 hg2 _)
        have hb1 := HBw.out.trans ((below_new W2 (.cells #[.int .u8 (yb.toNat : Int)] 5)).mono HBw.out.size)
        have hro := own_block0 (w' := W2.alloc (.cells #[.int .u8 (yb.toNat : Int)] 5)) HRw.out fun g2 hg2 => (below_new W2 _).block g2 (World.ownsRow.lt HRw.out g2 hg2).2
        have hst : ReS w w5 v2 (m.s ++ bytesM (ls.take (k + 1)) yn) := ⟨grown_own hb1 hro hg2 rfl, by rw [HO.out, ← List.append_assoc]; exact hr2⟩
        obtain ⟨n6, hn6⟩ : ∃ n6, (m.s ++ bytesM (ls.take k) yn ++ [yb]).length = n6 := ⟨_, rfl⟩
        obtain ⟨A6, c6, rfl⟩ := row_form hr2 hn6
        have HSt := hid hst
        clear hb1 hro hst hr2 hg2 hn6
        go_roundw
        case rel => exact ⟨k + 1, n6, c6, A6, rfl, by go_num, by omega, HSt.out⟩
        case measure => simp [intOf]; omega
      · have HO : Hid (bytesM (ls.take (k + 1)) no = bytesM (ls.take k) no) := by
          unfold Hid bytesM
          rw [hf1, if_neg (by rw [show ofNo no (yn, yb) = false from decide_eq_false hq]; decide), List.append_nil]
        have hq2 : ¬ (yn : Int) = (no : Int) := by omega
        clear hf1
        go_upto_region 8 with (fail)
        go_quiet (fail)
        go_wp2
        go_roundw
        case rel => exact ⟨k + 1, n5, q5, A5, rfl, by go_num, by omega, Go.below_drewN HI.out.b _, by rw [HO.out]; exact HI.out.row⟩
        case measure => simp [intOf]; omega
    · obtain rfl : k = p := by omega
      have hi := HI.out
      rw [List.take_of_length_le (by rw [HP1.out]; exact Nat.le_refl _)] at hi
      have HIf := hid hi
      clear hi
      go_wp2
      go_ret2
      exact ⟨_, rfl, HIf.out.row, HIf.out.b⟩
end Go.Proofs.YtofkfafdodhmdaaGreatDoor

/- The document's Remove. Conditions: the disk stands. -/
namespace Go.Proofs.YtofkfafdodhmdaaGreatDoor
open Go.RowKit

/-- What a call leaves of the document's disk. -/
structure RkE (w w' : World) (B rb : Nat) (fv lv : Value) (ms : List Rm) (fv' lv' : Value) (ms' : List Rm) (ls' : List Lm) (z : Int) (nx' : Nat) : Prop where
  rk : Rk w' B rb fv' lv' ms' ls' z nx'
  ch : Chg (Rt rb fv lv ms) w w'
  sub : ∀ k, Rt rb fv' lv' ms' k → Rt rb fv lv ms k ∨ w.heap.size ≤ k
theorem RkE.trans {w w' w'' : World} {B rb nx nx' : Nat} {fv lv fv' lv' fv'' lv'' : Value} {ms ms' ms'' : List Rm} {ls' ls'' : List Lm} {z : Int} (h : RkE w w' B rb fv lv ms fv' lv' ms' ls' z nx) (h' : RkE w' w'' B rb fv' lv' ms' fv'' lv'' ms'' ls'' z nx') : RkE w w'' B rb fv lv ms fv'' lv'' ms'' ls'' z nx' :=
  ⟨h'.rk, h.ch.trans h'.ch h.sub, fun k q => by
    rcases h'.sub k q with r | r
    · exact h.sub k r
    · exact .inr (Nat.le_trans h.ch.size r)⟩
theorem RkE.lift {w W w' : World} {B rb nx : Nat} {fv lv fv' lv' : Value} {ms ms' : List Rm} {ls' : List Lm} {z : Int} (h : RkE W w' B rb fv lv ms fv' lv' ms' ls' z nx) (hb : Below w.heap.size w W) : RkE w w' B rb fv lv ms fv' lv' ms' ls' z nx :=
  ⟨h.rk, (Chg.of_below _ hb).trans h.ch fun k q => .inl q, fun k q => by
    rcases h.sub k q with r | r
    · exact .inl r
    · exact .inr (Nat.le_trans hb.size r)⟩
theorem rke_take {w w' : World} {B rb nx : Nat} {fv lv v : Value} {ms : List Rm} {ls' : List Lm} {z : Int} (h : Rk w' B rb fv v ms ls' z nx) (hc : Chg (fun k => k = rb) w w') (hv : ∀ g, v.ownBlock = some g → w.heap.size ≤ g) : RkE w w' B rb fv lv ms fv v ms ls' z nx :=
  ⟨h, hc.mono fun k e => .inl e, fun k q => by
    rcases q with q | q | q | q
    · exact .inl (.inl q)
    · exact .inl (.inr (.inl q))
    · exact .inr (hv k q)
    · exact .inl (.inr (.inr (.inr q)))⟩
theorem rke_cut {w w' : World} {B rb nx : Nat} {fv lv v : Value} {ms ms' : List Rm} {ls' : List Lm} {z : Int} (h : Rk w' B rb v lv ms' ls' z nx) (hc : Chg (fun k => k = rb) w w') (hv : ∀ g, v.ownBlock = some g → w.heap.size ≤ g) (hm : ∀ m ∈ ms', m ∈ ms) : RkE w w' B rb fv lv ms v lv ms' ls' z nx :=
  ⟨h, hc.mono fun k e => .inl e, fun k q => by
    rcases q with q | q | q | ⟨m, q1, q2⟩
    · exact .inl (.inl q)
    · exact .inr (hv k q)
    · exact .inl (.inr (.inr (.inl q)))
    · exact .inl (.inr (.inr (.inr ⟨m, hm m q1, q2⟩)))⟩
theorem mem_mid2 {α : Type} {P Q : List α} {m a : α} (h : a ∈ P ++ Q) : a ∈ P ++ m :: Q := by
  rcases List.mem_append.1 h with q | q
  · exact List.mem_append_left _ q
  · exact List.mem_append_right _ (List.mem_cons_of_mem _ q)
set_option maxHeartbeats 1000000 in
theorem rremove_no {w : World} {B rb nx : Nat} {fv lv : Value} {P Q : List Rm} {ls : List Lm} {z : Int} (h : Rk w B rb fv lv (P ++ Q) ls z nx) (x : ByteArray) (hx : x.size ≤ maxLen) (hn : ∀ m ∈ P ++ Q, m.n.size ≤ maxLen) (hl : (P ++ Q).length ≤ 100000) (hP : ∀ a ∈ P, bef a.n x = true) (hQ : ∀ c ∈ Q, bef x c.n = true) :
    Calls Tryz.prog 88 #[.pointer (some ⟨rb, 0, none⟩), .string x] w fun e w' => e = .returned (.int .i64 12) ∧ Below w.heap.size w w' := by
  have HF := hid (rfind_ok h x hx hn (by omega))
  have HP := hid hP
  have HQ := hid hQ
  clear h hP hQ hn hl
  go_enter Tryz.func88, Tryz.ntmps88
  go_wp2_with (go_at_call 61; refine HF.out.mono ?_; rintro e w1 ⟨i, ok, rfl, hE, hb⟩; obtain ⟨rfl, rfl⟩ := find_no hE HP.out HQ.out; have HB := hid hb; clear hE hb)
  go_ret
  exact ⟨rfl, HB.out⟩
set_option maxRecDepth 100000 in
set_option maxHeartbeats 4000000 in
theorem rremove_yes {w : World} {B rb nx : Nat} {fv lv : Value} {P Q : List Rm} {m : Rm} {ls : List Lm} {z : Int} (h : Rk w B rb fv lv (P ++ m :: Q) ls z nx) (hx : m.n.size ≤ maxLen) (hn : ∀ m' ∈ P ++ m :: Q, m'.n.size ≤ maxLen) (hl : (P ++ m :: Q).length ≤ 100000) (hr : RisM (P ++ m :: Q)) (hls : ls.length ≤ 100000) :
    Calls Tryz.prog 88 #[.pointer (some ⟨rb, 0, none⟩), .string m.n] w fun e w' => e = .returned (.int .i64 0) ∧ ∃ fv' lv', RkE w w' B rb fv lv (P ++ m :: Q) fv' lv' (P ++ Q) (outM ls m.no) z nx := by
  have HF := hid (rfind_ok h m.n hx hn (by omega))
  have hlen : P.length < (P ++ m :: Q).length := by simp
  have hat : (P ++ m :: Q)[P.length]'hlen = m := by simp
  obtain ⟨n, hn1⟩ : ∃ n, (P ++ m :: Q).length = n := ⟨_, rfl⟩
  obtain ⟨A, c, e⟩ := mrow_form h.fr hn1
  subst e
  have m0 : w.cell? ⟨rb, 0, none⟩ = some (.slice A n c) := h.blk.cell 0
  obtain ⟨g, rfl, hc⟩ := mrow_at h.fr hlen
  rw [hat] at hc
  have x1 := hc 1 _ (by omega) rfl
  have HFE := hid fun i ok (hE : FindE m.n (P ++ m :: Q) i ok) => find_yes hE hr rfl
  have H := hid h
  obtain ⟨i, hi⟩ : ∃ i, P.length = i := ⟨_, rfl⟩
  have HPi := hid hi
  have HL := hid hl
  have HLs : Hid (ls.length ≤ 1000000) := by unfold Hid; omega
  rw [hn1, hi] at hlen
  rw [hi] at x1 HFE
  rw [hn1] at hl
  clear h hn1 hc hat hr hi hn
  go_enter Tryz.func88, Tryz.ntmps88
  go_upto_region 4 with (go_at_call 61; refine HF.out.mono ?_; rintro e w1 ⟨i', ok, rfl, hE, hb⟩; obtain ⟨rfl, rfl⟩ := HFE.out i' ok hE; have HB1 := hid hb; clear hE hb)
  have y0 := (HB1.out.cell (p := ⟨rb, 0, none⟩) (cell_lt m0)).trans m0
  have y1 := (HB1.out.cell (p := ⟨g, _, none⟩) (cell_lt x1)).trans x1
  have HT := hid (rtake_ok (H.out.below HB1.out) HLs.out m.no)
  go_upto_region 5 with (go_at_call 90; refine HT.out.mono ?_; rintro e w2 ⟨v, v2, rfl, _, h1, h2, h3⟩; have HE := hid ((rke_take (lv := lv) h1 h2 h3).lift HB1.out); clear h1 h2 h3)
  have HCu := hid (rcut_ok HE.out.rk HL.out i' HPi.out)
  clear y0 y1 HT HF HFE x1 m0
  go_wp2_with (go_at_call 66; refine HCu.out.mono ?_; rintro e w3 ⟨rfl, v3, h1, h2, h3⟩; have HE2 := hid (HE.out.trans (rke_cut h1 h2 h3 fun a ha => mem_mid2 ha)); clear h1 h2 h3)
  go_ret
  exact ⟨rfl, _, _, HE2.out⟩
end Go.Proofs.YtofkfafdodhmdaaGreatDoor

/- The document's Rename. Conditions: the disk stands. -/
namespace Go.Proofs.YtofkfafdodhmdaaGreatDoor
open Go.RowKit

theorem ap_of {P Q : List Rm} {m : Rm} (h : (P ++ m :: Q).Pairwise Rm.apart) : ∀ q ∈ P ++ Q, m.apart q ∧ q.apart m := fun q hq => by
  have sym : ∀ {a b : Rm}, a.apart b → b.apart a := fun h k h1 h2 => h k h2 h1
  obtain ⟨_, p2, p3⟩ := List.pairwise_append.1 h
  rcases List.mem_append.1 hq with r | r
  · have := p3 q r m List.mem_cons_self
    exact ⟨sym this, this⟩
  · have := (List.pairwise_cons.1 p2).1 q r
    exact ⟨this, sym this⟩
set_option maxHeartbeats 1000000 in
theorem rrename_bad (rb : Nat) (x y : ByteArray) (hy : y.size ≤ maxLen) (hb : rightB y = false) (w : World) : Calls Tryz.prog 89 #[.pointer (some ⟨rb, 0, none⟩), .string x, .string y] w fun e w' => e = .returned (.int .i64 10) ∧ Below w.heap.size w w' := by
  unfold maxLen at hy
  by_cases h1 : 1 ≤ y.size
  · have h2 : 16 < y.size := by
      unfold rightB at hb
      rw [decide_eq_true h1, Bool.true_and, decide_eq_false_iff_not] at hb
      omega
    clear hb
    go_enter Tryz.func89, Tryz.ntmps89
    go_wp2
    go_ret
    exact ⟨rfl, Below.refl _ _⟩
  · clear hb
    go_enter Tryz.func89, Tryz.ntmps89
    go_wp2
    go_ret
    exact ⟨rfl, Below.refl _ _⟩
theorem right_in {y : ByteArray} (h : rightB y = true) : 1 ≤ y.size ∧ y.size ≤ 16 := by
  unfold rightB at h
  rw [Bool.and_eq_true, decide_eq_true_iff, decide_eq_true_iff] at h
  exact h
set_option maxHeartbeats 1000000 in
theorem rrename_no {w : World} {B rb nx : Nat} {fv lv : Value} {P Q : List Rm} {ls : List Lm} {z : Int} (h : Rk w B rb fv lv (P ++ Q) ls z nx) (x y : ByteArray) (hy : rightB y = true) (hx : x.size ≤ maxLen) (hn : ∀ m ∈ P ++ Q, m.n.size ≤ maxLen) (hl : (P ++ Q).length ≤ 100000) (hP : ∀ a ∈ P, bef a.n x = true) (hQ : ∀ c ∈ Q, bef x c.n = true) :
    Calls Tryz.prog 89 #[.pointer (some ⟨rb, 0, none⟩), .string x, .string y] w fun e w' => e = .returned (.int .i64 12) ∧ Below w.heap.size w w' := by
  have HF := hid (rfind_ok h x hx hn (by omega))
  have HP := hid hP
  have HQ := hid hQ
  obtain ⟨y1, y2⟩ := right_in hy
  have y3 : y.size ≤ 9223372036854775807 := by omega
  clear h hP hQ hn hl hy
  go_enter Tryz.func89, Tryz.ntmps89
  go_wp2_with (go_at_call 61; refine HF.out.mono ?_; rintro e w1 ⟨i, ok, rfl, hE, hb⟩; obtain ⟨rfl, rfl⟩ := find_no hE HP.out HQ.out; have HB := hid hb; clear hE hb)
  go_ret
  exact ⟨rfl, HB.out⟩
/-- The file as it is called then. -/
def Rm.call (m : Rm) (y : ByteArray) : Rm := { m with n := y, h := true }
/-- A local copy of a file, while calls turn the disk. -/
structure LcS (W w' : World) (B rb : Nat) (fv lv : Value) (ms : List Rm) (fv' lv' : Value) (ms' : List Rm) (ls' : List Lm) (z : Int) (nx : Nat) (L : Nat) (m : Rm) : Prop where
  e : RkE W w' B rb fv lv ms fv' lv' ms' ls' z nx
  blk : Blk w' L 109 #[.string m.n, .int .i64 (m.no : Int), m.sv, .bool m.h]
  out : ¬ Rt rb fv lv ms L ∧ L < W.heap.size
theorem LcS.next {W w' w'' : World} {B rb nx L : Nat} {fv lv fv' lv' fv'' lv'' : Value} {ms ms' ms'' : List Rm} {ls' ls'' : List Lm} {z : Int} {m : Rm} (h : LcS W w' B rb fv lv ms fv' lv' ms' ls' z nx L m) (h2 : RkE w' w'' B rb fv' lv' ms' fv'' lv'' ms'' ls'' z nx) : LcS W w'' B rb fv lv ms fv'' lv'' ms'' ls'' z nx L m :=
  ⟨h.e.trans h2, (h2.ch.block L h.blk.lt fun q => by
    rcases h.e.sub L q with r | r
    · exact h.out.1 r
    · have := h.out.2
      omega).trans h.blk, h.out⟩
theorem LcS.below {W w' w'' : World} {B rb nx L : Nat} {fv lv fv' lv' : Value} {ms ms' : List Rm} {ls' : List Lm} {z : Int} {m : Rm} (h : LcS W w' B rb fv lv ms fv' lv' ms' ls' z nx L m) (hb : Below w'.heap.size w' w'') : LcS W w'' B rb fv lv ms fv' lv' ms' ls' z nx L m :=
  ⟨⟨h.e.rk.below hb, h.e.ch.trans (Chg.of_below (fun _ => False) hb) fun _ q => q.elim, h.e.sub⟩, (hb.block L h.blk.lt).trans h.blk, h.out⟩
theorem LcS.notin {W w' : World} {B rb nx L : Nat} {fv lv fv' lv' : Value} {ms ms' : List Rm} {ls' : List Lm} {z : Int} {m : Rm} (h : LcS W w' B rb fv lv ms fv' lv' ms' ls' z nx L m) : ¬ Rt rb fv' lv' ms' L := fun q => by
  rcases h.e.sub L q with r | r
  · exact h.out.1 r
  · have := h.out.2
    omega
/-- The copy's name and its last word are set. -/
theorem LcS.set {W w' : World} {B rb nx L : Nat} {fv lv fv' lv' : Value} {ms ms' : List Rm} {ls' : List Lm} {z : Int} {m : Rm} (h : LcS W w' B rb fv lv ms fv' lv' ms' ls' z nx L m) (y : ByteArray) : Rk ((w'.setCell ⟨L, 0, none⟩ (.string y)).setCell ⟨L, 3, none⟩ (.bool true)) B rb fv' lv' ms' ls' z nx ∧ Blk ((w'.setCell ⟨L, 0, none⟩ (.string y)).setCell ⟨L, 3, none⟩ (.bool true)) L 109 #[.string y, .int .i64 (m.no : Int), m.sv, .bool true] ∧ (∀ k, k ≠ L → ((w'.setCell ⟨L, 0, none⟩ (.string y)).setCell ⟨L, 3, none⟩ (.bool true)).heap[k]? = w'.heap[k]?) := by
  have ks : ∀ k, k ≠ L → ((w'.setCell ⟨L, 0, none⟩ (.string y)).setCell ⟨L, 3, none⟩ (.bool true)).heap[k]? = w'.heap[k]? := fun k q => (Below.heap_setCell _ _ _ _ q).trans (Below.heap_setCell _ _ _ _ q)
  exact ⟨h.e.rk.keep fun k q => ks k fun e => h.notin (e ▸ q), (h.blk.set 0 (.string y)).set 3 (.bool true), ks⟩
end Go.Proofs.YtofkfafdodhmdaaGreatDoor

/- The document's Rename of a file that is there. Conditions: the disk stands. -/
namespace Go.Proofs.YtofkfafdodhmdaaGreatDoor
open Go.RowKit

theorem row_chg {w w' : World} {B rb : Nat} {v : Value} {l : List UInt8} {xs : Array Value} (h : Row w B v l) (hb : Blk w rb 94 xs) (hc : Chg (fun k => k = rb) w w') : Row w' B v l := own_block0 h fun g q => by
  obtain ⟨cur, hcur⟩ := own_blk h q
  exact hc.block g hcur.lt (blk_ne0 hcur hb (by decide))

set_option maxRecDepth 100000 in
set_option maxHeartbeats 4000000 in
theorem rrename_free {w : World} {B rb nx : Nat} {fv lv : Value} {P Q P' Q' : List Rm} {m : Rm} {ls : List Lm} {z : Int} (h : Rk w B rb fv lv (P ++ m :: Q) ls z nx) (hx : m.n.size ≤ maxLen) (hn : ∀ m' ∈ P ++ m :: Q, m'.n.size ≤ maxLen) (hl : (P ++ m :: Q).length ≤ 100000) (hr : RisM (P ++ m :: Q)) (y : ByteArray) (hy : rightB y = true) (e : P ++ Q = P' ++ Q') (hP : ∀ a ∈ P', bef a.n y = true) (hQ : ∀ c ∈ Q', bef y c.n = true) :
    Calls Tryz.prog 89 #[.pointer (some ⟨rb, 0, none⟩), .string m.n, .string y] w fun e w' => e = .returned (.int .i64 0) ∧ ∃ fv' lv', RkE w w' B rb fv lv (P ++ m :: Q) fv' lv' (P' ++ m.call y :: Q') ls z nx := by
  have HF := hid (rfind_ok h m.n hx hn (by omega))
  have hlen : P.length < (P ++ m :: Q).length := by simp
  have hat : (P ++ m :: Q)[P.length]'hlen = m := by simp
  have hap := ap_of h.ap
  rw [e] at hap
  obtain ⟨n, hn1⟩ : ∃ n, (P ++ m :: Q).length = n := ⟨_, rfl⟩
  obtain ⟨A, c, e1⟩ := mrow_form h.fr hn1
  subst e1
  have m0 : w.cell? ⟨rb, 0, none⟩ = some (.slice A n c) := h.blk.cell 0
  obtain ⟨g, rfl, hc⟩ := mrow_at h.fr hlen
  rw [hat] at hc
  obtain ⟨As, cs, es⟩ := row_form (h.sr m (by simp)) rfl
  have x0 := hc 0 _ (by omega) rfl
  have x1 := hc 1 _ (by omega) rfl
  have x2 := hc 2 _ (by omega) rfl
  have x3 := hc 3 _ (by omega) rfl
  rw [Nat.add_zero] at x0
  rw [es] at x2
  obtain ⟨ns, hns⟩ : ∃ ns, m.s.length = ns := ⟨_, rfl⟩
  rw [hns] at es x2
  have HES := hid es
  clear hns
  have HFE := hid fun i ok (hE : FindE m.n (P ++ m :: Q) i ok) => find_yes hE hr rfl
  have H := hid h
  obtain ⟨i, hi⟩ : ∃ i, P.length = i := ⟨_, rfl⟩
  have HPi := hid hi
  have HL := hid hl
  have HE := hid e
  have HP := hid hP
  have HQ := hid hQ
  have HAp := hid hap
  have HNs : Hid (∀ q ∈ P' ++ Q', q.n.size ≤ maxLen) := fun q hq => by
    rw [← e] at hq
    exact hn q (mem_mid2 hq)
  have HLn : Hid ((P' ++ Q').length ≤ 100000) := by
    unfold Hid
    rw [← e]
    rw [List.length_append] at hl ⊢
    rw [List.length_cons] at hl
    omega
  obtain ⟨y1, y2⟩ := right_in hy
  have y3 : y.size ≤ 9223372036854775807 := by omega
  have HY : Hid (y.size ≤ maxLen) := by unfold Hid maxLen; omega
  rw [hn1, hi] at hlen
  rw [hi] at x0 x1 x2 x3 HFE
  rw [hn1] at hl
  clear h hn1 hc hat hr hi hn es e hP hQ hap hy
  go_enter Tryz.func89, Tryz.ntmps89
  go_upto_region 6 with (go_at_call 61; refine HF.out.mono ?_; rintro e w1 ⟨i', ok, rfl, hE, hb⟩; obtain ⟨rfl, rfl⟩ := HFE.out i' ok hE; have HB1 := hid hb; clear hE hb)
  have z0 := (HB1.out.cell (p := ⟨rb, 0, none⟩) (cell_lt m0)).trans m0
  have y4 := (HB1.out.cell (p := ⟨g, _, none⟩) (cell_lt x0)).trans x0
  have y5 := (HB1.out.cell (p := ⟨g, _, none⟩) (cell_lt x1)).trans x1
  have y6 := (HB1.out.cell (p := ⟨g, _, none⟩) (cell_lt x2)).trans x2
  have y7 := (HB1.out.cell (p := ⟨g, _, none⟩) (cell_lt x3)).trans x3
  clear x0 x1 x2 x3 m0 HFE HF
  go_upto_region 7 with (fail)
  have HLc : Hid (LcS (w1.alloc (.cells #[.string m.n, .int .i64 (m.no : Int), .slice As ns cs, .bool m.h] 109)) (w1.alloc (.cells #[.string m.n, .int .i64 (m.no : Int), .slice As ns cs, .bool m.h] 109)) B rb (.slice (some ⟨g, 0, none⟩) n c) lv (P ++ m :: Q) (.slice (some ⟨g, 0, none⟩) n c) lv (P ++ m :: Q) ls z nx w1.heap.size m) :=
    ⟨⟨(H.out.below HB1.out).below (below_new w1 _), Chg.refl _ _, fun k q => .inl q⟩, by rw [HES.out]; exact Blk.new _ _ _, fun q => absurd ((H.out.below HB1.out).rt q).2 (Nat.lt_irrefl _), by simp⟩
  have HB2 := hid (HB1.out.trans ((below_new w1 (.cells #[.string m.n, .int .i64 (m.no : Int), .slice As ns cs, .bool m.h] 109)).mono HB1.out.size))
  have HR1 : Hid (Row (w1.alloc (.cells #[.string m.n, .int .i64 (m.no : Int), .slice As ns cs, .bool m.h] 109)) B m.sv m.s) := HLc.out.e.rk.sr m (by simp)
  obtain ⟨W1, hW1⟩ : ∃ W1, (w1.alloc (.cells #[.string m.n, .int .i64 (m.no : Int), .slice As ns cs, .bool m.h] 109)) = W1 := ⟨_, rfl⟩
  obtain ⟨L, hL⟩ : ∃ L, w1.heap.size = L := ⟨_, rfl⟩
  have HLe : Hid (w.heap.size ≤ L) := by unfold Hid; rw [← hL]; exact HB1.out.size
  rw [hW1, hL] at HLc
  rw [hW1] at HB2 HR1
  rw [hW1, hL]
  clear hW1 hL z0 y4 y5 y6 y7
  have HCu := hid (rcut_ok HLc.out.e.rk HL.out i' HPi.out)
  go_upto_region 8 with (go_at_call 66; refine HCu.out.mono ?_; rintro e w2 ⟨rfl, v3, h1, h2, h3⟩; have HL2 := hid (HLc.out.next (rke_cut h1 h2 h3 fun a ha => mem_mid2 ha)); have HR2 := hid (row_chg HR1.out HLc.out.e.rk.blk h2); clear h1 h2 h3)
  clear HCu HLc HR1
  rw [HE.out] at HL2
  have HF2 := hid (rfind_ok HL2.out.e.rk y HY.out HNs.out (by have := HLn.out; omega))
  go_upto_region 9 with (go_at_call 61; refine HF2.out.mono ?_; rintro e w3 ⟨j, ok, rfl, hE2, hb⟩; obtain ⟨hj, rfl⟩ := find_no hE2 HP.out HQ.out; have HJ := hid hj.symm; have HL3 := hid (HL2.out.below hb); have HR3 : Hid (Row w3 B m.sv m.s) := own_block0 HR2.out (fun g q => hb.block g (World.ownsRow.lt HR2.out g q).2); clear hE2 hb hj)
  clear HF2 HL2
  have b0 := HL3.out.blk.cell 0
  have b3 := HL3.out.blk.cell 3
  have f0 := HL3.out.blk.free 0
  have f3 := HL3.out.blk.free 3
  go_upto_region 14 with (fail)
  obtain ⟨s1, s2, s3⟩ := HL3.out.set y
  have hr6 : Row ((w3.setCell ⟨L, 0, none⟩ (.string y)).setCell ⟨L, 3, none⟩ (.bool true)) B m.sv m.s := own_block0 HR3.out fun g q => s3 g (by
    obtain ⟨cur, hcur⟩ := own_blk HR3.out q
    exact blk_ne0 hcur HL3.out.blk (by decide))
  have hch : Chg (Rt rb (.slice (some ⟨g, 0, none⟩) n c) lv (P ++ m :: Q)) w ((w3.setCell ⟨L, 0, none⟩ (.string y)).setCell ⟨L, 3, none⟩ (.bool true)) :=
    ((Chg.of_below _ HB2.out).trans HL3.out.e.ch fun k q => .inl q).trans ((Chg.of_set w3 L 0 _ (S := fun k => k = L) rfl).trans (Chg.of_set _ L 3 _ (S := fun k => k = L) rfl) fun k q => .inl q) fun k q => .inr (by rw [q]; exact HLe.out)
  obtain ⟨w6, hw6⟩ : ∃ w6, ((w3.setCell ⟨L, 0, none⟩ (.string y)).setCell ⟨L, 3, none⟩ (.bool true)) = w6 := ⟨_, rfl⟩
  rw [hw6] at s1 s2 hr6 hch ⊢
  have e0 := s2.cell 0
  have e1 := s2.cell 1
  have e2 := s2.cell 2
  have e3 := s2.cell 3
  have HPu := hid (rput_ok s1 HLn.out (m.call y) hr6 (fun q hq => HAp.out q hq) j HJ.out)
  rw [show (m.call y).sv = .slice As ns cs from HES.out] at HPu
  rw [HES.out] at e2
  have HCh := hid hch
  clear s1 s2 s3 hr6 hch hw6 b0 b3 f0 f3
  go_wp2_with (go_at_call 62; refine HPu.out.mono ?_; rintro e w7 ⟨rfl, v7, h1, h2, h3⟩; have HF7 : Hid (∃ fv' lv', RkE w w7 B rb (.slice (some ⟨g, 0, none⟩) n c) lv (P ++ m :: Q) fv' lv' (P' ++ m.call y :: Q') ls z nx) := ⟨v7, lv, h1, HCh.out.trans h2 fun k q => .inl (.inl q), fun k q => by
    rcases q with q | q | q | ⟨a, ha, q⟩
    · exact .inl (.inl q)
    · exact .inr (Nat.le_trans HCh.out.size (h3 k q))
    · exact .inl (.inr (.inr (.inl q)))
    · refine .inl (.inr (.inr (.inr ?_)))
      rcases List.mem_append.1 ha with r | r
      · exact ⟨a, mem_mid2 (by rw [HE.out]; exact List.mem_append_left _ r), q⟩
      · rcases List.mem_cons.1 r with rfl | r
        · exact ⟨m, by simp, q⟩
        · exact ⟨a, mem_mid2 (by rw [HE.out]; exact List.mem_append_right _ r), q⟩⟩; clear h1 h2 h3)
  go_ret
  exact ⟨rfl, HF7.out⟩
end Go.Proofs.YtofkfafdodhmdaaGreatDoor

/- The document's Rename onto a file that is there. Conditions: the disk stands. -/
namespace Go.Proofs.YtofkfafdodhmdaaGreatDoor
open Go.RowKit

set_option maxRecDepth 100000 in
set_option maxHeartbeats 4000000 in
theorem rrename_over {w : World} {B rb nx : Nat} {fv lv : Value} {P Q P' Q' : List Rm} {m t : Rm} {ls : List Lm} {z : Int} (h : Rk w B rb fv lv (P ++ m :: Q) ls z nx) (hx : m.n.size ≤ maxLen) (hn : ∀ m' ∈ P ++ m :: Q, m'.n.size ≤ maxLen) (hl : (P ++ m :: Q).length ≤ 100000) (hr : RisM (P ++ m :: Q)) (y : ByteArray) (hy : rightB y = true) (e : P ++ Q = P' ++ t :: Q') (ht : t.n = y) (hls : ls.length ≤ 100000) :
    Calls Tryz.prog 89 #[.pointer (some ⟨rb, 0, none⟩), .string m.n, .string y] w fun e w' => e = .returned (.int .i64 0) ∧ ∃ fv' lv', RkE w w' B rb fv lv (P ++ m :: Q) fv' lv' (P' ++ m.call y :: Q') (outM ls t.no) z nx := by
  have HF := hid (rfind_ok h m.n hx hn (by omega))
  have hlen : P.length < (P ++ m :: Q).length := by simp
  have hat : (P ++ m :: Q)[P.length]'hlen = m := by simp
  have hap := ap_of h.ap
  rw [e] at hap
  obtain ⟨n, hn1⟩ : ∃ n, (P ++ m :: Q).length = n := ⟨_, rfl⟩
  obtain ⟨A, c, e1⟩ := mrow_form h.fr hn1
  subst e1
  have m0 : w.cell? ⟨rb, 0, none⟩ = some (.slice A n c) := h.blk.cell 0
  obtain ⟨g, rfl, hc⟩ := mrow_at h.fr hlen
  rw [hat] at hc
  obtain ⟨As, cs, es⟩ := row_form (h.sr m (by simp)) rfl
  have x0 := hc 0 _ (by omega) rfl
  have x1 := hc 1 _ (by omega) rfl
  have x2 := hc 2 _ (by omega) rfl
  have x3 := hc 3 _ (by omega) rfl
  rw [Nat.add_zero] at x0
  rw [es] at x2
  obtain ⟨ns, hns⟩ : ∃ ns, m.s.length = ns := ⟨_, rfl⟩
  rw [hns] at es x2
  have HES := hid es
  clear hns
  have HFE := hid fun i ok (hE : FindE m.n (P ++ m :: Q) i ok) => find_yes hE hr rfl
  have H := hid h
  obtain ⟨i, hi⟩ : ∃ i, P.length = i := ⟨_, rfl⟩
  have HPi := hid hi
  have HL := hid hl
  have HE := hid e
  have HFT : Hid (∀ i ok, FindE y (P' ++ t :: Q') i ok → i = P'.length ∧ ok = true) := fun i ok hE => find_yes hE (by
    rw [← e]
    obtain ⟨r1, r2, r3⟩ := List.pairwise_append.1 hr
    exact List.pairwise_append.2 ⟨r1, (List.pairwise_cons.1 r2).2, fun a ha b hb => r3 a ha b (List.mem_cons_of_mem _ hb)⟩) ht
  have HLs : Hid (ls.length ≤ 1000000) := by unfold Hid; omega
  obtain ⟨j, hj⟩ : ∃ j, P'.length = j := ⟨_, rfl⟩
  have HJ := hid hj
  rw [hj] at HFT
  obtain ⟨n2, hn2⟩ : ∃ n2, (P' ++ t :: Q').length = n2 := ⟨_, rfl⟩
  have HN2 := hid hn2
  have hjn : j < n2 := by rw [← hj, ← hn2]; simp
  clear hj hn2
  have HAp := hid hap
  have HNs : Hid (∀ q ∈ P' ++ t :: Q', q.n.size ≤ maxLen) := fun q hq => by
    rw [← e] at hq
    exact hn q (mem_mid2 hq)
  have HLn : Hid ((P' ++ t :: Q').length ≤ 100000) := by
    unfold Hid
    rw [← e]
    rw [List.length_append] at hl ⊢
    rw [List.length_cons] at hl
    omega
  have HLm : Hid ((P' ++ Q').length ≤ 100000) := by
    have := HLn.out
    unfold Hid
    rw [List.length_append] at this ⊢
    rw [List.length_cons] at this
    omega
  obtain ⟨y1, y2⟩ := right_in hy
  have y3 : y.size ≤ 9223372036854775807 := by omega
  have HY : Hid (y.size ≤ maxLen) := by unfold Hid maxLen; omega
  rw [hn1, hi] at hlen
  rw [hi] at x0 x1 x2 x3 HFE
  rw [hn1] at hl
  clear h hn1 hc hat hr hi hn es e hap hy ht
  go_enter Tryz.func89, Tryz.ntmps89
  go_upto_region 6 with (go_at_call 61; refine HF.out.mono ?_; rintro e w1 ⟨i', ok, rfl, hE, hb⟩; obtain ⟨rfl, rfl⟩ := HFE.out i' ok hE; have HB1 := hid hb; clear hE hb)
  have z0 := (HB1.out.cell (p := ⟨rb, 0, none⟩) (cell_lt m0)).trans m0
  have y4 := (HB1.out.cell (p := ⟨g, _, none⟩) (cell_lt x0)).trans x0
  have y5 := (HB1.out.cell (p := ⟨g, _, none⟩) (cell_lt x1)).trans x1
  have y6 := (HB1.out.cell (p := ⟨g, _, none⟩) (cell_lt x2)).trans x2
  have y7 := (HB1.out.cell (p := ⟨g, _, none⟩) (cell_lt x3)).trans x3
  clear x0 x1 x2 x3 m0 HFE HF
  go_upto_region 7 with (fail)
  have HLc : Hid (LcS (w1.alloc (.cells #[.string m.n, .int .i64 (m.no : Int), .slice As ns cs, .bool m.h] 109)) (w1.alloc (.cells #[.string m.n, .int .i64 (m.no : Int), .slice As ns cs, .bool m.h] 109)) B rb (.slice (some ⟨g, 0, none⟩) n c) lv (P ++ m :: Q) (.slice (some ⟨g, 0, none⟩) n c) lv (P ++ m :: Q) ls z nx w1.heap.size m) :=
    ⟨⟨(H.out.below HB1.out).below (below_new w1 _), Chg.refl _ _, fun k q => .inl q⟩, by rw [HES.out]; exact Blk.new _ _ _, fun q => absurd ((H.out.below HB1.out).rt q).2 (Nat.lt_irrefl _), by simp⟩
  have HB2 := hid (HB1.out.trans ((below_new w1 (.cells #[.string m.n, .int .i64 (m.no : Int), .slice As ns cs, .bool m.h] 109)).mono HB1.out.size))
  have HR1 : Hid (Row (w1.alloc (.cells #[.string m.n, .int .i64 (m.no : Int), .slice As ns cs, .bool m.h] 109)) B m.sv m.s) := HLc.out.e.rk.sr m (by simp)
  obtain ⟨W1, hW1⟩ : ∃ W1, (w1.alloc (.cells #[.string m.n, .int .i64 (m.no : Int), .slice As ns cs, .bool m.h] 109)) = W1 := ⟨_, rfl⟩
  obtain ⟨L, hL⟩ : ∃ L, w1.heap.size = L := ⟨_, rfl⟩
  have HLe : Hid (w.heap.size ≤ L) := by unfold Hid; rw [← hL]; exact HB1.out.size
  rw [hW1, hL] at HLc
  rw [hW1] at HB2 HR1
  rw [hW1, hL]
  clear hW1 hL z0 y4 y5 y6 y7
  have HCu := hid (rcut_ok HLc.out.e.rk HL.out i' HPi.out)
  go_upto_region 8 with (go_at_call 66; refine HCu.out.mono ?_; rintro e w2 ⟨rfl, v3, h1, h2, h3⟩; have HL2 := hid (HLc.out.next (rke_cut h1 h2 h3 fun a ha => mem_mid2 ha)); have HR2 := hid (row_chg HR1.out HLc.out.e.rk.blk h2); clear h1 h2 h3)
  clear HCu HLc HR1
  rw [HE.out] at HL2
  obtain ⟨A3, c3, rfl⟩ := mrow_form HL2.out.e.rk.fr HN2.out
  have HF2 := hid (rfind_ok HL2.out.e.rk y HY.out HNs.out (by have := HLn.out; omega))
  go_upto_region 9 with (go_at_call 61; refine HF2.out.mono ?_; rintro e w3 ⟨j', ok, rfl, hE2, hb⟩; obtain ⟨rfl, rfl⟩ := HFT.out _ _ hE2; have HL3 := hid (HL2.out.below hb); have HR3 : Hid (Row w3 B m.sv m.s) := own_block0 HR2.out (fun g q => hb.block g (World.ownsRow.lt HR2.out g q).2); clear hE2 hb)
  clear HF2 HL2
  have hjl : P'.length < (P' ++ t :: Q').length := by simp
  have hjt : (P' ++ t :: Q')[P'.length]'hjl = t := by simp
  obtain ⟨g3, rfl, hc3⟩ := mrow_at HL3.out.e.rk.fr hjl
  rw [hjt] at hc3
  have t1 := hc3 1 _ (by omega) rfl
  rw [HJ.out] at t1
  have m3 : w3.cell? ⟨rb, 0, none⟩ = some (.slice (some ⟨g3, 0, none⟩) n2 c3) := HL3.out.e.rk.blk.cell 0
  have HT := hid (rtake_ok HL3.out.e.rk HLs.out t.no)
  clear hjl hjt hc3
  go_upto_region 11 with (go_at_call 90; refine HT.out.mono ?_; rintro e w4 ⟨v, v2, rfl, _, h1, h2, h3⟩; have HL4 := hid (HL3.out.next (rke_take h1 h2 h3)); have HR4 := hid (row_chg HR3.out HL3.out.e.rk.blk h2); clear h1 h2 h3)
  have HC5 := hid (rcut_ok HL4.out.e.rk HLn.out j' HJ.out)
  clear HT t1 m3
  go_upto_region 12 with (go_at_call 66; refine HC5.out.mono ?_; rintro e w5 ⟨rfl, v5, h1, h2, h3⟩; have HL5 := hid (HL4.out.next (rke_cut h1 h2 h3 fun a ha => mem_mid2 ha)); have HR5 := hid (row_chg HR4.out HL4.out.e.rk.blk h2); clear h1 h2 h3)
  clear HC5 HL4 HL3 HR3 HR4
  have b0 := HL5.out.blk.cell 0
  have b3 := HL5.out.blk.cell 3
  have f0 := HL5.out.blk.free 0
  have f3 := HL5.out.blk.free 3
  go_upto_region 14 with (fail)
  obtain ⟨s1, s2, s3⟩ := HL5.out.set y
  have hr6 : Row ((w5.setCell ⟨L, 0, none⟩ (.string y)).setCell ⟨L, 3, none⟩ (.bool true)) B m.sv m.s := own_block0 HR5.out fun g q => s3 g (by
    obtain ⟨cur, hcur⟩ := own_blk HR5.out q
    exact blk_ne0 hcur HL5.out.blk (by decide))
  have hch : Chg (Rt rb (.slice (some ⟨g, 0, none⟩) n c) lv (P ++ m :: Q)) w ((w5.setCell ⟨L, 0, none⟩ (.string y)).setCell ⟨L, 3, none⟩ (.bool true)) :=
    ((Chg.of_below _ HB2.out).trans HL5.out.e.ch fun k q => .inl q).trans ((Chg.of_set w5 L 0 _ (S := fun k => k = L) rfl).trans (Chg.of_set _ L 3 _ (S := fun k => k = L) rfl) fun k q => .inl q) fun k q => .inr (by rw [q]; exact HLe.out)
  obtain ⟨w6, hw6⟩ : ∃ w6, ((w5.setCell ⟨L, 0, none⟩ (.string y)).setCell ⟨L, 3, none⟩ (.bool true)) = w6 := ⟨_, rfl⟩
  rw [hw6] at s1 s2 hr6 hch ⊢
  have e0 := s2.cell 0
  have e1 := s2.cell 1
  have e2 := s2.cell 2
  have e3 := s2.cell 3
  have HPu := hid (rput_ok s1 HLm.out (m.call y) hr6 (fun q hq => HAp.out q (mem_mid2 hq)) j' HJ.out)
  rw [show (m.call y).sv = .slice As ns cs from HES.out] at HPu
  rw [HES.out] at e2
  have HCh := hid hch
  clear s1 s2 s3 hr6 hch hw6 b0 b3 f0 f3
  go_wp2_with (go_at_call 62; refine HPu.out.mono ?_; rintro e w7 ⟨rfl, v7, h1, h2, h3⟩; have HF7 : Hid (∃ fv' lv', RkE w w7 B rb (.slice (some ⟨g, 0, none⟩) n c) lv (P ++ m :: Q) fv' lv' (P' ++ m.call y :: Q') (outM ls t.no) z nx) := ⟨v7, _, h1, HCh.out.trans h2 fun k q => .inl (.inl q), fun k q => by
    rcases q with q | q | q | ⟨a, ha, q⟩
    · exact .inl (.inl q)
    · exact .inr (Nat.le_trans HCh.out.size (h3 k q))
    · rcases HL5.out.e.sub k (.inr (.inr (.inl q))) with r | r
      · exact .inl r
      · exact .inr (Nat.le_trans HB2.out.size r)
    · refine .inl (.inr (.inr (.inr ?_)))
      rcases List.mem_append.1 ha with r | r
      · exact ⟨a, mem_mid2 (by rw [HE.out]; exact mem_mid2 (List.mem_append_left _ r)), q⟩
      · rcases List.mem_cons.1 r with rfl | r
        · exact ⟨m, by simp, q⟩
        · exact ⟨a, mem_mid2 (by rw [HE.out]; exact mem_mid2 (List.mem_append_right _ r)), q⟩⟩; clear h1 h2 h3)
  go_ret
  exact ⟨rfl, HF7.out⟩
end Go.Proofs.YtofkfafdodhmdaaGreatDoor

/- The document's Size leaves the world; its Write where it refuses. Conditions: the disk stands. -/
namespace Go.Proofs.YtofkfafdodhmdaaGreatDoor
open Go.RowKit

set_option maxRecDepth 100000 in
set_option maxHeartbeats 4000000 in
theorem rsize_same {w : World} {B rb nx : Nat} {fv lv : Value} {ms : List Rm} {ls : List Lm} {z : Int} (h : Rk w B rb fv lv ms ls z nx) (hb : sizeM ms ls ≤ 1000000000) (hl : ms.length ≤ 1000000) :
    Calls Tryz.prog 60 #[.pointer (some ⟨rb, 0, none⟩)] w fun e w' => e = .returned (.int .i64 ((sizeM ms ls : Nat) : Int)) ∧ w' = w := by
  obtain ⟨n, hn1⟩ : ∃ n, ms.length = n := ⟨_, rfl⟩
  obtain ⟨p, hp1⟩ : ∃ p, ls.length = p := ⟨_, rfl⟩
  obtain ⟨A, c, rfl⟩ := mrow_form h.fr hn1
  obtain ⟨A2, c2, rfl⟩ := lrow_form h.lr hp1
  have m0 : w.cell? ⟨rb, 0, none⟩ = some (.slice A n c) := h.blk.cell 0
  have m1 : w.cell? ⟨rb, 1, none⟩ = some (.slice A2 p c2) := h.blk.cell 1
  have H := hid h
  have HN1 := hid hn1
  have HP1 := hid hp1
  have HBd : Hid (p + (ms.map fun m => m.s.length).sum ≤ 1000000000) := by
    unfold sizeM at hb
    rw [hp1] at hb
    exact hb
  rw [hn1] at hl
  unfold sizeM
  rw [hp1]
  clear h hn1 hp1 hb
  go_enter Tryz.func60, Tryz.ntmps60
  go_wp2
  go_loopw [3, 4] (fun vn vi wr => ∃ k s : Nat, vn = .int .i64 (s : Int) ∧ vi = .int .i64 (k : Int) ∧ k ≤ n ∧ Hid (s = p + ((ms.take k).map fun m => m.s.length).sum ∧ wr = w)) (fun _ vi _ => n - (intOf vi).toNat)
  case atStart => exact ⟨0, p, rfl, rfl, Nat.zero_le _, rfl, rfl⟩
  case round =>
    obtain ⟨k, s, rfl, rfl, hk, HI⟩ := hrel
    have hw := HI.out.2
    subst hw
    have m3 : wr.cell? ⟨rb, 0, none⟩ = some (.slice A n c) := m0
    by_cases hkn : k < n
    · have hkl : k < ms.length := by rw [HN1.out]; exact hkn
      obtain ⟨g, rfl, hc⟩ := mrow_at H.out.fr hkl
      obtain ⟨A3, c3, e3⟩ := row_form (H.out.sr _ (List.getElem_mem hkl)) rfl
      have q2 := hc 2 _ (by omega) rfl
      rw [e3] at q2
      have hst := sum_take hkl
      have hss := sum_sub ms (k + 1)
      have hbd := HBd.out
      have hs := HI.out.1
      obtain ⟨nl, hnl⟩ : ∃ nl, ms[k].s.length = nl := ⟨_, rfl⟩
      rw [hnl] at q2 hst
      have q4 : wr.cell? ⟨g, k * 4 + 2, none⟩ = some (.slice A3 nl c3) := q2
      have hle : s + nl ≤ 1000000000 := by omega
      have HST := hid hst
      have w1 : IntKind.i64.wrap ((s : Int) + (nl : Int)) = ((s + nl : Nat) : Int) := by rw [IntKind.wrap_i64]; omega
      clear hc q2 hst hss hbd hs hnl e3 m0
      go_wp2
      go_roundw
      case rel => exact ⟨k + 1, s + nl, by go_num, by go_num, by omega, by rw [HST.out, HI.out.1, Nat.add_assoc], by first | exact trivial | rfl⟩
      case measure => simp [intOf]; omega
    · obtain rfl : k = n := by omega
      have e1 := HI.out.1
      rw [List.take_of_length_le (by rw [HN1.out]; exact Nat.le_refl _)] at e1
      have HE := hid e1
      clear e1
      go_wp2
      go_ret
      exact ⟨by rw [HE.out]; rfl, rfl⟩
theorem Rk.drewN {w : World} {B rb nx : Nat} {fv lv : Value} {ms : List Rm} {ls : List Lm} {z : Int} (h : Rk w B rb fv lv ms ls z nx) (n : Nat) : Rk (w.drewN n) B rb fv lv ms ls z nx := h.below (Go.below_drewN (Below.refl _ _) n)
set_option maxHeartbeats 1000000 in
theorem rwrite_bad (rb : Nat) (x : ByteArray) (v : Value) (hx : x.size ≤ maxLen) (hb : rightB x = false) (w : World) : Calls Tryz.prog 25 #[.pointer (some ⟨rb, 0, none⟩), .string x, v] w fun e w' => e = .returned (.int .i64 10) ∧ Below w.heap.size w w' := by
  unfold maxLen at hx
  by_cases h1 : 1 ≤ x.size
  · have h2 : 16 < x.size := by
      unfold rightB at hb
      rw [decide_eq_true h1, Bool.true_and, decide_eq_false_iff_not] at hb
      omega
    clear hb
    go_enter Tryz.func25, Tryz.ntmps25
    go_wp2
    go_ret
    exact ⟨rfl, Below.refl _ _⟩
  · clear hb
    go_enter Tryz.func25, Tryz.ntmps25
    go_wp2
    go_ret
    exact ⟨rfl, Below.refl _ _⟩
set_option maxRecDepth 100000 in
set_option maxHeartbeats 4000000 in
theorem rwrite_full {w : World} {B rb nx : Nat} {fv lv : Value} {ms : List Rm} {ls : List Lm} {z : Int} (h : Rk w B rb fv lv ms ls z nx) (hb : sizeM ms ls ≤ 1000000000) (hl : ms.length ≤ 1000000) (hz : 0 ≤ z ∧ z ≤ 16777216) (x : ByteArray) (hx : rightB x = true) (A : Option Addr) (n c : Nat) (hn : n ≤ 1000000000) (hf : z < (sizeM ms ls : Int) + (n : Int)) :
    Calls Tryz.prog 25 #[.pointer (some ⟨rb, 0, none⟩), .string x, .slice A n c] w fun e w' => e = .returned (.int .i64 21) ∧ Below w.heap.size w w' := by
  have HSz := hid fun k => rsize_same (h.drewN k) hb hl
  have m2 : w.cell? ⟨rb, 2, none⟩ = some (.int .i64 z) := h.blk.cell 2
  obtain ⟨x1, x2⟩ := right_in hx
  have x3 : x.size ≤ 9223372036854775807 := by omega
  obtain ⟨s, hs⟩ : ∃ s, sizeM ms ls = s := ⟨_, rfl⟩
  rw [hs] at hb hf HSz
  have w1 : IntKind.i64.wrap (z - (s : Int)) = z - (s : Int) := by rw [IntKind.wrap_i64]; omega
  have g1 : z - (s : Int) < (n : Int) := by omega
  clear h hx hs hl
  go_enter Tryz.func25, Tryz.ntmps25
  go_upto_region 3 with (fail)
  go_quiet (first | (go_at_call 60; refine Calls.quiet_of_same (HSz.out _)))
  go_wp2
  go_ret
  exact ⟨rfl, Go.below_drewN (Below.refl _ _) _⟩
end Go.Proofs.YtofkfafdodhmdaaGreatDoor
