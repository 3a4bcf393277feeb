/- The document's Read. Conditions: the disk stands. -/
import Derived.Test.YtofkfafdodhmdaaSuJ
import Derived.Deep.QuietTactic
import Derived.BigQuiet
namespace Go.Proofs.Ytofkfafdodhmdaa
open Go.RowKit

abbrev RisM (ms : List Rm) : Prop := ms.Pairwise fun f g => bef f.n g.n = true
theorem find_yes {x : ByteArray} {P Q : List Rm} {m : Rm} {i : Nat} {ok : Bool} (h : FindE x (P ++ m :: Q) i ok) (hr : RisM (P ++ m :: Q)) (hm : m.n = x) : i = P.length ∧ ok = true := by
  have hlen : P.length < (P ++ m :: Q).length := by simp
  have hat : (P ++ m :: Q)[P.length]'hlen = m := by simp
  have hge : P.length ≤ i := by
    rcases Nat.lt_or_ge i P.length with q | q
    · have hi : i < (P ++ m :: Q).length := by omega
      have hb := List.pairwise_iff_getElem.1 hr i P.length hi hlen q
      rw [hat, hm] at hb
      cases ok with
      | true =>
        obtain ⟨_, e⟩ := h.yes rfl
        exact absurd e (bef_ne hb)
      | false =>
        have := bef_asymm (h.no rfl hi)
        rw [this] at hb
        cases hb
    · exact q
  have hle : i ≤ P.length := by
    rcases Nat.lt_or_ge P.length i with q | q
    · have hb := h.lo P.length hlen q
      rw [hat, hm, bef_irr] at hb
      cases hb
    · exact q
  have e : i = P.length := by omega
  subst e
  refine ⟨rfl, ?_⟩
  cases ok with
  | true => rfl
  | false =>
    have hb := h.no rfl hlen
    rw [hat, hm, bef_irr] at hb
    cases hb
theorem find_no {x : ByteArray} {P Q : List Rm} {i : Nat} {ok : Bool} (h : FindE x (P ++ Q) i ok) (hP : ∀ a ∈ P, bef a.n x = true) (hQ : ∀ c ∈ Q, bef x c.n = true) : i = P.length ∧ ok = false := by
  have hok : ok = false := by
    cases ok with
    | false => rfl
    | true =>
      obtain ⟨hi, e⟩ := h.yes rfl
      rcases List.mem_append.1 (List.getElem_mem hi) with q | q
      · exact absurd e (bef_ne (hP _ q))
      · exact absurd e.symm (bef_ne (hQ _ q))
  subst hok
  refine ⟨?_, rfl⟩
  rcases Nat.lt_trichotomy i P.length with q | q | q
  · have hi : i < (P ++ Q).length := by rw [List.length_append]; omega
    have hb := h.no rfl hi
    rw [List.getElem_append_left q] at hb
    rw [bef_asymm (hP _ (List.getElem_mem q))] at hb
    cases hb
  · exact q
  · have hl := h.le
    have hlen : P.length < (P ++ Q).length := by omega
    have hb := h.lo P.length hlen q
    rw [List.getElem_append_right (Nat.le_refl _)] at hb
    rw [bef_asymm (hQ _ (List.getElem_mem _))] at hb
    cases hb
set_option maxHeartbeats 1000000 in
theorem rread_no {w : World} {B rb nx : Nat} {fv lv : Value} {P Q : List Rm} {ls : List Lm} {z : Int} (h : Rk w B rb fv lv (P ++ Q) ls z nx) (x : ByteArray) (hx : x.size ≤ maxLen) (hn : ∀ m ∈ P ++ Q, m.n.size ≤ maxLen) (hl : (P ++ Q).length ≤ 100000) (hP : ∀ a ∈ P, bef a.n x = true) (hQ : ∀ c ∈ Q, bef x c.n = true) :
    Calls Try.prog 27 #[.pointer (some ⟨rb, 0, none⟩), .string x] w fun e w' => e = .returned (.tuple #[.slice none 0 0, .bool false]) ∧ Below w.heap.size w w' := by
  have HF := hid (rfind_ok h x hx hn (by omega))
  have HP := hid hP
  have HQ := hid hQ
  clear h hP hQ hn hl
  go_enter Try.func27, Try.ntmps27
  go_wp2_with (go_at_call 34; refine HF.out.mono ?_; rintro e w1 ⟨i, ok, rfl, hE, hb⟩; obtain ⟨rfl, rfl⟩ := find_no hE HP.out HQ.out; have HB := hid hb; clear hE hb)
  go_ret2
  exact ⟨rfl, HB.out⟩
/-- What is read so far. -/
structure ReS (w wr : World) (v : Value) (l : List UInt8) : Prop where
  b : Below w.heap.size w wr
  row : Row wr w.heap.size v l

set_option maxRecDepth 100000 in
set_option maxHeartbeats 8000000 in
theorem rread_yes {w : World} {B rb nx : Nat} {fv lv : Value} {P Q : List Rm} {m : Rm} {ls : List Lm} {z : Int} (h : Rk w B rb fv lv (P ++ m :: Q) ls z nx) (x : ByteArray) (hx : x.size ≤ maxLen) (hn : ∀ m' ∈ P ++ m :: Q, m'.n.size ≤ maxLen) (hl : (P ++ m :: Q).length ≤ 100000) (hr : RisM (P ++ m :: Q)) (hm : m.n = x) (hs : m.s.length ≤ 100000) (hls : ls.length ≤ 100000) :
    Calls Try.prog 27 #[.pointer (some ⟨rb, 0, none⟩), .string x] w fun e w' => ∃ v, e = .returned (.tuple #[v, .bool true]) ∧ Row w' w.heap.size v (m.s ++ bytesM ls m.no) ∧ Below w.heap.size w w' := by
  have HF := hid (rfind_ok h x hx hn (by omega))
  have hlen : P.length < (P ++ m :: Q).length := by simp
  have hat : (P ++ m :: Q)[P.length]'hlen = m := by simp
  obtain ⟨n, hn1⟩ : ∃ n, (P ++ m :: Q).length = n := ⟨_, rfl⟩
  obtain ⟨p, hp1⟩ : ∃ p, ls.length = p := ⟨_, rfl⟩
  obtain ⟨A, c, rfl⟩ := mrow_form h.fr hn1
  obtain ⟨A2, c2, rfl⟩ := lrow_form h.lr hp1
  have m0 : w.cell? ⟨rb, 0, none⟩ = some (.slice A n c) := h.blk.cell 0
  have m1 : w.cell? ⟨rb, 1, none⟩ = some (.slice A2 p c2) := h.blk.cell 1
  obtain ⟨g, rfl, hc⟩ := mrow_at h.fr hlen
  rw [hat] at hc
  obtain ⟨As, cs, es⟩ := row_form (h.sr m (by simp)) rfl
  have x1 := hc 1 _ (by omega) rfl
  have x2 := hc 2 _ (by omega) rfl
  rw [es] at x2
  have HSs := hid (h.sr m (by simp))
  rw [es] at HSs
  have HFE := hid fun i ok (hE : FindE x (P ++ m :: Q) i ok) => find_yes hE hr hm
  have H := hid h
  have HP1 := hid hp1
  obtain ⟨i, hi⟩ : ∃ i, P.length = i := ⟨_, rfl⟩
  rw [hn1, hi] at hlen
  rw [hi] at x1 x2 HFE
  rw [hp1] at hls
  obtain ⟨ns, hns⟩ : ∃ ns, m.s.length = ns := ⟨_, rfl⟩
  rw [hns] at x2 HSs hs
  have HNs := hid hns
  obtain ⟨no, hno⟩ : ∃ no, m.no = no := ⟨_, rfl⟩
  rw [hno] at x1 ⊢
  clear h hn1 hp1 hc hat es hr hm hi hns hn hl hno
  go_enter Try.func27, Try.ntmps27
  go_upto_region 4 with (go_at_call 34; refine HF.out.mono ?_; rintro e w1 ⟨i', ok, rfl, hE, hb⟩; obtain ⟨rfl, rfl⟩ := HFE.out i' ok hE; have HB1 := hid hb; clear hE hb)
  have y0 : w1.cell? ⟨rb, 0, none⟩ = some (.slice (some ⟨g, 0, none⟩) n c) := (HB1.out.cell (p := ⟨rb, 0, none⟩) (cell_lt m0)).trans m0
  have y2 := (HB1.out.cell (p := ⟨g, _, none⟩) (cell_lt x2)).trans x2
  have HCb := hid (copyb_any (.slice As ns cs) m.s (by rw [HNs.out]; omega) w1 (HSs.out.sla.below HB1.out))
  go_upto_region 5 with (go_at_call 11; refine HCb.out.mono ?_; rintro e w2 ⟨v2, rfl, hr, hb⟩; obtain ⟨A5, q5, rfl⟩ := row_form hr HNs.out; have HRe : Hid (ReS w w2 (.slice A5 ns q5) m.s) := ⟨HB1.out.trans (hb.mono HB1.out.size), row_low hr HB1.out.size⟩; clear hr hb)
  clear HCb HFE HF y0 y2 HB1 HSs
  go_wp2
  go_loopw [8, 9] (fun vo vk wr => ∃ (k n5 q5 : Nat) (A5 : Option Addr), vo = .slice A5 n5 q5 ∧ vk = .int .i64 (k : Int) ∧ k ≤ p ∧ Hid (ReS w wr (.slice A5 n5 q5) (m.s ++ bytesM (ls.take k) no))) (fun _ vk _ => p - (intOf vk).toNat)
  case atStart => exact ⟨0, ns, q5, A5, rfl, rfl, Nat.zero_le _, by rw [List.take_zero, show bytesM [] no = [] from rfl, List.append_nil]; exact HRe.out⟩
  case round =>
    obtain ⟨k, n5, q5, A5, rfl, rfl, hk, HI⟩ := hrel
    have m3 : wr.cell? ⟨rb, 1, none⟩ = some (.slice A2 p c2) := (HI.out.b.cell (p := ⟨rb, 1, none⟩) (cell_lt m1)).trans m1
    by_cases hkn : k < p
    · have hkl : k < ls.length := by rw [HP1.out]; exact hkn
      obtain ⟨g2, rfl, z0, z1⟩ := lrow_at H.out.lr hkl
      have m4 : wr.cell? ⟨rb, 0, none⟩ = some (.slice (some ⟨g, 0, none⟩) n c) := (HI.out.b.cell (p := ⟨rb, 0, none⟩) (cell_lt m0)).trans m0
      have y1 := (HI.out.b.cell (p := ⟨g, _, none⟩) (cell_lt x1)).trans x1
      have u0 := (HI.out.b.cell (p := ⟨g2, _, none⟩) (cell_lt z0)).trans z0
      have u1 := (HI.out.b.cell (p := ⟨g2, _, none⟩) (cell_lt z1)).trans z1
      have hf1 := filter_take hkl (ofNo no)
      have hlen1 : (m.s ++ bytesM (ls.take k) no).length ≤ 200000 := by
        unfold bytesM
        rw [List.length_append, List.length_map, HNs.out]
        have h1 := List.length_filter_le (ofNo no) (ls.take k)
        rw [List.length_take] at h1
        omega
      obtain ⟨⟨yn, yb⟩, hy⟩ : ∃ y, ls[k] = y := ⟨_, rfl⟩
      rw [hy] at u0 u1 hf1
      have HL1 := hid hlen1
      clear hy z0 z1 hlen1 hkl
      by_cases hq : yn = no
      · have HO : Hid (bytesM (ls.take (k + 1)) no = bytesM (ls.take k) no ++ [yb]) := by
          unfold Hid bytesM
          rw [hf1, if_pos (show ofNo no (yn, yb) = true from decide_eq_true hq), List.map_append]
          rfl
        clear hf1
        subst hq
        go_upto_region 8 with (fail)
        go_quiet (fail)
        obtain ⟨W2, hW2⟩ : ∃ W2, wr.drewN nq = W2 := ⟨_, rfl⟩
        have HB2 : Hid (Below wr.heap.size wr W2) := by rw [← hW2]; exact Go.below_drewN (Below.refl _ _) _
        rw [hW2]
        clear hW2
        have m5 := (HB2.out.cell (p := ⟨rb, _, none⟩) (cell_lt m3)).trans m3
        have u2 := (HB2.out.cell (p := ⟨g2, _, none⟩) (cell_lt u0)).trans u0
        have u3 := (HB2.out.cell (p := ⟨g2, _, none⟩) (cell_lt u1)).trans u1
        have HRw : Hid (Row W2 w.heap.size (.slice A5 n5 q5) (m.s ++ bytesM (ls.take k) yn)) := own_block0 HI.out.row fun g3 hg3 => HB2.out.block g3 (World.ownsRow.lt HI.out.row g3 hg3).2
        have HBw : Hid (Below w.heap.size w W2) := HI.out.b.trans (HB2.out.mono HI.out.b.size)
        clear m3 m4 u0 u1 y1
        go_wp2_with (at_builtin; refine wpList_append_at rfl _ _ rfl _ w.heap.size (.slice A5 n5 q5) _ rfl (own_block0 HRw.out fun g2 hg2 => (below_new W2 _).block g2 (World.ownsRow.lt HRw.out g2 hg2).2) _ _ [yb] rfl (by simp) (holds_one _ _) (by have := HL1.out; simp only [List.length_cons, List.length_nil]; omega) (by have := HBw.out.size; simp; omega) ?_; intro v2 w5 hr2 hg2 _)
        have hb1 := HBw.out.trans ((below_new W2 (.cells #[.int .u8 (yb.toNat : Int)] 5)).mono HBw.out.size)
        have hro := own_block0 (w' := W2.alloc (.cells #[.int .u8 (yb.toNat : Int)] 5)) HRw.out fun g2 hg2 => (below_new W2 _).block g2 (World.ownsRow.lt HRw.out g2 hg2).2
        have hst : ReS w w5 v2 (m.s ++ bytesM (ls.take (k + 1)) yn) := ⟨grown_own hb1 hro hg2 rfl, by rw [HO.out, ← List.append_assoc]; exact hr2⟩
        obtain ⟨n6, hn6⟩ : ∃ n6, (m.s ++ bytesM (ls.take k) yn ++ [yb]).length = n6 := ⟨_, rfl⟩
        obtain ⟨A6, c6, rfl⟩ := row_form hr2 hn6
        have HSt := hid hst
        clear hb1 hro hst hr2 hg2 hn6
        go_roundw
        case rel => exact ⟨k + 1, n6, c6, A6, rfl, by go_num, by omega, HSt.out⟩
        case measure => simp [intOf]; omega
      · have HO : Hid (bytesM (ls.take (k + 1)) no = bytesM (ls.take k) no) := by
          unfold Hid bytesM
          rw [hf1, if_neg (by rw [show ofNo no (yn, yb) = false from decide_eq_false hq]; decide), List.append_nil]
        have hq2 : ¬ (yn : Int) = (no : Int) := by omega
        clear hf1
        go_upto_region 8 with (fail)
        go_quiet (fail)
        go_wp2
        go_roundw
        case rel => exact ⟨k + 1, n5, q5, A5, rfl, by go_num, by omega, Go.below_drewN HI.out.b _, by rw [HO.out]; exact HI.out.row⟩
        case measure => simp [intOf]; omega
    · obtain rfl : k = p := by omega
      have hi := HI.out
      rw [List.take_of_length_le (by rw [HP1.out]; exact Nat.le_refl _)] at hi
      have HIf := hid hi
      clear hi
      go_wp2
      go_ret2
      exact ⟨_, rfl, HIf.out.row, HIf.out.b⟩
end Go.Proofs.Ytofkfafdodhmdaa
