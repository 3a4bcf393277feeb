/- Several texts in one: YQ YR YS RC VGa RD RE FS RF EA FT RG RA RH. Conditions: as each theorem names them. -/
import Derived.Test.YtdjaofbjmnmlbaaDoorMIAYP
import Derived.Deep.QuietTactic
import Derived.Test.YtdjaofbjmnmlbaaDoorVA
import Derived.Lib.ValidLaws
import Derived.Test.YtdjaofbjmnmlbaaDoorVF
import Derived.Deep.RegionHeld3
import Derived.Deep.DrawnRows
import Derived.Deep.LoopGhost
import Derived.Test.YtdjaofbjmnmlbaaDoorFRa
import Derived.Test.YtdjaofbjmnmlbaaDoorCC
import Derived.Test.YtdjaofbjmnmlbaaDoorVD
import Derived.Test.YtdjaofbjmnmlbaaDoorVE
/- Layer 7's own helpers: put, LongCells at any number, and the three cells that its fixed part puts. Conditions: as each theorem names them. -/
namespace Go.Proofs.YtdjaofbjmnmlbaaDoor
open Go.RowKit

def putM (r : ByteArray) (n : Int) : CT := ⟨r, ⟨#[102]⟩, ⟨#[113]⟩, 1, 1, 1, n, ⟨#[]⟩⟩
set_option maxHeartbeats 1000000 in
theorem putm_any (r : ByteArray) (n : Int) (w : World) : Calls Tryd.prog 80 #[.string r, .int .i64 n] w fun e w' => e = .returned (putM r n).v ∧ Below w.heap.size w w' := by
  go_enter Tryd.func80, Tryd.ntmps80
  go_wp2
  refine bodyPost_ret (v := (putM r n).v) (by simp [results, Tryd.results80, go_sem, putM, CT.v, cellV]) rfl ?_
  exact ⟨rfl, below_new _ _⟩
abbrev bA : ByteArray := ⟨#[97]⟩
abbrev bB : ByteArray := ⟨#[98]⟩
theorem putm1 : putL [] (putM bB 1) = [putM bB 1] := by kernel_rfl
theorem putm2 : putL [putM bB 1] (putM bB 2) = [putM bB 2] := by kernel_rfl
theorem putm3 : putL [putM bB 2] (putM bA 3) = [putM bA 3, putM bB 2] := by kernel_rfl
theorem putm4 : getL [putM bA 3, putM bB 2] (putM bB 9) = some (putM bB 2) := by kernel_rfl
theorem putm5 : rowL [putM bA 3, putM bB 2] bA = [putM bA 3] := by kernel_rfl
theorem putm_okC (r : ByteArray) (n : Int) (hn : inI n) : okC (putM r n) := ⟨by show (1 : Nat) ≤ _; omega, by show (0 : Nat) ≤ _; omega, hn⟩
theorem putm_ok1 : (putM bB 1).ok = true := by kernel_rfl
theorem putm_ok2 : (putM bB 2).ok = true := by kernel_rfl
theorem putm_ok3 : (putM bA 3).ok = true := by kernel_rfl
theorem none_ok : (default : CT).ok = false := by kernel_rfl
theorem putm_b0 : bytesL [] ≤ 1000000000 := by decide
theorem putm_b1 : bytesL [putM bB 1] ≤ 1000000000 := of_decide_eq_true (by kernel_rfl)
theorem putm_b2 : bytesL [putM bB 2] ≤ 1000000000 := of_decide_eq_true (by kernel_rfl)
theorem putm_b3 : 0 < bytesL [putM bA 3, putM bB 2] := of_decide_eq_true (by kernel_rfl)
theorem putm_e1 : encL (putM bB 1) ≤ 1000000 := of_decide_eq_true (by kernel_rfl)
theorem putm_e2 : encL (putM bB 2) ≤ 1000000 := of_decide_eq_true (by kernel_rfl)
theorem putm_e3 : encL (putM bA 3) ≤ 1000000 := of_decide_eq_true (by kernel_rfl)
end Go.Proofs.YtdjaofbjmnmlbaaDoor

/- LongCells at any number. Conditions: the argument stands. -/
namespace Go.Proofs.YtdjaofbjmnmlbaaDoor
open Go.RowKit

/-- Is a list of cells greater than is looked at, m being the most? -/
def longM (m : Nat) (l : List CT) : Bool := decide (m < l.length) || l.any longC1
theorem longM_ok {m : Nat} {l : List CT} (h : longM m l = false) (hv : ∀ c ∈ l, inI c.vn) : l.length ≤ m ∧ ∀ c ∈ l, okC c ∧ c.r.size ≤ 60 ∧ c.f.size ≤ 60 ∧ c.q.size ≤ 60 ∧ c.s.size ≤ 100 := by
  unfold longM at h
  rw [Bool.or_eq_false_iff] at h
  obtain ⟨h1, h2⟩ := h
  have h1 := of_decide_eq_false h1
  refine ⟨by omega, fun c hc => ?_⟩
  have h3 : longC1 c = false := by
    cases e : longC1 c with
    | false => rfl
    | true =>
      rw [List.any_eq_true.2 ⟨c, hc, e⟩] at h2
      cases h2
  unfold longC1 at h3
  simp only [Bool.or_eq_false_iff, decide_eq_false_iff_not] at h3
  exact ⟨⟨by omega, by omega, hv c hc⟩, by omega, by omega, by omega, by omega⟩

set_option maxHeartbeats 4000000 in
set_option maxRecDepth 100000 in
theorem longcells_at (m : Nat) (v : Value) (l : List CT) (w : World) (h : ClA w v l) :
    Calls Tryd.prog 33 #[v, .int .i64 (m : Int)] w fun e w' => e = .returned (.bool (longM m l)) ∧ Below w.heap.size w w' := by
  have mixed : Tryd.prog.follows .mixedOrders = true := by kernel_rfl
  obtain ⟨A, cc, rfl, hc1, hc2, hh⟩ := h
  unfold longM
  obtain ⟨n, hn⟩ : ∃ n, l.length = n := ⟨_, rfl⟩
  have HN := hid hn
  rw [hn] at hc1 hh ⊢
  have HH := hid hh
  clear hn hh
  by_cases hl : m < n
  · have hlz : (m : Int) < (n : Int) := by omega
    rw [decide_eq_true hl]
    go_enter Tryd.func33, Tryd.ntmps33
    go_wp2
    go_ret
    exact ⟨rfl, Below.refl _ _⟩
  · have hlz : ¬ (m : Int) < (n : Int) := by omega
    rw [decide_eq_false hl]
    go_enter Tryd.func33, Tryd.ntmps33
    go_wp2
    go_loopw [5] (fun vi wr => wr = w ∧ ∃ i : Nat, i ≤ n ∧ vi = .int .i64 i ∧ Hid (l.any longC1 = (l.drop i).any longC1)) (fun vi _ => n - (intOf vi).toNat)
    case atStart => exact ⟨rfl, 0, Nat.zero_le _, rfl, rfl⟩
    case round =>
      obtain ⟨rfl, i, hi, rfl, HA⟩ := hrel
      by_cases hlt : i < n
      · have hin : i < l.length := by rw [HN.out]; exact hlt
        have hltz : (i : Int) < (n : Int) := by omega
        have hltd : decide ((i : Int) < (n : Int)) = true := decide_eq_true hltz
        obtain ⟨b, off, rfl, hhc⟩ := HH.out (by omega)
        obtain ⟨c, hc⟩ : ∃ c, l[i] = c := ⟨_, rfl⟩
        have P : wr.cell? ⟨b, off + i * 8, none⟩ = some (.string c.r) ∧ wr.cell? ⟨b, off + i * 8 + 1, none⟩ = some (.string c.f) ∧ wr.cell? ⟨b, off + i * 8 + 2, none⟩ = some (.string c.q) ∧ wr.cell? ⟨b, off + i * 8 + 3, none⟩ = some (.int .i64 c.t) ∧ wr.cell? ⟨b, off + i * 8 + 4, none⟩ = some (.int .i64 c.k) ∧ wr.cell? ⟨b, off + i * 8 + 5, none⟩ = some (.int .i64 c.vk) ∧ wr.cell? ⟨b, off + i * 8 + 6, none⟩ = some (.int .i64 c.vn) ∧ wr.cell? ⟨b, off + i * 8 + 7, none⟩ = some (.string c.s) := by
          rw [← hc]
          exact hhc.words i hin
        have HD : Hid (l.any longC1 = (longC1 c || (l.drop (i + 1)).any longC1)) := by
          unfold Hid
          rw [HA.out, List.drop_eq_getElem_cons hin, hc]
          rfl
        obtain ⟨p0, p1, p2, p3, p4, p5, p6, p7⟩ := P
        clear hc hhc HA
        by_cases h1 : 60 < c.r.size
        · have h1z : (60 : Int) < (c.r.size : Int) := by omega
          have HE : Hid (l.any longC1 = true) := by unfold Hid; rw [HD.out]; simp [longC1, h1]
          clear h1
          go_wp2
          go_ret
          exact ⟨by rw [HE.out]; rfl, Below.refl _ _⟩
        have h1z : ¬ (60 : Int) < (c.r.size : Int) := by omega
        by_cases h2 : 60 < c.f.size
        · have h2z : (60 : Int) < (c.f.size : Int) := by omega
          have HE : Hid (l.any longC1 = true) := by unfold Hid; rw [HD.out]; simp [longC1, h2]
          clear h1 h2
          go_wp2
          go_ret
          exact ⟨by rw [HE.out]; rfl, Below.refl _ _⟩
        have h2z : ¬ (60 : Int) < (c.f.size : Int) := by omega
        by_cases h3 : 60 < c.q.size
        · have h3z : (60 : Int) < (c.q.size : Int) := by omega
          have HE : Hid (l.any longC1 = true) := by unfold Hid; rw [HD.out]; simp [longC1, h3]
          clear h1 h2 h3
          go_wp2
          go_ret
          exact ⟨by rw [HE.out]; rfl, Below.refl _ _⟩
        have h3z : ¬ (60 : Int) < (c.q.size : Int) := by omega
        by_cases h4 : 100 < c.s.size
        · have h4z : (100 : Int) < (c.s.size : Int) := by omega
          have HE : Hid (l.any longC1 = true) := by unfold Hid; rw [HD.out]; simp [longC1, h4]
          clear h1 h2 h3 h4
          go_wp2
          go_ret
          exact ⟨by rw [HE.out]; rfl, Below.refl _ _⟩
        have h4z : ¬ (100 : Int) < (c.s.size : Int) := by omega
        have HE : Hid (l.any longC1 = (l.drop (i + 1)).any longC1) := by
          unfold Hid
          rw [HD.out]
          simp [longC1, h1, h2, h3, h4]
        clear h1 h2 h3 h4
        go_wp2
        go_roundw
        case rel => exact ⟨trivial, i + 1, by omega, by go_num, HE.out⟩
        case measure => simp [intOf]; omega
      · obtain rfl : i = n := by omega
        have HE : Hid (l.any longC1 = false) := by
          unfold Hid
          rw [HA.out, List.drop_of_length_le (by rw [HN.out]; exact Nat.le_refl _)]
          rfl
        go_wp2
        go_ret
        exact ⟨by rw [HE.out]; rfl, Below.refl _ _⟩
end Go.Proofs.YtdjaofbjmnmlbaaDoor

/- The fixed part of layer 7's laws: alive. Conditions: the tables of utf8 read as they are laid. -/
namespace Go.Proofs.YtdjaofbjmnmlbaaDoor
open Go.RowKit

/-- A table of the call's own stands. -/
structure MeS (B mb : Nat) (l : List CT) (w W : World) : Prop where
  out : MemOf W B mb l ∧ KT memTs B w W ∧ B ≤ W.heap.size
theorem MeS.below {B mb : Nat} {l : List CT} {w W W' : World} (h : MeS B mb l w W) (hb : Below W.heap.size W W') : MeS B mb l w W' := by
  obtain ⟨h1, h2, h3⟩ := h.out
  exact ⟨h1.below hb, h2.trans (KT.of_below hb h3), Nat.le_trans h3 hb.size⟩
theorem ms_new {w w' : World} {mb : Nat} (h : MemOf w' w.heap.size mb []) (hb : Below w.heap.size w w') : MeS w.heap.size mb [] w w' := ⟨h, KT.of_below hb (Nat.le_refl _), hb.size⟩
theorem ms_put {B mb : Nat} {l : List CT} {w W : World} {c : CT} (h : MeS B mb l w W) (hL : LaidU w) (hBw : w.heap.size ≤ B) (hc : okC c) (hcs : c.s.size ≤ 1000) (hok : c.ok = true) (hlen : l.length ≤ 1000000) (hby : bytesL l ≤ 1000000000) (hel : encL c ≤ 1000000) :
    Calls Tryd.prog 35 #[.pointer (some ⟨mb, 0, none⟩), c.v] W fun e w' => e = .returned (.bool true) ∧ MeS B mb (putL l c) w w' := by
  obtain ⟨h1, h2, h3⟩ := h.out
  exact (put_yes mb l c B W h1 hc hcs hok (hL.below (h2.b.mono hBw)) h3 hlen hby hel).mono fun e w' ⟨q1, q2, q3⟩ => ⟨q1, ⟨q2, h2.trans q3, Nat.le_trans h3 q3.b.size⟩⟩

theorem zero_okC : okC (default : CT) := ⟨by show (0 : Nat) ≤ _; omega, by show (0 : Nat) ≤ _; omega, by show inI 0; unfold inI; omega⟩
theorem mes_get {B mb : Nat} {l : List CT} {w W : World} {c x : CT} (h : MeS B mb l w W) (hx : getL l c = some x) :
    Calls Tryd.prog 38 #[.pointer (some ⟨mb, 0, none⟩), c.v] W fun e w' => e = .returned (.tuple #[x.v, .bool true]) ∧ Below W.heap.size W w' := by
  refine (get_any mb l c B W h.out.1).mono fun e w' ⟨q1, q2⟩ => ⟨?_, q2⟩
  rw [q1, hx]
  rfl
theorem mes_row {B mb : Nat} {l : List CT} {w W : World} {row : ByteArray} {n : Nat} (h : MeS B mb l w W) (hl : l.length ≤ 100000) (hn : (rowL l row).length = n) :
    Calls Tryd.prog 41 #[.pointer (some ⟨mb, 0, none⟩), .string row] W fun e w' => ∃ A c, e = .returned (.slice A n c) ∧ Below W.heap.size W w' := by
  refine (row_any mb B l row hl W h.out.1).mono fun e w' ⟨v, q1, q2, q3⟩ => ?_
  obtain ⟨A, c, e1, _⟩ := q2.len
  exact ⟨A, c, by rw [q1, e1, hn], q3⟩
set_option maxHeartbeats 4000000 in
set_option maxRecDepth 100000 in
theorem malive_any (w : World) (hL : LaidU w) : Calls Tryd.prog 32 #[] w fun e w' => e = .returned (.bool true) ∧ Below w.heap.size w w' := by
  have mixed : Tryd.prog.follows .mixedOrders = true := by kernel_rfl
  obtain ⟨pm, hpm⟩ : ∃ f : ByteArray → Int → Value, (fun r n => (putM r n).v) = f := ⟨_, rfl⟩
  have hpv : ∀ r n, pm r n = (putM r n).v := fun r n => by rw [← hpm]
  have HP : Hid (∀ r n w, Calls Tryd.prog 80 #[.string r, .int .i64 n] w fun e w' => e = .returned (pm r n) ∧ Below w.heap.size w w') := fun r n w => by rw [hpv]; exact putm_any r n w
  have H1 : Hid (∀ mb W, MeS w.heap.size mb [] w W → Calls Tryd.prog 35 #[.pointer (some ⟨mb, 0, none⟩), pm bB 1] W fun e w' => e = .returned (.bool true) ∧ MeS w.heap.size mb [putM bB 1] w w') := fun mb W h => by
    rw [hpv]
    exact ms_put h hL (Nat.le_refl _) (putm_okC _ _ (by unfold inI; omega)) (by show (0 : Nat) ≤ _; omega) putm_ok1 (by decide) putm_b0 putm_e1
  have H2 : Hid (∀ mb W, MeS w.heap.size mb [putM bB 1] w W → Calls Tryd.prog 35 #[.pointer (some ⟨mb, 0, none⟩), pm bB 2] W fun e w' => e = .returned (.bool true) ∧ MeS w.heap.size mb [putM bB 2] w w') := fun mb W h => by
    rw [hpv]
    exact ms_put h hL (Nat.le_refl _) (putm_okC _ _ (by unfold inI; omega)) (by show (0 : Nat) ≤ _; omega) putm_ok2 (by decide) putm_b1 putm_e2
  have H3 : Hid (∀ mb W, MeS w.heap.size mb [putM bB 2] w W → Calls Tryd.prog 35 #[.pointer (some ⟨mb, 0, none⟩), pm bA 3] W fun e w' => e = .returned (.bool true) ∧ MeS w.heap.size mb [putM bA 3, putM bB 2] w w') := fun mb W h => by
    rw [hpv]
    exact ms_put h hL (Nat.le_refl _) (putm_okC _ _ (by unfold inI; omega)) (by show (0 : Nat) ≤ _; omega) putm_ok3 (by decide) putm_b2 putm_e3
  have H0 : Hid (∀ mb W, MeS w.heap.size mb [putM bA 3, putM bB 2] w W → Calls Tryd.prog 35 #[.pointer (some ⟨mb, 0, none⟩), .agg #[.string ⟨#[]⟩, .string ⟨#[]⟩, .string ⟨#[]⟩, .int .i64 0, .int .i64 0, .int .i64 0, .int .i64 0, .string ⟨#[]⟩]] W fun e w' => e = .returned (.bool false) ∧ Below W.heap.size W w') := fun mb W h =>
    put_no mb default W zero_okC none_ok (hL.below h.out.2.1.b)
  have HG : Hid (∀ mb W, MeS w.heap.size mb [putM bA 3, putM bB 2] w W → Calls Tryd.prog 38 #[.pointer (some ⟨mb, 0, none⟩), pm bB 9] W fun e w' => e = .returned (.tuple #[.agg #[.string bB, .string ⟨#[102]⟩, .string ⟨#[113]⟩, .int .i64 1, .int .i64 1, .int .i64 1, .int .i64 2, .string ⟨#[]⟩], .bool true]) ∧ Below W.heap.size W w') := fun mb W h => by rw [hpv]; exact mes_get h putm4
  have HC : Hid (∀ mb W, MeS w.heap.size mb [putM bA 3, putM bB 2] w W → Calls Tryd.prog 37 #[.pointer (some ⟨mb, 0, none⟩)] W fun e w' => e = .returned (.int .i64 2) ∧ w' = W) := fun mb W h => count_any mb _ _ W h.out.1
  obtain ⟨nb, hnb⟩ : ∃ nb, bytesL [putM bA 3, putM bB 2] = nb := ⟨_, rfl⟩
  have nbp : 0 < nb := hnb ▸ putm_b3
  have HB : Hid (∀ mb W, MeS w.heap.size mb [putM bA 3, putM bB 2] w W → Calls Tryd.prog 43 #[.pointer (some ⟨mb, 0, none⟩)] W fun e w' => e = .returned (.int .i64 (nb : Int)) ∧ w' = W) := fun mb W h => hnb ▸ bytes_any mb _ _ W h.out.1
  have HR : Hid (∀ mb W, MeS w.heap.size mb [putM bA 3, putM bB 2] w W → Calls Tryd.prog 41 #[.pointer (some ⟨mb, 0, none⟩), .string bA] W fun e w' => ∃ A c, e = .returned (.slice A 1 c) ∧ Below W.heap.size W w') := fun mb W h => mes_row h (by decide) (by rw [putm5]; rfl)
  clear hL hnb hpm hpv
  go_enter Tryd.func32, Tryd.ntmps32
  go_wp2_with (first
    | (go_at_call 34; refine (new_any _).mono ?_; rintro e w1 ⟨mb, rfl, hM1, hb1⟩; have HS := ms_new hM1 hb1; clear hM1 hb1)
    | (go_at_call 80; refine (HP.out _ _ _).mono ?_; rintro e w5 ⟨rfl, hb5⟩; have HS := MeS.below HS hb5; clear hb5)
    | (go_at_call 35; first
        | (have hq := H1.out _ _ HS; refine hq.mono ?_; clear hq; rintro e w6 ⟨rfl, HS⟩)
        | (have hq := H2.out _ _ HS; refine hq.mono ?_; clear hq; rintro e w6 ⟨rfl, HS⟩)
        | (have hq := H3.out _ _ HS; refine hq.mono ?_; clear hq; rintro e w6 ⟨rfl, HS⟩)
        | (have hq := H0.out _ _ HS; refine hq.mono ?_; clear hq; rintro e w6 ⟨rfl, hb6⟩; have HS := MeS.below HS hb6; clear hb6))
    | (go_at_call 38; have hq := HG.out _ _ HS; refine hq.mono ?_; clear hq; rintro e w7 ⟨rfl, hb7⟩; have HS := MeS.below HS hb7; clear hb7)
    | (go_at_call 37; have HS := MeS.below HS (below_new _ (.cells #[.string bB, .string ⟨#[102]⟩, .string ⟨#[113]⟩, .int .i64 1, .int .i64 1, .int .i64 1, .int .i64 2, .string ⟨#[]⟩] 28)); have hq := HC.out _ _ HS; refine hq.mono ?_; clear hq; rintro e w8 ⟨rfl, e8⟩; subst e8)
    | (go_at_call 43; have hq := HB.out _ _ HS; refine hq.mono ?_; clear hq; rintro e w8 ⟨rfl, e8⟩; subst e8)
    | (go_at_call 41; have hq := HR.out _ _ HS; refine hq.mono ?_; clear hq; rintro e w9 ⟨A9, c9, rfl, hb9⟩; have HS := MeS.below HS hb9; clear hb9))
  go_ret
  exact ⟨rfl, HS.out.2.1.b⟩
end Go.Proofs.YtdjaofbjmnmlbaaDoor

/- The document's Utf8, for every text. Conditions: the text is no longer than any is. -/
namespace Go.Proofs.YtdjaofbjmnmlbaaDoor
open Go.RowKit

/-- How many bytes follow the lead byte c; what of it counts; the least number. -/
def leadN (c : Nat) : Nat := if c < 194 then 0 else if c < 224 then 1 else if c < 240 then 2 else if c < 245 then 3 else 0
def contB (d : Nat) : Bool := decide (128 ≤ d) && decide (d ≤ 191)
def badC (c least : Nat) : Bool := decide (c < least) || decide (1114111 < c) || (decide (55296 ≤ c) && decide (c ≤ 57343))

theorem valid_1 (l : List UInt8) (hne : l ≠ []) (c : Nat) (hc : (l.getD 0 0).toNat = c) (h1 : 194 ≤ c) (h2 : c ≤ 223) :
    Lib.validD l = if 1 < l.length ∧ contB (l.getD 1 0).toNat = true then Lib.validD (l.drop 2) else false := by
  rw [Lib.validD_lead l hne (by omega), hc]
  have f1 : Lib.firstT c % 8 = 2 := by simp [Lib.firstT, show ¬ c < 128 by omega, show ¬ c < 194 by omega, show c < 224 by omega]
  have f2 : Lib.accLo (Lib.firstT c / 16) = 128 := by simp [Lib.firstT, Lib.accLo, show ¬ c < 128 by omega, show ¬ c < 194 by omega, show c < 224 by omega]
  have f3 : Lib.accHi (Lib.firstT c / 16) = 191 := by simp [Lib.firstT, Lib.accHi, show ¬ c < 128 by omega, show ¬ c < 194 by omega, show c < 224 by omega]
  rw [f1, f2, f3]
  generalize (l.getD 1 0).toNat = d1
  unfold Lib.checkN contB
  rw [if_pos rfl]
  by_cases h : l.length < 2 ∨ d1 < 128 ∨ 191 < d1
  · rw [if_pos h, if_neg]
    simp
    omega
  · rw [if_neg h, if_pos]
    simp
    omega

theorem valid_no (l : List UInt8) (hne : l ≠ []) (c : Nat) (hc : (l.getD 0 0).toNat = c) (h : 128 ≤ c) (h2 : c < 194 ∨ 244 < c) : Lib.validD l = false := by
  have h256 := (l.getD 0 0).toNat_lt
  rw [Lib.validD_lead l hne (by omega), hc]
  have f1 : Lib.checkN l.length (l.getD 1 0).toNat (l.getD 2 0).toNat (l.getD 3 0).toNat (Lib.firstT c % 8) (Lib.accLo (Lib.firstT c / 16)) (Lib.accHi (Lib.firstT c / 16)) = none := by
    rcases h2 with h2 | h2
    · simp [Lib.firstT, Lib.checkN, show ¬ c < 128 by omega, h2]
    · simp [Lib.firstT, Lib.checkN, show ¬ c < 128 by omega, show ¬ c < 194 by omega, show ¬ c < 224 by omega, show ¬ c = 224 by omega, show ¬ c < 237 by omega, show ¬ c = 237 by omega, show ¬ c < 240 by omega, show ¬ c = 240 by omega, show ¬ c < 244 by omega, show ¬ c = 244 by omega]
  rw [f1]

theorem valid_2 (l : List UInt8) (hne : l ≠ []) (c : Nat) (hc : (l.getD 0 0).toNat = c) (h1 : 224 ≤ c) (h2 : c ≤ 239) :
    Lib.validD l = if 2 < l.length ∧ contB (l.getD 1 0).toNat = true ∧ contB (l.getD 2 0).toNat = true ∧ badC (((c - 224) * 64 + (l.getD 1 0).toNat - 128) * 64 + (l.getD 2 0).toNat - 128) 2048 = false then Lib.validD (l.drop 3) else false := by
  rw [Lib.validD_lead l hne (by omega), hc]
  generalize (l.getD 1 0).toNat = d1
  generalize (l.getD 2 0).toNat = d2
  obtain ⟨lo, hi, f1, f2, f3, hk⟩ : ∃ lo hi, Lib.firstT c % 8 = 3 ∧ Lib.accLo (Lib.firstT c / 16) = lo ∧ Lib.accHi (Lib.firstT c / 16) = hi ∧ ((c = 224 ∧ lo = 160 ∧ hi = 191) ∨ (c = 237 ∧ lo = 128 ∧ hi = 159) ∨ (c ≠ 224 ∧ c ≠ 237 ∧ lo = 128 ∧ hi = 191)) := by
    by_cases q1 : c = 224
    · subst q1; exact ⟨160, 191, by decide, by decide, by decide, .inl ⟨rfl, rfl, rfl⟩⟩
    · by_cases q2 : c = 237
      · subst q2; exact ⟨128, 159, by decide, by decide, by decide, .inr (.inl ⟨rfl, rfl, rfl⟩)⟩
      · refine ⟨128, 191, ?_, ?_, ?_, .inr (.inr ⟨q1, q2, rfl, rfl⟩)⟩ <;>
        · by_cases q3 : c < 237
          · simp [Lib.firstT, Lib.accLo, Lib.accHi, show ¬ c < 128 by omega, show ¬ c < 194 by omega, show ¬ c < 224 by omega, q1, q3]
          · simp [Lib.firstT, Lib.accLo, Lib.accHi, show ¬ c < 128 by omega, show ¬ c < 194 by omega, show ¬ c < 224 by omega, q1, q2, q3, show c < 240 by omega]
  rw [f1, f2, f3]
  unfold Lib.checkN contB badC
  rw [if_neg (by decide), if_pos rfl]
  clear f1 f2 f3 hne hc
  by_cases h : l.length < 3 ∨ d1 < lo ∨ hi < d1 ∨ d2 < 128 ∨ 191 < d2
  · rw [if_pos h, if_neg]
    simp
    omega
  · rw [if_neg h, if_pos]
    simp
    omega

theorem valid_3 (l : List UInt8) (hne : l ≠ []) (c : Nat) (hc : (l.getD 0 0).toNat = c) (h1 : 240 ≤ c) (h2 : c ≤ 244) :
    Lib.validD l = if 3 < l.length ∧ contB (l.getD 1 0).toNat = true ∧ contB (l.getD 2 0).toNat = true ∧ contB (l.getD 3 0).toNat = true ∧ badC ((((c - 240) * 64 + (l.getD 1 0).toNat - 128) * 64 + (l.getD 2 0).toNat - 128) * 64 + (l.getD 3 0).toNat - 128) 65536 = false then Lib.validD (l.drop 4) else false := by
  rw [Lib.validD_lead l hne (by omega), hc]
  generalize (l.getD 1 0).toNat = d1
  generalize (l.getD 2 0).toNat = d2
  generalize (l.getD 3 0).toNat = d3
  obtain ⟨lo, hi, f1, f2, f3, hk⟩ : ∃ lo hi, Lib.firstT c % 8 = 4 ∧ Lib.accLo (Lib.firstT c / 16) = lo ∧ Lib.accHi (Lib.firstT c / 16) = hi ∧ ((c = 240 ∧ lo = 144 ∧ hi = 191) ∨ (c = 244 ∧ lo = 128 ∧ hi = 143) ∨ (c ≠ 240 ∧ c ≠ 244 ∧ lo = 128 ∧ hi = 191)) := by
    rcases (show c = 240 ∨ c = 241 ∨ c = 242 ∨ c = 243 ∨ c = 244 by omega) with rfl | rfl | rfl | rfl | rfl
    · exact ⟨144, 191, by decide, by decide, by decide, .inl ⟨rfl, rfl, rfl⟩⟩
    · exact ⟨128, 191, by decide, by decide, by decide, .inr (.inr ⟨by decide, by decide, rfl, rfl⟩)⟩
    · exact ⟨128, 191, by decide, by decide, by decide, .inr (.inr ⟨by decide, by decide, rfl, rfl⟩)⟩
    · exact ⟨128, 191, by decide, by decide, by decide, .inr (.inr ⟨by decide, by decide, rfl, rfl⟩)⟩
    · exact ⟨128, 143, by decide, by decide, by decide, .inr (.inl ⟨rfl, rfl, rfl⟩)⟩
  rw [f1, f2, f3]
  unfold Lib.checkN contB badC
  rw [if_neg (by decide), if_neg (by decide), if_pos rfl]
  clear f1 f2 f3 hne hc
  by_cases h : l.length < 4 ∨ d1 < lo ∨ hi < d1 ∨ d2 < 128 ∨ 191 < d2 ∨ d3 < 128 ∨ 191 < d3
  · rw [if_pos h, if_neg]
    simp
    omega
  · rw [if_neg h, if_pos]
    simp
    omega

end Go.Proofs.YtdjaofbjmnmlbaaDoor

/- A byte of a text. Conditions: none. -/
namespace Go.Proofs.YtdjaofbjmnmlbaaDoor
open Go.RowKit

theorem string_at (s : ByteArray) (k : Nat) (h : k < s.size) (W : World) : (Instr.index 9 (.string s) (.int .i64 (k : Int))).run Tryd.prog W = .ok (.int .u8 (s[k].toNat : Int)) W := by
  have h0 : (0 : Int) ≤ (k : Int) := by omega
  simp [Instr.index, run_underlying Tryd.underlying9, asIntOf, h0, h]
theorem Row.drewN {w : World} {B : Nat} {v : Value} {l : List UInt8} (h : Row w B v l) (n : Nat) : Row (w.drewN n) B v l := h
end Go.Proofs.YtdjaofbjmnmlbaaDoor

/- The document's Utf8, for every text: it says what utf8.ValidString says. Conditions: the text is no longer than any is. -/
namespace Go.Proofs.YtdjaofbjmnmlbaaDoor
open Go.RowKit

/-- What the outer loop knows. -/
def OInv (s : ByteArray) (vi : Value) : Prop :=
  ∃ i : Nat, i ≤ s.size ∧ vi = .int .i64 i ∧ Lib.validD s.data.toList = Lib.validD (s.data.toList.drop i)

def dB (s : ByteArray) (i k : Nat) : Nat := (s.data.toList.getD (i + k) 0).toNat
/-- The number so far, k bytes behind the lead. -/
def part (s : ByteArray) (i base : Nat) : Nat → Nat
  | 0 => dB s i 0 - base
  | k + 1 => part s i base k * 64 + dB s i (k + 1) - 128
def contsB (s : ByteArray) (i : Nat) : Nat → Bool
  | 0 => true
  | k + 1 => contsB s i k && contB (dB s i (k + 1))
theorem contsB_mono (s : ByteArray) (i : Nat) : ∀ n k, k ≤ n → contsB s i n = true → contsB s i k = true
  | 0, k, h, _ => by obtain rfl : k = 0 := by omega
                     rfl
  | n + 1, k, h, hc => by
    by_cases e : k = n + 1
    · rw [e]; exact hc
    · simp only [contsB, Bool.and_eq_true] at hc
      exact contsB_mono s i n k (by omega) hc.1
theorem contsB_bad (s : ByteArray) (i n k : Nat) (h1 : 1 ≤ k) (h2 : k ≤ n) (hb : contB (dB s i k) = false) : contsB s i n = false := by
  cases h : contsB s i n
  · rfl
  · have := contsB_mono s i n k h2 h
    obtain ⟨j, rfl⟩ : ∃ j, k = j + 1 := ⟨k - 1, by omega⟩
    simp only [contsB, Bool.and_eq_true] at this
    rw [hb] at this
    exact absurd this.2 (by decide)
theorem part_lt (s : ByteArray) (i base : Nat) (h0 : part s i base 0 < 32) (k : Nat) : contsB s i k = true → part s i base k < 32 * 64 ^ k := by
  induction k with
  | zero =>
    intro _
    have e : 32 * 64 ^ 0 = 32 := by decide
    rw [e]; exact h0
  | succ k ih =>
    intro h
    simp only [contsB, Bool.and_eq_true] at h
    have ih2 := ih h.1
    have hd := h.2
    clear h ih h0
    unfold contB at hd
    simp only [Bool.and_eq_true, decide_eq_true_eq] at hd
    have e : 32 * 64 ^ (k + 1) = 32 * 64 ^ k * 64 := by rw [Nat.pow_succ, Nat.mul_assoc]
    rw [e]
    obtain ⟨P, hP⟩ : ∃ P, 32 * 64 ^ k = P := ⟨_, rfl⟩
    rw [hP] at ih2 ⊢
    clear hP e
    have e2 : part s i base (k + 1) = part s i base k * 64 + dB s i (k + 1) - 128 := rfl
    rw [e2]
    omega
theorem part_small (s : ByteArray) (i base : Nat) (h0 : part s i base 0 < 32) (k : Nat) (hk : k ≤ 3) (h : contsB s i k = true) : part s i base k < 10000000 := by
  have h1 := part_lt s i base h0 k h
  have h2 : 32 * 64 ^ k ≤ 8388608 := by
    rcases (show k = 0 ∨ k = 1 ∨ k = 2 ∨ k = 3 by omega) with rfl | rfl | rfl | rfl <;> decide
  obtain ⟨P, hP⟩ : ∃ P, 32 * 64 ^ k = P := ⟨_, rfl⟩
  rw [hP] at h1 h2
  omega
theorem part_next {s : ByteArray} {i base k p d : Nat} (hk : 1 ≤ k) (hp : p = part s i base (k - 1)) (hc : contsB s i (k - 1) = true) (hd : dB s i k = d) (h1 : 128 ≤ d) (h2 : d ≤ 191) : part s i base k = p * 64 + d - 128 ∧ contsB s i k = true := by
  obtain ⟨j, rfl⟩ : ∃ j, k = j + 1 := ⟨k - 1, by omega⟩
  have e : j + 1 - 1 = j := by omega
  rw [e] at hp hc
  refine ⟨?_, ?_⟩
  · show part s i base j * 64 + dB s i (j + 1) - 128 = _
    rw [← hp, hd]
  · show (contsB s i j && contB (dB s i (j + 1))) = true
    rw [hc, hd]
    unfold contB
    simp
    omega
theorem drop_getD (s : ByteArray) (i k : Nat) : (s.data.toList.drop i).getD k 0 = s.data.toList.getD (i + k) 0 := by
  simp [List.getD_eq_getElem?_getD]
theorem drop_ne (s : ByteArray) (i : Nat) (h : i < s.size) : s.data.toList.drop i ≠ [] := by
  intro e
  have := congrArg List.length e
  have h2 : s.data.toList.length = s.size := rfl
  simp at this
  omega
theorem drop_len (s : ByteArray) (i : Nat) : (s.data.toList.drop i).length = s.size - i := by simp
theorem getD_s (s : ByteArray) (i : Nat) (h : i < s.size) : s.data.toList.getD i 0 = s[i] := by
  rw [List.getD_eq_getElem?_getD, List.getElem?_eq_getElem (show i < s.data.toList.length from h)]
  rfl

theorem dB_s (s : ByteArray) (i k : Nat) (h : i + k < s.size) : dB s i k = s[i + k].toNat := by
  unfold dB
  rw [getD_s s (i + k) h]
theorem dB_drop (s : ByteArray) (i k : Nat) : ((s.data.toList.drop i).getD k 0).toNat = dB s i k := by unfold dB; rw [drop_getD]
/-- What validD says at a lead byte that n bytes follow. -/
def Lead (s : ByteArray) (i n base least : Nat) : Prop :=
  Lib.validD s.data.toList = if i + n < s.size ∧ contsB s i n = true ∧ badC (part s i base n) least = false then Lib.validD (s.data.toList.drop (i + (n + 1))) else false
theorem if_iff {p q : Prop} [Decidable p] [Decidable q] {a b : Bool} (h : p ↔ q) : (if p then a else b) = if q then a else b := by
  by_cases hp : p
  · rw [if_pos hp, if_pos (h.1 hp)]
  · rw [if_neg hp, if_neg (fun hq => hp (h.2 hq))]
theorem lead_1 (s : ByteArray) (i : Nat) (hi : i < s.size) (hv : Lib.validD s.data.toList = Lib.validD (s.data.toList.drop i)) (h1 : 194 ≤ dB s i 0) (h2 : dB s i 0 ≤ 223) : Lead s i 1 192 128 := by
  unfold Lead
  rw [hv, valid_1 _ (drop_ne s i hi) _ (dB_drop s i 0) h1 h2, dB_drop, drop_len, List.drop_drop]
  refine if_iff ?_
  unfold contsB contsB badC contB part part
  simp
  omega
theorem lead_2 (s : ByteArray) (i : Nat) (hi : i < s.size) (hv : Lib.validD s.data.toList = Lib.validD (s.data.toList.drop i)) (h1 : 224 ≤ dB s i 0) (h2 : dB s i 0 ≤ 239) : Lead s i 2 224 2048 := by
  unfold Lead
  rw [hv, valid_2 _ (drop_ne s i hi) _ (dB_drop s i 0) h1 h2, dB_drop, dB_drop, drop_len, List.drop_drop]
  refine if_iff ?_
  unfold contsB contsB contsB part part part
  simp only [Bool.and_eq_true, true_and]
  constructor
  · rintro ⟨a, b, c, d⟩; exact ⟨by omega, ⟨b, c⟩, d⟩
  · rintro ⟨a, ⟨b, c⟩, d⟩; exact ⟨by omega, b, c, d⟩
theorem lead_3 (s : ByteArray) (i : Nat) (hi : i < s.size) (hv : Lib.validD s.data.toList = Lib.validD (s.data.toList.drop i)) (h1 : 240 ≤ dB s i 0) (h2 : dB s i 0 ≤ 244) : Lead s i 3 240 65536 := by
  unfold Lead
  rw [hv, valid_3 _ (drop_ne s i hi) _ (dB_drop s i 0) h1 h2, dB_drop, dB_drop, dB_drop, drop_len, List.drop_drop]
  refine if_iff ?_
  unfold contsB contsB contsB contsB part part part part
  simp only [Bool.and_eq_true, true_and]
  constructor
  · rintro ⟨a, b, c, d, e⟩; exact ⟨by omega, ⟨⟨b, c⟩, d⟩, e⟩
  · rintro ⟨a, ⟨⟨b, c⟩, d⟩, e⟩; exact ⟨by omega, b, c, d, e⟩

/-- What the inner loop knows. -/
def KInv (s : ByteArray) (i n base : Nat) (vc vk : Value) : Prop :=
  ∃ k p : Nat, 1 ≤ k ∧ k ≤ n + 1 ∧ vk = .int .i64 k ∧ vc = .int .i64 p ∧ p = part s i base (k - 1) ∧ p < 10000000 ∧ contsB s i (k - 1) = true

end Go.Proofs.YtdjaofbjmnmlbaaDoor

/- The document's Utf8, for every text: it says what utf8.ValidString says. Conditions: texts of at most a million bytes. -/
namespace Go.Proofs.YtdjaofbjmnmlbaaDoor
open Go.RowKit

set_option maxHeartbeats 16000000 in
set_option maxRecDepth 100000 in
theorem utf8_any (s : ByteArray) (hs : s.size ≤ 1000000) (w : World) :
    Calls Tryd.prog 123 #[.string s] w fun e w' => e = .returned (.bool (Lib.validD s.data.toList)) ∧ w = w' := by
  go_enter Tryd.func123, Tryd.ntmps123
  go_wp2
  go_loop [3] (fun vi => OInv s vi) (fun vi => s.size - (intOf vi).toNat)
  case atStart => exact ⟨0, Nat.zero_le _, rfl, rfl⟩
  case round =>
    obtain ⟨i, hi, rfl, hv⟩ := hrel
    by_cases hlt : i < s.size
    · have hd0 := dB_s s i 0 (by omega)
      simp only [Nat.add_zero] at hd0
      by_cases c1 : s[i].toNat < 128
      · have HV : Hid (Lib.validD s.data.toList = Lib.validD (s.data.toList.drop (i + 1))) := by
          have e := Lib.validD_cons s[i] (s.data.toList.drop (i + 1)) c1
          rw [hv, ← e, List.drop_eq_getElem_cons (show i < s.data.toList.length from hlt)]
          rfl
        clear hd0 hv
        go_wp2
        go_round
        case rel => exact ⟨i + 1, by omega, by go_num, HV.out⟩
        case measure => simp [intOf]; omega
      · have hsel : (194 ≤ s[i].toNat ∧ s[i].toNat ≤ 223) ∨ (224 ≤ s[i].toNat ∧ s[i].toNat ≤ 239) ∨ (240 ≤ s[i].toNat ∧ s[i].toNat ≤ 244) ∨ (s[i].toNat < 194 ∨ 244 < s[i].toNat) := by omega
        rcases hsel with ⟨h1, h2⟩ | ⟨h1, h2⟩ | ⟨h1, h2⟩ | hno
        · have HL := hid (lead_1 s i hlt hv (by omega) (by omega))
          have HP0 : Hid (part s i 192 0 = s[i].toNat - 192) := by unfold Hid part; rw [hd0]
          have HP32 : Hid (part s i 192 0 < 32) := by have := HP0.out; unfold Hid; omega
          have hq : (s[i].toNat : Int) - 192 = ((s[i].toNat - 192 : Nat) : Int) := by omega
          obtain ⟨p0, hp0⟩ : ∃ p0, s[i].toNat - 192 = p0 := ⟨_, rfl⟩
          rw [hp0] at HP0 hq
          have hp32 : p0 < 32 := by omega
          clear hd0 hv hp0
          by_cases hlen : i + 1 < s.size
          · have hge : ¬ ((s.size : Int) ≤ (i : Int) + 1) := by omega
            go_wp2
            go_loop [4, 7, 8] (fun vc vk _ => KInv s i 1 192 vc vk) (fun _ vk _ => 2 - (intOf vk).toNat)
            case atStart => exact ⟨1, p0, by omega, by omega, rfl, rfl, HP0.out.symm, by omega, rfl⟩
            case round =>
              obtain ⟨k, p, hk1, hk2, rfl, rfl, hp, hpb, hcs⟩ := hrel
              have HPP := hid hp
              have HCS := hid hcs
              clear hp hcs hq
              by_cases hkn : k ≤ 1
              · have hdk := hid (dB_s s i k (by omega))
                have hix : i + k < s.size := by omega
                obtain ⟨d, hd⟩ : ∃ d, s[i + k].toNat = d := ⟨_, rfl⟩
                have hat : (Instr.index 9 (.string s) (.int .i64 ((i : Int) + (k : Int)))).run Tryd.prog w = .ok (.int .u8 (d : Int)) w := by
                  have := string_at s (i + k) hix w
                  rw [hd] at this
                  rw [← this]
                  simp
                rw [hd] at hdk
                have hd256 : d < 256 := by rw [← hd]; exact s[i + k].toNat_lt
                clear hd
                by_cases hcb : 128 ≤ d ∧ d ≤ 191
                · obtain ⟨e1, e2⟩ := hcb
                  have HN := hid (part_next hk1 HPP.out HCS.out hdk.out e1 e2)
                  have HLT := hid (part_small s i 192 HP32.out k (by omega) HN.out.2)
                  go_wp2
                  go_round
                  case rel => exact ⟨k + 1, p * 64 + d - 128, by omega, by omega, by go_num, by go_num, HN.out.1.symm, by rw [← HN.out.1]; exact HLT.out, HN.out.2⟩
                  case measure => simp [intOf]; omega
                · have HF : Hid (Lib.validD s.data.toList = false) := by
                    have h1 := HL.out
                    unfold Lead at h1
                    rw [if_neg] at h1
                    · exact h1
                    · rintro ⟨_, h2, _⟩
                      rw [contsB_bad s i 1 k hk1 hkn (by rw [hdk.out]; unfold contB; simp; omega)] at h2
                      cases h2
                  go_wp2
                  all_goals first | (exfalso; omega) | skip
                  all_goals go_ret
                  all_goals exact ⟨ret_bool HF.out.symm, rfl⟩
              · obtain rfl : k = 2 := by omega
                have hp : p = part s i 192 1 := HPP.out
                have hcs : contsB s i 1 = true := HCS.out
                cases hbad : badC p 128
                · have HV : Hid (Lib.validD s.data.toList = Lib.validD (s.data.toList.drop (i + 2))) := by
                    have h1 := HL.out
                    unfold Lead at h1
                    rw [if_pos ⟨hlen, hcs, by rw [← hp]; exact hbad⟩] at h1
                    exact h1
                  have hb1 : 128 ≤ p ∧ p ≤ 1114111 ∧ ¬ (55296 ≤ p ∧ p ≤ 57343) := by
                    unfold badC at hbad
                    simp at hbad
                    omega
                  obtain ⟨b1, b2, b3⟩ := hb1
                  clear hp hcs hbad HPP HCS
                  go_wp2
                  all_goals first | (exfalso; omega) | skip
                  all_goals
                    go_round
                    case rel => exact ⟨i + 2, by omega, by go_num, HV.out⟩
                    case measure => simp [intOf]; omega
                · have HF : Hid (Lib.validD s.data.toList = false) := by
                    have h1 := HL.out
                    unfold Lead at h1
                    rw [if_neg] at h1
                    · exact h1
                    · rintro ⟨_, _, h2⟩
                      rw [← hp, hbad] at h2
                      cases h2
                  have hb1 : p < 128 ∨ 1114111 < p ∨ (55296 ≤ p ∧ p ≤ 57343) := by
                    unfold badC at hbad
                    simp at hbad
                    omega
                  clear hp hcs hbad HPP HCS
                  go_wp2
                  all_goals first | (exfalso; omega) | skip
                  all_goals go_ret
                  all_goals exact ⟨ret_bool HF.out.symm, rfl⟩
          · have HF : Hid (Lib.validD s.data.toList = false) := by
              have h1 := HL.out
              unfold Lead at h1
              rw [if_neg (fun h => hlen h.1)] at h1
              exact h1
            go_wp2
            all_goals first | (exfalso; omega) | skip
            all_goals go_ret
            all_goals exact ⟨ret_bool HF.out.symm, rfl⟩
        · have HL := hid (lead_2 s i hlt hv (by omega) (by omega))
          have HP0 : Hid (part s i 224 0 = s[i].toNat - 224) := by unfold Hid part; rw [hd0]
          have HP32 : Hid (part s i 224 0 < 32) := by have := HP0.out; unfold Hid; omega
          have hq : (s[i].toNat : Int) - 224 = ((s[i].toNat - 224 : Nat) : Int) := by omega
          obtain ⟨p0, hp0⟩ : ∃ p0, s[i].toNat - 224 = p0 := ⟨_, rfl⟩
          rw [hp0] at HP0 hq
          have hp32 : p0 < 32 := by omega
          clear hd0 hv hp0
          by_cases hlen : i + 2 < s.size
          · have hge : ¬ ((s.size : Int) ≤ (i : Int) + 2) := by omega
            go_wp2
            go_loop [4, 7, 8] (fun vc vk _ => KInv s i 2 224 vc vk) (fun _ vk _ => 3 - (intOf vk).toNat)
            case atStart => exact ⟨1, p0, by omega, by omega, rfl, rfl, HP0.out.symm, by omega, rfl⟩
            case round =>
              obtain ⟨k, p, hk1, hk2, rfl, rfl, hp, hpb, hcs⟩ := hrel
              have HPP := hid hp
              have HCS := hid hcs
              clear hp hcs hq
              by_cases hkn : k ≤ 2
              · have hdk := hid (dB_s s i k (by omega))
                have hix : i + k < s.size := by omega
                obtain ⟨d, hd⟩ : ∃ d, s[i + k].toNat = d := ⟨_, rfl⟩
                have hat : (Instr.index 9 (.string s) (.int .i64 ((i : Int) + (k : Int)))).run Tryd.prog w = .ok (.int .u8 (d : Int)) w := by
                  have := string_at s (i + k) hix w
                  rw [hd] at this
                  rw [← this]
                  simp
                rw [hd] at hdk
                have hd256 : d < 256 := by rw [← hd]; exact s[i + k].toNat_lt
                clear hd
                by_cases hcb : 128 ≤ d ∧ d ≤ 191
                · obtain ⟨e1, e2⟩ := hcb
                  have HN := hid (part_next hk1 HPP.out HCS.out hdk.out e1 e2)
                  have HLT := hid (part_small s i 224 HP32.out k (by omega) HN.out.2)
                  go_wp2
                  go_round
                  case rel => exact ⟨k + 1, p * 64 + d - 128, by omega, by omega, by go_num, by go_num, HN.out.1.symm, by rw [← HN.out.1]; exact HLT.out, HN.out.2⟩
                  case measure => simp [intOf]; omega
                · have HF : Hid (Lib.validD s.data.toList = false) := by
                    have h1 := HL.out
                    unfold Lead at h1
                    rw [if_neg] at h1
                    · exact h1
                    · rintro ⟨_, h2, _⟩
                      rw [contsB_bad s i 2 k hk1 hkn (by rw [hdk.out]; unfold contB; simp; omega)] at h2
                      cases h2
                  go_wp2
                  all_goals first | (exfalso; omega) | skip
                  all_goals go_ret
                  all_goals exact ⟨ret_bool HF.out.symm, rfl⟩
              · obtain rfl : k = 3 := by omega
                have hp : p = part s i 224 2 := HPP.out
                have hcs : contsB s i 2 = true := HCS.out
                cases hbad : badC p 2048
                · have HV : Hid (Lib.validD s.data.toList = Lib.validD (s.data.toList.drop (i + 3))) := by
                    have h1 := HL.out
                    unfold Lead at h1
                    rw [if_pos ⟨hlen, hcs, by rw [← hp]; exact hbad⟩] at h1
                    exact h1
                  have hb1 : 2048 ≤ p ∧ p ≤ 1114111 ∧ ¬ (55296 ≤ p ∧ p ≤ 57343) := by
                    unfold badC at hbad
                    simp at hbad
                    omega
                  obtain ⟨b1, b2, b3⟩ := hb1
                  clear hp hcs hbad HPP HCS
                  go_wp2
                  all_goals first | (exfalso; omega) | skip
                  all_goals
                    go_round
                    case rel => exact ⟨i + 3, by omega, by go_num, HV.out⟩
                    case measure => simp [intOf]; omega
                · have HF : Hid (Lib.validD s.data.toList = false) := by
                    have h1 := HL.out
                    unfold Lead at h1
                    rw [if_neg] at h1
                    · exact h1
                    · rintro ⟨_, _, h2⟩
                      rw [← hp, hbad] at h2
                      cases h2
                  have hb1 : p < 2048 ∨ 1114111 < p ∨ (55296 ≤ p ∧ p ≤ 57343) := by
                    unfold badC at hbad
                    simp at hbad
                    omega
                  clear hp hcs hbad HPP HCS
                  go_wp2
                  all_goals first | (exfalso; omega) | skip
                  all_goals go_ret
                  all_goals exact ⟨ret_bool HF.out.symm, rfl⟩
          · have HF : Hid (Lib.validD s.data.toList = false) := by
              have h1 := HL.out
              unfold Lead at h1
              rw [if_neg (fun h => hlen h.1)] at h1
              exact h1
            go_wp2
            all_goals first | (exfalso; omega) | skip
            all_goals go_ret
            all_goals exact ⟨ret_bool HF.out.symm, rfl⟩
        · have HL := hid (lead_3 s i hlt hv (by omega) (by omega))
          have HP0 : Hid (part s i 240 0 = s[i].toNat - 240) := by unfold Hid part; rw [hd0]
          have HP32 : Hid (part s i 240 0 < 32) := by have := HP0.out; unfold Hid; omega
          have hq : (s[i].toNat : Int) - 240 = ((s[i].toNat - 240 : Nat) : Int) := by omega
          obtain ⟨p0, hp0⟩ : ∃ p0, s[i].toNat - 240 = p0 := ⟨_, rfl⟩
          rw [hp0] at HP0 hq
          have hp32 : p0 < 32 := by omega
          clear hd0 hv hp0
          by_cases hlen : i + 3 < s.size
          · have hge : ¬ ((s.size : Int) ≤ (i : Int) + 3) := by omega
            go_wp2
            go_loop [4, 7, 8] (fun vc vk _ => KInv s i 3 240 vc vk) (fun _ vk _ => 4 - (intOf vk).toNat)
            case atStart => exact ⟨1, p0, by omega, by omega, rfl, rfl, HP0.out.symm, by omega, rfl⟩
            case round =>
              obtain ⟨k, p, hk1, hk2, rfl, rfl, hp, hpb, hcs⟩ := hrel
              have HPP := hid hp
              have HCS := hid hcs
              clear hp hcs hq
              by_cases hkn : k ≤ 3
              · have hdk := hid (dB_s s i k (by omega))
                have hix : i + k < s.size := by omega
                obtain ⟨d, hd⟩ : ∃ d, s[i + k].toNat = d := ⟨_, rfl⟩
                have hat : (Instr.index 9 (.string s) (.int .i64 ((i : Int) + (k : Int)))).run Tryd.prog w = .ok (.int .u8 (d : Int)) w := by
                  have := string_at s (i + k) hix w
                  rw [hd] at this
                  rw [← this]
                  simp
                rw [hd] at hdk
                have hd256 : d < 256 := by rw [← hd]; exact s[i + k].toNat_lt
                clear hd
                by_cases hcb : 128 ≤ d ∧ d ≤ 191
                · obtain ⟨e1, e2⟩ := hcb
                  have HN := hid (part_next hk1 HPP.out HCS.out hdk.out e1 e2)
                  have HLT := hid (part_small s i 240 HP32.out k (by omega) HN.out.2)
                  go_wp2
                  go_round
                  case rel => exact ⟨k + 1, p * 64 + d - 128, by omega, by omega, by go_num, by go_num, HN.out.1.symm, by rw [← HN.out.1]; exact HLT.out, HN.out.2⟩
                  case measure => simp [intOf]; omega
                · have HF : Hid (Lib.validD s.data.toList = false) := by
                    have h1 := HL.out
                    unfold Lead at h1
                    rw [if_neg] at h1
                    · exact h1
                    · rintro ⟨_, h2, _⟩
                      rw [contsB_bad s i 3 k hk1 hkn (by rw [hdk.out]; unfold contB; simp; omega)] at h2
                      cases h2
                  go_wp2
                  all_goals first | (exfalso; omega) | skip
                  all_goals go_ret
                  all_goals exact ⟨ret_bool HF.out.symm, rfl⟩
              · obtain rfl : k = 4 := by omega
                have hp : p = part s i 240 3 := HPP.out
                have hcs : contsB s i 3 = true := HCS.out
                cases hbad : badC p 65536
                · have HV : Hid (Lib.validD s.data.toList = Lib.validD (s.data.toList.drop (i + 4))) := by
                    have h1 := HL.out
                    unfold Lead at h1
                    rw [if_pos ⟨hlen, hcs, by rw [← hp]; exact hbad⟩] at h1
                    exact h1
                  have hb1 : 65536 ≤ p ∧ p ≤ 1114111 ∧ ¬ (55296 ≤ p ∧ p ≤ 57343) := by
                    unfold badC at hbad
                    simp at hbad
                    omega
                  obtain ⟨b1, b2, b3⟩ := hb1
                  clear hp hcs hbad HPP HCS
                  go_wp2
                  all_goals first | (exfalso; omega) | skip
                  all_goals
                    go_round
                    case rel => exact ⟨i + 4, by omega, by go_num, HV.out⟩
                    case measure => simp [intOf]; omega
                · have HF : Hid (Lib.validD s.data.toList = false) := by
                    have h1 := HL.out
                    unfold Lead at h1
                    rw [if_neg] at h1
                    · exact h1
                    · rintro ⟨_, _, h2⟩
                      rw [← hp, hbad] at h2
                      cases h2
                  have hb1 : p < 65536 ∨ 1114111 < p ∨ (55296 ≤ p ∧ p ≤ 57343) := by
                    unfold badC at hbad
                    simp at hbad
                    omega
                  clear hp hcs hbad HPP HCS
                  go_wp2
                  all_goals first | (exfalso; omega) | skip
                  all_goals go_ret
                  all_goals exact ⟨ret_bool HF.out.symm, rfl⟩
          · have HF : Hid (Lib.validD s.data.toList = false) := by
              have h1 := HL.out
              unfold Lead at h1
              rw [if_neg (fun h => hlen h.1)] at h1
              exact h1
            go_wp2
            all_goals first | (exfalso; omega) | skip
            all_goals go_ret
            all_goals exact ⟨ret_bool HF.out.symm, rfl⟩
        · have HV : Hid (Lib.validD s.data.toList = false) := by
            rw [hv]
            exact valid_no _ (drop_ne s i hlt) _ (dB_drop s i 0) (by omega) (by omega)
          clear hd0 hv
          rcases hno with hno | hno
          · have n1 : ¬ (194 ≤ s[i].toNat) := by omega
            have n2 : ¬ (224 ≤ s[i].toNat) := by omega
            have n3 : ¬ (240 ≤ s[i].toNat) := by omega
            go_wp2
            go_ret
            exact ⟨ret_bool HV.out.symm, rfl⟩
          · obtain ⟨c, hc⟩ : ∃ c, s[i].toNat = c := ⟨_, rfl⟩
            have hat : (Instr.index 9 (.string s) (.int .i64 (i : Int))).run Tryd.prog w = .ok (.int .u8 (c : Int)) w := by
              rw [← hc]
              exact string_at s i hlt w
            have hc256 : c < 256 := by rw [← hc]; exact s[i].toNat_lt
            rw [hc] at hno c1
            clear hc
            have m0 : decide (c < 128) = false := decide_eq_false (by omega)
            have n1 : decide (194 ≤ c) = true := decide_eq_true (by omega)
            have n2 : decide (224 ≤ c) = true := decide_eq_true (by omega)
            have n3 : decide (240 ≤ c) = true := decide_eq_true (by omega)
            have m1 : decide (c ≤ 223) = false := decide_eq_false (by omega)
            have m2 : decide (c ≤ 239) = false := decide_eq_false (by omega)
            have m3 : decide (c ≤ 244) = false := decide_eq_false (by omega)
            have HNO := hid hno
            clear hno c1 m0 n1 n2 n3 m1 m2 m3
            go_wp2
            all_goals first | (exfalso; have := HNO.out; omega) | skip
            all_goals go_ret
            all_goals exact ⟨ret_bool HV.out.symm, rfl⟩
    · obtain rfl : i = s.size := by omega
      have HV : Hid (Lib.validD s.data.toList = true) := by
        rw [hv, List.drop_of_length_le (by simp)]
        rfl
      clear hv
      go_wp2
      go_ret
      exact ⟨ret_bool HV.out.symm, rfl⟩

end Go.Proofs.YtdjaofbjmnmlbaaDoor

/- The document's size and Right (package joistref01), for every int. Conditions: ints of 64 bits. -/
namespace Go.Proofs.YtdjaofbjmnmlbaaDoor
open Go.RowKit

theorem clear_sign (n : Int) : bits .andNot .i64 n (-9223372036854775808) = n % 9223372036854775808 := by
  have e1 : (~~~ BitVec.ofInt 64 (-9223372036854775808)).toNat = 2 ^ 63 - 1 := by decide
  show IntKind.i64.wrap (((BitVec.ofInt 64 n) &&& ~~~(BitVec.ofInt 64 (-9223372036854775808))).toNat : Nat) = _
  rw [BitVec.toNat_and, ofInt64, e1, Nat.and_two_pow_sub_one_eq_mod, IntKind.wrap_i64]
  unfold wd
  omega

set_option maxHeartbeats 400000 in
theorem size_any (n : Int) (w : World) :
    Calls Tryd.prog 155 #[.int .i64 n] w fun e w' => e = .returned (.int .i64 (n % 9223372036854775808)) ∧ w = w' := by
  have hx := clear_sign n
  rw [← hx]
  clear hx
  go_enter Tryd.func155, Tryd.ntmps155
  go_wp2
  go_ret
  exact ⟨rfl, rfl⟩

set_option maxHeartbeats 400000 in
theorem refRight_any (n : Int) (w : World) :
    Calls Tryd.prog 124 #[.int .i64 n] w fun e w' => e = .returned (.bool (rightB n)) ∧ w = w' := by
  have HS : Hid (∀ W, Calls Tryd.prog 155 #[.int .i64 n] W fun e w' => e = .returned (.int .i64 (n % 9223372036854775808)) ∧ W = w') := fun W => size_any n W
  have HR : Hid (rightB n = (!nanB n || (n == 9221120237041090560))) := hid (by unfold rightB; exact Bool.or_comm _ _)
  have hb : decide (n % 9223372036854775808 ≤ 9218868437227405312) = !nanB n := by unfold nanB; rw [Bool.eq_iff_iff]; simp
  obtain ⟨s, hs⟩ : ∃ s, n % 9223372036854775808 = s := ⟨_, rfl⟩
  rw [hs] at HS hb
  clear hs
  cases hn : nanB n
  · rw [hn] at HR hb
    have hb' : s ≤ 9218868437227405312 := of_decide_eq_true hb
    clear hb hn
    have HR2 : Hid (rightB n = true) := hid (by rw [HR.out]; rfl)
    clear HR
    go_enter Tryd.func124, Tryd.ntmps124
    go_wp2_with (go_at_call 155; refine (HS.out _).mono ?_; rintro e w' ⟨rfl, rfl⟩)
    go_ret
    rw [HR2.out]
    exact ⟨rfl, rfl⟩
  · rw [hn] at HR hb
    have hb' : decide (s ≤ 9218868437227405312) = false := hb
    clear hb hn
    have HR2 : Hid (rightB n = (n == 9221120237041090560)) := hid (by rw [HR.out]; rfl)
    clear HR
    go_enter Tryd.func124, Tryd.ntmps124
    go_wp2_with (go_at_call 155; refine (HS.out _).mono ?_; rintro e w' ⟨rfl, rfl⟩)
    go_ret
    rw [HR2.out]
    exact ⟨rfl, rfl⟩

end Go.Proofs.YtdjaofbjmnmlbaaDoor

/- The document's Right, for every value with a text of at most a thousand bytes. Conditions: the length alone. -/
namespace Go.Proofs.YtdjaofbjmnmlbaaDoor
open Go.RowKit

set_option maxHeartbeats 400000 in
theorem refright_1 (n : Int) (s : ByteArray) (w : World) :
    Calls Tryd.prog 76 #[.agg #[.int .i64 1, .int .i64 n, .string s]] w fun e w' => e = .returned (.bool s.toList.isEmpty) ∧ Below w.heap.size w w' := by
  go_enter Tryd.func76, Tryd.ntmps76
  go_wp2
  go_ret
  exact ⟨rfl, below_new _ _⟩

set_option maxHeartbeats 400000 in
theorem refright_2 (n : Int) (s : ByteArray) (w : World) (_ : s.size ≤ 4000) :
    Calls Tryd.prog 76 #[.agg #[.int .i64 2, .int .i64 n, .string s]] w fun e w' => e = .returned (.bool (n == 0 && decide (s.size ≤ 32))) ∧ Below w.heap.size w w' := by
  go_enter Tryd.func76, Tryd.ntmps76
  go_wp2
  all_goals go_ret
  · rename_i h
    exact ⟨ret_bool (show decide ((s.size : Int) ≤ 32) = _ by rw [h]; simp; omega), below_new _ _⟩
  · rename_i h
    exact ⟨ret_bool (show false = _ by simp [h]), below_new _ _⟩

set_option maxHeartbeats 400000 in
theorem refright_3 (n : Int) (s : ByteArray) (w : World) (hs : s.size ≤ 4000)  :
    Calls Tryd.prog 76 #[.agg #[.int .i64 3, .int .i64 n, .string s]] w fun e w' => e = .returned (.bool (n == 0 && decide (s.size ≤ 32) && Lib.validD s.data.toList)) ∧ Below w.heap.size w w' := by
  obtain ⟨R, hR⟩ : ∃ R, (n == 0 && decide (s.size ≤ 32) && Lib.validD s.data.toList) = R := ⟨_, rfl⟩
  rw [hR]
  have HV : Hid (∀ W, Calls Tryd.prog 123 #[.string s] W fun e w' => e = .returned (.bool (Lib.validD s.data.toList)) ∧ W = w') := fun W => utf8_any s (by omega) W
  generalize Lib.validD s.data.toList = V at *
  have HR := hid hR
  clear hR
  go_enter Tryd.func76, Tryd.ntmps76
  go_wp2_with (go_at_call 123; refine (HV.out _).mono ?_; rintro e w1 ⟨rfl, rfl⟩)
  all_goals go_ret
  · rename_i h1 h2
    exact ⟨ret_bool (show V = R by rw [← HR.out, h1]; simp; omega), below_new _ _⟩
  · rename_i h1 h2
    exact ⟨ret_bool (show false = R by rw [← HR.out, h1]; simp; omega), below_new _ _⟩
  · rename_i h1
    exact ⟨ret_bool (show false = R by rw [← HR.out]; simp [h1]), below_new _ _⟩

set_option maxHeartbeats 400000 in
theorem refright_4 (n : Int) (s : ByteArray) (w : World) :
    Calls Tryd.prog 76 #[.agg #[.int .i64 4, .int .i64 n, .string s]] w fun e w' => e = .returned (.bool (s.toList.isEmpty && (n == 0 || n == 1))) ∧ Below w.heap.size w w' := by
  obtain ⟨R, hR⟩ : ∃ R, (s.toList.isEmpty && (n == 0 || n == 1)) = R := ⟨_, rfl⟩
  rw [hR]
  have HR := hid hR
  clear hR
  go_enter Tryd.func76, Tryd.ntmps76
  go_wp2
  all_goals go_ret
  · rename_i h1 h2
    exact ⟨ret_bool (show true = R by rw [← HR.out, h1, h2]; rfl), below_new _ _⟩
  · rename_i h1 h2
    exact ⟨ret_bool (show (n == 0 || n == 1) = R by rw [← HR.out, h1]; rfl), below_new _ _⟩
  · rename_i h1
    exact ⟨ret_bool (show false = R by rw [← HR.out]; simp [h1]), below_new _ _⟩

set_option maxHeartbeats 400000 in
theorem refright_5 (n : Int) (s : ByteArray) (w : World) :
    Calls Tryd.prog 76 #[.agg #[.int .i64 5, .int .i64 n, .string s]] w fun e w' => e = .returned (.bool (s.toList.isEmpty && rightB n)) ∧ Below w.heap.size w w' := by
  obtain ⟨R, hR⟩ : ∃ R, (s.toList.isEmpty && rightB n) = R := ⟨_, rfl⟩
  rw [hR]
  have HV : Hid (∀ W, Calls Tryd.prog 124 #[.int .i64 n] W fun e w' => e = .returned (.bool (rightB n)) ∧ W = w') := fun W => refRight_any n W
  generalize rightB n = V at *
  have HR := hid hR
  clear hR
  go_enter Tryd.func76, Tryd.ntmps76
  go_wp2_with (go_at_call 124; refine (HV.out _).mono ?_; rintro e w1 ⟨rfl, rfl⟩)
  all_goals go_ret
  · rename_i h1
    exact ⟨ret_bool (show V = R by rw [← HR.out, h1]; rfl), below_new _ _⟩
  · rename_i h1
    exact ⟨ret_bool (show false = R by rw [← HR.out]; simp [h1]), below_new _ _⟩

set_option maxHeartbeats 400000 in
theorem refright_0 (k n : Int) (s : ByteArray) (h1 : (k == 1) = false) (h2 : (k == 2) = false) (h3 : (k == 3) = false) (h4 : (k == 4) = false) (h5 : (k == 5) = false) (w : World) :
    Calls Tryd.prog 76 #[.agg #[.int .i64 k, .int .i64 n, .string s]] w fun e w' => e = .returned (.bool false) ∧ Below w.heap.size w w' := by
  go_enter Tryd.func76, Tryd.ntmps76
  go_wp2
  go_ret
  exact ⟨rfl, below_new _ _⟩

/-- The document's Right, for every value with a text of at most a thousand bytes. -/
theorem refright_any (k n : Int) (s : ByteArray) (w : World) (hs : s.size ≤ 4000)  :
    Calls Tryd.prog 76 #[.agg #[.int .i64 k, .int .i64 n, .string s]] w fun e w' => e = .returned (.bool (vRight k n s.data.toList)) ∧ Below w.heap.size w w' := by
  have hsz : s.data.toList.length = s.size := rfl
  unfold vRight
  rw [hsz, ← toList_eq]
  by_cases h1 : k = 1
  · subst h1; exact refright_1 n s w
  rw [if_neg h1]
  by_cases h2 : k = 2
  · subst h2; exact refright_2 n s w hs
  rw [if_neg h2]
  by_cases h3 : k = 3
  · subst h3; rw [toList_eq]; exact refright_3 n s w  hs
  rw [if_neg h3]
  by_cases h4 : k = 4
  · subst h4; exact refright_4 n s w
  rw [if_neg h4]
  by_cases h5 : k = 5
  · subst h5; exact refright_5 n s w
  rw [if_neg h5]
  exact refright_0 k n s (by simpa using h1) (by simpa using h2) (by simpa using h3) (by simpa using h4) (by simpa using h5) w

end Go.Proofs.YtdjaofbjmnmlbaaDoor

/- The document's Name and Right of layer 3 at every text and cell. Conditions: the value's text of at most a thousand bytes. -/
namespace Go.Proofs.YtdjaofbjmnmlbaaDoor
open Go.RowKit

set_option maxRecDepth 100000 in
set_option maxHeartbeats 2000000 in
theorem refName_any (s : ByteArray) (hs : s.size ≤ 9223372036854775807) (w : World) :
    Calls Tryd.prog 75 #[.string s] w fun e w' => e = .returned (.bool (nameB s.data.toList)) ∧ w' = w := by
  go_enter Tryd.func75, Tryd.ntmps75
  go_wp2
  go_loopw [3] (fun vi wr => ∃ i : Nat, i ≤ s.size ∧ vi = .int .i64 i ∧ wr = w ∧ Hid ((s.data.toList.take i).all nmB = true)) (fun vi _ => s.size - (intOf vi).toNat)
  case atStart => exact ⟨0, Nat.zero_le _, rfl, rfl, rfl⟩
  case round =>
    obtain ⟨i, hi, rfl, rfl, HA⟩ := hrel
    by_cases hlt : i < s.size
    · have hll : i < s.data.toList.length := hlt
      have HT : Hid ((s.data.toList.take (i + 1)).all nmB = nmB s[i]) := by
        unfold Hid
        rw [all_take_next _ i hll, HA.out, Bool.true_and, getD_str' s i hlt]
      have HF : Hid (nmB s[i] = false → nameB s.data.toList = false) := by
        intro h
        unfold nameB
        rw [all_take_false s.data.toList i hll (by rw [getD_str' s i hlt]; exact h), Bool.false_and]
      by_cases hn : nmB s[i] = true
      · have HN := hid hn
        unfold nmB at hn
        simp only [Bool.or_eq_true, Bool.and_eq_true, decide_eq_true_eq] at hn
        rcases hn with ⟨a1, a2⟩ | ⟨a1, a2⟩
        · have b1 : (97 : Int) ≤ (s[i].toNat : Int) := by omega
          have b2 : (s[i].toNat : Int) ≤ 122 := by omega
          clear a1 a2
          go_wp2
          go_roundw
          case rel => exact ⟨i + 1, by omega, by go_num, trivial, by unfold Hid; rw [HT.out]; exact HN.out⟩
          case measure => simp [intOf]; omega
        · have b1 : (48 : Int) ≤ (s[i].toNat : Int) := by omega
          have b2 : (s[i].toNat : Int) ≤ 57 := by omega
          have b3 : ¬ (97 : Int) ≤ (s[i].toNat : Int) := by omega
          clear a1 a2
          go_wp2
          go_roundw
          case rel => exact ⟨i + 1, by omega, by go_num, trivial, by unfold Hid; rw [HT.out]; exact HN.out⟩
          case measure => simp [intOf]; omega
      · have HN : Hid (nmB s[i] = false) := by unfold Hid; simpa using hn
        have hn := HN.out
        unfold nmB at hn
        have hc : (s[i].toNat < 48) ∨ (57 < s[i].toNat ∧ s[i].toNat < 97) ∨ 122 < s[i].toNat := by
          simp only [Bool.or_eq_false_iff, Bool.and_eq_false_iff, decide_eq_false_iff_not] at hn
          omega
        clear hn
        rcases hc with h | ⟨h, h'⟩ | h
        · have b1 : ¬ (97 : Int) ≤ (s[i].toNat : Int) := by omega
          have b2 : ¬ (48 : Int) ≤ (s[i].toNat : Int) := by omega
          go_wp2
          go_ret
          rw [HF.out HN.out]
          exact ⟨rfl, rfl⟩
        · have b1 : ¬ (97 : Int) ≤ (s[i].toNat : Int) := by omega
          have b2 : (48 : Int) ≤ (s[i].toNat : Int) := by omega
          have b3 : ¬ (s[i].toNat : Int) ≤ 57 := by omega
          go_wp2
          go_ret
          rw [HF.out HN.out]
          exact ⟨rfl, rfl⟩
        · have b1 : (97 : Int) ≤ (s[i].toNat : Int) := by omega
          have b2 : ¬ (s[i].toNat : Int) ≤ 122 := by omega
          have b3 : (48 : Int) ≤ (s[i].toNat : Int) := by omega
          have b4 : ¬ (s[i].toNat : Int) ≤ 57 := by omega
          go_wp2
          go_ret
          rw [HF.out HN.out]
          exact ⟨rfl, rfl⟩
    · have HE : Hid (nameB s.data.toList = (decide (1 ≤ s.size) && decide (s.size ≤ 8))) := by
        have h := HA.out
        rw [List.take_of_length_le (show s.data.toList.length ≤ i by show s.size ≤ i; omega)] at h
        unfold Hid nameB
        rw [h, Bool.true_and]
        rfl
      go_wp2
      all_goals go_ret
      all_goals rw [HE.out]
      · rename_i h
        exact ⟨ret_bool (show decide ((s.size : Int) ≤ 8) = _ by rw [decide_eq_true (show 1 ≤ s.size by omega), Bool.true_and]; exact decide_eq_decide.2 (by omega)), rfl⟩
      · rename_i h
        exact ⟨ret_bool (show false = _ by rw [decide_eq_false (show ¬ 1 ≤ s.size by omega)]; rfl), rfl⟩

set_option maxRecDepth 100000 in
set_option maxHeartbeats 4000000 in
/-- Something ahead of the kind is wrong. -/
theorem refcright_head (r f q vs : ByteArray) (t k vk vn : Int) (nf : Bool) (h : (r.size < 1 ∨ 16 < r.size) ∨ (¬ (r.size < 1 ∨ 16 < r.size) ∧ (nf = false ∨ (nf = true ∧ (12 < q.size ∨ (q.size ≤ 12 ∧ (t < 0 ∨ (0 ≤ t ∧ 1099511627776 < t)))))))) (w : World)
    (HN : ∀ W, Calls Tryd.prog 75 #[.string f] W fun e w' => e = .returned (.bool nf) ∧ w' = W) :
    Calls Tryd.prog 26 #[cellV r f q t k vk vn vs] w fun e w' => e = .returned (.bool false) ∧ Below w.heap.size w w' := by
  have HN := hid HN
  rcases h with (h | h) | ⟨h0, rfl | ⟨rfl, h | ⟨h1, h | ⟨h2, h3⟩⟩⟩⟩
  all_goals
    go_enter Tryd.func26, Tryd.ntmps26
    go_wp2_with (go_at_call 75; refine (HN.out _).mono ?_; rintro e w1 ⟨rfl, rfl⟩)
    all_goals go_ret
    all_goals exact ⟨rfl, below_new _ _⟩

set_option maxRecDepth 100000 in
set_option maxHeartbeats 4000000 in
/-- A put. -/
theorem refcright_put (r f q vs : ByteArray) (t vk vn : Int) (vr : Bool) (h1 : 1 ≤ r.size) (h2 : r.size ≤ 16) (h3 : q.size ≤ 12) (h4 : 0 ≤ t) (h5 : t ≤ 1099511627776) (w : World)
    (HN : ∀ W, Calls Tryd.prog 75 #[.string f] W fun e w' => e = .returned (.bool true) ∧ w' = W)
    (HV : ∀ W, Below w.heap.size w W → Calls Tryd.prog 76 #[.agg #[.int .i64 vk, .int .i64 vn, .string vs]] W fun e w' => e = .returned (.bool vr) ∧ Below W.heap.size W w') :
    Calls Tryd.prog 26 #[cellV r f q t 1 vk vn vs] w fun e w' => e = .returned (.bool vr) ∧ Below w.heap.size w w' := by
  have HN := hid HN
  have HV := hid HV
  have h0 : ¬ (r.size < 1 ∨ 16 < r.size) := by omega
  go_enter Tryd.func26, Tryd.ntmps26
  go_wp2_with (first | (go_at_call 75; refine (HN.out _).mono ?_; rintro e w1 ⟨rfl, rfl⟩) | (go_at_call 76; refine (HV.out _ (below_new _ _)).mono ?_; rintro e w1 ⟨rfl, hb⟩))
  go_ret
  exact ⟨rfl, (below_new _ _).trans (hb.mono (below_new _ _).size)⟩

set_option maxRecDepth 100000 in
set_option maxHeartbeats 8000000 in
/-- A cell or a column is gone. -/
theorem refcright_gone (r f q vs : ByteArray) (t k vk vn : Int) (z : Bool) (h1 : 1 ≤ r.size) (h2 : r.size ≤ 16) (h3 : q.size ≤ 12) (h4 : 0 ≤ t) (h5 : t ≤ 1099511627776) (hk : k = 2 ∨ k = 3) (hv : NoneOr vk vn vs z) (w : World)
    (HN : ∀ W, Calls Tryd.prog 75 #[.string f] W fun e w' => e = .returned (.bool true) ∧ w' = W) :
    Calls Tryd.prog 26 #[cellV r f q t k vk vn vs] w fun e w' => e = .returned (.bool z) ∧ Below w.heap.size w w' := by
  have HN := hid HN
  have h0 : ¬ (r.size < 1 ∨ 16 < r.size) := by omega
  rcases hk with rfl | rfl
  all_goals rcases hv with ⟨h, q0, rfl⟩ | ⟨rfl, ⟨h, q0, rfl⟩ | ⟨rfl, ⟨h, rfl⟩ | ⟨rfl, rfl⟩⟩⟩
  all_goals
    go_enter Tryd.func26, Tryd.ntmps26
    go_wp2_with (go_at_call 75; refine (HN.out _).mono ?_; rintro e w1 ⟨rfl, rfl⟩)
    go_ret
    exact ⟨rfl, below_new _ _⟩

set_option maxRecDepth 100000 in
set_option maxHeartbeats 4000000 in
/-- No kind. -/
theorem refcright_other (r f q vs : ByteArray) (t k vk vn : Int) (h1 : 1 ≤ r.size) (h2 : r.size ≤ 16) (h3 : q.size ≤ 12) (h4 : 0 ≤ t) (h5 : t ≤ 1099511627776) (k1 : ¬ k = 1) (k2 : ¬ k = 2) (k3 : ¬ k = 3) (k4 : ¬ k = 4) (w : World)
    (HN : ∀ W, Calls Tryd.prog 75 #[.string f] W fun e w' => e = .returned (.bool true) ∧ w' = W) :
    Calls Tryd.prog 26 #[cellV r f q t k vk vn vs] w fun e w' => e = .returned (.bool false) ∧ Below w.heap.size w w' := by
  have HN := hid HN
  have h0 : ¬ (r.size < 1 ∨ 16 < r.size) := by omega
  have e1 : (k == 1) = false := by simpa using k1
  have e2 : (k == 2) = false := by simpa using k2
  have e3 : (k == 3) = false := by simpa using k3
  have e4 : (k == 4) = false := by simpa using k4
  go_enter Tryd.func26, Tryd.ntmps26
  go_wp2_with (go_at_call 75; refine (HN.out _).mono ?_; rintro e w1 ⟨rfl, rfl⟩)
  go_ret
  exact ⟨rfl, below_new _ _⟩

set_option maxRecDepth 100000 in
set_option maxHeartbeats 8000000 in
/-- A family is gone. -/
theorem refcright_fam (r f q vs : ByteArray) (t vk vn : Int) (z : Bool) (h1 : 1 ≤ r.size) (h2 : r.size ≤ 16) (h3 : q.size ≤ 12) (h4 : 0 ≤ t) (h5 : t ≤ 1099511627776) (hv : NoneOr vk vn vs z) (w : World)
    (HN : ∀ W, Calls Tryd.prog 75 #[.string f] W fun e w' => e = .returned (.bool true) ∧ w' = W) :
    Calls Tryd.prog 26 #[cellV r f q t 4 vk vn vs] w fun e w' => e = .returned (.bool (q.data.toList.isEmpty && z)) ∧ Below w.heap.size w w' := by
  have HN := hid HN
  have h0 : ¬ (r.size < 1 ∨ 16 < r.size) := by omega
  rcases hv with ⟨h, q0, rfl⟩ | ⟨rfl, ⟨h, q0, rfl⟩ | ⟨rfl, ⟨h, rfl⟩ | ⟨rfl, rfl⟩⟩⟩
  · rw [Bool.and_false]
    go_enter Tryd.func26, Tryd.ntmps26
    go_wp2_with (go_at_call 75; refine (HN.out _).mono ?_; rintro e w1 ⟨rfl, rfl⟩)
    go_ret
    exact ⟨rfl, below_new _ _⟩
  · rw [Bool.and_false]
    go_enter Tryd.func26, Tryd.ntmps26
    go_wp2_with (go_at_call 75; refine (HN.out _).mono ?_; rintro e w1 ⟨rfl, rfl⟩)
    go_ret
    exact ⟨rfl, below_new _ _⟩
  · rw [Bool.and_false]
    go_enter Tryd.func26, Tryd.ntmps26
    go_wp2_with (go_at_call 75; refine (HN.out _).mono ?_; rintro e w1 ⟨rfl, rfl⟩)
    go_ret
    exact ⟨rfl, below_new _ _⟩
  · rw [Bool.and_true]
    by_cases hq : q.data.toList = []
    · have e : q = ⟨#[]⟩ := by cases q; simp_all
      subst e
      go_enter Tryd.func26, Tryd.ntmps26
      go_wp2_with (go_at_call 75; refine (HN.out _).mono ?_; rintro e w1 ⟨rfl, rfl⟩)
      go_ret
      exact ⟨rfl, below_new _ _⟩
    · have h : ¬ q.toList = [] := by rw [toList_eq]; exact hq
      clear hq
      go_enter Tryd.func26, Tryd.ntmps26
      go_wp2_with (go_at_call 75; refine (HN.out _).mono ?_; rintro e w1 ⟨rfl, rfl⟩)
      go_ret
      rw [← toList_eq]
      exact ⟨rfl, below_new _ _⟩

theorem refcright_any (r f q vs : ByteArray) (t k vk : Int) (vn : Int) (hf : f.size ≤ 9223372036854775807) (hv : vs.size ≤ 4000) (w : World) :
    Calls Tryd.prog 26 #[cellV r f q t k vk vn vs] w fun e w' => e = .returned (.bool (cRight r.data.toList f.data.toList q.data.toList t k vk vn vs.data.toList)) ∧ Below w.heap.size w w' := by
  have HN : ∀ W, Calls Tryd.prog 75 #[.string f] W fun e w' => e = .returned (.bool (nameB f.data.toList)) ∧ w' = W := fun W => refName_any f hf W
  have HV : ∀ W, Below w.heap.size w W → Calls Tryd.prog 76 #[.agg #[.int .i64 vk, .int .i64 vn, .string vs]] W fun e w' => e = .returned (.bool (vRight vk vn vs.data.toList)) ∧ Below W.heap.size W w' := fun W _ => refright_any vk vn vs W hv
  have er : r.data.toList.length = r.size := rfl
  have eq : q.data.toList.length = q.size := rfl
  unfold cRight
  by_cases hh : cHead r.data.toList f.data.toList q.data.toList t = true
  · rw [hh, Bool.true_and]
    unfold cHead at hh
    rw [er, eq] at hh
    simp only [Bool.and_eq_true, decide_eq_true_eq] at hh
    obtain ⟨⟨h1, h2⟩, h3, h4, h5, h6⟩ := hh
    rw [h3] at HN
    unfold cTail
    by_cases k1 : k = 1
    · subst k1
      rw [if_pos rfl]
      exact refcright_put r f q vs t vk vn _ h1 h2 h4 h5 h6 w HN HV
    · rw [if_neg k1]
      by_cases k23 : k = 2 ∨ k = 3
      · rw [if_pos k23]
        exact refcright_gone r f q vs t k vk vn _ h1 h2 h4 h5 h6 k23 (noneOr vk vn vs) w HN
      · rw [if_neg k23]
        by_cases k4 : k = 4
        · subst k4
          rw [if_pos rfl]
          exact refcright_fam r f q vs t vk vn _ h1 h2 h4 h5 h6 (noneOr vk vn vs) w HN
        · rw [if_neg k4]
          exact refcright_other r f q vs t k vk vn h1 h2 h4 h5 h6 k1 (fun e => k23 (.inl e)) (fun e => k23 (.inr e)) k4 w HN
  · have hF : cHead r.data.toList f.data.toList q.data.toList t = false := by simpa using hh
    rw [hF, Bool.false_and]
    refine refcright_head r f q vs t k vk vn (nameB f.data.toList) ?_ w HN
    unfold cHead at hh
    rw [er, eq] at hh
    simp only [Bool.and_eq_true, decide_eq_true_eq] at hh
    by_cases h1 : r.size < 1 ∨ 16 < r.size
    · exact .inl h1
    · refine .inr ⟨h1, ?_⟩
      by_cases h2 : nameB f.data.toList = true
      · refine .inr ⟨h2, ?_⟩
        by_cases h3 : q.size ≤ 12
        · refine .inr ⟨h3, ?_⟩
          by_cases h4 : 0 ≤ t
          · refine .inr ⟨h4, ?_⟩
            have : ¬ t ≤ 1099511627776 := fun h5 => hh ⟨⟨by omega, by omega⟩, h2, h3, h4, h5⟩
            omega
          · exact .inl (by omega)
        · exact .inl (by omega)
      · exact .inl (by simpa using h2)
end Go.Proofs.YtdjaofbjmnmlbaaDoor

/- The document's Bytes and Show (package joistref01), for every int; and the law FloatAsks. Conditions: ints of 64 bits; the table of math/bits reads as it is laid. -/
namespace Go.Proofs.YtdjaofbjmnmlbaaDoor
open Go.RowKit

set_option maxHeartbeats 400000 in
theorem refBytes_no {n : Int} (hr : rightB n = false) (w : World) :
    Calls Tryd.prog 140 #[.int .i64 n] w fun e w' => e = .returned (.slice none 0 0) ∧ w = w' := by
  go_enter Tryd.func140, Tryd.ntmps140
  go_wp2_with (go_at_call 124; refine (refRight_any _ _).mono ?_; rintro e w' ⟨rfl, rfl⟩)
  go_ret
  exact ⟨rfl, rfl⟩

def RInv (r b : Nat) (w0 : World) (vu vi : Value) (wr : World) : Prop :=
  ∃ (j u : Nat) (i : Int) (xs : Array Value), j ≤ 8 ∧ i = 7 - j ∧ u = r / 256 ^ j ∧ vu = .int .u64 u ∧ vi = .int .i64 i ∧ Blk wr b 5 xs ∧ xs.size = 8 ∧ xs.toList.drop (8 - j) = bc (byW j r) ∧ Below b w0 wr

theorem byte_of (r j : Nat) : (((r / 256 ^ j : Nat) : Int) % 256) = ((UInt8.ofNat (r / 256 ^ j % 256)).toNat : Int) := by
  rw [UInt8.toNat_ofNat']
  have : r / 256 ^ j % 256 % 2 ^ 8 = r / 256 ^ j % 256 := Nat.mod_eq_of_lt (by omega)
  rw [this, Int.natCast_emod]
  rfl

set_option maxHeartbeats 1000000 in
theorem refBytes_core {n : Int} (hr : rightB n = true) (r : Nat) (hr64 : r < 18446744073709551616)
    (hsel : (n < 0 ∧ bits .xor .u64 IntKind.u64.max (IntKind.u64.wrap n) = (r : Int)) ∨ (¬ n < 0 ∧ IntKind.u64.wrap (IntKind.u64.wrap n + 9223372036854775808) = (r : Int))) (w : World) :
    Calls Tryd.prog 140 #[.int .i64 n] w fun e w' => e = .returned (.slice (some ⟨w.heap.size, 0, none⟩) 8 8) ∧ Blk w' w.heap.size 5 (bc (byW 8 r)).toArray ∧ Below w.heap.size w w' := by
  have hmk : ∀ W, (Instr.makeSlice 22 (.int .i64 8) (.int .i64 8)).run Tryd.prog W = .ok (.slice (some ⟨W.heap.size, 0, none⟩) 8 8) (W.alloc (.cells #[.int .u8 0, .int .u8 0, .int .u8 0, .int .u8 0, .int .u8 0, .int .u8 0, .int .u8 0, .int .u8 0] 5)) := fun _ => by kernel_rfl
  have HRt : Hid (∀ W, Calls Tryd.prog 124 #[.int .i64 n] W fun e w' => e = .returned (.bool true) ∧ W = w') := fun W => by rw [← hr]; exact refRight_any n W
  have HR := hid hr64
  clear hr64 hr
  rcases hsel with ⟨hn, hx⟩ | ⟨hn, hx⟩ <;>
  · go_enter Tryd.func140, Tryd.ntmps140
    go_wp2_with (go_at_call 124; refine (HRt.out _).mono ?_; rintro e w' ⟨rfl, rfl⟩)
    go_loopw [3, 5] (fun vu vi wr => RInv r w.heap.size w vu vi wr) (fun _ vi _ => (intOf vi + 1).toNat)
    case atStart => exact ⟨0, r, 7, _, by omega, rfl, by simp, rfl, rfl, Blk.new _ _ _, rfl, rfl, (Below.refl _ _).alloc (Nat.le_refl _) _⟩
    case round =>
      obtain ⟨j, u, i, xs, hj, hi, hu, rfl, rfl, hB, hs, hdrop, hbel⟩ := hrel
      clear hmk hn hx
      have hu64 : u < 18446744073709551616 := by rw [hu]; exact Nat.lt_of_le_of_lt (Nat.div_le_self _ _) HR.out
      have HB := hid hB
      have HS := hid hs
      have HD := hid hdrop
      have HU := hid hu
      by_cases hlt : j < 8
      · obtain ⟨k, rfl⟩ : ∃ k : Nat, i = k := ⟨7 - j, by omega⟩
        have hk : k ≤ 7 := by omega
        have HJ : Hid (k + j = 7) := hid (by omega)
        obtain ⟨v0, hcell⟩ : ∃ v, wr.cell? ⟨w.heap.size, k, none⟩ = some v := ⟨xs[k]'(by omega), by rw [hB.cell, Array.getElem?_eq_getElem]⟩
        have hfree := hB.free k
        clear hB hs hdrop hu hi hlt
        go_wp2
        go_roundw
        case rel =>
          have hjk := HJ.out
          refine ⟨j + 1, u / 256, (k : Int) - 1, xs.setIfInBounds k (Value.int .u8 ((UInt8.ofNat (r / 256 ^ j % 256)).toNat : Int)), by omega, by omega, ?_, by go_num, rfl, ?_, by rw [Array.size_setIfInBounds]; exact HS.out, ?_, hbel.setCell (Nat.le_refl _) _⟩
          · rw [HU.out, Nat.div_div_eq_div_mul, Nat.pow_succ]
          · rw [← byte_of, ← HU.out]
            exact HB.out.set k _
          · rw [show 8 - (j + 1) = k by omega]
            exact drop_set8 HS.out hk (by rw [show k + 1 = 8 - j by omega]; exact HD.out)
        case measure => simp [intOf]
      · obtain rfl : j = 8 := by omega
        obtain rfl : i = -1 := by omega
        have HD2 : Hid (Blk wr w.heap.size 5 (bc (byW 8 r)).toArray) := by
          have e : xs.toList = bc (byW 8 r) := hdrop
          rw [← e]
          exact hB
        clear hB hs hdrop hu
        go_wp2
        go_ret
        exact ⟨rfl, HD2.out, hbel⟩

theorem refBytes_yes {n : Int} (h : inI n) (hr : rightB n = true) (w : World) :
    Calls Tryd.prog 140 #[.int .i64 n] w fun e w' => e = .returned (.slice (some ⟨w.heap.size, 0, none⟩) 8 8) ∧ Blk w' w.heap.size 5 (bc (byW 8 (rankI n).toNat)).toArray ∧ Below w.heap.size w w' := by
  obtain ⟨r0, r1⟩ := rank_in h
  refine refBytes_core hr (rankI n).toNat (by omega) ?_ w
  rw [Int.toNat_of_nonneg r0]
  by_cases hn : n < 0
  · exact Or.inl ⟨hn, turned h hn⟩
  · refine Or.inr ⟨hn, ?_⟩
    rw [IntKind.wrap_u64, IntKind.wrap_u64]
    unfold rankI inI at *
    rw [if_neg hn]
    omega

end Go.Proofs.YtdjaofbjmnmlbaaDoor

/- The document's Eight, for every number of 64 bits. Conditions: none. -/
namespace Go.Proofs.YtdjaofbjmnmlbaaDoor
open Go.RowKit

set_option maxHeartbeats 1000000 in
theorem eight_any (r : Nat) (hr64 : r < 18446744073709551616) (w : World) :
    Calls Tryd.prog 139 #[.int .u64 (r : Int)] w fun e w' => e = .returned (.slice (some ⟨w.heap.size, 0, none⟩) 8 8) ∧ Blk w' w.heap.size 5 (bc (byW 8 r)).toArray ∧ Below w.heap.size w w' := by
  have hmk : ∀ W, (Instr.makeSlice 22 (.int .i64 8) (.int .i64 8)).run Tryd.prog W = .ok (.slice (some ⟨W.heap.size, 0, none⟩) 8 8) (W.alloc (.cells #[.int .u8 0, .int .u8 0, .int .u8 0, .int .u8 0, .int .u8 0, .int .u8 0, .int .u8 0, .int .u8 0] 5)) := fun _ => by kernel_rfl
  have HR := hid hr64
  clear hr64
  go_enter Tryd.func139, Tryd.ntmps139
  go_wp2
  go_loopw [0, 4] (fun vu vi wr => RInv r w.heap.size w vu vi wr) (fun _ vi _ => (intOf vi + 1).toNat)
  case atStart => exact ⟨0, r, 7, _, by omega, rfl, by simp, rfl, rfl, Blk.new _ _ _, rfl, rfl, (Below.refl _ _).alloc (Nat.le_refl _) _⟩
  case round =>
    obtain ⟨j, u, i, xs, hj, hi, hu, rfl, rfl, hB, hs, hdrop, hbel⟩ := hrel
    clear hmk
    have hu64 : u < 18446744073709551616 := by rw [hu]; exact Nat.lt_of_le_of_lt (Nat.div_le_self _ _) HR.out
    have HB := hid hB
    have HS := hid hs
    have HD := hid hdrop
    have HU := hid hu
    by_cases hlt : j < 8
    · obtain ⟨k, rfl⟩ : ∃ k : Nat, i = k := ⟨7 - j, by omega⟩
      have hk : k ≤ 7 := by omega
      have HJ : Hid (k + j = 7) := hid (by omega)
      obtain ⟨v0, hcell⟩ : ∃ v, wr.cell? ⟨w.heap.size, k, none⟩ = some v := ⟨xs[k]'(by omega), by rw [hB.cell, Array.getElem?_eq_getElem]⟩
      have hfree := hB.free k
      clear hB hs hdrop hu hi hlt
      go_wp2
      go_roundw
      case rel =>
        have hjk := HJ.out
        refine ⟨j + 1, u / 256, (k : Int) - 1, xs.setIfInBounds k (Value.int .u8 ((UInt8.ofNat (r / 256 ^ j % 256)).toNat : Int)), by omega, by omega, ?_, by go_num, rfl, ?_, by rw [Array.size_setIfInBounds]; exact HS.out, ?_, hbel.setCell (Nat.le_refl _) _⟩
        · rw [HU.out, Nat.div_div_eq_div_mul, Nat.pow_succ]
        · rw [← byte_of, ← HU.out]
          exact HB.out.set k _
        · rw [show 8 - (j + 1) = k by omega]
          exact drop_set8 HS.out hk (by rw [show k + 1 = 8 - j by omega]; exact HD.out)
      case measure => simp [intOf]
    · obtain rfl : j = 8 := by omega
      obtain rfl : i = -1 := by omega
      have HD2 : Hid (Blk wr w.heap.size 5 (bc (byW 8 r)).toArray) := by
        have e : xs.toList = bc (byW 8 r) := hdrop
        rw [← e]
        exact hB
      clear hB hs hdrop hu
      go_wp2
      go_ret
      exact ⟨rfl, HD2.out, hbel⟩


end Go.Proofs.YtdjaofbjmnmlbaaDoor

/- The document's Escaped, for every text of at most a thousand bytes. Conditions: the length alone. -/
namespace Go.Proofs.YtdjaofbjmnmlbaaDoor
open Go.RowKit

theorem Row.nil_new (w : World) (B : Nat) (hB : B ≤ w.heap.size) : Row (w.alloc (.cells #[] 5)) B (.slice (some ⟨w.heap.size, 0, Option.none⟩) 0 0) [] := by
  have h := Row.new w B hB [] (by simp)
  simpa [bc] using h

set_option maxHeartbeats 2000000 in
theorem refEscaped_B (s : ByteArray) (hs : s.size ≤ 4000) (w : World) (B : Nat) (HBw : Hid (w.heap.size = B)) :
    Calls Tryd.prog 138 #[.string s] w fun e w' => ∃ v', e = .returned v' ∧ Row w' B v' (esc s.data.toList ++ [0, 1]) ∧ Below B w w' := by
  have HN := hid (Row.nil_new w B (by rw [HBw.out]; exact Nat.le_refl _))
  have HB0 : Hid (∀ o, Below B w (w.alloc o)) := fun o => by
    have := below_new w o
    rwa [HBw.out] at this
  go_enter Tryd.func138, Tryd.ntmps138
  go_wp2
  go_loopw [3, 4] (fun vb vi wr => ∃ k : Nat, k ≤ s.size ∧ vi = .int .i64 k ∧ Row wr B vb (esc (s.data.toList.take k)) ∧ Below B w wr) (fun _ vi _ => s.size - (intOf vi).toNat)
  case atStart => exact ⟨0, by omega, rfl, by simpa [esc] using HN.out, HB0.out _⟩
  case round =>
    obtain ⟨k, hk, rfl, hR, hbel⟩ := hrel
    have HR := hid hR
    have HL : Hid ((esc (s.data.toList.take k)).length ≤ 12000) := by
      have := esc_take_len s k hk
      unfold Hid
      omega
    have hBs : B ≤ wr.heap.size := by have := hbel.size; have := HBw.out; omega
    by_cases hlt : k < s.size
    · have HS := hid (esc_snoc s k hlt)
      clear hR
      go_wp2_with (first | (at_builtin; refine wpList_append_bytes rfl (.tmp 12) (.tmp 16) rfl _ B _ _ rfl (HR.out.alloc _) ⟨wr.heap.size, 0, none⟩ 1 1 [s[k]] rfl rfl (one_new' _ _ _ _ rfl) (by have := HL.out; simp only [List.length_cons, List.length_nil]; omega) (by simp; omega) ?_; intro v1 w1 hR1 hb1) | (at_builtin; refine wpList_append_bytes rfl (.tmp 22) (.tmp 23) rfl _ B _ _ rfl (hR1.alloc _) ⟨w1.heap.size, 0, none⟩ 1 1 [255] rfl rfl (one_new' _ _ _ _ rfl) (by have := HL.out; simp only [List.length_append, List.length_cons, List.length_nil] at this ⊢; omega) (by have := hb1.size; simp at this ⊢; omega) ?_; intro v2 w2 hR2 hb2))
      · have hz : s[k] = 0 := by
          have h : ((s[k].toNat : Int) == 0) = true := by assumption
          have : s[k].toNat = 0 := by simpa using h
          exact UInt8.toNat_inj.1 this
        go_roundw
        case rel =>
          refine ⟨k + 1, by omega, by go_num, ?_, ((hbel.alloc (by omega) _).trans hb1).trans ((below_new _ _).mono (by have := hb1.size; simp at this ⊢; omega) |>.trans hb2)⟩
          rw [HS.out, if_pos hz]
          have := hR2
          rw [List.append_assoc] at this
          simpa using this
        case measure => simp [intOf]; omega
      · have hz : ¬ s[k] = 0 := by
          have h : ((s[k].toNat : Int) == 0) = false := by assumption
          intro he
          rw [he] at h
          cases h
        go_roundw
        case rel =>
          refine ⟨k + 1, by omega, by go_num, ?_, (hbel.alloc (by omega) _).trans hb1⟩
          rw [HS.out, if_neg hz]
          exact hR1
        case measure => simp [intOf]; omega
    · obtain rfl : k = s.size := by omega
      clear hR
      go_wp2_with (at_builtin; refine wpList_append_bytes rfl (.tmp 25) (.tmp 26) rfl _ B _ _ rfl (HR.out.alloc _) ⟨wr.heap.size, 0, none⟩ 2 2 [0, 1] rfl rfl (two_new _ _ _ _ _ _ rfl rfl) (by have := HL.out; simp only [List.length_cons, List.length_nil]; omega) (by simp; omega) ?_; intro v1 w1 hR1 hb1)
      go_ret
      refine ⟨_, rfl, ?_, (hbel.alloc (by omega) _).trans hb1⟩
      have := hR1
      rwa [List.take_of_length_le (by simp)] at this

theorem refEscaped_any (s : ByteArray) (hs : s.size ≤ 4000) (w : World) :
    Calls Tryd.prog 138 #[.string s] w fun e w' => ∃ v', e = .returned v' ∧ Row w' w.heap.size v' (esc s.data.toList ++ [0, 1]) ∧ Below w.heap.size w w' :=
  refEscaped_B s hs w w.heap.size (hid rfl)

end Go.Proofs.YtdjaofbjmnmlbaaDoor

/- The document's Encode, for every value with a text of at most a thousand bytes. Conditions: the number is of 64 bits. -/
namespace Go.Proofs.YtdjaofbjmnmlbaaDoor
open Go.RowKit

set_option maxHeartbeats 1000000 in
theorem refEncode_no (k n : Int) (s : ByteArray) (hs : s.size ≤ 4000) (hr : vRight k n s.data.toList = false) (w : World) :
    Calls Tryd.prog 98 #[.agg #[.int .i64 k, .int .i64 n, .string s]] w fun e w' => e = .returned (.tuple #[.slice none 0 0, .bool false]) ∧ Below w.heap.size w w' := by
  have HV : Hid (∀ W, Below w.heap.size w W → Calls Tryd.prog 76 #[.agg #[.int .i64 k, .int .i64 n, .string s]] W fun e w' => e = .returned (.bool false) ∧ Below w.heap.size w w' ∧ Below W.heap.size W w') := fun W hW => by rw [← hr]; exact (refright_any k n s W hs).mono fun _ _ ⟨he, hb⟩ => ⟨he, hW.trans (hb.mono hW.size), hb⟩
  have HB := hid (below_new w)
  clear hr hs
  go_enter Tryd.func98, Tryd.ntmps98
  go_wp2_with (go_at_call 76; refine (HV.out _ (HB.out _)).mono ?_; rintro e w1 ⟨rfl, hb1, hb2⟩)
  go_ret2
  exact ⟨rfl, hb1⟩
theorem up_wrap {n : Int} (h : inI n) : IntKind.u64.wrap (IntKind.u64.wrap n + 9223372036854775808) = (upI n : Int) := by
  rw [IntKind.wrap_u64, IntKind.wrap_u64]
  unfold upI inI at *
  omega

set_option maxHeartbeats 1000000 in
theorem refEncode_1 {n : Int} (hn : inI n) (s : ByteArray) (hs : s.size ≤ 4000) (hr : vRight 1 n s.data.toList = true) (w : World) :
    Calls Tryd.prog 98 #[.agg #[.int .i64 1, .int .i64 n, .string s]] w fun e w' => ∃ v, e = .returned (.tuple #[v, .bool true]) ∧ Row w' w.heap.size v (vEnc 1 n s.data.toList) ∧ Below w.heap.size w w' := by
  have HV : Hid (∀ W, Below w.heap.size w W → Calls Tryd.prog 76 #[.agg #[.int .i64 1, .int .i64 n, .string s]] W fun e w' => e = .returned (.bool true) ∧ Below w.heap.size w w' ∧ Below W.heap.size W w') := fun W hW => by rw [← hr]; exact (refright_any 1 n s W hs).mono fun _ _ ⟨he, hb⟩ => ⟨he, hW.trans (hb.mono hW.size), hb⟩
  have HB := hid (below_new w)
  have HK : Hid (∀ W : World, w.heap.size ≤ W.heap.size → Row (W.alloc (.cells #[.int .u8 1] 5)) w.heap.size (.slice (some ⟨W.heap.size, 0, none⟩) 1 1) [1]) := fun W hW => kind_row W w.heap.size hW 1 (by decide)
  have HF : Hid (∀ (W : World) (b : Nat), W.heap.size = b → Calls Tryd.prog 139 #[.int .u64 (upI n : Int)] W fun e w' => e = .returned (.slice (some ⟨b, 0, none⟩) 8 8) ∧ (∀ j u, (bc (byW 8 (upI n)))[j]? = some u → w'.cell? ((⟨b, 0, none⟩ : Addr).add j) = some u) ∧ Below W.heap.size W w') := fun W b hb => by
    subst hb
    exact (eight_any (upI n) (upI_lt hn) W).mono fun e w' ⟨he, hB, hb⟩ => ⟨he, blk_cells hB, hb⟩
  have hx := up_wrap hn
  obtain ⟨u, hu⟩ : ∃ u : Nat, upI n = u := ⟨_, rfl⟩
  have HE : Hid (vEnc 1 n s.data.toList = [1] ++ byW 8 u) := by rw [← hu]; rfl
  rw [hu] at HF hx
  obtain ⟨l, hl⟩ : ∃ l, byW 8 u = l := ⟨_, rfl⟩
  have HL : Hid (l.length = 8) := by rw [← hl]; exact byW_len _ _
  rw [hl] at HF HE
  clear hr hn hs hu hl
  go_enter Tryd.func98, Tryd.ntmps98
  go_wp2_with (first | (go_at_call 76; refine (HV.out _ (HB.out _)).mono ?_; rintro e w1 ⟨rfl, hb1, hb2⟩; obtain ⟨hc, hf⟩ := bcell hb2; have hz : w.heap.size < w1.heap.size := (by have := hb2.size; simp at this; omega)) | (go_at_call 139; refine (HF.out _ (w1.heap.size + 1) (by simp)).mono ?_; rintro e w2 ⟨rfl, hBk, hb3⟩; have hR1 : Row w2 w.heap.size (.slice (some ⟨w1.heap.size, 0, none⟩) 1 1) [1] := ((HK.out w1 hb1.size).keep hb3 (fun g hg => by simp [Value.ownBlock] at hg; simp; omega)); have hs2 : w.heap.size ≤ w2.heap.size := (by have := hb3.size; have := hb1.size; simp at *; omega); have HBk := hid hBk; clear hBk) | (at_builtin; refine wpList_append_bytes rfl (.tmp 16) (.tmp 21) rfl _ w.heap.size (.slice (some ⟨w1.heap.size, 0, none⟩) 1 1) [1] rfl hR1 ⟨w1.heap.size + 1, 0, none⟩ 8 8 l HL.out rfl HBk.out (by have := HL.out; simp only [List.length_cons, List.length_nil]; omega) hs2 ?_; intro v2 w2' hR2 hb4))
  go_ret2
  refine ⟨_, rfl, ?_, ?_⟩
  · rw [HE.out]; exact hR2
  · exact hb1.trans ((((Below.refl _ _).alloc hb1.size _).trans (hb3.mono (by simp; omega))).trans hb4)

set_option maxHeartbeats 1000000 in
theorem refEncode_5 {n : Int} (hn : inI n) (s : ByteArray) (hs : s.size ≤ 4000) (hr : vRight 5 n s.data.toList = true) (w : World) :
    Calls Tryd.prog 98 #[.agg #[.int .i64 5, .int .i64 n, .string s]] w fun e w' => ∃ v, e = .returned (.tuple #[v, .bool true]) ∧ Row w' w.heap.size v (vEnc 5 n s.data.toList) ∧ Below w.heap.size w w' := by
  have HV : Hid (∀ W, Below w.heap.size w W → Calls Tryd.prog 76 #[.agg #[.int .i64 5, .int .i64 n, .string s]] W fun e w' => e = .returned (.bool true) ∧ Below w.heap.size w w' ∧ Below W.heap.size W w') := fun W hW => by rw [← hr]; exact (refright_any 5 n s W hs).mono fun _ _ ⟨he, hb⟩ => ⟨he, hW.trans (hb.mono hW.size), hb⟩
  have HB := hid (below_new w)
  have HK : Hid (∀ W : World, w.heap.size ≤ W.heap.size → Row (W.alloc (.cells #[.int .u8 5] 5)) w.heap.size (.slice (some ⟨W.heap.size, 0, none⟩) 1 1) [5]) := fun W hW => kind_row W w.heap.size hW 5 (by decide)
  have hrb : rightB n = true := by
    simp [vRight] at hr
    exact hr.2
  have HF : Hid (∀ (W : World) (b : Nat), W.heap.size = b → Calls Tryd.prog 140 #[.int .i64 n] W fun e w' => e = .returned (.slice (some ⟨b, 0, none⟩) 8 8) ∧ (∀ j u, (bc (byW 8 (rankI n).toNat))[j]? = some u → w'.cell? ((⟨b, 0, none⟩ : Addr).add j) = some u) ∧ Below W.heap.size W w') := fun W b hb => by
    subst hb
    exact (refBytes_yes hn hrb W).mono fun e w' ⟨he, hB, hb⟩ => ⟨he, blk_cells hB, hb⟩
  obtain ⟨l, hl⟩ : ∃ l, byW 8 (rankI n).toNat = l := ⟨_, rfl⟩
  have HL : Hid (l.length = 8) := by rw [← hl]; exact byW_len _ _
  have HE : Hid (vEnc 5 n s.data.toList = [5] ++ l) := by rw [← hl]; rfl
  rw [hl] at HF
  clear hr hn hs hrb hl
  go_enter Tryd.func98, Tryd.ntmps98
  go_wp2_with (first | (go_at_call 76; refine (HV.out _ (HB.out _)).mono ?_; rintro e w1 ⟨rfl, hb1, hb2⟩; obtain ⟨hc, hf⟩ := bcell hb2; have hz : w.heap.size < w1.heap.size := (by have := hb2.size; simp at this; omega)) | (go_at_call 140; refine (HF.out _ (w1.heap.size + 1) (by simp)).mono ?_; rintro e w2 ⟨rfl, hBk, hb3⟩; have hR1 : Row w2 w.heap.size (.slice (some ⟨w1.heap.size, 0, none⟩) 1 1) [5] := ((HK.out w1 hb1.size).keep hb3 (fun g hg => by simp [Value.ownBlock] at hg; simp; omega)); have hs2 : w.heap.size ≤ w2.heap.size := (by have := hb3.size; have := hb1.size; simp at *; omega); have HBk := hid hBk; clear hBk) | (at_builtin; refine wpList_append_bytes rfl (.tmp 25) (.tmp 28) rfl _ w.heap.size (.slice (some ⟨w1.heap.size, 0, none⟩) 1 1) [5] rfl hR1 ⟨w1.heap.size + 1, 0, none⟩ 8 8 l HL.out rfl HBk.out (by have := HL.out; simp only [List.length_cons, List.length_nil]; omega) hs2 ?_; intro v2 w2' hR2 hb4))
  go_ret2
  refine ⟨_, rfl, ?_, ?_⟩
  · rw [HE.out]; exact hR2
  · exact hb1.trans ((((Below.refl _ _).alloc hb1.size _).trans (hb3.mono (by simp; omega))).trans hb4)

set_option maxHeartbeats 1000000 in
theorem refEncode_4 {n : Int} (_hn : inI n) (s : ByteArray) (hs : s.size ≤ 4000) (hr : vRight 4 n s.data.toList = true) (w : World) :
    Calls Tryd.prog 98 #[.agg #[.int .i64 4, .int .i64 n, .string s]] w fun e w' => ∃ v, e = .returned (.tuple #[v, .bool true]) ∧ Row w' w.heap.size v (vEnc 4 n s.data.toList) ∧ Below w.heap.size w w' := by
  have HV : Hid (∀ W, Below w.heap.size w W → Calls Tryd.prog 76 #[.agg #[.int .i64 4, .int .i64 n, .string s]] W fun e w' => e = .returned (.bool true) ∧ Below w.heap.size w w' ∧ Below W.heap.size W w') := fun W hW => by rw [← hr]; exact (refright_any 4 n s W hs).mono fun _ _ ⟨he, hb⟩ => ⟨he, hW.trans (hb.mono hW.size), hb⟩
  have HB := hid (below_new w)
  have HK : Hid (∀ W : World, w.heap.size ≤ W.heap.size → Row (W.alloc (.cells #[.int .u8 4] 5)) w.heap.size (.slice (some ⟨W.heap.size, 0, none⟩) 1 1) [4]) := fun W hW => kind_row W w.heap.size hW 4 (by decide)
  have h01 : n = 0 ∨ n = 1 := by
    simp [vRight] at hr
    exact hr.2
  have HN : Hid (n % 256 = ((UInt8.ofNat n.toNat).toNat : Int)) := by
    unfold Hid
    rcases h01 with rfl | rfl <;> decide
  have HC : Hid (∀ (W : World) (o : Obj), ∀ j u, (bc [UInt8.ofNat n.toNat])[j]? = some u → ((W.alloc o).alloc (.cells #[.int .u8 (n % 256)] 5)).cell? ((⟨W.heap.size + 1, 0, none⟩ : Addr).add j) = some u) := fun W o => by
    have h1 := one_new' (W.alloc o) (UInt8.ofNat n.toNat) 5 _ HN.out
    have h2 : (W.alloc o).heap.size = W.heap.size + 1 := by simp
    rw [h2] at h1
    exact h1
  clear hr hs h01 HN
  go_enter Tryd.func98, Tryd.ntmps98
  go_wp2_with (first | (go_at_call 76; refine (HV.out _ (HB.out _)).mono ?_; rintro e w1 ⟨rfl, hb1, hb2⟩; obtain ⟨hc, hf⟩ := bcell hb2; have hz : w.heap.size < w1.heap.size := (by have := hb2.size; simp at this; omega)) | (at_builtin; refine wpList_append_bytes rfl (.tmp 32) (.tmp 36) rfl _ w.heap.size _ _ rfl ((HK.out _ hb1.size).alloc _) ⟨w1.heap.size + 1, 0, none⟩ 1 1 [UInt8.ofNat n.toNat] rfl rfl (HC.out _ _) (by simp) (by have := hb1.size; simp; omega) ?_; intro v2 w2 hR2 hb3))
  go_ret2
  exact ⟨_, rfl, hR2, hb1.trans ((((Below.refl _ _).alloc hb1.size _).alloc (by have := hb1.size; simp; omega) _).trans hb3)⟩

set_option maxHeartbeats 1000000 in
theorem refEncode_2 {n : Int} (_hn : inI n) (s : ByteArray) (hs : s.size ≤ 4000) (hr : vRight 2 n s.data.toList = true) (w : World) :
    Calls Tryd.prog 98 #[.agg #[.int .i64 2, .int .i64 n, .string s]] w fun e w' => ∃ v, e = .returned (.tuple #[v, .bool true]) ∧ Row w' w.heap.size v (vEnc 2 n s.data.toList) ∧ Below w.heap.size w w' := by
  have HV : Hid (∀ W, Below w.heap.size w W → Calls Tryd.prog 76 #[.agg #[.int .i64 2, .int .i64 n, .string s]] W fun e w' => e = .returned (.bool true) ∧ Below w.heap.size w w' ∧ Below W.heap.size W w') := fun W hW => by rw [← hr]; exact (refright_any 2 n s W hs).mono fun _ _ ⟨he, hb⟩ => ⟨he, hW.trans (hb.mono hW.size), hb⟩
  have HB := hid (below_new w)
  have HK : Hid (∀ W : World, w.heap.size ≤ W.heap.size → Row (W.alloc (.cells #[.int .u8 2] 5)) w.heap.size (.slice (some ⟨W.heap.size, 0, none⟩) 1 1) [2]) := fun W hW => kind_row W w.heap.size hW 2 (by decide)
  have HF : Hid (∀ (W : World), Calls Tryd.prog 138 #[.string s] W fun e w' => ∃ g c, e = .returned (.slice (some ⟨g, 0, none⟩) (esc s.data.toList ++ [0, 1]).length c) ∧ (∀ j u, (bc (esc s.data.toList ++ [0, 1]))[j]? = some u → w'.cell? ((⟨g, 0, none⟩ : Addr).add j) = some u) ∧ Below W.heap.size W w') := fun W =>
    (refEscaped_any s hs W).mono fun e w' ⟨v, he, hR, hb⟩ => by
      obtain ⟨g, c, rfl, _, _, _, h6⟩ := hR.form (by simp)
      refine ⟨g, c, he, fun j u hu => ?_, hb⟩
      have hj : j < (esc s.data.toList ++ [0, 1]).length := by
        rcases Nat.lt_or_ge j (esc s.data.toList ++ [0, 1]).length with h | h
        · exact h
        · rw [List.getElem?_eq_none (by rw [bc_len]; exact h)] at hu; cases hu
      rw [add_zero_off, Nat.zero_add, h6 j hj, ← hu, bc_at, List.getElem?_eq_getElem hj]
      simp [List.getElem?_eq_getElem hj]
  have HE : Hid (vEnc 2 n s.data.toList = [2] ++ (esc s.data.toList ++ [0, 1])) := rfl
  have HLs : Hid ((esc s.data.toList ++ [0, 1]).length ≤ 12000) := by
    have := esc_len s.data.toList
    have h2 : s.data.toList.length = s.size := rfl
    unfold Hid
    simp
    omega
  obtain ⟨l, hl⟩ : ∃ l, esc s.data.toList ++ [0, 1] = l := ⟨_, rfl⟩
  rw [hl] at HF HE HLs
  obtain ⟨m, hm⟩ : ∃ m, l.length = m := ⟨_, rfl⟩
  have HM := hid hm
  rw [hm] at HF HLs
  clear hr hs hl hm
  go_enter Tryd.func98, Tryd.ntmps98
  go_wp2_with (first | (go_at_call 76; refine (HV.out _ (HB.out _)).mono ?_; rintro e w1 ⟨rfl, hb1, hb2⟩; obtain ⟨hc, hf⟩ := bcell hb2; have hz : w.heap.size < w1.heap.size := (by have := hb2.size; simp at this; omega)) | (go_at_call 138; refine (HF.out _).mono ?_; rintro e w2 ⟨g2, q2, rfl, hBk, hb3⟩; have hR1 : Row w2 w.heap.size (.slice (some ⟨w1.heap.size, 0, none⟩) 1 1) [2] := ((HK.out w1 hb1.size).keep hb3 (fun g hg => by simp [Value.ownBlock] at hg; simp; omega)); have hs2 : w.heap.size ≤ w2.heap.size := (by have := hb3.size; have := hb1.size; simp at *; omega); have HBk := hid hBk; clear hBk) | (at_builtin; refine wpList_append_bytes rfl (.tmp 38) (.tmp 41) rfl _ w.heap.size (.slice (some ⟨w1.heap.size, 0, none⟩) 1 1) [2] rfl hR1 ⟨g2, 0, none⟩ m q2 l HM.out rfl HBk.out (by have := HM.out; have := HLs.out; simp only [List.length_cons, List.length_nil]; omega) hs2 ?_; intro v2 w2' hR2 hb4))
  go_ret2
  refine ⟨_, rfl, ?_, ?_⟩
  · rw [HE.out]; exact hR2
  · exact hb1.trans ((((Below.refl _ _).alloc hb1.size _).trans (hb3.mono (by simp; omega))).trans hb4)

set_option maxHeartbeats 1000000 in
theorem refEncode_3 {n : Int} (_hn : inI n) (s : ByteArray) (hs : s.size ≤ 4000) (hr : vRight 3 n s.data.toList = true) (w : World) :
    Calls Tryd.prog 98 #[.agg #[.int .i64 3, .int .i64 n, .string s]] w fun e w' => ∃ v, e = .returned (.tuple #[v, .bool true]) ∧ Row w' w.heap.size v (vEnc 3 n s.data.toList) ∧ Below w.heap.size w w' := by
  have HV : Hid (∀ W, Below w.heap.size w W → Calls Tryd.prog 76 #[.agg #[.int .i64 3, .int .i64 n, .string s]] W fun e w' => e = .returned (.bool true) ∧ Below w.heap.size w w' ∧ Below W.heap.size W w') := fun W hW => by rw [← hr]; exact (refright_any 3 n s W hs).mono fun _ _ ⟨he, hb⟩ => ⟨he, hW.trans (hb.mono hW.size), hb⟩
  have HB := hid (below_new w)
  have HK : Hid (∀ W : World, w.heap.size ≤ W.heap.size → Row (W.alloc (.cells #[.int .u8 3] 5)) w.heap.size (.slice (some ⟨W.heap.size, 0, none⟩) 1 1) [3]) := fun W hW => kind_row W w.heap.size hW 3 (by decide)
  have HF : Hid (∀ (W : World), Calls Tryd.prog 138 #[.string s] W fun e w' => ∃ g c, e = .returned (.slice (some ⟨g, 0, none⟩) (esc s.data.toList ++ [0, 1]).length c) ∧ (∀ j u, (bc (esc s.data.toList ++ [0, 1]))[j]? = some u → w'.cell? ((⟨g, 0, none⟩ : Addr).add j) = some u) ∧ Below W.heap.size W w') := fun W =>
    (refEscaped_any s hs W).mono fun e w' ⟨v, he, hR, hb⟩ => by
      obtain ⟨g, c, rfl, _, _, _, h6⟩ := hR.form (by simp)
      refine ⟨g, c, he, fun j u hu => ?_, hb⟩
      have hj : j < (esc s.data.toList ++ [0, 1]).length := by
        rcases Nat.lt_or_ge j (esc s.data.toList ++ [0, 1]).length with h | h
        · exact h
        · rw [List.getElem?_eq_none (by rw [bc_len]; exact h)] at hu; cases hu
      rw [add_zero_off, Nat.zero_add, h6 j hj, ← hu, bc_at, List.getElem?_eq_getElem hj]
      simp [List.getElem?_eq_getElem hj]
  have HE : Hid (vEnc 3 n s.data.toList = [3] ++ (esc s.data.toList ++ [0, 1])) := rfl
  have HLs : Hid ((esc s.data.toList ++ [0, 1]).length ≤ 12000) := by
    have := esc_len s.data.toList
    have h2 : s.data.toList.length = s.size := rfl
    unfold Hid
    simp
    omega
  obtain ⟨l, hl⟩ : ∃ l, esc s.data.toList ++ [0, 1] = l := ⟨_, rfl⟩
  rw [hl] at HF HE HLs
  obtain ⟨m, hm⟩ : ∃ m, l.length = m := ⟨_, rfl⟩
  have HM := hid hm
  rw [hm] at HF HLs
  clear hr hs hl hm
  go_enter Tryd.func98, Tryd.ntmps98
  go_wp2_with (first | (go_at_call 76; refine (HV.out _ (HB.out _)).mono ?_; rintro e w1 ⟨rfl, hb1, hb2⟩; obtain ⟨hc, hf⟩ := bcell hb2; have hz : w.heap.size < w1.heap.size := (by have := hb2.size; simp at this; omega)) | (go_at_call 138; refine (HF.out _).mono ?_; rintro e w2 ⟨g2, q2, rfl, hBk, hb3⟩; have hR1 : Row w2 w.heap.size (.slice (some ⟨w1.heap.size, 0, none⟩) 1 1) [3] := ((HK.out w1 hb1.size).keep hb3 (fun g hg => by simp [Value.ownBlock] at hg; simp; omega)); have hs2 : w.heap.size ≤ w2.heap.size := (by have := hb3.size; have := hb1.size; simp at *; omega); have HBk := hid hBk; clear hBk) | (at_builtin; refine wpList_append_bytes rfl (.tmp 38) (.tmp 41) rfl _ w.heap.size (.slice (some ⟨w1.heap.size, 0, none⟩) 1 1) [3] rfl hR1 ⟨g2, 0, none⟩ m q2 l HM.out rfl HBk.out (by have := HM.out; have := HLs.out; simp only [List.length_cons, List.length_nil]; omega) hs2 ?_; intro v2 w2' hR2 hb4))
  go_ret2
  refine ⟨_, rfl, ?_, ?_⟩
  · rw [HE.out]; exact hR2
  · exact hb1.trans ((((Below.refl _ _).alloc hb1.size _).trans (hb3.mono (by simp; omega))).trans hb4)

/-- The document's Encode of a right value. -/
theorem refEncode_yes (k : Int) {n : Int} (hn : inI n) (s : ByteArray) (hs : s.size ≤ 4000) (hr : vRight k n s.data.toList = true) (w : World) :
    Calls Tryd.prog 98 #[.agg #[.int .i64 k, .int .i64 n, .string s]] w fun e w' => ∃ v, e = .returned (.tuple #[v, .bool true]) ∧ Row w' w.heap.size v (vEnc k n s.data.toList) ∧ Below w.heap.size w w' := by
  rcases right_kind hr with rfl | rfl | rfl | rfl | rfl
  · exact refEncode_1 hn s hs hr w
  · exact refEncode_2 hn s hs hr w
  · exact refEncode_3 hn s hs hr w
  · exact refEncode_4 hn s hs hr w
  · exact refEncode_5 hn s hs hr w

end Go.Proofs.YtdjaofbjmnmlbaaDoor
