/- Several texts in one: HM IA IB ID LM RC VGa RD RE FS RF EA RBa EB. Conditions: as each theorem names them. -/
import Derived.Test.YtfcnobcpnhfgmaaDoorMSDHL
import Derived.Test.YtfcnobcpnhfgmaaDoorShelfB
import Derived.Lib.OwnBridge
import Derived.Lib.QuietBelow
import Derived.Deep.QuietTactic
import Derived.KernelRfl
import Derived.Test.YtfcnobcpnhfgmaaDoorHF
import Derived.Test.YtfcnobcpnhfgmaaDoorVA
import Derived.Lib.ValidLaws
import Derived.Test.YtfcnobcpnhfgmaaDoorVF
import Derived.Deep.RegionHeld3
import Derived.Deep.DrawnRows
import Derived.Deep.LoopGhost
import Derived.Test.YtfcnobcpnhfgmaaDoorFRa
import Derived.Test.YtfcnobcpnhfgmaaDoorCC
import Derived.Test.YtfcnobcpnhfgmaaDoorVJ
import Derived.BigQuiet
import Derived.Test.YtfcnobcpnhfgmaaDoorCE
/- cell.Rows at every list of cells. Conditions: a hundred thousand cells at most. -/
namespace Go.Proofs.YtfcnobcpnhfgmaaDoor
open Go.RowKit Go.Sort Go.Lib

/-- A row of the call's own that holds the texts ss. -/
def SRow (w : World) (B : Nat) (v : Value) (ss : List (List UInt8)) : Prop := w.ownsRow B 9 1 v ss.length (ss.map encStr)
theorem SRow.none (w : World) (B : Nat) : SRow w B (.slice none 0 0) [] := ⟨rfl, .inl ⟨rfl, rfl⟩⟩
theorem SRow.below {w w' : World} {B : Nat} {v : Value} {ss : List (List UInt8)} (h : SRow w B v ss) (hb : Below w.heap.size w w') : SRow w' B v ss := by
  refine ⟨h.1, ?_⟩
  rcases h.2 with h | ⟨g, cap, cur, e, h1, h2, hr⟩
  · exact .inl h
  · have hg : g < w.heap.size := by
      rcases Nat.lt_or_ge g w.heap.size with h' | h'
      · exact h'
      · rw [Array.getElem?_eq_none h'] at h2; cases h2
    exact .inr ⟨g, cap, cur, e, h1, by rw [hb.block g hg]; exact h2, hr⟩
theorem info_str : (Tryd.prog.info? 9).map (fun i => (i.zero, i.size, i.bytes)) = some (some (.string ⟨#[]⟩), 1, 16) := by kernel_rfl

section
variable {ops : Array Oper} {rest : List Oper} {o : Oper} {a : Act} {Q : Exit → Act → World → Prop}
set_option maxRecDepth 100000 in
/-- append of one text to a row of the call's own. -/
theorem wpList_append_text (hgd : o.guard = Option.none) (s x : Operand)
    (ho : o.op = .call { callee := .builtin .append, args := #[s, x], argTypes := #[94, 94] })
    (w : World) (base : Nat) (v : Value) (l : List (List UInt8)) (hs : a.eval s = v) (hown : SRow w base v l)
    (G : Nat) (m : Nat) (hx : a.eval x = .slice (some ⟨G, 0, Option.none⟩) 1 m) (y : ByteArray) (hc : w.cell? ⟨G, 0, Option.none⟩ = some (.string y))
    (hlen : l.length ≤ 100000) (hbase : base ≤ w.heap.size)
    (h : ∀ v' w', SRow w' base v' (l ++ [y.data.toList]) → Below base w w' → wpList Tryd.prog ops Q rest (a.put o.dst v') w') : wpList Tryd.prog ops Q (o :: rest) a w := by
  obtain ⟨i0, hi, hz0, hz1, hz2⟩ := info_parts info_str
  refine wpList_append_own w hgd s x 94 ho base 9 i0 _ 1 16 Tryd.underlying94 hi hz0 hz1 hz2 rfl (by decide) v l.length (l.map encStr) hs hown ⟨G, 0, Option.none⟩ 1 m [.string y] hx rfl (fun j u hu => ?_) (fun u hu => by rw [List.mem_singleton.1 hu]; rfl) (by unfold maxLen; omega) (by omega) hbase ?_
  · cases j with
    | zero =>
      injection hu with hu
      rw [← hu]
      exact hc
    | succ j => cases hu
  intro v' w' h1 h2 _
  refine h v' w' ?_ ((Below.refl _ _).grown h2 hbase fun k hk => (World.ownsRow.lt hown k hk).1)
  unfold SRow
  rw [List.map_append, List.length_append]
  exact h1
end

theorem below_grows (w : World) (os : Array Obj) : Below w.heap.size w (grow w os) := ⟨rfl, rfl, rfl, by simp [grow], fun k hk => by simp [grow, Array.getElem?_append_left hk]⟩
theorem srow_sort (B : Nat) (v : Value) (ss : List (List UInt8)) (hl : ss.length ≤ 100000) (w : World) (h : SRow w B v ss) (hB : B ≤ w.heap.size) :
    Calls Tryd.prog 123 #[v] w fun e w' => e = .returned (.tuple #[]) ∧ SRow w' B v (ss.mergeSort fun x y => decide (x ≤ y)) ∧ Below B w w' := by
  by_cases hv : v = .slice none 0 0
  · subst hv
    have e0 : ss = [] := by
      rcases h.2 with ⟨_, hz⟩ | ⟨g, cap, cur, e, _⟩
      · exact List.eq_nil_of_length_eq_zero hz
      · cases e
    subst e0
    refine (Tryd.slices_Sort_string_none none 0 w).mono ?_
    rintro e w' ⟨rfl, rfl⟩
    exact ⟨rfl, by rw [List.mergeSort_nil]; exact h, Below.refl _ _⟩
  · obtain ⟨g, cap, rfl, hBg, hgw, hc1, hc2, hl', hH⟩ := holds_of_ownsRow h hv
    refine (Tryd.slices_Sort_string g 0 cap ss w hH hgw (by omega)).mono ?_
    rintro e w' ⟨rfl, n, os, rfl⟩
    have hlen : (ss.mergeSort fun x y => decide (x ≤ y)).length = ss.length := List.length_mergeSort _
    have h1 := ownsRow_putRow (q := n) (k := ss.length) h hlen (Nat.le_refl _)
    rw [List.take_of_length_le (by rw [hlen]; exact Nat.le_refl _)] at h1
    have h2 : SRow (putRow encStr (Sort.ahead w n) g 0 (ss.mergeSort fun x y => decide (x ≤ y)).toArray) B (.slice (some ⟨g, 0, none⟩) ss.length cap) (ss.mergeSort fun x y => decide (x ≤ y)) := by
      unfold SRow
      rw [hlen]
      exact h1
    have hg := below_grows (putRow encStr (Sort.ahead w n) g 0 (ss.mergeSort fun x y => decide (x ≤ y)).toArray) os
    have hp : Below B w (putRow encStr (Sort.ahead w n) g 0 (ss.mergeSort fun x y => decide (x ≤ y)).toArray) := below_putRow (Below.refl _ _) hBg
    exact ⟨rfl, h2.below hg, hp.trans (hg.mono (Nat.le_trans hB hp.size))⟩
theorem srow_compact (B : Nat) (v : Value) (ss : List (List UInt8)) (hl : ss.length ≤ 100000) (w : World) (h : SRow w B v ss) (hB : B ≤ w.heap.size) :
    Calls Tryd.prog 124 #[v] w fun e w' => ∃ v', e = .returned v' ∧ SRow w' B v' (compact ss) ∧ Below B w w' := by
  by_cases hv : v = .slice none 0 0
  · subst hv
    have e0 : ss = [] := by
      rcases h.2 with ⟨_, hz⟩ | ⟨g, cap, cur, e, _⟩
      · exact List.eq_nil_of_length_eq_zero hz
      · cases e
    subst e0
    refine (Tryd.slices_Compact_string_empty none 0 w).mono ?_
    rintro e w' ⟨rfl, rfl⟩
    exact ⟨_, rfl, h, Below.refl _ _⟩
  · obtain ⟨g, cap, rfl, hBg, hgw, hc1, hc2, hl', hH⟩ := holds_of_ownsRow h hv
    refine (Tryd.slices_Compact_string g 0 cap ss w hH (by omega) hc1).mono ?_
    rintro e w' ⟨rfl, q, rfl⟩
    have hle : (compact ss).length ≤ ss.length := by
      unfold compact compactUpTo
      rw [List.length_map]
      exact Nat.le_trans (List.length_filter_le _ _) (by rw [List.length_range]; exact Nat.le_refl _)
    have hlen : (compact ss ++ List.replicate (ss.length - (compact ss).length) []).length = ss.length := by
      rw [List.length_append, List.length_replicate]; omega
    have h1 := ownsRow_putRow (q := q) (k := (compact ss).length) h hlen hle
    rw [List.take_left] at h1
    exact ⟨_, rfl, h1, below_putRow (Below.refl _ _) hBg⟩

/-- The rows of cells. -/
def rowsL (l : List CT) : List (List UInt8) := compact ((l.map fun c => c.r.data.toList).mergeSort fun x y => decide (x ≤ y))

set_option maxHeartbeats 4000000 in
set_option maxRecDepth 100000 in
theorem crows_any (v : Value) (l : List CT) (hl : l.length ≤ 100000) (w : World) (h : ClA w v l) :
    Calls Tryd.prog 75 #[v] w fun e w' => ∃ v', e = .returned v' ∧ SRow w' w.heap.size v' (rowsL l) ∧ Below w.heap.size w w' := by
  obtain ⟨A, cc, rfl, hc1, hc2, hh⟩ := h
  obtain ⟨n, hn⟩ : ∃ n, l.length = n := ⟨_, rfl⟩
  have HN := hid hn
  rw [hn] at hl hc1 hh ⊢
  have HH := hid hh
  have HS := hid srow_sort
  have HC := hid srow_compact
  have HN0 := hid (SRow.none w w.heap.size)
  clear hn hh
  go_enter Tryd.func75, Tryd.ntmps75
  go_wp2
  go_loopw [3, 8] (fun vo vi wr => ∃ i : Nat, i ≤ n ∧ vi = .int .i64 i ∧ Hid (SRow wr w.heap.size vo ((l.take i).map fun c => c.r.data.toList)) ∧ Hid (Below w.heap.size w wr)) (fun _ vi _ => n - (intOf vi).toNat)
  case atStart => exact ⟨0, Nat.zero_le _, rfl, HN0.out, Below.refl _ _⟩
  case round =>
    obtain ⟨i, hi, rfl, HO, HB⟩ := hrel
    by_cases hlt : i < n
    · have hin : i < l.length := by rw [HN.out]; exact hlt
      have hltz : (i : Int) < (n : Int) := by omega
      obtain ⟨b, off, rfl, hhc⟩ := HH.out (by omega)
      have hbw : b < w.heap.size := hhc.lt (by omega)
      obtain ⟨c, hc⟩ : ∃ c, l[i] = c := ⟨_, rfl⟩
      have P : wr.cell? ⟨b, off + i * 8, none⟩ = some (.string c.r) ∧ wr.cell? ⟨b, off + i * 8 + 1, none⟩ = some (.string c.f) ∧ wr.cell? ⟨b, off + i * 8 + 2, none⟩ = some (.string c.q) ∧ wr.cell? ⟨b, off + i * 8 + 3, none⟩ = some (.int .i64 c.t) ∧ wr.cell? ⟨b, off + i * 8 + 4, none⟩ = some (.int .i64 c.k) ∧ wr.cell? ⟨b, off + i * 8 + 5, none⟩ = some (.int .i64 c.vk) ∧ wr.cell? ⟨b, off + i * 8 + 6, none⟩ = some (.int .i64 c.vn) ∧ wr.cell? ⟨b, off + i * 8 + 7, none⟩ = some (.string c.s) := by
        rw [← hc]
        exact (hhc.below HB.out hbw).words i hin
      have HT : Hid ((l.take (i + 1)).map (fun c => c.r.data.toList) = (l.take i).map (fun c => c.r.data.toList) ++ [c.r.data.toList]) := by
        unfold Hid
        rw [List.take_add_one, List.getElem?_eq_getElem hin, hc, List.map_append]
        rfl
      have HLn : Hid (((l.take i).map fun c => c.r.data.toList).length ≤ 100000) := by
        unfold Hid
        rw [List.length_map, List.length_take]; omega
      obtain ⟨p0, p1, p2, p3, p4, p5, p6, p7⟩ := P
      clear hc hhc
      go_upto_region 5 with (fail)
      obtain ⟨bb, hbb⟩ : ∃ bb, wr.heap.size = bb := ⟨_, rfl⟩
      refine wp_ltc (fun W => Hid (Below wr.heap.size wr W) ∧ W.cell? ⟨bb, 0, none⟩ = some (.string c.r) ∧ W.cell? ⟨bb, 1, none⟩ = some (.string c.f) ∧ W.cell? ⟨bb, 2, none⟩ = some (.string c.q) ∧ W.cell? ⟨bb, 3, none⟩ = some (.int .i64 c.t) ∧ W.cell? ⟨bb, 4, none⟩ = some (.int .i64 c.k) ∧ W.cell? ⟨bb, 5, none⟩ = some (.int .i64 c.vk) ∧ W.cell? ⟨bb, 6, none⟩ = some (.int .i64 c.vn) ∧ W.cell? ⟨bb, 7, none⟩ = some (.string c.s)) (by rw [← hbb]; have hB := Blk.new wr 40 c.e.toArray; exact ⟨below_new _ _, blk_words hB⟩) (fun W hW => ?_)
      rw [hbb]
      obtain ⟨HW, b0, b1, b2, b3, b4, b5, b6, b7⟩ := hW
      have HB2 : Hid (Below w.heap.size w W) := HB.out.trans (HW.out.mono HB.out.size)
      have HO2 : Hid (SRow W w.heap.size _ ((l.take i).map fun c => c.r.data.toList)) := HO.out.below HW.out
      clear p0 p1 p2 p3 p4 p5 p6 p7 hbb HO HB
      go_wp2_with (at_builtin; refine wpList_append_text rfl (.tmp 12) (.tmp 15) rfl _ w.heap.size _ _ rfl (HO2.out.below (below_new _ _)) _ 1 rfl c.r (Blk.cell (T := 9) (Blk.new _ _ _) 0) HLn.out (by have := HB2.out.size; simp; omega) ?_; intro v6 w6 h6 hb6)
      go_roundw
      case rel => exact ⟨i + 1, by omega, by go_num, by rw [HT.out]; exact h6, (HB2.out.alloc HB2.out.size _).trans hb6⟩
      case measure => simp [intOf]; omega
    · obtain rfl : i = n := by omega
      have hO2 := HO.out
      rw [List.take_of_length_le (by rw [HN.out]; exact Nat.le_refl _)] at hO2
      have HO2 := hid hO2
      clear hO2
      have HLn : Hid ((l.map fun c => c.r.data.toList).length ≤ 100000) := by
        have := HN.out
        unfold Hid
        rw [List.length_map]; omega
      go_wp2_with (first
        | (go_at_call 123; refine (HS.out w.heap.size _ _ HLn.out wr HO2.out HB.out.size).mono ?_; rintro e w5 ⟨rfl, hS5, hb5⟩; have hl5 : ((l.map fun c => c.r.data.toList).mergeSort fun x y => decide (x ≤ y)).length ≤ 100000 := (by rw [List.length_mergeSort]; exact HLn.out))
        | (go_at_call 124; refine (HC.out w.heap.size _ _ hl5 w5 hS5 (Nat.le_trans HB.out.size hb5.size)).mono ?_; rintro e w6 ⟨v6, rfl, hS6, hb6⟩))
      go_ret
      exact ⟨_, rfl, hS6, (HB.out.trans hb5).trans hb6⟩
end Go.Proofs.YtfcnobcpnhfgmaaDoor

/- The statements' own helpers at cells: put, long. Conditions: as each names them. -/
namespace Go.Proofs.YtfcnobcpnhfgmaaDoor
open Go.RowKit

/-- Is a cell greater than is looked at? -/
def longC1 (c : CT) : Bool := decide (60 < c.r.size) || (decide (60 < c.f.size) || (decide (60 < c.q.size) || decide (100 < c.s.size)))
def longC (l : List CT) : Bool := decide (60 < l.length) || l.any longC1

def putC (n : Int) : CT := ⟨⟨#[114]⟩, ⟨#[102]⟩, ⟨#[113]⟩, n, 1, 1, n, ⟨#[]⟩⟩
set_option maxHeartbeats 1000000 in
theorem putc_any (n : Int) (w : World) : Calls Tryd.prog 72 #[.int .i64 n] w fun e w' => e = .returned (putC n).v ∧ Below w.heap.size w w' := by
  go_enter Tryd.func72, Tryd.ntmps72
  go_wp2
  refine bodyPost_ret (v := (putC n).v) (by simp [results, Tryd.results72, go_sem, putC, CT.v, cellV]) rfl ?_
  exact ⟨rfl, below_new _ _⟩

set_option maxHeartbeats 4000000 in
set_option maxRecDepth 100000 in
theorem longcells_any (v : Value) (l : List CT) (w : World) (h : ClA w v l) :
    Calls Tryd.prog 36 #[v, .int .i64 60] w fun e w' => e = .returned (.bool (longC l)) ∧ Below w.heap.size w w' := by
  have mixed : Tryd.prog.follows .mixedOrders = true := by kernel_rfl
  obtain ⟨A, cc, rfl, hc1, hc2, hh⟩ := h
  unfold longC
  obtain ⟨n, hn⟩ : ∃ n, l.length = n := ⟨_, rfl⟩
  have HN := hid hn
  rw [hn] at hc1 hh ⊢
  have HH := hid hh
  clear hn hh
  by_cases hl : 60 < n
  · have hlz : (60 : Int) < (n : Int) := by omega
    rw [decide_eq_true hl]
    go_enter Tryd.func36, Tryd.ntmps36
    go_wp2
    go_ret
    exact ⟨rfl, Below.refl _ _⟩
  · have hlz : ¬ (60 : Int) < (n : Int) := by omega
    rw [decide_eq_false hl]
    go_enter Tryd.func36, Tryd.ntmps36
    go_wp2
    go_loopw [5] (fun vi wr => wr = w ∧ ∃ i : Nat, i ≤ n ∧ vi = .int .i64 i ∧ Hid (l.any longC1 = (l.drop i).any longC1)) (fun vi _ => n - (intOf vi).toNat)
    case atStart => exact ⟨rfl, 0, Nat.zero_le _, rfl, rfl⟩
    case round =>
      obtain ⟨rfl, i, hi, rfl, HA⟩ := hrel
      by_cases hlt : i < n
      · have hin : i < l.length := by rw [HN.out]; exact hlt
        have hltz : (i : Int) < (n : Int) := by omega
        have hltd : decide ((i : Int) < (n : Int)) = true := decide_eq_true hltz
        obtain ⟨b, off, rfl, hhc⟩ := HH.out (by omega)
        obtain ⟨c, hc⟩ : ∃ c, l[i] = c := ⟨_, rfl⟩
        have P : wr.cell? ⟨b, off + i * 8, none⟩ = some (.string c.r) ∧ wr.cell? ⟨b, off + i * 8 + 1, none⟩ = some (.string c.f) ∧ wr.cell? ⟨b, off + i * 8 + 2, none⟩ = some (.string c.q) ∧ wr.cell? ⟨b, off + i * 8 + 3, none⟩ = some (.int .i64 c.t) ∧ wr.cell? ⟨b, off + i * 8 + 4, none⟩ = some (.int .i64 c.k) ∧ wr.cell? ⟨b, off + i * 8 + 5, none⟩ = some (.int .i64 c.vk) ∧ wr.cell? ⟨b, off + i * 8 + 6, none⟩ = some (.int .i64 c.vn) ∧ wr.cell? ⟨b, off + i * 8 + 7, none⟩ = some (.string c.s) := by
          rw [← hc]
          exact hhc.words i hin
        have HD : Hid (l.any longC1 = (longC1 c || (l.drop (i + 1)).any longC1)) := by
          unfold Hid
          rw [HA.out, List.drop_eq_getElem_cons hin, hc]
          rfl
        obtain ⟨p0, p1, p2, p3, p4, p5, p6, p7⟩ := P
        clear hc hhc HA
        by_cases h1 : 60 < c.r.size
        · have h1z : (60 : Int) < (c.r.size : Int) := by omega
          have HE : Hid (l.any longC1 = true) := by unfold Hid; rw [HD.out]; simp [longC1, h1]
          clear h1
          go_wp2
          go_ret
          exact ⟨by rw [HE.out]; rfl, Below.refl _ _⟩
        have h1z : ¬ (60 : Int) < (c.r.size : Int) := by omega
        by_cases h2 : 60 < c.f.size
        · have h2z : (60 : Int) < (c.f.size : Int) := by omega
          have HE : Hid (l.any longC1 = true) := by unfold Hid; rw [HD.out]; simp [longC1, h2]
          clear h1 h2
          go_wp2
          go_ret
          exact ⟨by rw [HE.out]; rfl, Below.refl _ _⟩
        have h2z : ¬ (60 : Int) < (c.f.size : Int) := by omega
        by_cases h3 : 60 < c.q.size
        · have h3z : (60 : Int) < (c.q.size : Int) := by omega
          have HE : Hid (l.any longC1 = true) := by unfold Hid; rw [HD.out]; simp [longC1, h3]
          clear h1 h2 h3
          go_wp2
          go_ret
          exact ⟨by rw [HE.out]; rfl, Below.refl _ _⟩
        have h3z : ¬ (60 : Int) < (c.q.size : Int) := by omega
        by_cases h4 : 100 < c.s.size
        · have h4z : (100 : Int) < (c.s.size : Int) := by omega
          have HE : Hid (l.any longC1 = true) := by unfold Hid; rw [HD.out]; simp [longC1, h4]
          clear h1 h2 h3 h4
          go_wp2
          go_ret
          exact ⟨by rw [HE.out]; rfl, Below.refl _ _⟩
        have h4z : ¬ (100 : Int) < (c.s.size : Int) := by omega
        have HE : Hid (l.any longC1 = (l.drop (i + 1)).any longC1) := by
          unfold Hid
          rw [HD.out]
          simp [longC1, h1, h2, h3, h4]
        clear h1 h2 h3 h4
        go_wp2
        go_roundw
        case rel => exact ⟨trivial, i + 1, by omega, by go_num, HE.out⟩
        case measure => simp [intOf]; omega
      · obtain rfl : i = n := by omega
        have HE : Hid (l.any longC1 = false) := by
          unfold Hid
          rw [HA.out, List.drop_of_length_le (by rw [HN.out]; exact Nat.le_refl _)]
          rfl
        go_wp2
        go_ret
        exact ⟨by rw [HE.out]; rfl, Below.refl _ _⟩
end Go.Proofs.YtfcnobcpnhfgmaaDoor

/- Cells sorted: one list alone is it; it rises; the statements' fixed cells, sorted. -/
namespace Go.Proofs.YtfcnobcpnhfgmaaDoor
open Go.RowKit

theorem stbl_uniq {l : List CT} {l1 l2 : List TT} (h1 : StbL l l1) (h2 : StbL l l2) : l1 = l2 := by
  have hs : Sort.SWO (ltOf tcF) := c3_swo tc3
  refine List.Perm.eq_of_pairwise (le := RT (ltOf tcF) Prod.snd) (fun a b _ _ hab hba => ?_) h1.sorted h2.sorted (h1.perm.trans h2.perm.symm)
  exfalso
  rcases hab with hab | ⟨hab, ht⟩
  · rcases hba with hba | ⟨hba, _⟩
    · rw [swo_asym hs hab] at hba; cases hba
    · rw [hab] at hba; cases hba
  · rcases hba with hba | ⟨_, ht2⟩
    · rw [hab] at hba; cases hba
    · omega
theorem SortOf.uniq {l s t : List CT} (h1 : SortOf l s) (h2 : SortOf l t) : s = t := by
  obtain ⟨l1, a1, rfl⟩ := h1
  obtain ⟨l2, a2, rfl⟩ := h2
  rw [stbl_uniq a1 a2]

theorem lasts_mem : ∀ (l : List CT) (x : CT), x ∈ lastsM l → x ∈ l
  | [], _, h => h
  | [a], _, h => h
  | a :: b :: t, x, h => by
    have ih := lasts_mem (b :: t) x
    have h : x ∈ (if CT.cmp a b = 0 then lastsM (b :: t) else a :: lastsM (b :: t)) := h
    split at h
    · exact List.mem_cons_of_mem _ (ih h)
    · rcases List.mem_cons.1 h with rfl | h
      · exact List.mem_cons_self
      · exact List.mem_cons_of_mem _ (ih h)
theorem lasts_rise : ∀ l : List CT, l.Pairwise (fun x y => CT.cmp x y ≤ 0) → (lastsM l).Pairwise (fun x y => CT.cmp x y < 0)
  | [], _ => List.Pairwise.nil
  | [a], _ => List.pairwise_singleton _ _
  | a :: b :: t, h => by
    obtain ⟨h1, h2⟩ := List.pairwise_cons.1 h
    have ih := lasts_rise (b :: t) h2
    show (if CT.cmp a b = 0 then lastsM (b :: t) else a :: lastsM (b :: t)).Pairwise _
    split
    · exact ih
    · rename_i hne
      refine List.pairwise_cons.2 ⟨fun z hz => ?_, ih⟩
      have hab : CT.cmp a b < 0 := by have := h1 b List.mem_cons_self; omega
      have hz := lasts_mem _ _ hz
      rcases List.mem_cons.1 hz with rfl | hz
      · exact hab
      · exact ct_c3.lt_le hab ((List.pairwise_cons.1 h2).1 z hz)
theorem StbL.le {l : List CT} {l' : List TT} (h : StbL l l') : (l'.map Prod.fst).Pairwise (fun x y => CT.cmp x y ≤ 0) := by
  rw [List.pairwise_map]
  refine h.sorted.imp fun {a b} hab => ?_
  have hs : Sort.SWO (ltOf tcF) := c3_swo tc3
  have h0 := RT.le hs hab
  have h2 : ¬ tcF b a < 0 := by
    intro q
    have h1 : ltOf tcF b a = true := by simpa [ltOf] using q
    rw [h0] at h1
    cases h1
  have h3 := ct_c3.anti b.1 a.1
  have h4 : tcF b a = CT.cmp b.1 a.1 := rfl
  omega
/-- Sorted cells rise. -/
theorem SortOf.rise {l s : List CT} (h : SortOf l s) : s.Pairwise (fun x y => CT.cmp x y < 0) := by
  obtain ⟨l', h1, rfl⟩ := h
  exact lasts_rise _ h1.le
theorem SortOf.mem {l s : List CT} (h : SortOf l s) {c : CT} (hc : c ∈ s) : c ∈ l ∧ c.ok = true := by
  obtain ⟨l', h1, rfl⟩ := h
  have h2 := lasts_mem _ _ hc
  obtain ⟨p, hp, rfl⟩ := List.mem_map.1 h2
  have h3 := h1.perm.mem_iff.1 hp
  obtain ⟨x, i⟩ := p
  exact List.mem_filter.1 (List.fst_mem_of_mem_zipIdx h3)

def goneC : CT := ⟨⟨#[114]⟩, ⟨#[102]⟩, ⟨#[113]⟩, 3, 3, 0, 0, ⟨#[]⟩⟩
def fixedC : List CT := [putC 3, putC 4, goneC, putC 5]
def fixedT : List TT := [(putC 5, 3), (putC 4, 1), (goneC, 2), (putC 3, 0)]
theorem fixed_ok : fixedC.filter CT.ok = fixedC := by
  have h3 : (putC 3).ok = true := by kernel_rfl
  have h4 : (putC 4).ok = true := by kernel_rfl
  have h5 : (putC 5).ok = true := by kernel_rfl
  have hg : goneC.ok = true := by kernel_rfl
  simp [fixedC, h3, h4, h5, hg]
theorem fixed_stb : StbL (fixedC.filter CT.ok) fixedT := by
  rw [fixed_ok]
  constructor
  · show fixedT.Perm [(putC 3, 0), (putC 4, 1), (goneC, 2), (putC 5, 3)]
    exact ((List.reverse_perm [(putC 3, 0), (putC 4, 1), (goneC, 2), (putC 5, 3)]).symm.trans (List.Perm.cons _ (List.Perm.swap _ _ _))).symm
  · have a1 : ltOf tcF (putC 5, 3) (putC 4, 1) = true := by kernel_rfl
    have a2 : ltOf tcF (putC 5, 3) (goneC, 2) = true := by kernel_rfl
    have a3 : ltOf tcF (putC 5, 3) (putC 3, 0) = true := by kernel_rfl
    have a4 : ltOf tcF (putC 4, 1) (goneC, 2) = true := by kernel_rfl
    have a5 : ltOf tcF (putC 4, 1) (putC 3, 0) = true := by kernel_rfl
    have a6 : ltOf tcF (goneC, 2) (putC 3, 0) = true := by kernel_rfl
    simp [fixedT, RT, a1, a2, a3, a4, a5, a6]
theorem fixed_sort {s : List CT} (h : SortOf fixedC s) : s = [putC 5, putC 4, goneC, putC 3] := by
  rw [h.uniq ⟨fixedT, fixed_stb, rfl⟩]
  have a1 : CT.cmp (putC 5) (putC 4) = -1 := by kernel_rfl
  have a2 : CT.cmp (putC 4) goneC = -1 := by kernel_rfl
  have a3 : CT.cmp goneC (putC 3) = -1 := by kernel_rfl
  simp [fixedT, lastsM, a1, a2, a3]
def fixedS : List CT := [putC 5, putC 4, goneC, putC 3]
theorem fixed_seen1 : seenL 1 0 9 fixedS = [putC 5] := by kernel_rfl
theorem fixed_seen8 : (seenL 8 0 9 fixedS).length = 2 := by kernel_rfl
theorem fixed_seen3 : (seenL 8 3 8 fixedS).length = 0 := by kernel_rfl
theorem fixed_value : valueM ⟨#[102]⟩ ⟨#[113]⟩ fixedS (seenL 1 0 9 fixedS) = some (putC 5) := by kernel_rfl
theorem fixed_rows : (rowsL fixedC).length = 1 := by
  have e : (fixedC.map fun c => c.r.data.toList) = [[114], [114], [114], [114]] := by kernel_rfl
  unfold rowsL
  rw [e]
  have m : ([[114], [114], [114], [114]] : List (List UInt8)).mergeSort (fun x y => decide (x ≤ y)) = [[114], [114], [114], [114]] := by
    refine List.mergeSort_of_pairwise ?_
    decide
  rw [m]
  decide
end Go.Proofs.YtfcnobcpnhfgmaaDoor

/- What is let of sorted cells: of each column no more than so many, the latest first. -/
namespace Go.Proofs.YtfcnobcpnhfgmaaDoor
open Go.RowKit

theorem cmp_lex (x y : CT) : CT.cmp x y = (if Lib.compareBytes x.r.data.toList y.r.data.toList = 0 then (if Lib.compareBytes x.f.data.toList y.f.data.toList = 0 then (if Lib.compareInt (rankC x.k) (rankC y.k) = 0 then (if Lib.compareBytes x.q.data.toList y.q.data.toList = 0 then (if Lib.compareInt (-x.t) (-y.t) = 0 then (if Lib.compareInt (-x.k) (-y.k) = 0 then 0 else Lib.compareInt (-x.k) (-y.k)) else Lib.compareInt (-x.t) (-y.t)) else Lib.compareBytes x.q.data.toList y.q.data.toList) else Lib.compareInt (rankC x.k) (rankC y.k)) else Lib.compareBytes x.f.data.toList y.f.data.toList) else Lib.compareBytes x.r.data.toList y.r.data.toList) := by
  have n1 : ∀ a b : Int, Lib.compareInt b a = Lib.compareInt (-a) (-b) := fun a b => by unfold Lib.compareInt; split <;> (try split) <;> (try split) <;> (try split) <;> omega
  unfold CT.cmp cOrd
  simp only [orI_cons, n1 x.t y.t, n1 x.k y.k]
  rfl
theorem lex_le {f g : Int} (h : (if f = 0 then g else f) ≤ 0) : f ≤ 0 ∧ (f = 0 → g ≤ 0) := by
  split at h
  · exact ⟨by omega, fun _ => h⟩
  · exact ⟨h, fun e => by omega⟩
theorem ba_eq {x y : ByteArray} (h : x.data.toList = y.data.toList) : x = y := by
  apply ByteArray.ext
  exact Array.toList_inj.1 h
theorem ba_between {x y : ByteArray} (h1 : Lib.compareBytes x.data.toList y.data.toList ≤ 0) (h2 : Lib.compareBytes y.data.toList x.data.toList ≤ 0) : x = y := by
  have := cmpB_neg x.data.toList y.data.toList
  exact ba_eq (cmpB_zero _ _ (by omega))
theorem int_le {a b : Int} (h : Lib.compareInt a b ≤ 0) : a ≤ b := by
  unfold Lib.compareInt at h
  split at h
  · omega
  · split at h <;> omega
theorem int_self (a : Int) : Lib.compareInt a a = 0 := by
  unfold Lib.compareInt
  split
  · omega
  · rfl
theorem int_lt {a b : Int} (h : Lib.compareInt a b < 0) : a < b := by
  unfold Lib.compareInt at h
  split at h
  · assumption
  · split at h <;> omega

/-- Of one column. -/
abbrev colC (c d : CT) : Prop := c.r = d.r ∧ c.f = d.f ∧ c.q = d.q
/-- What stands between a column's put and another cell of the column is of the column. -/
theorem col_between {d a c : CT} (h : colC c d) (hk : d.k = 1) (h1 : CT.cmp d a ≤ 0) (h2 : CT.cmp a c ≤ 0) : colC c a ∧ c.k ≠ 4 := by
  obtain ⟨hr, hf, hq⟩ := h
  rw [cmp_lex] at h1 h2
  obtain ⟨r1, h1⟩ := lex_le h1
  obtain ⟨r2, h2⟩ := lex_le h2
  rw [hr] at r2
  have er : d.r = a.r := ba_between r1 r2
  have h1 := h1 (by rw [er]; exact cmpB_self _)
  have h2 := h2 (by rw [hr, er]; exact cmpB_self _)
  obtain ⟨f1, h1⟩ := lex_le h1
  obtain ⟨f2, h2⟩ := lex_le h2
  rw [hf] at f2
  have ef : d.f = a.f := ba_between f1 f2
  have h1 := h1 (by rw [ef]; exact cmpB_self _)
  have h2 := h2 (by rw [hf, ef]; exact cmpB_self _)
  obtain ⟨k1, h1⟩ := lex_le h1
  obtain ⟨k2, h2⟩ := lex_le h2
  have k1 := int_le k1
  have k2 := int_le k2
  have kd : rankC d.k = 1 := by rw [hk]; rfl
  have ka : rankC a.k ≤ 1 := by unfold rankC; split <;> omega
  have kc : rankC c.k ≤ 1 := by unfold rankC; split <;> omega
  have h1 := h1 (by rw [show rankC a.k = rankC d.k by omega]; exact int_self _)
  have h2 := h2 (by rw [show rankC c.k = rankC a.k by omega]; exact int_self _)
  obtain ⟨q1, _⟩ := lex_le h1
  obtain ⟨q2, _⟩ := lex_le h2
  rw [hq] at q2
  have eq : d.q = a.q := ba_between q1 q2
  refine ⟨⟨hr.trans er, hf.trans ef, hq.trans eq⟩, fun h4 => ?_⟩
  have : rankC c.k = 0 := by rw [h4]; rfl
  omega
theorem col_time {d c : CT} (h : colC c d) (hd : d.k = 1) (hc : c.k = 1) (h1 : CT.cmp d c < 0) : c.t < d.t := by
  obtain ⟨hr, hf, hq⟩ := h
  rw [cmp_lex, hr, hf, hq, hd, hc, if_pos (cmpB_self _), if_pos (cmpB_self _), if_pos (int_self _), if_pos (cmpB_self _)] at h1
  have := lex_le (Int.le_of_lt h1)
  by_cases e : Lib.compareInt (-d.t) (-c.t) = 0
  · rw [if_pos e, if_pos (int_self _)] at h1; omega
  · have := int_lt (a := -d.t) (b := -c.t) (by omega)
    omega

/-- The statement's walk: the last cell, how many of its column there are. -/
def fewM (ver : Int) : Option CT → Int → List CT → Bool
  | _, _, [] => true
  | p, n, c :: l =>
    if c.k ≠ 1 then false
    else match p with
      | some d => if colC c d then (if d.t ≤ c.t then false else if ver < IntKind.i64.wrap (n + 1) then false else fewM ver (some c) (IntKind.i64.wrap (n + 1)) l) else if ver < 1 then false else fewM ver (some c) 1 l
      | none => if ver < 1 then false else fewM ver (some c) 1 l

/-- How the sight stands to what has been let. -/
def FewI (g : SG) (p : Option CT) (n : Int) (m : List CT) : Prop :=
  0 ≤ g.seen ∧ g.seen ≤ 8 ∧ (p = none → g.seen = 0) ∧ ∀ d, p = some d → d.k = 1 ∧ CT.cmp d g.at' ≤ 0 ∧ (∀ c ∈ m, CT.cmp g.at' c < 0) ∧ (if colC g.at' d then g.seen = n else g.seen = 0)

theorem move_seen (g : SG) (c : CT) : (g.move c).at' = c ∧ (g.move c).seen = if colC c g.at' then g.seen else 0 := by
  unfold SG.move
  by_cases h1 : c.r ≠ g.at'.r ∨ c.f ≠ g.at'.f
  · rw [if_pos h1, if_neg (by rintro ⟨a, b, _⟩; rcases h1 with h | h <;> contradiction)]
    exact ⟨rfl, rfl⟩
  · rw [if_neg h1]
    by_cases h2 : c.q ≠ g.at'.q
    · rw [if_pos h2, if_neg (by rintro ⟨_, _, b⟩; contradiction)]
      exact ⟨rfl, rfl⟩
    · rw [if_neg h2, if_pos (by
        refine ⟨?_, ?_, ?_⟩
        · false_or_by_contra; rename_i q; exact h1 (.inl q)
        · false_or_by_contra; rename_i q; exact h1 (.inr q)
        · false_or_by_contra; rename_i q; exact h2 q)]
      exact ⟨rfl, rfl⟩
theorem lets_seen (g : SG) (c : CT) (ver life now : Int) : (g.lets c ver life now).1.at' = c ∧
    (((g.lets c ver life now).2 = true ∧ c.k = 1 ∧ (g.move c).seen < ver ∧ (g.lets c ver life now).1.seen = IntKind.i64.wrap ((g.move c).seen + 1)) ∨ ((g.lets c ver life now).2 = false ∧ (g.lets c ver life now).1.seen = (g.move c).seen)) := by
  have hm := (move_seen g c).1
  unfold SG.lets
  simp only
  split
  · exact ⟨hm, .inr ⟨rfl, rfl⟩⟩
  · split
    · exact ⟨hm, .inr ⟨rfl, rfl⟩⟩
    · split
      · exact ⟨hm, .inr ⟨rfl, rfl⟩⟩
      · split
        · rename_i h
          exact ⟨hm, .inl ⟨rfl, h.1, h.2.2.2, rfl⟩⟩
        · exact ⟨hm, .inr ⟨rfl, rfl⟩⟩

theorem few_go (ver life now : Int) (h8 : ver ≤ 8) : ∀ (m : List CT) (g : SG) (p : Option CT) (n : Int), m.Pairwise (fun x y => CT.cmp x y < 0) → FewI g p n m → fewM ver p n (seenF ver life now g m) = true
  | [], _, _, _, _, _ => rfl
  | c :: m, g, p, n, hp, hI => by
    obtain ⟨hc, hp'⟩ := List.pairwise_cons.1 hp
    obtain ⟨i0, i8, iN, iS⟩ := hI
    obtain ⟨ha, hs⟩ := lets_seen g c ver life now
    have hmv := (move_seen g c).2
    obtain ⟨G, hG⟩ : ∃ G, (g.lets c ver life now).1 = G := ⟨_, rfl⟩
    show fewM ver p n (if (g.lets c ver life now).2 = true then c :: seenF ver life now (g.lets c ver life now).1 m else seenF ver life now (g.lets c ver life now).1 m) = true
    rw [hG] at ha hs ⊢
    have m0 : 0 ≤ (g.move c).seen ∧ (g.move c).seen ≤ 8 := by rw [hmv]; split <;> omega
    rcases hs with ⟨h2, hk, hlt, hse⟩ | ⟨h2, hse⟩
    · rw [if_pos h2]
      have hw : IntKind.i64.wrap ((g.move c).seen + 1) = (g.move c).seen + 1 := by rw [IntKind.wrap_i64]; omega
      rw [hw] at hse
      have next : ∀ n', G.seen = n' → FewI G (some c) n' m := fun n' hn => by
        refine ⟨by omega, by omega, (fun h => by cases h), fun d hd => ?_⟩
        cases hd
        refine ⟨hk, by rw [ha, ct_c3.zero]; omega, fun x hx => by rw [ha]; exact hc x hx, ?_⟩
        rw [ha, if_pos ⟨rfl, rfl, rfl⟩]
        exact hn
      unfold fewM
      rw [if_neg (by omega)]
      cases p with
      | none =>
        have z := iN rfl
        have z2 : (g.move c).seen = 0 := by rw [hmv]; split <;> omega
        simp only
        rw [if_neg (by omega)]
        exact few_go ver life now h8 m G (some c) 1 hp' (next 1 (by omega))
      | some d =>
        obtain ⟨dk, d1, d2, d3⟩ := iS d rfl
        have hdc : CT.cmp d c < 0 := ct_c3.le_lt d1 (d2 c List.mem_cons_self)
        simp only
        by_cases hcol : colC c d
        · rw [if_pos hcol]
          have ht := col_time hcol dk hk hdc
          rw [if_neg (by omega)]
          have hca := (col_between hcol dk d1 (Int.le_of_lt (d2 c List.mem_cons_self))).1
          rw [if_pos ⟨hca.1.symm.trans hcol.1, hca.2.1.symm.trans hcol.2.1, hca.2.2.symm.trans hcol.2.2⟩] at d3
          rw [if_pos hca] at hmv
          have hw2 : IntKind.i64.wrap (n + 1) = n + 1 := by rw [IntKind.wrap_i64]; omega
          rw [hw2, if_neg (by omega)]
          exact few_go ver life now h8 m G (some c) (n + 1) hp' (next (n + 1) (by omega))
        · rw [if_neg hcol]
          have z2 : (g.move c).seen = 0 := by
            rw [hmv]
            by_cases hca : colC c g.at'
            · rw [if_pos hca]
              rw [if_neg (fun q => hcol ⟨hca.1.trans q.1, hca.2.1.trans q.2.1, hca.2.2.trans q.2.2⟩)] at d3
              exact d3
            · rw [if_neg hca]
          rw [if_neg (by omega)]
          exact few_go ver life now h8 m G (some c) 1 hp' (next 1 (by omega))
    · rw [if_neg (by rw [h2]; decide)]
      refine few_go ver life now h8 m G p n hp' ⟨by omega, by omega, fun h => ?_, fun d hd => ?_⟩
      · have z := iN h
        rw [hse, hmv]; split <;> omega
      · obtain ⟨dk, d1, d2, d3⟩ := iS d hd
        have hac := d2 c List.mem_cons_self
        refine ⟨dk, by rw [ha]; exact Int.le_of_lt (ct_c3.le_lt d1 hac), fun x hx => by rw [ha]; exact hc x hx, ?_⟩
        rw [ha, hse, hmv]
        by_cases hcol : colC c d
        · rw [if_pos hcol]
          have hca := (col_between hcol dk d1 (Int.le_of_lt hac)).1
          rw [if_pos ⟨hca.1.symm.trans hcol.1, hca.2.1.symm.trans hcol.2.1, hca.2.2.symm.trans hcol.2.2⟩] at d3
          rw [if_pos hca]
          exact d3
        · rw [if_neg hcol]
          by_cases hca : colC c g.at'
          · rw [if_pos hca]
            rw [if_neg (fun q => hcol ⟨hca.1.trans q.1, hca.2.1.trans q.2.1, hca.2.2.trans q.2.2⟩)] at d3
            exact d3
          · rw [if_neg hca]
/-- Of each column no more than so many, the latest first. -/
theorem few_all {l s : List CT} (h : SortOf l s) (ver life now : Int) : fewM ver none 0 (seenL ver life now s) = true := by
  unfold seenL
  split
  · rename_i hr
    have h8 : ver ≤ 8 := by
      unfold rightM at hr
      simp only [Bool.and_eq_true, decide_eq_true_eq] at hr
      exact hr.2.1
    exact few_go ver life now h8 s SG.zero none 0 h.rise ⟨by decide, by decide, fun _ => rfl, fun d hd => by cases hd⟩
  · rfl
end Go.Proofs.YtfcnobcpnhfgmaaDoor

/- LongCells at any number. Conditions: the argument stands. -/
namespace Go.Proofs.YtfcnobcpnhfgmaaDoor
open Go.RowKit

/-- Is a list of cells greater than is looked at, m being the most? -/
def longM (m : Nat) (l : List CT) : Bool := decide (m < l.length) || l.any longC1
theorem longM_ok {m : Nat} {l : List CT} (h : longM m l = false) (hv : ∀ c ∈ l, inI c.vn) : l.length ≤ m ∧ ∀ c ∈ l, okC c ∧ c.r.size ≤ 60 ∧ c.f.size ≤ 60 ∧ c.q.size ≤ 60 ∧ c.s.size ≤ 100 := by
  unfold longM at h
  rw [Bool.or_eq_false_iff] at h
  obtain ⟨h1, h2⟩ := h
  have h1 := of_decide_eq_false h1
  refine ⟨by omega, fun c hc => ?_⟩
  have h3 : longC1 c = false := by
    cases e : longC1 c with
    | false => rfl
    | true =>
      rw [List.any_eq_true.2 ⟨c, hc, e⟩] at h2
      cases h2
  unfold longC1 at h3
  simp only [Bool.or_eq_false_iff, decide_eq_false_iff_not] at h3
  exact ⟨⟨by omega, by omega, hv c hc⟩, by omega, by omega, by omega, by omega⟩

set_option maxHeartbeats 4000000 in
set_option maxRecDepth 100000 in
theorem longcells_at (m : Nat) (v : Value) (l : List CT) (w : World) (h : ClA w v l) :
    Calls Tryd.prog 36 #[v, .int .i64 (m : Int)] w fun e w' => e = .returned (.bool (longM m l)) ∧ Below w.heap.size w w' := by
  have mixed : Tryd.prog.follows .mixedOrders = true := by kernel_rfl
  obtain ⟨A, cc, rfl, hc1, hc2, hh⟩ := h
  unfold longM
  obtain ⟨n, hn⟩ : ∃ n, l.length = n := ⟨_, rfl⟩
  have HN := hid hn
  rw [hn] at hc1 hh ⊢
  have HH := hid hh
  clear hn hh
  by_cases hl : m < n
  · have hlz : (m : Int) < (n : Int) := by omega
    rw [decide_eq_true hl]
    go_enter Tryd.func36, Tryd.ntmps36
    go_wp2
    go_ret
    exact ⟨rfl, Below.refl _ _⟩
  · have hlz : ¬ (m : Int) < (n : Int) := by omega
    rw [decide_eq_false hl]
    go_enter Tryd.func36, Tryd.ntmps36
    go_wp2
    go_loopw [5] (fun vi wr => wr = w ∧ ∃ i : Nat, i ≤ n ∧ vi = .int .i64 i ∧ Hid (l.any longC1 = (l.drop i).any longC1)) (fun vi _ => n - (intOf vi).toNat)
    case atStart => exact ⟨rfl, 0, Nat.zero_le _, rfl, rfl⟩
    case round =>
      obtain ⟨rfl, i, hi, rfl, HA⟩ := hrel
      by_cases hlt : i < n
      · have hin : i < l.length := by rw [HN.out]; exact hlt
        have hltz : (i : Int) < (n : Int) := by omega
        have hltd : decide ((i : Int) < (n : Int)) = true := decide_eq_true hltz
        obtain ⟨b, off, rfl, hhc⟩ := HH.out (by omega)
        obtain ⟨c, hc⟩ : ∃ c, l[i] = c := ⟨_, rfl⟩
        have P : wr.cell? ⟨b, off + i * 8, none⟩ = some (.string c.r) ∧ wr.cell? ⟨b, off + i * 8 + 1, none⟩ = some (.string c.f) ∧ wr.cell? ⟨b, off + i * 8 + 2, none⟩ = some (.string c.q) ∧ wr.cell? ⟨b, off + i * 8 + 3, none⟩ = some (.int .i64 c.t) ∧ wr.cell? ⟨b, off + i * 8 + 4, none⟩ = some (.int .i64 c.k) ∧ wr.cell? ⟨b, off + i * 8 + 5, none⟩ = some (.int .i64 c.vk) ∧ wr.cell? ⟨b, off + i * 8 + 6, none⟩ = some (.int .i64 c.vn) ∧ wr.cell? ⟨b, off + i * 8 + 7, none⟩ = some (.string c.s) := by
          rw [← hc]
          exact hhc.words i hin
        have HD : Hid (l.any longC1 = (longC1 c || (l.drop (i + 1)).any longC1)) := by
          unfold Hid
          rw [HA.out, List.drop_eq_getElem_cons hin, hc]
          rfl
        obtain ⟨p0, p1, p2, p3, p4, p5, p6, p7⟩ := P
        clear hc hhc HA
        by_cases h1 : 60 < c.r.size
        · have h1z : (60 : Int) < (c.r.size : Int) := by omega
          have HE : Hid (l.any longC1 = true) := by unfold Hid; rw [HD.out]; simp [longC1, h1]
          clear h1
          go_wp2
          go_ret
          exact ⟨by rw [HE.out]; rfl, Below.refl _ _⟩
        have h1z : ¬ (60 : Int) < (c.r.size : Int) := by omega
        by_cases h2 : 60 < c.f.size
        · have h2z : (60 : Int) < (c.f.size : Int) := by omega
          have HE : Hid (l.any longC1 = true) := by unfold Hid; rw [HD.out]; simp [longC1, h2]
          clear h1 h2
          go_wp2
          go_ret
          exact ⟨by rw [HE.out]; rfl, Below.refl _ _⟩
        have h2z : ¬ (60 : Int) < (c.f.size : Int) := by omega
        by_cases h3 : 60 < c.q.size
        · have h3z : (60 : Int) < (c.q.size : Int) := by omega
          have HE : Hid (l.any longC1 = true) := by unfold Hid; rw [HD.out]; simp [longC1, h3]
          clear h1 h2 h3
          go_wp2
          go_ret
          exact ⟨by rw [HE.out]; rfl, Below.refl _ _⟩
        have h3z : ¬ (60 : Int) < (c.q.size : Int) := by omega
        by_cases h4 : 100 < c.s.size
        · have h4z : (100 : Int) < (c.s.size : Int) := by omega
          have HE : Hid (l.any longC1 = true) := by unfold Hid; rw [HD.out]; simp [longC1, h4]
          clear h1 h2 h3 h4
          go_wp2
          go_ret
          exact ⟨by rw [HE.out]; rfl, Below.refl _ _⟩
        have h4z : ¬ (100 : Int) < (c.s.size : Int) := by omega
        have HE : Hid (l.any longC1 = (l.drop (i + 1)).any longC1) := by
          unfold Hid
          rw [HD.out]
          simp [longC1, h1, h2, h3, h4]
        clear h1 h2 h3 h4
        go_wp2
        go_roundw
        case rel => exact ⟨trivial, i + 1, by omega, by go_num, HE.out⟩
        case measure => simp [intOf]; omega
      · obtain rfl : i = n := by omega
        have HE : Hid (l.any longC1 = false) := by
          unfold Hid
          rw [HA.out, List.drop_of_length_le (by rw [HN.out]; exact Nat.le_refl _)]
          rfl
        go_wp2
        go_ret
        exact ⟨by rw [HE.out]; rfl, Below.refl _ _⟩
end Go.Proofs.YtfcnobcpnhfgmaaDoor

/- The document's Utf8, for every text. Conditions: the text is no longer than any is. -/
namespace Go.Proofs.YtfcnobcpnhfgmaaDoor
open Go.RowKit

/-- How many bytes follow the lead byte c; what of it counts; the least number. -/
def leadN (c : Nat) : Nat := if c < 194 then 0 else if c < 224 then 1 else if c < 240 then 2 else if c < 245 then 3 else 0
def contB (d : Nat) : Bool := decide (128 ≤ d) && decide (d ≤ 191)
def badC (c least : Nat) : Bool := decide (c < least) || decide (1114111 < c) || (decide (55296 ≤ c) && decide (c ≤ 57343))

theorem valid_1 (l : List UInt8) (hne : l ≠ []) (c : Nat) (hc : (l.getD 0 0).toNat = c) (h1 : 194 ≤ c) (h2 : c ≤ 223) :
    Lib.validD l = if 1 < l.length ∧ contB (l.getD 1 0).toNat = true then Lib.validD (l.drop 2) else false := by
  rw [Lib.validD_lead l hne (by omega), hc]
  have f1 : Lib.firstT c % 8 = 2 := by simp [Lib.firstT, show ¬ c < 128 by omega, show ¬ c < 194 by omega, show c < 224 by omega]
  have f2 : Lib.accLo (Lib.firstT c / 16) = 128 := by simp [Lib.firstT, Lib.accLo, show ¬ c < 128 by omega, show ¬ c < 194 by omega, show c < 224 by omega]
  have f3 : Lib.accHi (Lib.firstT c / 16) = 191 := by simp [Lib.firstT, Lib.accHi, show ¬ c < 128 by omega, show ¬ c < 194 by omega, show c < 224 by omega]
  rw [f1, f2, f3]
  generalize (l.getD 1 0).toNat = d1
  unfold Lib.checkN contB
  rw [if_pos rfl]
  by_cases h : l.length < 2 ∨ d1 < 128 ∨ 191 < d1
  · rw [if_pos h, if_neg]
    simp
    omega
  · rw [if_neg h, if_pos]
    simp
    omega

theorem valid_no (l : List UInt8) (hne : l ≠ []) (c : Nat) (hc : (l.getD 0 0).toNat = c) (h : 128 ≤ c) (h2 : c < 194 ∨ 244 < c) : Lib.validD l = false := by
  have h256 := (l.getD 0 0).toNat_lt
  rw [Lib.validD_lead l hne (by omega), hc]
  have f1 : Lib.checkN l.length (l.getD 1 0).toNat (l.getD 2 0).toNat (l.getD 3 0).toNat (Lib.firstT c % 8) (Lib.accLo (Lib.firstT c / 16)) (Lib.accHi (Lib.firstT c / 16)) = none := by
    rcases h2 with h2 | h2
    · simp [Lib.firstT, Lib.checkN, show ¬ c < 128 by omega, h2]
    · simp [Lib.firstT, Lib.checkN, show ¬ c < 128 by omega, show ¬ c < 194 by omega, show ¬ c < 224 by omega, show ¬ c = 224 by omega, show ¬ c < 237 by omega, show ¬ c = 237 by omega, show ¬ c < 240 by omega, show ¬ c = 240 by omega, show ¬ c < 244 by omega, show ¬ c = 244 by omega]
  rw [f1]

theorem valid_2 (l : List UInt8) (hne : l ≠ []) (c : Nat) (hc : (l.getD 0 0).toNat = c) (h1 : 224 ≤ c) (h2 : c ≤ 239) :
    Lib.validD l = if 2 < l.length ∧ contB (l.getD 1 0).toNat = true ∧ contB (l.getD 2 0).toNat = true ∧ badC (((c - 224) * 64 + (l.getD 1 0).toNat - 128) * 64 + (l.getD 2 0).toNat - 128) 2048 = false then Lib.validD (l.drop 3) else false := by
  rw [Lib.validD_lead l hne (by omega), hc]
  generalize (l.getD 1 0).toNat = d1
  generalize (l.getD 2 0).toNat = d2
  obtain ⟨lo, hi, f1, f2, f3, hk⟩ : ∃ lo hi, Lib.firstT c % 8 = 3 ∧ Lib.accLo (Lib.firstT c / 16) = lo ∧ Lib.accHi (Lib.firstT c / 16) = hi ∧ ((c = 224 ∧ lo = 160 ∧ hi = 191) ∨ (c = 237 ∧ lo = 128 ∧ hi = 159) ∨ (c ≠ 224 ∧ c ≠ 237 ∧ lo = 128 ∧ hi = 191)) := by
    by_cases q1 : c = 224
    · subst q1; exact ⟨160, 191, by decide, by decide, by decide, .inl ⟨rfl, rfl, rfl⟩⟩
    · by_cases q2 : c = 237
      · subst q2; exact ⟨128, 159, by decide, by decide, by decide, .inr (.inl ⟨rfl, rfl, rfl⟩)⟩
      · refine ⟨128, 191, ?_, ?_, ?_, .inr (.inr ⟨q1, q2, rfl, rfl⟩)⟩ <;>
        · by_cases q3 : c < 237
          · simp [Lib.firstT, Lib.accLo, Lib.accHi, show ¬ c < 128 by omega, show ¬ c < 194 by omega, show ¬ c < 224 by omega, q1, q3]
          · simp [Lib.firstT, Lib.accLo, Lib.accHi, show ¬ c < 128 by omega, show ¬ c < 194 by omega, show ¬ c < 224 by omega, q1, q2, q3, show c < 240 by omega]
  rw [f1, f2, f3]
  unfold Lib.checkN contB badC
  rw [if_neg (by decide), if_pos rfl]
  clear f1 f2 f3 hne hc
  by_cases h : l.length < 3 ∨ d1 < lo ∨ hi < d1 ∨ d2 < 128 ∨ 191 < d2
  · rw [if_pos h, if_neg]
    simp
    omega
  · rw [if_neg h, if_pos]
    simp
    omega

theorem valid_3 (l : List UInt8) (hne : l ≠ []) (c : Nat) (hc : (l.getD 0 0).toNat = c) (h1 : 240 ≤ c) (h2 : c ≤ 244) :
    Lib.validD l = if 3 < l.length ∧ contB (l.getD 1 0).toNat = true ∧ contB (l.getD 2 0).toNat = true ∧ contB (l.getD 3 0).toNat = true ∧ badC ((((c - 240) * 64 + (l.getD 1 0).toNat - 128) * 64 + (l.getD 2 0).toNat - 128) * 64 + (l.getD 3 0).toNat - 128) 65536 = false then Lib.validD (l.drop 4) else false := by
  rw [Lib.validD_lead l hne (by omega), hc]
  generalize (l.getD 1 0).toNat = d1
  generalize (l.getD 2 0).toNat = d2
  generalize (l.getD 3 0).toNat = d3
  obtain ⟨lo, hi, f1, f2, f3, hk⟩ : ∃ lo hi, Lib.firstT c % 8 = 4 ∧ Lib.accLo (Lib.firstT c / 16) = lo ∧ Lib.accHi (Lib.firstT c / 16) = hi ∧ ((c = 240 ∧ lo = 144 ∧ hi = 191) ∨ (c = 244 ∧ lo = 128 ∧ hi = 143) ∨ (c ≠ 240 ∧ c ≠ 244 ∧ lo = 128 ∧ hi = 191)) := by
    rcases (show c = 240 ∨ c = 241 ∨ c = 242 ∨ c = 243 ∨ c = 244 by omega) with rfl | rfl | rfl | rfl | rfl
    · exact ⟨144, 191, by decide, by decide, by decide, .inl ⟨rfl, rfl, rfl⟩⟩
    · exact ⟨128, 191, by decide, by decide, by decide, .inr (.inr ⟨by decide, by decide, rfl, rfl⟩)⟩
    · exact ⟨128, 191, by decide, by decide, by decide, .inr (.inr ⟨by decide, by decide, rfl, rfl⟩)⟩
    · exact ⟨128, 191, by decide, by decide, by decide, .inr (.inr ⟨by decide, by decide, rfl, rfl⟩)⟩
    · exact ⟨128, 143, by decide, by decide, by decide, .inr (.inl ⟨rfl, rfl, rfl⟩)⟩
  rw [f1, f2, f3]
  unfold Lib.checkN contB badC
  rw [if_neg (by decide), if_neg (by decide), if_pos rfl]
  clear f1 f2 f3 hne hc
  by_cases h : l.length < 4 ∨ d1 < lo ∨ hi < d1 ∨ d2 < 128 ∨ 191 < d2 ∨ d3 < 128 ∨ 191 < d3
  · rw [if_pos h, if_neg]
    simp
    omega
  · rw [if_neg h, if_pos]
    simp
    omega

end Go.Proofs.YtfcnobcpnhfgmaaDoor

/- A byte of a text. Conditions: none. -/
namespace Go.Proofs.YtfcnobcpnhfgmaaDoor
open Go.RowKit

theorem string_at (s : ByteArray) (k : Nat) (h : k < s.size) (W : World) : (Instr.index 9 (.string s) (.int .i64 (k : Int))).run Tryd.prog W = .ok (.int .u8 (s[k].toNat : Int)) W := by
  have h0 : (0 : Int) ≤ (k : Int) := by omega
  simp [Instr.index, run_underlying Tryd.underlying9, asIntOf, h0, h]
theorem Row.drewN {w : World} {B : Nat} {v : Value} {l : List UInt8} (h : Row w B v l) (n : Nat) : Row (w.drewN n) B v l := h
end Go.Proofs.YtfcnobcpnhfgmaaDoor

/- The document's Utf8, for every text: it says what utf8.ValidString says. Conditions: the text is no longer than any is. -/
namespace Go.Proofs.YtfcnobcpnhfgmaaDoor
open Go.RowKit

/-- What the outer loop knows. -/
def OInv (s : ByteArray) (vi : Value) : Prop :=
  ∃ i : Nat, i ≤ s.size ∧ vi = .int .i64 i ∧ Lib.validD s.data.toList = Lib.validD (s.data.toList.drop i)

def dB (s : ByteArray) (i k : Nat) : Nat := (s.data.toList.getD (i + k) 0).toNat
/-- The number so far, k bytes behind the lead. -/
def part (s : ByteArray) (i base : Nat) : Nat → Nat
  | 0 => dB s i 0 - base
  | k + 1 => part s i base k * 64 + dB s i (k + 1) - 128
def contsB (s : ByteArray) (i : Nat) : Nat → Bool
  | 0 => true
  | k + 1 => contsB s i k && contB (dB s i (k + 1))
theorem contsB_mono (s : ByteArray) (i : Nat) : ∀ n k, k ≤ n → contsB s i n = true → contsB s i k = true
  | 0, k, h, _ => by obtain rfl : k = 0 := by omega
                     rfl
  | n + 1, k, h, hc => by
    by_cases e : k = n + 1
    · rw [e]; exact hc
    · simp only [contsB, Bool.and_eq_true] at hc
      exact contsB_mono s i n k (by omega) hc.1
theorem contsB_bad (s : ByteArray) (i n k : Nat) (h1 : 1 ≤ k) (h2 : k ≤ n) (hb : contB (dB s i k) = false) : contsB s i n = false := by
  cases h : contsB s i n
  · rfl
  · have := contsB_mono s i n k h2 h
    obtain ⟨j, rfl⟩ : ∃ j, k = j + 1 := ⟨k - 1, by omega⟩
    simp only [contsB, Bool.and_eq_true] at this
    rw [hb] at this
    exact absurd this.2 (by decide)
theorem part_lt (s : ByteArray) (i base : Nat) (h0 : part s i base 0 < 32) (k : Nat) : contsB s i k = true → part s i base k < 32 * 64 ^ k := by
  induction k with
  | zero =>
    intro _
    have e : 32 * 64 ^ 0 = 32 := by decide
    rw [e]; exact h0
  | succ k ih =>
    intro h
    simp only [contsB, Bool.and_eq_true] at h
    have ih2 := ih h.1
    have hd := h.2
    clear h ih h0
    unfold contB at hd
    simp only [Bool.and_eq_true, decide_eq_true_eq] at hd
    have e : 32 * 64 ^ (k + 1) = 32 * 64 ^ k * 64 := by rw [Nat.pow_succ, Nat.mul_assoc]
    rw [e]
    obtain ⟨P, hP⟩ : ∃ P, 32 * 64 ^ k = P := ⟨_, rfl⟩
    rw [hP] at ih2 ⊢
    clear hP e
    have e2 : part s i base (k + 1) = part s i base k * 64 + dB s i (k + 1) - 128 := rfl
    rw [e2]
    omega
theorem part_small (s : ByteArray) (i base : Nat) (h0 : part s i base 0 < 32) (k : Nat) (hk : k ≤ 3) (h : contsB s i k = true) : part s i base k < 10000000 := by
  have h1 := part_lt s i base h0 k h
  have h2 : 32 * 64 ^ k ≤ 8388608 := by
    rcases (show k = 0 ∨ k = 1 ∨ k = 2 ∨ k = 3 by omega) with rfl | rfl | rfl | rfl <;> decide
  obtain ⟨P, hP⟩ : ∃ P, 32 * 64 ^ k = P := ⟨_, rfl⟩
  rw [hP] at h1 h2
  omega
theorem part_next {s : ByteArray} {i base k p d : Nat} (hk : 1 ≤ k) (hp : p = part s i base (k - 1)) (hc : contsB s i (k - 1) = true) (hd : dB s i k = d) (h1 : 128 ≤ d) (h2 : d ≤ 191) : part s i base k = p * 64 + d - 128 ∧ contsB s i k = true := by
  obtain ⟨j, rfl⟩ : ∃ j, k = j + 1 := ⟨k - 1, by omega⟩
  have e : j + 1 - 1 = j := by omega
  rw [e] at hp hc
  refine ⟨?_, ?_⟩
  · show part s i base j * 64 + dB s i (j + 1) - 128 = _
    rw [← hp, hd]
  · show (contsB s i j && contB (dB s i (j + 1))) = true
    rw [hc, hd]
    unfold contB
    simp
    omega
theorem drop_getD (s : ByteArray) (i k : Nat) : (s.data.toList.drop i).getD k 0 = s.data.toList.getD (i + k) 0 := by
  simp [List.getD_eq_getElem?_getD]
theorem drop_ne (s : ByteArray) (i : Nat) (h : i < s.size) : s.data.toList.drop i ≠ [] := by
  intro e
  have := congrArg List.length e
  have h2 : s.data.toList.length = s.size := rfl
  simp at this
  omega
theorem drop_len (s : ByteArray) (i : Nat) : (s.data.toList.drop i).length = s.size - i := by simp
theorem getD_s (s : ByteArray) (i : Nat) (h : i < s.size) : s.data.toList.getD i 0 = s[i] := by
  rw [List.getD_eq_getElem?_getD, List.getElem?_eq_getElem (show i < s.data.toList.length from h)]
  rfl

theorem dB_s (s : ByteArray) (i k : Nat) (h : i + k < s.size) : dB s i k = s[i + k].toNat := by
  unfold dB
  rw [getD_s s (i + k) h]
theorem dB_drop (s : ByteArray) (i k : Nat) : ((s.data.toList.drop i).getD k 0).toNat = dB s i k := by unfold dB; rw [drop_getD]
/-- What validD says at a lead byte that n bytes follow. -/
def Lead (s : ByteArray) (i n base least : Nat) : Prop :=
  Lib.validD s.data.toList = if i + n < s.size ∧ contsB s i n = true ∧ badC (part s i base n) least = false then Lib.validD (s.data.toList.drop (i + (n + 1))) else false
theorem if_iff {p q : Prop} [Decidable p] [Decidable q] {a b : Bool} (h : p ↔ q) : (if p then a else b) = if q then a else b := by
  by_cases hp : p
  · rw [if_pos hp, if_pos (h.1 hp)]
  · rw [if_neg hp, if_neg (fun hq => hp (h.2 hq))]
theorem lead_1 (s : ByteArray) (i : Nat) (hi : i < s.size) (hv : Lib.validD s.data.toList = Lib.validD (s.data.toList.drop i)) (h1 : 194 ≤ dB s i 0) (h2 : dB s i 0 ≤ 223) : Lead s i 1 192 128 := by
  unfold Lead
  rw [hv, valid_1 _ (drop_ne s i hi) _ (dB_drop s i 0) h1 h2, dB_drop, drop_len, List.drop_drop]
  refine if_iff ?_
  unfold contsB contsB badC contB part part
  simp
  omega
theorem lead_2 (s : ByteArray) (i : Nat) (hi : i < s.size) (hv : Lib.validD s.data.toList = Lib.validD (s.data.toList.drop i)) (h1 : 224 ≤ dB s i 0) (h2 : dB s i 0 ≤ 239) : Lead s i 2 224 2048 := by
  unfold Lead
  rw [hv, valid_2 _ (drop_ne s i hi) _ (dB_drop s i 0) h1 h2, dB_drop, dB_drop, drop_len, List.drop_drop]
  refine if_iff ?_
  unfold contsB contsB contsB part part part
  simp only [Bool.and_eq_true, true_and]
  constructor
  · rintro ⟨a, b, c, d⟩; exact ⟨by omega, ⟨b, c⟩, d⟩
  · rintro ⟨a, ⟨b, c⟩, d⟩; exact ⟨by omega, b, c, d⟩
theorem lead_3 (s : ByteArray) (i : Nat) (hi : i < s.size) (hv : Lib.validD s.data.toList = Lib.validD (s.data.toList.drop i)) (h1 : 240 ≤ dB s i 0) (h2 : dB s i 0 ≤ 244) : Lead s i 3 240 65536 := by
  unfold Lead
  rw [hv, valid_3 _ (drop_ne s i hi) _ (dB_drop s i 0) h1 h2, dB_drop, dB_drop, dB_drop, drop_len, List.drop_drop]
  refine if_iff ?_
  unfold contsB contsB contsB contsB part part part part
  simp only [Bool.and_eq_true, true_and]
  constructor
  · rintro ⟨a, b, c, d, e⟩; exact ⟨by omega, ⟨⟨b, c⟩, d⟩, e⟩
  · rintro ⟨a, ⟨⟨b, c⟩, d⟩, e⟩; exact ⟨by omega, b, c, d, e⟩

/-- What the inner loop knows. -/
def KInv (s : ByteArray) (i n base : Nat) (vc vk : Value) : Prop :=
  ∃ k p : Nat, 1 ≤ k ∧ k ≤ n + 1 ∧ vk = .int .i64 k ∧ vc = .int .i64 p ∧ p = part s i base (k - 1) ∧ p < 10000000 ∧ contsB s i (k - 1) = true

end Go.Proofs.YtfcnobcpnhfgmaaDoor

/- The document's Utf8, for every text: it says what utf8.ValidString says. Conditions: texts of at most a million bytes. -/
namespace Go.Proofs.YtfcnobcpnhfgmaaDoor
open Go.RowKit

set_option maxHeartbeats 16000000 in
set_option maxRecDepth 100000 in
theorem utf8_any (s : ByteArray) (hs : s.size ≤ 1000000) (w : World) :
    Calls Tryd.prog 125 #[.string s] w fun e w' => e = .returned (.bool (Lib.validD s.data.toList)) ∧ w = w' := by
  go_enter Tryd.func125, Tryd.ntmps125
  go_wp2
  go_loop [3] (fun vi => OInv s vi) (fun vi => s.size - (intOf vi).toNat)
  case atStart => exact ⟨0, Nat.zero_le _, rfl, rfl⟩
  case round =>
    obtain ⟨i, hi, rfl, hv⟩ := hrel
    by_cases hlt : i < s.size
    · have hd0 := dB_s s i 0 (by omega)
      simp only [Nat.add_zero] at hd0
      by_cases c1 : s[i].toNat < 128
      · have HV : Hid (Lib.validD s.data.toList = Lib.validD (s.data.toList.drop (i + 1))) := by
          have e := Lib.validD_cons s[i] (s.data.toList.drop (i + 1)) c1
          rw [hv, ← e, List.drop_eq_getElem_cons (show i < s.data.toList.length from hlt)]
          rfl
        clear hd0 hv
        go_wp2
        go_round
        case rel => exact ⟨i + 1, by omega, by go_num, HV.out⟩
        case measure => simp [intOf]; omega
      · have hsel : (194 ≤ s[i].toNat ∧ s[i].toNat ≤ 223) ∨ (224 ≤ s[i].toNat ∧ s[i].toNat ≤ 239) ∨ (240 ≤ s[i].toNat ∧ s[i].toNat ≤ 244) ∨ (s[i].toNat < 194 ∨ 244 < s[i].toNat) := by omega
        rcases hsel with ⟨h1, h2⟩ | ⟨h1, h2⟩ | ⟨h1, h2⟩ | hno
        · have HL := hid (lead_1 s i hlt hv (by omega) (by omega))
          have HP0 : Hid (part s i 192 0 = s[i].toNat - 192) := by unfold Hid part; rw [hd0]
          have HP32 : Hid (part s i 192 0 < 32) := by have := HP0.out; unfold Hid; omega
          have hq : (s[i].toNat : Int) - 192 = ((s[i].toNat - 192 : Nat) : Int) := by omega
          obtain ⟨p0, hp0⟩ : ∃ p0, s[i].toNat - 192 = p0 := ⟨_, rfl⟩
          rw [hp0] at HP0 hq
          have hp32 : p0 < 32 := by omega
          clear hd0 hv hp0
          by_cases hlen : i + 1 < s.size
          · have hge : ¬ ((s.size : Int) ≤ (i : Int) + 1) := by omega
            go_wp2
            go_loop [4, 7, 8] (fun vc vk _ => KInv s i 1 192 vc vk) (fun _ vk _ => 2 - (intOf vk).toNat)
            case atStart => exact ⟨1, p0, by omega, by omega, rfl, rfl, HP0.out.symm, by omega, rfl⟩
            case round =>
              obtain ⟨k, p, hk1, hk2, rfl, rfl, hp, hpb, hcs⟩ := hrel
              have HPP := hid hp
              have HCS := hid hcs
              clear hp hcs hq
              by_cases hkn : k ≤ 1
              · have hdk := hid (dB_s s i k (by omega))
                have hix : i + k < s.size := by omega
                obtain ⟨d, hd⟩ : ∃ d, s[i + k].toNat = d := ⟨_, rfl⟩
                have hat : (Instr.index 9 (.string s) (.int .i64 ((i : Int) + (k : Int)))).run Tryd.prog w = .ok (.int .u8 (d : Int)) w := by
                  have := string_at s (i + k) hix w
                  rw [hd] at this
                  rw [← this]
                  simp
                rw [hd] at hdk
                have hd256 : d < 256 := by rw [← hd]; exact s[i + k].toNat_lt
                clear hd
                by_cases hcb : 128 ≤ d ∧ d ≤ 191
                · obtain ⟨e1, e2⟩ := hcb
                  have HN := hid (part_next hk1 HPP.out HCS.out hdk.out e1 e2)
                  have HLT := hid (part_small s i 192 HP32.out k (by omega) HN.out.2)
                  go_wp2
                  go_round
                  case rel => exact ⟨k + 1, p * 64 + d - 128, by omega, by omega, by go_num, by go_num, HN.out.1.symm, by rw [← HN.out.1]; exact HLT.out, HN.out.2⟩
                  case measure => simp [intOf]; omega
                · have HF : Hid (Lib.validD s.data.toList = false) := by
                    have h1 := HL.out
                    unfold Lead at h1
                    rw [if_neg] at h1
                    · exact h1
                    · rintro ⟨_, h2, _⟩
                      rw [contsB_bad s i 1 k hk1 hkn (by rw [hdk.out]; unfold contB; simp; omega)] at h2
                      cases h2
                  go_wp2
                  all_goals first | (exfalso; omega) | skip
                  all_goals go_ret
                  all_goals exact ⟨ret_bool HF.out.symm, rfl⟩
              · obtain rfl : k = 2 := by omega
                have hp : p = part s i 192 1 := HPP.out
                have hcs : contsB s i 1 = true := HCS.out
                cases hbad : badC p 128
                · have HV : Hid (Lib.validD s.data.toList = Lib.validD (s.data.toList.drop (i + 2))) := by
                    have h1 := HL.out
                    unfold Lead at h1
                    rw [if_pos ⟨hlen, hcs, by rw [← hp]; exact hbad⟩] at h1
                    exact h1
                  have hb1 : 128 ≤ p ∧ p ≤ 1114111 ∧ ¬ (55296 ≤ p ∧ p ≤ 57343) := by
                    unfold badC at hbad
                    simp at hbad
                    omega
                  obtain ⟨b1, b2, b3⟩ := hb1
                  clear hp hcs hbad HPP HCS
                  go_wp2
                  all_goals first | (exfalso; omega) | skip
                  all_goals
                    go_round
                    case rel => exact ⟨i + 2, by omega, by go_num, HV.out⟩
                    case measure => simp [intOf]; omega
                · have HF : Hid (Lib.validD s.data.toList = false) := by
                    have h1 := HL.out
                    unfold Lead at h1
                    rw [if_neg] at h1
                    · exact h1
                    · rintro ⟨_, _, h2⟩
                      rw [← hp, hbad] at h2
                      cases h2
                  have hb1 : p < 128 ∨ 1114111 < p ∨ (55296 ≤ p ∧ p ≤ 57343) := by
                    unfold badC at hbad
                    simp at hbad
                    omega
                  clear hp hcs hbad HPP HCS
                  go_wp2
                  all_goals first | (exfalso; omega) | skip
                  all_goals go_ret
                  all_goals exact ⟨ret_bool HF.out.symm, rfl⟩
          · have HF : Hid (Lib.validD s.data.toList = false) := by
              have h1 := HL.out
              unfold Lead at h1
              rw [if_neg (fun h => hlen h.1)] at h1
              exact h1
            go_wp2
            all_goals first | (exfalso; omega) | skip
            all_goals go_ret
            all_goals exact ⟨ret_bool HF.out.symm, rfl⟩
        · have HL := hid (lead_2 s i hlt hv (by omega) (by omega))
          have HP0 : Hid (part s i 224 0 = s[i].toNat - 224) := by unfold Hid part; rw [hd0]
          have HP32 : Hid (part s i 224 0 < 32) := by have := HP0.out; unfold Hid; omega
          have hq : (s[i].toNat : Int) - 224 = ((s[i].toNat - 224 : Nat) : Int) := by omega
          obtain ⟨p0, hp0⟩ : ∃ p0, s[i].toNat - 224 = p0 := ⟨_, rfl⟩
          rw [hp0] at HP0 hq
          have hp32 : p0 < 32 := by omega
          clear hd0 hv hp0
          by_cases hlen : i + 2 < s.size
          · have hge : ¬ ((s.size : Int) ≤ (i : Int) + 2) := by omega
            go_wp2
            go_loop [4, 7, 8] (fun vc vk _ => KInv s i 2 224 vc vk) (fun _ vk _ => 3 - (intOf vk).toNat)
            case atStart => exact ⟨1, p0, by omega, by omega, rfl, rfl, HP0.out.symm, by omega, rfl⟩
            case round =>
              obtain ⟨k, p, hk1, hk2, rfl, rfl, hp, hpb, hcs⟩ := hrel
              have HPP := hid hp
              have HCS := hid hcs
              clear hp hcs hq
              by_cases hkn : k ≤ 2
              · have hdk := hid (dB_s s i k (by omega))
                have hix : i + k < s.size := by omega
                obtain ⟨d, hd⟩ : ∃ d, s[i + k].toNat = d := ⟨_, rfl⟩
                have hat : (Instr.index 9 (.string s) (.int .i64 ((i : Int) + (k : Int)))).run Tryd.prog w = .ok (.int .u8 (d : Int)) w := by
                  have := string_at s (i + k) hix w
                  rw [hd] at this
                  rw [← this]
                  simp
                rw [hd] at hdk
                have hd256 : d < 256 := by rw [← hd]; exact s[i + k].toNat_lt
                clear hd
                by_cases hcb : 128 ≤ d ∧ d ≤ 191
                · obtain ⟨e1, e2⟩ := hcb
                  have HN := hid (part_next hk1 HPP.out HCS.out hdk.out e1 e2)
                  have HLT := hid (part_small s i 224 HP32.out k (by omega) HN.out.2)
                  go_wp2
                  go_round
                  case rel => exact ⟨k + 1, p * 64 + d - 128, by omega, by omega, by go_num, by go_num, HN.out.1.symm, by rw [← HN.out.1]; exact HLT.out, HN.out.2⟩
                  case measure => simp [intOf]; omega
                · have HF : Hid (Lib.validD s.data.toList = false) := by
                    have h1 := HL.out
                    unfold Lead at h1
                    rw [if_neg] at h1
                    · exact h1
                    · rintro ⟨_, h2, _⟩
                      rw [contsB_bad s i 2 k hk1 hkn (by rw [hdk.out]; unfold contB; simp; omega)] at h2
                      cases h2
                  go_wp2
                  all_goals first | (exfalso; omega) | skip
                  all_goals go_ret
                  all_goals exact ⟨ret_bool HF.out.symm, rfl⟩
              · obtain rfl : k = 3 := by omega
                have hp : p = part s i 224 2 := HPP.out
                have hcs : contsB s i 2 = true := HCS.out
                cases hbad : badC p 2048
                · have HV : Hid (Lib.validD s.data.toList = Lib.validD (s.data.toList.drop (i + 3))) := by
                    have h1 := HL.out
                    unfold Lead at h1
                    rw [if_pos ⟨hlen, hcs, by rw [← hp]; exact hbad⟩] at h1
                    exact h1
                  have hb1 : 2048 ≤ p ∧ p ≤ 1114111 ∧ ¬ (55296 ≤ p ∧ p ≤ 57343) := by
                    unfold badC at hbad
                    simp at hbad
                    omega
                  obtain ⟨b1, b2, b3⟩ := hb1
                  clear hp hcs hbad HPP HCS
                  go_wp2
                  all_goals first | (exfalso; omega) | skip
                  all_goals
                    go_round
                    case rel => exact ⟨i + 3, by omega, by go_num, HV.out⟩
                    case measure => simp [intOf]; omega
                · have HF : Hid (Lib.validD s.data.toList = false) := by
                    have h1 := HL.out
                    unfold Lead at h1
                    rw [if_neg] at h1
                    · exact h1
                    · rintro ⟨_, _, h2⟩
                      rw [← hp, hbad] at h2
                      cases h2
                  have hb1 : p < 2048 ∨ 1114111 < p ∨ (55296 ≤ p ∧ p ≤ 57343) := by
                    unfold badC at hbad
                    simp at hbad
                    omega
                  clear hp hcs hbad HPP HCS
                  go_wp2
                  all_goals first | (exfalso; omega) | skip
                  all_goals go_ret
                  all_goals exact ⟨ret_bool HF.out.symm, rfl⟩
          · have HF : Hid (Lib.validD s.data.toList = false) := by
              have h1 := HL.out
              unfold Lead at h1
              rw [if_neg (fun h => hlen h.1)] at h1
              exact h1
            go_wp2
            all_goals first | (exfalso; omega) | skip
            all_goals go_ret
            all_goals exact ⟨ret_bool HF.out.symm, rfl⟩
        · have HL := hid (lead_3 s i hlt hv (by omega) (by omega))
          have HP0 : Hid (part s i 240 0 = s[i].toNat - 240) := by unfold Hid part; rw [hd0]
          have HP32 : Hid (part s i 240 0 < 32) := by have := HP0.out; unfold Hid; omega
          have hq : (s[i].toNat : Int) - 240 = ((s[i].toNat - 240 : Nat) : Int) := by omega
          obtain ⟨p0, hp0⟩ : ∃ p0, s[i].toNat - 240 = p0 := ⟨_, rfl⟩
          rw [hp0] at HP0 hq
          have hp32 : p0 < 32 := by omega
          clear hd0 hv hp0
          by_cases hlen : i + 3 < s.size
          · have hge : ¬ ((s.size : Int) ≤ (i : Int) + 3) := by omega
            go_wp2
            go_loop [4, 7, 8] (fun vc vk _ => KInv s i 3 240 vc vk) (fun _ vk _ => 4 - (intOf vk).toNat)
            case atStart => exact ⟨1, p0, by omega, by omega, rfl, rfl, HP0.out.symm, by omega, rfl⟩
            case round =>
              obtain ⟨k, p, hk1, hk2, rfl, rfl, hp, hpb, hcs⟩ := hrel
              have HPP := hid hp
              have HCS := hid hcs
              clear hp hcs hq
              by_cases hkn : k ≤ 3
              · have hdk := hid (dB_s s i k (by omega))
                have hix : i + k < s.size := by omega
                obtain ⟨d, hd⟩ : ∃ d, s[i + k].toNat = d := ⟨_, rfl⟩
                have hat : (Instr.index 9 (.string s) (.int .i64 ((i : Int) + (k : Int)))).run Tryd.prog w = .ok (.int .u8 (d : Int)) w := by
                  have := string_at s (i + k) hix w
                  rw [hd] at this
                  rw [← this]
                  simp
                rw [hd] at hdk
                have hd256 : d < 256 := by rw [← hd]; exact s[i + k].toNat_lt
                clear hd
                by_cases hcb : 128 ≤ d ∧ d ≤ 191
                · obtain ⟨e1, e2⟩ := hcb
                  have HN := hid (part_next hk1 HPP.out HCS.out hdk.out e1 e2)
                  have HLT := hid (part_small s i 240 HP32.out k (by omega) HN.out.2)
                  go_wp2
                  go_round
                  case rel => exact ⟨k + 1, p * 64 + d - 128, by omega, by omega, by go_num, by go_num, HN.out.1.symm, by rw [← HN.out.1]; exact HLT.out, HN.out.2⟩
                  case measure => simp [intOf]; omega
                · have HF : Hid (Lib.validD s.data.toList = false) := by
                    have h1 := HL.out
                    unfold Lead at h1
                    rw [if_neg] at h1
                    · exact h1
                    · rintro ⟨_, h2, _⟩
                      rw [contsB_bad s i 3 k hk1 hkn (by rw [hdk.out]; unfold contB; simp; omega)] at h2
                      cases h2
                  go_wp2
                  all_goals first | (exfalso; omega) | skip
                  all_goals go_ret
                  all_goals exact ⟨ret_bool HF.out.symm, rfl⟩
              · obtain rfl : k = 4 := by omega
                have hp : p = part s i 240 3 := HPP.out
                have hcs : contsB s i 3 = true := HCS.out
                cases hbad : badC p 65536
                · have HV : Hid (Lib.validD s.data.toList = Lib.validD (s.data.toList.drop (i + 4))) := by
                    have h1 := HL.out
                    unfold Lead at h1
                    rw [if_pos ⟨hlen, hcs, by rw [← hp]; exact hbad⟩] at h1
                    exact h1
                  have hb1 : 65536 ≤ p ∧ p ≤ 1114111 ∧ ¬ (55296 ≤ p ∧ p ≤ 57343) := by
                    unfold badC at hbad
                    simp at hbad
                    omega
                  obtain ⟨b1, b2, b3⟩ := hb1
                  clear hp hcs hbad HPP HCS
                  go_wp2
                  all_goals first | (exfalso; omega) | skip
                  all_goals
                    go_round
                    case rel => exact ⟨i + 4, by omega, by go_num, HV.out⟩
                    case measure => simp [intOf]; omega
                · have HF : Hid (Lib.validD s.data.toList = false) := by
                    have h1 := HL.out
                    unfold Lead at h1
                    rw [if_neg] at h1
                    · exact h1
                    · rintro ⟨_, _, h2⟩
                      rw [← hp, hbad] at h2
                      cases h2
                  have hb1 : p < 65536 ∨ 1114111 < p ∨ (55296 ≤ p ∧ p ≤ 57343) := by
                    unfold badC at hbad
                    simp at hbad
                    omega
                  clear hp hcs hbad HPP HCS
                  go_wp2
                  all_goals first | (exfalso; omega) | skip
                  all_goals go_ret
                  all_goals exact ⟨ret_bool HF.out.symm, rfl⟩
          · have HF : Hid (Lib.validD s.data.toList = false) := by
              have h1 := HL.out
              unfold Lead at h1
              rw [if_neg (fun h => hlen h.1)] at h1
              exact h1
            go_wp2
            all_goals first | (exfalso; omega) | skip
            all_goals go_ret
            all_goals exact ⟨ret_bool HF.out.symm, rfl⟩
        · have HV : Hid (Lib.validD s.data.toList = false) := by
            rw [hv]
            exact valid_no _ (drop_ne s i hlt) _ (dB_drop s i 0) (by omega) (by omega)
          clear hd0 hv
          rcases hno with hno | hno
          · have n1 : ¬ (194 ≤ s[i].toNat) := by omega
            have n2 : ¬ (224 ≤ s[i].toNat) := by omega
            have n3 : ¬ (240 ≤ s[i].toNat) := by omega
            go_wp2
            go_ret
            exact ⟨ret_bool HV.out.symm, rfl⟩
          · obtain ⟨c, hc⟩ : ∃ c, s[i].toNat = c := ⟨_, rfl⟩
            have hat : (Instr.index 9 (.string s) (.int .i64 (i : Int))).run Tryd.prog w = .ok (.int .u8 (c : Int)) w := by
              rw [← hc]
              exact string_at s i hlt w
            have hc256 : c < 256 := by rw [← hc]; exact s[i].toNat_lt
            rw [hc] at hno c1
            clear hc
            have m0 : decide (c < 128) = false := decide_eq_false (by omega)
            have n1 : decide (194 ≤ c) = true := decide_eq_true (by omega)
            have n2 : decide (224 ≤ c) = true := decide_eq_true (by omega)
            have n3 : decide (240 ≤ c) = true := decide_eq_true (by omega)
            have m1 : decide (c ≤ 223) = false := decide_eq_false (by omega)
            have m2 : decide (c ≤ 239) = false := decide_eq_false (by omega)
            have m3 : decide (c ≤ 244) = false := decide_eq_false (by omega)
            have HNO := hid hno
            clear hno c1 m0 n1 n2 n3 m1 m2 m3
            go_wp2
            all_goals first | (exfalso; have := HNO.out; omega) | skip
            all_goals go_ret
            all_goals exact ⟨ret_bool HV.out.symm, rfl⟩
    · obtain rfl : i = s.size := by omega
      have HV : Hid (Lib.validD s.data.toList = true) := by
        rw [hv, List.drop_of_length_le (by simp)]
        rfl
      clear hv
      go_wp2
      go_ret
      exact ⟨ret_bool HV.out.symm, rfl⟩

end Go.Proofs.YtfcnobcpnhfgmaaDoor

/- The document's size and Right (package joistref01), for every int. Conditions: ints of 64 bits. -/
namespace Go.Proofs.YtfcnobcpnhfgmaaDoor
open Go.RowKit

theorem clear_sign (n : Int) : bits .andNot .i64 n (-9223372036854775808) = n % 9223372036854775808 := by
  have e1 : (~~~ BitVec.ofInt 64 (-9223372036854775808)).toNat = 2 ^ 63 - 1 := by decide
  show IntKind.i64.wrap (((BitVec.ofInt 64 n) &&& ~~~(BitVec.ofInt 64 (-9223372036854775808))).toNat : Nat) = _
  rw [BitVec.toNat_and, ofInt64, e1, Nat.and_two_pow_sub_one_eq_mod, IntKind.wrap_i64]
  unfold wd
  omega

set_option maxHeartbeats 400000 in
theorem size_any (n : Int) (w : World) :
    Calls Tryd.prog 146 #[.int .i64 n] w fun e w' => e = .returned (.int .i64 (n % 9223372036854775808)) ∧ w = w' := by
  have hx := clear_sign n
  rw [← hx]
  clear hx
  go_enter Tryd.func146, Tryd.ntmps146
  go_wp2
  go_ret
  exact ⟨rfl, rfl⟩

set_option maxHeartbeats 400000 in
theorem refRight_any (n : Int) (w : World) :
    Calls Tryd.prog 126 #[.int .i64 n] w fun e w' => e = .returned (.bool (rightB n)) ∧ w = w' := by
  have HS : Hid (∀ W, Calls Tryd.prog 146 #[.int .i64 n] W fun e w' => e = .returned (.int .i64 (n % 9223372036854775808)) ∧ W = w') := fun W => size_any n W
  have HR : Hid (rightB n = (!nanB n || (n == 9221120237041090560))) := hid (by unfold rightB; exact Bool.or_comm _ _)
  have hb : decide (n % 9223372036854775808 ≤ 9218868437227405312) = !nanB n := by unfold nanB; rw [Bool.eq_iff_iff]; simp
  obtain ⟨s, hs⟩ : ∃ s, n % 9223372036854775808 = s := ⟨_, rfl⟩
  rw [hs] at HS hb
  clear hs
  cases hn : nanB n
  · rw [hn] at HR hb
    have hb' : s ≤ 9218868437227405312 := of_decide_eq_true hb
    clear hb hn
    have HR2 : Hid (rightB n = true) := hid (by rw [HR.out]; rfl)
    clear HR
    go_enter Tryd.func126, Tryd.ntmps126
    go_wp2_with (go_at_call 146; refine (HS.out _).mono ?_; rintro e w' ⟨rfl, rfl⟩)
    go_ret
    rw [HR2.out]
    exact ⟨rfl, rfl⟩
  · rw [hn] at HR hb
    have hb' : decide (s ≤ 9218868437227405312) = false := hb
    clear hb hn
    have HR2 : Hid (rightB n = (n == 9221120237041090560)) := hid (by rw [HR.out]; rfl)
    clear HR
    go_enter Tryd.func126, Tryd.ntmps126
    go_wp2_with (go_at_call 146; refine (HS.out _).mono ?_; rintro e w' ⟨rfl, rfl⟩)
    go_ret
    rw [HR2.out]
    exact ⟨rfl, rfl⟩

end Go.Proofs.YtfcnobcpnhfgmaaDoor

/- The document's Right, for every value with a text of at most a thousand bytes. Conditions: the length alone. -/
namespace Go.Proofs.YtfcnobcpnhfgmaaDoor
open Go.RowKit

set_option maxHeartbeats 400000 in
theorem refright_1 (n : Int) (s : ByteArray) (w : World) :
    Calls Tryd.prog 78 #[.agg #[.int .i64 1, .int .i64 n, .string s]] w fun e w' => e = .returned (.bool s.toList.isEmpty) ∧ Below w.heap.size w w' := by
  go_enter Tryd.func78, Tryd.ntmps78
  go_wp2
  go_ret
  exact ⟨rfl, below_new _ _⟩

set_option maxHeartbeats 400000 in
theorem refright_2 (n : Int) (s : ByteArray) (w : World) (_ : s.size ≤ 4000) :
    Calls Tryd.prog 78 #[.agg #[.int .i64 2, .int .i64 n, .string s]] w fun e w' => e = .returned (.bool (n == 0 && decide (s.size ≤ 32))) ∧ Below w.heap.size w w' := by
  go_enter Tryd.func78, Tryd.ntmps78
  go_wp2
  all_goals go_ret
  · rename_i h
    exact ⟨ret_bool (show decide ((s.size : Int) ≤ 32) = _ by rw [h]; simp; omega), below_new _ _⟩
  · rename_i h
    exact ⟨ret_bool (show false = _ by simp [h]), below_new _ _⟩

set_option maxHeartbeats 400000 in
theorem refright_3 (n : Int) (s : ByteArray) (w : World) (hs : s.size ≤ 4000)  :
    Calls Tryd.prog 78 #[.agg #[.int .i64 3, .int .i64 n, .string s]] w fun e w' => e = .returned (.bool (n == 0 && decide (s.size ≤ 32) && Lib.validD s.data.toList)) ∧ Below w.heap.size w w' := by
  obtain ⟨R, hR⟩ : ∃ R, (n == 0 && decide (s.size ≤ 32) && Lib.validD s.data.toList) = R := ⟨_, rfl⟩
  rw [hR]
  have HV : Hid (∀ W, Calls Tryd.prog 125 #[.string s] W fun e w' => e = .returned (.bool (Lib.validD s.data.toList)) ∧ W = w') := fun W => utf8_any s (by omega) W
  generalize Lib.validD s.data.toList = V at *
  have HR := hid hR
  clear hR
  go_enter Tryd.func78, Tryd.ntmps78
  go_wp2_with (go_at_call 125; refine (HV.out _).mono ?_; rintro e w1 ⟨rfl, rfl⟩)
  all_goals go_ret
  · rename_i h1 h2
    exact ⟨ret_bool (show V = R by rw [← HR.out, h1]; simp; omega), below_new _ _⟩
  · rename_i h1 h2
    exact ⟨ret_bool (show false = R by rw [← HR.out, h1]; simp; omega), below_new _ _⟩
  · rename_i h1
    exact ⟨ret_bool (show false = R by rw [← HR.out]; simp [h1]), below_new _ _⟩

set_option maxHeartbeats 400000 in
theorem refright_4 (n : Int) (s : ByteArray) (w : World) :
    Calls Tryd.prog 78 #[.agg #[.int .i64 4, .int .i64 n, .string s]] w fun e w' => e = .returned (.bool (s.toList.isEmpty && (n == 0 || n == 1))) ∧ Below w.heap.size w w' := by
  obtain ⟨R, hR⟩ : ∃ R, (s.toList.isEmpty && (n == 0 || n == 1)) = R := ⟨_, rfl⟩
  rw [hR]
  have HR := hid hR
  clear hR
  go_enter Tryd.func78, Tryd.ntmps78
  go_wp2
  all_goals go_ret
  · rename_i h1 h2
    exact ⟨ret_bool (show true = R by rw [← HR.out, h1, h2]; rfl), below_new _ _⟩
  · rename_i h1 h2
    exact ⟨ret_bool (show (n == 0 || n == 1) = R by rw [← HR.out, h1]; rfl), below_new _ _⟩
  · rename_i h1
    exact ⟨ret_bool (show false = R by rw [← HR.out]; simp [h1]), below_new _ _⟩

set_option maxHeartbeats 400000 in
theorem refright_5 (n : Int) (s : ByteArray) (w : World) :
    Calls Tryd.prog 78 #[.agg #[.int .i64 5, .int .i64 n, .string s]] w fun e w' => e = .returned (.bool (s.toList.isEmpty && rightB n)) ∧ Below w.heap.size w w' := by
  obtain ⟨R, hR⟩ : ∃ R, (s.toList.isEmpty && rightB n) = R := ⟨_, rfl⟩
  rw [hR]
  have HV : Hid (∀ W, Calls Tryd.prog 126 #[.int .i64 n] W fun e w' => e = .returned (.bool (rightB n)) ∧ W = w') := fun W => refRight_any n W
  generalize rightB n = V at *
  have HR := hid hR
  clear hR
  go_enter Tryd.func78, Tryd.ntmps78
  go_wp2_with (go_at_call 126; refine (HV.out _).mono ?_; rintro e w1 ⟨rfl, rfl⟩)
  all_goals go_ret
  · rename_i h1
    exact ⟨ret_bool (show V = R by rw [← HR.out, h1]; rfl), below_new _ _⟩
  · rename_i h1
    exact ⟨ret_bool (show false = R by rw [← HR.out]; simp [h1]), below_new _ _⟩

set_option maxHeartbeats 400000 in
theorem refright_0 (k n : Int) (s : ByteArray) (h1 : (k == 1) = false) (h2 : (k == 2) = false) (h3 : (k == 3) = false) (h4 : (k == 4) = false) (h5 : (k == 5) = false) (w : World) :
    Calls Tryd.prog 78 #[.agg #[.int .i64 k, .int .i64 n, .string s]] w fun e w' => e = .returned (.bool false) ∧ Below w.heap.size w w' := by
  go_enter Tryd.func78, Tryd.ntmps78
  go_wp2
  go_ret
  exact ⟨rfl, below_new _ _⟩

/-- The document's Right, for every value with a text of at most a thousand bytes. -/
theorem refright_any (k n : Int) (s : ByteArray) (w : World) (hs : s.size ≤ 4000)  :
    Calls Tryd.prog 78 #[.agg #[.int .i64 k, .int .i64 n, .string s]] w fun e w' => e = .returned (.bool (vRight k n s.data.toList)) ∧ Below w.heap.size w w' := by
  have hsz : s.data.toList.length = s.size := rfl
  unfold vRight
  rw [hsz, ← toList_eq]
  by_cases h1 : k = 1
  · subst h1; exact refright_1 n s w
  rw [if_neg h1]
  by_cases h2 : k = 2
  · subst h2; exact refright_2 n s w hs
  rw [if_neg h2]
  by_cases h3 : k = 3
  · subst h3; rw [toList_eq]; exact refright_3 n s w  hs
  rw [if_neg h3]
  by_cases h4 : k = 4
  · subst h4; exact refright_4 n s w
  rw [if_neg h4]
  by_cases h5 : k = 5
  · subst h5; exact refright_5 n s w
  rw [if_neg h5]
  exact refright_0 k n s (by simpa using h1) (by simpa using h2) (by simpa using h3) (by simpa using h4) (by simpa using h5) w

end Go.Proofs.YtfcnobcpnhfgmaaDoor

/- The document's Name and Right of layer 3 at every text and cell. Conditions: the value's text of at most a thousand bytes. -/
namespace Go.Proofs.YtfcnobcpnhfgmaaDoor
open Go.RowKit

set_option maxRecDepth 100000 in
set_option maxHeartbeats 2000000 in
theorem refName_any (s : ByteArray) (hs : s.size ≤ 9223372036854775807) (w : World) :
    Calls Tryd.prog 77 #[.string s] w fun e w' => e = .returned (.bool (nameB s.data.toList)) ∧ w' = w := by
  go_enter Tryd.func77, Tryd.ntmps77
  go_wp2
  go_loopw [3] (fun vi wr => ∃ i : Nat, i ≤ s.size ∧ vi = .int .i64 i ∧ wr = w ∧ Hid ((s.data.toList.take i).all nmB = true)) (fun vi _ => s.size - (intOf vi).toNat)
  case atStart => exact ⟨0, Nat.zero_le _, rfl, rfl, rfl⟩
  case round =>
    obtain ⟨i, hi, rfl, rfl, HA⟩ := hrel
    by_cases hlt : i < s.size
    · have hll : i < s.data.toList.length := hlt
      have HT : Hid ((s.data.toList.take (i + 1)).all nmB = nmB s[i]) := by
        unfold Hid
        rw [all_take_next _ i hll, HA.out, Bool.true_and, getD_str' s i hlt]
      have HF : Hid (nmB s[i] = false → nameB s.data.toList = false) := by
        intro h
        unfold nameB
        rw [all_take_false s.data.toList i hll (by rw [getD_str' s i hlt]; exact h), Bool.false_and]
      by_cases hn : nmB s[i] = true
      · have HN := hid hn
        unfold nmB at hn
        simp only [Bool.or_eq_true, Bool.and_eq_true, decide_eq_true_eq] at hn
        rcases hn with ⟨a1, a2⟩ | ⟨a1, a2⟩
        · have b1 : (97 : Int) ≤ (s[i].toNat : Int) := by omega
          have b2 : (s[i].toNat : Int) ≤ 122 := by omega
          clear a1 a2
          go_wp2
          go_roundw
          case rel => exact ⟨i + 1, by omega, by go_num, trivial, by unfold Hid; rw [HT.out]; exact HN.out⟩
          case measure => simp [intOf]; omega
        · have b1 : (48 : Int) ≤ (s[i].toNat : Int) := by omega
          have b2 : (s[i].toNat : Int) ≤ 57 := by omega
          have b3 : ¬ (97 : Int) ≤ (s[i].toNat : Int) := by omega
          clear a1 a2
          go_wp2
          go_roundw
          case rel => exact ⟨i + 1, by omega, by go_num, trivial, by unfold Hid; rw [HT.out]; exact HN.out⟩
          case measure => simp [intOf]; omega
      · have HN : Hid (nmB s[i] = false) := by unfold Hid; simpa using hn
        have hn := HN.out
        unfold nmB at hn
        have hc : (s[i].toNat < 48) ∨ (57 < s[i].toNat ∧ s[i].toNat < 97) ∨ 122 < s[i].toNat := by
          simp only [Bool.or_eq_false_iff, Bool.and_eq_false_iff, decide_eq_false_iff_not] at hn
          omega
        clear hn
        rcases hc with h | ⟨h, h'⟩ | h
        · have b1 : ¬ (97 : Int) ≤ (s[i].toNat : Int) := by omega
          have b2 : ¬ (48 : Int) ≤ (s[i].toNat : Int) := by omega
          go_wp2
          go_ret
          rw [HF.out HN.out]
          exact ⟨rfl, rfl⟩
        · have b1 : ¬ (97 : Int) ≤ (s[i].toNat : Int) := by omega
          have b2 : (48 : Int) ≤ (s[i].toNat : Int) := by omega
          have b3 : ¬ (s[i].toNat : Int) ≤ 57 := by omega
          go_wp2
          go_ret
          rw [HF.out HN.out]
          exact ⟨rfl, rfl⟩
        · have b1 : (97 : Int) ≤ (s[i].toNat : Int) := by omega
          have b2 : ¬ (s[i].toNat : Int) ≤ 122 := by omega
          have b3 : (48 : Int) ≤ (s[i].toNat : Int) := by omega
          have b4 : ¬ (s[i].toNat : Int) ≤ 57 := by omega
          go_wp2
          go_ret
          rw [HF.out HN.out]
          exact ⟨rfl, rfl⟩
    · have HE : Hid (nameB s.data.toList = (decide (1 ≤ s.size) && decide (s.size ≤ 8))) := by
        have h := HA.out
        rw [List.take_of_length_le (show s.data.toList.length ≤ i by show s.size ≤ i; omega)] at h
        unfold Hid nameB
        rw [h, Bool.true_and]
        rfl
      go_wp2
      all_goals go_ret
      all_goals rw [HE.out]
      · rename_i h
        exact ⟨ret_bool (show decide ((s.size : Int) ≤ 8) = _ by rw [decide_eq_true (show 1 ≤ s.size by omega), Bool.true_and]; exact decide_eq_decide.2 (by omega)), rfl⟩
      · rename_i h
        exact ⟨ret_bool (show false = _ by rw [decide_eq_false (show ¬ 1 ≤ s.size by omega)]; rfl), rfl⟩

set_option maxRecDepth 100000 in
set_option maxHeartbeats 4000000 in
/-- Something ahead of the kind is wrong. -/
theorem refcright_head (r f q vs : ByteArray) (t k vk vn : Int) (nf : Bool) (h : (r.size < 1 ∨ 16 < r.size) ∨ (¬ (r.size < 1 ∨ 16 < r.size) ∧ (nf = false ∨ (nf = true ∧ (12 < q.size ∨ (q.size ≤ 12 ∧ (t < 0 ∨ (0 ≤ t ∧ 1099511627776 < t)))))))) (w : World)
    (HN : ∀ W, Calls Tryd.prog 77 #[.string f] W fun e w' => e = .returned (.bool nf) ∧ w' = W) :
    Calls Tryd.prog 32 #[cellV r f q t k vk vn vs] w fun e w' => e = .returned (.bool false) ∧ Below w.heap.size w w' := by
  have HN := hid HN
  rcases h with (h | h) | ⟨h0, rfl | ⟨rfl, h | ⟨h1, h | ⟨h2, h3⟩⟩⟩⟩
  all_goals
    go_enter Tryd.func32, Tryd.ntmps32
    go_wp2_with (go_at_call 77; refine (HN.out _).mono ?_; rintro e w1 ⟨rfl, rfl⟩)
    all_goals go_ret
    all_goals exact ⟨rfl, below_new _ _⟩

set_option maxRecDepth 100000 in
set_option maxHeartbeats 4000000 in
/-- A put. -/
theorem refcright_put (r f q vs : ByteArray) (t vk vn : Int) (vr : Bool) (h1 : 1 ≤ r.size) (h2 : r.size ≤ 16) (h3 : q.size ≤ 12) (h4 : 0 ≤ t) (h5 : t ≤ 1099511627776) (w : World)
    (HN : ∀ W, Calls Tryd.prog 77 #[.string f] W fun e w' => e = .returned (.bool true) ∧ w' = W)
    (HV : ∀ W, Below w.heap.size w W → Calls Tryd.prog 78 #[.agg #[.int .i64 vk, .int .i64 vn, .string vs]] W fun e w' => e = .returned (.bool vr) ∧ Below W.heap.size W w') :
    Calls Tryd.prog 32 #[cellV r f q t 1 vk vn vs] w fun e w' => e = .returned (.bool vr) ∧ Below w.heap.size w w' := by
  have HN := hid HN
  have HV := hid HV
  have h0 : ¬ (r.size < 1 ∨ 16 < r.size) := by omega
  go_enter Tryd.func32, Tryd.ntmps32
  go_wp2_with (first | (go_at_call 77; refine (HN.out _).mono ?_; rintro e w1 ⟨rfl, rfl⟩) | (go_at_call 78; refine (HV.out _ (below_new _ _)).mono ?_; rintro e w1 ⟨rfl, hb⟩))
  go_ret
  exact ⟨rfl, (below_new _ _).trans (hb.mono (below_new _ _).size)⟩

set_option maxRecDepth 100000 in
set_option maxHeartbeats 8000000 in
/-- A cell or a column is gone. -/
theorem refcright_gone (r f q vs : ByteArray) (t k vk vn : Int) (z : Bool) (h1 : 1 ≤ r.size) (h2 : r.size ≤ 16) (h3 : q.size ≤ 12) (h4 : 0 ≤ t) (h5 : t ≤ 1099511627776) (hk : k = 2 ∨ k = 3) (hv : NoneOr vk vn vs z) (w : World)
    (HN : ∀ W, Calls Tryd.prog 77 #[.string f] W fun e w' => e = .returned (.bool true) ∧ w' = W) :
    Calls Tryd.prog 32 #[cellV r f q t k vk vn vs] w fun e w' => e = .returned (.bool z) ∧ Below w.heap.size w w' := by
  have HN := hid HN
  have h0 : ¬ (r.size < 1 ∨ 16 < r.size) := by omega
  rcases hk with rfl | rfl
  all_goals rcases hv with ⟨h, q0, rfl⟩ | ⟨rfl, ⟨h, q0, rfl⟩ | ⟨rfl, ⟨h, rfl⟩ | ⟨rfl, rfl⟩⟩⟩
  all_goals
    go_enter Tryd.func32, Tryd.ntmps32
    go_wp2_with (go_at_call 77; refine (HN.out _).mono ?_; rintro e w1 ⟨rfl, rfl⟩)
    go_ret
    exact ⟨rfl, below_new _ _⟩

set_option maxRecDepth 100000 in
set_option maxHeartbeats 4000000 in
/-- No kind. -/
theorem refcright_other (r f q vs : ByteArray) (t k vk vn : Int) (h1 : 1 ≤ r.size) (h2 : r.size ≤ 16) (h3 : q.size ≤ 12) (h4 : 0 ≤ t) (h5 : t ≤ 1099511627776) (k1 : ¬ k = 1) (k2 : ¬ k = 2) (k3 : ¬ k = 3) (k4 : ¬ k = 4) (w : World)
    (HN : ∀ W, Calls Tryd.prog 77 #[.string f] W fun e w' => e = .returned (.bool true) ∧ w' = W) :
    Calls Tryd.prog 32 #[cellV r f q t k vk vn vs] w fun e w' => e = .returned (.bool false) ∧ Below w.heap.size w w' := by
  have HN := hid HN
  have h0 : ¬ (r.size < 1 ∨ 16 < r.size) := by omega
  have e1 : (k == 1) = false := by simpa using k1
  have e2 : (k == 2) = false := by simpa using k2
  have e3 : (k == 3) = false := by simpa using k3
  have e4 : (k == 4) = false := by simpa using k4
  go_enter Tryd.func32, Tryd.ntmps32
  go_wp2_with (go_at_call 77; refine (HN.out _).mono ?_; rintro e w1 ⟨rfl, rfl⟩)
  go_ret
  exact ⟨rfl, below_new _ _⟩

set_option maxRecDepth 100000 in
set_option maxHeartbeats 8000000 in
/-- A family is gone. -/
theorem refcright_fam (r f q vs : ByteArray) (t vk vn : Int) (z : Bool) (h1 : 1 ≤ r.size) (h2 : r.size ≤ 16) (h3 : q.size ≤ 12) (h4 : 0 ≤ t) (h5 : t ≤ 1099511627776) (hv : NoneOr vk vn vs z) (w : World)
    (HN : ∀ W, Calls Tryd.prog 77 #[.string f] W fun e w' => e = .returned (.bool true) ∧ w' = W) :
    Calls Tryd.prog 32 #[cellV r f q t 4 vk vn vs] w fun e w' => e = .returned (.bool (q.data.toList.isEmpty && z)) ∧ Below w.heap.size w w' := by
  have HN := hid HN
  have h0 : ¬ (r.size < 1 ∨ 16 < r.size) := by omega
  rcases hv with ⟨h, q0, rfl⟩ | ⟨rfl, ⟨h, q0, rfl⟩ | ⟨rfl, ⟨h, rfl⟩ | ⟨rfl, rfl⟩⟩⟩
  · rw [Bool.and_false]
    go_enter Tryd.func32, Tryd.ntmps32
    go_wp2_with (go_at_call 77; refine (HN.out _).mono ?_; rintro e w1 ⟨rfl, rfl⟩)
    go_ret
    exact ⟨rfl, below_new _ _⟩
  · rw [Bool.and_false]
    go_enter Tryd.func32, Tryd.ntmps32
    go_wp2_with (go_at_call 77; refine (HN.out _).mono ?_; rintro e w1 ⟨rfl, rfl⟩)
    go_ret
    exact ⟨rfl, below_new _ _⟩
  · rw [Bool.and_false]
    go_enter Tryd.func32, Tryd.ntmps32
    go_wp2_with (go_at_call 77; refine (HN.out _).mono ?_; rintro e w1 ⟨rfl, rfl⟩)
    go_ret
    exact ⟨rfl, below_new _ _⟩
  · rw [Bool.and_true]
    by_cases hq : q.data.toList = []
    · have e : q = ⟨#[]⟩ := by cases q; simp_all
      subst e
      go_enter Tryd.func32, Tryd.ntmps32
      go_wp2_with (go_at_call 77; refine (HN.out _).mono ?_; rintro e w1 ⟨rfl, rfl⟩)
      go_ret
      exact ⟨rfl, below_new _ _⟩
    · have h : ¬ q.toList = [] := by rw [toList_eq]; exact hq
      clear hq
      go_enter Tryd.func32, Tryd.ntmps32
      go_wp2_with (go_at_call 77; refine (HN.out _).mono ?_; rintro e w1 ⟨rfl, rfl⟩)
      go_ret
      rw [← toList_eq]
      exact ⟨rfl, below_new _ _⟩

theorem refcright_any (r f q vs : ByteArray) (t k vk : Int) (vn : Int) (hf : f.size ≤ 9223372036854775807) (hv : vs.size ≤ 4000) (w : World) :
    Calls Tryd.prog 32 #[cellV r f q t k vk vn vs] w fun e w' => e = .returned (.bool (cRight r.data.toList f.data.toList q.data.toList t k vk vn vs.data.toList)) ∧ Below w.heap.size w w' := by
  have HN : ∀ W, Calls Tryd.prog 77 #[.string f] W fun e w' => e = .returned (.bool (nameB f.data.toList)) ∧ w' = W := fun W => refName_any f hf W
  have HV : ∀ W, Below w.heap.size w W → Calls Tryd.prog 78 #[.agg #[.int .i64 vk, .int .i64 vn, .string vs]] W fun e w' => e = .returned (.bool (vRight vk vn vs.data.toList)) ∧ Below W.heap.size W w' := fun W _ => refright_any vk vn vs W hv
  have er : r.data.toList.length = r.size := rfl
  have eq : q.data.toList.length = q.size := rfl
  unfold cRight
  by_cases hh : cHead r.data.toList f.data.toList q.data.toList t = true
  · rw [hh, Bool.true_and]
    unfold cHead at hh
    rw [er, eq] at hh
    simp only [Bool.and_eq_true, decide_eq_true_eq] at hh
    obtain ⟨⟨h1, h2⟩, h3, h4, h5, h6⟩ := hh
    rw [h3] at HN
    unfold cTail
    by_cases k1 : k = 1
    · subst k1
      rw [if_pos rfl]
      exact refcright_put r f q vs t vk vn _ h1 h2 h4 h5 h6 w HN HV
    · rw [if_neg k1]
      by_cases k23 : k = 2 ∨ k = 3
      · rw [if_pos k23]
        exact refcright_gone r f q vs t k vk vn _ h1 h2 h4 h5 h6 k23 (noneOr vk vn vs) w HN
      · rw [if_neg k23]
        by_cases k4 : k = 4
        · subst k4
          rw [if_pos rfl]
          exact refcright_fam r f q vs t vk vn _ h1 h2 h4 h5 h6 (noneOr vk vn vs) w HN
        · rw [if_neg k4]
          exact refcright_other r f q vs t k vk vn h1 h2 h4 h5 h6 k1 (fun e => k23 (.inl e)) (fun e => k23 (.inr e)) k4 w HN
  · have hF : cHead r.data.toList f.data.toList q.data.toList t = false := by simpa using hh
    rw [hF, Bool.false_and]
    refine refcright_head r f q vs t k vk vn (nameB f.data.toList) ?_ w HN
    unfold cHead at hh
    rw [er, eq] at hh
    simp only [Bool.and_eq_true, decide_eq_true_eq] at hh
    by_cases h1 : r.size < 1 ∨ 16 < r.size
    · exact .inl h1
    · refine .inr ⟨h1, ?_⟩
      by_cases h2 : nameB f.data.toList = true
      · refine .inr ⟨h2, ?_⟩
        by_cases h3 : q.size ≤ 12
        · refine .inr ⟨h3, ?_⟩
          by_cases h4 : 0 ≤ t
          · refine .inr ⟨h4, ?_⟩
            have : ¬ t ≤ 1099511627776 := fun h5 => hh ⟨⟨by omega, by omega⟩, h2, h3, h4, h5⟩
            omega
          · exact .inl (by omega)
        · exact .inl (by omega)
      · exact .inl (by simpa using h2)
end Go.Proofs.YtfcnobcpnhfgmaaDoor

/- The document's Texts at every two texts. Conditions: texts no longer than any are. -/
namespace Go.Proofs.YtfcnobcpnhfgmaaDoor
open Go.RowKit

theorem cmpB_drop (l m : List UInt8) (k : Nat) (h : k < l.length) (h' : k < m.length) :
    Lib.compareBytes (l.drop k) (m.drop k) = if (l.getD k 0).toNat < (m.getD k 0).toNat then -1 else if (m.getD k 0).toNat < (l.getD k 0).toNat then 1 else Lib.compareBytes (l.drop (k + 1)) (m.drop (k + 1)) := by
  rw [List.drop_eq_getElem_cons h, List.drop_eq_getElem_cons h']
  conv => lhs; unfold Lib.compareBytes
  simp only [List.getD_eq_getElem?_getD, List.getElem?_eq_getElem h, List.getElem?_eq_getElem h', Option.getD_some, UInt8.lt_iff_toNat_lt]

theorem cmpB_end (l m : List UInt8) (h : l = [] ∨ m = []) : Lib.compareBytes l m = if l.length < m.length then -1 else if m.length < l.length then 1 else 0 := by
  rcases h with rfl | rfl
  · cases m with
    | nil => rfl
    | cons => simp [Lib.compareBytes]
  · cases l with
    | nil => rfl
    | cons => simp [Lib.compareBytes]

/-- What the loop knows. -/
def XInv (s t : ByteArray) (w : World) (vi : Value) (wr : World) : Prop :=
  ∃ (i m : Nat), i ≤ s.size ∧ i ≤ t.size ∧ vi = .int .i64 i ∧ wr = w.drewN m ∧ Lib.compareBytes s.data.toList t.data.toList = Lib.compareBytes (s.data.toList.drop i) (t.data.toList.drop i)

theorem dl (s : ByteArray) : s.data.toList.length = s.size := rfl
theorem getD_str (s : ByteArray) (i : Nat) (h : i < s.size) : s.data.toList.getD i 0 = s[i] := by
  rw [List.getD_eq_getElem?_getD, List.getElem?_eq_getElem (show i < s.data.toList.length from h)]
  rfl

set_option maxHeartbeats 2000000 in
theorem texts_any (s t : ByteArray) (hs : s.size ≤ 9223372036854775807) (_ : t.size ≤ 9223372036854775807) (w : World) :
    Calls Tryd.prog 58 #[.string s, .string t] w fun e w' => e = .returned (.int .i64 (Lib.compareBytes s.data.toList t.data.toList)) ∧ Below w.heap.size w w' := by
  go_enter Tryd.func58, Tryd.ntmps58
  go_wp2
  go_loopw [5] (fun vi wr => XInv s t w vi wr) (fun vi _ => s.size - (intOf vi).toNat)
  case atStart => exact ⟨0, 0, Nat.zero_le _, Nat.zero_le _, rfl, rfl, rfl⟩
  case round =>
    obtain ⟨i, m, hi1, hi2, rfl, rfl, hc⟩ := hrel
    by_cases hlt : i < s.size ∧ i < t.size
    · obtain ⟨h1, h2⟩ := hlt
      have hd := cmpB_drop s.data.toList t.data.toList i h1 h2
      rw [getD_str s i h1, getD_str t i h2] at hd
      have HD := hid (hc.trans hd)
      clear hd hc
      by_cases c0 : s[i].toNat = t[i].toNat
      · have q0 : (s[i].toNat != t[i].toNat) = false := by simpa using c0
        have HQ : Hid (Lib.compareBytes s.data.toList t.data.toList = Lib.compareBytes (s.data.toList.drop (i + 1)) (t.data.toList.drop (i + 1))) := by
          have := HD.out
          rw [if_neg (by omega), if_neg (by omega)] at this
          exact this
        clear HD
        go_wp2
        go_quiet (fail)
        go_wp2
        go_roundw
        case rel => exact ⟨i + 1, _, by omega, by omega, by go_num, rfl, HQ.out⟩
        case measure => simp [intOf]; omega
      · have q0 : (s[i].toNat != t[i].toNat) = true := by simpa using c0
        by_cases c1 : s[i].toNat < t[i].toNat
        · have HQ : Hid (Lib.compareBytes s.data.toList t.data.toList = -1) := by
            have := HD.out
            rw [if_pos c1] at this
            exact this
          have q1 : decide (s[i].toNat < t[i].toNat) = true := decide_eq_true c1
          clear HD c0
          go_wp2
          go_quiet (fail)
          go_wp2
          go_quiet (fail)
          go_wp2
          go_ret
          exact ⟨ret_int HQ.out.symm, by repeat (first | exact Below.refl _ _ | refine Go.below_drewN ?_ _)⟩
        · have HQ : Hid (Lib.compareBytes s.data.toList t.data.toList = 1) := by
            have := HD.out
            rw [if_neg c1, if_pos (by omega)] at this
            exact this
          have q1 : decide (s[i].toNat < t[i].toNat) = false := decide_eq_false c1
          clear HD c0
          go_wp2
          go_quiet (fail)
          go_wp2
          go_quiet (fail)
          go_wp2
          go_ret
          exact ⟨ret_int HQ.out.symm, by repeat (first | exact Below.refl _ _ | refine Go.below_drewN ?_ _)⟩
    · have hq : Lib.compareBytes s.data.toList t.data.toList = if s.size < t.size then -1 else if t.size < s.size then 1 else 0 := by
        rw [hc, cmpB_end _ _ (by rcases (show i = s.size ∨ i = t.size by omega) with rfl | rfl <;> simp)]
        simp only [List.length_drop, dl]
        by_cases z1 : s.size < t.size
        · rw [if_pos (by omega), if_pos z1]
        · rw [if_neg (by omega), if_neg z1]
          by_cases z2 : t.size < s.size
          · rw [if_pos (by omega), if_pos z2]
          · rw [if_neg (by omega), if_neg z2]
      have hsel : (i < s.size ∧ decide (i < t.size) = false) ∨ i = s.size := by
        rcases Nat.lt_or_ge i s.size with h | h
        · exact .inl ⟨h, decide_eq_false (by omega)⟩
        · exact .inr (by omega)
      clear hc hlt
      rcases (show s.size < t.size ∨ t.size < s.size ∨ s.size = t.size by omega) with z | z | z
      · rw [if_pos z] at hq
        have HQ := hid hq
        have d1 : decide (s.size < t.size) = true := decide_eq_true z
        clear hq
        rcases hsel with ⟨h1, h2⟩ | rfl
        all_goals
          go_wp2
          go_ret
          exact ⟨ret_int HQ.out.symm, by repeat (first | exact Below.refl _ _ | refine Go.below_drewN ?_ _)⟩
      · rw [if_neg (by omega), if_pos z] at hq
        have HQ := hid hq
        have d1 : decide (s.size < t.size) = false := decide_eq_false (by omega)
        have d2 : decide (t.size < s.size) = true := decide_eq_true z
        clear hq
        rcases hsel with ⟨h1, h2⟩ | rfl
        all_goals
          go_wp2
          go_ret
          exact ⟨ret_int HQ.out.symm, by repeat (first | exact Below.refl _ _ | refine Go.below_drewN ?_ _)⟩
      · rw [if_neg (by omega), if_neg (by omega)] at hq
        have HQ := hid hq
        have d1 : decide (s.size < t.size) = false := decide_eq_false (by omega)
        have d2 : decide (t.size < s.size) = false := decide_eq_false (by omega)
        clear hq z
        rcases hsel with ⟨h1, h2⟩ | rfl
        all_goals
          go_wp2
          go_ret
          exact ⟨ret_int HQ.out.symm, by repeat (first | exact Below.refl _ _ | refine Go.below_drewN ?_ _)⟩

end Go.Proofs.YtfcnobcpnhfgmaaDoor

/- The document's cmp and Order of layer 3 at every two cells. Conditions: the texts are no longer than any are. -/
namespace Go.Proofs.YtfcnobcpnhfgmaaDoor
open Go.RowKit

theorem refcmp3_any (a b : Int) (w : World) :
    Calls Tryd.prog 59 #[.int .i64 a, .int .i64 b] w fun e w' => e = .returned (.int .i64 (Lib.compareInt a b)) ∧ w' = w := by
  unfold Lib.compareInt
  by_cases h1 : a < b
  · rw [if_pos h1]
    go_enter Tryd.func59, Tryd.ntmps59
    go_wp2
    go_ret
    exact ⟨rfl, rfl⟩
  · rw [if_neg h1]
    by_cases h2 : b < a
    · rw [if_pos h2]
      go_enter Tryd.func59, Tryd.ntmps59
      go_wp2
      go_ret
      exact ⟨rfl, rfl⟩
    · rw [if_neg h2]
      go_enter Tryd.func59, Tryd.ntmps59
      go_wp2
      go_ret
      exact ⟨rfl, rfl⟩

set_option maxRecDepth 100000 in
set_option maxHeartbeats 8000000 in
theorem refcorder_any (r1 f1 q1 s1 : ByteArray) (t1 k1 vk1 vn1 : Int) (r2 f2 q2 s2 : ByteArray) (t2 k2 vk2 vn2 : Int) (hr1 : r1.size ≤ 9223372036854775807) (hr2 : r2.size ≤ 9223372036854775807) (hf1 : f1.size ≤ 9223372036854775807) (hf2 : f2.size ≤ 9223372036854775807) (hq1 : q1.size ≤ 9223372036854775807) (hq2 : q2.size ≤ 9223372036854775807) (w : World) :
    Calls Tryd.prog 20 #[cellV r1 f1 q1 t1 k1 vk1 vn1 s1, cellV r2 f2 q2 t2 k2 vk2 vn2 s2] w fun e w' => e = .returned (.int .i64 (cOrd r1.data.toList f1.data.toList q1.data.toList t1 k1 r2.data.toList f2.data.toList q2.data.toList t2 k2)) ∧ Below w.heap.size w w' := by
  have HTr : Hid (∀ W, Calls Tryd.prog 58 #[.string r1, .string r2] W fun e w' => e = .returned (.int .i64 (Lib.compareBytes r1.data.toList r2.data.toList)) ∧ Below W.heap.size W w') := fun W => texts_any r1 r2 hr1 hr2 W
  have HTf : Hid (∀ W, Calls Tryd.prog 58 #[.string f1, .string f2] W fun e w' => e = .returned (.int .i64 (Lib.compareBytes f1.data.toList f2.data.toList)) ∧ Below W.heap.size W w') := fun W => texts_any f1 f2 hf1 hf2 W
  have HTq : Hid (∀ W, Calls Tryd.prog 58 #[.string q1, .string q2] W fun e w' => e = .returned (.int .i64 (Lib.compareBytes q1.data.toList q2.data.toList)) ∧ Below W.heap.size W w') := fun W => texts_any q1 q2 hq1 hq2 W
  clear hr1 hr2 hf1 hf2 hq1 hq2
  obtain ⟨x, hx⟩ : ∃ x, rankC k1 = x := ⟨_, rfl⟩
  obtain ⟨y, hy⟩ : ∃ y, rankC k2 = y := ⟨_, rfl⟩
  unfold cOrd
  rw [hx, hy]
  generalize hb1 : Lib.compareBytes r1.data.toList r2.data.toList = b1 at *
  generalize hb2 : Lib.compareBytes f1.data.toList f2.data.toList = b2 at *
  generalize hb3 : Lib.compareBytes q1.data.toList q2.data.toList = b3 at *
  clear hb1 hb2 hb3
  have HXY : Hid ((k1 = 4 ∧ x = 0) ∨ ((k1 == 4) = false ∧ x = 1)) := by
    unfold Hid; unfold rankC at hx
    by_cases h : k1 = 4
    · rw [if_pos h] at hx; exact .inl ⟨h, hx.symm⟩
    · rw [if_neg h] at hx; exact .inr ⟨by simpa using h, hx.symm⟩
  have HYY : Hid ((k2 = 4 ∧ y = 0) ∨ ((k2 == 4) = false ∧ y = 1)) := by
    unfold Hid; unfold rankC at hy
    by_cases h : k2 = 4
    · rw [if_pos h] at hy; exact .inl ⟨h, hy.symm⟩
    · rw [if_neg h] at hy; exact .inr ⟨by simpa using h, hy.symm⟩
  clear hx hy
  rcases HXY.out with ⟨rfl, rfl⟩ | ⟨hx1, rfl⟩ <;> rcases HYY.out with ⟨rfl, rfl⟩ | ⟨hy1, rfl⟩ <;> clear HXY HYY
  · go_enter Tryd.func20, Tryd.ntmps20
    go_upto_region 7 with (fail)
    obtain ⟨W, hW⟩ : ∃ W, ((w.alloc (.cells #[.string r1, .string f1, .string q1, .int .i64 t1, .int .i64 4, .int .i64 vk1, .int .i64 vn1, .string s1] 40)).alloc (.cells #[.string r2, .string f2, .string q2, .int .i64 t2, .int .i64 4, .int .i64 vk2, .int .i64 vn2, .string s2] 40)) = W := ⟨_, rfl⟩
    have HT : Hid (TwoC w r1 f1 q1 s1 t1 4 vk1 vn1 r2 f2 q2 s2 t2 4 vk2 vn2 W) := by
      subst hW
      have B1 : Blk (w.alloc (.cells #[Value.string r1, .string f1, .string q1, .int .i64 t1, .int .i64 4, .int .i64 vk1, .int .i64 vn1, .string s1] 40)) w.heap.size 40 #[Value.string r1, .string f1, .string q1, .int .i64 t1, .int .i64 4, .int .i64 vk1, .int .i64 vn1, .string s1] := Blk.new w _ _
      have B2 := B1.keep (below_new _ (.cells #[Value.string r2, .string f2, .string q2, .int .i64 t2, .int .i64 4, .int .i64 vk2, .int .i64 vn2, .string s2] 40)) (by simp)
      have B3 : Blk ((w.alloc (.cells #[Value.string r1, .string f1, .string q1, .int .i64 t1, .int .i64 4, .int .i64 vk1, .int .i64 vn1, .string s1] 40)).alloc (.cells #[Value.string r2, .string f2, .string q2, .int .i64 t2, .int .i64 4, .int .i64 vk2, .int .i64 vn2, .string s2] 40)) (w.heap.size + 1) 40 #[Value.string r2, .string f2, .string q2, .int .i64 t2, .int .i64 4, .int .i64 vk2, .int .i64 vn2, .string s2] := by
        have := Blk.new (w.alloc (.cells #[Value.string r1, .string f1, .string q1, .int .i64 t1, .int .i64 4, .int .i64 vk1, .int .i64 vn1, .string s1] 40)) 40 #[Value.string r2, .string f2, .string q2, .int .i64 t2, .int .i64 4, .int .i64 vk2, .int .i64 vn2, .string s2]
        simpa using this
      exact ⟨hid ⟨(below_new w _).alloc (by simp) _, by simp⟩, B2.cell 0, B2.cell 1, B2.cell 2, B2.cell 3, B2.cell 4, B2.cell 5, B2.cell 6, B2.cell 7, B3.cell 0, B3.cell 1, B3.cell 2, B3.cell 3, B3.cell 4, B3.cell 5, B3.cell 6, B3.cell 7⟩
    rw [hW]
    clear hW
    obtain ⟨h0, c0, c1, c2, c3, c4, c5, c6, c7, d0, d1, d2, d3, d4, d5, d6, d7⟩ := HT.out
    go_region_held3 (fun w' => Hid (Below w.heap.size w w' ∧ w.heap.size + 1 < w'.heap.size) ∧ w'.cell? ⟨w.heap.size, 0, none⟩ = some (.string r1) ∧ w'.cell? ⟨w.heap.size, 1, none⟩ = some (.string f1) ∧ w'.cell? ⟨w.heap.size, 2, none⟩ = some (.string q1) ∧ w'.cell? ⟨w.heap.size, 3, none⟩ = some (.int .i64 t1) ∧ w'.cell? ⟨w.heap.size, 4, none⟩ = some (.int .i64 4) ∧ w'.cell? ⟨w.heap.size, 5, none⟩ = some (.int .i64 vk1) ∧ w'.cell? ⟨w.heap.size, 6, none⟩ = some (.int .i64 vn1) ∧ w'.cell? ⟨w.heap.size, 7, none⟩ = some (.string s1) ∧ w'.cell? ⟨w.heap.size + 1, 0, none⟩ = some (.string r2) ∧ w'.cell? ⟨w.heap.size + 1, 1, none⟩ = some (.string f2) ∧ w'.cell? ⟨w.heap.size + 1, 2, none⟩ = some (.string q2) ∧ w'.cell? ⟨w.heap.size + 1, 3, none⟩ = some (.int .i64 t2) ∧ w'.cell? ⟨w.heap.size + 1, 4, none⟩ = some (.int .i64 4) ∧ w'.cell? ⟨w.heap.size + 1, 5, none⟩ = some (.int .i64 vk2) ∧ w'.cell? ⟨w.heap.size + 1, 6, none⟩ = some (.int .i64 vn2) ∧ w'.cell? ⟨w.heap.size + 1, 7, none⟩ = some (.string s2))
      (first | exact HT.out | exact twoc_drew HT.out | exact twoc_call (by assumption) hbo | exact twoc_drew (by assumption) | assumption | exact twoc_call (by assumption) (below_new _ _) | exact twoc_call (twoc_call (by assumption) (below_new _ _)) hbo)
      (first
        | (go_at_call 58; (first | (with_reducible refine (HTr.out _).mono ?_) | (with_reducible refine (HTf.out _).mono ?_) | (with_reducible refine (HTq.out _).mono ?_)); rintro e w5 ⟨rfl, hbo⟩)
        | (go_at_call 59; ((with_reducible refine (refcmp3_any _ _ _).mono ?_); rintro e w5 ⟨rfl, rfl⟩)))
    rename_i hLast
    have HB : Hid (Below w.heap.size w _) := hid hLast.1.out.1
    clear hLast HTr HTf HTq HT h0 c0 c1 c2 c3 c4 c5 c6 c7 d0 d1 d2 d3 d4 d5 d6 d7 hbo
    obtain ⟨l, hl⟩ : ∃ l : List Int, [b1, b2, Lib.compareInt 0 0, b3, Lib.compareInt t2 t1, Lib.compareInt 4 4] = l := ⟨_, rfl⟩
    have HL : Hid (l.length = 6) := hid (by rw [← hl]; rfl)
    have HC : Hid (∀ i (h : i < l.length), (w5.alloc (.cells #[.int .i64 b1, .int .i64 b2, .int .i64 (Lib.compareInt 0 0), .int .i64 b3, .int .i64 (Lib.compareInt t2 t1), .int .i64 (Lib.compareInt 4 4)] 3)).cell? ⟨w5.heap.size, i, none⟩ = some (.int .i64 l[i])) := by
      subst hl
      refine hid fun i hi => ?_
      rw [(Blk.new w5 3 _).cell i]
      match i, hi with
      | 0, _ => rfl
      | 1, _ => rfl
      | 2, _ => rfl
      | 3, _ => rfl
      | 4, _ => rfl
      | 5, _ => rfl
    have HE := hid hl
    clear hl
    generalize (w5.alloc (.cells #[.int .i64 b1, .int .i64 b2, .int .i64 (Lib.compareInt 0 0), .int .i64 b3, .int .i64 (Lib.compareInt t2 t1), .int .i64 (Lib.compareInt 4 4)] 3)) = V at HB HC ⊢
    generalize w5.heap.size = g at HC ⊢
    go_wp2
    go_loopw [8] (fun vi wr => ∃ i : Nat, i ≤ 6 ∧ vi = .int .i64 i ∧ wr = V ∧ Hid (orI l = orI (l.drop i))) (fun vi _ => 6 - (intOf vi).toNat)
    case atStart => exact ⟨0, Nat.zero_le _, rfl, rfl, rfl⟩
    case round =>
      obtain ⟨i, hi, rfl, rfl, HO⟩ := hrel
      by_cases hlt : i < 6
      · have hil : i < l.length := by rw [HL.out]; exact hlt
        have hc := HC.out i hil
        have HD : Hid (orI l = if l[i] = 0 then orI (l.drop (i + 1)) else l[i]) := by
          unfold Hid
          rw [HO.out, List.drop_eq_getElem_cons hil, orI]
        generalize l[i] = x at hc HD
        by_cases hx : x = 0
        · subst hx
          go_wp2
          go_roundw
          case rel => exact ⟨i + 1, by omega, by go_num, trivial, by unfold Hid; rw [HD.out, if_pos rfl]⟩
          case measure => simp [intOf]; omega
        · have q0 : (x != 0) = true := by simpa using hx
          go_wp2
          go_ret
          refine ⟨?_, HB.out⟩
          rw [HE.out, HD.out, if_neg hx]
          rfl
      · go_wp2
        go_ret
        refine ⟨?_, HB.out⟩
        rw [HE.out, HO.out, List.drop_eq_nil_of_le (by have := HL.out; omega)]
        rfl
  · go_enter Tryd.func20, Tryd.ntmps20
    go_upto_region 7 with (fail)
    obtain ⟨W, hW⟩ : ∃ W, ((w.alloc (.cells #[.string r1, .string f1, .string q1, .int .i64 t1, .int .i64 4, .int .i64 vk1, .int .i64 vn1, .string s1] 40)).alloc (.cells #[.string r2, .string f2, .string q2, .int .i64 t2, .int .i64 k2, .int .i64 vk2, .int .i64 vn2, .string s2] 40)) = W := ⟨_, rfl⟩
    have HT : Hid (TwoC w r1 f1 q1 s1 t1 4 vk1 vn1 r2 f2 q2 s2 t2 k2 vk2 vn2 W) := by
      subst hW
      have B1 : Blk (w.alloc (.cells #[Value.string r1, .string f1, .string q1, .int .i64 t1, .int .i64 4, .int .i64 vk1, .int .i64 vn1, .string s1] 40)) w.heap.size 40 #[Value.string r1, .string f1, .string q1, .int .i64 t1, .int .i64 4, .int .i64 vk1, .int .i64 vn1, .string s1] := Blk.new w _ _
      have B2 := B1.keep (below_new _ (.cells #[Value.string r2, .string f2, .string q2, .int .i64 t2, .int .i64 k2, .int .i64 vk2, .int .i64 vn2, .string s2] 40)) (by simp)
      have B3 : Blk ((w.alloc (.cells #[Value.string r1, .string f1, .string q1, .int .i64 t1, .int .i64 4, .int .i64 vk1, .int .i64 vn1, .string s1] 40)).alloc (.cells #[Value.string r2, .string f2, .string q2, .int .i64 t2, .int .i64 k2, .int .i64 vk2, .int .i64 vn2, .string s2] 40)) (w.heap.size + 1) 40 #[Value.string r2, .string f2, .string q2, .int .i64 t2, .int .i64 k2, .int .i64 vk2, .int .i64 vn2, .string s2] := by
        have := Blk.new (w.alloc (.cells #[Value.string r1, .string f1, .string q1, .int .i64 t1, .int .i64 4, .int .i64 vk1, .int .i64 vn1, .string s1] 40)) 40 #[Value.string r2, .string f2, .string q2, .int .i64 t2, .int .i64 k2, .int .i64 vk2, .int .i64 vn2, .string s2]
        simpa using this
      exact ⟨hid ⟨(below_new w _).alloc (by simp) _, by simp⟩, B2.cell 0, B2.cell 1, B2.cell 2, B2.cell 3, B2.cell 4, B2.cell 5, B2.cell 6, B2.cell 7, B3.cell 0, B3.cell 1, B3.cell 2, B3.cell 3, B3.cell 4, B3.cell 5, B3.cell 6, B3.cell 7⟩
    rw [hW]
    clear hW
    obtain ⟨h0, c0, c1, c2, c3, c4, c5, c6, c7, d0, d1, d2, d3, d4, d5, d6, d7⟩ := HT.out
    go_region_held3 (fun w' => Hid (Below w.heap.size w w' ∧ w.heap.size + 1 < w'.heap.size) ∧ w'.cell? ⟨w.heap.size, 0, none⟩ = some (.string r1) ∧ w'.cell? ⟨w.heap.size, 1, none⟩ = some (.string f1) ∧ w'.cell? ⟨w.heap.size, 2, none⟩ = some (.string q1) ∧ w'.cell? ⟨w.heap.size, 3, none⟩ = some (.int .i64 t1) ∧ w'.cell? ⟨w.heap.size, 4, none⟩ = some (.int .i64 4) ∧ w'.cell? ⟨w.heap.size, 5, none⟩ = some (.int .i64 vk1) ∧ w'.cell? ⟨w.heap.size, 6, none⟩ = some (.int .i64 vn1) ∧ w'.cell? ⟨w.heap.size, 7, none⟩ = some (.string s1) ∧ w'.cell? ⟨w.heap.size + 1, 0, none⟩ = some (.string r2) ∧ w'.cell? ⟨w.heap.size + 1, 1, none⟩ = some (.string f2) ∧ w'.cell? ⟨w.heap.size + 1, 2, none⟩ = some (.string q2) ∧ w'.cell? ⟨w.heap.size + 1, 3, none⟩ = some (.int .i64 t2) ∧ w'.cell? ⟨w.heap.size + 1, 4, none⟩ = some (.int .i64 k2) ∧ w'.cell? ⟨w.heap.size + 1, 5, none⟩ = some (.int .i64 vk2) ∧ w'.cell? ⟨w.heap.size + 1, 6, none⟩ = some (.int .i64 vn2) ∧ w'.cell? ⟨w.heap.size + 1, 7, none⟩ = some (.string s2))
      (first | exact HT.out | exact twoc_drew HT.out | exact twoc_call (by assumption) hbo | exact twoc_drew (by assumption) | assumption | exact twoc_call (by assumption) (below_new _ _) | exact twoc_call (twoc_call (by assumption) (below_new _ _)) hbo)
      (first
        | (go_at_call 58; (first | (with_reducible refine (HTr.out _).mono ?_) | (with_reducible refine (HTf.out _).mono ?_) | (with_reducible refine (HTq.out _).mono ?_)); rintro e w5 ⟨rfl, hbo⟩)
        | (go_at_call 59; ((with_reducible refine (refcmp3_any _ _ _).mono ?_); rintro e w5 ⟨rfl, rfl⟩)))
    rename_i hLast
    have HB : Hid (Below w.heap.size w _) := hid hLast.1.out.1
    clear hLast HTr HTf HTq HT h0 c0 c1 c2 c3 c4 c5 c6 c7 d0 d1 d2 d3 d4 d5 d6 d7 hbo
    obtain ⟨l, hl⟩ : ∃ l : List Int, [b1, b2, Lib.compareInt 0 1, b3, Lib.compareInt t2 t1, Lib.compareInt k2 4] = l := ⟨_, rfl⟩
    have HL : Hid (l.length = 6) := hid (by rw [← hl]; rfl)
    have HC : Hid (∀ i (h : i < l.length), (w5.alloc (.cells #[.int .i64 b1, .int .i64 b2, .int .i64 (Lib.compareInt 0 1), .int .i64 b3, .int .i64 (Lib.compareInt t2 t1), .int .i64 (Lib.compareInt k2 4)] 3)).cell? ⟨w5.heap.size, i, none⟩ = some (.int .i64 l[i])) := by
      subst hl
      refine hid fun i hi => ?_
      rw [(Blk.new w5 3 _).cell i]
      match i, hi with
      | 0, _ => rfl
      | 1, _ => rfl
      | 2, _ => rfl
      | 3, _ => rfl
      | 4, _ => rfl
      | 5, _ => rfl
    have HE := hid hl
    clear hl
    generalize (w5.alloc (.cells #[.int .i64 b1, .int .i64 b2, .int .i64 (Lib.compareInt 0 1), .int .i64 b3, .int .i64 (Lib.compareInt t2 t1), .int .i64 (Lib.compareInt k2 4)] 3)) = V at HB HC ⊢
    generalize w5.heap.size = g at HC ⊢
    go_wp2
    go_loopw [8] (fun vi wr => ∃ i : Nat, i ≤ 6 ∧ vi = .int .i64 i ∧ wr = V ∧ Hid (orI l = orI (l.drop i))) (fun vi _ => 6 - (intOf vi).toNat)
    case atStart => exact ⟨0, Nat.zero_le _, rfl, rfl, rfl⟩
    case round =>
      obtain ⟨i, hi, rfl, rfl, HO⟩ := hrel
      by_cases hlt : i < 6
      · have hil : i < l.length := by rw [HL.out]; exact hlt
        have hc := HC.out i hil
        have HD : Hid (orI l = if l[i] = 0 then orI (l.drop (i + 1)) else l[i]) := by
          unfold Hid
          rw [HO.out, List.drop_eq_getElem_cons hil, orI]
        generalize l[i] = x at hc HD
        by_cases hx : x = 0
        · subst hx
          go_wp2
          go_roundw
          case rel => exact ⟨i + 1, by omega, by go_num, trivial, by unfold Hid; rw [HD.out, if_pos rfl]⟩
          case measure => simp [intOf]; omega
        · have q0 : (x != 0) = true := by simpa using hx
          go_wp2
          go_ret
          refine ⟨?_, HB.out⟩
          rw [HE.out, HD.out, if_neg hx]
          rfl
      · go_wp2
        go_ret
        refine ⟨?_, HB.out⟩
        rw [HE.out, HO.out, List.drop_eq_nil_of_le (by have := HL.out; omega)]
        rfl
  · go_enter Tryd.func20, Tryd.ntmps20
    go_upto_region 7 with (fail)
    obtain ⟨W, hW⟩ : ∃ W, ((w.alloc (.cells #[.string r1, .string f1, .string q1, .int .i64 t1, .int .i64 k1, .int .i64 vk1, .int .i64 vn1, .string s1] 40)).alloc (.cells #[.string r2, .string f2, .string q2, .int .i64 t2, .int .i64 4, .int .i64 vk2, .int .i64 vn2, .string s2] 40)) = W := ⟨_, rfl⟩
    have HT : Hid (TwoC w r1 f1 q1 s1 t1 k1 vk1 vn1 r2 f2 q2 s2 t2 4 vk2 vn2 W) := by
      subst hW
      have B1 : Blk (w.alloc (.cells #[Value.string r1, .string f1, .string q1, .int .i64 t1, .int .i64 k1, .int .i64 vk1, .int .i64 vn1, .string s1] 40)) w.heap.size 40 #[Value.string r1, .string f1, .string q1, .int .i64 t1, .int .i64 k1, .int .i64 vk1, .int .i64 vn1, .string s1] := Blk.new w _ _
      have B2 := B1.keep (below_new _ (.cells #[Value.string r2, .string f2, .string q2, .int .i64 t2, .int .i64 4, .int .i64 vk2, .int .i64 vn2, .string s2] 40)) (by simp)
      have B3 : Blk ((w.alloc (.cells #[Value.string r1, .string f1, .string q1, .int .i64 t1, .int .i64 k1, .int .i64 vk1, .int .i64 vn1, .string s1] 40)).alloc (.cells #[Value.string r2, .string f2, .string q2, .int .i64 t2, .int .i64 4, .int .i64 vk2, .int .i64 vn2, .string s2] 40)) (w.heap.size + 1) 40 #[Value.string r2, .string f2, .string q2, .int .i64 t2, .int .i64 4, .int .i64 vk2, .int .i64 vn2, .string s2] := by
        have := Blk.new (w.alloc (.cells #[Value.string r1, .string f1, .string q1, .int .i64 t1, .int .i64 k1, .int .i64 vk1, .int .i64 vn1, .string s1] 40)) 40 #[Value.string r2, .string f2, .string q2, .int .i64 t2, .int .i64 4, .int .i64 vk2, .int .i64 vn2, .string s2]
        simpa using this
      exact ⟨hid ⟨(below_new w _).alloc (by simp) _, by simp⟩, B2.cell 0, B2.cell 1, B2.cell 2, B2.cell 3, B2.cell 4, B2.cell 5, B2.cell 6, B2.cell 7, B3.cell 0, B3.cell 1, B3.cell 2, B3.cell 3, B3.cell 4, B3.cell 5, B3.cell 6, B3.cell 7⟩
    rw [hW]
    clear hW
    obtain ⟨h0, c0, c1, c2, c3, c4, c5, c6, c7, d0, d1, d2, d3, d4, d5, d6, d7⟩ := HT.out
    go_region_held3 (fun w' => Hid (Below w.heap.size w w' ∧ w.heap.size + 1 < w'.heap.size) ∧ w'.cell? ⟨w.heap.size, 0, none⟩ = some (.string r1) ∧ w'.cell? ⟨w.heap.size, 1, none⟩ = some (.string f1) ∧ w'.cell? ⟨w.heap.size, 2, none⟩ = some (.string q1) ∧ w'.cell? ⟨w.heap.size, 3, none⟩ = some (.int .i64 t1) ∧ w'.cell? ⟨w.heap.size, 4, none⟩ = some (.int .i64 k1) ∧ w'.cell? ⟨w.heap.size, 5, none⟩ = some (.int .i64 vk1) ∧ w'.cell? ⟨w.heap.size, 6, none⟩ = some (.int .i64 vn1) ∧ w'.cell? ⟨w.heap.size, 7, none⟩ = some (.string s1) ∧ w'.cell? ⟨w.heap.size + 1, 0, none⟩ = some (.string r2) ∧ w'.cell? ⟨w.heap.size + 1, 1, none⟩ = some (.string f2) ∧ w'.cell? ⟨w.heap.size + 1, 2, none⟩ = some (.string q2) ∧ w'.cell? ⟨w.heap.size + 1, 3, none⟩ = some (.int .i64 t2) ∧ w'.cell? ⟨w.heap.size + 1, 4, none⟩ = some (.int .i64 4) ∧ w'.cell? ⟨w.heap.size + 1, 5, none⟩ = some (.int .i64 vk2) ∧ w'.cell? ⟨w.heap.size + 1, 6, none⟩ = some (.int .i64 vn2) ∧ w'.cell? ⟨w.heap.size + 1, 7, none⟩ = some (.string s2))
      (first | exact HT.out | exact twoc_drew HT.out | exact twoc_call (by assumption) hbo | exact twoc_drew (by assumption) | assumption | exact twoc_call (by assumption) (below_new _ _) | exact twoc_call (twoc_call (by assumption) (below_new _ _)) hbo)
      (first
        | (go_at_call 58; (first | (with_reducible refine (HTr.out _).mono ?_) | (with_reducible refine (HTf.out _).mono ?_) | (with_reducible refine (HTq.out _).mono ?_)); rintro e w5 ⟨rfl, hbo⟩)
        | (go_at_call 59; ((with_reducible refine (refcmp3_any _ _ _).mono ?_); rintro e w5 ⟨rfl, rfl⟩)))
    rename_i hLast
    have HB : Hid (Below w.heap.size w _) := hid hLast.1.out.1
    clear hLast HTr HTf HTq HT h0 c0 c1 c2 c3 c4 c5 c6 c7 d0 d1 d2 d3 d4 d5 d6 d7 hbo
    obtain ⟨l, hl⟩ : ∃ l : List Int, [b1, b2, Lib.compareInt 1 0, b3, Lib.compareInt t2 t1, Lib.compareInt 4 k1] = l := ⟨_, rfl⟩
    have HL : Hid (l.length = 6) := hid (by rw [← hl]; rfl)
    have HC : Hid (∀ i (h : i < l.length), (w5.alloc (.cells #[.int .i64 b1, .int .i64 b2, .int .i64 (Lib.compareInt 1 0), .int .i64 b3, .int .i64 (Lib.compareInt t2 t1), .int .i64 (Lib.compareInt 4 k1)] 3)).cell? ⟨w5.heap.size, i, none⟩ = some (.int .i64 l[i])) := by
      subst hl
      refine hid fun i hi => ?_
      rw [(Blk.new w5 3 _).cell i]
      match i, hi with
      | 0, _ => rfl
      | 1, _ => rfl
      | 2, _ => rfl
      | 3, _ => rfl
      | 4, _ => rfl
      | 5, _ => rfl
    have HE := hid hl
    clear hl
    generalize (w5.alloc (.cells #[.int .i64 b1, .int .i64 b2, .int .i64 (Lib.compareInt 1 0), .int .i64 b3, .int .i64 (Lib.compareInt t2 t1), .int .i64 (Lib.compareInt 4 k1)] 3)) = V at HB HC ⊢
    generalize w5.heap.size = g at HC ⊢
    go_wp2
    go_loopw [8] (fun vi wr => ∃ i : Nat, i ≤ 6 ∧ vi = .int .i64 i ∧ wr = V ∧ Hid (orI l = orI (l.drop i))) (fun vi _ => 6 - (intOf vi).toNat)
    case atStart => exact ⟨0, Nat.zero_le _, rfl, rfl, rfl⟩
    case round =>
      obtain ⟨i, hi, rfl, rfl, HO⟩ := hrel
      by_cases hlt : i < 6
      · have hil : i < l.length := by rw [HL.out]; exact hlt
        have hc := HC.out i hil
        have HD : Hid (orI l = if l[i] = 0 then orI (l.drop (i + 1)) else l[i]) := by
          unfold Hid
          rw [HO.out, List.drop_eq_getElem_cons hil, orI]
        generalize l[i] = x at hc HD
        by_cases hx : x = 0
        · subst hx
          go_wp2
          go_roundw
          case rel => exact ⟨i + 1, by omega, by go_num, trivial, by unfold Hid; rw [HD.out, if_pos rfl]⟩
          case measure => simp [intOf]; omega
        · have q0 : (x != 0) = true := by simpa using hx
          go_wp2
          go_ret
          refine ⟨?_, HB.out⟩
          rw [HE.out, HD.out, if_neg hx]
          rfl
      · go_wp2
        go_ret
        refine ⟨?_, HB.out⟩
        rw [HE.out, HO.out, List.drop_eq_nil_of_le (by have := HL.out; omega)]
        rfl
  · go_enter Tryd.func20, Tryd.ntmps20
    go_upto_region 7 with (fail)
    obtain ⟨W, hW⟩ : ∃ W, ((w.alloc (.cells #[.string r1, .string f1, .string q1, .int .i64 t1, .int .i64 k1, .int .i64 vk1, .int .i64 vn1, .string s1] 40)).alloc (.cells #[.string r2, .string f2, .string q2, .int .i64 t2, .int .i64 k2, .int .i64 vk2, .int .i64 vn2, .string s2] 40)) = W := ⟨_, rfl⟩
    have HT : Hid (TwoC w r1 f1 q1 s1 t1 k1 vk1 vn1 r2 f2 q2 s2 t2 k2 vk2 vn2 W) := by
      subst hW
      have B1 : Blk (w.alloc (.cells #[Value.string r1, .string f1, .string q1, .int .i64 t1, .int .i64 k1, .int .i64 vk1, .int .i64 vn1, .string s1] 40)) w.heap.size 40 #[Value.string r1, .string f1, .string q1, .int .i64 t1, .int .i64 k1, .int .i64 vk1, .int .i64 vn1, .string s1] := Blk.new w _ _
      have B2 := B1.keep (below_new _ (.cells #[Value.string r2, .string f2, .string q2, .int .i64 t2, .int .i64 k2, .int .i64 vk2, .int .i64 vn2, .string s2] 40)) (by simp)
      have B3 : Blk ((w.alloc (.cells #[Value.string r1, .string f1, .string q1, .int .i64 t1, .int .i64 k1, .int .i64 vk1, .int .i64 vn1, .string s1] 40)).alloc (.cells #[Value.string r2, .string f2, .string q2, .int .i64 t2, .int .i64 k2, .int .i64 vk2, .int .i64 vn2, .string s2] 40)) (w.heap.size + 1) 40 #[Value.string r2, .string f2, .string q2, .int .i64 t2, .int .i64 k2, .int .i64 vk2, .int .i64 vn2, .string s2] := by
        have := Blk.new (w.alloc (.cells #[Value.string r1, .string f1, .string q1, .int .i64 t1, .int .i64 k1, .int .i64 vk1, .int .i64 vn1, .string s1] 40)) 40 #[Value.string r2, .string f2, .string q2, .int .i64 t2, .int .i64 k2, .int .i64 vk2, .int .i64 vn2, .string s2]
        simpa using this
      exact ⟨hid ⟨(below_new w _).alloc (by simp) _, by simp⟩, B2.cell 0, B2.cell 1, B2.cell 2, B2.cell 3, B2.cell 4, B2.cell 5, B2.cell 6, B2.cell 7, B3.cell 0, B3.cell 1, B3.cell 2, B3.cell 3, B3.cell 4, B3.cell 5, B3.cell 6, B3.cell 7⟩
    rw [hW]
    clear hW
    obtain ⟨h0, c0, c1, c2, c3, c4, c5, c6, c7, d0, d1, d2, d3, d4, d5, d6, d7⟩ := HT.out
    go_region_held3 (fun w' => Hid (Below w.heap.size w w' ∧ w.heap.size + 1 < w'.heap.size) ∧ w'.cell? ⟨w.heap.size, 0, none⟩ = some (.string r1) ∧ w'.cell? ⟨w.heap.size, 1, none⟩ = some (.string f1) ∧ w'.cell? ⟨w.heap.size, 2, none⟩ = some (.string q1) ∧ w'.cell? ⟨w.heap.size, 3, none⟩ = some (.int .i64 t1) ∧ w'.cell? ⟨w.heap.size, 4, none⟩ = some (.int .i64 k1) ∧ w'.cell? ⟨w.heap.size, 5, none⟩ = some (.int .i64 vk1) ∧ w'.cell? ⟨w.heap.size, 6, none⟩ = some (.int .i64 vn1) ∧ w'.cell? ⟨w.heap.size, 7, none⟩ = some (.string s1) ∧ w'.cell? ⟨w.heap.size + 1, 0, none⟩ = some (.string r2) ∧ w'.cell? ⟨w.heap.size + 1, 1, none⟩ = some (.string f2) ∧ w'.cell? ⟨w.heap.size + 1, 2, none⟩ = some (.string q2) ∧ w'.cell? ⟨w.heap.size + 1, 3, none⟩ = some (.int .i64 t2) ∧ w'.cell? ⟨w.heap.size + 1, 4, none⟩ = some (.int .i64 k2) ∧ w'.cell? ⟨w.heap.size + 1, 5, none⟩ = some (.int .i64 vk2) ∧ w'.cell? ⟨w.heap.size + 1, 6, none⟩ = some (.int .i64 vn2) ∧ w'.cell? ⟨w.heap.size + 1, 7, none⟩ = some (.string s2))
      (first | exact HT.out | exact twoc_drew HT.out | exact twoc_call (by assumption) hbo | exact twoc_drew (by assumption) | assumption | exact twoc_call (by assumption) (below_new _ _) | exact twoc_call (twoc_call (by assumption) (below_new _ _)) hbo)
      (first
        | (go_at_call 58; (first | (with_reducible refine (HTr.out _).mono ?_) | (with_reducible refine (HTf.out _).mono ?_) | (with_reducible refine (HTq.out _).mono ?_)); rintro e w5 ⟨rfl, hbo⟩)
        | (go_at_call 59; ((with_reducible refine (refcmp3_any _ _ _).mono ?_); rintro e w5 ⟨rfl, rfl⟩)))
    rename_i hLast
    have HB : Hid (Below w.heap.size w _) := hid hLast.1.out.1
    clear hLast HTr HTf HTq HT h0 c0 c1 c2 c3 c4 c5 c6 c7 d0 d1 d2 d3 d4 d5 d6 d7 hbo
    obtain ⟨l, hl⟩ : ∃ l : List Int, [b1, b2, Lib.compareInt 1 1, b3, Lib.compareInt t2 t1, Lib.compareInt k2 k1] = l := ⟨_, rfl⟩
    have HL : Hid (l.length = 6) := hid (by rw [← hl]; rfl)
    have HC : Hid (∀ i (h : i < l.length), (w5.alloc (.cells #[.int .i64 b1, .int .i64 b2, .int .i64 (Lib.compareInt 1 1), .int .i64 b3, .int .i64 (Lib.compareInt t2 t1), .int .i64 (Lib.compareInt k2 k1)] 3)).cell? ⟨w5.heap.size, i, none⟩ = some (.int .i64 l[i])) := by
      subst hl
      refine hid fun i hi => ?_
      rw [(Blk.new w5 3 _).cell i]
      match i, hi with
      | 0, _ => rfl
      | 1, _ => rfl
      | 2, _ => rfl
      | 3, _ => rfl
      | 4, _ => rfl
      | 5, _ => rfl
    have HE := hid hl
    clear hl
    generalize (w5.alloc (.cells #[.int .i64 b1, .int .i64 b2, .int .i64 (Lib.compareInt 1 1), .int .i64 b3, .int .i64 (Lib.compareInt t2 t1), .int .i64 (Lib.compareInt k2 k1)] 3)) = V at HB HC ⊢
    generalize w5.heap.size = g at HC ⊢
    go_wp2
    go_loopw [8] (fun vi wr => ∃ i : Nat, i ≤ 6 ∧ vi = .int .i64 i ∧ wr = V ∧ Hid (orI l = orI (l.drop i))) (fun vi _ => 6 - (intOf vi).toNat)
    case atStart => exact ⟨0, Nat.zero_le _, rfl, rfl, rfl⟩
    case round =>
      obtain ⟨i, hi, rfl, rfl, HO⟩ := hrel
      by_cases hlt : i < 6
      · have hil : i < l.length := by rw [HL.out]; exact hlt
        have hc := HC.out i hil
        have HD : Hid (orI l = if l[i] = 0 then orI (l.drop (i + 1)) else l[i]) := by
          unfold Hid
          rw [HO.out, List.drop_eq_getElem_cons hil, orI]
        generalize l[i] = x at hc HD
        by_cases hx : x = 0
        · subst hx
          go_wp2
          go_roundw
          case rel => exact ⟨i + 1, by omega, by go_num, trivial, by unfold Hid; rw [HD.out, if_pos rfl]⟩
          case measure => simp [intOf]; omega
        · have q0 : (x != 0) = true := by simpa using hx
          go_wp2
          go_ret
          refine ⟨?_, HB.out⟩
          rw [HE.out, HD.out, if_neg hx]
          rfl
      · go_wp2
        go_ret
        refine ⟨?_, HB.out⟩
        rw [HE.out, HO.out, List.drop_eq_nil_of_le (by have := HL.out; omega)]
        rfl

end Go.Proofs.YtfcnobcpnhfgmaaDoor
