/- cell.Sort at every list of cells: the right ones in order, of each place the last one. Conditions: a hundred thousand cells at most, their texts no longer than any are, their numbers of 64 bits; the tables of utf8 read as they are laid. -/
import Derived.Test.YtfcnobcpnhfgmaaDoorHE
import Derived.Test.YtfcnobcpnhfgmaaDoorCC
import Derived.Test.YtfcnobcpnhfgmaaDoorHFa
namespace Go.Proofs.YtfcnobcpnhfgmaaDoor
open Go.RowKit

theorem cright_ct (c : CT) (h : okC c) (w : World) (hL : LaidU w) : Calls Tryd.prog 61 #[c.v] w fun e w' => e = .returned (.bool c.ok) ∧ Below w.heap.size w w' :=
  cright_any c.r c.f c.q c.s c.t c.k c.vk h.2.2 h.1 h.2.1 w hL

theorem lasts_len : ∀ s : List CT, (lastsM s).length ≤ s.length
  | [] => Nat.le_refl _
  | [x] => Nat.le_refl _
  | x :: y :: t => by
    have := lasts_len (y :: t)
    show (if CT.cmp x y = 0 then lastsM (y :: t) else x :: lastsM (y :: t)).length ≤ _
    split
    · simp only [List.length_cons] at *; omega
    · simp only [List.length_cons] at *; omega

set_option maxHeartbeats 1000000 in
theorem lasts_any (B : Nat) (v : Value) (s : List CT) (hs : s.length ≤ 100000) (w : World) (h : CRow w B v s) (hB : B ≤ w.heap.size) :
    Calls Tryd.prog 122 #[v] w fun e w' => ∃ v', e = .returned v' ∧ CRow w' B v' (lastsM s) ∧ Below B w w' := by
  have h' := h
  rcases h.2 with ⟨e, hz⟩ | ⟨g, cap, cur, e, hBg, hb, _⟩
  · have e0 : s = [] := List.eq_nil_of_length_eq_zero hz
    subst e0 e
    have HN := hid (CRow.none w B)
    clear h h'
    go_enter Tryd.func122, Tryd.ntmps122
    go_wp2
    go_loopw [3, 10] (fun vo vi wr => vi = .int .i64 0 ∧ vo = .slice none 0 0 ∧ wr = w) (fun _ _ _ => 0)
    case atStart => exact ⟨rfl, rfl, rfl⟩
    case round =>
      obtain ⟨rfl, rfl, rfl⟩ := hrel
      go_wp2
      go_ret
      exact ⟨_, rfl, HN.out, Below.refl _ _⟩
  · subst e
    exact lasts_some B g cap s hs w h' hB hBg (Array.getElem?_eq_some_iff.1 hb).1

set_option maxHeartbeats 4000000 in
set_option maxRecDepth 100000 in
theorem csort_any (v : Value) (l : List CT) (hl : l.length ≤ 100000) (w : World) (h : ClA w v l) (hok : ∀ c ∈ l, okC c) (hL : LaidU w) :
    Calls Tryd.prog 74 #[v] w fun e w' => ∃ v' l', e = .returned v' ∧ StbL (l.filter CT.ok) l' ∧ CRow w' w.heap.size v' (lastsM (l'.map Prod.fst)) ∧ Below w.heap.size w w' := by
  obtain ⟨A, cc, rfl, hc1, hc2, hh⟩ := h
  obtain ⟨n, hn⟩ : ∃ n, l.length = n := ⟨_, rfl⟩
  have HN := hid hn
  rw [hn] at hl hc1 hh ⊢
  have HH := hid hh
  have HOK := hid hok
  have HLw := hid hL
  have HR : Hid (∀ (c : CT) (W : World), okC c → Below w.heap.size w W → Calls Tryd.prog 61 #[c.v] W fun e w' => e = .returned (.bool c.ok) ∧ Below W.heap.size W w') := fun c W h1 h2 => cright_ct c h1 W (hL.below h2)
  have HSt := hid sortStable_any
  have HLa := hid lasts_any
  have HN0 := hid (CRow.none w w.heap.size)
  clear hn hh hok hL
  go_enter Tryd.func74, Tryd.ntmps74
  go_wp2
  go_loopw [3, 8] (fun vo vi wr => ∃ i : Nat, i ≤ n ∧ vi = .int .i64 i ∧ Hid (CRow wr w.heap.size vo ((l.take i).filter CT.ok)) ∧ Hid (Below w.heap.size w wr)) (fun _ vi _ => n - (intOf vi).toNat)
  case atStart => exact ⟨0, Nat.zero_le _, rfl, HN0.out, Below.refl _ _⟩
  case round =>
    obtain ⟨i, hi, rfl, HO, HB⟩ := hrel
    by_cases hlt : i < n
    · have hin : i < l.length := by rw [HN.out]; exact hlt
      have hltz : (i : Int) < (n : Int) := by omega
      obtain ⟨b, off, rfl, hhc⟩ := HH.out (by omega)
      have hbw : b < w.heap.size := hhc.lt (by omega)
      obtain ⟨c, hc⟩ : ∃ c, l[i] = c := ⟨_, rfl⟩
      have P : wr.cell? ⟨b, off + i * 8, none⟩ = some (.string c.r) ∧ wr.cell? ⟨b, off + i * 8 + 1, none⟩ = some (.string c.f) ∧ wr.cell? ⟨b, off + i * 8 + 2, none⟩ = some (.string c.q) ∧ wr.cell? ⟨b, off + i * 8 + 3, none⟩ = some (.int .i64 c.t) ∧ wr.cell? ⟨b, off + i * 8 + 4, none⟩ = some (.int .i64 c.k) ∧ wr.cell? ⟨b, off + i * 8 + 5, none⟩ = some (.int .i64 c.vk) ∧ wr.cell? ⟨b, off + i * 8 + 6, none⟩ = some (.int .i64 c.vn) ∧ wr.cell? ⟨b, off + i * 8 + 7, none⟩ = some (.string c.s) := by
        rw [← hc]
        exact (hhc.below HB.out hbw).words i hin
      have hoc : okC c := by rw [← hc]; exact HOK.out _ (List.getElem_mem hin)
      have HTk : Hid ((l.take (i + 1)).filter CT.ok = (l.take i).filter CT.ok ++ (if c.ok = true then [c] else [])) := by
        unfold Hid
        rw [List.take_add_one, List.getElem?_eq_getElem hin, List.filter_append, hc]
        show _ ++ List.filter CT.ok [c] = _
        simp only [List.filter_cons, List.filter_nil]
      have HLn : Hid (((l.take i).filter CT.ok).length ≤ 100000) := by
        have := List.length_filter_le CT.ok (l.take i)
        rw [List.length_take] at this
        unfold Hid; omega
      obtain ⟨p0, p1, p2, p3, p4, p5, p6, p7⟩ := P
      clear hc hhc
      go_upto_region 5 with (fail)
      obtain ⟨bb, hbb⟩ : ∃ bb, wr.heap.size = bb := ⟨_, rfl⟩
      refine wp_ltc (fun W => Hid (Blk W bb 40 c.e.toArray ∧ Below wr.heap.size wr W ∧ bb = wr.heap.size) ∧ W.cell? ⟨bb, 0, none⟩ = some (.string c.r) ∧ W.cell? ⟨bb, 1, none⟩ = some (.string c.f) ∧ W.cell? ⟨bb, 2, none⟩ = some (.string c.q) ∧ W.cell? ⟨bb, 3, none⟩ = some (.int .i64 c.t) ∧ W.cell? ⟨bb, 4, none⟩ = some (.int .i64 c.k) ∧ W.cell? ⟨bb, 5, none⟩ = some (.int .i64 c.vk) ∧ W.cell? ⟨bb, 6, none⟩ = some (.int .i64 c.vn) ∧ W.cell? ⟨bb, 7, none⟩ = some (.string c.s)) (by rw [← hbb]; have hB := Blk.new wr 40 c.e.toArray; exact ⟨⟨hB, below_new _ _, rfl⟩, blk_words hB⟩) (fun W hW => ?_)
      rw [hbb]
      obtain ⟨HW, b0, b1, b2, b3, b4, b5, b6, b7⟩ := hW
      have HB2 : Hid (Below w.heap.size w W) := HB.out.trans (HW.out.2.1.mono HB.out.size)
      have HO2 : Hid (CRow W w.heap.size _ ((l.take i).filter CT.ok)) := HO.out.below HW.out.2.1
      have hR := HR.out c W hoc HB2.out
      clear p0 p1 p2 p3 p4 p5 p6 p7 hbb HO HB
      cases hck : c.ok with
      | false =>
        rw [hck] at hR HTk
        have HR2 := hid hR
        have HT2 : Hid ((l.take (i + 1)).filter CT.ok = (l.take i).filter CT.ok) := by have := HTk.out; rwa [if_neg (by decide), List.append_nil] at this
        clear hR hck
        go_wp2_with (go_at_call 61; refine HR2.out.mono ?_; rintro e w5 ⟨rfl, hb5⟩)
        go_roundw
        case rel => exact ⟨i + 1, by omega, by go_num, by rw [HT2.out]; exact HO2.out.below hb5, HB2.out.trans (hb5.mono HB2.out.size)⟩
        case measure => simp [intOf]; omega
      | true =>
        rw [hck] at hR HTk
        have HR2 := hid hR
        have HT2 : Hid ((l.take (i + 1)).filter CT.ok = (l.take i).filter CT.ok ++ [c]) := by have := HTk.out; rwa [if_pos rfl] at this
        clear hR hck
        go_wp2_with (first
          | (go_at_call 61; refine HR2.out.mono ?_; rintro e w5 ⟨rfl, hb5⟩; have hK5 := hid (HW.out.1.keep hb5 HW.out.1.lt); obtain ⟨e0, e1, e2, e3, e4, e5, e6, e7⟩ := blk_words hK5.out; have HO5 := hid (HO2.out.below hb5))
          | (at_builtin; refine wpList_append_cell rfl (.tmp 14) (.tmp 16) rfl _ w.heap.size _ _ rfl (HO5.out.below (below_new _ _)) _ 1 rfl c (ct_new c _ _) HLn.out (by have := HB2.out.size; have := hb5.size; simp; omega) ?_; intro v6 w6 h6 hb6 _))
        go_roundw
        case rel =>
          have z1 := HB2.out.size
          have z2 := hb5.size
          exact ⟨i + 1, by omega, by go_num, by rw [HT2.out]; exact h6, ((HB2.out.trans (hb5.mono z1)).alloc (by omega) _).trans hb6⟩
        case measure => simp [intOf]; omega
    · obtain rfl : i = n := by omega
      have hO2 := HO.out
      rw [List.take_of_length_le (by rw [HN.out]; exact Nat.le_refl _)] at hO2
      have HO2 := hid hO2
      clear hO2
      have HLn : Hid ((l.filter CT.ok).length ≤ 100000) := by
        have := List.length_filter_le CT.ok l
        have := HN.out
        unfold Hid; omega
      go_wp2_with (first
        | (go_at_call 121; refine (HSt.out w.heap.size _ _ HLn.out wr HO2.out HB.out.size).mono ?_; rintro e w5 ⟨rfl, l', hS5, hR5, hb5⟩; have hq5 := hid hS5; have hl5 : (l'.map Prod.fst).length ≤ 100000 := (by rw [List.length_map, hS5.perm.length_eq, List.length_zipIdx]; exact HLn.out))
        | (go_at_call 122; refine (HLa.out w.heap.size _ _ hl5 w5 hR5 (Nat.le_trans HB.out.size hb5.size)).mono ?_; rintro e w6 ⟨v6, rfl, hR6, hb6⟩))
      go_ret
      exact ⟨_, l', rfl, hq5.out, hR6, (HB.out.trans hb5).trans hb6⟩
end Go.Proofs.YtfcnobcpnhfgmaaDoor
