/- The document's Sort. Conditions: the argument stands, its cells are such as the laws look at, a thousand at most. -/
import Derived.Test.YtgfkobfkncpmoaaDoorPB
import Derived.Test.YtgfkobfkncpmoaaDoorII
import Derived.Test.YtgfkobfkncpmoaaDoorKD
import Derived.Deep.RegionHeld3
import Derived.Deep.QuietTactic
namespace Go.Proofs.YtgfkobfkncpmoaaDoor
open Go.RowKit

/-- Right cells in order, each once. -/
def sortL : List CT → List CT → List CT
  | d, [] => d
  | d, c :: l => sortL (if c.ok = true then putL d c else d) l
theorem sortL_snoc : ∀ (l : List CT) (d : List CT) (c : CT), sortL d (l ++ [c]) = if c.ok = true then putL (sortL d l) c else sortL d l
  | [], _, _ => rfl
  | x :: l, d, c => sortL_snoc l (if x.ok = true then putL d x else d) c
/-- What Sort has made of some cells. -/
structure SortI (d : List CT) : Prop where
  rise : d.Pairwise (fun x y => CT.cmp x y < 0)
  sm : ∀ x ∈ d, Sm x
  ok : ∀ x ∈ d, x.ok = true
theorem SortI.put {d : List CT} {c : CT} (h : SortI d) (hc : Sm c) (hok : c.ok = true) : SortI (putL d c) := by
  refine ⟨putL_rise c h.rise, fun x hx => ?_, fun x hx => ?_⟩
  · rcases putL_mem hx with rfl | hx
    · exact hc
    · exact h.sm x hx
  · rcases putL_mem hx with rfl | hx
    · exact hok
    · exact h.ok x hx
theorem sortI_nil : SortI [] := ⟨List.Pairwise.nil, fun x hx => (by cases hx), fun x hx => (by cases hx)⟩
theorem sortL_i : ∀ (l d : List CT), SortI d → (∀ x ∈ l, Sm x) → SortI (sortL d l)
  | [], _, h, _ => h
  | c :: l, d, h, hs => by
    show SortI (sortL (if c.ok = true then putL d c else d) l)
    refine sortL_i l _ ?_ (fun x hx => hs x (List.mem_cons_of_mem _ hx))
    split
    · rename_i hok
      exact h.put (hs c List.mem_cons_self) hok
    · exact h
theorem sortL_len : ∀ (l d : List CT), (sortL d l).length ≤ d.length + l.length
  | [], _ => Nat.le_refl _
  | c :: l, d => by
    have h := sortL_len l (if c.ok = true then putL d c else d)
    have h2 : (if c.ok = true then putL d c else d).length ≤ d.length + 1 := by
      split
      · unfold putL
        have := filter_two (p := fun x => decide (CT.cmp x c < 0)) (q := fun x => decide (0 < CT.cmp x c)) (l := d) fun x hx => by
          have := of_decide_eq_true hx
          exact decide_eq_false (by omega)
        rw [List.length_append, List.length_cons]
        omega
      · omega
    show (sortL (if c.ok = true then putL d c else d) l).length ≤ d.length + (l.length + 1)
    omega

section pax
variable {W0 W W' : World} {b o b2 p : Nat} {x y : CT}
/-- A cell of one list, and one of another, in a region that draws. -/
abbrev PaX (W0 : World) (b o b2 p : Nat) (x y : CT) (W : World) : Prop := Hid (Below W0.heap.size W0 W ∧ b < W0.heap.size ∧ b2 < W0.heap.size) ∧ (W.cell? ⟨b, o, none⟩ = some (.string x.r) ∧ W.cell? ⟨b, o + 1, none⟩ = some (.string x.f) ∧ W.cell? ⟨b, o + 2, none⟩ = some (.string x.q) ∧ W.cell? ⟨b, o + 3, none⟩ = some (.int .i64 x.t) ∧ W.cell? ⟨b, o + 4, none⟩ = some (.int .i64 x.k) ∧ W.cell? ⟨b, o + 5, none⟩ = some (.int .i64 x.vk) ∧ W.cell? ⟨b, o + 6, none⟩ = some (.int .i64 x.vn) ∧ W.cell? ⟨b, o + 7, none⟩ = some (.string x.s)) ∧ (W.cell? ⟨b2, p, none⟩ = some (.string y.r) ∧ W.cell? ⟨b2, p + 1, none⟩ = some (.string y.f) ∧ W.cell? ⟨b2, p + 2, none⟩ = some (.string y.q) ∧ W.cell? ⟨b2, p + 3, none⟩ = some (.int .i64 y.t) ∧ W.cell? ⟨b2, p + 4, none⟩ = some (.int .i64 y.k) ∧ W.cell? ⟨b2, p + 5, none⟩ = some (.int .i64 y.vk) ∧ W.cell? ⟨b2, p + 6, none⟩ = some (.int .i64 y.vn) ∧ W.cell? ⟨b2, p + 7, none⟩ = some (.string y.s))
theorem pax_drew (h : PaX W0 b o b2 p x y W) : PaX W0 b o b2 p x y W.drew := ⟨hid ⟨h.1.out.1.drew, h.1.out.2⟩, h.2⟩
theorem pax_call (h : PaX W0 b o b2 p x y W) (hb : Below W.heap.size W W') : PaX W0 b o b2 p x y W' := by
  obtain ⟨hh, ⟨a0, a1, a2, a3, a4, a5, a6, a7⟩, ⟨b0, b1, b2, b3, b4, b5, b6, b7⟩⟩ := h
  obtain ⟨hbw, h2, h3⟩ := hh.out
  have hz := hbw.size
  have hc : ∀ b o, b < W0.heap.size → W'.cell? ⟨b, o, none⟩ = W.cell? ⟨b, o, none⟩ := fun b o h => hb.cell (p := ⟨b, o, none⟩) (show b < W.heap.size by omega)
  refine ⟨hid ⟨hbw.trans (hb.mono hz), h2, h3⟩, ⟨?_, ?_, ?_, ?_, ?_, ?_, ?_, ?_⟩, ⟨?_, ?_, ?_, ?_, ?_, ?_, ?_, ?_⟩⟩ <;> (rw [hc _ _ (by omega)]; assumption)
end pax

set_option maxHeartbeats 16000000 in
set_option maxRecDepth 100000 in
theorem refsort_any (v : Value) (l : List CT) (w : World) (h : ClA w v l) (hs : ∀ x ∈ l, Sm x) (hl : l.length ≤ 1000) :
    Calls Tryd.prog 41 #[v] w fun e w' => ∃ v', e = .returned v' ∧ CRow w' w.heap.size v' (sortL [] l) ∧ Below w.heap.size w w' := by
  have mixed : Tryd.prog.follows .mixedOrders = true := by kernel_rfl
  have HSm := hid hs
  obtain ⟨A, cc, rfl, hc1, hc2, hh⟩ := h
  have HH := hid hh
  clear hh hs
  obtain ⟨n, hn⟩ : ∃ n, l.length = n := ⟨_, rfl⟩
  have HNl := hid hn
  rw [hn] at hc1 hl ⊢
  clear hn
  have HRi : Hid (∀ x ∈ l, ∀ W, Calls Tryd.prog 28 #[x.v] W fun e w' => e = .returned (.bool x.ok) ∧ Below W.heap.size W w') := fun x hx W => refright_ct x (HSm.out x hx) W
  have HE0 := hid (empty_crow w w.heap.size (Nat.le_refl _))
  have HA0 := hid (below_new w (.cells #[] 28))
  go_enter Tryd.func41, Tryd.ntmps41
  go_wp2
  go_loopw [3, 4] (fun vo vi wo => ∃ i : Nat, i ≤ n ∧ vi = .int .i64 i ∧ Hid (CRow wo w.heap.size vo (sortL [] (l.take i))) ∧ Hid (Below w.heap.size w wo)) (fun _ vi _ => n - (intOf vi).toNat)
  case atStart => exact ⟨0, Nat.zero_le _, rfl, HE0.out, HA0.out⟩
  case round =>
    obtain ⟨wo, hwo⟩ : ∃ x, x = wr := ⟨_, rfl⟩
    subst hwo
    clear HE0 HA0
    obtain ⟨i, hi, rfl, HRo, HBo⟩ := hrel
    obtain ⟨A9, c9, e9, hc9, hm9⟩ := HRo.out.len
    subst e9
    have HD : Hid (SortI (sortL [] (l.take i))) := sortL_i _ _ sortI_nil (fun x hx => HSm.out x (List.mem_of_mem_take hx))
    have HDl : Hid ((sortL [] (l.take i)).length ≤ 1000) := by
      have := sortL_len (l.take i) []
      rw [List.length_take, List.length_nil] at this
      have := HNl.out
      show _ ≤ _
      omega
    obtain ⟨d, hd⟩ : ∃ d, sortL [] (l.take i) = d := ⟨_, rfl⟩
    have HDe := hid hd
    rw [hd] at HRo HD HDl hc9
    rw [hd]
    obtain ⟨_, _, ed, _, _, hdc⟩ := HRo.out.cla
    injection ed with ed1 ed2 ed3
    subst ed1 ed3
    clear hd ed2
    have HDc := hid hdc
    clear hdc
    obtain ⟨m, hm⟩ : ∃ m, d.length = m := ⟨_, rfl⟩
    have HLd := hid hm
    rw [hm] at hc9 HRo HDl
    rw [hm]
    have hm1 := HDl.out
    clear hm
    by_cases hlt : i < n
    · have hin : i < l.length := by rw [HNl.out]; exact hlt
      have hltz : (i : Int) < (n : Int) := by omega
      obtain ⟨b, off, rfl, hhc⟩ := HH.out (by omega)
      have hbw : b < w.heap.size := hhc.lt (by omega)
      obtain ⟨c, hc⟩ : ∃ c, l[i]? = some c := ⟨_, List.getElem?_eq_getElem hin⟩
      have HCs : Hid (Sm c) := HSm.out c (List.mem_of_getElem? hc)
      have HRc := hid (HRi.out c (List.mem_of_getElem? hc))
      have HTk : Hid (sortL [] (l.take (i + 1)) = if c.ok = true then putL d c else d) := by
        have e1 : l.take (i + 1) = l.take i ++ [c] := by rw [List.take_add_one, hc]; rfl
        show _ = _
        rw [e1, sortL_snoc, HDe.out]
      have HTc : Hid (∀ W, Below w.heap.size w W → W.cell? ⟨b, off + i * 8, none⟩ = some (.string c.r) ∧ W.cell? ⟨b, off + i * 8 + 1, none⟩ = some (.string c.f) ∧ W.cell? ⟨b, off + i * 8 + 2, none⟩ = some (.string c.q) ∧ W.cell? ⟨b, off + i * 8 + 3, none⟩ = some (.int .i64 c.t) ∧ W.cell? ⟨b, off + i * 8 + 4, none⟩ = some (.int .i64 c.k) ∧ W.cell? ⟨b, off + i * 8 + 5, none⟩ = some (.int .i64 c.vk) ∧ W.cell? ⟨b, off + i * 8 + 6, none⟩ = some (.int .i64 c.vn) ∧ W.cell? ⟨b, off + i * 8 + 7, none⟩ = some (.string c.s)) := fun W hW => ct_words (hhc.below hW hbw) i hc
      obtain ⟨a0, a1, a2, a3, a4, a5, a6, a7⟩ := HTc.out wo HBo.out
      clear hhc hc hin
      cases hok : c.ok with
      | false =>
        rw [hok] at HRc HTk
        clear hok
        go_wp2_with (first | (go_at_call 28; refine (HRc.out _).mono ?_; rintro e w5 ⟨rfl, hb5⟩))
        go_roundw
        case rel => exact ⟨i + 1, by omega, by go_num, by show CRow _ _ _ _; rw [HTk.out]; exact HRo.out.below hb5, HBo.out.trans (hb5.mono HBo.out.size)⟩
        case measure => simp [intOf]; omega
      | true =>
        rw [hok] at HRc HTk
        clear hok
        go_upto_region 6 with (first | (go_at_call 28; refine (HRc.out _).mono ?_; rintro e w5 ⟨rfl, hb5⟩))
        have HB5 : Hid (Below w.heap.size w w5) := HBo.out.trans (hb5.mono HBo.out.size)
        have HR5 := hid (HRo.out.below hb5)
        have HG5 : Hid (Below wo.heap.size wo w5) := hb5
        clear hb5 HRc
        have HE5 := hid (empty_crow w5 w5.heap.size (Nat.le_refl _))
        have HA5 := hid (below_new w5 (.cells #[] 28))
        have HOr : Hid (∀ x ∈ d, ∀ W, Calls Tryd.prog 47 #[c.v, x.v] W fun e w' => e = .returned (.int .i64 (CT.cmp c x)) ∧ Below W.heap.size W w') := fun x hx W => reforder_ct c x HCs.out (HD.out.sm x hx) W
        clear a0 a1 a2 a3 a4 a5 a6 a7
        go_wp2
        go_loopw [5, 6, 7] (fun vn vd vk wr => ∃ (k : Nat) (dn : Bool) (nx : List CT), k ≤ m ∧ vk = .int .i64 k ∧ vd = .bool dn ∧ Hid (CRow wr w5.heap.size vn nx) ∧ Hid (Below w5.heap.size w5 wr) ∧ Hid (NextI d c k dn nx)) (fun _ _ vk _ => m - (intOf vk).toNat)
        case atStart => exact ⟨0, false, [], Nat.zero_le _, rfl, rfl, HE5.out, HA5.out, nxt_start d c⟩
        case round =>
          clear HE5 HA5
          obtain ⟨k, dn, nx, hk, rfl, rfl, HR, HB, HN⟩ := hrel
          obtain ⟨A8, c8, e8, hc8, hm8⟩ := HR.out.len
          subst e8
          by_cases hkt : k < m
          · have hkn : k < d.length := by rw [HLd.out]; exact hkt
            have hktz : (k : Int) < (m : Int) := by omega
            obtain ⟨b2, o2, rfl, hhd⟩ := HDc.out (by omega)
            have hbd : b2 < wo.heap.size := hhd.lt (by omega)
            obtain ⟨x, hx⟩ : ∃ x, d[k]? = some x := ⟨_, List.getElem?_eq_getElem hkn⟩
            have HX := hid hx
            have HTw : Hid (∀ W, Below w5.heap.size w5 W → PaX W b (off + i * 8) b2 (o2 + k * 8) c x W) := fun W hW => ⟨hid ⟨Below.refl _ _, Nat.lt_of_lt_of_le hbw (Nat.le_trans HB5.out.size hW.size), Nat.lt_of_lt_of_le hbd (Nat.le_trans HG5.out.size hW.size)⟩, HTc.out W (HB5.out.trans (hW.mono HB5.out.size)), ct_words ((hhd.below HG5.out hbd).below hW (Nat.lt_of_lt_of_le hbd HG5.out.size)) k hx⟩
            have HT := hid (HTw.out wr HB.out)
            obtain ⟨-, ⟨a0, a1, a2, a3, a4, a5, a6, a7⟩, ⟨x0, x1, x2, x3, x4, x5, x6, x7⟩⟩ := HT.out
            have HOx := hid (HOr.out x (List.mem_of_getElem? hx))
            have hnl : nx.length ≤ m + 1 := by have := nxt_len HN.out (by omega); rw [HLd.out] at this; exact this
            have HLn : Hid (nx.length ≤ 100000) := by show nx.length ≤ _; omega
            have HLm : Hid (∀ y, (nx ++ [y]).length ≤ 100000) := fun y => by rw [List.length_append, List.length_singleton]; omega
            clear hhd hkn hx hnl
            obtain ⟨o, ho⟩ : ∃ o, CT.cmp c x = o := ⟨_, rfl⟩
            rw [ho] at HOx
            have HO : Hid (CT.cmp x c = - o) := by rw [← ho]; exact ct_c3.anti c x
            clear ho
            cases dn with
            | true =>
              have hq : 0 < CT.cmp x c := (nxt_done HN.out HX.out).1
              have h1 : o < 0 := by have := HO.out; omega
              have h2 : (o != 0) = true := by simp; omega
              clear hq
              go_upto_region 11 with (fail)
              go_region_held3 (fun W' => Hid (Below wr.heap.size wr W' ∧ b < wr.heap.size ∧ b2 < wr.heap.size) ∧ (W'.cell? ⟨b, off + i * 8, none⟩ = some (.string c.r) ∧ W'.cell? ⟨b, off + i * 8 + 1, none⟩ = some (.string c.f) ∧ W'.cell? ⟨b, off + i * 8 + 2, none⟩ = some (.string c.q) ∧ W'.cell? ⟨b, off + i * 8 + 3, none⟩ = some (.int .i64 c.t) ∧ W'.cell? ⟨b, off + i * 8 + 4, none⟩ = some (.int .i64 c.k) ∧ W'.cell? ⟨b, off + i * 8 + 5, none⟩ = some (.int .i64 c.vk) ∧ W'.cell? ⟨b, off + i * 8 + 6, none⟩ = some (.int .i64 c.vn) ∧ W'.cell? ⟨b, off + i * 8 + 7, none⟩ = some (.string c.s)) ∧ (W'.cell? ⟨b2, o2 + k * 8, none⟩ = some (.string x.r) ∧ W'.cell? ⟨b2, o2 + k * 8 + 1, none⟩ = some (.string x.f) ∧ W'.cell? ⟨b2, o2 + k * 8 + 2, none⟩ = some (.string x.q) ∧ W'.cell? ⟨b2, o2 + k * 8 + 3, none⟩ = some (.int .i64 x.t) ∧ W'.cell? ⟨b2, o2 + k * 8 + 4, none⟩ = some (.int .i64 x.k) ∧ W'.cell? ⟨b2, o2 + k * 8 + 5, none⟩ = some (.int .i64 x.vk) ∧ W'.cell? ⟨b2, o2 + k * 8 + 6, none⟩ = some (.int .i64 x.vn) ∧ W'.cell? ⟨b2, o2 + k * 8 + 7, none⟩ = some (.string x.s)))
                (first | exact HT.out | exact pax_drew HT.out | exact pax_call (by assumption) hb3 | exact pax_drew (by assumption) | assumption)
                (first | (go_at_call 47; refine (HOx.out _).mono ?_; rintro e w3 ⟨rfl, hb3⟩))
              rename_i hLast
              have HZ := hid hLast.1.out.1
              have HR3 := hid (HR.out.below HZ.out)
              have HB3 := hid (HB.out.trans (HZ.out.mono HB.out.size))
              clear HT a0 a1 a2 a3 a4 a5 a6 a7 x0 x1 x2 x3 x4 x5 x6 x7
              obtain ⟨-, ⟨a0, a1, a2, a3, a4, a5, a6, a7⟩, ⟨x0, x1, x2, x3, x4, x5, x6, x7⟩⟩ := hLast
              have HN2 : Hid (NextI d c (k + 1) true (nx ++ [x])) := (nxt_done HN.out HX.out).2
              clear HN HX HO
              go_wp2_with (first | (at_builtin; refine wpList_append_cell rfl (.tmp 53) (.tmp 58) rfl _ w5.heap.size _ _ rfl (HR3.out.below (below_new _ _)) _ 1 rfl x (ct_new x _ _) HLn.out (by have := HB3.out.size; simp; omega) ?_; intro v7 w7 h7 hb7 _; have HR7 := hid h7; have HB7 := hid (HB3.out.trans (((below_new _ _).mono HB3.out.size).trans hb7))))
              go_roundw
              case rel => exact ⟨k + 1, true, _, by omega, by go_num, rfl, HR7.out, HB7.out, HN2.out⟩
              case measure => simp [intOf]; omega
            | false =>
              rcases Int.lt_trichotomy o 0 with h1 | h1 | h1
              · have h2 : (o != 0) = true := by simp; omega
                have h3 : o ≤ 0 := by omega
                go_upto_region 11 with (fail)
                go_region_held3 (fun W' => Hid (Below wr.heap.size wr W' ∧ b < wr.heap.size ∧ b2 < wr.heap.size) ∧ (W'.cell? ⟨b, off + i * 8, none⟩ = some (.string c.r) ∧ W'.cell? ⟨b, off + i * 8 + 1, none⟩ = some (.string c.f) ∧ W'.cell? ⟨b, off + i * 8 + 2, none⟩ = some (.string c.q) ∧ W'.cell? ⟨b, off + i * 8 + 3, none⟩ = some (.int .i64 c.t) ∧ W'.cell? ⟨b, off + i * 8 + 4, none⟩ = some (.int .i64 c.k) ∧ W'.cell? ⟨b, off + i * 8 + 5, none⟩ = some (.int .i64 c.vk) ∧ W'.cell? ⟨b, off + i * 8 + 6, none⟩ = some (.int .i64 c.vn) ∧ W'.cell? ⟨b, off + i * 8 + 7, none⟩ = some (.string c.s)) ∧ (W'.cell? ⟨b2, o2 + k * 8, none⟩ = some (.string x.r) ∧ W'.cell? ⟨b2, o2 + k * 8 + 1, none⟩ = some (.string x.f) ∧ W'.cell? ⟨b2, o2 + k * 8 + 2, none⟩ = some (.string x.q) ∧ W'.cell? ⟨b2, o2 + k * 8 + 3, none⟩ = some (.int .i64 x.t) ∧ W'.cell? ⟨b2, o2 + k * 8 + 4, none⟩ = some (.int .i64 x.k) ∧ W'.cell? ⟨b2, o2 + k * 8 + 5, none⟩ = some (.int .i64 x.vk) ∧ W'.cell? ⟨b2, o2 + k * 8 + 6, none⟩ = some (.int .i64 x.vn) ∧ W'.cell? ⟨b2, o2 + k * 8 + 7, none⟩ = some (.string x.s)))
                  (first | exact HT.out | exact pax_drew HT.out | exact pax_call (by assumption) hb3 | exact pax_drew (by assumption) | assumption)
                  (first | (go_at_call 47; refine (HOx.out _).mono ?_; rintro e w3 ⟨rfl, hb3⟩))
                rename_i hLast
                have HZ := hid hLast.1.out.1
                have HR3 := hid (HR.out.below HZ.out)
                have HB3 := hid (HB.out.trans (HZ.out.mono HB.out.size))
                clear HT a0 a1 a2 a3 a4 a5 a6 a7 x0 x1 x2 x3 x4 x5 x6 x7
                obtain ⟨-, ⟨a0, a1, a2, a3, a4, a5, a6, a7⟩, ⟨x0, x1, x2, x3, x4, x5, x6, x7⟩⟩ := hLast
                have HN2 : Hid (NextI d c (k + 1) true (nx ++ [c] ++ [x])) := nxt_high HD.out.rise HN.out HX.out (by have := HO.out; omega)
                clear HN HX HO
                go_wp2_with (first | (at_builtin; refine wpList_append_cell rfl (.tmp 44) (.tmp 49) rfl _ w5.heap.size _ _ rfl (HR3.out.below (below_new _ _)) _ 1 rfl c (ct_new c _ _) HLn.out (by have := HB3.out.size; simp; omega) ?_; intro v6 w6 h6 hb6 _; have HR6 := hid h6; have HB6 := hid (HB3.out.trans (((below_new _ _).mono HB3.out.size).trans hb6)); obtain ⟨-, -, ⟨x0, x1, x2, x3, x4, x5, x6, x7⟩⟩ := HTw.out _ HB6.out) | (at_builtin; refine wpList_append_cell rfl (.tmp 53) (.tmp 58) rfl _ w5.heap.size _ _ rfl (HR6.out.below (below_new _ _)) _ 1 rfl x (ct_new x _ _) (HLm.out c) (by have := HB6.out.size; simp; omega) ?_; intro v7 w7 h7 hb7 _; have HR7 := hid h7; have HB7 := hid (HB6.out.trans (((below_new _ _).mono HB6.out.size).trans hb7))))
                go_roundw
                case rel => exact ⟨k + 1, true, _, by omega, by go_num, rfl, HR7.out, HB7.out, HN2.out⟩
                case measure => simp [intOf]; omega
              · subst h1
                go_upto_region 11 with (fail)
                go_region_held3 (fun W' => Hid (Below wr.heap.size wr W' ∧ b < wr.heap.size ∧ b2 < wr.heap.size) ∧ (W'.cell? ⟨b, off + i * 8, none⟩ = some (.string c.r) ∧ W'.cell? ⟨b, off + i * 8 + 1, none⟩ = some (.string c.f) ∧ W'.cell? ⟨b, off + i * 8 + 2, none⟩ = some (.string c.q) ∧ W'.cell? ⟨b, off + i * 8 + 3, none⟩ = some (.int .i64 c.t) ∧ W'.cell? ⟨b, off + i * 8 + 4, none⟩ = some (.int .i64 c.k) ∧ W'.cell? ⟨b, off + i * 8 + 5, none⟩ = some (.int .i64 c.vk) ∧ W'.cell? ⟨b, off + i * 8 + 6, none⟩ = some (.int .i64 c.vn) ∧ W'.cell? ⟨b, off + i * 8 + 7, none⟩ = some (.string c.s)) ∧ (W'.cell? ⟨b2, o2 + k * 8, none⟩ = some (.string x.r) ∧ W'.cell? ⟨b2, o2 + k * 8 + 1, none⟩ = some (.string x.f) ∧ W'.cell? ⟨b2, o2 + k * 8 + 2, none⟩ = some (.string x.q) ∧ W'.cell? ⟨b2, o2 + k * 8 + 3, none⟩ = some (.int .i64 x.t) ∧ W'.cell? ⟨b2, o2 + k * 8 + 4, none⟩ = some (.int .i64 x.k) ∧ W'.cell? ⟨b2, o2 + k * 8 + 5, none⟩ = some (.int .i64 x.vk) ∧ W'.cell? ⟨b2, o2 + k * 8 + 6, none⟩ = some (.int .i64 x.vn) ∧ W'.cell? ⟨b2, o2 + k * 8 + 7, none⟩ = some (.string x.s)))
                  (first | exact HT.out | exact pax_drew HT.out | exact pax_call (by assumption) hb3 | exact pax_drew (by assumption) | assumption)
                  (first | (go_at_call 47; refine (HOx.out _).mono ?_; rintro e w3 ⟨rfl, hb3⟩))
                rename_i hLast
                have HZ := hid hLast.1.out.1
                have HR3 := hid (HR.out.below HZ.out)
                have HB3 := hid (HB.out.trans (HZ.out.mono HB.out.size))
                clear HT a0 a1 a2 a3 a4 a5 a6 a7 x0 x1 x2 x3 x4 x5 x6 x7
                obtain ⟨-, ⟨a0, a1, a2, a3, a4, a5, a6, a7⟩, ⟨x0, x1, x2, x3, x4, x5, x6, x7⟩⟩ := hLast
                have HN2 : Hid (NextI d c (k + 1) true (nx ++ [c])) := nxt_same HD.out.rise HN.out HX.out (by have := HO.out; omega)
                clear HN HX HO
                go_wp2_with (first | (at_builtin; refine wpList_append_cell rfl (.tmp 44) (.tmp 49) rfl _ w5.heap.size _ _ rfl (HR3.out.below (below_new _ _)) _ 1 rfl c (ct_new c _ _) HLn.out (by have := HB3.out.size; simp; omega) ?_; intro v6 w6 h6 hb6 _; have HR6 := hid h6; have HB6 := hid (HB3.out.trans (((below_new _ _).mono HB3.out.size).trans hb6)); obtain ⟨-, -, ⟨x0, x1, x2, x3, x4, x5, x6, x7⟩⟩ := HTw.out _ HB6.out))
                go_roundw
                case rel => exact ⟨k + 1, true, _, by omega, by go_num, rfl, HR6.out, HB6.out, HN2.out⟩
                case measure => simp [intOf]; omega
              · have h2 : (o != 0) = true := by simp; omega
                have h3 : ¬ o ≤ 0 := by omega
                go_upto_region 11 with (fail)
                go_region_held3 (fun W' => Hid (Below wr.heap.size wr W' ∧ b < wr.heap.size ∧ b2 < wr.heap.size) ∧ (W'.cell? ⟨b, off + i * 8, none⟩ = some (.string c.r) ∧ W'.cell? ⟨b, off + i * 8 + 1, none⟩ = some (.string c.f) ∧ W'.cell? ⟨b, off + i * 8 + 2, none⟩ = some (.string c.q) ∧ W'.cell? ⟨b, off + i * 8 + 3, none⟩ = some (.int .i64 c.t) ∧ W'.cell? ⟨b, off + i * 8 + 4, none⟩ = some (.int .i64 c.k) ∧ W'.cell? ⟨b, off + i * 8 + 5, none⟩ = some (.int .i64 c.vk) ∧ W'.cell? ⟨b, off + i * 8 + 6, none⟩ = some (.int .i64 c.vn) ∧ W'.cell? ⟨b, off + i * 8 + 7, none⟩ = some (.string c.s)) ∧ (W'.cell? ⟨b2, o2 + k * 8, none⟩ = some (.string x.r) ∧ W'.cell? ⟨b2, o2 + k * 8 + 1, none⟩ = some (.string x.f) ∧ W'.cell? ⟨b2, o2 + k * 8 + 2, none⟩ = some (.string x.q) ∧ W'.cell? ⟨b2, o2 + k * 8 + 3, none⟩ = some (.int .i64 x.t) ∧ W'.cell? ⟨b2, o2 + k * 8 + 4, none⟩ = some (.int .i64 x.k) ∧ W'.cell? ⟨b2, o2 + k * 8 + 5, none⟩ = some (.int .i64 x.vk) ∧ W'.cell? ⟨b2, o2 + k * 8 + 6, none⟩ = some (.int .i64 x.vn) ∧ W'.cell? ⟨b2, o2 + k * 8 + 7, none⟩ = some (.string x.s)))
                  (first | exact HT.out | exact pax_drew HT.out | exact pax_call (by assumption) hb3 | exact pax_drew (by assumption) | assumption)
                  (first | (go_at_call 47; refine (HOx.out _).mono ?_; rintro e w3 ⟨rfl, hb3⟩))
                rename_i hLast
                have HZ := hid hLast.1.out.1
                have HR3 := hid (HR.out.below HZ.out)
                have HB3 := hid (HB.out.trans (HZ.out.mono HB.out.size))
                clear HT a0 a1 a2 a3 a4 a5 a6 a7 x0 x1 x2 x3 x4 x5 x6 x7
                obtain ⟨-, ⟨a0, a1, a2, a3, a4, a5, a6, a7⟩, ⟨x0, x1, x2, x3, x4, x5, x6, x7⟩⟩ := hLast
                have HN2 : Hid (NextI d c (k + 1) false (nx ++ [x])) := nxt_low HN.out HX.out (by have := HO.out; omega)
                clear HN HX HO
                go_wp2_with (first | (at_builtin; refine wpList_append_cell rfl (.tmp 53) (.tmp 58) rfl _ w5.heap.size _ _ rfl (HR3.out.below (below_new _ _)) _ 1 rfl x (ct_new x _ _) HLn.out (by have := HB3.out.size; simp; omega) ?_; intro v7 w7 h7 hb7 _; have HR7 := hid h7; have HB7 := hid (HB3.out.trans (((below_new _ _).mono HB3.out.size).trans hb7))))
                go_roundw
                case rel => exact ⟨k + 1, false, _, by omega, by go_num, rfl, HR7.out, HB7.out, HN2.out⟩
                case measure => simp [intOf]; omega
          · obtain rfl : k = m := by omega
            have HNl := hid (nxt_len HN.out (by rw [HLd.out]; exact Nat.le_refl _))
            obtain ⟨a0, a1, a2, a3, a4, a5, a6, a7⟩ := HTc.out wr (HB5.out.trans (HB.out.mono HB5.out.size))
            have HBw : Hid (Below w.heap.size w wr) := HB5.out.trans (HB.out.mono HB5.out.size)
            cases dn with
            | true =>
              have HQ : Hid (nx = putL d c) := by
                have h1 := HN.out
                rw [← HLd.out] at h1
                exact nxt_end1 h1
              go_wp2
              go_roundw
              case rel => exact ⟨i + 1, by omega, by go_num, by show CRow _ _ _ _; rw [HTk.out, if_pos trivial, ← HQ.out]; exact HR.out.le HB5.out.size, HBw.out⟩
              case measure => simp [intOf]; omega
            | false =>
              have HQ : Hid (nx ++ [c] = putL d c) := by
                have h1 := HN.out
                rw [← HLd.out] at h1
                exact nxt_end0 h1
              have HLn : Hid (nx.length ≤ 100000) := by have := HNl.out; have := HLd.out; show nx.length ≤ _; omega
              go_wp2_with (first | (at_builtin; refine wpList_append_cell rfl (.tmp 62) (.tmp 67) rfl _ w5.heap.size _ _ rfl (HR.out.below (below_new _ _)) _ 1 rfl c (ct_new c _ _) HLn.out (by have := HB.out.size; simp; omega) ?_; intro v6 w6 h6 hb6 _; have HR6 := hid h6; have HB6 := hid (HB.out.trans (((below_new _ _).mono HB.out.size).trans hb6))))
              go_roundw
              case rel => exact ⟨i + 1, by omega, by go_num, by show CRow _ _ _ _; rw [HTk.out, if_pos trivial, ← HQ.out]; exact HR6.out.le HB5.out.size, HB5.out.trans (HB6.out.mono HB5.out.size)⟩
              case measure => simp [intOf]; omega
    · obtain rfl : i = n := by omega
      go_wp2
      go_ret
      refine ⟨_, rfl, ?_, HBo.out⟩
      have e := HDe.out
      rw [← HNl.out, List.take_length] at e
      rw [e]
      exact HRo.out
end Go.Proofs.YtgfkobfkncpmoaaDoor
