/- MergeHalves: split at a row, and made one again, in whichever order, a run is itself. Conditions: the argument stands, its numbers are of 64 bits; the tables of utf8 read as they are laid. -/
import Derived.Test.YtdgkbpplngjonaaDoorMgW
import Derived.Test.YtdgkbpplngjonaaDoorPA
import Derived.Test.YtdgkbpplngjonaaDoorLM
import Derived.Test.YtdgkbpplngjonaaDoorNO
namespace Go.Proofs.YtdgkbpplngjonaaDoor
open Go.RowKit

theorem sort_run {l : List CT} (h : ∀ x ∈ l, Sm x) : Run CT.cmp CT.ok (sortL [] l) ∧ (∀ x ∈ sortL [] l, Sm x) ∧ (sortL [] l).length ≤ l.length := by
  have h1 := sortL_i l [] sortI_nil h
  refine ⟨⟨h1.ok, h1.rise⟩, h1.sm, ?_⟩
  have := sortL_len l []
  rw [List.length_nil] at this
  omega
theorem sm_okn {c : CT} (h : Sm c) : OkN c := ⟨h.1, by have := h.2.1; omega, by have := h.2.2.1; omega, by have := h.2.2.2.1; omega, by have := h.2.2.2.2; omega⟩
/-- Runs tell what is told to be told. -/
theorem mgr_ex {rs : List (List CT)} (hs : ∀ l ∈ rs, l.length ≤ 1000000) (hl : rs.length ≤ 1000) : ∃ l, MgO CT.cmp (runsF begL 0 rs) l := by
  have := runs_gd hs hl
  exact mgo_ex _ _ (Nat.le_refl _) this.rise this.dst
theorem filt_part {l : List CT} (p : CT → Bool) : (l.filter p).length + (l.filter fun c => !p c).length = l.length := by
  induction l with
  | nil => rfl
  | cons a t ih =>
    rw [List.filter_cons, List.filter_cons]
    cases h : p a
    · simp at ih ⊢; omega
    · simp at ih ⊢; omega
theorem halves_mgo {s : List CT} (hs : Run CT.cmp CT.ok s) (hl : s.length ≤ 1000) (p : CT → Bool) : MgO CT.cmp (runsF begL 0 [s.filter p, s.filter fun c => !p c]) s ∧ MgO CT.cmp (runsF begL 0 [s.filter fun c => !p c, s.filter p]) s := by
  have hle : ∀ q : CT → Bool, (s.filter q).length ≤ 1000000 := fun q => by have := List.length_filter_le q s; omega
  have hin : ∀ d ∈ s, d ∈ s.filter p ∨ d ∈ s.filter (fun c => !p c) := fun d hd => by
    cases h : p d
    · exact .inr (List.mem_filter.2 ⟨hd, by rw [h]; rfl⟩)
    · exact .inl (List.mem_filter.2 ⟨hd, h⟩)
  have hno : ∀ d ∈ s.filter p, d ∉ s.filter (fun c => !p c) := fun d h1 h2 => by
    have a := (List.mem_filter.1 h1).2
    have b := (List.mem_filter.1 h2).2
    rw [a] at b
    cases b
  constructor
  · obtain ⟨ml, hml⟩ := mgr_ex (rs := [s.filter p, s.filter fun c => !p c]) (fun l hl => by
      rcases List.mem_cons.1 hl with rfl | hl
      · exact hle _
      · rw [List.mem_singleton.1 hl]; exact hle _) (by show (2 : Nat) ≤ _; omega)
    have e := halves_all ct_c3 CT.ok hs List.filter_sublist List.filter_sublist hin hno hml
    rw [e] at hml
    exact hml
  · obtain ⟨ml, hml⟩ := mgr_ex (rs := [s.filter fun c => !p c, s.filter p]) (fun l hl => by
      rcases List.mem_cons.1 hl with rfl | hl
      · exact hle _
      · rw [List.mem_singleton.1 hl]; exact hle _) (by show (2 : Nat) ≤ _; omega)
    have e := halves_all ct_c3 CT.ok hs List.filter_sublist List.filter_sublist (fun d hd => (hin d hd).symm) (fun d h1 h2 => hno d h2 h1) hml
    rw [e] at hml
    exact hml

set_option maxHeartbeats 16000000 in
set_option maxRecDepth 100000 in
theorem halves_any (v : Value) (l : List CT) (x : ByteArray) (hx : x.size ≤ 9223372036854775807) (w : World) (h : ClA w v l) (hv : ∀ c ∈ l, inI c.vn) (hL : LaidU w) :
    Calls Tryd.prog 13 #[v, .string x] w fun e w' => e = .returned (.bool true) ∧ Below w.heap.size w w' := by
  have mixed : Tryd.prog.follows .mixedOrders = true := by kernel_rfl
  have HAl := hid (alive10_any w hL)
  have HLo : Hid (∀ W, Below w.heap.size w W → Calls Tryd.prog 31 #[v, .int .i64 60] W fun e w' => e = .returned (.bool (longM 60 l)) ∧ Below W.heap.size W w') := fun W hW => longcells_at 60 v l W (h.below hW)
  have HH := hid h
  have HL := hid hL
  have HV := hid hv
  clear h hv hL
  go_enter Tryd.func13, Tryd.ntmps13
  go_upto_region 3 with (first | (go_at_call 47; refine HAl.out.mono ?_; rintro e w1 ⟨rfl, hb1⟩))
  have HB1 := hid hb1
  have HLo1 := hid (HLo.out w1 hb1)
  clear hb1 HAl HLo
  cases hg : longM 60 l with
  | true =>
    rw [hg] at HLo1
    go_wp2_with (first | (go_at_call 31; refine HLo1.out.mono ?_; rintro e w2 ⟨rfl, hb2⟩))
    go_ret
    exact ⟨rfl, HB1.out.trans (hb2.mono HB1.out.size)⟩
  | false =>
    have hSm := longM_ok hg HV.out
    have HSm : Hid (∀ c ∈ l, Sm c) := fun c hc => hSm.2 c hc
    have HLl : Hid (l.length ≤ 60) := hSm.1
    rw [hg] at HLo1
    clear hg hSm HV
    by_cases hx1 : 100 < x.size
    · have hx2 : (100 : Int) < (x.size : Int) := by omega
      go_wp2_with (first | (go_at_call 31; refine HLo1.out.mono ?_; rintro e w2 ⟨rfl, hb2⟩))
      go_ret
      exact ⟨rfl, HB1.out.trans (hb2.mono HB1.out.size)⟩
    · have hx2 : ¬ (100 : Int) < (x.size : Int) := by omega
      go_upto_region 5 with (first | (go_at_call 31; refine HLo1.out.mono ?_; rintro e w2 ⟨rfl, hb2⟩))
      have HB2 := hid (HB1.out.trans (hb2.mono HB1.out.size))
      have HSo := hid (refsort_any v l w2 (HH.out.below HB2.out) HSm.out (by have := HLl.out; omega))
      clear hb2 HB1 HLo1
      obtain ⟨s, hs⟩ : ∃ s, sortL [] l = s := ⟨_, rfl⟩
      have HR := hid (sort_run HSm.out)
      rw [hs] at HSo HR
      clear hs
      go_upto_region 6 with (first | (go_at_call 40; refine HSo.out.mono ?_; rintro e w3 ⟨vs, rfl, hrs, hb3⟩))
      have HB3 := hid (HB2.out.trans (hb3.mono HB2.out.size))
      have HC3 := hid hrs.cla
      have HSp := hid (split_any vs s x w3 HC3.out (by have := HR.out.2.2; have := HLl.out; omega))
      clear hrs hb3 HB2 HSo
      go_upto_region 7 with (first | (go_at_call 58; refine HSp.out.mono ?_; rintro e w4 ⟨va, vb, rfl, hSp⟩))
      have HB4 := hid (HB3.out.trans (hSp.be.mono HB3.out.size))
      have HC4 := hid (And.intro (HC3.out.below hSp.be) (And.intro hSp.ra.cla hSp.rb.cla))
      have HMg := hid (halves_mgo HR.out.1 (by have := HR.out.2.2; have := HLl.out; omega) (fun c => lowB x c))
      have HPa := hid (filt_part (l := s) (fun c => lowB x c))
      have HLa : Hid (∀ c ∈ s.filter (fun c => lowB x c), Lib.compareBytes c.r.data.toList x.data.toList < 0 ∧ c.r.size ≤ 60) := fun c hc => ⟨of_decide_eq_true (List.mem_filter.1 hc).2, (HR.out.2.1 c (List.mem_filter.1 hc).1).2.1⟩
      have HSa : Hid (∀ c, c ∈ s.filter (fun c => lowB x c) ∨ c ∈ s.filter (fun c => !lowB x c) → okC c) := fun c hc => by
        rcases hc with hc | hc <;> exact (HR.out.2.1 c (List.mem_filter.1 hc).1).1
      clear hSp HC3 HSp
      obtain ⟨a, ha⟩ : ∃ a, s.filter (fun c => lowB x c) = a := ⟨_, rfl⟩
      obtain ⟨b, hb⟩ : ∃ b, s.filter (fun c => !lowB x c) = b := ⟨_, rfl⟩
      rw [ha] at HC4 HMg HPa HLa HSa
      rw [hb] at HC4 HMg HPa HSa
      clear ha hb
      have HSl : Hid (s.length ≤ 60) := Nat.le_trans HR.out.2.2 HLl.out
      obtain ⟨hcs, hca, hcb⟩ := HC4.out
      obtain ⟨As, cs, rfl, -⟩ := hcs
      obtain ⟨Aa, ca, rfl, hq1, hq2, hca⟩ := hca
      obtain ⟨Ab, cb, rfl, -⟩ := hcb
      obtain ⟨ns, hns⟩ : ∃ n, s.length = n := ⟨_, rfl⟩
      obtain ⟨na, hna⟩ : ∃ n, a.length = n := ⟨_, rfl⟩
      obtain ⟨nb, hnb⟩ : ∃ n, b.length = n := ⟨_, rfl⟩
      have HNa := hid hna
      have HNb := hid hnb
      rw [hns, hna, hnb] at HC4 HPa
      rw [hns] at HSl
      rw [hns, hna, hnb]
      have HCa := hid hca
      have hpa := HPa.out
      have hsl := HSl.out
      rw [hna] at hq1
      have hsum : (na : Int) + (nb : Int) = (ns : Int) := by omega
      have hwr : IntKind.i64.wrap ((na : Int) + (nb : Int)) = (ns : Int) := by rw [IntKind.wrap_i64]; omega
      have hnan : na ≤ 60 := by omega
      have hnbn : nb ≤ 60 := by omega
      clear hca hns hna hnb HPa HSl hpa HB3 HH HR HLl HSm
      have hx3 : Hid (x.size ≤ 9223372036854775807) := hx
      have HMe : Hid (∀ (u1 u2 : Value) (l1 l2 : List CT), ClA w4 u1 l1 → ClA w4 u2 l2 → l1.length ≤ 60 → l2.length ≤ 60 → (∀ c, c ∈ l1 ∨ c ∈ l2 → okC c) → MgO CT.cmp (runsF begL 0 [l1, l2]) s → ∀ W, Below w4.heap.size w4 W → Calls Tryd.prog 57 #[.slice (some ⟨W.heap.size, 0, none⟩) 2 2] (W.alloc (.cells #[u1, u2] 39)) fun e w' => ∃ A c, e = .returned (.slice A ns c) ∧ Hid (ClA w' (.slice A ns c) s ∧ Below w4.heap.size w4 w')) := fun u1 u2 l1 l2 h1 h2 h3 h4 h5 h6 W hW => by
        have hr := rsa_two W (h1.below hW) (h2.below hW)
        have hb := below_new W (.cells #[u1, u2] 39)
        have hb9 := hW.trans (hb.mono hW.size)
        refine (merge_any _ [l1, l2] _ hr (fun l hl => ?_) (by show (2 : Nat) ≤ _; omega) (HL.out.below (HB4.out.trans (hb9.mono HB4.out.size))) h6).mono ?_
        · rcases List.mem_cons.1 hl with rfl | hl
          · exact ⟨by omega, fun c hc => h5 c (.inl hc)⟩
          · rw [List.mem_singleton.1 hl]
            exact ⟨by omega, fun c hc => h5 c (.inr hc)⟩
        · rintro e w' ⟨v', rfl, hr', hb'⟩
          obtain ⟨A, c, rfl, _⟩ := hr'.len
          have hl9 : s.length = ns := by
            obtain ⟨_, _, e, _⟩ := HC4.out.1
            injection e with _ e _
            exact e.symm
          have hc9 := hr'.cla
          rw [hl9] at hc9 ⊢
          exact ⟨A, c, rfl, hc9, hb9.trans (hb'.mono hb9.size)⟩
      go_wp2
      go_loopw [8] (fun vi wr => ∃ i : Nat, i ≤ na ∧ vi = .int .i64 i ∧ Hid (Below w4.heap.size w4 wr)) (fun vi _ => na - (intOf vi).toNat)
      case atStart => exact ⟨0, Nat.zero_le _, rfl, Below.refl _ _⟩
      case round =>
        obtain ⟨i, hi, rfl, HB⟩ := hrel
        by_cases hlt : i < na
        · have hltz : (i : Int) < (na : Int) := by omega
          have hil : i < a.length := by rw [HNa.out]; exact hlt
          obtain ⟨bb, off, rfl, hhc⟩ := HCa.out (by omega)
          have hbw : bb < w4.heap.size := hhc.lt (by omega)
          obtain ⟨c, hc⟩ : ∃ c, a[i]? = some c := ⟨_, List.getElem?_eq_getElem hil⟩
          have x0 := (ct_words (hhc.below HB.out hbw) i hc).1
          have hca := HLa.out c (List.mem_of_getElem? hc)
          obtain ⟨o, ho⟩ : ∃ o, Lib.compareBytes c.r.data.toList x.data.toList = o := ⟨_, rfl⟩
          have HTx := hid (texts_any c.r x (by omega) hx3.out wr)
          rw [ho] at HTx hca
          have hno : ¬ (0 : Int) ≤ o := by omega
          clear hhc hc hil hca ho
          go_wp2_with (first | (go_at_call 62; refine HTx.out.mono ?_; rintro e w5 ⟨rfl, hb5⟩))
          go_roundw
          case rel => exact ⟨i + 1, by omega, by go_num, HB.out.trans (hb5.mono HB.out.size)⟩
          case measure => simp [intOf]; omega
        · obtain rfl : i = na := by omega
          have HM1 := hid (HMe.out _ _ a b HC4.out.2.1 HC4.out.2.2 (by rw [HNa.out]; exact hnan) (by rw [HNb.out]; exact hnbn) HSa.out HMg.out.1)
          have HM2 := hid (HMe.out _ _ b a HC4.out.2.2 HC4.out.2.1 (by rw [HNb.out]; exact hnbn) (by rw [HNa.out]; exact hnan) (fun c hc => HSa.out c hc.symm) HMg.out.2)
          have HSame : Hid (∀ W A c, Below w4.heap.size w4 W → ClA W (.slice A ns c) s → Calls Tryd.prog 37 #[.slice A ns c, .slice As ns cs] W fun e w' => e = .returned (.bool true) ∧ Below W.heap.size W w') := fun W A c hW hc => (samecells_any _ _ s s W hc (HC4.out.1.below hW)).mono fun e w' ⟨he, hb⟩ => ⟨by rw [he, decide_eq_true rfl], hb⟩
          clear HMe HCa
          go_wp2_with (first
            | (go_at_call 57; first
                | (refine (HM1.out _ HB.out).mono ?_; rintro e w6 ⟨A6, c6, rfl, H6⟩; clear HM1)
                | (refine (HM2.out _ H7.out).mono ?_; rintro e w8 ⟨A8, c8, rfl, H8⟩; clear HM2))
            | (go_at_call 37; first
                | (refine (HSame.out _ _ _ H8.out.2 H8.out.1).mono ?_; rintro e w9 ⟨rfl, hb9⟩; have H9' := hid (H8.out.2.trans (hb9.mono H8.out.2.size)))
                | (refine (HSame.out _ _ _ H6.out.2 H6.out.1).mono ?_; rintro e w7 ⟨rfl, hb7⟩; have H7 := hid (H6.out.2.trans (hb7.mono H6.out.2.size)))))
          go_ret
          exact ⟨rfl, HB4.out.trans (H9'.out.mono HB4.out.size)⟩
end Go.Proofs.YtdgkbpplngjonaaDoor
