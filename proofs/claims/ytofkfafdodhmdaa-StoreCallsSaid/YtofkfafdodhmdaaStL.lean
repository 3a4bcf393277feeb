/- (*store.Disk).waiting. Conditions: the disk stands, with less than a hundred thousand runs. -/
import Derived.Test.YtofkfafdodhmdaaStK
namespace Go.Proofs.Ytofkfafdodhmdaa
open Go.RowKit

def pcsF (f : Fl) : List Pc := f.l.map fun r => (f.b, r.1, r.2)
def allP (fs : List Fl) : List Pc := fs.flatMap pcsF
theorem allP_len (fs : List Fl) : (allP fs).length = sumQ (fun f => f.l.length) fs := by
  unfold allP sumQ
  induction fs with
  | nil => rfl
  | cons a t ih => rw [List.flatMap_cons, List.length_append, ih, List.map_cons, List.sum_cons]; unfold pcsF; rw [List.length_map]
theorem allP_step {A C : List Fl} {f : Fl} (hr : Ris (A ++ f :: C)) {left : Lit → Bool} (hl : left f.key = true) : (allP (doneF left (A ++ f :: C)) ++ pcsF f).Perm (allP (doneF (fun z => left z && !z.sameKey f.key) (A ++ f :: C))) := by
  obtain ⟨e1, e2⟩ := done_step hr hl
  rw [e1, e2]
  unfold allP
  rw [List.flatMap_append, List.flatMap_append, List.flatMap_cons, List.append_assoc]
  exact List.Perm.append_left _ List.perm_append_comm
theorem pcs_take {f : Fl} {k a s : Nat} (hk : k < f.l.length) (h : f.l[k] = (a, s)) : (pcsF f).take (k + 1) = (pcsF f).take k ++ [(f.b, a, s)] := by
  unfold pcsF
  have hk3 : k < (f.l.map fun r => (f.b, r.1, r.2)).length := by rw [List.length_map]; exact hk
  rw [List.take_succ_eq_append_getElem hk3, List.getElem_map, h]
theorem RgS.chg {w wr w' : World} {B mb r : Nat} {fs : List Fl} {left : Lit → Bool} {cnt : Nat} (h : RgS w wr B mb r fs left cnt) (hlt : ∀ f ∈ fs, ∀ k, f.has k → k < w.heap.size) (hmb : mb < w.heap.size) (hc : Chg (fun k => w.heap.size ≤ k ∧ k ≠ r) wr w') : RgS w w' B mb r fs left cnt := by
  have hb : Below w.heap.size wr w' := ⟨hc.os, hc.tape, hc.output, hc.size, fun k hk => hc.block k (Nat.lt_of_lt_of_le hk h.b.size) fun q => by omega⟩
  refine ⟨?_, h.b.trans hb, fun f hf => (h.fl f hf).keep fun k q => hb.block k (hlt f hf k q)⟩
  obtain ⟨es, clock, since, seen, c0, hb1, F, hs, hD, hr1, rest⟩ := h.rg
  exact ⟨es, clock, since, seen, c0, (hb.block mb hmb).trans hb1, F, hs, hD, (hc.block r h.rg.lt fun q => q.2 rfl).trans hr1, rest⟩
theorem prow_ne {w wr : World} {B mb r : Nat} {fs : List Fl} {left : Lit → Bool} {cnt B2 : Nat} {v : Value} {l : List Pc} (h : RgS w wr B mb r fs left cnt) (hp : PRow wr B2 v l) {g : Nat} (hg : v.ownBlock = some g) : B2 ≤ g ∧ g ≠ r := by
  refine ⟨(World.ownsRow.lt hp g hg).1, fun e => ?_⟩
  obtain ⟨cur, hc⟩ := own_blk hp hg
  obtain ⟨es, clock, since, seen, c0, _, _, _, _, hr1, _⟩ := h.rg
  unfold Blk at hc
  rw [e, hr1] at hc
  cases hc
theorem cell_three (w : World) (y : Pc) (t : TypeId) (G : Nat) (hG : G = w.heap.size) : ∀ j u, (encP y)[j]? = some u → (w.alloc (.cells #[.pointer (some ⟨y.1, 0, none⟩), .int .i64 (y.2.1 : Int), .int .i64 (y.2.2 : Int)] t)).cell? ((⟨G, 0, Option.none⟩ : Addr).add j) = some u := by
  subst hG
  intro j u hj
  rw [add_zero_off, World.cell?_alloc_at _ _ _ _ rfl]
  match j, hj with
  | 0, hj => simpa [encP] using hj
  | 1, hj => simpa [encP] using hj
  | 2, hj => simpa [encP] using hj

/-- Where waiting is. -/
structure WaS (w wr : World) (B mb : Nat) (fs : List Fl) (left : Lit → Bool) (cnt : Nat) (v : Value) (ps : List Pc) : Prop where
  rg : RgS w wr B mb w.heap.size fs left cnt
  pr : PRow wr w.heap.size v ps
  sz : w.heap.size ≤ wr.heap.size

set_option maxRecDepth 100000 in
set_option maxHeartbeats 8000000 in
theorem waiting_ok {B db mb : Nat} {fs : List Fl} {z s u : Int} {w : World} (h : Dk w B db mb fs z s u) (hq : sumQ (fun f => f.l.length) fs ≤ 100000) :
    Calls Try.prog 43 #[.pointer (some ⟨db, 0, none⟩)] w fun e w' => ∃ v l, e = .returned v ∧ PHold w' w.heap.size v l ∧ l.Perm (allP fs) ∧ l.Pairwise (fun x y => x.2.1 ≤ y.2.1) ∧ Below w.heap.size w w' := by
  have m0 : w.cell? ⟨db, 0, none⟩ = some (.map (some mb)) := h.blk.cell 0
  have HD := hid h
  have HQ := hid hq
  have HLT : Hid (∀ f ∈ fs, ∀ k, f.has k → k < w.heap.size) := fun f hf k q => h.lts hf q
  have HMB : Hid (mb < w.heap.size) := h.map.lt
  clear h hq
  go_enter Try.func43, Try.ntmps43
  go_wp2_with (first | (at_range; refine wpList_range_own _ rfl _ 57 rfl 9 72 strK Try.underlying57 Rp mb _ _ rfl HD.out.map ?_; intro w0 hrg0 hg0 hs0) | go_in)
  go_frame
  have hst : RgS w w0 B mb w.heap.size fs (Maps.has (mapD fs)) (Maps.size (mapD fs)) := ⟨hrg0, (Below.refl _ _).grown hg0 (Nat.le_refl _) (fun k e => by cases e), fun f hf => (HD.out.fl f hf).keep fun k q => hg0.block k (HD.out.lts hf q) (by simp)⟩
  have HST := hid hst
  clear hrg0 hg0 hs0 hst m0
  go_loopw [3] (fun vl wr => ∃ (left : Lit → Bool) (cnt n c : Nat) (A : Option Addr) (ps : List Pc), vl = .slice A n c ∧ Hid (ps.Perm (allP (doneF left fs)) ∧ WaS w wr B mb fs left cnt (.slice A n c) ps)) (fun _ wr => wr.rangeLeft mb w.heap.size)
  case atStart => exact ⟨_, _, 0, 0, none, [], rfl, by rw [done_start]; exact List.Perm.refl _, HST.out, ⟨rfl, .inl ⟨rfl, rfl⟩⟩, HST.out.b.size⟩
  case round =>
    obtain ⟨left, cnt, n, c, A, ps, rfl, HR⟩ := hrel
    obtain ⟨wo, hwo⟩ : ∃ x, x = wr := ⟨_, rfl⟩
    subst hwo
    go_wp2_with (at_next; refine wpList_next_ranges _ rfl _ rfl 9 strK Rp Go.Proofs.encStr ptrB (fun key kl hk => by obtain ⟨x, hx, _⟩ := Maps.keyOf_str Try.underlying9 hk; exact ⟨x, hx⟩) (fun v y hv => Rp_inv hv) mb w.heap.size fs.length (mapD fs) left cnt rfl HR.out.2.rg.rg ?_ ?_)
    · intro hc0 hl0
      have hpl : ps.length ≤ 1000000 := by
        have := HR.out.1.length_eq
        rw [allP_len] at this
        have h2 := sumQ_le (fun f => f.l.length) left fs
        have := HQ.out
        omega
      have HSo := hid (sort_pc HR.out.2.pr hpl)
      have HL0 := hid hl0
      clear hc0 hl0 hpl
      go_wp2_with (go_at_call 51; refine HSo.out.mono ?_; rintro e w2 ⟨rfl, ⟨l', q1, q2, q3⟩, q4⟩)
      go_ret
      have hp := HR.out.1
      rw [done_end HL0.out] at hp
      exact ⟨_, l', rfl, q3, q1.trans hp, q2, HR.out.2.rg.b.trans q4⟩
    · intro x cc kl y1 y2 w1 cnt1 hkey hlk hv hat hrg1 hlt hg1 hs1 hen
      obtain ⟨A1, f, C1, e1, e2, e3, e4⟩ := next_file (y := (y1, y2)) HD.out.ri hkey hv hat
      subst e4
      have hen2 : (Instr.entry (.pointer (some ⟨w.heap.size, 0, none⟩))).run Try.prog w1 = .ok (.tuple #[Go.Proofs.encStr x, .pointer (some ⟨f.b, 0, none⟩)]) w1 := hen
      clear hen
      have HR1 := hid (HR.out.2.rg.step (Nat.le_refl _) hrg1 hg1)
      have hfin : f ∈ fs := by rw [e1]; simp
      have hri := HD.out.ri
      rw [e1] at hri
      rw [e3] at hlk
      have hperm := allP_step hri hlk
      rw [← e1, ← e3] at hperm
      have hpm := (HR.out.1.append_right (pcsF f)).trans hperm
      have HPM := hid hpm
      have hlen : ps.length + f.l.length ≤ 100000 := by
        have h1 := hpm.length_eq
        rw [allP_len, List.length_append] at h1
        have h2 := sumQ_le (fun f => f.l.length) (fun z => left z && !z.sameKey kl) fs
        have h3 := HQ.out
        have h4 : (pcsF f).length = f.l.length := by unfold pcsF; rw [List.length_map]
        omega
      have HLen := hid hlen
      have HLTm := hid (show w1.rangeLeft mb w.heap.size < wo.rangeLeft mb w.heap.size by rw [hrg1.left_eq, HR.out.2.rg.rg.left_eq]; exact hlt)
      have hnr := fun g q => prow_ne HR.out.2.rg HR.out.2.pr (g := g) q
      have hpr1 : PRow w1 w.heap.size (.slice A n c) ps := own_block0 HR.out.2.pr fun g q => hg1.block g (World.ownsRow.lt HR.out.2.pr g q).2 fun e => (hnr g q).2 (Option.some.inj e)
      have HW1 : Hid (WaS w w1 B mb fs (fun z => left z && !z.sameKey kl) cnt1 (.slice A n c) ps) := ⟨HR1.out, hpr1, HR1.out.b.size⟩
      have HFin := hid hfin
      obtain ⟨nf, hnf⟩ : ∃ nf, f.l.length = nf := ⟨_, rfl⟩
      have hlv : ∃ Af cf, f.lv = .slice Af nf cf := by
        rcases (HR1.out.fl f hfin).run.2 with ⟨e, e'⟩ | ⟨g, cap, _, e, _⟩
        · exact ⟨none, 0, by rw [e, ← hnf, e']⟩
        · exact ⟨_, cap, by rw [e, hnf]⟩
      obtain ⟨Af, cf, elv⟩ := hlv
      have k2 : w1.cell? ⟨f.b, 2, none⟩ = some (.slice Af nf cf) := by rw [← elv]; exact (HR1.out.fl f hfin).blk.cell 2
      have HNF := hid hnf
      have HLV := hid elv
      clear hkey hlk hv hat hrg1 hlt hg1 hs1 e1 e2 e3 hfin hri hperm hpm hnr hpr1 hlen hnf elv HR1
      dsimp only [ptrB, Option.map_some]
      go_wp2
      go_loopw [3, 22] (fun vl vi wr => ∃ (k n c : Nat) (A : Option Addr), vl = .slice A n c ∧ vi = .int .i64 (k : Int) ∧ k ≤ nf ∧ Hid (∃ cnt, WaS w wr B mb fs (fun z => left z && !z.sameKey kl) cnt (.slice A n c) (ps ++ (pcsF f).take k) ∧ cnt = cnt1)) (fun _ vi _ => nf - (intOf vi).toNat)
      case atStart => exact ⟨0, n, c, A, rfl, rfl, Nat.zero_le _, cnt1, by rw [List.take_zero, List.append_nil]; exact HW1.out, rfl⟩
      case round =>
        obtain ⟨k, n2, c2, A2, rfl, rfl, hk, HI⟩ := hrel
        by_cases hkn : k < nf
        · have hkb : k < 1000000 := by have := HLen.out; rw [HNF.out] at this; omega
          have hkl : k < f.l.length := by rw [HNF.out]; exact hkn
          obtain ⟨cn, hW, hcn⟩ := HI.out
          have hF := hW.rg.fl f HFin.out
          obtain ⟨g, cap, e⟩ := rrow_form hF.run (fun e => by rw [e] at hkl; exact absurd hkl (by simp))
          have e5 := HLV.out.symm.trans e
          injection e5 with e6 e7 e8
          subst e6
          clear e7 e8
          have hrun : wr.ownsRow B 81 2 (.slice (some ⟨g, 0, none⟩) f.l.length cap) f.l.length (flatR f.l) := by have := hF.run; unfold RRow at this; rw [e] at this; exact this
          obtain ⟨⟨a, s⟩, has⟩ : ∃ r, f.l[k] = r := ⟨_, rfl⟩
          have hsp : f.l = f.l.take k ++ (a, s) :: f.l.drop (k + 1) := by rw [← has]; simp
          have hlt : (flatR (f.l.take k)).length = k * 2 := by rw [flatR_len, List.length_take, Nat.min_eq_left (Nat.le_of_lt hkl)]
          have x0 := (own_cells hrun (j := k * 2) (x := .int .i64 (a : Int)) (by rw [hsp, flatR_app, List.getElem?_append_right (by rw [hlt]; omega), hlt, Nat.sub_self]; rfl)).1
          have x1 := (own_cells hrun (j := k * 2 + 1) (x := .int .i64 (s : Int)) (by rw [hsp, flatR_app, List.getElem?_append_right (by rw [hlt]; omega), hlt, show k * 2 + 1 - k * 2 = 1 by omega]; rfl)).1
          have htk : (pcsF f).take (k + 1) = (pcsF f).take k ++ [(f.b, a, s)] := by
            exact pcs_take hkl has
          have HTk := hid htk
          have HWr := hid hW
          have hpl : (ps ++ (pcsF f).take k).length ≤ 1000000 := by
            have := HLen.out
            rw [List.length_append, List.length_take]
            unfold pcsF
            rw [List.length_map, HNF.out]
            have : min k nf ≤ nf := Nat.min_le_right _ _
            have := HNF.out
            omega
          have hcn2 := hid hcn
          clear hkl hW hF e hrun has hsp hlt htk hcn HI
          go_wp2_with (at_builtin; refine wpList_append_pc rfl (.tmp 26) (.tmp 30) rfl _ w.heap.size (.slice A2 n2 c2) _ rfl (World.ownsRow.alloc (World.ownsRow.alloc HWr.out.pr _) _) _ _ (f.b, a, s) rfl (cell_three _ (f.b, a, s) _ _ (by simp)) hpl (by have := HWr.out.sz; simp; omega) ?_; intro v2 w2 hr2 hg2 hl2; obtain ⟨A3, c3, e3⟩ := prow_form hr2; obtain ⟨n3, hn3⟩ : ∃ n, (ps ++ (pcsF f).take k ++ [(f.b, a, s)]).length = n := ⟨_, rfl⟩; rw [hn3] at e3; subst e3; have HR2 := hid hr2; have HG2 := hid hg2; clear hr2 hg2 hl2 hn3)
          go_roundw
          case rel =>
            refine ⟨k + 1, _, _, _, rfl, by go_num, by omega, cn, ⟨HWr.out.rg.chg HLT.out HMB.out ?_, by rw [HTk.out, ← List.append_assoc]; exact HR2.out, ?_⟩, hcn2.out⟩
            · refine ((Chg.of_below (fun k => w.heap.size ≤ k ∧ k ≠ w.heap.size) (below_new _ _)).trans (Chg.of_below (fun k => w.heap.size ≤ k ∧ k ≠ w.heap.size) (below_new _ _)) fun k q => .inl q).trans (Chg.of_grown (S := fun k => w.heap.size ≤ k ∧ k ≠ w.heap.size) HG2.out fun k q => .inl ?_) fun k q => .inl q
              exact prow_ne HWr.out.rg HWr.out.pr q
            · have h1 := HG2.out.size
              have h2 := HWr.out.sz
              simp at h1
              omega
          case measure => simp [intOf]; omega
        · obtain rfl : k = nf := by omega
          go_wp2
          go_roundw
          case rel =>
            obtain ⟨cn, hW, hcn⟩ := HI.out
            rw [List.take_of_length_le (by unfold pcsF; rw [List.length_map, HNF.out]; exact Nat.le_refl _)] at hW
            exact ⟨fun z => left z && !z.sameKey kl, cn, n2, c2, A2, ps ++ pcsF f, rfl, HPM.out, hW⟩
          case measure =>
            obtain ⟨cn, hW, hcn⟩ := HI.out
            have e1 := HW1.out.rg.rg.left_eq
            have e2 := hW.rg.rg.left_eq
            have := HLTm.out
            rw [e2, hcn, ← e1]
            exact this
end Go.Proofs.Ytofkfafdodhmdaa
