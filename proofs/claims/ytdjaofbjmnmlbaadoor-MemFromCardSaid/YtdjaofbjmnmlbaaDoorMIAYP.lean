/- Several texts in one: IA IB JC JD ID JA KA YN YO YP. Conditions: as each theorem names them. -/
import Derived.Test.YtdjaofbjmnmlbaaDoorMCGHM
import Derived.Deep.QuietTactic
import Derived.KernelRfl
import Derived.RangeFuncNested
import Derived.RangeFuncBound
import Derived.RangeFuncCalls
import Derived.RangeFuncLeaves
import Derived.Shelf.Abstract
import Derived.Shelf.RegionOpen
import Derived.OwnWalkIn
import Derived.TacticsInMore
import Derived.LoopNIn
import Derived.LoopIn
import Derived.RangeFuncBox
/- The statements' own helpers at cells: put, long. Conditions: as each names them. -/
namespace Go.Proofs.YtdjaofbjmnmlbaaDoor
open Go.RowKit

/-- Is a cell greater than is looked at? -/
def longC1 (c : CT) : Bool := decide (60 < c.r.size) || (decide (60 < c.f.size) || (decide (60 < c.q.size) || decide (100 < c.s.size)))
def longC (l : List CT) : Bool := decide (60 < l.length) || l.any longC1

def putC (n : Int) : CT := ⟨⟨#[114]⟩, ⟨#[102]⟩, ⟨#[113]⟩, n, 1, 1, n, ⟨#[]⟩⟩
set_option maxHeartbeats 1000000 in
theorem putc_any (n : Int) (w : World) : Calls Tryd.prog 69 #[.int .i64 n] w fun e w' => e = .returned (putC n).v ∧ Below w.heap.size w w' := by
  go_enter Tryd.func69, Tryd.ntmps69
  go_wp2
  refine bodyPost_ret (v := (putC n).v) (by simp [results, Tryd.results69, go_sem, putC, CT.v, cellV]) rfl ?_
  exact ⟨rfl, below_new _ _⟩

set_option maxHeartbeats 4000000 in
set_option maxRecDepth 100000 in
theorem longcells_any (v : Value) (l : List CT) (w : World) (h : ClA w v l) :
    Calls Tryd.prog 33 #[v, .int .i64 60] w fun e w' => e = .returned (.bool (longC l)) ∧ Below w.heap.size w w' := by
  have mixed : Tryd.prog.follows .mixedOrders = true := by kernel_rfl
  obtain ⟨A, cc, rfl, hc1, hc2, hh⟩ := h
  unfold longC
  obtain ⟨n, hn⟩ : ∃ n, l.length = n := ⟨_, rfl⟩
  have HN := hid hn
  rw [hn] at hc1 hh ⊢
  have HH := hid hh
  clear hn hh
  by_cases hl : 60 < n
  · have hlz : (60 : Int) < (n : Int) := by omega
    rw [decide_eq_true hl]
    go_enter Tryd.func33, Tryd.ntmps33
    go_wp2
    go_ret
    exact ⟨rfl, Below.refl _ _⟩
  · have hlz : ¬ (60 : Int) < (n : Int) := by omega
    rw [decide_eq_false hl]
    go_enter Tryd.func33, Tryd.ntmps33
    go_wp2
    go_loopw [5] (fun vi wr => wr = w ∧ ∃ i : Nat, i ≤ n ∧ vi = .int .i64 i ∧ Hid (l.any longC1 = (l.drop i).any longC1)) (fun vi _ => n - (intOf vi).toNat)
    case atStart => exact ⟨rfl, 0, Nat.zero_le _, rfl, rfl⟩
    case round =>
      obtain ⟨rfl, i, hi, rfl, HA⟩ := hrel
      by_cases hlt : i < n
      · have hin : i < l.length := by rw [HN.out]; exact hlt
        have hltz : (i : Int) < (n : Int) := by omega
        have hltd : decide ((i : Int) < (n : Int)) = true := decide_eq_true hltz
        obtain ⟨b, off, rfl, hhc⟩ := HH.out (by omega)
        obtain ⟨c, hc⟩ : ∃ c, l[i] = c := ⟨_, rfl⟩
        have P : wr.cell? ⟨b, off + i * 8, none⟩ = some (.string c.r) ∧ wr.cell? ⟨b, off + i * 8 + 1, none⟩ = some (.string c.f) ∧ wr.cell? ⟨b, off + i * 8 + 2, none⟩ = some (.string c.q) ∧ wr.cell? ⟨b, off + i * 8 + 3, none⟩ = some (.int .i64 c.t) ∧ wr.cell? ⟨b, off + i * 8 + 4, none⟩ = some (.int .i64 c.k) ∧ wr.cell? ⟨b, off + i * 8 + 5, none⟩ = some (.int .i64 c.vk) ∧ wr.cell? ⟨b, off + i * 8 + 6, none⟩ = some (.int .i64 c.vn) ∧ wr.cell? ⟨b, off + i * 8 + 7, none⟩ = some (.string c.s) := by
          rw [← hc]
          exact hhc.words i hin
        have HD : Hid (l.any longC1 = (longC1 c || (l.drop (i + 1)).any longC1)) := by
          unfold Hid
          rw [HA.out, List.drop_eq_getElem_cons hin, hc]
          rfl
        obtain ⟨p0, p1, p2, p3, p4, p5, p6, p7⟩ := P
        clear hc hhc HA
        by_cases h1 : 60 < c.r.size
        · have h1z : (60 : Int) < (c.r.size : Int) := by omega
          have HE : Hid (l.any longC1 = true) := by unfold Hid; rw [HD.out]; simp [longC1, h1]
          clear h1
          go_wp2
          go_ret
          exact ⟨by rw [HE.out]; rfl, Below.refl _ _⟩
        have h1z : ¬ (60 : Int) < (c.r.size : Int) := by omega
        by_cases h2 : 60 < c.f.size
        · have h2z : (60 : Int) < (c.f.size : Int) := by omega
          have HE : Hid (l.any longC1 = true) := by unfold Hid; rw [HD.out]; simp [longC1, h2]
          clear h1 h2
          go_wp2
          go_ret
          exact ⟨by rw [HE.out]; rfl, Below.refl _ _⟩
        have h2z : ¬ (60 : Int) < (c.f.size : Int) := by omega
        by_cases h3 : 60 < c.q.size
        · have h3z : (60 : Int) < (c.q.size : Int) := by omega
          have HE : Hid (l.any longC1 = true) := by unfold Hid; rw [HD.out]; simp [longC1, h3]
          clear h1 h2 h3
          go_wp2
          go_ret
          exact ⟨by rw [HE.out]; rfl, Below.refl _ _⟩
        have h3z : ¬ (60 : Int) < (c.q.size : Int) := by omega
        by_cases h4 : 100 < c.s.size
        · have h4z : (100 : Int) < (c.s.size : Int) := by omega
          have HE : Hid (l.any longC1 = true) := by unfold Hid; rw [HD.out]; simp [longC1, h4]
          clear h1 h2 h3 h4
          go_wp2
          go_ret
          exact ⟨by rw [HE.out]; rfl, Below.refl _ _⟩
        have h4z : ¬ (100 : Int) < (c.s.size : Int) := by omega
        have HE : Hid (l.any longC1 = (l.drop (i + 1)).any longC1) := by
          unfold Hid
          rw [HD.out]
          simp [longC1, h1, h2, h3, h4]
        clear h1 h2 h3 h4
        go_wp2
        go_roundw
        case rel => exact ⟨trivial, i + 1, by omega, by go_num, HE.out⟩
        case measure => simp [intOf]; omega
      · obtain rfl : i = n := by omega
        have HE : Hid (l.any longC1 = false) := by
          unfold Hid
          rw [HA.out, List.drop_of_length_le (by rw [HN.out]; exact Nat.le_refl _)]
          rfl
        go_wp2
        go_ret
        exact ⟨by rw [HE.out]; rfl, Below.refl _ _⟩
end Go.Proofs.YtdjaofbjmnmlbaaDoor

/- Cells sorted: one list alone is it; it rises; the statements' fixed cells, sorted. -/
namespace Go.Proofs.YtdjaofbjmnmlbaaDoor
open Go.RowKit

theorem stbl_uniq {l : List CT} {l1 l2 : List TT} (h1 : StbL l l1) (h2 : StbL l l2) : l1 = l2 := by
  have hs : Sort.SWO (ltOf tcF) := c3_swo tc3
  refine List.Perm.eq_of_pairwise (le := RT (ltOf tcF) Prod.snd) (fun a b _ _ hab hba => ?_) h1.sorted h2.sorted (h1.perm.trans h2.perm.symm)
  exfalso
  rcases hab with hab | ⟨hab, ht⟩
  · rcases hba with hba | ⟨hba, _⟩
    · rw [swo_asym hs hab] at hba; cases hba
    · rw [hab] at hba; cases hba
  · rcases hba with hba | ⟨_, ht2⟩
    · rw [hab] at hba; cases hba
    · omega
theorem SortOf.uniq {l s t : List CT} (h1 : SortOf l s) (h2 : SortOf l t) : s = t := by
  obtain ⟨l1, a1, rfl⟩ := h1
  obtain ⟨l2, a2, rfl⟩ := h2
  rw [stbl_uniq a1 a2]

theorem lasts_mem : ∀ (l : List CT) (x : CT), x ∈ lastsM l → x ∈ l
  | [], _, h => h
  | [a], _, h => h
  | a :: b :: t, x, h => by
    have ih := lasts_mem (b :: t) x
    have h : x ∈ (if CT.cmp a b = 0 then lastsM (b :: t) else a :: lastsM (b :: t)) := h
    split at h
    · exact List.mem_cons_of_mem _ (ih h)
    · rcases List.mem_cons.1 h with rfl | h
      · exact List.mem_cons_self
      · exact List.mem_cons_of_mem _ (ih h)
theorem lasts_rise : ∀ l : List CT, l.Pairwise (fun x y => CT.cmp x y ≤ 0) → (lastsM l).Pairwise (fun x y => CT.cmp x y < 0)
  | [], _ => List.Pairwise.nil
  | [a], _ => List.pairwise_singleton _ _
  | a :: b :: t, h => by
    obtain ⟨h1, h2⟩ := List.pairwise_cons.1 h
    have ih := lasts_rise (b :: t) h2
    show (if CT.cmp a b = 0 then lastsM (b :: t) else a :: lastsM (b :: t)).Pairwise _
    split
    · exact ih
    · rename_i hne
      refine List.pairwise_cons.2 ⟨fun z hz => ?_, ih⟩
      have hab : CT.cmp a b < 0 := by have := h1 b List.mem_cons_self; omega
      have hz := lasts_mem _ _ hz
      rcases List.mem_cons.1 hz with rfl | hz
      · exact hab
      · exact ct_c3.lt_le hab ((List.pairwise_cons.1 h2).1 z hz)
theorem StbL.le {l : List CT} {l' : List TT} (h : StbL l l') : (l'.map Prod.fst).Pairwise (fun x y => CT.cmp x y ≤ 0) := by
  rw [List.pairwise_map]
  refine h.sorted.imp fun {a b} hab => ?_
  have hs : Sort.SWO (ltOf tcF) := c3_swo tc3
  have h0 := RT.le hs hab
  have h2 : ¬ tcF b a < 0 := by
    intro q
    have h1 : ltOf tcF b a = true := by simpa [ltOf] using q
    rw [h0] at h1
    cases h1
  have h3 := ct_c3.anti b.1 a.1
  have h4 : tcF b a = CT.cmp b.1 a.1 := rfl
  omega
/-- Sorted cells rise. -/
theorem SortOf.rise {l s : List CT} (h : SortOf l s) : s.Pairwise (fun x y => CT.cmp x y < 0) := by
  obtain ⟨l', h1, rfl⟩ := h
  exact lasts_rise _ h1.le
theorem SortOf.mem {l s : List CT} (h : SortOf l s) {c : CT} (hc : c ∈ s) : c ∈ l ∧ c.ok = true := by
  obtain ⟨l', h1, rfl⟩ := h
  have h2 := lasts_mem _ _ hc
  obtain ⟨p, hp, rfl⟩ := List.mem_map.1 h2
  have h3 := h1.perm.mem_iff.1 hp
  obtain ⟨x, i⟩ := p
  exact List.mem_filter.1 (List.fst_mem_of_mem_zipIdx h3)

def goneC : CT := ⟨⟨#[114]⟩, ⟨#[102]⟩, ⟨#[113]⟩, 3, 3, 0, 0, ⟨#[]⟩⟩
def fixedC : List CT := [putC 3, putC 4, goneC, putC 5]
def fixedT : List TT := [(putC 5, 3), (putC 4, 1), (goneC, 2), (putC 3, 0)]
theorem fixed_ok : fixedC.filter CT.ok = fixedC := by
  have h3 : (putC 3).ok = true := by kernel_rfl
  have h4 : (putC 4).ok = true := by kernel_rfl
  have h5 : (putC 5).ok = true := by kernel_rfl
  have hg : goneC.ok = true := by kernel_rfl
  simp [fixedC, h3, h4, h5, hg]
theorem fixed_stb : StbL (fixedC.filter CT.ok) fixedT := by
  rw [fixed_ok]
  constructor
  · show fixedT.Perm [(putC 3, 0), (putC 4, 1), (goneC, 2), (putC 5, 3)]
    exact ((List.reverse_perm [(putC 3, 0), (putC 4, 1), (goneC, 2), (putC 5, 3)]).symm.trans (List.Perm.cons _ (List.Perm.swap _ _ _))).symm
  · have a1 : ltOf tcF (putC 5, 3) (putC 4, 1) = true := by kernel_rfl
    have a2 : ltOf tcF (putC 5, 3) (goneC, 2) = true := by kernel_rfl
    have a3 : ltOf tcF (putC 5, 3) (putC 3, 0) = true := by kernel_rfl
    have a4 : ltOf tcF (putC 4, 1) (goneC, 2) = true := by kernel_rfl
    have a5 : ltOf tcF (putC 4, 1) (putC 3, 0) = true := by kernel_rfl
    have a6 : ltOf tcF (goneC, 2) (putC 3, 0) = true := by kernel_rfl
    simp [fixedT, RT, a1, a2, a3, a4, a5, a6]
theorem fixed_sort {s : List CT} (h : SortOf fixedC s) : s = [putC 5, putC 4, goneC, putC 3] := by
  rw [h.uniq ⟨fixedT, fixed_stb, rfl⟩]
  have a1 : CT.cmp (putC 5) (putC 4) = -1 := by kernel_rfl
  have a2 : CT.cmp (putC 4) goneC = -1 := by kernel_rfl
  have a3 : CT.cmp goneC (putC 3) = -1 := by kernel_rfl
  simp [fixedT, lastsM, a1, a2, a3]
def fixedS : List CT := [putC 5, putC 4, goneC, putC 3]
theorem fixed_seen1 : seenL 1 0 9 fixedS = [putC 5] := by kernel_rfl
theorem fixed_seen8 : (seenL 8 0 9 fixedS).length = 2 := by kernel_rfl
theorem fixed_seen3 : (seenL 8 3 8 fixedS).length = 0 := by kernel_rfl
theorem fixed_value : valueM ⟨#[102]⟩ ⟨#[113]⟩ fixedS (seenL 1 0 9 fixedS) = some (putC 5) := by kernel_rfl
theorem fixed_rows : (rowsL fixedC).length = 1 := by
  have e : (fixedC.map fun c => c.r.data.toList) = [[114], [114], [114], [114]] := by kernel_rfl
  unfold rowsL
  rw [e]
  have m : ([[114], [114], [114], [114]] : List (List UInt8)).mergeSort (fun x y => decide (x ≤ y)) = [[114], [114], [114], [114]] := by
    refine List.mergeSort_of_pairwise ?_
    decide
  rw [m]
  decide
end Go.Proofs.YtdjaofbjmnmlbaaDoor

/- What sorted cells are: they rise, and hold just the right cells behind which no right cell of their place stands. -/
namespace Go.Proofs.YtdjaofbjmnmlbaaDoor
open Go.RowKit

/-- c stands in f, and none of its place behind it. -/
def LastIn (f : List CT) (c : CT) : Prop := ∃ a b, f = a ++ c :: b ∧ ∀ d ∈ b, CT.cmp c d ≠ 0

theorem lasts_iff : ∀ (m : List CT), m.Pairwise (fun x y => CT.cmp x y ≤ 0) → ∀ c, c ∈ lastsM m ↔ LastIn m c
  | [], _, c => ⟨(fun h => by cases h), (fun ⟨a, b, h, _⟩ => by cases a <;> cases h)⟩
  | [x], _, c => by
    constructor
    · intro h
      rcases List.mem_singleton.1 h with rfl
      exact ⟨[], [], rfl, fun d hd => by cases hd⟩
    · rintro ⟨a, b, h, _⟩
      cases a with
      | nil => cases h; exact List.mem_singleton.2 rfl
      | cons y a => injection h with h1 h2; cases a <;> cases h2
  | x :: y :: t, hp, c => by
    obtain ⟨hx, hp'⟩ := List.pairwise_cons.1 hp
    obtain ⟨hy, _⟩ := List.pairwise_cons.1 hp'
    have ih := lasts_iff (y :: t) hp' c
    show c ∈ (if CT.cmp x y = 0 then lastsM (y :: t) else x :: lastsM (y :: t)) ↔ _
    have push : LastIn (y :: t) c → LastIn (x :: y :: t) c := fun ⟨a, b, h, hb⟩ => ⟨x :: a, b, by rw [h]; rfl, hb⟩
    have pull : LastIn (x :: y :: t) c → LastIn (y :: t) c ∨ (c = x ∧ ∀ d ∈ y :: t, CT.cmp c d ≠ 0) := fun ⟨a, b, h, hb⟩ => by
      cases a with
      | nil => injection h with h1 h2; subst h1; rw [h2]; exact .inr ⟨rfl, hb⟩
      | cons z a => injection h with h1 h2; exact .inl ⟨a, b, h2, hb⟩
    by_cases e : CT.cmp x y = 0
    · rw [if_pos e, ih]
      refine ⟨push, fun h => ?_⟩
      rcases pull h with h | ⟨rfl, h2⟩
      · exact h
      · exact absurd e (h2 y List.mem_cons_self)
    · rw [if_neg e, List.mem_cons, ih]
      constructor
      · rintro (rfl | h)
        · refine ⟨[], y :: t, rfl, fun d hd => ?_⟩
          have hxy : CT.cmp c y < 0 := by have := hx y List.mem_cons_self; omega
          rcases List.mem_cons.1 hd with rfl | hd
          · exact e
          · have := ct_c3.lt_le hxy (hy d hd); omega
        · exact push h
      · intro h
        rcases pull h with h | ⟨rfl, _⟩
        · exact .inr h
        · exact .inl rfl
theorem last_zip {f : List CT} {c : CT} : LastIn f c ↔ ∃ t, (c, t) ∈ f.zipIdx ∧ ∀ d u, (d, u) ∈ f.zipIdx → t < u → CT.cmp c d ≠ 0 := by
  constructor
  · rintro ⟨a, b, rfl, hb⟩
    refine ⟨a.length, ?_, fun d u hd hu => ?_⟩
    · rw [List.mk_mem_zipIdx_iff_getElem?]; simp
    · rw [List.mk_mem_zipIdx_iff_getElem?, List.getElem?_append_right (by omega)] at hd
      obtain ⟨k, hk⟩ : ∃ k, u - a.length = k + 1 := ⟨u - a.length - 1, by omega⟩
      rw [hk, List.getElem?_cons_succ] at hd
      exact hb d (List.mem_of_getElem? hd)
  · rintro ⟨t, ht, h⟩
    rw [List.mk_mem_zipIdx_iff_getElem?] at ht
    obtain ⟨hlt, hc⟩ := List.getElem?_eq_some_iff.1 ht
    refine ⟨f.take t, f.drop (t + 1), ?_, fun d hd => ?_⟩
    · rw [← hc, ← List.drop_eq_getElem_cons hlt, List.take_append_drop]
    · obtain ⟨k, hk, rfl⟩ := List.getElem_of_mem hd
      rw [List.getElem_drop]
      refine h _ (t + 1 + k) ?_ (by omega)
      rw [List.mk_mem_zipIdx_iff_getElem?]
      exact List.getElem?_eq_getElem _
theorem stb_last {f : List CT} {l' : List TT} (h : StbL f l') (c : CT) : LastIn (l'.map Prod.fst) c ↔ LastIn f c := by
  have hs : Sort.SWO (ltOf tcF) := c3_swo tc3
  have c0 : ∀ x y : TT, CT.cmp x.1 y.1 = 0 → ltOf tcF x y = false ∧ ltOf tcF y x = false := fun x y e => by
    have a := ct_c3.anti x.1 y.1
    constructor
    · show decide (CT.cmp x.1 y.1 < 0) = false
      exact decide_eq_false (by omega)
    · show decide (CT.cmp y.1 x.1 < 0) = false
      exact decide_eq_false (by omega)
  rw [last_zip (f := f)]
  constructor
  · rintro ⟨a, b, hm, hb⟩
    obtain ⟨a', b', rfl, rfl, hcb⟩ := List.map_eq_append_iff.1 hm
    obtain ⟨x, b'', rfl, rfl, rfl⟩ := List.map_eq_cons_iff.1 hcb
    refine ⟨x.2, h.perm.mem_iff.1 (by simp), fun d u hd hu e => ?_⟩
    have hd := h.perm.mem_iff.2 hd
    obtain ⟨p1, p2, p3⟩ := List.pairwise_append.1 h.sorted
    rcases List.mem_append.1 hd with hd | hd
    · have := p3 _ hd x List.mem_cons_self
      obtain ⟨q1, q2⟩ := c0 x (d, u) e
      rcases this with q | ⟨_, q⟩
      · rw [q] at q2; cases q2
      · have q : u < x.2 := q; omega
    · rcases List.mem_cons.1 hd with rfl | hd
      · exact absurd hu (Nat.lt_irrefl _)
      · exact hb d (List.mem_map.2 ⟨(d, u), hd, rfl⟩) e
  · rintro ⟨t, ht, hl⟩
    have ht := h.perm.mem_iff.2 ht
    obtain ⟨a, b, rfl⟩ := List.append_of_mem ht
    refine ⟨a.map Prod.fst, b.map Prod.fst, by simp, fun d hd e => ?_⟩
    obtain ⟨y, hy, rfl⟩ := List.mem_map.1 hd
    obtain ⟨_, p2, _⟩ := List.pairwise_append.1 h.sorted
    have hq := (List.pairwise_cons.1 p2).1 y hy
    obtain ⟨q1, q2⟩ := c0 (c, t) y e
    rcases hq with q | ⟨_, q⟩
    · rw [q] at q1; cases q1
    · exact hl y.1 y.2 (h.perm.mem_iff.1 (by simp [hy])) q e
/-- What sorted cells hold. -/
theorem SortOf.holds {l s : List CT} (h : SortOf l s) (c : CT) : c ∈ s ↔ LastIn (l.filter CT.ok) c := by
  obtain ⟨l', h1, rfl⟩ := h
  rw [lasts_iff _ h1.le, stb_last h1]
/-- Two lists that rise and hold the same are one. -/
theorem rise_uniq {s t : List CT} (h1 : s.Pairwise (fun x y => CT.cmp x y < 0)) (h2 : t.Pairwise (fun x y => CT.cmp x y < 0)) (h : ∀ c, c ∈ s ↔ c ∈ t) : s = t := by
  have nd : ∀ {m : List CT}, m.Pairwise (fun x y => CT.cmp x y < 0) → m.Nodup := fun hm => hm.imp fun {a b} hab e => by
    subst e
    have := ct_c3.zero a
    omega
  refine List.Perm.eq_of_pairwise (le := fun x y => CT.cmp x y < 0) (fun a b _ _ hab hba => ?_) h1 h2 ((List.perm_ext_iff_of_nodup (nd h1) (nd h2)).2 h)
  have := ct_c3.anti a b
  omega
end Go.Proofs.YtdjaofbjmnmlbaaDoor

/- Sorted cells of a part of the places. -/
namespace Go.Proofs.YtdjaofbjmnmlbaaDoor
open Go.RowKit

theorem last_filter {f : List CT} {P : CT → Bool} (hP : ∀ x y, CT.cmp x y = 0 → P x = P y) (c : CT) : LastIn (f.filter P) c ↔ LastIn f c ∧ P c = true := by
  constructor
  · rintro ⟨a, b, h, hb⟩
    obtain ⟨l1, l2, rfl, h1, h2⟩ := List.filter_eq_append_iff.1 h
    obtain ⟨m1, m2, rfl, hm, hc, h3⟩ := List.filter_eq_cons_iff.1 h2
    refine ⟨⟨l1 ++ m1, m2, by simp, fun d hd e => ?_⟩, hc⟩
    refine hb d ?_ e
    rw [← h3]
    exact List.mem_filter.2 ⟨hd, by rw [← hP c d e]; exact hc⟩
  · rintro ⟨⟨a, b, rfl, hb⟩, hc⟩
    refine ⟨a.filter P, b.filter P, by rw [List.filter_append, List.filter_cons, if_pos hc], fun d hd => hb d (List.mem_filter.1 hd).1⟩
/-- Sorting the cells of a part of the places is taking that part of the sorted ones. -/
theorem SortOf.part {l s t : List CT} {P : CT → Bool} (hP : ∀ x y, CT.cmp x y = 0 → P x = P y) (h : SortOf l s) (h2 : SortOf (l.filter P) t) : t = s.filter P := by
  refine rise_uniq h2.rise (h.rise.filter _) fun c => ?_
  rw [h2.holds, List.mem_filter, h.holds, ← last_filter hP]
  rw [show (l.filter P).filter CT.ok = (l.filter CT.ok).filter P by rw [List.filter_filter, List.filter_filter]; congr 1; funext x; exact Bool.and_comm _ _]
/-- Sorting a list that holds the same right cells, no two of one place, gives the same. -/
theorem SortOf.apart {l m s t : List CT} (h : SortOf l s) (h2 : SortOf m t) (hm : m.Perm s) (hr : ∀ c ∈ s, c.ok = true) : t = s := by
  refine rise_uniq h2.rise h.rise fun c => ?_
  have hok : m.filter CT.ok = m := List.filter_eq_self.2 fun x hx => hr x (hm.mem_iff.1 hx)
  rw [h2.holds, hok]
  have nd : ∀ a b : CT, a ∈ s → b ∈ s → CT.cmp a b = 0 → a = b := fun a b ha hb e => by
    obtain ⟨p, q, rfl⟩ := List.append_of_mem ha
    obtain ⟨r1, r2, r3⟩ := List.pairwise_append.1 h.rise
    rcases List.mem_append.1 hb with hb | hb
    · have := r3 b hb a List.mem_cons_self
      have := ct_c3.anti a b
      omega
    · rcases List.mem_cons.1 hb with rfl | hb
      · rfl
      · have := (List.pairwise_cons.1 r2).1 b hb
        omega
  have ndm : m.Nodup := hm.nodup_iff.2 (h.rise.imp fun {a b} hab e => by
    subst e
    have := ct_c3.zero a
    omega)
  constructor
  · rintro ⟨a, b, rfl, _⟩
    exact hm.mem_iff.1 (by simp)
  · intro hc
    obtain ⟨a, b, rfl⟩ := List.append_of_mem (hm.mem_iff.2 hc)
    refine ⟨a, b, rfl, fun d hd e => ?_⟩
    have hd2 : d ∈ s := hm.mem_iff.1 (by simp [hd])
    have := nd c d hc hd2 e
    subst this
    have h3 := (List.nodup_append.1 ndm).2.1
    exact (List.nodup_cons.1 h3).1 hd
end Go.Proofs.YtdjaofbjmnmlbaaDoor

/- What is let of sorted cells: of each column no more than so many, the latest first. -/
namespace Go.Proofs.YtdjaofbjmnmlbaaDoor
open Go.RowKit

theorem cmp_lex (x y : CT) : CT.cmp x y = (if Lib.compareBytes x.r.data.toList y.r.data.toList = 0 then (if Lib.compareBytes x.f.data.toList y.f.data.toList = 0 then (if Lib.compareInt (rankC x.k) (rankC y.k) = 0 then (if Lib.compareBytes x.q.data.toList y.q.data.toList = 0 then (if Lib.compareInt (-x.t) (-y.t) = 0 then (if Lib.compareInt (-x.k) (-y.k) = 0 then 0 else Lib.compareInt (-x.k) (-y.k)) else Lib.compareInt (-x.t) (-y.t)) else Lib.compareBytes x.q.data.toList y.q.data.toList) else Lib.compareInt (rankC x.k) (rankC y.k)) else Lib.compareBytes x.f.data.toList y.f.data.toList) else Lib.compareBytes x.r.data.toList y.r.data.toList) := by
  have n1 : ∀ a b : Int, Lib.compareInt b a = Lib.compareInt (-a) (-b) := fun a b => by unfold Lib.compareInt; split <;> (try split) <;> (try split) <;> (try split) <;> omega
  unfold CT.cmp cOrd
  simp only [orI_cons, n1 x.t y.t, n1 x.k y.k]
  rfl
theorem lex_le {f g : Int} (h : (if f = 0 then g else f) ≤ 0) : f ≤ 0 ∧ (f = 0 → g ≤ 0) := by
  split at h
  · exact ⟨by omega, fun _ => h⟩
  · exact ⟨h, fun e => by omega⟩
theorem ba_eq {x y : ByteArray} (h : x.data.toList = y.data.toList) : x = y := by
  apply ByteArray.ext
  exact Array.toList_inj.1 h
theorem ba_between {x y : ByteArray} (h1 : Lib.compareBytes x.data.toList y.data.toList ≤ 0) (h2 : Lib.compareBytes y.data.toList x.data.toList ≤ 0) : x = y := by
  have := cmpB_neg x.data.toList y.data.toList
  exact ba_eq (cmpB_zero _ _ (by omega))
theorem int_le {a b : Int} (h : Lib.compareInt a b ≤ 0) : a ≤ b := by
  unfold Lib.compareInt at h
  split at h
  · omega
  · split at h <;> omega
theorem int_self (a : Int) : Lib.compareInt a a = 0 := by
  unfold Lib.compareInt
  split
  · omega
  · rfl
theorem int_lt {a b : Int} (h : Lib.compareInt a b < 0) : a < b := by
  unfold Lib.compareInt at h
  split at h
  · assumption
  · split at h <;> omega

/-- Of one column. -/
abbrev colC (c d : CT) : Prop := c.r = d.r ∧ c.f = d.f ∧ c.q = d.q
/-- What stands between a column's put and another cell of the column is of the column. -/
theorem col_between {d a c : CT} (h : colC c d) (hk : d.k = 1) (h1 : CT.cmp d a ≤ 0) (h2 : CT.cmp a c ≤ 0) : colC c a ∧ c.k ≠ 4 := by
  obtain ⟨hr, hf, hq⟩ := h
  rw [cmp_lex] at h1 h2
  obtain ⟨r1, h1⟩ := lex_le h1
  obtain ⟨r2, h2⟩ := lex_le h2
  rw [hr] at r2
  have er : d.r = a.r := ba_between r1 r2
  have h1 := h1 (by rw [er]; exact cmpB_self _)
  have h2 := h2 (by rw [hr, er]; exact cmpB_self _)
  obtain ⟨f1, h1⟩ := lex_le h1
  obtain ⟨f2, h2⟩ := lex_le h2
  rw [hf] at f2
  have ef : d.f = a.f := ba_between f1 f2
  have h1 := h1 (by rw [ef]; exact cmpB_self _)
  have h2 := h2 (by rw [hf, ef]; exact cmpB_self _)
  obtain ⟨k1, h1⟩ := lex_le h1
  obtain ⟨k2, h2⟩ := lex_le h2
  have k1 := int_le k1
  have k2 := int_le k2
  have kd : rankC d.k = 1 := by rw [hk]; rfl
  have ka : rankC a.k ≤ 1 := by unfold rankC; split <;> omega
  have kc : rankC c.k ≤ 1 := by unfold rankC; split <;> omega
  have h1 := h1 (by rw [show rankC a.k = rankC d.k by omega]; exact int_self _)
  have h2 := h2 (by rw [show rankC c.k = rankC a.k by omega]; exact int_self _)
  obtain ⟨q1, _⟩ := lex_le h1
  obtain ⟨q2, _⟩ := lex_le h2
  rw [hq] at q2
  have eq : d.q = a.q := ba_between q1 q2
  refine ⟨⟨hr.trans er, hf.trans ef, hq.trans eq⟩, fun h4 => ?_⟩
  have : rankC c.k = 0 := by rw [h4]; rfl
  omega
theorem col_time {d c : CT} (h : colC c d) (hd : d.k = 1) (hc : c.k = 1) (h1 : CT.cmp d c < 0) : c.t < d.t := by
  obtain ⟨hr, hf, hq⟩ := h
  rw [cmp_lex, hr, hf, hq, hd, hc, if_pos (cmpB_self _), if_pos (cmpB_self _), if_pos (int_self _), if_pos (cmpB_self _)] at h1
  have := lex_le (Int.le_of_lt h1)
  by_cases e : Lib.compareInt (-d.t) (-c.t) = 0
  · rw [if_pos e, if_pos (int_self _)] at h1; omega
  · have := int_lt (a := -d.t) (b := -c.t) (by omega)
    omega

/-- The statement's walk: the last cell, how many of its column there are. -/
def fewM (ver : Int) : Option CT → Int → List CT → Bool
  | _, _, [] => true
  | p, n, c :: l =>
    if c.k ≠ 1 then false
    else match p with
      | some d => if colC c d then (if d.t ≤ c.t then false else if ver < IntKind.i64.wrap (n + 1) then false else fewM ver (some c) (IntKind.i64.wrap (n + 1)) l) else if ver < 1 then false else fewM ver (some c) 1 l
      | none => if ver < 1 then false else fewM ver (some c) 1 l

/-- How the sight stands to what has been let. -/
def FewI (g : SG) (p : Option CT) (n : Int) (m : List CT) : Prop :=
  0 ≤ g.seen ∧ g.seen ≤ 8 ∧ (p = none → g.seen = 0) ∧ ∀ d, p = some d → d.k = 1 ∧ CT.cmp d g.at' ≤ 0 ∧ (∀ c ∈ m, CT.cmp g.at' c < 0) ∧ (if colC g.at' d then g.seen = n else g.seen = 0)

theorem move_seen (g : SG) (c : CT) : (g.move c).at' = c ∧ (g.move c).seen = if colC c g.at' then g.seen else 0 := by
  unfold SG.move
  by_cases h1 : c.r ≠ g.at'.r ∨ c.f ≠ g.at'.f
  · rw [if_pos h1, if_neg (by rintro ⟨a, b, _⟩; rcases h1 with h | h <;> contradiction)]
    exact ⟨rfl, rfl⟩
  · rw [if_neg h1]
    by_cases h2 : c.q ≠ g.at'.q
    · rw [if_pos h2, if_neg (by rintro ⟨_, _, b⟩; contradiction)]
      exact ⟨rfl, rfl⟩
    · rw [if_neg h2, if_pos (by
        refine ⟨?_, ?_, ?_⟩
        · false_or_by_contra; rename_i q; exact h1 (.inl q)
        · false_or_by_contra; rename_i q; exact h1 (.inr q)
        · false_or_by_contra; rename_i q; exact h2 q)]
      exact ⟨rfl, rfl⟩
theorem lets_seen (g : SG) (c : CT) (ver life now : Int) : (g.lets c ver life now).1.at' = c ∧
    (((g.lets c ver life now).2 = true ∧ c.k = 1 ∧ (g.move c).seen < ver ∧ (g.lets c ver life now).1.seen = IntKind.i64.wrap ((g.move c).seen + 1)) ∨ ((g.lets c ver life now).2 = false ∧ (g.lets c ver life now).1.seen = (g.move c).seen)) := by
  have hm := (move_seen g c).1
  unfold SG.lets
  simp only
  split
  · exact ⟨hm, .inr ⟨rfl, rfl⟩⟩
  · split
    · exact ⟨hm, .inr ⟨rfl, rfl⟩⟩
    · split
      · exact ⟨hm, .inr ⟨rfl, rfl⟩⟩
      · split
        · rename_i h
          exact ⟨hm, .inl ⟨rfl, h.1, h.2.2.2, rfl⟩⟩
        · exact ⟨hm, .inr ⟨rfl, rfl⟩⟩

theorem few_go (ver life now : Int) (h8 : ver ≤ 8) : ∀ (m : List CT) (g : SG) (p : Option CT) (n : Int), m.Pairwise (fun x y => CT.cmp x y < 0) → FewI g p n m → fewM ver p n (seenF ver life now g m) = true
  | [], _, _, _, _, _ => rfl
  | c :: m, g, p, n, hp, hI => by
    obtain ⟨hc, hp'⟩ := List.pairwise_cons.1 hp
    obtain ⟨i0, i8, iN, iS⟩ := hI
    obtain ⟨ha, hs⟩ := lets_seen g c ver life now
    have hmv := (move_seen g c).2
    obtain ⟨G, hG⟩ : ∃ G, (g.lets c ver life now).1 = G := ⟨_, rfl⟩
    show fewM ver p n (if (g.lets c ver life now).2 = true then c :: seenF ver life now (g.lets c ver life now).1 m else seenF ver life now (g.lets c ver life now).1 m) = true
    rw [hG] at ha hs ⊢
    have m0 : 0 ≤ (g.move c).seen ∧ (g.move c).seen ≤ 8 := by rw [hmv]; split <;> omega
    rcases hs with ⟨h2, hk, hlt, hse⟩ | ⟨h2, hse⟩
    · rw [if_pos h2]
      have hw : IntKind.i64.wrap ((g.move c).seen + 1) = (g.move c).seen + 1 := by rw [IntKind.wrap_i64]; omega
      rw [hw] at hse
      have next : ∀ n', G.seen = n' → FewI G (some c) n' m := fun n' hn => by
        refine ⟨by omega, by omega, (fun h => by cases h), fun d hd => ?_⟩
        cases hd
        refine ⟨hk, by rw [ha, ct_c3.zero]; omega, fun x hx => by rw [ha]; exact hc x hx, ?_⟩
        rw [ha, if_pos ⟨rfl, rfl, rfl⟩]
        exact hn
      unfold fewM
      rw [if_neg (by omega)]
      cases p with
      | none =>
        have z := iN rfl
        have z2 : (g.move c).seen = 0 := by rw [hmv]; split <;> omega
        simp only
        rw [if_neg (by omega)]
        exact few_go ver life now h8 m G (some c) 1 hp' (next 1 (by omega))
      | some d =>
        obtain ⟨dk, d1, d2, d3⟩ := iS d rfl
        have hdc : CT.cmp d c < 0 := ct_c3.le_lt d1 (d2 c List.mem_cons_self)
        simp only
        by_cases hcol : colC c d
        · rw [if_pos hcol]
          have ht := col_time hcol dk hk hdc
          rw [if_neg (by omega)]
          have hca := (col_between hcol dk d1 (Int.le_of_lt (d2 c List.mem_cons_self))).1
          rw [if_pos ⟨hca.1.symm.trans hcol.1, hca.2.1.symm.trans hcol.2.1, hca.2.2.symm.trans hcol.2.2⟩] at d3
          rw [if_pos hca] at hmv
          have hw2 : IntKind.i64.wrap (n + 1) = n + 1 := by rw [IntKind.wrap_i64]; omega
          rw [hw2, if_neg (by omega)]
          exact few_go ver life now h8 m G (some c) (n + 1) hp' (next (n + 1) (by omega))
        · rw [if_neg hcol]
          have z2 : (g.move c).seen = 0 := by
            rw [hmv]
            by_cases hca : colC c g.at'
            · rw [if_pos hca]
              rw [if_neg (fun q => hcol ⟨hca.1.trans q.1, hca.2.1.trans q.2.1, hca.2.2.trans q.2.2⟩)] at d3
              exact d3
            · rw [if_neg hca]
          rw [if_neg (by omega)]
          exact few_go ver life now h8 m G (some c) 1 hp' (next 1 (by omega))
    · rw [if_neg (by rw [h2]; decide)]
      refine few_go ver life now h8 m G p n hp' ⟨by omega, by omega, fun h => ?_, fun d hd => ?_⟩
      · have z := iN h
        rw [hse, hmv]; split <;> omega
      · obtain ⟨dk, d1, d2, d3⟩ := iS d hd
        have hac := d2 c List.mem_cons_self
        refine ⟨dk, by rw [ha]; exact Int.le_of_lt (ct_c3.le_lt d1 hac), fun x hx => by rw [ha]; exact hc x hx, ?_⟩
        rw [ha, hse, hmv]
        by_cases hcol : colC c d
        · rw [if_pos hcol]
          have hca := (col_between hcol dk d1 (Int.le_of_lt hac)).1
          rw [if_pos ⟨hca.1.symm.trans hcol.1, hca.2.1.symm.trans hcol.2.1, hca.2.2.symm.trans hcol.2.2⟩] at d3
          rw [if_pos hca]
          exact d3
        · rw [if_neg hcol]
          by_cases hca : colC c g.at'
          · rw [if_pos hca]
            rw [if_neg (fun q => hcol ⟨hca.1.trans q.1, hca.2.1.trans q.2.1, hca.2.2.trans q.2.2⟩)] at d3
            exact d3
          · rw [if_neg hca]
/-- Of each column no more than so many, the latest first. -/
theorem few_all {l s : List CT} (h : SortOf l s) (ver life now : Int) : fewM ver none 0 (seenL ver life now s) = true := by
  unfold seenL
  split
  · rename_i hr
    have h8 : ver ≤ 8 := by
      unfold rightM at hr
      simp only [Bool.and_eq_true, decide_eq_true_eq] at hr
      exact hr.2.1
    exact few_go ver life now h8 s SG.zero none 0 h.rise ⟨by decide, by decide, fun _ => rfl, fun d hd => by cases hd⟩
  · rfl
end Go.Proofs.YtdjaofbjmnmlbaaDoor

/- With one version less: what is let is among what is let with it, in order, and it is half of it at least. -/
namespace Go.Proofs.YtdjaofbjmnmlbaaDoor
open Go.RowKit

/-- Is the first list found in the second, in order? The statement's walk. -/
def subM {α : Type} [DecidableEq α] : List α → List α → Bool
  | [], _ => true
  | _ :: _, [] => false
  | x :: a, y :: b => if y = x then subM a b else subM (x :: a) b
theorem subM_of {α : Type} [DecidableEq α] : ∀ (b a : List α), a.Sublist b → subM a b = true
  | _, [], _ => by unfold subM; rfl
  | [], _ :: _, h => by cases h
  | y :: b, x :: a, h => by
    unfold subM
    by_cases e : y = x
    · rw [if_pos e]
      refine subM_of b a ?_
      cases h with
      | cons _ h => exact (List.sublist_cons_self x a).trans h
      | cons_cons _ h => exact h
    · rw [if_neg e]
      refine subM_of b (x :: a) ?_
      cases h with
      | cons _ h => exact h
      | cons_cons _ h => exact absurd rfl e

/-- How the two sights stand to each other. -/
structure LessI (ver : Int) (g h : SG) : Prop where
  at' : g.at' = h.at'
  fam : g.fam = h.fam
  col : g.col = h.col
  cell : g.cell = h.cell
  lo : 0 ≤ g.seen
  seen : (g.seen < ver ∧ h.seen = g.seen) ∨ (g.seen = ver ∧ (h.seen = ver ∨ h.seen = ver + 1))
def slack (ver : Int) (g h : SG) : Nat := if 1 ≤ g.seen ∧ h.seen ≤ ver then 1 else 0
theorem less_move {ver : Int} {g h : SG} (hv : 1 ≤ ver) (i : LessI ver g h) (c : CT) : LessI ver (g.move c) (h.move c) ∧ slack ver (g.move c) (h.move c) ≤ slack ver g h := by
  unfold SG.move
  rw [i.at']
  by_cases h1 : c.r ≠ h.at'.r ∨ c.f ≠ h.at'.f
  · rw [if_pos h1, if_pos h1]
    refine ⟨⟨rfl, rfl, rfl, rfl, by show (0 : Int) ≤ 0; omega, .inl ⟨by show (0 : Int) < ver; omega, rfl⟩⟩, ?_⟩
    unfold slack
    rw [if_neg (by show ¬ ((1 : Int) ≤ 0 ∧ _); omega)]
    exact Nat.zero_le _
  · rw [if_neg h1, if_neg h1]
    by_cases h2 : c.q ≠ h.at'.q
    · rw [if_pos h2, if_pos h2]
      refine ⟨⟨rfl, i.fam, rfl, rfl, by show (0 : Int) ≤ 0; omega, .inl ⟨by show (0 : Int) < ver; omega, rfl⟩⟩, ?_⟩
      unfold slack
      rw [if_neg (by show ¬ ((1 : Int) ≤ 0 ∧ _); omega)]
      exact Nat.zero_le _
    · rw [if_neg h2, if_neg h2]
      exact ⟨⟨rfl, i.fam, i.col, i.cell, i.lo, i.seen⟩, Nat.le_refl _⟩
theorem less_go (ver life now : Int) (hv : 1 ≤ ver) (h8 : ver ≤ 7) : ∀ (m : List CT) (g h : SG), LessI ver g h →
    (seenF ver life now g m).Sublist (seenF (ver + 1) life now h m) ∧ (seenF (ver + 1) life now h m).length ≤ 2 * (seenF ver life now g m).length + slack ver g h
  | [], g, h, _ => ⟨List.Sublist.refl _, by show 0 ≤ _; omega⟩
  | c :: m, g, h, i => by
    obtain ⟨j, hsl⟩ := less_move hv i c
    have step : ((g.lets c ver life now).2 = (h.lets c (ver + 1) life now).2 ∧ LessI ver (g.lets c ver life now).1 (h.lets c (ver + 1) life now).1 ∧ ((g.lets c ver life now).2 = false → slack ver (g.lets c ver life now).1 (h.lets c (ver + 1) life now).1 ≤ slack ver (g.move c) (h.move c))) ∨
        ((g.lets c ver life now).2 = false ∧ (h.lets c (ver + 1) life now).2 = true ∧ LessI ver (g.lets c ver life now).1 (h.lets c (ver + 1) life now).1 ∧ slack ver (g.move c) (h.move c) = 1 ∧ slack ver (g.lets c ver life now).1 (h.lets c (ver + 1) life now).1 = 0) := by
      have hhas : (h.move c).has c.t = (g.move c).has c.t := by unfold SG.has; rw [j.col, j.fam, j.cell]
      have jl := j.lo
      have js := j.seen
      unfold SG.lets
      simp only
      rw [hhas]
      by_cases k4 : c.k = 4
      · rw [if_pos k4, if_pos k4]
        exact .inl ⟨rfl, ⟨j.at', by show max _ _ = max _ _; rw [j.fam], j.col, j.cell, j.lo, j.seen⟩, fun _ => Nat.le_refl _⟩
      rw [if_neg k4, if_neg k4]
      by_cases k3 : c.k = 3
      · rw [if_pos k3, if_pos k3]
        exact .inl ⟨rfl, ⟨j.at', j.fam, rfl, j.cell, j.lo, j.seen⟩, fun _ => Nat.le_refl _⟩
      rw [if_neg k3, if_neg k3]
      by_cases k2 : c.k = 2
      · rw [if_pos k2, if_pos k2]
        exact .inl ⟨rfl, ⟨j.at', j.fam, j.col, rfl, j.lo, j.seen⟩, fun _ => Nat.le_refl _⟩
      rw [if_neg k2, if_neg k2]
      by_cases hc : c.k = 1 ∧ (g.move c).has c.t = true ∧ livesM life now c.t = true
      · obtain ⟨a1, a2, a3⟩ := hc
        rcases js with ⟨s1, s2⟩ | ⟨s1, s2 | s2⟩
        · rw [if_pos ⟨a1, a2, a3, s1⟩, if_pos ⟨a1, a2, a3, by omega⟩]
          have w1 : IntKind.i64.wrap ((g.move c).seen + 1) = (g.move c).seen + 1 := by rw [IntKind.wrap_i64]; omega
          refine .inl ⟨rfl, ⟨j.at', j.fam, j.col, j.cell, ?_, ?_⟩, fun q => by cases q⟩
          · show 0 ≤ IntKind.i64.wrap ((g.move c).seen + 1)
            rw [w1]; omega
          · show (IntKind.i64.wrap ((g.move c).seen + 1) < ver ∧ IntKind.i64.wrap ((h.move c).seen + 1) = IntKind.i64.wrap ((g.move c).seen + 1)) ∨ (IntKind.i64.wrap ((g.move c).seen + 1) = ver ∧ (IntKind.i64.wrap ((h.move c).seen + 1) = ver ∨ IntKind.i64.wrap ((h.move c).seen + 1) = ver + 1))
            rw [s2, w1]; omega
        · rw [if_neg (by rintro ⟨-, -, -, q⟩; omega), if_pos ⟨a1, a2, a3, by omega⟩]
          have w1 : IntKind.i64.wrap ((h.move c).seen + 1) = (h.move c).seen + 1 := by rw [IntKind.wrap_i64]; omega
          refine .inr ⟨rfl, rfl, ⟨j.at', j.fam, j.col, j.cell, j.lo, .inr ⟨s1, .inr ?_⟩⟩, ?_, ?_⟩
          · show IntKind.i64.wrap ((h.move c).seen + 1) = ver + 1
            rw [w1]; omega
          · unfold slack; rw [if_pos ⟨by omega, by omega⟩]
          · unfold slack
            rw [if_neg]
            rintro ⟨-, q⟩
            have q : IntKind.i64.wrap ((h.move c).seen + 1) ≤ ver := q
            rw [w1] at q; omega
        · rw [if_neg (by rintro ⟨-, -, -, q⟩; omega), if_neg (by rintro ⟨-, -, -, q⟩; omega)]
          exact .inl ⟨rfl, j, fun _ => Nat.le_refl _⟩
      · rw [if_neg (fun q => hc ⟨q.1, q.2.1, q.2.2.1⟩), if_neg (fun q => hc ⟨q.1, q.2.1, q.2.2.1⟩)]
        exact .inl ⟨rfl, j, fun _ => Nat.le_refl _⟩
    show (if (g.lets c ver life now).2 = true then c :: seenF ver life now (g.lets c ver life now).1 m else seenF ver life now (g.lets c ver life now).1 m).Sublist (if (h.lets c (ver + 1) life now).2 = true then c :: seenF (ver + 1) life now (h.lets c (ver + 1) life now).1 m else seenF (ver + 1) life now (h.lets c (ver + 1) life now).1 m) ∧ (if (h.lets c (ver + 1) life now).2 = true then c :: seenF (ver + 1) life now (h.lets c (ver + 1) life now).1 m else seenF (ver + 1) life now (h.lets c (ver + 1) life now).1 m).length ≤ 2 * (if (g.lets c ver life now).2 = true then c :: seenF ver life now (g.lets c ver life now).1 m else seenF ver life now (g.lets c ver life now).1 m).length + slack ver g h
    rcases step with ⟨e, ji, hs⟩ | ⟨e1, e2, ji, z1, z2⟩
    · obtain ⟨r1, r2⟩ := less_go ver life now hv h8 m _ _ ji
      have s1 : slack ver (g.lets c ver life now).1 (h.lets c (ver + 1) life now).1 ≤ 1 := by unfold slack; split <;> omega
      rw [← e]
      cases hb : (g.lets c ver life now).2 with
      | true =>
        simp only [if_true]
        exact ⟨List.Sublist.cons_cons _ r1, by simp only [List.length_cons]; omega⟩
      | false =>
        have := hs hb
        rw [if_neg (by decide), if_neg (by decide)]
        exact ⟨r1, by omega⟩
    · obtain ⟨r1, r2⟩ := less_go ver life now hv h8 m _ _ ji
      rw [e1, e2, if_neg (by decide), if_pos rfl]
      exact ⟨r1.cons _, by simp only [List.length_cons]; omega⟩
theorem less_all (ver life now : Int) (hv : 1 ≤ ver) (h8 : ver ≤ 7) (s : List CT) : (seenL ver life now s).Sublist (seenL (ver + 1) life now s) ∧ (seenL (ver + 1) life now s).length ≤ 2 * (seenL ver life now s).length := by
  unfold seenL
  have e : rightM (ver + 1) life = rightM ver life := by
    unfold rightM
    rw [decide_eq_true hv, decide_eq_true (by omega : 1 ≤ ver + 1), decide_eq_true (by omega : ver ≤ 8), decide_eq_true (by omega : ver + 1 ≤ 8)]
  rw [e]
  split
  · have := less_go ver life now hv h8 s SG.zero SG.zero ⟨rfl, rfl, rfl, rfl, by decide, .inl ⟨by show (0 : Int) < ver; omega, rfl⟩⟩
    have z : slack ver SG.zero SG.zero = 0 := rfl
    rw [z] at this
    exact this
  · exact ⟨List.Sublist.refl _, Nat.zero_le _⟩
end Go.Proofs.YtdjaofbjmnmlbaaDoor

/- Which of sorted cells are let, in the document's words: puts that no cell tells to be gone, that live, and of whose column fewer than so many such puts stand ahead. -/
namespace Go.Proofs.YtdjaofbjmnmlbaaDoor
open Go.RowKit

/-- Does d tell that c is gone? -/
def HitC (d c : CT) : Prop := d.r = c.r ∧ d.f = c.f ∧ ((d.k = 4 ∧ c.t ≤ d.t) ∨ (d.k = 3 ∧ c.q = d.q ∧ c.t ≤ d.t) ∨ (d.k = 2 ∧ c.q = d.q ∧ c.t = d.t))
instance (d c : CT) : Decidable (HitC d c) := by unfold HitC; infer_instance
/-- A put that no cell of s tells to be gone, and that lives. -/
def letB (s : List CT) (life now : Int) (c : CT) : Bool := decide (c.k = 1 ∧ (∀ d ∈ s, ¬ HitC d c) ∧ livesM life now c.t = true)
/-- How many such puts of x's column there are in p. -/
def cntB (s : List CT) (life now : Int) (p : List CT) (x : CT) : Nat := (p.filter (fun e => letB s life now e && decide (colC x e))).length
/-- How many such puts of c's column stand ahead of it. -/
def rankN (s : List CT) (life now : Int) (c : CT) : Nat := cntB s life now (s.filter (fun d => decide (CT.cmp d c < 0))) c
def seeB (s : List CT) (ver life now : Int) (c : CT) : Bool := letB s life now c && decide ((rankN s life now c : Int) < ver)

theorem pre_fam {d a x : CT} (hr : x.r = d.r) (hf : x.f = d.f) (h1 : CT.cmp d a ≤ 0) (h2 : CT.cmp a x ≤ 0) : x.r = a.r ∧ x.f = a.f ∧ rankC d.k ≤ rankC a.k ∧ rankC a.k ≤ rankC x.k := by
  rw [cmp_lex] at h1 h2
  obtain ⟨r1, h1⟩ := lex_le h1
  obtain ⟨r2, h2⟩ := lex_le h2
  rw [hr] at r2
  have er : d.r = a.r := ba_between r1 r2
  have h1 := h1 (by rw [er]; exact cmpB_self _)
  have h2 := h2 (by rw [hr, er]; exact cmpB_self _)
  obtain ⟨f1, h1⟩ := lex_le h1
  obtain ⟨f2, h2⟩ := lex_le h2
  rw [hf] at f2
  have ef : d.f = a.f := ba_between f1 f2
  have h1 := h1 (by rw [ef]; exact cmpB_self _)
  have h2 := h2 (by rw [hf, ef]; exact cmpB_self _)
  obtain ⟨k1, h1⟩ := lex_le h1
  obtain ⟨k2, h2⟩ := lex_le h2
  exact ⟨hr.trans er, hf.trans ef, int_le k1, int_le k2⟩
theorem rank_four (k : Int) : rankC k ≤ 1 ∧ 0 ≤ rankC k ∧ (rankC k = 1 ↔ k ≠ 4) := by
  unfold rankC
  split
  · exact ⟨by omega, by omega, (fun h => by omega), (fun h => absurd ‹k = 4› h)⟩
  · exact ⟨by omega, by omega, (fun _ => by assumption), (fun _ => rfl)⟩
/-- In a column what isn't a family's stands by time. -/
theorem pre_time {d x : CT} (h : colC x d) (hd : d.k ≠ 4) (h1 : CT.cmp d x ≤ 0) : x.k ≠ 4 ∧ x.t ≤ d.t := by
  obtain ⟨hr, hf, hq⟩ := h
  rw [cmp_lex, hr, hf, hq, if_pos (cmpB_self _), if_pos (cmpB_self _)] at h1
  obtain ⟨k1, h1⟩ := lex_le h1
  have k1 := int_le k1
  have a1 := rank_four d.k
  have a2 := rank_four x.k
  have e1 := a1.2.2.2 hd
  have hx : x.k ≠ 4 := a2.2.2.1 (by omega)
  have h1 := h1 (by rw [show rankC x.k = rankC d.k by have := a2.2.2.2 hx; omega]; exact int_self _)
  rw [if_pos (cmpB_self _)] at h1
  obtain ⟨t1, _⟩ := lex_le h1
  have := int_le t1
  exact ⟨hx, by omega⟩
theorem pre_col {d a x : CT} (h : colC x d) (hd : d.k ≠ 4) (h1 : CT.cmp d a ≤ 0) (h2 : CT.cmp a x ≤ 0) : colC x a ∧ a.k ≠ 4 ∧ x.k ≠ 4 ∧ a.t ≤ d.t ∧ x.t ≤ a.t := by
  obtain ⟨er, ef, k1, k2⟩ := pre_fam h.1 h.2.1 h1 h2
  have a1 := rank_four d.k
  have a2 := rank_four a.k
  have a3 := rank_four x.k
  have e1 := a1.2.2.2 hd
  have ha : a.k ≠ 4 := a2.2.2.1 (by omega)
  have hx : x.k ≠ 4 := a3.2.2.1 (by omega)
  have ka := a2.2.2.2 ha
  have kx := a3.2.2.2 hx
  have hda : d.r = a.r ∧ d.f = a.f := ⟨h.1.symm.trans er, h.2.1.symm.trans ef⟩
  have eq : x.q = a.q := by
    have c1 := h1
    have c2 := h2
    rw [cmp_lex, hda.1, hda.2, if_pos (cmpB_self _), if_pos (cmpB_self _), show rankC d.k = rankC a.k by omega, if_pos (int_self _)] at c1
    rw [cmp_lex, er, ef, if_pos (cmpB_self _), if_pos (cmpB_self _), show rankC a.k = rankC x.k by omega, if_pos (int_self _)] at c2
    obtain ⟨q1, _⟩ := lex_le c1
    obtain ⟨q2, _⟩ := lex_le c2
    rw [h.2.2] at q2
    exact h.2.2.trans (ba_between q1 q2)
  have hc : colC x a := ⟨er, ef, eq⟩
  have hca : colC a d := ⟨er.symm.trans h.1, ef.symm.trans h.2.1, eq.symm.trans h.2.2⟩
  exact ⟨hc, ha, hx, (pre_time hca hd h1).2, (pre_time hc ha h2).2⟩
/-- What stands behind a put doesn't tell that it is gone. -/
theorem after_hit {x d : CT} (hx : x.k = 1) (h : CT.cmp x d < 0) : ¬ HitC d x := by
  rintro ⟨hr, hf, hh⟩
  rcases hh with ⟨k, _⟩ | ⟨k, hq, ht⟩ | ⟨k, hq, ht⟩
  · rw [cmp_lex, hr, hf, if_pos (cmpB_self _), if_pos (cmpB_self _), hx, k] at h
    have e : Lib.compareInt (rankC 1) (rankC 4) = 1 := by decide
    rw [e, if_neg (by decide)] at h
    omega
  · have h2 := (pre_time (d := x) (x := d) ⟨hr, hf, hq.symm⟩ (by omega) (by omega)).2
    rw [cmp_lex, hr, hf, hq, if_pos (cmpB_self _), if_pos (cmpB_self _), hx, k, show rankC 1 = rankC 3 by decide, if_pos (int_self _), if_pos (cmpB_self _), show x.t = d.t by omega, if_pos (int_self _)] at h
    revert h; decide
  · rw [cmp_lex, hr, hf, hq, if_pos (cmpB_self _), if_pos (cmpB_self _), hx, k, show rankC 1 = rankC 2 by decide, if_pos (int_self _), if_pos (cmpB_self _), ht, if_pos (int_self _)] at h
    revert h; decide

/-- How the sight, moved to x, stands to the cells p ahead of it. -/
structure PreS (s : List CT) (ver life now : Int) (p : List CT) (g : SG) (x : CT) : Prop where
  fam : ∀ t, 0 ≤ t → ((g.move x).fam < t ↔ ∀ d ∈ p, d.k = 4 → x.r = d.r → x.f = d.f → d.t < t)
  col : (g.move x).col = true ↔ ∃ d ∈ p, d.k = 3 ∧ colC x d
  cel : (g.move x).cell = -1 ∨ ∃ d ∈ p, d.k = 2 ∧ colC x d ∧ d.t = (g.move x).cell
  cel2 : ∀ d ∈ p, d.k = 2 → colC x d → d.t = x.t → (g.move x).cell = x.t
  seen : (g.move x).seen = min ver (cntB s life now p x)

theorem move_zero (x : CT) (hx : 1 ≤ x.r.data.toList.length) : SG.zero.move x = ⟨x, -1, false, -1, 0⟩ := by
  have h : x.r ≠ SG.zero.at'.r := fun e => by
    rw [e] at hx
    exact absurd hx (by decide)
  unfold SG.move
  rw [if_pos (.inl h)]
theorem pres_zero (s : List CT) (ver life now : Int) (hv : 1 ≤ ver) (x : CT) (hx : 1 ≤ x.r.data.toList.length) : PreS s ver life now [] SG.zero x := by
  have e := move_zero x hx
  constructor
  · intro t ht
    rw [e]
    exact ⟨(fun _ d hd => by cases hd), (fun _ => by show (-1 : Int) < t; omega)⟩
  · rw [e]
    exact ⟨(fun h => by cases h), (fun ⟨d, hd, _⟩ => by cases hd)⟩
  · rw [e]; exact .inl rfl
  · intro d hd; cases hd
  · rw [e]; show (0 : Int) = min ver (0 : Nat); omega

/-- The decision, in the document's words. -/
theorem pres_lets {s p m : List CT} {ver life now : Int} {g : SG} {x : CT} (h : PreS s ver life now p g x) (hs : s = p ++ x :: m) (hr : s.Pairwise (fun x y => CT.cmp x y < 0)) (ht : 0 ≤ x.t) :
    (g.lets x ver life now).2 = (letB s life now x && decide ((cntB s life now p x : Int) < ver)) := by
  by_cases k1 : x.k = 1
  · have hhas : (g.move x).has x.t = true ↔ ∀ d ∈ s, ¬ HitC d x := by
      rw [hs] at hr
      obtain ⟨r1, r2, r3⟩ := List.pairwise_append.1 hr
      have r4 := (List.pairwise_cons.1 r2).1
      have hb : ∀ d ∈ p, CT.cmp d x < 0 := fun d hd => r3 d hd x List.mem_cons_self
      unfold SG.has
      rw [Bool.and_eq_true, Bool.and_eq_true, Bool.not_eq_true', decide_eq_true_iff, decide_eq_true_iff]
      constructor
      · rintro ⟨c1, c2, c3⟩ d hd hh
        rw [hs] at hd
        rcases List.mem_append.1 hd with hd | hd
        · obtain ⟨er, ef, hh⟩ := hh
          rcases hh with ⟨k, q⟩ | ⟨k, q, _⟩ | ⟨k, q, qt⟩
          · have := (h.fam x.t ht).1 c2 d hd k er.symm ef.symm
            omega
          · have := h.col.2 ⟨d, hd, k, er.symm, ef.symm, q⟩
            rw [this] at c1; cases c1
          · exact c3 (h.cel2 d hd k ⟨er.symm, ef.symm, q⟩ qt.symm).symm
        · rcases List.mem_cons.1 hd with rfl | hd
          · obtain ⟨_, _, ⟨k, _⟩ | ⟨k, _⟩ | ⟨k, _⟩⟩ := hh <;> omega
          · exact after_hit k1 (r4 d hd) hh
      · intro hh
        refine ⟨?_, ?_, ?_⟩
        · cases e : (g.move x).col with
          | false => rfl
          | true =>
            obtain ⟨d, hd, k, c⟩ := h.col.1 e
            exact absurd ⟨c.1.symm, c.2.1.symm, .inr (.inl ⟨k, c.2.2, (pre_time c (by omega) (Int.le_of_lt (hb d hd))).2⟩)⟩ (hh d (by rw [hs]; exact List.mem_append_left _ hd))
        · refine (h.fam x.t ht).2 fun d hd k er ef => ?_
          false_or_by_contra
          rename_i q
          exact hh d (by rw [hs]; exact List.mem_append_left _ hd) ⟨er.symm, ef.symm, .inl ⟨k, by omega⟩⟩
        · intro e
          rcases h.cel with q | ⟨d, hd, k, c, q⟩
          · omega
          · exact hh d (by rw [hs]; exact List.mem_append_left _ hd) ⟨c.1.symm, c.2.1.symm, .inr (.inr ⟨k, c.2.2, by omega⟩)⟩
    have hsn : (g.move x).seen < ver ↔ (cntB s life now p x : Int) < ver := by rw [h.seen]; omega
    unfold SG.lets
    simp only
    rw [if_neg (by omega), if_neg (by omega), if_neg (by omega)]
    unfold letB
    by_cases q : x.k = 1 ∧ (g.move x).has x.t = true ∧ livesM life now x.t = true ∧ (g.move x).seen < ver
    · rw [if_pos q, decide_eq_true ⟨k1, hhas.1 q.2.1, q.2.2.1⟩, decide_eq_true (hsn.1 q.2.2.2)]
      rfl
    · rw [if_neg q]
      symm
      show _ = false
      rw [Bool.and_eq_false_iff]
      by_cases q2 : (cntB s life now p x : Int) < ver
      · exact .inl (decide_eq_false fun z => q ⟨k1, hhas.2 z.2.1, z.2.2, hsn.2 q2⟩)
      · exact .inr (decide_eq_false q2)
  · have e : letB s life now x = false := decide_eq_false fun z => k1 z.1
    rw [e, Bool.false_and]
    unfold SG.lets
    simp only
    split
    · rfl
    · split
      · rfl
      · split
        · rfl
        · rw [if_neg fun z => k1 z.1]

/-- Where the sight stands behind a cell. -/
theorem lets_parts (g : SG) (a : CT) (ver life now : Int) :
    (g.lets a ver life now).1.at' = a ∧ (g.lets a ver life now).1.fam = (if a.k = 4 then max (g.move a).fam a.t else (g.move a).fam) ∧ (g.lets a ver life now).1.col = ((g.move a).col || decide (a.k = 3)) ∧
    (g.lets a ver life now).1.cell = (if a.k = 2 then a.t else (g.move a).cell) ∧ (g.lets a ver life now).1.seen = (if (g.lets a ver life now).2 = true then IntKind.i64.wrap ((g.move a).seen + 1) else (g.move a).seen) := by
  have hm := (move_seen g a).1
  unfold SG.lets
  simp only
  by_cases k4 : a.k = 4
  · rw [if_pos k4, if_pos k4, if_neg (by omega)]
    exact ⟨hm, rfl, by rw [decide_eq_false (by omega), Bool.or_false], rfl, rfl⟩
  · rw [if_neg k4, if_neg k4]
    by_cases k3 : a.k = 3
    · rw [if_pos k3, if_neg (by omega)]
      exact ⟨hm, rfl, by rw [decide_eq_true k3, Bool.or_true], rfl, rfl⟩
    · rw [if_neg k3, decide_eq_false k3, Bool.or_false]
      by_cases k2 : a.k = 2
      · rw [if_pos k2, if_pos k2]
        exact ⟨hm, rfl, rfl, rfl, rfl⟩
      · rw [if_neg k2, if_neg k2]
        split
        · exact ⟨hm, rfl, rfl, rfl, rfl⟩
        · exact ⟨hm, rfl, rfl, rfl, rfl⟩

theorem cnt_snoc (s : List CT) (life now : Int) (p : List CT) (a x : CT) : cntB s life now (p ++ [a]) x = cntB s life now p x + (if letB s life now a = true ∧ colC x a then 1 else 0) := by
  unfold cntB
  rw [List.filter_append, List.length_append, List.filter_cons, List.filter_nil]
  by_cases h : letB s life now a = true ∧ colC x a
  · rw [if_pos h, if_pos (by rw [h.1, decide_eq_true h.2]; rfl)]
    rfl
  · rw [if_neg h, if_neg (by rw [Bool.and_eq_true, decide_eq_true_iff]; exact h)]
    rfl
theorem cnt_col (s : List CT) (life now : Int) (p : List CT) (a x : CT) (h : colC x a) : cntB s life now p x = cntB s life now p a := by
  unfold cntB
  congr 2
  funext e
  congr 1
  apply decide_eq_decide.2
  exact ⟨(fun q => ⟨h.1.symm.trans q.1, h.2.1.symm.trans q.2.1, h.2.2.symm.trans q.2.2⟩), (fun q => ⟨h.1.trans q.1, h.2.1.trans q.2.1, h.2.2.trans q.2.2⟩)⟩
theorem cnt_zero (s : List CT) (life now : Int) (p : List CT) (x : CT) (h : ∀ e ∈ p, e.k = 1 → ¬ colC x e) : cntB s life now p x = 0 := by
  unfold cntB
  rw [List.filter_eq_nil_iff.2]
  · rfl
  · intro e he q
    rw [Bool.and_eq_true, decide_eq_true_iff] at q
    exact h e he (of_decide_eq_true q.1).1 q.2

/-- One cell on. -/
theorem pres_step {s p m : List CT} {ver life now : Int} {g : SG} {a : CT} (hv : 1 ≤ ver) (h8 : ver ≤ 8) (h : PreS s ver life now p g a) (hs : s = p ++ a :: m) (hr : s.Pairwise (fun x y => CT.cmp x y < 0)) (ht : 0 ≤ a.t) (x : CT) (hx : x ∈ m) :
    PreS s ver life now (p ++ [a]) (g.lets a ver life now).1 x := by
  have hl := pres_lets h hs hr ht
  obtain ⟨g1, g2, g3, g4, g5⟩ := lets_parts g a ver life now
  rw [hs] at hr
  obtain ⟨r1, r2, r3⟩ := List.pairwise_append.1 hr
  have hax : CT.cmp a x < 0 := (List.pairwise_cons.1 r2).1 x hx
  have hle : ∀ d ∈ p ++ [a], CT.cmp d a ≤ 0 := fun d hd => by
    rcases List.mem_append.1 hd with hd | hd
    · exact Int.le_of_lt (r3 d hd a List.mem_cons_self)
    · rcases List.mem_singleton.1 hd with rfl
      rw [ct_c3.zero]; omega
  have pf : ∀ d ∈ p ++ [a], x.r = d.r → x.f = d.f → x.r = a.r ∧ x.f = a.f := fun d hd e1 e2 =>
    have := pre_fam e1 e2 (hle d hd) (Int.le_of_lt hax)
    ⟨this.1, this.2.1⟩
  have pc : ∀ d ∈ p ++ [a], colC x d → d.k ≠ 4 → colC x a ∧ a.k ≠ 4 ∧ x.k ≠ 4 ∧ a.t ≤ d.t ∧ x.t ≤ a.t := fun d hd c k => pre_col c k (hle d hd) (Int.le_of_lt hax)
  have F : x.r = a.r → x.f = a.f → ∀ t, 0 ≤ t → ((g.lets a ver life now).1.fam < t ↔ ∀ d ∈ p ++ [a], d.k = 4 → x.r = d.r → x.f = d.f → d.t < t) := by
    intro er ef t ht0
    rw [g2]
    have hf := h.fam t ht0
    constructor
    · intro q d hd k e1 e2
      rcases List.mem_append.1 hd with hd | hd
      · exact hf.1 (by split at q <;> omega) d hd k (er.symm.trans e1) (ef.symm.trans e2)
      · rcases List.mem_singleton.1 hd with rfl
        rw [if_pos k] at q; omega
    · intro q
      have q1 := hf.2 fun d hd k e1 e2 => q d (List.mem_append_left _ hd) k (er.trans e1) (ef.trans e2)
      split
      · rename_i k
        have := q a (List.mem_append_right _ (List.mem_singleton.2 rfl)) k er ef
        omega
      · exact q1
  generalize (g.lets a ver life now).1 = G at *
  obtain ⟨ga, gf, gc, ge, gs⟩ := G
  simp only at g1 g2 g3 g4 g5 F
  subst g1
  by_cases c1 : x.r ≠ ga.r ∨ x.f ≠ ga.f
  · have e : SG.move ⟨ga, gf, gc, ge, gs⟩ x = ⟨x, -1, false, -1, 0⟩ := by unfold SG.move; rw [if_pos c1]
    have no : ∀ d ∈ p ++ [ga], x.r = d.r → x.f = d.f → False := fun d hd e1 e2 => by
      have := pf d hd e1 e2
      rcases c1 with c | c
      · exact c this.1
      · exact c this.2
    constructor
    · intro t ht0
      rw [e]
      exact ⟨(fun _ d hd _ e1 e2 => (no d hd e1 e2).elim), (fun _ => by show (-1 : Int) < t; omega)⟩
    · rw [e]
      exact ⟨(fun z => by cases z), (fun ⟨d, hd, _, c⟩ => (no d hd c.1 c.2.1).elim)⟩
    · rw [e]; exact .inl rfl
    · intro d hd _ c
      exact (no d hd c.1 c.2.1).elim
    · rw [e, cnt_zero s life now _ x fun d hd _ c => no d hd c.1 c.2.1]
      show (0 : Int) = min ver (0 : Nat); omega
  · have er : x.r = ga.r := by false_or_by_contra; rename_i q; exact c1 (.inl q)
    have ef : x.f = ga.f := by false_or_by_contra; rename_i q; exact c1 (.inr q)
    by_cases c2 : x.q ≠ ga.q
    · have e : SG.move ⟨ga, gf, gc, ge, gs⟩ x = ⟨x, gf, false, -1, 0⟩ := by unfold SG.move; rw [if_neg c1, if_pos c2]
      have no : ∀ d ∈ p ++ [ga], d.k ≠ 4 → colC x d → False := fun d hd k c => c2 (pc d hd c k).1.2.2
      constructor
      · rw [e]; exact F er ef
      · rw [e]
        exact ⟨(fun z => by cases z), (fun ⟨d, hd, k, c⟩ => (no d hd (by omega) c).elim)⟩
      · rw [e]; exact .inl rfl
      · intro d hd k c
        exact (no d hd (by omega) c).elim
      · rw [e, cnt_zero s life now _ x fun d hd k c => no d hd (by omega) c]
        show (0 : Int) = min ver (0 : Nat); omega
    · have eq : x.q = ga.q := by false_or_by_contra; rename_i q; exact c2 q
      have e : SG.move ⟨ga, gf, gc, ge, gs⟩ x = ⟨x, gf, gc, ge, gs⟩ := by unfold SG.move; rw [if_neg c1, if_neg c2]
      have hc : colC x ga := ⟨er, ef, eq⟩
      have cc : ∀ d, colC x d → colC ga d := fun d q => ⟨er.symm.trans q.1, ef.symm.trans q.2.1, eq.symm.trans q.2.2⟩
      have cc2 : ∀ d, colC ga d → colC x d := fun d q => ⟨er.trans q.1, ef.trans q.2.1, eq.trans q.2.2⟩
      have la : ga ∈ p ++ [ga] := List.mem_append_right _ (List.mem_singleton.2 rfl)
      constructor
      · rw [e]; exact F er ef
      · rw [e]
        show gc = true ↔ _
        rw [g3, Bool.or_eq_true, decide_eq_true_iff, h.col]
        constructor
        · rintro (⟨d, hd, k, c⟩ | k)
          · exact ⟨d, List.mem_append_left _ hd, k, cc2 d c⟩
          · exact ⟨ga, la, k, hc⟩
        · rintro ⟨d, hd, k, c⟩
          rcases List.mem_append.1 hd with hd | hd
          · exact .inl ⟨d, hd, k, cc d c⟩
          · rcases List.mem_singleton.1 hd with rfl
            exact .inr k
      · rw [e]
        show ge = -1 ∨ ∃ d ∈ p ++ [ga], d.k = 2 ∧ colC x d ∧ d.t = ge
        rw [g4]
        split
        · rename_i k
          exact .inr ⟨ga, la, k, hc, rfl⟩
        · rcases h.cel with q | ⟨d, hd, k, c, q⟩
          · exact .inl q
          · exact .inr ⟨d, List.mem_append_left _ hd, k, cc2 d c, q⟩
      · intro d hd k c q
        rw [e]
        show ge = x.t
        obtain ⟨_, _, _, t1, t2⟩ := pc d hd c (by omega)
        rw [g4]
        split
        · omega
        · rename_i k2
          rcases List.mem_append.1 hd with hd | hd
          · have := h.cel2 d hd k (cc d c) (by omega)
            omega
          · rcases List.mem_singleton.1 hd with rfl
            exact absurd k k2
      · rw [e]
        show gs = _
        rw [g5, cnt_snoc, cnt_col s life now p ga x hc, h.seen, hl]
        by_cases b1 : letB s life now ga = true
        · have b0 : letB s life now ga = true ∧ colC x ga := ⟨b1, hc⟩
          rw [if_pos b0, b1, Bool.true_and]
          by_cases b2 : (cntB s life now p ga : Int) < ver
          · rw [if_pos (decide_eq_true b2), IntKind.wrap_i64]
            omega
          · rw [if_neg (by rw [decide_eq_true_iff]; exact b2)]
            omega
        · have b0 : ¬ (letB s life now ga = true ∧ colC x ga) := fun z => b1 z.1
          have b2 : letB s life now ga = false := by simpa using b1
          rw [if_neg b0, b2, Bool.false_and, if_neg (by decide)]
          omega

theorem rise_before {s p m : List CT} {c : CT} (hs : s = p ++ c :: m) (hr : s.Pairwise (fun x y => CT.cmp x y < 0)) : s.filter (fun d => decide (CT.cmp d c < 0)) = p := by
  subst hs
  obtain ⟨r1, r2, r3⟩ := List.pairwise_append.1 hr
  rw [List.filter_append, List.filter_eq_self.2 (fun d hd => decide_eq_true (r3 d hd c List.mem_cons_self)), List.filter_eq_nil_iff.2, List.append_nil]
  intro d hd q
  have q := of_decide_eq_true q
  rcases List.mem_cons.1 hd with rfl | hd
  · rw [ct_c3.zero] at q; omega
  · have := (List.pairwise_cons.1 r2).1 d hd
    have := ct_c3.anti c d
    omega
theorem seenF_go {s : List CT} {ver life now : Int} (hv : 1 ≤ ver) (h8 : ver ≤ 8) (hr : s.Pairwise (fun x y => CT.cmp x y < 0)) (hok : ∀ c ∈ s, 0 ≤ c.t) :
    ∀ (m p : List CT) (g : SG), s = p ++ m → (∀ x ∈ m, PreS s ver life now p g x) → seenF ver life now g m = m.filter (seeB s ver life now)
  | [], _, _, _, _ => rfl
  | a :: m, p, g, hs, hp => by
    have ht : 0 ≤ a.t := hok a (by rw [hs]; simp)
    have h := hp a List.mem_cons_self
    have hl := pres_lets h hs hr ht
    have ih := seenF_go hv h8 hr hok m (p ++ [a]) (g.lets a ver life now).1 (by rw [hs]; simp) (fun x hx => pres_step hv h8 h hs hr ht x hx)
    have e : seeB s ver life now a = (g.lets a ver life now).2 := by
      rw [hl]
      unfold seeB rankN
      rw [rise_before hs hr]
    show (if (g.lets a ver life now).2 = true then a :: seenF ver life now (g.lets a ver life now).1 m else seenF ver life now (g.lets a ver life now).1 m) = _
    rw [ih, List.filter_cons, e]
theorem ok_parts {c : CT} (h : c.ok = true) : 1 ≤ c.r.data.toList.length ∧ 0 ≤ c.t ∧ c.t ≤ 1099511627776 := by
  unfold CT.ok cRight cHead at h
  simp only [Bool.and_eq_true, decide_eq_true_iff] at h
  omega
/-- What is to be seen of sorted cells. -/
theorem seenL_is {s : List CT} (ver life now : Int) (hr : s.Pairwise (fun x y => CT.cmp x y < 0)) (hok : ∀ c ∈ s, c.ok = true) : seenL ver life now s = if rightM ver life = true then s.filter (seeB s ver life now) else [] := by
  unfold seenL
  split
  · rename_i q
    unfold rightM at q
    simp only [Bool.and_eq_true, decide_eq_true_iff] at q
    exact seenF_go q.1 q.2.1 hr (fun c hc => (ok_parts (hok c hc)).2.1) s [] SG.zero rfl (fun x hx => pres_zero s ver life now q.1 x (ok_parts (hok x hx)).1)
  · rfl
end Go.Proofs.YtdjaofbjmnmlbaaDoor

/- (*mem.Mem).From: what its iterator hands to a loop. Conditions: the table stands. -/
namespace Go.Proofs.YtdjaofbjmnmlbaaDoor
open Go.RowKit Go.Shelf
attribute [local go_sem] Oper.semAt_some

/-- A whole row is stored, inside a fence. -/
theorem wpListIn_store_row {F : Fence} {n : Nat} {P : Program} {ops : Array Oper} {rest : List Oper} {o : Oper} {a : Act} {w : World} {Q : Exit → Act → World → Prop} (hgd : o.guard = none) (ty : TypeId) (x y : Operand) (ho : o.op = .store ty x y)
    (g : Nat) (cells : Array Value) (hx : a.eval x = .pointer (some ⟨g, 0, none⟩)) (hy : a.eval y = .agg cells)
    (t : TypeId) (old : Array Value) (hg : w.heap[g]? = some (.cells old t (0, 0))) (hi : (P.info? ty).map (·.size) = some cells.size)
    (hold : old.size = cells.size) (h1 : cells.all (·.oneCell') = true)
    (h : wpListIn F n P ops Q rest (a.put o.dst undef) (w.setRow g cells)) : wpListIn F n P ops Q (o :: rest) a w := by
  refine wpListIn_plain hgd fun K hK' => ?_
  unfold Oper.wpIn
  refine ⟨?_, ?_⟩
  · simp [Oper.about, ho]
  · rw [Oper.semAt_plain F _ _ (by rw [ho]; intro c hc'; cases hc')]
    simp only [execOp, ho, hx, hy, Instr.storeAt, Instr.sureAddr, Sem.run_bind, Sem.run_pure, Result.andThen_ok, run_storeVar_row w g t ty old cells hg hi hold h1]
    exact hK' _ _ h

theorem wpListIn_ltc {F : Fence} {n : Nat} {P : Program} {ops : Array Oper} {rest : List Oper} {a : Act} {w : World} {Q : Exit → Act → World → Prop} (Fp : World → Prop) (h0 : Fp w) (h : ∀ W, Fp W → wpListIn F n P ops Q rest a W) : wpListIn F n P ops Q rest a w := h w h0

/-- What is told from a cell's place on. -/
def fromL (l : List CT) (c : CT) : List CT := l.filter (fun x => !decide (CT.cmp x c < 0))
/-- How many nodes stand from the one that v points to on; none behind nil. -/
def leftO (L : List Nd) : Value → Nat
  | .pointer none => 0
  | v => leftN L v

set_option maxRecDepth 100000 in
set_option maxHeartbeats 4000000 in
theorem from1_in (n : Nat) (hn : 1 ≤ n) (i Bm Bc mb n₀ B : Nat) (l : List CT) (c : CT) (w0 : World) (hM : MemOf w0 B mb l) (hn0 : w0.heap.size = n₀) (J Jx : List CT → World → Prop)
    (hJd : ∀ s X Y, J s X → Below X.heap.size X Y → J s Y)
    (hY : ∀ pre x W, J pre W → pre.length < (fromL l c).length → YieldAt Fence.wide (n - 1) Tryd.prog i #[CT.v x] W fun e W' =>
      (e = .returned (.bool true) ∧ J (pre ++ [x]) W' ∧ Below n₀ W W') ∨ (e = .returned (.bool false) ∧ Jx (pre ++ [x]) W'))
    (W : World) (hW0 : Below n₀ w0 W) (hBm : Blk W Bm 52 #[.pointer (some ⟨mb, 0, none⟩)]) (hBc : Blk W Bc 28 c.e.toArray) (h0 : J [] W) :
    CallsIn Fence.wide n Tryd.prog 86 #[.func (.yield i) #[] #[], .pointer (some ⟨Bm, 0, none⟩), .pointer (some ⟨Bc, 0, none⟩)] W fun e W' => (∃ v, e = .returned v) ∧
      ((∃ ys, ys = fromL l c ∧ J ys W') ∨ (∃ pre, pre <+: fromL l c ∧ Jx pre W')) := by
  obtain ⟨hd, L, h⟩ := hM
  obtain ⟨P, Q, rfl, hP, hQ, ep, eq⟩ := h.part c
  have hMB : Hid (∀ W, Below n₀ w0 W → MemIs W B mb l hd (P ++ Q)) := fun W hb => h.below (by rw [hn0]; exact hb)
  have HFi : Hid (∀ W, Below n₀ w0 W → Calls Tryd.prog 81 #[.pointer (some ⟨mb, 0, none⟩), c.v] W fun e w' => ∃ xs : Array Value, e = .returned (.agg xs) ∧ xs.size = 32 ∧ (∀ j, j < 32 → xs[j]? = some (lastH hd P j).p) ∧ Below W.heap.size W w') := fun W hb => find_any mb hd P Q c B W ((hMB.out W hb).blk.cell 0) (hMB.out W hb).sk hP hQ
  have hi102 : (Tryd.prog.info? 107).map (·.size) = some 32 := by kernel_rfl
  have HFr : Hid (fromL l c = Q.map Nd.c) := eq.symm
  have HN0 := hid (h.sk.last0)
  have HDb := hid h.sk.db
  have HY : Hid (∀ pre x W, J pre W → pre.length < (fromL l c).length → YieldAt Fence.wide (n - 1) Tryd.prog i #[CT.v x] W fun e W' =>
      (e = .returned (.bool true) ∧ J (pre ++ [x]) W' ∧ Below n₀ W W') ∨ (e = .returned (.bool false) ∧ Jx (pre ++ [x]) W')) := hY
  have HJd := hid hJd
  have HW0 := hid hW0
  have HJ0 := hid h0
  have b0 : W.cell? ⟨Bm, 0, none⟩ = some (.pointer (some ⟨mb, 0, none⟩)) := hBm.cell 0
  have c0 : W.cell? ⟨Bc, 0, none⟩ = some (.string c.r) := hBc.cell 0
  have c1 : W.cell? ⟨Bc, 1, none⟩ = some (.string c.f) := hBc.cell 1
  have c2 : W.cell? ⟨Bc, 2, none⟩ = some (.string c.q) := hBc.cell 2
  have c3 : W.cell? ⟨Bc, 3, none⟩ = some (.int .i64 c.t) := hBc.cell 3
  have c4 : W.cell? ⟨Bc, 4, none⟩ = some (.int .i64 c.k) := hBc.cell 4
  have c5 : W.cell? ⟨Bc, 5, none⟩ = some (.int .i64 c.vk) := hBc.cell 5
  have c6 : W.cell? ⟨Bc, 6, none⟩ = some (.int .i64 c.vn) := hBc.cell 6
  have c7 : W.cell? ⟨Bc, 7, none⟩ = some (.string c.s) := hBc.cell 7
  clear hP hQ ep eq h hY hJd hW0 h0 hBm hBc
  refine callsIn_of_wp Tryd.func86 rfl trivial ?_ rfl
  simp only [Tryd.ntmps86, List.size_toArray, List.length_cons, List.length_nil, Nat.reduceAdd, Nat.reduceSub, Array.replicate_succ, Array.replicate_zero, List.push_toArray, List.append_toArray, List.nil_append, List.cons_append]
  have HSt : Hid (∀ (W1 : World), Below n₀ w0 W1 → W1.cell? ⟨(lastH hd P 0).b, 8, none⟩ = some (.slice (some ⟨(lastH hd P 0).g, 0, none⟩) (lastH hd P 0).h (lastH hd P 0).cap) ∧ W1.cell? ⟨(lastH hd P 0).g, 0, none⟩ = some (nx Q 0)) := fun W1 hb => by
    have hN := (hMB.out W1 hb).sk.at0
    exact ⟨hN.words.2.2.2.2.2.2.2.2, hN.at HN0.out.2⟩
  have hn0z : (0 : Int) < ((lastH hd P 0).h : Int) := by have := HN0.out.2; omega
  obtain ⟨u, hu⟩ := nx_ptr Q 0
  have HU := hid hu
  rw [hu] at HSt
  clear hu
  gi_wp2_with (first
    | (refine ⟨trivial, ?_⟩; gi_at_call 81; refine (callsIn_wide.2 (HFi.out _ HW0.out)).mono ?_; rintro e w6 ⟨xs, rfl, hxl, hxs, hb6⟩; have B6 := hid hb6; have HXs := hid hxs; have hone : xs.all (·.oneCell') = true := paths_one hxl hxs; clear hb6 hxs b0 c0 c1 c2 c3 c4 c5 c6 c7)
    | (refine wpListIn_store_row rfl 107 (.tmp 4) (.tmp 8) rfl w6.heap.size xs rfl rfl 107 (Array.replicate 32 (.pointer none)) (Blk.new w6 _ _) (by rw [hxl]; exact hi102) (by simp [hxl]) hone ?_; refine wpListIn_ltc (fun W1 => Hid (Blk W1 w6.heap.size 107 xs ∧ Below W.heap.size W W1)) ⟨setRow_heap _ _ (Array.replicate 32 (.pointer none)) _ _ (0, 0) (Blk.new w6 _ _), below_row (B6.out.trans ((below_new w6 _).mono B6.out.size)) B6.out.size⟩ (fun W1 H1 => ?_); have hs1 := HSt.out W1 (HW0.out.trans (H1.out.2.mono (by have := HW0.out.size; omega))); have a0 : W1.cell? ⟨w6.heap.size, 0, none⟩ = some (.pointer (some ⟨(lastH hd P 0).b, 0, none⟩)) := (H1.out.1.cell 0).trans (HXs.out 0 (by omega)); obtain ⟨x8, xg⟩ := hs1))
  have HJ1 : Hid (J [] W1) := HJd.out _ _ _ HJ0.out H1.out.2
  have HB1 : Hid (Below n₀ w0 W1) := HW0.out.trans (H1.out.2.mono (by have := HW0.out.size; omega))
  clear a0 x8 xg H1 HSt HFi B6 HXs hone HJ0 HW0 hxl
  gi_loopw [5] (fun vq wr => ∃ (pre rest : List Nd) (po : Option Addr), vq = .pointer po ∧ Hid (nx rest 0 = .pointer po) ∧ Hid (Q = pre ++ rest) ∧ Hid (J (pre.map Nd.c) wr ∧ Below n₀ w0 wr)) (fun vq _ => leftO (hd :: (P ++ Q)) vq)
  case atStart => exact ⟨[], Q, u, rfl, HU.out, rfl, HJ1.out, HB1.out⟩
  case round =>
    clear HJ1 HB1
    obtain ⟨pre, rest, po, rfl, HP, HQ, HJ⟩ := hrel
    cases rest with
    | nil =>
      have hp : po = none := by have := HP.out; injection this with this; exact this.symm
      subst hp
      gi_wp2
      go_end0
      exact ⟨⟨_, rfl⟩, .inl ⟨pre.map Nd.c, by rw [HFr.out, HQ.out]; simp, HJ.out.1⟩⟩
    | cons q rest =>
      have hsk := (hMB.out wr HJ.out.2).sk
      have hq1 : 1 ≤ q.h := (hsk.hs q (by rw [HQ.out]; simp)).1
      have hp : po = some ⟨q.b, 0, none⟩ := by
        have h1 := HP.out
        rw [show nx (q :: rest) 0 = q.p from if_pos (by omega)] at h1
        injection h1 with h1
        exact h1.symm
      subst hp
      have HNd : Hid (∀ W', Below n₀ w0 W' → NdAt W' B q rest) := fun W' hb => by
        have h1 := (hMB.out W' hb).sk.ch
        have e : hd :: (P ++ Q) = (hd :: (P ++ pre)) ++ q :: rest := by rw [HQ.out]; simp
        rw [e] at h1
        exact h1.at
      obtain ⟨y0, y1, y2, y3, y4, y5, y6, y7, _⟩ := (HNd.out wr HJ.out.2).words
      obtain ⟨fn, tmps, assign, body, hy, hR⟩ := HY.out _ q.c wr HJ.out.1 (by rw [HFr.out, HQ.out]; simp)
      have HM : Hid (leftO (hd :: (P ++ Q)) (nx rest 0) < leftO (hd :: (P ++ Q)) (.pointer (some ⟨q.b, 0, none⟩))) := by
        have hdb := HDb.out
        have e1 : hd :: (P ++ Q) = (hd :: (P ++ pre)) ++ q :: rest := by rw [HQ.out]; simp
        have l1 : leftO (hd :: (P ++ Q)) (.pointer (some ⟨q.b, 0, none⟩)) = rest.length + 1 := by
          show leftN _ _ = _
          rw [e1] at hdb ⊢
          exact leftN_at hdb
        unfold Hid
        rw [l1]
        cases rest with
        | nil => show 0 < _; omega
        | cons z rest =>
          have hz1 : 1 ≤ z.h := (hsk.hs z (by rw [HQ.out]; simp)).1
          rw [show nx (z :: rest) 0 = z.p from if_pos (by omega)]
          have e2 : hd :: (P ++ Q) = (hd :: (P ++ (pre ++ [q]))) ++ z :: rest := by rw [HQ.out]; simp
          have l2 : leftO (hd :: (P ++ Q)) z.p = rest.length + 1 := by
            show leftN _ _ = _
            rw [e2] at hdb ⊢
            exact leftN_at hdb
          rw [l2]
          simp
      have hq0z : (0 : Int) < (q.h : Int) := by omega
      obtain ⟨po2, hpo2⟩ := nx_ptr rest 0
      rw [hpo2] at HM
      have HP2 := hid hpo2
      have HQ1 := hid hq1
      clear hsk hq1 hpo2
      gi_wp2
      refine hR.mono ?_
      rintro e W3 (⟨rfl, hJ3, hk3⟩ | ⟨rfl, hJx3⟩)
      · have hb3 : Below n₀ w0 W3 := HJ.out.2.trans hk3
        have hN3 := HNd.out W3 hb3
        have q8 : W3.cell? ⟨q.b, 8, none⟩ = some (.slice (some ⟨q.g, 0, none⟩) q.h q.cap) := hN3.words.2.2.2.2.2.2.2.2
        have qg : W3.cell? ⟨q.g, 0, none⟩ = some (.pointer po2) := (hN3.at HQ1.out).trans (by rw [HP2.out])
        have HJ3 := hid hJ3
        have HB3 := hid hb3
        clear hJ3 hk3 hb3 hN3 hR hy y0 y1 y2 y3 y4 y5 y6 y7
        gi_wp2
        go_roundw
        case rel => exact ⟨pre ++ [q], rest, po2, rfl, HP2.out, hid (by rw [HQ.out]; simp), by rw [List.map_append]; exact HJ3.out, HB3.out⟩
        case measure => exact HM.out
      · have HJx := hid hJx3
        clear hJx3 hR hy y0 y1 y2 y3 y4 y5 y6 y7
        gi_wp2
        refine bodyPost_ret (results_none rfl _ _ _) rfl ?_
        refine ⟨⟨_, rfl⟩, .inr ⟨pre.map Nd.c ++ [q.c], ?_, HJx.out⟩⟩
        rw [HFr.out, HQ.out]
        exact ⟨rest.map Nd.c, by simp⟩

/-- (*mem.Mem).From: both arguments are boxed; the closure holds the boxes. -/
theorem from_in (n mb : Nat) (c : CT) (w : World) :
    CallsIn Fence.wide n Tryd.prog 45 #[.pointer (some ⟨mb, 0, none⟩), c.v] w fun e w' => e = .returned (.func (.func 86) #[] #[.pointer (some ⟨w.heap.size, 0, none⟩), .pointer (some ⟨w.heap.size + 1, 0, none⟩)]) ∧ w' = (w.alloc (.cells #[.pointer (some ⟨mb, 0, none⟩)] 52)).alloc (.cells c.e.toArray 28) := by
  refine callsIn_of_wp Tryd.func45 rfl trivial ?_ rfl
  simp only [Tryd.ntmps45, List.size_toArray, List.length_cons, List.length_nil, Nat.reduceAdd, Nat.reduceSub, Array.replicate_succ, Array.replicate_zero, List.push_toArray, List.append_toArray, List.nil_append, List.cons_append]
  gi_wp2
  go_ret
  exact ⟨rfl, rfl⟩
/-- (*mem.Mem).All: from the noughts on. -/
theorem all_in (n mb : Nat) (w : World) :
    CallsIn Fence.wide n Tryd.prog 85 #[.pointer (some ⟨mb, 0, none⟩)] w fun e w' => e = .returned (.func (.func 86) #[] #[.pointer (some ⟨w.heap.size, 0, none⟩), .pointer (some ⟨w.heap.size + 1, 0, none⟩)]) ∧ w' = (w.alloc (.cells #[.pointer (some ⟨mb, 0, none⟩)] 52)).alloc (.cells (default : CT).e.toArray 28) := by
  have HF := hid (from_in (n - 1) mb default w)
  refine callsIn_of_wp Tryd.func85 rfl trivial ?_ rfl
  simp only [Tryd.ntmps85, List.size_toArray, List.length_cons, List.length_nil, Nat.reduceAdd, Nat.reduceSub, Array.replicate_succ, Array.replicate_zero, List.push_toArray, List.append_toArray, List.nil_append, List.cons_append]
  gi_wp2_with (refine ⟨trivial, (fun q => by cases q), ?_⟩; gi_at_call 45; refine HF.out.mono ?_; rintro e w5 ⟨rfl, rfl⟩)
  go_ret
  exact ⟨rfl, rfl⟩
theorem from_stops (n : Nat) (hn : 1 ≤ n) (Bm Bc mb n₀ B : Nat) (l : List CT) (c : CT) (w0 w : World) (hM : MemOf w0 B mb l) (hn0 : w0.heap.size = n₀) (hw : Below n₀ w0 w) (hBm : Blk w Bm 52 #[.pointer (some ⟨mb, 0, none⟩)]) (hBc : Blk w Bc 28 c.e.toArray) :
    SeqStopsK Fence.wide n Tryd.prog 86 #[.pointer (some ⟨Bm, 0, none⟩), .pointer (some ⟨Bc, 0, none⟩)] (fun x : CT => #[CT.v x]) (Below n₀) (fun ys => ys = fromL l c) (fun pre => pre <+: fromL l c) (fromL l c).length w := fun i J Jx W hW hJ _ hY h0 =>
  from1_in n hn i Bm Bc mb n₀ B l c w0 hM hn0 J Jx (fun s X Y hs hb => hJ s X Y none hs ⟨hb.os, hb.tape, hb.output, hb.size, fun k hk _ => hb.block k hk⟩ (fun r e => by cases e)) hY W (hw.trans (hW.mono (by have := hw.size; omega))) (hBm.keep hW hBm.lt) (hBc.keep hW hBc.lt) h0
/-- From the noughts on all right cells are told. -/
theorem fromL_all {l : List CT} (h : ∀ c ∈ l, c.ok = true) : fromL l default = l := by
  refine List.filter_eq_self.2 fun x hx => ?_
  have hr := (ok_parts (h x hx)).1
  rw [Bool.not_eq_true', decide_eq_false_iff_not]
  intro z
  rw [cmp_lex] at z
  have h1 := (lex_le (Int.le_of_lt z)).1
  have h2 : Lib.compareBytes x.r.data.toList (default : CT).r.data.toList = 1 := by
    cases hd : x.r.data.toList with
    | nil => rw [hd] at hr; simp at hr
    | cons a t => rfl
  omega
end Go.Proofs.YtdjaofbjmnmlbaaDoor

/- joistlaw07.all: all cells of a table, as the iterator tells them. Conditions: the table stands, with a hundred thousand cells at most. -/
namespace Go.Proofs.YtdjaofbjmnmlbaaDoor
open Go.RowKit Go.Shelf
attribute [local go_sem] Oper.semAt_some

/-- append of one cell to a row of the call's own, inside a fence. -/
theorem wpListIn_append_cell {F : Fence} {n : Nat} {ops : Array Oper} {rest : List Oper} {o : Oper} {a : Act} {Q : Exit → Act → World → Prop} (hgd : o.guard = Option.none) (s x : Operand)
    (ho : o.op = .call { callee := .builtin .append, args := #[s, x], argTypes := #[39, 39] })
    (w : World) (base : Nat) (v : Value) (l : List CT) (hs : a.eval s = v) (hown : CRow w base v l)
    (G : Nat) (m : Nat) (hx : a.eval x = .slice (some ⟨G, 0, Option.none⟩) 1 m) (y : CT) (hc : ∀ j u, y.e[j]? = some u → w.cell? ((⟨G, 0, Option.none⟩ : Addr).add j) = some u)
    (hlen : l.length ≤ 100000) (hbase : base ≤ w.heap.size)
    (h : ∀ g cap w', w'.ownsRow base 28 8 (.slice (some ⟨g, 0, none⟩) (l.length + 1) cap) (l.length + 1) (flatC (l ++ [y])) → w.grownBy w' v.ownBlock → wpListIn F n Tryd.prog ops Q rest (a.put o.dst (.slice (some ⟨g, 0, none⟩) (l.length + 1) cap)) w') : wpListIn F n Tryd.prog ops Q (o :: rest) a w := by
  obtain ⟨i0, hi, hz0, hz1, hz2⟩ := info_parts info_cell
  refine wpListIn_append_own w hgd s x 39 ho base 28 i0 _ 8 96 Tryd.underlying39 hi hz0 hz1 hz2 rfl (by decide) v l.length (flatC l) hs hown ⟨G, 0, Option.none⟩ 1 m y.e hx (CT.e_len y) hc y.e_one (by unfold maxLen; omega) (by omega) hbase ?_
  intro v' w' h1 h2 _
  obtain ⟨g, cap, rfl⟩ := ownsRow_succ h1
  refine h g cap w' ?_ h2
  rw [flatC_app, flatC_one]
  exact h1

theorem wpIn_ltc {F : Fence} {n : Nat} {P : Program} {c : Code} {Q : Exit → Act → World → Prop} {a : Act} {w : World} (Fp : World → Prop) (h0 : Fp w) (h : ∀ W, Fp W → c.wpIn F n P Q a W) : c.wpIn F n P Q a w := h w h0
theorem blk_own {X Y : World} {row : Option Nat} {B : Nat} {T : TypeId} {xs : Array Value} (h : Blk X B T xs) (hg : X.grownBy Y row) (hr : ∀ r, row = some r → ∃ o : Obj, X.heap[r]? = some o ∧ o.isCells = false) : Blk Y B T xs := by
  refine (hg.block B h.lt fun e => ?_).trans h
  obtain ⟨o, ho, hc⟩ := hr B e.symm
  unfold Blk at h
  rw [h] at ho
  cases ho
  cases hc

set_option maxRecDepth 100000 in
set_option maxHeartbeats 4000000 in
theorem allC_in (n : Nat) (hn : 3 ≤ n) (mb B : Nat) (l : List CT) (hlen : l.length ≤ 100000) (hlo : ∀ c ∈ l, c.ok = true) (w : World) (hM : MemOf w B mb l) :
    CallsIn Fence.wide n Tryd.prog 40 #[.pointer (some ⟨mb, 0, none⟩)] w fun e w' => ∃ v, e = .returned v ∧ CRow w' w.heap.size v l ∧ Below w.heap.size w w' := by
  have h1 : 1 ≤ n := by omega
  have hFa := fromL_all hlo
  refine callsIn_of_wp_marks Tryd.func40 rfl trivial ?_ rfl
  simp only [Tryd.ntmps40, List.size_toArray, List.length_cons, List.length_nil, Nat.reduceAdd, Nat.reduceSub, Array.replicate_succ, Array.replicate_zero, List.push_toArray, List.append_toArray, List.nil_append, List.cons_append]
  gi_wp2_with (refine ⟨trivial, ?_⟩; gi_at_call 85; refine (all_in (n - 1) mb _).mono ?_; rintro e w' ⟨rfl, rfl⟩)
  obtain ⟨S, hS⟩ : ∃ S, w.heap.size = S := ⟨_, rfl⟩
  have hW0 : Hid (Boxed ((((w.alloc (.cells #[] 28)).alloc (.cells #[.slice (some ⟨w.heap.size, 0, none⟩) 0 0] 39)).alloc (.cells #[.pointer (some ⟨mb, 0, none⟩)] 52)).alloc (.cells (default : CT).e.toArray 28)) (w.heap.size + 1) 39 (.slice (some ⟨w.heap.size, 0, none⟩) 0 0) ∧ CRow ((((w.alloc (.cells #[] 28)).alloc (.cells #[.slice (some ⟨w.heap.size, 0, none⟩) 0 0] 39)).alloc (.cells #[.pointer (some ⟨mb, 0, none⟩)] 52)).alloc (.cells (default : CT).e.toArray 28)) w.heap.size (.slice (some ⟨w.heap.size, 0, none⟩) 0 0) [] ∧
      Blk ((((w.alloc (.cells #[] 28)).alloc (.cells #[.slice (some ⟨w.heap.size, 0, none⟩) 0 0] 39)).alloc (.cells #[.pointer (some ⟨mb, 0, none⟩)] 52)).alloc (.cells (default : CT).e.toArray 28)) (w.heap.size + 1 + 1) 52 #[.pointer (some ⟨mb, 0, none⟩)] ∧ Blk ((((w.alloc (.cells #[] 28)).alloc (.cells #[.slice (some ⟨w.heap.size, 0, none⟩) 0 0] 39)).alloc (.cells #[.pointer (some ⟨mb, 0, none⟩)] 52)).alloc (.cells (default : CT).e.toArray 28)) (w.heap.size + 1 + 1 + 1) 28 (default : CT).e.toArray ∧
      Below w.heap.size w ((((w.alloc (.cells #[] 28)).alloc (.cells #[.slice (some ⟨w.heap.size, 0, none⟩) 0 0] 39)).alloc (.cells #[.pointer (some ⟨mb, 0, none⟩)] 52)).alloc (.cells (default : CT).e.toArray 28)) ∧ ((((w.alloc (.cells #[] 28)).alloc (.cells #[.slice (some ⟨w.heap.size, 0, none⟩) 0 0] 39)).alloc (.cells #[.pointer (some ⟨mb, 0, none⟩)] 52)).alloc (.cells (default : CT).e.toArray 28)).heap.size = w.heap.size + 1 + 1 + 1 + 1) := by
    have k0 := empty_crow w w.heap.size (Nat.le_refl _)
    have b1 := Boxed.new (w.alloc (.cells #[] 28)) 39 (.slice (some ⟨w.heap.size, 0, none⟩) 0 0)
    have k2 := Blk.new ((w.alloc (.cells #[] 28)).alloc (.cells #[.slice (some ⟨w.heap.size, 0, none⟩) 0 0] 39)) 52 #[.pointer (some ⟨mb, 0, none⟩)]
    have k3 := Blk.new (((w.alloc (.cells #[] 28)).alloc (.cells #[.slice (some ⟨w.heap.size, 0, none⟩) 0 0] 39)).alloc (.cells #[.pointer (some ⟨mb, 0, none⟩)] 52)) 28 (default : CT).e.toArray
    have n3 := below_new (((w.alloc (.cells #[] 28)).alloc (.cells #[.slice (some ⟨w.heap.size, 0, none⟩) 0 0] 39)).alloc (.cells #[.pointer (some ⟨mb, 0, none⟩)] 52)) (.cells (default : CT).e.toArray 28)
    simp only [World.size_alloc] at b1 k2 k3 n3
    refine ⟨(b1.alloc _).alloc _, ((k0.alloc _).alloc _).alloc _, k2.keep n3 (by omega), k3, ?_, by simp only [World.size_alloc]⟩
    exact (((below_new w _).alloc (by simp) _).alloc (by simp; omega) _).alloc (by simp; omega) _
  refine wpIn_ltc (fun W0 => Hid (Boxed W0 (w.heap.size + 1) 39 (.slice (some ⟨w.heap.size, 0, none⟩) 0 0) ∧ CRow W0 w.heap.size (.slice (some ⟨w.heap.size, 0, none⟩) 0 0) [] ∧ Blk W0 (w.heap.size + 1 + 1) 52 #[.pointer (some ⟨mb, 0, none⟩)] ∧ Blk W0 (w.heap.size + 1 + 1 + 1) 28 (default : CT).e.toArray ∧ Below w.heap.size w W0 ∧ W0.heap.size = w.heap.size + 1 + 1 + 1 + 1)) hW0 (fun W0 HW => ?_)
  clear hW0
  obtain ⟨bO, rO, bM, bC, hB0, hsz⟩ := HW.out
  rw [hS] at bO rO bM bC hB0 hsz ⊢
  refine wpIn_rangeFunc_ownH rfl h1 (gf := 86) (lb := #[.pointer (some ⟨S + 1 + 1, 0, none⟩), .pointer (some ⟨S + 1 + 1 + 1, 0, none⟩)]) rfl trivial (enters_of Tryd.func86 (by kernel_rfl) rfl)
    (from_stops (n - 1) (by omega) (S + 1 + 1) (S + 1 + 1 + 1) mb S B l default w W0 hM hS hB0 bM bC) belowK_t (belowK_b (by omega)) (Below.refl _ _) (fun _ => rfl)
    (fun pre W => (∃ v, Boxed W (S + 1) 39 v ∧ W.ownsRow S 28 8 v pre.length (flatC pre) ∧ True) ∧ Below S w W)
    (fun _ _ _ => False)
    (OwnFrom.and (Own.from (holdsRow_own S (S + 1) 39 28 8 (fun pre : List CT => pre.length) (fun pre => flatC pre) (fun _ _ => True)) _) (ownFrom_below (by omega) (by omega)))
    (fun _ _ _ _ _ hs _ _ => hs)
    ⟨⟨_, bO, rO, trivial⟩, hB0⟩
    (fun x a' W => ∃ Bx, S + 1 < Bx ∧ Blk W Bx 28 x.e.toArray ∧ a' = { tmps := #[.pointer (some ⟨mb, 0, none⟩), undef, .slice none 0 0, .pointer (some ⟨S + 1, 0, none⟩), .pointer (some ⟨Bx, 0, none⟩), .slice (some ⟨S, 0, none⟩) 0 0, .pointer (some ⟨mb, 0, none⟩), .func (.func 86) #[] #[.pointer (some ⟨S + 1 + 1, 0, none⟩), .pointer (some ⟨S + 1 + 1 + 1, 0, none⟩)], CT.v x, undef, undef, undef, undef, undef], defers := [] })
    (fun x a' _ X Y row hs hg hr => by obtain ⟨Bx, h1, h2, h3⟩ := hs; exact ⟨Bx, h1, blk_own h2 hg (fun r e => (hr r e).2), h3⟩)
    ?assign ?body ?done ?stop
  case assign =>
    rintro i pre x W K ⟨⟨v, hv, hrow, _⟩, hB⟩ hK
    gi_wp2
    have hz := hB.size
    have b := below_new W (.cells x.e.toArray 28)
    exact hK _ _ ((KeepsOthers.alloc _ _).from _) ((Below.refl _ W).alloc (by omega) _) ⟨⟨v, hv.alloc _, hrow.alloc _, trivial⟩, hB.alloc (by omega) _⟩ ⟨W.heap.size, hv.lt, Blk.new W _ _, rfl⟩
  case body =>
    rintro i pre x a' W hl ⟨r, hr⟩ ⟨⟨v, hv, hrow, _⟩, hB⟩ ⟨Bx, hBx, bX, rfl⟩ hlt
    have hc := hv.cell
    have hz := hB.size
    rw [hFa] at hlt
    have lbx := bX.lt
    have x0 : W.cell? ⟨Bx, 0, none⟩ = some (.string x.r) := bX.cell 0
    have x1 : W.cell? ⟨Bx, 1, none⟩ = some (.string x.f) := bX.cell 1
    have x2 : W.cell? ⟨Bx, 2, none⟩ = some (.string x.q) := bX.cell 2
    have x3 : W.cell? ⟨Bx, 3, none⟩ = some (.int .i64 x.t) := bX.cell 3
    have x4 : W.cell? ⟨Bx, 4, none⟩ = some (.int .i64 x.k) := bX.cell 4
    have x5 : W.cell? ⟨Bx, 5, none⟩ = some (.int .i64 x.vk) := bX.cell 5
    have x6 : W.cell? ⟨Bx, 6, none⟩ = some (.int .i64 x.vn) := bX.cell 6
    have x7 : W.cell? ⟨Bx, 7, none⟩ = some (.string x.s) := bX.cell 7
    gi_wp2_with (gi_at_builtin; refine wpListIn_append_cell rfl (.tmp 9) (.tmp 11) rfl _ S _ pre rfl (hrow.alloc _) W.heap.size 1 rfl x (ct_new x _ _) (by omega) (by simp; omega) ?_; intro g' cap' w1 hown' hgrow; obtain ⟨hv1, hv2, hr2, hk2, hb2⟩ := hv.appended (by decide) hrow (by omega) (by omega) hown' hgrow; have hc1 := hv1.cell; have hf1 := hv1.frozen)
    exact ⟨hk2.from _, hb2, ⟨⟨_, hv2, by simpa using hr2, trivial⟩, hB.trans hb2⟩⟩
  case done =>
    rintro D ys W hD rfl ⟨⟨v, hv, hrow, _⟩, hB⟩ hK
    rw [hFa] at hrow
    have hc := hv.cell
    gi_wp2
    refine ⟨by simp, .inl ⟨_, _, rfl, run_takeDeferred hK, ?_⟩⟩
    exact ⟨_, results_tmp rfl _ _ _, v, rfl, by rw [hS]; exact ownsRow_putObj hrow _ hK rfl, by rw [hS]; exact hB.trans (belowK_b (w := W0) (by omega) W D _ _ hD hK rfl rfl)⟩
  case stop =>
    rintro D c pre W _ _ h _
    exact h.elim

/-- All cells of a table. -/
theorem allC_any (mb B : Nat) (l : List CT) (hlen : l.length ≤ 100000) (w : World) (hM : MemOf w B mb l) :
    Calls Tryd.prog 40 #[.pointer (some ⟨mb, 0, none⟩)] w fun e w' => ∃ v, e = .returned v ∧ CRow w' w.heap.size v l ∧ Below w.heap.size w w' := by
  have hM' := hM
  obtain ⟨hd, L, h⟩ := hM'
  exact callsIn_wide.1 (allC_in 5 (by omega) mb B l hlen (fun c hc => (h.ok c hc).1) w hM)
end Go.Proofs.YtdjaofbjmnmlbaaDoor

/- (*mem.Mem).Row: the cells of a row. Conditions: the table stands, with a hundred thousand cells at most. -/
namespace Go.Proofs.YtdjaofbjmnmlbaaDoor
open Go.RowKit Go.Shelf
attribute [local go_sem] Oper.semAt_some

/-- The place ahead of all that a row may have. -/
def rowC (row : ByteArray) : CT := ⟨row, ⟨#[]⟩, ⟨#[]⟩, 0, 0, 0, 0, ⟨#[]⟩⟩
def rowL (l : List CT) (row : ByteArray) : List CT := l.filter (fun x => decide (x.r = row))
theorem cmpB_nil (b : List UInt8) (h : 1 ≤ b.length) : Lib.compareBytes b [] = 1 := by
  cases b with
  | nil => simp at h
  | cons a t => rfl
theorem nameB_pos {f : List UInt8} (h : nameB f = true) : 1 ≤ f.length := by
  cases f with
  | nil => exact absurd h (by decide)
  | cons a t => simp
theorem row_place {x : CT} {row : ByteArray} (h : x.ok = true) : (x.r = row → 0 < CT.cmp x (rowC row)) ∧ (x.r ≠ row → (CT.cmp x (rowC row) < 0 ↔ Lib.compareBytes x.r.data.toList row.data.toList < 0) ∧ Lib.compareBytes x.r.data.toList row.data.toList ≠ 0) := by
  constructor
  · intro e
    rw [cmp_lex, e]
    have h1 : Lib.compareBytes (rowC row).r.data.toList (rowC row).r.data.toList = 0 := cmpB_self _
    rw [show Lib.compareBytes row.data.toList (rowC row).r.data.toList = 0 from h1, if_pos rfl]
    have h2 := cmpB_nil x.f.data.toList (nameB_pos (cright_parts h).2.2.1)
    rw [show Lib.compareBytes x.f.data.toList (rowC row).f.data.toList = 1 from h2, if_neg (by decide)]
    decide
  · intro e
    have hne : Lib.compareBytes x.r.data.toList row.data.toList ≠ 0 := fun z => e (ba_eq (cmpB_zero _ _ z))
    refine ⟨?_, hne⟩
    rw [cmp_lex, if_neg (show ¬ Lib.compareBytes x.r.data.toList (rowC row).r.data.toList = 0 from hne)]
    exact Iff.rfl
/-- Of the cells from there on those of the row come first. -/
theorem row_first {l : List CT} {row : ByteArray} (hr : l.Pairwise (fun x y => CT.cmp x y < 0)) (hok : ∀ c ∈ l, c.ok = true) : ∀ {p q : List CT}, fromL l (rowC row) = p ++ q → (∀ x ∈ p, x.r = row) → (q = [] ∨ ∃ x t, q = x :: t ∧ x.r ≠ row) → p = rowL l row := by
  intro p q e hp hq
  have e2 : rowL l row = (fromL l (rowC row)).filter (fun x => decide (x.r = row)) := by
    unfold rowL fromL
    rw [List.filter_filter]
    refine List.filter_congr fun x hx => ?_
    by_cases z : x.r = row
    · have := (row_place (row := row) (hok x hx)).1 z
      rw [decide_eq_true z, decide_eq_false (by omega)]; rfl
    · rw [decide_eq_false z, Bool.false_and]
  rw [e2, e, List.filter_append, List.filter_eq_self.2 (fun x hx => decide_eq_true (hp x hx))]
  have hq0 : q.filter (fun x => decide (x.r = row)) = [] := by
    rcases hq with rfl | ⟨x, t, rfl, hx⟩
    · rfl
    · have hfr : (fromL l (rowC row)).Pairwise (fun x y => CT.cmp x y < 0) := hr.filter _
      rw [e] at hfr
      have hxt := (List.pairwise_append.1 hfr).2.1
      have hin : ∀ y ∈ x :: t, y ∈ l ∧ ¬ CT.cmp y (rowC row) < 0 := fun y hy => by
        have : y ∈ fromL l (rowC row) := by rw [e]; exact List.mem_append_right _ hy
        have h1 := List.mem_filter.1 this
        refine ⟨h1.1, fun z => ?_⟩
        have h2 := h1.2
        rw [decide_eq_true z] at h2
        cases h2
      have hx1 := hin x List.mem_cons_self
      have hx2 := (row_place (row := row) (hok x hx1.1)).2 hx
      refine List.filter_eq_nil_iff.2 fun y hy => ?_
      rw [decide_eq_true_iff]
      intro ey
      rcases List.mem_cons.1 hy with rfl | hy
      · exact hx ey
      · have h3 := (List.pairwise_cons.1 hxt).1 y hy
        rw [cmp_lex, ey] at h3
        have h4 := (lex_le (Int.le_of_lt h3)).1
        have h5 : ¬ Lib.compareBytes x.r.data.toList row.data.toList < 0 := fun z => hx1.2 (hx2.1.2 z)
        have := hx2.2
        omega
  rw [hq0, List.append_nil]

/-- Behind the append and the store another box is as it was. -/
theorem boxed_other2 {W w1 : World} {n₀ B B' : Nat} {t e t' : TypeId} {size : Nat} {v u w' : Value} {k : Nat} {xs : List Value} {tmp : Obj}
    (h : Boxed W B' t' u) (hne : B' ≠ B) (hte : t' ≠ e) (_ : t ≠ e) (hrow : W.ownsRow n₀ e size v k xs) (hgrow : (W.alloc tmp).grownBy w1 v.ownBlock) (_ : Boxed w1 B t w') (v' : Value) : Boxed (w1.setCell ⟨B, 0, none⟩ v') B' t' u :=
  ((h.alloc tmp).kept hgrow (h.not_row hte hrow)).other hne v'

set_option maxRecDepth 100000 in
set_option maxHeartbeats 4000000 in
theorem row_in (n : Nat) (hn : 3 ≤ n) (mb B : Nat) (l : List CT) (row : ByteArray) (hlen : l.length ≤ 100000) (w : World) (hM : MemOf w B mb l) :
    CallsIn Fence.wide n Tryd.prog 41 #[.pointer (some ⟨mb, 0, none⟩), .string row] w fun e w' => ∃ v, e = .returned v ∧ CRow w' w.heap.size v (rowL l row) ∧ Below w.heap.size w w' := by
  have h1 : 1 ≤ n := by omega
  have hM' := hM
  obtain ⟨hd, L, hI⟩ := hM'
  have HRf : Hid (∀ p q, fromL l (rowC row) = p ++ q → (∀ x ∈ p, x.r = row) → (q = [] ∨ ∃ x t, q = x :: t ∧ x.r ≠ row) → p = rowL l row) := fun p q => row_first hI.rise (fun c hc => (hI.ok c hc).1)
  have hfl : (fromL l (rowC row)).length ≤ l.length := List.length_filter_le _ _
  clear hI hd L
  refine callsIn_of_wp_marks Tryd.func41 rfl trivial ?_ rfl
  simp only [Tryd.ntmps41, List.size_toArray, List.length_cons, List.length_nil, Nat.reduceAdd, Nat.reduceSub, Array.replicate_succ, Array.replicate_zero, List.push_toArray, List.append_toArray, List.nil_append, List.cons_append]
  have HFi := hid (from_in (n - 1) mb (rowC row))
  gi_wp2_with (refine ⟨trivial, ?_⟩; gi_at_call 45; refine (HFi.out _).mono ?_; rintro e w' ⟨rfl, rfl⟩)
  obtain ⟨S, hS⟩ : ∃ S, w.heap.size = S := ⟨_, rfl⟩
  have hW0 : Hid (Boxed ((((w.alloc (.cells #[.string row] 9)).alloc (.cells #[.slice none 0 0] 39)).alloc (.cells #[.pointer (some ⟨mb, 0, none⟩)] 52)).alloc (.cells (rowC row).e.toArray 28)) (w.heap.size + 1) 39 (.slice none 0 0) ∧ Boxed ((((w.alloc (.cells #[.string row] 9)).alloc (.cells #[.slice none 0 0] 39)).alloc (.cells #[.pointer (some ⟨mb, 0, none⟩)] 52)).alloc (.cells (rowC row).e.toArray 28)) w.heap.size 9 (.string row) ∧
      Blk ((((w.alloc (.cells #[.string row] 9)).alloc (.cells #[.slice none 0 0] 39)).alloc (.cells #[.pointer (some ⟨mb, 0, none⟩)] 52)).alloc (.cells (rowC row).e.toArray 28)) (w.heap.size + 1 + 1) 52 #[.pointer (some ⟨mb, 0, none⟩)] ∧ Blk ((((w.alloc (.cells #[.string row] 9)).alloc (.cells #[.slice none 0 0] 39)).alloc (.cells #[.pointer (some ⟨mb, 0, none⟩)] 52)).alloc (.cells (rowC row).e.toArray 28)) (w.heap.size + 1 + 1 + 1) 28 (rowC row).e.toArray ∧
      Below w.heap.size w ((((w.alloc (.cells #[.string row] 9)).alloc (.cells #[.slice none 0 0] 39)).alloc (.cells #[.pointer (some ⟨mb, 0, none⟩)] 52)).alloc (.cells (rowC row).e.toArray 28)) ∧ ((((w.alloc (.cells #[.string row] 9)).alloc (.cells #[.slice none 0 0] 39)).alloc (.cells #[.pointer (some ⟨mb, 0, none⟩)] 52)).alloc (.cells (rowC row).e.toArray 28)).heap.size = w.heap.size + 1 + 1 + 1 + 1) := by
    have b0 := Boxed.new w 9 (.string row)
    have b1 := Boxed.new (w.alloc (.cells #[.string row] 9)) 39 (.slice none 0 0)
    have k2 := Blk.new ((w.alloc (.cells #[.string row] 9)).alloc (.cells #[.slice none 0 0] 39)) 52 #[.pointer (some ⟨mb, 0, none⟩)]
    have k3 := Blk.new (((w.alloc (.cells #[.string row] 9)).alloc (.cells #[.slice none 0 0] 39)).alloc (.cells #[.pointer (some ⟨mb, 0, none⟩)] 52)) 28 (rowC row).e.toArray
    have n3 := below_new (((w.alloc (.cells #[.string row] 9)).alloc (.cells #[.slice none 0 0] 39)).alloc (.cells #[.pointer (some ⟨mb, 0, none⟩)] 52)) (.cells (rowC row).e.toArray 28)
    simp only [World.size_alloc] at b1 k2 k3 n3
    refine ⟨(b1.alloc _).alloc _, ((b0.alloc _).alloc _).alloc _, k2.keep n3 (by omega), k3, ?_, by simp only [World.size_alloc]⟩
    exact (((below_new w _).alloc (by simp) _).alloc (by simp; omega) _).alloc (by simp; omega) _
  refine wpIn_ltc (fun W0 => Hid (Boxed W0 (w.heap.size + 1) 39 (.slice none 0 0) ∧ Boxed W0 w.heap.size 9 (.string row) ∧ Blk W0 (w.heap.size + 1 + 1) 52 #[.pointer (some ⟨mb, 0, none⟩)] ∧ Blk W0 (w.heap.size + 1 + 1 + 1) 28 (rowC row).e.toArray ∧ Below w.heap.size w W0 ∧ W0.heap.size = w.heap.size + 1 + 1 + 1 + 1)) hW0 (fun W0 HW => ?_)
  clear hW0 HFi
  obtain ⟨bO, bR, bM, bC, hB0, hsz⟩ := HW.out
  rw [hS] at bO bR bM bC hB0 hsz ⊢
  refine wpIn_rangeFunc_ownH rfl h1 (gf := 86) (lb := #[.pointer (some ⟨S + 1 + 1, 0, none⟩), .pointer (some ⟨S + 1 + 1 + 1, 0, none⟩)]) rfl trivial (enters_of Tryd.func86 (by kernel_rfl) rfl)
    (from_stops (n - 1) (by omega) (S + 1 + 1) (S + 1 + 1 + 1) mb S B l (rowC row) w W0 hM hS hB0 bM bC) belowK_t (belowK_b (by omega)) (Below.refl _ _) (fun _ => rfl)
    (fun pre W => ((∃ v, Boxed W (S + 1) 39 v ∧ W.ownsRow S 28 8 v pre.length (flatC pre) ∧ ∀ x ∈ pre, x.r = row) ∧ Boxed W S 9 (.string row)) ∧ Below S w W)
    (fun c pre W => (∃ v, Boxed W (S + 1) 39 v ∧ W.ownsRow S 28 8 v (pre.dropLast).length (flatC (pre.dropLast)) ∧ (c = .exit 0 ∧ (∀ x ∈ pre.dropLast, x.r = row) ∧ ∃ x, pre.getLast? = some x ∧ x.r ≠ row)) ∧ Below S w W)
    (OwnFrom.and (OwnFrom.and (Own.from (holdsRow_own S (S + 1) 39 28 8 (fun pre : List CT => pre.length) (fun pre => flatC pre) (fun pre _ => ∀ x ∈ pre, x.r = row)) _) (Own.from (boxed_own _ _ _) _)) (ownFrom_below (by omega) (by omega)))
    (fun c => OwnFrom.and (Own.from (holdsRow_own S (S + 1) 39 28 8 (fun pre : List CT => (pre.dropLast).length) (fun pre => flatC (pre.dropLast)) (fun pre _ => c = .exit 0 ∧ (∀ x ∈ pre.dropLast, x.r = row) ∧ ∃ x, pre.getLast? = some x ∧ x.r ≠ row)) _) (ownFrom_below (by omega) (by omega)))
    ⟨⟨⟨_, bO, World.ownsRow_nil _ _ _ _, fun x hx => by cases hx⟩, bR⟩, hB0⟩
    (fun x a' W => ∃ Bx, S + 1 < Bx ∧ Blk W Bx 28 x.e.toArray ∧ a' = { tmps := #[.pointer (some ⟨mb, 0, none⟩), .string row, undef, .pointer (some ⟨S, 0, none⟩), .slice none 0 0, .pointer (some ⟨S + 1, 0, none⟩), .pointer (some ⟨Bx, 0, none⟩), .pointer (some ⟨mb, 0, none⟩), .string row, .agg #[.string row, .string ⟨#[]⟩, .string ⟨#[]⟩, .int .i64 0, .int .i64 0, .int .i64 0, .int .i64 0, .string ⟨#[]⟩], .func (.func 86) #[] #[.pointer (some ⟨S + 1 + 1, 0, none⟩), .pointer (some ⟨S + 1 + 1 + 1, 0, none⟩)], CT.v x, undef, undef, undef, undef, undef, undef, undef, undef, undef], defers := [] })
    (fun x a' _ X Y row hs hg hr => by obtain ⟨Bx, h1, h2, h3⟩ := hs; exact ⟨Bx, h1, blk_own h2 hg (fun r e => (hr r e).2), h3⟩)
    ?assign ?body ?done ?stop
  case assign =>
    rintro i pre x W K ⟨⟨⟨v, hv, hrow, hp⟩, hbr⟩, hB⟩ hK
    gi_wp2
    have hz := hB.size
    exact hK _ _ ((KeepsOthers.alloc _ _).from _) ((Below.refl _ W).alloc (by omega) _) ⟨⟨⟨v, hv.alloc _, hrow.alloc _, hp⟩, hbr.alloc _⟩, hB.alloc (by omega) _⟩ ⟨W.heap.size, hv.lt, Blk.new W _ _, rfl⟩
  case body =>
    rintro i pre x a' W hl ⟨r, hr⟩ ⟨⟨⟨v, hv, hrow, hp⟩, hbr⟩, hB⟩ ⟨Bx, hBx, bX, rfl⟩ hlt
    have hc := hv.cell
    have hcr := hbr.cell
    have hz := hB.size
    have lbx := bX.lt
    have x0 : W.cell? ⟨Bx, 0, none⟩ = some (.string x.r) := bX.cell 0
    have x1 : W.cell? ⟨Bx, 1, none⟩ = some (.string x.f) := bX.cell 1
    have x2 : W.cell? ⟨Bx, 2, none⟩ = some (.string x.q) := bX.cell 2
    have x3 : W.cell? ⟨Bx, 3, none⟩ = some (.int .i64 x.t) := bX.cell 3
    have x4 : W.cell? ⟨Bx, 4, none⟩ = some (.int .i64 x.k) := bX.cell 4
    have x5 : W.cell? ⟨Bx, 5, none⟩ = some (.int .i64 x.vk) := bX.cell 5
    have x6 : W.cell? ⟨Bx, 6, none⟩ = some (.int .i64 x.vn) := bX.cell 6
    have x7 : W.cell? ⟨Bx, 7, none⟩ = some (.string x.s) := bX.cell 7
    have HP := hid hp
    clear hp
    by_cases e : x.r = row
    · have q1 : (x.r.toList == row.toList) = true := by rw [e]; simp
      have HEr := hid e
      clear e
      gi_wp2_with (gi_at_builtin; refine wpListIn_append_cell rfl (.tmp 16) (.tmp 18) rfl _ S v pre rfl (hrow.alloc _) W.heap.size 1 rfl x (ct_new x _ _) (by omega) (by simp; omega) ?_; intro g' cap' w1 hown' hgrow; obtain ⟨hv1, hv2, hr2, hk2, hb2⟩ := hv.appended (by decide) hrow (by omega) (by omega) hown' hgrow; have hc1 := hv1.cell; have hf1 := hv1.frozen; have hb1 := boxed_other2 hbr (by omega) (by decide) (by decide) hrow hgrow hv1)
      exact ⟨hk2.from _, hb2, ⟨⟨_, hv2, by simpa using hr2, fun y hy => by rcases List.mem_append.1 hy with hy | hy; exact HP.out y hy; exact (List.mem_singleton.1 hy) ▸ HEr.out⟩, hb1 _⟩, hB.trans hb2⟩
    · have q1 : (x.r.toList == row.toList) = false := ba_ne e
      have HEr := hid e
      clear e
      gi_wp2
      exact ⟨KeepsFrom.refl _ _, ⟨v, hv, by rw [List.dropLast_concat]; exact hrow, rfl, by rw [List.dropLast_concat]; exact HP.out, x, by simp, HEr.out⟩, hB⟩
  case done =>
    rintro D ys W hD rfl ⟨⟨⟨v, hv, hrow, hp⟩, hbr⟩, hB⟩ hK
    have hc := hv.cell
    have HE := hid (HRf.out _ [] (by simp) hp (.inl rfl))
    clear hp
    gi_wp2
    refine ⟨by simp, .inl ⟨_, _, rfl, run_takeDeferred hK, ?_⟩⟩
    exact ⟨_, results_tmp rfl _ _ _, v, rfl, by rw [hS, ← HE.out]; exact ownsRow_putObj hrow _ hK rfl, by rw [hS]; exact hB.trans (belowK_b (w := W0) (by omega) W D _ _ hD hK rfl rfl)⟩
  case stop =>
    rintro D c pre W hD hpre ⟨⟨v, hv, hrow, rfl, hp, x, hx, hxr⟩, hB⟩ hK
    have hc := hv.cell
    have HE : Hid (pre.dropLast = rowL l row) := by
      obtain ⟨t, ht⟩ := hpre
      have e1 : pre = pre.dropLast ++ [x] := by
        obtain ⟨ys, rfl⟩ := List.getLast?_eq_some_iff.1 hx
        rw [List.dropLast_concat]
      refine HRf.out _ (x :: t) ?_ hp (.inr ⟨x, t, rfl, hxr⟩)
      rw [← ht, e1]
      simp
    clear hp hx hxr hpre
    gi_wp2
    refine ⟨by simp, .inl ⟨_, _, rfl, run_takeDeferred hK, ?_⟩⟩
    exact ⟨_, results_tmp rfl _ _ _, v, rfl, by rw [hS, ← HE.out]; exact ownsRow_putObj hrow _ hK rfl, by rw [hS]; exact hB.trans (belowK_b (w := W0) (by omega) W D _ _ hD hK rfl rfl)⟩

/-- The cells of a row. -/
theorem row_any (mb B : Nat) (l : List CT) (row : ByteArray) (hlen : l.length ≤ 100000) (w : World) (hM : MemOf w B mb l) :
    Calls Tryd.prog 41 #[.pointer (some ⟨mb, 0, none⟩), .string row] w fun e w' => ∃ v, e = .returned v ∧ CRow w' w.heap.size v (rowL l row) ∧ Below w.heap.size w w' := callsIn_wide.1 (row_in 5 (by omega) mb B l row hlen w hM)
end Go.Proofs.YtdjaofbjmnmlbaaDoor
