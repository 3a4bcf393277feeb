/- slices.SortStableFunc by codec.Order at every row of cells of the call's own: the same cells in order, what is alike in the order in which it came. Conditions: a hundred thousand cells at most. -/
import Derived.Test.YtfcnobcpnhfgmaaDoorHB
namespace Go.Proofs.YtfcnobcpnhfgmaaDoor
open Go.Shelf Go.RowKit Go.Lib Go.Sort

/-- A cell and its tag, in the sort's words. -/
abbrev TT := CT × Nat
def teW (x : TT) : List Value := x.1.e
def tcF (x y : TT) : Int := CT.cmp x.1 y.1
theorem tc3 : C3 tcF := ⟨fun x y => ct_c3.anti x.1 y.1, fun x y z => ct_c3.tr x.1 y.1 z.1⟩

theorem flatC_K (d : Array TT) : (flatK teW 8 d).toList = flatC (d.toList.map Prod.fst) := by
  apply List.ext_getElem?
  intro t
  by_cases h : t < d.size * 8
  · have h8 : t / 8 < d.size := by omega
    have e : t = t / 8 * 8 + t % 8 := by omega
    have hl : t / 8 < (d.toList.map Prod.fst).length := by simpa using h8
    have h1 : (flatC (d.toList.map Prod.fst))[t]? = (d.toList.map Prod.fst)[t / 8].e[t % 8]? := by
      conv => lhs; rw [e]
      exact flatC_at _ _ _ hl (by omega)
    have hs : t < (flatK teW 8 d).size := by rw [size_flatK]; exact h
    rw [h1, Array.getElem?_toList, Array.getElem?_eq_getElem hs, ← getElem!_pos (flatK teW 8 d) t hs, get_flatK teW 8 d t h, getElem!_pos d (t / 8) h8]
    have e2 : (d.toList.map Prod.fst)[t / 8] = d[t / 8].1 := by simp
    rw [e2]
    have h3 : t % 8 < (teW d[t / 8]).length := by show t % 8 < 8; omega
    rw [getElem!_pos (teW d[t / 8]) (t % 8) h3]
    exact (List.getElem?_eq_getElem h3).symm
  · rw [List.getElem?_eq_none (by simp; omega), List.getElem?_eq_none (by rw [flatC_len]; simp; omega)]

theorem heap_put {w : World} {g n : Nat} {os : Array Obj} {cur : Array Value} {e : TypeId} {fr : Nat × Nat} (F : Array Value) (hb : w.heap[g]? = some (.cells cur e fr)) :
    (grow (putRow id (Sort.ahead w n) g 0 F) os).heap[g]? = some (.cells (putCells id 0 F cur) e fr) := by
  have hg : g < w.heap.size := (Array.getElem?_eq_some_iff.1 hb).1
  rw [heap_grow_old _ _ (by simpa using hg)]
  simp [putRow, mapBlock, Sort.ahead, Array.getElem?_modify, hb, onCells]
theorem below_put {w : World} {B g n : Nat} {os : Array Obj} (F : Array Value) (hB : B ≤ w.heap.size) (hg : B ≤ g) : Below B w (grow (putRow id (Sort.ahead w n) g 0 F) os) := by
  refine ⟨rfl, rfl, rfl, by simp, fun k hk => ?_⟩
  rw [heap_grow_old _ _ (by simp; omega)]
  have : g ≠ k := by omega
  simp [putRow, mapBlock, Sort.ahead, Array.getElem?_modify, this]
theorem take_put (cur F : Array Value) (h : F.size ≤ cur.size) : (putCells id 0 F cur).toList.take F.size = F.toList := by
  apply List.ext_getElem?
  intro j
  by_cases hj : j < F.size
  · rw [List.getElem?_take_of_lt hj, Array.getElem?_toList]
    simp [putCells, hj, show j < cur.size by omega]
  · rw [List.getElem?_take_eq_none (by omega), List.getElem?_eq_none (by simp; omega)]

theorem zip_size (l : List CT) : (l.zipIdx).toArray.size = l.length := by simp
theorem zip_at (l : List CT) (i : Nat) (h : i < l.length) : (l.zipIdx).toArray[i]! = (l[i], i) := by
  rw [getElem!_pos _ i (by simpa using h)]
  simp

/-- What the sort is told of a row of the call's own. -/
theorem crow_holds {w : World} {B g n c : Nat} {l : List CT} (h : CRow w B (.slice (some ⟨g, 0, none⟩) n c) l) : HoldsK teW 8 w g 0 (l.zipIdx).toArray := by
  intro j hj
  rw [size_flatK, zip_size] at hj
  have hc := h.hc (j / 8) (by omega) (j % 8) (by omega)
  rw [show 0 + j / 8 * 8 + j % 8 = 0 + j by omega] at hc
  rw [get_flatK teW 8 _ j (by rw [zip_size]; exact hj), zip_at l (j / 8) (by omega)]
  have h3 : j % 8 < (teW (l[j / 8], j / 8)).length := by show j % 8 < 8; omega
  refine ⟨?_, ?_⟩
  · rw [hc, getElem!_pos (teW (l[j / 8], j / 8)) (j % 8) h3]
    exact List.getElem?_eq_getElem h3
  · obtain ⟨_, h2⟩ := h
    rcases h2 with ⟨e, _⟩ | ⟨g', cap, cur, e, _, hh, _⟩
    · cases e
    · injection e with e1
      injection e1 with e1
      injection e1 with e1
      subst e1
      simp [World.frozen?, hh]

theorem order_lays (blk off size : Nat) (w : World) : CmpLays Tryd.prog 57 #[] teW 8 tcF blk off size w := fun _ _ _ _ x y =>
  corder_gr x.1.r x.1.f x.1.q x.1.s x.1.t x.1.k x.1.vk x.1.vn y.1.r y.1.f y.1.q y.1.s y.1.t y.1.k y.1.vk y.1.vn _

theorem order_enters : ∀ args w, (callFunc 57 args).run Tryd.prog w = .ok (.enter 57 args) w :=
  enters_of Tryd.func57 (by kernel_rfl) rfl

set_option maxHeartbeats 1000000 in
theorem ins_nil (w : World) : Calls Tryd.prog 161 #[.slice none 0 0, .int .i64 0, .int .i64 0, .func (.func 57) #[] #[]] w fun e w' => e = .returned (.tuple #[]) ∧ w' = w := by
  go_enter Tryd.func161, Tryd.ntmps161
  go_wp2
  go_loopg [8] 0 (fun _ vi wr => vi = .int .i64 1 ∧ wr = w)
  case atStart => exact ⟨rfl, rfl⟩
  case round =>
    obtain ⟨rfl, rfl⟩ := hrel
    go_wp2
    go_end0
    exact ⟨rfl, rfl⟩
set_option maxHeartbeats 1000000 in
theorem stable_nil (w : World) : Calls Tryd.prog 143 #[.slice none 0 0, .int .i64 0, .func (.func 57) #[] #[]] w fun e w' => e = .returned (.tuple #[]) ∧ w' = w := by
  have HI := hid ins_nil
  go_enter Tryd.func143, Tryd.ntmps143
  go_wp2
  go_loopg [7, 8] 0 (fun _ s7 s8 wr => s7 = .int .i64 0 ∧ s8 = .int .i64 20 ∧ wr = w)
  case atStart => exact ⟨rfl, rfl, rfl⟩
  case round =>
    obtain ⟨rfl, rfl, rfl⟩ := hrel
    go_wp2_with (go_at_call 161; refine (HI.out _).mono ?_; rintro e w1 ⟨rfl, rfl⟩)
    go_loopg [6, 7, 8, 9] 0 (fun _ s6 _ _ _ wx => s6 = .int .i64 20 ∧ wx = w1)
    case atStart => exact ⟨rfl, rfl⟩
    case round =>
      obtain ⟨rfl, rfl⟩ := hrel
      go_wp2
      go_end0
      exact ⟨rfl, rfl⟩

/-- What the stable sort of cells tells. -/
structure StbL (l : List CT) (l' : List TT) : Prop where
  perm : l'.Perm l.zipIdx
  sorted : l'.Pairwise (RT (ltOf tcF) Prod.snd)

theorem stable_top (B : Nat) (v : Value) (l : List CT) (hl : l.length ≤ 100000) (w : World) (h : CRow w B v l) (hB : B ≤ w.heap.size) :
    Calls Tryd.prog 143 #[v, .int .i64 (l.length : Int), .func (.func 57) #[] #[]] w fun e w' => e = .returned (.tuple #[]) ∧ ∃ l', StbL l l' ∧ CRow w' B v (l'.map Prod.fst) ∧ Below B w w' := by
  have h' := h
  rcases h.2 with ⟨e, hz⟩ | ⟨g, cap, cur, e, hBg, hb, h1, h2, h3, h4⟩
  · have e0 : l = [] := List.eq_nil_of_length_eq_zero hz
    subst e0 e
    exact (stable_nil w).mono fun e w' ⟨he, hw⟩ => ⟨he, [], ⟨List.Perm.refl _, List.Pairwise.nil⟩, by rw [hw]; exact h', by rw [hw]; exact Below.refl _ _⟩
  · subst e
    have hg : g < w.heap.size := (Array.getElem?_eq_some_iff.1 hb).1
    have hH := crow_holds h'
    have hcall := stable_any slp teW tcF Prod.snd 57 #[] g 0 cap (l.zipIdx).toArray w w order_enters (order_lays g 0 _ w) ⟨fun _ => rfl, fun x => x.1.e_one, hH, hg⟩ (SWK.start hH) (c3_swo tc3) (by rw [zip_size]; omega) (fun i hi => by rw [zip_size] at hi; rw [zip_at l i hi])
    rw [zip_size] at hcall
    refine hcall.mono fun e w' ⟨he, d', ⟨n, os, hw⟩, hp, hr⟩ => ⟨he, d'.toList, ⟨?_, ?_⟩, ?_, ?_⟩
    · have hq := hp.2.2
      have hs : d'.size = l.length := by rw [hp.1, zip_size]
      have e1 : d'.extract 0 l.length = d' := by rw [← hs]; exact Array.extract_size
      have e2 : (l.zipIdx).toArray.extract 0 l.length = (l.zipIdx).toArray := by
        have := Array.extract_size (xs := (l.zipIdx).toArray)
        rwa [zip_size] at this
      rwa [e1, e2] at hq
    · have hs : d'.size = l.length := by rw [hp.1, zip_size]
      rw [List.pairwise_iff_getElem]
      intro i j hi hj hij
      have := hr i j (Nat.zero_le _) hij (by simpa [hs] using hj)
      rwa [getElem!_pos d' i (by simpa using hi), getElem!_pos d' j (by simpa using hj)] at this
    · have hs : d'.size = l.length := by rw [hp.1, zip_size]
      have hf : (flatK teW 8 d').size = l.length * 8 := by rw [size_flatK, hs]
      unfold CRow
      rw [show (d'.toList.map Prod.fst).length = l.length by simp [hs]]
      refine ⟨by rw [flatC_len]; simp [hs], .inr ⟨g, cap, _, rfl, hBg, by rw [hw]; exact heap_put (flatK teW 8 d') hb, h1, h2, by simp [putCells, h3], ?_⟩⟩
      rw [← hf, take_put cur _ (by rw [hf, h3]; omega), flatC_K]
    · rw [hw]
      exact below_put _ hB hBg

set_option maxHeartbeats 1000000 in
theorem sortStable_any (B : Nat) (v : Value) (l : List CT) (hl : l.length ≤ 100000) (w : World) (h : CRow w B v l) (hB : B ≤ w.heap.size) :
    Calls Tryd.prog 121 #[v, .func (.func 57) #[] #[]] w fun e w' => e = .returned (.tuple #[]) ∧ ∃ l', StbL l l' ∧ CRow w' B v (l'.map Prod.fst) ∧ Below B w w' := by
  have HT := hid (stable_top B v l hl w h hB)
  obtain ⟨A, c, rfl, _⟩ := h.len
  clear h
  go_enter Tryd.func121, Tryd.ntmps121
  go_wp2_with (go_at_call 143; refine HT.out.mono ?_; rintro e w1 ⟨rfl, l', h1, h2, h3⟩)
  go_end0
  exact ⟨rfl, l', h1, h2, h3⟩
end Go.Proofs.YtfcnobcpnhfgmaaDoor
