/- Cells sorted: one list alone is it; it rises; the statements' fixed cells, sorted. -/
import Derived.Test.YtpjkhholpbfbpaaDoorIA
import Derived.KernelRfl
namespace Go.Proofs.YtpjkhholpbfbpaaDoor
open Go.RowKit

theorem stbl_uniq {l : List CT} {l1 l2 : List TT} (h1 : StbL l l1) (h2 : StbL l l2) : l1 = l2 := by
  have hs : Sort.SWO (ltOf tcF) := c3_swo tc3
  refine List.Perm.eq_of_pairwise (le := RT (ltOf tcF) Prod.snd) (fun a b _ _ hab hba => ?_) h1.sorted h2.sorted (h1.perm.trans h2.perm.symm)
  exfalso
  rcases hab with hab | ⟨hab, ht⟩
  · rcases hba with hba | ⟨hba, _⟩
    · rw [swo_asym hs hab] at hba; cases hba
    · rw [hab] at hba; cases hba
  · rcases hba with hba | ⟨_, ht2⟩
    · rw [hab] at hba; cases hba
    · omega
theorem SortOf.uniq {l s t : List CT} (h1 : SortOf l s) (h2 : SortOf l t) : s = t := by
  obtain ⟨l1, a1, rfl⟩ := h1
  obtain ⟨l2, a2, rfl⟩ := h2
  rw [stbl_uniq a1 a2]

theorem lasts_mem : ∀ (l : List CT) (x : CT), x ∈ lastsM l → x ∈ l
  | [], _, h => h
  | [a], _, h => h
  | a :: b :: t, x, h => by
    have ih := lasts_mem (b :: t) x
    have h : x ∈ (if CT.cmp a b = 0 then lastsM (b :: t) else a :: lastsM (b :: t)) := h
    split at h
    · exact List.mem_cons_of_mem _ (ih h)
    · rcases List.mem_cons.1 h with rfl | h
      · exact List.mem_cons_self
      · exact List.mem_cons_of_mem _ (ih h)
theorem lasts_rise : ∀ l : List CT, l.Pairwise (fun x y => CT.cmp x y ≤ 0) → (lastsM l).Pairwise (fun x y => CT.cmp x y < 0)
  | [], _ => List.Pairwise.nil
  | [a], _ => List.pairwise_singleton _ _
  | a :: b :: t, h => by
    obtain ⟨h1, h2⟩ := List.pairwise_cons.1 h
    have ih := lasts_rise (b :: t) h2
    show (if CT.cmp a b = 0 then lastsM (b :: t) else a :: lastsM (b :: t)).Pairwise _
    split
    · exact ih
    · rename_i hne
      refine List.pairwise_cons.2 ⟨fun z hz => ?_, ih⟩
      have hab : CT.cmp a b < 0 := by have := h1 b List.mem_cons_self; omega
      have hz := lasts_mem _ _ hz
      rcases List.mem_cons.1 hz with rfl | hz
      · exact hab
      · exact ct_c3.lt_le hab ((List.pairwise_cons.1 h2).1 z hz)
theorem StbL.le {l : List CT} {l' : List TT} (h : StbL l l') : (l'.map Prod.fst).Pairwise (fun x y => CT.cmp x y ≤ 0) := by
  rw [List.pairwise_map]
  refine h.sorted.imp fun {a b} hab => ?_
  have hs : Sort.SWO (ltOf tcF) := c3_swo tc3
  have h0 := RT.le hs hab
  have h2 : ¬ tcF b a < 0 := by
    intro q
    have h1 : ltOf tcF b a = true := by simpa [ltOf] using q
    rw [h0] at h1
    cases h1
  have h3 := ct_c3.anti b.1 a.1
  have h4 : tcF b a = CT.cmp b.1 a.1 := rfl
  omega
/-- Sorted cells rise. -/
theorem SortOf.rise {l s : List CT} (h : SortOf l s) : s.Pairwise (fun x y => CT.cmp x y < 0) := by
  obtain ⟨l', h1, rfl⟩ := h
  exact lasts_rise _ h1.le
theorem SortOf.mem {l s : List CT} (h : SortOf l s) {c : CT} (hc : c ∈ s) : c ∈ l ∧ c.ok = true := by
  obtain ⟨l', h1, rfl⟩ := h
  have h2 := lasts_mem _ _ hc
  obtain ⟨p, hp, rfl⟩ := List.mem_map.1 h2
  have h3 := h1.perm.mem_iff.1 hp
  obtain ⟨x, i⟩ := p
  exact List.mem_filter.1 (List.fst_mem_of_mem_zipIdx h3)

def goneC : CT := ⟨⟨#[114]⟩, ⟨#[102]⟩, ⟨#[113]⟩, 3, 3, 0, 0, ⟨#[]⟩⟩
def fixedC : List CT := [putC 3, putC 4, goneC, putC 5]
def fixedT : List TT := [(putC 5, 3), (putC 4, 1), (goneC, 2), (putC 3, 0)]
theorem fixed_ok : fixedC.filter CT.ok = fixedC := by
  have h3 : (putC 3).ok = true := by kernel_rfl
  have h4 : (putC 4).ok = true := by kernel_rfl
  have h5 : (putC 5).ok = true := by kernel_rfl
  have hg : goneC.ok = true := by kernel_rfl
  simp [fixedC, h3, h4, h5, hg]
theorem fixed_stb : StbL (fixedC.filter CT.ok) fixedT := by
  rw [fixed_ok]
  constructor
  · show fixedT.Perm [(putC 3, 0), (putC 4, 1), (goneC, 2), (putC 5, 3)]
    exact ((List.reverse_perm [(putC 3, 0), (putC 4, 1), (goneC, 2), (putC 5, 3)]).symm.trans (List.Perm.cons _ (List.Perm.swap _ _ _))).symm
  · have a1 : ltOf tcF (putC 5, 3) (putC 4, 1) = true := by kernel_rfl
    have a2 : ltOf tcF (putC 5, 3) (goneC, 2) = true := by kernel_rfl
    have a3 : ltOf tcF (putC 5, 3) (putC 3, 0) = true := by kernel_rfl
    have a4 : ltOf tcF (putC 4, 1) (goneC, 2) = true := by kernel_rfl
    have a5 : ltOf tcF (putC 4, 1) (putC 3, 0) = true := by kernel_rfl
    have a6 : ltOf tcF (goneC, 2) (putC 3, 0) = true := by kernel_rfl
    simp [fixedT, RT, a1, a2, a3, a4, a5, a6]
theorem fixed_sort {s : List CT} (h : SortOf fixedC s) : s = [putC 5, putC 4, goneC, putC 3] := by
  rw [h.uniq ⟨fixedT, fixed_stb, rfl⟩]
  have a1 : CT.cmp (putC 5) (putC 4) = -1 := by kernel_rfl
  have a2 : CT.cmp (putC 4) goneC = -1 := by kernel_rfl
  have a3 : CT.cmp goneC (putC 3) = -1 := by kernel_rfl
  simp [fixedT, lastsM, a1, a2, a3]
def fixedS : List CT := [putC 5, putC 4, goneC, putC 3]
theorem fixed_seen1 : seenL 1 0 9 fixedS = [putC 5] := by kernel_rfl
theorem fixed_seen8 : (seenL 8 0 9 fixedS).length = 2 := by kernel_rfl
theorem fixed_seen3 : (seenL 8 3 8 fixedS).length = 0 := by kernel_rfl
theorem fixed_value : valueM ⟨#[102]⟩ ⟨#[113]⟩ fixedS (seenL 1 0 9 fixedS) = some (putC 5) := by kernel_rfl
theorem fixed_rows : (rowsL fixedC).length = 1 := by
  have e : (fixedC.map fun c => c.r.data.toList) = [[114], [114], [114], [114]] := by kernel_rfl
  unfold rowsL
  rw [e]
  have m : ([[114], [114], [114], [114]] : List (List UInt8)).mergeSort (fun x y => decide (x ≤ y)) = [[114], [114], [114], [114]] := by
    refine List.mergeSort_of_pairwise ?_
    decide
  rw [m]
  decide
end Go.Proofs.YtpjkhholpbfbpaaDoor
