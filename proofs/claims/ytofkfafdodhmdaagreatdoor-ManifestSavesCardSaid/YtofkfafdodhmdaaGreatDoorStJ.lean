/- (*store.Disk).Names. Conditions: the disk stands, with less than a million files. -/
import Derived.Test.YtofkfafdodhmdaaGreatDoorNL
namespace Go.Proofs.YtofkfafdodhmdaaGreatDoor
open Go.RowKit Go.Maps Go.Sort Go.Shelf

theorem sorts_in (m : Nat) : AnyZ.SortsIn Tryz.prog Tryz.sortedF_ren Fence.wide m :=
  ⟨fun blk off cap ss W hH hblk hsz => callsIn_wide.2 (AnyM.slices_Sort_string Tryz.sortS blk off cap ss W hH hblk hsz),
   fun p cap W => callsIn_wide.2 (AnyM.slices_Sort_string_none Tryz.sortS p cap W)⟩
theorem keys_in (mb : Option Nat) (W : World) : CallsIn Fence.wide 5 Tryz.prog 70 #[.map mb] W fun e w' => e = .returned (.func (.func 98) #[] #[.pointer (some ⟨W.heap.size, 0, none⟩)]) ∧ w' = W.alloc (.cells #[.map mb] 88) :=
  AnyZ.keys_in Tryz.keysF Fence.wide 5 trivial rfl mb W

set_option maxHeartbeats 1000000 in
theorem sorted_keys {H : Type} (b nn : Nat) (D0 : DataW H) (R : Value → Option (DataW H × List MemPlace)) (w : World) (hown : w.ownsMap Tryz.prog 9 R b nn D0) (hmax : Maps.size D0 ≤ maxLen) (hbytes : Maps.size D0 * 16 ≤ 140737488355328) :
    CallsIn Fence.wide 5 Tryz.prog 69 #[.func (.func 98) #[] #[.pointer (some ⟨w.heap.size, 0, none⟩)]] (w.alloc (.cells #[.map (some b)] 88)) fun e w' => ∃ (v : Value) (ss : List (List UInt8)), e = .returned v ∧ ss.Perm (strKeys D0) ∧
      w'.ownsRow (w.alloc (.cells #[.map (some b)] 88)).heap.size 9 1 v ss.length ((ss.mergeSort (fun x y => decide (x ≤ y))).map encStr) ∧ (v = .slice none 0 0 ↔ ss = []) ∧ Below (w.alloc (.cells #[.map (some b)] 88)).heap.size (w.alloc (.cells #[.map (some b)] 88)) w' := by
  have hbl := hown.lt
  have hseq : SeqGives Fence.wide 2 Tryz.prog 98 #[.pointer (some ⟨w.heap.size, 0, none⟩)] encStr (fun ss => ss.Perm (strKeys D0)) (Maps.size D0) (w.alloc (.cells #[.map (some b)] 88)) :=
    AnyZ.keys_gives (ρ := Tryz.keysF_ren) { Tryz.keysF with } Fence.wide _ trivial rfl (by omega) w.heap.size b nn D0 _ (by simp) (by simp) (by
      obtain ⟨es, clock, hb, Ft, hs, hD⟩ := hown
      exact ⟨es, clock, (Below.heap_alloc _ _ b hbl).trans hb, Ft, hs, hD⟩)
  exact AnyZ.sorted_in Tryz.sortedF Fence.wide 5 trivial trivial trivial trivial rfl (by omega) (sorts_in _) (enters_of Tryz.func97 (by kernel_rfl) rfl) 98 #[.pointer (some ⟨w.heap.size, 0, none⟩)] trivial (enters_of Tryz.func98 (by kernel_rfl) rfl) _ _ hmax hbytes _ hseq

theorem bytes_lt : ∀ (a b : List UInt8), bytesBefore a b = true → a < b
  | [], [], h => by cases h
  | [], _ :: _, _ => List.nil_lt_cons _ _
  | _ :: _, [], h => by cases h
  | a :: r, b :: s, h => by
    rw [List.cons_lt_cons_iff]
    unfold bytesBefore at h
    rw [Bool.or_eq_true, decide_eq_true_iff, Bool.and_eq_true, beq_iff_eq] at h
    rcases h with h | ⟨rfl, h⟩
    · exact .inl h
    · exact .inr ⟨rfl, bytes_lt r s h⟩
/-- A slice of texts in a row of the call's own. -/
abbrev SRowS (w : World) (B : Nat) (v : Value) (l : List ByteArray) : Prop := w.ownsRow B 9 1 v l.length (l.map Value.string)
theorem names_sorted {fs : List Fl} (h : Ris fs) {ss : List (List UInt8)} (hp : ss.Perm (strKeys (mapD fs))) : (ss.mergeSort (fun x y => decide (x ≤ y))).map encStr = (fs.map Fl.n).map Value.string ∧ ss.length = (fs.map Fl.n).length := by
  have e : strKeys (mapD fs) = fs.map fun f => f.n.data.toList := by
    unfold mapD strKeys
    show (fs.map Fl.ent).map _ = _
    rw [List.map_map]
    rfl
  rw [e] at hp
  have hs : (fs.map fun f => f.n.data.toList).Pairwise (fun a b => decide (a ≤ b) = true) := by
    refine List.pairwise_map.2 (h.imp fun {f g} q => ?_)
    rw [decide_eq_true_iff]
    exact List.le_of_lt (bytes_lt _ _ q)
  have e2 : ss.mergeSort (fun x y => decide (x ≤ y)) = fs.map fun f => f.n.data.toList := by
    have := mergeSort_of_perm hp
    rw [this]
    exact List.mergeSort_of_pairwise hs
  rw [e2]
  refine ⟨?_, by have := hp.length_eq; simpa using this⟩
  rw [List.map_map, List.map_map]
  refine List.map_congr_left fun f _ => ?_
  show Value.string ⟨f.n.data.toList.toArray⟩ = Value.string f.n
  simp

set_option maxHeartbeats 2000000 in
theorem names_ok {B db mb : Nat} {fs : List Fl} {z s u : Int} {w : World} (h : Dk w B db mb fs z s u) (hl : fs.length ≤ 1000000) : Calls Tryz.prog 33 #[.pointer (some ⟨db, 0, none⟩)] w fun e w' => ∃ v, e = .returned v ∧ SRowS w' w.heap.size v (fs.map Fl.n) ∧ Below w.heap.size w w' := by
  have m0 : w.cell? ⟨db, 0, none⟩ = some (.map (some mb)) := h.blk.cell 0
  have HS := hid (sorted_keys mb fs.length (mapD fs) Rp w h.map (by rw [mapD_size]; unfold maxLen; omega) (by rw [mapD_size]; omega))
  have HRi := hid h.ri
  clear h
  refine (callsIn_wide (n := 6)).1 ?_
  have hfK : Fence.wide.fn 70 := trivial
  have hfS : Fence.wide.fn 69 := trivial
  refine callsIn_of_wp Tryz.func33 rfl trivial ?_ rfl
  simp only [Tryz.ntmps33, List.size_toArray, List.length_cons, List.length_nil, Nat.reduceAdd, Nat.reduceSub, Array.replicate_succ, Array.replicate_zero, List.push_toArray, List.append_toArray, List.nil_append, List.cons_append]
  gi_wp2_with (first
    | (gi_at_call 70; refine (keys_in _ _).mono ?_; rintro e w' ⟨rfl, rfl⟩)
    | (gi_at_call 69; refine HS.out.mono ?_; rintro e w' ⟨v, ss, rfl, hS, hrow, hnil, hb⟩))
  go_ret
  obtain ⟨e1, e2⟩ := names_sorted HRi.out hS
  rw [e1, e2] at hrow
  exact ⟨v, rfl, ownsRow_base_a hrow (by simp), ((Below.refl _ w).alloc (Nat.le_refl _) _).trans (hb.mono (by simp))⟩
end Go.Proofs.YtofkfafdodhmdaaGreatDoor
