/- cell.Seen and cell.Needed at every list of cells. Conditions: as cell.Sort's. -/
import Derived.Test.YtpjkhholpbfbpaaDoorHJ
namespace Go.Proofs.YtpjkhholpbfbpaaDoor
open Go.RowKit

/-- s is l sorted: of a list of cells the right ones in order, of each place the last one. -/
def SortOf (l s : List CT) : Prop := ∃ l', StbL (l.filter CT.ok) l' ∧ s = lastsM (l'.map Prod.fst)
theorem SortOf.len {l s : List CT} (h : SortOf l s) : s.length ≤ l.length := by
  obtain ⟨l', h1, rfl⟩ := h
  have h2 := lasts_len (l'.map Prod.fst)
  have h3 := h1.perm.length_eq
  have h4 := List.length_filter_le CT.ok l
  rw [List.length_map] at h2
  rw [List.length_zipIdx] at h3
  omega
theorem sort_any (v : Value) (l : List CT) (hl : l.length ≤ 100000) (w : World) (h : ClA w v l) (hok : ∀ c ∈ l, okC c) (hL : LaidU w) :
    Calls Tryd.prog 22 #[v] w fun e w' => ∃ v' s, e = .returned v' ∧ SortOf l s ∧ CRow w' w.heap.size v' s ∧ Below w.heap.size w w' :=
  (csort_any v l hl w h hok hL).mono fun _ _ ⟨v', l', h1, h2, h3, h4⟩ => ⟨v', _, h1, ⟨l', h2, rfl⟩, h3, h4⟩

set_option maxHeartbeats 1000000 in
theorem cseen_any (v : Value) (l : List CT) (hl : l.length ≤ 100000) (ver life now : Int) (w : World) (h : ClA w v l) (hok : ∀ c ∈ l, okC c) (hL : LaidU w) :
    Calls Tryd.prog 27 #[v, .int .i64 ver, .int .i64 life, .int .i64 now] w fun e w' => ∃ v' s, e = .returned v' ∧ SortOf l s ∧ CRow w' w.heap.size v' (seenL ver life now s) ∧ Below w.heap.size w w' := by
  have HS := hid (sort_any v l hl w h hok hL)
  have HSn : Hid (∀ (W : World) (v5 : Value) (s : List CT), SortOf l s → CRow W w.heap.size v5 s → Calls Tryd.prog 55 #[v5, .agg #[.int .i64 ver, .int .i64 life, .int .i64 now]] W fun e w' => ∃ v', e = .returned v' ∧ CRow w' W.heap.size v' (seenL ver life now s) ∧ Below W.heap.size W w') := fun W v5 s h1 h2 => seen_any v5 s (Nat.le_trans h1.len hl) ver life now W h2.cla
  clear h hok hL
  go_enter Tryd.func27, Tryd.ntmps27
  go_wp2_with (first
    | (go_at_call 22; refine HS.out.mono ?_; rintro e w5 ⟨v5, s5, rfl, hq5, hr5, hb5⟩)
    | (go_at_call 55; refine (HSn.out _ _ _ hq5 hr5).mono ?_; rintro e w6 ⟨v6, rfl, hr6, hb6⟩))
  go_ret
  exact ⟨_, s5, rfl, hq5, hr6.le hb5.size, hb5.trans (hb6.mono hb5.size)⟩

set_option maxHeartbeats 1000000 in
theorem cneeded_any (v : Value) (l : List CT) (hl : l.length ≤ 100000) (ver life now : Int) (w : World) (h : ClA w v l) (hok : ∀ c ∈ l, okC c) (hL : LaidU w) :
    Calls Tryd.prog 28 #[v, .int .i64 ver, .int .i64 life, .int .i64 now] w fun e w' => ∃ v' s, e = .returned v' ∧ SortOf l s ∧ CRow w' w.heap.size v' (seenL ver life now s) ∧ Below w.heap.size w w' := by
  have HS := hid (cseen_any v l hl ver life now w h hok hL)
  clear h hok hL
  go_enter Tryd.func28, Tryd.ntmps28
  go_wp2_with (go_at_call 27; refine HS.out.mono ?_; rintro e w5 ⟨v5, s5, rfl, hq5, hr5, hb5⟩)
  go_ret
  exact ⟨_, s5, rfl, hq5, hr5, hb5⟩
end Go.Proofs.YtpjkhholpbfbpaaDoor
