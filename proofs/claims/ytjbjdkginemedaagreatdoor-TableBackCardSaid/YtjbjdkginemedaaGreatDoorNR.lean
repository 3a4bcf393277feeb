/- Layer 8's laws: what they have in common; how long a block's bytes are. Conditions: as each theorem names them. -/
import Derived.Test.YtjbjdkginemedaaGreatDoorNQ
import Derived.Test.YtjbjdkginemedaaGreatDoorNO
import Derived.Test.YtjbjdkginemedaaGreatDoorIF
namespace Go.Proofs.YtjbjdkginemedaaGreatDoor
open Go.RowKit

theorem bc_tight {c : CT} (h : Bc c) : (keyL c).length ≤ 100 ∧ (valL c).length ≤ 100 := by
  obtain ⟨_, h2, _, h4, h5, _, _, _, _, _, p1, p2⟩ := cright_parts h.1
  have h1 := esc_len c.r.data.toList
  have h3 := esc_len c.f.data.toList
  have h6 := esc_len c.q.data.toList
  have h7 := esc_len c.s.data.toList
  have hs : c.s.data.toList.length ≤ 32 := by
    by_cases hk : c.k = 1
    · exact right_len (p1 hk)
    · rw [(p2 hk).2.2]; simp
  constructor
  · unfold keyL keyM midM
    split <;> (simp only [List.length_append, List.length_cons, List.length_nil, tail_len]; omega)
  · unfold valL vEnc vBody
    repeat' split
    all_goals (simp only [List.length_append, List.length_cons, List.length_nil, byW_len]; omega)
theorem one_len {a : List UInt8} {c : CT} (h : Bc c) : (oneB a c).length ≤ 300 := by
  obtain ⟨h1, h2⟩ := bc_tight h
  have h3 := (preL_le a (keyL c)).2
  have h4 := numW_len9 (preL a (keyL c)) (by omega)
  have h5 := numW_len9 ((keyL c).length - preL a (keyL c)) (by omega)
  have h6 := numW_len9 (valL c).length (by omega)
  unfold oneB
  split <;> (simp only [List.length_append, List.length_drop, List.length_nil]; omega)
theorem rest_len : ∀ (l : List CT) (a : List UInt8), (∀ c ∈ l, Bc c) → (restB a l).length ≤ l.length * 300
  | [], _, _ => Nat.le_refl _
  | c :: l, a, h => by
    have h1 := one_len (a := a) (h c List.mem_cons_self)
    have h2 := rest_len l (keyL c) (fun x hx => h x (List.mem_cons_of_mem _ hx))
    show (oneB a c ++ restB (keyL c) l).length ≤ (l.length + 1) * 300
    rw [List.length_append]
    omega
theorem block_len {l : List CT} (h : ∀ c ∈ l, Bc c) (hl : l.length ≤ 140) : (blockB l).length ≤ 50000 := by
  have h1 := rest_len l [] h
  have h2 := numW_len9 l.length (by omega)
  unfold blockB
  rw [List.length_append]
  omega
theorem block_pos (l : List CT) : 0 < (blockB l).length := by
  have := numW_pos l.length
  unfold blockB
  rw [List.length_append]
  omega
/-- Sorted cells are a block's. -/
theorem sort_bc {l : List CT} (h : ∀ x ∈ l, Sm x) : (∀ c ∈ sortL [] l, Bc c) ∧ fineK [] (sortL [] l) = true ∧ (sortL [] l).length ≤ l.length := by
  have h1 := sortL_i l [] sortI_nil h
  refine ⟨fun c hc => ⟨h1.ok c hc, (h1.sm c hc).1.2.2, by have := (h1.sm c hc).2.2.2.2; omega⟩, (fineK_iff _).2 ⟨h1.ok, h1.rise⟩, ?_⟩
  have := sortL_len l []
  rw [List.length_nil] at this
  omega
theorem no_more {l : List CT} {r : List UInt8} (hl : l.length ≤ 1000) (h1 : ∀ c ∈ l, Bc c) (h2 : fineK [] l = true) (hr : r ≠ []) : NoBlock (blockB l ++ r) := fun ds hd f hlen e =>
  hr (block_one (by omega) (by omega) h1 hd h2 f e.symm).2
theorem no_less {l : List CT} {k : Nat} (hl : l.length ≤ 1000) (h1 : ∀ c ∈ l, Bc c) (h2 : fineK [] l = true) (hk : k < (blockB l).length) : NoBlock ((blockB l).take k) := fun ds hd f hlen e => by
  have h3 : blockB ds ++ (blockB l).drop k = blockB l := by rw [e, List.take_append_drop]
  have h4 := (block_one (by omega) (by omega) hd h1 f h2 h3).2
  have h5 := congrArg List.length h4
  rw [List.length_drop, List.length_nil] at h5
  omega
/-- Parse of what is no block. -/
theorem parse_none (v : Value) (l : List UInt8) (hno : NoBlock l) (hl : l.length ≤ 100000) (w : World) (h : Sx w w.heap.size v l) (hL : LaidU w) :
    Calls Tryz.prog 20 #[v] w fun e w' => e = .returned (.tuple #[.slice none 0 0, .bool false]) ∧ Below w.heap.size w w' := by
  refine (parse_any v l hl w h hL).mono fun e w' ⟨hb, hc⟩ => ?_
  rcases hc with ⟨u, ds, _, _, g1, g2, g3, g4⟩ | ⟨he, _⟩
  · exact absurd g4 (hno ds g1 g2 g3)
  · exact ⟨he, hb⟩
/-- Build of sorted cells. -/
theorem build_sorted (v : Value) (l : List CT) (hl : l.length ≤ 140) (w : World) (h : ClA w v l) (hs : ∀ c ∈ l, Sm c) (hf : fineK [] l = true) (hL : LaidU w) :
    Calls Tryz.prog 12 #[v] w fun e w' => ∃ g cap nb, e = .returned (.tuple #[.slice (some ⟨g, 0, none⟩) nb cap, .bool true]) ∧ Hid ((blockB l).length = nb ∧ Row w' w.heap.size (.slice (some ⟨g, 0, none⟩) nb cap) (blockB l) ∧ Below w.heap.size w w') := by
  refine (build_any v l hl w h hs hL).mono fun e w' ⟨hb, hx⟩ => ?_
  unfold BuEnd at hx
  rw [if_pos hf] at hx
  obtain ⟨v', he, hr⟩ := hx
  obtain ⟨g, cap, rfl, _⟩ := hr.toG (block_pos l)
  exact ⟨g, cap, _, he, rfl, hr, hb⟩
set_option maxHeartbeats 1000000 in
theorem long8_any (v : Value) (l : List CT) (w : World) (h : ClA w v l) :
    Calls Tryz.prog 10 #[v] w fun e w' => e = .returned (.bool (longM 100 l)) ∧ Below w.heap.size w w' := by
  have HL := hid (longcells_at 100 v l w h)
  clear h
  go_enter Tryz.func10, Tryz.ntmps10
  go_wp2_with (go_at_call 37; refine HL.out.mono ?_; rintro e w5 ⟨rfl, hb5⟩)
  go_ret
  exact ⟨rfl, hb5⟩
theorem longM_sm {m : Nat} {l : List CT} (h : longM m l = false) (hv : ∀ c ∈ l, inI c.vn) : l.length ≤ m ∧ ∀ c ∈ l, Sm c := by
  obtain ⟨h1, h2⟩ := longM_ok h hv
  exact ⟨h1, fun c hc => h2 c hc⟩
end Go.Proofs.YtjbjdkginemedaaGreatDoor
