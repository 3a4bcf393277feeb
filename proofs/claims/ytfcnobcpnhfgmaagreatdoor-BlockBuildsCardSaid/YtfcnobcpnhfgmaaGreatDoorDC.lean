/- codec.Parts at any bytes: the list whose bytes they are, or none. Conditions: the slice holds the bytes, a hundred thousand at most. -/
import Derived.Test.YtfcnobcpnhfgmaaGreatDoorDA
namespace Go.Proofs.YtfcnobcpnhfgmaaGreatDoor
open Go.RowKit

def PClo (rb : Nat) (l : List UInt8) (w : World) (e : Ending) (w' : World) : Prop :=
  Below rb w w' ∧ match partsM l with
    | some ls => e = .returned (.tuple #[]) ∧ ∃ A c, w'.cell? ⟨rb + 1, 0, none⟩ = some (.slice A ls.length c) ∧ LsB w' (.slice A ls.length c) ls
    | none => e = otherP ∧ w'.cell? ⟨rb + 1, 0, none⟩ = some (.slice none 0 0)

set_option maxRecDepth 100000 in
set_option maxHeartbeats 2000000 in
theorem partsclo_any (rb : Nat) (l : List UInt8) (hl : l.length ≤ 100000) (w : World) (h : St w rb l) (hn : w.cell? ⟨rb + 1, 0, none⟩ = some (.slice none 0 0)) (hf : w.frozen? ⟨rb + 1, 0, none⟩ = false) :
    Calls Tryz.prog 159 #[.pointer (some ⟨rb, 0, none⟩), .pointer (some ⟨rb + 1, 0, none⟩)] w (PClo rb l w) := by
  have HN := rlist_any rb l hl w h
  have hlt := h.2.2
  have hlt2 := cell_lt hn
  unfold PClo
  cases hk : partsM l with
  | none =>
    have HN : Hid (Calls Tryz.prog 160 #[.pointer (some ⟨rb, 0, none⟩)] w fun e w' => But w.heap.size rb w w' ∧ e = otherP) := HN.mono fun e w' h => by
      unfold LiEnd at h
      rwa [hk] at h
    clear h hk
    go_enter Tryz.func159, Tryz.ntmps159
    go_wp2_with (go_at_call 160; refine HN.out.mono ?_; rintro e w1 ⟨hb, rfl⟩)
    refine ⟨rfl, ?_⟩
    exact ⟨(hb.mono (Nat.le_of_lt hlt)).below (Nat.le_refl _), rfl, (hb.cell hlt2 (by omega) 0).trans hn⟩
  | some ls =>
    have HN : Hid (Calls Tryz.prog 160 #[.pointer (some ⟨rb, 0, none⟩)] w fun e w' => But w.heap.size rb w w' ∧ ∃ A c, e = .returned (.slice A ls.length c) ∧ RowL w' w.heap.size (.slice A ls.length c) ls) := HN.mono fun e w' h => by
      unfold LiEnd at h
      rw [hk] at h
      obtain ⟨hb, v, he, hR⟩ := h
      obtain ⟨A, c, rfl⟩ := hR.len
      exact ⟨hb, A, c, he, hR⟩
    clear h hk
    obtain ⟨n, hnl⟩ : ∃ n, ls.length = n := ⟨_, rfl⟩
    rw [hnl] at HN
    have HNL := hid hnl
    clear hnl
    go_enter Tryz.func159, Tryz.ntmps159
    go_wp2_with (go_at_call 160; refine HN.out.mono ?_; rintro e w1 ⟨hb, A, c, rfl, hR⟩; have hc1 := (hb.cell hlt2 (by omega) 0).trans hn; have hf1 := (hb.frozen hlt2 (by omega) 0).trans hf)
    go_end0
    refine ⟨((hb.mono (Nat.le_of_lt hlt)).below (Nat.le_refl _)).setCell (p := ⟨rb + 1, 0, none⟩) (by simp) _, rfl, A, c, ?_, ?_⟩
    · rw [HNL.out]; exact World.cell?_setCell_same' _ _ _ (by rw [hc1]; rfl)
    · rw [HNL.out]
      exact (hR.but ((But.refl w1.heap.size (rb + 1) w1).setCell 0 _) (by omega)).lsb

set_option maxHeartbeats 1000000 in
/-- holds over Parts' closure: it ended. -/
theorem holdsP_yes (rb : Nat) (w : World) (Q : World → Prop) (H : Calls Tryz.prog 159 #[.pointer (some ⟨rb, 0, none⟩), .pointer (some ⟨rb + 1, 0, none⟩)] w fun e w' => e = .returned (.tuple #[]) ∧ Q w') :
    Calls Tryz.prog 149 #[.func (.func 159) #[] #[.pointer (some ⟨rb, 0, none⟩), .pointer (some ⟨rb + 1, 0, none⟩)]] w fun e w' => e = .returned (.bool true) ∧ Q w' := by
  have H := hid H
  go_enter_defers Tryz.func149, Tryz.ntmps149
  go_wp2_with (go_at_call 159; refine H.out.mono ?_; rintro e w1 ⟨rfl, hQ⟩)
  refine leaves_cons (f := 169) (args := #[]) (by simp) (by simp [go_sem]) ?_
  refine (catch_none _).mono ?_
  rintro e u' w2 ⟨rfl, rfl, rfl⟩
  simp only [Leaves, settle, results, Tryz.results149, go_sem]
  simp
  exact hQ

set_option maxHeartbeats 1000000 in
/-- holds over Parts' closure: it met something else. -/
theorem holdsP_no (rb : Nat) (w : World) (Q : World → Prop) (hQ : ∀ w1 w2, Q w1 → Below w1.heap.size w1 w2 → Q w2) (H : Calls Tryz.prog 159 #[.pointer (some ⟨rb, 0, none⟩), .pointer (some ⟨rb + 1, 0, none⟩)] w fun e w' => e = otherP ∧ Q w') :
    Calls Tryz.prog 149 #[.func (.func 159) #[] #[.pointer (some ⟨rb, 0, none⟩), .pointer (some ⟨rb + 1, 0, none⟩)]] w fun e w' => e = .returned (.bool false) ∧ Q w' := by
  have H := hid H
  have HQ := hid hQ
  clear hQ
  go_enter_defers Tryz.func149, Tryz.ntmps149
  go_wp2_with (go_at_call 159; refine H.out.mono ?_; rintro e w1 ⟨rfl, hq⟩)
  refine leaves_cons (f := 169) (args := #[]) (by simp) (by simp [go_sem]) ?_
  refine (catch_other [] _).mono ?_
  rintro e u' w2 ⟨rfl, rfl, hb2⟩
  simp [Leaves, settle, results, Tryz.results149, go_sem]
  exact HQ.out _ _ hq hb2

/-- What Parts answers. -/
def PaEnd (l : List UInt8) (w : World) (e : Ending) (w' : World) : Prop :=
  Below w.heap.size w w' ∧ match partsM l with
    | some ls => ∃ v, e = .returned (.tuple #[v, .bool true]) ∧ LsB w' v ls
    | none => e = .returned (.tuple #[.slice none 0 0, .bool false])

set_option maxRecDepth 100000 in
set_option maxHeartbeats 2000000 in
theorem parts_walk (A0 : Option Addr) (m c0 n : Nat) (ok : Bool) (Q : World → Option Addr → Nat → Prop) (w : World)
    (HH : Calls Tryz.prog 149 #[.func (.func 159) #[] #[.pointer (some ⟨w.heap.size, 0, none⟩), .pointer (some ⟨w.heap.size + 1, 0, none⟩)]] ((w.alloc (.cells #[.slice A0 m c0] 152)).alloc (.cells #[.slice none 0 0] 79)) fun e w' => e = .returned (.bool ok) ∧ Below w.heap.size ((w.alloc (.cells #[.slice A0 m c0] 152)).alloc (.cells #[.slice none 0 0] 79)) w' ∧ ∃ A c, w'.cell? ⟨w.heap.size + 1, 0, none⟩ = some (.slice A n c) ∧ Q w' A c) :
    Calls Tryz.prog 127 #[.slice A0 m c0] w fun e w' => Below w.heap.size w w' ∧ ∃ A c, e = .returned (.tuple #[.slice A n c, .bool ok]) ∧ Q w' A c := by
  have hmf : ∀ (fn : Fn) (first cap : Array Value) (w : World), (Instr.makeFunc fn first cap).run Tryz.prog w = .ok (.func fn first cap) w := fun _ _ _ _ => rfl
  have HH := hid HH
  go_enter Tryz.func127, Tryz.ntmps127
  go_wp2_with (go_at_call 149; refine HH.out.mono ?_; rintro e w1 ⟨rfl, hb, A, c, hc, hQ⟩)
  go_ret2
  exact ⟨((below_new w _).alloc (by simp) _).trans hb, A, c, rfl, hQ⟩

theorem parts_any (A : Option Addr) (c : Nat) (l : List UInt8) (hl : l.length ≤ 100000) (hc : l.length ≤ c) (hc2 : c ≤ 9223372036854775807) (w : World) (h : HoldsA w A l) :
    Calls Tryz.prog 127 #[.slice A l.length c] w (PaEnd l w) := by
  obtain ⟨h1, h2, h3, h4, h5, h6⟩ := two_cells w (.slice A l.length c) (.slice none 0 0) 152 79
  obtain ⟨W, hW⟩ : ∃ W, ((w.alloc (.cells #[.slice A l.length c] 152)).alloc (.cells #[.slice none 0 0] 79)) = W := ⟨_, rfl⟩
  rw [hW] at h1 h2 h3 h4 h5 h6
  have hS : St W w.heap.size l := by
    refine ⟨⟨_, h1, A, c, rfl, hc, hc2, fun h0 => ?_⟩, h3, by rw [h5]; omega⟩
    obtain ⟨b, off, e1, e2⟩ := h h0
    exact ⟨b, off, e1, e2.lt h0, e2.below h6 (e2.lt h0)⟩
  have H := partsclo_any w.heap.size l hl W hS h2 h4
  unfold PaEnd
  unfold PClo at H
  cases hk : partsM l with
  | none =>
    rw [hk] at H
    refine (parts_walk A l.length c 0 false (fun _ A c => A = none ∧ c = 0) w ?_).mono fun e w' ⟨hb, A', c', he, hA, hc'⟩ => ⟨hb, by rw [he, hA, hc']⟩
    rw [hW]
    refine (holdsP_no w.heap.size W (fun w' => Below w.heap.size W w' ∧ w'.cell? ⟨w.heap.size + 1, 0, none⟩ = some (.slice none 0 0)) ?_ (H.mono fun e w' hx => ⟨hx.2.1, hx.1, hx.2.2⟩)).mono fun e w' ⟨he, hb, hcl⟩ => ⟨he, hb, none, 0, hcl, rfl, rfl⟩
    rintro w1 w2 ⟨a, b⟩ hb
    have hz := cell_lt b
    exact ⟨a.trans (hb.mono (by omega)), (hb.cell (p := ⟨w.heap.size + 1, 0, none⟩) hz).trans b⟩
  | some ls =>
    rw [hk] at H
    refine (parts_walk A l.length c ls.length true (fun w' A c => LsB w' (.slice A ls.length c) ls) w ?_).mono fun e w' ⟨hb, A', c', he, hQ⟩ => ⟨hb, _, he, hQ⟩
    rw [hW]
    exact (holdsP_yes w.heap.size W (fun w' => Below w.heap.size W w' ∧ ∃ A c, w'.cell? ⟨w.heap.size + 1, 0, none⟩ = some (.slice A ls.length c) ∧ LsB w' (.slice A ls.length c) ls) (H.mono fun e w' hx => ⟨hx.2.1, hx.1, hx.2.2⟩))
end Go.Proofs.YtfcnobcpnhfgmaaGreatDoor
