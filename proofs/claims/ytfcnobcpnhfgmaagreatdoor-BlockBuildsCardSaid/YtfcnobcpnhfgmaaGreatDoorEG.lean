/- The document's Unescaped at slices whatever; where the document's Decode keeps its cell; whose bytes they are. Conditions: the slice holds the bytes, four thousand at most. -/
import Derived.Test.YtfcnobcpnhfgmaaGreatDoorEF
import Derived.Test.YtfcnobcpnhfgmaaGreatDoorQI
import Derived.Test.YtfcnobcpnhfgmaaGreatDoorRP
import Derived.Test.YtfcnobcpnhfgmaaGreatDoorQB
import Derived.Test.YtfcnobcpnhfgmaaGreatDoorSLb
namespace Go.Proofs.YtfcnobcpnhfgmaaGreatDoor
open Go.RowKit

set_option maxHeartbeats 1000000 in
theorem uns_zero (A : Option Addr) (c : Nat) (w : World) :
    Calls Tryz.prog 119 #[.slice A 0 c] w fun e w' => e = .returned (.tuple #[.string ⟨#[]⟩, .slice none 0 0, .bool false]) ∧ Below w.heap.size w w' := by
  go_enter Tryz.func119, Tryz.ntmps119
  go_wp2
  go_loopw [5, 6] (fun _ vi wr => vi = .int .i64 0 ∧ Below w.heap.size w wr) (fun _ _ _ => 0)
  case atStart => exact ⟨rfl, below_new w _⟩
  case round =>
    obtain ⟨rfl, hb⟩ := hrel
    go_wp2
    go_ret3
    exact ⟨rfl, hb⟩

/-- A slice that holds bytes which were there ahead of block B. -/
def SlU (w : World) (B : Nat) (v : Value) (l : List UInt8) : Prop := SlA w v l ∧ ∀ b off n c, v = .slice (some ⟨b, off, none⟩) n c → 0 < l.length → b < B
theorem slu_of {w : World} {v : Value} {l : List UInt8} (h : SlA w v l) : SlU w w.heap.size v l := by
  refine ⟨h, fun b off n c e h0 => ?_⟩
  obtain ⟨A, c', e', _, _, h3, _⟩ := h
  rw [e] at e'
  injection e' with e1
  obtain ⟨b', off', e2, hh⟩ := h3 h0
  rw [e2] at e1
  injection e1 with e1
  injection e1 with e1
  rw [e1]
  exact hh.lt h0
theorem SlU.keep {w w' : World} {B : Nat} {v : Value} {l : List UInt8} (h : SlU w B v l) (hb : Below B w w') : SlU w' B v l := by
  obtain ⟨⟨A, c, e, h1, h2, h3, h4⟩, h5⟩ := h
  refine ⟨⟨A, c, e, h1, h2, fun h0 => ?_, h4⟩, h5⟩
  obtain ⟨b, off, e2, hh⟩ := h3 h0
  subst e2
  exact ⟨b, off, rfl, hh.below hb (h5 b off _ c e h0)⟩
theorem SlU.len {w : World} {B : Nat} {A : Option Addr} {n c : Nat} {l : List UInt8} (h : SlU w B (.slice A n c) l) : n = l.length ∧ n ≤ c ∧ c ≤ 9223372036854775807 := by
  obtain ⟨⟨A', c', e, h1, h2, _⟩, _⟩ := h
  injection e with _ e2 e3
  omega
theorem SlU.holds {w : World} {B b off n c : Nat} {l : List UInt8} (h : SlU w B (.slice (some ⟨b, off, none⟩) n c) l) (h0 : 0 < l.length) : Holds w b off l ∧ b < B := by
  obtain ⟨⟨A', c', e, h1, h2, h3, _⟩, h5⟩ := h
  refine ⟨?_, h5 _ _ _ _ rfl h0⟩
  injection e with e1 e2 e3
  obtain ⟨b', off', e4, hh⟩ := h3 h0
  rw [e4] at e1
  injection e1 with e1
  injection e1 with e1 e5
  subst e1 e5
  exact hh

theorem uns_no (v : Value) (l : List UInt8) (hl : l.length ≤ 4000) (B : Nat) (w : World) (h : SlU w B v l) (hu : unE l = none) :
    Calls Tryz.prog 119 #[v] w fun e w' => e = .returned (.tuple #[.string ⟨#[]⟩, .slice none 0 0, .bool false]) ∧ Below w.heap.size w w' := by
  obtain ⟨⟨A, c, rfl, h1, h2, h3, h4⟩, h5⟩ := h
  by_cases h0 : 0 < l.length
  · obtain ⟨b, off, rfl, hh⟩ := h3 h0
    refine (unescaped_any l hl b off c h1 h2 w hh (hh.lt h0)).mono fun e w' ⟨he, hb⟩ => ⟨?_, hb⟩
    rw [hu] at he
    exact he
  · have e : l = [] := List.eq_nil_of_length_eq_zero (by omega)
    subst e
    exact uns_zero A c w
theorem uns_yes (v : Value) (l : List UInt8) (hl : l.length ≤ 4000) (B : Nat) (w : World) (h : SlU w B v l) (_hB : B ≤ w.heap.size) {t : List UInt8} {k : Nat} (hu : unE l = some (t, k)) :
    Calls Tryz.prog 119 #[v] w fun e w' => ∃ b o n c, e = .returned (.tuple #[.string ⟨t.toArray⟩, .slice (some ⟨b, o, none⟩) n c, .bool true]) ∧ SlU w' B (.slice (some ⟨b, o, none⟩) n c) (l.drop k) ∧ Below w.heap.size w w' := by
  obtain ⟨⟨A, c, rfl, h1, h2, h3, h4⟩, h5⟩ := h
  by_cases h0 : 0 < l.length
  · obtain ⟨b, off, rfl, hh⟩ := h3 h0
    refine (unescaped_any l hl b off c h1 h2 w hh (hh.lt h0)).mono fun e w' ⟨he, hb⟩ => ?_
    rw [hu] at he
    obtain ⟨A, c', he, hc, ⟨hcm, off', rfl⟩, hD⟩ := he
    refine ⟨b, off', _, c', he, ⟨⟨_, c', by rw [List.length_drop], by rw [List.length_drop]; exact hc, hcm, hD, fun h => by cases h⟩, fun b' o' n' c'' e _ => ?_⟩, hb⟩
    injection e with e
    injection e with e
    injection e with e
    rw [← e]
    exact h5 _ _ _ _ rfl h0
  · have e : l = [] := List.eq_nil_of_length_eq_zero (by omega)
    subst e
    cases hu

theorem slu_cut {w : World} {B b off n c : Nat} {l : List UInt8} (h : SlU w B (.slice (some ⟨b, off, none⟩) n c) l) (k : Nat) (hk : k ≤ l.length) {n' c' : Nat} (hn : n' = n - k) (hc : c' = c - k) : SlU w B (.slice (some ⟨b, off + k, none⟩) n' c') (l.drop k) := by
  subst hn hc
  obtain ⟨a1, a2, a3⟩ := h.len
  refine ⟨⟨_, c - k, by rw [List.length_drop, a1], by rw [List.length_drop]; omega, by omega, fun h0 => ?_, fun h => by cases h⟩, fun b' o' n' c'' e h0 => ?_⟩
  · rw [List.length_drop] at h0
    exact ⟨b, off + k, rfl, (h.holds (by omega)).1.drop k⟩
  · rw [List.length_drop] at h0
    injection e with e
    injection e with e
    injection e with e
    rw [← e]
    exact (h.holds (by omega)).2
theorem slu_none {w : World} {B b off : Nat} : SlU w B (.slice (some ⟨b, off, none⟩) 0 0) [] :=
  ⟨⟨_, 0, rfl, by simp, by omega, fun h => absurd h (by simp), fun h => by cases h⟩, fun _ _ _ _ _ h => absurd h (by simp)⟩

/-- Where the document's Decode keeps what it answers, and its cell. -/
structure RSt (w W : World) (xs : Array Value) : Prop where
  r : Blk W w.heap.size 26 zeroA
  c : Blk W (w.heap.size + 1) 26 xs
  bw : Below w.heap.size w W
section
variable {w W W' : World} {xs : Array Value}
theorem RSt.below (h : RSt w W xs) (hb : Below W.heap.size W W') : RSt w W' xs := ⟨h.r.keep hb h.r.lt, h.c.keep hb h.c.lt, h.bw.trans (hb.mono h.bw.size)⟩
theorem RSt.set (h : RSt w W xs) (j : Nat) (v : Value) : RSt w (W.setCell ⟨w.heap.size + 1, j, none⟩ v) (xs.setIfInBounds j v) := by
  refine ⟨?_, h.c.set j v, h.bw.setCell (by show w.heap.size ≤ w.heap.size + 1; omega) v⟩
  have := h.r
  unfold Blk at *
  rw [Below.heap_setCell _ _ _ _ (show w.heap.size ≠ (⟨w.heap.size + 1, j, none⟩ : Addr).block by show _ ≠ w.heap.size + 1; omega)]; exact this
theorem RSt.new (w : World) : RSt w ((w.alloc (.cells zeroA 26)).alloc (.cells zeroA 26)) zeroA := by
  have b2 : Blk ((w.alloc (.cells zeroA 26)).alloc (.cells zeroA 26)) (w.heap.size + 1) 26 zeroA := by have := Blk.new (w.alloc (.cells zeroA 26)) 26 zeroA; simpa using this
  exact ⟨(Blk.new w _ _).keep (below_new _ _) (by simp), b2, (below_new w _).alloc (by simp) _⟩
theorem RSt.drew (h : RSt w W xs) : RSt w W.drew xs := ⟨h.r, h.c, h.bw.drew⟩
end

/-- No cell but this one can have these bytes. -/
theorem Took.uniq {l r f q l3 V : List UInt8} {wh : Bool} {x : UInt8} (h : Took l r f q wh l3) (hd : l3.drop 8 = x :: V) {vk vn : Int} {vs : List UInt8} (hV : (V = [] ∧ vk = 0 ∧ vn = 0 ∧ vs = []) ∨ (V ≠ [] ∧ vdecEnd V = valEnd vk vn vs))
    (hno : ¬ (cRight r f q (9223372036854775807 - (foldB (l3.take 8) : Int)) (255 - (x.toNat : Int)) vk vn vs = true ∧ cEnc r f q (9223372036854775807 - (foldB (l3.take 8) : Int)) (255 - (x.toNat : Int)) vk vn vs = l)) : NoCell l := fun _ _ _ _ _ vk' vn' vs' hr hi he => by
  obtain ⟨rfl, rfl, rfl, e4, e5, e2⟩ := h.rest hd hr he
  obtain ⟨_, _, _, _, _, _, _, _, _, _, p, p0⟩ := cright_parts hr
  rw [e4, e5] at hr he
  by_cases hk : 255 - (x.toNat : Int) = 1
  · have hk1 := e5.trans hk
    unfold vPart at e2
    rw [if_pos hk1] at e2
    have h2 := vdec_enc hi (p hk1)
    rw [e2] at h2
    rcases hV with ⟨rfl, _⟩ | ⟨_, hv⟩
    · have := enc_two (p hk1)
      rw [e2] at this
      simp at this
    · rw [hv] at h2
      unfold valEnd at h2
      simp at h2
      obtain ⟨rfl, rfl, rfl⟩ := h2
      exact hno ⟨hr, he⟩
  · unfold vPart at e2
    rw [if_neg (by omega)] at e2
    obtain ⟨rfl, rfl, rfl⟩ := p0 (by omega)
    rcases hV with ⟨_, rfl, rfl, rfl⟩ | ⟨hv, _⟩
    · exact hno ⟨hr, he⟩
    · exact hv e2.symm
theorem Took.badVal {l r f q l3 V : List UInt8} {wh : Bool} {x : UInt8} (h : Took l r f q wh l3) (hd : l3.drop 8 = x :: V) (hne : V ≠ []) (hV : vdecEnd V = noEnd) : NoCell l := by
  by_cases hk : 255 - (x.toNat : Int) = 1
  · exact h.noVal hd hk hV
  · exact h.noRest hd hk hne
theorem Took.short {l r f q l3 : List UInt8} {wh : Bool} (h : Took l r f q wh l3) (h9 : l3.length < 9) : NoCell l := by
  by_cases h8 : 8 ≤ l3.length
  · exact h.no9 (List.eq_nil_of_length_eq_zero (by rw [List.length_drop]; omega))
  · exact h.no8 h8
theorem cEnc_len (r f q : List UInt8) (t k vk vn : Int) (vs : List UInt8) : (cEnc r f q t k vk vn vs).length ≤ 2 * (r.length + f.length + q.length + vs.length) + 60 := by
  have h1 := esc_len r
  have h2 := esc_len f
  have h3 := esc_len q
  have h4 := esc_len vs
  unfold cEnc keyM midM vEnc vBody
  repeat' split
  all_goals (simp only [List.length_append, List.length_cons, List.length_nil, tail_len, byW_len]; omega)
end Go.Proofs.YtfcnobcpnhfgmaaGreatDoor
