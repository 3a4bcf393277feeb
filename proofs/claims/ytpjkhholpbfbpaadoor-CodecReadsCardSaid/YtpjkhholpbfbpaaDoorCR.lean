/- codec.Decode at any bytes: the cell whose bytes they are, or none. Conditions: the slice holds the bytes, four thousand at most; the tables of utf8 read as they are laid. -/
import Derived.Test.YtpjkhholpbfbpaaDoorCP
namespace Go.Proofs.YtpjkhholpbfbpaaDoor
open Go.RowKit

/-- What Decode's closure leaves. -/
def DClo (rb : Nat) (l : List UInt8) (w : World) (e : Ending) (w' : World) : Prop :=
  Below rb w w' ∧ ((∃ (r f q : List UInt8) (t k vk vn : Int) (vs : List UInt8), cRight r f q t k vk vn vs = true ∧ inI vn ∧ cEnc r f q t k vk vn vs = l ∧ e = .returned (.tuple #[]) ∧ Blk w' (rb + 1) 28 #[.string ⟨r.toArray⟩, .string ⟨f.toArray⟩, .string ⟨q.toArray⟩, .int .i64 t, .int .i64 k, .int .i64 vk, .int .i64 vn, .string ⟨vs.toArray⟩]) ∨ (NoCell l ∧ e = otherP ∧ Blk w' (rb + 1) 28 zeroA))

set_option maxRecDepth 100000 in
set_option maxHeartbeats 2000000 in
theorem decclo_any (rb : Nat) (l : List UInt8) (hl : l.length ≤ 4000) (w : World) (h : St w rb l) (hc : Blk w (rb + 1) 28 zeroA) (hL : ∀ W, Below rb w W → LaidU W) :
    Calls Tryd.prog 35 #[.pointer (some ⟨rb, 0, none⟩), .pointer (some ⟨rb + 1, 0, none⟩)] w (DClo rb l w) := by
  have hlt := h.2.2
  have hc1 := hc.lt
  have HX : Hid (∀ e w', CellEnd rb l w e w' → Below rb w w' ∧ Blk w' (rb + 1) 28 zeroA) := fun e w' h => ⟨(h.1.mono (Nat.le_of_lt hlt)).below (Nat.le_refl _), hc.but h.1 (by omega)⟩
  have HN : Calls Tryd.prog 36 #[.pointer (some ⟨rb, 0, none⟩)] w (CellEnd rb l w) := rcell_any rb l hl w h hL
  by_cases hno : NoCell l
  · have HN := hid (HN.mono fun e w' h => (show e = otherP ∧ Below rb w w' ∧ Blk w' (rb + 1) 28 zeroA from by
      obtain ⟨a, b⟩ := HX.out e w' h
      rcases h.2 with ⟨r, f, q, t, k, vk, vn, vs, h1, h2, h3, _⟩ | ⟨_, h1⟩
      · exact absurd h3 (hno _ _ _ _ _ _ _ _ h1 h2)
      · exact ⟨h1, a, b⟩))
    have HE := hid hno
    clear h hc hL hlt hc1 HX hno
    go_enter Tryd.func35, Tryd.ntmps35
    go_wp2_with (go_at_call 36; refine HN.out.mono ?_; rintro e w1 ⟨rfl, hb, hB⟩)
    refine ⟨rfl, ?_⟩
    exact ⟨hb, .inr ⟨HE.out, rfl, hB⟩⟩
  · have HN := hid (HN.mono fun e w' h => (show ∃ (r f q : List UInt8) (t k vk vn : Int) (vs : List UInt8), Hid (cRight r f q t k vk vn vs = true ∧ inI vn ∧ cEnc r f q t k vk vn vs = l) ∧ e = .returned (cellV ⟨r.toArray⟩ ⟨f.toArray⟩ ⟨q.toArray⟩ t k vk vn ⟨vs.toArray⟩) ∧ Below rb w w' ∧ Blk w' (rb + 1) 28 zeroA from by
      obtain ⟨a, b⟩ := HX.out e w' h
      rcases h.2 with ⟨r, f, q, t, k, vk, vn, vs, h1, h2, h3, h4⟩ | ⟨h0, _⟩
      · exact ⟨r, f, q, t, k, vk, vn, vs, ⟨h1, h2, h3⟩, h4, a, b⟩
      · exact absurd h0 hno))
    clear h hc hL hlt hc1 HX hno
    go_enter Tryd.func35, Tryd.ntmps35
    go_wp2_with (go_at_call 36; refine HN.out.mono ?_; rintro e w1 ⟨r, f, q, t, k, vk, vn, vs, HQ, rfl, hb, hB⟩; have HB := hid hB; have z0 : w1.cell? ⟨rb + 1, 0, none⟩ = some (.string ⟨#[]⟩) := hB.cell 0; have z1 : w1.cell? ⟨rb + 1, 1, none⟩ = some (.string ⟨#[]⟩) := hB.cell 1; have z2 : w1.cell? ⟨rb + 1, 2, none⟩ = some (.string ⟨#[]⟩) := hB.cell 2; have z3 : w1.cell? ⟨rb + 1, 3, none⟩ = some (.int .i64 0) := hB.cell 3; have z4 : w1.cell? ⟨rb + 1, 4, none⟩ = some (.int .i64 0) := hB.cell 4; have z5 : w1.cell? ⟨rb + 1, 5, none⟩ = some (.int .i64 0) := hB.cell 5; have z6 : w1.cell? ⟨rb + 1, 6, none⟩ = some (.int .i64 0) := hB.cell 6; have z7 : w1.cell? ⟨rb + 1, 7, none⟩ = some (.string ⟨#[]⟩) := hB.cell 7; have zf : ∀ j, w1.frozen? ⟨rb + 1, j, none⟩ = false := (fun j => hB.free j); clear hB)
    go_end0
    have hr1 : rb ≤ rb + 1 := by omega
    refine ⟨(((((((hb.setCell (p := ⟨rb + 1, 0, none⟩) hr1 _).setCell (p := ⟨rb + 1, 1, none⟩) hr1 _).setCell (p := ⟨rb + 1, 2, none⟩) hr1 _).setCell (p := ⟨rb + 1, 3, none⟩) hr1 _).setCell (p := ⟨rb + 1, 4, none⟩) hr1 _).setCell (p := ⟨rb + 1, 5, none⟩) hr1 _).setCell (p := ⟨rb + 1, 6, none⟩) hr1 _).setCell (p := ⟨rb + 1, 7, none⟩) hr1 _, .inl ⟨r, f, q, t, k, vk, vn, vs, HQ.out.1, HQ.out.2.1, HQ.out.2.2, rfl, ?_⟩⟩
    exact (((((((HB.out.set 0 (.string ⟨r.toArray⟩)).set 1 (.string ⟨f.toArray⟩)).set 2 (.string ⟨q.toArray⟩)).set 3 (.int .i64 t)).set 4 (.int .i64 k)).set 5 (.int .i64 vk)).set 6 (.int .i64 vn)).set 7 (.string ⟨vs.toArray⟩)

set_option maxHeartbeats 1000000 in
/-- holds over Decode's closure: it ended. -/
theorem holdsD_yes (rb : Nat) (w : World) (Q : World → Prop) (H : Calls Tryd.prog 35 #[.pointer (some ⟨rb, 0, none⟩), .pointer (some ⟨rb + 1, 0, none⟩)] w fun e w' => e = .returned (.tuple #[]) ∧ Q w') :
    Calls Tryd.prog 34 #[.func (.func 35) #[] #[.pointer (some ⟨rb, 0, none⟩), .pointer (some ⟨rb + 1, 0, none⟩)]] w fun e w' => e = .returned (.bool true) ∧ Q w' := by
  have H := hid H
  go_enter_defers Tryd.func34, Tryd.ntmps34
  go_wp2_with (go_at_call 35; refine H.out.mono ?_; rintro e w1 ⟨rfl, hQ⟩)
  refine leaves_cons (f := 67) (args := #[]) (by simp) (by simp [go_sem]) ?_
  refine (catch_none _).mono ?_
  rintro e u' w2 ⟨rfl, rfl, rfl⟩
  simp only [Leaves, settle, results, Tryd.results34, go_sem]
  simp
  exact hQ

set_option maxHeartbeats 1000000 in
/-- holds over Decode's closure: it met something else. -/
theorem holdsD_no (rb : Nat) (w : World) (Q : World → Prop) (hQ : ∀ w1 w2, Q w1 → Below w1.heap.size w1 w2 → Q w2) (H : Calls Tryd.prog 35 #[.pointer (some ⟨rb, 0, none⟩), .pointer (some ⟨rb + 1, 0, none⟩)] w fun e w' => e = otherP ∧ Q w') :
    Calls Tryd.prog 34 #[.func (.func 35) #[] #[.pointer (some ⟨rb, 0, none⟩), .pointer (some ⟨rb + 1, 0, none⟩)]] w fun e w' => e = .returned (.bool false) ∧ Q w' := by
  have H := hid H
  have HQ := hid hQ
  clear hQ
  go_enter_defers Tryd.func34, Tryd.ntmps34
  go_wp2_with (go_at_call 35; refine H.out.mono ?_; rintro e w1 ⟨rfl, hq⟩)
  refine leaves_cons (f := 67) (args := #[]) (by simp) (by simp [go_sem]) ?_
  refine (catch_other [] _).mono ?_
  rintro e u' w2 ⟨rfl, rfl, hb2⟩
  simp [Leaves, settle, results, Tryd.results34, go_sem]
  exact HQ.out _ _ hq hb2

/-- What Decode answers. -/
def DEnd (l : List UInt8) (w : World) (e : Ending) (w' : World) : Prop :=
  Below w.heap.size w w' ∧ ((∃ (r f q : List UInt8) (t k vk vn : Int) (vs : List UInt8), cRight r f q t k vk vn vs = true ∧ inI vn ∧ cEnc r f q t k vk vn vs = l ∧ e = .returned (.tuple #[cellV ⟨r.toArray⟩ ⟨f.toArray⟩ ⟨q.toArray⟩ t k vk vn ⟨vs.toArray⟩, .bool true])) ∨ (NoCell l ∧ e = .returned (.tuple #[cellV ⟨#[]⟩ ⟨#[]⟩ ⟨#[]⟩ 0 0 0 0 ⟨#[]⟩, .bool false])))

set_option maxRecDepth 100000 in
set_option maxHeartbeats 2000000 in
theorem decode_walk (A : Option Addr) (m c : Nat) (w : World) (ok : Bool) (r f q vs : ByteArray) (t k vk vn : Int)
    (HH : Calls Tryd.prog 34 #[.func (.func 35) #[] #[.pointer (some ⟨w.heap.size + 1, 0, none⟩), .pointer (some ⟨w.heap.size + 2, 0, none⟩)]] (((w.alloc (.cells zeroA 28)).alloc (.cells #[.slice A m c] 57)).alloc (.cells zeroA 28)) fun e w' => e = .returned (.bool ok) ∧ Below (w.heap.size + 1) (((w.alloc (.cells zeroA 28)).alloc (.cells #[.slice A m c] 57)).alloc (.cells zeroA 28)) w' ∧ Blk w' (w.heap.size + 2) 28 #[.string r, .string f, .string q, .int .i64 t, .int .i64 k, .int .i64 vk, .int .i64 vn, .string vs]) :
    Calls Tryd.prog 12 #[.slice A m c] w fun e w' => e = .returned (.tuple #[cellV r f q t k vk vn vs, .bool ok]) ∧ Below w.heap.size w w' := by
  have hmf : ∀ (fn : Fn) (first cap : Array Value) (w : World), (Instr.makeFunc fn first cap).run Tryd.prog w = .ok (.func fn first cap) w := fun _ _ _ _ => rfl
  have HZ : Hid (∀ w', Below (w.heap.size + 1) (((w.alloc (.cells zeroA 28)).alloc (.cells #[.slice A m c] 57)).alloc (.cells zeroA 28)) w' → Blk w' w.heap.size 28 zeroA) := fun w' h => (((Blk.new w _ _).keep (below_new _ (.cells #[.slice A m c] 57)) (by simp)).keep (below_new _ (.cells zeroA 28)) (by simp; omega)).keep h (by omega)
  have HH := hid HH
  go_enter Tryd.func12, Tryd.ntmps12
  go_wp2_with (go_at_call 34; refine HH.out.mono ?_; rintro e w1 ⟨rfl, hb, hB⟩; have hZ := HZ.out w1 hb; have HB := hid hb; have z0 : w1.cell? ⟨w.heap.size + 2, 0, none⟩ = some (.string r) := hB.cell 0; have z1 : w1.cell? ⟨w.heap.size + 2, 1, none⟩ = some (.string f) := hB.cell 1; have z2 : w1.cell? ⟨w.heap.size + 2, 2, none⟩ = some (.string q) := hB.cell 2; have z3 : w1.cell? ⟨w.heap.size + 2, 3, none⟩ = some (.int .i64 t) := hB.cell 3; have z4 : w1.cell? ⟨w.heap.size + 2, 4, none⟩ = some (.int .i64 k) := hB.cell 4; have z5 : w1.cell? ⟨w.heap.size + 2, 5, none⟩ = some (.int .i64 vk) := hB.cell 5; have z6 : w1.cell? ⟨w.heap.size + 2, 6, none⟩ = some (.int .i64 vn) := hB.cell 6; have z7 : w1.cell? ⟨w.heap.size + 2, 7, none⟩ = some (.string vs) := hB.cell 7; have r0 : w1.cell? ⟨w.heap.size, 0, none⟩ = some (.string ⟨#[]⟩) := hZ.cell 0; have r1 : w1.cell? ⟨w.heap.size, 1, none⟩ = some (.string ⟨#[]⟩) := hZ.cell 1; have r2 : w1.cell? ⟨w.heap.size, 2, none⟩ = some (.string ⟨#[]⟩) := hZ.cell 2; have r3 : w1.cell? ⟨w.heap.size, 3, none⟩ = some (.int .i64 0) := hZ.cell 3; have r4 : w1.cell? ⟨w.heap.size, 4, none⟩ = some (.int .i64 0) := hZ.cell 4; have r5 : w1.cell? ⟨w.heap.size, 5, none⟩ = some (.int .i64 0) := hZ.cell 5; have r6 : w1.cell? ⟨w.heap.size, 6, none⟩ = some (.int .i64 0) := hZ.cell 6; have r7 : w1.cell? ⟨w.heap.size, 7, none⟩ = some (.string ⟨#[]⟩) := hZ.cell 7; have zf : ∀ j, w1.frozen? ⟨w.heap.size, j, none⟩ = false := (fun j => hZ.free j); clear hB hZ hb)
  refine bodyPost_ret (v := .tuple #[cellV r f q t k vk vn vs, .bool ok]) (by simp [results, Tryd.results12, go_sem, cell_set_same, r0, r1, r2, r3, r4, r5, r6, r7]) rfl ?_
  refine ⟨rfl, ?_⟩
  have hb : Below w.heap.size w w1 := (((below_new w _).alloc (by simp) _).alloc (by simp; omega) _).trans (HB.out.mono (by omega))
  exact (((((((hb.setCell (p := ⟨w.heap.size, 0, none⟩) (Nat.le_refl _) _).setCell (p := ⟨w.heap.size, 1, none⟩) (Nat.le_refl _) _).setCell (p := ⟨w.heap.size, 2, none⟩) (Nat.le_refl _) _).setCell (p := ⟨w.heap.size, 3, none⟩) (Nat.le_refl _) _).setCell (p := ⟨w.heap.size, 4, none⟩) (Nat.le_refl _) _).setCell (p := ⟨w.heap.size, 5, none⟩) (Nat.le_refl _) _).setCell (p := ⟨w.heap.size, 6, none⟩) (Nat.le_refl _) _).setCell (p := ⟨w.heap.size, 7, none⟩) (Nat.le_refl _) _

theorem two_blocks (w : World) (A : Option Addr) (m c : Nat) : let W := (((w.alloc (.cells zeroA 28)).alloc (.cells #[.slice A m c] 57)).alloc (.cells zeroA 28))
    W.cell? ⟨w.heap.size + 1, 0, none⟩ = some (.slice A m c) ∧ W.frozen? ⟨w.heap.size + 1, 0, none⟩ = false ∧ Blk W (w.heap.size + 1 + 1) 28 zeroA ∧ W.heap.size = w.heap.size + 3 ∧ Below w.heap.size w W := by
  have b1 : Blk ((w.alloc (.cells zeroA 28)).alloc (.cells #[.slice A m c] 57)) (w.heap.size + 1) 57 #[.slice A m c] := by have := Blk.new (w.alloc (.cells zeroA 28)) 57 #[.slice A m c]; simpa using this
  have b2 : Blk (((w.alloc (.cells zeroA 28)).alloc (.cells #[.slice A m c] 57)).alloc (.cells zeroA 28)) (w.heap.size + 1 + 1) 28 zeroA := by have := Blk.new ((w.alloc (.cells zeroA 28)).alloc (.cells #[.slice A m c] 57)) 28 zeroA; simpa using this
  have b3 := b1.keep (below_new _ (.cells zeroA 28)) (by simp)
  exact ⟨b3.cell 0, b3.free 0, b2, by simp, ((below_new w _).alloc (by simp) _).alloc (by simp; omega) _⟩

theorem cdecode_any (A : Option Addr) (c : Nat) (l : List UInt8) (hl : l.length ≤ 4000) (hc : l.length ≤ c) (hc2 : c ≤ 9223372036854775807) (w : World) (h : HoldsA w A l) (hL : LaidU w) :
    Calls Tryd.prog 12 #[.slice A l.length c] w (DEnd l w) := by
  obtain ⟨h1, h2, h3, h4, h5⟩ := two_blocks w A l.length c
  obtain ⟨W, hW⟩ : ∃ W, (((w.alloc (.cells zeroA 28)).alloc (.cells #[.slice A l.length c] 57)).alloc (.cells zeroA 28)) = W := ⟨_, rfl⟩
  rw [hW] at h1 h2 h3 h4 h5
  have hS : St W (w.heap.size + 1) l := by
    refine ⟨⟨_, h1, A, c, rfl, hc, hc2, fun h0 => ?_⟩, h2, by rw [h4]; omega⟩
    obtain ⟨b, off, e1, e2⟩ := h h0
    exact ⟨b, off, e1, Nat.lt_succ_of_lt (e2.lt h0), e2.below h5 (e2.lt h0)⟩
  have H := decclo_any (w.heap.size + 1) l hl _ hS h3 (fun W' hW' => hL.below (h5.trans (hW'.mono (by omega))))
  by_cases hno : NoCell l
  · refine (decode_walk A l.length c w false ⟨#[]⟩ ⟨#[]⟩ ⟨#[]⟩ ⟨#[]⟩ 0 0 0 0 ?_).mono fun e w' ⟨he, hb⟩ => ⟨hb, .inr ⟨hno, he⟩⟩
    rw [hW]
    refine (holdsD_no (w.heap.size + 1) _ (fun w' => Below (w.heap.size + 1) W w' ∧ Blk w' (w.heap.size + 1 + 1) 28 zeroA) ?_ (H.mono fun e w' hx => ?_))
    · rintro w1 w2 ⟨a, b⟩ hb
      exact ⟨a.trans (hb.mono (Nat.le_of_lt (Nat.lt_of_succ_lt b.lt))), b.keep hb b.lt⟩
    · rcases hx.2 with ⟨r, f, q, t, k, vk, vn, vs, h1, h2, h3, _⟩ | ⟨_, h6, h7⟩
      · exact absurd h3 (hno _ _ _ _ _ _ _ _ h1 h2)
      · exact ⟨h6, hx.1, h7⟩
  · have hex : ∃ (r f q : List UInt8) (t k vk vn : Int) (vs : List UInt8), cRight r f q t k vk vn vs = true ∧ inI vn ∧ cEnc r f q t k vk vn vs = l := by
      unfold NoCell at hno
      false_or_by_contra
      rename_i hh
      exact hno fun r f q t k vk vn vs a b e => hh ⟨r, f, q, t, k, vk, vn, vs, a, b, e⟩
    obtain ⟨r, f, q, t, k, vk, vn, vs, g1, g2, g3⟩ := hex
    refine (decode_walk A l.length c w true ⟨r.toArray⟩ ⟨f.toArray⟩ ⟨q.toArray⟩ ⟨vs.toArray⟩ t k vk vn ?_).mono fun e w' ⟨he, hb⟩ => ⟨hb, .inl ⟨r, f, q, t, k, vk, vn, vs, g1, g2, g3, he⟩⟩
    rw [hW]
    refine (holdsD_yes (w.heap.size + 1) _ (fun w' => Below (w.heap.size + 1) W w' ∧ Blk w' (w.heap.size + 1 + 1) 28 #[.string ⟨r.toArray⟩, .string ⟨f.toArray⟩, .string ⟨q.toArray⟩, .int .i64 t, .int .i64 k, .int .i64 vk, .int .i64 vn, .string ⟨vs.toArray⟩]) (H.mono fun e w' hx => ?_))
    rcases hx.2 with ⟨r', f', q', t', k', vk', vn', vs', g1', g2', g3', h6, h7⟩ | ⟨h6, _⟩
    · obtain ⟨rfl, rfl, rfl, rfl, rfl, rfl, rfl, rfl⟩ := cEnc_one g1' g1 g2' g2 (g3'.trans g3.symm)
      exact ⟨h6, hx.1, h7⟩
    · exact absurd h6 hno
end Go.Proofs.YtpjkhholpbfbpaaDoor
