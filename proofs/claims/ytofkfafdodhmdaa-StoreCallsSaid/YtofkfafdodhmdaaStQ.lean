/- joistlaw05.alive: the fixed disk. Conditions: none. -/
import Derived.Test.YtofkfafdodhmdaaStP
import Derived.Lib.SmallJoins
namespace Go.Proofs.Ytofkfafdodhmdaa
open Go.RowKit

abbrev sX : ByteArray := ⟨#[120]⟩
abbrev sY : ByteArray := ⟨#[121]⟩
abbrev sZ : ByteArray := ⟨#[122]⟩
def vX : Fv := ⟨sX, [97, 98], 0, [(0, 2)], false⟩
def vY : Fv := ⟨sY, [99, 100], 0, [(2, 2)], false⟩
theorem wr_x : wrV sX [97, 98] 0 [] = [vX] := by kernel_rfl
theorem wr_y : wrV sY [99, 100] 2 [vX] = [vX, vY] := by kernel_rfl
theorem sla_two (w : World) (a b : UInt8) (fr : Nat × Nat) : SlA (w.alloc (.cells #[.int .u8 (a.toNat : Int), .int .u8 (b.toNat : Int)] 5 fr)) (.slice (some ⟨w.heap.size, 0, none⟩) 2 2) [a, b] := by
  refine ⟨some ⟨w.heap.size, 0, none⟩, 2, rfl, Nat.le_refl _, by decide, fun _ => ⟨w.heap.size, 0, rfl, fun i hi => ?_⟩, fun h => by cases h⟩
  rw [Nat.zero_add, World.cell?_alloc_mark]
  match i, hi with
  | 0, _ => rfl
  | 1, _ => rfl
theorem conv_two (w : World) (a b : Int) : (convert 32 32 (.slice (some ⟨w.heap.size, 0, none⟩) 2 2)).run Try.prog (w.alloc (.cells #[.int .u8 a, .int .u8 b] 5)) = .ok (.slice (some ⟨w.heap.size, 0, none⟩) 2 2) (w.alloc (.cells #[.int .u8 a, .int .u8 b] 5 (2, 3))) := Lib.run_convert_bytes_const w 32 5 #[.int .u8 a, .int .u8 b] 2 2 Try.underlying32 Try.underlying5
theorem two_views {fs : List Fl} {a b : Fv} (h : viewF fs = [a, b]) : ∃ f g, fs = [f, g] ∧ f.v = a ∧ g.v = b := by
  match fs, h with
  | [f, g], h =>
    have h : [f.v, g.v] = [a, b] := h
    injection h with h1 h2
    injection h2 with h2 _
    exact ⟨f, g, rfl, h1, h2⟩
theorem two_sorted {p q : Pc} {l : List Pc} (h : l.Perm [p, q]) (hs : l.Pairwise (fun x y => x.2.1 ≤ y.2.1)) (hlt : p.2.1 < q.2.1) : l = [p, q] := by
  have hl := h.length_eq
  match l, hl with
  | [a, b], _ =>
    have ha : a ∈ [p, q] := h.mem_iff.1 (by simp)
    have hb : b ∈ [p, q] := h.mem_iff.1 (by simp)
    have hab : a.2.1 ≤ b.2.1 := (List.pairwise_cons.1 hs).1 b (by simp)
    have hp : p ∈ [a, b] := h.mem_iff.2 (by simp)
    have hq : q ∈ [a, b] := h.mem_iff.2 (by simp)
    simp only [List.mem_cons, List.not_mem_nil, or_false] at ha hb hp hq
    rcases ha with rfl | rfl
    · rcases hq with rfl | rfl
      · omega
      · rfl
    · rcases hp with rfl | rfl
      · omega
      · omega
/-- What is left behind the crash. -/
theorem crash_views {f g : Fl} (hf : f.v = vX) (hg : g.v = vY) (hne : f.b ≠ g.b) {l : List Pc} (hp : l.Perm (allP [f, g])) (hs : l.Pairwise (fun x y => x.2.1 ≤ y.2.1)) :
    viewF ((([f, g].map (mF l 3)).filter keepB).map cutF) = [⟨sX, [97, 98], 2, [], false⟩, ⟨sY, [99], 1, [], false⟩] := by
  obtain ⟨n, b, dv, d, m, lv, ll, hh⟩ := f
  obtain ⟨n2, b2, dv2, d2, m2, lv2, ll2, hh2⟩ := g
  injection hf with e1 e2 e3 e4 e5
  injection hg with g1 g2 g3 g4 g5
  dsimp only at e1 e2 e3 e4 e5 g1 g2 g3 g4 g5 hne
  subst e1 e2 e3 e4 e5 g1 g2 g3 g4 g5
  have hl : l = [(b, 0, 2), (b2, 2, 2)] := two_sorted hp hs (show 0 < 2 by decide)
  subst hl
  have k1 : kp 3 2 = 2 := by decide
  have k2 : kp (3 - ((2 : Nat) : Int)) 2 = 1 := by decide
  have i1 : incP [(b, 0, 2), (b2, 2, 2)] 3 b = 2 := by
    show (if b = b then kp 3 2 else 0) + ((if b2 = b then kp (3 - (kp 3 2 : Int)) 2 else 0) + 0) = 2
    rw [if_pos rfl, if_neg hne.symm, k1]
  have i2 : incP [(b, 0, 2), (b2, 2, 2)] 3 b2 = 1 := by
    show (if b = b2 then kp 3 2 else 0) + ((if b2 = b2 then kp (3 - (kp 3 2 : Int)) 2 else 0) + 0) = 1
    rw [if_neg hne, if_pos rfl, k1, k2]
  have j1 : mF [(b, 0, 2), (b2, 2, 2)] 3 ⟨sX, b, dv, [97, 98], 0, lv, [(0, 2)], false⟩ = ⟨sX, b, dv, [97, 98], 2, lv, [(0, 2)], false⟩ := by unfold mF; simp only [i1]
  have j2 : mF [(b, 0, 2), (b2, 2, 2)] 3 ⟨sY, b2, dv2, [99, 100], 0, lv2, [(2, 2)], false⟩ = ⟨sY, b2, dv2, [99, 100], 1, lv2, [(2, 2)], false⟩ := by unfold mF; simp only [i2]
  show viewF ((([mF _ 3 ⟨sX, b, dv, [97, 98], 0, lv, [(0, 2)], false⟩, mF _ 3 ⟨sY, b2, dv2, [99, 100], 0, lv2, [(2, 2)], false⟩] : List Fl).filter keepB).map cutF) = _
  rw [j1, j2]
  rfl
end Go.Proofs.Ytofkfafdodhmdaa
