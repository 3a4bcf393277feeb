/- sum.Sum at any bytes. Conditions: the slice holds its bytes, a million at most. -/
import Derived.Test.YtadehoibjpmhhaaDoorSI
namespace Go.Proofs.YtadehoibjpmhhaaDoor
open Go.RowKit Go.Shelf
attribute [local go_sem] Oper.semAt_some

theorem chunk1_nil_in (F : Fence) (n : Nat) (h109 : F.fn 109) (hro : F.round = none) (l Bs c : Nat) (A : Option Addr) (J : List Nat → World → Prop)
    (W : World) (hB1 : W.cell? ⟨Bs, 0, none⟩ = some (.slice A 0 c)) (h0 : J [] W) :
    CallsIn F n Tryd.prog 109 #[.func (.yield l) #[] #[], .pointer (some ⟨Bs, 0, none⟩), .pointer (some ⟨Bs + 1, 0, none⟩)] W fun e W' => (∃ v, e = .returned v) ∧ J [] W' := by
  refine callsIn_of_wp Tryd.func109 rfl h109 ?_ hro
  simp only [Tryd.ntmps109, List.size_toArray, List.length_cons, List.length_nil, Nat.reduceAdd, Nat.reduceSub, Array.replicate_succ, Array.replicate_zero, List.push_toArray, List.append_toArray, List.nil_append, List.cons_append]
  gi_wp2
  gi_loopw [4] (fun i wr => i = .int .i64 0 ∧ J [] wr ∧ wr.cell? ⟨Bs, 0, none⟩ = some (.slice A 0 c)) (fun _ _ => 0)
  case atStart => exact ⟨rfl, h0, hB1⟩
  case round =>
    obtain ⟨rfl, hJs, hc⟩ := hrel
    gi_wp2
    go_end0
    exact ⟨⟨_, rfl⟩, hJs⟩

/-- slices.Chunk: both arguments are boxed; the closure holds the boxes. -/
theorem chunk_in (F : Fence) (n : Nat) (h82 : F.fn 82) (hro : F.round = none) (a : Option Addr) (len cap : Nat) (w : World) :
    CallsIn F n Tryd.prog 82 #[.slice a len cap, .int .i64 4096] w fun e w' => e = .returned (.func (.func 109) #[] #[.pointer (some ⟨w.heap.size, 0, none⟩), .pointer (some ⟨w.heap.size + 1, 0, none⟩)]) ∧ w' = (w.alloc (.cells #[.slice a len cap] 29)).alloc (.cells #[.int .i64 4096] 3) := by
  refine callsIn_of_wp Tryd.func82 rfl h82 ?_ hro
  simp only [Tryd.ntmps82, List.size_toArray, List.length_cons, List.length_nil, Nat.reduceAdd, Nat.reduceSub, Array.replicate_succ, Array.replicate_zero, List.push_toArray, List.append_toArray, List.nil_append, List.cons_append]
  gi_wp2
  go_ret
  exact ⟨rfl, rfl⟩

theorem chunk_stops (F : Fence) (n : Nat) (h109 : F.fn 109) (hro : F.round = none) (hn : 1 ≤ n) (Bs n₀ b off cap : Nat) (A : Option Addr) (l : List UInt8) (hlen : l.length ≤ 1000000) (hlc : l.length ≤ cap) (hcap : cap ≤ 9223372036854775807) (hA : 0 < l.length → A = some ⟨b, off, none⟩) (w : World)
    (hB1 : w.cell? ⟨Bs, 0, none⟩ = some (.slice A l.length cap)) (hB2 : w.cell? ⟨Bs + 1, 0, none⟩ = some (.int .i64 4096)) :
    SeqStopsK F n Tryd.prog 109 #[.pointer (some ⟨Bs, 0, none⟩), .pointer (some ⟨Bs + 1, 0, none⟩)] (fun x : Nat => #[chV b off l.length x]) (ChK n₀ Bs) (fun ys => ys = List.range ((l.length + 4095) / 4096))
      (fun pre => ∃ k, k ≤ (l.length + 4095) / 4096 ∧ pre = List.range k) ((l.length + 4095) / 4096) w := fun i J Jx W hW hJ _ hY h0 => by
  have c1 := (hW.cell (p := ⟨Bs, 0, none⟩) (cell_lt hB1)).trans hB1
  have c2 := (hW.cell (p := ⟨Bs + 1, 0, none⟩) (cell_lt hB2)).trans hB2
  by_cases hl : 0 < l.length
  · rw [hA hl] at c1
    exact chunk1_in F n h109 hro hn i Bs n₀ b off l.length cap _ hlc hlen hcap rfl J Jx (fun s X hs => hJ s X X.drew none hs (⟨rfl, rfl, rfl, Nat.le_refl _, fun _ _ _ => rfl⟩ : X.grownBy X.drew none) (fun r e => by cases e)) hY W c1 c2 h0
  · have hz : l.length = 0 := by omega
    rw [hz] at c1
    refine (chunk1_nil_in F n h109 hro i Bs cap A J W c1 h0).mono fun e W' ⟨he, hj⟩ => ⟨he, .inl ⟨[], ?_, hj⟩⟩
    rw [hz]
    rfl
end Go.Proofs.YtadehoibjpmhhaaDoor
