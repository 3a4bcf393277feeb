/- Append of a slice whatever to a row of the call's own. Conditions: the slices hold their bytes, a million together at most. -/
import Derived.Test.YtofkfafdodhmdaaSLd
import Derived.Lib.AppendZeros
import Derived.Deep.AppendSrc
namespace Go.Proofs.Ytofkfafdodhmdaa
open Go.RowKit
/-- Nothing is appended. -/
theorem run_append_nothing (w : World) (B : Nat) (v : Value) (l : List UInt8) (h : Row w B v l) (c : Nat) : (Builtin.append_ #[32, 32] 32 #[v, .slice none 0 c]).run Try.prog w = .ok v w := by
  obtain ⟨i0, hi, hz0, hz1, hz2⟩ := info_parts info_u8
  obtain ⟨h1, h2⟩ := h
  rcases h2 with ⟨rfl, h0⟩ | ⟨g, cap, cur, rfl, hB, hh, hn, hm, hs, ht⟩
  · have h1 := run_underlying (P := Try.prog) Try.underlying32
    have hlen : (Builtin.lenOf (.slice none 0 c)).run Try.prog w = .ok 0 w := rfl
    simp [Builtin.append_, h1, sizeOf, typeInfo, hi, Builtin.firstCells, hlen]
  · have := run_append_room_src (P := Try.prog) (w := w) 32 32 32 5 i0 Try.underlying32 hi g 0 l.length cap (.slice none 0 c) 0 [] (Src.ofNil w Try.underlying32 c) (by omega) (fun j hj => absurd hj (by simp)) (fun j hj => absurd hj (by simp))
    rw [this]
    rfl

section
variable {ops : Array Oper} {rest : List Oper} {o : Oper} {a : Act} {Q : Exit → Act → World → Prop}
/-- append of a slice that holds some bytes, or none, to a row of the call's own. -/
theorem wpList_append_any (hgd : o.guard = Option.none) (s x : Operand)
    (ho : o.op = .call { callee := .builtin .append, args := #[s, x], argTypes := #[32, 32] }) (hty : o.type = 32)
    (w : World) (base : Nat) (v : Value) (l : List UInt8) (hs : a.eval s = v) (hown : Row w base v l)
    (A : Option Addr) (c : Nat) (news : List UInt8) (hx : a.eval x = .slice A news.length c) (hnews : HoldsA w A news)
    (hlen : l.length + news.length ≤ 1000000) (hbase : base ≤ w.heap.size)
    (h : ∀ v' w', Row w' base v' (l ++ news) → Below base w w' → wpList Try.prog ops Q rest (a.put o.dst v') w') : wpList Try.prog ops Q (o :: rest) a w := by
  match A, hx, hnews with
  | none, hx, hnews =>
    have h0 : news = [] := by
      cases news with
      | nil => rfl
      | cons y t => obtain ⟨b, off, e, _⟩ := hnews (by simp); cases e
    subst h0
    refine Lib.wpList_append_run w hgd s x 32 32 ho v _ hs hx v w ?_ (h v w (by rwa [List.append_nil]) (Below.refl _ _))
    rw [hty]
    exact run_append_nothing w base v l hown c
  | some ad, hx, hnews =>
    refine wpList_append_bytes hgd s x ho w base v l hs hown ad news.length c news rfl hx (fun j u hu => ?_) hlen hbase h
    have hj : j < news.length := by
      rcases Nat.lt_or_ge j news.length with h1 | h1
      · exact h1
      · rw [bc_at, List.getElem?_eq_none h1] at hu; cases hu
    obtain ⟨b, off, e, hh⟩ := hnews (by omega)
    cases e
    rw [add_zero_off, hh j hj, ← hu, bc_at, List.getElem?_eq_getElem hj, List.getD_eq_getElem?_getD, List.getElem?_eq_getElem hj]
    rfl
end

end Go.Proofs.Ytofkfafdodhmdaa
