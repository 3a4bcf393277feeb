/- append of a slice whatever to a row of bytes: what it turns. Conditions: as each theorem names them. -/
import Derived.Test.YtofkfafdodhmdaaGreatDoorNC
import Derived.Maps.AppendAt
namespace Go.Proofs.YtofkfafdodhmdaaGreatDoor
open Go.RowKit

theorem grown_refl (w : World) (g : Option Nat) : w.grownBy w g := ⟨rfl, rfl, rfl, Nat.le_refl _, fun _ _ _ => rfl⟩
/-- append of a slice whatever, run. -/
theorem run_append_row (w : World) (base : Nat) (v : Value) (l : List UInt8) (hown : Row w base v l) (A : Option Addr) (c : Nat) (news : List UInt8) (hnews : HoldsA w A news)
    (hlen : l.length + news.length ≤ 100000000) (hbase : base ≤ w.heap.size) :
    ∃ v' w', (Builtin.append_ #[25, 25] 25 #[v, .slice A news.length c]).run Tryz.prog w = .ok v' w' ∧ Row w' base v' (l ++ news) ∧ w.grownBy w' v.ownBlock ∧ (v'.ownBlock = v.ownBlock ∨ v'.ownBlock = some w.heap.size) := by
  match A, hnews with
  | none, hnews =>
    have h0 : news = [] := by
      cases news with
      | nil => rfl
      | cons y t => obtain ⟨b, off, e, _⟩ := hnews (by simp); cases e
    subst h0
    exact ⟨v, w, run_append_nothing w base v l hown c, by rwa [List.append_nil], grown_refl w _, .inl rfl⟩
  | some ad, hnews =>
    obtain ⟨i0, hi, hz0, hz1, hz2⟩ := info_parts info_u8
    obtain ⟨v', w', r0, r1, r2, _, r4⟩ := run_append_own_at (P := Tryz.prog) w base 25 25 5 i0 (.int .u8 0) 1 1 Tryz.underlying25 hi hz0 hz1 hz2 rfl (by decide) v l.length (bc l) hown ad news.length c (bc news) (by rw [bc_len]; omega) (fun j u hu => by
      have hj : j < news.length := by
        rcases Nat.lt_or_ge j news.length with h1 | h1
        · exact h1
        · rw [bc_at, List.getElem?_eq_none h1] at hu; cases hu
      obtain ⟨b, off, e, hh⟩ := hnews (by omega)
      cases e
      rw [add_zero_off, hh j hj, ← hu, bc_at, List.getElem?_eq_getElem hj, List.getD_eq_getElem?_getD, List.getElem?_eq_getElem hj]
      rfl) (bc_one _) (by unfold maxLen; omega) (by omega) hbase
    refine ⟨v', w', r0, ?_, r2, r4⟩
    unfold Row
    rw [bc_app, List.length_append]
    exact r1
section
variable {ops : Array Oper} {rest : List Oper} {o : Oper} {a : Act} {Q : Exit → Act → World → Prop}
/-- append of a slice whatever: the row's own block alone is turned. -/
theorem wpList_append_rg (hgd : o.guard = Option.none) (s x : Operand)
    (ho : o.op = .call { callee := .builtin .append, args := #[s, x], argTypes := #[25, 25] }) (hty : o.type = 25)
    (w : World) (base : Nat) (v : Value) (l : List UInt8) (hs : a.eval s = v) (hown : Row w base v l)
    (A : Option Addr) (m c : Nat) (news : List UInt8) (hm : news.length = m) (hx : a.eval x = .slice A m c) (hnews : HoldsA w A news)
    (hlen : l.length + news.length ≤ 100000000) (hbase : base ≤ w.heap.size)
    (h : ∀ v' w', Row w' base v' (l ++ news) → w.grownBy w' v.ownBlock → wpList Tryz.prog ops Q rest (a.put o.dst v') w') : wpList Tryz.prog ops Q (o :: rest) a w := by
  subst hm
  obtain ⟨v', w', hrun, r1, r2, _⟩ := run_append_row w base v l hown A c news hnews hlen hbase
  refine Lib.wpList_append_run w hgd s x 25 25 ho v _ hs hx v' w' ?_ (h v' w' r1 r2)
  rw [hty]
  exact hrun
end
end Go.Proofs.YtofkfafdodhmdaaGreatDoor
