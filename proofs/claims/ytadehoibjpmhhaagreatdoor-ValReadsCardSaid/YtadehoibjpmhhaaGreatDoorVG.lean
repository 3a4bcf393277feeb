/- val.plain and val.quote for every text of at most a thousand bytes. Conditions: none but the length. -/
import Derived.Test.YtadehoibjpmhhaaGreatDoorVF
import Derived.Deep.RegionHeld3
import Derived.Deep.DrawnRows
namespace Go.Proofs.YtadehoibjpmhhaaGreatDoor
open Go.RowKit

def plainB (c : Nat) : Bool := decide (32 ≤ c) && decide (c ≤ 126) && c != 34 && c != 92
def quoB (c : UInt8) : List UInt8 := if plainB c.toNat = true then [c] else [92, dg (c.toNat / 16), dg (c.toNat % 16)]
/-- A text between quotes, but for the quotes. -/
def quo : List UInt8 → List UInt8
  | [] => []
  | c :: l => quoB c ++ quo l
theorem quo_app (a b : List UInt8) : quo (a ++ b) = quo a ++ quo b := by
  induction a with
  | nil => rfl
  | cons c l ih => simp only [List.cons_append, quo, ih, List.append_assoc]
theorem quo_len (l : List UInt8) : (quo l).length ≤ 3 * l.length := by
  induction l with
  | nil => simp [quo]
  | cons c l ih => simp only [quo, quoB]; split <;> simp <;> omega

section
variable {ops : Array Oper} {o : Oper} {a : Act} {K : Act → World → Prop} {Q : Exit → Act → World → Prop} {E : Prop}
/-- append of some bytes, at a step of a region that draws its order. -/
theorem step_append_bytes (hgd : o.guard = Option.none) (s x : Operand)
    (ho : o.op = .call { callee := .builtin .append, args := #[s, x], argTypes := #[22, 22] })
    (w : World) (base : Nat) (v : Value) (l : List UInt8) (hs : a.eval s = v) (hown : Row w base v l)
    (ad : Addr) (m c : Nat) (news : List UInt8) (hm : news.length = m) (hx : a.eval x = .slice (some ad) m c) (hnews : ∀ j u, (bc news)[j]? = some u → w.cell? (ad.add j) = some u)
    (hlen : l.length + news.length ≤ 1000000) (hbase : base ≤ w.heap.size)
    (h : ∀ v' w', Row w' base v' (l ++ news) → Below base w w' → K (a.put o.dst v') w') :
    if Region.wanted o (yielded ops a.tmps) = true then Oper.wp Tryz.prog o a w K Q else E := by
  have hw : Region.wanted o (yielded ops a.tmps) = true := by simp [Region.wanted, hgd]
  rw [if_pos hw]
  obtain ⟨i0, hi, hz0, hz1, hz2⟩ := info_parts info_u8
  subst hm
  refine wp_append_own w s x 22 ho base 5 i0 (.int .u8 0) 1 1 Tryz.underlying22 hi hz0 hz1 hz2 rfl (by decide) v l.length (bc l) hs hown ad news.length c (bc news) hx (by rw [bc_len]; omega) hnews (bc_one _) (by unfold maxLen; omega) (by omega) hbase ?_
  intro v' w' h1 h2 _
  refine h v' w' ?_ ((Below.refl _ _).grown h2 hbase fun k hk => (World.ownsRow.lt hown k hk).1)
  unfold Row
  rw [bc_app, List.length_append]
  exact h1
end

set_option maxHeartbeats 400000 in
theorem plain_any (c : Nat) (h : c < 256) (w : World) :
    Calls Tryz.prog 54 #[.int .u8 (c : Int)] w fun e w' => e = .returned (.bool (plainB c)) ∧ w = w' := by
  obtain ⟨R, hR⟩ : ∃ R, plainB c = R := ⟨_, rfl⟩
  rw [hR]
  have HR := hid hR
  clear hR
  go_enter Tryz.func54, Tryz.ntmps54
  go_wp2
  all_goals go_ret
  · have h34 : (c : Int) = 34 := by assumption
    have : c = 34 := by omega
    exact ⟨ret_bool (show false = R by rw [← HR.out, this]; rfl), rfl⟩
  · have h1 : (32 : Int) ≤ c := by assumption
    have h2 : (c : Int) ≤ 126 := by assumption
    have e : R = ((c : Int) != 34 && (c : Int) != 92) := by
      rw [← HR.out]
      unfold plainB
      rw [decide_eq_true (show 32 ≤ c by omega), decide_eq_true (show c ≤ 126 by omega), Bool.true_and, Bool.true_and]
      rw [Bool.eq_iff_iff]
      simp
      omega
    exact ⟨ret_bool e.symm, rfl⟩
  · have h2 : (126 : Int) < c := by assumption
    exact ⟨ret_bool (show false = R by rw [← HR.out]; unfold plainB; rw [decide_eq_false (show ¬ c ≤ 126 by omega)]; simp), rfl⟩
  · have h2 : (c : Int) < 32 := by assumption
    exact ⟨ret_bool (show false = R by rw [← HR.out]; unfold plainB; rw [decide_eq_false (show ¬ 32 ≤ c by omega)]; simp), rfl⟩

theorem hex_at (d : Nat) (h : d < 16) (W : World) : (Instr.index 9 (.string ⟨#[48, 49, 50, 51, 52, 53, 54, 55, 56, 57, 97, 98, 99, 100, 101, 102]⟩) (.int .u8 (d : Int))).run Tryz.prog W = .ok (.int .u8 ((dg d).toNat : Int)) W := by
  rcases (show d = 0 ∨ d = 1 ∨ d = 2 ∨ d = 3 ∨ d = 4 ∨ d = 5 ∨ d = 6 ∨ d = 7 ∨ d = 8 ∨ d = 9 ∨ d = 10 ∨ d = 11 ∨ d = 12 ∨ d = 13 ∨ d = 14 ∨ d = 15 by omega) with rfl | rfl | rfl | rfl | rfl | rfl | rfl | rfl | rfl | rfl | rfl | rfl | rfl | rfl | rfl | rfl <;> kernel_rfl

theorem string_at (s : ByteArray) (k : Nat) (h : k < s.size) (W : World) : (Instr.index 9 (.string s) (.int .i64 (k : Int))).run Tryz.prog W = .ok (.int .u8 (s[k].toNat : Int)) W := by
  have h0 : (0 : Int) ≤ (k : Int) := by omega
  simp [Instr.index, run_underlying Tryz.underlying9, asIntOf, h0, h]

set_option maxRecDepth 100000 in
theorem and15u8 : ∀ c : Nat, c < 256 → bits .and .u8 (c : Int) 15 = ((c % 16 : Nat) : Int) := by decide

theorem hex_get (i d : Nat) (h : d < 16) (e : i = d) (hb : i < (⟨#[48, 49, 50, 51, 52, 53, 54, 55, 56, 57, 97, 98, 99, 100, 101, 102]⟩ : ByteArray).size) : (((⟨#[48, 49, 50, 51, 52, 53, 54, 55, 56, 57, 97, 98, 99, 100, 101, 102]⟩ : ByteArray)[i]'hb).toNat : Int) = ((dg d).toNat : Int) := by
  subst e
  rcases (show i = 0 ∨ i = 1 ∨ i = 2 ∨ i = 3 ∨ i = 4 ∨ i = 5 ∨ i = 6 ∨ i = 7 ∨ i = 8 ∨ i = 9 ∨ i = 10 ∨ i = 11 ∨ i = 12 ∨ i = 13 ∨ i = 14 ∨ i = 15 by omega) with rfl | rfl | rfl | rfl | rfl | rfl | rfl | rfl | rfl | rfl | rfl | rfl | rfl | rfl | rfl | rfl <;> rfl
theorem three_new (w : World) (c d e : UInt8) (t : TypeId) (x y z : Int) (hx : x = (c.toNat : Int)) (hy : y = (d.toNat : Int)) (hz : z = (e.toNat : Int)) : ∀ j u, (bc [c, d, e])[j]? = some u → (w.alloc (.cells #[.int .u8 x, .int .u8 y, .int .u8 z] t)).cell? ((⟨w.heap.size, 0, Option.none⟩ : Addr).add j) = some u := by
  subst hx hy hz
  intro j u hu
  have hj : j < 3 := by
    rcases Nat.lt_or_ge j 3 with h | h
    · exact h
    · rw [List.getElem?_eq_none (by simpa [bc] using h)] at hu; cases hu
  rw [add_zero_off, World.cell?_alloc_at _ _ _ _ rfl, ← hu]
  rcases (show j = 0 ∨ j = 1 ∨ j = 2 by omega) with rfl | rfl | rfl <;> rfl

set_option maxHeartbeats 2000000 in
set_option maxRecDepth 100000 in
theorem quote_any (s : ByteArray) (hs : s.size ≤ 1000) (w : World) :
    Calls Tryz.prog 28 #[.string s] w fun e w' => e = .returned (.string ⟨(34 :: (quo s.data.toList ++ [34])).toArray⟩) ∧ Below w.heap.size w w' := by
  have HP : Hid (∀ (c : Nat) (W : World), c < 256 → Calls Tryz.prog 54 #[.int .u8 (c : Int)] W fun e w' => e = .returned (.bool (plainB c)) ∧ W = w') := fun c W hc => plain_any c hc W
  have HR0 : Hid (Row (w.alloc (.cells #[.int .u8 34] 5)) w.heap.size (.slice (some ⟨w.heap.size, 0, none⟩) 1 1) [34]) := kind_row w w.heap.size (Nat.le_refl _) 34 (by decide)
  go_enter Tryz.func28, Tryz.ntmps28
  go_wp2
  go_loopw [3, 8] (fun vb vi wr => ∃ k : Nat, k ≤ s.size ∧ vi = .int .i64 k ∧ Row wr w.heap.size vb (34 :: quo (s.data.toList.take k)) ∧ Below w.heap.size w wr) (fun _ vi _ => s.size - (intOf vi).toNat)
  case atStart => exact ⟨0, by omega, rfl, by simpa [quo] using HR0.out, below_new _ _⟩
  case round =>
    obtain ⟨k, hk, rfl, hR, hbel⟩ := hrel
    by_cases hlt : k < s.size
    · obtain ⟨c, hcc⟩ : ∃ c, s[k].toNat = c := ⟨_, rfl⟩
      have hc256 : c < 256 := by rw [← hcc]; exact UInt8.toNat_lt _
      have hidx : ∀ W, (Instr.index 9 (.string s) (.int .i64 (k : Int))).run Tryz.prog W = .ok (.int .u8 (c : Int)) W := fun W => by
        rw [← hcc]
        exact string_at s k hlt W
      have HN : Hid (34 :: quo (s.data.toList.take (k + 1)) = (34 :: quo (s.data.toList.take k)) ++ (if plainB c = true then [UInt8.ofNat c] else [92, dg (c / 16), dg (c % 16)])) := by
        show _ = _
        rw [take_snoc s k hlt, quo_app]
        simp only [quo, quoB, hcc, List.append_nil, List.cons_append]
        rw [← hcc]
        simp
      have HL : Hid ((34 :: quo (s.data.toList.take k)).length ≤ 3001) := by
        show _ ≤ _
        have h1 := quo_len (s.data.toList.take k)
        have h2 : (s.data.toList.take k).length ≤ k := List.length_take_le _ _
        simp only [List.length_cons]
        omega
      have HR := hid hR
      clear hR
      clear hcc
      cases hp : plainB c
      · have HPc : Hid (∀ W, Calls Tryz.prog 54 #[.int .u8 (c : Int)] W fun e w' => e = .returned (.bool false) ∧ W = w') := fun W => by rw [← hp]; exact HP.out c W hc256
        rw [hp] at HN
        clear hp
        have hk0 : (0 : Int) ≤ (k : Int) := by omega
        have hk1 : (k : Int) < (s.size : Int) := by omega
        go_wp2_with (go_at_call 54; refine (HPc.out _).mono ?_; rintro e w' ⟨rfl, rfl⟩)
        have hh1 := fun W => hex_at (c / 16) (by omega) W
        have hh2 := fun W => hex_at (c % 16) (by omega) W
        have hand := and15u8 c hc256
        go_region_held3 (fun w' => True) (trivial) ((refine step_append_bytes (by rfl) (.tmp 21) (.tmp 32) (by rfl) _ w.heap.size _ _ (by rfl) ((HR.out.alloc _)) ⟨wr.heap.size, 0, none⟩ 3 3 [92, dg (c / 16), dg (c % 16)] (by rfl) (by rfl) (three_new _ _ _ _ _ _ _ _ rfl (hex_get _ _ (by omega) (by omega) _) (hex_get _ _ (by omega) (by omega) _)) (by have := HL.out; simp only [List.length_cons, List.length_nil] at *; omega) (by have := hbel.size; simp; omega) ?_; intro v1 w1 hR1 hb1))
        all_goals (
          go_wp2
          go_roundw
          case rel =>
            refine ⟨k + 1, by omega, by go_num, ?_, (hbel.alloc hbel.size _).drew.trans hb1⟩
            rw [HN.out, if_neg (by decide)]
            exact hR1
          case measure => simp [intOf]; omega)
      · have HPc : Hid (∀ W, Calls Tryz.prog 54 #[.int .u8 (c : Int)] W fun e w' => e = .returned (.bool true) ∧ W = w') := fun W => by rw [← hp]; exact HP.out c W hc256
        rw [hp] at HN
        clear hp
        have HC1 : Hid ((c : Int) = ((UInt8.ofNat c).toNat : Int)) := by
          show _ = _
          rw [UInt8.toNat_ofNat']
          omega
        go_wp2_with (first | (go_at_call 54; refine (HPc.out _).mono ?_; rintro e w' ⟨rfl, rfl⟩) | (at_builtin; refine wpList_append_bytes rfl (.tmp 15) (.tmp 19) rfl _ w.heap.size _ _ rfl (HR.out.alloc _) ⟨wr.heap.size, 0, none⟩ 1 1 [UInt8.ofNat c] rfl rfl (one_new' _ _ _ _ HC1.out) (by have := HL.out; simp only [List.length_cons, List.length_nil] at *; omega) (by have := hbel.size; simp; omega) ?_; intro v1 w1 hR1 hb1))
        go_roundw
        case rel =>
          refine ⟨k + 1, by omega, by go_num, ?_, (hbel.alloc hbel.size _).trans hb1⟩
          rw [HN.out, if_pos trivial]
          exact hR1
        case measure => simp [intOf]; omega
    · obtain rfl : k = s.size := by omega
      have HR := hid hR
      clear hR
      have HL : Hid ((34 :: quo (s.data.toList.take s.size)).length ≤ 3001) := by
        show _ ≤ _
        have h1 := quo_len (s.data.toList.take s.size)
        have h2 : (s.data.toList.take s.size).length ≤ s.size := List.length_take_le _ _
        simp only [List.length_cons]
        omega
      go_wp2_with (at_builtin; refine wpList_append_bytes rfl (.tmp 35) (.tmp 36) rfl _ w.heap.size _ _ rfl (HR.out.alloc _) ⟨wr.heap.size, 0, none⟩ 1 1 [34] rfl rfl (one_new' _ _ _ _ rfl) (by have := HL.out; simp only [List.length_cons, List.length_nil] at *; omega) (by have := hbel.size; simp; omega) ?_; intro v1 w1 hR1 hb1; have hcv := row_convert hR1)
      go_ret
      refine ⟨?_, (hbel.alloc hbel.size _).trans hb1⟩
      rw [List.take_of_length_le (by simp)]
      rfl

end Go.Proofs.YtadehoibjpmhhaaGreatDoor
