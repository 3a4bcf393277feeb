/- Rows of bytes that a call owns, and appending to them; val.appendInt and val.appendText. Conditions: rows of at most a million bytes. -/
import Derived.Test.YtadehoibjpmhhaaGreatDoorVB
import Derived.OwnWalk
import Derived.Deep.AppendLies
namespace Go.Proofs.YtadehoibjpmhhaaGreatDoor
open Go.RowKit

theorem info_u8 : (Tryz.prog.info? 5).map (fun i => (i.zero, i.size, i.bytes)) = some (some (.int .u8 0), 1, 1) := by kernel_rfl

/-- The slice v holds the bytes l in a row that belongs to the call (from block B on). -/
def Row (w : World) (B : Nat) (v : Value) (l : List UInt8) : Prop := w.ownsRow B 5 1 v l.length (bc l)

theorem Row.alloc {w : World} {B : Nat} {v : Value} {l : List UInt8} (h : Row w B v l) (o : Obj) : Row (w.alloc o) B v l := World.ownsRow.alloc h o
theorem Row.none (w : World) (B : Nat) : Row w B (.slice none 0 0) [] := ⟨rfl, .inl ⟨rfl, rfl⟩⟩
theorem Row.le {w : World} {B B' : Nat} {v : Value} {l : List UInt8} (h : Row w B v l) (hb : B' ≤ B) : Row w B' v l := Joins.ownsRow_le h hb
theorem bc_len (l : List UInt8) : (bc l).length = l.length := by unfold bc; simp
theorem bc_app (l m : List UInt8) : bc (l ++ m) = bc l ++ bc m := by unfold bc; simp
theorem bc_at (l : List UInt8) (i : Nat) : (bc l)[i]? = (l[i]?).map fun x => Value.int .u8 (x.toNat : Int) := by unfold bc; simp
theorem bc_one (l : List UInt8) : ∀ u ∈ bc l, u.oneCell' = true := by
  intro u hu
  obtain ⟨x, _, rfl⟩ := List.mem_map.1 hu
  rfl
/-- The form of a row that isn't empty, and its cells. -/
theorem Row.form {w : World} {B : Nat} {v : Value} {l : List UInt8} (h : Row w B v l) (hl : 0 < l.length) :
    ∃ g cap, v = .slice (some ⟨g, 0, Option.none⟩) l.length cap ∧ B ≤ g ∧ g < w.heap.size ∧ l.length ≤ cap ∧ ∀ i, i < l.length → w.cell? ⟨g, i, Option.none⟩ = some (.int .u8 ((l.getD i 0).toNat : Int)) := by
  obtain ⟨h1, h2⟩ := h
  rcases h2 with ⟨_, h0⟩ | ⟨g, cap, cur, rfl, hB, hh, hn, hm, hs, ht⟩
  · omega
  · refine ⟨g, cap, rfl, hB, ?_, hn, fun i hi => ?_⟩
    · rcases Nat.lt_or_ge g w.heap.size with h' | h'
      · exact h'
      · rw [Array.getElem?_eq_none h'] at hh; cases hh
    · rw [cell_of_row w g i cur _ (0, 0) hh]
      have : (cur.toList.take (l.length * 1))[i]? = (bc l)[i]? := by rw [ht]
      rw [List.getElem?_take_of_lt (by omega), bc_at, List.getElem?_eq_getElem hi] at this
      rw [← Array.getElem?_toList, this]
      simp [List.getElem?_eq_getElem hi]
/-- A fresh row of known cells. -/
theorem Row.new (w : World) (B : Nat) (hB : B ≤ w.heap.size) (l : List UInt8) (hl : l.length ≤ maxLen) : Row (w.alloc (.cells (bc l).toArray 5)) B (.slice (some ⟨w.heap.size, 0, Option.none⟩) l.length l.length) l := by
  refine ⟨by rw [bc_len]; omega, .inr ⟨w.heap.size, l.length, (bc l).toArray, rfl, hB, ?_, Nat.le_refl _, hl, by simp [bc_len], ?_⟩⟩
  · exact heap_alloc_new w _
  · simp [← bc_len l]
/-- What lies below the row's block may change. -/
theorem Row.keep {w w' : World} {B B' : Nat} {v : Value} {l : List UInt8} (h : Row w B v l) (hb : Below B' w w') (hg : ∀ g, v.ownBlock = some g → g < B') : Row w' B v l := by
  obtain ⟨h1, h2⟩ := h
  refine ⟨h1, ?_⟩
  rcases h2 with h2 | ⟨g, cap, cur, rfl, hB, hh, hr⟩
  · exact .inl h2
  · exact .inr ⟨g, cap, cur, rfl, hB, by rw [hb.block g (hg g rfl)]; exact hh, hr⟩
theorem Row.block_lt {w : World} {B : Nat} {v : Value} {l : List UInt8} (h : Row w B v l) : ∀ g, v.ownBlock = some g → g < w.heap.size := fun g hg => (World.ownsRow.lt h g hg).2

section
variable {ops : Array Oper} {rest : List Oper} {o : Oper} {a : Act} {Q : Exit → Act → World → Prop}
/-- append of some bytes to a row of the call's own. -/
theorem wpList_append_bytes (hgd : o.guard = Option.none) (s x : Operand)
    (ho : o.op = .call { callee := .builtin .append, args := #[s, x], argTypes := #[22, 22] })
    (w : World) (base : Nat) (v : Value) (l : List UInt8) (hs : a.eval s = v) (hown : Row w base v l)
    (ad : Addr) (m c : Nat) (news : List UInt8) (hm : news.length = m) (hx : a.eval x = .slice (some ad) m c) (hnews : ∀ j u, (bc news)[j]? = some u → w.cell? (ad.add j) = some u)
    (hlen : l.length + news.length ≤ 1000000) (hbase : base ≤ w.heap.size)
    (h : ∀ v' w', Row w' base v' (l ++ news) → Below base w w' → wpList Tryz.prog ops Q rest (a.put o.dst v') w') : wpList Tryz.prog ops Q (o :: rest) a w := by
  obtain ⟨i0, hi, hz0, hz1, hz2⟩ := info_parts info_u8
  subst hm
  refine wpList_append_own w hgd s x 22 ho base 5 i0 (.int .u8 0) 1 1 Tryz.underlying22 hi hz0 hz1 hz2 rfl (by decide) v l.length (bc l) hs hown ad news.length c (bc news) hx (by rw [bc_len]; omega) hnews (bc_one _) (by unfold maxLen; omega) (by omega) hbase ?_
  intro v' w' h1 h2 _
  refine h v' w' ?_ ((Below.refl _ _).grown h2 hbase fun k hk => (World.ownsRow.lt hown k hk).1)
  unfold Row
  rw [bc_app, List.length_append]
  exact h1
end

theorem xor_sign64 {n : Int} (h : inI n) : bits .xor .u64 (IntKind.u64.wrap n) 9223372036854775808 = (upI n : Int) := by
  unfold inI at h
  rw [IntKind.wrap_u64, u64_xor _ _ (by omega) (by omega) (by omega) (by omega)]
  unfold upI
  rw [show (9223372036854775808 : Int).toNat = 2 ^ 63 from rfl]
  by_cases hn : n < 0
  · obtain ⟨r, hr⟩ : ∃ r : Nat, n + 9223372036854775808 = r := ⟨(n + 9223372036854775808).toNat, by omega⟩
    have e : (n % 18446744073709551616).toNat = r ^^^ 2 ^ 63 := by rw [xor_top r (by omega)]; omega
    rw [e, Nat.xor_assoc, Nat.xor_self, Nat.xor_zero]
    omega
  · rw [xor_top _ (by omega)]
    omega

theorem cell_one (w : World) (x : Value) (t : TypeId) : (w.alloc (.cells #[x] t)).cell? ⟨w.heap.size, 0, Option.none⟩ = some x := by
  rw [World.cell?_alloc_at _ _ _ _ rfl]; rfl

/-- One byte more, however its number is spelled. -/
theorem one_new' (w : World) (c : UInt8) (t : TypeId) (x : Int) (hx : x = (c.toNat : Int)) : ∀ j u, (bc [c])[j]? = some u → (w.alloc (.cells #[.int .u8 x] t)).cell? ((⟨w.heap.size, 0, Option.none⟩ : Addr).add j) = some u := by
  subst hx
  intro j u hu
  match j, hu with
  | 0, hu =>
    have : u = .int .u8 (c.toNat : Int) := by simpa [bc] using hu.symm
    subst this
    exact cell_one _ _ _
  | j + 1, hu => simp [bc] at hu
/-- One byte more. -/
theorem one_new (w : World) (c : UInt8) (t : TypeId) : ∀ j u, (bc [c])[j]? = some u → (w.alloc (.cells #[.int .u8 (c.toNat : Int)] t)).cell? ((⟨w.heap.size, 0, Option.none⟩ : Addr).add j) = some u := by
  intro j u hu
  match j, hu with
  | 0, hu =>
    have : u = .int .u8 (c.toNat : Int) := by simpa [bc] using hu.symm
    subst this
    exact cell_one _ _ _
  | j + 1, hu => simp [bc] at hu

theorem byW_at (k r : Nat) : ∀ i, i < k → (byW k r)[i]? = some (UInt8.ofNat (r / 256 ^ (k - 1 - i) % 256)) := by
  induction k with
  | zero => intro i hi; omega
  | succ k ih =>
    intro i hi
    rw [byW_cons]
    match i, hi with
    | 0, _ => rfl
    | i + 1, hi =>
      rw [List.getElem?_cons_succ, ih i (by omega)]
      congr 5
      omega
theorem byW_take (k r i : Nat) (h : i < k) : (byW k r).take (i + 1) = (byW k r).take i ++ [UInt8.ofNat (r / 256 ^ (k - 1 - i) % 256)] := by
  have hl : i < (byW k r).length := by rw [byW_len]; exact h
  rw [List.take_succ_eq_append_getElem hl]
  have := byW_at k r i h
  rw [List.getElem?_eq_getElem hl] at this
  rw [Option.some.inj this]

set_option maxHeartbeats 1000000 in
theorem appendInt_any {n : Int} (hn : inI n) (B : Nat) (v : Value) (l : List UInt8) (hl : l.length ≤ 1000) (w : World) (hown : Row w B v l) (hB : B ≤ w.heap.size) :
    Calls Tryz.prog 22 #[v, .int .i64 n] w fun e w' => ∃ v', e = .returned v' ∧ Row w' B v' (l ++ byW 8 (upI n)) ∧ Below B w w' := by
  have hx := xor_sign64 hn
  have hlt := upI_lt hn
  obtain ⟨u, hu⟩ : ∃ u, upI n = u := ⟨_, rfl⟩
  rw [hu] at hx ⊢
  obtain ⟨U, hU⟩ : ∃ U : Int, (u : Int) = U := ⟨_, rfl⟩
  rw [hU] at hx
  have HU := hid hU
  clear hu hn hU hlt
  go_enter Tryz.func22, Tryz.ntmps22
  go_wp2
  clear hx
  go_loopw [0, 10] (fun vb vi wr => ∃ i : Int, 0 ≤ i ∧ i ≤ 8 ∧ vi = .int .i64 i ∧ Row wr B vb (l ++ (byW 8 u).take i.toNat) ∧ Below B w wr) (fun _ vi _ => 8 - (intOf vi).toNat)
  case atStart => exact ⟨0, by omega, by omega, rfl, by simpa using hown, Below.refl _ _⟩
  case round =>
    obtain ⟨i, h0, hi, rfl, hR, hbel⟩ := hrel
    by_cases h8 : i < 8
    · have HR := hid hR
      have HC : Hid (U / 2 ^ (8 * (7 - i)).toNat % 256 = ((UInt8.ofNat (u / 256 ^ (8 - 1 - i.toNat) % 256)).toNat : Int)) := by
        rw [← HU.out, show (8 * (7 - i)).toNat = 8 * (8 - 1 - i.toNat) by omega]
        exact byte_at u _
      have HL : Hid ((l ++ (byW 8 u).take i.toNat).length ≤ 1008) := by
        unfold Hid
        rw [List.length_append, List.length_take, byW_len]
        omega
      have HN : Hid (l ++ (byW 8 u).take (i.toNat + 1) = l ++ (byW 8 u).take i.toNat ++ [UInt8.ofNat (u / 256 ^ (8 - 1 - i.toNat) % 256)]) := by
        unfold Hid
        rw [byW_take 8 u i.toNat (by omega), List.append_assoc]
      clear hR
      go_wp2_with (at_builtin; refine wpList_append_bytes rfl _ _ rfl _ B _ _ rfl (HR.out.alloc _) ⟨wr.heap.size, 0, none⟩ 1 1 [UInt8.ofNat (u / 256 ^ (8 - 1 - i.toNat) % 256)] rfl rfl (one_new' _ _ _ _ HC.out) (by have := HL.out; simp only [List.length_cons, List.length_nil]; omega) (by have := hbel.size; simp; omega) ?_; intro v' w' hR' hb')
      go_roundw
      case rel =>
        refine ⟨i + 1, by omega, by omega, rfl, ?_, (hbel.alloc (by have := hbel.size; omega) _).trans hb'⟩
        rw [show (i + 1).toNat = i.toNat + 1 by omega, HN.out]
        exact hR'
      case measure => simp [intOf]; omega
    · obtain rfl : i = 8 := by omega
      have HR := hid hR
      clear hR
      go_wp2
      go_ret
      refine ⟨_, rfl, ?_, hbel⟩
      have := HR.out
      rwa [show (8 : Int).toNat = 8 from rfl, List.take_of_length_le (by rw [byW_len]; omega)] at this

end Go.Proofs.YtadehoibjpmhhaaGreatDoor
