/- Several texts in one: CC CD CE CM CN CO. Conditions: as each theorem names them. -/
import Derived.Test.YtpjkhholpbfbpaaDoorCB
import Derived.Deep.RegionHeld3
import Derived.Test.YtpjkhholpbfbpaaDoorWG
import Derived.Test.YtpjkhholpbfbpaaDoorMA
import Derived.Test.YtpjkhholpbfbpaaDoorMD
import Derived.Test.YtpjkhholpbfbpaaDoorMB
/- codec.Right at every cell, in one line. Conditions: the texts are no longer than any are, the number of the value one of 64 bits; the tables of utf8 read as they are laid. -/
namespace Go.Proofs.YtpjkhholpbfbpaaDoor
open Go.RowKit

theorem cright_any (r f q vs : ByteArray) (t k vk : Int) {vn : Int} (hn : inI vn) (hf : f.size ≤ 9223372036854775807) (hv : vs.size ≤ 9223372036854775807) (w : World) (hL : LaidU w) :
    Calls Tryd.prog 33 #[cellV r f q t k vk vn vs] w fun e w' => e = .returned (.bool (cRight r.data.toList f.data.toList q.data.toList t k vk vn vs.data.toList)) ∧ Below w.heap.size w w' := by
  have HN : ∀ W, Calls Tryd.prog 65 #[.string f] W fun e w' => e = .returned (.bool (nameB f.data.toList)) ∧ w' = W := fun W => name_any f hf W
  have HV : ∀ W, Below w.heap.size w W → Calls Tryd.prog 66 #[.agg #[.int .i64 vk, .int .i64 vn, .string vs]] W fun e w' => e = .returned (.bool (vRight vk vn vs.data.toList)) ∧ Below W.heap.size W w' := fun W hW => vright_any vk hn vs W hv (hL.below hW)
  have er : r.data.toList.length = r.size := rfl
  have eq : q.data.toList.length = q.size := rfl
  unfold cRight
  by_cases hh : cHead r.data.toList f.data.toList q.data.toList t = true
  · rw [hh, Bool.true_and]
    unfold cHead at hh
    rw [er, eq] at hh
    simp only [Bool.and_eq_true, decide_eq_true_eq] at hh
    obtain ⟨⟨h1, h2⟩, h3, h4, h5, h6⟩ := hh
    rw [h3] at HN
    unfold cTail
    by_cases k1 : k = 1
    · subst k1
      rw [if_pos rfl]
      exact cright_put r f q vs t vk vn _ h1 h2 h4 h5 h6 w HN HV
    · rw [if_neg k1]
      by_cases k23 : k = 2 ∨ k = 3
      · rw [if_pos k23]
        exact cright_gone r f q vs t k vk vn _ h1 h2 h4 h5 h6 k23 (noneOr vk vn vs) w HN
      · rw [if_neg k23]
        by_cases k4 : k = 4
        · subst k4
          rw [if_pos rfl]
          refine cright_fam r f q vs t vk vn _ h1 h2 h4 h5 h6 ?_ w HN
          by_cases hq : q.data.toList = []
          · have e : q = ⟨#[]⟩ := by cases q; simp_all
            subst e
            exact .inr ⟨rfl, noneOr vk vn vs⟩
          · refine .inl ⟨by rw [toList_eq]; exact hq, ?_⟩
            cases hl : q.data.toList with
            | nil => exact absurd hl hq
            | cons => rfl
        · rw [if_neg k4]
          exact cright_other r f q vs t k vk vn h1 h2 h4 h5 h6 k1 (fun e => k23 (.inl e)) (fun e => k23 (.inr e)) k4 w HN
  · have hF : cHead r.data.toList f.data.toList q.data.toList t = false := by simpa using hh
    rw [hF, Bool.false_and]
    refine cright_head r f q vs t k vk vn (nameB f.data.toList) ?_ w HN
    unfold cHead at hh
    rw [er, eq] at hh
    simp only [Bool.and_eq_true, decide_eq_true_eq] at hh
    by_cases h1 : r.size < 1 ∨ 16 < r.size
    · exact .inl h1
    · refine .inr ⟨h1, ?_⟩
      by_cases h2 : nameB f.data.toList = true
      · refine .inr ⟨h2, ?_⟩
        by_cases h3 : q.size ≤ 12
        · refine .inr ⟨h3, ?_⟩
          by_cases h4 : 0 ≤ t
          · refine .inr ⟨h4, ?_⟩
            have : ¬ t ≤ 1099511627776 := fun h5 => hh ⟨⟨by omega, by omega⟩, h2, h3, h4, h5⟩
            omega
          · exact .inl (by omega)
        · exact .inl (by omega)
      · exact .inl (by simpa using h2)
end Go.Proofs.YtpjkhholpbfbpaaDoor

/- codec.rank and cmp.Or at every input. Conditions: the list of numbers holds its numbers. -/
namespace Go.Proofs.YtpjkhholpbfbpaaDoor
open Go.RowKit

def rankC (k : Int) : Int := if k = 4 then 0 else 1
set_option maxHeartbeats 1000000 in
theorem crank_any (r f q vs : ByteArray) (t k vk vn : Int) (w : World) :
    Calls Tryd.prog 63 #[cellV r f q t k vk vn vs] w fun e w' => e = .returned (.int .i64 (rankC k)) ∧ Below w.heap.size w w' := by
  unfold rankC
  by_cases h : k = 4
  · subst h
    rw [if_pos rfl]
    go_enter Tryd.func63, Tryd.ntmps63
    go_wp2
    go_ret
    exact ⟨rfl, below_new _ _⟩
  · rw [if_neg h]
    have h0 : (k == 4) = false := by simpa using h
    go_enter Tryd.func63, Tryd.ntmps63
    go_wp2
    go_ret
    exact ⟨rfl, below_new _ _⟩

/-- The first that isn't nothing. -/
def orI : List Int → Int
  | [] => 0
  | x :: t => if x = 0 then orI t else x

set_option maxRecDepth 100000 in
set_option maxHeartbeats 1000000 in
theorem or_any (b n : Nat) (hn : n ≤ 1000) (l : List Int) (hl : l.length = n) (w : World) (hh : ∀ i (h : i < l.length), w.cell? ⟨b, i, none⟩ = some (.int .i64 l[i])) :
    Calls Tryd.prog 60 #[.slice (some ⟨b, 0, none⟩) n n] w fun e w' => e = .returned (.int .i64 (orI l)) ∧ w' = w := by
  have HH := hid hh
  have HL := hid hl
  clear hh hl
  go_enter Tryd.func60, Tryd.ntmps60
  go_wp2
  go_loopw [8] (fun vi wr => ∃ i : Nat, i ≤ n ∧ vi = .int .i64 i ∧ wr = w ∧ Hid (orI l = orI (l.drop i))) (fun vi _ => n - (intOf vi).toNat)
  case atStart => exact ⟨0, Nat.zero_le _, rfl, rfl, rfl⟩
  case round =>
    obtain ⟨i, hi, rfl, rfl, HO⟩ := hrel
    by_cases hlt : i < n
    · have hil : i < l.length := by rw [HL.out]; exact hlt
      have hc := HH.out i hil
      have HD : Hid (orI l = if l[i] = 0 then orI (l.drop (i + 1)) else l[i]) := by
        unfold Hid
        rw [HO.out, List.drop_eq_getElem_cons hil, orI]
      generalize l[i] = x at hc HD
      by_cases hx : x = 0
      · subst hx
        go_wp2
        go_roundw
        case rel => exact ⟨i + 1, by omega, by go_num, trivial, by unfold Hid; rw [HD.out, if_pos rfl]⟩
        case measure => simp [intOf]; omega
      · have q0 : (x != 0) = true := by simpa using hx
        go_wp2
        go_ret
        rw [HD.out, if_neg hx]
        exact ⟨rfl, rfl⟩
    · go_wp2
      go_ret
      rw [HO.out, List.drop_eq_nil_of_le (by have := HL.out; omega)]
      exact ⟨rfl, rfl⟩
end Go.Proofs.YtpjkhholpbfbpaaDoor

/- codec.Order at every two cells. Conditions: none. -/
namespace Go.Proofs.YtpjkhholpbfbpaaDoor
open Go.RowKit

/-- Two cells in blocks of the call's own. -/
abbrev TwoC (w : World) (r1 f1 q1 s1 : ByteArray) (t1 k1 vk1 vn1 : Int) (r2 f2 q2 s2 : ByteArray) (t2 k2 vk2 vn2 : Int) (w' : World) : Prop :=
  Hid (Below w.heap.size w w' ∧ w.heap.size + 1 < w'.heap.size) ∧ w'.cell? ⟨w.heap.size, 0, none⟩ = some (.string r1) ∧ w'.cell? ⟨w.heap.size, 1, none⟩ = some (.string f1) ∧ w'.cell? ⟨w.heap.size, 2, none⟩ = some (.string q1) ∧ w'.cell? ⟨w.heap.size, 3, none⟩ = some (.int .i64 t1) ∧ w'.cell? ⟨w.heap.size, 4, none⟩ = some (.int .i64 k1) ∧ w'.cell? ⟨w.heap.size, 5, none⟩ = some (.int .i64 vk1) ∧ w'.cell? ⟨w.heap.size, 6, none⟩ = some (.int .i64 vn1) ∧ w'.cell? ⟨w.heap.size, 7, none⟩ = some (.string s1) ∧ w'.cell? ⟨w.heap.size + 1, 0, none⟩ = some (.string r2) ∧ w'.cell? ⟨w.heap.size + 1, 1, none⟩ = some (.string f2) ∧ w'.cell? ⟨w.heap.size + 1, 2, none⟩ = some (.string q2) ∧ w'.cell? ⟨w.heap.size + 1, 3, none⟩ = some (.int .i64 t2) ∧ w'.cell? ⟨w.heap.size + 1, 4, none⟩ = some (.int .i64 k2) ∧ w'.cell? ⟨w.heap.size + 1, 5, none⟩ = some (.int .i64 vk2) ∧ w'.cell? ⟨w.heap.size + 1, 6, none⟩ = some (.int .i64 vn2) ∧ w'.cell? ⟨w.heap.size + 1, 7, none⟩ = some (.string s2)
section
variable {w W W' : World} {r1 f1 q1 s1 r2 f2 q2 s2 : ByteArray} {t1 k1 vk1 vn1 t2 k2 vk2 vn2 : Int}
theorem twoc_call (h : TwoC w r1 f1 q1 s1 t1 k1 vk1 vn1 r2 f2 q2 s2 t2 k2 vk2 vn2 W) (hb : Below W.heap.size W W') : TwoC w r1 f1 q1 s1 t1 k1 vk1 vn1 r2 f2 q2 s2 t2 k2 vk2 vn2 W' := by
  obtain ⟨hh, a0, a1, a2, a3, a4, a5, a6, a7, a8, a9, a10, a11, a12, a13, a14, a15⟩ := h
  obtain ⟨hbw, hz⟩ := hh.out
  have hc : ∀ b o, b ≤ w.heap.size + 1 → W'.cell? ⟨b, o, none⟩ = W.cell? ⟨b, o, none⟩ := fun b o h => hb.cell (p := ⟨b, o, none⟩) (show b < W.heap.size by omega)
  refine ⟨hid ⟨hbw.trans (hb.mono (by omega)), Nat.lt_of_lt_of_le hz hb.size⟩, ?_, ?_, ?_, ?_, ?_, ?_, ?_, ?_, ?_, ?_, ?_, ?_, ?_, ?_, ?_, ?_⟩ <;> (rw [hc _ _ (by omega)]; assumption)
theorem twoc_drew (h : TwoC w r1 f1 q1 s1 t1 k1 vk1 vn1 r2 f2 q2 s2 t2 k2 vk2 vn2 W) : TwoC w r1 f1 q1 s1 t1 k1 vk1 vn1 r2 f2 q2 s2 t2 k2 vk2 vn2 W.drew := by
  obtain ⟨hh, h⟩ := h
  exact ⟨hid ⟨hh.out.1.drew, hh.out.2⟩, h⟩
end
theorem or6 (x1 x2 x3 x4 x5 x6 : Int) (W : World) (T : TypeId) :
    Calls Tryd.prog 60 #[.slice (some ⟨W.heap.size, 0, none⟩) 6 6] (W.alloc (.cells #[.int .i64 x1, .int .i64 x2, .int .i64 x3, .int .i64 x4, .int .i64 x5, .int .i64 x6] T)) fun e w' => e = .returned (.int .i64 (orI [x1, x2, x3, x4, x5, x6])) ∧ Below (W.alloc (.cells #[.int .i64 x1, .int .i64 x2, .int .i64 x3, .int .i64 x4, .int .i64 x5, .int .i64 x6] T)).heap.size (W.alloc (.cells #[.int .i64 x1, .int .i64 x2, .int .i64 x3, .int .i64 x4, .int .i64 x5, .int .i64 x6] T)) w' := by
  refine (or_any W.heap.size 6 (by decide) [x1, x2, x3, x4, x5, x6] rfl _ fun i hi => ?_).mono fun e w' ⟨he, hw⟩ => ⟨he, by rw [hw]; exact Below.refl _ _⟩
  rw [(Blk.new W T _).cell i]
  match i, hi with
  | 0, _ => rfl
  | 1, _ => rfl
  | 2, _ => rfl
  | 3, _ => rfl
  | 4, _ => rfl
  | 5, _ => rfl

/-- Is one cell ahead of, at or behind the other? -/
def cOrd (r1 f1 q1 : List UInt8) (t1 k1 : Int) (r2 f2 q2 : List UInt8) (t2 k2 : Int) : Int :=
  orI [Lib.compareBytes r1 r2, Lib.compareBytes f1 f2, Lib.compareInt (rankC k1) (rankC k2), Lib.compareBytes q1 q2, Lib.compareInt t2 t1, Lib.compareInt k2 k1]

set_option maxRecDepth 100000 in
set_option maxHeartbeats 8000000 in
theorem corder_any (r1 f1 q1 s1 : ByteArray) (t1 k1 vk1 vn1 : Int) (r2 f2 q2 s2 : ByteArray) (t2 k2 vk2 vn2 : Int) (w : World) :
    Calls Tryd.prog 31 #[cellV r1 f1 q1 t1 k1 vk1 vn1 s1, cellV r2 f2 q2 t2 k2 vk2 vn2 s2] w fun e w' => e = .returned (.int .i64 (cOrd r1.data.toList f1.data.toList q1.data.toList t1 k1 r2.data.toList f2.data.toList q2.data.toList t2 k2)) ∧ Below w.heap.size w w' := by
  unfold cOrd
  generalize hz : orI [Lib.compareBytes r1.data.toList r2.data.toList, Lib.compareBytes f1.data.toList f2.data.toList, Lib.compareInt (rankC k1) (rankC k2), Lib.compareBytes q1.data.toList q2.data.toList, Lib.compareInt t2 t1, Lib.compareInt k2 k1] = z
  have HZ := hid hz
  clear hz
  go_enter Tryd.func31, Tryd.ntmps31
  go_wp2
  obtain ⟨W, hW⟩ : ∃ W, ((w.alloc (.cells #[.string r1, .string f1, .string q1, .int .i64 t1, .int .i64 k1, .int .i64 vk1, .int .i64 vn1, .string s1] 28)).alloc (.cells #[.string r2, .string f2, .string q2, .int .i64 t2, .int .i64 k2, .int .i64 vk2, .int .i64 vn2, .string s2] 28)) = W := ⟨_, rfl⟩
  have HT : Hid (TwoC w r1 f1 q1 s1 t1 k1 vk1 vn1 r2 f2 q2 s2 t2 k2 vk2 vn2 W) := by
    subst hW
    have B1 : Blk (w.alloc (.cells #[Value.string r1, .string f1, .string q1, .int .i64 t1, .int .i64 k1, .int .i64 vk1, .int .i64 vn1, .string s1] 28)) w.heap.size 28 #[Value.string r1, .string f1, .string q1, .int .i64 t1, .int .i64 k1, .int .i64 vk1, .int .i64 vn1, .string s1] := Blk.new w _ _
    have B2 := B1.keep (below_new _ (.cells #[Value.string r2, .string f2, .string q2, .int .i64 t2, .int .i64 k2, .int .i64 vk2, .int .i64 vn2, .string s2] 28)) (by simp)
    have B3 : Blk ((w.alloc (.cells #[Value.string r1, .string f1, .string q1, .int .i64 t1, .int .i64 k1, .int .i64 vk1, .int .i64 vn1, .string s1] 28)).alloc (.cells #[Value.string r2, .string f2, .string q2, .int .i64 t2, .int .i64 k2, .int .i64 vk2, .int .i64 vn2, .string s2] 28)) (w.heap.size + 1) 28 #[Value.string r2, .string f2, .string q2, .int .i64 t2, .int .i64 k2, .int .i64 vk2, .int .i64 vn2, .string s2] := by
      have := Blk.new (w.alloc (.cells #[Value.string r1, .string f1, .string q1, .int .i64 t1, .int .i64 k1, .int .i64 vk1, .int .i64 vn1, .string s1] 28)) 28 #[Value.string r2, .string f2, .string q2, .int .i64 t2, .int .i64 k2, .int .i64 vk2, .int .i64 vn2, .string s2]
      simpa using this
    exact ⟨hid ⟨(below_new w _).alloc (by simp) _, by simp⟩, B2.cell 0, B2.cell 1, B2.cell 2, B2.cell 3, B2.cell 4, B2.cell 5, B2.cell 6, B2.cell 7, B3.cell 0, B3.cell 1, B3.cell 2, B3.cell 3, B3.cell 4, B3.cell 5, B3.cell 6, B3.cell 7⟩
  rw [hW]
  clear hW
  obtain ⟨h0, c0, c1, c2, c3, c4, c5, c6, c7, d0, d1, d2, d3, d4, d5, d6, d7⟩ := HT.out
  go_region_held3 (fun w' => Hid (Below w.heap.size w w' ∧ w.heap.size + 1 < w'.heap.size) ∧ w'.cell? ⟨w.heap.size, 0, none⟩ = some (.string r1) ∧ w'.cell? ⟨w.heap.size, 1, none⟩ = some (.string f1) ∧ w'.cell? ⟨w.heap.size, 2, none⟩ = some (.string q1) ∧ w'.cell? ⟨w.heap.size, 3, none⟩ = some (.int .i64 t1) ∧ w'.cell? ⟨w.heap.size, 4, none⟩ = some (.int .i64 k1) ∧ w'.cell? ⟨w.heap.size, 5, none⟩ = some (.int .i64 vk1) ∧ w'.cell? ⟨w.heap.size, 6, none⟩ = some (.int .i64 vn1) ∧ w'.cell? ⟨w.heap.size, 7, none⟩ = some (.string s1) ∧ w'.cell? ⟨w.heap.size + 1, 0, none⟩ = some (.string r2) ∧ w'.cell? ⟨w.heap.size + 1, 1, none⟩ = some (.string f2) ∧ w'.cell? ⟨w.heap.size + 1, 2, none⟩ = some (.string q2) ∧ w'.cell? ⟨w.heap.size + 1, 3, none⟩ = some (.int .i64 t2) ∧ w'.cell? ⟨w.heap.size + 1, 4, none⟩ = some (.int .i64 k2) ∧ w'.cell? ⟨w.heap.size + 1, 5, none⟩ = some (.int .i64 vk2) ∧ w'.cell? ⟨w.heap.size + 1, 6, none⟩ = some (.int .i64 vn2) ∧ w'.cell? ⟨w.heap.size + 1, 7, none⟩ = some (.string s2))
    (first | exact HT.out | exact twoc_drew HT.out | exact twoc_call (by assumption) hbo | exact twoc_drew (by assumption) | assumption | exact twoc_call (by assumption) (below_new _ _) | exact twoc_call (twoc_call (by assumption) (below_new _ _)) hbo)
    (first
      | (go_at_call 61; ((with_reducible refine (Tryd.strings_Compare _ _ _).mono ?_); rintro e w5 ⟨rfl, rfl⟩))
      | (go_at_call 62; ((with_reducible refine (Tryd.cmp_Compare_int _ _ _).mono ?_); rintro e w5 ⟨rfl, rfl⟩))
      | (go_at_call 63; ((with_reducible refine (crank_any _ _ _ _ _ _ _ _ _).mono ?_); rintro e w5 ⟨rfl, hbo⟩))
      | (go_at_call 60; ((with_reducible refine (or6 _ _ _ _ _ _ _ _).mono ?_); rintro e w7 ⟨rfl, hbo⟩)))
  rename_i hLast
  go_wp2
  go_ret
  refine ⟨?_, hLast.1.out.1⟩
  rw [← HZ.out]
  rfl
end Go.Proofs.YtpjkhholpbfbpaaDoor

/- Plain mathematics of cells: their keys and bytes, in order as the cells are; what of bytes is a text, and whose bytes they are. No program in it. -/
namespace Go.Proofs.YtpjkhholpbfbpaaDoor
open Go.RowKit

/-- The time and the kind. -/
def tailM (t k : Int) : List UInt8 := byW 8 (9223372036854775807 - t).toNat ++ [UInt8.ofNat (255 - k).toNat]
/-- The qualifier, or that there is none. -/
def midM (q : List UInt8) (k : Int) : List UInt8 := if k = 4 then [0, 0] else esc q ++ [0, 1]
def keyM (r f q : List UInt8) (t k : Int) : List UInt8 := esc r ++ ([0, 1] ++ (esc f ++ ([0, 1] ++ (midM q k ++ tailM t k))))
def cEnc (r f q : List UInt8) (t k vk vn : Int) (vs : List UInt8) : List UInt8 := keyM r f q t k ++ (if k = 1 then vEnc vk vn vs else [])

theorem tail_len (t k : Int) : (tailM t k).length = 9 := by unfold tailM; rw [List.length_append, byW_len]; rfl
theorem lexC_left : ∀ (p u v : List UInt8), lexC (p ++ u) (p ++ v) = lexC u v
  | [], _, _ => rfl
  | a :: p, u, v => by
    show lexC (a :: (p ++ u)) (a :: (p ++ v)) = _
    rw [lexC, if_neg (by omega), if_neg (by omega)]; exact lexC_left p u v
/-- Two rows of one length, and what stands behind them. -/
theorem lexC_both : ∀ (x y u v : List UInt8), x.length = y.length → lexC (x ++ u) (y ++ v) = if lexC x y = 0 then lexC u v else lexC x y
  | [], [], u, v, _ => by rw [if_pos (show lexC [] [] = 0 from rfl)]; rfl
  | [], _ :: _, _, _, h => by simp at h
  | _ :: _, [], _, _, h => by simp at h
  | a :: x, b :: y, u, v, h => by
    show lexC (a :: (x ++ u)) (b :: (y ++ v)) = _
    rw [lexC, lexC]
    by_cases h1 : a.toNat < b.toNat
    · rw [if_pos h1, if_pos h1, if_neg (by decide)]
    · rw [if_neg h1, if_neg h1]
      by_cases h2 : b.toNat < a.toNat
      · rw [if_pos h2, if_pos h2, if_neg (by decide)]
      · rw [if_neg h2, if_neg h2]
        exact lexC_both x y u v (by simpa using h)
/-- A family's cell is ahead of all that stands in columns. -/
theorem fam_lex (q u v : List UInt8) : lexC (0 :: 0 :: u) (esc q ++ (0 :: 1 :: v)) = -1 ∧ lexC (esc q ++ (0 :: 1 :: v)) (0 :: 0 :: u) = 1 := by
  cases q with
  | nil =>
    show lexC (0 :: 0 :: u) (0 :: 1 :: v) = -1 ∧ lexC (0 :: 1 :: v) (0 :: 0 :: u) = 1
    constructor
    · rw [lexC, if_neg (by decide), if_neg (by decide), lexC, if_pos (by decide)]
    · rw [lexC, if_neg (by decide), if_neg (by decide), lexC, if_neg (by decide), if_pos (by decide)]
  | cons d t =>
    unfold esc
    by_cases h : d = 0
    · rw [if_pos h]
      show lexC (0 :: 0 :: u) (0 :: 255 :: _) = -1 ∧ lexC (0 :: 255 :: _) (0 :: 0 :: u) = 1
      constructor
      · rw [lexC, if_neg (by decide), if_neg (by decide), lexC, if_pos (by decide)]
      · rw [lexC, if_neg (by decide), if_neg (by decide), lexC, if_neg (by decide), if_pos (by decide)]
    · rw [if_neg h]
      have : ¬ d.toNat = 0 := fun e => h (UInt8.toNat_inj.1 e)
      have z : (0 : UInt8).toNat = 0 := rfl
      show lexC (0 :: 0 :: u) (d :: _) = -1 ∧ lexC (d :: _) (0 :: 0 :: u) = 1
      constructor
      · rw [lexC, z, if_pos (by omega)]
      · rw [lexC, z, if_neg (by omega), if_pos (by omega)]
theorem cmpI_compare (a b : Int) : Lib.compareInt a b = cmpI a b := by unfold Lib.compareInt cmpI; split <;> (try split) <;> (try split) <;> omega
theorem tail_lex {t1 k1 t2 k2 : Int} (h1 : 0 ≤ t1) (h2 : t1 ≤ 1099511627776) (h3 : 0 ≤ t2) (h4 : t2 ≤ 1099511627776) (h5 : 1 ≤ k1) (h6 : k1 ≤ 4) (h7 : 1 ≤ k2) (h8 : k2 ≤ 4) :
    lexC (tailM t1 k1) (tailM t2 k2) = orI [Lib.compareInt t2 t1, Lib.compareInt k2 k1] := by
  unfold tailM
  rw [lexC_both _ _ _ _ (by rw [byW_len, byW_len]), lexC_byW (by omega) (by omega)]
  have e1 : cmpI ((9223372036854775807 - t1).toNat : Int) ((9223372036854775807 - t2).toNat : Int) = Lib.compareInt t2 t1 := by
    unfold cmpI Lib.compareInt
    split <;> (try split) <;> (try split) <;> omega
  have e2 : lexC [UInt8.ofNat (255 - k1).toNat] [UInt8.ofNat (255 - k2).toNat] = Lib.compareInt k2 k1 := by
    have n1 : (UInt8.ofNat (255 - k1).toNat).toNat = (255 - k1).toNat := by rw [UInt8.toNat_ofNat']; omega
    have n2 : (UInt8.ofNat (255 - k2).toNat).toNat = (255 - k2).toNat := by rw [UInt8.toNat_ofNat']; omega
    rw [lexC, n1, n2]
    unfold Lib.compareInt
    by_cases a : k2 < k1
    · rw [if_pos (by omega), if_pos a]
    · rw [if_neg (by omega), if_neg a]
      by_cases b : k1 < k2
      · rw [if_pos (by omega), if_pos b]
      · rw [if_neg (by omega), if_neg b]; rfl
  rw [e1, e2]
  unfold orI orI orI
  split <;> rename_i h
  · split <;> omega
  · rfl

/-- What a right cell's parts are. -/
theorem cright_parts {r f q vs : List UInt8} {t k vk vn : Int} (h : cRight r f q t k vk vn vs = true) :
    1 ≤ r.length ∧ r.length ≤ 16 ∧ nameB f = true ∧ f.length ≤ 8 ∧ q.length ≤ 12 ∧ 0 ≤ t ∧ t ≤ 1099511627776 ∧ 1 ≤ k ∧ k ≤ 4 ∧ (k = 4 → q = []) ∧ (k = 1 → vRight vk vn vs = true) ∧ (k ≠ 1 → vk = 0 ∧ vn = 0 ∧ vs = []) := by
  unfold cRight cHead at h
  simp only [Bool.and_eq_true, decide_eq_true_eq] at h
  obtain ⟨⟨⟨h1, h2⟩, h3, h4, h5, h6⟩, h7⟩ := h
  have hf : f.length ≤ 8 := by unfold nameB at h3; simp only [Bool.and_eq_true, decide_eq_true_eq] at h3; exact h3.2.2
  have hz : ∀ {vk vn : Int} {vs : List UInt8}, zeroV vk vn vs = true → vk = 0 ∧ vn = 0 ∧ vs = [] := by
    intro vk vn vs h
    unfold zeroV at h
    simp only [Bool.and_eq_true, decide_eq_true_eq, List.isEmpty_iff] at h
    exact ⟨h.1, h.2.1, h.2.2⟩
  unfold cTail at h7
  refine ⟨h1, h2, h3, hf, h4, h5, h6, ?_⟩
  by_cases k1 : k = 1
  · rw [if_pos k1] at h7
    exact ⟨by omega, by omega, fun e => by omega, fun _ => h7, fun e => absurd k1 e⟩
  · rw [if_neg k1] at h7
    by_cases k23 : k = 2 ∨ k = 3
    · rw [if_pos k23] at h7
      exact ⟨by omega, by omega, fun e => by omega, fun e => absurd e k1, fun _ => hz h7⟩
    · rw [if_neg k23] at h7
      by_cases k4 : k = 4
      · rw [if_pos k4] at h7
        simp only [Bool.and_eq_true, List.isEmpty_iff] at h7
        exact ⟨by omega, by omega, fun _ => h7.1, fun e => absurd e k1, fun _ => hz h7.2⟩
      · rw [if_neg k4] at h7; cases h7

theorem orI_cons (x : Int) (l : List Int) : orI (x :: l) = if x = 0 then orI l else x := rfl
/-- The keys of right cells are in order as the cells are. -/
theorem key_lex {r1 f1 q1 vs1 : List UInt8} {t1 k1 vk1 vn1 : Int} {r2 f2 q2 vs2 : List UInt8} {t2 k2 vk2 vn2 : Int} (h1 : cRight r1 f1 q1 t1 k1 vk1 vn1 vs1 = true) (h2 : cRight r2 f2 q2 t2 k2 vk2 vn2 vs2 = true) :
    lexC (keyM r1 f1 q1 t1 k1) (keyM r2 f2 q2 t2 k2) = cOrd r1 f1 q1 t1 k1 r2 f2 q2 t2 k2 := by
  obtain ⟨_, _, _, _, _, a1, a2, a3, a4, a5, _, _⟩ := cright_parts h1
  obtain ⟨_, _, _, _, _, b1, b2, b3, b4, b5, _, _⟩ := cright_parts h2
  have ht := tail_lex a1 a2 b1 b2 a3 a4 b3 b4
  unfold keyM cOrd
  show lexC (esc r1 ++ (0 :: 1 :: (esc f1 ++ (0 :: 1 :: (midM q1 k1 ++ tailM t1 k1))))) (esc r2 ++ (0 :: 1 :: (esc f2 ++ (0 :: 1 :: (midM q2 k2 ++ tailM t2 k2))))) = _
  rw [esc_lex, orI_cons]
  split
  · rw [esc_lex, orI_cons]
    split
    · rw [orI_cons]
      unfold midM rankC
      by_cases c1 : k1 = 4
      · rw [if_pos c1, if_pos c1]
        by_cases c2 : k2 = 4
        · rw [if_pos c2, if_pos c2, if_pos (show Lib.compareInt 0 0 = 0 from rfl), a5 c1, b5 c2, orI_cons, if_pos (show Lib.compareBytes [] [] = 0 from rfl), lexC_left, ht]
        · rw [if_neg c2, if_neg c2, if_neg (show ¬ Lib.compareInt 0 1 = 0 by decide)]
          show lexC (0 :: 0 :: tailM t1 k1) ((esc q2 ++ [0, 1]) ++ tailM t2 k2) = _
          rw [List.append_assoc]
          exact (fam_lex q2 _ _).1
      · rw [if_neg c1, if_neg c1]
        by_cases c2 : k2 = 4
        · rw [if_pos c2, if_pos c2, if_neg (show ¬ Lib.compareInt 1 0 = 0 by decide)]
          show lexC ((esc q1 ++ [0, 1]) ++ tailM t1 k1) (0 :: 0 :: tailM t2 k2) = _
          rw [List.append_assoc]
          exact (fam_lex q1 _ _).2
        · rw [if_neg c2, if_neg c2, if_pos (show Lib.compareInt 1 1 = 0 from rfl), List.append_assoc, List.append_assoc]
          show lexC (esc q1 ++ (0 :: 1 :: tailM t1 k1)) (esc q2 ++ (0 :: 1 :: tailM t2 k2)) = _
          rw [esc_lex, orI_cons, ht]
    · rfl
  · rfl

theorem compareInt_zero {a b : Int} (h : Lib.compareInt a b = 0) : a = b := by unfold Lib.compareInt at h; split at h <;> (try split at h) <;> omega
/-- Only a cell's own place is its place. -/
theorem cOrd_zero {r1 f1 q1 : List UInt8} {t1 k1 : Int} {r2 f2 q2 : List UInt8} {t2 k2 : Int} (h : cOrd r1 f1 q1 t1 k1 r2 f2 q2 t2 k2 = 0) : r1 = r2 ∧ f1 = f2 ∧ q1 = q2 ∧ t1 = t2 ∧ k1 = k2 := by
  unfold cOrd at h
  rw [orI_cons] at h
  split at h
  · rename_i e1
    rw [orI_cons] at h
    split at h
    · rename_i e2
      rw [orI_cons] at h
      split at h
      · rw [orI_cons] at h
        split at h
        · rename_i e3
          rw [orI_cons] at h
          split at h
          · rename_i e4
            rw [orI_cons] at h
            split at h
            · rename_i e5
              exact ⟨cmpB_zero _ _ e1, cmpB_zero _ _ e2, cmpB_zero _ _ e3, (compareInt_zero e4).symm, (compareInt_zero e5).symm⟩
            · contradiction
          · contradiction
        · contradiction
      · contradiction
    · contradiction
  · contradiction

/-- The text at the beginning of bytes, and what stands behind it. -/
def rdT : List UInt8 → Option (List UInt8 × List UInt8)
  | [] => none
  | [_] => none
  | x :: y :: r => if x = 0 then (if y = 1 then some ([], r) else if y = 255 then (rdT r).map (fun p => (0 :: p.1, p.2)) else none) else (rdT (y :: r)).map fun p => (x :: p.1, p.2)
theorem rdT_other {x : UInt8} (h : ¬ x = 0) (l : List UInt8) : rdT (x :: l) = (rdT l).map fun p => (x :: p.1, p.2) := by
  cases l with
  | nil => rfl
  | cons y r => rw [rdT, if_neg h]
theorem rdT_esc : ∀ (s u : List UInt8), rdT (esc s ++ (0 :: 1 :: u)) = some (s, u)
  | [], u => by show rdT (0 :: 1 :: u) = _; rw [rdT, if_pos rfl, if_pos rfl]
  | c :: s, u => by
    unfold esc
    by_cases h : c = 0
    · rw [if_pos h]
      show rdT (0 :: 255 :: (esc s ++ (0 :: 1 :: u))) = _
      rw [rdT, if_pos rfl, if_neg (by decide), if_pos rfl, rdT_esc s u, h]; rfl
    · rw [if_neg h]
      show rdT (c :: (esc s ++ (0 :: 1 :: u))) = _
      rw [rdT_other h, rdT_esc s u]; rfl
theorem rdT_back : ∀ (n : Nat) (l s u : List UInt8), l.length ≤ n → rdT l = some (s, u) → l = esc s ++ (0 :: 1 :: u)
  | 0, l, s, u, hl, h => by
    have : l = [] := List.length_eq_zero_iff.1 (by omega)
    subst this; cases h
  | n + 1, [], s, u, hl, h => by cases h
  | n + 1, [x], s, u, hl, h => by cases h
  | n + 1, x :: y :: r, s, u, hl, h => by
    by_cases hx : x = 0
    · rw [rdT, if_pos hx] at h
      by_cases h1 : y = 1
      · rw [if_pos h1] at h
        cases h
        rw [hx, h1]; rfl
      · rw [if_neg h1] at h
        by_cases h2 : y = 255
        · rw [if_pos h2] at h
          cases hr : rdT r with
          | none => rw [hr] at h; cases h
          | some p =>
            obtain ⟨s', u'⟩ := p
            rw [hr] at h
            cases h
            rw [rdT_back n r s' u' (by simp at hl; omega) hr, hx, h2]; rfl
        · rw [if_neg h2] at h; cases h
    · rw [rdT_other hx] at h
      cases hr : rdT (y :: r) with
      | none => rw [hr] at h; cases h
      | some p =>
        obtain ⟨s', u'⟩ := p
        rw [hr] at h
        cases h
        rw [rdT_back n (y :: r) s' u' (by simp at hl ⊢; omega) hr]
        show _ = (if x = 0 then 0 :: 255 :: esc s' else x :: esc s') ++ _
        rw [if_neg hx]; rfl
theorem rdT_rest {l s u : List UInt8} (h : rdT l = some (s, u)) : l = esc s ++ (0 :: 1 :: u) := rdT_back _ l s u (Nat.le_refl _) h
end Go.Proofs.YtpjkhholpbfbpaaDoor

/- The reader's text, its two bytes and its time, at any bytes: each ends in what it reads or in the panic that tells of something else. Conditions: the reader holds the bytes, a hundred thousand at most. -/
namespace Go.Proofs.YtpjkhholpbfbpaaDoor
open Go.RowKit

theorem Row.but {w w' : World} {B rb : Nat} {v : Value} {l : List UInt8} (h : Row w B v l) (hb : But w.heap.size rb w w') (hr : rb < B) : Row w' B v l := by
  obtain ⟨h1, h2⟩ := h
  refine ⟨h1, ?_⟩
  rcases h2 with h2 | ⟨g, cap, cur, rfl, hB, hh, h3⟩
  · exact .inl h2
  · have hg : g < w.heap.size := by
      rcases Nat.lt_or_ge g w.heap.size with h' | h'
      · exact h'
      · rw [Array.getElem?_eq_none h'] at hh; cases hh
    exact .inr ⟨g, cap, cur, rfl, hB, by rw [hb.block g hg (by omega)]; exact hh, h3⟩
def lenAt (rb : Nat) (w : World) : Nat := match w.cell? ⟨rb, 0, none⟩ with | some (.slice _ m _) => m | _ => 0
theorem St.len {w : World} {rb : Nat} {l : List UInt8} (h : St w rb l) : lenAt rb w = l.length := by
  obtain ⟨⟨v, h1, A, c, rfl, _⟩, _⟩ := h
  unfold lenAt
  rw [h1]

def TxEnd (w : World) (rb : Nat) : Option (List UInt8 × List UInt8) → Ending → World → Prop
  | some p, e, w' => But w.heap.size rb w w' ∧ e = .returned (.string ⟨p.1.toArray⟩) ∧ St w' rb p.2
  | none, e, w' => But w.heap.size rb w w' ∧ e = otherP
theorem one_cons (rb : Nat) (x : UInt8) (t : List UInt8) (w : World) (h : St w rb (x :: t)) (y : Int) (hy : (x.toNat : Int) = y) :
    Calls Tryd.prog 71 #[.pointer (some ⟨rb, 0, none⟩)] w fun e w' => But w.heap.size rb w w' ∧ e = .returned (.int .u8 y) ∧ St w' rb t := by
  rw [← hy]; exact one_any rb (x :: t) w h

set_option maxRecDepth 100000 in
set_option maxHeartbeats 2000000 in
theorem rtext_any (rb : Nat) (l : List UInt8) (hl : l.length ≤ 100000) (w : World) (h : St w rb l) :
    Calls Tryd.prog 68 #[.pointer (some ⟨rb, 0, none⟩)] w (TxEnd w rb (rdT l)) := by
  have hlt := h.2.2
  have HLT := hid hlt
  go_enter Tryd.func68, Tryd.ntmps68
  go_wp2
  go_loopw [3] (fun vb wr => ∃ (s t : List UInt8), Row wr w.heap.size vb s ∧ Hid (rdT l = (rdT t).map fun p => (s ++ p.1, p.2)) ∧ Hid (St wr rb t) ∧ Hid (But w.heap.size rb w wr) ∧ Hid (s.length + t.length ≤ 100000)) (fun _ wr => lenAt rb wr)
  case atStart => exact ⟨[], l, Row.none _ _, by unfold Hid; cases rdT l <;> simp, h, But.refl _ _ _, by unfold Hid; simp; omega⟩
  case round =>
    obtain ⟨s, t, hR, HT, HS, HB, HL⟩ := hrel
    have HR := hid hR
    clear hR
    cases t with
    | nil =>
      have HO := hid (one_any rb [] wr HS.out)
      go_wp2_with (go_at_call 71; refine HO.out.mono ?_; rintro e w1 ⟨hb1, rfl⟩)
      refine ⟨rfl, ?_⟩
      rw [HT.out]
      exact ⟨HB.out.trans (hb1.mono HB.out.size), rfl⟩
    | cons x t =>
      by_cases hx : x = 0
      · subst hx
        have HO := hid (one_cons rb 0 t wr HS.out 0 rfl)
        cases t with
        | nil =>
          have HO2 : Hid (∀ W, St W rb [] → Calls Tryd.prog 71 #[.pointer (some ⟨rb, 0, none⟩)] W (OneEnd W rb [])) := fun W h => one_any rb [] W h
          go_wp2_with (first
            | (go_at_call 71; ((with_reducible refine HO.out.mono ?_); rintro e w1 ⟨hb1, rfl, hS1⟩))
            | (go_at_call 71; ((with_reducible refine (HO2.out _ hS1).mono ?_); rintro e w2 ⟨hb2, rfl⟩)))
          refine ⟨rfl, ?_⟩
          rw [HT.out]
          exact ⟨HB.out.trans ((hb1.trans (hb2.mono hb1.size)).mono HB.out.size), rfl⟩
        | cons y t =>
          obtain ⟨z, hz⟩ : ∃ z : Int, (y.toNat : Int) = z := ⟨_, rfl⟩
          have HZ := hid hz
          have HO2 : Hid (∀ W, St W rb (y :: t) → Calls Tryd.prog 71 #[.pointer (some ⟨rb, 0, none⟩)] W fun e w' => But W.heap.size rb W w' ∧ e = .returned (.int .u8 z) ∧ St w' rb t) := fun W h => one_cons rb y t W h z hz
          clear hz
          by_cases h1 : z = 1
          · subst h1
            have hcv : Hid (∀ W, Row W w.heap.size u3 s → (convert 22 9 u3).run Tryd.prog W = .ok (.string ⟨s.toArray⟩) W) := fun W h => row_convert h
            go_wp2_with (first
              | (go_at_call 71; ((with_reducible refine HO.out.mono ?_); rintro e w1 ⟨hb1, rfl, hS1⟩))
              | (go_at_call 71; ((with_reducible refine (HO2.out _ hS1).mono ?_); rintro e w2 ⟨hb2, rfl, hS2⟩; have hq := hcv.out w2 ((HR.out.but hb1 HLT.out).but hb2 HLT.out))))
            go_ret
            have e1 : y = 1 := UInt8.toNat_inj.1 (by have := HZ.out; have z : (1 : UInt8).toNat = 1 := rfl; omega)
            rw [HT.out, rdT, if_pos rfl, if_pos e1]
            refine ⟨HB.out.trans ((hb1.trans (hb2.mono hb1.size)).mono HB.out.size), ?_, hS2⟩
            simp
          · by_cases h2 : z = 255
            · subst h2
              go_wp2_with (first
                | (go_at_call 71; ((with_reducible refine HO.out.mono ?_); rintro e w1 ⟨hb1, rfl, hS1⟩))
                | (go_at_call 71; ((with_reducible refine (HO2.out _ hS1).mono ?_); rintro e w2 ⟨hb2, rfl, hS2⟩))
                | (go_at_call 72; refine (want_yes _ _).mono ?_; rintro e w3 ⟨rfl, rfl⟩)
                | (at_builtin; refine wpList_append_bytes rfl (.tmp 20) (.tmp 22) rfl _ w.heap.size _ s rfl (((HR.out.but hb1 HLT.out).but hb2 HLT.out).alloc _) ⟨w2.heap.size, 0, none⟩ 1 1 [0] rfl rfl (one_new' _ _ _ _ rfl) (by have := HL.out; simp only [List.length_cons, List.length_nil] at this ⊢; omega) (by have := HB.out.size; have := hb1.size; have := hb2.size; simp; omega) ?_; intro v1 w4 hR1 hb4))
              go_roundw
              case rel =>
                have hz1 : w.heap.size ≤ wr.heap.size := HB.out.size
                have hz2 : w.heap.size ≤ w2.heap.size := Nat.le_trans hz1 (Nat.le_trans hb1.size hb2.size)
                have hk4 : Below w.heap.size w2 w4 := ((Below.refl _ _).alloc hz2 _).trans hb4
                have e1 : y = 255 := UInt8.toNat_inj.1 (by have := HZ.out; have z : (255 : UInt8).toNat = 255 := rfl; omega)
                refine ⟨s ++ [0], t, hR1, ?_, hS2.keep (hk4.mono HLT.out), (HB.out.trans ((hb1.trans (hb2.mono hb1.size)).mono hz1)).trans (But.of_below hk4 rb), ?_⟩
                · unfold Hid
                  rw [HT.out, rdT, if_pos rfl, if_neg (by rw [e1]; decide), if_pos e1, Option.map_map]
                  congr 1
                  funext p
                  simp
                · have := HL.out
                  unfold Hid
                  simp only [List.length_append, List.length_cons, List.length_nil] at this ⊢
                  omega
              case measure =>
                have hz1 : w.heap.size ≤ wr.heap.size := HB.out.size
                have hz2 : w.heap.size ≤ w2.heap.size := Nat.le_trans hz1 (Nat.le_trans hb1.size hb2.size)
                have hk4 : Below w.heap.size w2 w4 := ((Below.refl _ _).alloc hz2 _).trans hb4
                rw [HS.out.len, (St.keep hS2 (hk4.mono HLT.out)).len]
                simp only [List.length_cons]
                omega
            · have q1 : (z == 1) = false := by simpa using h1
              have q2 : (z == 255) = false := by simpa using h2
              go_wp2_with (first
                | (go_at_call 71; ((with_reducible refine HO.out.mono ?_); rintro e w1 ⟨hb1, rfl, hS1⟩))
                | (go_at_call 71; ((with_reducible refine (HO2.out _ hS1).mono ?_); rintro e w2 ⟨hb2, rfl, hS2⟩))
                | (go_at_call 72; refine (want_no _ _).mono ?_; rintro e w3 ⟨rfl, rfl⟩))
              refine ⟨rfl, ?_⟩
              have e1 : ¬ y = 1 := fun e => h1 (by rw [← HZ.out, e]; rfl)
              have e2 : ¬ y = 255 := fun e => h2 (by rw [← HZ.out, e]; rfl)
              rw [HT.out, rdT, if_pos rfl, if_neg e1, if_neg e2]
              exact ⟨HB.out.trans ((hb1.trans (hb2.mono hb1.size)).mono HB.out.size), rfl⟩
      · obtain ⟨z, hz⟩ : ∃ z : Int, (x.toNat : Int) = z := ⟨_, rfl⟩
        have HZ := hid hz
        have HO := hid (one_cons rb x t wr HS.out z hz)
        have q0 : (z == 0) = false := by
          have : ¬ x.toNat = 0 := fun e => hx (UInt8.toNat_inj.1 e)
          simp; omega
        clear hz
        go_wp2_with (first
          | (go_at_call 71; ((with_reducible refine HO.out.mono ?_); rintro e w1 ⟨hb1, rfl, hS1⟩))
          | (at_builtin; refine wpList_append_bytes rfl (.tmp 20) (.tmp 22) rfl _ w.heap.size _ s rfl ((HR.out.but hb1 HLT.out).alloc _) ⟨w1.heap.size, 0, none⟩ 1 1 [x] rfl rfl (one_new' _ _ _ _ HZ.out.symm) (by have := HL.out; simp only [List.length_cons, List.length_nil] at this ⊢; omega) (by have := HB.out.size; have := hb1.size; simp; omega) ?_; intro v1 w4 hR1 hb4))
        go_roundw
        case rel =>
          have hz1 : w.heap.size ≤ wr.heap.size := HB.out.size
          have hz2 : w.heap.size ≤ w1.heap.size := Nat.le_trans hz1 hb1.size
          have hk4 : Below w.heap.size w1 w4 := ((Below.refl _ _).alloc hz2 _).trans hb4
          refine ⟨s ++ [x], t, hR1, ?_, hS1.keep (hk4.mono HLT.out), (HB.out.trans (hb1.mono hz1)).trans (But.of_below hk4 rb), ?_⟩
          · unfold Hid
            rw [HT.out, rdT_other hx, Option.map_map]
            congr 1
            funext p
            simp
          · have := HL.out
            unfold Hid
            simp only [List.length_append, List.length_cons, List.length_nil] at this ⊢
            omega
        case measure =>
          have hz1 : w.heap.size ≤ wr.heap.size := HB.out.size
          have hz2 : w.heap.size ≤ w1.heap.size := Nat.le_trans hz1 hb1.size
          have hk4 : Below w.heap.size w1 w4 := ((Below.refl _ _).alloc hz2 _).trans hb4
          rw [HS.out.len, (St.keep hS1 (hk4.mono HLT.out)).len]
          simp
end Go.Proofs.YtpjkhholpbfbpaaDoor

/- The reader's two bytes of nothing and its time, at any bytes. Conditions: the reader holds the bytes. -/
namespace Go.Proofs.YtpjkhholpbfbpaaDoor
open Go.RowKit

def SkEnd (w : World) (rb : Nat) (l : List UInt8) (e : Ending) (w' : World) : Prop :=
  (∃ r, l = 0 :: 0 :: r ∧ e = .returned (.bool true) ∧ St w' rb r ∧ But w.heap.size rb w w') ∨ ((∀ r, l ≠ 0 :: 0 :: r) ∧ e = .returned (.bool false) ∧ St w' rb l ∧ But w.heap.size rb w w')

set_option maxRecDepth 100000 in
set_option maxHeartbeats 2000000 in
theorem skip_short (rb m c : Nat) (A : Option Addr) (hm : m < 2) (w : World) (h0 : w.cell? ⟨rb, 0, none⟩ = some (.slice A m c)) :
    Calls Tryd.prog 69 #[.pointer (some ⟨rb, 0, none⟩), .int .u8 0, .int .u8 0] w fun e w' => e = .returned (.bool false) ∧ w = w' := by
  go_enter Tryd.func69, Tryd.ntmps69
  go_wp2
  go_ret
  exact ⟨rfl, rfl⟩

set_option maxRecDepth 100000 in
set_option maxHeartbeats 2000000 in
theorem skip_one (rb b off m c x : Nat) (hm : 2 ≤ m) (_hmc : m ≤ c) (_hc : c ≤ 9223372036854775807) (hx : ¬ x = 0) (w : World) (h0 : w.cell? ⟨rb, 0, none⟩ = some (.slice (some ⟨b, off, none⟩) m c)) (h1 : w.cell? ⟨b, off, none⟩ = some (.int .u8 (x : Int))) :
    Calls Tryd.prog 69 #[.pointer (some ⟨rb, 0, none⟩), .int .u8 0, .int .u8 0] w fun e w' => e = .returned (.bool false) ∧ w = w' := by
  have q0 : ((x : Int) == 0) = false := by simp; omega
  have q1 : ((x : Int) != 0) = true := by simp; omega
  go_enter Tryd.func69, Tryd.ntmps69
  go_wp2
  go_ret
  exact ⟨rfl, rfl⟩

set_option maxRecDepth 100000 in
set_option maxHeartbeats 2000000 in
theorem skip_two (rb b off m c y : Nat) (hm : 2 ≤ m) (_hmc : m ≤ c) (_hc : c ≤ 9223372036854775807) (hy : ¬ y = 0) (w : World) (h0 : w.cell? ⟨rb, 0, none⟩ = some (.slice (some ⟨b, off, none⟩) m c)) (h1 : w.cell? ⟨b, off, none⟩ = some (.int .u8 0)) (h2 : w.cell? ⟨b, off + 1, none⟩ = some (.int .u8 (y : Int))) :
    Calls Tryd.prog 69 #[.pointer (some ⟨rb, 0, none⟩), .int .u8 0, .int .u8 0] w fun e w' => e = .returned (.bool false) ∧ w = w' := by
  have q0 : ((y : Int) == 0) = false := by simp; omega
  have q1 : ((y : Int) != 0) = true := by simp; omega
  go_enter Tryd.func69, Tryd.ntmps69
  go_wp2
  go_ret
  exact ⟨rfl, rfl⟩

set_option maxRecDepth 100000 in
set_option maxHeartbeats 2000000 in
theorem skip_in (rb b off m c : Nat) (hm : 2 ≤ m) (_hmc : m ≤ c) (hc2 : 2 < c) (hc : c ≤ 9223372036854775807) (_hne : b ≠ rb) (w : World) (h0 : w.cell? ⟨rb, 0, none⟩ = some (.slice (some ⟨b, off, none⟩) m c)) (hf : w.frozen? ⟨rb, 0, none⟩ = false) (h1 : w.cell? ⟨b, off, none⟩ = some (.int .u8 0)) (h2 : w.cell? ⟨b, off + 1, none⟩ = some (.int .u8 0)) :
    Calls Tryd.prog 69 #[.pointer (some ⟨rb, 0, none⟩), .int .u8 0, .int .u8 0] w fun e w' => e = .returned (.bool true) ∧ w' = w.setCell ⟨rb, 0, none⟩ (.slice (some ⟨b, off + 2, none⟩) (m - 2) (c - 2)) := by
  go_enter Tryd.func69, Tryd.ntmps69
  go_wp2
  go_ret
  exact ⟨rfl, rfl⟩

set_option maxRecDepth 100000 in
set_option maxHeartbeats 2000000 in
theorem skip_all (rb b off : Nat) (_hne : b ≠ rb) (w : World) (h0 : w.cell? ⟨rb, 0, none⟩ = some (.slice (some ⟨b, off, none⟩) 2 2)) (hf : w.frozen? ⟨rb, 0, none⟩ = false) (h1 : w.cell? ⟨b, off, none⟩ = some (.int .u8 0)) (h2 : w.cell? ⟨b, off + 1, none⟩ = some (.int .u8 0)) :
    Calls Tryd.prog 69 #[.pointer (some ⟨rb, 0, none⟩), .int .u8 0, .int .u8 0] w fun e w' => e = .returned (.bool true) ∧ w' = w.setCell ⟨rb, 0, none⟩ (.slice (some ⟨b, off, none⟩) 0 0) := by
  go_enter Tryd.func69, Tryd.ntmps69
  go_wp2
  go_ret
  exact ⟨rfl, rfl⟩

theorem skip_any (rb : Nat) (l : List UInt8) (w : World) (h : St w rb l) :
    Calls Tryd.prog 69 #[.pointer (some ⟨rb, 0, none⟩), .int .u8 0, .int .u8 0] w (SkEnd w rb l) := by
  have hS := h
  obtain ⟨⟨v, h0, A, c, rfl, h2, h3, h4⟩, hf, hlt⟩ := h
  by_cases hs : l.length < 2
  · refine (skip_short rb l.length c A hs w h0).mono fun e w' ⟨he, hw⟩ => .inr ⟨fun r e => (by have := congrArg List.length e; simp at this; omega), he, by rw [← hw]; exact hS, by rw [← hw]; exact But.refl _ _ _⟩
  · match l, h0, h2, h4, hs, hS with
    | [], _, _, _, hs, _ => exact absurd (by simp) hs
    | [x], _, _, _, hs, _ => exact absurd (by simp) hs
    | x :: y :: t, h0, h2, h4, hs, hS =>
      obtain ⟨b, off, rfl, hb, hh⟩ := h4 (by simp)
      have hx := hh 0 (by simp)
      have hy := hh 1 (by simp)
      simp at hx hy
      by_cases zx : x = 0
      · subst zx
        by_cases zy : y = 0
        · subst zy
          have hB : But w.heap.size rb w (w.setCell ⟨rb, 0, none⟩ (restV b off (0 :: 0 :: t).length c 2)) := (But.refl _ _ _).setCell _ _
          have hR := (rd_rest (w := w) (rb := rb) (k := 2) (l := 0 :: 0 :: t) (by simp) h2 h3 hb hh).below (hB.low hlt)
          have fin : SkEnd w rb (0 :: 0 :: t) (.returned (.bool true)) (w.setCell ⟨rb, 0, none⟩ (restV b off (0 :: 0 :: t).length c 2)) :=
            .inl ⟨t, rfl, rfl, ⟨⟨_, cell_set_rb h0 _, hR⟩, by rw [World.frozen?_setCell]; exact hf, Nat.lt_of_lt_of_le hlt hB.size⟩, hB⟩
          unfold restV at fin
          by_cases hc2 : 2 < c
          · rw [if_pos hc2] at fin
            exact (skip_in rb b off (0 :: 0 :: t).length c (by simp) h2 hc2 h3 (by omega) w h0 hf hx hy).mono fun e w' ⟨he, hw⟩ => by rw [he, hw]; exact fin
          · rw [if_neg hc2] at fin
            have e0 : (0 :: 0 :: t : List UInt8).length = t.length + 2 := rfl
            have e1 : c = 2 := by omega
            have e2 : (0 :: 0 :: t : List UInt8).length = 2 := by omega
            subst e1
            rw [e2] at h0
            exact (skip_all rb b off (by omega) w h0 hf hx hy).mono fun e w' ⟨he, hw⟩ => by rw [he, hw]; exact fin
        · refine (skip_two rb b off (0 :: y :: t).length c y.toNat (by simp) h2 h3 (fun e => zy (UInt8.toNat_inj.1 e)) w h0 hx hy).mono fun e w' ⟨he, hw⟩ => .inr ⟨fun r e => ?_, he, by rw [← hw]; exact hS, by rw [← hw]; exact But.refl _ _ _⟩
          injection e with _ e; injection e with e _; exact zy e
      · refine (skip_one rb b off (x :: y :: t).length c x.toNat (by simp) h2 h3 (fun e => zx (UInt8.toNat_inj.1 e)) w h0 hx).mono fun e w' ⟨he, hw⟩ => .inr ⟨fun r e => ?_, he, by rw [← hw]; exact hS, by rw [← hw]; exact But.refl _ _ _⟩
        injection e with e _; exact zx e

def TmEnd (w : World) (rb : Nat) (l : List UInt8) (e : Ending) (w' : World) : Prop := But w.heap.size rb w w' ∧ if 8 ≤ l.length then e = .returned (.int .i64 (9223372036854775807 - (foldB (l.take 8) : Int))) ∧ St w' rb (l.drop 8) else e = otherP
set_option maxRecDepth 100000 in
set_option maxHeartbeats 2000000 in
theorem rtime_any (rb : Nat) (l : List UInt8) (w : World) (h : St w rb l) :
    Calls Tryd.prog 70 #[.pointer (some ⟨rb, 0, none⟩)] w (TmEnd w rb l) := by
  go_enter Tryd.func70, Tryd.ntmps70
  go_wp2
  go_loopw [3, 4] (fun vu vi wr => ∃ (i : Nat) (u : Int), i ≤ 8 ∧ vu = .int .u64 u ∧ vi = .int .i64 i ∧ 0 ≤ u ∧ Hid (u = (foldB (l.take i) : Int) ∧ i ≤ l.length) ∧ Hid (St wr rb (l.drop i)) ∧ Hid (But w.heap.size rb w wr)) (fun _ vi _ => 8 - (intOf vi).toNat)
  case atStart => exact ⟨0, 0, by omega, rfl, rfl, by omega, ⟨rfl, by omega⟩, by unfold Hid; simpa using h, But.refl _ _ _⟩
  case round =>
    obtain ⟨i, u, hi, rfl, rfl, hu, HU, HS, HB⟩ := hrel
    by_cases hlt : i < 8
    · have hub : u < 72057594037927936 := by
        have h1 := foldB_lt (l.take i)
        have h2 := HU.out
        have h3 : (l.take i).length = i := by simp; omega
        rw [h3] at h1
        have h4 : (256 : Nat) ^ i ≤ 256 ^ 7 := Nat.pow_le_pow_right (by decide) (by omega)
        omega
      cases hd : l.drop i with
      | nil =>
        have HO := HS.out
        rw [hd] at HO
        have HO := hid (one_any rb [] wr HO)
        have HE : Hid (¬ 8 ≤ l.length) := by
          have := congrArg List.length hd
          unfold Hid; simp at this; omega
        clear hd
        go_wp2_with (go_at_call 71; refine HO.out.mono ?_; rintro e w1 ⟨hb1, rfl⟩)
        refine ⟨rfl, ?_⟩
        unfold TmEnd
        rw [if_neg HE.out]
        exact ⟨HB.out.trans (hb1.mono HB.out.size), rfl⟩
      | cons x t =>
        have hS := HS.out
        rw [hd] at hS
        obtain ⟨z, hz⟩ : ∃ z : Int, (x.toNat : Int) = z := ⟨_, rfl⟩
        have HO := hid (one_cons rb x t wr hS z hz)
        have hx := u8_lt x
        have HV : Hid (bits .or .u64 (u * 256) z = u * 256 + z) := by rw [← hz]; exact or_byte hu hub x.toNat hx
        have hz0 : 0 ≤ z := by omega
        have hz1 : z < 256 := by omega
        have hil : i < l.length := by
          have := congrArg List.length hd
          simp at this; omega
        have HN : Hid (u * 256 + z = (foldB (l.take (i + 1)) : Int) ∧ i + 1 ≤ l.length ∧ l.drop (i + 1) = t) := by
          refine ⟨?_, by omega, ?_⟩
          · rw [foldB_take l i hil, HU.out.1, ← hz]
            rw [List.drop_eq_getElem_cons hil] at hd
            injection hd with e1 e2
            rw [List.getD_eq_getElem?_getD, List.getElem?_eq_getElem hil, Option.getD_some, e1]
            push_cast
            rfl
          · rw [List.drop_eq_getElem_cons hil] at hd
            injection hd
        clear hd hz hS hx hil
        go_wp2_with (go_at_call 71; refine HO.out.mono ?_; rintro e w1 ⟨hb1, rfl, hS1⟩)
        go_roundw
        case rel =>
          refine ⟨i + 1, _, by omega, rfl, by go_num, ?_, ⟨?_, HN.out.2.1⟩, by rw [HN.out.2.2]; exact hS1, HB.out.trans (hb1.mono HB.out.size)⟩
          · rw [HV.out]; omega
          · rw [HV.out]; exact HN.out.1
        case measure => simp [intOf]; omega
    · obtain rfl : i = 8 := by omega
      have h1 : (foldB (l.take 8) : Int) < 18446744073709551616 := by
        have h1 := foldB_lt (l.take 8)
        have h3 : (l.take 8).length = 8 := by have := HU.out.2; simp; omega
        rw [h3] at h1
        have : (256 : Nat) ^ 8 = 18446744073709551616 := by decide
        omega
      have HR : Hid (wrap64 (9223372036854775807 - wrap64 u) = 9223372036854775807 - (foldB (l.take 8) : Int)) := by
        unfold Hid wrap64; rw [HU.out.1]; omega
      clear h1 hlt hi
      go_wp2
      go_ret
      unfold TmEnd
      refine ⟨HB.out, ?_⟩
      rw [if_pos HU.out.2, ← HR.out]
      exact ⟨rfl, HS.out⟩
end Go.Proofs.YtpjkhholpbfbpaaDoor
