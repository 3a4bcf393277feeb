/- Several texts in one: HF SD HG HH HI. Conditions: as each theorem names them. -/
import Derived.Test.YtdjaofbjmnmlbaaDoorG0CellOrder
import Derived.Test.YtdjaofbjmnmlbaaDoorCC
import Derived.Test.YtdjaofbjmnmlbaaDoorSC
import Derived.Defers
import Derived.Recover
import Derived.Deep.RegionHeld3
import Derived.RegionTactic
/- cell.Sort at every list of cells: the right ones in order, of each place the last one. Conditions: a hundred thousand cells at most, their texts no longer than any are, their numbers of 64 bits; the tables of utf8 read as they are laid. -/
namespace Go.Proofs.YtdjaofbjmnmlbaaDoor
open Go.RowKit

/-- A cell as a program may hold it. -/
def okC (c : CT) : Prop := c.f.size ≤ 9223372036854775807 ∧ c.s.size ≤ 9223372036854775807 ∧ inI c.vn
/-- Is a cell right? -/
def CT.ok (c : CT) : Bool := cRight c.r.data.toList c.f.data.toList c.q.data.toList c.t c.k c.vk c.vn c.s.data.toList
theorem cright_ct (c : CT) (h : okC c) (w : World) (hL : LaidU w) : Calls Tryd.prog 58 #[c.v] w fun e w' => e = .returned (.bool c.ok) ∧ Below w.heap.size w w' :=
  cright_any c.r c.f c.q c.s c.t c.k c.vk h.2.2 h.1 h.2.1 w hL

theorem lasts_len : ∀ s : List CT, (lastsM s).length ≤ s.length
  | [] => Nat.le_refl _
  | [x] => Nat.le_refl _
  | x :: y :: t => by
    have := lasts_len (y :: t)
    show (if CT.cmp x y = 0 then lastsM (y :: t) else x :: lastsM (y :: t)).length ≤ _
    split
    · simp only [List.length_cons] at *; omega
    · simp only [List.length_cons] at *; omega

set_option maxHeartbeats 1000000 in
theorem lasts_any (B : Nat) (v : Value) (s : List CT) (hs : s.length ≤ 100000) (w : World) (h : CRow w B v s) (hB : B ≤ w.heap.size) :
    Calls Tryd.prog 74 #[v] w fun e w' => ∃ v', e = .returned v' ∧ CRow w' B v' (lastsM s) ∧ Below B w w' := by
  have h' := h
  rcases h.2 with ⟨e, hz⟩ | ⟨g, cap, cur, e, hBg, hb, _⟩
  · have e0 : s = [] := List.eq_nil_of_length_eq_zero hz
    subst e0 e
    have HN := hid (CRow.none w B)
    clear h h'
    go_enter Tryd.func74, Tryd.ntmps74
    go_wp2
    go_loopw [3, 10] (fun vo vi wr => vi = .int .i64 0 ∧ vo = .slice none 0 0 ∧ wr = w) (fun _ _ _ => 0)
    case atStart => exact ⟨rfl, rfl, rfl⟩
    case round =>
      obtain ⟨rfl, rfl, rfl⟩ := hrel
      go_wp2
      go_ret
      exact ⟨_, rfl, HN.out, Below.refl _ _⟩
  · subst e
    exact lasts_some B g cap s hs w h' hB hBg (Array.getElem?_eq_some_iff.1 hb).1

set_option maxHeartbeats 4000000 in
set_option maxRecDepth 100000 in
theorem csort_any (v : Value) (l : List CT) (hl : l.length ≤ 100000) (w : World) (h : ClA w v l) (hok : ∀ c ∈ l, okC c) (hL : LaidU w) :
    Calls Tryd.prog 25 #[v] w fun e w' => ∃ v' l', e = .returned v' ∧ StbL (l.filter CT.ok) l' ∧ CRow w' w.heap.size v' (lastsM (l'.map Prod.fst)) ∧ Below w.heap.size w w' := by
  obtain ⟨A, cc, rfl, hc1, hc2, hh⟩ := h
  obtain ⟨n, hn⟩ : ∃ n, l.length = n := ⟨_, rfl⟩
  have HN := hid hn
  rw [hn] at hl hc1 hh ⊢
  have HH := hid hh
  have HOK := hid hok
  have HLw := hid hL
  have HR : Hid (∀ (c : CT) (W : World), okC c → Below w.heap.size w W → Calls Tryd.prog 58 #[c.v] W fun e w' => e = .returned (.bool c.ok) ∧ Below W.heap.size W w') := fun c W h1 h2 => cright_ct c h1 W (hL.below h2)
  have HSt := hid sortStable_any
  have HLa := hid lasts_any
  have HN0 := hid (CRow.none w w.heap.size)
  clear hn hh hok hL
  go_enter Tryd.func25, Tryd.ntmps25
  go_wp2
  go_loopw [3, 8] (fun vo vi wr => ∃ i : Nat, i ≤ n ∧ vi = .int .i64 i ∧ Hid (CRow wr w.heap.size vo ((l.take i).filter CT.ok)) ∧ Hid (Below w.heap.size w wr)) (fun _ vi _ => n - (intOf vi).toNat)
  case atStart => exact ⟨0, Nat.zero_le _, rfl, HN0.out, Below.refl _ _⟩
  case round =>
    obtain ⟨i, hi, rfl, HO, HB⟩ := hrel
    by_cases hlt : i < n
    · have hin : i < l.length := by rw [HN.out]; exact hlt
      have hltz : (i : Int) < (n : Int) := by omega
      obtain ⟨b, off, rfl, hhc⟩ := HH.out (by omega)
      have hbw : b < w.heap.size := hhc.lt (by omega)
      obtain ⟨c, hc⟩ : ∃ c, l[i] = c := ⟨_, rfl⟩
      have P : wr.cell? ⟨b, off + i * 8, none⟩ = some (.string c.r) ∧ wr.cell? ⟨b, off + i * 8 + 1, none⟩ = some (.string c.f) ∧ wr.cell? ⟨b, off + i * 8 + 2, none⟩ = some (.string c.q) ∧ wr.cell? ⟨b, off + i * 8 + 3, none⟩ = some (.int .i64 c.t) ∧ wr.cell? ⟨b, off + i * 8 + 4, none⟩ = some (.int .i64 c.k) ∧ wr.cell? ⟨b, off + i * 8 + 5, none⟩ = some (.int .i64 c.vk) ∧ wr.cell? ⟨b, off + i * 8 + 6, none⟩ = some (.int .i64 c.vn) ∧ wr.cell? ⟨b, off + i * 8 + 7, none⟩ = some (.string c.s) := by
        rw [← hc]
        exact (hhc.below HB.out hbw).words i hin
      have hoc : okC c := by rw [← hc]; exact HOK.out _ (List.getElem_mem hin)
      have HTk : Hid ((l.take (i + 1)).filter CT.ok = (l.take i).filter CT.ok ++ (if c.ok = true then [c] else [])) := by
        unfold Hid
        rw [List.take_add_one, List.getElem?_eq_getElem hin, List.filter_append, hc]
        show _ ++ List.filter CT.ok [c] = _
        simp only [List.filter_cons, List.filter_nil]
      have HLn : Hid (((l.take i).filter CT.ok).length ≤ 100000) := by
        have := List.length_filter_le CT.ok (l.take i)
        rw [List.length_take] at this
        unfold Hid; omega
      obtain ⟨p0, p1, p2, p3, p4, p5, p6, p7⟩ := P
      clear hc hhc
      go_upto_region 5 with (fail)
      obtain ⟨bb, hbb⟩ : ∃ bb, wr.heap.size = bb := ⟨_, rfl⟩
      refine wp_ltc (fun W => Hid (Blk W bb 28 c.e.toArray ∧ Below wr.heap.size wr W ∧ bb = wr.heap.size) ∧ W.cell? ⟨bb, 0, none⟩ = some (.string c.r) ∧ W.cell? ⟨bb, 1, none⟩ = some (.string c.f) ∧ W.cell? ⟨bb, 2, none⟩ = some (.string c.q) ∧ W.cell? ⟨bb, 3, none⟩ = some (.int .i64 c.t) ∧ W.cell? ⟨bb, 4, none⟩ = some (.int .i64 c.k) ∧ W.cell? ⟨bb, 5, none⟩ = some (.int .i64 c.vk) ∧ W.cell? ⟨bb, 6, none⟩ = some (.int .i64 c.vn) ∧ W.cell? ⟨bb, 7, none⟩ = some (.string c.s)) (by rw [← hbb]; have hB := Blk.new wr 28 c.e.toArray; exact ⟨⟨hB, below_new _ _, rfl⟩, blk_words hB⟩) (fun W hW => ?_)
      rw [hbb]
      obtain ⟨HW, b0, b1, b2, b3, b4, b5, b6, b7⟩ := hW
      have HB2 : Hid (Below w.heap.size w W) := HB.out.trans (HW.out.2.1.mono HB.out.size)
      have HO2 : Hid (CRow W w.heap.size _ ((l.take i).filter CT.ok)) := HO.out.below HW.out.2.1
      have hR := HR.out c W hoc HB2.out
      clear p0 p1 p2 p3 p4 p5 p6 p7 hbb HO HB
      cases hck : c.ok with
      | false =>
        rw [hck] at hR HTk
        have HR2 := hid hR
        have HT2 : Hid ((l.take (i + 1)).filter CT.ok = (l.take i).filter CT.ok) := by have := HTk.out; rwa [if_neg (by decide), List.append_nil] at this
        clear hR hck
        go_wp2_with (go_at_call 58; refine HR2.out.mono ?_; rintro e w5 ⟨rfl, hb5⟩)
        go_roundw
        case rel => exact ⟨i + 1, by omega, by go_num, by rw [HT2.out]; exact HO2.out.below hb5, HB2.out.trans (hb5.mono HB2.out.size)⟩
        case measure => simp [intOf]; omega
      | true =>
        rw [hck] at hR HTk
        have HR2 := hid hR
        have HT2 : Hid ((l.take (i + 1)).filter CT.ok = (l.take i).filter CT.ok ++ [c]) := by have := HTk.out; rwa [if_pos rfl] at this
        clear hR hck
        go_wp2_with (first
          | (go_at_call 58; refine HR2.out.mono ?_; rintro e w5 ⟨rfl, hb5⟩; have hK5 := hid (HW.out.1.keep hb5 HW.out.1.lt); obtain ⟨e0, e1, e2, e3, e4, e5, e6, e7⟩ := blk_words hK5.out; have HO5 := hid (HO2.out.below hb5))
          | (at_builtin; refine wpList_append_cell rfl (.tmp 14) (.tmp 16) rfl _ w.heap.size _ _ rfl (HO5.out.below (below_new _ _)) _ 1 rfl c (ct_new c _ _) HLn.out (by have := HB2.out.size; have := hb5.size; simp; omega) ?_; intro v6 w6 h6 hb6 _))
        go_roundw
        case rel =>
          have z1 := HB2.out.size
          have z2 := hb5.size
          exact ⟨i + 1, by omega, by go_num, by rw [HT2.out]; exact h6, ((HB2.out.trans (hb5.mono z1)).alloc (by omega) _).trans hb6⟩
        case measure => simp [intOf]; omega
    · obtain rfl : i = n := by omega
      have hO2 := HO.out
      rw [List.take_of_length_le (by rw [HN.out]; exact Nat.le_refl _)] at hO2
      have HO2 := hid hO2
      clear hO2
      have HLn : Hid ((l.filter CT.ok).length ≤ 100000) := by
        have := List.length_filter_le CT.ok l
        have := HN.out
        unfold Hid; omega
      go_wp2_with (first
        | (go_at_call 73; refine (HSt.out w.heap.size _ _ HLn.out wr HO2.out HB.out.size).mono ?_; rintro e w5 ⟨rfl, l', hS5, hR5, hb5⟩; have hq5 := hid hS5; have hl5 : (l'.map Prod.fst).length ≤ 100000 := (by rw [List.length_map, hS5.perm.length_eq, List.length_zipIdx]; exact HLn.out))
        | (go_at_call 74; refine (HLa.out w.heap.size _ _ hl5 w5 hR5 (Nat.le_trans HB.out.size hb5.size)).mono ?_; rintro e w6 ⟨v6, rfl, hR6, hb6⟩))
      go_ret
      exact ⟨_, l', rfl, hq5.out, hR6, (HB.out.trans hb5).trans hb6⟩
end Go.Proofs.YtdjaofbjmnmlbaaDoor

/- The reader of package codec: a byte, some bytes, a number; each ends in what it reads or in the panic that tells of something else. Conditions: the slice that is read holds its bytes. -/
namespace Go.Proofs.YtdjaofbjmnmlbaaDoor
open Go.RowKit

/-- The panic of a reader that meets something else. -/
abbrev otherP : Ending := .panicked [{ v := .iface 137 (.agg #[]), recovered := false }]

set_option maxHeartbeats 400000 in
theorem want_yes (rb : Nat) (w : World) : Calls Tryd.prog 116 #[.pointer (some ⟨rb, 0, none⟩), .bool true] w fun e w' => e = .returned (.tuple #[]) ∧ w = w' := by
  go_enter Tryd.func116, Tryd.ntmps116
  go_wp2
  go_end0
  exact ⟨rfl, rfl⟩

set_option maxHeartbeats 400000 in
theorem want_no (rb : Nat) (w : World) : Calls Tryd.prog 116 #[.pointer (some ⟨rb, 0, none⟩), .bool false] w fun e w' => e = otherP ∧ w = w' := by
  go_enter Tryd.func116, Tryd.ntmps116
  go_wp2
  refine ⟨rfl, ?_⟩
  exact ⟨rfl, rfl⟩

set_option maxHeartbeats 1000000 in
theorem some_in (rb b off m c k : Nat) (hk : k < c) (hm : k ≤ m) (_hmc : m ≤ c) (hc : c ≤ 9223372036854775807) (w : World) (h0 : w.cell? ⟨rb, 0, none⟩ = some (.slice (some ⟨b, off, none⟩) m c)) (hf : w.frozen? ⟨rb, 0, none⟩ = false) :
    Calls Tryd.prog 119 #[.pointer (some ⟨rb, 0, none⟩), .int .i64 k] w fun e w' => e = .returned (.slice (some ⟨b, off, none⟩) k c) ∧ w' = w.setCell ⟨rb, 0, none⟩ (.slice (some ⟨b, off + k, none⟩) (m - k) (c - k)) := by
  go_enter Tryd.func119, Tryd.ntmps119
  go_wp2_with (go_at_call 116; refine (want_yes _ _).mono ?_; rintro e w1 ⟨rfl, rfl⟩)
  go_ret
  exact ⟨rfl, rfl⟩

set_option maxHeartbeats 1000000 in
/-- All bytes up to the capacity: what is left is nothing, at the address where it was. -/
theorem some_all (rb b off k : Nat) (_hc : k ≤ 9223372036854775807) (w : World) (h0 : w.cell? ⟨rb, 0, none⟩ = some (.slice (some ⟨b, off, none⟩) k k)) (hf : w.frozen? ⟨rb, 0, none⟩ = false) :
    Calls Tryd.prog 119 #[.pointer (some ⟨rb, 0, none⟩), .int .i64 k] w fun e w' => e = .returned (.slice (some ⟨b, off, none⟩) k k) ∧ w' = w.setCell ⟨rb, 0, none⟩ (.slice (some ⟨b, off, none⟩) 0 0) := by
  go_enter Tryd.func119, Tryd.ntmps119
  go_wp2_with (go_at_call 116; refine (want_yes _ _).mono ?_; rintro e w1 ⟨rfl, rfl⟩)
  go_ret
  exact ⟨rfl, rfl⟩

set_option maxHeartbeats 1000000 in
theorem some_no (rb m c k : Nat) (A : Option Addr) (hk : m < k) (w : World) (h0 : w.cell? ⟨rb, 0, none⟩ = some (.slice A m c)) :
    Calls Tryd.prog 119 #[.pointer (some ⟨rb, 0, none⟩), .int .i64 k] w fun e w' => e = otherP ∧ w = w' := by
  have hk' : ¬ k ≤ m := by omega
  go_enter Tryd.func119, Tryd.ntmps119
  go_wp2_with (go_at_call 116; refine (want_no _ _).mono ?_; rintro e w1 ⟨rfl, rfl⟩)
  refine ⟨rfl, ?_⟩
  exact ⟨rfl, rfl⟩

/-- What is left of the slice behind k of its bytes. -/
def restV (b off m c k : Nat) : Value := if k < c then .slice (some ⟨b, off + k, none⟩) (m - k) (c - k) else .slice (some ⟨b, off, none⟩) 0 0

set_option maxHeartbeats 1000000 in
theorem one_yes (rb b off m c x : Nat) (hm : 1 ≤ m) (hmc : m ≤ c) (hc : c ≤ 9223372036854775807) (w : World) (h0 : w.cell? ⟨rb, 0, none⟩ = some (.slice (some ⟨b, off, none⟩) m c)) (hf : w.frozen? ⟨rb, 0, none⟩ = false) (hx : w.cell? ⟨b, off, none⟩ = some (.int .u8 (x : Int))) (hne : b ≠ rb) :
    Calls Tryd.prog 115 #[.pointer (some ⟨rb, 0, none⟩)] w fun e w' => e = .returned (.int .u8 (x : Int)) ∧ w' = w.setCell ⟨rb, 0, none⟩ (restV b off m c 1) := by
  have HS : Calls Tryd.prog 119 #[.pointer (some ⟨rb, 0, none⟩), .int .i64 1] w fun e w' => ∃ c', 1 ≤ c' ∧ e = .returned (.slice (some ⟨b, off, none⟩) 1 c') ∧ w' = w.setCell ⟨rb, 0, none⟩ (restV b off m c 1) := by
    by_cases h1 : 1 < c
    · refine (some_in rb b off m c 1 h1 hm hmc hc w h0 hf).mono fun e w' ⟨he, hw⟩ => ⟨c, by omega, he, ?_⟩
      unfold restV; rw [if_pos h1]; exact hw
    · obtain rfl : c = 1 := by omega
      obtain rfl : m = 1 := by omega
      refine (some_all rb b off 1 (by omega) w h0 hf).mono fun e w' ⟨he, hw⟩ => ⟨1, by omega, he, ?_⟩
      unfold restV; rw [if_neg h1]; exact hw
  have HX : (w.setCell ⟨rb, 0, none⟩ (restV b off m c 1)).cell? ⟨b, off, none⟩ = some (.int .u8 (x : Int)) := by
    rw [World.cell?_setCell_other _ _ _ _ (by intro e; exact hne (by simpa using (congrArg Addr.block e).symm))]; exact hx
  obtain ⟨W, hW⟩ : ∃ W, w.setCell ⟨rb, 0, none⟩ (restV b off m c 1) = W := ⟨_, rfl⟩
  rw [hW] at HS HX
  rw [hW]
  have HH := hid HS
  clear h0 hf hx hW HS
  go_enter Tryd.func115, Tryd.ntmps115
  go_wp2_with (go_at_call 119; refine HH.out.mono ?_; rintro e w1 ⟨c', hc', rfl, rfl⟩)
  go_ret
  exact ⟨rfl, rfl⟩

set_option maxHeartbeats 1000000 in
theorem one_no (rb c : Nat) (A : Option Addr) (w : World) (h0 : w.cell? ⟨rb, 0, none⟩ = some (.slice A 0 c)) :
    Calls Tryd.prog 115 #[.pointer (some ⟨rb, 0, none⟩)] w fun e w' => e = otherP ∧ w = w' := by
  go_enter Tryd.func115, Tryd.ntmps115
  go_wp2_with (go_at_call 119; refine (some_no rb 0 c 1 A (by decide) _ h0).mono ?_; rintro e w1 ⟨rfl, rfl⟩)
  refine ⟨rfl, ?_⟩
  exact ⟨rfl, rfl⟩

/-- What lay below B is as it was, but for block rb. -/
structure But (B rb : Nat) (w w' : World) : Prop where
  os : w'.os = w.os
  tape : w'.tape = w.tape
  output : w'.output = w.output
  size : w.heap.size ≤ w'.heap.size
  block : ∀ k, k < B → k ≠ rb → w'.heap[k]? = w.heap[k]?
section
variable {B rb : Nat} {w w1 w' : World}
theorem But.refl (B rb : Nat) (w : World) : But B rb w w := ⟨rfl, rfl, rfl, Nat.le_refl _, fun _ _ _ => rfl⟩
theorem But.trans (h : But B rb w w1) (k : But B rb w1 w') : But B rb w w' := ⟨k.os.trans h.os, k.tape.trans h.tape, k.output.trans h.output, Nat.le_trans h.size k.size, fun j hj hr => (k.block j hj hr).trans (h.block j hj hr)⟩
theorem But.mono {B' : Nat} (h : But B rb w w') (hb : B' ≤ B) : But B' rb w w' := ⟨h.os, h.tape, h.output, h.size, fun j hj => h.block j (Nat.lt_of_lt_of_le hj hb)⟩
theorem But.setCell (h : But B rb w w1) (o : Nat) (v : Value) : But B rb w (w1.setCell ⟨rb, o, none⟩ v) :=
  ⟨h.os, h.tape, h.output, by simpa using h.size, fun j hj hr => (Below.heap_setCell _ _ _ _ hr).trans (h.block j hj hr)⟩
theorem But.of_below (h : Below B w w') (rb : Nat) : But B rb w w' := ⟨h.os, h.tape, h.output, h.size, fun j hj _ => h.block j hj⟩
theorem But.below (h : But B rb w w') (hb : B ≤ rb) : Below B w w' := ⟨h.os, h.tape, h.output, h.size, fun j hj => h.block j hj (by omega)⟩
theorem But.cell (h : But B rb w w') {k : Nat} (hk : k < B) (hr : k ≠ rb) (o : Nat) : w'.cell? ⟨k, o, none⟩ = w.cell? ⟨k, o, none⟩ := World.cell?_of_block (w := w) (h.block k hk hr)
theorem But.frozen (h : But B rb w w') {k : Nat} (hk : k < B) (hr : k ≠ rb) (o : Nat) : w'.frozen? ⟨k, o, none⟩ = w.frozen? ⟨k, o, none⟩ := World.frozen?_of_block (w := w) (h.block k hk hr)
end

/-- A reader in block rb: the bytes l are left. -/
def Rd (w : World) (rb : Nat) (v : Value) (l : List UInt8) : Prop :=
  ∃ A c, v = .slice A l.length c ∧ l.length ≤ c ∧ c ≤ 9223372036854775807 ∧ (0 < l.length → ∃ b off, A = some ⟨b, off, none⟩ ∧ b < rb ∧ Holds w b off l)
def St (w : World) (rb : Nat) (l : List UInt8) : Prop := (∃ v, w.cell? ⟨rb, 0, none⟩ = some v ∧ Rd w rb v l) ∧ w.frozen? ⟨rb, 0, none⟩ = false ∧ rb < w.heap.size
theorem Rd.below {w w' : World} {rb : Nat} {v : Value} {l : List UInt8} (h : Rd w rb v l) (hb : Below rb w w') : Rd w' rb v l := by
  obtain ⟨A, c, h1, h2, h3, h4⟩ := h
  refine ⟨A, c, h1, h2, h3, fun hl => ?_⟩
  obtain ⟨b, off, h5, h6, h8⟩ := h4 hl
  exact ⟨b, off, h5, h6, h8.below hb h6⟩
theorem But.low {rb : Nat} {w w' : World} (h : But w.heap.size rb w w') (hlt : rb < w.heap.size) : Below rb w w' := (h.mono (Nat.le_of_lt hlt)).below (Nat.le_refl _)
/-- What leaves the reader's block alone, and all below it, leaves the reader as it was. -/
theorem St.keep {w w' : World} {rb : Nat} {l : List UInt8} (h : St w rb l) (hb : Below (rb + 1) w w') : St w' rb l := by
  obtain ⟨⟨v, h1, h2⟩, h3, h4⟩ := h
  exact ⟨⟨v, (hb.cell (p := ⟨rb, 0, none⟩) (by simp)).trans h1, h2.below (hb.mono (by omega))⟩, (hb.frozen (p := ⟨rb, 0, none⟩) (by simp)).trans h3, Nat.lt_of_lt_of_le h4 hb.size⟩
theorem cell_set_rb {w : World} {rb : Nat} {v0 : Value} (h : w.cell? ⟨rb, 0, none⟩ = some v0) (v : Value) : (w.setCell ⟨rb, 0, none⟩ v).cell? ⟨rb, 0, none⟩ = some v :=
  World.cell?_setCell_same' _ _ _ (by rw [h]; rfl)
theorem rd_rest {w : World} {rb b off c k : Nat} {l : List UInt8} (hk : k ≤ l.length) (hc : l.length ≤ c) (hc2 : c ≤ 9223372036854775807) (hb : b < rb) (hh : Holds w b off l) : Rd w rb (restV b off l.length c k) (l.drop k) := by
  unfold restV
  by_cases h1 : k < c
  · rw [if_pos h1]
    exact ⟨_, c - k, by rw [List.length_drop], by rw [List.length_drop]; omega, by omega, fun _ => ⟨b, off + k, rfl, hb, hh.drop k⟩⟩
  · rw [if_neg h1]
    have : l.drop k = [] := List.drop_eq_nil_of_le (by omega)
    rw [this]
    exact ⟨_, 0, rfl, by simp, by omega, fun h => absurd h (by simp)⟩

def OneEnd (w : World) (rb : Nat) : List UInt8 → Ending → World → Prop
  | [], e, w' => But w.heap.size rb w w' ∧ e = otherP
  | x :: t, e, w' => But w.heap.size rb w w' ∧ e = .returned (.int .u8 (x.toNat : Int)) ∧ St w' rb t
theorem one_any (rb : Nat) (l : List UInt8) (w : World) (h : St w rb l) :
    Calls Tryd.prog 115 #[.pointer (some ⟨rb, 0, none⟩)] w (OneEnd w rb l) := by
  obtain ⟨⟨v, h0, A, c, rfl, h2, h3, h4⟩, hf, hlt⟩ := h
  match l, h2, h4, h0 with
  | [], h2, h4, h0 =>
    exact (one_no rb c A w h0).mono fun e w' ⟨he, hw⟩ => ⟨by subst hw; exact But.refl _ _ _, he⟩
  | x :: t, h2, h4, h0 =>
    obtain ⟨b, off, rfl, hb, hh⟩ := h4 (by simp)
    have hx := hh 0 (by simp)
    refine (one_yes rb b off (x :: t).length c x.toNat (by simp) h2 h3 w h0 hf (by simpa using hx) (by omega)).mono fun e w' ⟨he, hw⟩ => ?_
    have hB : But w.heap.size rb w w' := by rw [hw]; exact (But.refl _ _ _).setCell _ _
    refine ⟨hB, he, ⟨_, by rw [hw]; exact cell_set_rb h0 _, ?_⟩, ?_, ?_⟩
    · have := rd_rest (w := w) (rb := rb) (k := 1) (l := x :: t) (by simp) h2 h3 hb hh
      exact this.below (hB.low hlt)
    · rw [hw, World.frozen?_setCell]; exact hf
    · exact Nat.lt_of_lt_of_le hlt hB.size
end Go.Proofs.YtdjaofbjmnmlbaaDoor

/- What package cell's sight does with a cell: has, move, lets, and the rules' right and lives. Conditions: the sight stands in a block of its own. -/
namespace Go.Proofs.YtdjaofbjmnmlbaaDoor
open Go.RowKit

/-- A sight. -/
structure SG where
  at' : CT
  fam : Int
  col : Bool
  cell : Int
  seen : Int
/-- Its twelve words. -/
def SG.a (g : SG) : Array Value := #[.string g.at'.r, .string g.at'.f, .string g.at'.q, .int .i64 g.at'.t, .int .i64 g.at'.k, .int .i64 g.at'.vk, .int .i64 g.at'.vn, .string g.at'.s, .int .i64 g.fam, .bool g.col, .int .i64 g.cell, .int .i64 g.seen]
def SG.zero : SG := ⟨default, 0, false, 0, 0⟩
/-- What was told of another family, or another column, is forgotten. -/
def SG.move (g : SG) (c : CT) : SG :=
  if c.r ≠ g.at'.r ∨ c.f ≠ g.at'.f then ⟨c, -1, false, -1, 0⟩ else if c.q ≠ g.at'.q then ⟨c, g.fam, false, -1, 0⟩ else ⟨c, g.fam, g.col, g.cell, g.seen⟩
def SG.has (g : SG) (t : Int) : Bool := !g.col && (decide (g.fam < t) && decide (t ≠ g.cell))
def livesM (life now t : Int) : Bool := decide (life = 0) || decide (now < IntKind.i64.wrap (t + life))
def rightM (ver life : Int) : Bool := decide (1 ≤ ver) && (decide (ver ≤ 8) && decide (0 ≤ life))
/-- The next cell: is it a put that is to be seen? -/
def SG.lets (g0 : SG) (c : CT) (ver life now : Int) : SG × Bool :=
  let g := g0.move c
  if c.k = 4 then (⟨g.at', max g.fam c.t, g.col, g.cell, g.seen⟩, false)
  else if c.k = 3 then (⟨g.at', g.fam, true, g.cell, g.seen⟩, false)
  else if c.k = 2 then (⟨g.at', g.fam, g.col, c.t, g.seen⟩, false)
  else if c.k = 1 ∧ g.has c.t = true ∧ livesM life now c.t = true ∧ g.seen < ver then (⟨g.at', g.fam, g.col, g.cell, IntKind.i64.wrap (g.seen + 1)⟩, true)
  else (g, false)

set_option maxHeartbeats 1000000 in
theorem has_any (g : SG) (t : Int) (sb : Nat) (w : World) (h : Blk w sb 151 g.a) :
    Calls Tryd.prog 157 #[.pointer (some ⟨sb, 0, none⟩), .int .i64 t] w fun e w' => e = .returned (.bool (g.has t)) ∧ w' = w := by
  have c8 : w.cell? ⟨sb, 8, none⟩ = some (.int .i64 g.fam) := h.cell 8
  have c9 : w.cell? ⟨sb, 9, none⟩ = some (.bool g.col) := h.cell 9
  have c10 : w.cell? ⟨sb, 10, none⟩ = some (.int .i64 g.cell) := h.cell 10
  unfold SG.has
  obtain ⟨at', fam, col, cell, seen⟩ := g
  clear h
  simp only at c8 c9 c10 ⊢
  cases col with
  | true =>
    go_enter Tryd.func157, Tryd.ntmps157
    go_wp2
    go_ret
    exact ⟨rfl, rfl⟩
  | false =>
    by_cases h1 : fam < t
    · have hd : decide (fam < t) = true := decide_eq_true h1
      by_cases h2 : t = cell
      · have q2 : (t != cell) = false := by simpa using h2
        have hd2 : decide (t ≠ cell) = false := decide_eq_false (by simpa using h2)
        rw [hd2]
        subst h2
        go_enter Tryd.func157, Tryd.ntmps157
        go_wp2
        go_ret
        exact ⟨by simp, rfl⟩
      · have q2 : (t != cell) = true := by simpa using h2
        have hd2 : decide (t ≠ cell) = true := decide_eq_true h2
        rw [hd2, hd]
        clear h2 hd2
        go_enter Tryd.func157, Tryd.ntmps157
        go_wp2
        go_ret
        exact ⟨rfl, rfl⟩
    · have hd : decide (fam < t) = false := decide_eq_false h1
      rw [hd]
      go_enter Tryd.func157, Tryd.ntmps157
      go_wp2
      go_ret
      exact ⟨rfl, rfl⟩

set_option maxHeartbeats 1000000 in
theorem lives_any (ver life now t : Int) (w : World) :
    Calls Tryd.prog 158 #[.agg #[.int .i64 ver, .int .i64 life, .int .i64 now], .int .i64 t] w fun e w' => e = .returned (.bool (livesM life now t)) ∧ Below w.heap.size w w' := by
  unfold livesM
  by_cases h1 : life = 0
  · subst h1
    go_enter Tryd.func158, Tryd.ntmps158
    go_wp2
    go_ret
    exact ⟨rfl, below_new _ _⟩
  · have q1 : (life == 0) = false := by simpa using h1
    have hd : decide (life = 0) = false := decide_eq_false h1
    rw [hd]
    clear h1 hd
    obtain ⟨x, hx⟩ : ∃ x, IntKind.i64.wrap (t + life) = x := ⟨_, rfl⟩
    rw [hx]
    by_cases h2 : now < x
    · have hd : decide (now < x) = true := decide_eq_true h2
      rw [hd]
      go_enter Tryd.func158, Tryd.ntmps158
      go_wp2
      go_ret
      exact ⟨by simp, below_new _ _⟩
    · have hd : decide (now < x) = false := decide_eq_false h2
      rw [hd]
      go_enter Tryd.func158, Tryd.ntmps158
      go_wp2
      go_ret
      exact ⟨by simp, below_new _ _⟩

set_option maxHeartbeats 1000000 in
theorem cright_rules (ver life now : Int) (w : World) :
    Calls Tryd.prog 125 #[.agg #[.int .i64 ver, .int .i64 life, .int .i64 now]] w fun e w' => e = .returned (.bool (rightM ver life)) ∧ Below w.heap.size w w' := by
  unfold rightM
  by_cases h1 : 1 ≤ ver
  · by_cases h2 : ver ≤ 8
    · by_cases h3 : 0 ≤ life
      · rw [decide_eq_true h1, decide_eq_true h2, decide_eq_true h3]
        go_enter Tryd.func125, Tryd.ntmps125
        go_wp2
        go_ret
        exact ⟨rfl, below_new _ _⟩
      · rw [decide_eq_true h1, decide_eq_true h2, decide_eq_false h3]
        go_enter Tryd.func125, Tryd.ntmps125
        go_wp2
        go_ret
        exact ⟨rfl, below_new _ _⟩
    · rw [decide_eq_true h1, decide_eq_false h2]
      go_enter Tryd.func125, Tryd.ntmps125
      go_wp2
      go_ret
      exact ⟨rfl, below_new _ _⟩
  · rw [decide_eq_false h1]
    go_enter Tryd.func125, Tryd.ntmps125
    go_wp2
    go_ret
    exact ⟨rfl, below_new _ _⟩
end Go.Proofs.YtdjaofbjmnmlbaaDoor

/- What package cell's sight does with a cell: move. Conditions: the sight stands in a block of its own. -/
namespace Go.Proofs.YtdjaofbjmnmlbaaDoor
open Go.RowKit

theorem ba_ne {x y : ByteArray} (h : x ≠ y) : (x.toList == y.toList) = false := by
  rw [Bool.eq_false_iff]
  intro e
  have e := eq_of_beq e
  apply h
  apply ByteArray.ext
  rw [ByteArray.toList_eq, ByteArray.toList_eq] at e
  exact Array.toList_inj.1 e

/-- Where a sight stands. -/
structure MS (w : World) (sb : Nat) (W : World) (xs : Array Value) : Prop where
  b : Blk W sb 151 xs
  o : But w.heap.size sb w W
theorem MS.set {w W : World} {sb : Nat} {xs : Array Value} (h : MS w sb W xs) (j : Nat) (v : Value) : MS w sb (W.setCell ⟨sb, j, none⟩ v) (xs.setIfInBounds j v) := ⟨h.b.set j v, h.o.setCell j v⟩
theorem MS.drewN {w W : World} {sb : Nat} {xs : Array Value} (h : MS w sb W xs) (n : Nat) : MS w sb (W.drewN n) xs := ⟨h.b, h.o.trans (But.of_below (below_drewN (Below.refl _ _) n) sb)⟩
theorem MS.below {w W W' : World} {sb : Nat} {xs : Array Value} (h : MS w sb W xs) (hb : Below W.heap.size W W') : MS w sb W' xs := ⟨h.b.keep hb h.b.lt, h.o.trans (But.of_below (hb.mono h.o.size) sb)⟩
theorem MS.sets12 {w W : World} {sb : Nat} {x0 x1 x2 x3 x4 x5 x6 x7 x8 x9 x10 x11 : Value} (h : MS w sb W #[x0, x1, x2, x3, x4, x5, x6, x7, x8, x9, x10, x11]) (v0 v1 v2 v3 v4 v5 v6 v7 v8 v9 v10 v11 : Value) : MS w sb ((((((((((((W.setCell ⟨sb, 0, none⟩ v0).setCell ⟨sb, 1, none⟩ v1).setCell ⟨sb, 2, none⟩ v2).setCell ⟨sb, 3, none⟩ v3).setCell ⟨sb, 4, none⟩ v4).setCell ⟨sb, 5, none⟩ v5).setCell ⟨sb, 6, none⟩ v6).setCell ⟨sb, 7, none⟩ v7).setCell ⟨sb, 8, none⟩ v8).setCell ⟨sb, 9, none⟩ v9).setCell ⟨sb, 10, none⟩ v10).setCell ⟨sb, 11, none⟩ v11) #[v0, v1, v2, v3, v4, v5, v6, v7, v8, v9, v10, v11] := by
  have m0 : MS w sb _ #[v0, x1, x2, x3, x4, x5, x6, x7, x8, x9, x10, x11] := h.set 0 v0
  have m1 : MS w sb _ #[v0, v1, x2, x3, x4, x5, x6, x7, x8, x9, x10, x11] := m0.set 1 v1
  have m2 : MS w sb _ #[v0, v1, v2, x3, x4, x5, x6, x7, x8, x9, x10, x11] := m1.set 2 v2
  have m3 : MS w sb _ #[v0, v1, v2, v3, x4, x5, x6, x7, x8, x9, x10, x11] := m2.set 3 v3
  have m4 : MS w sb _ #[v0, v1, v2, v3, v4, x5, x6, x7, x8, x9, x10, x11] := m3.set 4 v4
  have m5 : MS w sb _ #[v0, v1, v2, v3, v4, v5, x6, x7, x8, x9, x10, x11] := m4.set 5 v5
  have m6 : MS w sb _ #[v0, v1, v2, v3, v4, v5, v6, x7, x8, x9, x10, x11] := m5.set 6 v6
  have m7 : MS w sb _ #[v0, v1, v2, v3, v4, v5, v6, v7, x8, x9, x10, x11] := m6.set 7 v7
  have m8 : MS w sb _ #[v0, v1, v2, v3, v4, v5, v6, v7, v8, x9, x10, x11] := m7.set 8 v8
  have m9 : MS w sb _ #[v0, v1, v2, v3, v4, v5, v6, v7, v8, v9, x10, x11] := m8.set 9 v9
  have m10 : MS w sb _ #[v0, v1, v2, v3, v4, v5, v6, v7, v8, v9, v10, x11] := m9.set 10 v10
  have m11 : MS w sb _ #[v0, v1, v2, v3, v4, v5, v6, v7, v8, v9, v10, v11] := m10.set 11 v11
  exact m11
theorem MS.sets8 {w W : World} {sb : Nat} {x0 x1 x2 x3 x4 x5 x6 x7 x8 x9 x10 x11 : Value} (h : MS w sb W #[x0, x1, x2, x3, x4, x5, x6, x7, x8, x9, x10, x11]) (v0 v1 v2 v3 v4 v5 v6 v7 : Value) : MS w sb ((((((((W.setCell ⟨sb, 0, none⟩ v0).setCell ⟨sb, 1, none⟩ v1).setCell ⟨sb, 2, none⟩ v2).setCell ⟨sb, 3, none⟩ v3).setCell ⟨sb, 4, none⟩ v4).setCell ⟨sb, 5, none⟩ v5).setCell ⟨sb, 6, none⟩ v6).setCell ⟨sb, 7, none⟩ v7) #[v0, v1, v2, v3, v4, v5, v6, v7, x8, x9, x10, x11] := by
  have m0 : MS w sb _ #[v0, x1, x2, x3, x4, x5, x6, x7, x8, x9, x10, x11] := h.set 0 v0
  have m1 : MS w sb _ #[v0, v1, x2, x3, x4, x5, x6, x7, x8, x9, x10, x11] := m0.set 1 v1
  have m2 : MS w sb _ #[v0, v1, v2, x3, x4, x5, x6, x7, x8, x9, x10, x11] := m1.set 2 v2
  have m3 : MS w sb _ #[v0, v1, v2, v3, x4, x5, x6, x7, x8, x9, x10, x11] := m2.set 3 v3
  have m4 : MS w sb _ #[v0, v1, v2, v3, v4, x5, x6, x7, x8, x9, x10, x11] := m3.set 4 v4
  have m5 : MS w sb _ #[v0, v1, v2, v3, v4, v5, x6, x7, x8, x9, x10, x11] := m4.set 5 v5
  have m6 : MS w sb _ #[v0, v1, v2, v3, v4, v5, v6, x7, x8, x9, x10, x11] := m5.set 6 v6
  have m7 : MS w sb _ #[v0, v1, v2, v3, v4, v5, v6, v7, x8, x9, x10, x11] := m6.set 7 v7
  exact m7
theorem MS.sets3 {w W : World} {sb : Nat} {x0 x1 x2 x3 x4 x5 x6 x7 x8 x9 x10 x11 : Value} (h : MS w sb W #[x0, x1, x2, x3, x4, x5, x6, x7, x8, x9, x10, x11]) (v9 v10 v11 : Value) : MS w sb (((W.setCell ⟨sb, 9, none⟩ v9).setCell ⟨sb, 10, none⟩ v10).setCell ⟨sb, 11, none⟩ v11) #[x0, x1, x2, x3, x4, x5, x6, x7, x8, v9, v10, v11] := by
  have m0 : MS w sb _ #[x0, x1, x2, x3, x4, x5, x6, x7, x8, v9, x10, x11] := h.set 9 v9
  have m1 : MS w sb _ #[x0, x1, x2, x3, x4, x5, x6, x7, x8, v9, v10, x11] := m0.set 10 v10
  have m2 : MS w sb _ #[x0, x1, x2, x3, x4, x5, x6, x7, x8, v9, v10, v11] := m1.set 11 v11
  exact m2
theorem MS.start {w : World} {sb : Nat} {xs : Array Value} (h : Blk w sb 151 xs) : MS w sb w xs := ⟨h, But.refl _ _ _⟩

set_option maxHeartbeats 4000000 in
set_option maxRecDepth 100000 in
theorem move_any (g : SG) (c : CT) (sb : Nat) (w : World) (h : Blk w sb 151 g.a) :
    Calls Tryd.prog 156 #[.pointer (some ⟨sb, 0, none⟩), c.v] w fun e w' => e = .returned (.tuple #[]) ∧ Blk w' sb 151 (g.move c).a ∧ But w.heap.size sb w w' := by
  have mixed : Tryd.prog.follows .mixedOrders = true := by kernel_rfl
  have a0 : w.cell? ⟨sb, 0, none⟩ = some (.string g.at'.r) := h.cell 0; have a1 : w.cell? ⟨sb, 1, none⟩ = some (.string g.at'.f) := h.cell 1; have a2 : w.cell? ⟨sb, 2, none⟩ = some (.string g.at'.q) := h.cell 2; have a3 : w.cell? ⟨sb, 3, none⟩ = some (.int .i64 g.at'.t) := h.cell 3; have a4 : w.cell? ⟨sb, 4, none⟩ = some (.int .i64 g.at'.k) := h.cell 4; have a5 : w.cell? ⟨sb, 5, none⟩ = some (.int .i64 g.at'.vk) := h.cell 5; have a6 : w.cell? ⟨sb, 6, none⟩ = some (.int .i64 g.at'.vn) := h.cell 6; have a7 : w.cell? ⟨sb, 7, none⟩ = some (.string g.at'.s) := h.cell 7; have a8 : w.cell? ⟨sb, 8, none⟩ = some (.int .i64 g.fam) := h.cell 8; have a9 : w.cell? ⟨sb, 9, none⟩ = some (.bool g.col) := h.cell 9; have a10 : w.cell? ⟨sb, 10, none⟩ = some (.int .i64 g.cell) := h.cell 10; have a11 : w.cell? ⟨sb, 11, none⟩ = some (.int .i64 g.seen) := h.cell 11
  have hf : ∀ j, w.frozen? ⟨sb, j, none⟩ = false := fun j => h.free j
  have hlt : sb < w.heap.size := h.lt
  have HB := hid h
  clear h
  unfold SG.move
  by_cases h1 : c.r ≠ g.at'.r ∨ c.f ≠ g.at'.f
  · rw [if_pos h1]
    by_cases h2 : c.r = g.at'.r
    · have h3 : c.f ≠ g.at'.f := by
        rcases h1 with h | h
        · exact absurd h2 h
        · exact h
      have q1 : (c.r.toList == g.at'.r.toList) = true := by rw [h2]; simp
      have q2 : (c.f.toList == g.at'.f.toList) = false := ba_ne h3
      clear h1 h2 h3
      go_enter Tryd.func156, Tryd.ntmps156
      go_upto_region 1 with (fail)
      go_quiet (fail)
      go_wp2
      go_end0
      have m0 : MS w sb ((w.alloc (.cells #[.string c.r, .string c.f, .string c.q, .int .i64 c.t, .int .i64 c.k, .int .i64 c.vk, .int .i64 c.vn, .string c.s] 28)).drewN nq) #[.string g.at'.r, .string g.at'.f, .string g.at'.q, .int .i64 g.at'.t, .int .i64 g.at'.k, .int .i64 g.at'.vk, .int .i64 g.at'.vn, .string g.at'.s, .int .i64 g.fam, .bool g.col, .int .i64 g.cell, .int .i64 g.seen] := ((MS.start HB.out).below (below_new _ _)).drewN _
      have m2 := MS.sets8 (MS.sets12 m0 (.string ⟨#[]⟩) (.string ⟨#[]⟩) (.string ⟨#[]⟩) (.int .i64 0) (.int .i64 0) (.int .i64 0) (.int .i64 0) (.string ⟨#[]⟩) (.int .i64 (-1)) (.bool false) (.int .i64 (-1)) (.int .i64 0)) (.string c.r) (.string c.f) (.string c.q) (.int .i64 c.t) (.int .i64 c.k) (.int .i64 c.vk) (.int .i64 c.vn) (.string c.s)
      exact ⟨rfl, m2.b, m2.o⟩
    · have q1 : (c.r.toList == g.at'.r.toList) = false := ba_ne h2
      clear h1 h2
      go_enter Tryd.func156, Tryd.ntmps156
      go_upto_region 1 with (fail)
      go_quiet (fail)
      go_wp2
      go_end0
      have m0 : MS w sb ((w.alloc (.cells #[.string c.r, .string c.f, .string c.q, .int .i64 c.t, .int .i64 c.k, .int .i64 c.vk, .int .i64 c.vn, .string c.s] 28)).drewN nq) #[.string g.at'.r, .string g.at'.f, .string g.at'.q, .int .i64 g.at'.t, .int .i64 g.at'.k, .int .i64 g.at'.vk, .int .i64 g.at'.vn, .string g.at'.s, .int .i64 g.fam, .bool g.col, .int .i64 g.cell, .int .i64 g.seen] := ((MS.start HB.out).below (below_new _ _)).drewN _
      have m2 := MS.sets8 (MS.sets12 m0 (.string ⟨#[]⟩) (.string ⟨#[]⟩) (.string ⟨#[]⟩) (.int .i64 0) (.int .i64 0) (.int .i64 0) (.int .i64 0) (.string ⟨#[]⟩) (.int .i64 (-1)) (.bool false) (.int .i64 (-1)) (.int .i64 0)) (.string c.r) (.string c.f) (.string c.q) (.int .i64 c.t) (.int .i64 c.k) (.int .i64 c.vk) (.int .i64 c.vn) (.string c.s)
      exact ⟨rfl, m2.b, m2.o⟩
  · rw [if_neg h1]
    have e1 : c.r = g.at'.r := by
      false_or_by_contra
      rename_i h
      exact h1 (.inl h)
    have e2 : c.f = g.at'.f := by
      false_or_by_contra
      rename_i h
      exact h1 (.inr h)
    have q1 : (c.r.toList == g.at'.r.toList) = true := by rw [e1]; simp
    have q2 : (c.f.toList == g.at'.f.toList) = true := by rw [e2]; simp
    clear h1 e1 e2
    by_cases h3 : c.q = g.at'.q
    · have q3 : (c.q.toList == g.at'.q.toList) = true := by rw [h3]; simp
      rw [if_neg (by simpa using h3)]
      clear h3
      go_enter Tryd.func156, Tryd.ntmps156
      go_upto_region 1 with (fail)
      go_quiet (fail)
      go_upto_region 3 with (fail)
      obtain ⟨bb, hbb⟩ : ∃ bb, w.heap.size = bb := ⟨_, rfl⟩
      refine wp_ltc (fun W => Hid (MS w sb W g.a) ∧ W.cell? ⟨bb, 0, none⟩ = some (.string c.r) ∧ W.cell? ⟨bb, 1, none⟩ = some (.string c.f) ∧ W.cell? ⟨bb, 2, none⟩ = some (.string c.q) ∧ W.cell? ⟨bb, 3, none⟩ = some (.int .i64 c.t) ∧ W.cell? ⟨bb, 4, none⟩ = some (.int .i64 c.k) ∧ W.cell? ⟨bb, 5, none⟩ = some (.int .i64 c.vk) ∧ W.cell? ⟨bb, 6, none⟩ = some (.int .i64 c.vn) ∧ W.cell? ⟨bb, 7, none⟩ = some (.string c.s)) (by rw [← hbb]; exact ⟨((MS.start HB.out).below (below_new _ _)).drewN _, blk_words (show Blk _ _ _ c.e.toArray from Blk.new w 28 c.e.toArray)⟩) (fun W hW => ?_)
      rw [hbb]
      obtain ⟨HW, b0, b1, b2, b3, b4, b5, b6, b7⟩ := hW
      clear a0 a1 a2 a3 a4 a5 a6 a7 a8 a9 a10 a11 hf
      have a2 : W.cell? ⟨sb, 2, none⟩ = some (.string g.at'.q) := HW.out.b.cell 2
      have a0 : W.cell? ⟨sb, 0, none⟩ = some (.string g.at'.r) := HW.out.b.cell 0; have a1 : W.cell? ⟨sb, 1, none⟩ = some (.string g.at'.f) := HW.out.b.cell 1; have a3 : W.cell? ⟨sb, 3, none⟩ = some (.int .i64 g.at'.t) := HW.out.b.cell 3; have a4 : W.cell? ⟨sb, 4, none⟩ = some (.int .i64 g.at'.k) := HW.out.b.cell 4; have a5 : W.cell? ⟨sb, 5, none⟩ = some (.int .i64 g.at'.vk) := HW.out.b.cell 5; have a6 : W.cell? ⟨sb, 6, none⟩ = some (.int .i64 g.at'.vn) := HW.out.b.cell 6; have a7 : W.cell? ⟨sb, 7, none⟩ = some (.string g.at'.s) := HW.out.b.cell 7; have a8 : W.cell? ⟨sb, 8, none⟩ = some (.int .i64 g.fam) := HW.out.b.cell 8; have a9 : W.cell? ⟨sb, 9, none⟩ = some (.bool g.col) := HW.out.b.cell 9; have a10 : W.cell? ⟨sb, 10, none⟩ = some (.int .i64 g.cell) := HW.out.b.cell 10; have a11 : W.cell? ⟨sb, 11, none⟩ = some (.int .i64 g.seen) := HW.out.b.cell 11
      have hf : ∀ j, W.frozen? ⟨sb, j, none⟩ = false := fun j => HW.out.b.free j
      go_quiet (fail)
      go_wp2
      go_end0
      have m0 : MS w sb (W.drewN nq) #[.string g.at'.r, .string g.at'.f, .string g.at'.q, .int .i64 g.at'.t, .int .i64 g.at'.k, .int .i64 g.at'.vk, .int .i64 g.at'.vn, .string g.at'.s, .int .i64 g.fam, .bool g.col, .int .i64 g.cell, .int .i64 g.seen] := HW.out.drewN _
      have m2 := MS.sets8 m0 (.string c.r) (.string c.f) (.string c.q) (.int .i64 c.t) (.int .i64 c.k) (.int .i64 c.vk) (.int .i64 c.vn) (.string c.s)
      exact ⟨rfl, m2.b, m2.o⟩
    · have q3 : (c.q.toList == g.at'.q.toList) = false := ba_ne h3
      rw [if_pos h3]
      clear h3
      go_enter Tryd.func156, Tryd.ntmps156
      go_upto_region 1 with (fail)
      go_quiet (fail)
      go_upto_region 3 with (fail)
      obtain ⟨bb, hbb⟩ : ∃ bb, w.heap.size = bb := ⟨_, rfl⟩
      refine wp_ltc (fun W => Hid (MS w sb W g.a) ∧ W.cell? ⟨bb, 0, none⟩ = some (.string c.r) ∧ W.cell? ⟨bb, 1, none⟩ = some (.string c.f) ∧ W.cell? ⟨bb, 2, none⟩ = some (.string c.q) ∧ W.cell? ⟨bb, 3, none⟩ = some (.int .i64 c.t) ∧ W.cell? ⟨bb, 4, none⟩ = some (.int .i64 c.k) ∧ W.cell? ⟨bb, 5, none⟩ = some (.int .i64 c.vk) ∧ W.cell? ⟨bb, 6, none⟩ = some (.int .i64 c.vn) ∧ W.cell? ⟨bb, 7, none⟩ = some (.string c.s)) (by rw [← hbb]; exact ⟨((MS.start HB.out).below (below_new _ _)).drewN _, blk_words (show Blk _ _ _ c.e.toArray from Blk.new w 28 c.e.toArray)⟩) (fun W hW => ?_)
      rw [hbb]
      obtain ⟨HW, b0, b1, b2, b3, b4, b5, b6, b7⟩ := hW
      clear a0 a1 a2 a3 a4 a5 a6 a7 a8 a9 a10 a11 hf
      have a2 : W.cell? ⟨sb, 2, none⟩ = some (.string g.at'.q) := HW.out.b.cell 2
      have a0 : W.cell? ⟨sb, 0, none⟩ = some (.string g.at'.r) := HW.out.b.cell 0; have a1 : W.cell? ⟨sb, 1, none⟩ = some (.string g.at'.f) := HW.out.b.cell 1; have a3 : W.cell? ⟨sb, 3, none⟩ = some (.int .i64 g.at'.t) := HW.out.b.cell 3; have a4 : W.cell? ⟨sb, 4, none⟩ = some (.int .i64 g.at'.k) := HW.out.b.cell 4; have a5 : W.cell? ⟨sb, 5, none⟩ = some (.int .i64 g.at'.vk) := HW.out.b.cell 5; have a6 : W.cell? ⟨sb, 6, none⟩ = some (.int .i64 g.at'.vn) := HW.out.b.cell 6; have a7 : W.cell? ⟨sb, 7, none⟩ = some (.string g.at'.s) := HW.out.b.cell 7; have a8 : W.cell? ⟨sb, 8, none⟩ = some (.int .i64 g.fam) := HW.out.b.cell 8; have a9 : W.cell? ⟨sb, 9, none⟩ = some (.bool g.col) := HW.out.b.cell 9; have a10 : W.cell? ⟨sb, 10, none⟩ = some (.int .i64 g.cell) := HW.out.b.cell 10; have a11 : W.cell? ⟨sb, 11, none⟩ = some (.int .i64 g.seen) := HW.out.b.cell 11
      have hf : ∀ j, W.frozen? ⟨sb, j, none⟩ = false := fun j => HW.out.b.free j
      go_quiet (fail)
      go_wp2
      go_end0
      have m0 : MS w sb (W.drewN nq) #[.string g.at'.r, .string g.at'.f, .string g.at'.q, .int .i64 g.at'.t, .int .i64 g.at'.k, .int .i64 g.at'.vk, .int .i64 g.at'.vn, .string g.at'.s, .int .i64 g.fam, .bool g.col, .int .i64 g.cell, .int .i64 g.seen] := HW.out.drewN _
      have m2 := MS.sets8 (MS.sets3 m0 (.bool false) (.int .i64 (-1)) (.int .i64 0)) (.string c.r) (.string c.f) (.string c.q) (.int .i64 c.t) (.int .i64 c.k) (.int .i64 c.vk) (.int .i64 c.vn) (.string c.s)
      exact ⟨rfl, m2.b, m2.o⟩
end Go.Proofs.YtdjaofbjmnmlbaaDoor

/- What package cell's sight does with a cell: lets. Conditions: the sight stands in a block of its own. -/
namespace Go.Proofs.YtdjaofbjmnmlbaaDoor
open Go.RowKit

/-- Behind a move: the sight, the boxed cell, the boxed rules. -/
structure LtS (w W : World) (sb : Nat) (G : SG) (c : CT) (ver life now : Int) : Prop where
  m : MS w sb W G.a
  b : Blk W w.heap.size 28 c.e.toArray
  r : Blk W (w.heap.size + 1) 98 #[.int .i64 ver, .int .i64 life, .int .i64 now]
theorem LtS.below {w W W' : World} {sb : Nat} {G : SG} {c : CT} {ver life now : Int} (h : LtS w W sb G c ver life now) (hb : Below W.heap.size W W') : LtS w W' sb G c ver life now := ⟨h.m.below hb, h.b.keep hb h.b.lt, h.r.keep hb h.r.lt⟩

theorem lets_start (g : SG) (c : CT) (ver life now : Int) (sb : Nat) (w W1 : World) (h : Blk w sb 151 g.a) (h1 : Blk W1 sb 151 (g.move c).a)
    (h2 : But ((w.alloc (.cells c.e.toArray 28)).alloc (.cells #[.int .i64 ver, .int .i64 life, .int .i64 now] 98)).heap.size sb ((w.alloc (.cells c.e.toArray 28)).alloc (.cells #[.int .i64 ver, .int .i64 life, .int .i64 now] 98)) W1) : LtS w W1 sb (g.move c) c ver life now := by
  have hlt := h.lt
  have b2 : Blk ((w.alloc (.cells c.e.toArray 28)).alloc (.cells #[.int .i64 ver, .int .i64 life, .int .i64 now] 98)) (w.heap.size + 1) 98 #[.int .i64 ver, .int .i64 life, .int .i64 now] := by have := Blk.new (w.alloc (.cells c.e.toArray 28)) 98 #[.int .i64 ver, .int .i64 life, .int .i64 now]; simpa using this
  have b1 := (Blk.new w 28 c.e.toArray).keep (below_new _ (.cells #[.int .i64 ver, .int .i64 life, .int .i64 now] 98)) (by simp)
  have bk : ∀ {k : Nat} {T : TypeId} {xs : Array Value}, Blk ((w.alloc (.cells c.e.toArray 28)).alloc (.cells #[.int .i64 ver, .int .i64 life, .int .i64 now] 98)) k T xs → k ≠ sb → Blk W1 k T xs := fun hb hne => by
    have hl := hb.lt
    unfold Blk at *
    rw [h2.block _ hl hne]; exact hb
  refine ⟨⟨h1, ?_⟩, bk b1 (by omega), bk b2 (by omega)⟩
  exact (But.of_below ((below_new w (.cells c.e.toArray 28)).alloc (by simp) _) sb).trans (h2.mono (by simp; omega))

/-- What the walk over the last test holds. -/
abbrev LtT (W0 : World) (sb bb : Nat) (G : SG) (c : CT) (ver life now : Int) (W : World) : Prop := Hid (Below W0.heap.size W0 W ∧ bb + 1 < W0.heap.size ∧ sb < W0.heap.size ∧ Blk W0 sb 151 G.a) ∧ W.cell? ⟨bb, 3, none⟩ = some (.int .i64 c.t) ∧ W.cell? ⟨bb + 1, 0, none⟩ = some (.int .i64 ver) ∧ W.cell? ⟨bb + 1, 1, none⟩ = some (.int .i64 life) ∧ W.cell? ⟨bb + 1, 2, none⟩ = some (.int .i64 now) ∧ W.cell? ⟨sb, 11, none⟩ = some (.int .i64 G.seen)
section
variable {W0 W W' : World} {sb bb : Nat} {G : SG} {c : CT} {ver life now : Int}
theorem ltt_blk (h : LtT W0 sb bb G c ver life now W) : Blk W sb 151 G.a := h.1.out.2.2.2.keep h.1.out.1 h.1.out.2.2.1
theorem ltt_drew (h : LtT W0 sb bb G c ver life now W) : LtT W0 sb bb G c ver life now W.drew := ⟨hid ⟨h.1.out.1.drew, h.1.out.2⟩, h.2⟩
theorem ltt_call (h : LtT W0 sb bb G c ver life now W) (hb : Below W.heap.size W W') : LtT W0 sb bb G c ver life now W' := by
  obtain ⟨hh, a0, a1, a2, a3, a4⟩ := h
  obtain ⟨hbw, h1, h2, h3⟩ := hh.out
  have hz := hbw.size
  have hc : ∀ b o, b < W0.heap.size → W'.cell? ⟨b, o, none⟩ = W.cell? ⟨b, o, none⟩ := fun b o h => hb.cell (p := ⟨b, o, none⟩) (show b < W.heap.size by omega)
  refine ⟨hid ⟨hbw.trans (hb.mono hz), h1, h2, h3⟩, ?_, ?_, ?_, ?_, ?_⟩ <;> (rw [hc _ _ (by omega)]; assumption)
end

set_option maxHeartbeats 4000000 in
set_option maxRecDepth 100000 in
theorem lets_any (g : SG) (c : CT) (ver life now : Int) (sb : Nat) (w : World) (h : Blk w sb 151 g.a) :
    Calls Tryd.prog 126 #[.pointer (some ⟨sb, 0, none⟩), c.v, .agg #[.int .i64 ver, .int .i64 life, .int .i64 now]] w fun e w' => e = .returned (.bool (g.lets c ver life now).2) ∧ Blk w' sb 151 (g.lets c ver life now).1.a ∧ But w.heap.size sb w w' := by
  have mixed : Tryd.prog.follows .mixedOrders = true := by kernel_rfl
  have HB := hid h
  have HM : Hid (∀ W, Blk W sb 151 g.a → Calls Tryd.prog 156 #[.pointer (some ⟨sb, 0, none⟩), c.v] W fun e w' => e = .returned (.tuple #[]) ∧ Blk w' sb 151 (g.move c).a ∧ But W.heap.size sb W w') := fun W hW => move_any g c sb W hW
  have HS : Hid (∀ W1, Blk W1 sb 151 (g.move c).a → But ((w.alloc (.cells c.e.toArray 28)).alloc (.cells #[.int .i64 ver, .int .i64 life, .int .i64 now] 98)).heap.size sb ((w.alloc (.cells c.e.toArray 28)).alloc (.cells #[.int .i64 ver, .int .i64 life, .int .i64 now] 98)) W1 → LtS w W1 sb (g.move c) c ver life now) := fun W1 h1 h2 => lets_start g c ver life now sb w W1 h h1 h2
  have HBk : Hid (Blk ((w.alloc (.cells c.e.toArray 28)).alloc (.cells #[.int .i64 ver, .int .i64 life, .int .i64 now] 98)) sb 151 g.a) := h.keep ((below_new w _).alloc (by simp) _) h.lt
  have hlt := h.lt
  unfold SG.lets
  obtain ⟨G, hG⟩ : ∃ G, g.move c = G := ⟨_, rfl⟩
  rw [hG] at HM HS ⊢
  clear h hG
  simp only
  obtain ⟨R, hR⟩ : ∃ R, (if c.k = 4 then ((⟨G.at', max G.fam c.t, G.col, G.cell, G.seen⟩, false) : SG × Bool) else if c.k = 3 then (⟨G.at', G.fam, true, G.cell, G.seen⟩, false) else if c.k = 2 then (⟨G.at', G.fam, G.col, c.t, G.seen⟩, false) else if c.k = 1 ∧ G.has c.t = true ∧ livesM life now c.t = true ∧ G.seen < ver then (⟨G.at', G.fam, G.col, G.cell, IntKind.i64.wrap (G.seen + 1)⟩, true) else (G, false)) = R := ⟨_, rfl⟩
  rw [hR]
  have HR := hid hR
  clear hR
  go_enter Tryd.func126, Tryd.ntmps126
  go_upto_region 2 with (go_at_call 156; refine (HM.out _ HBk.out).mono ?_; rintro e w1 ⟨rfl, h1, h2⟩; have HL := hid (HS.out w1 h1 h2); clear h1 h2)
  obtain ⟨bb, hbb⟩ : ∃ bb, w.heap.size = bb := ⟨_, rfl⟩
  rw [hbb]
  have HBB := hid hbb
  have b3 : w1.cell? ⟨bb, 3, none⟩ = some (.int .i64 c.t) := by rw [← hbb]; exact HL.out.b.cell 3
  have b4 : w1.cell? ⟨bb, 4, none⟩ = some (.int .i64 c.k) := by rw [← hbb]; exact HL.out.b.cell 4
  have r0 : w1.cell? ⟨bb + 1, 0, none⟩ = some (.int .i64 ver) := by rw [← hbb]; exact HL.out.r.cell 0
  have r1 : w1.cell? ⟨bb + 1, 1, none⟩ = some (.int .i64 life) := by rw [← hbb]; exact HL.out.r.cell 1
  have r2 : w1.cell? ⟨bb + 1, 2, none⟩ = some (.int .i64 now) := by rw [← hbb]; exact HL.out.r.cell 2
  have a8 : w1.cell? ⟨sb, 8, none⟩ = some (.int .i64 G.fam) := HL.out.m.b.cell 8
  have a9 : w1.cell? ⟨sb, 9, none⟩ = some (.bool G.col) := HL.out.m.b.cell 9
  have a10 : w1.cell? ⟨sb, 10, none⟩ = some (.int .i64 G.cell) := HL.out.m.b.cell 10
  have a11 : w1.cell? ⟨sb, 11, none⟩ = some (.int .i64 G.seen) := HL.out.m.b.cell 11
  have hf : ∀ j, w1.frozen? ⟨sb, j, none⟩ = false := fun j => HL.out.m.b.free j
  have HBbw : Hid (bb + 1 < w1.heap.size ∧ sb < w1.heap.size) := by have h1 := HL.out.r.lt; have h2 := HL.out.m.b.lt; rw [hbb] at h1; exact ⟨h1, h2⟩
  clear hbb HM HS HBk HB hlt
  by_cases k4 : c.k = 4
  · have HRk : Hid (R = _) := hid (HR.out.symm.trans (if_pos k4))
    have q4 : (c.k == 4) = true := by simpa using k4
    clear k4
    go_upto_region 4 with (fail)
    go_region
    go_wp2
    go_ret
    rw [HRk.out]
    have m := (HL.out.m.drewN 1).set 8 (.int .i64 (max G.fam c.t))
    exact ⟨rfl, m.b, m.o⟩
  have HR := hid ((if_neg k4).symm.trans HR.out)
  have q4 : (c.k == 4) = false := by simpa using k4
  clear k4
  by_cases k3 : c.k = 3
  · have HRk : Hid (R = _) := hid (HR.out.symm.trans (if_pos k3))
    have q3 : (c.k == 3) = true := by simpa using k3
    clear k3
    go_wp2
    go_ret
    rw [HRk.out]
    have m := HL.out.m.set 9 (.bool true)
    exact ⟨rfl, m.b, m.o⟩
  have HR := hid ((if_neg k3).symm.trans HR.out)
  have q3 : (c.k == 3) = false := by simpa using k3
  clear k3
  by_cases k2 : c.k = 2
  · have HRk : Hid (R = _) := hid (HR.out.symm.trans (if_pos k2))
    have q2 : (c.k == 2) = true := by simpa using k2
    clear k2
    go_wp2
    go_ret
    rw [HRk.out]
    have m := HL.out.m.set 10 (.int .i64 c.t)
    exact ⟨rfl, m.b, m.o⟩
  have HR := hid ((if_neg k2).symm.trans HR.out)
  have q2 : (c.k == 2) = false := by simpa using k2
  clear k2
  by_cases k1 : c.k = 1
  · have q1 : (c.k == 1) = true := by simpa using k1
    have HK1 := hid k1
    clear k1
    have hH : Hid (∀ W, Blk W sb 151 G.a → Calls Tryd.prog 157 #[.pointer (some ⟨sb, 0, none⟩), .int .i64 c.t] W fun e w' => e = .returned (.bool (G.has c.t)) ∧ w' = W) := fun W hW => has_any G c.t sb W hW
    have hL : Hid (∀ W, Calls Tryd.prog 158 #[.agg #[.int .i64 ver, .int .i64 life, .int .i64 now], .int .i64 c.t] W fun e w' => e = .returned (.bool (livesM life now c.t)) ∧ Below W.heap.size W w') := fun W => lives_any ver life now c.t W
    obtain ⟨bh, hbh⟩ : ∃ bh, G.has c.t = bh := ⟨_, rfl⟩
    obtain ⟨bl, hbl⟩ : ∃ bl, livesM life now c.t = bl := ⟨_, rfl⟩
    rw [hbh] at hH
    rw [hbl] at hL
    rw [hbh, hbl] at HR
    clear hbh hbl
    have HT : Hid (LtT w1 sb bb G c ver life now w1) := ⟨hid ⟨Below.refl _ _, HBbw.out.1, HBbw.out.2, HL.out.m.b⟩, b3, r0, r1, r2, a11⟩
    go_upto_region 10 with (fail)
    cases bh with
    | false =>
      have HRk : Hid (R = _) := hid (HR.out.symm.trans (if_neg (by simp)))
      have HS1 : Hid (Blk w1 sb 151 G.a) := HL.out.m.b
      have hH2 : Hid (∀ n, Calls Tryd.prog 157 #[.pointer (some ⟨sb, 0, none⟩), .int .i64 c.t] (w1.drewN n) fun e w' => e = .returned (.bool false) ∧ w' = w1.drewN n) := fun n => hH.out _ HS1.out
      go_quiet ((go_at_call 157; with_reducible exact Calls.quiet_of_same (hH2.out _)))
      go_wp2
      go_ret
      rw [HRk.out]
      have m := HL.out.m.drewN nq
      exact ⟨rfl, m.b, m.o⟩
    | true =>
      cases bl with
      | false =>
        have HRk : Hid (R = _) := hid (HR.out.symm.trans (if_neg (by simp)))
        refine wp_region_held_drew (S := (fun W' => Hid (Below w1.heap.size w1 W' ∧ bb + 1 < w1.heap.size ∧ sb < w1.heap.size ∧ Blk w1 sb 151 G.a) ∧ W'.cell? ⟨bb, 3, none⟩ = some (.int .i64 c.t) ∧ W'.cell? ⟨bb + 1, 0, none⟩ = some (.int .i64 ver) ∧ W'.cell? ⟨bb + 1, 1, none⟩ = some (.int .i64 life) ∧ W'.cell? ⟨bb + 1, 2, none⟩ = some (.int .i64 now) ∧ W'.cell? ⟨sb, 11, none⟩ = some (.int .i64 G.seen))) (by kernel_rfl) ?_ (fun hHeld => ?_)
        (exact ltt_drew HT.out)
        (refine wpAnyH_take (i := 0) (v := ?_) rfl (by kernel_rfl) (by kernel_rfl) (by kernel_rfl) (fun _ _ _ h => h) (Or.inl ⟨by kernel_rfl, ?_⟩) (by assumption) ?_; rotate_left; · (intro w hSw; (try dsimp only at hSw); go_simp; first | done | with_reducible rfl))
        (try simp only [Act.put]); (try simp only [List.getElem_toArray]); (try simp only [List.getElem_cons_succ]); (try simp only [List.getElem_cons_zero]); (try simp only [List.setIfInBounds_toArray]); (try simp only [List.set_cons_succ]); (try simp only [List.set_cons_zero])
        (refine wpAnyH_take (i := 1) (v := ?_) rfl (by kernel_rfl) (by kernel_rfl) (by kernel_rfl) (fun _ _ _ h => h) (Or.inl ⟨by kernel_rfl, ?_⟩) (by assumption) ?_; rotate_left; · (intro w hSw; (try dsimp only at hSw); go_simp; first | done | with_reducible rfl))
        (try simp only [Act.put]); (try simp only [List.getElem_toArray]); (try simp only [List.getElem_cons_succ]); (try simp only [List.getElem_cons_zero]); (try simp only [List.setIfInBounds_toArray]); (try simp only [List.set_cons_succ]); (try simp only [List.set_cons_zero])
        (refine wpAnyH_take (i := 2) (v := ?_) rfl (by kernel_rfl) (by kernel_rfl) (by kernel_rfl) (fun _ _ _ h => h) (Or.inl ⟨by kernel_rfl, ?_⟩) (by assumption) ?_; rotate_left; · (intro w hSw; (try dsimp only at hSw); go_simp; first | done | with_reducible rfl))
        (try simp only [Act.put]); (try simp only [List.getElem_toArray]); (try simp only [List.getElem_cons_succ]); (try simp only [List.getElem_cons_zero]); (try simp only [List.setIfInBounds_toArray]); (try simp only [List.set_cons_succ]); (try simp only [List.set_cons_zero])
        (refine wpAnyH_ready (rs := [3]) (by kernel_rfl) (by simp) (AllReadyH.cons rfl (fun K hK => ?_) AllReadyH.nil); go_simp; (go_at_call 157; refine (hH.out _ (ltt_blk (by assumption))).mono ?_; rintro e w5 ⟨rfl, rfl⟩); refine hK.out _ _ ?_ (fun hHeld => ?_))
        · assumption
        clear hK K
        (try simp only [Act.put]); (try simp only [List.getElem_toArray]); (try simp only [List.getElem_cons_succ]); (try simp only [List.getElem_cons_zero]); (try simp only [List.setIfInBounds_toArray]); (try simp only [List.set_cons_succ]); (try simp only [List.set_cons_zero])
        (refine wpAnyH_take (i := 4) (v := ?_) rfl (by kernel_rfl) (by kernel_rfl) (by kernel_rfl) (fun _ _ _ h => h) (Or.inl ⟨by kernel_rfl, ?_⟩) (by assumption) ?_; rotate_left; · (intro w hSw; (try dsimp only at hSw); go_simp; first | done | with_reducible rfl))
        (try simp only [Act.put]); (try simp only [List.getElem_toArray]); (try simp only [List.getElem_cons_succ]); (try simp only [List.getElem_cons_zero]); (try simp only [List.setIfInBounds_toArray]); (try simp only [List.set_cons_succ]); (try simp only [List.set_cons_zero])
        (refine wpAnyH_take (i := 5) (v := ?_) rfl (by kernel_rfl) (by kernel_rfl) (by kernel_rfl) (fun _ _ _ h => h) (Or.inl ⟨by kernel_rfl, ?_⟩) (by assumption) ?_; rotate_left; · (intro w hSw; (try dsimp only at hSw); go_simp; first | done | with_reducible rfl))
        (try simp only [Act.put]); (try simp only [List.getElem_toArray]); (try simp only [List.getElem_cons_succ]); (try simp only [List.getElem_cons_zero]); (try simp only [List.setIfInBounds_toArray]); (try simp only [List.set_cons_succ]); (try simp only [List.set_cons_zero])
        (refine wpAnyH_take (i := 6) (v := ?_) rfl (by kernel_rfl) (by kernel_rfl) (by kernel_rfl) (fun _ _ _ h => h) (Or.inl ⟨by kernel_rfl, ?_⟩) (by assumption) ?_; rotate_left; · (intro w hSw; (try dsimp only at hSw); go_simp; first | done | with_reducible rfl))
        (try simp only [Act.put]); (try simp only [List.getElem_toArray]); (try simp only [List.getElem_cons_succ]); (try simp only [List.getElem_cons_zero]); (try simp only [List.setIfInBounds_toArray]); (try simp only [List.set_cons_succ]); (try simp only [List.set_cons_zero])
        (refine wpAnyH_take (i := 7) (v := ?_) rfl (by kernel_rfl) (by kernel_rfl) (by kernel_rfl) (fun _ _ _ h => h) (Or.inl ⟨by kernel_rfl, ?_⟩) (by assumption) ?_; rotate_left; · (intro w hSw; (try dsimp only at hSw); go_simp; first | done | with_reducible rfl))
        (try simp only [Act.put]); (try simp only [List.getElem_toArray]); (try simp only [List.getElem_cons_succ]); (try simp only [List.getElem_cons_zero]); (try simp only [List.setIfInBounds_toArray]); (try simp only [List.set_cons_succ]); (try simp only [List.set_cons_zero])
        (refine wpAnyH_ready (rs := [8]) (by kernel_rfl) (by simp) (AllReadyH.cons rfl (fun K hK => ?_) AllReadyH.nil); go_simp; (go_at_call 158; refine (hL.out _).mono ?_; rintro e w5 ⟨rfl, hb5⟩); refine hK.out _ _ ?_ (fun hHeld => ?_))
        · exact ltt_call (by assumption) hb5
        clear hK K
        (try simp only [Act.put]); (try simp only [List.getElem_toArray]); (try simp only [List.getElem_cons_succ]); (try simp only [List.getElem_cons_zero]); (try simp only [List.setIfInBounds_toArray]); (try simp only [List.set_cons_succ]); (try simp only [List.set_cons_zero])
        (refine wpAnyH_take (i := 9) (v := ?_) rfl (by kernel_rfl) (by kernel_rfl) (by kernel_rfl) (fun _ _ _ h => h) (Or.inl ⟨by kernel_rfl, ?_⟩) (by assumption) ?_; rotate_left; · (intro w hSw; (try dsimp only at hSw); go_simp; first | done | with_reducible rfl))
        (try simp only [Act.put]); (try simp only [List.getElem_toArray]); (try simp only [List.getElem_cons_succ]); (try simp only [List.getElem_cons_zero]); (try simp only [List.setIfInBounds_toArray]); (try simp only [List.set_cons_succ]); (try simp only [List.set_cons_zero])
        (refine wpAnyH_take (i := 10) (v := ?_) rfl (by kernel_rfl) (by kernel_rfl) (by kernel_rfl) (fun _ _ _ h => h) (Or.inl ⟨by kernel_rfl, ?_⟩) (by assumption) ?_; rotate_left; · (intro w hSw; (try dsimp only at hSw); go_simp; first | done | with_reducible rfl))
        (try simp only [Act.put]); (try simp only [List.getElem_toArray]); (try simp only [List.getElem_cons_succ]); (try simp only [List.getElem_cons_zero]); (try simp only [List.setIfInBounds_toArray]); (try simp only [List.set_cons_succ]); (try simp only [List.set_cons_zero])
        (refine wpAnyH_take (i := 11) (v := undef) rfl (by kernel_rfl) (by kernel_rfl) (by kernel_rfl) (fun _ _ _ h => h) (Or.inr ⟨by kernel_rfl, rfl⟩) (by assumption) ?_; (try simp only [Act.put]); (try simp only [List.getElem_toArray]); (try simp only [List.getElem_cons_succ]); (try simp only [List.getElem_cons_zero]); (try simp only [List.setIfInBounds_toArray]); (try simp only [List.set_cons_succ]); (try simp only [List.set_cons_zero]))
        (refine wpAnyH_take (i := 12) (v := undef) rfl (by kernel_rfl) (by kernel_rfl) (by kernel_rfl) (fun _ _ _ h => h) (Or.inr ⟨by kernel_rfl, rfl⟩) (by assumption) ?_; (try simp only [Act.put]); (try simp only [List.getElem_toArray]); (try simp only [List.getElem_cons_succ]); (try simp only [List.getElem_cons_zero]); (try simp only [List.setIfInBounds_toArray]); (try simp only [List.set_cons_succ]); (try simp only [List.set_cons_zero]))
        (refine wpAnyH_take (i := 13) (v := undef) rfl (by kernel_rfl) (by kernel_rfl) (by kernel_rfl) (fun _ _ _ h => h) (Or.inr ⟨by kernel_rfl, rfl⟩) (by assumption) ?_; (try simp only [Act.put]); (try simp only [List.getElem_toArray]); (try simp only [List.getElem_cons_succ]); (try simp only [List.getElem_cons_zero]); (try simp only [List.setIfInBounds_toArray]); (try simp only [List.set_cons_succ]); (try simp only [List.set_cons_zero]))
        (refine wpAnyH_take (i := 14) (v := undef) rfl (by kernel_rfl) (by kernel_rfl) (by kernel_rfl) (fun _ _ _ h => h) (Or.inr ⟨by kernel_rfl, rfl⟩) (by assumption) ?_; (try simp only [Act.put]); (try simp only [List.getElem_toArray]); (try simp only [List.getElem_cons_succ]); (try simp only [List.getElem_cons_zero]); (try simp only [List.setIfInBounds_toArray]); (try simp only [List.set_cons_succ]); (try simp only [List.set_cons_zero]))
        (refine wpAnyH_take (i := 15) (v := undef) rfl (by kernel_rfl) (by kernel_rfl) (by kernel_rfl) (fun _ _ _ h => h) (Or.inr ⟨by kernel_rfl, rfl⟩) (by assumption) ?_; (try simp only [Act.put]); (try simp only [List.getElem_toArray]); (try simp only [List.getElem_cons_succ]); (try simp only [List.getElem_cons_zero]); (try simp only [List.setIfInBounds_toArray]); (try simp only [List.set_cons_succ]); (try simp only [List.set_cons_zero]))
        (refine wpAnyH_take (i := 16) (v := undef) rfl (by kernel_rfl) (by kernel_rfl) (by kernel_rfl) (fun _ _ _ h => h) (Or.inr ⟨by kernel_rfl, rfl⟩) (by assumption) ?_; (try simp only [Act.put]); (try simp only [List.getElem_toArray]); (try simp only [List.getElem_cons_succ]); (try simp only [List.getElem_cons_zero]); (try simp only [List.setIfInBounds_toArray]); (try simp only [List.set_cons_succ]); (try simp only [List.set_cons_zero]))
        (refine wpAnyH_take (i := 17) (v := undef) rfl (by kernel_rfl) (by kernel_rfl) (by kernel_rfl) (fun _ _ _ h => h) (Or.inr ⟨by kernel_rfl, rfl⟩) (by assumption) ?_; (try simp only [Act.put]); (try simp only [List.getElem_toArray]); (try simp only [List.getElem_cons_succ]); (try simp only [List.getElem_cons_zero]); (try simp only [List.setIfInBounds_toArray]); (try simp only [List.set_cons_succ]); (try simp only [List.set_cons_zero]))
        (refine wpAnyH_take (i := 18) (v := ?_) rfl (by kernel_rfl) (by kernel_rfl) (by kernel_rfl) (fun _ _ _ h => h) (Or.inl ⟨by kernel_rfl, ?_⟩) (by assumption) ?_; rotate_left; · (intro w hSw; (try dsimp only at hSw); go_simp; first | done | with_reducible rfl))
        (try simp only [Act.put]); (try simp only [List.getElem_toArray]); (try simp only [List.getElem_cons_succ]); (try simp only [List.getElem_cons_zero]); (try simp only [List.setIfInBounds_toArray]); (try simp only [List.set_cons_succ]); (try simp only [List.set_cons_zero])
        refine wpAnyH_done (by kernel_rfl) ?_ _
        have hLast := hHeld
        go_wp2
        go_ret
        rw [HRk.out]
        have m := HL.out.m.below hLast.1.out.1
        exact ⟨rfl, m.b, m.o⟩
      | true =>
        by_cases hs : G.seen < ver
        · have HRk : Hid (R = _) := hid (HR.out.symm.trans (if_pos ⟨HK1.out, rfl, rfl, hs⟩))
          obtain ⟨x, hx⟩ : ∃ x, IntKind.i64.wrap (G.seen + 1) = x := ⟨_, rfl⟩
          rw [hx] at HRk
          go_region_held3 (fun W' => Hid (Below w1.heap.size w1 W' ∧ bb + 1 < w1.heap.size ∧ sb < w1.heap.size ∧ Blk w1 sb 151 G.a) ∧ W'.cell? ⟨bb, 3, none⟩ = some (.int .i64 c.t) ∧ W'.cell? ⟨bb + 1, 0, none⟩ = some (.int .i64 ver) ∧ W'.cell? ⟨bb + 1, 1, none⟩ = some (.int .i64 life) ∧ W'.cell? ⟨bb + 1, 2, none⟩ = some (.int .i64 now) ∧ W'.cell? ⟨sb, 11, none⟩ = some (.int .i64 G.seen))
            (first | exact HT.out | exact ltt_drew HT.out | exact ltt_call (by assumption) hb5 | exact ltt_drew (by assumption) | assumption)
            (first | (go_at_call 157; refine (hH.out _ (ltt_blk (by assumption))).mono ?_; rintro e w5 ⟨rfl, rfl⟩) | (go_at_call 158; refine (hL.out _).mono ?_; rintro e w5 ⟨rfl, hb5⟩))
          rename_i hLast
          have hf : w5.frozen? ⟨sb, 11, none⟩ = false := (HL.out.m.below hLast.1.out.1).b.free 11
          have a11 := hLast.2.2.2.2.2
          have HX := hid (HL.out.m.below hLast.1.out.1)
          clear hLast
          go_wp2
          go_ret
          rw [HRk.out]
          have m := HX.out.set 11 (.int .i64 x)
          exact ⟨rfl, m.b, m.o⟩
        · have HRk : Hid (R = _) := hid (HR.out.symm.trans (if_neg (by rintro ⟨-, -, -, h⟩; exact hs h)))
          go_region_held3 (fun W' => Hid (Below w1.heap.size w1 W' ∧ bb + 1 < w1.heap.size ∧ sb < w1.heap.size ∧ Blk w1 sb 151 G.a) ∧ W'.cell? ⟨bb, 3, none⟩ = some (.int .i64 c.t) ∧ W'.cell? ⟨bb + 1, 0, none⟩ = some (.int .i64 ver) ∧ W'.cell? ⟨bb + 1, 1, none⟩ = some (.int .i64 life) ∧ W'.cell? ⟨bb + 1, 2, none⟩ = some (.int .i64 now) ∧ W'.cell? ⟨sb, 11, none⟩ = some (.int .i64 G.seen))
            (first | exact HT.out | exact ltt_drew HT.out | exact ltt_call (by assumption) hb5 | exact ltt_drew (by assumption) | assumption)
            (first | (go_at_call 157; refine (hH.out _ (ltt_blk (by assumption))).mono ?_; rintro e w5 ⟨rfl, rfl⟩) | (go_at_call 158; refine (hL.out _).mono ?_; rintro e w5 ⟨rfl, hb5⟩))
          rename_i hLast
          go_wp2
          go_ret
          rw [HRk.out]
          have m := HL.out.m.below hLast.1.out.1
          exact ⟨rfl, m.b, m.o⟩
  · have q1 : (c.k == 1) = false := by simpa using k1
    have HRk : Hid (R = _) := hid (HR.out.symm.trans (if_neg (by rintro ⟨h, -⟩; exact k1 h)))
    clear k1
    go_wp2
    go_ret
    rw [HRk.out]
    exact ⟨rfl, HL.out.m.b, HL.out.m.o⟩
end Go.Proofs.YtdjaofbjmnmlbaaDoor
