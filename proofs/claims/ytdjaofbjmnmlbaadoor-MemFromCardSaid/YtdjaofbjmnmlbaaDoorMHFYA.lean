/- Several texts in one: HF SD HG HH HI HJ HK KD YA. Conditions: as each theorem names them. -/
import Derived.Test.YtdjaofbjmnmlbaaDoorHE
import Derived.Test.YtdjaofbjmnmlbaaDoorCC
import Derived.Test.YtdjaofbjmnmlbaaDoorSC
import Derived.Defers
import Derived.Recover
import Derived.Deep.RegionHeld3
import Derived.RegionTactic
import Derived.Deep.AppendSrc
/- cell.Sort at every list of cells: the right ones in order, of each place the last one. Conditions: a hundred thousand cells at most, their texts no longer than any are, their numbers of 64 bits; the tables of utf8 read as they are laid. -/
namespace Go.Proofs.YtdjaofbjmnmlbaaDoor
open Go.RowKit

/-- A cell as a program may hold it. -/
def okC (c : CT) : Prop := c.f.size ≤ 9223372036854775807 ∧ c.s.size ≤ 9223372036854775807 ∧ inI c.vn
/-- Is a cell right? -/
def CT.ok (c : CT) : Bool := cRight c.r.data.toList c.f.data.toList c.q.data.toList c.t c.k c.vk c.vn c.s.data.toList
theorem cright_ct (c : CT) (h : okC c) (w : World) (hL : LaidU w) : Calls Tryd.prog 58 #[c.v] w fun e w' => e = .returned (.bool c.ok) ∧ Below w.heap.size w w' :=
  cright_any c.r c.f c.q c.s c.t c.k c.vk h.2.2 h.1 h.2.1 w hL

theorem lasts_len : ∀ s : List CT, (lastsM s).length ≤ s.length
  | [] => Nat.le_refl _
  | [x] => Nat.le_refl _
  | x :: y :: t => by
    have := lasts_len (y :: t)
    show (if CT.cmp x y = 0 then lastsM (y :: t) else x :: lastsM (y :: t)).length ≤ _
    split
    · simp only [List.length_cons] at *; omega
    · simp only [List.length_cons] at *; omega

set_option maxHeartbeats 1000000 in
theorem lasts_any (B : Nat) (v : Value) (s : List CT) (hs : s.length ≤ 100000) (w : World) (h : CRow w B v s) (hB : B ≤ w.heap.size) :
    Calls Tryd.prog 74 #[v] w fun e w' => ∃ v', e = .returned v' ∧ CRow w' B v' (lastsM s) ∧ Below B w w' := by
  have h' := h
  rcases h.2 with ⟨e, hz⟩ | ⟨g, cap, cur, e, hBg, hb, _⟩
  · have e0 : s = [] := List.eq_nil_of_length_eq_zero hz
    subst e0 e
    have HN := hid (CRow.none w B)
    clear h h'
    go_enter Tryd.func74, Tryd.ntmps74
    go_wp2
    go_loopw [3, 10] (fun vo vi wr => vi = .int .i64 0 ∧ vo = .slice none 0 0 ∧ wr = w) (fun _ _ _ => 0)
    case atStart => exact ⟨rfl, rfl, rfl⟩
    case round =>
      obtain ⟨rfl, rfl, rfl⟩ := hrel
      go_wp2
      go_ret
      exact ⟨_, rfl, HN.out, Below.refl _ _⟩
  · subst e
    exact lasts_some B g cap s hs w h' hB hBg (Array.getElem?_eq_some_iff.1 hb).1

set_option maxHeartbeats 4000000 in
set_option maxRecDepth 100000 in
theorem csort_any (v : Value) (l : List CT) (hl : l.length ≤ 100000) (w : World) (h : ClA w v l) (hok : ∀ c ∈ l, okC c) (hL : LaidU w) :
    Calls Tryd.prog 25 #[v] w fun e w' => ∃ v' l', e = .returned v' ∧ StbL (l.filter CT.ok) l' ∧ CRow w' w.heap.size v' (lastsM (l'.map Prod.fst)) ∧ Below w.heap.size w w' := by
  obtain ⟨A, cc, rfl, hc1, hc2, hh⟩ := h
  obtain ⟨n, hn⟩ : ∃ n, l.length = n := ⟨_, rfl⟩
  have HN := hid hn
  rw [hn] at hl hc1 hh ⊢
  have HH := hid hh
  have HOK := hid hok
  have HLw := hid hL
  have HR : Hid (∀ (c : CT) (W : World), okC c → Below w.heap.size w W → Calls Tryd.prog 58 #[c.v] W fun e w' => e = .returned (.bool c.ok) ∧ Below W.heap.size W w') := fun c W h1 h2 => cright_ct c h1 W (hL.below h2)
  have HSt := hid sortStable_any
  have HLa := hid lasts_any
  have HN0 := hid (CRow.none w w.heap.size)
  clear hn hh hok hL
  go_enter Tryd.func25, Tryd.ntmps25
  go_wp2
  go_loopw [3, 8] (fun vo vi wr => ∃ i : Nat, i ≤ n ∧ vi = .int .i64 i ∧ Hid (CRow wr w.heap.size vo ((l.take i).filter CT.ok)) ∧ Hid (Below w.heap.size w wr)) (fun _ vi _ => n - (intOf vi).toNat)
  case atStart => exact ⟨0, Nat.zero_le _, rfl, HN0.out, Below.refl _ _⟩
  case round =>
    obtain ⟨i, hi, rfl, HO, HB⟩ := hrel
    by_cases hlt : i < n
    · have hin : i < l.length := by rw [HN.out]; exact hlt
      have hltz : (i : Int) < (n : Int) := by omega
      obtain ⟨b, off, rfl, hhc⟩ := HH.out (by omega)
      have hbw : b < w.heap.size := hhc.lt (by omega)
      obtain ⟨c, hc⟩ : ∃ c, l[i] = c := ⟨_, rfl⟩
      have P : wr.cell? ⟨b, off + i * 8, none⟩ = some (.string c.r) ∧ wr.cell? ⟨b, off + i * 8 + 1, none⟩ = some (.string c.f) ∧ wr.cell? ⟨b, off + i * 8 + 2, none⟩ = some (.string c.q) ∧ wr.cell? ⟨b, off + i * 8 + 3, none⟩ = some (.int .i64 c.t) ∧ wr.cell? ⟨b, off + i * 8 + 4, none⟩ = some (.int .i64 c.k) ∧ wr.cell? ⟨b, off + i * 8 + 5, none⟩ = some (.int .i64 c.vk) ∧ wr.cell? ⟨b, off + i * 8 + 6, none⟩ = some (.int .i64 c.vn) ∧ wr.cell? ⟨b, off + i * 8 + 7, none⟩ = some (.string c.s) := by
        rw [← hc]
        exact (hhc.below HB.out hbw).words i hin
      have hoc : okC c := by rw [← hc]; exact HOK.out _ (List.getElem_mem hin)
      have HTk : Hid ((l.take (i + 1)).filter CT.ok = (l.take i).filter CT.ok ++ (if c.ok = true then [c] else [])) := by
        unfold Hid
        rw [List.take_add_one, List.getElem?_eq_getElem hin, List.filter_append, hc]
        show _ ++ List.filter CT.ok [c] = _
        simp only [List.filter_cons, List.filter_nil]
      have HLn : Hid (((l.take i).filter CT.ok).length ≤ 100000) := by
        have := List.length_filter_le CT.ok (l.take i)
        rw [List.length_take] at this
        unfold Hid; omega
      obtain ⟨p0, p1, p2, p3, p4, p5, p6, p7⟩ := P
      clear hc hhc
      go_upto_region 5 with (fail)
      obtain ⟨bb, hbb⟩ : ∃ bb, wr.heap.size = bb := ⟨_, rfl⟩
      refine wp_ltc (fun W => Hid (Blk W bb 28 c.e.toArray ∧ Below wr.heap.size wr W ∧ bb = wr.heap.size) ∧ W.cell? ⟨bb, 0, none⟩ = some (.string c.r) ∧ W.cell? ⟨bb, 1, none⟩ = some (.string c.f) ∧ W.cell? ⟨bb, 2, none⟩ = some (.string c.q) ∧ W.cell? ⟨bb, 3, none⟩ = some (.int .i64 c.t) ∧ W.cell? ⟨bb, 4, none⟩ = some (.int .i64 c.k) ∧ W.cell? ⟨bb, 5, none⟩ = some (.int .i64 c.vk) ∧ W.cell? ⟨bb, 6, none⟩ = some (.int .i64 c.vn) ∧ W.cell? ⟨bb, 7, none⟩ = some (.string c.s)) (by rw [← hbb]; have hB := Blk.new wr 28 c.e.toArray; exact ⟨⟨hB, below_new _ _, rfl⟩, blk_words hB⟩) (fun W hW => ?_)
      rw [hbb]
      obtain ⟨HW, b0, b1, b2, b3, b4, b5, b6, b7⟩ := hW
      have HB2 : Hid (Below w.heap.size w W) := HB.out.trans (HW.out.2.1.mono HB.out.size)
      have HO2 : Hid (CRow W w.heap.size _ ((l.take i).filter CT.ok)) := HO.out.below HW.out.2.1
      have hR := HR.out c W hoc HB2.out
      clear p0 p1 p2 p3 p4 p5 p6 p7 hbb HO HB
      cases hck : c.ok with
      | false =>
        rw [hck] at hR HTk
        have HR2 := hid hR
        have HT2 : Hid ((l.take (i + 1)).filter CT.ok = (l.take i).filter CT.ok) := by have := HTk.out; rwa [if_neg (by decide), List.append_nil] at this
        clear hR hck
        go_wp2_with (go_at_call 58; refine HR2.out.mono ?_; rintro e w5 ⟨rfl, hb5⟩)
        go_roundw
        case rel => exact ⟨i + 1, by omega, by go_num, by rw [HT2.out]; exact HO2.out.below hb5, HB2.out.trans (hb5.mono HB2.out.size)⟩
        case measure => simp [intOf]; omega
      | true =>
        rw [hck] at hR HTk
        have HR2 := hid hR
        have HT2 : Hid ((l.take (i + 1)).filter CT.ok = (l.take i).filter CT.ok ++ [c]) := by have := HTk.out; rwa [if_pos rfl] at this
        clear hR hck
        go_wp2_with (first
          | (go_at_call 58; refine HR2.out.mono ?_; rintro e w5 ⟨rfl, hb5⟩; have hK5 := hid (HW.out.1.keep hb5 HW.out.1.lt); obtain ⟨e0, e1, e2, e3, e4, e5, e6, e7⟩ := blk_words hK5.out; have HO5 := hid (HO2.out.below hb5))
          | (at_builtin; refine wpList_append_cell rfl (.tmp 14) (.tmp 16) rfl _ w.heap.size _ _ rfl (HO5.out.below (below_new _ _)) _ 1 rfl c (ct_new c _ _) HLn.out (by have := HB2.out.size; have := hb5.size; simp; omega) ?_; intro v6 w6 h6 hb6 _))
        go_roundw
        case rel =>
          have z1 := HB2.out.size
          have z2 := hb5.size
          exact ⟨i + 1, by omega, by go_num, by rw [HT2.out]; exact h6, ((HB2.out.trans (hb5.mono z1)).alloc (by omega) _).trans hb6⟩
        case measure => simp [intOf]; omega
    · obtain rfl : i = n := by omega
      have hO2 := HO.out
      rw [List.take_of_length_le (by rw [HN.out]; exact Nat.le_refl _)] at hO2
      have HO2 := hid hO2
      clear hO2
      have HLn : Hid ((l.filter CT.ok).length ≤ 100000) := by
        have := List.length_filter_le CT.ok l
        have := HN.out
        unfold Hid; omega
      go_wp2_with (first
        | (go_at_call 73; refine (HSt.out w.heap.size _ _ HLn.out wr HO2.out HB.out.size).mono ?_; rintro e w5 ⟨rfl, l', hS5, hR5, hb5⟩; have hq5 := hid hS5; have hl5 : (l'.map Prod.fst).length ≤ 100000 := (by rw [List.length_map, hS5.perm.length_eq, List.length_zipIdx]; exact HLn.out))
        | (go_at_call 74; refine (HLa.out w.heap.size _ _ hl5 w5 hR5 (Nat.le_trans HB.out.size hb5.size)).mono ?_; rintro e w6 ⟨v6, rfl, hR6, hb6⟩))
      go_ret
      exact ⟨_, l', rfl, hq5.out, hR6, (HB.out.trans hb5).trans hb6⟩
end Go.Proofs.YtdjaofbjmnmlbaaDoor

/- The reader of package codec: a byte, some bytes, a number; each ends in what it reads or in the panic that tells of something else. Conditions: the slice that is read holds its bytes. -/
namespace Go.Proofs.YtdjaofbjmnmlbaaDoor
open Go.RowKit

/-- The panic of a reader that meets something else. -/
abbrev otherP : Ending := .panicked [{ v := .iface 137 (.agg #[]), recovered := false }]

set_option maxHeartbeats 400000 in
theorem want_yes (rb : Nat) (w : World) : Calls Tryd.prog 116 #[.pointer (some ⟨rb, 0, none⟩), .bool true] w fun e w' => e = .returned (.tuple #[]) ∧ w = w' := by
  go_enter Tryd.func116, Tryd.ntmps116
  go_wp2
  go_end0
  exact ⟨rfl, rfl⟩

set_option maxHeartbeats 400000 in
theorem want_no (rb : Nat) (w : World) : Calls Tryd.prog 116 #[.pointer (some ⟨rb, 0, none⟩), .bool false] w fun e w' => e = otherP ∧ w = w' := by
  go_enter Tryd.func116, Tryd.ntmps116
  go_wp2
  refine ⟨rfl, ?_⟩
  exact ⟨rfl, rfl⟩

set_option maxHeartbeats 1000000 in
theorem some_in (rb b off m c k : Nat) (hk : k < c) (hm : k ≤ m) (_hmc : m ≤ c) (hc : c ≤ 9223372036854775807) (w : World) (h0 : w.cell? ⟨rb, 0, none⟩ = some (.slice (some ⟨b, off, none⟩) m c)) (hf : w.frozen? ⟨rb, 0, none⟩ = false) :
    Calls Tryd.prog 119 #[.pointer (some ⟨rb, 0, none⟩), .int .i64 k] w fun e w' => e = .returned (.slice (some ⟨b, off, none⟩) k c) ∧ w' = w.setCell ⟨rb, 0, none⟩ (.slice (some ⟨b, off + k, none⟩) (m - k) (c - k)) := by
  go_enter Tryd.func119, Tryd.ntmps119
  go_wp2_with (go_at_call 116; refine (want_yes _ _).mono ?_; rintro e w1 ⟨rfl, rfl⟩)
  go_ret
  exact ⟨rfl, rfl⟩

set_option maxHeartbeats 1000000 in
/-- All bytes up to the capacity: what is left is nothing, at the address where it was. -/
theorem some_all (rb b off k : Nat) (_hc : k ≤ 9223372036854775807) (w : World) (h0 : w.cell? ⟨rb, 0, none⟩ = some (.slice (some ⟨b, off, none⟩) k k)) (hf : w.frozen? ⟨rb, 0, none⟩ = false) :
    Calls Tryd.prog 119 #[.pointer (some ⟨rb, 0, none⟩), .int .i64 k] w fun e w' => e = .returned (.slice (some ⟨b, off, none⟩) k k) ∧ w' = w.setCell ⟨rb, 0, none⟩ (.slice (some ⟨b, off, none⟩) 0 0) := by
  go_enter Tryd.func119, Tryd.ntmps119
  go_wp2_with (go_at_call 116; refine (want_yes _ _).mono ?_; rintro e w1 ⟨rfl, rfl⟩)
  go_ret
  exact ⟨rfl, rfl⟩

set_option maxHeartbeats 1000000 in
theorem some_no (rb m c k : Nat) (A : Option Addr) (hk : m < k) (w : World) (h0 : w.cell? ⟨rb, 0, none⟩ = some (.slice A m c)) :
    Calls Tryd.prog 119 #[.pointer (some ⟨rb, 0, none⟩), .int .i64 k] w fun e w' => e = otherP ∧ w = w' := by
  have hk' : ¬ k ≤ m := by omega
  go_enter Tryd.func119, Tryd.ntmps119
  go_wp2_with (go_at_call 116; refine (want_no _ _).mono ?_; rintro e w1 ⟨rfl, rfl⟩)
  refine ⟨rfl, ?_⟩
  exact ⟨rfl, rfl⟩

/-- What is left of the slice behind k of its bytes. -/
def restV (b off m c k : Nat) : Value := if k < c then .slice (some ⟨b, off + k, none⟩) (m - k) (c - k) else .slice (some ⟨b, off, none⟩) 0 0

set_option maxHeartbeats 1000000 in
theorem one_yes (rb b off m c x : Nat) (hm : 1 ≤ m) (hmc : m ≤ c) (hc : c ≤ 9223372036854775807) (w : World) (h0 : w.cell? ⟨rb, 0, none⟩ = some (.slice (some ⟨b, off, none⟩) m c)) (hf : w.frozen? ⟨rb, 0, none⟩ = false) (hx : w.cell? ⟨b, off, none⟩ = some (.int .u8 (x : Int))) (hne : b ≠ rb) :
    Calls Tryd.prog 115 #[.pointer (some ⟨rb, 0, none⟩)] w fun e w' => e = .returned (.int .u8 (x : Int)) ∧ w' = w.setCell ⟨rb, 0, none⟩ (restV b off m c 1) := by
  have HS : Calls Tryd.prog 119 #[.pointer (some ⟨rb, 0, none⟩), .int .i64 1] w fun e w' => ∃ c', 1 ≤ c' ∧ e = .returned (.slice (some ⟨b, off, none⟩) 1 c') ∧ w' = w.setCell ⟨rb, 0, none⟩ (restV b off m c 1) := by
    by_cases h1 : 1 < c
    · refine (some_in rb b off m c 1 h1 hm hmc hc w h0 hf).mono fun e w' ⟨he, hw⟩ => ⟨c, by omega, he, ?_⟩
      unfold restV; rw [if_pos h1]; exact hw
    · obtain rfl : c = 1 := by omega
      obtain rfl : m = 1 := by omega
      refine (some_all rb b off 1 (by omega) w h0 hf).mono fun e w' ⟨he, hw⟩ => ⟨1, by omega, he, ?_⟩
      unfold restV; rw [if_neg h1]; exact hw
  have HX : (w.setCell ⟨rb, 0, none⟩ (restV b off m c 1)).cell? ⟨b, off, none⟩ = some (.int .u8 (x : Int)) := by
    rw [World.cell?_setCell_other _ _ _ _ (by intro e; exact hne (by simpa using (congrArg Addr.block e).symm))]; exact hx
  obtain ⟨W, hW⟩ : ∃ W, w.setCell ⟨rb, 0, none⟩ (restV b off m c 1) = W := ⟨_, rfl⟩
  rw [hW] at HS HX
  rw [hW]
  have HH := hid HS
  clear h0 hf hx hW HS
  go_enter Tryd.func115, Tryd.ntmps115
  go_wp2_with (go_at_call 119; refine HH.out.mono ?_; rintro e w1 ⟨c', hc', rfl, rfl⟩)
  go_ret
  exact ⟨rfl, rfl⟩

set_option maxHeartbeats 1000000 in
theorem one_no (rb c : Nat) (A : Option Addr) (w : World) (h0 : w.cell? ⟨rb, 0, none⟩ = some (.slice A 0 c)) :
    Calls Tryd.prog 115 #[.pointer (some ⟨rb, 0, none⟩)] w fun e w' => e = otherP ∧ w = w' := by
  go_enter Tryd.func115, Tryd.ntmps115
  go_wp2_with (go_at_call 119; refine (some_no rb 0 c 1 A (by decide) _ h0).mono ?_; rintro e w1 ⟨rfl, rfl⟩)
  refine ⟨rfl, ?_⟩
  exact ⟨rfl, rfl⟩

/-- What lay below B is as it was, but for block rb. -/
structure But (B rb : Nat) (w w' : World) : Prop where
  os : w'.os = w.os
  tape : w'.tape = w.tape
  output : w'.output = w.output
  size : w.heap.size ≤ w'.heap.size
  block : ∀ k, k < B → k ≠ rb → w'.heap[k]? = w.heap[k]?
section
variable {B rb : Nat} {w w1 w' : World}
theorem But.refl (B rb : Nat) (w : World) : But B rb w w := ⟨rfl, rfl, rfl, Nat.le_refl _, fun _ _ _ => rfl⟩
theorem But.trans (h : But B rb w w1) (k : But B rb w1 w') : But B rb w w' := ⟨k.os.trans h.os, k.tape.trans h.tape, k.output.trans h.output, Nat.le_trans h.size k.size, fun j hj hr => (k.block j hj hr).trans (h.block j hj hr)⟩
theorem But.mono {B' : Nat} (h : But B rb w w') (hb : B' ≤ B) : But B' rb w w' := ⟨h.os, h.tape, h.output, h.size, fun j hj => h.block j (Nat.lt_of_lt_of_le hj hb)⟩
theorem But.setCell (h : But B rb w w1) (o : Nat) (v : Value) : But B rb w (w1.setCell ⟨rb, o, none⟩ v) :=
  ⟨h.os, h.tape, h.output, by simpa using h.size, fun j hj hr => (Below.heap_setCell _ _ _ _ hr).trans (h.block j hj hr)⟩
theorem But.of_below (h : Below B w w') (rb : Nat) : But B rb w w' := ⟨h.os, h.tape, h.output, h.size, fun j hj _ => h.block j hj⟩
theorem But.below (h : But B rb w w') (hb : B ≤ rb) : Below B w w' := ⟨h.os, h.tape, h.output, h.size, fun j hj => h.block j hj (by omega)⟩
theorem But.cell (h : But B rb w w') {k : Nat} (hk : k < B) (hr : k ≠ rb) (o : Nat) : w'.cell? ⟨k, o, none⟩ = w.cell? ⟨k, o, none⟩ := World.cell?_of_block (w := w) (h.block k hk hr)
theorem But.frozen (h : But B rb w w') {k : Nat} (hk : k < B) (hr : k ≠ rb) (o : Nat) : w'.frozen? ⟨k, o, none⟩ = w.frozen? ⟨k, o, none⟩ := World.frozen?_of_block (w := w) (h.block k hk hr)
end

/-- A reader in block rb: the bytes l are left. -/
def Rd (w : World) (rb : Nat) (v : Value) (l : List UInt8) : Prop :=
  ∃ A c, v = .slice A l.length c ∧ l.length ≤ c ∧ c ≤ 9223372036854775807 ∧ (0 < l.length → ∃ b off, A = some ⟨b, off, none⟩ ∧ b < rb ∧ Holds w b off l)
def St (w : World) (rb : Nat) (l : List UInt8) : Prop := (∃ v, w.cell? ⟨rb, 0, none⟩ = some v ∧ Rd w rb v l) ∧ w.frozen? ⟨rb, 0, none⟩ = false ∧ rb < w.heap.size
theorem Rd.below {w w' : World} {rb : Nat} {v : Value} {l : List UInt8} (h : Rd w rb v l) (hb : Below rb w w') : Rd w' rb v l := by
  obtain ⟨A, c, h1, h2, h3, h4⟩ := h
  refine ⟨A, c, h1, h2, h3, fun hl => ?_⟩
  obtain ⟨b, off, h5, h6, h8⟩ := h4 hl
  exact ⟨b, off, h5, h6, h8.below hb h6⟩
theorem But.low {rb : Nat} {w w' : World} (h : But w.heap.size rb w w') (hlt : rb < w.heap.size) : Below rb w w' := (h.mono (Nat.le_of_lt hlt)).below (Nat.le_refl _)
/-- What leaves the reader's block alone, and all below it, leaves the reader as it was. -/
theorem St.keep {w w' : World} {rb : Nat} {l : List UInt8} (h : St w rb l) (hb : Below (rb + 1) w w') : St w' rb l := by
  obtain ⟨⟨v, h1, h2⟩, h3, h4⟩ := h
  exact ⟨⟨v, (hb.cell (p := ⟨rb, 0, none⟩) (by simp)).trans h1, h2.below (hb.mono (by omega))⟩, (hb.frozen (p := ⟨rb, 0, none⟩) (by simp)).trans h3, Nat.lt_of_lt_of_le h4 hb.size⟩
theorem cell_set_rb {w : World} {rb : Nat} {v0 : Value} (h : w.cell? ⟨rb, 0, none⟩ = some v0) (v : Value) : (w.setCell ⟨rb, 0, none⟩ v).cell? ⟨rb, 0, none⟩ = some v :=
  World.cell?_setCell_same' _ _ _ (by rw [h]; rfl)
theorem rd_rest {w : World} {rb b off c k : Nat} {l : List UInt8} (hk : k ≤ l.length) (hc : l.length ≤ c) (hc2 : c ≤ 9223372036854775807) (hb : b < rb) (hh : Holds w b off l) : Rd w rb (restV b off l.length c k) (l.drop k) := by
  unfold restV
  by_cases h1 : k < c
  · rw [if_pos h1]
    exact ⟨_, c - k, by rw [List.length_drop], by rw [List.length_drop]; omega, by omega, fun _ => ⟨b, off + k, rfl, hb, hh.drop k⟩⟩
  · rw [if_neg h1]
    have : l.drop k = [] := List.drop_eq_nil_of_le (by omega)
    rw [this]
    exact ⟨_, 0, rfl, by simp, by omega, fun h => absurd h (by simp)⟩

def OneEnd (w : World) (rb : Nat) : List UInt8 → Ending → World → Prop
  | [], e, w' => But w.heap.size rb w w' ∧ e = otherP
  | x :: t, e, w' => But w.heap.size rb w w' ∧ e = .returned (.int .u8 (x.toNat : Int)) ∧ St w' rb t
theorem one_any (rb : Nat) (l : List UInt8) (w : World) (h : St w rb l) :
    Calls Tryd.prog 115 #[.pointer (some ⟨rb, 0, none⟩)] w (OneEnd w rb l) := by
  obtain ⟨⟨v, h0, A, c, rfl, h2, h3, h4⟩, hf, hlt⟩ := h
  match l, h2, h4, h0 with
  | [], h2, h4, h0 =>
    exact (one_no rb c A w h0).mono fun e w' ⟨he, hw⟩ => ⟨by subst hw; exact But.refl _ _ _, he⟩
  | x :: t, h2, h4, h0 =>
    obtain ⟨b, off, rfl, hb, hh⟩ := h4 (by simp)
    have hx := hh 0 (by simp)
    refine (one_yes rb b off (x :: t).length c x.toNat (by simp) h2 h3 w h0 hf (by simpa using hx) (by omega)).mono fun e w' ⟨he, hw⟩ => ?_
    have hB : But w.heap.size rb w w' := by rw [hw]; exact (But.refl _ _ _).setCell _ _
    refine ⟨hB, he, ⟨_, by rw [hw]; exact cell_set_rb h0 _, ?_⟩, ?_, ?_⟩
    · have := rd_rest (w := w) (rb := rb) (k := 1) (l := x :: t) (by simp) h2 h3 hb hh
      exact this.below (hB.low hlt)
    · rw [hw, World.frozen?_setCell]; exact hf
    · exact Nat.lt_of_lt_of_le hlt hB.size
end Go.Proofs.YtdjaofbjmnmlbaaDoor

/- What package cell's sight does with a cell: has, move, lets, and the rules' right and lives. Conditions: the sight stands in a block of its own. -/
namespace Go.Proofs.YtdjaofbjmnmlbaaDoor
open Go.RowKit

/-- A sight. -/
structure SG where
  at' : CT
  fam : Int
  col : Bool
  cell : Int
  seen : Int
/-- Its twelve words. -/
def SG.a (g : SG) : Array Value := #[.string g.at'.r, .string g.at'.f, .string g.at'.q, .int .i64 g.at'.t, .int .i64 g.at'.k, .int .i64 g.at'.vk, .int .i64 g.at'.vn, .string g.at'.s, .int .i64 g.fam, .bool g.col, .int .i64 g.cell, .int .i64 g.seen]
def SG.zero : SG := ⟨default, 0, false, 0, 0⟩
/-- What was told of another family, or another column, is forgotten. -/
def SG.move (g : SG) (c : CT) : SG :=
  if c.r ≠ g.at'.r ∨ c.f ≠ g.at'.f then ⟨c, -1, false, -1, 0⟩ else if c.q ≠ g.at'.q then ⟨c, g.fam, false, -1, 0⟩ else ⟨c, g.fam, g.col, g.cell, g.seen⟩
def SG.has (g : SG) (t : Int) : Bool := !g.col && (decide (g.fam < t) && decide (t ≠ g.cell))
def livesM (life now t : Int) : Bool := decide (life = 0) || decide (now < IntKind.i64.wrap (t + life))
def rightM (ver life : Int) : Bool := decide (1 ≤ ver) && (decide (ver ≤ 8) && decide (0 ≤ life))
/-- The next cell: is it a put that is to be seen? -/
def SG.lets (g0 : SG) (c : CT) (ver life now : Int) : SG × Bool :=
  let g := g0.move c
  if c.k = 4 then (⟨g.at', max g.fam c.t, g.col, g.cell, g.seen⟩, false)
  else if c.k = 3 then (⟨g.at', g.fam, true, g.cell, g.seen⟩, false)
  else if c.k = 2 then (⟨g.at', g.fam, g.col, c.t, g.seen⟩, false)
  else if c.k = 1 ∧ g.has c.t = true ∧ livesM life now c.t = true ∧ g.seen < ver then (⟨g.at', g.fam, g.col, g.cell, IntKind.i64.wrap (g.seen + 1)⟩, true)
  else (g, false)

set_option maxHeartbeats 1000000 in
theorem has_any (g : SG) (t : Int) (sb : Nat) (w : World) (h : Blk w sb 151 g.a) :
    Calls Tryd.prog 157 #[.pointer (some ⟨sb, 0, none⟩), .int .i64 t] w fun e w' => e = .returned (.bool (g.has t)) ∧ w' = w := by
  have c8 : w.cell? ⟨sb, 8, none⟩ = some (.int .i64 g.fam) := h.cell 8
  have c9 : w.cell? ⟨sb, 9, none⟩ = some (.bool g.col) := h.cell 9
  have c10 : w.cell? ⟨sb, 10, none⟩ = some (.int .i64 g.cell) := h.cell 10
  unfold SG.has
  obtain ⟨at', fam, col, cell, seen⟩ := g
  clear h
  simp only at c8 c9 c10 ⊢
  cases col with
  | true =>
    go_enter Tryd.func157, Tryd.ntmps157
    go_wp2
    go_ret
    exact ⟨rfl, rfl⟩
  | false =>
    by_cases h1 : fam < t
    · have hd : decide (fam < t) = true := decide_eq_true h1
      by_cases h2 : t = cell
      · have q2 : (t != cell) = false := by simpa using h2
        have hd2 : decide (t ≠ cell) = false := decide_eq_false (by simpa using h2)
        rw [hd2]
        subst h2
        go_enter Tryd.func157, Tryd.ntmps157
        go_wp2
        go_ret
        exact ⟨by simp, rfl⟩
      · have q2 : (t != cell) = true := by simpa using h2
        have hd2 : decide (t ≠ cell) = true := decide_eq_true h2
        rw [hd2, hd]
        clear h2 hd2
        go_enter Tryd.func157, Tryd.ntmps157
        go_wp2
        go_ret
        exact ⟨rfl, rfl⟩
    · have hd : decide (fam < t) = false := decide_eq_false h1
      rw [hd]
      go_enter Tryd.func157, Tryd.ntmps157
      go_wp2
      go_ret
      exact ⟨rfl, rfl⟩

set_option maxHeartbeats 1000000 in
theorem lives_any (ver life now t : Int) (w : World) :
    Calls Tryd.prog 158 #[.agg #[.int .i64 ver, .int .i64 life, .int .i64 now], .int .i64 t] w fun e w' => e = .returned (.bool (livesM life now t)) ∧ Below w.heap.size w w' := by
  unfold livesM
  by_cases h1 : life = 0
  · subst h1
    go_enter Tryd.func158, Tryd.ntmps158
    go_wp2
    go_ret
    exact ⟨rfl, below_new _ _⟩
  · have q1 : (life == 0) = false := by simpa using h1
    have hd : decide (life = 0) = false := decide_eq_false h1
    rw [hd]
    clear h1 hd
    obtain ⟨x, hx⟩ : ∃ x, IntKind.i64.wrap (t + life) = x := ⟨_, rfl⟩
    rw [hx]
    by_cases h2 : now < x
    · have hd : decide (now < x) = true := decide_eq_true h2
      rw [hd]
      go_enter Tryd.func158, Tryd.ntmps158
      go_wp2
      go_ret
      exact ⟨by simp, below_new _ _⟩
    · have hd : decide (now < x) = false := decide_eq_false h2
      rw [hd]
      go_enter Tryd.func158, Tryd.ntmps158
      go_wp2
      go_ret
      exact ⟨by simp, below_new _ _⟩

set_option maxHeartbeats 1000000 in
theorem cright_rules (ver life now : Int) (w : World) :
    Calls Tryd.prog 125 #[.agg #[.int .i64 ver, .int .i64 life, .int .i64 now]] w fun e w' => e = .returned (.bool (rightM ver life)) ∧ Below w.heap.size w w' := by
  unfold rightM
  by_cases h1 : 1 ≤ ver
  · by_cases h2 : ver ≤ 8
    · by_cases h3 : 0 ≤ life
      · rw [decide_eq_true h1, decide_eq_true h2, decide_eq_true h3]
        go_enter Tryd.func125, Tryd.ntmps125
        go_wp2
        go_ret
        exact ⟨rfl, below_new _ _⟩
      · rw [decide_eq_true h1, decide_eq_true h2, decide_eq_false h3]
        go_enter Tryd.func125, Tryd.ntmps125
        go_wp2
        go_ret
        exact ⟨rfl, below_new _ _⟩
    · rw [decide_eq_true h1, decide_eq_false h2]
      go_enter Tryd.func125, Tryd.ntmps125
      go_wp2
      go_ret
      exact ⟨rfl, below_new _ _⟩
  · rw [decide_eq_false h1]
    go_enter Tryd.func125, Tryd.ntmps125
    go_wp2
    go_ret
    exact ⟨rfl, below_new _ _⟩
end Go.Proofs.YtdjaofbjmnmlbaaDoor

/- What package cell's sight does with a cell: move. Conditions: the sight stands in a block of its own. -/
namespace Go.Proofs.YtdjaofbjmnmlbaaDoor
open Go.RowKit

theorem ba_ne {x y : ByteArray} (h : x ≠ y) : (x.toList == y.toList) = false := by
  rw [Bool.eq_false_iff]
  intro e
  have e := eq_of_beq e
  apply h
  apply ByteArray.ext
  rw [ByteArray.toList_eq, ByteArray.toList_eq] at e
  exact Array.toList_inj.1 e

/-- Where a sight stands. -/
structure MS (w : World) (sb : Nat) (W : World) (xs : Array Value) : Prop where
  b : Blk W sb 151 xs
  o : But w.heap.size sb w W
theorem MS.set {w W : World} {sb : Nat} {xs : Array Value} (h : MS w sb W xs) (j : Nat) (v : Value) : MS w sb (W.setCell ⟨sb, j, none⟩ v) (xs.setIfInBounds j v) := ⟨h.b.set j v, h.o.setCell j v⟩
theorem MS.drewN {w W : World} {sb : Nat} {xs : Array Value} (h : MS w sb W xs) (n : Nat) : MS w sb (W.drewN n) xs := ⟨h.b, h.o.trans (But.of_below (below_drewN (Below.refl _ _) n) sb)⟩
theorem MS.below {w W W' : World} {sb : Nat} {xs : Array Value} (h : MS w sb W xs) (hb : Below W.heap.size W W') : MS w sb W' xs := ⟨h.b.keep hb h.b.lt, h.o.trans (But.of_below (hb.mono h.o.size) sb)⟩
theorem MS.sets12 {w W : World} {sb : Nat} {x0 x1 x2 x3 x4 x5 x6 x7 x8 x9 x10 x11 : Value} (h : MS w sb W #[x0, x1, x2, x3, x4, x5, x6, x7, x8, x9, x10, x11]) (v0 v1 v2 v3 v4 v5 v6 v7 v8 v9 v10 v11 : Value) : MS w sb ((((((((((((W.setCell ⟨sb, 0, none⟩ v0).setCell ⟨sb, 1, none⟩ v1).setCell ⟨sb, 2, none⟩ v2).setCell ⟨sb, 3, none⟩ v3).setCell ⟨sb, 4, none⟩ v4).setCell ⟨sb, 5, none⟩ v5).setCell ⟨sb, 6, none⟩ v6).setCell ⟨sb, 7, none⟩ v7).setCell ⟨sb, 8, none⟩ v8).setCell ⟨sb, 9, none⟩ v9).setCell ⟨sb, 10, none⟩ v10).setCell ⟨sb, 11, none⟩ v11) #[v0, v1, v2, v3, v4, v5, v6, v7, v8, v9, v10, v11] := by
  have m0 : MS w sb _ #[v0, x1, x2, x3, x4, x5, x6, x7, x8, x9, x10, x11] := h.set 0 v0
  have m1 : MS w sb _ #[v0, v1, x2, x3, x4, x5, x6, x7, x8, x9, x10, x11] := m0.set 1 v1
  have m2 : MS w sb _ #[v0, v1, v2, x3, x4, x5, x6, x7, x8, x9, x10, x11] := m1.set 2 v2
  have m3 : MS w sb _ #[v0, v1, v2, v3, x4, x5, x6, x7, x8, x9, x10, x11] := m2.set 3 v3
  have m4 : MS w sb _ #[v0, v1, v2, v3, v4, x5, x6, x7, x8, x9, x10, x11] := m3.set 4 v4
  have m5 : MS w sb _ #[v0, v1, v2, v3, v4, v5, x6, x7, x8, x9, x10, x11] := m4.set 5 v5
  have m6 : MS w sb _ #[v0, v1, v2, v3, v4, v5, v6, x7, x8, x9, x10, x11] := m5.set 6 v6
  have m7 : MS w sb _ #[v0, v1, v2, v3, v4, v5, v6, v7, x8, x9, x10, x11] := m6.set 7 v7
  have m8 : MS w sb _ #[v0, v1, v2, v3, v4, v5, v6, v7, v8, x9, x10, x11] := m7.set 8 v8
  have m9 : MS w sb _ #[v0, v1, v2, v3, v4, v5, v6, v7, v8, v9, x10, x11] := m8.set 9 v9
  have m10 : MS w sb _ #[v0, v1, v2, v3, v4, v5, v6, v7, v8, v9, v10, x11] := m9.set 10 v10
  have m11 : MS w sb _ #[v0, v1, v2, v3, v4, v5, v6, v7, v8, v9, v10, v11] := m10.set 11 v11
  exact m11
theorem MS.sets8 {w W : World} {sb : Nat} {x0 x1 x2 x3 x4 x5 x6 x7 x8 x9 x10 x11 : Value} (h : MS w sb W #[x0, x1, x2, x3, x4, x5, x6, x7, x8, x9, x10, x11]) (v0 v1 v2 v3 v4 v5 v6 v7 : Value) : MS w sb ((((((((W.setCell ⟨sb, 0, none⟩ v0).setCell ⟨sb, 1, none⟩ v1).setCell ⟨sb, 2, none⟩ v2).setCell ⟨sb, 3, none⟩ v3).setCell ⟨sb, 4, none⟩ v4).setCell ⟨sb, 5, none⟩ v5).setCell ⟨sb, 6, none⟩ v6).setCell ⟨sb, 7, none⟩ v7) #[v0, v1, v2, v3, v4, v5, v6, v7, x8, x9, x10, x11] := by
  have m0 : MS w sb _ #[v0, x1, x2, x3, x4, x5, x6, x7, x8, x9, x10, x11] := h.set 0 v0
  have m1 : MS w sb _ #[v0, v1, x2, x3, x4, x5, x6, x7, x8, x9, x10, x11] := m0.set 1 v1
  have m2 : MS w sb _ #[v0, v1, v2, x3, x4, x5, x6, x7, x8, x9, x10, x11] := m1.set 2 v2
  have m3 : MS w sb _ #[v0, v1, v2, v3, x4, x5, x6, x7, x8, x9, x10, x11] := m2.set 3 v3
  have m4 : MS w sb _ #[v0, v1, v2, v3, v4, x5, x6, x7, x8, x9, x10, x11] := m3.set 4 v4
  have m5 : MS w sb _ #[v0, v1, v2, v3, v4, v5, x6, x7, x8, x9, x10, x11] := m4.set 5 v5
  have m6 : MS w sb _ #[v0, v1, v2, v3, v4, v5, v6, x7, x8, x9, x10, x11] := m5.set 6 v6
  have m7 : MS w sb _ #[v0, v1, v2, v3, v4, v5, v6, v7, x8, x9, x10, x11] := m6.set 7 v7
  exact m7
theorem MS.sets3 {w W : World} {sb : Nat} {x0 x1 x2 x3 x4 x5 x6 x7 x8 x9 x10 x11 : Value} (h : MS w sb W #[x0, x1, x2, x3, x4, x5, x6, x7, x8, x9, x10, x11]) (v9 v10 v11 : Value) : MS w sb (((W.setCell ⟨sb, 9, none⟩ v9).setCell ⟨sb, 10, none⟩ v10).setCell ⟨sb, 11, none⟩ v11) #[x0, x1, x2, x3, x4, x5, x6, x7, x8, v9, v10, v11] := by
  have m0 : MS w sb _ #[x0, x1, x2, x3, x4, x5, x6, x7, x8, v9, x10, x11] := h.set 9 v9
  have m1 : MS w sb _ #[x0, x1, x2, x3, x4, x5, x6, x7, x8, v9, v10, x11] := m0.set 10 v10
  have m2 : MS w sb _ #[x0, x1, x2, x3, x4, x5, x6, x7, x8, v9, v10, v11] := m1.set 11 v11
  exact m2
theorem MS.start {w : World} {sb : Nat} {xs : Array Value} (h : Blk w sb 151 xs) : MS w sb w xs := ⟨h, But.refl _ _ _⟩

set_option maxHeartbeats 4000000 in
set_option maxRecDepth 100000 in
theorem move_any (g : SG) (c : CT) (sb : Nat) (w : World) (h : Blk w sb 151 g.a) :
    Calls Tryd.prog 156 #[.pointer (some ⟨sb, 0, none⟩), c.v] w fun e w' => e = .returned (.tuple #[]) ∧ Blk w' sb 151 (g.move c).a ∧ But w.heap.size sb w w' := by
  have mixed : Tryd.prog.follows .mixedOrders = true := by kernel_rfl
  have a0 : w.cell? ⟨sb, 0, none⟩ = some (.string g.at'.r) := h.cell 0; have a1 : w.cell? ⟨sb, 1, none⟩ = some (.string g.at'.f) := h.cell 1; have a2 : w.cell? ⟨sb, 2, none⟩ = some (.string g.at'.q) := h.cell 2; have a3 : w.cell? ⟨sb, 3, none⟩ = some (.int .i64 g.at'.t) := h.cell 3; have a4 : w.cell? ⟨sb, 4, none⟩ = some (.int .i64 g.at'.k) := h.cell 4; have a5 : w.cell? ⟨sb, 5, none⟩ = some (.int .i64 g.at'.vk) := h.cell 5; have a6 : w.cell? ⟨sb, 6, none⟩ = some (.int .i64 g.at'.vn) := h.cell 6; have a7 : w.cell? ⟨sb, 7, none⟩ = some (.string g.at'.s) := h.cell 7; have a8 : w.cell? ⟨sb, 8, none⟩ = some (.int .i64 g.fam) := h.cell 8; have a9 : w.cell? ⟨sb, 9, none⟩ = some (.bool g.col) := h.cell 9; have a10 : w.cell? ⟨sb, 10, none⟩ = some (.int .i64 g.cell) := h.cell 10; have a11 : w.cell? ⟨sb, 11, none⟩ = some (.int .i64 g.seen) := h.cell 11
  have hf : ∀ j, w.frozen? ⟨sb, j, none⟩ = false := fun j => h.free j
  have hlt : sb < w.heap.size := h.lt
  have HB := hid h
  clear h
  unfold SG.move
  by_cases h1 : c.r ≠ g.at'.r ∨ c.f ≠ g.at'.f
  · rw [if_pos h1]
    by_cases h2 : c.r = g.at'.r
    · have h3 : c.f ≠ g.at'.f := by
        rcases h1 with h | h
        · exact absurd h2 h
        · exact h
      have q1 : (c.r.toList == g.at'.r.toList) = true := by rw [h2]; simp
      have q2 : (c.f.toList == g.at'.f.toList) = false := ba_ne h3
      clear h1 h2 h3
      go_enter Tryd.func156, Tryd.ntmps156
      go_upto_region 1 with (fail)
      go_quiet (fail)
      go_wp2
      go_end0
      have m0 : MS w sb ((w.alloc (.cells #[.string c.r, .string c.f, .string c.q, .int .i64 c.t, .int .i64 c.k, .int .i64 c.vk, .int .i64 c.vn, .string c.s] 28)).drewN nq) #[.string g.at'.r, .string g.at'.f, .string g.at'.q, .int .i64 g.at'.t, .int .i64 g.at'.k, .int .i64 g.at'.vk, .int .i64 g.at'.vn, .string g.at'.s, .int .i64 g.fam, .bool g.col, .int .i64 g.cell, .int .i64 g.seen] := ((MS.start HB.out).below (below_new _ _)).drewN _
      have m2 := MS.sets8 (MS.sets12 m0 (.string ⟨#[]⟩) (.string ⟨#[]⟩) (.string ⟨#[]⟩) (.int .i64 0) (.int .i64 0) (.int .i64 0) (.int .i64 0) (.string ⟨#[]⟩) (.int .i64 (-1)) (.bool false) (.int .i64 (-1)) (.int .i64 0)) (.string c.r) (.string c.f) (.string c.q) (.int .i64 c.t) (.int .i64 c.k) (.int .i64 c.vk) (.int .i64 c.vn) (.string c.s)
      exact ⟨rfl, m2.b, m2.o⟩
    · have q1 : (c.r.toList == g.at'.r.toList) = false := ba_ne h2
      clear h1 h2
      go_enter Tryd.func156, Tryd.ntmps156
      go_upto_region 1 with (fail)
      go_quiet (fail)
      go_wp2
      go_end0
      have m0 : MS w sb ((w.alloc (.cells #[.string c.r, .string c.f, .string c.q, .int .i64 c.t, .int .i64 c.k, .int .i64 c.vk, .int .i64 c.vn, .string c.s] 28)).drewN nq) #[.string g.at'.r, .string g.at'.f, .string g.at'.q, .int .i64 g.at'.t, .int .i64 g.at'.k, .int .i64 g.at'.vk, .int .i64 g.at'.vn, .string g.at'.s, .int .i64 g.fam, .bool g.col, .int .i64 g.cell, .int .i64 g.seen] := ((MS.start HB.out).below (below_new _ _)).drewN _
      have m2 := MS.sets8 (MS.sets12 m0 (.string ⟨#[]⟩) (.string ⟨#[]⟩) (.string ⟨#[]⟩) (.int .i64 0) (.int .i64 0) (.int .i64 0) (.int .i64 0) (.string ⟨#[]⟩) (.int .i64 (-1)) (.bool false) (.int .i64 (-1)) (.int .i64 0)) (.string c.r) (.string c.f) (.string c.q) (.int .i64 c.t) (.int .i64 c.k) (.int .i64 c.vk) (.int .i64 c.vn) (.string c.s)
      exact ⟨rfl, m2.b, m2.o⟩
  · rw [if_neg h1]
    have e1 : c.r = g.at'.r := by
      false_or_by_contra
      rename_i h
      exact h1 (.inl h)
    have e2 : c.f = g.at'.f := by
      false_or_by_contra
      rename_i h
      exact h1 (.inr h)
    have q1 : (c.r.toList == g.at'.r.toList) = true := by rw [e1]; simp
    have q2 : (c.f.toList == g.at'.f.toList) = true := by rw [e2]; simp
    clear h1 e1 e2
    by_cases h3 : c.q = g.at'.q
    · have q3 : (c.q.toList == g.at'.q.toList) = true := by rw [h3]; simp
      rw [if_neg (by simpa using h3)]
      clear h3
      go_enter Tryd.func156, Tryd.ntmps156
      go_upto_region 1 with (fail)
      go_quiet (fail)
      go_upto_region 3 with (fail)
      obtain ⟨bb, hbb⟩ : ∃ bb, w.heap.size = bb := ⟨_, rfl⟩
      refine wp_ltc (fun W => Hid (MS w sb W g.a) ∧ W.cell? ⟨bb, 0, none⟩ = some (.string c.r) ∧ W.cell? ⟨bb, 1, none⟩ = some (.string c.f) ∧ W.cell? ⟨bb, 2, none⟩ = some (.string c.q) ∧ W.cell? ⟨bb, 3, none⟩ = some (.int .i64 c.t) ∧ W.cell? ⟨bb, 4, none⟩ = some (.int .i64 c.k) ∧ W.cell? ⟨bb, 5, none⟩ = some (.int .i64 c.vk) ∧ W.cell? ⟨bb, 6, none⟩ = some (.int .i64 c.vn) ∧ W.cell? ⟨bb, 7, none⟩ = some (.string c.s)) (by rw [← hbb]; exact ⟨((MS.start HB.out).below (below_new _ _)).drewN _, blk_words (show Blk _ _ _ c.e.toArray from Blk.new w 28 c.e.toArray)⟩) (fun W hW => ?_)
      rw [hbb]
      obtain ⟨HW, b0, b1, b2, b3, b4, b5, b6, b7⟩ := hW
      clear a0 a1 a2 a3 a4 a5 a6 a7 a8 a9 a10 a11 hf
      have a2 : W.cell? ⟨sb, 2, none⟩ = some (.string g.at'.q) := HW.out.b.cell 2
      have a0 : W.cell? ⟨sb, 0, none⟩ = some (.string g.at'.r) := HW.out.b.cell 0; have a1 : W.cell? ⟨sb, 1, none⟩ = some (.string g.at'.f) := HW.out.b.cell 1; have a3 : W.cell? ⟨sb, 3, none⟩ = some (.int .i64 g.at'.t) := HW.out.b.cell 3; have a4 : W.cell? ⟨sb, 4, none⟩ = some (.int .i64 g.at'.k) := HW.out.b.cell 4; have a5 : W.cell? ⟨sb, 5, none⟩ = some (.int .i64 g.at'.vk) := HW.out.b.cell 5; have a6 : W.cell? ⟨sb, 6, none⟩ = some (.int .i64 g.at'.vn) := HW.out.b.cell 6; have a7 : W.cell? ⟨sb, 7, none⟩ = some (.string g.at'.s) := HW.out.b.cell 7; have a8 : W.cell? ⟨sb, 8, none⟩ = some (.int .i64 g.fam) := HW.out.b.cell 8; have a9 : W.cell? ⟨sb, 9, none⟩ = some (.bool g.col) := HW.out.b.cell 9; have a10 : W.cell? ⟨sb, 10, none⟩ = some (.int .i64 g.cell) := HW.out.b.cell 10; have a11 : W.cell? ⟨sb, 11, none⟩ = some (.int .i64 g.seen) := HW.out.b.cell 11
      have hf : ∀ j, W.frozen? ⟨sb, j, none⟩ = false := fun j => HW.out.b.free j
      go_quiet (fail)
      go_wp2
      go_end0
      have m0 : MS w sb (W.drewN nq) #[.string g.at'.r, .string g.at'.f, .string g.at'.q, .int .i64 g.at'.t, .int .i64 g.at'.k, .int .i64 g.at'.vk, .int .i64 g.at'.vn, .string g.at'.s, .int .i64 g.fam, .bool g.col, .int .i64 g.cell, .int .i64 g.seen] := HW.out.drewN _
      have m2 := MS.sets8 m0 (.string c.r) (.string c.f) (.string c.q) (.int .i64 c.t) (.int .i64 c.k) (.int .i64 c.vk) (.int .i64 c.vn) (.string c.s)
      exact ⟨rfl, m2.b, m2.o⟩
    · have q3 : (c.q.toList == g.at'.q.toList) = false := ba_ne h3
      rw [if_pos h3]
      clear h3
      go_enter Tryd.func156, Tryd.ntmps156
      go_upto_region 1 with (fail)
      go_quiet (fail)
      go_upto_region 3 with (fail)
      obtain ⟨bb, hbb⟩ : ∃ bb, w.heap.size = bb := ⟨_, rfl⟩
      refine wp_ltc (fun W => Hid (MS w sb W g.a) ∧ W.cell? ⟨bb, 0, none⟩ = some (.string c.r) ∧ W.cell? ⟨bb, 1, none⟩ = some (.string c.f) ∧ W.cell? ⟨bb, 2, none⟩ = some (.string c.q) ∧ W.cell? ⟨bb, 3, none⟩ = some (.int .i64 c.t) ∧ W.cell? ⟨bb, 4, none⟩ = some (.int .i64 c.k) ∧ W.cell? ⟨bb, 5, none⟩ = some (.int .i64 c.vk) ∧ W.cell? ⟨bb, 6, none⟩ = some (.int .i64 c.vn) ∧ W.cell? ⟨bb, 7, none⟩ = some (.string c.s)) (by rw [← hbb]; exact ⟨((MS.start HB.out).below (below_new _ _)).drewN _, blk_words (show Blk _ _ _ c.e.toArray from Blk.new w 28 c.e.toArray)⟩) (fun W hW => ?_)
      rw [hbb]
      obtain ⟨HW, b0, b1, b2, b3, b4, b5, b6, b7⟩ := hW
      clear a0 a1 a2 a3 a4 a5 a6 a7 a8 a9 a10 a11 hf
      have a2 : W.cell? ⟨sb, 2, none⟩ = some (.string g.at'.q) := HW.out.b.cell 2
      have a0 : W.cell? ⟨sb, 0, none⟩ = some (.string g.at'.r) := HW.out.b.cell 0; have a1 : W.cell? ⟨sb, 1, none⟩ = some (.string g.at'.f) := HW.out.b.cell 1; have a3 : W.cell? ⟨sb, 3, none⟩ = some (.int .i64 g.at'.t) := HW.out.b.cell 3; have a4 : W.cell? ⟨sb, 4, none⟩ = some (.int .i64 g.at'.k) := HW.out.b.cell 4; have a5 : W.cell? ⟨sb, 5, none⟩ = some (.int .i64 g.at'.vk) := HW.out.b.cell 5; have a6 : W.cell? ⟨sb, 6, none⟩ = some (.int .i64 g.at'.vn) := HW.out.b.cell 6; have a7 : W.cell? ⟨sb, 7, none⟩ = some (.string g.at'.s) := HW.out.b.cell 7; have a8 : W.cell? ⟨sb, 8, none⟩ = some (.int .i64 g.fam) := HW.out.b.cell 8; have a9 : W.cell? ⟨sb, 9, none⟩ = some (.bool g.col) := HW.out.b.cell 9; have a10 : W.cell? ⟨sb, 10, none⟩ = some (.int .i64 g.cell) := HW.out.b.cell 10; have a11 : W.cell? ⟨sb, 11, none⟩ = some (.int .i64 g.seen) := HW.out.b.cell 11
      have hf : ∀ j, W.frozen? ⟨sb, j, none⟩ = false := fun j => HW.out.b.free j
      go_quiet (fail)
      go_wp2
      go_end0
      have m0 : MS w sb (W.drewN nq) #[.string g.at'.r, .string g.at'.f, .string g.at'.q, .int .i64 g.at'.t, .int .i64 g.at'.k, .int .i64 g.at'.vk, .int .i64 g.at'.vn, .string g.at'.s, .int .i64 g.fam, .bool g.col, .int .i64 g.cell, .int .i64 g.seen] := HW.out.drewN _
      have m2 := MS.sets8 (MS.sets3 m0 (.bool false) (.int .i64 (-1)) (.int .i64 0)) (.string c.r) (.string c.f) (.string c.q) (.int .i64 c.t) (.int .i64 c.k) (.int .i64 c.vk) (.int .i64 c.vn) (.string c.s)
      exact ⟨rfl, m2.b, m2.o⟩
end Go.Proofs.YtdjaofbjmnmlbaaDoor

/- What package cell's sight does with a cell: lets. Conditions: the sight stands in a block of its own. -/
namespace Go.Proofs.YtdjaofbjmnmlbaaDoor
open Go.RowKit

/-- Behind a move: the sight, the boxed cell, the boxed rules. -/
structure LtS (w W : World) (sb : Nat) (G : SG) (c : CT) (ver life now : Int) : Prop where
  m : MS w sb W G.a
  b : Blk W w.heap.size 28 c.e.toArray
  r : Blk W (w.heap.size + 1) 98 #[.int .i64 ver, .int .i64 life, .int .i64 now]
theorem LtS.below {w W W' : World} {sb : Nat} {G : SG} {c : CT} {ver life now : Int} (h : LtS w W sb G c ver life now) (hb : Below W.heap.size W W') : LtS w W' sb G c ver life now := ⟨h.m.below hb, h.b.keep hb h.b.lt, h.r.keep hb h.r.lt⟩

theorem lets_start (g : SG) (c : CT) (ver life now : Int) (sb : Nat) (w W1 : World) (h : Blk w sb 151 g.a) (h1 : Blk W1 sb 151 (g.move c).a)
    (h2 : But ((w.alloc (.cells c.e.toArray 28)).alloc (.cells #[.int .i64 ver, .int .i64 life, .int .i64 now] 98)).heap.size sb ((w.alloc (.cells c.e.toArray 28)).alloc (.cells #[.int .i64 ver, .int .i64 life, .int .i64 now] 98)) W1) : LtS w W1 sb (g.move c) c ver life now := by
  have hlt := h.lt
  have b2 : Blk ((w.alloc (.cells c.e.toArray 28)).alloc (.cells #[.int .i64 ver, .int .i64 life, .int .i64 now] 98)) (w.heap.size + 1) 98 #[.int .i64 ver, .int .i64 life, .int .i64 now] := by have := Blk.new (w.alloc (.cells c.e.toArray 28)) 98 #[.int .i64 ver, .int .i64 life, .int .i64 now]; simpa using this
  have b1 := (Blk.new w 28 c.e.toArray).keep (below_new _ (.cells #[.int .i64 ver, .int .i64 life, .int .i64 now] 98)) (by simp)
  have bk : ∀ {k : Nat} {T : TypeId} {xs : Array Value}, Blk ((w.alloc (.cells c.e.toArray 28)).alloc (.cells #[.int .i64 ver, .int .i64 life, .int .i64 now] 98)) k T xs → k ≠ sb → Blk W1 k T xs := fun hb hne => by
    have hl := hb.lt
    unfold Blk at *
    rw [h2.block _ hl hne]; exact hb
  refine ⟨⟨h1, ?_⟩, bk b1 (by omega), bk b2 (by omega)⟩
  exact (But.of_below ((below_new w (.cells c.e.toArray 28)).alloc (by simp) _) sb).trans (h2.mono (by simp; omega))

/-- What the walk over the last test holds. -/
abbrev LtT (W0 : World) (sb bb : Nat) (G : SG) (c : CT) (ver life now : Int) (W : World) : Prop := Hid (Below W0.heap.size W0 W ∧ bb + 1 < W0.heap.size ∧ sb < W0.heap.size ∧ Blk W0 sb 151 G.a) ∧ W.cell? ⟨bb, 3, none⟩ = some (.int .i64 c.t) ∧ W.cell? ⟨bb + 1, 0, none⟩ = some (.int .i64 ver) ∧ W.cell? ⟨bb + 1, 1, none⟩ = some (.int .i64 life) ∧ W.cell? ⟨bb + 1, 2, none⟩ = some (.int .i64 now) ∧ W.cell? ⟨sb, 11, none⟩ = some (.int .i64 G.seen)
section
variable {W0 W W' : World} {sb bb : Nat} {G : SG} {c : CT} {ver life now : Int}
theorem ltt_blk (h : LtT W0 sb bb G c ver life now W) : Blk W sb 151 G.a := h.1.out.2.2.2.keep h.1.out.1 h.1.out.2.2.1
theorem ltt_drew (h : LtT W0 sb bb G c ver life now W) : LtT W0 sb bb G c ver life now W.drew := ⟨hid ⟨h.1.out.1.drew, h.1.out.2⟩, h.2⟩
theorem ltt_call (h : LtT W0 sb bb G c ver life now W) (hb : Below W.heap.size W W') : LtT W0 sb bb G c ver life now W' := by
  obtain ⟨hh, a0, a1, a2, a3, a4⟩ := h
  obtain ⟨hbw, h1, h2, h3⟩ := hh.out
  have hz := hbw.size
  have hc : ∀ b o, b < W0.heap.size → W'.cell? ⟨b, o, none⟩ = W.cell? ⟨b, o, none⟩ := fun b o h => hb.cell (p := ⟨b, o, none⟩) (show b < W.heap.size by omega)
  refine ⟨hid ⟨hbw.trans (hb.mono hz), h1, h2, h3⟩, ?_, ?_, ?_, ?_, ?_⟩ <;> (rw [hc _ _ (by omega)]; assumption)
end

set_option maxHeartbeats 4000000 in
set_option maxRecDepth 100000 in
theorem lets_any (g : SG) (c : CT) (ver life now : Int) (sb : Nat) (w : World) (h : Blk w sb 151 g.a) :
    Calls Tryd.prog 126 #[.pointer (some ⟨sb, 0, none⟩), c.v, .agg #[.int .i64 ver, .int .i64 life, .int .i64 now]] w fun e w' => e = .returned (.bool (g.lets c ver life now).2) ∧ Blk w' sb 151 (g.lets c ver life now).1.a ∧ But w.heap.size sb w w' := by
  have mixed : Tryd.prog.follows .mixedOrders = true := by kernel_rfl
  have HB := hid h
  have HM : Hid (∀ W, Blk W sb 151 g.a → Calls Tryd.prog 156 #[.pointer (some ⟨sb, 0, none⟩), c.v] W fun e w' => e = .returned (.tuple #[]) ∧ Blk w' sb 151 (g.move c).a ∧ But W.heap.size sb W w') := fun W hW => move_any g c sb W hW
  have HS : Hid (∀ W1, Blk W1 sb 151 (g.move c).a → But ((w.alloc (.cells c.e.toArray 28)).alloc (.cells #[.int .i64 ver, .int .i64 life, .int .i64 now] 98)).heap.size sb ((w.alloc (.cells c.e.toArray 28)).alloc (.cells #[.int .i64 ver, .int .i64 life, .int .i64 now] 98)) W1 → LtS w W1 sb (g.move c) c ver life now) := fun W1 h1 h2 => lets_start g c ver life now sb w W1 h h1 h2
  have HBk : Hid (Blk ((w.alloc (.cells c.e.toArray 28)).alloc (.cells #[.int .i64 ver, .int .i64 life, .int .i64 now] 98)) sb 151 g.a) := h.keep ((below_new w _).alloc (by simp) _) h.lt
  have hlt := h.lt
  unfold SG.lets
  obtain ⟨G, hG⟩ : ∃ G, g.move c = G := ⟨_, rfl⟩
  rw [hG] at HM HS ⊢
  clear h hG
  simp only
  obtain ⟨R, hR⟩ : ∃ R, (if c.k = 4 then ((⟨G.at', max G.fam c.t, G.col, G.cell, G.seen⟩, false) : SG × Bool) else if c.k = 3 then (⟨G.at', G.fam, true, G.cell, G.seen⟩, false) else if c.k = 2 then (⟨G.at', G.fam, G.col, c.t, G.seen⟩, false) else if c.k = 1 ∧ G.has c.t = true ∧ livesM life now c.t = true ∧ G.seen < ver then (⟨G.at', G.fam, G.col, G.cell, IntKind.i64.wrap (G.seen + 1)⟩, true) else (G, false)) = R := ⟨_, rfl⟩
  rw [hR]
  have HR := hid hR
  clear hR
  go_enter Tryd.func126, Tryd.ntmps126
  go_upto_region 2 with (go_at_call 156; refine (HM.out _ HBk.out).mono ?_; rintro e w1 ⟨rfl, h1, h2⟩; have HL := hid (HS.out w1 h1 h2); clear h1 h2)
  obtain ⟨bb, hbb⟩ : ∃ bb, w.heap.size = bb := ⟨_, rfl⟩
  rw [hbb]
  have HBB := hid hbb
  have b3 : w1.cell? ⟨bb, 3, none⟩ = some (.int .i64 c.t) := by rw [← hbb]; exact HL.out.b.cell 3
  have b4 : w1.cell? ⟨bb, 4, none⟩ = some (.int .i64 c.k) := by rw [← hbb]; exact HL.out.b.cell 4
  have r0 : w1.cell? ⟨bb + 1, 0, none⟩ = some (.int .i64 ver) := by rw [← hbb]; exact HL.out.r.cell 0
  have r1 : w1.cell? ⟨bb + 1, 1, none⟩ = some (.int .i64 life) := by rw [← hbb]; exact HL.out.r.cell 1
  have r2 : w1.cell? ⟨bb + 1, 2, none⟩ = some (.int .i64 now) := by rw [← hbb]; exact HL.out.r.cell 2
  have a8 : w1.cell? ⟨sb, 8, none⟩ = some (.int .i64 G.fam) := HL.out.m.b.cell 8
  have a9 : w1.cell? ⟨sb, 9, none⟩ = some (.bool G.col) := HL.out.m.b.cell 9
  have a10 : w1.cell? ⟨sb, 10, none⟩ = some (.int .i64 G.cell) := HL.out.m.b.cell 10
  have a11 : w1.cell? ⟨sb, 11, none⟩ = some (.int .i64 G.seen) := HL.out.m.b.cell 11
  have hf : ∀ j, w1.frozen? ⟨sb, j, none⟩ = false := fun j => HL.out.m.b.free j
  have HBbw : Hid (bb + 1 < w1.heap.size ∧ sb < w1.heap.size) := by have h1 := HL.out.r.lt; have h2 := HL.out.m.b.lt; rw [hbb] at h1; exact ⟨h1, h2⟩
  clear hbb HM HS HBk HB hlt
  by_cases k4 : c.k = 4
  · have HRk : Hid (R = _) := hid (HR.out.symm.trans (if_pos k4))
    have q4 : (c.k == 4) = true := by simpa using k4
    clear k4
    go_upto_region 4 with (fail)
    go_region
    go_wp2
    go_ret
    rw [HRk.out]
    have m := (HL.out.m.drewN 1).set 8 (.int .i64 (max G.fam c.t))
    exact ⟨rfl, m.b, m.o⟩
  have HR := hid ((if_neg k4).symm.trans HR.out)
  have q4 : (c.k == 4) = false := by simpa using k4
  clear k4
  by_cases k3 : c.k = 3
  · have HRk : Hid (R = _) := hid (HR.out.symm.trans (if_pos k3))
    have q3 : (c.k == 3) = true := by simpa using k3
    clear k3
    go_wp2
    go_ret
    rw [HRk.out]
    have m := HL.out.m.set 9 (.bool true)
    exact ⟨rfl, m.b, m.o⟩
  have HR := hid ((if_neg k3).symm.trans HR.out)
  have q3 : (c.k == 3) = false := by simpa using k3
  clear k3
  by_cases k2 : c.k = 2
  · have HRk : Hid (R = _) := hid (HR.out.symm.trans (if_pos k2))
    have q2 : (c.k == 2) = true := by simpa using k2
    clear k2
    go_wp2
    go_ret
    rw [HRk.out]
    have m := HL.out.m.set 10 (.int .i64 c.t)
    exact ⟨rfl, m.b, m.o⟩
  have HR := hid ((if_neg k2).symm.trans HR.out)
  have q2 : (c.k == 2) = false := by simpa using k2
  clear k2
  by_cases k1 : c.k = 1
  · have q1 : (c.k == 1) = true := by simpa using k1
    have HK1 := hid k1
    clear k1
    have hH : Hid (∀ W, Blk W sb 151 G.a → Calls Tryd.prog 157 #[.pointer (some ⟨sb, 0, none⟩), .int .i64 c.t] W fun e w' => e = .returned (.bool (G.has c.t)) ∧ w' = W) := fun W hW => has_any G c.t sb W hW
    have hL : Hid (∀ W, Calls Tryd.prog 158 #[.agg #[.int .i64 ver, .int .i64 life, .int .i64 now], .int .i64 c.t] W fun e w' => e = .returned (.bool (livesM life now c.t)) ∧ Below W.heap.size W w') := fun W => lives_any ver life now c.t W
    obtain ⟨bh, hbh⟩ : ∃ bh, G.has c.t = bh := ⟨_, rfl⟩
    obtain ⟨bl, hbl⟩ : ∃ bl, livesM life now c.t = bl := ⟨_, rfl⟩
    rw [hbh] at hH
    rw [hbl] at hL
    rw [hbh, hbl] at HR
    clear hbh hbl
    have HT : Hid (LtT w1 sb bb G c ver life now w1) := ⟨hid ⟨Below.refl _ _, HBbw.out.1, HBbw.out.2, HL.out.m.b⟩, b3, r0, r1, r2, a11⟩
    go_upto_region 10 with (fail)
    cases bh with
    | false =>
      have HRk : Hid (R = _) := hid (HR.out.symm.trans (if_neg (by simp)))
      have HS1 : Hid (Blk w1 sb 151 G.a) := HL.out.m.b
      have hH2 : Hid (∀ n, Calls Tryd.prog 157 #[.pointer (some ⟨sb, 0, none⟩), .int .i64 c.t] (w1.drewN n) fun e w' => e = .returned (.bool false) ∧ w' = w1.drewN n) := fun n => hH.out _ HS1.out
      go_quiet ((go_at_call 157; with_reducible exact Calls.quiet_of_same (hH2.out _)))
      go_wp2
      go_ret
      rw [HRk.out]
      have m := HL.out.m.drewN nq
      exact ⟨rfl, m.b, m.o⟩
    | true =>
      cases bl with
      | false =>
        have HRk : Hid (R = _) := hid (HR.out.symm.trans (if_neg (by simp)))
        refine wp_region_held_drew (S := (fun W' => Hid (Below w1.heap.size w1 W' ∧ bb + 1 < w1.heap.size ∧ sb < w1.heap.size ∧ Blk w1 sb 151 G.a) ∧ W'.cell? ⟨bb, 3, none⟩ = some (.int .i64 c.t) ∧ W'.cell? ⟨bb + 1, 0, none⟩ = some (.int .i64 ver) ∧ W'.cell? ⟨bb + 1, 1, none⟩ = some (.int .i64 life) ∧ W'.cell? ⟨bb + 1, 2, none⟩ = some (.int .i64 now) ∧ W'.cell? ⟨sb, 11, none⟩ = some (.int .i64 G.seen))) (by kernel_rfl) ?_ (fun hHeld => ?_)
        (exact ltt_drew HT.out)
        (refine wpAnyH_take (i := 0) (v := ?_) rfl (by kernel_rfl) (by kernel_rfl) (by kernel_rfl) (fun _ _ _ h => h) (Or.inl ⟨by kernel_rfl, ?_⟩) (by assumption) ?_; rotate_left; · (intro w hSw; (try dsimp only at hSw); go_simp; first | done | with_reducible rfl))
        (try simp only [Act.put]); (try simp only [List.getElem_toArray]); (try simp only [List.getElem_cons_succ]); (try simp only [List.getElem_cons_zero]); (try simp only [List.setIfInBounds_toArray]); (try simp only [List.set_cons_succ]); (try simp only [List.set_cons_zero])
        (refine wpAnyH_take (i := 1) (v := ?_) rfl (by kernel_rfl) (by kernel_rfl) (by kernel_rfl) (fun _ _ _ h => h) (Or.inl ⟨by kernel_rfl, ?_⟩) (by assumption) ?_; rotate_left; · (intro w hSw; (try dsimp only at hSw); go_simp; first | done | with_reducible rfl))
        (try simp only [Act.put]); (try simp only [List.getElem_toArray]); (try simp only [List.getElem_cons_succ]); (try simp only [List.getElem_cons_zero]); (try simp only [List.setIfInBounds_toArray]); (try simp only [List.set_cons_succ]); (try simp only [List.set_cons_zero])
        (refine wpAnyH_take (i := 2) (v := ?_) rfl (by kernel_rfl) (by kernel_rfl) (by kernel_rfl) (fun _ _ _ h => h) (Or.inl ⟨by kernel_rfl, ?_⟩) (by assumption) ?_; rotate_left; · (intro w hSw; (try dsimp only at hSw); go_simp; first | done | with_reducible rfl))
        (try simp only [Act.put]); (try simp only [List.getElem_toArray]); (try simp only [List.getElem_cons_succ]); (try simp only [List.getElem_cons_zero]); (try simp only [List.setIfInBounds_toArray]); (try simp only [List.set_cons_succ]); (try simp only [List.set_cons_zero])
        (refine wpAnyH_ready (rs := [3]) (by kernel_rfl) (by simp) (AllReadyH.cons rfl (fun K hK => ?_) AllReadyH.nil); go_simp; (go_at_call 157; refine (hH.out _ (ltt_blk (by assumption))).mono ?_; rintro e w5 ⟨rfl, rfl⟩); refine hK.out _ _ ?_ (fun hHeld => ?_))
        · assumption
        clear hK K
        (try simp only [Act.put]); (try simp only [List.getElem_toArray]); (try simp only [List.getElem_cons_succ]); (try simp only [List.getElem_cons_zero]); (try simp only [List.setIfInBounds_toArray]); (try simp only [List.set_cons_succ]); (try simp only [List.set_cons_zero])
        (refine wpAnyH_take (i := 4) (v := ?_) rfl (by kernel_rfl) (by kernel_rfl) (by kernel_rfl) (fun _ _ _ h => h) (Or.inl ⟨by kernel_rfl, ?_⟩) (by assumption) ?_; rotate_left; · (intro w hSw; (try dsimp only at hSw); go_simp; first | done | with_reducible rfl))
        (try simp only [Act.put]); (try simp only [List.getElem_toArray]); (try simp only [List.getElem_cons_succ]); (try simp only [List.getElem_cons_zero]); (try simp only [List.setIfInBounds_toArray]); (try simp only [List.set_cons_succ]); (try simp only [List.set_cons_zero])
        (refine wpAnyH_take (i := 5) (v := ?_) rfl (by kernel_rfl) (by kernel_rfl) (by kernel_rfl) (fun _ _ _ h => h) (Or.inl ⟨by kernel_rfl, ?_⟩) (by assumption) ?_; rotate_left; · (intro w hSw; (try dsimp only at hSw); go_simp; first | done | with_reducible rfl))
        (try simp only [Act.put]); (try simp only [List.getElem_toArray]); (try simp only [List.getElem_cons_succ]); (try simp only [List.getElem_cons_zero]); (try simp only [List.setIfInBounds_toArray]); (try simp only [List.set_cons_succ]); (try simp only [List.set_cons_zero])
        (refine wpAnyH_take (i := 6) (v := ?_) rfl (by kernel_rfl) (by kernel_rfl) (by kernel_rfl) (fun _ _ _ h => h) (Or.inl ⟨by kernel_rfl, ?_⟩) (by assumption) ?_; rotate_left; · (intro w hSw; (try dsimp only at hSw); go_simp; first | done | with_reducible rfl))
        (try simp only [Act.put]); (try simp only [List.getElem_toArray]); (try simp only [List.getElem_cons_succ]); (try simp only [List.getElem_cons_zero]); (try simp only [List.setIfInBounds_toArray]); (try simp only [List.set_cons_succ]); (try simp only [List.set_cons_zero])
        (refine wpAnyH_take (i := 7) (v := ?_) rfl (by kernel_rfl) (by kernel_rfl) (by kernel_rfl) (fun _ _ _ h => h) (Or.inl ⟨by kernel_rfl, ?_⟩) (by assumption) ?_; rotate_left; · (intro w hSw; (try dsimp only at hSw); go_simp; first | done | with_reducible rfl))
        (try simp only [Act.put]); (try simp only [List.getElem_toArray]); (try simp only [List.getElem_cons_succ]); (try simp only [List.getElem_cons_zero]); (try simp only [List.setIfInBounds_toArray]); (try simp only [List.set_cons_succ]); (try simp only [List.set_cons_zero])
        (refine wpAnyH_ready (rs := [8]) (by kernel_rfl) (by simp) (AllReadyH.cons rfl (fun K hK => ?_) AllReadyH.nil); go_simp; (go_at_call 158; refine (hL.out _).mono ?_; rintro e w5 ⟨rfl, hb5⟩); refine hK.out _ _ ?_ (fun hHeld => ?_))
        · exact ltt_call (by assumption) hb5
        clear hK K
        (try simp only [Act.put]); (try simp only [List.getElem_toArray]); (try simp only [List.getElem_cons_succ]); (try simp only [List.getElem_cons_zero]); (try simp only [List.setIfInBounds_toArray]); (try simp only [List.set_cons_succ]); (try simp only [List.set_cons_zero])
        (refine wpAnyH_take (i := 9) (v := ?_) rfl (by kernel_rfl) (by kernel_rfl) (by kernel_rfl) (fun _ _ _ h => h) (Or.inl ⟨by kernel_rfl, ?_⟩) (by assumption) ?_; rotate_left; · (intro w hSw; (try dsimp only at hSw); go_simp; first | done | with_reducible rfl))
        (try simp only [Act.put]); (try simp only [List.getElem_toArray]); (try simp only [List.getElem_cons_succ]); (try simp only [List.getElem_cons_zero]); (try simp only [List.setIfInBounds_toArray]); (try simp only [List.set_cons_succ]); (try simp only [List.set_cons_zero])
        (refine wpAnyH_take (i := 10) (v := ?_) rfl (by kernel_rfl) (by kernel_rfl) (by kernel_rfl) (fun _ _ _ h => h) (Or.inl ⟨by kernel_rfl, ?_⟩) (by assumption) ?_; rotate_left; · (intro w hSw; (try dsimp only at hSw); go_simp; first | done | with_reducible rfl))
        (try simp only [Act.put]); (try simp only [List.getElem_toArray]); (try simp only [List.getElem_cons_succ]); (try simp only [List.getElem_cons_zero]); (try simp only [List.setIfInBounds_toArray]); (try simp only [List.set_cons_succ]); (try simp only [List.set_cons_zero])
        (refine wpAnyH_take (i := 11) (v := undef) rfl (by kernel_rfl) (by kernel_rfl) (by kernel_rfl) (fun _ _ _ h => h) (Or.inr ⟨by kernel_rfl, rfl⟩) (by assumption) ?_; (try simp only [Act.put]); (try simp only [List.getElem_toArray]); (try simp only [List.getElem_cons_succ]); (try simp only [List.getElem_cons_zero]); (try simp only [List.setIfInBounds_toArray]); (try simp only [List.set_cons_succ]); (try simp only [List.set_cons_zero]))
        (refine wpAnyH_take (i := 12) (v := undef) rfl (by kernel_rfl) (by kernel_rfl) (by kernel_rfl) (fun _ _ _ h => h) (Or.inr ⟨by kernel_rfl, rfl⟩) (by assumption) ?_; (try simp only [Act.put]); (try simp only [List.getElem_toArray]); (try simp only [List.getElem_cons_succ]); (try simp only [List.getElem_cons_zero]); (try simp only [List.setIfInBounds_toArray]); (try simp only [List.set_cons_succ]); (try simp only [List.set_cons_zero]))
        (refine wpAnyH_take (i := 13) (v := undef) rfl (by kernel_rfl) (by kernel_rfl) (by kernel_rfl) (fun _ _ _ h => h) (Or.inr ⟨by kernel_rfl, rfl⟩) (by assumption) ?_; (try simp only [Act.put]); (try simp only [List.getElem_toArray]); (try simp only [List.getElem_cons_succ]); (try simp only [List.getElem_cons_zero]); (try simp only [List.setIfInBounds_toArray]); (try simp only [List.set_cons_succ]); (try simp only [List.set_cons_zero]))
        (refine wpAnyH_take (i := 14) (v := undef) rfl (by kernel_rfl) (by kernel_rfl) (by kernel_rfl) (fun _ _ _ h => h) (Or.inr ⟨by kernel_rfl, rfl⟩) (by assumption) ?_; (try simp only [Act.put]); (try simp only [List.getElem_toArray]); (try simp only [List.getElem_cons_succ]); (try simp only [List.getElem_cons_zero]); (try simp only [List.setIfInBounds_toArray]); (try simp only [List.set_cons_succ]); (try simp only [List.set_cons_zero]))
        (refine wpAnyH_take (i := 15) (v := undef) rfl (by kernel_rfl) (by kernel_rfl) (by kernel_rfl) (fun _ _ _ h => h) (Or.inr ⟨by kernel_rfl, rfl⟩) (by assumption) ?_; (try simp only [Act.put]); (try simp only [List.getElem_toArray]); (try simp only [List.getElem_cons_succ]); (try simp only [List.getElem_cons_zero]); (try simp only [List.setIfInBounds_toArray]); (try simp only [List.set_cons_succ]); (try simp only [List.set_cons_zero]))
        (refine wpAnyH_take (i := 16) (v := undef) rfl (by kernel_rfl) (by kernel_rfl) (by kernel_rfl) (fun _ _ _ h => h) (Or.inr ⟨by kernel_rfl, rfl⟩) (by assumption) ?_; (try simp only [Act.put]); (try simp only [List.getElem_toArray]); (try simp only [List.getElem_cons_succ]); (try simp only [List.getElem_cons_zero]); (try simp only [List.setIfInBounds_toArray]); (try simp only [List.set_cons_succ]); (try simp only [List.set_cons_zero]))
        (refine wpAnyH_take (i := 17) (v := undef) rfl (by kernel_rfl) (by kernel_rfl) (by kernel_rfl) (fun _ _ _ h => h) (Or.inr ⟨by kernel_rfl, rfl⟩) (by assumption) ?_; (try simp only [Act.put]); (try simp only [List.getElem_toArray]); (try simp only [List.getElem_cons_succ]); (try simp only [List.getElem_cons_zero]); (try simp only [List.setIfInBounds_toArray]); (try simp only [List.set_cons_succ]); (try simp only [List.set_cons_zero]))
        (refine wpAnyH_take (i := 18) (v := ?_) rfl (by kernel_rfl) (by kernel_rfl) (by kernel_rfl) (fun _ _ _ h => h) (Or.inl ⟨by kernel_rfl, ?_⟩) (by assumption) ?_; rotate_left; · (intro w hSw; (try dsimp only at hSw); go_simp; first | done | with_reducible rfl))
        (try simp only [Act.put]); (try simp only [List.getElem_toArray]); (try simp only [List.getElem_cons_succ]); (try simp only [List.getElem_cons_zero]); (try simp only [List.setIfInBounds_toArray]); (try simp only [List.set_cons_succ]); (try simp only [List.set_cons_zero])
        refine wpAnyH_done (by kernel_rfl) ?_ _
        have hLast := hHeld
        go_wp2
        go_ret
        rw [HRk.out]
        have m := HL.out.m.below hLast.1.out.1
        exact ⟨rfl, m.b, m.o⟩
      | true =>
        by_cases hs : G.seen < ver
        · have HRk : Hid (R = _) := hid (HR.out.symm.trans (if_pos ⟨HK1.out, rfl, rfl, hs⟩))
          obtain ⟨x, hx⟩ : ∃ x, IntKind.i64.wrap (G.seen + 1) = x := ⟨_, rfl⟩
          rw [hx] at HRk
          go_region_held3 (fun W' => Hid (Below w1.heap.size w1 W' ∧ bb + 1 < w1.heap.size ∧ sb < w1.heap.size ∧ Blk w1 sb 151 G.a) ∧ W'.cell? ⟨bb, 3, none⟩ = some (.int .i64 c.t) ∧ W'.cell? ⟨bb + 1, 0, none⟩ = some (.int .i64 ver) ∧ W'.cell? ⟨bb + 1, 1, none⟩ = some (.int .i64 life) ∧ W'.cell? ⟨bb + 1, 2, none⟩ = some (.int .i64 now) ∧ W'.cell? ⟨sb, 11, none⟩ = some (.int .i64 G.seen))
            (first | exact HT.out | exact ltt_drew HT.out | exact ltt_call (by assumption) hb5 | exact ltt_drew (by assumption) | assumption)
            (first | (go_at_call 157; refine (hH.out _ (ltt_blk (by assumption))).mono ?_; rintro e w5 ⟨rfl, rfl⟩) | (go_at_call 158; refine (hL.out _).mono ?_; rintro e w5 ⟨rfl, hb5⟩))
          rename_i hLast
          have hf : w5.frozen? ⟨sb, 11, none⟩ = false := (HL.out.m.below hLast.1.out.1).b.free 11
          have a11 := hLast.2.2.2.2.2
          have HX := hid (HL.out.m.below hLast.1.out.1)
          clear hLast
          go_wp2
          go_ret
          rw [HRk.out]
          have m := HX.out.set 11 (.int .i64 x)
          exact ⟨rfl, m.b, m.o⟩
        · have HRk : Hid (R = _) := hid (HR.out.symm.trans (if_neg (by rintro ⟨-, -, -, h⟩; exact hs h)))
          go_region_held3 (fun W' => Hid (Below w1.heap.size w1 W' ∧ bb + 1 < w1.heap.size ∧ sb < w1.heap.size ∧ Blk w1 sb 151 G.a) ∧ W'.cell? ⟨bb, 3, none⟩ = some (.int .i64 c.t) ∧ W'.cell? ⟨bb + 1, 0, none⟩ = some (.int .i64 ver) ∧ W'.cell? ⟨bb + 1, 1, none⟩ = some (.int .i64 life) ∧ W'.cell? ⟨bb + 1, 2, none⟩ = some (.int .i64 now) ∧ W'.cell? ⟨sb, 11, none⟩ = some (.int .i64 G.seen))
            (first | exact HT.out | exact ltt_drew HT.out | exact ltt_call (by assumption) hb5 | exact ltt_drew (by assumption) | assumption)
            (first | (go_at_call 157; refine (hH.out _ (ltt_blk (by assumption))).mono ?_; rintro e w5 ⟨rfl, rfl⟩) | (go_at_call 158; refine (hL.out _).mono ?_; rintro e w5 ⟨rfl, hb5⟩))
          rename_i hLast
          go_wp2
          go_ret
          rw [HRk.out]
          have m := HL.out.m.below hLast.1.out.1
          exact ⟨rfl, m.b, m.o⟩
  · have q1 : (c.k == 1) = false := by simpa using k1
    have HRk : Hid (R = _) := hid (HR.out.symm.trans (if_neg (by rintro ⟨h, -⟩; exact k1 h)))
    clear k1
    go_wp2
    go_ret
    rw [HRk.out]
    exact ⟨rfl, HL.out.m.b, HL.out.m.o⟩
end Go.Proofs.YtdjaofbjmnmlbaaDoor

/- cell.seen at cells in order: what the sight lets. Conditions: a hundred thousand cells at most. -/
namespace Go.Proofs.YtdjaofbjmnmlbaaDoor
open Go.RowKit

/-- Of a list of cells those that the sight lets. -/
def seenF (ver life now : Int) : SG → List CT → List CT
  | _, [] => []
  | g, c :: l => if (g.lets c ver life now).2 = true then c :: seenF ver life now (g.lets c ver life now).1 l else seenF ver life now (g.lets c ver life now).1 l
/-- Where the sight stands behind a list of cells. -/
def sightF (ver life now : Int) : SG → List CT → SG
  | g, [] => g
  | g, c :: l => sightF ver life now (g.lets c ver life now).1 l
theorem seenF_app (ver life now : Int) : ∀ (g : SG) (l m : List CT), seenF ver life now g (l ++ m) = seenF ver life now g l ++ seenF ver life now (sightF ver life now g l) m
  | g, [], m => rfl
  | g, c :: l, m => by
    show (if (g.lets c ver life now).2 = true then c :: seenF ver life now (g.lets c ver life now).1 (l ++ m) else seenF ver life now (g.lets c ver life now).1 (l ++ m)) = (if (g.lets c ver life now).2 = true then c :: seenF ver life now (g.lets c ver life now).1 l else seenF ver life now (g.lets c ver life now).1 l) ++ seenF ver life now (sightF ver life now (g.lets c ver life now).1 l) m
    rw [seenF_app]
    split
    · rw [List.cons_append]
    · rfl
theorem sightF_app (ver life now : Int) : ∀ (g : SG) (l m : List CT), sightF ver life now g (l ++ m) = sightF ver life now (sightF ver life now g l) m
  | g, [], m => rfl
  | g, c :: l, m => by
    show sightF ver life now (g.lets c ver life now).1 (l ++ m) = sightF ver life now (sightF ver life now (g.lets c ver life now).1 l) m
    rw [sightF_app]
theorem seenF_len (ver life now : Int) : ∀ (g : SG) (l : List CT), (seenF ver life now g l).length ≤ l.length
  | g, [] => Nat.le_refl _
  | g, c :: l => by
    have := seenF_len ver life now (g.lets c ver life now).1 l
    show (if (g.lets c ver life now).2 = true then c :: seenF ver life now (g.lets c ver life now).1 l else seenF ver life now (g.lets c ver life now).1 l).length ≤ l.length + 1
    split
    · simp only [List.length_cons]; omega
    · omega
/-- What cell.seen answers. -/
def seenL (ver life now : Int) (l : List CT) : List CT := if rightM ver life = true then seenF ver life now SG.zero l else []
/-- One cell more. -/
theorem seenF_snoc (ver life now : Int) (g : SG) (l : List CT) (c : CT) : seenF ver life now g (l ++ [c]) = seenF ver life now g l ++ (if ((sightF ver life now g l).lets c ver life now).2 = true then [c] else []) := by
  rw [seenF_app]
  rfl
theorem sightF_snoc (ver life now : Int) (g : SG) (l : List CT) (c : CT) : sightF ver life now g (l ++ [c]) = ((sightF ver life now g l).lets c ver life now).1 := by
  rw [sightF_app]
  rfl

theorem CRow.but {w w' : World} {B sb : Nat} {v : Value} {l : List CT} {xs : Array Value} (h : CRow w B v l) (hs : Blk w sb 151 xs) (hb : But w.heap.size sb w w') : CRow w' B v l := by
  refine ⟨h.1, ?_⟩
  rcases h.2 with h | ⟨g, cap, cur, e, h1, h2, hr⟩
  · exact .inl h
  · have hg : g < w.heap.size := by
      rcases Nat.lt_or_ge g w.heap.size with h' | h'
      · exact h'
      · rw [Array.getElem?_eq_none h'] at h2; cases h2
    have hne : g ≠ sb := by
      rintro rfl
      unfold Blk at hs
      rw [hs] at h2
      cases h2
    exact .inr ⟨g, cap, cur, e, h1, by rw [hb.block g hg hne]; exact h2, hr⟩
theorem Blk.butC {w w' : World} {sb k : Nat} {T : TypeId} {xs : Array Value} (h : Blk w k T xs) (hb : But w.heap.size sb w w') (hne : k ≠ sb) : Blk w' k T xs := by
  have hl := h.lt
  unfold Blk at *
  rw [hb.block k hl hne]; exact h
/-- Where cell.seen is. -/
structure SnS (w W : World) (rb sb : Nat) (G : SG) (ver life now : Int) : Prop where
  s : Blk W sb 151 G.a
  r : Blk W rb 98 #[.int .i64 ver, .int .i64 life, .int .i64 now]
  b : Below w.heap.size w W
theorem SnS.below {w W W' : World} {rb sb : Nat} {G : SG} {ver life now : Int} (h : SnS w W rb sb G ver life now) (hb : Below W.heap.size W W') : SnS w W' rb sb G ver life now := ⟨h.s.keep hb h.s.lt, h.r.keep hb h.r.lt, h.b.trans (hb.mono h.b.size)⟩
theorem SnS.but {w W W' : World} {rb sb : Nat} {G G' : SG} {ver life now : Int} (h : SnS w W rb sb G ver life now) (hne : rb ≠ sb) (hsb : w.heap.size ≤ sb) (h1 : Blk W' sb 151 G'.a) (hb : But W.heap.size sb W W') : SnS w W' rb sb G' ver life now := by
  refine ⟨h1, ?_, h.b.trans ((hb.mono h.b.size).below hsb)⟩
  have hl := h.r.lt
  have hr := h.r
  unfold Blk at *
  rw [hb.block rb hl hne]; exact hr

/-- Behind an append to a row of cells another block is as it was. -/
theorem CRow.apart {w w' : World} {B k : Nat} {v : Value} {l : List CT} {T : TypeId} {xs : Array Value} (h : CRow w B v l) (hk : Blk w k T xs) (hT : T ≠ 28) (hg : w.grownBy w' v.ownBlock) : Blk w' k T xs := by
  have hne : some k ≠ v.ownBlock := by
    rcases h.2 with ⟨e, _⟩ | ⟨g, cap, cur, e, h1, h2, hr⟩
    · rw [e]; intro q; cases q
    · rw [e]; intro q; cases q
      unfold Blk at hk
      rw [hk] at h2
      cases h2
      exact hT rfl
  have hl := hk.lt
  unfold Blk at *
  rw [hg.block k hl hne]; exact hk
theorem SnS.grown {w W W' : World} {rb sb : Nat} {G : SG} {ver life now : Int} {v : Value} {l : List CT} (h : SnS w W rb sb G ver life now) (hc : CRow W w.heap.size v l) (o : Obj) (hb : Below w.heap.size (W.alloc o) W') (hg : (W.alloc o).grownBy W' v.ownBlock) : SnS w W' rb sb G ver life now :=
  have hc' := hc.below (below_new W o)
  ⟨hc'.apart (h.s.keep (below_new W o) h.s.lt) (by decide) hg, hc'.apart (h.r.keep (below_new W o) h.r.lt) (by decide) hg, (h.b.alloc h.b.size _).trans hb⟩

set_option maxHeartbeats 4000000 in
set_option maxRecDepth 100000 in
theorem seen_any (v : Value) (l : List CT) (hl : l.length ≤ 100000) (ver life now : Int) (w : World) (h : ClA w v l) :
    Calls Tryd.prog 79 #[v, .agg #[.int .i64 ver, .int .i64 life, .int .i64 now]] w fun e w' => ∃ v', e = .returned v' ∧ CRow w' w.heap.size v' (seenL ver life now l) ∧ Below w.heap.size w w' := by
  have HR : Hid (∀ W, Calls Tryd.prog 125 #[.agg #[.int .i64 ver, .int .i64 life, .int .i64 now]] W fun e w' => e = .returned (.bool (rightM ver life)) ∧ Below W.heap.size W w') := fun W => cright_rules ver life now W
  have HN0 := hid (CRow.none w w.heap.size)
  unfold seenL
  obtain ⟨A, cc, rfl, hc1, hc2, hh⟩ := h
  obtain ⟨n, hn⟩ : ∃ n, l.length = n := ⟨_, rfl⟩
  have HN := hid hn
  rw [hn] at hl hc1 hh ⊢
  have HH := hid hh
  clear hn hh
  cases hr : rightM ver life with
  | false =>
    rw [hr] at HR
    rw [if_neg (by decide)]
    clear hr
    go_enter Tryd.func79, Tryd.ntmps79
    go_wp2_with (go_at_call 125; refine (HR.out _).mono ?_; rintro e w5 ⟨rfl, hb5⟩)
    go_ret
    exact ⟨_, rfl, (HN0.out.below (((Below.refl _ _).alloc (Nat.le_refl _) _).trans (hb5.mono (by simp)))), ((Below.refl _ _).alloc (Nat.le_refl _) _).trans (hb5.mono (by simp))⟩
  | true =>
    rw [hr] at HR
    rw [if_pos rfl]
    clear hr
    have HL := hid lets_any
    go_enter Tryd.func79, Tryd.ntmps79
    go_wp2_with (go_at_call 125; refine (HR.out _).mono ?_; rintro e w5 ⟨rfl, hb5⟩)
    obtain ⟨rb, hrb⟩ : ∃ rb, w.heap.size = rb := ⟨_, rfl⟩
    obtain ⟨sb, hsb⟩ : ∃ sb, w5.heap.size = sb := ⟨_, rfl⟩
    have HB5 : Hid (Below w.heap.size w w5) := ((Below.refl _ _).alloc (Nat.le_refl _) _).trans (hb5.mono (by simp))
    have HR5 : Hid (Blk w5 w.heap.size 98 #[.int .i64 ver, .int .i64 life, .int .i64 now]) := (Blk.new w _ _).keep hb5 (by simp)
    have HS0 : Hid (SnS w (w5.alloc (.cells SG.zero.a 151)) rb sb SG.zero ver life now) := by
      rw [← hrb, ← hsb]
      exact ⟨Blk.new _ _ _, HR5.out.keep (below_new _ _) HR5.out.lt, HB5.out.alloc HB5.out.size _⟩
    have HC0 : Hid (CRow (w5.alloc (.cells SG.zero.a 151)) w.heap.size (.slice none 0 0) []) := (HN0.out.below HB5.out).below (below_new _ _)
    have HNE : Hid (rb ≠ sb ∧ w.heap.size ≤ sb) := by
      have h1 := HR5.out.lt
      exact ⟨by omega, by omega⟩
    rw [hrb, hsb]
    clear hb5 hrb hsb HB5 HR5 HR
    go_loopw [5, 14] (fun vo vi wr => ∃ i : Nat, i ≤ n ∧ vi = .int .i64 i ∧ Hid (CRow wr w.heap.size vo (seenF ver life now SG.zero (l.take i))) ∧ Hid (SnS w wr rb sb (sightF ver life now SG.zero (l.take i)) ver life now)) (fun _ vi _ => n - (intOf vi).toNat)
    case atStart => exact ⟨0, Nat.zero_le _, rfl, HC0.out, HS0.out⟩
    case round =>
      obtain ⟨i, hi, rfl, HO, HS⟩ := hrel
      by_cases hlt : i < n
      · have hin : i < l.length := by rw [HN.out]; exact hlt
        have hltz : (i : Int) < (n : Int) := by omega
        obtain ⟨b, off, rfl, hhc⟩ := HH.out (by omega)
        have hbw : b < w.heap.size := hhc.lt (by omega)
        obtain ⟨c, hc⟩ : ∃ c, l[i] = c := ⟨_, rfl⟩
        have P : wr.cell? ⟨b, off + i * 8, none⟩ = some (.string c.r) ∧ wr.cell? ⟨b, off + i * 8 + 1, none⟩ = some (.string c.f) ∧ wr.cell? ⟨b, off + i * 8 + 2, none⟩ = some (.string c.q) ∧ wr.cell? ⟨b, off + i * 8 + 3, none⟩ = some (.int .i64 c.t) ∧ wr.cell? ⟨b, off + i * 8 + 4, none⟩ = some (.int .i64 c.k) ∧ wr.cell? ⟨b, off + i * 8 + 5, none⟩ = some (.int .i64 c.vk) ∧ wr.cell? ⟨b, off + i * 8 + 6, none⟩ = some (.int .i64 c.vn) ∧ wr.cell? ⟨b, off + i * 8 + 7, none⟩ = some (.string c.s) := by
          rw [← hc]
          exact (hhc.below HS.out.b hbw).words i hin
        obtain ⟨G, hG⟩ : ∃ G, sightF ver life now SG.zero (l.take i) = G := ⟨_, rfl⟩
        have HT1 : Hid (seenF ver life now SG.zero (l.take (i + 1)) = seenF ver life now SG.zero (l.take i) ++ (if (G.lets c ver life now).2 = true then [c] else [])) := by
          unfold Hid
          rw [List.take_add_one, List.getElem?_eq_getElem hin, hc]
          show seenF ver life now SG.zero (l.take i ++ [c]) = _
          rw [seenF_snoc, hG]
        have HT2 : Hid (sightF ver life now SG.zero (l.take (i + 1)) = (G.lets c ver life now).1) := by
          unfold Hid
          rw [List.take_add_one, List.getElem?_eq_getElem hin, hc]
          show sightF ver life now SG.zero (l.take i ++ [c]) = _
          rw [sightF_snoc, hG]
        have HLn : Hid ((seenF ver life now SG.zero (l.take i)).length ≤ 100000) := by
          have := seenF_len ver life now SG.zero (l.take i)
          rw [List.length_take] at this
          unfold Hid; omega
        rw [hG] at HS
        obtain ⟨p0, p1, p2, p3, p4, p5, p6, p7⟩ := P
        clear hc hhc hG
        go_upto_region 8 with (fail)
        obtain ⟨bb, hbb⟩ : ∃ bb, wr.heap.size = bb := ⟨_, rfl⟩
        refine wp_ltc (fun W => Hid (Blk W bb 28 c.e.toArray ∧ Below wr.heap.size wr W ∧ bb = wr.heap.size) ∧ W.cell? ⟨bb, 0, none⟩ = some (.string c.r) ∧ W.cell? ⟨bb, 1, none⟩ = some (.string c.f) ∧ W.cell? ⟨bb, 2, none⟩ = some (.string c.q) ∧ W.cell? ⟨bb, 3, none⟩ = some (.int .i64 c.t) ∧ W.cell? ⟨bb, 4, none⟩ = some (.int .i64 c.k) ∧ W.cell? ⟨bb, 5, none⟩ = some (.int .i64 c.vk) ∧ W.cell? ⟨bb, 6, none⟩ = some (.int .i64 c.vn) ∧ W.cell? ⟨bb, 7, none⟩ = some (.string c.s)) (by rw [← hbb]; have hB := Blk.new wr 28 c.e.toArray; exact ⟨⟨hB, below_new _ _, rfl⟩, blk_words hB⟩) (fun W hW => ?_)
        rw [hbb]
        obtain ⟨HW, b0, b1, b2, b3, b4, b5, b6, b7⟩ := hW
        have HS2 : Hid (SnS w W rb sb G ver life now) := HS.out.below HW.out.2.1
        have HO2 : Hid (CRow W w.heap.size _ (seenF ver life now SG.zero (l.take i))) := HO.out.below HW.out.2.1
        have r0 : W.cell? ⟨rb, 0, none⟩ = some (.int .i64 ver) := HS2.out.r.cell 0
        have r1 : W.cell? ⟨rb, 1, none⟩ = some (.int .i64 life) := HS2.out.r.cell 1
        have r2 : W.cell? ⟨rb, 2, none⟩ = some (.int .i64 now) := HS2.out.r.cell 2
        have HBN : Hid (bb ≠ sb) := by
          have h1 := HS.out.s.lt
          have h2 := HW.out.2.2
          unfold Hid; omega
        have hL := HL.out G c ver life now sb W HS2.out.s
        clear p0 p1 p2 p3 p4 p5 p6 p7 hbb HO HS
        cases hck : (G.lets c ver life now).2 with
        | false =>
          rw [hck] at hL HT1
          have HL2 := hid hL
          have HT3 : Hid (seenF ver life now SG.zero (l.take (i + 1)) = seenF ver life now SG.zero (l.take i)) := by have := HT1.out; rwa [if_neg (by decide), List.append_nil] at this
          clear hL hck
          go_wp2_with (go_at_call 126; refine HL2.out.mono ?_; rintro e w6 ⟨rfl, hk6, hb6⟩)
          go_roundw
          case rel => exact ⟨i + 1, by omega, by go_num, by rw [HT3.out]; exact HO2.out.but HS2.out.s hb6, by rw [HT2.out]; exact HS2.out.but HNE.out.1 HNE.out.2 hk6 hb6⟩
          case measure => simp [intOf]; omega
        | true =>
          rw [hck] at hL HT1
          have HL2 := hid hL
          have HT3 : Hid (seenF ver life now SG.zero (l.take (i + 1)) = seenF ver life now SG.zero (l.take i) ++ [c]) := by have := HT1.out; rwa [if_pos rfl] at this
          clear hL hck
          have HX : Hid (∀ w6, Blk w6 sb 151 (G.lets c ver life now).1.a → But W.heap.size sb W w6 → SnS w w6 rb sb (G.lets c ver life now).1 ver life now ∧ Blk w6 bb 28 c.e.toArray ∧ CRow w6 w.heap.size u5 (seenF ver life now SG.zero (l.take i))) := fun w6 hk6 hb6 => ⟨HS2.out.but HNE.out.1 HNE.out.2 hk6 hb6, (HW.out.1 : Blk _ _ _ _).butC hb6 HBN.out, HO2.out.but HS2.out.s hb6⟩
          go_wp2_with (first
            | (go_at_call 126; refine HL2.out.mono ?_; rintro e w6 ⟨rfl, hk6, hb6⟩; have HX6 := hid (HX.out w6 hk6 hb6); obtain ⟨e0, e1, e2, e3, e4, e5, e6, e7⟩ := blk_words HX6.out.2.1)
            | (at_builtin; refine wpList_append_cell rfl (.tmp 21) (.tmp 23) rfl _ w.heap.size _ _ rfl (HX6.out.2.2.below (below_new _ _)) _ 1 rfl c (ct_new c _ _) HLn.out (by have := HX6.out.1.b.size; simp; omega) ?_; intro v7 w7 h7 hb7 hm7))
          go_roundw
          case rel =>
            exact ⟨i + 1, by omega, by go_num, by rw [HT3.out]; exact h7, by rw [HT2.out]; exact HX6.out.1.grown HX6.out.2.2 _ hb7 hm7⟩
          case measure => simp [intOf]; omega
      · obtain rfl : i = n := by omega
        have hO2 := HO.out
        rw [List.take_of_length_le (by rw [HN.out]; exact Nat.le_refl _)] at hO2
        have HO2 := hid hO2
        clear hO2
        go_wp2
        go_ret
        exact ⟨_, rfl, HO2.out, HS.out.b⟩
end Go.Proofs.YtdjaofbjmnmlbaaDoor

/- cell.Seen and cell.Needed at every list of cells. Conditions: as cell.Sort's. -/
namespace Go.Proofs.YtdjaofbjmnmlbaaDoor
open Go.RowKit

/-- s is l sorted: of a list of cells the right ones in order, of each place the last one. -/
def SortOf (l s : List CT) : Prop := ∃ l', StbL (l.filter CT.ok) l' ∧ s = lastsM (l'.map Prod.fst)
theorem SortOf.len {l s : List CT} (h : SortOf l s) : s.length ≤ l.length := by
  obtain ⟨l', h1, rfl⟩ := h
  have h2 := lasts_len (l'.map Prod.fst)
  have h3 := h1.perm.length_eq
  have h4 := List.length_filter_le CT.ok l
  rw [List.length_map] at h2
  rw [List.length_zipIdx] at h3
  omega
theorem sort_any (v : Value) (l : List CT) (hl : l.length ≤ 100000) (w : World) (h : ClA w v l) (hok : ∀ c ∈ l, okC c) (hL : LaidU w) :
    Calls Tryd.prog 25 #[v] w fun e w' => ∃ v' s, e = .returned v' ∧ SortOf l s ∧ CRow w' w.heap.size v' s ∧ Below w.heap.size w w' :=
  (csort_any v l hl w h hok hL).mono fun _ _ ⟨v', l', h1, h2, h3, h4⟩ => ⟨v', _, h1, ⟨l', h2, rfl⟩, h3, h4⟩

set_option maxHeartbeats 1000000 in
theorem cseen_any (v : Value) (l : List CT) (hl : l.length ≤ 100000) (ver life now : Int) (w : World) (h : ClA w v l) (hok : ∀ c ∈ l, okC c) (hL : LaidU w) :
    Calls Tryd.prog 30 #[v, .int .i64 ver, .int .i64 life, .int .i64 now] w fun e w' => ∃ v' s, e = .returned v' ∧ SortOf l s ∧ CRow w' w.heap.size v' (seenL ver life now s) ∧ Below w.heap.size w w' := by
  have HS := hid (sort_any v l hl w h hok hL)
  have HSn : Hid (∀ (W : World) (v5 : Value) (s : List CT), SortOf l s → CRow W w.heap.size v5 s → Calls Tryd.prog 79 #[v5, .agg #[.int .i64 ver, .int .i64 life, .int .i64 now]] W fun e w' => ∃ v', e = .returned v' ∧ CRow w' W.heap.size v' (seenL ver life now s) ∧ Below W.heap.size W w') := fun W v5 s h1 h2 => seen_any v5 s (Nat.le_trans h1.len hl) ver life now W h2.cla
  clear h hok hL
  go_enter Tryd.func30, Tryd.ntmps30
  go_wp2_with (first
    | (go_at_call 25; refine HS.out.mono ?_; rintro e w5 ⟨v5, s5, rfl, hq5, hr5, hb5⟩)
    | (go_at_call 79; refine (HSn.out _ _ _ hq5 hr5).mono ?_; rintro e w6 ⟨v6, rfl, hr6, hb6⟩))
  go_ret
  exact ⟨_, s5, rfl, hq5, hr6.le hb5.size, hb5.trans (hb6.mono hb5.size)⟩

set_option maxHeartbeats 1000000 in
theorem cneeded_any (v : Value) (l : List CT) (hl : l.length ≤ 100000) (ver life now : Int) (w : World) (h : ClA w v l) (hok : ∀ c ∈ l, okC c) (hL : LaidU w) :
    Calls Tryd.prog 72 #[v, .int .i64 ver, .int .i64 life, .int .i64 now] w fun e w' => ∃ v' s, e = .returned v' ∧ SortOf l s ∧ CRow w' w.heap.size v' (seenL ver life now s) ∧ Below w.heap.size w w' := by
  have HS := hid (cseen_any v l hl ver life now w h hok hL)
  clear h hok hL
  go_enter Tryd.func72, Tryd.ntmps72
  go_wp2_with (go_at_call 30; refine HS.out.mono ?_; rintro e w5 ⟨v5, s5, rfl, hq5, hr5, hb5⟩)
  go_ret
  exact ⟨_, s5, rfl, hq5, hr5, hb5⟩
end Go.Proofs.YtdjaofbjmnmlbaaDoor

/- joistref00.CopyCells, and what is appended to lists of cells. Conditions: the slices hold their cells, a hundred thousand at most. -/
namespace Go.Proofs.YtdjaofbjmnmlbaaDoor
open Go.RowKit

/-- Nothing is appended. -/
theorem run_append_nocell (w : World) (B : Nat) (v : Value) (l : List CT) (h : CRow w B v l) (c : Nat) : (Builtin.append_ #[39, 39] 39 #[v, .slice none 0 c]).run Tryd.prog w = .ok v w := by
  obtain ⟨i0, hi, hz0, hz1, hz2⟩ := info_parts info_cell
  obtain ⟨h1, h2⟩ := h
  rcases h2 with ⟨rfl, h0⟩ | ⟨g, cap, cur, rfl, hB, hh, hn, hm, hs, ht⟩
  · have h1 := run_underlying (P := Tryd.prog) Tryd.underlying39
    have hlen : (Builtin.lenOf (.slice none 0 c)).run Tryd.prog w = .ok 0 w := rfl
    simp [Builtin.append_, h1, sizeOf, typeInfo, hi, Builtin.firstCells, hlen]
  · have := run_append_room_src (P := Tryd.prog) (w := w) 39 39 39 28 i0 Tryd.underlying39 hi g 0 l.length cap (.slice none 0 c) 0 [] (Src.ofNil w Tryd.underlying39 c) (by omega) (fun j hj => absurd hj (by simp)) (fun j hj => absurd hj (by simp))
    rw [this]
    rfl

section
variable {ops : Array Oper} {rest : List Oper} {o : Oper} {a : Act} {Q : Exit → Act → World → Prop}
/-- append of a slice that holds some cells, or none, to a row of the call's own. -/
theorem wpList_append_cells (hgd : o.guard = Option.none) (s x : Operand)
    (ho : o.op = .call { callee := .builtin .append, args := #[s, x], argTypes := #[39, 39] }) (hty : o.type = 39)
    (w : World) (base : Nat) (v : Value) (l : List CT) (hs : a.eval s = v) (hown : CRow w base v l)
    (m : Value) (news : List CT) (hx : a.eval x = m) (hnews : ClA w m news)
    (hlen : l.length + news.length ≤ 1466015503700) (hbase : base ≤ w.heap.size)
    (h : ∀ v' w', CRow w' base v' (l ++ news) → Below base w w' → w.grownBy w' v.ownBlock → wpList Tryd.prog ops Q rest (a.put o.dst v') w') : wpList Tryd.prog ops Q (o :: rest) a w := by
  obtain ⟨i0, hi, hz0, hz1, hz2⟩ := info_parts info_cell
  obtain ⟨A, c, rfl, hc1, hc2, hh⟩ := hnews
  match A, hx, hh with
  | none, hx, hh =>
    have h0 : news = [] := by
      cases news with
      | nil => rfl
      | cons y t => obtain ⟨b, off, e, _⟩ := hh (by simp); cases e
    subst h0
    refine Lib.wpList_append_run w hgd s x 39 39 ho v _ hs hx v w ?_ (h v w (by rwa [List.append_nil]) (Below.refl _ _) ⟨rfl, rfl, rfl, Nat.le_refl _, fun _ _ _ => rfl⟩)
    rw [hty]
    exact run_append_nocell w base v l hown c
  | some ad, hx, hh =>
    refine wpList_append_own w hgd s x 39 ho base 28 i0 _ 8 96 Tryd.underlying39 hi hz0 hz1 hz2 rfl (by decide) v l.length (flatC l) hs hown ad news.length c (flatC news) hx (flatC_len news) (fun j u hu => ?_) (fun u hu => ?_) (by unfold maxLen; omega) (by omega) hbase ?_
    · have hj : j < (flatC news).length := by
        rcases Nat.lt_or_ge j (flatC news).length with h1 | h1
        · exact h1
        · rw [List.getElem?_eq_none h1] at hu; cases hu
      rw [flatC_len] at hj
      obtain ⟨b, off, e, hh2⟩ := hh (by omega)
      cases e
      have hi8 : j / 8 < news.length := by omega
      have h1 := hh2 (j / 8) hi8 (j % 8) (by omega)
      have h2 := flatC_at news (j / 8) (j % 8) hi8 (by omega)
      rw [show off + j / 8 * 8 + j % 8 = off + j by omega] at h1
      rw [show j / 8 * 8 + j % 8 = j by omega] at h2
      rw [add_zero_off, h1, ← h2]
      exact hu
    · have : ∀ (t : List CT), ∀ u ∈ flatC t, u.oneCell' = true := by
        intro t
        induction t with
        | nil => intro u hu; cases hu
        | cons y t ih =>
          intro u hu
          rcases List.mem_append.1 hu with hu | hu
          · exact y.e_one u hu
          · exact ih u hu
      exact this news u hu
    · intro v' w' h1 h2 _
      refine h v' w' ?_ ((Below.refl _ _).grown h2 hbase fun k hk => (World.ownsRow.lt hown k hk).1) h2
      unfold CRow
      rw [flatC_app, List.length_append]
      exact h1
end

theorem empty_crow (W : World) (B : Nat) (hB : B ≤ W.heap.size) : CRow (W.alloc (.cells #[] 28)) B (.slice (some ⟨W.heap.size, 0, none⟩) 0 0) [] := ⟨rfl, .inr ⟨W.heap.size, 0, #[], rfl, hB, Blk.new _ _ _, Nat.le_refl _, by unfold maxLen; omega, rfl, rfl⟩⟩
set_option maxHeartbeats 1000000 in
theorem copycells_any (v : Value) (l : List CT) (hl : l.length ≤ 1466015503658) (w : World) (h : ClA w v l) :
    Calls Tryd.prog 28 #[v] w fun e w' => ∃ v', e = .returned v' ∧ CRow w' w.heap.size v' l ∧ Below w.heap.size w w' := by
  have HS := hid h
  have HR := hid (empty_crow w w.heap.size (Nat.le_refl _))
  have HL := hid hl
  obtain ⟨A, c, rfl, _⟩ := h
  clear hl
  go_enter Tryd.func28, Tryd.ntmps28
  go_wp2_with (at_builtin; refine wpList_append_cells rfl (.tmp 5) (.tmp 6) rfl rfl _ w.heap.size _ [] rfl HR.out _ l rfl (HS.out.below (below_new w _)) (by have := HL.out; simp only [List.length_nil]; omega) (by simp) ?_; intro v' w' hR' hb' _)
  go_ret
  exact ⟨_, rfl, hR', (below_new w _).trans hb'⟩
end Go.Proofs.YtdjaofbjmnmlbaaDoor

/- The memory of package mem: nodes on levels, each with its cell and a row of pointers. Conditions: none. -/
namespace Go.Proofs.YtdjaofbjmnmlbaaDoor
open Go.RowKit

/-- A node: its block, its cell, the block of its row of pointers, that row's room, on how many levels it stands. -/
structure Nd where
  b : Nat
  c : CT
  g : Nat
  cap : Nat
  h : Nat
def Nd.p (n : Nd) : Value := .pointer (some ⟨n.b, 0, none⟩)
def Nd.s (n : Nd) : Value := .slice (some ⟨n.g, 0, none⟩) n.h n.cap
/-- What a node that has R behind it points to on level j. -/
def nx : List Nd → Nat → Value
  | [], _ => .pointer none
  | n :: t, j => if j < n.h then n.p else nx t j
theorem nx_app (A R : List Nd) (j : Nat) : nx (A ++ R) j = if A.any (fun n => decide (j < n.h)) = true then nx A j else nx R j := by
  induction A with
  | nil => rfl
  | cons a A ih =>
    show (if j < a.h then a.p else nx (A ++ R) j) = if (decide (j < a.h) || A.any (fun n => decide (j < n.h))) = true then (if j < a.h then a.p else nx A j) else nx R j
    by_cases q : j < a.h
    · rw [if_pos q, decide_eq_true q, Bool.true_or, if_pos rfl, if_pos q]
    · rw [if_neg q, decide_eq_false q, Bool.false_or, if_neg q]
      exact ih
theorem nx_skip {A R : List Nd} {j : Nat} (h : ∀ n ∈ A, n.h ≤ j) : nx (A ++ R) j = nx R j := by
  rw [nx_app, if_neg]
  intro q
  obtain ⟨n, hn, q⟩ := List.any_eq_true.1 q
  have := of_decide_eq_true q
  have := h n hn
  omega
theorem nx_congr {A R R' : List Nd} {j : Nat} (h : nx R j = nx R' j) : nx (A ++ R) j = nx (A ++ R') j := by
  rw [nx_app, nx_app, h]
/-- Where there is one on a level, it is the first one. -/
theorem nx_cases (R : List Nd) (j : Nat) : (nx R j = .pointer none ∧ ∀ n ∈ R, n.h ≤ j) ∨ ∃ A n T, R = A ++ n :: T ∧ nx R j = n.p ∧ j < n.h ∧ ∀ m ∈ A, m.h ≤ j := by
  induction R with
  | nil => exact .inl ⟨rfl, fun n hn => by cases hn⟩
  | cons a R ih =>
    by_cases q : j < a.h
    · exact .inr ⟨[], a, R, rfl, if_pos q, q, fun m hm => by cases hm⟩
    · have e : nx (a :: R) j = nx R j := if_neg q
      rcases ih with ⟨h1, h2⟩ | ⟨A, n, T, h1, h2, h3, h4⟩
      · refine .inl ⟨e.trans h1, fun n hn => ?_⟩
        rcases List.mem_cons.1 hn with rfl | hn
        · omega
        · exact h2 n hn
      · refine .inr ⟨a :: A, n, T, by rw [h1]; rfl, e.trans h2, h3, fun m hm => ?_⟩
        rcases List.mem_cons.1 hm with rfl | hm
        · omega
        · exact h4 m hm
/-- The row of pointers of a node of h levels with R behind it. -/
def rowN (R : List Nd) (h : Nat) : List Value := (List.range h).map (nx R)
theorem rowN_len (R : List Nd) (h : Nat) : (rowN R h).length = h := by unfold rowN; simp
theorem rowN_at (R : List Nd) {h j : Nat} (hj : j < h) : (rowN R h)[j]? = some (nx R j) := by
  unfold rowN
  rw [List.getElem?_map, List.getElem?_range hj]
  rfl
theorem rowN_congr {R R' : List Nd} {h : Nat} (e : ∀ j, j < h → nx R j = nx R' j) : rowN R h = rowN R' h := by
  unfold rowN
  refine List.map_congr_left fun j hj => e j (List.mem_range.1 hj)

/-- A node in memory. -/
structure NdAt (w : World) (B : Nat) (n : Nd) (R : List Nd) : Prop where
  lo : B ≤ n.b
  blk : Blk w n.b 103 (n.c.e ++ [n.s]).toArray
  row : w.ownsRow B 100 1 n.s n.h (rowN R n.h)
def Chain (w : World) (B : Nat) : List Nd → Prop
  | [] => True
  | n :: t => NdAt w B n t ∧ Chain w B t
theorem Chain.at {w : World} {B : Nat} : ∀ {A : List Nd} {n : Nd} {R : List Nd}, Chain w B (A ++ n :: R) → NdAt w B n R
  | [], _, _, h => h.1
  | _ :: _, _, _, h => Chain.at h.2
theorem Chain.drop {w : World} {B : Nat} : ∀ {A R : List Nd}, Chain w B (A ++ R) → Chain w B R
  | [], _, h => h
  | _ :: _, _, h => Chain.drop h.2
theorem own_block {w w' : World} {B : Nat} {e : TypeId} {sz : Nat} {v : Value} {n : Nat} {xs : List Value} (h : w.ownsRow B e sz v n xs) (hk : ∀ g, v.ownBlock = some g → w'.heap[g]? = w.heap[g]?) : w'.ownsRow B e sz v n xs := by
  refine ⟨h.1, ?_⟩
  rcases h.2 with h | ⟨g, cap, cur, e, h1, h2, hr⟩
  · exact .inl h
  · exact .inr ⟨g, cap, cur, e, h1, (hk g (by rw [e]; rfl)).trans h2, hr⟩
theorem NdAt.g_lt {w : World} {B : Nat} {n : Nd} {R : List Nd} (h : NdAt w B n R) : B ≤ n.g ∧ n.g < w.heap.size := by
  have := World.ownsRow.lt h.row n.g rfl
  exact this
/-- What a node's row lies in. -/
theorem NdAt.rowb {w : World} {B : Nat} {n : Nd} {R : List Nd} (h : NdAt w B n R) : ∃ cur, Blk w n.g 100 cur ∧ n.h ≤ n.cap ∧ cur.size = n.cap ∧ cur.toList.take n.h = rowN R n.h ∧ n.cap ≤ maxLen := by
  rcases h.row.2 with ⟨e, _⟩ | ⟨g, cap, cur, e, h1, h2, h3, h4, h5, h6⟩
  · cases e
  · injection e with e1 e2 e3
    injection e1 with e1
    injection e1 with e1
    subst e1 e3
    exact ⟨cur, h2, h3, by omega, by rw [← h6, Nat.mul_one], h4⟩
theorem NdAt.at {w : World} {B : Nat} {n : Nd} {R : List Nd} (h : NdAt w B n R) {j : Nat} (hj : j < n.h) : w.cell? ⟨n.g, j, none⟩ = some (nx R j) := by
  obtain ⟨cur, h1, h2, h3, h4, _⟩ := h.rowb
  rw [h1.cell j]
  have := rowN_at R hj
  rw [← h4, List.getElem?_take_of_lt hj] at this
  rw [← this, Array.getElem?_toList]
theorem NdAt.words {w : World} {B : Nat} {n : Nd} {R : List Nd} (h : NdAt w B n R) :
    w.cell? ⟨n.b, 0, none⟩ = some (.string n.c.r) ∧ w.cell? ⟨n.b, 1, none⟩ = some (.string n.c.f) ∧ w.cell? ⟨n.b, 2, none⟩ = some (.string n.c.q) ∧ w.cell? ⟨n.b, 3, none⟩ = some (.int .i64 n.c.t) ∧ w.cell? ⟨n.b, 4, none⟩ = some (.int .i64 n.c.k) ∧ w.cell? ⟨n.b, 5, none⟩ = some (.int .i64 n.c.vk) ∧ w.cell? ⟨n.b, 6, none⟩ = some (.int .i64 n.c.vn) ∧ w.cell? ⟨n.b, 7, none⟩ = some (.string n.c.s) ∧ w.cell? ⟨n.b, 8, none⟩ = some n.s := by
  have hb := h.blk
  exact ⟨hb.cell 0, hb.cell 1, hb.cell 2, hb.cell 3, hb.cell 4, hb.cell 5, hb.cell 6, hb.cell 7, hb.cell 8⟩
/-- A node stands where its two blocks are as they were, and what it points to is the same. -/
theorem NdAt.keep {w w' : World} {B : Nat} {n : Nd} {R R' : List Nd} (h : NdAt w B n R) (hb : w'.heap[n.b]? = w.heap[n.b]?) (hg : w'.heap[n.g]? = w.heap[n.g]?) (e : ∀ j, j < n.h → nx R j = nx R' j) : NdAt w' B n R' := by
  refine ⟨h.lo, hb.trans h.blk, ?_⟩
  rw [← rowN_congr e]
  exact own_block h.row fun g q => by cases q; exact hg
theorem Chain.keep {w w' : World} {B : Nat} : ∀ {L : List Nd}, Chain w B L → (∀ n ∈ L, w'.heap[n.b]? = w.heap[n.b]? ∧ w'.heap[n.g]? = w.heap[n.g]?) → Chain w' B L
  | [], _, _ => trivial
  | n :: _, h, hk => ⟨h.1.keep (hk n List.mem_cons_self).1 (hk n List.mem_cons_self).2 fun _ _ => rfl, Chain.keep h.2 fun m hm => hk m (List.mem_cons_of_mem _ hm)⟩
/-- The nodes ahead stand, what is behind them being another list with the same pointers. -/
theorem Chain.glue {w w' : World} {B : Nat} {R R' : List Nd} : ∀ {A : List Nd}, Chain w B (A ++ R) → (∀ n ∈ A, w'.heap[n.b]? = w.heap[n.b]? ∧ w'.heap[n.g]? = w.heap[n.g]?) → (∀ A1 n A2, A = A1 ++ n :: A2 → ∀ j, j < n.h → nx (A2 ++ R) j = nx (A2 ++ R') j) → Chain w' B R' → Chain w' B (A ++ R')
  | [], _, _, _, h => h
  | n :: A, h, hk, he, hR => ⟨h.1.keep (hk n List.mem_cons_self).1 (hk n List.mem_cons_self).2 (he [] n A rfl), Chain.glue h.2 (fun m hm => hk m (List.mem_cons_of_mem _ hm)) (fun A1 m A2 e => he (n :: A1) m A2 (by rw [e]; rfl)) hR⟩

/-- The whole of the nodes: the first one stands ahead of all cells on all levels. -/
structure Sk (w : World) (B : Nat) (hd : Nd) (L : List Nd) : Prop where
  ch : Chain w B (hd :: L)
  db : ((hd :: L).map Nd.b).Nodup
  dg : ((hd :: L).map Nd.g).Nodup
  h0 : hd.h = 32
  hs : ∀ n ∈ L, 1 ≤ n.h ∧ n.h ≤ 32
theorem Chain.mem {w : World} {B : Nat} {L : List Nd} (h : Chain w B L) {n : Nd} (hn : n ∈ L) : ∃ R, NdAt w B n R := by
  obtain ⟨A, R, rfl⟩ := List.append_of_mem hn
  exact ⟨R, h.at⟩
theorem Chain.lts {w : World} {B : Nat} {L : List Nd} (h : Chain w B L) {n : Nd} (hn : n ∈ L) : n.b < w.heap.size ∧ n.g < w.heap.size := by
  obtain ⟨R, hR⟩ := h.mem hn
  exact ⟨hR.blk.lt, hR.g_lt.2⟩
theorem Sk.below {w w' : World} {B : Nat} {hd : Nd} {L : List Nd} (h : Sk w B hd L) (hb : Below w.heap.size w w') : Sk w' B hd L :=
  ⟨h.ch.keep fun _ hn => ⟨hb.block _ (h.ch.lts hn).1, hb.block _ (h.ch.lts hn).2⟩, h.db, h.dg, h.h0, h.hs⟩

/-- The last node that stands on level i. -/
def lastH : Nd → List Nd → Nat → Nd
  | hd, [], _ => hd
  | hd, n :: t, i => lastH (if i < n.h then n else hd) t i
theorem lastH_none {i : Nat} : ∀ (x : Nd) (R : List Nd), (∀ r ∈ R, r.h ≤ i) → lastH x R i = x
  | _, [], _ => rfl
  | x, r :: R, h => by
    show lastH (if i < r.h then r else x) R i = x
    rw [if_neg (by have := h r List.mem_cons_self; omega)]
    exact lastH_none x R fun r hr => h r (List.mem_cons_of_mem _ hr)
theorem lastH_app {i : Nat} : ∀ (hd : Nd) (A R : List Nd), lastH hd (A ++ R) i = lastH (lastH hd A i) R i
  | _, [], _ => rfl
  | hd, a :: A, R => lastH_app (if i < a.h then a else hd) A R
/-- It is the one behind which none stands on that level. -/
theorem lastH_is {i : Nat} {hd x : Nd} {P A R : List Nd} (e : hd :: P = A ++ x :: R) (hx : i < x.h) (hR : ∀ r ∈ R, r.h ≤ i) : lastH hd P i = x := by
  cases A with
  | nil => injection e with e1 e2; subst e1 e2; exact lastH_none _ _ hR
  | cons a A =>
    injection e with e1 e2
    subst e2
    show lastH hd (A ++ x :: R) i = x
    rw [lastH_app]
    show lastH (if i < x.h then x else _) R i = x
    rw [if_pos hx]
    exact lastH_none _ _ hR
theorem lastH_split (i : Nat) : ∀ (hd : Nd) (P : List Nd), ∃ A R, hd :: P = A ++ lastH hd P i :: R ∧ (∀ r ∈ R, r.h ≤ i) ∧ (i < hd.h → i < (lastH hd P i).h)
  | hd, [] => ⟨[], [], rfl, (fun r hr => by cases hr), (fun h => h)⟩
  | hd, n :: t => by
    by_cases q : i < n.h
    · obtain ⟨A, R, h1, h2, h3⟩ := lastH_split i n t
      have e : lastH hd (n :: t) i = lastH n t i := by show lastH (if i < n.h then n else hd) t i = _; rw [if_pos q]
      rw [e]
      exact ⟨hd :: A, R, by rw [h1]; rfl, h2, fun _ => h3 q⟩
    · obtain ⟨A, R, h1, h2, h3⟩ := lastH_split i hd t
      have e : lastH hd (n :: t) i = lastH hd t i := by show lastH (if i < n.h then n else hd) t i = _; rw [if_neg q]
      rw [e]
      cases A with
      | nil =>
        injection h1 with e1 e2
        refine ⟨[], n :: R, by rw [← e1, e2]; rfl, fun r hr => ?_, h3⟩
        rcases List.mem_cons.1 hr with rfl | hr
        · omega
        · exact h2 r hr
      | cons a A =>
        injection h1 with e1 e2
        exact ⟨a :: n :: A, R, List.cons_eq_cons.2 ⟨e1, congrArg (n :: ·) e2⟩, h2, h3⟩
end Go.Proofs.YtdjaofbjmnmlbaaDoor
