/- The document's CopyBytes; and the law ValBack where the text is long or the value isn't right. Conditions: the listed variables of the library read as they are laid; the numbers are of 64 bits. -/
import Derived.Test.YtgahljgmgdjjdaaGreatDoorVQ
import Derived.Test.YtgahljgmgdjjdaaGreatDoorWG
import Derived.Test.YtgahljgmgdjjdaaGreatDoorRA
namespace Go.Proofs.YtgahljgmgdjjdaaGreatDoor
open Go.RowKit

/-- A row of bytes as new memory. -/
theorem copyBytes_B (l : List UInt8) (hl : l.length ≤ 2000) (g c : Nat) (w : World) (hh : Holds w g 0 l) (B : Nat) (HBw : Hid (w.heap.size = B)) :
    Calls Tryz.prog 21 #[.slice (some ⟨g, 0, none⟩) l.length c] w fun e w' => ∃ v, e = .returned v ∧ Row w' B v l ∧ Below B w w' := by
  have HN := hid (Row.nil_new w B (by rw [HBw.out]; exact Nat.le_refl _))
  have HS : Hid (∀ (o : Obj) j u, (bc l)[j]? = some u → (w.alloc o).cell? ((⟨g, 0, none⟩ : Addr).add j) = some u) := fun o j u hu => by
    have hj : j < l.length := by
      rcases Nat.lt_or_ge j l.length with h | h
      · exact h
      · rw [List.getElem?_eq_none (by rw [bc_len]; exact h)] at hu; cases hu
    have hc := hh j hj
    rw [Nat.zero_add] at hc
    have hlt := cell_lt hc
    rw [bc_at, List.getElem?_eq_getElem hj] at hu
    rw [add_zero_off, Nat.zero_add, World.cell?_alloc_past _ _ _ hlt, hc, ← hu]
    simp [List.getElem?_eq_getElem hj]
  have HL := hid hl
  have HB0 : Hid (∀ o, Below B w (w.alloc o)) := fun o => by
    have := below_new w o
    rwa [HBw.out] at this
  have HZ : Hid (B ≤ (w.alloc (.cells #[] 5)).heap.size) := by unfold Hid; simp; have := HBw.out; omega
  obtain ⟨m, hm⟩ : ∃ m, l.length = m := ⟨_, rfl⟩
  rw [hm]
  have HM := hid hm
  clear hh hl hm
  go_enter Tryz.func21, Tryz.ntmps21
  go_wp2_with (at_builtin; refine wpList_append_bytes rfl (.tmp 5) (.tmp 6) rfl _ B _ _ rfl HN.out ⟨g, 0, none⟩ m _ l HM.out rfl (HS.out _) (by have := HL.out; simp; omega) HZ.out ?_; intro v1 w1 hR1 hb1)
  go_ret
  exact ⟨_, rfl, by simpa using hR1, (HB0.out _).trans hb1⟩
theorem copyBytes_any (l : List UInt8) (hl : l.length ≤ 2000) (g c : Nat) (w : World) (hh : Holds w g 0 l) :
    Calls Tryz.prog 21 #[.slice (some ⟨g, 0, none⟩) l.length c] w fun e w' => ∃ v, e = .returned v ∧ Row w' w.heap.size v l ∧ Below w.heap.size w w' :=
  copyBytes_B l hl g c w hh w.heap.size (hid rfl)

/-- What ValBack asks of a value. -/
structure BackAsk (w : World) (k n : Int) (S : ByteArray) (l r : Bool) : Prop where
  alive : ∀ W, Below w.heap.size w W → Calls Tryz.prog 6 #[] W fun e w' => e = .returned (.bool true) ∧ Below w.heap.size w w' ∧ Below W.heap.size W w'
  long : ∀ W, Below w.heap.size w W → Calls Tryz.prog 7 #[.agg #[.int .i64 k, .int .i64 n, .string S]] W fun e w' => e = .returned (.bool l) ∧ Below w.heap.size w w' ∧ Below W.heap.size W w'
  right : ∀ W, Below w.heap.size w W → Calls Tryz.prog 10 #[.agg #[.int .i64 k, .int .i64 n, .string S]] W fun e w' => e = .returned (.bool r) ∧ Below w.heap.size w w' ∧ Below W.heap.size W w'
  show_ : ∀ W, Below w.heap.size w W → Calls Tryz.prog 15 #[.agg #[.int .i64 k, .int .i64 n, .string S]] W fun e w' => e = .returned (.string ⟨(vShow k n S.data.toList).toArray⟩) ∧ Below w.heap.size w w' ∧ Below W.heap.size W w'

theorem backAsk_any {k n : Int} (hn : inI n) (S : ByteArray) (hs : S.size ≤ 9223372036854775807) (w : World) (hL : LaidIn w) : BackAsk w k n S (decide (500 < S.size)) (vRight k n S.data.toList) where
  alive W hW := (alive_any W (hL.below hW)).mono fun _ _ ⟨he, hb⟩ => ⟨he, hW.trans (hb.mono hW.size), hb⟩
  long W hW := (long_any k n S W hs).mono fun _ _ ⟨he, hb⟩ => ⟨he, hW.trans (hb.mono hW.size), hb⟩
  right W hW := vright_in k hn S w hs hL W hW
  show_ W hW := vshow_in k hn S w hs hL W hW

set_option maxHeartbeats 1000000 in
theorem back_long {k n cut : Int} (S : ByteArray) (w : World) (r : Bool) (h : BackAsk w k n S true r) :
    Calls Tryz.prog 5 #[.agg #[.int .i64 k, .int .i64 n, .string S], .int .i64 cut] w fun e w' => e = .returned (.bool true) ∧ Below w.heap.size w w' := by
  have HA := hid h.alive
  have HL := hid h.long
  have HB := hid (below_new w)
  clear h
  go_enter Tryz.func5, Tryz.ntmps5
  go_wp2_with (first
    | (go_at_call 6; refine (HA.out _ (HB.out _)).mono ?_; rintro e w1 ⟨rfl, hbw1, hb1⟩
       obtain ⟨_, a0, a1, a2⟩ := (Agg3.new w k n S 23).below hb1)
    | (go_at_call 7; refine (HL.out _ hbw1).mono ?_; rintro e w2 ⟨rfl, hbw2, hb2⟩))
  go_ret
  exact ⟨rfl, hbw2⟩

set_option maxHeartbeats 1000000 in
theorem back_no {k n cut : Int} (S : ByteArray) (w : World) (h : BackAsk w k n S false false) (hsh : vShow k n S.data.toList = [63])
    (hE : ∀ W, Below w.heap.size w W → Calls Tryz.prog 8 #[.agg #[.int .i64 k, .int .i64 n, .string S]] W fun e w' => e = .returned (.tuple #[.slice none 0 0, .bool false]) ∧ Below w.heap.size w w' ∧ Below W.heap.size W w') :
    Calls Tryz.prog 5 #[.agg #[.int .i64 k, .int .i64 n, .string S], .int .i64 cut] w fun e w' => e = .returned (.bool true) ∧ Below w.heap.size w w' := by
  have HA := hid h.alive
  have HL := hid h.long
  have HR := hid h.right
  have HSh := hid h.show_
  rw [hsh] at HSh
  have HE := hid hE
  have HB := hid (below_new w)
  clear h hE hsh
  go_enter Tryz.func5, Tryz.ntmps5
  go_wp2_with (first
    | (go_at_call 6; refine (HA.out _ (HB.out _)).mono ?_; rintro e w1 ⟨rfl, hbw1, hb1⟩
       have HA1 := hid ((Agg3.new w k n S 23).below hb1)
       obtain ⟨_, a0, a1, a2⟩ := HA1.out)
    | (go_at_call 7; refine (HL.out _ hbw1).mono ?_; rintro e w2 ⟨rfl, hbw2, hb2⟩; have HA2 := hid (HA1.out.below hb2); obtain ⟨_, b0, b1, b2⟩ := HA2.out)
    | (go_at_call 8; refine (HE.out _ hbw2).mono ?_; rintro e w3 ⟨rfl, hbw3, hb3⟩; have HA3 := hid (HA2.out.below hb3); obtain ⟨_, c0, c1, c2⟩ := HA3.out)
    | (go_at_call 15; refine (HSh.out _ hbw3).mono ?_; rintro e w4 ⟨rfl, hbw4, hb4⟩; have HA4 := hid (HA3.out.below hb4); obtain ⟨_, d0, d1, d2⟩ := HA4.out)
    | (go_at_call 10; refine (HR.out _ hbw4).mono ?_; rintro e w5 ⟨rfl, hbw5, hb5⟩))
  go_ret
  exact ⟨rfl, hbw5⟩

end Go.Proofs.YtgahljgmgdjjdaaGreatDoor
