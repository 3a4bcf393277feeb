/- Several texts in one: CP CR NA NB NC ND NE NF NG NH. Conditions: as each theorem names them. -/
import Derived.Test.YtfcnobcpnhfgmaaDoorMIICQ
import Derived.Test.YtfcnobcpnhfgmaaDoorMSDHL
import Derived.Test.YtfcnobcpnhfgmaaDoorSA
import Derived.Test.YtfcnobcpnhfgmaaDoorCM
import Derived.Test.YtfcnobcpnhfgmaaDoorHFa
import Derived.Test.YtfcnobcpnhfgmaaDoorHB
import Derived.Test.YtfcnobcpnhfgmaaDoorSLa
import Derived.Deep.QuietTactic
import Derived.BigQuiet
import Derived.Test.YtfcnobcpnhfgmaaDoorSC
import Derived.Laws.AppendOwn
import Derived.Maps.AppendAt
import Derived.Maps.Range
/- The reader's cell at any bytes: the cell whose bytes they are, or the panic. Conditions: the reader holds the bytes, four thousand at most; the tables of utf8 read as they are laid. -/
namespace Go.Proofs.YtfcnobcpnhfgmaaDoor
open Go.RowKit

abbrev zeroA : Array Value := #[.string ⟨#[]⟩, .string ⟨#[]⟩, .string ⟨#[]⟩, .int .i64 0, .int .i64 0, .int .i64 0, .int .i64 0, .string ⟨#[]⟩]
theorem Blk.but {w w' : World} {rb k : Nat} {T : TypeId} {xs : Array Value} (h : Blk w k T xs) (hb : But w.heap.size rb w w') (hne : k ≠ rb) : Blk w' k T xs := by
  have hl := h.lt
  unfold Blk at *; rw [hb.block k hl hne]; exact h
theorem But.alloc {B rb : Nat} {w w1 : World} (h : But B rb w w1) (hB : B ≤ w1.heap.size) (o : Obj) : But B rb w (w1.alloc o) := h.trans (But.of_below ((below_new w1 o).mono hB) rb)
theorem But.setO {B rb : Nat} {w w1 : World} (h : But B rb w w1) {b : Nat} (hp : B ≤ b) (i : Nat) (v : Value) : But B rb w (w1.setCell ⟨b, i, none⟩ v) := h.trans (But.of_below ((Below.refl _ _).setCell (p := ⟨b, i, none⟩) hp v) rb)

/-- Where the reader and its cell stand. -/
structure CSt (w W : World) (rb cb : Nat) (xs : Array Value) (l : List UInt8) : Prop where
  c : Blk W cb 40 xs
  z : Blk W w.heap.size 40 zeroA
  st : St W rb l
  but : But w.heap.size rb w W
  lt : w.heap.size < cb
  rlt : rb < w.heap.size
section
variable {w W W' : World} {rb cb : Nat} {xs : Array Value} {l l' : List UInt8}
theorem CSt.call (h : CSt w W rb cb xs l) (hb : But W.heap.size rb W W') (hs : St W' rb l') : CSt w W' rb cb xs l' := by
  have h1 := h.lt
  have h2 := h.rlt
  exact ⟨h.c.but hb (by omega), h.z.but hb (by omega), hs, h.but.trans (hb.mono h.but.size), h1, h2⟩
theorem CSt.below (h : CSt w W rb cb xs l) (hb : Below W.heap.size W W') : CSt w W' rb cb xs l := h.call (But.of_below hb rb) (h.st.keep (hb.mono h.st.2.2))
theorem CSt.set (h : CSt w W rb cb xs l) (j : Nat) (v : Value) : CSt w (W.setCell ⟨cb, j, none⟩ v) rb cb (xs.setIfInBounds j v) l := by
  have h1 := h.lt
  have h2 := h.rlt
  refine ⟨h.c.set j v, ?_, ?_, h.but.setO (by omega) j v, h1, h2⟩
  · have := h.z
    unfold Blk at *
    rw [Below.heap_setCell _ _ _ _ (show w.heap.size ≠ (⟨cb, j, none⟩ : Addr).block by show _ ≠ cb; omega)]; exact this
  · exact h.st.keep ((Below.refl _ _).setCell (p := ⟨cb, j, none⟩) (by show _ ≤ cb; omega) v)
theorem CSt.cell (h : CSt w W rb cb xs l) (j : Nat) : W.cell? ⟨cb, j, none⟩ = xs[j]? := h.c.cell j
end
/-- The cell that was made ahead of all. -/
theorem CSt.new {w w0 w1 w2 : World} {rb : Nat} {l : List UInt8} (hr : rb < w.heap.size) (e0 : w0 = w.alloc (.cells zeroA 40)) (h1 : But w0.heap.size rb w0 w1) (h2 : But w1.heap.size rb w1 w2) (hs : St w2 rb l) (xs : Array Value) :
    CSt w (w2.alloc (.cells xs 40)) rb w2.heap.size xs l := by
  subst e0
  have b0 := Blk.new w 40 zeroA
  have b1 := b0.but h1 (by omega)
  have b2 := b1.but h2 (by omega)
  have hz : w.heap.size < w2.heap.size := b2.lt
  have hb : But w.heap.size rb w w2 := (((But.refl _ _ _).alloc (Nat.le_refl _) _).trans (h1.mono (by simp))).trans (h2.mono (Nat.le_of_lt b1.lt))
  refine ⟨Blk.new w2 _ _, b2.keep (below_new _ _) hz, hs.keep ((below_new _ _).mono hs.2.2), hb.alloc (Nat.le_of_lt hz) _, hz, hr⟩

theorem esc_ge (l : List UInt8) : l.length ≤ (esc l).length := by
  induction l with
  | nil => simp
  | cons c l ih => unfold esc; split <;> simp only [List.length_cons] <;> omega

/-- What a reader's cell ends in. -/
def CellEnd (rb : Nat) (l : List UInt8) (w : World) (e : Ending) (w' : World) : Prop :=
  But w.heap.size rb w w' ∧ ((∃ (r f q : List UInt8) (t k vk vn : Int) (vs : List UInt8), cRight r f q t k vk vn vs = true ∧ inI vn ∧ cEnc r f q t k vk vn vs = l ∧ e = .returned (cellV ⟨r.toArray⟩ ⟨f.toArray⟩ ⟨q.toArray⟩ t k vk vn ⟨vs.toArray⟩)) ∨ (NoCell l ∧ e = otherP))

set_option maxRecDepth 100000 in
set_option maxHeartbeats 4000000 in
theorem rcell_any (rb : Nat) (l : List UInt8) (hl : l.length ≤ 100000) (w : World) (h : St w rb l) (hL : ∀ W, Below rb w W → LaidU W) :
    Calls Tryd.prog 64 #[.pointer (some ⟨rb, 0, none⟩)] w (CellEnd rb l w) := by
  have hlt := h.2.2
  have HLT := hid hlt
  have HS0 : Hid (St (w.alloc (.cells zeroA 40)) rb l) := h.keep ((below_new _ _).mono hlt)
  have HB0 : Hid (But w.heap.size rb w (w.alloc (.cells zeroA 40))) := (But.refl _ _ _).alloc (Nat.le_refl _) _
  have HL := hid hL
  cases h1 : rdT l with
  | none =>
    have HT := rtext_any rb l (by omega) _ HS0.out
    rw [h1] at HT
    have HT := hid HT
    have HE := hid (no_head h1)
    clear h hlt hL h1
    go_enter Tryd.func64, Tryd.ntmps64
    go_wp2_with (go_at_call 113; refine HT.out.mono ?_; rintro e w1 ⟨hb1, rfl⟩)
    refine ⟨rfl, ?_⟩
    exact ⟨HB0.out.trans (hb1.mono (by simp)), .inr ⟨HE.out, rfl⟩⟩
  | some p =>
    obtain ⟨r, l1⟩ := p
    have HT := rtext_any rb l (by omega) _ HS0.out
    rw [h1] at HT
    have HT : Hid (Calls Tryd.prog 113 #[.pointer (some ⟨rb, 0, none⟩)] (w.alloc (.cells zeroA 40)) fun e w' => But (w.alloc (.cells zeroA 40)).heap.size rb (w.alloc (.cells zeroA 40)) w' ∧ e = .returned (.string ⟨r.toArray⟩) ∧ St w' rb l1) := HT
    have hl1 : l1.length ≤ 100000 := by have := congrArg List.length (rdT_rest h1); simp at this; omega
    cases h2 : rdT l1 with
    | none =>
      have HT2 : Hid (∀ W, St W rb l1 → Calls Tryd.prog 113 #[.pointer (some ⟨rb, 0, none⟩)] W fun e w' => But W.heap.size rb W w' ∧ e = otherP) := fun W hW => by
        have := rtext_any rb l1 (by omega) W hW
        rwa [h2] at this
      have HE := hid (no_fam h1 h2)
      clear h hlt hL h1 h2
      go_enter Tryd.func64, Tryd.ntmps64
      go_wp2_with (first
        | (go_at_call 113; ((with_reducible refine HT.out.mono ?_); rintro e w1 ⟨hb1, rfl, hS1⟩))
        | (go_at_call 113; ((with_reducible refine (HT2.out _ hS1).mono ?_); rintro e w2 ⟨hb2, rfl⟩)))
      refine ⟨rfl, ?_⟩
      exact ⟨(HB0.out.trans (hb1.mono (by simp))).trans (hb2.mono (by have := hb1.size; simp at this; omega)), .inr ⟨HE.out, rfl⟩⟩
    | some p =>
      obtain ⟨f, l2⟩ := p
      have HT2 : Hid (∀ W, St W rb l1 → Calls Tryd.prog 113 #[.pointer (some ⟨rb, 0, none⟩)] W fun e w' => But W.heap.size rb W w' ∧ e = .returned (.string ⟨f.toArray⟩) ∧ St w' rb l2) := fun W hW => by
        have := rtext_any rb l1 (by omega) W hW
        rwa [h2] at this
      have hl2 : l2.length ≤ 100000 := by have := congrArg List.length (rdT_rest h2); simp at this; omega
      have H1 := hid h1
      have H2 := hid h2
      clear h hlt hL h1 h2
      go_enter Tryd.func64, Tryd.ntmps64
      go_upto_region 2 with (first
        | (go_at_call 113; ((with_reducible refine HT.out.mono ?_); rintro e w1 ⟨hb1, rfl, hS1⟩))
        | (go_at_call 113; ((with_reducible refine (HT2.out _ hS1).mono ?_); rintro e w2 ⟨hb2, rfl, hS2⟩)))
      obtain ⟨cb, hcb⟩ : ∃ cb, w2.heap.size = cb := ⟨_, rfl⟩
      refine wp_ltr (fun W => CSt w W rb cb #[.string ⟨r.toArray⟩, .string ⟨f.toArray⟩, .string ⟨#[]⟩, .int .i64 0, .int .i64 0, .int .i64 0, .int .i64 0, .string ⟨#[]⟩] l2) (by rw [← hcb]; exact CSt.new HLT.out rfl hb1 hb2 hS2 _) (fun W hC => ?_)
      rw [hcb]
      clear hcb hb1 hb2 hS1 hS2 HT HT2 HS0 HB0
      have HC := hid hC
      clear hC
      by_cases hm : ∃ l3, l2 = 0 :: 0 :: l3
      · obtain ⟨l3, rfl⟩ := hm
        have HSk : Hid (∀ W, St W rb (0 :: 0 :: l3) → Calls Tryd.prog 114 #[.pointer (some ⟨rb, 0, none⟩), .int .u8 0, .int .u8 0] W fun e w' => But W.heap.size rb W w' ∧ e = .returned (.bool true) ∧ St w' rb l3) := fun W hW => by
          refine (skip_any rb _ W hW).mono fun e w' h => ?_
          rcases h with ⟨r', e1, e2, e3, e4⟩ | ⟨e1, _⟩
          · injection e1 with _ e1; injection e1 with _ e1; subst e1; exact ⟨e4, e2, e3⟩
          · exact absurd rfl (e1 l3)
        have HTK : Hid (Took l r f [] true l3) := ⟨_, _, H1.out, H2.out, .inl ⟨rfl, rfl, rfl⟩⟩
        have HSZ : Hid (r.length ≤ 9223372036854775807 ∧ f.length ≤ 9223372036854775807 ∧ l3.length ≤ 100000) := by
          have a1 := congrArg List.length (rdT_rest H1.out)
          have a2 := congrArg List.length (rdT_rest H2.out)
          have a3 := esc_ge r
          have a4 := esc_ge f
          simp at a1 a2 hl2
          exact ⟨by omega, by omega, by omega⟩
        clear H1 H2 hl1 hl2
        go_upto_region 5 with (first
          | (go_at_call 114; refine (HSk.out _ HC.out.st).mono ?_; rintro e w3 ⟨hb3, rfl, hS3⟩))
        refine wp_ltr (fun W => CSt w W rb cb #[.string ⟨r.toArray⟩, .string ⟨f.toArray⟩, .string ⟨#[]⟩, .int .i64 0, .int .i64 0, .int .i64 0, .int .i64 0, .string ⟨#[]⟩] l3) (HC.out.call hb3 hS3) (fun W3 hC3 => ?_)
        have HC3 := hid hC3
        clear hC3 hb3 hS3 HC HSk
        by_cases h8 : 8 ≤ l3.length
        · obtain ⟨T, hT⟩ : ∃ T : Int, 9223372036854775807 - (foldB (l3.take 8) : Int) = T := ⟨_, rfl⟩
          have HM : Hid (∀ W, St W rb l3 → Calls Tryd.prog 115 #[.pointer (some ⟨rb, 0, none⟩)] W fun e w' => But W.heap.size rb W w' ∧ e = .returned (.int .i64 T) ∧ St w' rb (l3.drop 8)) := fun W hW => by
            refine (rtime_any rb l3 W hW).mono fun e w' h => ?_
            unfold TmEnd at h
            rw [if_pos h8, hT] at h
            exact ⟨h.1, h.2.1, h.2.2⟩
          have c3 : W3.cell? ⟨cb, 3, none⟩ = some (.int .i64 0) := HC3.out.cell 3
          cases hd : l3.drop 8 with
          | nil =>
            rw [hd] at HM
            have HE := hid (HTK.out.no9 hd)
            have HO : Hid (∀ W, St W rb [] → Calls Tryd.prog 116 #[.pointer (some ⟨rb, 0, none⟩)] W (OneEnd W rb [])) := fun W h => one_any rb [] W h
            clear hd hT
            go_wp2_with (first
              | (go_at_call 115; refine (HM.out _ HC3.out.st).mono ?_; rintro e w5 ⟨hb5, rfl, hS5⟩; have HC4 := hid ((HC3.out.call hb5 hS5).set 3 (.int .i64 T)); have c3' : w5.cell? ⟨cb, 3, none⟩ = some (.int .i64 0) := (HC3.out.call hb5 hS5).cell 3; have f3 : w5.frozen? ⟨cb, 3, none⟩ = false := (HC3.out.call hb5 hS5).c.free 3)
              | (go_at_call 116; refine (HO.out _ HC4.out.st).mono ?_; rintro e w6 ⟨hb6, rfl⟩))
            refine ⟨rfl, ?_⟩
            exact ⟨HC4.out.but.trans (hb6.mono HC4.out.but.size), .inr ⟨HE.out, rfl⟩⟩
          | cons x V =>
            rw [hd] at HM
            obtain ⟨z, hz⟩ : ∃ z : Int, (x.toNat : Int) = z := ⟨_, rfl⟩
            have HO : Hid (∀ W, St W rb (x :: V) → Calls Tryd.prog 116 #[.pointer (some ⟨rb, 0, none⟩)] W fun e w' => But W.heap.size rb W w' ∧ e = .returned (.int .u8 z) ∧ St w' rb V) := fun W h => one_cons rb x V W h z hz
            have hx := u8_lt x
            have hz0 : 0 ≤ z := by omega
            have hz1 : z < 256 := by omega
            have HD0 := hid (And.intro hd (And.intro hT (And.intro hz h8)))
            clear hd hT hz hx h8
            go_upto_region 7 with (first
              | (go_at_call 115; refine (HM.out _ HC3.out.st).mono ?_; rintro e w5 ⟨hb5, rfl, hS5⟩; have HC4 := hid ((HC3.out.call hb5 hS5).set 3 (.int .i64 T)); have c3' : w5.cell? ⟨cb, 3, none⟩ = some (.int .i64 0) := (HC3.out.call hb5 hS5).cell 3; have f3 : w5.frozen? ⟨cb, 3, none⟩ = false := (HC3.out.call hb5 hS5).c.free 3)
              | (go_at_call 116; refine (HO.out _ HC4.out.st).mono ?_; rintro e w6 ⟨hb6, rfl, hS6⟩; have HC5 := hid (HC4.out.call hb6 hS6); have c4 : w6.cell? ⟨cb, 4, none⟩ = some (.int .i64 0) := HC5.out.cell 4; have f4 : w6.frozen? ⟨cb, 4, none⟩ = false := HC5.out.c.free 4))
            refine wp_ltr (fun W => CSt w W rb cb #[.string ⟨r.toArray⟩, .string ⟨f.toArray⟩, .string ⟨#[]⟩, .int .i64 T, .int .i64 (255 - z), .int .i64 0, .int .i64 0, .string ⟨#[]⟩] V) (HC5.out.set 4 _) (fun W5 hC5 => ?_)
            clear HM HO HC4 HC5 hb5 hb6 hS5 hS6 c3 c3' f3 c4 f4 HC3
            obtain ⟨k, hk⟩ : ∃ k : Int, 255 - z = k := ⟨_, rfl⟩
            rw [hk] at hC5
            try rw [hk]
            have HC5 := hid hC5
            have HKK : Hid (255 - (x.toNat : Int) = k) := by have := HD0.out.2.2.1; unfold Hid; omega
            clear hC5 hk hz0 hz1
            have g4 : W5.cell? ⟨cb, 4, none⟩ = some (.int .i64 k) := HC5.out.cell 4
            by_cases k4 : k = 4
            · subst k4
              have HD : Hid (l3.drop 8 = x :: V ∧ T = 9223372036854775807 - (foldB (l3.take 8) : Int) ∧ 255 - (x.toNat : Int) = 4 ∧ 8 ≤ l3.length ∧ true = decide (255 - (x.toNat : Int) = 4)) := ⟨HD0.out.1, HD0.out.2.1.symm, HKK.out, HD0.out.2.2.2, by rw [HKK.out]; rfl⟩
              have k4 : True := trivial
              cases V with
              | cons y V =>
                have HE : Hid (NoCell l) := HTK.out.noRest HD.out.1 (by rw [HD.out.2.2.1]; decide) (by simp)
                have hst := HC5.out.st
                obtain ⟨⟨v, hv, A, c, rfl, hs2, hs3, hs4⟩, hs5, hs6⟩ := hst
                have hv : W5.cell? ⟨rb, 0, none⟩ = some (.slice A (V.length + 1) c) := hv
                have q9 : ((V.length : Int) + 1 == 0) = false := by simp; omega
                clear hs2 hs3 hs4 hs5 hs6
                go_wp2_with (first
                  | (go_at_call 117; ((with_reducible refine (want_yes _ _).mono ?_); rintro e w9 ⟨rfl, rfl⟩))
                  | (go_at_call 117; ((with_reducible refine (want_no _ _).mono ?_); rintro e w9 ⟨rfl, rfl⟩)))
                refine ⟨rfl, ?_⟩
                exact ⟨HC5.out.but, .inr ⟨HE.out, rfl⟩⟩
              | nil =>
                have hst := HC5.out.st
                obtain ⟨⟨v, hv, A, c, rfl, hs2, hs3, hs4⟩, hs5, hs6⟩ := hst
                have hv : W5.cell? ⟨rb, 0, none⟩ = some (.slice A 0 c) := hv
                clear hs2 hs3 hs4 hs5 hs6
                go_upto_region 13 with (first
                  | (go_at_call 117; ((with_reducible refine (want_yes _ _).mono ?_); rintro e w9 ⟨rfl, rfl⟩)))
                clear hv k4
                have HCw := HC5
                have HR : Hid (∀ W', Below rb w W' → Calls Tryd.prog 61 #[cellV ⟨r.toArray⟩ ⟨f.toArray⟩ ⟨#[]⟩ T 4 0 0 ⟨#[]⟩] W' fun e w' => e = .returned (.bool (cRight r f [] T 4 0 0 [])) ∧ Below W'.heap.size W' w') :=
                  fun W' hW' => cright_any ⟨r.toArray⟩ ⟨f.toArray⟩ ⟨#[]⟩ ⟨#[]⟩ T 4 0 (vn := 0) (by unfold inI; omega) (by rw [mk_size]; exact HSZ.out.2.1) (by decide) W' (HL.out W' hW')
                have HBW : Hid (Below rb w W5) := (HCw.out.but.low HLT.out)
                have g0 : W5.cell? ⟨cb, 0, none⟩ = some (.string ⟨r.toArray⟩) := HCw.out.cell 0
                have g1 : W5.cell? ⟨cb, 1, none⟩ = some (.string ⟨f.toArray⟩) := HCw.out.cell 1
                have g2 : W5.cell? ⟨cb, 2, none⟩ = some (.string ⟨#[]⟩) := HCw.out.cell 2
                have g3 : W5.cell? ⟨cb, 3, none⟩ = some (.int .i64 T) := HCw.out.cell 3
                have g4 : W5.cell? ⟨cb, 4, none⟩ = some (.int .i64 4) := HCw.out.cell 4
                have g5 : W5.cell? ⟨cb, 5, none⟩ = some (.int .i64 0) := HCw.out.cell 5
                have g6 : W5.cell? ⟨cb, 6, none⟩ = some (.int .i64 0) := HCw.out.cell 6
                have g7 : W5.cell? ⟨cb, 7, none⟩ = some (.string ⟨#[]⟩) := HCw.out.cell 7
                cases hr : cRight r f [] T 4 0 0 [] with
                | false =>
                  rw [hr] at HR
                  have HE : Hid (NoCell l) := HTK.out.noRight HD.out.1 (by rw [HD.out.2.2.1]; decide) (by rw [← HD.out.2.1, HD.out.2.2.1]; exact hr)
                  clear hr
                  go_wp2_with (first
                    | (go_at_call 61; refine (HR.out _ HBW.out).mono ?_; rintro e w8 ⟨rfl, hb8⟩)
                    | (go_at_call 117; refine (want_no _ _).mono ?_; rintro e w9 ⟨rfl, rfl⟩))
                  refine ⟨rfl, ?_⟩
                  exact ⟨(HCw.out.below hb8).but, .inr ⟨HE.out, rfl⟩⟩
                | true =>
                  rw [hr] at HR
                  have HE : Hid (cRight r f [] T 4 0 0 [] = true ∧ inI 0 ∧ cEnc r f [] T 4 0 0 [] = l) := ⟨hr, (by unfold inI; omega), by have := HTK.out.enc HD.out.2.2.2.1 HD.out.1 HD.out.2.2.2.2 (vk := 0) (vn := 0) (vs := []) (by unfold vPart; rw [if_neg (by rw [HD.out.2.2.1]; decide)]); rwa [← HD.out.2.1, HD.out.2.2.1] at this⟩
                  clear hr
                  go_upto_region 14 with (first
                    | (go_at_call 61; refine (HR.out _ HBW.out).mono ?_; rintro e w8 ⟨rfl, hb8⟩)
                    | (go_at_call 117; refine (want_yes _ _).mono ?_; rintro e w9 ⟨rfl, rfl⟩))
                  have HC8 := hid (HCw.out.below hb8)
                  clear g0 g1 g2 g3 g4 g5 g6 g7
                  have g0 : w8.cell? ⟨cb, 0, none⟩ = some (.string ⟨r.toArray⟩) := HC8.out.cell 0
                  have g1 : w8.cell? ⟨cb, 1, none⟩ = some (.string ⟨f.toArray⟩) := HC8.out.cell 1
                  have g2 : w8.cell? ⟨cb, 2, none⟩ = some (.string ⟨#[]⟩) := HC8.out.cell 2
                  have g3 : w8.cell? ⟨cb, 3, none⟩ = some (.int .i64 T) := HC8.out.cell 3
                  have g4 : w8.cell? ⟨cb, 4, none⟩ = some (.int .i64 4) := HC8.out.cell 4
                  have g5 : w8.cell? ⟨cb, 5, none⟩ = some (.int .i64 0) := HC8.out.cell 5
                  have g6 : w8.cell? ⟨cb, 6, none⟩ = some (.int .i64 0) := HC8.out.cell 6
                  have g7 : w8.cell? ⟨cb, 7, none⟩ = some (.string ⟨#[]⟩) := HC8.out.cell 7
                  have z0 : w8.cell? ⟨w.heap.size, 0, none⟩ = some (.string ⟨#[]⟩) := HC8.out.z.cell 0
                  have z1 : w8.cell? ⟨w.heap.size, 1, none⟩ = some (.string ⟨#[]⟩) := HC8.out.z.cell 1
                  have z2 : w8.cell? ⟨w.heap.size, 2, none⟩ = some (.string ⟨#[]⟩) := HC8.out.z.cell 2
                  have z3 : w8.cell? ⟨w.heap.size, 3, none⟩ = some (.int .i64 0) := HC8.out.z.cell 3
                  have z4 : w8.cell? ⟨w.heap.size, 4, none⟩ = some (.int .i64 0) := HC8.out.z.cell 4
                  have z5 : w8.cell? ⟨w.heap.size, 5, none⟩ = some (.int .i64 0) := HC8.out.z.cell 5
                  have z6 : w8.cell? ⟨w.heap.size, 6, none⟩ = some (.int .i64 0) := HC8.out.z.cell 6
                  have z7 : w8.cell? ⟨w.heap.size, 7, none⟩ = some (.string ⟨#[]⟩) := HC8.out.z.cell 7
                  have zf : ∀ j, w8.frozen? ⟨w.heap.size, j, none⟩ = false := fun j => HC8.out.z.free j
                  have hneq : cb ≠ w.heap.size := by have := HC8.out.lt; omega
                  go_wp2
                  refine bodyPost_ret (v := cellV ⟨r.toArray⟩ ⟨f.toArray⟩ ⟨#[]⟩ T 4 0 0 ⟨#[]⟩) (by simp [results, Tryd.results64, go_sem, cell_set_same, z0, z1, z2, z3, z4, z5, z6, z7]) rfl ?_
                  refine ⟨?_, .inl ⟨r, f, [], T, 4, 0, 0, [], HE.out.1, HE.out.2.1, HE.out.2.2, rfl⟩⟩
                  have hB := HC8.out.but
                  exact (((((((hB.setO (Nat.le_refl _) _ _).setO (Nat.le_refl _) _ _).setO (Nat.le_refl _) _ _).setO (Nat.le_refl _) _ _).setO (Nat.le_refl _) _ _).setO (Nat.le_refl _) _ _).setO (Nat.le_refl _) _ _).setO (Nat.le_refl _) _ _
            · have HE : Hid (NoCell l) := HTK.out.noKind HD0.out.1 (by rw [HKK.out]; simpa using k4)
              have q4 : (k == 4) = false := by simpa using k4
              go_wp2_with (go_at_call 117; refine (want_no _ _).mono ?_; rintro e w9 ⟨rfl, rfl⟩)
              refine ⟨rfl, ?_⟩
              exact ⟨HC5.out.but, .inr ⟨HE.out, rfl⟩⟩
        · have HM : Hid (∀ W, St W rb l3 → Calls Tryd.prog 115 #[.pointer (some ⟨rb, 0, none⟩)] W fun e w' => But W.heap.size rb W w' ∧ e = otherP) := fun W hW => by
            refine (rtime_any rb l3 W hW).mono fun e w' h => ?_
            unfold TmEnd at h
            rw [if_neg h8] at h
            exact h
          have HE := hid (HTK.out.no8 h8)
          clear h8
          go_wp2_with (go_at_call 115; refine (HM.out _ HC3.out.st).mono ?_; rintro e w5 ⟨hb5, rfl⟩)
          refine ⟨rfl, ?_⟩
          exact ⟨HC3.out.but.trans (hb5.mono HC3.out.but.size), .inr ⟨HE.out, rfl⟩⟩
      · have hm : ∀ r, l2 ≠ 0 :: 0 :: r := fun r e => hm ⟨r, e⟩
        have HSk : Hid (∀ W, St W rb l2 → Calls Tryd.prog 114 #[.pointer (some ⟨rb, 0, none⟩), .int .u8 0, .int .u8 0] W fun e w' => But W.heap.size rb W w' ∧ e = .returned (.bool false) ∧ St w' rb l2) := fun W hW => by
          refine (skip_any rb _ W hW).mono fun e w' h => ?_
          rcases h with ⟨r', e1, e2, e3, e4⟩ | ⟨e1, e2, e3, e4⟩
          · exact absurd e1 (hm r')
          · exact ⟨e4, e2, e3⟩
        cases h3 : rdT l2 with
        | none =>
          have HT3 : Hid (∀ W, St W rb l2 → Calls Tryd.prog 113 #[.pointer (some ⟨rb, 0, none⟩)] W fun e w' => But W.heap.size rb W w' ∧ e = otherP) := fun W hW => by
            have := rtext_any rb l2 (by omega) W hW
            rwa [h3] at this
          have HE := hid (no_qual H1.out H2.out hm h3)
          clear hm h3
          go_wp2_with (first
            | (go_at_call 114; refine (HSk.out _ HC.out.st).mono ?_; rintro e w3 ⟨hb3, rfl, hS3⟩)
            | (go_at_call 113; refine (HT3.out _ hS3).mono ?_; rintro e w4 ⟨hb4, rfl⟩))
          refine ⟨rfl, ?_⟩
          exact ⟨(HC.out.call hb3 hS3).but.trans (hb4.mono (HC.out.call hb3 hS3).but.size), .inr ⟨HE.out, rfl⟩⟩
        | some p =>
          obtain ⟨q, l3⟩ := p
          have HT3 : Hid (∀ W, St W rb l2 → Calls Tryd.prog 113 #[.pointer (some ⟨rb, 0, none⟩)] W fun e w' => But W.heap.size rb W w' ∧ e = .returned (.string ⟨q.toArray⟩) ∧ St w' rb l3) := fun W hW => by
            have := rtext_any rb l2 (by omega) W hW
            rwa [h3] at this
          have HTK : Hid (Took l r f q false l3) := ⟨_, _, H1.out, H2.out, .inr ⟨rfl, hm, h3⟩⟩
          have HSZ : Hid (r.length ≤ 9223372036854775807 ∧ f.length ≤ 9223372036854775807 ∧ l3.length ≤ 100000) := by
            have a1 := congrArg List.length (rdT_rest H1.out)
            have a2 := congrArg List.length (rdT_rest H2.out)
            have a5 := congrArg List.length (rdT_rest h3)
            have a3 := esc_ge r
            have a4 := esc_ge f
            simp at a1 a2 a5 hl2
            exact ⟨by omega, by omega, by omega⟩
          clear H1 H2 hl1 hl2 hm h3
          go_upto_region 5 with (first
            | (go_at_call 114; refine (HSk.out _ HC.out.st).mono ?_; rintro e w3 ⟨hb3, rfl, hS3⟩)
            | (go_at_call 113; refine (HT3.out _ hS3).mono ?_; rintro e w4 ⟨hb4, rfl, hS4⟩; have HC4 := hid ((HC.out.call hb3 hS3).call hb4 hS4); have c2 : w4.cell? ⟨cb, 2, none⟩ = some (.string ⟨#[]⟩) := HC4.out.cell 2; have f2 : w4.frozen? ⟨cb, 2, none⟩ = false := HC4.out.c.free 2))
          refine wp_ltr (fun W => CSt w W rb cb #[.string ⟨r.toArray⟩, .string ⟨f.toArray⟩, .string ⟨q.toArray⟩, .int .i64 0, .int .i64 0, .int .i64 0, .int .i64 0, .string ⟨#[]⟩] l3) (HC4.out.set 2 _) (fun W3 hC3 => ?_)
          have HC3 := hid hC3
          clear hC3 hb3 hS3 hb4 hS4 HC HC4 c2 f2 HSk HT3
          by_cases h8 : 8 ≤ l3.length
          · obtain ⟨T, hT⟩ : ∃ T : Int, 9223372036854775807 - (foldB (l3.take 8) : Int) = T := ⟨_, rfl⟩
            have HM : Hid (∀ W, St W rb l3 → Calls Tryd.prog 115 #[.pointer (some ⟨rb, 0, none⟩)] W fun e w' => But W.heap.size rb W w' ∧ e = .returned (.int .i64 T) ∧ St w' rb (l3.drop 8)) := fun W hW => by
              refine (rtime_any rb l3 W hW).mono fun e w' h => ?_
              unfold TmEnd at h
              rw [if_pos h8, hT] at h
              exact ⟨h.1, h.2.1, h.2.2⟩
            have c3 : W3.cell? ⟨cb, 3, none⟩ = some (.int .i64 0) := HC3.out.cell 3
            cases hd : l3.drop 8 with
            | nil =>
              rw [hd] at HM
              have HE := hid (HTK.out.no9 hd)
              have HO : Hid (∀ W, St W rb [] → Calls Tryd.prog 116 #[.pointer (some ⟨rb, 0, none⟩)] W (OneEnd W rb [])) := fun W h => one_any rb [] W h
              clear hd hT
              go_wp2_with (first
                | (go_at_call 115; refine (HM.out _ HC3.out.st).mono ?_; rintro e w5 ⟨hb5, rfl, hS5⟩; have HC4 := hid ((HC3.out.call hb5 hS5).set 3 (.int .i64 T)); have c3' : w5.cell? ⟨cb, 3, none⟩ = some (.int .i64 0) := (HC3.out.call hb5 hS5).cell 3; have f3 : w5.frozen? ⟨cb, 3, none⟩ = false := (HC3.out.call hb5 hS5).c.free 3)
                | (go_at_call 116; refine (HO.out _ HC4.out.st).mono ?_; rintro e w6 ⟨hb6, rfl⟩))
              refine ⟨rfl, ?_⟩
              exact ⟨HC4.out.but.trans (hb6.mono HC4.out.but.size), .inr ⟨HE.out, rfl⟩⟩
            | cons x V =>
              rw [hd] at HM
              obtain ⟨z, hz⟩ : ∃ z : Int, (x.toNat : Int) = z := ⟨_, rfl⟩
              have HO : Hid (∀ W, St W rb (x :: V) → Calls Tryd.prog 116 #[.pointer (some ⟨rb, 0, none⟩)] W fun e w' => But W.heap.size rb W w' ∧ e = .returned (.int .u8 z) ∧ St w' rb V) := fun W h => one_cons rb x V W h z hz
              have hx := u8_lt x
              have hz0 : 0 ≤ z := by omega
              have hz1 : z < 256 := by omega
              have HD0 := hid (And.intro hd (And.intro hT (And.intro hz h8)))
              clear hd hT hz hx h8
              go_upto_region 7 with (first
                | (go_at_call 115; refine (HM.out _ HC3.out.st).mono ?_; rintro e w5 ⟨hb5, rfl, hS5⟩; have HC4 := hid ((HC3.out.call hb5 hS5).set 3 (.int .i64 T)); have c3' : w5.cell? ⟨cb, 3, none⟩ = some (.int .i64 0) := (HC3.out.call hb5 hS5).cell 3; have f3 : w5.frozen? ⟨cb, 3, none⟩ = false := (HC3.out.call hb5 hS5).c.free 3)
                | (go_at_call 116; refine (HO.out _ HC4.out.st).mono ?_; rintro e w6 ⟨hb6, rfl, hS6⟩; have HC5 := hid (HC4.out.call hb6 hS6); have c4 : w6.cell? ⟨cb, 4, none⟩ = some (.int .i64 0) := HC5.out.cell 4; have f4 : w6.frozen? ⟨cb, 4, none⟩ = false := HC5.out.c.free 4))
              refine wp_ltr (fun W => CSt w W rb cb #[.string ⟨r.toArray⟩, .string ⟨f.toArray⟩, .string ⟨q.toArray⟩, .int .i64 T, .int .i64 (255 - z), .int .i64 0, .int .i64 0, .string ⟨#[]⟩] V) (HC5.out.set 4 _) (fun W5 hC5 => ?_)
              clear HM HO HC4 HC5 hb5 hb6 hS5 hS6 c3 c3' f3 c4 f4 HC3
              obtain ⟨k, hk⟩ : ∃ k : Int, 255 - z = k := ⟨_, rfl⟩
              rw [hk] at hC5
              try rw [hk]
              have HC5 := hid hC5
              have HKK : Hid (255 - (x.toNat : Int) = k) := by have := HD0.out.2.2.1; unfold Hid; omega
              clear hC5 hk hz0 hz1
              have g4 : W5.cell? ⟨cb, 4, none⟩ = some (.int .i64 k) := HC5.out.cell 4
              by_cases k4 : k = 4
              · have HE : Hid (NoCell l) := HTK.out.noKind HD0.out.1 (by rw [HKK.out]; simpa using k4)
                subst k4
                go_wp2_with (go_at_call 117; refine (want_no _ _).mono ?_; rintro e w9 ⟨rfl, rfl⟩)
                refine ⟨rfl, ?_⟩
                exact ⟨HC5.out.but, .inr ⟨HE.out, rfl⟩⟩
              · have HD : Hid (l3.drop 8 = x :: V ∧ T = 9223372036854775807 - (foldB (l3.take 8) : Int) ∧ 255 - (x.toNat : Int) = k ∧ 8 ≤ l3.length ∧ false = decide (255 - (x.toNat : Int) = 4)) := ⟨HD0.out.1, HD0.out.2.1.symm, HKK.out, HD0.out.2.2.2, by rw [HKK.out]; simpa using k4⟩
                have q4 : (k == 4) = false := by simpa using k4
                by_cases k1 : k = 1
                · subst k1
                  have hst := HC5.out.st
                  obtain ⟨⟨v, hv, A, c, rfl, hs2, hs3, hs4⟩, hs5, hs6⟩ := hst
                  have hVl : V.length ≤ 100000 := by have := congrArg List.length HD.out.1; simp at this; have := HSZ.out.2.2; omega
                  have HV : Hid (∀ W', Below rb w W' → HoldsA W' A V → Calls Tryd.prog 118 #[.slice A V.length c] W' fun e w' => e = vdecEnd V ∧ Below W'.heap.size W' w') := fun W' hW' hA => vdecode_any V hVl A c hs2 W' hA (HL.out W' hW')
                  have HA : Hid (HoldsA W5 A V) := fun h0 => by
                    obtain ⟨b, off, e1, e2, e3⟩ := hs4 h0
                    exact ⟨b, off, e1, e3⟩
                  have HBW : Hid (Below rb w W5) := (HC5.out.but.low HLT.out)
                  clear hs2 hs3 hs4 hs5 hs6 hVl
                  rcases vdec_cases V with ⟨vk, vn, vs, hi, hvr, hvl, hve, hvd⟩ | hvd
                  · rw [hvd] at HV
                    unfold valEnd at HV
                    have HQ := hid (And.intro hi (And.intro hvr (And.intro hve (And.intro hvd hvl))))
                    clear hi hvr hve hvd hvl
                    go_upto_region 13 with (first
                      | (go_at_call 118; refine (HV.out _ HBW.out HA.out).mono ?_; rintro e w6 ⟨rfl, hb6⟩; have HC6 := hid (HC5.out.below hb6); have c5 : w6.cell? ⟨cb, 5, none⟩ = some (.int .i64 0) := HC6.out.cell 5; have c6 : w6.cell? ⟨cb, 6, none⟩ = some (.int .i64 0) := HC6.out.cell 6; have c7 : w6.cell? ⟨cb, 7, none⟩ = some (.string ⟨#[]⟩) := HC6.out.cell 7; have cf : ∀ j, w6.frozen? ⟨cb, j, none⟩ = false := (fun j => HC6.out.c.free j); have hcl : cb < w6.heap.size := HC6.out.c.lt)
                      | (go_at_call 117; ((with_reducible refine (want_yes _ _).mono ?_); rintro e w9 ⟨rfl, rfl⟩)))
                    refine wp_ltr (fun W => CSt w W rb cb #[.string ⟨r.toArray⟩, .string ⟨f.toArray⟩, .string ⟨q.toArray⟩, .int .i64 T, .int .i64 1, .int .i64 vk, .int .i64 vn, .string ⟨vs.toArray⟩] V) ((((HC6.out.set 5 (.int .i64 vk)).set 6 (.int .i64 vn)).set 7 (.string ⟨vs.toArray⟩)).below (below_new _ _)) (fun W7 hC7 => ?_)
                    have HCw := hid hC7
                    clear hC7 c5 c6 c7 cf hcl HC6 HV HA hb6 HBW g4 hv
                    have HR : Hid (∀ W', Below rb w W' → Calls Tryd.prog 61 #[cellV ⟨r.toArray⟩ ⟨f.toArray⟩ ⟨q.toArray⟩ T 1 vk vn ⟨vs.toArray⟩] W' fun e w' => e = .returned (.bool (cRight r f q T 1 vk vn vs)) ∧ Below W'.heap.size W' w') :=
                      fun W' hW' => cright_any ⟨r.toArray⟩ ⟨f.toArray⟩ ⟨q.toArray⟩ ⟨vs.toArray⟩ T 1 vk (vn := vn) HQ.out.1 (by rw [mk_size]; exact HSZ.out.2.1) (by rw [mk_size]; have := HQ.out.2.2.2.2; omega) W' (HL.out W' hW')
                    have HBW : Hid (Below rb w W7) := (HCw.out.but.low HLT.out)
                    have g0 : W7.cell? ⟨cb, 0, none⟩ = some (.string ⟨r.toArray⟩) := HCw.out.cell 0
                    have g1 : W7.cell? ⟨cb, 1, none⟩ = some (.string ⟨f.toArray⟩) := HCw.out.cell 1
                    have g2 : W7.cell? ⟨cb, 2, none⟩ = some (.string ⟨q.toArray⟩) := HCw.out.cell 2
                    have g3 : W7.cell? ⟨cb, 3, none⟩ = some (.int .i64 T) := HCw.out.cell 3
                    have g4 : W7.cell? ⟨cb, 4, none⟩ = some (.int .i64 1) := HCw.out.cell 4
                    have g5 : W7.cell? ⟨cb, 5, none⟩ = some (.int .i64 vk) := HCw.out.cell 5
                    have g6 : W7.cell? ⟨cb, 6, none⟩ = some (.int .i64 vn) := HCw.out.cell 6
                    have g7 : W7.cell? ⟨cb, 7, none⟩ = some (.string ⟨vs.toArray⟩) := HCw.out.cell 7
                    cases hr : cRight r f q T 1 vk vn vs with
                    | false =>
                      rw [hr] at HR
                      have HE : Hid (NoCell l) := HTK.out.noRightV HD.out.1 HD.out.2.2.1 HQ.out.2.2.2.1 (by rw [← HD.out.2.1]; exact hr)
                      clear hr
                      go_wp2_with (first
                        | (go_at_call 61; refine (HR.out _ HBW.out).mono ?_; rintro e w8 ⟨rfl, hb8⟩)
                        | (go_at_call 117; refine (want_no _ _).mono ?_; rintro e w9 ⟨rfl, rfl⟩))
                      refine ⟨rfl, ?_⟩
                      exact ⟨(HCw.out.below hb8).but, .inr ⟨HE.out, rfl⟩⟩
                    | true =>
                      rw [hr] at HR
                      have HE : Hid (cRight r f q T 1 vk vn vs = true ∧ inI vn ∧ cEnc r f q T 1 vk vn vs = l) := ⟨hr, HQ.out.1, by have := HTK.out.enc HD.out.2.2.2.1 HD.out.1 HD.out.2.2.2.2 (vk := vk) (vn := vn) (vs := vs) (by unfold vPart; rw [if_pos HD.out.2.2.1]; exact HQ.out.2.2.1); rwa [← HD.out.2.1, HD.out.2.2.1] at this⟩
                      clear hr
                      go_upto_region 14 with (first
                        | (go_at_call 61; refine (HR.out _ HBW.out).mono ?_; rintro e w8 ⟨rfl, hb8⟩)
                        | (go_at_call 117; refine (want_yes _ _).mono ?_; rintro e w9 ⟨rfl, rfl⟩))
                      have HC8 := hid (HCw.out.below hb8)
                      clear g0 g1 g2 g3 g4 g5 g6 g7
                      have g0 : w8.cell? ⟨cb, 0, none⟩ = some (.string ⟨r.toArray⟩) := HC8.out.cell 0
                      have g1 : w8.cell? ⟨cb, 1, none⟩ = some (.string ⟨f.toArray⟩) := HC8.out.cell 1
                      have g2 : w8.cell? ⟨cb, 2, none⟩ = some (.string ⟨q.toArray⟩) := HC8.out.cell 2
                      have g3 : w8.cell? ⟨cb, 3, none⟩ = some (.int .i64 T) := HC8.out.cell 3
                      have g4 : w8.cell? ⟨cb, 4, none⟩ = some (.int .i64 1) := HC8.out.cell 4
                      have g5 : w8.cell? ⟨cb, 5, none⟩ = some (.int .i64 vk) := HC8.out.cell 5
                      have g6 : w8.cell? ⟨cb, 6, none⟩ = some (.int .i64 vn) := HC8.out.cell 6
                      have g7 : w8.cell? ⟨cb, 7, none⟩ = some (.string ⟨vs.toArray⟩) := HC8.out.cell 7
                      have z0 : w8.cell? ⟨w.heap.size, 0, none⟩ = some (.string ⟨#[]⟩) := HC8.out.z.cell 0
                      have z1 : w8.cell? ⟨w.heap.size, 1, none⟩ = some (.string ⟨#[]⟩) := HC8.out.z.cell 1
                      have z2 : w8.cell? ⟨w.heap.size, 2, none⟩ = some (.string ⟨#[]⟩) := HC8.out.z.cell 2
                      have z3 : w8.cell? ⟨w.heap.size, 3, none⟩ = some (.int .i64 0) := HC8.out.z.cell 3
                      have z4 : w8.cell? ⟨w.heap.size, 4, none⟩ = some (.int .i64 0) := HC8.out.z.cell 4
                      have z5 : w8.cell? ⟨w.heap.size, 5, none⟩ = some (.int .i64 0) := HC8.out.z.cell 5
                      have z6 : w8.cell? ⟨w.heap.size, 6, none⟩ = some (.int .i64 0) := HC8.out.z.cell 6
                      have z7 : w8.cell? ⟨w.heap.size, 7, none⟩ = some (.string ⟨#[]⟩) := HC8.out.z.cell 7
                      have zf : ∀ j, w8.frozen? ⟨w.heap.size, j, none⟩ = false := fun j => HC8.out.z.free j
                      have hneq : cb ≠ w.heap.size := by have := HC8.out.lt; omega
                      go_wp2
                      refine bodyPost_ret (v := cellV ⟨r.toArray⟩ ⟨f.toArray⟩ ⟨q.toArray⟩ T 1 vk vn ⟨vs.toArray⟩) (by simp [results, Tryd.results64, go_sem, cell_set_same, z0, z1, z2, z3, z4, z5, z6, z7]) rfl ?_
                      refine ⟨?_, .inl ⟨r, f, q, T, 1, vk, vn, vs, HE.out.1, HE.out.2.1, HE.out.2.2, rfl⟩⟩
                      have hB := HC8.out.but
                      exact (((((((hB.setO (Nat.le_refl _) _ _).setO (Nat.le_refl _) _ _).setO (Nat.le_refl _) _ _).setO (Nat.le_refl _) _ _).setO (Nat.le_refl _) _ _).setO (Nat.le_refl _) _ _).setO (Nat.le_refl _) _ _).setO (Nat.le_refl _) _ _
                  · have HE : Hid (NoCell l) := HTK.out.noVal HD.out.1 HD.out.2.2.1 hvd
                    rw [hvd] at HV
                    unfold noEnd at HV
                    clear hvd
                    go_wp2_with (first
                      | (go_at_call 118; refine (HV.out _ HBW.out HA.out).mono ?_; rintro e w6 ⟨rfl, hb6⟩; have HC6 := hid (HC5.out.below hb6))
                      | (go_at_call 117; ((with_reducible refine (want_yes _ _).mono ?_); rintro e w9 ⟨rfl, rfl⟩))
                      | (go_at_call 117; ((with_reducible refine (want_no _ _).mono ?_); rintro e w9 ⟨rfl, rfl⟩)))
                    refine ⟨rfl, ?_⟩
                    exact ⟨(HC6.out.below (below_new _ _)).but, .inr ⟨HE.out, rfl⟩⟩
                · have q1 : (k == 1) = false := by simpa using k1
                  have K1 := hid k1
                  clear k1
                  cases V with
                  | cons y V =>
                    have HE : Hid (NoCell l) := HTK.out.noRest HD.out.1 (by rw [HD.out.2.2.1]; exact K1.out) (by simp)
                    have hst := HC5.out.st
                    obtain ⟨⟨v, hv, A, c, rfl, hs2, hs3, hs4⟩, hs5, hs6⟩ := hst
                    have hv : W5.cell? ⟨rb, 0, none⟩ = some (.slice A (V.length + 1) c) := hv
                    have q9 : ((V.length : Int) + 1 == 0) = false := by simp; omega
                    clear hs2 hs3 hs4 hs5 hs6
                    go_wp2_with (first
                      | (go_at_call 117; ((with_reducible refine (want_yes _ _).mono ?_); rintro e w9 ⟨rfl, rfl⟩))
                      | (go_at_call 117; ((with_reducible refine (want_no _ _).mono ?_); rintro e w9 ⟨rfl, rfl⟩)))
                    refine ⟨rfl, ?_⟩
                    exact ⟨HC5.out.but, .inr ⟨HE.out, rfl⟩⟩
                  | nil =>
                    have hst := HC5.out.st
                    obtain ⟨⟨v, hv, A, c, rfl, hs2, hs3, hs4⟩, hs5, hs6⟩ := hst
                    have hv : W5.cell? ⟨rb, 0, none⟩ = some (.slice A 0 c) := hv
                    clear hs2 hs3 hs4 hs5 hs6
                    go_upto_region 13 with (first
                      | (go_at_call 117; ((with_reducible refine (want_yes _ _).mono ?_); rintro e w9 ⟨rfl, rfl⟩)))
                    clear hv k4
                    have HCw := HC5
                    have HR : Hid (∀ W', Below rb w W' → Calls Tryd.prog 61 #[cellV ⟨r.toArray⟩ ⟨f.toArray⟩ ⟨q.toArray⟩ T k 0 0 ⟨#[]⟩] W' fun e w' => e = .returned (.bool (cRight r f q T k 0 0 [])) ∧ Below W'.heap.size W' w') :=
                      fun W' hW' => cright_any ⟨r.toArray⟩ ⟨f.toArray⟩ ⟨q.toArray⟩ ⟨#[]⟩ T k 0 (vn := 0) (by unfold inI; omega) (by rw [mk_size]; exact HSZ.out.2.1) (by decide) W' (HL.out W' hW')
                    have HBW : Hid (Below rb w W5) := (HCw.out.but.low HLT.out)
                    have g0 : W5.cell? ⟨cb, 0, none⟩ = some (.string ⟨r.toArray⟩) := HCw.out.cell 0
                    have g1 : W5.cell? ⟨cb, 1, none⟩ = some (.string ⟨f.toArray⟩) := HCw.out.cell 1
                    have g2 : W5.cell? ⟨cb, 2, none⟩ = some (.string ⟨q.toArray⟩) := HCw.out.cell 2
                    have g3 : W5.cell? ⟨cb, 3, none⟩ = some (.int .i64 T) := HCw.out.cell 3
                    have g4 : W5.cell? ⟨cb, 4, none⟩ = some (.int .i64 k) := HCw.out.cell 4
                    have g5 : W5.cell? ⟨cb, 5, none⟩ = some (.int .i64 0) := HCw.out.cell 5
                    have g6 : W5.cell? ⟨cb, 6, none⟩ = some (.int .i64 0) := HCw.out.cell 6
                    have g7 : W5.cell? ⟨cb, 7, none⟩ = some (.string ⟨#[]⟩) := HCw.out.cell 7
                    cases hr : cRight r f q T k 0 0 [] with
                    | false =>
                      rw [hr] at HR
                      have HE : Hid (NoCell l) := HTK.out.noRight HD.out.1 (by rw [HD.out.2.2.1]; exact K1.out) (by rw [← HD.out.2.1, HD.out.2.2.1]; exact hr)
                      clear hr
                      go_wp2_with (first
                        | (go_at_call 61; refine (HR.out _ HBW.out).mono ?_; rintro e w8 ⟨rfl, hb8⟩)
                        | (go_at_call 117; refine (want_no _ _).mono ?_; rintro e w9 ⟨rfl, rfl⟩))
                      refine ⟨rfl, ?_⟩
                      exact ⟨(HCw.out.below hb8).but, .inr ⟨HE.out, rfl⟩⟩
                    | true =>
                      rw [hr] at HR
                      have HE : Hid (cRight r f q T k 0 0 [] = true ∧ inI 0 ∧ cEnc r f q T k 0 0 [] = l) := ⟨hr, (by unfold inI; omega), by have := HTK.out.enc HD.out.2.2.2.1 HD.out.1 HD.out.2.2.2.2 (vk := 0) (vn := 0) (vs := []) (by unfold vPart; rw [if_neg (by rw [HD.out.2.2.1]; exact K1.out)]); rwa [← HD.out.2.1, HD.out.2.2.1] at this⟩
                      clear hr
                      go_upto_region 14 with (first
                        | (go_at_call 61; refine (HR.out _ HBW.out).mono ?_; rintro e w8 ⟨rfl, hb8⟩)
                        | (go_at_call 117; refine (want_yes _ _).mono ?_; rintro e w9 ⟨rfl, rfl⟩))
                      have HC8 := hid (HCw.out.below hb8)
                      clear g0 g1 g2 g3 g4 g5 g6 g7
                      have g0 : w8.cell? ⟨cb, 0, none⟩ = some (.string ⟨r.toArray⟩) := HC8.out.cell 0
                      have g1 : w8.cell? ⟨cb, 1, none⟩ = some (.string ⟨f.toArray⟩) := HC8.out.cell 1
                      have g2 : w8.cell? ⟨cb, 2, none⟩ = some (.string ⟨q.toArray⟩) := HC8.out.cell 2
                      have g3 : w8.cell? ⟨cb, 3, none⟩ = some (.int .i64 T) := HC8.out.cell 3
                      have g4 : w8.cell? ⟨cb, 4, none⟩ = some (.int .i64 k) := HC8.out.cell 4
                      have g5 : w8.cell? ⟨cb, 5, none⟩ = some (.int .i64 0) := HC8.out.cell 5
                      have g6 : w8.cell? ⟨cb, 6, none⟩ = some (.int .i64 0) := HC8.out.cell 6
                      have g7 : w8.cell? ⟨cb, 7, none⟩ = some (.string ⟨#[]⟩) := HC8.out.cell 7
                      have z0 : w8.cell? ⟨w.heap.size, 0, none⟩ = some (.string ⟨#[]⟩) := HC8.out.z.cell 0
                      have z1 : w8.cell? ⟨w.heap.size, 1, none⟩ = some (.string ⟨#[]⟩) := HC8.out.z.cell 1
                      have z2 : w8.cell? ⟨w.heap.size, 2, none⟩ = some (.string ⟨#[]⟩) := HC8.out.z.cell 2
                      have z3 : w8.cell? ⟨w.heap.size, 3, none⟩ = some (.int .i64 0) := HC8.out.z.cell 3
                      have z4 : w8.cell? ⟨w.heap.size, 4, none⟩ = some (.int .i64 0) := HC8.out.z.cell 4
                      have z5 : w8.cell? ⟨w.heap.size, 5, none⟩ = some (.int .i64 0) := HC8.out.z.cell 5
                      have z6 : w8.cell? ⟨w.heap.size, 6, none⟩ = some (.int .i64 0) := HC8.out.z.cell 6
                      have z7 : w8.cell? ⟨w.heap.size, 7, none⟩ = some (.string ⟨#[]⟩) := HC8.out.z.cell 7
                      have zf : ∀ j, w8.frozen? ⟨w.heap.size, j, none⟩ = false := fun j => HC8.out.z.free j
                      have hneq : cb ≠ w.heap.size := by have := HC8.out.lt; omega
                      go_wp2
                      refine bodyPost_ret (v := cellV ⟨r.toArray⟩ ⟨f.toArray⟩ ⟨q.toArray⟩ T k 0 0 ⟨#[]⟩) (by simp [results, Tryd.results64, go_sem, cell_set_same, z0, z1, z2, z3, z4, z5, z6, z7]) rfl ?_
                      refine ⟨?_, .inl ⟨r, f, q, T, k, 0, 0, [], HE.out.1, HE.out.2.1, HE.out.2.2, rfl⟩⟩
                      have hB := HC8.out.but
                      exact (((((((hB.setO (Nat.le_refl _) _ _).setO (Nat.le_refl _) _ _).setO (Nat.le_refl _) _ _).setO (Nat.le_refl _) _ _).setO (Nat.le_refl _) _ _).setO (Nat.le_refl _) _ _).setO (Nat.le_refl _) _ _).setO (Nat.le_refl _) _ _
          · have HM : Hid (∀ W, St W rb l3 → Calls Tryd.prog 115 #[.pointer (some ⟨rb, 0, none⟩)] W fun e w' => But W.heap.size rb W w' ∧ e = otherP) := fun W hW => by
              refine (rtime_any rb l3 W hW).mono fun e w' h => ?_
              unfold TmEnd at h
              rw [if_neg h8] at h
              exact h
            have HE := hid (HTK.out.no8 h8)
            clear h8
            go_wp2_with (go_at_call 115; refine (HM.out _ HC3.out.st).mono ?_; rintro e w5 ⟨hb5, rfl⟩)
            refine ⟨rfl, ?_⟩
            exact ⟨HC3.out.but.trans (hb5.mono HC3.out.but.size), .inr ⟨HE.out, rfl⟩⟩
end Go.Proofs.YtfcnobcpnhfgmaaDoor

/- codec.Decode at any bytes: the cell whose bytes they are, or none. Conditions: the slice holds the bytes, four thousand at most; the tables of utf8 read as they are laid. -/
namespace Go.Proofs.YtfcnobcpnhfgmaaDoor
open Go.RowKit

/-- What Decode's closure leaves. -/
def DClo (rb : Nat) (l : List UInt8) (w : World) (e : Ending) (w' : World) : Prop :=
  Below rb w w' ∧ ((∃ (r f q : List UInt8) (t k vk vn : Int) (vs : List UInt8), cRight r f q t k vk vn vs = true ∧ inI vn ∧ cEnc r f q t k vk vn vs = l ∧ e = .returned (.tuple #[]) ∧ Blk w' (rb + 1) 40 #[.string ⟨r.toArray⟩, .string ⟨f.toArray⟩, .string ⟨q.toArray⟩, .int .i64 t, .int .i64 k, .int .i64 vk, .int .i64 vn, .string ⟨vs.toArray⟩]) ∨ (NoCell l ∧ e = otherP ∧ Blk w' (rb + 1) 40 zeroA))

set_option maxRecDepth 100000 in
set_option maxHeartbeats 2000000 in
theorem decclo_any (rb : Nat) (l : List UInt8) (hl : l.length ≤ 100000) (w : World) (h : St w rb l) (hc : Blk w (rb + 1) 40 zeroA) (hL : ∀ W, Below rb w W → LaidU W) :
    Calls Tryd.prog 63 #[.pointer (some ⟨rb, 0, none⟩), .pointer (some ⟨rb + 1, 0, none⟩)] w (DClo rb l w) := by
  have hlt := h.2.2
  have hc1 := hc.lt
  have HX : Hid (∀ e w', CellEnd rb l w e w' → Below rb w w' ∧ Blk w' (rb + 1) 40 zeroA) := fun e w' h => ⟨(h.1.mono (Nat.le_of_lt hlt)).below (Nat.le_refl _), hc.but h.1 (by omega)⟩
  have HN : Calls Tryd.prog 64 #[.pointer (some ⟨rb, 0, none⟩)] w (CellEnd rb l w) := rcell_any rb l hl w h hL
  by_cases hno : NoCell l
  · have HN := hid (HN.mono fun e w' h => (show e = otherP ∧ Below rb w w' ∧ Blk w' (rb + 1) 40 zeroA from by
      obtain ⟨a, b⟩ := HX.out e w' h
      rcases h.2 with ⟨r, f, q, t, k, vk, vn, vs, h1, h2, h3, _⟩ | ⟨_, h1⟩
      · exact absurd h3 (hno _ _ _ _ _ _ _ _ h1 h2)
      · exact ⟨h1, a, b⟩))
    have HE := hid hno
    clear h hc hL hlt hc1 HX hno
    go_enter Tryd.func63, Tryd.ntmps63
    go_wp2_with (go_at_call 64; refine HN.out.mono ?_; rintro e w1 ⟨rfl, hb, hB⟩)
    refine ⟨rfl, ?_⟩
    exact ⟨hb, .inr ⟨HE.out, rfl, hB⟩⟩
  · have HN := hid (HN.mono fun e w' h => (show ∃ (r f q : List UInt8) (t k vk vn : Int) (vs : List UInt8), Hid (cRight r f q t k vk vn vs = true ∧ inI vn ∧ cEnc r f q t k vk vn vs = l) ∧ e = .returned (cellV ⟨r.toArray⟩ ⟨f.toArray⟩ ⟨q.toArray⟩ t k vk vn ⟨vs.toArray⟩) ∧ Below rb w w' ∧ Blk w' (rb + 1) 40 zeroA from by
      obtain ⟨a, b⟩ := HX.out e w' h
      rcases h.2 with ⟨r, f, q, t, k, vk, vn, vs, h1, h2, h3, h4⟩ | ⟨h0, _⟩
      · exact ⟨r, f, q, t, k, vk, vn, vs, ⟨h1, h2, h3⟩, h4, a, b⟩
      · exact absurd h0 hno))
    clear h hc hL hlt hc1 HX hno
    go_enter Tryd.func63, Tryd.ntmps63
    go_wp2_with (go_at_call 64; refine HN.out.mono ?_; rintro e w1 ⟨r, f, q, t, k, vk, vn, vs, HQ, rfl, hb, hB⟩; have HB := hid hB; have z0 : w1.cell? ⟨rb + 1, 0, none⟩ = some (.string ⟨#[]⟩) := hB.cell 0; have z1 : w1.cell? ⟨rb + 1, 1, none⟩ = some (.string ⟨#[]⟩) := hB.cell 1; have z2 : w1.cell? ⟨rb + 1, 2, none⟩ = some (.string ⟨#[]⟩) := hB.cell 2; have z3 : w1.cell? ⟨rb + 1, 3, none⟩ = some (.int .i64 0) := hB.cell 3; have z4 : w1.cell? ⟨rb + 1, 4, none⟩ = some (.int .i64 0) := hB.cell 4; have z5 : w1.cell? ⟨rb + 1, 5, none⟩ = some (.int .i64 0) := hB.cell 5; have z6 : w1.cell? ⟨rb + 1, 6, none⟩ = some (.int .i64 0) := hB.cell 6; have z7 : w1.cell? ⟨rb + 1, 7, none⟩ = some (.string ⟨#[]⟩) := hB.cell 7; have zf : ∀ j, w1.frozen? ⟨rb + 1, j, none⟩ = false := (fun j => hB.free j); clear hB)
    go_end0
    have hr1 : rb ≤ rb + 1 := by omega
    refine ⟨(((((((hb.setCell (p := ⟨rb + 1, 0, none⟩) hr1 _).setCell (p := ⟨rb + 1, 1, none⟩) hr1 _).setCell (p := ⟨rb + 1, 2, none⟩) hr1 _).setCell (p := ⟨rb + 1, 3, none⟩) hr1 _).setCell (p := ⟨rb + 1, 4, none⟩) hr1 _).setCell (p := ⟨rb + 1, 5, none⟩) hr1 _).setCell (p := ⟨rb + 1, 6, none⟩) hr1 _).setCell (p := ⟨rb + 1, 7, none⟩) hr1 _, .inl ⟨r, f, q, t, k, vk, vn, vs, HQ.out.1, HQ.out.2.1, HQ.out.2.2, rfl, ?_⟩⟩
    exact (((((((HB.out.set 0 (.string ⟨r.toArray⟩)).set 1 (.string ⟨f.toArray⟩)).set 2 (.string ⟨q.toArray⟩)).set 3 (.int .i64 t)).set 4 (.int .i64 k)).set 5 (.int .i64 vk)).set 6 (.int .i64 vn)).set 7 (.string ⟨vs.toArray⟩)

set_option maxHeartbeats 1000000 in
/-- holds over Decode's closure: it ended. -/
theorem holdsD_yes (rb : Nat) (w : World) (Q : World → Prop) (H : Calls Tryd.prog 63 #[.pointer (some ⟨rb, 0, none⟩), .pointer (some ⟨rb + 1, 0, none⟩)] w fun e w' => e = .returned (.tuple #[]) ∧ Q w') :
    Calls Tryd.prog 62 #[.func (.func 63) #[] #[.pointer (some ⟨rb, 0, none⟩), .pointer (some ⟨rb + 1, 0, none⟩)]] w fun e w' => e = .returned (.bool true) ∧ Q w' := by
  have H := hid H
  go_enter_defers Tryd.func62, Tryd.ntmps62
  go_wp2_with (go_at_call 63; refine H.out.mono ?_; rintro e w1 ⟨rfl, hQ⟩)
  refine leaves_cons (f := 112) (args := #[]) (by simp) (by simp [go_sem]) ?_
  refine (catch_none _).mono ?_
  rintro e u' w2 ⟨rfl, rfl, rfl⟩
  simp only [Leaves, settle, results, Tryd.results62, go_sem]
  simp
  exact hQ

set_option maxHeartbeats 1000000 in
/-- holds over Decode's closure: it met something else. -/
theorem holdsD_no (rb : Nat) (w : World) (Q : World → Prop) (hQ : ∀ w1 w2, Q w1 → Below w1.heap.size w1 w2 → Q w2) (H : Calls Tryd.prog 63 #[.pointer (some ⟨rb, 0, none⟩), .pointer (some ⟨rb + 1, 0, none⟩)] w fun e w' => e = otherP ∧ Q w') :
    Calls Tryd.prog 62 #[.func (.func 63) #[] #[.pointer (some ⟨rb, 0, none⟩), .pointer (some ⟨rb + 1, 0, none⟩)]] w fun e w' => e = .returned (.bool false) ∧ Q w' := by
  have H := hid H
  have HQ := hid hQ
  clear hQ
  go_enter_defers Tryd.func62, Tryd.ntmps62
  go_wp2_with (go_at_call 63; refine H.out.mono ?_; rintro e w1 ⟨rfl, hq⟩)
  refine leaves_cons (f := 112) (args := #[]) (by simp) (by simp [go_sem]) ?_
  refine (catch_other [] _).mono ?_
  rintro e u' w2 ⟨rfl, rfl, hb2⟩
  simp [Leaves, settle, results, Tryd.results62, go_sem]
  exact HQ.out _ _ hq hb2

/-- What Decode answers. -/
def DEnd (l : List UInt8) (w : World) (e : Ending) (w' : World) : Prop :=
  Below w.heap.size w w' ∧ ((∃ (r f q : List UInt8) (t k vk vn : Int) (vs : List UInt8), cRight r f q t k vk vn vs = true ∧ inI vn ∧ cEnc r f q t k vk vn vs = l ∧ e = .returned (.tuple #[cellV ⟨r.toArray⟩ ⟨f.toArray⟩ ⟨q.toArray⟩ t k vk vn ⟨vs.toArray⟩, .bool true])) ∨ (NoCell l ∧ e = .returned (.tuple #[cellV ⟨#[]⟩ ⟨#[]⟩ ⟨#[]⟩ 0 0 0 0 ⟨#[]⟩, .bool false])))

set_option maxRecDepth 100000 in
set_option maxHeartbeats 2000000 in
theorem decode_walk (A : Option Addr) (m c : Nat) (w : World) (ok : Bool) (r f q vs : ByteArray) (t k vk vn : Int)
    (HH : Calls Tryd.prog 62 #[.func (.func 63) #[] #[.pointer (some ⟨w.heap.size + 1, 0, none⟩), .pointer (some ⟨w.heap.size + 2, 0, none⟩)]] (((w.alloc (.cells zeroA 40)).alloc (.cells #[.slice A m c] 83)).alloc (.cells zeroA 40)) fun e w' => e = .returned (.bool ok) ∧ Below (w.heap.size + 1) (((w.alloc (.cells zeroA 40)).alloc (.cells #[.slice A m c] 83)).alloc (.cells zeroA 40)) w' ∧ Blk w' (w.heap.size + 2) 40 #[.string r, .string f, .string q, .int .i64 t, .int .i64 k, .int .i64 vk, .int .i64 vn, .string vs]) :
    Calls Tryd.prog 22 #[.slice A m c] w fun e w' => e = .returned (.tuple #[cellV r f q t k vk vn vs, .bool ok]) ∧ Below w.heap.size w w' := by
  have hmf : ∀ (fn : Fn) (first cap : Array Value) (w : World), (Instr.makeFunc fn first cap).run Tryd.prog w = .ok (.func fn first cap) w := fun _ _ _ _ => rfl
  have HZ : Hid (∀ w', Below (w.heap.size + 1) (((w.alloc (.cells zeroA 40)).alloc (.cells #[.slice A m c] 83)).alloc (.cells zeroA 40)) w' → Blk w' w.heap.size 40 zeroA) := fun w' h => (((Blk.new w _ _).keep (below_new _ (.cells #[.slice A m c] 83)) (by simp)).keep (below_new _ (.cells zeroA 40)) (by simp; omega)).keep h (by omega)
  have HH := hid HH
  go_enter Tryd.func22, Tryd.ntmps22
  go_wp2_with (go_at_call 62; refine HH.out.mono ?_; rintro e w1 ⟨rfl, hb, hB⟩; have hZ := HZ.out w1 hb; have HB := hid hb; have z0 : w1.cell? ⟨w.heap.size + 2, 0, none⟩ = some (.string r) := hB.cell 0; have z1 : w1.cell? ⟨w.heap.size + 2, 1, none⟩ = some (.string f) := hB.cell 1; have z2 : w1.cell? ⟨w.heap.size + 2, 2, none⟩ = some (.string q) := hB.cell 2; have z3 : w1.cell? ⟨w.heap.size + 2, 3, none⟩ = some (.int .i64 t) := hB.cell 3; have z4 : w1.cell? ⟨w.heap.size + 2, 4, none⟩ = some (.int .i64 k) := hB.cell 4; have z5 : w1.cell? ⟨w.heap.size + 2, 5, none⟩ = some (.int .i64 vk) := hB.cell 5; have z6 : w1.cell? ⟨w.heap.size + 2, 6, none⟩ = some (.int .i64 vn) := hB.cell 6; have z7 : w1.cell? ⟨w.heap.size + 2, 7, none⟩ = some (.string vs) := hB.cell 7; have r0 : w1.cell? ⟨w.heap.size, 0, none⟩ = some (.string ⟨#[]⟩) := hZ.cell 0; have r1 : w1.cell? ⟨w.heap.size, 1, none⟩ = some (.string ⟨#[]⟩) := hZ.cell 1; have r2 : w1.cell? ⟨w.heap.size, 2, none⟩ = some (.string ⟨#[]⟩) := hZ.cell 2; have r3 : w1.cell? ⟨w.heap.size, 3, none⟩ = some (.int .i64 0) := hZ.cell 3; have r4 : w1.cell? ⟨w.heap.size, 4, none⟩ = some (.int .i64 0) := hZ.cell 4; have r5 : w1.cell? ⟨w.heap.size, 5, none⟩ = some (.int .i64 0) := hZ.cell 5; have r6 : w1.cell? ⟨w.heap.size, 6, none⟩ = some (.int .i64 0) := hZ.cell 6; have r7 : w1.cell? ⟨w.heap.size, 7, none⟩ = some (.string ⟨#[]⟩) := hZ.cell 7; have zf : ∀ j, w1.frozen? ⟨w.heap.size, j, none⟩ = false := (fun j => hZ.free j); clear hB hZ hb)
  refine bodyPost_ret (v := .tuple #[cellV r f q t k vk vn vs, .bool ok]) (by simp [results, Tryd.results22, go_sem, cell_set_same, r0, r1, r2, r3, r4, r5, r6, r7]) rfl ?_
  refine ⟨rfl, ?_⟩
  have hb : Below w.heap.size w w1 := (((below_new w _).alloc (by simp) _).alloc (by simp; omega) _).trans (HB.out.mono (by omega))
  exact (((((((hb.setCell (p := ⟨w.heap.size, 0, none⟩) (Nat.le_refl _) _).setCell (p := ⟨w.heap.size, 1, none⟩) (Nat.le_refl _) _).setCell (p := ⟨w.heap.size, 2, none⟩) (Nat.le_refl _) _).setCell (p := ⟨w.heap.size, 3, none⟩) (Nat.le_refl _) _).setCell (p := ⟨w.heap.size, 4, none⟩) (Nat.le_refl _) _).setCell (p := ⟨w.heap.size, 5, none⟩) (Nat.le_refl _) _).setCell (p := ⟨w.heap.size, 6, none⟩) (Nat.le_refl _) _).setCell (p := ⟨w.heap.size, 7, none⟩) (Nat.le_refl _) _

theorem two_blocks (w : World) (A : Option Addr) (m c : Nat) : let W := (((w.alloc (.cells zeroA 40)).alloc (.cells #[.slice A m c] 83)).alloc (.cells zeroA 40))
    W.cell? ⟨w.heap.size + 1, 0, none⟩ = some (.slice A m c) ∧ W.frozen? ⟨w.heap.size + 1, 0, none⟩ = false ∧ Blk W (w.heap.size + 1 + 1) 40 zeroA ∧ W.heap.size = w.heap.size + 3 ∧ Below w.heap.size w W := by
  have b1 : Blk ((w.alloc (.cells zeroA 40)).alloc (.cells #[.slice A m c] 83)) (w.heap.size + 1) 83 #[.slice A m c] := by have := Blk.new (w.alloc (.cells zeroA 40)) 83 #[.slice A m c]; simpa using this
  have b2 : Blk (((w.alloc (.cells zeroA 40)).alloc (.cells #[.slice A m c] 83)).alloc (.cells zeroA 40)) (w.heap.size + 1 + 1) 40 zeroA := by have := Blk.new ((w.alloc (.cells zeroA 40)).alloc (.cells #[.slice A m c] 83)) 40 zeroA; simpa using this
  have b3 := b1.keep (below_new _ (.cells zeroA 40)) (by simp)
  exact ⟨b3.cell 0, b3.free 0, b2, by simp, ((below_new w _).alloc (by simp) _).alloc (by simp; omega) _⟩

theorem cdecode_any (A : Option Addr) (c : Nat) (l : List UInt8) (hl : l.length ≤ 100000) (hc : l.length ≤ c) (hc2 : c ≤ 9223372036854775807) (w : World) (h : HoldsA w A l) (hL : LaidU w) :
    Calls Tryd.prog 22 #[.slice A l.length c] w (DEnd l w) := by
  obtain ⟨h1, h2, h3, h4, h5⟩ := two_blocks w A l.length c
  obtain ⟨W, hW⟩ : ∃ W, (((w.alloc (.cells zeroA 40)).alloc (.cells #[.slice A l.length c] 83)).alloc (.cells zeroA 40)) = W := ⟨_, rfl⟩
  rw [hW] at h1 h2 h3 h4 h5
  have hS : St W (w.heap.size + 1) l := by
    refine ⟨⟨_, h1, A, c, rfl, hc, hc2, fun h0 => ?_⟩, h2, by rw [h4]; omega⟩
    obtain ⟨b, off, e1, e2⟩ := h h0
    exact ⟨b, off, e1, Nat.lt_succ_of_lt (e2.lt h0), e2.below h5 (e2.lt h0)⟩
  have H := decclo_any (w.heap.size + 1) l hl _ hS h3 (fun W' hW' => hL.below (h5.trans (hW'.mono (by omega))))
  by_cases hno : NoCell l
  · refine (decode_walk A l.length c w false ⟨#[]⟩ ⟨#[]⟩ ⟨#[]⟩ ⟨#[]⟩ 0 0 0 0 ?_).mono fun e w' ⟨he, hb⟩ => ⟨hb, .inr ⟨hno, he⟩⟩
    rw [hW]
    refine (holdsD_no (w.heap.size + 1) _ (fun w' => Below (w.heap.size + 1) W w' ∧ Blk w' (w.heap.size + 1 + 1) 40 zeroA) ?_ (H.mono fun e w' hx => ?_))
    · rintro w1 w2 ⟨a, b⟩ hb
      exact ⟨a.trans (hb.mono (Nat.le_of_lt (Nat.lt_of_succ_lt b.lt))), b.keep hb b.lt⟩
    · rcases hx.2 with ⟨r, f, q, t, k, vk, vn, vs, h1, h2, h3, _⟩ | ⟨_, h6, h7⟩
      · exact absurd h3 (hno _ _ _ _ _ _ _ _ h1 h2)
      · exact ⟨h6, hx.1, h7⟩
  · have hex : ∃ (r f q : List UInt8) (t k vk vn : Int) (vs : List UInt8), cRight r f q t k vk vn vs = true ∧ inI vn ∧ cEnc r f q t k vk vn vs = l := by
      unfold NoCell at hno
      false_or_by_contra
      rename_i hh
      exact hno fun r f q t k vk vn vs a b e => hh ⟨r, f, q, t, k, vk, vn, vs, a, b, e⟩
    obtain ⟨r, f, q, t, k, vk, vn, vs, g1, g2, g3⟩ := hex
    refine (decode_walk A l.length c w true ⟨r.toArray⟩ ⟨f.toArray⟩ ⟨q.toArray⟩ ⟨vs.toArray⟩ t k vk vn ?_).mono fun e w' ⟨he, hb⟩ => ⟨hb, .inl ⟨r, f, q, t, k, vk, vn, vs, g1, g2, g3, he⟩⟩
    rw [hW]
    refine (holdsD_yes (w.heap.size + 1) _ (fun w' => Below (w.heap.size + 1) W w' ∧ Blk w' (w.heap.size + 1 + 1) 40 #[.string ⟨r.toArray⟩, .string ⟨f.toArray⟩, .string ⟨q.toArray⟩, .int .i64 t, .int .i64 k, .int .i64 vk, .int .i64 vn, .string ⟨vs.toArray⟩]) (H.mono fun e w' hx => ?_))
    rcases hx.2 with ⟨r', f', q', t', k', vk', vn', vs', g1', g2', g3', h6, h7⟩ | ⟨h6, _⟩
    · obtain ⟨rfl, rfl, rfl, rfl, rfl, rfl, rfl, rfl⟩ := cEnc_one g1' g1 g2' g2 (g3'.trans g3.symm)
      exact ⟨h6, hx.1, h7⟩
    · exact absurd h6 hno
end Go.Proofs.YtfcnobcpnhfgmaaDoor

/- Numbers taken off bytes are what Num writes; how long two rows of bytes begin alike; a block's bytes. Conditions: as each theorem names them. -/
namespace Go.Proofs.YtfcnobcpnhfgmaaDoor

theorem tkGo_back (f : Nat) : ∀ i (l : List UInt8) n r, tkGo f i l = some (n, r) → l = numW n ++ r ∧ (n = 0 → i = 0) := by
  induction f with
  | zero => intro i l n r h; simp [tkGo] at h
  | succ f ih =>
    intro i l n r h
    cases l with
    | nil => simp [tkGo] at h
    | cons x t =>
      have hx := x.toNat_lt
      rw [tkGo] at h
      split at h
      · rename_i h1
        split at h
        · cases h
        · rename_i h2
          cases h
          refine ⟨?_, fun e => ?_⟩
          · rw [numW_small h1, UInt8.ofNat_toNat]
            rfl
          · false_or_by_contra
            exact h2 ⟨e, by assumption⟩
      · rename_i h1
        cases hm : tkGo f (i + 1) t with
        | none => rw [hm] at h; cases h
        | some p =>
          obtain ⟨m, s⟩ := p
          rw [hm] at h
          obtain ⟨h3, h4⟩ := ih _ _ _ _ hm
          simp only [Option.map_some, Option.some.injEq, Prod.mk.injEq] at h
          obtain ⟨hn, rfl⟩ := h
          have hm0 : m ≠ 0 := fun e => by have := h4 e; omega
          refine ⟨?_, fun e => by omega⟩
          rw [numW_big (by omega), show 128 + n % 128 = x.toNat by omega, show n / 128 = m by omega, UInt8.ofNat_toNat, h3]
          rfl
/-- What is taken off is what Num writes. -/
theorem tk_back {l r : List UInt8} {n : Nat} (h : tk l = some (n, r)) : l = numW n ++ r := (tkGo_back 9 0 l n r h).1
theorem tk_lt {l r : List UInt8} {n : Nat} (h : tk l = some (n, r)) : n < 9223372036854775808 := by
  obtain ⟨k, _, h2, _, _, h5⟩ := tkGo_rest 9 0 l n r h
  have : 128 ^ k ≤ 128 ^ 9 := Nat.pow_le_pow_right (by decide) h2
  have e : (128 : Nat) ^ 9 = 9223372036854775808 := by decide
  omega

/-- How long both begin alike. -/
def preL : List UInt8 → List UInt8 → Nat
  | a :: l, b :: m => if a = b then preL l m + 1 else 0
  | _, _ => 0
theorem preL_le : ∀ a b : List UInt8, preL a b ≤ a.length ∧ preL a b ≤ b.length
  | [], b => by simp [preL]
  | a :: l, [] => by simp [preL]
  | a :: l, b :: m => by
    have h := preL_le l m
    unfold preL
    split <;> simp only [List.length_cons] <;> omega
theorem preL_take : ∀ a b : List UInt8, a.take (preL a b) = b.take (preL a b)
  | [], b => by simp [preL]
  | a :: l, [] => by simp [preL]
  | a :: l, b :: m => by
    unfold preL
    split
    · rename_i h
      rw [List.take_succ_cons, List.take_succ_cons, h, preL_take l m]
    · rfl

/-- A cell's key, and its value's bytes. -/
def keyL (c : CT) : List UInt8 := keyM c.r.data.toList c.f.data.toList c.q.data.toList c.t c.k
def valL (c : CT) : List UInt8 := vEnc c.vk c.vn c.s.data.toList
def encB (c : CT) : List UInt8 := cEnc c.r.data.toList c.f.data.toList c.q.data.toList c.t c.k c.vk c.vn c.s.data.toList
theorem encB_is (c : CT) : encB c = keyL c ++ (if c.k = 1 then valL c else []) := rfl
/-- What is written of a cell, by the key ahead of it. -/
def oneB (a : List UInt8) (c : CT) : List UInt8 := numW (preL a (keyL c)) ++ (numW ((keyL c).length - preL a (keyL c)) ++ ((keyL c).drop (preL a (keyL c)) ++ (if c.k = 1 then numW (valL c).length ++ valL c else [])))
def restB : List UInt8 → List CT → List UInt8
  | _, [] => []
  | a, c :: l => oneB a c ++ restB (keyL c) l
/-- A block's bytes. -/
def blockB (l : List CT) : List UInt8 := numW l.length ++ restB [] l
/-- The cells are right, each one's key above the key ahead of it. -/
def fineK : List UInt8 → List CT → Bool
  | _, [] => true
  | a, c :: l => c.ok && (decide (Lib.compareBytes a (keyL c) < 0) && fineK (keyL c) l)

/-- A number of bytes, and these. -/
def cntT (l : List UInt8) : Option (List UInt8 × List UInt8) := match tk l with
  | none => none
  | some (n, r) => if n ≤ r.length then some (r.take n, r.drop n) else none
theorem cnt_yes {x r : List UInt8} (h : x.length < 9223372036854775808) : cntT (numW x.length ++ (x ++ r)) = some (x, r) := by
  unfold cntT
  rw [tk_num _ h]
  simp
theorem cnt_back {l x r : List UInt8} (h : cntT l = some (x, r)) : l = numW x.length ++ (x ++ r) := by
  unfold cntT at h
  cases ht : tk l with
  | none => rw [ht] at h; cases h
  | some p =>
    obtain ⟨n, s⟩ := p
    rw [ht] at h
    simp only at h
    split at h
    · rename_i hn
      cases h
      rw [tk_back ht, List.length_take, Nat.min_eq_left hn, List.take_append_drop]
    · cases h
/-- The next key, by the key ahead of it. -/
def keyT (a l : List UInt8) : Option (List UInt8 × List UInt8) := match tk l with
  | none => none
  | some (n, r) => match cntT r with
    | none => none
    | some (x, s) => if n ≤ a.length then (if preL a (a.take n ++ x) = n ∧ Lib.compareBytes a (a.take n ++ x) < 0 then some (a.take n ++ x, s) else none) else none
theorem keyT_yes {a k r : List UInt8} (hk : k.length < 9223372036854775808) (hlt : Lib.compareBytes a k < 0) : keyT a (numW (preL a k) ++ (numW (k.length - preL a k) ++ (k.drop (preL a k) ++ r))) = some (k, r) := by
  obtain ⟨h1, h2⟩ := preL_le a k
  have e : k.length - preL a k = (k.drop (preL a k)).length := by rw [List.length_drop]
  have e2 : a.take (preL a k) ++ k.drop (preL a k) = k := by rw [preL_take, List.take_append_drop]
  unfold keyT
  rw [tk_num _ (by omega)]
  simp only
  rw [e, cnt_yes (by rw [List.length_drop]; omega)]
  simp only
  rw [if_pos h1, e2, if_pos ⟨rfl, hlt⟩]
theorem keyT_back {a l k r : List UInt8} (h : keyT a l = some (k, r)) : Lib.compareBytes a k < 0 ∧ l = numW (preL a k) ++ (numW (k.length - preL a k) ++ (k.drop (preL a k) ++ r)) := by
  unfold keyT at h
  cases ht : tk l with
  | none => rw [ht] at h; cases h
  | some p =>
    obtain ⟨n, s⟩ := p
    rw [ht] at h
    simp only at h
    cases hc : cntT s with
    | none => rw [hc] at h; cases h
    | some q =>
      obtain ⟨x, t⟩ := q
      rw [hc] at h
      simp only at h
      split at h
      · rename_i hn
        split at h
        · rename_i hp
          cases h
          refine ⟨hp.2, ?_⟩
          rw [hp.1]
          have e1 : (a.take n).length = n := by rw [List.length_take]; omega
          have e2 : (a.take n ++ x).length - n = x.length := by rw [List.length_append, e1]; omega
          have e3 : (a.take n ++ x).drop n = x := by rw [List.drop_append_of_le_length (by omega), List.drop_of_length_le (by omega), List.nil_append]
          rw [e2, e3, tk_back ht, cnt_back hc]
        · cases h
      · cases h
end Go.Proofs.YtfcnobcpnhfgmaaDoor

/- Of bytes at most one row of right cells is read, and none of a beginning. Conditions: as each theorem names them. -/
namespace Go.Proofs.YtfcnobcpnhfgmaaDoor

/-- A cell that a block may hold. -/
def Bc (c : CT) : Prop := c.ok = true ∧ inI c.vn ∧ c.s.size ≤ 1000
theorem bc_small {c : CT} (h : Bc c) : (keyL c).length ≤ 3000 ∧ (valL c).length ≤ 3000 := by
  obtain ⟨_, h2, _, h4, h5, _⟩ := cright_parts h.1
  have h1 := esc_len c.r.data.toList
  have h3 := esc_len c.f.data.toList
  have h6 := esc_len c.q.data.toList
  have h7 := esc_len c.s.data.toList
  have e4 : c.s.data.toList.length = c.s.size := rfl
  have hs := h.2.2
  constructor
  · unfold keyL keyM midM
    split <;> (simp only [List.length_append, List.length_cons, List.length_nil, tail_len]; omega)
  · unfold valL vEnc vBody
    repeat' split
    all_goals (simp only [List.length_append, List.length_cons, List.length_nil, byW_len]; omega)
theorem keyL_last (c : CT) : (keyL c).getLast? = some (UInt8.ofNat (255 - c.k).toNat) := by
  unfold keyL keyM tailM
  simp only [← List.append_assoc]
  exact List.getLast?_concat
theorem key_kind {c d : CT} (hc : c.ok = true) (hd : d.ok = true) (h : keyL c = keyL d) : c.k = d.k := by
  obtain ⟨_, _, _, _, _, _, _, p1, p4, _⟩ := cright_parts hc
  obtain ⟨_, _, _, _, _, _, _, q1, q4, _⟩ := cright_parts hd
  have e := keyL_last c
  rw [h, keyL_last d] at e
  have e2 := congrArg UInt8.toNat (Option.some.inj e)
  rw [UInt8.toNat_ofNat', UInt8.toNat_ofNat'] at e2
  omega
theorem ct_ext {c d : CT} (h1 : c.r.data.toList = d.r.data.toList) (h2 : c.f.data.toList = d.f.data.toList) (h3 : c.q.data.toList = d.q.data.toList) (h4 : c.t = d.t) (h5 : c.k = d.k) (h6 : c.vk = d.vk) (h7 : c.vn = d.vn) (h8 : c.s.data.toList = d.s.data.toList) : c = d := by
  have ba : ∀ {x y : ByteArray}, x.data.toList = y.data.toList → x = y := fun {x y} h => by
    cases x; cases y
    exact congrArg ByteArray.mk (Array.toList_inj.1 h)
  cases c; cases d
  simp only at h1 h2 h3 h4 h5 h6 h7 h8
  rw [ba h1, ba h2, ba h3, ba h8, h4, h5, h6, h7]
theorem enc_one {c d : CT} (hc : Bc c) (hd : Bc d) (h : encB c = encB d) : c = d := by
  obtain ⟨e1, e2, e3, e4, e5, e6, e7, e8⟩ := cEnc_one hc.1 hd.1 hc.2.1 hd.2.1 h
  exact ct_ext e1 e2 e3 e4 e5 e6 e7 e8
/-- What stands behind the key. -/
def vpB (c : CT) : List UInt8 := if c.k = 1 then numW (valL c).length ++ valL c else []
theorem oneB_app (a : List UInt8) (c : CT) (r : List UInt8) : oneB a c ++ r = numW (preL a (keyL c)) ++ (numW ((keyL c).length - preL a (keyL c)) ++ ((keyL c).drop (preL a (keyL c)) ++ (vpB c ++ r))) := by
  unfold oneB vpB
  simp only [List.append_assoc]
theorem one_key {a r : List UInt8} {c : CT} (h : Bc c) (hlt : Lib.compareBytes a (keyL c) < 0) : keyT a (oneB a c ++ r) = some (keyL c, vpB c ++ r) := by
  rw [oneB_app]
  exact keyT_yes (by have := (bc_small h).1; omega) hlt
theorem one_one {a r s : List UInt8} {c d : CT} (hc : Bc c) (hd : Bc d) (h1 : Lib.compareBytes a (keyL c) < 0) (h2 : Lib.compareBytes a (keyL d) < 0) (h : oneB a c ++ r = oneB a d ++ s) : c = d ∧ r = s := by
  have k1 := one_key (r := r) hc h1
  rw [h, one_key hd h2] at k1
  have k2 := Option.some.inj k1
  have e1 : keyL d = keyL c := congrArg Prod.fst k2
  have e2 : vpB d ++ s = vpB c ++ r := congrArg Prod.snd k2
  have ek := key_kind hc.1 hd.1 e1.symm
  by_cases hk : c.k = 1
  · have hk2 : d.k = 1 := by omega
    unfold vpB at e2
    rw [if_pos hk, if_pos hk2, List.append_assoc, List.append_assoc] at e2
    have c1 := cnt_yes (x := valL c) (r := r) (by have := (bc_small hc).2; omega)
    rw [← e2, cnt_yes (by have := (bc_small hd).2; omega)] at c1
    have c2 := Option.some.inj c1
    have v1 : valL d = valL c := congrArg Prod.fst c2
    have v2 : s = r := congrArg Prod.snd c2
    refine ⟨enc_one hc hd ?_, v2.symm⟩
    rw [encB_is, encB_is, if_pos hk, if_pos hk2, e1, v1]
  · have hk2 : ¬ d.k = 1 := by omega
    unfold vpB at e2
    rw [if_neg hk, if_neg hk2, List.nil_append, List.nil_append] at e2
    refine ⟨enc_one hc hd ?_, e2.symm⟩
    rw [encB_is, encB_is, if_neg hk, if_neg hk2, e1]
theorem fineK_cons {a : List UInt8} {c : CT} {l : List CT} (h : fineK a (c :: l) = true) : c.ok = true ∧ Lib.compareBytes a (keyL c) < 0 ∧ fineK (keyL c) l = true := by
  unfold fineK at h
  simp only [Bool.and_eq_true, decide_eq_true_eq] at h
  exact h
theorem rest_one : ∀ (l m : List CT) (a r s : List UInt8), l.length = m.length → (∀ c ∈ l, Bc c) → (∀ c ∈ m, Bc c) → fineK a l = true → fineK a m = true → restB a l ++ r = restB a m ++ s → l = m ∧ r = s
  | [], [], a, r, s, _, _, _, _, _, h => ⟨rfl, h⟩
  | [], _ :: _, a, r, s, hl, _, _, _, _, _ => by cases hl
  | _ :: _, [], a, r, s, hl, _, _, _, _, _ => by cases hl
  | c :: l, d :: m, a, r, s, hl, hc, hd, f1, f2, h => by
    obtain ⟨_, p2, p3⟩ := fineK_cons f1
    obtain ⟨_, q2, q3⟩ := fineK_cons f2
    have h' : oneB a c ++ (restB (keyL c) l ++ r) = oneB a d ++ (restB (keyL d) m ++ s) := by
      rw [← List.append_assoc, ← List.append_assoc]
      exact h
    obtain ⟨e1, e2⟩ := one_one (hc c List.mem_cons_self) (hd d List.mem_cons_self) p2 q2 h'
    subst e1
    obtain ⟨e3, e4⟩ := rest_one l m (keyL c) r s (by simpa using hl) (fun x hx => hc x (List.mem_cons_of_mem _ hx)) (fun x hx => hd x (List.mem_cons_of_mem _ hx)) p3 q3 e2
    exact ⟨by rw [e3], e4⟩
/-- Bytes that go on behind a block are no block's but the same one's, with nothing behind. -/
theorem block_one {l m : List CT} {r : List UInt8} (hl : l.length < 9223372036854775808) (hm : m.length < 9223372036854775808) (hc : ∀ c ∈ l, Bc c) (hd : ∀ c ∈ m, Bc c) (f1 : fineK [] l = true) (f2 : fineK [] m = true) (h : blockB l ++ r = blockB m) : l = m ∧ r = [] := by
  unfold blockB at h
  rw [List.append_assoc] at h
  have t1 := tk_num l.length hl (restB [] l ++ r)
  rw [h, tk_num m.length hm] at t1
  have t2 := Option.some.inj t1
  have e1 : m.length = l.length := congrArg Prod.fst t2
  have e2 : restB [] m = restB [] l ++ r := congrArg Prod.snd t2
  have e3 := rest_one l m [] r [] e1.symm hc hd f1 f2 (by rw [List.append_nil]; exact e2.symm)
  exact e3
end Go.Proofs.YtfcnobcpnhfgmaaDoor

/- Keys stand as their cells do; what fineK says, in the cells' order. Conditions: as each theorem names them. -/
namespace Go.Proofs.YtfcnobcpnhfgmaaDoor

theorem lexC_cmp : ∀ a b : List UInt8, lexC a b ≠ 0 → Lib.compareBytes a b = lexC a b
  | [], _, h => by simp [lexC] at h
  | _ :: _, [], h => by simp [lexC] at h
  | a :: l, b :: m, h => by
    unfold lexC at h ⊢
    unfold Lib.compareBytes
    simp only [UInt8.lt_iff_toNat_lt]
    split
    · rfl
    · split
      · rfl
      · rename_i h1 h2
        rw [if_neg h1, if_neg h2] at h
        exact lexC_cmp l m h
theorem cmpB_refl : ∀ a : List UInt8, Lib.compareBytes a a = 0
  | [] => rfl
  | a :: l => by
    unfold Lib.compareBytes
    rw [if_neg (by simp), if_neg (by simp)]
    exact cmpB_refl l
theorem key_cmp {c d : CT} (hc : c.ok = true) (hd : d.ok = true) : Lib.compareBytes (keyL c) (keyL d) = CT.cmp c d := by
  have h := key_lex hc hd
  by_cases h0 : CT.cmp c d = 0
  · obtain ⟨e1, e2, e3, e4, e5⟩ := cOrd_zero h0
    rw [h0]
    have e : keyL c = keyL d := by unfold keyL; rw [e1, e2, e3, e4, e5]
    rw [e]
    exact cmpB_refl _
  · have h1 : lexC (keyL c) (keyL d) = CT.cmp c d := h
    rw [← h1] at h0 ⊢
    exact lexC_cmp _ _ h0
theorem key_first {c : CT} : Lib.compareBytes [] (keyL c) < 0 := by
  have h := keyL_last c
  cases hk : keyL c with
  | nil => rw [hk] at h; cases h
  | cons x t => unfold Lib.compareBytes; decide
theorem fineK_step : ∀ (l : List CT) (c : CT), c.ok = true → (fineK (keyL c) l = true ↔ (∀ d ∈ l, d.ok = true) ∧ (c :: l).Pairwise (fun x y => CT.cmp x y < 0))
  | [], c, _ => by simp [fineK]
  | d :: l, c, hc => by
    unfold fineK
    simp only [Bool.and_eq_true, decide_eq_true_eq]
    constructor
    · rintro ⟨hd, h1, h2⟩
      rw [key_cmp hc hd] at h1
      obtain ⟨h3, h4⟩ := (fineK_step l d hd).1 h2
      refine ⟨fun x hx => ?_, ?_⟩
      · rcases List.mem_cons.1 hx with rfl | hx
        · exact hd
        · exact h3 x hx
      · refine List.pairwise_cons.2 ⟨fun x hx => ?_, h4⟩
        rcases List.mem_cons.1 hx with rfl | hx
        · exact h1
        · have h5 := (List.pairwise_cons.1 h4).1 x hx
          exact ct_c3.lt_le (x := c) (y := d) (z := x) h1 (by omega)
    · rintro ⟨h1, h2⟩
      have hd := h1 d List.mem_cons_self
      obtain ⟨h3, h4⟩ := List.pairwise_cons.1 h2
      refine ⟨hd, ?_, (fineK_step l d hd).2 ⟨fun x hx => h1 x (List.mem_cons_of_mem _ hx), h4⟩⟩
      rw [key_cmp hc hd]
      exact h3 d List.mem_cons_self
/-- Right cells, in order, no two of one place. -/
theorem fineK_iff (l : List CT) : fineK [] l = true ↔ (∀ d ∈ l, d.ok = true) ∧ l.Pairwise (fun x y => CT.cmp x y < 0) := by
  cases l with
  | nil => simp [fineK]
  | cons c l =>
    unfold fineK
    simp only [Bool.and_eq_true, decide_eq_true_eq]
    constructor
    · rintro ⟨hc, _, h⟩
      obtain ⟨h1, h2⟩ := (fineK_step l c hc).1 h
      refine ⟨fun x hx => ?_, h2⟩
      rcases List.mem_cons.1 hx with rfl | hx
      · exact hc
      · exact h1 x hx
    · rintro ⟨h1, h2⟩
      have hc := h1 c List.mem_cons_self
      exact ⟨hc, key_first, (fineK_step l c hc).2 ⟨fun x hx => h1 x (List.mem_cons_of_mem _ hx), h2⟩⟩
end Go.Proofs.YtfcnobcpnhfgmaaDoor

/- block.alike at every two rows of bytes. Conditions: both stand, with a million bytes at most. -/
namespace Go.Proofs.YtfcnobcpnhfgmaaDoor
open Go.RowKit

theorem preL_next {l m : List UInt8} {k : Nat} {x : UInt8} (h1 : l[k]? = some x) (h2 : m[k]? = some x) : preL (l.drop k) (m.drop k) = 1 + preL (l.drop (k + 1)) (m.drop (k + 1)) := by
  obtain ⟨g1, rfl⟩ := List.getElem?_eq_some_iff.1 h1
  obtain ⟨g2, e⟩ := List.getElem?_eq_some_iff.1 h2
  rw [List.drop_eq_getElem_cons g1, List.drop_eq_getElem_cons g2, e]
  rw [preL, if_pos rfl]
  omega
theorem preL_other {l m : List UInt8} {k : Nat} {x y : UInt8} (h1 : l[k]? = some x) (h2 : m[k]? = some y) (h : x ≠ y) : preL (l.drop k) (m.drop k) = 0 := by
  obtain ⟨g1, rfl⟩ := List.getElem?_eq_some_iff.1 h1
  obtain ⟨g2, rfl⟩ := List.getElem?_eq_some_iff.1 h2
  rw [List.drop_eq_getElem_cons g1, List.drop_eq_getElem_cons g2]
  rw [preL, if_neg h]
theorem preL_end {l m : List UInt8} {k : Nat} (h : l.length ≤ k ∨ m.length ≤ k) : preL (l.drop k) (m.drop k) = 0 := by
  rcases h with h | h
  · rw [List.drop_of_length_le h]
    simp [preL]
  · rw [List.drop_of_length_le h]
    cases l.drop k <;> simp [preL]

set_option maxHeartbeats 4000000 in
theorem alike_any (A1 A2 : Option Addr) (c1 c2 : Nat) (l1 l2 : List UInt8) (hl1 : l1.length ≤ 1000000) (w : World) (h1 : HoldsA w A1 l1) (h2 : HoldsA w A2 l2) :
    Calls Tryd.prog 46 #[.slice A1 l1.length c1, .slice A2 l2.length c2] w fun e w' => e = .returned (.int .i64 (preL l1 l2 : Int)) ∧ Below w.heap.size w w' := by
  have mixed : Tryd.prog.follows .mixedOrders = true := by kernel_rfl
  have K1 := hid h1
  have K2 := hid h2
  clear h1 h2
  obtain ⟨n1, hn1⟩ : ∃ n1, l1.length = n1 := ⟨_, rfl⟩
  obtain ⟨n2, hn2⟩ : ∃ n2, l2.length = n2 := ⟨_, rfl⟩
  have H1 := hid hn1
  have H2 := hid hn2
  rw [hn1] at hl1
  rw [hn1, hn2]
  clear hn1 hn2
  obtain ⟨n, hn⟩ : ∃ n : Nat, n = min n1 n2 := ⟨_, rfl⟩
  have hmin : min (n1 : Int) (n2 : Int) = (n : Int) := by omega
  have hna : n ≤ n1 := by omega
  have hnb : n ≤ n2 := by omega
  have HN : Hid (n1 ≤ n ∨ n2 ≤ n) := by show n1 ≤ n ∨ n2 ≤ n; omega
  clear hn
  obtain ⟨R, hR⟩ : ∃ R : Nat, preL l1 l2 = R := ⟨_, rfl⟩
  have HR := hid hR
  rw [hR]
  clear hR
  go_enter Tryd.func46, Tryd.ntmps46
  go_wp2
  clear hmin
  go_loopw [13] (fun vi wr => ∃ k m : Nat, k ≤ n ∧ vi = .int .i64 k ∧ Hid (R = k + preL (l1.drop k) (l2.drop k)) ∧ wr = w.drewN m) (fun vi _ => n - (intOf vi).toNat)
  case atStart => exact ⟨0, 0, by omega, rfl, by show R = _; rw [← HR.out, List.drop_zero, List.drop_zero]; omega, rfl⟩
  case round =>
    obtain ⟨k, m, hk, rfl, HE, rfl⟩ := hrel
    by_cases hlt : k < n
    · have g1 : k < l1.length := by rw [H1.out]; omega
      have g2 : k < l2.length := by rw [H2.out]; omega
      have hz1 : (k : Int) < (n1 : Int) := by omega
      have hz2 : (k : Int) < (n2 : Int) := by omega
      obtain ⟨b1, o1, e1, hh1⟩ := K1.out (by omega)
      obtain ⟨b2, o2, e2, hh2⟩ := K2.out (by omega)
      subst e1 e2
      have q1 := hh1 k g1
      have q2 := hh2 k g2
      rw [List.getD_eq_getElem?_getD, List.getElem?_eq_getElem g1, Option.getD_some] at q1
      rw [List.getD_eq_getElem?_getD, List.getElem?_eq_getElem g2, Option.getD_some] at q2
      have L1 := hid (List.getElem?_eq_getElem g1)
      have L2 := hid (List.getElem?_eq_getElem g2)
      obtain ⟨u, hu⟩ : ∃ u, l1[k] = u := ⟨_, rfl⟩
      obtain ⟨v, hv⟩ : ∃ v, l2[k] = v := ⟨_, rfl⟩
      rw [hu] at q1 L1
      rw [hv] at q2 L2
      clear hu hv hh1 hh2 g1 g2
      by_cases hxy : u = v
      · subst hxy
        have HE2 : Hid (R = (k + 1) + preL (l1.drop (k + 1)) (l2.drop (k + 1))) := by
          have := HE.out
          rw [preL_next L1.out L2.out] at this
          show R = _
          omega
        have hb : (((u.toNat : Nat) : Int) != ((u.toNat : Nat) : Int)) = false := by simp
        obtain ⟨x, hx⟩ : ∃ x : Int, ((u.toNat : Nat) : Int) = x := ⟨_, rfl⟩
        rw [hx] at q1 q2 hb
        clear hx L1 L2 HE
        go_wp2
        go_region
        all_goals
          go_wp2
          go_roundw
          case rel => exact ⟨k + 1, _, by omega, by go_num, HE2.out, rfl⟩
          case measure => simp [intOf]; omega
      · have HR2 : Hid (R = k) := by
          have := HE.out
          rw [preL_other L1.out L2.out hxy] at this
          exact this
        have hne : ((u.toNat : Nat) : Int) ≠ ((v.toNat : Nat) : Int) := fun e => hxy (UInt8.toNat_inj.1 (by omega))
        obtain ⟨x, hx⟩ : ∃ x : Int, ((u.toNat : Nat) : Int) = x := ⟨_, rfl⟩
        obtain ⟨y, hy⟩ : ∃ y : Int, ((v.toNat : Nat) : Int) = y := ⟨_, rfl⟩
        rw [hx] at q1 hne
        rw [hy] at q2 hne
        have hb : (x != y) = true := by simpa using hne
        clear hx hy L1 L2 HE hxy hne
        go_wp2
        go_region
        all_goals
          go_wp2
          go_ret
          exact ⟨by rw [HR2.out]; rfl, by repeat' (first | exact Below.refl _ _ | apply Below.drew | apply Go.below_drewN)⟩
    · obtain rfl : k = n := by omega
      have HR2 : Hid (R = k) := by
        have := HE.out
        rw [preL_end (by rw [H1.out, H2.out]; exact HN.out)] at this
        exact this
      clear HE
      go_wp2
      go_ret
      exact ⟨by rw [HR2.out]; rfl, Go.below_drewN (Below.refl _ _) _⟩
end Go.Proofs.YtfcnobcpnhfgmaaDoor

/- Appending bytes to a row of the call's own, told which block is turned; block.appendBytes. Conditions: a million bytes at most; the part stands in another block. -/
namespace Go.Proofs.YtfcnobcpnhfgmaaDoor
open Go.RowKit

/-- Row g of w holds l. -/
def RowG (w : World) (B g cap : Nat) (l : List UInt8) : Prop := 0 < l.length ∧ Row w B (.slice (some ⟨g, 0, none⟩) l.length cap) l
theorem Row.toG {w : World} {B : Nat} {v : Value} {l : List UInt8} (h : Row w B v l) (hl : 0 < l.length) : ∃ g cap, v = .slice (some ⟨g, 0, Option.none⟩) l.length cap ∧ RowG w B g cap l := by
  obtain ⟨g, cap, rfl, _⟩ := h.form hl
  exact ⟨g, cap, rfl, hl, h⟩
theorem RowG.lt {w : World} {B g cap : Nat} {l : List UInt8} (h : RowG w B g cap l) : B ≤ g ∧ g < w.heap.size := World.ownsRow.lt h.2 g rfl
theorem RowG.caps {w : World} {B g cap : Nat} {l : List UInt8} (h : RowG w B g cap l) : l.length ≤ cap ∧ cap ≤ 9223372036854775807 := by
  rcases h.2.2 with ⟨e, _⟩ | ⟨g', cap', cur, e, _, _, h1, h2, _⟩
  · cases e
  · injection e with e1 e2 e3
    subst e3
    exact ⟨h1, by unfold maxLen at h2; omega⟩
theorem RowG.holds {w : World} {B g cap : Nat} {l : List UInt8} (h : RowG w B g cap l) : Holds w g 0 l := fun i hi => by
  obtain ⟨g', cap', e, _, _, _, hc⟩ := h.2.form h.1
  injection e with e1 e2 e3
  injection e1 with e1
  injection e1 with e1
  subst e1
  rw [Nat.zero_add]
  exact hc i hi
theorem RowG.below {w w' : World} {B g cap : Nat} {l : List UInt8} (h : RowG w B g cap l) (hb : Below w.heap.size w w') : RowG w' B g cap l := ⟨h.1, h.2.keep hb h.2.block_lt⟩
theorem grown_of_below {w w' : World} (h : Below w.heap.size w w') (row : Option Nat) : w.grownBy w' row := ⟨h.os, h.tape, h.output, h.size, fun k hk _ => h.block k hk⟩
theorem Holds.grown {w w' : World} {b off : Nat} {l : List UInt8} {row : Option Nat} (h : Holds w b off l) (hg : w.grownBy w' row) (hb : some b ≠ row) : Holds w' b off l := fun i hi => hg.cell (h i hi) hb
theorem HoldsA.grown {w w' : World} {A : Option Addr} {l : List UInt8} {row : Option Nat} (h : HoldsA w A l) (hg : w.grownBy w' row) (hb : ∀ b off, A = some ⟨b, off, none⟩ → some b ≠ row) : HoldsA w' A l := fun h0 => by
  obtain ⟨b, off, e, hh⟩ := h h0
  exact ⟨b, off, e, hh.grown hg (hb b off e)⟩

theorem run_append_g (w : World) (ty : TypeId) (base g cap : Nat) (l : List UInt8) (hown : RowG w base g cap l) (b off c : Nat) (news : List UInt8) (h0 : 0 < news.length) (hnews : Holds w b off news) (hlen : l.length + news.length ≤ 1000000) (hbase : base ≤ w.heap.size) :
    ∃ g' cap' w', (Builtin.append_ #[26, 26] ty #[.slice (some ⟨g, 0, none⟩) l.length cap, .slice (some ⟨b, off, none⟩) news.length c]).run Tryd.prog w = .ok (.slice (some ⟨g', 0, none⟩) (l ++ news).length cap') w' ∧ RowG w' base g' cap' (l ++ news) ∧ w.grownBy w' (some g) ∧ (g' = g ∨ w.heap.size ≤ g') := by
  obtain ⟨i0, hi, hz0, hz1, hz2⟩ := info_parts info_u8
  have hcells : ∀ j u, (bc news)[j]? = some u → w.cell? ((⟨b, off, none⟩ : Addr).add j) = some u := fun j u hj => by
    have hjn : j < news.length := by
      rcases Nat.lt_or_ge j news.length with h1 | h1
      · exact h1
      · rw [bc_at, List.getElem?_eq_none h1] at hj; cases hj
    rw [add_zero_off, hnews j hjn, ← hj, bc_at, List.getElem?_eq_getElem hjn, List.getD_eq_getElem?_getD, List.getElem?_eq_getElem hjn]
    rfl
  obtain ⟨v', w', hrun, r1, r2, _⟩ := run_append_own (P := Tryd.prog) w base 26 ty 5 i0 (.int .u8 0) 1 1 Tryd.underlying26 hi hz0 hz1 hz2 rfl (by decide) _ l.length (bc l) hown.2 ⟨b, off, none⟩ news.length c (bc news) (by rw [bc_len]; omega) hcells (bc_one _) (by unfold maxLen; omega) (by omega) hbase
  have hr1 : Row w' base v' (l ++ news) := by
    unfold Row
    rw [bc_app, List.length_append]
    exact r1
  have hpos : 0 < (l ++ news).length := by rw [List.length_append]; omega
  obtain ⟨g1, cap1, e1, hG⟩ := hr1.toG hpos
  subst e1
  have hown2 := hown.2
  rcases hown.2.2 with ⟨e, _⟩ | ⟨g0, cap0, cur, e, hbg, hg, hnc, hcm, hcs, htake⟩
  · cases e
  · injection e with e1 e2 e3
    injection e1 with e1
    injection e1 with e1
    subst e1 e3
    refine ⟨g1, cap1, w', hrun, hG, r2, ?_⟩
    by_cases hroom : l.length + news.length ≤ cap
    · have hr := run_append_room (P := Tryd.prog) w 26 ty 5 i0 Tryd.underlying26 hi g l.length cap cur hg ⟨b, off, none⟩ news.length c (bc news) (by rw [hz1, bc_len]; omega) hcells (bc_one _) hroom (by rw [hz1, bc_len]; omega)
      rw [hrun] at hr
      injection hr with h1 h2
      injection h1 with h1
      injection h1 with h1
      injection h1 with h1
      exact .inl h1
    · have holds : ∀ j u, (bc l)[j]? = some u → w.cell? ((⟨g, 0, none⟩ : Addr).add j) = some u := World.ownsRow.cells hown2 (g := g) rfl
      have hr := run_append_grow (P := Tryd.prog) w 26 ty 5 i0 (.int .u8 0) Tryd.underlying26 hi hz0 ⟨g, 0, none⟩ l.length cap (bc l) (by rw [hz1, bc_len]; omega) holds ⟨b, off, none⟩ news.length c (bc news) (by rw [hz1, bc_len]; omega) hcells (by omega) (by omega) (by rw [hz2]; exact growslice_fits (by omega) (by omega))
      rw [hrun] at hr
      injection hr with h1 h2
      injection h1 with h1
      injection h1 with h1
      injection h1 with h1
      exact .inr (by omega)

section
variable {ops : Array Oper} {rest : List Oper} {o : Oper} {a : Act} {Q : Exit → Act → World → Prop}
/-- append of some bytes to a row of the call's own: its block is turned alone, or a new one is made. -/
theorem wpList_append_g (hgd : o.guard = Option.none) (s x : Operand)
    (ho : o.op = .call { callee := .builtin .append, args := #[s, x], argTypes := #[26, 26] })
    (w : World) (base g cap : Nat) (l : List UInt8) (m : Nat) (hm : m = l.length) (hs : a.eval s = .slice (some ⟨g, 0, none⟩) m cap) (hown : RowG w base g cap l)
    (b off k c : Nat) (news : List UInt8) (hk : k = news.length) (hx : a.eval x = .slice (some ⟨b, off, none⟩) k c) (h0 : 0 < news.length) (hnews : Holds w b off news)
    (hlen : l.length + news.length ≤ 1000000) (hbase : base ≤ w.heap.size)
    (h : ∀ g' cap' w' n', Hid ((l ++ news).length = n') → RowG w' base g' cap' (l ++ news) → w.grownBy w' (some g) → (g' = g ∨ w.heap.size ≤ g') → wpList Tryd.prog ops Q rest (a.put o.dst (.slice (some ⟨g', 0, none⟩) n' cap')) w') : wpList Tryd.prog ops Q (o :: rest) a w := by
  subst hm hk
  obtain ⟨g', cap', w', hrun, r1, r2, r3⟩ := run_append_g w o.type base g cap l hown b off c news h0 hnews hlen hbase
  exact Lib.wpList_append_run w hgd s x 26 26 ho _ _ hs hx _ w' hrun (h g' cap' w' _ (hid rfl) r1 r2 r3)
end

set_option maxRecDepth 100000 in
set_option maxHeartbeats 2000000 in
theorem abytes_any (B g cap : Nat) (l : List UInt8) (b off c : Nat) (part : List UInt8) (h0 : 0 < part.length) (hlen : l.length + part.length ≤ 900000) (w : World) (h : RowG w B g cap l) (hp : Holds w b off part) (hne : b ≠ g) (hB : B ≤ w.heap.size) :
    Calls Tryd.prog 47 #[.slice (some ⟨g, 0, none⟩) l.length cap, .slice (some ⟨b, off, none⟩) part.length c] w fun e w' => ∃ g' cap', e = .returned (.slice (some ⟨g', 0, none⟩) (l ++ (numW part.length ++ part)).length cap') ∧ RowG w' B g' cap' (l ++ (numW part.length ++ part)) ∧ w.grownBy w' (some g) ∧ (g' = g ∨ w.heap.size ≤ g') := by
  have HN : Hid (∀ W, Calls Tryd.prog 43 #[.int .i64 part.length] W fun e w' => ∃ v, e = .returned v ∧ Row w' W.heap.size v (numW part.length) ∧ Below W.heap.size W w') := fun W => num_any part.length (by omega) W
  have hn9 := numW_len9 part.length (by omega)
  have hn0 : 0 < (numW part.length).length := numW_pos part.length
  have HL : Hid (l.length + (numW part.length).length ≤ 1000000 ∧ (l ++ numW part.length).length + part.length ≤ 1000000 ∧ 0 < (numW part.length).length ∧ 0 < part.length) := ⟨by omega, by rw [List.length_append]; omega, hn0, h0⟩
  have HR := hid h
  have HP := hid hp
  have HB := hid hB
  have HE := hid hne
  obtain ⟨N, hN⟩ : ∃ N, numW part.length = N := ⟨_, rfl⟩
  have e1 : l ++ (N ++ part) = l ++ N ++ part := by rw [List.append_assoc]
  rw [hN, e1]
  rw [hN] at HN HL
  clear hN hn9 hn0 h0 hlen h hp hne hB e1
  obtain ⟨m, hm⟩ : ∃ m, l.length = m := ⟨_, rfl⟩
  obtain ⟨k, hk⟩ : ∃ k, part.length = k := ⟨_, rfl⟩
  have HM := hid hm
  have HK := hid hk
  rw [hm, hk]
  rw [hk] at HN
  clear hm hk
  go_enter Tryd.func47, Tryd.ntmps47
  go_wp2_with (first
    | (go_at_call 43; refine (HN.out _).mono ?_; rintro e w1 ⟨v, rfl, h1, hb1⟩; obtain ⟨g1, cap1, rfl, hG1⟩ := h1.toG HL.out.2.2.1)
    | (at_builtin; refine wpList_append_g rfl (.tmp 5) (.tmp 8) rfl w1 B g cap l m HM.out.symm ?_ (HR.out.below hb1) g1 0 N.length cap1 N rfl ?_ HL.out.2.2.1 hG1.holds HL.out.1 (Nat.le_trans HB.out hb1.size) ?_; rfl; rfl; intro g2 cap2 w2 n2 hn2 hG2 hg2 hd2)
    | (at_builtin; refine wpList_append_g rfl (.tmp 10) (.tmp 11) rfl w2 B g2 cap2 (l ++ N) n2 hn2.out.symm ?_ hG2 b off k c part HK.out.symm ?_ HL.out.2.2.2 ((HP.out.below hb1 (HP.out.lt HL.out.2.2.2)).grown hg2 (fun e => HE.out (Option.some.inj e))) HL.out.2.1 (Nat.le_trans HB.out (Nat.le_trans hb1.size hg2.size)) ?_; rfl; rfl; intro g3 cap3 w3 n3 hn3 hG3 hg3 hd3))
  go_ret
  refine ⟨g3, cap3, congrArg (fun z => Ending.returned (Value.slice (some ⟨g3, 0, none⟩) z cap3)) hn3.out.symm, hG3, ?_, ?_⟩
  · refine ((grown_of_below hb1 (some g)).trans hg2).andThen hg3 (fun j hj => ?_)
    injection hj with hj
    subst hj
    rcases hd2 with rfl | hd2
    · exact .inr rfl
    · exact .inl (Nat.le_trans hb1.size hd2)
  · have := hb1.size
    have := hg2.size
    rcases hd3 with rfl | hd3
    · rcases hd2 with rfl | hd2
      · exact .inl rfl
      · exact .inr (by omega)
    · exact .inr (by omega)
end Go.Proofs.YtfcnobcpnhfgmaaDoor

/- Plain mathematics: a block read cell by cell; whose bytes none are; cells in parts. Conditions: as each theorem names them. -/
namespace Go.Proofs.YtfcnobcpnhfgmaaDoor

/-- No right cell stands next, behind a key. -/
def NoOne (a l : List UInt8) : Prop := ∀ (c : CT) (r : List UInt8), Bc c → Lib.compareBytes a (keyL c) < 0 → l ≠ oneB a c ++ r
/-- No block's bytes. -/
def NoBlock (l : List UInt8) : Prop := ∀ cs : List CT, (∀ c ∈ cs, Bc c) → fineK [] cs = true → cs.length ≤ 1000 → blockB cs ≠ l
/-- The key of the last one of some cells. -/
def lastK (a : List UInt8) : List CT → List UInt8
  | [] => a
  | c :: l => lastK (keyL c) l
theorem lastK_snoc : ∀ (a : List UInt8) (l : List CT) (c : CT), lastK a (l ++ [c]) = keyL c
  | _, [], _ => rfl
  | _, d :: l, c => lastK_snoc (keyL d) l c
theorem restB_snoc : ∀ (a : List UInt8) (l : List CT) (c : CT), restB a (l ++ [c]) = restB a l ++ oneB (lastK a l) c
  | a, [], c => by
    show oneB a c ++ [] = [] ++ oneB a c
    rw [List.append_nil, List.nil_append]
  | a, d :: l, c => by
    show oneB a d ++ restB (keyL d) (l ++ [c]) = (oneB a d ++ restB (keyL d) l) ++ oneB (lastK (keyL d) l) c
    rw [restB_snoc (keyL d) l c, List.append_assoc]
theorem fineK_snoc : ∀ (a : List UInt8) (l : List CT) (c : CT), fineK a (l ++ [c]) = (fineK a l && (c.ok && decide (Lib.compareBytes (lastK a l) (keyL c) < 0)))
  | a, [], c => by
    show (c.ok && (decide (Lib.compareBytes a (keyL c) < 0) && true)) = (true && (c.ok && decide (Lib.compareBytes a (keyL c) < 0)))
    rw [Bool.and_true, Bool.true_and]
  | a, d :: l, c => by
    show (d.ok && (decide (Lib.compareBytes a (keyL d) < 0) && fineK (keyL d) (l ++ [c]))) = ((d.ok && (decide (Lib.compareBytes a (keyL d) < 0) && fineK (keyL d) l)) && (c.ok && decide (Lib.compareBytes (lastK (keyL d) l) (keyL c) < 0)))
    rw [fineK_snoc (keyL d) l c]
    cases d.ok <;> cases decide (Lib.compareBytes a (keyL d) < 0) <;> simp
/-- Of cells whose bytes begin with some cells' the first ones are these. -/
theorem rest_pre : ∀ (l m : List CT) (a r : List UInt8), l.length ≤ m.length → (∀ c ∈ l, Bc c) → (∀ c ∈ m, Bc c) → fineK a l = true → fineK a m = true → restB a l ++ r = restB a m → ∃ n, m = l ++ n ∧ r = restB (lastK a l) n ∧ fineK (lastK a l) n = true
  | [], m, a, r, _, _, _, _, f2, h => ⟨m, rfl, h, f2⟩
  | _ :: _, [], a, r, hl, _, _, _, _, _ => by simp at hl
  | c :: l, d :: m, a, r, hl, hc, hd, f1, f2, h => by
    obtain ⟨_, p2, p3⟩ := fineK_cons f1
    obtain ⟨_, q2, q3⟩ := fineK_cons f2
    have h' : oneB a c ++ (restB (keyL c) l ++ r) = oneB a d ++ restB (keyL d) m := by
      rw [← List.append_assoc]
      exact h
    obtain ⟨e1, e2⟩ := one_one (hc c List.mem_cons_self) (hd d List.mem_cons_self) p2 q2 h'
    subst e1
    obtain ⟨n, e3, e4, e5⟩ := rest_pre l m (keyL c) r (by simpa using hl) (fun x hx => hc x (List.mem_cons_of_mem _ hx)) (fun x hx => hd x (List.mem_cons_of_mem _ hx)) p3 q3 e2
    exact ⟨n, by rw [e3]; rfl, e4, e5⟩
/-- What Parse has read: some cells, and what is left. -/
structure ReadI (l : List UInt8) (n : Nat) (cs : List CT) (rest : List UInt8) : Prop where
  le : cs.length ≤ n
  n1 : n ≤ 1000
  bc : ∀ c ∈ cs, Bc c
  fine : fineK [] cs = true
  eq : l = numW n ++ (restB [] cs ++ rest)
theorem read_start {l r : List UInt8} {n : Nat} (h : tk l = some (n, r)) (hn : n ≤ 1000) : ReadI l n [] r := ⟨Nat.zero_le _, hn, fun c hc => (by cases hc), rfl, tk_back h⟩
theorem read_next {l rest r : List UInt8} {n : Nat} {cs : List CT} {c : CT} (h : ReadI l n cs rest) (hlt : cs.length < n) (hc : Bc c) (hk : Lib.compareBytes (lastK [] cs) (keyL c) < 0) (e : rest = oneB (lastK [] cs) c ++ r) : ReadI l n (cs ++ [c]) r := by
  refine ⟨by rw [List.length_append, List.length_singleton]; omega, h.n1, fun x hx => ?_, ?_, ?_⟩
  · rcases List.mem_append.1 hx with hx | hx
    · exact h.bc x hx
    · rw [List.mem_singleton.1 hx]; exact hc
  · rw [fineK_snoc, h.fine, hc.1, decide_eq_true hk]; rfl
  · rw [restB_snoc, h.eq, e, List.append_assoc]
theorem read_pre {l rest : List UInt8} {n : Nat} {cs ds : List CT} (h : ReadI l n cs rest) (hd : ∀ c ∈ ds, Bc c) (f : fineK [] ds = true) (hl : ds.length ≤ 1000) (e : blockB ds = l) : ds.length = n ∧ ∃ m, ds = cs ++ m ∧ rest = restB (lastK [] cs) m ∧ fineK (lastK [] cs) m = true := by
  have h1 := h.eq
  rw [← e] at h1
  unfold blockB at h1
  have t1 := tk_num ds.length (by omega) (restB [] ds)
  rw [h1, tk_num n (by have := h.n1; omega)] at t1
  have t2 := Option.some.inj t1
  have e1 : n = ds.length := congrArg Prod.fst t2
  have e2 : restB [] cs ++ rest = restB [] ds := congrArg Prod.snd t2
  exact ⟨e1.symm, rest_pre cs ds [] rest (by have := h.le; omega) h.bc hd h.fine f e2⟩
theorem read_no {l rest : List UInt8} {n : Nat} {cs : List CT} (h : ReadI l n cs rest) (hlt : cs.length < n) (hno : NoOne (lastK [] cs) rest) : NoBlock l := fun ds hd f hl e => by
  obtain ⟨e1, m, rfl, e3, f3⟩ := read_pre h hd f hl e
  cases m with
  | nil => rw [List.append_nil] at e1; omega
  | cons c m =>
    obtain ⟨_, p2, _⟩ := fineK_cons f3
    exact hno c (restB (keyL c) m) (hd c (List.mem_append_right _ List.mem_cons_self)) p2 e3
theorem read_more {l rest : List UInt8} {n : Nat} {cs : List CT} (h : ReadI l n cs rest) (he : cs.length = n) (hr : rest ≠ []) : NoBlock l := fun ds hd f hl e => by
  obtain ⟨e1, m, rfl, e3, _⟩ := read_pre h hd f hl e
  have : m = [] := List.eq_nil_of_length_eq_zero (by rw [List.length_append] at e1; omega)
  subst this
  exact hr e3
theorem read_all {l : List UInt8} {n : Nat} {cs : List CT} (h : ReadI l n cs []) (he : cs.length = n) : blockB cs = l := by
  rw [h.eq, List.append_nil, ← he]
  rfl
theorem no_num {l : List UInt8} (h : tk l = none) : NoBlock l := fun ds _ _ hl e => by
  rw [← e] at h
  unfold blockB at h
  rw [tk_num ds.length (by omega)] at h
  cases h
theorem no_great {l r : List UInt8} {n : Nat} (h : tk l = some (n, r)) (hn : 1000 < n) : NoBlock l := fun ds _ _ hl e => by
  rw [← e] at h
  unfold blockB at h
  rw [tk_num ds.length (by omega)] at h
  cases h
  omega
/-- A row of right cells in order has one row of bytes. -/
theorem block_same {l m : List CT} (hl : l.length ≤ 1000) (hm : m.length ≤ 1000) (hc : ∀ c ∈ l, Bc c) (hd : ∀ c ∈ m, Bc c) (f1 : fineK [] l = true) (f2 : fineK [] m = true) (h : blockB l = blockB m) : l = m :=
  (block_one (r := []) (by omega) (by omega) hc hd f1 f2 (by rw [List.append_nil]; exact h)).1

/-- The number that stands at the beginning is told by nine bytes. -/
theorem tk9_some {l r : List UInt8} {n : Nat} (h : tk l = some (n, r)) : tk (l.take 9) = some (n, r.take (9 - (numW n).length)) ∧ (numW n).length ≤ 9 ∧ l.length = (numW n).length + r.length := by
  have h1 := tk_back h
  have h2 := tk_lt h
  have h3 : (numW n).length ≤ 9 := numW_len 8 n h2
  refine ⟨?_, h3, by rw [h1, List.length_append]⟩
  rw [h1, List.take_append, List.take_of_length_le h3]
  exact tk_num n h2 _
theorem tk9_none {l : List UInt8} (h : tk l = none) : tk (l.take 9) = none := by
  cases e : tk (l.take 9) with
  | none => rfl
  | some p =>
    obtain ⟨n, r⟩ := p
    have h1 := tk_back e
    have h2 : l = numW n ++ (r ++ l.drop 9) := by rw [← List.append_assoc, ← h1, List.take_append_drop]
    rw [h2, tk_num n (tk_lt e)] at h
    cases h

/-- How many bytes a cell counts for. -/
def encN (c : CT) : Nat := if c.ok = true then (encB c).length else 0
/-- How many of the first cells are a part, so many bytes being taken. -/
def fitGo (size : Int) : Nat → Nat → List CT → Nat
  | _, _, [] => 0
  | i, t, c :: l => if 0 < i ∧ size < ((t + encN c : Nat) : Int) then 0 else fitGo size (i + 1) (t + encN c) l + 1
def fitN (size : Int) (l : List CT) : Nat := fitGo size 0 0 (l.take 1000)
theorem fitGo_le (size : Int) : ∀ (l : List CT) (i t : Nat), fitGo size i t l ≤ l.length
  | [], _, _ => by simp [fitGo]
  | c :: l, i, t => by
    unfold fitGo
    split
    · omega
    · have := fitGo_le size l (i + 1) (t + encN c)
      simp only [List.length_cons]
      omega
theorem fitN_le (size : Int) (l : List CT) : fitN size l ≤ l.length := by
  have := fitGo_le size (l.take 1000) 0 0
  unfold fitN
  rw [List.length_take] at this
  omega
theorem fitN_pos (size : Int) {l : List CT} (h : 0 < l.length) : 0 < fitN size l := by
  cases l with
  | nil => cases h
  | cons c l =>
    unfold fitN
    rw [List.take_succ_cons]
    unfold fitGo
    rw [if_neg (by omega)]
    omega
/-- Cells in parts. -/
def cutL (size : Int) (l : List CT) : List (List CT) := if _h : 0 < l.length then l.take (fitN size l) :: cutL size (l.drop (fitN size l)) else []
termination_by l.length
decreasing_by
  have hp := fitN_pos size _h
  rw [List.length_drop]
  omega
theorem cutL_nil (size : Int) : cutL size [] = [] := by rw [cutL]; rfl
theorem cutL_more (size : Int) {l : List CT} (h : 0 < l.length) : cutL size l = l.take (fitN size l) :: cutL size (l.drop (fitN size l)) := by rw [cutL, dif_pos h]
theorem cutL_len (size : Int) : ∀ (n : Nat) (l : List CT), l.length ≤ n → (cutL size l).length ≤ l.length
  | 0, l, h => by
    have : l = [] := List.eq_nil_of_length_eq_zero (by omega)
    subst this
    rw [cutL_nil]
    exact Nat.le_refl _
  | n + 1, l, h => by
    by_cases h0 : 0 < l.length
    · have h1 := fitN_pos size h0
      have h2 := cutL_len size n (l.drop (fitN size l)) (by rw [List.length_drop]; omega)
      rw [cutL_more size h0, List.length_cons]
      rw [List.length_drop] at h2
      omega
    · have : l = [] := List.eq_nil_of_length_eq_zero (by omega)
      subst this
      rw [cutL_nil]
      exact Nat.le_refl _
end Go.Proofs.YtfcnobcpnhfgmaaDoor

/- The block's reader: some bytes, a number, a number and so many bytes. Conditions: the reader holds its bytes, a million at most. -/
namespace Go.Proofs.YtfcnobcpnhfgmaaDoor
open Go.RowKit

/-- A slice of bytes that doesn't lie where the reader lies. -/
def Sx (w : World) (rb : Nat) (v : Value) (l : List UInt8) : Prop := ∃ A c, v = .slice A l.length c ∧ l.length ≤ c ∧ c ≤ 9223372036854775807 ∧ (A = none → c = 0) ∧ (A ≠ none → ∃ b off, A = some ⟨b, off, none⟩ ∧ b ≠ rb ∧ b < w.heap.size ∧ Holds w b off l)
/-- A slice of bytes that lies below the reader. -/
def Sb (w : World) (rb : Nat) (v : Value) (l : List UInt8) : Prop := ∃ A c, v = .slice A l.length c ∧ l.length ≤ c ∧ c ≤ 9223372036854775807 ∧ (A = none → c = 0) ∧ (A ≠ none → ∃ b off, A = some ⟨b, off, none⟩ ∧ b < rb ∧ b < w.heap.size ∧ Holds w b off l)
/-- The reader stands in block rb: the bytes l are left. -/
def Rs (w : World) (rb : Nat) (l : List UInt8) (bad : Bool) : Prop := ∃ v, Blk w rb 73 #[v, .bool bad] ∧ Sb w rb v l
section
variable {w w' : World} {rb : Nat} {v : Value} {l : List UInt8} {bad : Bool}
theorem sx_nil (w : World) (rb : Nat) : Sx w rb (.slice none 0 0) [] := ⟨none, 0, rfl, by simp, by omega, fun _ => rfl, fun h => absurd rfl h⟩
theorem Sx.but (h : Sx w rb v l) (hb : But w.heap.size rb w w') : Sx w' rb v l := by
  obtain ⟨A, c, h1, h2, h3, h4, h5⟩ := h
  refine ⟨A, c, h1, h2, h3, h4, fun h0 => ?_⟩
  obtain ⟨b, off, e, hne, hlt, hh⟩ := h5 h0
  exact ⟨b, off, e, hne, Nat.lt_of_lt_of_le hlt hb.size, fun i hi => by rw [hb.cell hlt hne]; exact hh i hi⟩
theorem Sx.below (h : Sx w rb v l) (hb : Below w.heap.size w w') : Sx w' rb v l := h.but (But.of_below hb rb)
theorem Sx.holds {A : Option Addr} {n c : Nat} (h : Sx w rb (.slice A n c) l) : n = l.length ∧ l.length ≤ c ∧ c ≤ 9223372036854775807 ∧ (A = none → c = 0) ∧ HoldsA w A l := by
  obtain ⟨A', c', e, h2, h3, h4, h5⟩ := h
  injection e with e1 e2 e3
  subst e1 e3
  refine ⟨e2, h2, h3, h4, fun h0 => ?_⟩
  cases A with
  | none => have := h4 rfl; omega
  | some a =>
    obtain ⟨b, off, e, _, _, hh⟩ := h5 (fun e => by cases e)
    exact ⟨b, off, e, hh⟩
theorem Sx.form (h : Sx w rb v l) : ∃ A c, v = .slice A l.length c ∧ l.length ≤ c ∧ c ≤ 9223372036854775807 ∧ (A = none → c = 0) ∧ HoldsA w A l := by
  have h' := h
  obtain ⟨A, c, rfl, _⟩ := h
  exact ⟨A, c, rfl, h'.holds.2⟩
theorem Sb.sx (h : Sb w rb v l) : Sx w rb v l := by
  obtain ⟨A, c, h1, h2, h3, h4, h5⟩ := h
  refine ⟨A, c, h1, h2, h3, h4, fun h0 => ?_⟩
  obtain ⟨b, off, e, hlt, h6, hh⟩ := h5 h0
  exact ⟨b, off, e, by omega, h6, hh⟩
theorem Sb.form (h : Sb w rb v l) : ∃ A c, v = .slice A l.length c ∧ l.length ≤ c ∧ c ≤ 9223372036854775807 ∧ (A = none → c = 0) ∧ HoldsA w A l := h.sx.form
theorem Sb.but (h : Sb w rb v l) (hb : But w.heap.size rb w w') : Sb w' rb v l := by
  obtain ⟨A, c, h1, h2, h3, h4, h5⟩ := h
  refine ⟨A, c, h1, h2, h3, h4, fun h0 => ?_⟩
  obtain ⟨b, off, e, hr, hlt, hh⟩ := h5 h0
  exact ⟨b, off, e, hr, Nat.lt_of_lt_of_le hlt hb.size, fun i hi => by rw [hb.cell hlt (by omega)]; exact hh i hi⟩
theorem Sb.below (h : Sb w rb v l) (hb : Below w.heap.size w w') : Sb w' rb v l := h.but (But.of_below hb rb)
theorem Sb.low (h : Sb w rb v l) (hb : Below rb w w') : Sb w' rb v l := by
  obtain ⟨A, c, h1, h2, h3, h4, h5⟩ := h
  refine ⟨A, c, h1, h2, h3, h4, fun h0 => ?_⟩
  obtain ⟨b, off, e, hr, hlt, hh⟩ := h5 h0
  exact ⟨b, off, e, hr, Nat.lt_of_lt_of_le hlt hb.size, hh.below hb hr⟩
theorem sb_nil (w : World) (rb : Nat) : Sb w rb (.slice none 0 0) [] := ⟨none, 0, rfl, by simp, by omega, fun _ => rfl, fun h => absurd rfl h⟩
theorem Rs.keep (h : Rs w rb l bad) (hb : Below (rb + 1) w w') : Rs w' rb l bad := by
  obtain ⟨v, h1, h2⟩ := h
  exact ⟨v, h1.keep hb (by omega), h2.low (hb.mono (by omega))⟩
theorem Rs.lt (h : Rs w rb l bad) : rb < w.heap.size := by
  obtain ⟨v, h, _⟩ := h
  exact h.lt
theorem Rs.below (h : Rs w rb l bad) (hb : Below w.heap.size w w') : Rs w' rb l bad := by
  obtain ⟨v, h1, h2⟩ := h
  exact ⟨v, h1.keep hb h1.lt, h2.below hb⟩
theorem Row.sx {B : Nat} (h : Row w B v l) (hB : rb < B) : Sx w rb v l := by
  rcases h.2 with ⟨e, h0⟩ | ⟨g, cap, cur, e, hg, hh, h1, h2, _⟩
  · have : l = [] := List.eq_nil_of_length_eq_zero h0
    subst this e
    exact sx_nil w rb
  · have hlt : g < w.heap.size := World.ownsRow.lt h g (by rw [e]; rfl) |>.2
    refine ⟨_, cap, e, h1, by unfold maxLen at h2; omega, fun e => (by cases e), fun _ => ⟨g, 0, rfl, by omega, hlt, fun i hi => ?_⟩⟩
    obtain ⟨g', cap', e', _, _, _, hc⟩ := h.form (by omega)
    rw [e] at e'
    injection e' with e1
    injection e1 with e1
    injection e1 with e1
    rw [Nat.zero_add, e1]
    exact hc i hi
end

set_option maxHeartbeats 1000000 in
theorem bsome_in (rb b off m c k : Nat) (hk : k < c) (hm : k ≤ m) (_hmc : m ≤ c) (hc : c ≤ 9223372036854775807) (w : World) (h0 : w.cell? ⟨rb, 0, none⟩ = some (.slice (some ⟨b, off, none⟩) m c)) (hf : w.frozen? ⟨rb, 0, none⟩ = false) :
    Calls Tryd.prog 98 #[.pointer (some ⟨rb, 0, none⟩), .int .i64 k] w fun e w' => e = .returned (.slice (some ⟨b, off, none⟩) k k) ∧ w' = w.setCell ⟨rb, 0, none⟩ (.slice (some ⟨b, off + k, none⟩) (m - k) (c - k)) := by
  have hkm : ¬ (m : Int) < (k : Int) := by omega
  go_enter Tryd.func98, Tryd.ntmps98
  go_wp2
  go_ret
  exact ⟨rfl, rfl⟩

set_option maxHeartbeats 1000000 in
theorem bsome_all (rb b off k : Nat) (_hc : k ≤ 9223372036854775807) (w : World) (h0 : w.cell? ⟨rb, 0, none⟩ = some (.slice (some ⟨b, off, none⟩) k k)) (hf : w.frozen? ⟨rb, 0, none⟩ = false) :
    Calls Tryd.prog 98 #[.pointer (some ⟨rb, 0, none⟩), .int .i64 k] w fun e w' => e = .returned (.slice (some ⟨b, off, none⟩) k k) ∧ w' = w.setCell ⟨rb, 0, none⟩ (.slice (some ⟨b, off, none⟩) 0 0) := by
  go_enter Tryd.func98, Tryd.ntmps98
  go_wp2
  go_ret
  exact ⟨rfl, rfl⟩

set_option maxHeartbeats 1000000 in
theorem bsome_nil (rb : Nat) (w : World) (h0 : w.cell? ⟨rb, 0, none⟩ = some (.slice none 0 0)) (hf : w.frozen? ⟨rb, 0, none⟩ = false) :
    Calls Tryd.prog 98 #[.pointer (some ⟨rb, 0, none⟩), .int .i64 0] w fun e w' => e = .returned (.slice none 0 0) ∧ w' = w.setCell ⟨rb, 0, none⟩ (.slice none 0 0) := by
  go_enter Tryd.func98, Tryd.ntmps98
  go_wp2
  go_ret
  exact ⟨rfl, rfl⟩

set_option maxHeartbeats 1000000 in
theorem bsome_no (rb m c k : Nat) (A : Option Addr) (bad : Bool) (hk : m < k) (_hk2 : k ≤ 9223372036854775807) (w : World) (h0 : w.cell? ⟨rb, 0, none⟩ = some (.slice A m c)) (h1 : w.cell? ⟨rb, 1, none⟩ = some (.bool bad)) (hf : w.frozen? ⟨rb, 1, none⟩ = false) :
    Calls Tryd.prog 98 #[.pointer (some ⟨rb, 0, none⟩), .int .i64 k] w fun e w' => e = .returned (.slice none 0 0) ∧ w' = w.setCell ⟨rb, 1, none⟩ (.bool true) := by
  have hkm : (m : Int) < (k : Int) := by omega
  go_enter Tryd.func98, Tryd.ntmps98
  go_wp2
  go_ret
  exact ⟨rfl, rfl⟩

/-- What some leaves. -/
def SoEnd (rb : Nat) (l : List UInt8) (bad : Bool) (k : Nat) (w : World) (e : Ending) (w' : World) : Prop :=
  But w.heap.size rb w w' ∧ if k ≤ l.length then ∃ v, e = .returned v ∧ Sx w' rb v (l.take k) ∧ Rs w' rb (l.drop k) bad else e = .returned (.slice none 0 0) ∧ Rs w' rb l true
theorem bsome_any (rb : Nat) (l : List UInt8) (bad : Bool) (k : Nat) (hk : k ≤ 9223372036854775807) (w : World) (h : Rs w rb l bad) :
    Calls Tryd.prog 98 #[.pointer (some ⟨rb, 0, none⟩), .int .i64 k] w (SoEnd rb l bad k w) := by
  obtain ⟨v, hB, hS⟩ := h
  have hS' := hS
  obtain ⟨A, c, rfl, h2, h3, h4, h5⟩ := hS
  have c0 : w.cell? ⟨rb, 0, none⟩ = some (.slice A l.length c) := hB.cell 0
  have f0 := hB.free 0
  have f1 := hB.free 1
  unfold SoEnd
  by_cases hkl : k ≤ l.length
  · simp only [if_pos hkl]
    match A, c0, h4, h5, hB, hS' with
    | none, c0, h4, h5, hB, hS' =>
      have ec := h4 rfl
      subst ec
      have el : l = [] := List.eq_nil_of_length_eq_zero (by omega)
      subst el
      obtain rfl : k = 0 := by simpa using hkl
      refine (bsome_nil rb w c0 f0).mono fun e w' ⟨he, hw⟩ => ?_
      subst hw
      exact ⟨(But.refl _ _ _).setCell 0 _, _, he, (sx_nil _ _), _, hB.set 0 _, sb_nil _ _⟩
    | some a, c0, h4, h5, hB, hS' =>
      obtain ⟨b, off, e, hrb, hlt, hh⟩ := h5 (fun e => by cases e)
      cases e
      have hne : b ≠ rb := by omega
      have hbut : ∀ u, But w.heap.size rb w (w.setCell ⟨rb, 0, none⟩ u) := fun u => (But.refl _ _ _).setCell 0 u
      have htk : ∀ u, Sx (w.setCell ⟨rb, 0, none⟩ u) rb (.slice (some ⟨b, off, none⟩) k k) (l.take k) := fun u => by
        refine ⟨_, k, by rw [List.length_take, Nat.min_eq_left hkl], by rw [List.length_take]; omega, by omega, fun e => (by cases e), fun _ => ⟨b, off, rfl, hne, by simpa using hlt, fun i hi => ?_⟩⟩
        rw [List.length_take] at hi
        rw [(hbut u).cell hlt hne, hh i (by omega)]
        simp only [List.getD_eq_getElem?_getD, List.getElem?_take_of_lt (show i < k by omega)]
      by_cases hkc : k < c
      · refine (bsome_in rb b off l.length c k hkc hkl h2 h3 w c0 f0).mono fun e w' ⟨he, hw⟩ => ?_
        subst hw
        refine ⟨hbut _, _, he, htk _, _, hB.set 0 _, _, c - k, by rw [List.length_drop], by rw [List.length_drop]; omega, by omega, fun e => (by cases e), fun _ => ⟨b, off + k, rfl, hrb, by simpa using hlt, fun i hi => ?_⟩⟩
        rw [(hbut _).cell hlt hne]
        exact hh.drop k i hi
      · have ec : c = l.length := by omega
        have ek : k = l.length := by omega
        subst ec
        rw [← ek] at c0
        refine (bsome_all rb b off k (by omega) w c0 f0).mono fun e w' ⟨he, hw⟩ => ?_
        subst hw
        have ed : l.drop k = [] := List.drop_eq_nil_of_le (by omega)
        rw [ed]
        exact ⟨hbut _, _, he, htk _, _, hB.set 0 _, _, 0, rfl, by simp, by omega, fun e => (by cases e), fun _ => ⟨b, off, rfl, hrb, by simpa using hlt, fun i hi => absurd hi (by simp)⟩⟩
  · simp only [if_neg hkl]
    refine (bsome_no rb l.length c k A bad (by omega) hk w c0 (hB.cell 1) f1).mono fun e w' ⟨he, hw⟩ => ?_
    subst hw
    have hbut : But w.heap.size rb w (w.setCell ⟨rb, 1, none⟩ (.bool true)) := (But.refl _ _ _).setCell 1 _
    exact ⟨hbut, he, _, hB.set 1 _, hS'.but hbut⟩
end Go.Proofs.YtfcnobcpnhfgmaaDoor

/- The block's reader: a number; a number and so many bytes. Conditions: the reader holds its bytes, a million at most. -/
namespace Go.Proofs.YtfcnobcpnhfgmaaDoor
open Go.RowKit

/-- What number leaves. -/
def NuEnd (rb : Nat) (l : List UInt8) (bad : Bool) (w : World) (e : Ending) (w' : World) : Prop :=
  But w.heap.size rb w w' ∧ match tk l with
    | some (n, r) => e = .returned (.int .i64 (n : Int)) ∧ Rs w' rb r bad
    | none => e = .returned (.int .i64 0) ∧ Rs w' rb l true
set_option maxRecDepth 100000 in
set_option maxHeartbeats 2000000 in
theorem bnumber_no (rb m h c : Nat) (A : Option Addr) (hh : h = min m 9) (hmc : m ≤ c) (hc : c ≤ 9223372036854775807) (hA : A = none → c = 0) (bad : Bool) (w : World) (h0 : w.cell? ⟨rb, 0, none⟩ = some (.slice A m c)) (h1 : w.cell? ⟨rb, 1, none⟩ = some (.bool bad)) (hf : w.frozen? ⟨rb, 1, none⟩ = false) (hlt : rb < w.heap.size)
    (HT : ∀ W, Below w.heap.size w W → Calls Tryd.prog 24 #[.slice A h c] W fun e w' => e = .returned (.tuple #[.int .i64 0, .slice none 0 0, .bool false]) ∧ Below w.heap.size w w') :
    Calls Tryd.prog 49 #[.pointer (some ⟨rb, 0, none⟩)] w fun e w' => e = .returned (.int .i64 0) ∧ ∃ w1, Below w.heap.size w w1 ∧ w' = w1.setCell ⟨rb, 1, none⟩ (.bool true) := by
  have mixed : Tryd.prog.follows .mixedOrders = true := by kernel_rfl
  have hmin : min 9 (m : Int) = (h : Int) := by omega
  have hhc : h ≤ c := by omega
  have hhz : (h : Int) ≤ (c : Int) := by omega
  have hh0 : (0 : Int) ≤ (h : Int) := by omega
  have HT := hid HT
  have HL := hid (And.intro hlt (And.intro hf h1))
  have hHH := hid hh
  clear hh hlt hf h1
  cases A with
  | none =>
    obtain rfl := hA rfl
    obtain rfl : m = 0 := by omega
    obtain rfl : h = 0 := by omega
    clear hmin hA
    go_enter Tryd.func49, Tryd.ntmps49
    go_wp2
    go_region
    all_goals
      go_wp2_with (go_at_call 24; refine (HT.out _ (by repeat' (first | exact Below.refl _ _ | apply Below.drew | apply Go.below_drewN))).mono ?_; rintro e w1 ⟨rfl, hb1⟩; have f1 : w1.frozen? ⟨rb, 1, none⟩ = false := (hb1.frozen (p := ⟨rb, 1, none⟩) HL.out.1).trans HL.out.2.1; have g1 : w1.cell? ⟨rb, 1, none⟩ = some (.bool bad) := (hb1.cell (p := ⟨rb, 1, none⟩) HL.out.1).trans HL.out.2.2)
      go_ret
      exact ⟨rfl, _, hb1, rfl⟩
  | some ad =>
    clear hA
    go_enter Tryd.func49, Tryd.ntmps49
    go_wp2
    go_region
    all_goals
      go_wp2_with (go_at_call 24; refine (HT.out _ (by repeat' (first | exact Below.refl _ _ | apply Below.drew | apply Go.below_drewN))).mono ?_; rintro e w1 ⟨rfl, hb1⟩; have f1 : w1.frozen? ⟨rb, 1, none⟩ = false := (hb1.frozen (p := ⟨rb, 1, none⟩) HL.out.1).trans HL.out.2.1; have g1 : w1.cell? ⟨rb, 1, none⟩ = some (.bool bad) := (hb1.cell (p := ⟨rb, 1, none⟩) HL.out.1).trans HL.out.2.2)
      go_ret
      exact ⟨rfl, _, hb1, rfl⟩
set_option maxRecDepth 100000 in
set_option maxHeartbeats 2000000 in
theorem bnumber_yes (rb m h c n k : Nat) (A : Option Addr) (Q : World → Prop) (hh : h = min m 9) (hk : k ≤ h) (hk1 : 1 ≤ k) (hmc : m ≤ c) (hc : c ≤ 9223372036854775807) (hA : A = none → c = 0) (w : World) (h0 : w.cell? ⟨rb, 0, none⟩ = some (.slice A m c))
    (HT : ∀ W, Below w.heap.size w W → Calls Tryd.prog 24 #[.slice A h c] W fun e w' => ∃ A' c', e = .returned (.tuple #[.int .i64 (n : Int), .slice A' (h - k) c', .bool true]) ∧ Below w.heap.size w w')
    (HS : ∀ W, Below w.heap.size w W → Calls Tryd.prog 98 #[.pointer (some ⟨rb, 0, none⟩), .int .i64 (k : Int)] W fun e w' => ∃ v, e = .returned v ∧ Q w') :
    Calls Tryd.prog 49 #[.pointer (some ⟨rb, 0, none⟩)] w fun e w' => e = .returned (.int .i64 (n : Int)) ∧ Q w' := by
  have mixed : Tryd.prog.follows .mixedOrders = true := by kernel_rfl
  have hmin : min 9 (m : Int) = (h : Int) := by omega
  have hhc : h ≤ c := by omega
  have hhz : (h : Int) ≤ (c : Int) := by omega
  have hh0 : (0 : Int) ≤ (h : Int) := by omega
  obtain ⟨j, hj⟩ : ∃ j, h - k = j := ⟨_, rfl⟩
  have hsub : (h : Int) - (j : Int) = (k : Int) := by omega
  obtain ⟨ad, rfl⟩ : ∃ ad, A = some ad := by
    cases A with
    | none => have := hA rfl; omega
    | some ad => exact ⟨ad, rfl⟩
  rw [hj] at HT
  have HT := hid HT
  have HS := hid HS
  clear hh hj hA
  go_enter Tryd.func49, Tryd.ntmps49
  go_wp2
  go_region
  all_goals
    go_wp2_with (first
      | (go_at_call 24; refine (HT.out _ (by repeat' (first | exact Below.refl _ _ | apply Below.drew | apply Go.below_drewN))).mono ?_; rintro e w1 ⟨A', c', rfl, hb1⟩)
      | (go_at_call 98; refine (HS.out _ hb1).mono ?_; rintro e w2 ⟨v, rfl, hQ⟩))
    go_ret
    exact ⟨rfl, hQ⟩
theorem bnumber_any (rb : Nat) (l : List UInt8) (bad : Bool) (w : World) (h : Rs w rb l bad) :
    Calls Tryd.prog 49 #[.pointer (some ⟨rb, 0, none⟩)] w (NuEnd rb l bad w) := by
  have hR := h
  obtain ⟨v, hB, hS⟩ := h
  obtain ⟨A, c, rfl, h2, h3, h4, h5⟩ := hS.form
  have c0 : w.cell? ⟨rb, 0, none⟩ = some (.slice A l.length c) := hB.cell 0
  have e9 : (l.take 9).length = min l.length 9 := by rw [List.length_take, Nat.min_comm]
  have h9 : HoldsA w A (l.take 9) := fun h0 => by
    have hl : 0 < l.length := by rw [List.length_take] at h0; omega
    obtain ⟨b, off, e, hh⟩ := h5 hl
    refine ⟨b, off, e, fun i hi => ?_⟩
    rw [List.length_take] at hi
    rw [hh i (by omega)]
    simp only [List.getD_eq_getElem?_getD, List.getElem?_take_of_lt (show i < 9 by omega)]
  have HT : ∀ W, Below w.heap.size w W → Calls Tryd.prog 24 #[.slice A (min l.length 9) c] W (TEndO W (tk (l.take 9))) := fun W hW => by
    have := take_any A c (l.take 9) (by rw [List.length_take]; omega) (by rw [List.length_take]; omega) h3 W (fun h0 => by
      obtain ⟨b, off, e, hh⟩ := h9 h0
      exact ⟨b, off, e, hh.below hW (hh.lt h0)⟩)
    rwa [e9] at this
  unfold NuEnd
  cases ht : tk l with
  | none =>
    rw [tk9_none ht] at HT
    refine (bnumber_no rb l.length (min l.length 9) c A rfl h2 h3 h4 bad w c0 (hB.cell 1) (hB.free 1) hB.lt (fun W hW => (HT W hW).mono fun e w' ⟨he, hb⟩ => ⟨he, hW.trans (hb.mono hW.size)⟩)).mono fun e w' ⟨he, w1, hb, hw⟩ => ?_
    subst hw
    have hbut : But w.heap.size rb w (w1.setCell ⟨rb, 1, none⟩ (.bool true)) := (But.of_below hb rb).setCell 1 _
    exact ⟨hbut, he, _, (hB.keep hb hB.lt).set 1 _, hS.but hbut⟩
  | some p =>
    obtain ⟨n, r⟩ := p
    obtain ⟨t1, t2, t3⟩ := tk9_some ht
    rw [t1] at HT
    have hlen : (r.take (9 - (numW n).length)).length = min l.length 9 - (numW n).length := by rw [List.length_take]; omega
    have hd : l.drop (numW n).length = r := by rw [tk_back ht, List.drop_left]
    refine (bnumber_yes rb l.length (min l.length 9) c n (numW n).length A (fun w' => But w.heap.size rb w w' ∧ Rs w' rb r bad) rfl (by omega) (numW_pos n) h2 h3 h4 w c0 (fun W hW => (HT W hW).mono fun e w' ⟨v, he, hr, hb⟩ => ?_) (fun W hW => (bsome_any rb l bad (numW n).length (by omega) W (hR.below hW)).mono fun e w' hs => ?_)).mono fun e w' ⟨he, hb, hr⟩ => ⟨hb, he, hr⟩
    · obtain ⟨A', c', rfl, _⟩ := (show ∃ A c, v = .slice A (r.take (9 - (numW n).length)).length c ∧ True from by
        rcases hr.2 with ⟨e, h0⟩ | ⟨g, cap, cur, e, _⟩
        · exact ⟨none, 0, by rw [e, h0], trivial⟩
        · exact ⟨_, _, e, trivial⟩)
      rw [hlen] at he
      exact ⟨A', c', he, hW.trans (hb.mono hW.size)⟩
    · obtain ⟨hbut, hs⟩ := hs
      rw [if_pos (by omega), hd] at hs
      obtain ⟨v, he, _, hr⟩ := hs
      exact ⟨v, he, (But.of_below hW rb).trans (hbut.mono hW.size), hr⟩

/-- What counted leaves: where the bytes aren't such, the reader is bad. -/
def CoEnd (rb : Nat) (l : List UInt8) (bad : Bool) (w : World) (e : Ending) (w' : World) : Prop :=
  But w.heap.size rb w w' ∧ match cntT l with
    | some (x, r) => ∃ v, e = .returned v ∧ Sx w' rb v x ∧ Rs w' rb r bad
    | none => ∃ v r, e = .returned v ∧ Sx w' rb v [] ∧ Rs w' rb r true ∧ r.length ≤ l.length
set_option maxRecDepth 100000 in
set_option maxHeartbeats 2000000 in
theorem bcounted_walk (rb : Nat) (n : Nat) (Q1 : World → Prop) (Q : Value → World → Prop) (w : World)
    (HN : Calls Tryd.prog 49 #[.pointer (some ⟨rb, 0, none⟩)] w fun e w' => e = .returned (.int .i64 (n : Int)) ∧ Q1 w')
    (HS : ∀ W, Q1 W → Calls Tryd.prog 98 #[.pointer (some ⟨rb, 0, none⟩), .int .i64 (n : Int)] W fun e w' => ∃ v, e = .returned v ∧ Q v w') :
    Calls Tryd.prog 101 #[.pointer (some ⟨rb, 0, none⟩)] w fun e w' => ∃ v, e = .returned v ∧ Q v w' := by
  have HN := hid HN
  have HS := hid HS
  go_enter Tryd.func101, Tryd.ntmps101
  go_wp2_with (first
    | (go_at_call 49; refine HN.out.mono ?_; rintro e w1 ⟨rfl, h1⟩)
    | (go_at_call 98; refine (HS.out _ h1).mono ?_; rintro e w2 ⟨v, rfl, hQ⟩))
  go_ret
  exact ⟨_, rfl, hQ⟩
theorem bcounted_any (rb : Nat) (l : List UInt8) (bad : Bool) (w : World) (h : Rs w rb l bad) :
    Calls Tryd.prog 101 #[.pointer (some ⟨rb, 0, none⟩)] w (CoEnd rb l bad w) := by
  have HN := bnumber_any rb l bad w h
  unfold NuEnd at HN
  unfold CoEnd cntT
  cases ht : tk l with
  | none =>
    rw [ht] at HN
    refine (bcounted_walk rb 0 (fun w' => But w.heap.size rb w w' ∧ Rs w' rb l true) (fun v w' => But w.heap.size rb w w' ∧ Sx w' rb v [] ∧ Rs w' rb l true) w (HN.mono fun e w' ⟨a, b, c⟩ => ⟨b, a, c⟩) (fun W ⟨hW, hR⟩ => (bsome_any rb l true 0 (by omega) W hR).mono fun e w' hs => ?_)).mono fun e w' ⟨v, he, hb, hx, hr⟩ => ⟨hb, v, l, he, hx, hr, Nat.le_refl _⟩
    obtain ⟨hbut, hs⟩ := hs
    rw [if_pos (Nat.zero_le _)] at hs
    obtain ⟨v, he, hx, hr⟩ := hs
    exact ⟨v, he, hW.trans (hbut.mono hW.size), hx, hr⟩
  | some p =>
    obtain ⟨n, r⟩ := p
    rw [ht] at HN
    have hn := tk_lt ht
    have hrl : r.length ≤ l.length := by have := congrArg List.length (tk_back ht); rw [List.length_append] at this; omega
    show Calls _ _ _ _ fun e w' => But w.heap.size rb w w' ∧ match (if n ≤ r.length then some (r.take n, r.drop n) else none) with
      | some (x, r) => ∃ v, e = .returned v ∧ Sx w' rb v x ∧ Rs w' rb r bad
      | none => ∃ v r, e = .returned v ∧ Sx w' rb v [] ∧ Rs w' rb r true ∧ r.length ≤ l.length
    by_cases hnr : n ≤ r.length
    · rw [if_pos hnr]
      refine (bcounted_walk rb n (fun w' => But w.heap.size rb w w' ∧ Rs w' rb r bad) (fun v w' => But w.heap.size rb w w' ∧ Sx w' rb v (r.take n) ∧ Rs w' rb (r.drop n) bad) w (HN.mono fun e w' ⟨a, b, c⟩ => ⟨b, a, c⟩) (fun W ⟨hW, hR⟩ => (bsome_any rb r bad n (by omega) W hR).mono fun e w' hs => ?_)).mono fun e w' ⟨v, he, hb, hx, hr⟩ => ⟨hb, v, he, hx, hr⟩
      obtain ⟨hbut, hs⟩ := hs
      rw [if_pos hnr] at hs
      obtain ⟨v, he, hx, hr⟩ := hs
      exact ⟨v, he, hW.trans (hbut.mono hW.size), hx, hr⟩
    · rw [if_neg hnr]
      refine (bcounted_walk rb n (fun w' => But w.heap.size rb w w' ∧ Rs w' rb r bad) (fun v w' => But w.heap.size rb w w' ∧ Sx w' rb v [] ∧ Rs w' rb r true) w (HN.mono fun e w' ⟨a, b, c⟩ => ⟨b, a, c⟩) (fun W ⟨hW, hR⟩ => (bsome_any rb r bad n (by omega) W hR).mono fun e w' hs => ?_)).mono fun e w' ⟨v, he, hb, hx, hr⟩ => ⟨hb, v, r, he, hx, hr, hrl⟩
      obtain ⟨hbut, hs⟩ := hs
      rw [if_neg hnr] at hs
      obtain ⟨he, hr⟩ := hs
      exact ⟨_, he, hW.trans (hbut.mono hW.size), sx_nil _ _, hr⟩
end Go.Proofs.YtfcnobcpnhfgmaaDoor
