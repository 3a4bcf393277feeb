/- The reader's cell at any bytes: the cell whose bytes they are, or the panic. Conditions: the reader holds the bytes, four thousand at most; the tables of utf8 read as they are laid. -/
import Derived.Test.YtpjkhholpbfbpaaDoorMJ
import Derived.Test.YtpjkhholpbfbpaaDoorCHa
import Derived.Test.YtpjkhholpbfbpaaDoorCQ
namespace Go.Proofs.YtpjkhholpbfbpaaDoor
open Go.RowKit

abbrev zeroA : Array Value := #[.string ⟨#[]⟩, .string ⟨#[]⟩, .string ⟨#[]⟩, .int .i64 0, .int .i64 0, .int .i64 0, .int .i64 0, .string ⟨#[]⟩]
theorem Blk.but {w w' : World} {rb k : Nat} {T : TypeId} {xs : Array Value} (h : Blk w k T xs) (hb : But w.heap.size rb w w') (hne : k ≠ rb) : Blk w' k T xs := by
  have hl := h.lt
  unfold Blk at *; rw [hb.block k hl hne]; exact h
theorem But.alloc {B rb : Nat} {w w1 : World} (h : But B rb w w1) (hB : B ≤ w1.heap.size) (o : Obj) : But B rb w (w1.alloc o) := h.trans (But.of_below ((below_new w1 o).mono hB) rb)
theorem But.setO {B rb : Nat} {w w1 : World} (h : But B rb w w1) {b : Nat} (hp : B ≤ b) (i : Nat) (v : Value) : But B rb w (w1.setCell ⟨b, i, none⟩ v) := h.trans (But.of_below ((Below.refl _ _).setCell (p := ⟨b, i, none⟩) hp v) rb)

/-- Where the reader and its cell stand. -/
structure CSt (w W : World) (rb cb : Nat) (xs : Array Value) (l : List UInt8) : Prop where
  c : Blk W cb 28 xs
  z : Blk W w.heap.size 28 zeroA
  st : St W rb l
  but : But w.heap.size rb w W
  lt : w.heap.size < cb
  rlt : rb < w.heap.size
section
variable {w W W' : World} {rb cb : Nat} {xs : Array Value} {l l' : List UInt8}
theorem CSt.call (h : CSt w W rb cb xs l) (hb : But W.heap.size rb W W') (hs : St W' rb l') : CSt w W' rb cb xs l' := by
  have h1 := h.lt
  have h2 := h.rlt
  exact ⟨h.c.but hb (by omega), h.z.but hb (by omega), hs, h.but.trans (hb.mono h.but.size), h1, h2⟩
theorem CSt.below (h : CSt w W rb cb xs l) (hb : Below W.heap.size W W') : CSt w W' rb cb xs l := h.call (But.of_below hb rb) (h.st.keep (hb.mono h.st.2.2))
theorem CSt.set (h : CSt w W rb cb xs l) (j : Nat) (v : Value) : CSt w (W.setCell ⟨cb, j, none⟩ v) rb cb (xs.setIfInBounds j v) l := by
  have h1 := h.lt
  have h2 := h.rlt
  refine ⟨h.c.set j v, ?_, ?_, h.but.setO (by omega) j v, h1, h2⟩
  · have := h.z
    unfold Blk at *
    rw [Below.heap_setCell _ _ _ _ (show w.heap.size ≠ (⟨cb, j, none⟩ : Addr).block by show _ ≠ cb; omega)]; exact this
  · exact h.st.keep ((Below.refl _ _).setCell (p := ⟨cb, j, none⟩) (by show _ ≤ cb; omega) v)
theorem CSt.cell (h : CSt w W rb cb xs l) (j : Nat) : W.cell? ⟨cb, j, none⟩ = xs[j]? := h.c.cell j
end
/-- The cell that was made ahead of all. -/
theorem CSt.new {w w0 w1 w2 : World} {rb : Nat} {l : List UInt8} (hr : rb < w.heap.size) (e0 : w0 = w.alloc (.cells zeroA 28)) (h1 : But w0.heap.size rb w0 w1) (h2 : But w1.heap.size rb w1 w2) (hs : St w2 rb l) (xs : Array Value) :
    CSt w (w2.alloc (.cells xs 28)) rb w2.heap.size xs l := by
  subst e0
  have b0 := Blk.new w 28 zeroA
  have b1 := b0.but h1 (by omega)
  have b2 := b1.but h2 (by omega)
  have hz : w.heap.size < w2.heap.size := b2.lt
  have hb : But w.heap.size rb w w2 := (((But.refl _ _ _).alloc (Nat.le_refl _) _).trans (h1.mono (by simp))).trans (h2.mono (Nat.le_of_lt b1.lt))
  refine ⟨Blk.new w2 _ _, b2.keep (below_new _ _) hz, hs.keep ((below_new _ _).mono hs.2.2), hb.alloc (Nat.le_of_lt hz) _, hz, hr⟩

theorem esc_ge (l : List UInt8) : l.length ≤ (esc l).length := by
  induction l with
  | nil => simp
  | cons c l ih => unfold esc; split <;> simp only [List.length_cons] <;> omega

/-- What a reader's cell ends in. -/
def CellEnd (rb : Nat) (l : List UInt8) (w : World) (e : Ending) (w' : World) : Prop :=
  But w.heap.size rb w w' ∧ ((∃ (r f q : List UInt8) (t k vk vn : Int) (vs : List UInt8), cRight r f q t k vk vn vs = true ∧ inI vn ∧ cEnc r f q t k vk vn vs = l ∧ e = .returned (cellV ⟨r.toArray⟩ ⟨f.toArray⟩ ⟨q.toArray⟩ t k vk vn ⟨vs.toArray⟩)) ∨ (NoCell l ∧ e = otherP))

set_option maxRecDepth 100000 in
set_option maxHeartbeats 4000000 in
theorem rcell_any (rb : Nat) (l : List UInt8) (hl : l.length ≤ 4000) (w : World) (h : St w rb l) (hL : ∀ W, Below rb w W → LaidU W) :
    Calls Tryd.prog 36 #[.pointer (some ⟨rb, 0, none⟩)] w (CellEnd rb l w) := by
  have hlt := h.2.2
  have HLT := hid hlt
  have HS0 : Hid (St (w.alloc (.cells zeroA 28)) rb l) := h.keep ((below_new _ _).mono hlt)
  have HB0 : Hid (But w.heap.size rb w (w.alloc (.cells zeroA 28))) := (But.refl _ _ _).alloc (Nat.le_refl _) _
  have HL := hid hL
  cases h1 : rdT l with
  | none =>
    have HT := rtext_any rb l (by omega) _ HS0.out
    rw [h1] at HT
    have HT := hid HT
    have HE := hid (no_head h1)
    clear h hlt hL h1
    go_enter Tryd.func36, Tryd.ntmps36
    go_wp2_with (go_at_call 68; refine HT.out.mono ?_; rintro e w1 ⟨hb1, rfl⟩)
    refine ⟨rfl, ?_⟩
    exact ⟨HB0.out.trans (hb1.mono (by simp)), .inr ⟨HE.out, rfl⟩⟩
  | some p =>
    obtain ⟨r, l1⟩ := p
    have HT := rtext_any rb l (by omega) _ HS0.out
    rw [h1] at HT
    have HT : Hid (Calls Tryd.prog 68 #[.pointer (some ⟨rb, 0, none⟩)] (w.alloc (.cells zeroA 28)) fun e w' => But (w.alloc (.cells zeroA 28)).heap.size rb (w.alloc (.cells zeroA 28)) w' ∧ e = .returned (.string ⟨r.toArray⟩) ∧ St w' rb l1) := HT
    have hl1 : l1.length ≤ 4000 := by have := congrArg List.length (rdT_rest h1); simp at this; omega
    cases h2 : rdT l1 with
    | none =>
      have HT2 : Hid (∀ W, St W rb l1 → Calls Tryd.prog 68 #[.pointer (some ⟨rb, 0, none⟩)] W fun e w' => But W.heap.size rb W w' ∧ e = otherP) := fun W hW => by
        have := rtext_any rb l1 (by omega) W hW
        rwa [h2] at this
      have HE := hid (no_fam h1 h2)
      clear h hlt hL h1 h2
      go_enter Tryd.func36, Tryd.ntmps36
      go_wp2_with (first
        | (go_at_call 68; ((with_reducible refine HT.out.mono ?_); rintro e w1 ⟨hb1, rfl, hS1⟩))
        | (go_at_call 68; ((with_reducible refine (HT2.out _ hS1).mono ?_); rintro e w2 ⟨hb2, rfl⟩)))
      refine ⟨rfl, ?_⟩
      exact ⟨(HB0.out.trans (hb1.mono (by simp))).trans (hb2.mono (by have := hb1.size; simp at this; omega)), .inr ⟨HE.out, rfl⟩⟩
    | some p =>
      obtain ⟨f, l2⟩ := p
      have HT2 : Hid (∀ W, St W rb l1 → Calls Tryd.prog 68 #[.pointer (some ⟨rb, 0, none⟩)] W fun e w' => But W.heap.size rb W w' ∧ e = .returned (.string ⟨f.toArray⟩) ∧ St w' rb l2) := fun W hW => by
        have := rtext_any rb l1 (by omega) W hW
        rwa [h2] at this
      have hl2 : l2.length ≤ 4000 := by have := congrArg List.length (rdT_rest h2); simp at this; omega
      have H1 := hid h1
      have H2 := hid h2
      clear h hlt hL h1 h2
      go_enter Tryd.func36, Tryd.ntmps36
      go_upto_region 2 with (first
        | (go_at_call 68; ((with_reducible refine HT.out.mono ?_); rintro e w1 ⟨hb1, rfl, hS1⟩))
        | (go_at_call 68; ((with_reducible refine (HT2.out _ hS1).mono ?_); rintro e w2 ⟨hb2, rfl, hS2⟩)))
      obtain ⟨cb, hcb⟩ : ∃ cb, w2.heap.size = cb := ⟨_, rfl⟩
      refine wp_ltr (fun W => CSt w W rb cb #[.string ⟨r.toArray⟩, .string ⟨f.toArray⟩, .string ⟨#[]⟩, .int .i64 0, .int .i64 0, .int .i64 0, .int .i64 0, .string ⟨#[]⟩] l2) (by rw [← hcb]; exact CSt.new HLT.out rfl hb1 hb2 hS2 _) (fun W hC => ?_)
      rw [hcb]
      clear hcb hb1 hb2 hS1 hS2 HT HT2 HS0 HB0
      have HC := hid hC
      clear hC
      by_cases hm : ∃ l3, l2 = 0 :: 0 :: l3
      · obtain ⟨l3, rfl⟩ := hm
        have HSk : Hid (∀ W, St W rb (0 :: 0 :: l3) → Calls Tryd.prog 69 #[.pointer (some ⟨rb, 0, none⟩), .int .u8 0, .int .u8 0] W fun e w' => But W.heap.size rb W w' ∧ e = .returned (.bool true) ∧ St w' rb l3) := fun W hW => by
          refine (skip_any rb _ W hW).mono fun e w' h => ?_
          rcases h with ⟨r', e1, e2, e3, e4⟩ | ⟨e1, _⟩
          · injection e1 with _ e1; injection e1 with _ e1; subst e1; exact ⟨e4, e2, e3⟩
          · exact absurd rfl (e1 l3)
        have HTK : Hid (Took l r f [] true l3) := ⟨_, _, H1.out, H2.out, .inl ⟨rfl, rfl, rfl⟩⟩
        have HSZ : Hid (r.length ≤ 9223372036854775807 ∧ f.length ≤ 9223372036854775807 ∧ l3.length ≤ 4000) := by
          have a1 := congrArg List.length (rdT_rest H1.out)
          have a2 := congrArg List.length (rdT_rest H2.out)
          have a3 := esc_ge r
          have a4 := esc_ge f
          simp at a1 a2 hl2
          exact ⟨by omega, by omega, by omega⟩
        clear H1 H2 hl1 hl2
        go_upto_region 5 with (first
          | (go_at_call 69; refine (HSk.out _ HC.out.st).mono ?_; rintro e w3 ⟨hb3, rfl, hS3⟩))
        refine wp_ltr (fun W => CSt w W rb cb #[.string ⟨r.toArray⟩, .string ⟨f.toArray⟩, .string ⟨#[]⟩, .int .i64 0, .int .i64 0, .int .i64 0, .int .i64 0, .string ⟨#[]⟩] l3) (HC.out.call hb3 hS3) (fun W3 hC3 => ?_)
        have HC3 := hid hC3
        clear hC3 hb3 hS3 HC HSk
        by_cases h8 : 8 ≤ l3.length
        · obtain ⟨T, hT⟩ : ∃ T : Int, 9223372036854775807 - (foldB (l3.take 8) : Int) = T := ⟨_, rfl⟩
          have HM : Hid (∀ W, St W rb l3 → Calls Tryd.prog 70 #[.pointer (some ⟨rb, 0, none⟩)] W fun e w' => But W.heap.size rb W w' ∧ e = .returned (.int .i64 T) ∧ St w' rb (l3.drop 8)) := fun W hW => by
            refine (rtime_any rb l3 W hW).mono fun e w' h => ?_
            unfold TmEnd at h
            rw [if_pos h8, hT] at h
            exact ⟨h.1, h.2.1, h.2.2⟩
          have c3 : W3.cell? ⟨cb, 3, none⟩ = some (.int .i64 0) := HC3.out.cell 3
          cases hd : l3.drop 8 with
          | nil =>
            rw [hd] at HM
            have HE := hid (HTK.out.no9 hd)
            have HO : Hid (∀ W, St W rb [] → Calls Tryd.prog 71 #[.pointer (some ⟨rb, 0, none⟩)] W (OneEnd W rb [])) := fun W h => one_any rb [] W h
            clear hd hT
            go_wp2_with (first
              | (go_at_call 70; refine (HM.out _ HC3.out.st).mono ?_; rintro e w5 ⟨hb5, rfl, hS5⟩; have HC4 := hid ((HC3.out.call hb5 hS5).set 3 (.int .i64 T)); have c3' : w5.cell? ⟨cb, 3, none⟩ = some (.int .i64 0) := (HC3.out.call hb5 hS5).cell 3; have f3 : w5.frozen? ⟨cb, 3, none⟩ = false := (HC3.out.call hb5 hS5).c.free 3)
              | (go_at_call 71; refine (HO.out _ HC4.out.st).mono ?_; rintro e w6 ⟨hb6, rfl⟩))
            refine ⟨rfl, ?_⟩
            exact ⟨HC4.out.but.trans (hb6.mono HC4.out.but.size), .inr ⟨HE.out, rfl⟩⟩
          | cons x V =>
            rw [hd] at HM
            obtain ⟨z, hz⟩ : ∃ z : Int, (x.toNat : Int) = z := ⟨_, rfl⟩
            have HO : Hid (∀ W, St W rb (x :: V) → Calls Tryd.prog 71 #[.pointer (some ⟨rb, 0, none⟩)] W fun e w' => But W.heap.size rb W w' ∧ e = .returned (.int .u8 z) ∧ St w' rb V) := fun W h => one_cons rb x V W h z hz
            have hx := u8_lt x
            have hz0 : 0 ≤ z := by omega
            have hz1 : z < 256 := by omega
            have HD0 := hid (And.intro hd (And.intro hT (And.intro hz h8)))
            clear hd hT hz hx h8
            go_upto_region 7 with (first
              | (go_at_call 70; refine (HM.out _ HC3.out.st).mono ?_; rintro e w5 ⟨hb5, rfl, hS5⟩; have HC4 := hid ((HC3.out.call hb5 hS5).set 3 (.int .i64 T)); have c3' : w5.cell? ⟨cb, 3, none⟩ = some (.int .i64 0) := (HC3.out.call hb5 hS5).cell 3; have f3 : w5.frozen? ⟨cb, 3, none⟩ = false := (HC3.out.call hb5 hS5).c.free 3)
              | (go_at_call 71; refine (HO.out _ HC4.out.st).mono ?_; rintro e w6 ⟨hb6, rfl, hS6⟩; have HC5 := hid (HC4.out.call hb6 hS6); have c4 : w6.cell? ⟨cb, 4, none⟩ = some (.int .i64 0) := HC5.out.cell 4; have f4 : w6.frozen? ⟨cb, 4, none⟩ = false := HC5.out.c.free 4))
            refine wp_ltr (fun W => CSt w W rb cb #[.string ⟨r.toArray⟩, .string ⟨f.toArray⟩, .string ⟨#[]⟩, .int .i64 T, .int .i64 (255 - z), .int .i64 0, .int .i64 0, .string ⟨#[]⟩] V) (HC5.out.set 4 _) (fun W5 hC5 => ?_)
            clear HM HO HC4 HC5 hb5 hb6 hS5 hS6 c3 c3' f3 c4 f4 HC3
            obtain ⟨k, hk⟩ : ∃ k : Int, 255 - z = k := ⟨_, rfl⟩
            rw [hk] at hC5
            try rw [hk]
            have HC5 := hid hC5
            have HKK : Hid (255 - (x.toNat : Int) = k) := by have := HD0.out.2.2.1; unfold Hid; omega
            clear hC5 hk hz0 hz1
            have g4 : W5.cell? ⟨cb, 4, none⟩ = some (.int .i64 k) := HC5.out.cell 4
            by_cases k4 : k = 4
            · subst k4
              have HD : Hid (l3.drop 8 = x :: V ∧ T = 9223372036854775807 - (foldB (l3.take 8) : Int) ∧ 255 - (x.toNat : Int) = 4 ∧ 8 ≤ l3.length ∧ true = decide (255 - (x.toNat : Int) = 4)) := ⟨HD0.out.1, HD0.out.2.1.symm, HKK.out, HD0.out.2.2.2, by rw [HKK.out]; rfl⟩
              have k4 : True := trivial
              cases V with
              | cons y V =>
                have HE : Hid (NoCell l) := HTK.out.noRest HD.out.1 (by rw [HD.out.2.2.1]; decide) (by simp)
                have hst := HC5.out.st
                obtain ⟨⟨v, hv, A, c, rfl, hs2, hs3, hs4⟩, hs5, hs6⟩ := hst
                have hv : W5.cell? ⟨rb, 0, none⟩ = some (.slice A (V.length + 1) c) := hv
                have q9 : ((V.length : Int) + 1 == 0) = false := by simp; omega
                clear hs2 hs3 hs4 hs5 hs6
                go_wp2_with (first
                  | (go_at_call 72; ((with_reducible refine (want_yes _ _).mono ?_); rintro e w9 ⟨rfl, rfl⟩))
                  | (go_at_call 72; ((with_reducible refine (want_no _ _).mono ?_); rintro e w9 ⟨rfl, rfl⟩)))
                refine ⟨rfl, ?_⟩
                exact ⟨HC5.out.but, .inr ⟨HE.out, rfl⟩⟩
              | nil =>
                have hst := HC5.out.st
                obtain ⟨⟨v, hv, A, c, rfl, hs2, hs3, hs4⟩, hs5, hs6⟩ := hst
                have hv : W5.cell? ⟨rb, 0, none⟩ = some (.slice A 0 c) := hv
                clear hs2 hs3 hs4 hs5 hs6
                go_upto_region 13 with (first
                  | (go_at_call 72; ((with_reducible refine (want_yes _ _).mono ?_); rintro e w9 ⟨rfl, rfl⟩)))
                clear hv k4
                have HCw := HC5
                have HR : Hid (∀ W', Below rb w W' → Calls Tryd.prog 33 #[cellV ⟨r.toArray⟩ ⟨f.toArray⟩ ⟨#[]⟩ T 4 0 0 ⟨#[]⟩] W' fun e w' => e = .returned (.bool (cRight r f [] T 4 0 0 [])) ∧ Below W'.heap.size W' w') :=
                  fun W' hW' => cright_any ⟨r.toArray⟩ ⟨f.toArray⟩ ⟨#[]⟩ ⟨#[]⟩ T 4 0 (vn := 0) (by unfold inI; omega) (by rw [mk_size]; exact HSZ.out.2.1) (by decide) W' (HL.out W' hW')
                have HBW : Hid (Below rb w W5) := (HCw.out.but.low HLT.out)
                have g0 : W5.cell? ⟨cb, 0, none⟩ = some (.string ⟨r.toArray⟩) := HCw.out.cell 0
                have g1 : W5.cell? ⟨cb, 1, none⟩ = some (.string ⟨f.toArray⟩) := HCw.out.cell 1
                have g2 : W5.cell? ⟨cb, 2, none⟩ = some (.string ⟨#[]⟩) := HCw.out.cell 2
                have g3 : W5.cell? ⟨cb, 3, none⟩ = some (.int .i64 T) := HCw.out.cell 3
                have g4 : W5.cell? ⟨cb, 4, none⟩ = some (.int .i64 4) := HCw.out.cell 4
                have g5 : W5.cell? ⟨cb, 5, none⟩ = some (.int .i64 0) := HCw.out.cell 5
                have g6 : W5.cell? ⟨cb, 6, none⟩ = some (.int .i64 0) := HCw.out.cell 6
                have g7 : W5.cell? ⟨cb, 7, none⟩ = some (.string ⟨#[]⟩) := HCw.out.cell 7
                cases hr : cRight r f [] T 4 0 0 [] with
                | false =>
                  rw [hr] at HR
                  have HE : Hid (NoCell l) := HTK.out.noRight HD.out.1 (by rw [HD.out.2.2.1]; decide) (by rw [← HD.out.2.1, HD.out.2.2.1]; exact hr)
                  clear hr
                  go_wp2_with (first
                    | (go_at_call 33; refine (HR.out _ HBW.out).mono ?_; rintro e w8 ⟨rfl, hb8⟩)
                    | (go_at_call 72; refine (want_no _ _).mono ?_; rintro e w9 ⟨rfl, rfl⟩))
                  refine ⟨rfl, ?_⟩
                  exact ⟨(HCw.out.below hb8).but, .inr ⟨HE.out, rfl⟩⟩
                | true =>
                  rw [hr] at HR
                  have HE : Hid (cRight r f [] T 4 0 0 [] = true ∧ inI 0 ∧ cEnc r f [] T 4 0 0 [] = l) := ⟨hr, (by unfold inI; omega), by have := HTK.out.enc HD.out.2.2.2.1 HD.out.1 HD.out.2.2.2.2 (vk := 0) (vn := 0) (vs := []) (by unfold vPart; rw [if_neg (by rw [HD.out.2.2.1]; decide)]); rwa [← HD.out.2.1, HD.out.2.2.1] at this⟩
                  clear hr
                  go_upto_region 14 with (first
                    | (go_at_call 33; refine (HR.out _ HBW.out).mono ?_; rintro e w8 ⟨rfl, hb8⟩)
                    | (go_at_call 72; refine (want_yes _ _).mono ?_; rintro e w9 ⟨rfl, rfl⟩))
                  have HC8 := hid (HCw.out.below hb8)
                  clear g0 g1 g2 g3 g4 g5 g6 g7
                  have g0 : w8.cell? ⟨cb, 0, none⟩ = some (.string ⟨r.toArray⟩) := HC8.out.cell 0
                  have g1 : w8.cell? ⟨cb, 1, none⟩ = some (.string ⟨f.toArray⟩) := HC8.out.cell 1
                  have g2 : w8.cell? ⟨cb, 2, none⟩ = some (.string ⟨#[]⟩) := HC8.out.cell 2
                  have g3 : w8.cell? ⟨cb, 3, none⟩ = some (.int .i64 T) := HC8.out.cell 3
                  have g4 : w8.cell? ⟨cb, 4, none⟩ = some (.int .i64 4) := HC8.out.cell 4
                  have g5 : w8.cell? ⟨cb, 5, none⟩ = some (.int .i64 0) := HC8.out.cell 5
                  have g6 : w8.cell? ⟨cb, 6, none⟩ = some (.int .i64 0) := HC8.out.cell 6
                  have g7 : w8.cell? ⟨cb, 7, none⟩ = some (.string ⟨#[]⟩) := HC8.out.cell 7
                  have z0 : w8.cell? ⟨w.heap.size, 0, none⟩ = some (.string ⟨#[]⟩) := HC8.out.z.cell 0
                  have z1 : w8.cell? ⟨w.heap.size, 1, none⟩ = some (.string ⟨#[]⟩) := HC8.out.z.cell 1
                  have z2 : w8.cell? ⟨w.heap.size, 2, none⟩ = some (.string ⟨#[]⟩) := HC8.out.z.cell 2
                  have z3 : w8.cell? ⟨w.heap.size, 3, none⟩ = some (.int .i64 0) := HC8.out.z.cell 3
                  have z4 : w8.cell? ⟨w.heap.size, 4, none⟩ = some (.int .i64 0) := HC8.out.z.cell 4
                  have z5 : w8.cell? ⟨w.heap.size, 5, none⟩ = some (.int .i64 0) := HC8.out.z.cell 5
                  have z6 : w8.cell? ⟨w.heap.size, 6, none⟩ = some (.int .i64 0) := HC8.out.z.cell 6
                  have z7 : w8.cell? ⟨w.heap.size, 7, none⟩ = some (.string ⟨#[]⟩) := HC8.out.z.cell 7
                  have zf : ∀ j, w8.frozen? ⟨w.heap.size, j, none⟩ = false := fun j => HC8.out.z.free j
                  have hneq : cb ≠ w.heap.size := by have := HC8.out.lt; omega
                  go_wp2
                  refine bodyPost_ret (v := cellV ⟨r.toArray⟩ ⟨f.toArray⟩ ⟨#[]⟩ T 4 0 0 ⟨#[]⟩) (by simp [results, Tryd.results36, go_sem, cell_set_same, z0, z1, z2, z3, z4, z5, z6, z7]) rfl ?_
                  refine ⟨?_, .inl ⟨r, f, [], T, 4, 0, 0, [], HE.out.1, HE.out.2.1, HE.out.2.2, rfl⟩⟩
                  have hB := HC8.out.but
                  exact (((((((hB.setO (Nat.le_refl _) _ _).setO (Nat.le_refl _) _ _).setO (Nat.le_refl _) _ _).setO (Nat.le_refl _) _ _).setO (Nat.le_refl _) _ _).setO (Nat.le_refl _) _ _).setO (Nat.le_refl _) _ _).setO (Nat.le_refl _) _ _
            · have HE : Hid (NoCell l) := HTK.out.noKind HD0.out.1 (by rw [HKK.out]; simpa using k4)
              have q4 : (k == 4) = false := by simpa using k4
              go_wp2_with (go_at_call 72; refine (want_no _ _).mono ?_; rintro e w9 ⟨rfl, rfl⟩)
              refine ⟨rfl, ?_⟩
              exact ⟨HC5.out.but, .inr ⟨HE.out, rfl⟩⟩
        · have HM : Hid (∀ W, St W rb l3 → Calls Tryd.prog 70 #[.pointer (some ⟨rb, 0, none⟩)] W fun e w' => But W.heap.size rb W w' ∧ e = otherP) := fun W hW => by
            refine (rtime_any rb l3 W hW).mono fun e w' h => ?_
            unfold TmEnd at h
            rw [if_neg h8] at h
            exact h
          have HE := hid (HTK.out.no8 h8)
          clear h8
          go_wp2_with (go_at_call 70; refine (HM.out _ HC3.out.st).mono ?_; rintro e w5 ⟨hb5, rfl⟩)
          refine ⟨rfl, ?_⟩
          exact ⟨HC3.out.but.trans (hb5.mono HC3.out.but.size), .inr ⟨HE.out, rfl⟩⟩
      · have hm : ∀ r, l2 ≠ 0 :: 0 :: r := fun r e => hm ⟨r, e⟩
        have HSk : Hid (∀ W, St W rb l2 → Calls Tryd.prog 69 #[.pointer (some ⟨rb, 0, none⟩), .int .u8 0, .int .u8 0] W fun e w' => But W.heap.size rb W w' ∧ e = .returned (.bool false) ∧ St w' rb l2) := fun W hW => by
          refine (skip_any rb _ W hW).mono fun e w' h => ?_
          rcases h with ⟨r', e1, e2, e3, e4⟩ | ⟨e1, e2, e3, e4⟩
          · exact absurd e1 (hm r')
          · exact ⟨e4, e2, e3⟩
        cases h3 : rdT l2 with
        | none =>
          have HT3 : Hid (∀ W, St W rb l2 → Calls Tryd.prog 68 #[.pointer (some ⟨rb, 0, none⟩)] W fun e w' => But W.heap.size rb W w' ∧ e = otherP) := fun W hW => by
            have := rtext_any rb l2 (by omega) W hW
            rwa [h3] at this
          have HE := hid (no_qual H1.out H2.out hm h3)
          clear hm h3
          go_wp2_with (first
            | (go_at_call 69; refine (HSk.out _ HC.out.st).mono ?_; rintro e w3 ⟨hb3, rfl, hS3⟩)
            | (go_at_call 68; refine (HT3.out _ hS3).mono ?_; rintro e w4 ⟨hb4, rfl⟩))
          refine ⟨rfl, ?_⟩
          exact ⟨(HC.out.call hb3 hS3).but.trans (hb4.mono (HC.out.call hb3 hS3).but.size), .inr ⟨HE.out, rfl⟩⟩
        | some p =>
          obtain ⟨q, l3⟩ := p
          have HT3 : Hid (∀ W, St W rb l2 → Calls Tryd.prog 68 #[.pointer (some ⟨rb, 0, none⟩)] W fun e w' => But W.heap.size rb W w' ∧ e = .returned (.string ⟨q.toArray⟩) ∧ St w' rb l3) := fun W hW => by
            have := rtext_any rb l2 (by omega) W hW
            rwa [h3] at this
          have HTK : Hid (Took l r f q false l3) := ⟨_, _, H1.out, H2.out, .inr ⟨rfl, hm, h3⟩⟩
          have HSZ : Hid (r.length ≤ 9223372036854775807 ∧ f.length ≤ 9223372036854775807 ∧ l3.length ≤ 4000) := by
            have a1 := congrArg List.length (rdT_rest H1.out)
            have a2 := congrArg List.length (rdT_rest H2.out)
            have a5 := congrArg List.length (rdT_rest h3)
            have a3 := esc_ge r
            have a4 := esc_ge f
            simp at a1 a2 a5 hl2
            exact ⟨by omega, by omega, by omega⟩
          clear H1 H2 hl1 hl2 hm h3
          go_upto_region 5 with (first
            | (go_at_call 69; refine (HSk.out _ HC.out.st).mono ?_; rintro e w3 ⟨hb3, rfl, hS3⟩)
            | (go_at_call 68; refine (HT3.out _ hS3).mono ?_; rintro e w4 ⟨hb4, rfl, hS4⟩; have HC4 := hid ((HC.out.call hb3 hS3).call hb4 hS4); have c2 : w4.cell? ⟨cb, 2, none⟩ = some (.string ⟨#[]⟩) := HC4.out.cell 2; have f2 : w4.frozen? ⟨cb, 2, none⟩ = false := HC4.out.c.free 2))
          refine wp_ltr (fun W => CSt w W rb cb #[.string ⟨r.toArray⟩, .string ⟨f.toArray⟩, .string ⟨q.toArray⟩, .int .i64 0, .int .i64 0, .int .i64 0, .int .i64 0, .string ⟨#[]⟩] l3) (HC4.out.set 2 _) (fun W3 hC3 => ?_)
          have HC3 := hid hC3
          clear hC3 hb3 hS3 hb4 hS4 HC HC4 c2 f2 HSk HT3
          by_cases h8 : 8 ≤ l3.length
          · obtain ⟨T, hT⟩ : ∃ T : Int, 9223372036854775807 - (foldB (l3.take 8) : Int) = T := ⟨_, rfl⟩
            have HM : Hid (∀ W, St W rb l3 → Calls Tryd.prog 70 #[.pointer (some ⟨rb, 0, none⟩)] W fun e w' => But W.heap.size rb W w' ∧ e = .returned (.int .i64 T) ∧ St w' rb (l3.drop 8)) := fun W hW => by
              refine (rtime_any rb l3 W hW).mono fun e w' h => ?_
              unfold TmEnd at h
              rw [if_pos h8, hT] at h
              exact ⟨h.1, h.2.1, h.2.2⟩
            have c3 : W3.cell? ⟨cb, 3, none⟩ = some (.int .i64 0) := HC3.out.cell 3
            cases hd : l3.drop 8 with
            | nil =>
              rw [hd] at HM
              have HE := hid (HTK.out.no9 hd)
              have HO : Hid (∀ W, St W rb [] → Calls Tryd.prog 71 #[.pointer (some ⟨rb, 0, none⟩)] W (OneEnd W rb [])) := fun W h => one_any rb [] W h
              clear hd hT
              go_wp2_with (first
                | (go_at_call 70; refine (HM.out _ HC3.out.st).mono ?_; rintro e w5 ⟨hb5, rfl, hS5⟩; have HC4 := hid ((HC3.out.call hb5 hS5).set 3 (.int .i64 T)); have c3' : w5.cell? ⟨cb, 3, none⟩ = some (.int .i64 0) := (HC3.out.call hb5 hS5).cell 3; have f3 : w5.frozen? ⟨cb, 3, none⟩ = false := (HC3.out.call hb5 hS5).c.free 3)
                | (go_at_call 71; refine (HO.out _ HC4.out.st).mono ?_; rintro e w6 ⟨hb6, rfl⟩))
              refine ⟨rfl, ?_⟩
              exact ⟨HC4.out.but.trans (hb6.mono HC4.out.but.size), .inr ⟨HE.out, rfl⟩⟩
            | cons x V =>
              rw [hd] at HM
              obtain ⟨z, hz⟩ : ∃ z : Int, (x.toNat : Int) = z := ⟨_, rfl⟩
              have HO : Hid (∀ W, St W rb (x :: V) → Calls Tryd.prog 71 #[.pointer (some ⟨rb, 0, none⟩)] W fun e w' => But W.heap.size rb W w' ∧ e = .returned (.int .u8 z) ∧ St w' rb V) := fun W h => one_cons rb x V W h z hz
              have hx := u8_lt x
              have hz0 : 0 ≤ z := by omega
              have hz1 : z < 256 := by omega
              have HD0 := hid (And.intro hd (And.intro hT (And.intro hz h8)))
              clear hd hT hz hx h8
              go_upto_region 7 with (first
                | (go_at_call 70; refine (HM.out _ HC3.out.st).mono ?_; rintro e w5 ⟨hb5, rfl, hS5⟩; have HC4 := hid ((HC3.out.call hb5 hS5).set 3 (.int .i64 T)); have c3' : w5.cell? ⟨cb, 3, none⟩ = some (.int .i64 0) := (HC3.out.call hb5 hS5).cell 3; have f3 : w5.frozen? ⟨cb, 3, none⟩ = false := (HC3.out.call hb5 hS5).c.free 3)
                | (go_at_call 71; refine (HO.out _ HC4.out.st).mono ?_; rintro e w6 ⟨hb6, rfl, hS6⟩; have HC5 := hid (HC4.out.call hb6 hS6); have c4 : w6.cell? ⟨cb, 4, none⟩ = some (.int .i64 0) := HC5.out.cell 4; have f4 : w6.frozen? ⟨cb, 4, none⟩ = false := HC5.out.c.free 4))
              refine wp_ltr (fun W => CSt w W rb cb #[.string ⟨r.toArray⟩, .string ⟨f.toArray⟩, .string ⟨q.toArray⟩, .int .i64 T, .int .i64 (255 - z), .int .i64 0, .int .i64 0, .string ⟨#[]⟩] V) (HC5.out.set 4 _) (fun W5 hC5 => ?_)
              clear HM HO HC4 HC5 hb5 hb6 hS5 hS6 c3 c3' f3 c4 f4 HC3
              obtain ⟨k, hk⟩ : ∃ k : Int, 255 - z = k := ⟨_, rfl⟩
              rw [hk] at hC5
              try rw [hk]
              have HC5 := hid hC5
              have HKK : Hid (255 - (x.toNat : Int) = k) := by have := HD0.out.2.2.1; unfold Hid; omega
              clear hC5 hk hz0 hz1
              have g4 : W5.cell? ⟨cb, 4, none⟩ = some (.int .i64 k) := HC5.out.cell 4
              by_cases k4 : k = 4
              · have HE : Hid (NoCell l) := HTK.out.noKind HD0.out.1 (by rw [HKK.out]; simpa using k4)
                subst k4
                go_wp2_with (go_at_call 72; refine (want_no _ _).mono ?_; rintro e w9 ⟨rfl, rfl⟩)
                refine ⟨rfl, ?_⟩
                exact ⟨HC5.out.but, .inr ⟨HE.out, rfl⟩⟩
              · have HD : Hid (l3.drop 8 = x :: V ∧ T = 9223372036854775807 - (foldB (l3.take 8) : Int) ∧ 255 - (x.toNat : Int) = k ∧ 8 ≤ l3.length ∧ false = decide (255 - (x.toNat : Int) = 4)) := ⟨HD0.out.1, HD0.out.2.1.symm, HKK.out, HD0.out.2.2.2, by rw [HKK.out]; simpa using k4⟩
                have q4 : (k == 4) = false := by simpa using k4
                by_cases k1 : k = 1
                · subst k1
                  have hst := HC5.out.st
                  obtain ⟨⟨v, hv, A, c, rfl, hs2, hs3, hs4⟩, hs5, hs6⟩ := hst
                  have hVl : V.length ≤ 4000 := by have := congrArg List.length HD.out.1; simp at this; have := HSZ.out.2.2; omega
                  have HV : Hid (∀ W', Below rb w W' → HoldsA W' A V → Calls Tryd.prog 73 #[.slice A V.length c] W' fun e w' => e = vdecEnd V ∧ Below W'.heap.size W' w') := fun W' hW' hA => vdecode_any V hVl A c hs2 W' hA (HL.out W' hW')
                  have HA : Hid (HoldsA W5 A V) := fun h0 => by
                    obtain ⟨b, off, e1, e2, e3⟩ := hs4 h0
                    exact ⟨b, off, e1, e3⟩
                  have HBW : Hid (Below rb w W5) := (HC5.out.but.low HLT.out)
                  clear hs2 hs3 hs4 hs5 hs6 hVl
                  rcases vdec_cases V with ⟨vk, vn, vs, hi, hvr, hvl, hve, hvd⟩ | hvd
                  · rw [hvd] at HV
                    unfold valEnd at HV
                    have HQ := hid (And.intro hi (And.intro hvr (And.intro hve (And.intro hvd hvl))))
                    clear hi hvr hve hvd hvl
                    go_upto_region 13 with (first
                      | (go_at_call 73; refine (HV.out _ HBW.out HA.out).mono ?_; rintro e w6 ⟨rfl, hb6⟩; have HC6 := hid (HC5.out.below hb6); have c5 : w6.cell? ⟨cb, 5, none⟩ = some (.int .i64 0) := HC6.out.cell 5; have c6 : w6.cell? ⟨cb, 6, none⟩ = some (.int .i64 0) := HC6.out.cell 6; have c7 : w6.cell? ⟨cb, 7, none⟩ = some (.string ⟨#[]⟩) := HC6.out.cell 7; have cf : ∀ j, w6.frozen? ⟨cb, j, none⟩ = false := (fun j => HC6.out.c.free j); have hcl : cb < w6.heap.size := HC6.out.c.lt)
                      | (go_at_call 72; ((with_reducible refine (want_yes _ _).mono ?_); rintro e w9 ⟨rfl, rfl⟩)))
                    refine wp_ltr (fun W => CSt w W rb cb #[.string ⟨r.toArray⟩, .string ⟨f.toArray⟩, .string ⟨q.toArray⟩, .int .i64 T, .int .i64 1, .int .i64 vk, .int .i64 vn, .string ⟨vs.toArray⟩] V) ((((HC6.out.set 5 (.int .i64 vk)).set 6 (.int .i64 vn)).set 7 (.string ⟨vs.toArray⟩)).below (below_new _ _)) (fun W7 hC7 => ?_)
                    have HCw := hid hC7
                    clear hC7 c5 c6 c7 cf hcl HC6 HV HA hb6 HBW g4 hv
                    have HR : Hid (∀ W', Below rb w W' → Calls Tryd.prog 33 #[cellV ⟨r.toArray⟩ ⟨f.toArray⟩ ⟨q.toArray⟩ T 1 vk vn ⟨vs.toArray⟩] W' fun e w' => e = .returned (.bool (cRight r f q T 1 vk vn vs)) ∧ Below W'.heap.size W' w') :=
                      fun W' hW' => cright_any ⟨r.toArray⟩ ⟨f.toArray⟩ ⟨q.toArray⟩ ⟨vs.toArray⟩ T 1 vk (vn := vn) HQ.out.1 (by rw [mk_size]; exact HSZ.out.2.1) (by rw [mk_size]; have := HQ.out.2.2.2.2; omega) W' (HL.out W' hW')
                    have HBW : Hid (Below rb w W7) := (HCw.out.but.low HLT.out)
                    have g0 : W7.cell? ⟨cb, 0, none⟩ = some (.string ⟨r.toArray⟩) := HCw.out.cell 0
                    have g1 : W7.cell? ⟨cb, 1, none⟩ = some (.string ⟨f.toArray⟩) := HCw.out.cell 1
                    have g2 : W7.cell? ⟨cb, 2, none⟩ = some (.string ⟨q.toArray⟩) := HCw.out.cell 2
                    have g3 : W7.cell? ⟨cb, 3, none⟩ = some (.int .i64 T) := HCw.out.cell 3
                    have g4 : W7.cell? ⟨cb, 4, none⟩ = some (.int .i64 1) := HCw.out.cell 4
                    have g5 : W7.cell? ⟨cb, 5, none⟩ = some (.int .i64 vk) := HCw.out.cell 5
                    have g6 : W7.cell? ⟨cb, 6, none⟩ = some (.int .i64 vn) := HCw.out.cell 6
                    have g7 : W7.cell? ⟨cb, 7, none⟩ = some (.string ⟨vs.toArray⟩) := HCw.out.cell 7
                    cases hr : cRight r f q T 1 vk vn vs with
                    | false =>
                      rw [hr] at HR
                      have HE : Hid (NoCell l) := HTK.out.noRightV HD.out.1 HD.out.2.2.1 HQ.out.2.2.2.1 (by rw [← HD.out.2.1]; exact hr)
                      clear hr
                      go_wp2_with (first
                        | (go_at_call 33; refine (HR.out _ HBW.out).mono ?_; rintro e w8 ⟨rfl, hb8⟩)
                        | (go_at_call 72; refine (want_no _ _).mono ?_; rintro e w9 ⟨rfl, rfl⟩))
                      refine ⟨rfl, ?_⟩
                      exact ⟨(HCw.out.below hb8).but, .inr ⟨HE.out, rfl⟩⟩
                    | true =>
                      rw [hr] at HR
                      have HE : Hid (cRight r f q T 1 vk vn vs = true ∧ inI vn ∧ cEnc r f q T 1 vk vn vs = l) := ⟨hr, HQ.out.1, by have := HTK.out.enc HD.out.2.2.2.1 HD.out.1 HD.out.2.2.2.2 (vk := vk) (vn := vn) (vs := vs) (by unfold vPart; rw [if_pos HD.out.2.2.1]; exact HQ.out.2.2.1); rwa [← HD.out.2.1, HD.out.2.2.1] at this⟩
                      clear hr
                      go_upto_region 14 with (first
                        | (go_at_call 33; refine (HR.out _ HBW.out).mono ?_; rintro e w8 ⟨rfl, hb8⟩)
                        | (go_at_call 72; refine (want_yes _ _).mono ?_; rintro e w9 ⟨rfl, rfl⟩))
                      have HC8 := hid (HCw.out.below hb8)
                      clear g0 g1 g2 g3 g4 g5 g6 g7
                      have g0 : w8.cell? ⟨cb, 0, none⟩ = some (.string ⟨r.toArray⟩) := HC8.out.cell 0
                      have g1 : w8.cell? ⟨cb, 1, none⟩ = some (.string ⟨f.toArray⟩) := HC8.out.cell 1
                      have g2 : w8.cell? ⟨cb, 2, none⟩ = some (.string ⟨q.toArray⟩) := HC8.out.cell 2
                      have g3 : w8.cell? ⟨cb, 3, none⟩ = some (.int .i64 T) := HC8.out.cell 3
                      have g4 : w8.cell? ⟨cb, 4, none⟩ = some (.int .i64 1) := HC8.out.cell 4
                      have g5 : w8.cell? ⟨cb, 5, none⟩ = some (.int .i64 vk) := HC8.out.cell 5
                      have g6 : w8.cell? ⟨cb, 6, none⟩ = some (.int .i64 vn) := HC8.out.cell 6
                      have g7 : w8.cell? ⟨cb, 7, none⟩ = some (.string ⟨vs.toArray⟩) := HC8.out.cell 7
                      have z0 : w8.cell? ⟨w.heap.size, 0, none⟩ = some (.string ⟨#[]⟩) := HC8.out.z.cell 0
                      have z1 : w8.cell? ⟨w.heap.size, 1, none⟩ = some (.string ⟨#[]⟩) := HC8.out.z.cell 1
                      have z2 : w8.cell? ⟨w.heap.size, 2, none⟩ = some (.string ⟨#[]⟩) := HC8.out.z.cell 2
                      have z3 : w8.cell? ⟨w.heap.size, 3, none⟩ = some (.int .i64 0) := HC8.out.z.cell 3
                      have z4 : w8.cell? ⟨w.heap.size, 4, none⟩ = some (.int .i64 0) := HC8.out.z.cell 4
                      have z5 : w8.cell? ⟨w.heap.size, 5, none⟩ = some (.int .i64 0) := HC8.out.z.cell 5
                      have z6 : w8.cell? ⟨w.heap.size, 6, none⟩ = some (.int .i64 0) := HC8.out.z.cell 6
                      have z7 : w8.cell? ⟨w.heap.size, 7, none⟩ = some (.string ⟨#[]⟩) := HC8.out.z.cell 7
                      have zf : ∀ j, w8.frozen? ⟨w.heap.size, j, none⟩ = false := fun j => HC8.out.z.free j
                      have hneq : cb ≠ w.heap.size := by have := HC8.out.lt; omega
                      go_wp2
                      refine bodyPost_ret (v := cellV ⟨r.toArray⟩ ⟨f.toArray⟩ ⟨q.toArray⟩ T 1 vk vn ⟨vs.toArray⟩) (by simp [results, Tryd.results36, go_sem, cell_set_same, z0, z1, z2, z3, z4, z5, z6, z7]) rfl ?_
                      refine ⟨?_, .inl ⟨r, f, q, T, 1, vk, vn, vs, HE.out.1, HE.out.2.1, HE.out.2.2, rfl⟩⟩
                      have hB := HC8.out.but
                      exact (((((((hB.setO (Nat.le_refl _) _ _).setO (Nat.le_refl _) _ _).setO (Nat.le_refl _) _ _).setO (Nat.le_refl _) _ _).setO (Nat.le_refl _) _ _).setO (Nat.le_refl _) _ _).setO (Nat.le_refl _) _ _).setO (Nat.le_refl _) _ _
                  · have HE : Hid (NoCell l) := HTK.out.noVal HD.out.1 HD.out.2.2.1 hvd
                    rw [hvd] at HV
                    unfold noEnd at HV
                    clear hvd
                    go_wp2_with (first
                      | (go_at_call 73; refine (HV.out _ HBW.out HA.out).mono ?_; rintro e w6 ⟨rfl, hb6⟩; have HC6 := hid (HC5.out.below hb6))
                      | (go_at_call 72; ((with_reducible refine (want_yes _ _).mono ?_); rintro e w9 ⟨rfl, rfl⟩))
                      | (go_at_call 72; ((with_reducible refine (want_no _ _).mono ?_); rintro e w9 ⟨rfl, rfl⟩)))
                    refine ⟨rfl, ?_⟩
                    exact ⟨(HC6.out.below (below_new _ _)).but, .inr ⟨HE.out, rfl⟩⟩
                · have q1 : (k == 1) = false := by simpa using k1
                  have K1 := hid k1
                  clear k1
                  cases V with
                  | cons y V =>
                    have HE : Hid (NoCell l) := HTK.out.noRest HD.out.1 (by rw [HD.out.2.2.1]; exact K1.out) (by simp)
                    have hst := HC5.out.st
                    obtain ⟨⟨v, hv, A, c, rfl, hs2, hs3, hs4⟩, hs5, hs6⟩ := hst
                    have hv : W5.cell? ⟨rb, 0, none⟩ = some (.slice A (V.length + 1) c) := hv
                    have q9 : ((V.length : Int) + 1 == 0) = false := by simp; omega
                    clear hs2 hs3 hs4 hs5 hs6
                    go_wp2_with (first
                      | (go_at_call 72; ((with_reducible refine (want_yes _ _).mono ?_); rintro e w9 ⟨rfl, rfl⟩))
                      | (go_at_call 72; ((with_reducible refine (want_no _ _).mono ?_); rintro e w9 ⟨rfl, rfl⟩)))
                    refine ⟨rfl, ?_⟩
                    exact ⟨HC5.out.but, .inr ⟨HE.out, rfl⟩⟩
                  | nil =>
                    have hst := HC5.out.st
                    obtain ⟨⟨v, hv, A, c, rfl, hs2, hs3, hs4⟩, hs5, hs6⟩ := hst
                    have hv : W5.cell? ⟨rb, 0, none⟩ = some (.slice A 0 c) := hv
                    clear hs2 hs3 hs4 hs5 hs6
                    go_upto_region 13 with (first
                      | (go_at_call 72; ((with_reducible refine (want_yes _ _).mono ?_); rintro e w9 ⟨rfl, rfl⟩)))
                    clear hv k4
                    have HCw := HC5
                    have HR : Hid (∀ W', Below rb w W' → Calls Tryd.prog 33 #[cellV ⟨r.toArray⟩ ⟨f.toArray⟩ ⟨q.toArray⟩ T k 0 0 ⟨#[]⟩] W' fun e w' => e = .returned (.bool (cRight r f q T k 0 0 [])) ∧ Below W'.heap.size W' w') :=
                      fun W' hW' => cright_any ⟨r.toArray⟩ ⟨f.toArray⟩ ⟨q.toArray⟩ ⟨#[]⟩ T k 0 (vn := 0) (by unfold inI; omega) (by rw [mk_size]; exact HSZ.out.2.1) (by decide) W' (HL.out W' hW')
                    have HBW : Hid (Below rb w W5) := (HCw.out.but.low HLT.out)
                    have g0 : W5.cell? ⟨cb, 0, none⟩ = some (.string ⟨r.toArray⟩) := HCw.out.cell 0
                    have g1 : W5.cell? ⟨cb, 1, none⟩ = some (.string ⟨f.toArray⟩) := HCw.out.cell 1
                    have g2 : W5.cell? ⟨cb, 2, none⟩ = some (.string ⟨q.toArray⟩) := HCw.out.cell 2
                    have g3 : W5.cell? ⟨cb, 3, none⟩ = some (.int .i64 T) := HCw.out.cell 3
                    have g4 : W5.cell? ⟨cb, 4, none⟩ = some (.int .i64 k) := HCw.out.cell 4
                    have g5 : W5.cell? ⟨cb, 5, none⟩ = some (.int .i64 0) := HCw.out.cell 5
                    have g6 : W5.cell? ⟨cb, 6, none⟩ = some (.int .i64 0) := HCw.out.cell 6
                    have g7 : W5.cell? ⟨cb, 7, none⟩ = some (.string ⟨#[]⟩) := HCw.out.cell 7
                    cases hr : cRight r f q T k 0 0 [] with
                    | false =>
                      rw [hr] at HR
                      have HE : Hid (NoCell l) := HTK.out.noRight HD.out.1 (by rw [HD.out.2.2.1]; exact K1.out) (by rw [← HD.out.2.1, HD.out.2.2.1]; exact hr)
                      clear hr
                      go_wp2_with (first
                        | (go_at_call 33; refine (HR.out _ HBW.out).mono ?_; rintro e w8 ⟨rfl, hb8⟩)
                        | (go_at_call 72; refine (want_no _ _).mono ?_; rintro e w9 ⟨rfl, rfl⟩))
                      refine ⟨rfl, ?_⟩
                      exact ⟨(HCw.out.below hb8).but, .inr ⟨HE.out, rfl⟩⟩
                    | true =>
                      rw [hr] at HR
                      have HE : Hid (cRight r f q T k 0 0 [] = true ∧ inI 0 ∧ cEnc r f q T k 0 0 [] = l) := ⟨hr, (by unfold inI; omega), by have := HTK.out.enc HD.out.2.2.2.1 HD.out.1 HD.out.2.2.2.2 (vk := 0) (vn := 0) (vs := []) (by unfold vPart; rw [if_neg (by rw [HD.out.2.2.1]; exact K1.out)]); rwa [← HD.out.2.1, HD.out.2.2.1] at this⟩
                      clear hr
                      go_upto_region 14 with (first
                        | (go_at_call 33; refine (HR.out _ HBW.out).mono ?_; rintro e w8 ⟨rfl, hb8⟩)
                        | (go_at_call 72; refine (want_yes _ _).mono ?_; rintro e w9 ⟨rfl, rfl⟩))
                      have HC8 := hid (HCw.out.below hb8)
                      clear g0 g1 g2 g3 g4 g5 g6 g7
                      have g0 : w8.cell? ⟨cb, 0, none⟩ = some (.string ⟨r.toArray⟩) := HC8.out.cell 0
                      have g1 : w8.cell? ⟨cb, 1, none⟩ = some (.string ⟨f.toArray⟩) := HC8.out.cell 1
                      have g2 : w8.cell? ⟨cb, 2, none⟩ = some (.string ⟨q.toArray⟩) := HC8.out.cell 2
                      have g3 : w8.cell? ⟨cb, 3, none⟩ = some (.int .i64 T) := HC8.out.cell 3
                      have g4 : w8.cell? ⟨cb, 4, none⟩ = some (.int .i64 k) := HC8.out.cell 4
                      have g5 : w8.cell? ⟨cb, 5, none⟩ = some (.int .i64 0) := HC8.out.cell 5
                      have g6 : w8.cell? ⟨cb, 6, none⟩ = some (.int .i64 0) := HC8.out.cell 6
                      have g7 : w8.cell? ⟨cb, 7, none⟩ = some (.string ⟨#[]⟩) := HC8.out.cell 7
                      have z0 : w8.cell? ⟨w.heap.size, 0, none⟩ = some (.string ⟨#[]⟩) := HC8.out.z.cell 0
                      have z1 : w8.cell? ⟨w.heap.size, 1, none⟩ = some (.string ⟨#[]⟩) := HC8.out.z.cell 1
                      have z2 : w8.cell? ⟨w.heap.size, 2, none⟩ = some (.string ⟨#[]⟩) := HC8.out.z.cell 2
                      have z3 : w8.cell? ⟨w.heap.size, 3, none⟩ = some (.int .i64 0) := HC8.out.z.cell 3
                      have z4 : w8.cell? ⟨w.heap.size, 4, none⟩ = some (.int .i64 0) := HC8.out.z.cell 4
                      have z5 : w8.cell? ⟨w.heap.size, 5, none⟩ = some (.int .i64 0) := HC8.out.z.cell 5
                      have z6 : w8.cell? ⟨w.heap.size, 6, none⟩ = some (.int .i64 0) := HC8.out.z.cell 6
                      have z7 : w8.cell? ⟨w.heap.size, 7, none⟩ = some (.string ⟨#[]⟩) := HC8.out.z.cell 7
                      have zf : ∀ j, w8.frozen? ⟨w.heap.size, j, none⟩ = false := fun j => HC8.out.z.free j
                      have hneq : cb ≠ w.heap.size := by have := HC8.out.lt; omega
                      go_wp2
                      refine bodyPost_ret (v := cellV ⟨r.toArray⟩ ⟨f.toArray⟩ ⟨q.toArray⟩ T k 0 0 ⟨#[]⟩) (by simp [results, Tryd.results36, go_sem, cell_set_same, z0, z1, z2, z3, z4, z5, z6, z7]) rfl ?_
                      refine ⟨?_, .inl ⟨r, f, q, T, k, 0, 0, [], HE.out.1, HE.out.2.1, HE.out.2.2, rfl⟩⟩
                      have hB := HC8.out.but
                      exact (((((((hB.setO (Nat.le_refl _) _ _).setO (Nat.le_refl _) _ _).setO (Nat.le_refl _) _ _).setO (Nat.le_refl _) _ _).setO (Nat.le_refl _) _ _).setO (Nat.le_refl _) _ _).setO (Nat.le_refl _) _ _).setO (Nat.le_refl _) _ _
          · have HM : Hid (∀ W, St W rb l3 → Calls Tryd.prog 70 #[.pointer (some ⟨rb, 0, none⟩)] W fun e w' => But W.heap.size rb W w' ∧ e = otherP) := fun W hW => by
              refine (rtime_any rb l3 W hW).mono fun e w' h => ?_
              unfold TmEnd at h
              rw [if_neg h8] at h
              exact h
            have HE := hid (HTK.out.no8 h8)
            clear h8
            go_wp2_with (go_at_call 70; refine (HM.out _ HC3.out.st).mono ?_; rintro e w5 ⟨hb5, rfl⟩)
            refine ⟨rfl, ?_⟩
            exact ⟨HC3.out.but.trans (hb5.mono HC3.out.but.size), .inr ⟨HE.out, rfl⟩⟩
end Go.Proofs.YtpjkhholpbfbpaaDoor
