/- The reader's text, its two bytes and its time, at any bytes: each ends in what it reads or in the panic that tells of something else. Conditions: the reader holds the bytes, a hundred thousand at most. -/
import Derived.Test.YtegdkcldgepngaaDoorSF
import Derived.Test.YtegdkcldgepngaaDoorCM
import Derived.Test.YtegdkcldgepngaaDoorVF
namespace Go.Proofs.YtegdkcldgepngaaDoor
open Go.RowKit

theorem Row.but {w w' : World} {B rb : Nat} {v : Value} {l : List UInt8} (h : Row w B v l) (hb : But w.heap.size rb w w') (hr : rb < B) : Row w' B v l := by
  obtain ⟨h1, h2⟩ := h
  refine ⟨h1, ?_⟩
  rcases h2 with h2 | ⟨g, cap, cur, rfl, hB, hh, h3⟩
  · exact .inl h2
  · have hg : g < w.heap.size := by
      rcases Nat.lt_or_ge g w.heap.size with h' | h'
      · exact h'
      · rw [Array.getElem?_eq_none h'] at hh; cases hh
    exact .inr ⟨g, cap, cur, rfl, hB, by rw [hb.block g hg (by omega)]; exact hh, h3⟩
def lenAt (rb : Nat) (w : World) : Nat := match w.cell? ⟨rb, 0, none⟩ with | some (.slice _ m _) => m | _ => 0
theorem St.len {w : World} {rb : Nat} {l : List UInt8} (h : St w rb l) : lenAt rb w = l.length := by
  obtain ⟨⟨v, h1, A, c, rfl, _⟩, _⟩ := h
  unfold lenAt
  rw [h1]

def TxEnd (w : World) (rb : Nat) : Option (List UInt8 × List UInt8) → Ending → World → Prop
  | some p, e, w' => But w.heap.size rb w w' ∧ e = .returned (.string ⟨p.1.toArray⟩) ∧ St w' rb p.2
  | none, e, w' => But w.heap.size rb w w' ∧ e = otherP
theorem one_cons (rb : Nat) (x : UInt8) (t : List UInt8) (w : World) (h : St w rb (x :: t)) (y : Int) (hy : (x.toNat : Int) = y) :
    Calls Tryd.prog 80 #[.pointer (some ⟨rb, 0, none⟩)] w fun e w' => But w.heap.size rb w w' ∧ e = .returned (.int .u8 y) ∧ St w' rb t := by
  rw [← hy]; exact one_any rb (x :: t) w h

set_option maxRecDepth 100000 in
set_option maxHeartbeats 2000000 in
theorem rtext_any (rb : Nat) (l : List UInt8) (hl : l.length ≤ 100000) (w : World) (h : St w rb l) :
    Calls Tryd.prog 77 #[.pointer (some ⟨rb, 0, none⟩)] w (TxEnd w rb (rdT l)) := by
  have hlt := h.2.2
  have HLT := hid hlt
  go_enter Tryd.func77, Tryd.ntmps77
  go_wp2
  go_loopw [3] (fun vb wr => ∃ (s t : List UInt8), Row wr w.heap.size vb s ∧ Hid (rdT l = (rdT t).map fun p => (s ++ p.1, p.2)) ∧ Hid (St wr rb t) ∧ Hid (But w.heap.size rb w wr) ∧ Hid (s.length + t.length ≤ 100000)) (fun _ wr => lenAt rb wr)
  case atStart => exact ⟨[], l, Row.none _ _, by unfold Hid; cases rdT l <;> simp, h, But.refl _ _ _, by unfold Hid; simp; omega⟩
  case round =>
    obtain ⟨s, t, hR, HT, HS, HB, HL⟩ := hrel
    have HR := hid hR
    clear hR
    cases t with
    | nil =>
      have HO := hid (one_any rb [] wr HS.out)
      go_wp2_with (go_at_call 80; refine HO.out.mono ?_; rintro e w1 ⟨hb1, rfl⟩)
      refine ⟨rfl, ?_⟩
      rw [HT.out]
      exact ⟨HB.out.trans (hb1.mono HB.out.size), rfl⟩
    | cons x t =>
      by_cases hx : x = 0
      · subst hx
        have HO := hid (one_cons rb 0 t wr HS.out 0 rfl)
        cases t with
        | nil =>
          have HO2 : Hid (∀ W, St W rb [] → Calls Tryd.prog 80 #[.pointer (some ⟨rb, 0, none⟩)] W (OneEnd W rb [])) := fun W h => one_any rb [] W h
          go_wp2_with (first
            | (go_at_call 80; ((with_reducible refine HO.out.mono ?_); rintro e w1 ⟨hb1, rfl, hS1⟩))
            | (go_at_call 80; ((with_reducible refine (HO2.out _ hS1).mono ?_); rintro e w2 ⟨hb2, rfl⟩)))
          refine ⟨rfl, ?_⟩
          rw [HT.out]
          exact ⟨HB.out.trans ((hb1.trans (hb2.mono hb1.size)).mono HB.out.size), rfl⟩
        | cons y t =>
          obtain ⟨z, hz⟩ : ∃ z : Int, (y.toNat : Int) = z := ⟨_, rfl⟩
          have HZ := hid hz
          have HO2 : Hid (∀ W, St W rb (y :: t) → Calls Tryd.prog 80 #[.pointer (some ⟨rb, 0, none⟩)] W fun e w' => But W.heap.size rb W w' ∧ e = .returned (.int .u8 z) ∧ St w' rb t) := fun W h => one_cons rb y t W h z hz
          clear hz
          by_cases h1 : z = 1
          · subst h1
            have hcv : Hid (∀ W, Row W w.heap.size u3 s → (convert 29 9 u3).run Tryd.prog W = .ok (.string ⟨s.toArray⟩) W) := fun W h => row_convert h
            go_wp2_with (first
              | (go_at_call 80; ((with_reducible refine HO.out.mono ?_); rintro e w1 ⟨hb1, rfl, hS1⟩))
              | (go_at_call 80; ((with_reducible refine (HO2.out _ hS1).mono ?_); rintro e w2 ⟨hb2, rfl, hS2⟩; have hq := hcv.out w2 ((HR.out.but hb1 HLT.out).but hb2 HLT.out))))
            go_ret
            have e1 : y = 1 := UInt8.toNat_inj.1 (by have := HZ.out; have z : (1 : UInt8).toNat = 1 := rfl; omega)
            rw [HT.out, rdT, if_pos rfl, if_pos e1]
            refine ⟨HB.out.trans ((hb1.trans (hb2.mono hb1.size)).mono HB.out.size), ?_, hS2⟩
            simp
          · by_cases h2 : z = 255
            · subst h2
              go_wp2_with (first
                | (go_at_call 80; ((with_reducible refine HO.out.mono ?_); rintro e w1 ⟨hb1, rfl, hS1⟩))
                | (go_at_call 80; ((with_reducible refine (HO2.out _ hS1).mono ?_); rintro e w2 ⟨hb2, rfl, hS2⟩))
                | (go_at_call 81; refine (want_yes _ _).mono ?_; rintro e w3 ⟨rfl, rfl⟩)
                | (at_builtin; refine wpList_append_bytes rfl (.tmp 20) (.tmp 22) rfl _ w.heap.size _ s rfl (((HR.out.but hb1 HLT.out).but hb2 HLT.out).alloc _) ⟨w2.heap.size, 0, none⟩ 1 1 [0] rfl rfl (one_new' _ _ _ _ rfl) (by have := HL.out; simp only [List.length_cons, List.length_nil] at this ⊢; omega) (by have := HB.out.size; have := hb1.size; have := hb2.size; simp; omega) ?_; intro v1 w4 hR1 hb4))
              go_roundw
              case rel =>
                have hz1 : w.heap.size ≤ wr.heap.size := HB.out.size
                have hz2 : w.heap.size ≤ w2.heap.size := Nat.le_trans hz1 (Nat.le_trans hb1.size hb2.size)
                have hk4 : Below w.heap.size w2 w4 := ((Below.refl _ _).alloc hz2 _).trans hb4
                have e1 : y = 255 := UInt8.toNat_inj.1 (by have := HZ.out; have z : (255 : UInt8).toNat = 255 := rfl; omega)
                refine ⟨s ++ [0], t, hR1, ?_, hS2.keep (hk4.mono HLT.out), (HB.out.trans ((hb1.trans (hb2.mono hb1.size)).mono hz1)).trans (But.of_below hk4 rb), ?_⟩
                · unfold Hid
                  rw [HT.out, rdT, if_pos rfl, if_neg (by rw [e1]; decide), if_pos e1, Option.map_map]
                  congr 1
                  funext p
                  simp
                · have := HL.out
                  unfold Hid
                  simp only [List.length_append, List.length_cons, List.length_nil] at this ⊢
                  omega
              case measure =>
                have hz1 : w.heap.size ≤ wr.heap.size := HB.out.size
                have hz2 : w.heap.size ≤ w2.heap.size := Nat.le_trans hz1 (Nat.le_trans hb1.size hb2.size)
                have hk4 : Below w.heap.size w2 w4 := ((Below.refl _ _).alloc hz2 _).trans hb4
                rw [HS.out.len, (St.keep hS2 (hk4.mono HLT.out)).len]
                simp only [List.length_cons]
                omega
            · have q1 : (z == 1) = false := by simpa using h1
              have q2 : (z == 255) = false := by simpa using h2
              go_wp2_with (first
                | (go_at_call 80; ((with_reducible refine HO.out.mono ?_); rintro e w1 ⟨hb1, rfl, hS1⟩))
                | (go_at_call 80; ((with_reducible refine (HO2.out _ hS1).mono ?_); rintro e w2 ⟨hb2, rfl, hS2⟩))
                | (go_at_call 81; refine (want_no _ _).mono ?_; rintro e w3 ⟨rfl, rfl⟩))
              refine ⟨rfl, ?_⟩
              have e1 : ¬ y = 1 := fun e => h1 (by rw [← HZ.out, e]; rfl)
              have e2 : ¬ y = 255 := fun e => h2 (by rw [← HZ.out, e]; rfl)
              rw [HT.out, rdT, if_pos rfl, if_neg e1, if_neg e2]
              exact ⟨HB.out.trans ((hb1.trans (hb2.mono hb1.size)).mono HB.out.size), rfl⟩
      · obtain ⟨z, hz⟩ : ∃ z : Int, (x.toNat : Int) = z := ⟨_, rfl⟩
        have HZ := hid hz
        have HO := hid (one_cons rb x t wr HS.out z hz)
        have q0 : (z == 0) = false := by
          have : ¬ x.toNat = 0 := fun e => hx (UInt8.toNat_inj.1 e)
          simp; omega
        clear hz
        go_wp2_with (first
          | (go_at_call 80; ((with_reducible refine HO.out.mono ?_); rintro e w1 ⟨hb1, rfl, hS1⟩))
          | (at_builtin; refine wpList_append_bytes rfl (.tmp 20) (.tmp 22) rfl _ w.heap.size _ s rfl ((HR.out.but hb1 HLT.out).alloc _) ⟨w1.heap.size, 0, none⟩ 1 1 [x] rfl rfl (one_new' _ _ _ _ HZ.out.symm) (by have := HL.out; simp only [List.length_cons, List.length_nil] at this ⊢; omega) (by have := HB.out.size; have := hb1.size; simp; omega) ?_; intro v1 w4 hR1 hb4))
        go_roundw
        case rel =>
          have hz1 : w.heap.size ≤ wr.heap.size := HB.out.size
          have hz2 : w.heap.size ≤ w1.heap.size := Nat.le_trans hz1 hb1.size
          have hk4 : Below w.heap.size w1 w4 := ((Below.refl _ _).alloc hz2 _).trans hb4
          refine ⟨s ++ [x], t, hR1, ?_, hS1.keep (hk4.mono HLT.out), (HB.out.trans (hb1.mono hz1)).trans (But.of_below hk4 rb), ?_⟩
          · unfold Hid
            rw [HT.out, rdT_other hx, Option.map_map]
            congr 1
            funext p
            simp
          · have := HL.out
            unfold Hid
            simp only [List.length_append, List.length_cons, List.length_nil] at this ⊢
            omega
        case measure =>
          have hz1 : w.heap.size ≤ wr.heap.size := HB.out.size
          have hz2 : w.heap.size ≤ w1.heap.size := Nat.le_trans hz1 hb1.size
          have hk4 : Below w.heap.size w1 w4 := ((Below.refl _ _).alloc hz2 _).trans hb4
          rw [HS.out.len, (St.keep hS1 (hk4.mono HLT.out)).len]
          simp
end Go.Proofs.YtegdkcldgepngaaDoor
