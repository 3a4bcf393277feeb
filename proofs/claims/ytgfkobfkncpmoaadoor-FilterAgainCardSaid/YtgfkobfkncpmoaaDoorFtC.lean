/- The filter's Right and Lets, the package's and the document's; Clone. Conditions: the filter's texts stand; the tables of utf8 read as they are laid. -/
import Derived.Test.YtgfkobfkncpmoaaDoorFtA
import Derived.Test.YtgfkobfkncpmoaaDoorP5
import Derived.Test.YtgfkobfkncpmoaaDoorEA
import Derived.Test.YtgfkobfkncpmoaaDoorP9
namespace Go.Proofs.YtgfkobfkncpmoaaDoor
open Go.RowKit

/-- A filter's words. -/
abbrev FT.v (f : FT) (u : Value) : Value := .agg #[u, .string f.fr, .string f.tq, .int .i64 f.si, .int .i64 f.un, .int .i64 f.ve, .int .i64 f.ro]
/-- A filter in memory. -/
def FW (W : World) (g : Nat) (f : FT) (u : Value) : Prop := Blk W g 82 #[u, .string f.fr, .string f.tq, .int .i64 f.si, .int .i64 f.un, .int .i64 f.ve, .int .i64 f.ro]
theorem FW.words {W : World} {g : Nat} {f : FT} {u : Value} (h : FW W g f u) : W.cell? ⟨g, 0, none⟩ = some u ∧ W.cell? ⟨g, 1, none⟩ = some (.string f.fr) ∧ W.cell? ⟨g, 2, none⟩ = some (.string f.tq) ∧ W.cell? ⟨g, 3, none⟩ = some (.int .i64 f.si) ∧ W.cell? ⟨g, 4, none⟩ = some (.int .i64 f.un) ∧ W.cell? ⟨g, 5, none⟩ = some (.int .i64 f.ve) ∧ W.cell? ⟨g, 6, none⟩ = some (.int .i64 f.ro) := by
  have h : Blk W g 82 _ := h
  exact ⟨h.cell 0, h.cell 1, h.cell 2, h.cell 3, h.cell 4, h.cell 5, h.cell 6⟩
theorem FW.below {W W' : World} {g : Nat} {f : FT} {u : Value} (h : FW W g f u) (hb : Below W.heap.size W W') : FW W' g f u := Blk.keep h hb (Blk.lt h)
theorem wp_lt13 {P : Program} {c : Code} {Q : Exit → Act → World → Prop} {a : Act} {w : World} (F : World → Prop) (h0 : F w) (h : ∀ W, F W → c.wp P Q a W) : c.wp P Q a w := h w h0
set_option maxRecDepth 100000 in
theorem within_any (n m : Int) (w : World) : Calls Tryd.prog 136 #[.int .i64 n, .int .i64 m] w fun e w' => e = .returned (.bool (decide (0 ≤ n) && decide (n ≤ m))) ∧ w' = w := by
  obtain ⟨z, hz⟩ : ∃ z, (decide (0 ≤ n) && decide (n ≤ m)) = z := ⟨_, rfl⟩
  have HZ : Hid (z = (decide (0 ≤ n) && decide (n ≤ m))) := hz.symm
  rw [hz]
  clear hz
  by_cases h1 : 0 ≤ n
  · by_cases h2 : n ≤ m
    · go_enter Tryd.func136, Tryd.ntmps136
      go_wp2
      go_ret
      exact ⟨by rw [HZ.out, decide_eq_true (show 0 ≤ n by omega), decide_eq_true (show n ≤ m by omega)]; rfl, rfl⟩
    · go_enter Tryd.func136, Tryd.ntmps136
      go_wp2
      go_ret
      exact ⟨by rw [HZ.out, decide_eq_true (show 0 ≤ n by omega), decide_eq_false (show ¬ n ≤ m by omega)]; rfl, rfl⟩
  · go_enter Tryd.func136, Tryd.ntmps136
    go_wp2
    go_ret
    exact ⟨by rw [HZ.out, decide_eq_false (show ¬ 0 ≤ n by omega)]; rfl, rfl⟩
/-- A name is what a right cell's family is. -/
theorem name_cell (x : ByteArray) : cRight [114] x.data.toList [] 0 4 0 0 [] = nameB x.data.toList := by
  unfold cRight
  rw [show cTail [] 4 0 0 [] = true by rfl, Bool.and_true]
  unfold cHead
  simp
set_option maxRecDepth 100000 in
theorem unnamed_any (x : ByteArray) (hx : x.size ≤ 9223372036854775807) (w : World) (hL : LaidU w) : Calls Tryd.prog 135 #[.string x] w fun e w' => e = .returned (.bool (!nameB x.data.toList)) ∧ Below w.heap.size w w' := by
  have HC : Hid (Calls Tryd.prog 80 #[cellV ⟨#[114]⟩ x ⟨#[]⟩ 0 4 0 0 ⟨#[]⟩] w fun e w' => e = .returned (.bool (nameB x.data.toList)) ∧ Below w.heap.size w w') := by
    have h := cright_any ⟨#[114]⟩ x ⟨#[]⟩ ⟨#[]⟩ 0 4 0 (vn := 0) (by unfold inI; omega) hx (by show 0 ≤ _; omega) w hL
    rw [show cRight (⟨#[114]⟩ : ByteArray).data.toList x.data.toList (⟨#[]⟩ : ByteArray).data.toList 0 4 0 0 (⟨#[]⟩ : ByteArray).data.toList = nameB x.data.toList from name_cell x] at h
    exact h
  go_enter Tryd.func135, Tryd.ntmps135
  go_wp2_with (go_at_call 80; refine HC.out.mono ?_; rintro e w2 ⟨rfl, hb⟩)
  go_ret
  exact ⟨rfl, hb⟩
/-- Are all names? -/
def namesB (l : List ByteArray) : Bool := l.all fun x => nameB x.data.toList
theorem namesB_take {l : List ByteArray} {k : Nat} (h : k < l.length) : namesB (l.take (k + 1)) = (namesB (l.take k) && nameB l[k].data.toList) := by
  unfold namesB
  rw [List.take_succ_eq_append_getElem h, List.all_append]
  simp
theorem namesB_no {l : List ByteArray} {k : Nat} (h : k < l.length) (hx : nameB l[k].data.toList = false) : namesB l = false := by
  unfold namesB
  rw [List.all_eq_false]
  exact ⟨l[k], List.getElem_mem h, by simp [hx]⟩
set_option maxRecDepth 100000 in
set_option maxHeartbeats 1000000 in
theorem indexfn_any (v : Value) (l : List ByteArray) (hs : ∀ x ∈ l, x.size ≤ 9223372036854775807) (w : World) (h : TxA w v l) (hL : LaidU w) :
    Calls Tryd.prog 184 #[v, .func (.func 135) #[] #[]] w fun e w' => (∃ i : Int, e = .returned (.int .i64 i) ∧ Hid (decide (0 ≤ i) = !namesB l)) ∧ Below w.heap.size w w' := by
  have HU : Hid (∀ (k : Nat) (h : k < l.length) (W : World), Below w.heap.size w W → Calls Tryd.prog 135 #[.string l[k]] W fun e w' => e = .returned (.bool (!nameB l[k].data.toList)) ∧ Below W.heap.size W w') := fun k h W hW => unnamed_any l[k] (hs _ (List.getElem_mem h)) W (hL.below hW)
  obtain ⟨A, c, rfl, h1, h2, hh⟩ := h
  have HH := hid hh
  obtain ⟨m, hm⟩ : ∃ m, l.length = m := ⟨_, rfl⟩
  have HM := hid hm
  rw [hm] at h1 ⊢
  clear hm hh hs hL
  go_enter Tryd.func184, Tryd.ntmps184
  go_wp2
  go_loopw [8] (fun vi wr => ∃ k : Nat, k ≤ m ∧ vi = .int .i64 k ∧ Hid (namesB (l.take k) = true) ∧ Hid (Below w.heap.size w wr)) (fun vi _ => m - (intOf vi).toNat)
  case atStart => exact ⟨0, by omega, rfl, rfl, Below.refl _ _⟩
  case round =>
    obtain ⟨k, hk, rfl, HA, HB⟩ := hrel
    by_cases hlt : k < m
    · have hkl : k < l.length := by rw [HM.out]; exact hlt
      obtain ⟨b, off, rfl, hc⟩ := HH.out (by omega)
      have x0 := hc k _ (List.getElem?_eq_getElem hkl)
      have x1 := (HB.out.cell (p := ⟨b, off + k, none⟩) (cell_lt x0)).trans x0
      have HT := hid (namesB_take hkl)
      have HN : Hid (nameB l[k].data.toList = false → namesB l = false) := fun e => namesB_no hkl e
      have HUk := hid (HU.out k hkl wr HB.out)
      obtain ⟨y, hy⟩ : ∃ y, l[k] = y := ⟨_, rfl⟩
      rw [hy] at x1 HT HUk HN
      clear hc hy x0 hkl
      cases hq : nameB y.data.toList with
      | false =>
        rw [hq] at HUk HN
        go_wp2_with (go_at_call 135; refine HUk.out.mono ?_; rintro e w2 ⟨rfl, hb2⟩)
        go_ret
        refine ⟨⟨_, rfl, ?_⟩, HB.out.trans (hb2.mono HB.out.size)⟩
        show _ = _
        rw [decide_eq_true (by omega), show namesB l = false by simpa using HN.out]
        rfl
      | true =>
        rw [hq] at HUk HT
        go_wp2_with (go_at_call 135; refine HUk.out.mono ?_; rintro e w2 ⟨rfl, hb2⟩)
        go_roundw
        case rel => exact ⟨k + 1, by omega, by go_num, by show _ = _; rw [HT.out, HA.out]; rfl, HB.out.trans (hb2.mono HB.out.size)⟩
        case measure => simp [intOf]; omega
    · go_wp2
      go_ret
      refine ⟨⟨_, rfl, ?_⟩, HB.out⟩
      show _ = _
      have h1 := HA.out
      rw [List.take_of_length_le (by have := HM.out; omega)] at h1
      rw [h1]
      rfl
set_option maxRecDepth 100000 in
theorem containsfn_any (v : Value) (l : List ByteArray) (hs : ∀ x ∈ l, x.size ≤ 9223372036854775807) (w : World) (h : TxA w v l) (hL : LaidU w) :
    Calls Tryd.prog 134 #[v, .func (.func 135) #[] #[]] w fun e w' => e = .returned (.bool (!namesB l)) ∧ Below w.heap.size w w' := by
  have HI := hid (indexfn_any v l hs w h hL)
  clear h hs hL
  go_enter Tryd.func134, Tryd.ntmps134
  go_wp2_with (go_at_call 184; refine HI.out.mono ?_; rintro e w2 ⟨⟨i, rfl, hi⟩, hb⟩)
  go_ret
  rw [← hi.out]
  exact ⟨rfl, hb⟩
set_option maxRecDepth 100000 in
set_option maxHeartbeats 8000000 in
theorem right13_any (u : Value) (f : FT) (hs : ∀ x ∈ f.fams, x.size ≤ 9223372036854775807) (w : World) (h : TxA w u f.fams) (hL : LaidU w) :
    Calls Tryd.prog 65 #[f.v u] w fun e w' => e = .returned (.bool f.right) ∧ Below w.heap.size w w' := by
  have HCf : Hid (∀ W, Below w.heap.size w W → Calls Tryd.prog 134 #[u, .func (.func 135) #[] #[]] W fun e w' => e = .returned (.bool (!namesB f.fams)) ∧ Below W.heap.size W w') := fun W hW => containsfn_any u f.fams hs W (h.below hW) (hL.below hW)
  have HR : Hid (f.right = ((decide (f.fams.length ≤ 6) && namesB f.fams) && (decide (f.fr.size ≤ 12) && decide (f.tq.size ≤ 12)) && ((decide (0 ≤ f.si) && decide (f.si ≤ 1099511627776)) && (decide (0 ≤ f.un) && decide (f.un ≤ 1099511627776))) && ((decide (0 ≤ f.ve) && decide (f.ve ≤ 8)) && (decide (0 ≤ f.ro) && decide (f.ro ≤ 1000))))) := rfl
  have HW1 : Hid (∀ W, Calls Tryd.prog 136 #[.int .i64 f.si, .int .i64 1099511627776] W fun e w' => e = .returned (.bool (decide (0 ≤ f.si) && decide (f.si ≤ 1099511627776))) ∧ w' = W) := fun W => within_any _ _ W
  have HW2 : Hid (∀ W, Calls Tryd.prog 136 #[.int .i64 f.un, .int .i64 1099511627776] W fun e w' => e = .returned (.bool (decide (0 ≤ f.un) && decide (f.un ≤ 1099511627776))) ∧ w' = W) := fun W => within_any _ _ W
  have HW3 : Hid (∀ W, Calls Tryd.prog 136 #[.int .i64 f.ve, .int .i64 8] W fun e w' => e = .returned (.bool (decide (0 ≤ f.ve) && decide (f.ve ≤ 8))) ∧ w' = W) := fun W => within_any _ _ W
  have HW4 : Hid (∀ W, Calls Tryd.prog 136 #[.int .i64 f.ro, .int .i64 1000] W fun e w' => e = .returned (.bool (decide (0 ≤ f.ro) && decide (f.ro ≤ 1000))) ∧ w' = W) := fun W => within_any _ _ W
  have HF : Hid (∀ W, Below (w.heap.size + 1) (w.alloc (.cells #[u, .string f.fr, .string f.tq, .int .i64 f.si, .int .i64 f.un, .int .i64 f.ve, .int .i64 f.ro] 82)) W → W.cell? ⟨w.heap.size, 0, none⟩ = some u ∧ W.cell? ⟨w.heap.size, 1, none⟩ = some (.string f.fr) ∧ W.cell? ⟨w.heap.size, 2, none⟩ = some (.string f.tq) ∧ W.cell? ⟨w.heap.size, 3, none⟩ = some (.int .i64 f.si) ∧ W.cell? ⟨w.heap.size, 4, none⟩ = some (.int .i64 f.un) ∧ W.cell? ⟨w.heap.size, 5, none⟩ = some (.int .i64 f.ve) ∧ W.cell? ⟨w.heap.size, 6, none⟩ = some (.int .i64 f.ro)) := fun W hW => (FW.below (f := f) (u := u) (Blk.new w _ _) (by simpa using hW)).words
  obtain ⟨A, c, e0, h1, h2, _⟩ := h
  obtain ⟨m, hm⟩ : ∃ m, f.fams.length = m := ⟨_, rfl⟩
  obtain ⟨p, hp⟩ : ∃ p, f.fr.size = p := ⟨_, rfl⟩
  obtain ⟨q, hq⟩ : ∃ q, f.tq.size = q := ⟨_, rfl⟩
  obtain ⟨zn, hzn⟩ : ∃ z, namesB f.fams = z := ⟨_, rfl⟩
  obtain ⟨z1, hz1⟩ : ∃ z, (decide (0 ≤ f.si) && decide (f.si ≤ 1099511627776)) = z := ⟨_, rfl⟩
  obtain ⟨z2, hz2⟩ : ∃ z, (decide (0 ≤ f.un) && decide (f.un ≤ 1099511627776)) = z := ⟨_, rfl⟩
  obtain ⟨z3, hz3⟩ : ∃ z, (decide (0 ≤ f.ve) && decide (f.ve ≤ 8)) = z := ⟨_, rfl⟩
  obtain ⟨z4, hz4⟩ : ∃ z, (decide (0 ≤ f.ro) && decide (f.ro ≤ 1000)) = z := ⟨_, rfl⟩
  have HP := hid (And.intro hp hq)
  rw [hm, hp, hq, hzn, hz1, hz2, hz3, hz4] at HR
  rw [hzn] at HCf
  rw [hz1] at HW1
  rw [hz2] at HW2
  rw [hz3] at HW3
  rw [hz4] at HW4
  rw [hm] at e0
  subst e0
  obtain ⟨R, hR⟩ : ∃ R, f.right = R := ⟨_, rfl⟩
  rw [hR] at HR ⊢
  obtain ⟨fr, hfr⟩ : ∃ x, f.fr = x := ⟨_, rfl⟩
  obtain ⟨tq, htq⟩ : ∃ x, f.tq = x := ⟨_, rfl⟩
  obtain ⟨si, hsi⟩ : ∃ x, f.si = x := ⟨_, rfl⟩
  obtain ⟨un, hun⟩ : ∃ x, f.un = x := ⟨_, rfl⟩
  obtain ⟨ve, hve⟩ : ∃ x, f.ve = x := ⟨_, rfl⟩
  obtain ⟨ro, hro⟩ : ∃ x, f.ro = x := ⟨_, rfl⟩
  show Calls Tryd.prog _ #[.agg #[_, .string f.fr, .string f.tq, .int .i64 f.si, .int .i64 f.un, .int .i64 f.ve, .int .i64 f.ro]] w _
  rw [hfr, htq, hsi, hun, hve, hro] at HF ⊢
  rw [hsi] at HW1
  rw [hun] at HW2
  rw [hve] at HW3
  rw [hro] at HW4
  have hp : fr.size = p := by rw [← hfr]; exact HP.out.1
  have hq : tq.size = q := by rw [← htq]; exact HP.out.2
  clear hm hzn hz1 hz2 hz3 hz4 hR hs hL hfr htq hsi hun hve hro HP
  subst hp hq
  go_enter Tryd.func65, Tryd.ntmps65
  by_cases g0 : (m : Int) ≤ 6
  · have d0 : m ≤ 6 := by omega
    cases zn with
    | true =>
      by_cases g2 : (fr.size : Int) ≤ 12
      · have d2 : fr.size ≤ 12 := by omega
        by_cases g3 : (tq.size : Int) ≤ 12
        · have d3 : tq.size ≤ 12 := by omega
          cases z1 with
          | true =>
            cases z2 with
            | true =>
              cases z3 with
              | true =>
                cases z4 with
                | true =>
                  go_wp2_with (first
                    | (go_at_call 134; go_loud (refine (HCf.out _ (below_new w _)).mono ?_; clear HCf; rintro e w2 ⟨rfl, hb2⟩; obtain ⟨y0, y1, y2, y3, y4, y5, y6⟩ := HF.out w2 (by simpa using hb2); have HB := hid ((below_new w _).trans (hb2.mono (below_new w _).size))))
                    | (go_at_call 136; first | (with_reducible refine (HW1.out _).mono ?_; clear HW1; rintro e w3 ⟨rfl, rfl⟩) | (with_reducible refine (HW2.out _).mono ?_; clear HW2; rintro e w3 ⟨rfl, rfl⟩) | (with_reducible refine (HW3.out _).mono ?_; clear HW3; rintro e w3 ⟨rfl, rfl⟩) | (with_reducible refine (HW4.out _).mono ?_; clear HW4; rintro e w3 ⟨rfl, rfl⟩)))
                  go_ret
                  exact ⟨by rw [HR.out]; simp [*], HB.out⟩
                | false =>
                  go_wp2_with (first
                    | (go_at_call 134; go_loud (refine (HCf.out _ (below_new w _)).mono ?_; clear HCf; rintro e w2 ⟨rfl, hb2⟩; obtain ⟨y0, y1, y2, y3, y4, y5, y6⟩ := HF.out w2 (by simpa using hb2); have HB := hid ((below_new w _).trans (hb2.mono (below_new w _).size))))
                    | (go_at_call 136; first | (with_reducible refine (HW1.out _).mono ?_; clear HW1; rintro e w3 ⟨rfl, rfl⟩) | (with_reducible refine (HW2.out _).mono ?_; clear HW2; rintro e w3 ⟨rfl, rfl⟩) | (with_reducible refine (HW3.out _).mono ?_; clear HW3; rintro e w3 ⟨rfl, rfl⟩) | (with_reducible refine (HW4.out _).mono ?_; clear HW4; rintro e w3 ⟨rfl, rfl⟩)))
                  go_ret
                  exact ⟨by rw [HR.out]; simp [*], HB.out⟩
              | false =>
                go_wp2_with (first
                  | (go_at_call 134; go_loud (refine (HCf.out _ (below_new w _)).mono ?_; clear HCf; rintro e w2 ⟨rfl, hb2⟩; obtain ⟨y0, y1, y2, y3, y4, y5, y6⟩ := HF.out w2 (by simpa using hb2); have HB := hid ((below_new w _).trans (hb2.mono (below_new w _).size))))
                  | (go_at_call 136; first | (with_reducible refine (HW1.out _).mono ?_; clear HW1; rintro e w3 ⟨rfl, rfl⟩) | (with_reducible refine (HW2.out _).mono ?_; clear HW2; rintro e w3 ⟨rfl, rfl⟩) | (with_reducible refine (HW3.out _).mono ?_; clear HW3; rintro e w3 ⟨rfl, rfl⟩) | (with_reducible refine (HW4.out _).mono ?_; clear HW4; rintro e w3 ⟨rfl, rfl⟩)))
                go_ret
                exact ⟨by rw [HR.out]; simp [*], HB.out⟩
            | false =>
              go_wp2_with (first
                | (go_at_call 134; go_loud (refine (HCf.out _ (below_new w _)).mono ?_; clear HCf; rintro e w2 ⟨rfl, hb2⟩; obtain ⟨y0, y1, y2, y3, y4, y5, y6⟩ := HF.out w2 (by simpa using hb2); have HB := hid ((below_new w _).trans (hb2.mono (below_new w _).size))))
                | (go_at_call 136; first | (with_reducible refine (HW1.out _).mono ?_; clear HW1; rintro e w3 ⟨rfl, rfl⟩) | (with_reducible refine (HW2.out _).mono ?_; clear HW2; rintro e w3 ⟨rfl, rfl⟩) | (with_reducible refine (HW3.out _).mono ?_; clear HW3; rintro e w3 ⟨rfl, rfl⟩) | (with_reducible refine (HW4.out _).mono ?_; clear HW4; rintro e w3 ⟨rfl, rfl⟩)))
              go_ret
              exact ⟨by rw [HR.out]; simp [*], HB.out⟩
          | false =>
            go_wp2_with (first
              | (go_at_call 134; go_loud (refine (HCf.out _ (below_new w _)).mono ?_; clear HCf; rintro e w2 ⟨rfl, hb2⟩; obtain ⟨y0, y1, y2, y3, y4, y5, y6⟩ := HF.out w2 (by simpa using hb2); have HB := hid ((below_new w _).trans (hb2.mono (below_new w _).size))))
              | (go_at_call 136; first | (with_reducible refine (HW1.out _).mono ?_; clear HW1; rintro e w3 ⟨rfl, rfl⟩) | (with_reducible refine (HW2.out _).mono ?_; clear HW2; rintro e w3 ⟨rfl, rfl⟩) | (with_reducible refine (HW3.out _).mono ?_; clear HW3; rintro e w3 ⟨rfl, rfl⟩) | (with_reducible refine (HW4.out _).mono ?_; clear HW4; rintro e w3 ⟨rfl, rfl⟩)))
            go_ret
            exact ⟨by rw [HR.out]; simp [*], HB.out⟩
        · have d3 : ¬ tq.size ≤ 12 := by omega
          go_wp2_with (first
            | (go_at_call 134; go_loud (refine (HCf.out _ (below_new w _)).mono ?_; clear HCf; rintro e w2 ⟨rfl, hb2⟩; obtain ⟨y0, y1, y2, y3, y4, y5, y6⟩ := HF.out w2 (by simpa using hb2); have HB := hid ((below_new w _).trans (hb2.mono (below_new w _).size))))
            | (go_at_call 136; first | (with_reducible refine (HW1.out _).mono ?_; clear HW1; rintro e w3 ⟨rfl, rfl⟩) | (with_reducible refine (HW2.out _).mono ?_; clear HW2; rintro e w3 ⟨rfl, rfl⟩) | (with_reducible refine (HW3.out _).mono ?_; clear HW3; rintro e w3 ⟨rfl, rfl⟩) | (with_reducible refine (HW4.out _).mono ?_; clear HW4; rintro e w3 ⟨rfl, rfl⟩)))
          go_ret
          exact ⟨by rw [HR.out]; simp [*], HB.out⟩
      · have d2 : ¬ fr.size ≤ 12 := by omega
        go_wp2_with (first
          | (go_at_call 134; go_loud (refine (HCf.out _ (below_new w _)).mono ?_; clear HCf; rintro e w2 ⟨rfl, hb2⟩; obtain ⟨y0, y1, y2, y3, y4, y5, y6⟩ := HF.out w2 (by simpa using hb2); have HB := hid ((below_new w _).trans (hb2.mono (below_new w _).size))))
          | (go_at_call 136; first | (with_reducible refine (HW1.out _).mono ?_; clear HW1; rintro e w3 ⟨rfl, rfl⟩) | (with_reducible refine (HW2.out _).mono ?_; clear HW2; rintro e w3 ⟨rfl, rfl⟩) | (with_reducible refine (HW3.out _).mono ?_; clear HW3; rintro e w3 ⟨rfl, rfl⟩) | (with_reducible refine (HW4.out _).mono ?_; clear HW4; rintro e w3 ⟨rfl, rfl⟩)))
        go_ret
        exact ⟨by rw [HR.out]; simp [*], HB.out⟩
    | false =>
      go_wp2_with (first
        | (go_at_call 134; go_loud (refine (HCf.out _ (below_new w _)).mono ?_; clear HCf; rintro e w2 ⟨rfl, hb2⟩; obtain ⟨y0, y1, y2, y3, y4, y5, y6⟩ := HF.out w2 (by simpa using hb2); have HB := hid ((below_new w _).trans (hb2.mono (below_new w _).size))))
        | (go_at_call 136; first | (with_reducible refine (HW1.out _).mono ?_; clear HW1; rintro e w3 ⟨rfl, rfl⟩) | (with_reducible refine (HW2.out _).mono ?_; clear HW2; rintro e w3 ⟨rfl, rfl⟩) | (with_reducible refine (HW3.out _).mono ?_; clear HW3; rintro e w3 ⟨rfl, rfl⟩) | (with_reducible refine (HW4.out _).mono ?_; clear HW4; rintro e w3 ⟨rfl, rfl⟩)))
      go_ret
      exact ⟨by rw [HR.out]; simp [*], HB.out⟩
  · have d0 : ¬ m ≤ 6 := by omega
    go_wp2_with (first
      | (go_at_call 134; go_loud (refine (HCf.out _ (below_new w _)).mono ?_; clear HCf; rintro e w2 ⟨rfl, hb2⟩; obtain ⟨y0, y1, y2, y3, y4, y5, y6⟩ := HF.out w2 (by simpa using hb2); have HB := hid ((below_new w _).trans (hb2.mono (below_new w _).size))))
      | (go_at_call 136; first | (with_reducible refine (HW1.out _).mono ?_; clear HW1; rintro e w3 ⟨rfl, rfl⟩) | (with_reducible refine (HW2.out _).mono ?_; clear HW2; rintro e w3 ⟨rfl, rfl⟩) | (with_reducible refine (HW3.out _).mono ?_; clear HW3; rintro e w3 ⟨rfl, rfl⟩) | (with_reducible refine (HW4.out _).mono ?_; clear HW4; rintro e w3 ⟨rfl, rfl⟩)))
    go_ret
    exact ⟨by rw [HR.out]; simp [*], below_new w _⟩
end Go.Proofs.YtgfkobfkncpmoaaDoor
