/- The law CodecBack at every cell, number, list and cut: true. Conditions: the texts are no longer than any are, the numbers of 64 bits; the list holds its rows; the tables of utf8 read as they are laid. -/
import Derived.Test.YtegdkcldgepngaaDoorDC
import Derived.Test.YtegdkcldgepngaaDoorCV
namespace Go.Proofs.YtegdkcldgepngaaDoor
open Go.RowKit

/-- No right cell's bytes begin with another's. -/
theorem cEnc_pre {r f q vs : List UInt8} {t k vk vn : Int} {r' f' q' vs' u : List UInt8} {t' k' vk' vn' : Int} (h : cRight r f q t k vk vn vs = true) (h' : cRight r' f' q' t' k' vk' vn' vs' = true) (i : inI vn) (i' : inI vn') (he : cEnc r f q t k vk vn vs = cEnc r' f' q' t' k' vk' vn' vs' ++ u) : u = [] := by
  obtain ⟨_, _, _, _, _, p1, p2, p3, p4, p5, p6, p7⟩ := cright_parts h
  obtain ⟨_, _, _, _, _, q1, q2, q3, q4, q5, q6, q7⟩ := cright_parts h'
  have he2 : cEnc r f q t k vk vn vs = esc r' ++ (0 :: 1 :: (esc f' ++ (0 :: 1 :: (midM q' k' ++ (tailM t' k' ++ (vPart k' vk' vn' vs' ++ u)))))) := by
    rw [he, cEnc_form]; simp [List.append_assoc]
  obtain ⟨rfl, rfl, e3⟩ := enc_in (rdT_esc r' (esc f' ++ (0 :: 1 :: (midM q' k' ++ (tailM t' k' ++ (vPart k' vk' vn' vs' ++ u)))))) (rdT_esc f' (midM q' k' ++ (tailM t' k' ++ (vPart k' vk' vn' vs' ++ u)))) he2
  have hm : Mid (midM q' k' ++ (tailM t' k' ++ (vPart k' vk' vn' vs' ++ u))) q' (tailM t' k' ++ (vPart k' vk' vn' vs' ++ u)) (decide (k' = 4)) := by
    by_cases hk : k' = 4
    · refine .inl ⟨by simp [hk], q5 hk, ?_⟩
      unfold midM
      rw [if_pos hk]; rfl
    · refine .inr ⟨by simp [hk], ?_, mid_text hk⟩
      intro x e
      have := mid_text (q := q') (X := tailM t' k' ++ (vPart k' vk' vn' vs' ++ u)) hk
      rw [e, rdT_two] at this; cases this
  obtain ⟨rfl, e4, e5⟩ := mid_in hm p5 e3
  obtain ⟨_, e6, x, e7, e8⟩ := tail_in p1 p2 p3 p4 e4
  obtain ⟨_, e9, y, e10, e11⟩ := tail_in (V := vPart k' vk' vn' vs' ++ u) q1 q2 q3 q4 rfl
  rw [e7] at e10
  injection e10 with e12 e13
  subst e12
  have ek : k = k' := by omega
  subst ek
  unfold vPart at e13
  by_cases hk : k = 1
  · rw [if_pos hk, if_pos hk] at e13
    have e0 : lexC (vEnc vk vn vs) (vEnc vk' vn' vs') = 0 := by rw [e13]; exact (lexC_prefix _ u).2
    obtain ⟨rfl, rfl, rfl⟩ := enc_prefix i i' (p6 hk) (q6 hk) e0
    have := congrArg List.length e13
    rw [List.length_append] at this
    exact List.eq_nil_of_length_eq_zero (by omega)
  · rw [if_neg hk, if_neg hk] at e13
    simpa using e13.symm
theorem cut_none {r f q vs : List UInt8} {t k vk vn : Int} (h : cRight r f q t k vk vn vs = true) (i : inI vn) (cut : Nat) (hc : cut < (cEnc r f q t k vk vn vs).length) : NoCell ((cEnc r f q t k vk vn vs).take cut) := by
  intro r' f' q' t' k' vk' vn' vs' h' i' he
  have e : cEnc r f q t k vk vn vs = cEnc r' f' q' t' k' vk' vn' vs' ++ (cEnc r f q t k vk vn vs).drop cut := by rw [he, List.take_append_drop]
  have := congrArg List.length (cEnc_pre h h' i i' e)
  simp at this
  omega
theorem cEnc_len {r f q vs : List UInt8} {t k vk vn : Int} (h : cRight r f q t k vk vn vs = true) : (cEnc r f q t k vk vn vs).length ≤ 2000 ∧ 0 < (cEnc r f q t k vk vn vs).length := by
  have h1 := key_len h
  obtain ⟨_, _, _, _, _, _, _, _, _, _, p6, _⟩ := cright_parts h
  have h2 := tail_len t k
  unfold cEnc
  rw [List.length_append]
  have h0 : 0 < (keyM r f q t k).length := by unfold keyM; simp only [List.length_append, List.length_cons, List.length_nil]; omega
  split
  · rename_i hk
    have := enc_small (p6 hk)
    omega
  · simp only [List.length_nil]; omega

theorem tkGo_ext : ∀ (f i : Nat) (l u r : List UInt8) (n : Nat), tkGo f i l = some (n, r) → tkGo f i (l ++ u) = some (n, r ++ u)
  | 0, i, l, u, r, n, h => by simp [tkGo] at h
  | f + 1, i, [], u, r, n, h => by simp [tkGo] at h
  | f + 1, i, x :: t, u, r, n, h => by
    show tkGo (f + 1) i (x :: (t ++ u)) = _
    rw [tkGo] at h ⊢
    split at h
    · rename_i h1
      rw [if_pos h1]
      split at h
      · cases h
      · rename_i h2
        rw [if_neg h2]
        cases h; rfl
    · rename_i h1
      rw [if_neg h1]
      cases ht : tkGo f (i + 1) t with
      | none => rw [ht] at h; cases h
      | some p =>
        obtain ⟨n', r'⟩ := p
        rw [ht] at h
        rw [tkGo_ext f (i + 1) t u r' n' ht]
        cases h; rfl
theorem ptM_ext : ∀ (n : Nat) (l u r : List UInt8) (ls : List (List UInt8)), ptM n l = some (ls, r) → ptM n (l ++ u) = some (ls, r ++ u)
  | 0, l, u, r, ls, h => by cases h; rfl
  | n + 1, l, u, r, ls, h => by
    cases ht : tk l with
    | none => rw [ptM, ht] at h; cases h
    | some p =>
      obtain ⟨k, r0⟩ := p
      have ht2 : tk (l ++ u) = some (k, r0 ++ u) := tkGo_ext 9 0 l u r0 k ht
      rw [ptM, ht] at h
      simp only [] at h
      by_cases hk : k ≤ r0.length
      · rw [if_pos hk] at h
        cases hp : ptM n (r0.drop k) with
        | none => rw [hp] at h; cases h
        | some p =>
          obtain ⟨ls', r'⟩ := p
          rw [hp] at h
          have ih := ptM_ext n (r0.drop k) u r' ls' hp
          rw [ptM_some ht2 (by rw [List.length_append]; omega), List.drop_append_of_le_length hk, List.take_append_of_le_length hk, ih]
          cases h; rfl
      · rw [if_neg hk] at h; cases h
/-- A list's bytes, cut, are no list's. -/
theorem parts_cut (L : List UInt8) (ls : List (List UInt8)) (h : partsM L = some ls) (cut : Nat) (hc : cut < L.length) : partsM (L.take cut) = none := by
  cases hp : partsM (L.take cut) with
  | none => rfl
  | some ls' =>
    exfalso
    unfold partsM at hp
    cases ht : tk (L.take cut) with
    | none => rw [ht] at hp; cases hp
    | some p =>
      obtain ⟨n, r⟩ := p
      rw [ht] at hp
      simp only [] at hp
      cases hq : ptM n r with
      | none => rw [hq] at hp; cases hp
      | some p =>
        obtain ⟨ls2, r2⟩ := p
        rw [hq] at hp
        cases r2 with
        | cons y t => cases hp
        | nil =>
          have e1 : tk L = some (n, r ++ L.drop cut) := by
            have := tkGo_ext 9 0 (L.take cut) (L.drop cut) r n ht
            rwa [List.take_append_drop] at this
          have e2 := ptM_ext n r (L.drop cut) [] ls2 hq
          rw [List.nil_append] at e2
          unfold partsM at h
          rw [e1] at h
          simp only [e2] at h
          have hd : L.drop cut ≠ [] := by
            intro e
            have := congrArg List.length e
            simp at this; omega
          cases hx : L.drop cut with
          | nil => exact hd hx
          | cons y t => rw [hx] at h; cases h
theorem rows_small : ∀ (ls : List (List UInt8)), wgt ls ≤ 2000 → (rowsM ls).length ≤ 9 * wgt ls
  | [], _ => by simp [rowsM, wgt]
  | x :: t, h => by
    unfold wgt at h ⊢
    have h1 := rows_small t (by omega)
    have h2 := numW_len9 x.length (by omega)
    show (numW x.length ++ (x ++ rowsM t)).length ≤ _
    rw [List.length_append, List.length_append]
    omega

set_option maxHeartbeats 1000000 in
theorem num_neg (n : Int) (hn : n < 0) (w : World) :
    Calls Tryd.prog 30 #[.int .i64 n] w fun e w' => ∃ v, e = .returned v ∧ Row w' w.heap.size v [] ∧ Below w.heap.size w w' := by
  have HN : Hid (∀ W : World, Calls Tryd.prog 61 #[.pointer (some ⟨w.heap.size, 0, none⟩), .int .i64 n] W fun e w' => e = .returned (.tuple #[]) ∧ W = w') := fun W => wnumber_neg w.heap.size n hn W
  have HW := hid (wr_new w w.heap.size (Nat.le_refl _))
  go_enter Tryd.func30, Tryd.ntmps30
  go_wp2_with (first | (go_at_call 61; refine (HN.out _).mono ?_; rintro e w1 ⟨rfl, rfl⟩) | (go_at_call 34; refine (wbytes_any _ _ _ _ HW.out).mono ?_; rintro e w2 ⟨v, rfl, h3, h4⟩))
  go_ret
  exact ⟨_, rfl, h3, ((Below.refl _ _).alloc (Nat.le_refl _) _).trans (h4.mono (by simp))⟩

/-- What the law's second half calls. -/
structure BackH (w : World) (n : Int) (A0 : Option Addr) (m0 c0 : Nat) (X : List UInt8) (tn : Int) (tl nl : Nat) (L : List UInt8) (ls : List (List UInt8)) : Prop where
  num : ∀ W : World, Calls Tryd.prog 30 #[.int .i64 n] W fun e w' => ∃ A c X0, e = .returned (.slice A nl c) ∧ SlA w' (.slice A nl c) X0 ∧ X = X0 ++ [9] ∧ Below W.heap.size W w'
  copy : ∀ (W : World) v X0, SlA W v X0 → X = X0 ++ [9] → Calls Tryd.prog 20 #[v] W fun e w' => ∃ v', e = .returned v' ∧ Row w' W.heap.size v' X0 ∧ Below W.heap.size W w'
  take : ∀ (W : World) v, SlA W v X → Calls Tryd.prog 23 #[v] W fun e w' => ∃ A c, e = .returned (.tuple #[.int .i64 tn, .slice A tl c, .bool true]) ∧ Below W.heap.size W w'
  list : ∀ W : World, Below w.heap.size w W → Calls Tryd.prog 31 #[.slice A0 m0 c0] W fun e w' => ∃ g c, e = .returned (.slice (some ⟨g, 0, none⟩) L.length c) ∧ SlA w' (.slice (some ⟨g, 0, none⟩) L.length c) L ∧ Below W.heap.size W w'
  parts : ∀ (W : World) v, SlA W v L → Calls Tryd.prog 25 #[v] W fun e w' => ∃ v', e = .returned (.tuple #[v', .bool true]) ∧ LsB w' v' ls ∧ Below W.heap.size W w'
  same : ∀ (W : World) v, Below w.heap.size w W → LsB W v ls → Calls Tryd.prog 27 #[v, .slice A0 m0 c0] W fun e w' => e = .returned (.bool true) ∧ Below W.heap.size W w'
  cut : ∀ (W : World) g c cn, SlA W (.slice (some ⟨g, 0, none⟩) L.length c) L → cn < L.length → Calls Tryd.prog 25 #[.slice (some ⟨g, 0, none⟩) cn c] W fun e w' => e = .returned (.tuple #[.slice none 0 0, .bool false]) ∧ Below W.heap.size W w'
  xl : X.length ≤ 100

theorem SlA.cut {w : World} {A : Option Addr} {c : Nat} {l : List UInt8} (h : SlA w (.slice A l.length c) l) (k : Nat) (hk : k ≤ l.length) : HoldsA w A (l.take k) ∧ k ≤ c ∧ c ≤ 9223372036854775807 := by
  obtain ⟨A', c', e, h1, h2, h3, _⟩ := h
  injection e with e1 _ e2
  subst e1; subst e2
  refine ⟨fun h0 => ?_, by omega, h2⟩
  rw [List.length_take] at h0
  obtain ⟨b, off, e, hh⟩ := h3 (by omega)
  refine ⟨b, off, e, fun i hi => ?_⟩
  rw [List.length_take] at hi
  rw [hh i (by omega)]
  simp only [List.getD_eq_getElem?_getD, List.getElem?_take_of_lt (show i < k by omega)]

set_option maxRecDepth 100000 in
set_option maxHeartbeats 16000000 in
theorem cback_main (r f q vs : ByteArray) (t k vk vn : Int) (n : Int) (A0 : Option Addr) (m0 cz : Nat) (cut : Int) (w : World) (lo b1 : Bool) (E X L : List UInt8) (tn : Int) (tl nl : Nat) (ls : List (List UInt8))
    (hlo : ∀ (W : World), Calls Tryd.prog 10 #[.slice (some ⟨W.heap.size, 0, none⟩) 1 1] (W.alloc (.cells #[.string r, .string f, .string q, .int .i64 t, .int .i64 k, .int .i64 vk, .int .i64 vn, .string vs] 25)) fun e w' => e = .returned (.bool lo) ∧ Below (W.alloc (.cells #[.string r, .string f, .string q, .int .i64 t, .int .i64 k, .int .i64 vk, .int .i64 vn, .string vs] 25)).heap.size (W.alloc (.cells #[.string r, .string f, .string q, .int .i64 t, .int .i64 k, .int .i64 vk, .int .i64 vn, .string vs] 25)) w')
    (ha : ∀ W, Below w.heap.size w W → Calls Tryd.prog 9 #[] W fun e w' => e = .returned (.bool true) ∧ Below W.heap.size W w')
    (hk : lo = true ∨ (lo = false ∧ (WeighGt w (.slice A0 m0 cz) 2000 ∨ (WeighLe w (.slice A0 m0 cz) 2000 ∧
      BackH w n A0 m0 cz X tn tl nl L ls ∧ ((0 ≤ n ∧ tn = n ∧ tl = 1 ∧ nl = nl) ∨ (n < 0 ∧ True ∧ nl = 0)) ∧
      (∀ W, Below w.heap.size w W → Calls Tryd.prog 15 #[cellV r f q t k vk vn vs] W fun e w' => e = .returned (.bool b1) ∧ Below W.heap.size W w') ∧
      ((b1 = false ∧ (∀ W, Below w.heap.size w W → Calls Tryd.prog 13 #[cellV r f q t k vk vn vs] W fun e w' => e = .returned (.tuple #[.slice none 0 0, .bool false]) ∧ Below W.heap.size W w')) ∨
       (b1 = true ∧ (∀ W, Below w.heap.size w W → Calls Tryd.prog 13 #[cellV r f q t k vk vn vs] W fun e w' => ∃ g c, e = .returned (.tuple #[.slice (some ⟨g, 0, none⟩) E.length c, .bool true]) ∧ SlA w' (.slice (some ⟨g, 0, none⟩) E.length c) E ∧ Below W.heap.size W w') ∧
        (∀ W g c, Below w.heap.size w W → SlA W (.slice (some ⟨g, 0, none⟩) E.length c) E → Calls Tryd.prog 21 #[.slice (some ⟨g, 0, none⟩) E.length c] W fun e w' => e = .returned (.tuple #[cellV r f q t k vk vn vs, .bool true]) ∧ Below W.heap.size W w') ∧
        (∀ W g c cn, Below w.heap.size w W → SlA W (.slice (some ⟨g, 0, none⟩) E.length c) E → cn < E.length → Calls Tryd.prog 21 #[.slice (some ⟨g, 0, none⟩) cn c] W fun e w' => e = .returned (.tuple #[cellV ⟨#[]⟩ ⟨#[]⟩ ⟨#[]⟩ 0 0 0 0 ⟨#[]⟩, .bool false]) ∧ Below W.heap.size W w')))))))
    : Calls Tryd.prog 7 #[cellV r f q t k vk vn vs, .int .i64 n, .slice A0 m0 cz, .int .i64 cut] w fun e w' => e = .returned (.bool true) ∧ Below w.heap.size w w' := by
  have HA := hid ha
  have HLo := hid hlo
  have HK := hid hk
  clear ha hlo hk
  go_enter Tryd.func7, Tryd.ntmps7
  go_upto_region 3 with (go_at_call 9; refine (HA.out _ (below_new _ _)).mono ?_; rintro e w1 ⟨rfl, hb1⟩)
  refine wp_ltr (fun W => Hid (OneB w W #[.string r, .string f, .string q, .int .i64 t, .int .i64 k, .int .i64 vk, .int .i64 vn, .string vs]) ∧ W.cell? ⟨w.heap.size, 0, none⟩ = some (.string r) ∧ W.cell? ⟨w.heap.size, 1, none⟩ = some (.string f) ∧ W.cell? ⟨w.heap.size, 2, none⟩ = some (.string q) ∧ W.cell? ⟨w.heap.size, 3, none⟩ = some (.int .i64 t) ∧ W.cell? ⟨w.heap.size, 4, none⟩ = some (.int .i64 k) ∧ W.cell? ⟨w.heap.size, 5, none⟩ = some (.int .i64 vk) ∧ W.cell? ⟨w.heap.size, 6, none⟩ = some (.int .i64 vn) ∧ W.cell? ⟨w.heap.size, 7, none⟩ = some (.string vs)) ?_ (fun W2 hW2 => ?_)
  · have B0 := (Blk.new w 25 #[.string r, .string f, .string q, .int .i64 t, .int .i64 k, .int .i64 vk, .int .i64 vn, .string vs]).keep hb1 (by simp)
    exact ⟨⟨B0, (below_new w _).trans (hb1.mono (by simp))⟩, B0.cell 0, B0.cell 1, B0.cell 2, B0.cell 3, B0.cell 4, B0.cell 5, B0.cell 6, B0.cell 7⟩
  clear hb1
  obtain ⟨HT2, c0, c1, c2, c3, c4, c5, c6, c7⟩ := hW2
  have HT3 : Hid (∀ w3, Below (W2.alloc (.cells #[.string r, .string f, .string q, .int .i64 t, .int .i64 k, .int .i64 vk, .int .i64 vn, .string vs] 25)).heap.size (W2.alloc (.cells #[.string r, .string f, .string q, .int .i64 t, .int .i64 k, .int .i64 vk, .int .i64 vn, .string vs] 25)) w3 → OneB w w3 #[.string r, .string f, .string q, .int .i64 t, .int .i64 k, .int .i64 vk, .int .i64 vn, .string vs]) := fun w3 h => (HT2.out.below (below_new _ _)).below h
  rcases HK.out with rfl | ⟨rfl, hwg | ⟨hwl, hH, hsg, hR, hE⟩⟩
  · clear HK
    go_wp2_with (first
      | (go_at_call 10; refine (HLo.out _).mono ?_; rintro e w3 ⟨rfl, hb3⟩; have HB3 := hid (HT3.out w3 hb3)))
    go_ret
    exact ⟨rfl, HB3.out.bw⟩
  · clear HK
    have HWG := hid hwg
    clear hwg
    go_wp2_with (first
      | (go_at_call 10; refine (HLo.out _).mono ?_; rintro e w3 ⟨rfl, hb3⟩; have HB3 := hid (HT3.out w3 hb3))
      | (go_at_call 29; refine (HWG.out _ HB3.out.bw).mono ?_; rintro e w4 ⟨z, rfl, hz, hb4⟩))
    go_ret
    exact ⟨rfl, (HB3.out.below hb4).bw⟩
  clear HK
  have HWL := hid hwl
  have HH := hid hH
  have HSg := hid hsg
  have HRc := hid hR
  have HE := hid hE
  clear hwl hH hsg hR hE
  go_upto_region 5 with (first
    | (go_at_call 10; refine (HLo.out _).mono ?_; rintro e w3 ⟨rfl, hb3⟩; have HB3 := hid (HT3.out w3 hb3))
    | (go_at_call 29; refine (HWL.out _ HB3.out.bw).mono ?_; rintro e w4 ⟨z, rfl, hz, hb4⟩; have hz' : ¬ 2000 < z := (by omega)))
  have HB4 := hid (HB3.out.below hb4)
  clear HT2 HT3 HB3 HLo HA HWL hb3 hb4 hz hz' c0 c1 c2 c3 c4 c5 c6 c7
  have c0 : w4.cell? ⟨w.heap.size, 0, none⟩ = some (.string r) := HB4.out.c.cell 0; have c1 : w4.cell? ⟨w.heap.size, 1, none⟩ = some (.string f) := HB4.out.c.cell 1; have c2 : w4.cell? ⟨w.heap.size, 2, none⟩ = some (.string q) := HB4.out.c.cell 2; have c3 : w4.cell? ⟨w.heap.size, 3, none⟩ = some (.int .i64 t) := HB4.out.c.cell 3; have c4 : w4.cell? ⟨w.heap.size, 4, none⟩ = some (.int .i64 k) := HB4.out.c.cell 4; have c5 : w4.cell? ⟨w.heap.size, 5, none⟩ = some (.int .i64 vk) := HB4.out.c.cell 5; have c6 : w4.cell? ⟨w.heap.size, 6, none⟩ = some (.int .i64 vn) := HB4.out.c.cell 6; have c7 : w4.cell? ⟨w.heap.size, 7, none⟩ = some (.string vs) := HB4.out.c.cell 7
  rcases HE.out with ⟨rfl, hEn⟩ | ⟨rfl, hEn, hDe, hDc⟩
  · have HEn := hid hEn
    clear hEn HE
    go_upto_region 16 with (first
      | (go_at_call 13; refine (HEn.out _ HB4.out.bw).mono ?_; rintro e w5 ⟨rfl, hb5⟩; have HB5 := hid (HB4.out.below hb5); have e0 : w5.cell? ⟨w.heap.size, 0, none⟩ = some (.string r) := HB5.out.c.cell 0; have e1 : w5.cell? ⟨w.heap.size, 1, none⟩ = some (.string f) := HB5.out.c.cell 1; have e2 : w5.cell? ⟨w.heap.size, 2, none⟩ = some (.string q) := HB5.out.c.cell 2; have e3 : w5.cell? ⟨w.heap.size, 3, none⟩ = some (.int .i64 t) := HB5.out.c.cell 3; have e4 : w5.cell? ⟨w.heap.size, 4, none⟩ = some (.int .i64 k) := HB5.out.c.cell 4; have e5 : w5.cell? ⟨w.heap.size, 5, none⟩ = some (.int .i64 vk) := HB5.out.c.cell 5; have e6 : w5.cell? ⟨w.heap.size, 6, none⟩ = some (.int .i64 vn) := HB5.out.c.cell 6; have e7 : w5.cell? ⟨w.heap.size, 7, none⟩ = some (.string vs) := HB5.out.c.cell 7)
      | (go_at_call 15; refine (HRc.out _ HB5.out.bw).mono ?_; rintro e w6 ⟨rfl, hb6⟩))
    have HBW := hid (HB5.out.below hb6).bw
    clear HB4 HB5 hb5 hb6 HEn HRc c0 c1 c2 c3 c4 c5 c6 c7 e0 e1 e2 e3 e4 e5 e6 e7
    rcases HSg.out with hsign | hsign
    · obtain ⟨hn0, hn1, hn2, hn3⟩ := hsign
      subst hn1; subst hn2; clear hn3
      have q0 : (tn != tn) = false := by simp
      go_upto_region 20 with (first
        | (go_at_call 30; refine (HH.out.num _).mono ?_; rintro e v1 ⟨A1, c1, X0, rfl, hS1, hX1, hb1⟩)
        | (go_at_call 20; refine (HH.out.copy _ _ _ hS1 hX1).mono ?_; rintro e v2 ⟨u2, rfl, hR2, hb2⟩)
        | (at_builtin; refine wpList_append_bytes rfl (.tmp 72) (.tmp 73) rfl _ v1.heap.size _ X0 rfl (hR2.alloc _) ⟨v2.heap.size, 0, none⟩ 1 1 [9] rfl rfl (one_new' _ _ _ _ rfl) (by have := HH.out.xl; rw [hX1] at this; simp only [List.length_append, List.length_cons, List.length_nil] at this ⊢; omega) (by have := hb2.size; simp; omega) ?_; intro u3 v3 hR3 hb3)
        | (go_at_call 23; refine (HH.out.take _ _ (by rw [hX1]; exact hR3.sla)).mono ?_; rintro e v4 ⟨A4, c4, rfl, hb4⟩))
      have hz1 : w.heap.size ≤ v1.heap.size := Nat.le_trans HBW.out.size hb1.size
      have hz2 : w.heap.size ≤ v2.heap.size := Nat.le_trans hz1 hb2.size
      have hbA : Below w.heap.size w v2 := (HBW.out.trans (hb1.mono HBW.out.size)).trans (hb2.mono hz1)
      have hbB : Below w.heap.size w v3 := (hbA.alloc hz2 _).trans (hb3.mono hz1)
      have HB4 : Hid (Below w.heap.size w v4) := hbB.trans (hb4.mono hbB.size)
      clear hb1 hb2 hb3 hb4 hS1 hX1 hR2 hR3 hz1 hz2 hbA hbB q0 HBW
      go_upto_region 24 with (first
        | (go_at_call 31; refine (HH.out.list _ HB4.out).mono ?_; rintro e v5 ⟨g5, c5, rfl, hS5, hb5⟩; have HS5 := hid hS5; have HB5 := hid (HB4.out.trans (hb5.mono HB4.out.size)); clear hS5)
        | (go_at_call 25; refine (HH.out.parts _ _ HS5.out).mono ?_; rintro e v6 ⟨u6, rfl, hL6, hb6⟩; have HS6 := hid (HS5.out.below hb6); have HB6 := hid (HB5.out.trans (hb6.mono HB5.out.size)); obtain ⟨A6, c6, rfl, _⟩ := id hL6)
        | (go_at_call 27; refine (HH.out.same _ _ HB6.out hL6).mono ?_; rintro e v7 ⟨rfl, hb7⟩; have HS7 := hid (HS6.out.below hb7); have HB7 := hid (HB6.out.trans (hb7.mono HB6.out.size))))
      clear hb5 hb6 hb7 hL6 HS5 HB5 HS6 HB6 HB4
      have HMc : Hid (L.length ≤ c5 ∧ c5 ≤ 9223372036854775807) := by
        have h := (SlA.cut HS7.out L.length (Nat.le_refl _)).2
        exact h
      obtain ⟨M, hM⟩ : ∃ M, L.length = M := ⟨_, rfl⟩
      have HM := hid hM
      rw [hM] at HS7 HMc
      try rw [hM]
      clear hM
      obtain ⟨hmc1, hmc2⟩ := HMc.out
      by_cases hcut : 0 ≤ cut ∧ cut < (M : Int)
      · obtain ⟨cn, hcn⟩ : ∃ cn : Nat, cut = (cn : Int) := ⟨cut.toNat, by omega⟩
        subst hcn
        obtain ⟨hc1, hc2⟩ := hcut
        have hcm : cn < M := by omega
        have hcc : cn ≤ c5 := by omega
        have HCt : Hid (Calls Tryd.prog 25 #[.slice (some ⟨g5, 0, none⟩) cn c5] v7 fun e w' => e = .returned (.tuple #[.slice none 0 0, .bool false]) ∧ Below v7.heap.size v7 w') := HH.out.cut v7 g5 c5 cn (by rw [HM.out]; exact HS7.out) (by rw [HM.out]; exact hcm)
        go_wp2_with (go_at_call 25; refine HCt.out.mono ?_; rintro e v8 ⟨rfl, hb8⟩)
        go_ret
        exact ⟨rfl, HB7.out.trans (hb8.mono HB7.out.size)⟩
      · have hcc : cut < 0 ∨ (M : Int) ≤ cut := by omega
        rcases hcc with hcc | hcc
        · have q1 : ¬ (0 ≤ cut) := by omega
          go_wp2
          go_ret
          exact ⟨rfl, HB7.out⟩
        · have q1 : 0 ≤ cut := by omega
          have q2 : ¬ cut < (M : Int) := by omega
          go_wp2
          go_ret
          exact ⟨rfl, HB7.out⟩
    · obtain ⟨hn0, hn1, hn2⟩ := hsign
      subst hn2
      have q0 : ¬ (0 ≤ n) := by omega
      go_upto_region 20 with (first
        | (go_at_call 30; refine (HH.out.num _).mono ?_; rintro e v1 ⟨A1, c1, X0, rfl, hS1, hX1, hb1⟩)
        | (go_at_call 20; refine (HH.out.copy _ _ _ hS1 hX1).mono ?_; rintro e v2 ⟨u2, rfl, hR2, hb2⟩)
        | (at_builtin; refine wpList_append_bytes rfl (.tmp 72) (.tmp 73) rfl _ v1.heap.size _ X0 rfl (hR2.alloc _) ⟨v2.heap.size, 0, none⟩ 1 1 [9] rfl rfl (one_new' _ _ _ _ rfl) (by have := HH.out.xl; rw [hX1] at this; simp only [List.length_append, List.length_cons, List.length_nil] at this ⊢; omega) (by have := hb2.size; simp; omega) ?_; intro u3 v3 hR3 hb3)
        | (go_at_call 23; refine (HH.out.take _ _ (by rw [hX1]; exact hR3.sla)).mono ?_; rintro e v4 ⟨A4, c4, rfl, hb4⟩))
      have hz1 : w.heap.size ≤ v1.heap.size := Nat.le_trans HBW.out.size hb1.size
      have hz2 : w.heap.size ≤ v2.heap.size := Nat.le_trans hz1 hb2.size
      have hbA : Below w.heap.size w v2 := (HBW.out.trans (hb1.mono HBW.out.size)).trans (hb2.mono hz1)
      have hbB : Below w.heap.size w v3 := (hbA.alloc hz2 _).trans (hb3.mono hz1)
      have HB4 : Hid (Below w.heap.size w v4) := hbB.trans (hb4.mono hbB.size)
      clear hb1 hb2 hb3 hb4 hS1 hX1 hR2 hR3 hz1 hz2 hbA hbB q0 HBW
      go_upto_region 24 with (first
        | (go_at_call 31; refine (HH.out.list _ HB4.out).mono ?_; rintro e v5 ⟨g5, c5, rfl, hS5, hb5⟩; have HS5 := hid hS5; have HB5 := hid (HB4.out.trans (hb5.mono HB4.out.size)); clear hS5)
        | (go_at_call 25; refine (HH.out.parts _ _ HS5.out).mono ?_; rintro e v6 ⟨u6, rfl, hL6, hb6⟩; have HS6 := hid (HS5.out.below hb6); have HB6 := hid (HB5.out.trans (hb6.mono HB5.out.size)); obtain ⟨A6, c6, rfl, _⟩ := id hL6)
        | (go_at_call 27; refine (HH.out.same _ _ HB6.out hL6).mono ?_; rintro e v7 ⟨rfl, hb7⟩; have HS7 := hid (HS6.out.below hb7); have HB7 := hid (HB6.out.trans (hb7.mono HB6.out.size))))
      clear hb5 hb6 hb7 hL6 HS5 HB5 HS6 HB6 HB4
      have HMc : Hid (L.length ≤ c5 ∧ c5 ≤ 9223372036854775807) := by
        have h := (SlA.cut HS7.out L.length (Nat.le_refl _)).2
        exact h
      obtain ⟨M, hM⟩ : ∃ M, L.length = M := ⟨_, rfl⟩
      have HM := hid hM
      rw [hM] at HS7 HMc
      try rw [hM]
      clear hM
      obtain ⟨hmc1, hmc2⟩ := HMc.out
      by_cases hcut : 0 ≤ cut ∧ cut < (M : Int)
      · obtain ⟨cn, hcn⟩ : ∃ cn : Nat, cut = (cn : Int) := ⟨cut.toNat, by omega⟩
        subst hcn
        obtain ⟨hc1, hc2⟩ := hcut
        have hcm : cn < M := by omega
        have hcc : cn ≤ c5 := by omega
        have HCt : Hid (Calls Tryd.prog 25 #[.slice (some ⟨g5, 0, none⟩) cn c5] v7 fun e w' => e = .returned (.tuple #[.slice none 0 0, .bool false]) ∧ Below v7.heap.size v7 w') := HH.out.cut v7 g5 c5 cn (by rw [HM.out]; exact HS7.out) (by rw [HM.out]; exact hcm)
        go_wp2_with (go_at_call 25; refine HCt.out.mono ?_; rintro e v8 ⟨rfl, hb8⟩)
        go_ret
        exact ⟨rfl, HB7.out.trans (hb8.mono HB7.out.size)⟩
      · have hcc : cut < 0 ∨ (M : Int) ≤ cut := by omega
        rcases hcc with hcc | hcc
        · have q1 : ¬ (0 ≤ cut) := by omega
          go_wp2
          go_ret
          exact ⟨rfl, HB7.out⟩
        · have q1 : 0 ≤ cut := by omega
          have q2 : ¬ cut < (M : Int) := by omega
          go_wp2
          go_ret
          exact ⟨rfl, HB7.out⟩
  · have HEn := hid hEn
    have HDe := hid hDe
    have HDc := hid hDc
    clear hEn hDe hDc HE
    obtain ⟨N, hN⟩ : ∃ N, E.length = N := ⟨_, rfl⟩
    have HN := hid hN
    rw [hN] at HEn HDe HDc
    clear hN
    go_upto_region 9 with (first
      | (go_at_call 13; refine (HEn.out _ HB4.out.bw).mono ?_; rintro e w5 ⟨gE, zE, rfl, hS5, hb5⟩; have HB5 := hid (HB4.out.below hb5); have HS5 := hid hS5; clear hS5; have e0 : w5.cell? ⟨w.heap.size, 0, none⟩ = some (.string r) := HB5.out.c.cell 0; have e1 : w5.cell? ⟨w.heap.size, 1, none⟩ = some (.string f) := HB5.out.c.cell 1; have e2 : w5.cell? ⟨w.heap.size, 2, none⟩ = some (.string q) := HB5.out.c.cell 2; have e3 : w5.cell? ⟨w.heap.size, 3, none⟩ = some (.int .i64 t) := HB5.out.c.cell 3; have e4 : w5.cell? ⟨w.heap.size, 4, none⟩ = some (.int .i64 k) := HB5.out.c.cell 4; have e5 : w5.cell? ⟨w.heap.size, 5, none⟩ = some (.int .i64 vk) := HB5.out.c.cell 5; have e6 : w5.cell? ⟨w.heap.size, 6, none⟩ = some (.int .i64 vn) := HB5.out.c.cell 6; have e7 : w5.cell? ⟨w.heap.size, 7, none⟩ = some (.string vs) := HB5.out.c.cell 7)
      | (go_at_call 15; refine (HRc.out _ HB5.out.bw).mono ?_; rintro e w6 ⟨rfl, hb6⟩))
    have HB6 := hid (HB5.out.below hb6)
    have HS6 := hid (HS5.out.below hb6)
    clear HB4 HB5 HS5 hb5 hb6 HEn HRc c0 c1 c2 c3 c4 c5 c6 c7 e0 e1 e2 e3 e4 e5 e6 e7
    go_upto_region 10 with (go_at_call 21; refine (HDe.out _ _ _ HB6.out.bw HS6.out).mono ?_; rintro e w7 ⟨rfl, hb7⟩)
    obtain ⟨db, hdb⟩ : ∃ db, w7.heap.size = db := ⟨_, rfl⟩
    refine wp_ltr (fun W => Hid (TwoB w W db #[.string r, .string f, .string q, .int .i64 t, .int .i64 k, .int .i64 vk, .int .i64 vn, .string vs] #[.string r, .string f, .string q, .int .i64 t, .int .i64 k, .int .i64 vk, .int .i64 vn, .string vs] ∧ SlA W (.slice (some ⟨gE, 0, none⟩) N zE) E) ∧ W.cell? ⟨w.heap.size, 0, none⟩ = some (.string r) ∧ W.cell? ⟨w.heap.size, 1, none⟩ = some (.string f) ∧ W.cell? ⟨w.heap.size, 2, none⟩ = some (.string q) ∧ W.cell? ⟨w.heap.size, 3, none⟩ = some (.int .i64 t) ∧ W.cell? ⟨w.heap.size, 4, none⟩ = some (.int .i64 k) ∧ W.cell? ⟨w.heap.size, 5, none⟩ = some (.int .i64 vk) ∧ W.cell? ⟨w.heap.size, 6, none⟩ = some (.int .i64 vn) ∧ W.cell? ⟨w.heap.size, 7, none⟩ = some (.string vs) ∧ W.cell? ⟨db, 0, none⟩ = some (.string r) ∧ W.cell? ⟨db, 1, none⟩ = some (.string f) ∧ W.cell? ⟨db, 2, none⟩ = some (.string q) ∧ W.cell? ⟨db, 3, none⟩ = some (.int .i64 t) ∧ W.cell? ⟨db, 4, none⟩ = some (.int .i64 k) ∧ W.cell? ⟨db, 5, none⟩ = some (.int .i64 vk) ∧ W.cell? ⟨db, 6, none⟩ = some (.int .i64 vn) ∧ W.cell? ⟨db, 7, none⟩ = some (.string vs)) ?_ (fun W8 hW8 => ?_)
    · have h7 := HB6.out.below hb7
      have h8 := h7.below (below_new w7 (.cells #[.string r, .string f, .string q, .int .i64 t, .int .i64 k, .int .i64 vk, .int .i64 vn, .string vs] 25))
      have hd : Blk (w7.alloc (.cells #[.string r, .string f, .string q, .int .i64 t, .int .i64 k, .int .i64 vk, .int .i64 vn, .string vs] 25)) db 25 #[.string r, .string f, .string q, .int .i64 t, .int .i64 k, .int .i64 vk, .int .i64 vn, .string vs] := by rw [← hdb]; exact Blk.new w7 _ _
      exact ⟨⟨⟨h8.c, hd, h8.bw⟩, (HS6.out.below hb7).below (below_new _ _)⟩, h8.c.cell 0, h8.c.cell 1, h8.c.cell 2, h8.c.cell 3, h8.c.cell 4, h8.c.cell 5, h8.c.cell 6, h8.c.cell 7, hd.cell 0, hd.cell 1, hd.cell 2, hd.cell 3, hd.cell 4, hd.cell 5, hd.cell 6, hd.cell 7⟩
    rw [hdb]
    clear hdb hb7 HB6 HS6 HDe
    obtain ⟨HS8, c0, c1, c2, c3, c4, c5, c6, c7, d0, d1, d2, d3, d4, d5, d6, d7⟩ := hW8
    go_upto_region 12 with (fail)
    have HN8 : Hid (N ≤ zE ∧ zE ≤ 9223372036854775807) := by
      have h := HS8.out.2
      rw [← HN.out] at h
      have := (SlA.cut h E.length (Nat.le_refl _)).2
      rwa [HN.out] at this
    obtain ⟨hnc1, hnc2⟩ := HN8.out
    clear c0 c1 c2 c3 c4 c5 c6 c7 d0 d1 d2 d3 d4 d5 d6 d7
    by_cases hcutE : 0 ≤ cut ∧ cut < (N : Int)
    · obtain ⟨cn0, hcn0⟩ : ∃ cn : Nat, cut = (cn : Int) := ⟨cut.toNat, by omega⟩
      subst hcn0
      obtain ⟨hc1, hc2⟩ := hcutE
      have hcmE : cn0 < N := by omega
      have hccE : cn0 ≤ zE := by omega
      have HCt0 : Hid (Calls Tryd.prog 21 #[.slice (some ⟨gE, 0, none⟩) cn0 zE] W8 fun e w' => e = .returned (.tuple #[cellV ⟨#[]⟩ ⟨#[]⟩ ⟨#[]⟩ 0 0 0 0 ⟨#[]⟩, .bool false]) ∧ Below W8.heap.size W8 w') := HDc.out W8 gE zE cn0 HS8.out.1.bw HS8.out.2 hcmE
      go_upto_region 16 with (go_at_call 21; refine HCt0.out.mono ?_; rintro e w8 ⟨rfl, hb8⟩)
      have HBW := hid (HS8.out.1.bw.trans (hb8.mono HS8.out.1.bw.size))
      obtain ⟨cut, hcut0⟩ : ∃ cut : Int, (cn0 : Int) = cut := ⟨_, rfl⟩
      rw [hcut0]
      clear HS8 hb8 HCt0 HDc HN8 hnc1 hnc2 hcmE hccE hc1 hc2 hcut0
      rcases HSg.out with hsign | hsign
      · obtain ⟨hn0, hn1, hn2, hn3⟩ := hsign
        subst hn1; subst hn2; clear hn3
        have q0 : (tn != tn) = false := by simp
        go_upto_region 20 with (first
          | (go_at_call 30; refine (HH.out.num _).mono ?_; rintro e v1 ⟨A1, c1, X0, rfl, hS1, hX1, hb1⟩)
          | (go_at_call 20; refine (HH.out.copy _ _ _ hS1 hX1).mono ?_; rintro e v2 ⟨u2, rfl, hR2, hb2⟩)
          | (at_builtin; refine wpList_append_bytes rfl (.tmp 72) (.tmp 73) rfl _ v1.heap.size _ X0 rfl (hR2.alloc _) ⟨v2.heap.size, 0, none⟩ 1 1 [9] rfl rfl (one_new' _ _ _ _ rfl) (by have := HH.out.xl; rw [hX1] at this; simp only [List.length_append, List.length_cons, List.length_nil] at this ⊢; omega) (by have := hb2.size; simp; omega) ?_; intro u3 v3 hR3 hb3)
          | (go_at_call 23; refine (HH.out.take _ _ (by rw [hX1]; exact hR3.sla)).mono ?_; rintro e v4 ⟨A4, c4, rfl, hb4⟩))
        have hz1 : w.heap.size ≤ v1.heap.size := Nat.le_trans HBW.out.size hb1.size
        have hz2 : w.heap.size ≤ v2.heap.size := Nat.le_trans hz1 hb2.size
        have hbA : Below w.heap.size w v2 := (HBW.out.trans (hb1.mono HBW.out.size)).trans (hb2.mono hz1)
        have hbB : Below w.heap.size w v3 := (hbA.alloc hz2 _).trans (hb3.mono hz1)
        have HB4 : Hid (Below w.heap.size w v4) := hbB.trans (hb4.mono hbB.size)
        clear hb1 hb2 hb3 hb4 hS1 hX1 hR2 hR3 hz1 hz2 hbA hbB q0 HBW
        go_upto_region 24 with (first
          | (go_at_call 31; refine (HH.out.list _ HB4.out).mono ?_; rintro e v5 ⟨g5, c5, rfl, hS5, hb5⟩; have HS5 := hid hS5; have HB5 := hid (HB4.out.trans (hb5.mono HB4.out.size)); clear hS5)
          | (go_at_call 25; refine (HH.out.parts _ _ HS5.out).mono ?_; rintro e v6 ⟨u6, rfl, hL6, hb6⟩; have HS6 := hid (HS5.out.below hb6); have HB6 := hid (HB5.out.trans (hb6.mono HB5.out.size)); obtain ⟨A6, c6, rfl, _⟩ := id hL6)
          | (go_at_call 27; refine (HH.out.same _ _ HB6.out hL6).mono ?_; rintro e v7 ⟨rfl, hb7⟩; have HS7 := hid (HS6.out.below hb7); have HB7 := hid (HB6.out.trans (hb7.mono HB6.out.size))))
        clear hb5 hb6 hb7 hL6 HS5 HB5 HS6 HB6 HB4
        have HMc : Hid (L.length ≤ c5 ∧ c5 ≤ 9223372036854775807) := by
          have h := (SlA.cut HS7.out L.length (Nat.le_refl _)).2
          exact h
        obtain ⟨M, hM⟩ : ∃ M, L.length = M := ⟨_, rfl⟩
        have HM := hid hM
        rw [hM] at HS7 HMc
        try rw [hM]
        clear hM
        obtain ⟨hmc1, hmc2⟩ := HMc.out
        by_cases hcut : 0 ≤ cut ∧ cut < (M : Int)
        · obtain ⟨cn, hcn⟩ : ∃ cn : Nat, cut = (cn : Int) := ⟨cut.toNat, by omega⟩
          subst hcn
          obtain ⟨hc1, hc2⟩ := hcut
          have hcm : cn < M := by omega
          have hcc : cn ≤ c5 := by omega
          have HCt : Hid (Calls Tryd.prog 25 #[.slice (some ⟨g5, 0, none⟩) cn c5] v7 fun e w' => e = .returned (.tuple #[.slice none 0 0, .bool false]) ∧ Below v7.heap.size v7 w') := HH.out.cut v7 g5 c5 cn (by rw [HM.out]; exact HS7.out) (by rw [HM.out]; exact hcm)
          go_wp2_with (go_at_call 25; refine HCt.out.mono ?_; rintro e v8 ⟨rfl, hb8⟩)
          go_ret
          exact ⟨rfl, HB7.out.trans (hb8.mono HB7.out.size)⟩
        · have hcc : cut < 0 ∨ (M : Int) ≤ cut := by omega
          rcases hcc with hcc | hcc
          · have q1 : ¬ (0 ≤ cut) := by omega
            go_wp2
            go_ret
            exact ⟨rfl, HB7.out⟩
          · have q1 : 0 ≤ cut := by omega
            have q2 : ¬ cut < (M : Int) := by omega
            go_wp2
            go_ret
            exact ⟨rfl, HB7.out⟩
      · obtain ⟨hn0, hn1, hn2⟩ := hsign
        subst hn2
        have q0 : ¬ (0 ≤ n) := by omega
        go_upto_region 20 with (first
          | (go_at_call 30; refine (HH.out.num _).mono ?_; rintro e v1 ⟨A1, c1, X0, rfl, hS1, hX1, hb1⟩)
          | (go_at_call 20; refine (HH.out.copy _ _ _ hS1 hX1).mono ?_; rintro e v2 ⟨u2, rfl, hR2, hb2⟩)
          | (at_builtin; refine wpList_append_bytes rfl (.tmp 72) (.tmp 73) rfl _ v1.heap.size _ X0 rfl (hR2.alloc _) ⟨v2.heap.size, 0, none⟩ 1 1 [9] rfl rfl (one_new' _ _ _ _ rfl) (by have := HH.out.xl; rw [hX1] at this; simp only [List.length_append, List.length_cons, List.length_nil] at this ⊢; omega) (by have := hb2.size; simp; omega) ?_; intro u3 v3 hR3 hb3)
          | (go_at_call 23; refine (HH.out.take _ _ (by rw [hX1]; exact hR3.sla)).mono ?_; rintro e v4 ⟨A4, c4, rfl, hb4⟩))
        have hz1 : w.heap.size ≤ v1.heap.size := Nat.le_trans HBW.out.size hb1.size
        have hz2 : w.heap.size ≤ v2.heap.size := Nat.le_trans hz1 hb2.size
        have hbA : Below w.heap.size w v2 := (HBW.out.trans (hb1.mono HBW.out.size)).trans (hb2.mono hz1)
        have hbB : Below w.heap.size w v3 := (hbA.alloc hz2 _).trans (hb3.mono hz1)
        have HB4 : Hid (Below w.heap.size w v4) := hbB.trans (hb4.mono hbB.size)
        clear hb1 hb2 hb3 hb4 hS1 hX1 hR2 hR3 hz1 hz2 hbA hbB q0 HBW
        go_upto_region 24 with (first
          | (go_at_call 31; refine (HH.out.list _ HB4.out).mono ?_; rintro e v5 ⟨g5, c5, rfl, hS5, hb5⟩; have HS5 := hid hS5; have HB5 := hid (HB4.out.trans (hb5.mono HB4.out.size)); clear hS5)
          | (go_at_call 25; refine (HH.out.parts _ _ HS5.out).mono ?_; rintro e v6 ⟨u6, rfl, hL6, hb6⟩; have HS6 := hid (HS5.out.below hb6); have HB6 := hid (HB5.out.trans (hb6.mono HB5.out.size)); obtain ⟨A6, c6, rfl, _⟩ := id hL6)
          | (go_at_call 27; refine (HH.out.same _ _ HB6.out hL6).mono ?_; rintro e v7 ⟨rfl, hb7⟩; have HS7 := hid (HS6.out.below hb7); have HB7 := hid (HB6.out.trans (hb7.mono HB6.out.size))))
        clear hb5 hb6 hb7 hL6 HS5 HB5 HS6 HB6 HB4
        have HMc : Hid (L.length ≤ c5 ∧ c5 ≤ 9223372036854775807) := by
          have h := (SlA.cut HS7.out L.length (Nat.le_refl _)).2
          exact h
        obtain ⟨M, hM⟩ : ∃ M, L.length = M := ⟨_, rfl⟩
        have HM := hid hM
        rw [hM] at HS7 HMc
        try rw [hM]
        clear hM
        obtain ⟨hmc1, hmc2⟩ := HMc.out
        by_cases hcut : 0 ≤ cut ∧ cut < (M : Int)
        · obtain ⟨cn, hcn⟩ : ∃ cn : Nat, cut = (cn : Int) := ⟨cut.toNat, by omega⟩
          subst hcn
          obtain ⟨hc1, hc2⟩ := hcut
          have hcm : cn < M := by omega
          have hcc : cn ≤ c5 := by omega
          have HCt : Hid (Calls Tryd.prog 25 #[.slice (some ⟨g5, 0, none⟩) cn c5] v7 fun e w' => e = .returned (.tuple #[.slice none 0 0, .bool false]) ∧ Below v7.heap.size v7 w') := HH.out.cut v7 g5 c5 cn (by rw [HM.out]; exact HS7.out) (by rw [HM.out]; exact hcm)
          go_wp2_with (go_at_call 25; refine HCt.out.mono ?_; rintro e v8 ⟨rfl, hb8⟩)
          go_ret
          exact ⟨rfl, HB7.out.trans (hb8.mono HB7.out.size)⟩
        · have hcc : cut < 0 ∨ (M : Int) ≤ cut := by omega
          rcases hcc with hcc | hcc
          · have q1 : ¬ (0 ≤ cut) := by omega
            go_wp2
            go_ret
            exact ⟨rfl, HB7.out⟩
          · have q1 : 0 ≤ cut := by omega
            have q2 : ¬ cut < (M : Int) := by omega
            go_wp2
            go_ret
            exact ⟨rfl, HB7.out⟩
    · have hcc : cut < 0 ∨ (N : Int) ≤ cut := by omega
      have HBW := hid HS8.out.1.bw
      clear HDc HN8
      rcases hcc with hcc | hcc
      · have q1 : ¬ (0 ≤ cut) := by omega
        clear hcutE
        go_upto_region 16 with (fail)
        clear HS8 hnc1 hnc2 q1 hcc
        rcases HSg.out with hsign | hsign
        · obtain ⟨hn0, hn1, hn2, hn3⟩ := hsign
          subst hn1; subst hn2; clear hn3
          have q0 : (tn != tn) = false := by simp
          go_upto_region 20 with (first
            | (go_at_call 30; refine (HH.out.num _).mono ?_; rintro e v1 ⟨A1, c1, X0, rfl, hS1, hX1, hb1⟩)
            | (go_at_call 20; refine (HH.out.copy _ _ _ hS1 hX1).mono ?_; rintro e v2 ⟨u2, rfl, hR2, hb2⟩)
            | (at_builtin; refine wpList_append_bytes rfl (.tmp 72) (.tmp 73) rfl _ v1.heap.size _ X0 rfl (hR2.alloc _) ⟨v2.heap.size, 0, none⟩ 1 1 [9] rfl rfl (one_new' _ _ _ _ rfl) (by have := HH.out.xl; rw [hX1] at this; simp only [List.length_append, List.length_cons, List.length_nil] at this ⊢; omega) (by have := hb2.size; simp; omega) ?_; intro u3 v3 hR3 hb3)
            | (go_at_call 23; refine (HH.out.take _ _ (by rw [hX1]; exact hR3.sla)).mono ?_; rintro e v4 ⟨A4, c4, rfl, hb4⟩))
          have hz1 : w.heap.size ≤ v1.heap.size := Nat.le_trans HBW.out.size hb1.size
          have hz2 : w.heap.size ≤ v2.heap.size := Nat.le_trans hz1 hb2.size
          have hbA : Below w.heap.size w v2 := (HBW.out.trans (hb1.mono HBW.out.size)).trans (hb2.mono hz1)
          have hbB : Below w.heap.size w v3 := (hbA.alloc hz2 _).trans (hb3.mono hz1)
          have HB4 : Hid (Below w.heap.size w v4) := hbB.trans (hb4.mono hbB.size)
          clear hb1 hb2 hb3 hb4 hS1 hX1 hR2 hR3 hz1 hz2 hbA hbB q0 HBW
          go_upto_region 24 with (first
            | (go_at_call 31; refine (HH.out.list _ HB4.out).mono ?_; rintro e v5 ⟨g5, c5, rfl, hS5, hb5⟩; have HS5 := hid hS5; have HB5 := hid (HB4.out.trans (hb5.mono HB4.out.size)); clear hS5)
            | (go_at_call 25; refine (HH.out.parts _ _ HS5.out).mono ?_; rintro e v6 ⟨u6, rfl, hL6, hb6⟩; have HS6 := hid (HS5.out.below hb6); have HB6 := hid (HB5.out.trans (hb6.mono HB5.out.size)); obtain ⟨A6, c6, rfl, _⟩ := id hL6)
            | (go_at_call 27; refine (HH.out.same _ _ HB6.out hL6).mono ?_; rintro e v7 ⟨rfl, hb7⟩; have HS7 := hid (HS6.out.below hb7); have HB7 := hid (HB6.out.trans (hb7.mono HB6.out.size))))
          clear hb5 hb6 hb7 hL6 HS5 HB5 HS6 HB6 HB4
          have HMc : Hid (L.length ≤ c5 ∧ c5 ≤ 9223372036854775807) := by
            have h := (SlA.cut HS7.out L.length (Nat.le_refl _)).2
            exact h
          obtain ⟨M, hM⟩ : ∃ M, L.length = M := ⟨_, rfl⟩
          have HM := hid hM
          rw [hM] at HS7 HMc
          try rw [hM]
          clear hM
          obtain ⟨hmc1, hmc2⟩ := HMc.out
          by_cases hcut : 0 ≤ cut ∧ cut < (M : Int)
          · obtain ⟨cn, hcn⟩ : ∃ cn : Nat, cut = (cn : Int) := ⟨cut.toNat, by omega⟩
            subst hcn
            obtain ⟨hc1, hc2⟩ := hcut
            have hcm : cn < M := by omega
            have hcc : cn ≤ c5 := by omega
            have HCt : Hid (Calls Tryd.prog 25 #[.slice (some ⟨g5, 0, none⟩) cn c5] v7 fun e w' => e = .returned (.tuple #[.slice none 0 0, .bool false]) ∧ Below v7.heap.size v7 w') := HH.out.cut v7 g5 c5 cn (by rw [HM.out]; exact HS7.out) (by rw [HM.out]; exact hcm)
            go_wp2_with (go_at_call 25; refine HCt.out.mono ?_; rintro e v8 ⟨rfl, hb8⟩)
            go_ret
            exact ⟨rfl, HB7.out.trans (hb8.mono HB7.out.size)⟩
          · have hcc : cut < 0 ∨ (M : Int) ≤ cut := by omega
            rcases hcc with hcc | hcc
            · have q1 : ¬ (0 ≤ cut) := by omega
              go_wp2
              go_ret
              exact ⟨rfl, HB7.out⟩
            · have q1 : 0 ≤ cut := by omega
              have q2 : ¬ cut < (M : Int) := by omega
              go_wp2
              go_ret
              exact ⟨rfl, HB7.out⟩
        · obtain ⟨hn0, hn1, hn2⟩ := hsign
          subst hn2
          have q0 : ¬ (0 ≤ n) := by omega
          go_upto_region 20 with (first
            | (go_at_call 30; refine (HH.out.num _).mono ?_; rintro e v1 ⟨A1, c1, X0, rfl, hS1, hX1, hb1⟩)
            | (go_at_call 20; refine (HH.out.copy _ _ _ hS1 hX1).mono ?_; rintro e v2 ⟨u2, rfl, hR2, hb2⟩)
            | (at_builtin; refine wpList_append_bytes rfl (.tmp 72) (.tmp 73) rfl _ v1.heap.size _ X0 rfl (hR2.alloc _) ⟨v2.heap.size, 0, none⟩ 1 1 [9] rfl rfl (one_new' _ _ _ _ rfl) (by have := HH.out.xl; rw [hX1] at this; simp only [List.length_append, List.length_cons, List.length_nil] at this ⊢; omega) (by have := hb2.size; simp; omega) ?_; intro u3 v3 hR3 hb3)
            | (go_at_call 23; refine (HH.out.take _ _ (by rw [hX1]; exact hR3.sla)).mono ?_; rintro e v4 ⟨A4, c4, rfl, hb4⟩))
          have hz1 : w.heap.size ≤ v1.heap.size := Nat.le_trans HBW.out.size hb1.size
          have hz2 : w.heap.size ≤ v2.heap.size := Nat.le_trans hz1 hb2.size
          have hbA : Below w.heap.size w v2 := (HBW.out.trans (hb1.mono HBW.out.size)).trans (hb2.mono hz1)
          have hbB : Below w.heap.size w v3 := (hbA.alloc hz2 _).trans (hb3.mono hz1)
          have HB4 : Hid (Below w.heap.size w v4) := hbB.trans (hb4.mono hbB.size)
          clear hb1 hb2 hb3 hb4 hS1 hX1 hR2 hR3 hz1 hz2 hbA hbB q0 HBW
          go_upto_region 24 with (first
            | (go_at_call 31; refine (HH.out.list _ HB4.out).mono ?_; rintro e v5 ⟨g5, c5, rfl, hS5, hb5⟩; have HS5 := hid hS5; have HB5 := hid (HB4.out.trans (hb5.mono HB4.out.size)); clear hS5)
            | (go_at_call 25; refine (HH.out.parts _ _ HS5.out).mono ?_; rintro e v6 ⟨u6, rfl, hL6, hb6⟩; have HS6 := hid (HS5.out.below hb6); have HB6 := hid (HB5.out.trans (hb6.mono HB5.out.size)); obtain ⟨A6, c6, rfl, _⟩ := id hL6)
            | (go_at_call 27; refine (HH.out.same _ _ HB6.out hL6).mono ?_; rintro e v7 ⟨rfl, hb7⟩; have HS7 := hid (HS6.out.below hb7); have HB7 := hid (HB6.out.trans (hb7.mono HB6.out.size))))
          clear hb5 hb6 hb7 hL6 HS5 HB5 HS6 HB6 HB4
          have HMc : Hid (L.length ≤ c5 ∧ c5 ≤ 9223372036854775807) := by
            have h := (SlA.cut HS7.out L.length (Nat.le_refl _)).2
            exact h
          obtain ⟨M, hM⟩ : ∃ M, L.length = M := ⟨_, rfl⟩
          have HM := hid hM
          rw [hM] at HS7 HMc
          try rw [hM]
          clear hM
          obtain ⟨hmc1, hmc2⟩ := HMc.out
          by_cases hcut : 0 ≤ cut ∧ cut < (M : Int)
          · obtain ⟨cn, hcn⟩ : ∃ cn : Nat, cut = (cn : Int) := ⟨cut.toNat, by omega⟩
            subst hcn
            obtain ⟨hc1, hc2⟩ := hcut
            have hcm : cn < M := by omega
            have hcc : cn ≤ c5 := by omega
            have HCt : Hid (Calls Tryd.prog 25 #[.slice (some ⟨g5, 0, none⟩) cn c5] v7 fun e w' => e = .returned (.tuple #[.slice none 0 0, .bool false]) ∧ Below v7.heap.size v7 w') := HH.out.cut v7 g5 c5 cn (by rw [HM.out]; exact HS7.out) (by rw [HM.out]; exact hcm)
            go_wp2_with (go_at_call 25; refine HCt.out.mono ?_; rintro e v8 ⟨rfl, hb8⟩)
            go_ret
            exact ⟨rfl, HB7.out.trans (hb8.mono HB7.out.size)⟩
          · have hcc : cut < 0 ∨ (M : Int) ≤ cut := by omega
            rcases hcc with hcc | hcc
            · have q1 : ¬ (0 ≤ cut) := by omega
              go_wp2
              go_ret
              exact ⟨rfl, HB7.out⟩
            · have q1 : 0 ≤ cut := by omega
              have q2 : ¬ cut < (M : Int) := by omega
              go_wp2
              go_ret
              exact ⟨rfl, HB7.out⟩
      · have q1 : 0 ≤ cut := by omega
        have q2 : ¬ cut < (N : Int) := by omega
        clear hcutE
        go_upto_region 16 with (fail)
        clear HS8 hnc1 hnc2 q1 q2 hcc
        rcases HSg.out with hsign | hsign
        · obtain ⟨hn0, hn1, hn2, hn3⟩ := hsign
          subst hn1; subst hn2; clear hn3
          have q0 : (tn != tn) = false := by simp
          go_upto_region 20 with (first
            | (go_at_call 30; refine (HH.out.num _).mono ?_; rintro e v1 ⟨A1, c1, X0, rfl, hS1, hX1, hb1⟩)
            | (go_at_call 20; refine (HH.out.copy _ _ _ hS1 hX1).mono ?_; rintro e v2 ⟨u2, rfl, hR2, hb2⟩)
            | (at_builtin; refine wpList_append_bytes rfl (.tmp 72) (.tmp 73) rfl _ v1.heap.size _ X0 rfl (hR2.alloc _) ⟨v2.heap.size, 0, none⟩ 1 1 [9] rfl rfl (one_new' _ _ _ _ rfl) (by have := HH.out.xl; rw [hX1] at this; simp only [List.length_append, List.length_cons, List.length_nil] at this ⊢; omega) (by have := hb2.size; simp; omega) ?_; intro u3 v3 hR3 hb3)
            | (go_at_call 23; refine (HH.out.take _ _ (by rw [hX1]; exact hR3.sla)).mono ?_; rintro e v4 ⟨A4, c4, rfl, hb4⟩))
          have hz1 : w.heap.size ≤ v1.heap.size := Nat.le_trans HBW.out.size hb1.size
          have hz2 : w.heap.size ≤ v2.heap.size := Nat.le_trans hz1 hb2.size
          have hbA : Below w.heap.size w v2 := (HBW.out.trans (hb1.mono HBW.out.size)).trans (hb2.mono hz1)
          have hbB : Below w.heap.size w v3 := (hbA.alloc hz2 _).trans (hb3.mono hz1)
          have HB4 : Hid (Below w.heap.size w v4) := hbB.trans (hb4.mono hbB.size)
          clear hb1 hb2 hb3 hb4 hS1 hX1 hR2 hR3 hz1 hz2 hbA hbB q0 HBW
          go_upto_region 24 with (first
            | (go_at_call 31; refine (HH.out.list _ HB4.out).mono ?_; rintro e v5 ⟨g5, c5, rfl, hS5, hb5⟩; have HS5 := hid hS5; have HB5 := hid (HB4.out.trans (hb5.mono HB4.out.size)); clear hS5)
            | (go_at_call 25; refine (HH.out.parts _ _ HS5.out).mono ?_; rintro e v6 ⟨u6, rfl, hL6, hb6⟩; have HS6 := hid (HS5.out.below hb6); have HB6 := hid (HB5.out.trans (hb6.mono HB5.out.size)); obtain ⟨A6, c6, rfl, _⟩ := id hL6)
            | (go_at_call 27; refine (HH.out.same _ _ HB6.out hL6).mono ?_; rintro e v7 ⟨rfl, hb7⟩; have HS7 := hid (HS6.out.below hb7); have HB7 := hid (HB6.out.trans (hb7.mono HB6.out.size))))
          clear hb5 hb6 hb7 hL6 HS5 HB5 HS6 HB6 HB4
          have HMc : Hid (L.length ≤ c5 ∧ c5 ≤ 9223372036854775807) := by
            have h := (SlA.cut HS7.out L.length (Nat.le_refl _)).2
            exact h
          obtain ⟨M, hM⟩ : ∃ M, L.length = M := ⟨_, rfl⟩
          have HM := hid hM
          rw [hM] at HS7 HMc
          try rw [hM]
          clear hM
          obtain ⟨hmc1, hmc2⟩ := HMc.out
          by_cases hcut : 0 ≤ cut ∧ cut < (M : Int)
          · obtain ⟨cn, hcn⟩ : ∃ cn : Nat, cut = (cn : Int) := ⟨cut.toNat, by omega⟩
            subst hcn
            obtain ⟨hc1, hc2⟩ := hcut
            have hcm : cn < M := by omega
            have hcc : cn ≤ c5 := by omega
            have HCt : Hid (Calls Tryd.prog 25 #[.slice (some ⟨g5, 0, none⟩) cn c5] v7 fun e w' => e = .returned (.tuple #[.slice none 0 0, .bool false]) ∧ Below v7.heap.size v7 w') := HH.out.cut v7 g5 c5 cn (by rw [HM.out]; exact HS7.out) (by rw [HM.out]; exact hcm)
            go_wp2_with (go_at_call 25; refine HCt.out.mono ?_; rintro e v8 ⟨rfl, hb8⟩)
            go_ret
            exact ⟨rfl, HB7.out.trans (hb8.mono HB7.out.size)⟩
          · have hcc : cut < 0 ∨ (M : Int) ≤ cut := by omega
            rcases hcc with hcc | hcc
            · have q1 : ¬ (0 ≤ cut) := by omega
              go_wp2
              go_ret
              exact ⟨rfl, HB7.out⟩
            · have q1 : 0 ≤ cut := by omega
              have q2 : ¬ cut < (M : Int) := by omega
              go_wp2
              go_ret
              exact ⟨rfl, HB7.out⟩
        · obtain ⟨hn0, hn1, hn2⟩ := hsign
          subst hn2
          have q0 : ¬ (0 ≤ n) := by omega
          go_upto_region 20 with (first
            | (go_at_call 30; refine (HH.out.num _).mono ?_; rintro e v1 ⟨A1, c1, X0, rfl, hS1, hX1, hb1⟩)
            | (go_at_call 20; refine (HH.out.copy _ _ _ hS1 hX1).mono ?_; rintro e v2 ⟨u2, rfl, hR2, hb2⟩)
            | (at_builtin; refine wpList_append_bytes rfl (.tmp 72) (.tmp 73) rfl _ v1.heap.size _ X0 rfl (hR2.alloc _) ⟨v2.heap.size, 0, none⟩ 1 1 [9] rfl rfl (one_new' _ _ _ _ rfl) (by have := HH.out.xl; rw [hX1] at this; simp only [List.length_append, List.length_cons, List.length_nil] at this ⊢; omega) (by have := hb2.size; simp; omega) ?_; intro u3 v3 hR3 hb3)
            | (go_at_call 23; refine (HH.out.take _ _ (by rw [hX1]; exact hR3.sla)).mono ?_; rintro e v4 ⟨A4, c4, rfl, hb4⟩))
          have hz1 : w.heap.size ≤ v1.heap.size := Nat.le_trans HBW.out.size hb1.size
          have hz2 : w.heap.size ≤ v2.heap.size := Nat.le_trans hz1 hb2.size
          have hbA : Below w.heap.size w v2 := (HBW.out.trans (hb1.mono HBW.out.size)).trans (hb2.mono hz1)
          have hbB : Below w.heap.size w v3 := (hbA.alloc hz2 _).trans (hb3.mono hz1)
          have HB4 : Hid (Below w.heap.size w v4) := hbB.trans (hb4.mono hbB.size)
          clear hb1 hb2 hb3 hb4 hS1 hX1 hR2 hR3 hz1 hz2 hbA hbB q0 HBW
          go_upto_region 24 with (first
            | (go_at_call 31; refine (HH.out.list _ HB4.out).mono ?_; rintro e v5 ⟨g5, c5, rfl, hS5, hb5⟩; have HS5 := hid hS5; have HB5 := hid (HB4.out.trans (hb5.mono HB4.out.size)); clear hS5)
            | (go_at_call 25; refine (HH.out.parts _ _ HS5.out).mono ?_; rintro e v6 ⟨u6, rfl, hL6, hb6⟩; have HS6 := hid (HS5.out.below hb6); have HB6 := hid (HB5.out.trans (hb6.mono HB5.out.size)); obtain ⟨A6, c6, rfl, _⟩ := id hL6)
            | (go_at_call 27; refine (HH.out.same _ _ HB6.out hL6).mono ?_; rintro e v7 ⟨rfl, hb7⟩; have HS7 := hid (HS6.out.below hb7); have HB7 := hid (HB6.out.trans (hb7.mono HB6.out.size))))
          clear hb5 hb6 hb7 hL6 HS5 HB5 HS6 HB6 HB4
          have HMc : Hid (L.length ≤ c5 ∧ c5 ≤ 9223372036854775807) := by
            have h := (SlA.cut HS7.out L.length (Nat.le_refl _)).2
            exact h
          obtain ⟨M, hM⟩ : ∃ M, L.length = M := ⟨_, rfl⟩
          have HM := hid hM
          rw [hM] at HS7 HMc
          try rw [hM]
          clear hM
          obtain ⟨hmc1, hmc2⟩ := HMc.out
          by_cases hcut : 0 ≤ cut ∧ cut < (M : Int)
          · obtain ⟨cn, hcn⟩ : ∃ cn : Nat, cut = (cn : Int) := ⟨cut.toNat, by omega⟩
            subst hcn
            obtain ⟨hc1, hc2⟩ := hcut
            have hcm : cn < M := by omega
            have hcc : cn ≤ c5 := by omega
            have HCt : Hid (Calls Tryd.prog 25 #[.slice (some ⟨g5, 0, none⟩) cn c5] v7 fun e w' => e = .returned (.tuple #[.slice none 0 0, .bool false]) ∧ Below v7.heap.size v7 w') := HH.out.cut v7 g5 c5 cn (by rw [HM.out]; exact HS7.out) (by rw [HM.out]; exact hcm)
            go_wp2_with (go_at_call 25; refine HCt.out.mono ?_; rintro e v8 ⟨rfl, hb8⟩)
            go_ret
            exact ⟨rfl, HB7.out.trans (hb8.mono HB7.out.size)⟩
          · have hcc : cut < 0 ∨ (M : Int) ≤ cut := by omega
            rcases hcc with hcc | hcc
            · have q1 : ¬ (0 ≤ cut) := by omega
              go_wp2
              go_ret
              exact ⟨rfl, HB7.out⟩
            · have q1 : 0 ≤ cut := by omega
              have q2 : ¬ cut < (M : Int) := by omega
              go_wp2
              go_ret
              exact ⟨rfl, HB7.out⟩

end Go.Proofs.YtegdkcldgepngaaDoor
