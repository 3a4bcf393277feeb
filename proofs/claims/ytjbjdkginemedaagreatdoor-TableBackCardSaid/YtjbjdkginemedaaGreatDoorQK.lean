/- Several texts in one: NN NP. Conditions: as each theorem names them. -/
import Derived.Test.YtjbjdkginemedaaGreatDoorQD
import Derived.Test.YtjbjdkginemedaaGreatDoorII
/- slices.IndexFunc over what isn't ahead of a cell; block.Find at any bytes. Conditions: the slice holds its bytes, a hundred thousand at most; the tables of utf8 read as they are laid. -/
namespace Go.Proofs.YtjbjdkginemedaaGreatDoor
open Go.RowKit

theorem ordc_any (x y : CT) (w : World) : Calls Tryz.prog 50 #[x.v, y.v] w fun e w' => e = .returned (.int .i64 (CT.cmp x y)) ∧ Below w.heap.size w w' :=
  (corder_gr x.r x.f x.q x.s x.t x.k x.vk x.vn y.r y.f y.q y.s y.t y.k y.vk y.vn w).mono fun _ _ ⟨he, hg⟩ => ⟨he, Gr.below hg⟩
set_option maxRecDepth 100000 in
set_option maxHeartbeats 4000000 in
theorem find1_any (x c : CT) (g : Nat) (w : World) (h : DW w g c) :
    Calls Tryz.prog 49 #[x.v, .pointer (some ⟨g, 0, none⟩)] w fun e w' => e = .returned (.bool (decide (0 ≤ CT.cmp x c))) ∧ Below w.heap.size w w' := by
  have HO := hid (fun W => ordc_any x c W)
  obtain ⟨a0, a1, a2, a3, a4, a5, a6, a7⟩ := h.words
  have hlt : g < w.heap.size := Blk.lt h
  have hb0 := hid (below_new w (.cells #[.string x.r, .string x.f, .string x.q, .int .i64 x.t, .int .i64 x.k, .int .i64 x.vk, .int .i64 x.vn, .string x.s] 26))
  clear h
  go_enter Tryz.func49, Tryz.ntmps49
  go_wp2_with (first
    | (go_at_call 50; refine (HO.out _).mono ?_; rintro e w1 ⟨rfl, hb1⟩))
  go_ret
  exact ⟨rfl, hb0.out.trans (hb1.mono (by simp))⟩

set_option maxRecDepth 100000 in
set_option maxHeartbeats 4000000 in
theorem index_any (v : Value) (l : List CT) (c : CT) (g : Nat) (hl : l.length ≤ 100000) (w : World) (h : ClA w v l) (hd : DW w g c) :
    Calls Tryz.prog 48 #[v, .func (.func 49) #[] #[.pointer (some ⟨g, 0, none⟩)]] w fun e w' => Below w.heap.size w w' ∧ ((∃ (i : Nat) (x : CT), l[i]? = some x ∧ l.find? (fun x => decide (0 ≤ CT.cmp x c)) = some x ∧ e = .returned (.int .i64 (i : Int))) ∨ (l.find? (fun x => decide (0 ≤ CT.cmp x c)) = none ∧ e = .returned (.int .i64 (-1)))) := by
  have HD := hid hd
  obtain ⟨A, cap, rfl, hc1, hc2, hh⟩ := h
  have HH := hid hh
  obtain ⟨n, hn⟩ : ∃ n, l.length = n := ⟨_, rfl⟩
  have HN := hid hn
  rw [hn] at hc1 hl ⊢
  clear hd hh hn
  have HF : Hid (∀ x W, Below w.heap.size w W → Calls Tryz.prog 49 #[x.v, .pointer (some ⟨g, 0, none⟩)] W fun e w' => e = .returned (.bool (decide (0 ≤ CT.cmp x c))) ∧ Below W.heap.size W w') := fun x W hW => find1_any x c g W (HD.out.below hW)
  go_enter Tryz.func48, Tryz.ntmps48
  go_wp2
  go_loopw [8] (fun vi wr => ∃ i : Nat, i ≤ n ∧ vi = .int .i64 i ∧ Hid (Below w.heap.size w wr) ∧ Hid (l.find? (fun x => decide (0 ≤ CT.cmp x c)) = (l.drop i).find? (fun x => decide (0 ≤ CT.cmp x c)))) (fun vi _ => n - (intOf vi).toNat)
  case atStart => exact ⟨0, Nat.zero_le _, rfl, Below.refl _ _, by show _ = (l.drop 0).find? _; rw [List.drop_zero]⟩
  case round =>
    obtain ⟨i, hi, rfl, HB, HP⟩ := hrel
    by_cases hlt : i < n
    · have hin : i < l.length := by rw [HN.out]; exact hlt
      have hltz : (i : Int) < (n : Int) := by omega
      obtain ⟨b, off, rfl, hhc⟩ := HH.out (by omega)
      have hbw : b < w.heap.size := hhc.lt (by omega)
      obtain ⟨x, hx⟩ : ∃ x, l[i]? = some x := ⟨_, List.getElem?_eq_getElem hin⟩
      have HX := hid hx
      have HP2 : Hid ((l.drop i).find? (fun x => decide (0 ≤ CT.cmp x c)) = if 0 ≤ CT.cmp x c then some x else (l.drop (i + 1)).find? (fun x => decide (0 ≤ CT.cmp x c))) := by
        obtain ⟨h1, rfl⟩ := List.getElem?_eq_some_iff.1 hx
        show _ = _
        rw [List.drop_eq_getElem_cons h1, List.find?_cons]
        by_cases q : 0 ≤ CT.cmp l[i] c
        · rw [if_pos q, decide_eq_true q]
        · rw [if_neg q, decide_eq_false q]
      have HFx := hid (HF.out x wr HB.out)
      obtain ⟨a0, a1, a2, a3, a4, a5, a6, a7⟩ := ct_words (hhc.below HB.out hbw) i hx
      clear hhc hx hin
      by_cases hq : 0 ≤ CT.cmp x c
      · rw [decide_eq_true hq] at HFx
        have HR : Hid (l.find? (fun x => decide (0 ≤ CT.cmp x c)) = some x) := by show _ = _; rw [HP.out, HP2.out, if_pos hq]
        clear hq HP2
        go_wp2_with (first
          | (go_at_call 49; refine HFx.out.mono ?_; rintro e w1 ⟨rfl, hb1⟩))
        go_ret
        exact ⟨HB.out.trans (hb1.mono HB.out.size), .inl ⟨i, x, HX.out, HR.out, rfl⟩⟩
      · rw [decide_eq_false hq] at HFx
        have HR : Hid (l.find? (fun x => decide (0 ≤ CT.cmp x c)) = (l.drop (i + 1)).find? (fun x => decide (0 ≤ CT.cmp x c))) := by show _ = _; rw [HP.out, HP2.out, if_neg hq]
        clear hq HP2
        go_wp2_with (first
          | (go_at_call 49; refine HFx.out.mono ?_; rintro e w1 ⟨rfl, hb1⟩))
        go_roundw
        case rel => exact ⟨i + 1, by omega, by go_num, HB.out.trans (hb1.mono HB.out.size), HR.out⟩
        case measure => simp [intOf]; omega
    · obtain rfl : i = n := by omega
      have HR : Hid (l.find? (fun x => decide (0 ≤ CT.cmp x c)) = none) := by show _ = _; rw [HP.out, List.drop_of_length_le (by rw [HN.out]; omega)]; rfl
      go_wp2
      go_ret
      exact ⟨HB.out, .inr ⟨HR.out, rfl⟩⟩
end Go.Proofs.YtjbjdkginemedaaGreatDoor

/- block.Find at any bytes. Conditions: the slice holds its bytes, a hundred thousand at most; the tables of utf8 read as they are laid. -/
namespace Go.Proofs.YtjbjdkginemedaaGreatDoor
open Go.RowKit

/-- The first cell that isn't ahead of c. -/
def findL (l : List CT) (c : CT) : Option CT := l.find? (fun x => decide (0 ≤ CT.cmp x c))
/-- The cells that any bytes are a block of, or none. -/
def BlockOf (l : List UInt8) (cs : List CT) : Prop := ((∀ c ∈ cs, Bc c) ∧ fineK [] cs = true ∧ cs.length ≤ 1000 ∧ blockB cs = l) ∨ (cs = [] ∧ NoBlock l)
theorem sx_any {w : World} {v : Value} {l : List UInt8} {r1 r2 : Nat} (h : Sx w r1 v l) (h2 : w.heap.size ≤ r2) : Sx w r2 v l := by
  obtain ⟨A, c, h1, h2', h3, h4, h5⟩ := h
  refine ⟨A, c, h1, h2', h3, h4, fun h0 => ?_⟩
  obtain ⟨b, off, e, _, h6, hh⟩ := h5 h0
  exact ⟨b, off, e, by omega, h6, hh⟩

set_option maxRecDepth 100000 in
set_option maxHeartbeats 8000000 in
theorem find_any (v : Value) (l : List UInt8) (c : CT) (hl : l.length ≤ 100000) (w : World) (h : Sx w w.heap.size v l) (hL : LaidU w) :
    Calls Tryz.prog 14 #[v, c.v] w fun e w' => Below w.heap.size w w' ∧ ∃ cs, BlockOf l cs ∧ e = .returned (.tuple #[((findL cs c).getD default).v, .bool (findL cs c).isSome]) := by
  have HP : Hid (∀ W, Below w.heap.size w W → Calls Tryz.prog 20 #[v] W fun e w' => ∃ Al nl cl ok cs, e = .returned (.tuple #[.slice Al nl cl, .bool ok]) ∧ Hid (Below W.heap.size W w' ∧ BlockOf l cs ∧ cs.length = nl ∧ ClA w' (.slice Al nl cl) cs)) := fun W hW => by
    refine (parse_any v l hl W (sx_any (h.below hW) (Nat.le_refl _)) (hL.below hW)).mono fun e w' ⟨hb, hc⟩ => ?_
    rcases hc with ⟨u, cs, he, hr, h1, h2, h3, h4⟩ | ⟨he, hno⟩
    · obtain ⟨Al, cl, rfl, _, _⟩ := hr.len
      exact ⟨Al, _, cl, true, cs, he, hb, .inl ⟨h1, h2, h3, h4⟩, rfl, hr.cla⟩
    · exact ⟨none, 0, 0, false, [], he, hb, .inr ⟨rfl, hno⟩, rfl, cla_nil _⟩
  have HI : Hid (∀ (W : World) (u : Value) (cs : List CT) (g : Nat), cs.length ≤ 1000 → ClA W u cs → DW W g c → Calls Tryz.prog 48 #[u, .func (.func 49) #[] #[.pointer (some ⟨g, 0, none⟩)]] W fun e w' => Below W.heap.size W w' ∧ ((∃ (i : Nat) (x : CT), cs[i]? = some x ∧ findL cs c = some x ∧ e = .returned (.int .i64 (i : Int))) ∨ (findL cs c = none ∧ e = .returned (.int .i64 (-1))))) := fun W u cs g h1 h2 h3 => index_any u cs c g (by omega) W h2 h3
  obtain ⟨A, cap, rfl, _⟩ := h
  obtain ⟨m, hm⟩ : ∃ m, l.length = m := ⟨_, rfl⟩
  rw [hm] at HP ⊢
  clear hm hL
  have H0 : Hid (∀ W0 : World, W0 = (w.alloc (.cells #[.string c.r, .string c.f, .string c.q, .int .i64 c.t, .int .i64 c.k, .int .i64 c.vk, .int .i64 c.vn, .string c.s] 26)).alloc (.cells zeroA 26) → Below w.heap.size w W0 ∧ DW W0 w.heap.size c ∧ Blk W0 (w.heap.size + 1) 26 (default : CT).e.toArray) := by
    rintro _ rfl
    have h1 : DW (w.alloc (.cells #[.string c.r, .string c.f, .string c.q, .int .i64 c.t, .int .i64 c.k, .int .i64 c.vk, .int .i64 c.vn, .string c.s] 26)) w.heap.size c := Blk.new w _ _
    refine ⟨(below_new w _).alloc (by simp) _, h1.below (below_new _ _), ?_⟩
    have h2 := Blk.new (w.alloc (.cells #[.string c.r, .string c.f, .string c.q, .int .i64 c.t, .int .i64 c.k, .int .i64 c.vk, .int .i64 c.vn, .string c.s] 26)) 26 (default : CT).e.toArray
    rw [World.size_alloc] at h2
    exact h2
  have hmf : ∀ (fn : Fn) (first cap : Array Value) (w : World), (Instr.makeFunc fn first cap).run Tryz.prog w = .ok (.func fn first cap) w := fun _ _ _ _ => rfl
  go_enter Tryz.func14, Tryz.ntmps14
  go_upto_region 2 with (first
    | (go_at_call 20; refine (HP.out _ (H0.out _ rfl).1).mono ?_; rintro e w1 ⟨Al, nl, cl, ok, cs, rfl, H1⟩; have HD1 : Hid (Below w.heap.size w w1 ∧ DW w1 w.heap.size c ∧ Blk w1 (w.heap.size + 1) 26 (default : CT).e.toArray) := (by obtain ⟨q1, q2, q3⟩ := H0.out _ rfl; exact ⟨q1.trans (H1.out.1.mono q1.size), q2.below H1.out.1, q3.keep H1.out.1 q3.lt⟩)))
  have HLc : Hid (cs.length ≤ 1000) := by
    rcases H1.out.2.1 with h | ⟨h, _⟩
    · exact h.2.2.1
    · rw [h]; show (0 : Nat) ≤ _; omega
  cases hf : findL cs c with
  | none =>
    have HIn : Hid (Calls Tryz.prog 48 #[.slice Al nl cl, .func (.func 49) #[] #[.pointer (some ⟨w.heap.size, 0, none⟩)]] w1 fun e w' => Below w1.heap.size w1 w' ∧ e = .returned (.int .i64 (-1))) := by
      refine (HI.out w1 _ cs w.heap.size HLc.out H1.out.2.2.2 HD1.out.2.1).mono fun e w' ⟨hb, hc⟩ => ⟨hb, ?_⟩
      rcases hc with ⟨i, x, _, h2, _⟩ | ⟨_, h2⟩
      · rw [hf] at h2; cases h2
      · exact h2
    have HFi := hid hf
    clear hf
    go_upto_region 3 with (first
      | (go_at_call 48; refine HIn.out.mono ?_; rintro e w2 ⟨hb2, rfl⟩))
    have HZ2 := hid (HD1.out.2.2.keep hb2 HD1.out.2.2.lt)
    have HB2 := hid (HD1.out.1.trans (hb2.mono HD1.out.1.size))
    clear hb2
    obtain ⟨r0, r1, r2, r3, r4, r5, r6, r7⟩ := blkc_words HZ2.out
    have zf : ∀ j, w2.frozen? ⟨w.heap.size + 1, j, none⟩ = false := fun j => HZ2.out.free j
    go_wp2
    refine bodyPost_ret (v := .tuple #[(default : CT).v, .bool false]) (by simp [results, Tryz.results14, go_sem, cell_set_same, r0, r1, r2, r3, r4, r5, r6, r7]; exact ⟨rfl, rfl, rfl, rfl, rfl, rfl, rfl, rfl⟩) rfl ?_
    refine ⟨?_, cs, H1.out.2.1, by rw [HFi.out]; rfl⟩
    exact ((((((((HB2.out.setCell (p := ⟨w.heap.size + 1, 0, none⟩) (by simp) _).setCell (p := ⟨w.heap.size + 1, 1, none⟩) (by simp) _).setCell (p := ⟨w.heap.size + 1, 2, none⟩) (by simp) _).setCell (p := ⟨w.heap.size + 1, 3, none⟩) (by simp) _).setCell (p := ⟨w.heap.size + 1, 4, none⟩) (by simp) _).setCell (p := ⟨w.heap.size + 1, 5, none⟩) (by simp) _).setCell (p := ⟨w.heap.size + 1, 6, none⟩) (by simp) _).setCell (p := ⟨w.heap.size + 1, 7, none⟩) (by simp) _)
  | some x =>
    have HIn : Hid (Calls Tryz.prog 48 #[.slice Al nl cl, .func (.func 49) #[] #[.pointer (some ⟨w.heap.size, 0, none⟩)]] w1 fun e w' => Below w1.heap.size w1 w' ∧ ∃ i : Nat, e = .returned (.int .i64 (i : Int)) ∧ cs[i]? = some x) := by
      refine (HI.out w1 _ cs w.heap.size HLc.out H1.out.2.2.2 HD1.out.2.1).mono fun e w' ⟨hb, hc⟩ => ⟨hb, ?_⟩
      rcases hc with ⟨i, y, h1, h2, h3⟩ | ⟨h2, _⟩
      · rw [hf] at h2
        cases h2
        exact ⟨i, h3, h1⟩
      · rw [hf] at h2; cases h2
    have HFi := hid hf
    clear hf
    go_upto_region 3 with (first
      | (go_at_call 48; refine HIn.out.mono ?_; rintro e w2 ⟨hb2, i, rfl, hi⟩))
    have HZ2 := hid (HD1.out.2.2.keep hb2 HD1.out.2.2.lt)
    have HB2 := hid (HD1.out.1.trans (hb2.mono HD1.out.1.size))
    obtain ⟨_, _, ea, hcl1, hcl2, hhc⟩ := H1.out.2.2.2
    injection ea with ea1 ea2 ea3
    subst ea1 ea3
    have hin : i < cs.length := (List.getElem?_eq_some_iff.1 hi).1
    obtain ⟨b, off, rfl, hhd⟩ := hhc (by omega)
    have hnl : i < nl := by have := H1.out.2.2.1; omega
    have hnc : nl ≤ 1000 := by have := H1.out.2.2.1; have := HLc.out; omega
    have hiz : (i : Int) < (nl : Int) := by omega
    have hi0 : ¬ (i : Int) < 0 := by omega
    obtain ⟨y0, y1, y2, y3, y4, y5, y6, y7⟩ := ct_words (hhd.below hb2 (hhd.lt (by omega))) i hi
    clear hb2 hi hin hhc hhd ea2 hcl1 hcl2
    obtain ⟨r0, r1, r2, r3, r4, r5, r6, r7⟩ := blkc_words HZ2.out
    have zf : ∀ j, w2.frozen? ⟨w.heap.size + 1, j, none⟩ = false := fun j => HZ2.out.free j
    go_wp2
    refine bodyPost_ret (v := .tuple #[x.v, .bool true]) (by simp [results, Tryz.results14, go_sem, cell_set_same, r0, r1, r2, r3, r4, r5, r6, r7]) rfl ?_
    refine ⟨?_, cs, H1.out.2.1, by rw [HFi.out]; rfl⟩
    exact ((((((((HB2.out.setCell (p := ⟨w.heap.size + 1, 0, none⟩) (by simp) _).setCell (p := ⟨w.heap.size + 1, 1, none⟩) (by simp) _).setCell (p := ⟨w.heap.size + 1, 2, none⟩) (by simp) _).setCell (p := ⟨w.heap.size + 1, 3, none⟩) (by simp) _).setCell (p := ⟨w.heap.size + 1, 4, none⟩) (by simp) _).setCell (p := ⟨w.heap.size + 1, 5, none⟩) (by simp) _).setCell (p := ⟨w.heap.size + 1, 6, none⟩) (by simp) _).setCell (p := ⟨w.heap.size + 1, 7, none⟩) (by simp) _)
end Go.Proofs.YtjbjdkginemedaaGreatDoor
