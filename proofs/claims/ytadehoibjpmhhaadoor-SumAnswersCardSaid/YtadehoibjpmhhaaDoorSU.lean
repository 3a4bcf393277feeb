/- The law SumPlaces at any list and bytes: true, and what lay is as it was. Conditions: the slices hold their bytes; a row is at most 2^47 bytes long. -/
import Derived.Test.YtadehoibjpmhhaaDoorST
import Derived.Test.YtadehoibjpmhhaaDoorSS
import Derived.Test.YtadehoibjpmhhaaDoorSP
namespace Go.Proofs.YtadehoibjpmhhaaDoor
open Go.RowKit

theorem Row.len {w : World} {B : Nat} {v : Value} {l : List UInt8} (h : Row w B v l) : ∃ A c, v = .slice A l.length c := by
  obtain ⟨A, c, e, _⟩ := h.sla
  exact ⟨A, c, e⟩
theorem frames_small (ls : List (List UInt8)) (h : ∀ x ∈ ls, x.length ≤ 65536) : (framesM ls).length ≤ 14 * wgt ls := by
  induction ls with
  | nil => simp [framesM]
  | cons x t ih =>
    have h1 := ih (fun y hy => h y (List.mem_cons_of_mem _ hy))
    have h2 := numW_len9 x.length (by have := h x (by simp); omega)
    simp only [framesM, wgt, List.length_append, frame_len]
    omega
theorem frames_take (ls : List (List UInt8)) (k : Nat) (h : k < ls.length) : framesM (ls.take (k + 1)) = framesM (ls.take k) ++ frameM ls[k] := by
  rw [List.take_succ_eq_append_getElem h, frames_app]
  simp [framesM]
theorem wgt_take_le (ls : List (List UInt8)) (k : Nat) : wgt (ls.take k) ≤ wgt ls := by
  have := wgt_app (ls.take k) (ls.drop k)
  rw [List.take_append_drop] at this
  omega

theorem LsA.at {w : World} {A : Option Addr} {n c : Nat} {ls : List (List UInt8)} (h : LsA w (.slice A n c) ls) (k : Nat) (hk : k < ls.length) :
    ∃ b off A' c', A = some ⟨b, off, Option.none⟩ ∧ w.cell? ⟨b, off + k, Option.none⟩ = some (.slice A' (ls[k]).length c') ∧ SlA w (.slice A' (ls[k]).length c') ls[k] := by
  obtain ⟨A1, c1, e0, _, _, _, hh⟩ := h
  injection e0 with ea _ _
  obtain ⟨b, off, ea2, hcells⟩ := hh (by omega)
  obtain ⟨u, hu, hS⟩ := hcells k ls[k] (List.getElem?_eq_getElem hk)
  obtain ⟨A', c', e, hx⟩ := id hS
  subst e
  exact ⟨b, off, A', c', ea.trans ea2, hu, hS⟩
theorem SlA.holdsA {w : World} {A : Option Addr} {n c : Nat} {l : List UInt8} (h : SlA w (.slice A n c) l) : HoldsA w A l := by
  obtain ⟨_, _, e1, _, _, g1, _⟩ := h
  injection e1 with e1 _ _
  subst e1
  exact g1

/-- What weighing the list tells, in the walk's words. -/
def WeighLe (w : World) (v : Value) (lim : Int) : Prop :=
  ∀ W, Below w.heap.size w W → Calls Tryd.prog 34 #[v, .int .i64 lim] W fun e w' => ∃ z : Int, e = .returned (.int .i64 z) ∧ z ≤ lim ∧ Below W.heap.size W w'
def WeighGt (w : World) (v : Value) (lim : Int) : Prop :=
  ∀ W, Below w.heap.size w W → Calls Tryd.prog 34 #[v, .int .i64 lim] W fun e w' => ∃ z : Int, e = .returned (.int .i64 z) ∧ lim < z ∧ Below W.heap.size W w'
theorem weigh_le (v : Value) (ls : List (List UInt8)) (lim : Nat) (hlim : lim ≤ 1000000) (hrow : ∀ x ∈ ls, x.length ≤ 9223372036850000000) (w : World) (h : LsA w v ls) (hg : wgt ls ≤ lim) : WeighLe w v lim :=
  fun W hW => (weigh_any v ls lim hlim hrow W (h.below hW)).mono fun e w' ⟨⟨z, he, hz⟩, hw⟩ => ⟨z, he, by
    have := hz.out
    rw [decide_eq_false (by omega : ¬ lim < wgt ls)] at this
    have := of_decide_eq_false this
    omega, by rw [hw]; exact Below.refl _ _⟩
theorem weigh_gt (v : Value) (ls : List (List UInt8)) (lim : Nat) (hlim : lim ≤ 1000000) (hrow : ∀ x ∈ ls, x.length ≤ 9223372036850000000) (w : World) (h : LsA w v ls) (hg : lim < wgt ls) : WeighGt w v lim :=
  fun W hW => (weigh_any v ls lim hlim hrow W (h.below hW)).mono fun e w' ⟨⟨z, he, hz⟩, hw⟩ => ⟨z, he, by
    have := hz.out
    rw [decide_eq_true hg] at this
    exact of_decide_eq_true this, by rw [hw]; exact Below.refl _ _⟩

structure PlHyp (w : World) (ls : List (List UInt8)) (l : List UInt8) (A B : Option Addr) (n c m d fl xa xb xs : Nat) : Prop where
  alive : Calls Tryd.prog 37 #[] w fun e w' => e = .returned (.bool true) ∧ Below w.heap.size w w'
  frame : ∀ W k (h : k < ls.length) A' c', SlA W (.slice A' (ls[k]).length c') ls[k] → Calls Tryd.prog 38 #[.slice A' (ls[k]).length c'] W fun e w' => ∃ A2 c2, e = .returned (.tuple #[.slice A2 (frameM ls[k]).length c2, .bool true]) ∧ Hid (SlA w' (.slice A2 (frameM ls[k]).length c2) (frameM ls[k])) ∧ Below W.heap.size W w'
  all1 : ∀ W v, SlA W v (framesM ls ++ l) → Calls Tryd.prog 42 #[v] W fun e w' => ∃ A2 c2, e = .returned (.tuple #[.slice A2 (n + xa) c2, .int .i64 ((fl : Int) + xb), .int .i64 (xs : Int)]) ∧ Below W.heap.size W w'
  all2 : ∀ W, Below w.heap.size w W → Calls Tryd.prog 42 #[.slice B m d] W fun e w' => ∃ A2 c2, e = .returned (.tuple #[.slice A2 xa c2, .int .i64 (xb : Int), .int .i64 (xs : Int)]) ∧ Below W.heap.size W w'

theorem pl_hyp (ls : List (List UInt8)) (l : List UInt8) (A B : Option Addr) (c d : Nat) (hw : wgt ls ≤ 2000) (hl : l.length ≤ 2000) (w : World) (h2 : SlA w (.slice B l.length d) l) : PlHyp w ls l A B ls.length c l.length d (framesM ls).length (allF l).1.length (allF l).2.1 (allF l).2.2 where
  alive := alive4_any w
  frame := fun W k h A' c' hS => by
    have hx : (ls[k]).length + 1 ≤ wgt ls := wgt_mem (List.getElem_mem h)
    refine (frame_any _ ls[k] (by omega) W hS).mono fun e w' ⟨v, he, hR, hb⟩ => ?_
    obtain ⟨A2, c2, rfl, hx⟩ := hR.sla
    exact ⟨A2, c2, he, ⟨A2, c2, rfl, hx⟩, hb⟩
  all1 := fun W v hS => by
    have hx : ∀ x ∈ ls, x.length ≤ 65536 := fun x hx => by have := wgt_mem hx; omega
    have hf := frames_small ls hx
    refine (all_any v _ (by rw [List.length_append]; omega) W hS).mono fun e w' ⟨v, he, hR, hb⟩ => ?_
    rw [allF_frames ls hx] at he hR
    obtain ⟨A2, c2, rfl⟩ := hR.len
    rw [List.length_append] at he
    refine ⟨A2, c2, ?_, hb⟩
    rw [he]
    simp only [Int.natCast_add]
  all2 := fun W hW => by
    refine (all_any _ l (by omega) W (h2.below hW)).mono fun e w' ⟨v, he, hR, hb⟩ => ?_
    obtain ⟨A2, c2, rfl⟩ := hR.len
    exact ⟨A2, c2, he, hb⟩

theorem allF_bound (l : List UInt8) : (allF l).1.length ≤ l.length ∧ (allF l).2.1 ≤ l.length := by
  have key : ∀ f l, (allM f l).1.length ≤ l.length ∧ (allM f l).2.1 ≤ l.length := by
    intro f
    induction f with
    | zero => intro l; simp [allM]
    | succ f ih =>
      intro l
      rw [allM]
      split
      · simp
      · split
        · rename_i x r hn
          have h1 := next_len hn
          have h2 := ih r
          simp only [List.length_cons]
          omega
        · simp
        · simp
  exact key _ _

set_option maxRecDepth 100000 in
set_option maxHeartbeats 4000000 in
theorem places_walk (ls : List (List UInt8)) (l : List UInt8) (A B : Option Addr) (c m d n fl xa xb xs : Nat) (hm : m ≤ 2000) (hn : n ≤ 2000) (hnl : ls.length = n) (hml : l.length = m) (hwg : wgt ls ≤ 2000) (w : World) (hL : LsA w (.slice A n c) ls) (hS : SlA w (.slice B m d) l) (HW : WeighLe w (.slice A n c) 2000) (hfl : (framesM ls).length = fl) (hxa : xa ≤ 2000) (hxb : xb ≤ 2000) (H : PlHyp w ls l A B n c m d fl xa xb xs) :
    Calls Tryd.prog 12 #[.slice A n c, .slice B m d] w fun e w' => e = .returned (.bool true) ∧ Below w.heap.size w w' := by
  have H := hid H
  have HW := hid HW
  have HL := hid hL
  have HS := hid hS
  have HN := hid hnl
  have HM := hid hml
  have HX : Hid (∀ x ∈ ls, x.length ≤ 65536) := fun x hx => by have := wgt_mem hx; omega
  have HF : Hid (∀ k, (framesM (ls.take k)).length ≤ 28000) := fun k => by
    have h1 := frames_small (ls.take k) (fun x hx => HX.out x (List.mem_of_mem_take hx))
    have := wgt_take_le ls k
    omega
  have H0 : Hid (∀ W : World, w.heap.size ≤ W.heap.size → Row (W.alloc (.cells #[] 5)) w.heap.size (.slice (some ⟨W.heap.size, 0, none⟩) 0 0) []) := fun W hW => Row.new W w.heap.size hW [] (by unfold maxLen; simp)
  have HFE := hid hfl
  clear hL hS hnl hml hfl
  go_enter Tryd.func12, Tryd.ntmps12
  go_wp2_with (first
    | (go_at_call 37; refine H.out.alive.mono ?_; rintro e w1 ⟨rfl, hb1⟩)
    | (go_at_call 34; refine (HW.out _ hb1).mono ?_; rintro e w2 ⟨z, rfl, hz, hb2⟩))
  go_loopw [5, 6] (fun va vi wr => ∃ k : Nat, k ≤ n ∧ vi = .int .i64 k ∧ Row wr w.heap.size va (framesM (ls.take k)) ∧ Below w.heap.size w wr) (fun _ vi _ => n - (intOf vi).toNat)
  case atStart => exact ⟨0, Nat.zero_le _, rfl, by simpa [framesM] using H0.out w2 (Nat.le_trans hb1.size hb2.size), (hb1.trans (hb2.mono hb1.size)).alloc (Nat.le_trans hb1.size hb2.size) _⟩
  case round =>
    obtain ⟨k, hk, rfl, hR, hb⟩ := hrel
    obtain ⟨A5, c5, rfl⟩ := hR.len
    have HR := hid hR
    clear hR
    by_cases hlt : k < n
    · have hkl : k < ls.length := by rw [HN.out]; exact hlt
      obtain ⟨b, off, A', c', ea, hu, hSu⟩ := (HL.out.below hb).at k hkl
      have hSU := hid hSu
      subst ea
      have HT := hid (frames_take ls k hkl)
      have hbs := hb.size
      clear hSu
      go_wp2_with (first
        | (go_at_call 38; refine (H.out.frame _ k hkl _ _ hSU.out).mono ?_; rintro e w3 ⟨A2, c2, rfl, hS2, hb3⟩)
        | (at_builtin; refine wpList_append_any rfl (.tmp 41) (.tmp 42) rfl rfl _ w.heap.size _ (framesM (ls.take k)) rfl (HR.out.keep hb3 HR.out.block_lt) A2 c2 (frameM ls[k]) rfl hS2.out.holdsA (by have := HF.out (k + 1); rw [HT.out, List.length_append] at this; omega) (Nat.le_trans hbs hb3.size) ?_; intro v' w' hR' hb'))
      go_roundw
      case rel =>
        refine ⟨k + 1, by omega, by go_num, ?_, (hb.trans (hb3.mono hbs)).trans hb'⟩
        rw [HT.out]
        exact hR'
      case measure => simp [intOf]; omega
    · have hkn : k = ls.length := by have := HN.out; omega
      have HR2 : Hid (Row wr w.heap.size (.slice A5 (framesM ls).length c5) (framesM ls)) := by
        have := HR.out
        rwa [hkn, List.take_of_length_le (Nat.le_refl _)] at this
      have hlen5 : (framesM (ls.take k)).length = fl := by rw [hkn, List.take_of_length_le (Nat.le_refl _)]; exact HFE.out
      rw [hlen5]
      have HFL : Hid (fl ≤ 28000) := by
        have := HF.out ls.length
        rwa [List.take_of_length_le (Nat.le_refl _), HFE.out] at this
      have HR2 : Hid (Row wr w.heap.size (.slice A5 fl c5) (framesM ls)) := by have := HR2.out; rwa [HFE.out] at this
      clear HR hlen5 hkn
      have hbs := hb.size
      have hflb : fl ≤ 28000 := HFL.out
      go_wp2_with (first
        | (at_builtin; refine wpList_append_any rfl (.tmp 47) (.tmp 48) rfl rfl _ w.heap.size _ (framesM ls) rfl HR2.out B d l (by rw [HM.out]; rfl) (HS.out.below hb).holdsA (by have := HFL.out; have := HFE.out; have := HM.out; omega) hbs ?_; intro v' w' hR' hb')
        | (go_at_call 42; ((with_reducible refine (H.out.all2 _ ?_).mono ?_); (exact (hb.trans hb').trans (hb4.mono (Nat.le_trans hbs hb'.size))); rintro e w5 ⟨A7, c7, rfl, hb5⟩))
        | (go_at_call 42; refine (H.out.all1 _ _ hR'.sla).mono ?_; rintro e w4 ⟨A6, c6, rfl, hb4⟩))
      go_ret
      exact ⟨rfl, ((hb.trans hb').trans (hb4.mono (Nat.le_trans hbs hb'.size))).trans (hb5.mono (Nat.le_trans (Nat.le_trans hbs hb'.size) hb4.size))⟩

set_option maxRecDepth 100000 in
set_option maxHeartbeats 1000000 in
theorem places_gt (A B : Option Addr) (n c m d : Nat) (w : World) (HW : WeighGt w (.slice A n c) 2000) :
    Calls Tryd.prog 12 #[.slice A n c, .slice B m d] w fun e w' => e = .returned (.bool true) ∧ Below w.heap.size w w' := by
  have H := hid (alive4_any w)
  have HW := hid HW
  go_enter Tryd.func12, Tryd.ntmps12
  go_wp2_with (first
    | (go_at_call 37; refine H.out.mono ?_; rintro e w1 ⟨rfl, hb1⟩)
    | (go_at_call 34; refine (HW.out _ hb1).mono ?_; rintro e w2 ⟨z, rfl, hz, hb2⟩))
  go_ret
  exact ⟨rfl, hb1.trans (hb2.mono hb1.size)⟩

set_option maxRecDepth 100000 in
set_option maxHeartbeats 1000000 in
theorem places_long (A B : Option Addr) (n c m d : Nat) (hm : 2000 < m) (w : World) (HW : WeighLe w (.slice A n c) 2000) :
    Calls Tryd.prog 12 #[.slice A n c, .slice B m d] w fun e w' => e = .returned (.bool true) ∧ Below w.heap.size w w' := by
  have H := hid (alive4_any w)
  have HW := hid HW
  go_enter Tryd.func12, Tryd.ntmps12
  go_wp2_with (first
    | (go_at_call 37; refine H.out.mono ?_; rintro e w1 ⟨rfl, hb1⟩)
    | (go_at_call 34; refine (HW.out _ hb1).mono ?_; rintro e w2 ⟨z, rfl, hz, hb2⟩))
  go_ret
  exact ⟨rfl, hb1.trans (hb2.mono hb1.size)⟩

theorem places_any (v : Value) (ls : List (List UInt8)) (u : Value) (l : List UInt8) (w : World) (hL : LsA w v ls) (hrow : ∀ x ∈ ls, x.length ≤ 9223372036850000000) (hS : SlA w u l) :
    Calls Tryd.prog 12 #[v, u] w fun e w' => e = .returned (.bool true) ∧ Below w.heap.size w w' := by
  have hL' := hL
  have hS' := hS
  obtain ⟨A, c, rfl, _⟩ := hL'
  obtain ⟨B, d, rfl, _⟩ := hS'
  by_cases hw : wgt ls ≤ 2000
  · have HW := weigh_le _ ls 2000 (by omega) hrow w hL hw
    by_cases hl : l.length ≤ 2000
    · obtain ⟨q1, q2⟩ := allF_bound l
      exact places_walk ls l A B c l.length d ls.length _ _ _ _ hl (Nat.le_trans (wgt_len ls) hw) rfl rfl hw w hL hS HW rfl (by omega) (by omega) (pl_hyp ls l A B c d hw hl w hS)
    · exact places_long A B _ c _ d (by omega) w HW
  · exact places_gt A B _ c _ d w (weigh_gt _ ls 2000 (by omega) hrow w hL (by omega))
end Go.Proofs.YtadehoibjpmhhaaDoor
