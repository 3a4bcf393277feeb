/- The fixed part of layer 8's laws: alive. Conditions: the tables of utf8 read as they are laid. -/
import Derived.Test.YtjbjdkginemedaaGreatDoorQK
import Derived.Test.YtjbjdkginemedaaGreatDoorNK
import Derived.Test.YtjbjdkginemedaaGreatDoorNL
import Derived.Test.YtjbjdkginemedaaGreatDoorQJ
import Derived.Test.YtjbjdkginemedaaGreatDoorLM
namespace Go.Proofs.YtjbjdkginemedaaGreatDoor
open Go.RowKit

def put8 (r : ByteArray) (n : Int) : CT := ⟨r, ⟨#[102]⟩, ⟨#[113]⟩, n, 1, 4, 1, ⟨#[]⟩⟩
abbrev rA8 : ByteArray := ⟨#[97]⟩
set_option maxHeartbeats 1000000 in
theorem put8_any (r : ByteArray) (n : Int) (w : World) : Calls Tryz.prog 36 #[.string r, .int .i64 n] w fun e w' => e = .returned (.agg #[.string r, .string ⟨#[102]⟩, .string ⟨#[113]⟩, .int .i64 n, .int .i64 1, .int .i64 4, .int .i64 1, .string ⟨#[]⟩]) ∧ Below w.heap.size w w' := by
  go_enter Tryz.func36, Tryz.ntmps36
  go_wp2
  refine bodyPost_ret (v := (put8 r n).v) (by simp [results, Tryz.results36, go_sem, put8, CT.v, cellV]) rfl ?_
  exact ⟨rfl, below_new _ _⟩
abbrev ps8 : List CT := [put8 rA8 2, put8 rA8 1]
theorem put8_ok (n : Int) (h : 0 ≤ n) (h2 : n ≤ 5) : (put8 rA8 n).ok = true := by
  obtain rfl | rfl | rfl | rfl | rfl | rfl : n = 0 ∨ n = 1 ∨ n = 2 ∨ n = 3 ∨ n = 4 ∨ n = 5 := by omega
  all_goals kernel_rfl
theorem put8_sm (n : Int) (_ : inI n) : Sm (put8 rA8 n) := ⟨⟨by show (1 : Nat) ≤ _; omega, by show (0 : Nat) ≤ _; omega, by show inI 1; unfold inI; omega⟩, by show (1 : Nat) ≤ _; omega, by show (1 : Nat) ≤ _; omega, by show (1 : Nat) ≤ _; omega, by show (0 : Nat) ≤ _; omega⟩
theorem ps8_sm : ∀ c ∈ ps8, Sm c := fun c hc => by
  rcases List.mem_cons.1 hc with rfl | hc
  · exact put8_sm 2 (by unfold inI; omega)
  · rw [List.mem_singleton.1 hc]; exact put8_sm 1 (by unfold inI; omega)
theorem ps8_bc : ∀ c ∈ ps8, Bc c := fun c hc => by
  rcases List.mem_cons.1 hc with rfl | hc
  · exact ⟨put8_ok 2 (by omega) (by omega), by show inI 1; unfold inI; omega, by show (0 : Nat) ≤ _; omega⟩
  · rw [List.mem_singleton.1 hc]; exact ⟨put8_ok 1 (by omega) (by omega), by show inI 1; unfold inI; omega, by show (0 : Nat) ≤ _; omega⟩
theorem ps8_fine : fineK [] ps8 = true := by kernel_rfl
theorem ps8_not : fineK [] [put8 rA8 1, put8 rA8 2] = false := by kernel_rfl
theorem ps8_find : findL ps8 (put8 rA8 1) = some (put8 rA8 1) := by kernel_rfl
theorem ps8_len : (blockB ps8).length ≤ 1000 := of_decide_eq_true (by kernel_rfl)
theorem ps8_pos : 0 < (blockB ps8).length := of_decide_eq_true (by kernel_rfl)
theorem ps8_fit : fitN 5 ps8 = 1 := by kernel_rfl
theorem ps8_fit2 : fitN 5 [put8 rA8 1] = 1 := by kernel_rfl
theorem ps8_cut : (cutL 5 ps8).length = 2 := by
  rw [cutL_more 5 (show 0 < ps8.length by decide), ps8_fit]
  show (cutL 5 [put8 rA8 1]).length + 1 = 2
  rw [cutL_more 5 (show 0 < [put8 rA8 1].length by decide), ps8_fit2]
  show (cutL 5 []).length + 1 + 1 = 2
  rw [cutL_nil]
  rfl
/-- Two cells in a new block. -/
theorem two_cla (W : World) (a b : CT) : ClA (W.alloc (.cells #[.string a.r, .string a.f, .string a.q, .int .i64 a.t, .int .i64 a.k, .int .i64 a.vk, .int .i64 a.vn, .string a.s, .string b.r, .string b.f, .string b.q, .int .i64 b.t, .int .i64 b.k, .int .i64 b.vk, .int .i64 b.vn, .string b.s] 26)) (.slice (some ⟨W.heap.size, 0, none⟩) 2 2) [a, b] := by
  refine ⟨_, 2, rfl, Nat.le_refl _, by omega, fun _ => ⟨W.heap.size, 0, rfl, fun i hi j hj => ?_⟩⟩
  rw [Nat.zero_add, (Blk.new W _ _).cell]
  have hi2 : i < 2 := hi
  obtain rfl | rfl : i = 0 ∨ i = 1 := by omega
  all_goals
    obtain rfl | rfl | rfl | rfl | rfl | rfl | rfl | rfl : j = 0 ∨ j = 1 ∨ j = 2 ∨ j = 3 ∨ j = 4 ∨ j = 5 ∨ j = 6 ∨ j = 7 := by omega
    all_goals rfl
theorem row_sx {w : World} {B : Nat} {v : Value} {l : List UInt8} (h : Row w B v l) : Sx w w.heap.size v l := by
  rcases h.2 with ⟨e, h0⟩ | ⟨g, cap, cur, e, hg, hh, h1, h2, _⟩
  · have : l = [] := List.eq_nil_of_length_eq_zero h0
    subst this e
    exact sx_nil w _
  · have hlt : g < w.heap.size := World.ownsRow.lt h g (by rw [e]; rfl) |>.2
    refine ⟨_, cap, e, h1, by unfold maxLen at h2; omega, fun e => (by cases e), fun _ => ⟨g, 0, rfl, by omega, hlt, fun i hi => ?_⟩⟩
    obtain ⟨g', cap', e', _, _, _, hc⟩ := h.form (by omega)
    rw [e] at e'
    injection e' with e1
    injection e1 with e1
    injection e1 with e1
    rw [Nat.zero_add, e1]
    exact hc i hi
/-- Parse of a block's bytes. -/
theorem parse_block (v : Value) (cs : List CT) (h1 : ∀ c ∈ cs, Bc c) (h2 : fineK [] cs = true) (h3 : cs.length ≤ 1000) (hl : (blockB cs).length ≤ 100000) (w : World) (h : Sx w w.heap.size v (blockB cs)) (hL : LaidU w) :
    Calls Tryz.prog 20 #[v] w fun e w' => ∃ A c, e = .returned (.tuple #[.slice A cs.length c, .bool true]) ∧ ClA w' (.slice A cs.length c) cs ∧ Below w.heap.size w w' := by
  refine (parse_any v (blockB cs) hl w h hL).mono fun e w' ⟨hb, hc⟩ => ?_
  rcases hc with ⟨u, ds, he, hr, g1, g2, g3, g4⟩ | ⟨_, hno⟩
  · obtain rfl := block_same g3 h3 g1 h1 g2 h2 g4
    obtain ⟨A, c, rfl, _⟩ := hr.len
    exact ⟨A, c, he, hr.cla, hb⟩
  · exact absurd rfl (hno cs h1 h2 h3)
/-- Find in a block's bytes. -/
theorem find_block (v : Value) (cs : List CT) (c : CT) (h1 : ∀ c ∈ cs, Bc c) (h2 : fineK [] cs = true) (h3 : cs.length ≤ 1000) (hl : (blockB cs).length ≤ 100000) (w : World) (h : Sx w w.heap.size v (blockB cs)) (hL : LaidU w) :
    Calls Tryz.prog 14 #[v, c.v] w fun e w' => e = .returned (.tuple #[((findL cs c).getD default).v, .bool (findL cs c).isSome]) ∧ Below w.heap.size w w' := by
  refine (find_any v (blockB cs) c hl w h hL).mono fun e w' ⟨hb, ds, hd, he⟩ => ?_
  rcases hd with ⟨g1, g2, g3, g4⟩ | ⟨_, hno⟩
  · obtain rfl := block_same g3 h3 g1 h1 g2 h2 g4
    exact ⟨he, hb⟩
  · exact absurd rfl (hno cs h1 h2 h3)

/-- Where alive is. -/
def Al8S (w W : World) (g cap nb : Nat) (vs : List Value) : Prop := Below w.heap.size w W ∧ Row W w.heap.size (.slice (some ⟨g, 0, none⟩) nb cap) (blockB ps8) ∧ ∀ v ∈ vs, ClA W v ps8
theorem al8_below {w W W' : World} {g cap nb : Nat} {vs : List Value} (h : Al8S w W g cap nb vs) (hb : Below W.heap.size W W') : Al8S w W' g cap nb vs :=
  ⟨h.1.trans (hb.mono h.1.size), h.2.1.keep hb h.2.1.block_lt, fun v hv => (h.2.2 v hv).below hb⟩
/-- The same in the last region, which draws its order. -/
abbrev Al8W (w W0 : World) (g cap nb : Nat) (vs : List Value) (cb : Nat) (W : World) : Prop := Hid (Al8S w W g cap nb vs ∧ Below W0.heap.size W0 W ∧ cb < W0.heap.size) ∧ W.cell? ⟨cb, 0, none⟩ = some (.string rA8) ∧ W.cell? ⟨cb, 1, none⟩ = some (.string ⟨#[102]⟩) ∧ W.cell? ⟨cb, 2, none⟩ = some (.string ⟨#[113]⟩) ∧ W.cell? ⟨cb, 3, none⟩ = some (.int .i64 1) ∧ W.cell? ⟨cb, 4, none⟩ = some (.int .i64 1) ∧ W.cell? ⟨cb, 5, none⟩ = some (.int .i64 4) ∧ W.cell? ⟨cb, 6, none⟩ = some (.int .i64 1) ∧ W.cell? ⟨cb, 7, none⟩ = some (.string ⟨#[]⟩)
theorem al8w_start {w W : World} {g cap nb cb : Nat} {vs : List Value} (h : Al8S w W g cap nb vs) (hx : DW W cb (put8 rA8 1)) : Al8W w W g cap nb vs cb W := ⟨hid ⟨h, Below.refl _ _, Blk.lt hx⟩, hx.words⟩
theorem al8w_drew {w W0 W : World} {g cap nb cb : Nat} {vs : List Value} (h : Al8W w W0 g cap nb vs cb W) : Al8W w W0 g cap nb vs cb W.drew :=
  ⟨hid ⟨al8_below h.1.out.1 (Below.refl _ _).drew, h.1.out.2.1.drew, h.1.out.2.2⟩, h.2⟩
theorem al8w_call {w W0 W W' : World} {g cap nb cb : Nat} {vs : List Value} (h : Al8W w W0 g cap nb vs cb W) (hb : Below W.heap.size W W') : Al8W w W0 g cap nb vs cb W' := by
  obtain ⟨hh, a0, a1, a2, a3, a4, a5, a6, a7⟩ := h
  obtain ⟨h1, h2, h3⟩ := hh.out
  have hz := h2.size
  have hc : ∀ o, W'.cell? ⟨cb, o, none⟩ = W.cell? ⟨cb, o, none⟩ := fun o => hb.cell (p := ⟨cb, o, none⟩) (show cb < W.heap.size by omega)
  refine ⟨hid ⟨al8_below h1 hb, h2.trans (hb.mono hz), h3⟩, ?_, ?_, ?_, ?_, ?_, ?_, ?_, ?_⟩ <;> (rw [hc]; assumption)
set_option maxHeartbeats 8000000 in
set_option maxRecDepth 100000 in
theorem alive8_any (w : World) (hL : LaidU w) : Calls Tryz.prog 9 #[] w fun e w' => e = .returned (.bool true) ∧ Below w.heap.size w w' := by
  have mixed : Tryz.prog.follows .mixedOrders = true := by kernel_rfl
  have HP := hid put8_any
  obtain ⟨nb, hnb⟩ : ∃ nb, (blockB ps8).length = nb := ⟨_, rfl⟩
  have HNb := hid hnb
  have hnb0 : 0 < nb := by rw [← hnb]; exact ps8_pos
  have HBu : Hid (∀ W, Below w.heap.size w W → Calls Tryz.prog 12 #[.slice (some ⟨W.heap.size, 0, none⟩) 2 2] (W.alloc (.cells #[.string rA8, .string ⟨#[102]⟩, .string ⟨#[113]⟩, .int .i64 2, .int .i64 1, .int .i64 4, .int .i64 1, .string ⟨#[]⟩, .string rA8, .string ⟨#[102]⟩, .string ⟨#[113]⟩, .int .i64 1, .int .i64 1, .int .i64 4, .int .i64 1, .string ⟨#[]⟩] 26)) fun e w' => ∃ g cap, e = .returned (.tuple #[.slice (some ⟨g, 0, none⟩) nb cap, .bool true]) ∧ Hid (Below W.heap.size W w' ∧ Row w' W.heap.size (.slice (some ⟨g, 0, none⟩) nb cap) (blockB ps8) ∧ ClA w' (.slice (some ⟨W.heap.size, 0, none⟩) 2 2) ps8)) := fun W hW => by
    have hc := two_cla W (put8 rA8 2) (put8 rA8 1)
    have hb0 := below_new W (.cells #[.string rA8, .string ⟨#[102]⟩, .string ⟨#[113]⟩, .int .i64 2, .int .i64 1, .int .i64 4, .int .i64 1, .string ⟨#[]⟩, .string rA8, .string ⟨#[102]⟩, .string ⟨#[113]⟩, .int .i64 1, .int .i64 1, .int .i64 4, .int .i64 1, .string ⟨#[]⟩] 26)
    refine (build_any _ ps8 (by decide) _ hc ps8_sm (hL.below (hW.trans (hb0.mono hW.size)))).mono fun e w' ⟨hb, hx⟩ => ?_
    unfold BuEnd at hx
    rw [if_pos ps8_fine] at hx
    obtain ⟨v', he, hr⟩ := hx
    obtain ⟨g, cap, rfl, hG⟩ := hr.toG ps8_pos
    rw [hnb] at he hr
    exact ⟨g, cap, he, hb0.trans (hb.mono (by simp)), hr.le (by simp), hc.below hb⟩
  have HBn : Hid (∀ W, Below w.heap.size w W → Calls Tryz.prog 12 #[.slice (some ⟨W.heap.size, 0, none⟩) 2 2] (W.alloc (.cells #[.string rA8, .string ⟨#[102]⟩, .string ⟨#[113]⟩, .int .i64 1, .int .i64 1, .int .i64 4, .int .i64 1, .string ⟨#[]⟩, .string rA8, .string ⟨#[102]⟩, .string ⟨#[113]⟩, .int .i64 2, .int .i64 1, .int .i64 4, .int .i64 1, .string ⟨#[]⟩] 26)) fun e w' => e = .returned (.tuple #[.slice none 0 0, .bool false]) ∧ Hid (Below W.heap.size W w')) := fun W hW => by
    have hc := two_cla W (put8 rA8 1) (put8 rA8 2)
    have hb0 := below_new W (.cells #[.string rA8, .string ⟨#[102]⟩, .string ⟨#[113]⟩, .int .i64 1, .int .i64 1, .int .i64 4, .int .i64 1, .string ⟨#[]⟩, .string rA8, .string ⟨#[102]⟩, .string ⟨#[113]⟩, .int .i64 2, .int .i64 1, .int .i64 4, .int .i64 1, .string ⟨#[]⟩] 26)
    refine (build_any _ [put8 rA8 1, put8 rA8 2] (by decide) _ hc (fun c hc => ps8_sm c (by simp only [List.mem_cons, List.not_mem_nil, or_false] at hc ⊢; exact hc.symm)) (hL.below (hW.trans (hb0.mono hW.size)))).mono fun e w' ⟨hb, hx⟩ => ?_
    unfold BuEnd at hx
    rw [if_neg (by rw [ps8_not]; simp)] at hx
    exact ⟨hx, hb0.trans (hb.mono (by simp))⟩
  have HPa : Hid (∀ (W : World) (v : Value), Below w.heap.size w W → Sx W W.heap.size v (blockB ps8) → Calls Tryz.prog 20 #[v] W fun e w' => ∃ A c, e = .returned (.tuple #[.slice A 2 c, .bool true]) ∧ Hid (ClA w' (.slice A 2 c) ps8 ∧ Below W.heap.size W w')) := fun W v hW h => (parse_block v ps8 ps8_bc ps8_fine (by decide) (by have := ps8_len; omega) W h (hL.below hW)).mono fun e w' ⟨A, c, he, h1, h2⟩ => ⟨A, c, he, h1, h2⟩
  have HFi : Hid (∀ (W : World) (v : Value), Below w.heap.size w W → Sx W W.heap.size v (blockB ps8) → Calls Tryz.prog 14 #[v, .agg #[.string rA8, .string ⟨#[102]⟩, .string ⟨#[113]⟩, .int .i64 1, .int .i64 1, .int .i64 4, .int .i64 1, .string ⟨#[]⟩]] W fun e w' => e = .returned (.tuple #[.agg #[.string rA8, .string ⟨#[102]⟩, .string ⟨#[113]⟩, .int .i64 1, .int .i64 1, .int .i64 4, .int .i64 1, .string ⟨#[]⟩], .bool true]) ∧ Below W.heap.size W w') := fun W v hW h => (find_block v ps8 (put8 rA8 1) ps8_bc ps8_fine (by decide) (by have := ps8_len; omega) W h (hL.below hW)).mono fun e w' ⟨he, hb⟩ => ⟨by rw [he, ps8_find]; rfl, hb⟩
  have HCu : Hid (∀ (W : World) (v : Value), Below w.heap.size w W → ClA W v ps8 → Calls Tryz.prog 16 #[v, .int .i64 5] W fun e w' => ∃ A c, e = .returned (.slice A 2 c) ∧ Below W.heap.size W w') := fun W v hW h => (cut_any v ps8 5 (by decide) W h (fun c hc => ⟨(ps8_sm c hc).1, by have := (ps8_sm c hc).2.2.2.2; omega⟩) (hL.below hW)).mono fun e w' ⟨v', he, hr, hb⟩ => by
    obtain ⟨A, c, rfl⟩ := hr.len
    rw [ps8_cut] at he
    exact ⟨A, c, he, hb⟩
  have HSa : Hid (∀ (W : World) (v1 v2 : Value), ClA W v1 ps8 → ClA W v2 ps8 → Calls Tryz.prog 19 #[v1, v2] W fun e w' => e = .returned (.bool true) ∧ Below W.heap.size W w') := fun W v1 v2 h1 h2 => (samecells_any v1 v2 ps8 ps8 W h1 h2).mono fun e w' ⟨he, hb⟩ => ⟨by rw [he, decide_eq_true rfl], hb⟩
  have H0 : Hid (Below w.heap.size w w) := Below.refl _ _
  clear hL hnb
  go_enter Tryz.func9, Tryz.ntmps9
  go_upto_region 5 with (first
    | (go_at_call 36; refine (HP.out _ _ _).mono ?_; rintro e w5 ⟨rfl, hb5⟩; first | (have HS := (by first | exact hid (al8_below HS.out hb5) | exact hid (al8_below (al8_below HS.out (below_new _ _)) hb5) | exact hid (al8_below (al8_below (al8_below HS.out (below_new _ _)) (below_new _ _)) hb5)); clear hb5) | (have H0 := hid (Below.trans H0.out (hb5.mono H0.out.size)); clear hb5))
    | (go_at_call 12; first
        | (have hq := HBn.out _ HS.out.1; refine hq.mono ?_; clear hq; rintro e w6 ⟨rfl, hb6⟩; have HS := hid (al8_below HS.out hb6.out); clear hb6)
        | (have hq := HBu.out _ H0.out; refine hq.mono ?_; clear hq; rintro e w6 ⟨g, cap, rfl, H6⟩; obtain ⟨G, hG⟩ : ∃ G, w5.heap.size = G := ⟨_, rfl⟩; rw [hG] at H6 ⊢; have HS : Hid (Al8S w w6 g cap nb [.slice (some ⟨G, 0, none⟩) 2 2]) := hid (And.intro (H0.out.trans ((hG ▸ H6.out.1).mono H0.out.size)) (And.intro (H6.out.2.1.le (by rw [← hG]; exact H0.out.size)) (fun v hv => by rw [List.mem_singleton.1 hv]; exact H6.out.2.2))); clear H6 hG))
    | (go_at_call 20; refine (HPa.out _ _ (by first | exact HS.out.1 | exact (al8_below HS.out (below_new _ _)).1 | exact (al8_below (al8_below HS.out (below_new _ _)) (below_new _ _)).1) (by first | exact row_sx HS.out.2.1 | exact row_sx (al8_below HS.out (below_new _ _)).2.1 | exact row_sx (al8_below (al8_below HS.out (below_new _ _)) (below_new _ _)).2.1)).mono ?_; rintro e w7 ⟨Am, cm, rfl, H7⟩; have HS := (by first | exact hid (al8_below HS.out H7.out.2) | exact hid (al8_below (al8_below HS.out (below_new _ _)) H7.out.2)); have HM := hid H7.out.1; have HS : Hid (Al8S w w7 g cap nb [.slice Am 2 cm, .slice (some ⟨G, 0, none⟩) 2 2]) := hid (And.intro HS.out.1 (And.intro HS.out.2.1 (fun v hv => by
        rcases List.mem_cons.1 hv with rfl | hv
        · exact HM.out
        · exact HS.out.2.2 v hv))); clear H7 HM)
    | (go_at_call 14; refine (HFi.out _ _ (by first | exact HS.out.1 | exact (al8_below HS.out (below_new _ _)).1 | exact (al8_below (al8_below HS.out (below_new _ _)) (below_new _ _)).1) (by first | exact row_sx HS.out.2.1 | exact row_sx (al8_below HS.out (below_new _ _)).2.1 | exact row_sx (al8_below (al8_below HS.out (below_new _ _)) (below_new _ _)).2.1)).mono ?_; rintro e w8 ⟨rfl, hb8⟩; have HS := (by first | exact hid (al8_below HS.out hb8) | exact hid (al8_below (al8_below HS.out (below_new _ _)) hb8) | exact hid (al8_below (al8_below (al8_below HS.out (below_new _ _)) (below_new _ _)) hb8)); clear hb8)
    | (go_at_call 19; refine (HSa.out _ _ _ (by first | exact HS.out.2.2 _ (by simp) | exact (al8_below HS.out (below_new _ _)).2.2 _ (by simp) | exact (al8_below (al8_below HS.out (below_new _ _)) (below_new _ _)).2.2 _ (by simp)) (by first | exact HS.out.2.2 _ (by simp) | exact (al8_below HS.out (below_new _ _)).2.2 _ (by simp) | exact (al8_below (al8_below HS.out (below_new _ _)) (below_new _ _)).2.2 _ (by simp))).mono ?_; rintro e w9 ⟨rfl, hb9⟩; have HS := (by first | exact hid (al8_below HS.out hb9) | exact hid (al8_below (al8_below HS.out (below_new _ _)) hb9) | exact hid (al8_below (al8_below (al8_below HS.out (below_new _ _)) (below_new _ _)) hb9)); clear hb9)
    | (go_at_call 16; refine (HCu.out _ _ (by first | exact HS.out.1 | exact (al8_below HS.out (below_new _ _)).1 | exact (al8_below (al8_below HS.out (below_new _ _)) (below_new _ _)).1) (by first | exact HS.out.2.2 _ (by simp) | exact (al8_below HS.out (below_new _ _)).2.2 _ (by simp) | exact (al8_below (al8_below HS.out (below_new _ _)) (below_new _ _)).2.2 _ (by simp))).mono ?_; rintro e w10 ⟨Ac, cc, rfl, hb10⟩; have HS := (by first | exact hid (al8_below HS.out hb10) | exact hid (al8_below (al8_below HS.out (below_new _ _)) hb10) | exact hid (al8_below (al8_below (al8_below HS.out (below_new _ _)) (below_new _ _)) hb10)); clear hb10))
  obtain ⟨W8, hW8⟩ : ∃ W8, w8.alloc (.cells #[.string rA8, .string ⟨#[102]⟩, .string ⟨#[113]⟩, .int .i64 1, .int .i64 1, .int .i64 4, .int .i64 1, .string ⟨#[]⟩] 26) = W8 := ⟨_, rfl⟩
  obtain ⟨cb, hcb⟩ : ∃ cb, w8.heap.size = cb := ⟨_, rfl⟩
  have HX : Hid (DW W8 cb (put8 rA8 1)) := by
    rw [← hW8, ← hcb]
    exact Blk.new w8 _ _
  have HS := hid (al8_below HS.out (below_new w8 (.cells #[.string rA8, .string ⟨#[102]⟩, .string ⟨#[113]⟩, .int .i64 1, .int .i64 1, .int .i64 4, .int .i64 1, .string ⟨#[]⟩] 26)))
  rw [hW8] at HS ⊢
  rw [hcb]
  clear hW8 hcb
  go_upto_region 6 with (first
    | (go_at_call 36; refine (HP.out _ _ _).mono ?_; rintro e w5 ⟨rfl, hb5⟩; have HS := hid (al8_below HS.out hb5); have HX := hid (DW.below HX.out hb5); clear hb5)
    | (go_at_call 12; have hq := HBn.out _ HS.out.1; refine hq.mono ?_; clear hq; rintro e w6 ⟨rfl, hb6⟩; have HS := hid (al8_below HS.out hb6.out); have HX := hid (DW.below HX.out hb6.out); clear hb6))
  obtain ⟨W6, hW6⟩ : ∃ W6, W6 = w6 := ⟨_, rfl⟩
  subst hW6
  have HT : Hid (Al8W w W6 g cap nb [.slice Am 2 cm, .slice (some ⟨G, 0, none⟩) 2 2] cb W6) := hid (al8w_start HS.out HX.out)
  obtain ⟨-, a0, a1, a2, a3, a4, a5, a6, a7⟩ := HT.out
  go_region_held3 (fun W' => Hid (Al8S w W' g cap nb [.slice Am 2 cm, .slice (some ⟨G, 0, none⟩) 2 2] ∧ Below W6.heap.size W6 W' ∧ cb < W6.heap.size) ∧ W'.cell? ⟨cb, 0, none⟩ = some (.string rA8) ∧ W'.cell? ⟨cb, 1, none⟩ = some (.string ⟨#[102]⟩) ∧ W'.cell? ⟨cb, 2, none⟩ = some (.string ⟨#[113]⟩) ∧ W'.cell? ⟨cb, 3, none⟩ = some (.int .i64 1) ∧ W'.cell? ⟨cb, 4, none⟩ = some (.int .i64 1) ∧ W'.cell? ⟨cb, 5, none⟩ = some (.int .i64 4) ∧ W'.cell? ⟨cb, 6, none⟩ = some (.int .i64 1) ∧ W'.cell? ⟨cb, 7, none⟩ = some (.string ⟨#[]⟩))
    (first | exact al8w_drew HT.out | exact F11.out | exact F10.out | exact F9.out | exact HT.out | assumption)
    (first
      | (go_at_call 19; refine (HSa.out _ _ _ ((al8w_drew HT.out).1.out.1.2.2 _ (by simp)) ((al8w_drew HT.out).1.out.1.2.2 _ (by simp))).mono ?_; rintro e w9 ⟨rfl, hb9⟩; have F9 := hid (al8w_call (al8w_drew HT.out) hb9))
      | (go_at_call 36; refine (HP.out _ _ _).mono ?_; rintro e w10 ⟨rfl, hb10⟩; have F10 := hid (al8w_call F9.out hb10))
      | (go_at_call 16; refine (HCu.out _ _ F10.out.1.out.1.1 (F10.out.1.out.1.2.2 _ (by simp))).mono ?_; rintro e w11 ⟨Ac, cc, rfl, hb11⟩; have F11 := hid (al8w_call F10.out hb11)))
  rename_i hLast
  have HB := hid hLast.1.out.1.1
  clear hLast HT a0 a1 a2 a3 a4 a5 a6 a7
  go_wp2
  go_ret
  exact ⟨rfl, HB.out⟩
end Go.Proofs.YtjbjdkginemedaaGreatDoor
