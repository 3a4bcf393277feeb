/- The fixed part of layer 10's laws: alive. Conditions: the tables of utf8 read as they are laid. -/
import Derived.Test.YtgfkobfkncpmoaaDoorMgT
import Derived.Test.YtgfkobfkncpmoaaDoorMgV
namespace Go.Proofs.YtgfkobfkncpmoaaDoor
open Go.RowKit

def pt (r : ByteArray) (n : Int) : CT := ⟨r, ⟨#[102]⟩, ⟨#[113]⟩, 1, 1, 1, n, ⟨#[]⟩⟩
abbrev rA : ByteArray := ⟨#[97]⟩
abbrev rB : ByteArray := ⟨#[98]⟩
abbrev rC : ByteArray := ⟨#[99]⟩
set_option maxHeartbeats 1000000 in
theorem put10_any (r : ByteArray) (n : Int) (w : World) : Calls Tryd.prog 125 #[.string r, .int .i64 n] w fun e w' => e = .returned (.agg #[.string r, .string ⟨#[102]⟩, .string ⟨#[113]⟩, .int .i64 1, .int .i64 1, .int .i64 1, .int .i64 n, .string ⟨#[]⟩]) ∧ Below w.heap.size w w' := by
  go_enter Tryd.func125, Tryd.ntmps125
  go_wp2
  refine bodyPost_ret (v := (pt r n).v) (by simp [results, Tryd.results125, go_sem, pt, CT.v, cellV]) rfl ?_
  exact ⟨rfl, below_new _ _⟩
abbrev rs9 : List (List CT) := [[pt rB 1], [pt rA 2, pt rB 3, pt rC 4]]
abbrev ml9 : List CT := [pt rA 2, pt rB 1, pt rC 4]
abbrev H9 : List (Rn CT) := [⟨pt rB 1, [], 0⟩, ⟨pt rA 2, [pt rB 3, pt rC 4], 1⟩]
abbrev H91 : List (Rn CT) := [⟨pt rB 1, [], 0⟩, ⟨pt rB 3, [pt rC 4], 1⟩]
theorem runs9 : runsF begL 0 rs9 = H9 := by kernel_rfl
theorem sk9 : skA CT.cmp (pt rB 0) H9 = H91 := by kernel_rfl
theorem pop9a : popA CT.cmp (pt rA 2) [⟨pt rA 2, [pt rB 3, pt rC 4], 1⟩, ⟨pt rB 1, [], 0⟩] = [⟨pt rB 3, [pt rC 4], 1⟩, ⟨pt rB 1, [], 0⟩] := by kernel_rfl
theorem pop9b : popA CT.cmp (pt rB 1) H91 = [⟨pt rC 4, [], 1⟩] := by kernel_rfl
theorem pop9c : popA CT.cmp (pt rC 4) [⟨pt rC 4, [], 1⟩] = [] := by kernel_rfl
theorem ab9 : CT.cmp (pt rA 2) (pt rB 3) < 0 := of_decide_eq_true (by kernel_rfl)
theorem ab9' : CT.cmp (pt rA 2) (pt rB 1) < 0 := of_decide_eq_true (by kernel_rfl)
theorem ac9 : CT.cmp (pt rA 2) (pt rC 4) < 0 := of_decide_eq_true (by kernel_rfl)
theorem bc9 : CT.cmp (pt rB 3) (pt rC 4) < 0 := of_decide_eq_true (by kernel_rfl)
theorem bb9 : CT.cmp (pt rB 1) (pt rB 3) = 0 := of_decide_eq_true (by kernel_rfl)
theorem mg9c : MgO CT.cmp [⟨pt rC 4, [], 1⟩] [pt rC 4] := by
  have := mgo_cons ct_c3 (r := ⟨pt rC 4, [], 1⟩) (t := []) (l := []) (fun x hx => by rw [List.mem_singleton.1 hx]; exact leR_refl ct_c3 _) (fun x hx => by rw [List.mem_singleton.1 hx]; exact List.pairwise_singleton _ _) (List.pairwise_singleton _ _) (by rw [show popA CT.cmp (Rn.h ⟨pt rC 4, [], 1⟩) [⟨pt rC 4, [], 1⟩] = [] from pop9c]; exact mgo_nil_nil)
  exact this
theorem gd91 : Gd H91 := ⟨fun r hr => by
    rcases List.mem_cons.1 hr with rfl | hr
    · exact List.pairwise_singleton _ _
    · rw [List.mem_singleton.1 hr]
      exact List.pairwise_cons.2 ⟨fun y hy => by rw [List.mem_singleton.1 hy]; exact bc9, List.pairwise_singleton _ _⟩,
  List.pairwise_cons.2 ⟨fun y hy => by rw [List.mem_singleton.1 hy]; show (0 : Nat) ≠ 1; omega, List.pairwise_singleton _ _⟩, by show (2 : Nat) ≤ _; omega, by show (3 : Nat) ≤ _; omega⟩
theorem mg9b : MgO CT.cmp H91 [pt rB 1, pt rC 4] :=
  mgo_cons ct_c3 (r := ⟨pt rB 1, [], 0⟩) (t := [⟨pt rB 3, [pt rC 4], 1⟩]) (l := [pt rC 4]) (fun x hx => by
    rcases List.mem_cons.1 hx with rfl | hx
    · exact leR_refl ct_c3 _
    · rw [List.mem_singleton.1 hx]
      exact .inr ⟨bb9, Nat.zero_le _⟩) gd91.rise gd91.dst (by rw [show popA CT.cmp (Rn.h ⟨pt rB 1, [], 0⟩) [⟨pt rB 1, [], 0⟩, ⟨pt rB 3, [pt rC 4], 1⟩] = _ from pop9b]; exact mg9c)
theorem gd9 : Gd H9 := ⟨fun r hr => by
    rcases List.mem_cons.1 hr with rfl | hr
    · exact List.pairwise_singleton _ _
    · rw [List.mem_singleton.1 hr]
      exact List.pairwise_cons.2 ⟨fun y hy => by
        rcases List.mem_cons.1 hy with rfl | hy
        · exact ab9
        · rw [List.mem_singleton.1 hy]; exact ac9, List.pairwise_cons.2 ⟨fun y hy => by rw [List.mem_singleton.1 hy]; exact bc9, List.pairwise_singleton _ _⟩⟩,
  List.pairwise_cons.2 ⟨fun y hy => by rw [List.mem_singleton.1 hy]; show (0 : Nat) ≠ 1; omega, List.pairwise_singleton _ _⟩, by show (2 : Nat) ≤ _; omega, by show (4 : Nat) ≤ _; omega⟩
theorem mg9 : MgO CT.cmp H9 ml9 := by
  have hp : List.Perm [(⟨pt rA 2, [pt rB 3, pt rC 4], 1⟩ : Rn CT), ⟨pt rB 1, [], 0⟩] H9 := List.Perm.swap _ _ _
  have hg := gd9.perm hp.symm
  refine mgo_perm hp (mgo_cons ct_c3 (l := [pt rB 1, pt rC 4]) (fun x hx => ?_) hg.rise hg.dst ?_)
  · rcases List.mem_cons.1 hx with rfl | hx
    · exact leR_refl ct_c3 _
    · rw [List.mem_singleton.1 hx]
      exact .inl ab9'
  · rw [show popA CT.cmp (Rn.h ⟨pt rA 2, [pt rB 3, pt rC 4], 1⟩) [⟨pt rA 2, [pt rB 3, pt rC 4], 1⟩, ⟨pt rB 1, [], 0⟩] = _ from pop9a]
    exact mgo_perm (List.Perm.swap _ _ _) mg9b
theorem pt_ok (r : ByteArray) (n : Int) (hr : r.size ≤ 60) (hn : inI n) : OkN (pt r n) := ⟨⟨by show (1 : Nat) ≤ _; omega, by show (0 : Nat) ≤ _; omega, hn⟩, by show r.size ≤ _; omega, by show (1 : Nat) ≤ _; omega, by show (1 : Nat) ≤ _; omega, by show (0 : Nat) ≤ _; omega⟩
theorem rs9_ok : ∀ l ∈ rs9, l.length ≤ 100000 ∧ ∀ c ∈ l, OkN c := fun l hl => by
  have hB : rB.size ≤ 60 := by show (1 : Nat) ≤ 60; omega
  have hA : rA.size ≤ 60 := by show (1 : Nat) ≤ 60; omega
  have hC : rC.size ≤ 60 := by show (1 : Nat) ≤ 60; omega
  rcases List.mem_cons.1 hl with rfl | hl
  · exact ⟨by show (1 : Nat) ≤ _; omega, fun c hc => by rw [List.mem_singleton.1 hc]; exact pt_ok _ _ hB (by unfold inI; omega)⟩
  · rw [List.mem_singleton.1 hl]
    refine ⟨by show (3 : Nat) ≤ _; omega, fun c hc => ?_⟩
    rcases List.mem_cons.1 hc with rfl | hc
    · exact pt_ok _ _ hA (by unfold inI; omega)
    · rcases List.mem_cons.1 hc with rfl | hc
      · exact pt_ok _ _ hB (by unfold inI; omega)
      · rw [List.mem_singleton.1 hc]
        exact pt_ok _ _ hC (by unfold inI; omega)
/-- A list of one cell in a new block. -/
theorem one_cla9 (W : World) (a : CT) : ClA (W.alloc (.cells #[.string a.r, .string a.f, .string a.q, .int .i64 a.t, .int .i64 a.k, .int .i64 a.vk, .int .i64 a.vn, .string a.s] 28)) (.slice (some ⟨W.heap.size, 0, none⟩) 1 1) [a] := by
  refine ⟨_, 1, rfl, Nat.le_refl _, by omega, fun _ => ⟨W.heap.size, 0, rfl, fun i hi j hj => ?_⟩⟩
  rw [Nat.zero_add, (Blk.new W _ _).cell]
  have hi2 : i < 1 := hi
  obtain rfl : i = 0 := by omega
  obtain rfl | rfl | rfl | rfl | rfl | rfl | rfl | rfl : j = 0 ∨ j = 1 ∨ j = 2 ∨ j = 3 ∨ j = 4 ∨ j = 5 ∨ j = 6 ∨ j = 7 := by omega
  all_goals rfl
theorem three_cla9 (W : World) (a b c : CT) : ClA (W.alloc (.cells #[.string a.r, .string a.f, .string a.q, .int .i64 a.t, .int .i64 a.k, .int .i64 a.vk, .int .i64 a.vn, .string a.s, .string b.r, .string b.f, .string b.q, .int .i64 b.t, .int .i64 b.k, .int .i64 b.vk, .int .i64 b.vn, .string b.s, .string c.r, .string c.f, .string c.q, .int .i64 c.t, .int .i64 c.k, .int .i64 c.vk, .int .i64 c.vn, .string c.s] 28)) (.slice (some ⟨W.heap.size, 0, none⟩) 3 3) [a, b, c] := by
  refine ⟨_, 3, rfl, Nat.le_refl _, by omega, fun _ => ⟨W.heap.size, 0, rfl, fun i hi j hj => ?_⟩⟩
  rw [Nat.zero_add, (Blk.new W _ _).cell]
  have hi2 : i < 3 := hi
  obtain rfl | rfl | rfl : i = 0 ∨ i = 1 ∨ i = 2 := by omega
  all_goals
    obtain rfl | rfl | rfl | rfl | rfl | rfl | rfl | rfl : j = 0 ∨ j = 1 ∨ j = 2 ∨ j = 3 ∨ j = 4 ∨ j = 5 ∨ j = 6 ∨ j = 7 := by omega
    all_goals rfl
/-- Two lists in a new block. -/
theorem rsa_two (W : World) {u1 u2 : Value} {l1 l2 : List CT} (h1 : ClA W u1 l1) (h2 : ClA W u2 l2) : RsA (W.alloc (.cells #[u1, u2] 39)) (.slice (some ⟨W.heap.size, 0, none⟩) 2 2) [l1, l2] := by
  have hb := below_new W (.cells #[u1, u2] 39)
  refine ⟨_, 2, rfl, Nat.le_refl _, by omega, fun _ => ⟨W.heap.size, 0, rfl, fun i l hl => ?_⟩⟩
  match i, hl with
  | 0, hl => cases hl; exact ⟨u1, (Blk.new W 39 #[u1, u2]).cell 0, h1.below hb⟩
  | 1, hl => cases hl; exact ⟨u2, (Blk.new W 39 #[u1, u2]).cell 1, h2.below hb⟩
  | i + 2, hl => simp at hl
theorem crow_slice {W : World} {B : Nat} {v : Value} {l : List CT} (h : CRow W B v l) (h0 : 0 < l.length) : ∃ g c, v = .slice (some ⟨g, 0, none⟩) l.length c := by
  rcases h.2 with ⟨_, hz⟩ | ⟨g, cap, cur, e, _⟩
  · omega
  · exact ⟨g, cap, e⟩
/-- Where alive is at its last region. -/
abbrev Al10 (W0 : World) (B G C mb : Nat) (H : List (Rn CT)) (lb tb : Nat) (W : World) : Prop := Hid (MgS W B G C mb H ∧ Below W0.heap.size W0 W ∧ lb < W0.heap.size ∧ tb < W0.heap.size) ∧ (W.cell? ⟨lb, 0, none⟩ = some (.string ⟨#[97]⟩) ∧ W.cell? ⟨lb, 1, none⟩ = some (.string ⟨#[102]⟩) ∧ W.cell? ⟨lb, 2, none⟩ = some (.string ⟨#[113]⟩) ∧ W.cell? ⟨lb, 3, none⟩ = some (.int .i64 1) ∧ W.cell? ⟨lb, 4, none⟩ = some (.int .i64 1) ∧ W.cell? ⟨lb, 5, none⟩ = some (.int .i64 1) ∧ W.cell? ⟨lb, 6, none⟩ = some (.int .i64 2) ∧ W.cell? ⟨lb, 7, none⟩ = some (.string ⟨#[]⟩)) ∧ (W.cell? ⟨lb, 8, none⟩ = some (.string ⟨#[98]⟩) ∧ W.cell? ⟨lb, 9, none⟩ = some (.string ⟨#[102]⟩) ∧ W.cell? ⟨lb, 10, none⟩ = some (.string ⟨#[113]⟩) ∧ W.cell? ⟨lb, 11, none⟩ = some (.int .i64 1) ∧ W.cell? ⟨lb, 12, none⟩ = some (.int .i64 1) ∧ W.cell? ⟨lb, 13, none⟩ = some (.int .i64 1) ∧ W.cell? ⟨lb, 14, none⟩ = some (.int .i64 1) ∧ W.cell? ⟨lb, 15, none⟩ = some (.string ⟨#[]⟩)) ∧ (W.cell? ⟨tb, 0, none⟩ = some (.string ⟨#[98]⟩) ∧ W.cell? ⟨tb, 1, none⟩ = some (.string ⟨#[102]⟩) ∧ W.cell? ⟨tb, 2, none⟩ = some (.string ⟨#[113]⟩) ∧ W.cell? ⟨tb, 3, none⟩ = some (.int .i64 1) ∧ W.cell? ⟨tb, 4, none⟩ = some (.int .i64 1) ∧ W.cell? ⟨tb, 5, none⟩ = some (.int .i64 1) ∧ W.cell? ⟨tb, 6, none⟩ = some (.int .i64 1) ∧ W.cell? ⟨tb, 7, none⟩ = some (.string ⟨#[]⟩))
theorem al10_of {W0 W : World} {B G C mb lb tb n c : Nat} {H : List (Rn CT)} {B1 : Nat} (h : MgS W B G C mb H) (hb : Below W0.heap.size W0 W) (hl : CRow W B1 (.slice (some ⟨lb, 0, none⟩) n c) ml9) (ht : DW W tb (pt rB 1)) (h1 : lb < W0.heap.size) (h2 : tb < W0.heap.size) : Al10 W0 B G C mb H lb tb W := by
  have p0 := ct_words hl.hc 0 (c := pt rA 2) rfl
  have p1 := ct_words hl.hc 1 (c := pt rB 1) rfl
  exact ⟨⟨h, hb, h1, h2⟩, p0, p1, ht.words⟩
theorem al10_call {W0 W W' : World} {B G C mb lb tb : Nat} {H : List (Rn CT)} (h : Al10 W0 B G C mb H lb tb W) (hb : Below W.heap.size W W') : Al10 W0 B G C mb H lb tb W' := by
  obtain ⟨hh, ⟨a0, a1, a2, a3, a4, a5, a6, a7⟩, ⟨b0, b1, b2, b3, b4, b5, b6, b7⟩, ⟨c0, c1, c2, c3, c4, c5, c6, c7⟩⟩ := h
  obtain ⟨h1, h2, h3, h4⟩ := hh.out
  have hz := h2.size
  have hc : ∀ b o, b < W0.heap.size → W'.cell? ⟨b, o, none⟩ = W.cell? ⟨b, o, none⟩ := fun b o h => hb.cell (p := ⟨b, o, none⟩) (show b < W.heap.size by omega)
  refine ⟨hid ⟨h1.below hb, h2.trans (hb.mono hz), h3, h4⟩, ⟨?_, ?_, ?_, ?_, ?_, ?_, ?_, ?_⟩, ⟨?_, ?_, ?_, ?_, ?_, ?_, ?_, ?_⟩, ⟨?_, ?_, ?_, ?_, ?_, ?_, ?_, ?_⟩⟩ <;> (rw [hc _ _ (by omega)]; assumption)
theorem al10_drew {W0 W : World} {B G C mb lb tb : Nat} {H : List (Rn CT)} (h : Al10 W0 B G C mb H lb tb W) : Al10 W0 B G C mb H lb tb W.drew := al10_call h (Below.refl _ _).drew
theorem al10_mg {W0 W : World} {B G C mb lb tb : Nat} {H : List (Rn CT)} (h : Al10 W0 B G C mb H lb tb W) : MgS W B G C mb H := h.1.out.1
/-- Next behind alive's Skip. -/
theorem next9 {B G C mb : Nat} (w : World) (h : MgS w B G C mb H91) (hC : C ≤ w.heap.size) :
    Calls Tryd.prog 52 #[.pointer (some ⟨mb, 0, none⟩)] w fun e w' => ∃ H2, e = .returned (.tuple #[.agg #[.string ⟨#[98]⟩, .string ⟨#[102]⟩, .string ⟨#[113]⟩, .int .i64 1, .int .i64 1, .int .i64 1, .int .i64 1, .string ⟨#[]⟩], .int .i64 0, .bool true]) ∧ Hid (MgS w' B G C mb H2 ∧ cntR H2 = 1 ∧ Mdl B G w w') := by
  refine (next_mg w h gd91 mg9b hC).mono ?_
  rintro e w' ⟨r, t, hp, hl, hr, rfl, h1, h2, h3, h4⟩
  have hi : r.i = 0 := by
    rcases List.mem_cons.1 (hp.mem_iff.2 (List.mem_cons_self ..)) with rfl | hm
    · rfl
    · rw [List.mem_singleton.1 hm] at hr
      have := congrArg CT.vn hr
      have : (3 : Int) = 1 := this
      omega
  refine ⟨_, by rw [hi]; rfl, h1, ?_, h2⟩
  rw [← cntR_perm (pop_perm hp), pop9b]
  rfl
set_option maxHeartbeats 16000000 in
set_option maxRecDepth 100000 in
theorem alive10_any (w : World) (hL : LaidU w) : Calls Tryd.prog 48 #[] w fun e w' => e = .returned (.bool true) ∧ Below w.heap.size w w' := by
  have mixed : Tryd.prog.follows .mixedOrders = true := by kernel_rfl
  have HP := hid put10_any
  have HL := hid hL
  clear hL
  go_enter Tryd.func48, Tryd.ntmps48
  go_upto_region 2 with (first
    | (go_at_call 125; refine (HP.out _ _ _).mono ?_; rintro e w5 ⟨rfl, hb5⟩))
  rename_i p1 hp1 p2 hp2 p3 hp3 K9 a9
  refine wp_lt9 (fun W => Hid (RsA W (.slice (some ⟨w5.heap.size + 1, 0, none⟩) 2 2) rs9 ∧ Below w.heap.size w W)) ?_ ?_
  · have c1 := one_cla9 p1 (pt rB 1)
    have z1 := below_new p1 (.cells #[.string (pt rB 1).r, .string (pt rB 1).f, .string (pt rB 1).q, .int .i64 (pt rB 1).t, .int .i64 (pt rB 1).k, .int .i64 (pt rB 1).vk, .int .i64 (pt rB 1).vn, .string (pt rB 1).s] 28)
    have c2 := three_cla9 w5 (pt rA 2) (pt rB 3) (pt rC 4)
    have z2 := below_new w5 (.cells #[.string (pt rA 2).r, .string (pt rA 2).f, .string (pt rA 2).q, .int .i64 (pt rA 2).t, .int .i64 (pt rA 2).k, .int .i64 (pt rA 2).vk, .int .i64 (pt rA 2).vn, .string (pt rA 2).s, .string (pt rB 3).r, .string (pt rB 3).f, .string (pt rB 3).q, .int .i64 (pt rB 3).t, .int .i64 (pt rB 3).k, .int .i64 (pt rB 3).vk, .int .i64 (pt rB 3).vn, .string (pt rB 3).s, .string (pt rC 4).r, .string (pt rC 4).f, .string (pt rC 4).q, .int .i64 (pt rC 4).t, .int .i64 (pt rC 4).k, .int .i64 (pt rC 4).vk, .int .i64 (pt rC 4).vn, .string (pt rC 4).s] 28)
    have c1' := (((c1.below hp2).below hp3).below hb5).below z2
    have hall := (((hp1.trans (z1.mono hp1.size)).trans (hp2.mono (Nat.le_trans hp1.size z1.size))).trans (hp3.mono (Nat.le_trans hp1.size (Nat.le_trans z1.size hp2.size))))
    have hall2 := (hall.trans (hb5.mono hall.size))
    have hall3 := hall2.trans (z2.mono hall2.size)
    have hr := rsa_two _ c1' c2
    rw [World.size_alloc] at hr
    exact ⟨hr, hall3.trans ((below_new _ _).mono hall3.size)⟩
  obtain ⟨qb, hqb⟩ : ∃ qb, w5.heap.size + 1 = qb := ⟨_, rfl⟩
  rw [hqb]
  clear hqb
  rintro W1 HW1
  have HMe := hid (merge_any _ rs9 W1 HW1.out.1 (fun l hl => ⟨by have := (rs9_ok l hl).1; omega, fun c hc => ((rs9_ok l hl).2 c hc).1⟩) (by show (2 : Nat) ≤ _; omega) (HL.out.below HW1.out.2) (ml := ml9) (by rw [runs9]; exact mg9))
  go_upto_region 3 with (first | (go_at_call 58; refine HMe.out.mono ?_; rintro e w2 ⟨vl, rfl, hrl, hbl⟩))
  obtain ⟨lb, cl, rfl⟩ := crow_slice hrl (by show 0 < 3; omega)
  rw [show ml9.length = 3 from rfl] at hrl ⊢
  have HW2 := hid (And.intro hrl (And.intro (HW1.out.1.below hbl) (HW1.out.2.trans (hbl.mono HW1.out.2.size))))
  have HNw := hid (new_any _ rs9 w2 HW2.out.2.1 rs9_ok (by show (2 : Nat) ≤ _; omega) (HL.out.below HW2.out.2.2))
  have HLb : Hid (lb < w2.heap.size ∧ w.heap.size ≤ w2.heap.size) := ⟨(World.ownsRow.lt hrl lb rfl).2, HW2.out.2.2.size⟩
  clear HMe hrl hbl HW1
  go_upto_region 4 with (first | (go_at_call 50; refine HNw.out.mono ?_; rintro e w3 ⟨mb, rfl, hb3, hS3⟩))
  rw [runs9] at hS3
  have HW3 := hid (And.intro (HW2.out.1.below hb3) (And.intro hS3 (HW2.out.2.2.trans (hb3.mono HW2.out.2.2.size))))
  have HB23 := hid hb3
  have HLf : Hid (Calls Tryd.prog 54 #[.pointer (some ⟨mb, 0, none⟩)] w3 fun e w' => e = .returned (.int .i64 4) ∧ w' = w3) := left_mg HW3.out.2.1
  clear HNw HW2 hb3 hS3
  go_upto_region 6 with (first | (go_at_call 54; refine HLf.out.mono ?_; rintro e w4 ⟨rfl, rfl⟩))
  have HSk : Hid (∀ W, Below w4.heap.size w4 W → Calls Tryd.prog 56 #[.pointer (some ⟨mb, 0, none⟩), .agg #[.string ⟨#[98]⟩, .string ⟨#[102]⟩, .string ⟨#[113]⟩, .int .i64 1, .int .i64 1, .int .i64 1, .int .i64 0, .string ⟨#[]⟩]] W fun e w' => e = .returned (.tuple #[]) ∧ Hid (MgS w' w2.heap.size w4.heap.size w4.heap.size mb H91 ∧ Mdl w2.heap.size w4.heap.size W w')) := fun W hW => (skip_mg (pt rB 0) W (HW3.out.2.1.below hW) gd9).mono fun e w' ⟨he, h1, h2⟩ => ⟨he, by rw [← sk9]; exact h1, h2⟩
  clear HLf
  go_upto_region 7 with (first
    | (go_at_call 125; refine (HP.out _ _ _).mono ?_; rintro e w5 ⟨rfl, hb5⟩; have HB5 := hid hb5; clear hb5)
    | (go_at_call 56; refine (HSk.out _ HB5.out).mono ?_; rintro e w6 ⟨rfl, H6⟩))
  have HNx := hid (next9 w6 H6.out.1 H6.out.1.2.1)
  have HB46 : Hid (Below w2.heap.size w4 w6 ∧ w4.heap.size ≤ w6.heap.size) := ⟨(HB5.out.mono HB23.out.size).trans (H6.out.2.below (Nat.le_trans HB23.out.size HB5.out.size)), Nat.le_trans HB5.out.size H6.out.2.size⟩
  clear HSk
  go_upto_region 8 with (first | (go_at_call 52; refine HNx.out.mono ?_; rintro e w7 ⟨H2, rfl, H7⟩))
  obtain ⟨tb, htb⟩ : ∃ tb, w7.heap.size = tb := ⟨_, rfl⟩
  have HB27 : Hid (Below w2.heap.size w4 w7 ∧ w4.heap.size ≤ w7.heap.size) := ⟨HB46.out.1.trans (H7.out.2.2.below (Nat.le_trans HB23.out.size HB46.out.2)), Nat.le_trans HB46.out.2 H7.out.2.2.size⟩
  have HCr : Hid (CRow w7 0 (.slice (some ⟨lb, 0, none⟩) 3 cl) ml9 ∧ Below w.heap.size w w7 ∧ lb < w7.heap.size) :=
    ⟨CRow.le (x_own0 HW3.out.1 fun k hk => HB27.out.1.block k (by cases hk; exact HLb.out.1)) (Nat.zero_le _), HW3.out.2.2.trans (HB27.out.1.mono HLb.out.2), Nat.lt_of_lt_of_le HLb.out.1 (Nat.le_trans HB23.out.size HB27.out.2)⟩
  have HM7 : Hid (MgS w7 w2.heap.size w4.heap.size w4.heap.size mb H2 ∧ cntR H2 = 1) := ⟨H7.out.1, H7.out.2.1⟩
  clear H7 HB27 HB46 H6 HB5 HW3 HLb
  refine wp_lt9 (fun W => Hid (Al10 W w2.heap.size w4.heap.size w4.heap.size mb H2 lb tb W ∧ CRow W 0 (.slice (some ⟨lb, 0, none⟩) 3 cl) ml9 ∧ DW W tb (pt rB 1) ∧ Below w.heap.size w W)) ?_ ?_
  · rw [← htb]
    have hb := below_new w7 (.cells (pt rB 1).e.toArray 28)
    have hd : DW (w7.alloc (.cells (pt rB 1).e.toArray 28)) w7.heap.size (pt rB 1) := Blk.new w7 _ _
    have hc := HCr.out.1.below hb
    exact ⟨al10_of (HM7.out.1.below hb) (Below.refl _ _) hc hd (Nat.lt_of_lt_of_le HCr.out.2.2 hb.size) (Blk.lt hd), hc, hd, HCr.out.2.1.trans (hb.mono HCr.out.2.1.size)⟩
  rw [htb]
  clear htb HCr
  rintro W8 HW8
  have HSp : Hid (Calls Tryd.prog 59 #[.slice (some ⟨lb, 0, none⟩) 3 cl, .string rB] W8 fun e w' => ∃ A1 c1 A2 c2, e = .returned (.tuple #[.slice A1 1 c1, .slice A2 2 c2]) ∧ Below W8.heap.size W8 w') := (split_any _ ml9 rB W8 HW8.out.2.1.cla (by show (3 : Nat) ≤ _; omega)).mono fun e w' ⟨va, vb, he, h⟩ => by
    obtain ⟨A1, c1, rfl, _⟩ := h.ra.len
    obtain ⟨A2, c2, rfl, _⟩ := h.rb.len
    exact ⟨A1, c1, A2, c2, he, h.be⟩
  go_upto_region 9 with (first | (go_at_call 59; refine HSp.out.mono ?_; rintro e W9 ⟨A1, c1, A2, c2, rfl, hb9⟩))
  have HT : Hid (Al10 W9 w2.heap.size w4.heap.size w4.heap.size mb H2 lb tb W9 ∧ Below w.heap.size w W9) :=
    ⟨al10_of (HW8.out.1.1.out.1.below hb9) (Below.refl _ _) (HW8.out.2.1.below hb9) (HW8.out.2.2.1.below hb9) (Nat.lt_of_lt_of_le HW8.out.1.1.out.2.2.1 hb9.size) (Nat.lt_of_lt_of_le HW8.out.1.1.out.2.2.2 hb9.size), HW8.out.2.2.2.trans (hb9.mono HW8.out.2.2.2.size)⟩
  have HLf : Hid (∀ W, MgS W w2.heap.size w4.heap.size w4.heap.size mb H2 → Calls Tryd.prog 54 #[.pointer (some ⟨mb, 0, none⟩)] W fun e w' => e = .returned (.int .i64 1) ∧ Below W.heap.size W w') := fun W hW => (left_mg hW).mono fun e w' ⟨he, h⟩ => ⟨by rw [he, HM7.out.2]; rfl, by rw [h]; exact Below.refl _ _⟩
  clear HSp HW8 HM7 hb9
  obtain ⟨⟨hh, ⟨a0, a1, a2, a3, a4, a5, a6, a7⟩, ⟨b0, b1, b2, b3, b4, b5, b6, b7⟩, ⟨c0, c1', c2', c3, c4, c5, c6, c7⟩⟩, -⟩ := HT.out
  go_region_held3 (fun W' => Hid (MgS W' w2.heap.size w4.heap.size w4.heap.size mb H2 ∧ Below W9.heap.size W9 W' ∧ lb < W9.heap.size ∧ tb < W9.heap.size) ∧ (W'.cell? ⟨lb, 0, none⟩ = some (.string ⟨#[97]⟩) ∧ W'.cell? ⟨lb, 1, none⟩ = some (.string ⟨#[102]⟩) ∧ W'.cell? ⟨lb, 2, none⟩ = some (.string ⟨#[113]⟩) ∧ W'.cell? ⟨lb, 3, none⟩ = some (.int .i64 1) ∧ W'.cell? ⟨lb, 4, none⟩ = some (.int .i64 1) ∧ W'.cell? ⟨lb, 5, none⟩ = some (.int .i64 1) ∧ W'.cell? ⟨lb, 6, none⟩ = some (.int .i64 2) ∧ W'.cell? ⟨lb, 7, none⟩ = some (.string ⟨#[]⟩)) ∧ (W'.cell? ⟨lb, 8, none⟩ = some (.string ⟨#[98]⟩) ∧ W'.cell? ⟨lb, 9, none⟩ = some (.string ⟨#[102]⟩) ∧ W'.cell? ⟨lb, 10, none⟩ = some (.string ⟨#[113]⟩) ∧ W'.cell? ⟨lb, 11, none⟩ = some (.int .i64 1) ∧ W'.cell? ⟨lb, 12, none⟩ = some (.int .i64 1) ∧ W'.cell? ⟨lb, 13, none⟩ = some (.int .i64 1) ∧ W'.cell? ⟨lb, 14, none⟩ = some (.int .i64 1) ∧ W'.cell? ⟨lb, 15, none⟩ = some (.string ⟨#[]⟩)) ∧ (W'.cell? ⟨tb, 0, none⟩ = some (.string ⟨#[98]⟩) ∧ W'.cell? ⟨tb, 1, none⟩ = some (.string ⟨#[102]⟩) ∧ W'.cell? ⟨tb, 2, none⟩ = some (.string ⟨#[113]⟩) ∧ W'.cell? ⟨tb, 3, none⟩ = some (.int .i64 1) ∧ W'.cell? ⟨tb, 4, none⟩ = some (.int .i64 1) ∧ W'.cell? ⟨tb, 5, none⟩ = some (.int .i64 1) ∧ W'.cell? ⟨tb, 6, none⟩ = some (.int .i64 1) ∧ W'.cell? ⟨tb, 7, none⟩ = some (.string ⟨#[]⟩)))
    (first | exact HT.out.1 | exact al10_drew HT.out.1 | exact al10_call (by assumption) hb5 | exact al10_drew (by assumption) | assumption)
    (first
      | (go_at_call 125; refine (HP.out _ _ _).mono ?_; rintro e w5 ⟨rfl, hb5⟩)
      | (go_at_call 54; refine (HLf.out _ (al10_mg (W0 := W9) (lb := lb) (tb := tb) (by assumption))).mono ?_; rintro e w5 ⟨rfl, hb5⟩))
  rename_i hLast
  have HZ := hid (HT.out.2.trans (hLast.1.out.2.1.mono HT.out.2.size))
  clear hLast HT hh a0 a1 a2 a3 a4 a5 a6 a7 b0 b1 b2 b3 b4 b5 b6 b7 c0 c1' c2' c3 c4 c5 c6 c7
  go_wp2
  go_ret
  exact ⟨rfl, HZ.out⟩
end Go.Proofs.YtgfkobfkncpmoaaDoor
