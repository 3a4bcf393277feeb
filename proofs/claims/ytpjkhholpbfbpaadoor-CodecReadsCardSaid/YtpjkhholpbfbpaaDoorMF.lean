/- Several texts in one: RL AAa RN RO FXa FAb RP. Conditions: as each theorem names them. -/
import Derived.Test.YtpjkhholpbfbpaaDoorFI
import Derived.Test.YtpjkhholpbfbpaaDoorMD
import Derived.Test.YtpjkhholpbfbpaaDoorRH
import Derived.Test.YtpjkhholpbfbpaaDoorMC
import Derived.Test.YtpjkhholpbfbpaaDoorMI
import Derived.Test.YtpjkhholpbfbpaaDoorVKb
import Derived.Test.YtpjkhholpbfbpaaDoorFS
import Derived.Test.YtpjkhholpbfbpaaDoorMB
import Derived.Test.YtpjkhholpbfbpaaDoorWG
/- SameBytes at any two rows of at most a thousand bytes, wherever they lie: are they one? Conditions: both rows hold those bytes. -/
namespace Go.Proofs.YtpjkhholpbfbpaaDoor
open Go.RowKit

theorem first_diff : ∀ (l m : List UInt8), l.length = m.length → l ≠ m → ∃ j, j < l.length ∧ (l.getD j 0).toNat ≠ (m.getD j 0).toNat ∧ ∀ i, i < j → (l.getD i 0).toNat = (m.getD i 0).toNat
  | [], [], _, h => absurd rfl h
  | [], _ :: _, h, _ => by simp at h
  | _ :: _, [], h, _ => by simp at h
  | a :: l, b :: m, hl, h => by
    by_cases e : a = b
    · subst e
      obtain ⟨j, h1, h2, h3⟩ := first_diff l m (by simpa using hl) (fun q => h (by rw [q]))
      refine ⟨j + 1, by simpa using h1, by simpa using h2, fun i hi => ?_⟩
      cases i with
      | zero => rfl
      | succ i => simpa using h3 i (by omega)
    · exact ⟨0, by simp, fun q => e (UInt8.toNat_inj.1 (by simpa using q)), fun i hi => by omega⟩

set_option maxHeartbeats 1000000 in
theorem same_len {A B : Option Addr} (n m c d : Nat) (h : n ≠ m) (w : World) :
    Calls Tryd.prog 18 #[.slice A n c, .slice B m d] w fun e w' => e = .returned (.bool false) ∧ Below w.heap.size w w' := by
  have hd : (n != m) = true := by simpa using h
  clear h
  go_enter Tryd.func18, Tryd.ntmps18
  go_wp2
  go_ret
  exact ⟨rfl, Below.refl _ _⟩

set_option maxHeartbeats 1000000 in
theorem same_to (n j : Nat) (hn : n ≤ 4000) (hj : j ≤ n) (f g : Nat → Int) (b1 o1 b2 o2 c1 c2 : Nat) (w : World) (h1 : ∀ i, i < n → w.cell? ⟨b1, o1 + i, none⟩ = some (.int .u8 (f i))) (h2 : ∀ i, i < n → w.cell? ⟨b2, o2 + i, none⟩ = some (.int .u8 (g i)))
    (he : ∀ i, i < j → f i = g i) (hd : j < n → (f j != g j) = true) :
    Calls Tryd.prog 18 #[.slice (some ⟨b1, o1, none⟩) n c1, .slice (some ⟨b2, o2, none⟩) n c2] w fun e w' => e = .returned (.bool (decide (j = n))) ∧ Below w.heap.size w w' := by
  have H1 := hid h1
  have H2 := hid h2
  have HE := hid he
  have HD := hid hd
  clear h1 h2 he hd
  go_enter Tryd.func18, Tryd.ntmps18
  go_wp2
  go_loopw [5] (fun vi wr => ∃ k m : Nat, k ≤ j ∧ vi = .int .i64 k ∧ wr = w.drewN m) (fun vi _ => n - (intOf vi).toNat)
  case atStart => exact ⟨0, 0, by omega, rfl, rfl⟩
  case round =>
    obtain ⟨k, m, hk, rfl, rfl⟩ := hrel
    by_cases hlt : k < n
    · have g1 := H1.out k hlt
      have g2 := H2.out k hlt
      by_cases hkj : k < j
      · have e := HE.out k hkj
        obtain ⟨x, hx⟩ : ∃ x, f k = x := ⟨_, rfl⟩
        rw [← e, hx] at g2
        rw [hx] at g1
        clear e hx
        go_wp2
        go_quiet (fail)
        go_wp2
        go_roundw
        case rel => exact ⟨k + 1, _, by omega, by go_num, rfl⟩
        case measure => simp [intOf]; omega
      · obtain rfl : k = j := by omega
        have hd := HD.out hlt
        obtain ⟨x, hx⟩ : ∃ x, f k = x := ⟨_, rfl⟩
        obtain ⟨y, hy⟩ : ∃ y, g k = y := ⟨_, rfl⟩
        rw [hx] at g1 hd
        rw [hy] at g2 hd
        have HF : Hid (decide (k = n) = false) := decide_eq_false (by omega)
        clear hx hy
        go_wp2
        go_quiet (fail)
        go_wp2
        go_ret
        exact ⟨ret_bool HF.out.symm, by repeat (first | exact Below.refl _ _ | refine below_drewN ?_ _)⟩
    · obtain rfl : k = n := by omega
      obtain rfl : k = j := by omega
      go_wp2
      go_ret
      exact ⟨ret_bool (by simp), by repeat (first | exact Below.refl _ _ | refine below_drewN ?_ _)⟩

/-- SameBytes of two rows, in slices with at least one byte. -/
theorem same_any (l m : List UInt8) (hl : l.length ≤ 4000) (A B : Option Addr) (c d : Nat) (w : World) (h1 : HoldsA w A l) (h2 : HoldsA w B m) (h0 : 0 < l.length) :
    Calls Tryd.prog 18 #[.slice A l.length c, .slice B m.length d] w fun e w' => e = .returned (.bool (decide (l = m))) ∧ Below w.heap.size w w' := by
  by_cases hlen : l.length = m.length
  · obtain ⟨b1, o1, rfl, hb1⟩ := h1 h0
    obtain ⟨b2, o2, rfl, hb2⟩ := h2 (by omega)
    rw [← hlen]
    by_cases e : l = m
    · subst e
      have := same_to l.length l.length hl (Nat.le_refl _) (fun i => ((l.getD i 0).toNat : Int)) (fun i => ((l.getD i 0).toNat : Int)) b1 o1 b2 o2 c d w hb1 hb2 (fun _ _ => rfl) (fun h => absurd h (by omega))
      simpa using this
    · obtain ⟨j, hj, hne, heq⟩ := first_diff l m hlen e
      have := same_to l.length j hl (by omega) (fun i => ((l.getD i 0).toNat : Int)) (fun i => ((m.getD i 0).toNat : Int)) b1 o1 b2 o2 c d w hb1 (fun i hi => hb2 i (by omega)) (fun i hi => by rw [heq i hi]) (fun _ => bne_iff_ne.2 (by omega))
      rw [show decide (j = l.length) = decide (l = m) by rw [decide_eq_false (by omega), decide_eq_false e]] at this
      exact this
  · have e : ¬ l = m := fun h => hlen (by rw [h])
    rw [decide_eq_false e]
    exact same_len _ _ c d hlen w

end Go.Proofs.YtpjkhholpbfbpaaDoor

/- Slices of known bytes. Conditions: as each theorem names them. -/
namespace Go.Proofs.YtpjkhholpbfbpaaDoor
open Go.RowKit

/-- The value is a slice of the bytes l, nil where there are none. -/
def Sl (l : List UInt8) (V : Value) (W : World) : Prop :=
  (l = [] ∧ V = .slice none 0 0) ∨ (0 < l.length ∧ ∃ g c, V = .slice (some ⟨g, 0, none⟩) l.length c ∧ g < W.heap.size ∧ Holds W g 0 l)
theorem Sl.below {l : List UInt8} {V : Value} {W W' : World} (h : Sl l V W) (hb : Below W.heap.size W W') : Sl l V W' := by
  rcases h with h | ⟨h0, g, c, rfl, hg, hh⟩
  · exact .inl h
  · exact .inr ⟨h0, g, c, rfl, Nat.lt_of_lt_of_le hg hb.size, hh.below hb hg⟩
theorem Sl.of_row {l : List UInt8} {V : Value} {W : World} {B : Nat} (h : Row W B V l) (h0 : 0 < l.length) : Sl l V W := by
  obtain ⟨g, c, rfl, _, hg, _, h6⟩ := h.form h0
  exact .inr ⟨h0, g, c, rfl, hg, fun i hi => by rw [Nat.zero_add]; exact h6 i hi⟩
theorem Sl.same {l : List UInt8} {V1 V2 : Value} {W : World} (h1 : Sl l V1 W) (h2 : Sl l V2 W) (hl : l.length ≤ 1000) :
    Calls Tryd.prog 18 #[V1, V2] W fun e w' => e = .returned (.bool true) ∧ Below W.heap.size W w' := by
  rcases h1 with ⟨rfl, rfl⟩ | ⟨h0, g1, c1, rfl, _, hh1⟩
  · rcases h2 with ⟨_, rfl⟩ | ⟨h0, _⟩
    · exact (same_nil W).mono fun _ w' ⟨he, hw⟩ => ⟨he, by subst hw; exact Below.refl _ _⟩
    · exact absurd h0 (by simp)
  · rcases h2 with ⟨rfl, _⟩ | ⟨_, g2, c2, rfl, _, hh2⟩
    · exact absurd h0 (by simp)
    · exact (same_rows l.length hl (fun i => ((l.getD i 0).toNat : Int)) g1 g2 c1 c2 W (fun i hi => by have := hh1 i hi; rwa [Nat.zero_add] at this) (fun i hi => by have := hh2 i hi; rwa [Nat.zero_add] at this)).mono fun _ _ ⟨he, m, hm⟩ => ⟨he, by subst hm; exact below_drewN (Below.refl _ _) m⟩

end Go.Proofs.YtpjkhholpbfbpaaDoor

/- The document's Decode, kind by kind: what its end does with the value that it has taken. Conditions: as each theorem names them. -/
namespace Go.Proofs.YtpjkhholpbfbpaaDoor
open Go.RowKit

theorem wp_letter {P : Program} {c : Code} {Q : Exit → Act → World → Prop} {a : Act} {w : World} (F : World → Prop) (h0 : F w) (h : ∀ W, F W → c.wp P Q a W) : c.wp P Q a w := h w h0

/-- What Decode's end asks of the value (k, n, S) that it has taken: is it right, and are its bytes those that came in (A, N, c)? -/
structure TailAsk (w : World) (k n : Int) (S : ByteArray) (A : Option Addr) (N c : Nat) (r q : Bool) : Prop where
  enc : ∀ W, Below w.heap.size w W → Calls Tryd.prog 75 #[.agg #[.int .i64 k, .int .i64 n, .string S]] W fun e w' => ∃ V, e = .returned (.tuple #[V, .bool r]) ∧ (r = true → ∀ W2, Below w'.heap.size w' W2 → Below w.heap.size w W2 → Calls Tryd.prog 18 #[V, .slice A N c] W2 fun e w3 => e = .returned (.bool q) ∧ Below W2.heap.size W2 w3) ∧ Below W.heap.size W w'


set_option maxHeartbeats 4000000 in
theorem rdecode_0 (x : Nat) (hx : x < 256) (b off m c : Nat) (hm : 1 ≤ m) (hmc : m + 1 ≤ c) (w : World) (r q : Bool) (ht : TailAsk w (x : Int) 0 ⟨#[]⟩ (some ⟨b, off, none⟩) (m + 1) c r q) (hcell : w.cell? ⟨b, off, none⟩ = some (.int .u8 (x : Int))) (h1 : ((x : Int) == 1) = false) (h5 : ((x : Int) == 5) = false) (h4 : ((x : Int) == 4) = false) (h2 : ((x : Int) == 2) = false) (h3 : ((x : Int) == 3) = false) :
    Calls Tryd.prog 38 #[.slice (some ⟨b, off, none⟩) (m + 1) c] w fun e w' => e = (if (r && q) = true then .returned (.tuple #[.agg #[.int .i64 (x : Int), .int .i64 0, .string ⟨#[]⟩], .bool true]) else .returned (.tuple #[.agg #[.int .i64 0, .int .i64 0, .string ⟨#[]⟩], .bool false])) ∧ Below w.heap.size w w' := by
  have HT := hid ht
  have HQ : Hid (r = false ∨ (r = true ∧ q = false) ∨ (r = true ∧ q = true)) := by unfold Hid; cases r <;> cases q <;> simp
  have HB := hid (below2 w)
  have hlt := cell_lt hcell
  clear ht
  go_enter Tryd.func38, Tryd.ntmps38
  go_upto_region 24 with (fail)
  refine wp_letter (fun W => Hid (Below w.heap.size w W ∧ w.heap.size + 1 < W.heap.size) ∧ (∀ j, W.frozen? ⟨w.heap.size, j, none⟩ = false) ∧ W.cell? ⟨w.heap.size, 0, none⟩ = some (.int .i64 0) ∧ W.cell? ⟨w.heap.size, 1, none⟩ = some (.int .i64 0) ∧ W.cell? ⟨w.heap.size, 2, none⟩ = some (.string ⟨#[]⟩) ∧ W.cell? ⟨w.heap.size + 1, 0, none⟩ = some (.int .i64 (x : Int)) ∧ W.cell? ⟨w.heap.size + 1, 1, none⟩ = some (.int .i64 0) ∧ W.cell? ⟨w.heap.size + 1, 2, none⟩ = some (.string ⟨#[]⟩)) ?_ (fun W hW => ?_)
  · exact ⟨hid ⟨HB.out _ _, by simp⟩, fun j => by simp, by simp, by simp, by simp, by simp, by simp, by simp⟩
  obtain ⟨hh, f0, a0, a1, a2, b0, b1, b2⟩ := hW
  obtain ⟨hbW, hzW⟩ := hh.out
  clear hh
  rcases HQ.out with rfl | ⟨rfl, rfl⟩ | ⟨rfl, rfl⟩
  · go_wp2_with (go_at_call 75; refine (HT.out.enc _ hbW).mono ?_; rintro e w2 ⟨V, rfl, -, hb2⟩; obtain ⟨hc2, hf2⟩ := bcell hb2; have p0 := hc2 w.heap.size 0 (by omega); have p1 := hc2 w.heap.size 1 (by omega); have p2 := hc2 w.heap.size 2 (by omega); have p3 : ∀ j, w2.frozen? ⟨w.heap.size, j, none⟩ = false := (fun j => (hf2 w.heap.size j (by omega)).trans (f0 j)); rw [a0] at p0; rw [a1] at p1; rw [a2] at p2)
    refine bodyPost_ret (v := .tuple #[.agg #[.int .i64 0, .int .i64 0, .string ⟨#[]⟩], .bool false]) (by simp [results, Tryd.results38, go_sem, cell_set_same, p0, p1, p2]) rfl ⟨rfl, ?_⟩
    iterate 3 (refine Below.setCell ?_ (by simp) _)
    exact hbW.trans (hb2.mono hbW.size)
  · go_wp2_with (first
      | (go_at_call 75; refine (HT.out.enc _ hbW).mono ?_; rintro e w2 ⟨V, rfl, hS, hb2⟩; have HS := hid (hS rfl); clear hS; have hbw2 := hbW.trans (hb2.mono hbW.size))
      | (go_at_call 18; refine (HS.out _ (Below.refl _ _) hbw2).mono ?_; rintro e w3 ⟨rfl, hb3⟩; have hb23 := hb2.trans (hb3.mono hb2.size); obtain ⟨hc2, hf2⟩ := bcell hb23; have p0 := hc2 w.heap.size 0 (by omega); have p1 := hc2 w.heap.size 1 (by omega); have p2 := hc2 w.heap.size 2 (by omega); have p3 : ∀ j, w3.frozen? ⟨w.heap.size, j, none⟩ = false := (fun j => (hf2 w.heap.size j (by omega)).trans (f0 j)); rw [a0] at p0; rw [a1] at p1; rw [a2] at p2))
    refine bodyPost_ret (v := .tuple #[.agg #[.int .i64 0, .int .i64 0, .string ⟨#[]⟩], .bool false]) (by simp [results, Tryd.results38, go_sem, cell_set_same, p0, p1, p2]) rfl ⟨rfl, ?_⟩
    iterate 3 (refine Below.setCell ?_ (by simp) _)
    exact hbW.trans (hb23.mono hbW.size)
  · go_wp2_with (first
      | (go_at_call 75; refine (HT.out.enc _ hbW).mono ?_; rintro e w2 ⟨V, rfl, hS, hb2⟩; have HS := hid (hS rfl); clear hS; have hbw2 := hbW.trans (hb2.mono hbW.size))
      | (go_at_call 18; refine (HS.out _ (Below.refl _ _) hbw2).mono ?_; rintro e w3 ⟨rfl, hb3⟩; have hb23 := hb2.trans (hb3.mono hb2.size); obtain ⟨hc2, hf2⟩ := bcell hb23; have p0 := hc2 w.heap.size 0 (by omega); have p1 := hc2 w.heap.size 1 (by omega); have p2 := hc2 w.heap.size 2 (by omega); have p3 : ∀ j, w3.frozen? ⟨w.heap.size, j, none⟩ = false := (fun j => (hf2 w.heap.size j (by omega)).trans (f0 j)); rw [a0] at p0; rw [a1] at p1; rw [a2] at p2))
    refine bodyPost_ret (v := .tuple #[.agg #[.int .i64 (x : Int), .int .i64 0, .string ⟨#[]⟩], .bool true]) (by simp [results, Tryd.results38, go_sem, cell_set_same, p0, p1, p2]) rfl ⟨rfl, ?_⟩
    iterate 3 (refine Below.setCell ?_ (by simp) _)
    exact hbW.trans (hb23.mono hbW.size)

set_option maxHeartbeats 4000000 in
theorem rdecode_4 (y : Nat) (hy : y < 256) (b off m c : Nat) (hm : 1 ≤ m) (hmc : m + 1 ≤ c) (w : World) (r q : Bool) (ht : TailAsk w 4 (y : Int) ⟨#[]⟩ (some ⟨b, off, none⟩) (m + 1) c r q) (hcell : w.cell? ⟨b, off, none⟩ = some (.int .u8 4)) (hcell1 : w.cell? ⟨b, off + 1, none⟩ = some (.int .u8 (y : Int))) :
    Calls Tryd.prog 38 #[.slice (some ⟨b, off, none⟩) (m + 1) c] w fun e w' => e = (if (r && q) = true then .returned (.tuple #[.agg #[.int .i64 4, .int .i64 (y : Int), .string ⟨#[]⟩], .bool true]) else .returned (.tuple #[.agg #[.int .i64 0, .int .i64 0, .string ⟨#[]⟩], .bool false])) ∧ Below w.heap.size w w' := by
  have HT := hid ht
  have HQ : Hid (r = false ∨ (r = true ∧ q = false) ∨ (r = true ∧ q = true)) := by unfold Hid; cases r <;> cases q <;> simp
  have HB := hid (below2 w)
  have hlt := cell_lt hcell
  clear ht
  go_enter Tryd.func38, Tryd.ntmps38
  go_upto_region 24 with (fail)
  refine wp_letter (fun W => Hid (Below w.heap.size w W ∧ w.heap.size + 1 < W.heap.size) ∧ (∀ j, W.frozen? ⟨w.heap.size, j, none⟩ = false) ∧ W.cell? ⟨w.heap.size, 0, none⟩ = some (.int .i64 0) ∧ W.cell? ⟨w.heap.size, 1, none⟩ = some (.int .i64 0) ∧ W.cell? ⟨w.heap.size, 2, none⟩ = some (.string ⟨#[]⟩) ∧ W.cell? ⟨w.heap.size + 1, 0, none⟩ = some (.int .i64 4) ∧ W.cell? ⟨w.heap.size + 1, 1, none⟩ = some (.int .i64 (y : Int)) ∧ W.cell? ⟨w.heap.size + 1, 2, none⟩ = some (.string ⟨#[]⟩)) ?_ (fun W hW => ?_)
  · exact ⟨hid ⟨HB.out _ _, by simp⟩, fun j => by simp, by simp, by simp, by simp, by simp, by simp, by simp⟩
  obtain ⟨hh, f0, a0, a1, a2, b0, b1, b2⟩ := hW
  obtain ⟨hbW, hzW⟩ := hh.out
  clear hh
  rcases HQ.out with rfl | ⟨rfl, rfl⟩ | ⟨rfl, rfl⟩
  · go_wp2_with (go_at_call 75; refine (HT.out.enc _ hbW).mono ?_; rintro e w2 ⟨V, rfl, -, hb2⟩; obtain ⟨hc2, hf2⟩ := bcell hb2; have p0 := hc2 w.heap.size 0 (by omega); have p1 := hc2 w.heap.size 1 (by omega); have p2 := hc2 w.heap.size 2 (by omega); have p3 : ∀ j, w2.frozen? ⟨w.heap.size, j, none⟩ = false := (fun j => (hf2 w.heap.size j (by omega)).trans (f0 j)); rw [a0] at p0; rw [a1] at p1; rw [a2] at p2)
    refine bodyPost_ret (v := .tuple #[.agg #[.int .i64 0, .int .i64 0, .string ⟨#[]⟩], .bool false]) (by simp [results, Tryd.results38, go_sem, cell_set_same, p0, p1, p2]) rfl ⟨rfl, ?_⟩
    iterate 3 (refine Below.setCell ?_ (by simp) _)
    exact hbW.trans (hb2.mono hbW.size)
  · go_wp2_with (first
      | (go_at_call 75; refine (HT.out.enc _ hbW).mono ?_; rintro e w2 ⟨V, rfl, hS, hb2⟩; have HS := hid (hS rfl); clear hS; have hbw2 := hbW.trans (hb2.mono hbW.size))
      | (go_at_call 18; refine (HS.out _ (Below.refl _ _) hbw2).mono ?_; rintro e w3 ⟨rfl, hb3⟩; have hb23 := hb2.trans (hb3.mono hb2.size); obtain ⟨hc2, hf2⟩ := bcell hb23; have p0 := hc2 w.heap.size 0 (by omega); have p1 := hc2 w.heap.size 1 (by omega); have p2 := hc2 w.heap.size 2 (by omega); have p3 : ∀ j, w3.frozen? ⟨w.heap.size, j, none⟩ = false := (fun j => (hf2 w.heap.size j (by omega)).trans (f0 j)); rw [a0] at p0; rw [a1] at p1; rw [a2] at p2))
    refine bodyPost_ret (v := .tuple #[.agg #[.int .i64 0, .int .i64 0, .string ⟨#[]⟩], .bool false]) (by simp [results, Tryd.results38, go_sem, cell_set_same, p0, p1, p2]) rfl ⟨rfl, ?_⟩
    iterate 3 (refine Below.setCell ?_ (by simp) _)
    exact hbW.trans (hb23.mono hbW.size)
  · go_wp2_with (first
      | (go_at_call 75; refine (HT.out.enc _ hbW).mono ?_; rintro e w2 ⟨V, rfl, hS, hb2⟩; have HS := hid (hS rfl); clear hS; have hbw2 := hbW.trans (hb2.mono hbW.size))
      | (go_at_call 18; refine (HS.out _ (Below.refl _ _) hbw2).mono ?_; rintro e w3 ⟨rfl, hb3⟩; have hb23 := hb2.trans (hb3.mono hb2.size); obtain ⟨hc2, hf2⟩ := bcell hb23; have p0 := hc2 w.heap.size 0 (by omega); have p1 := hc2 w.heap.size 1 (by omega); have p2 := hc2 w.heap.size 2 (by omega); have p3 : ∀ j, w3.frozen? ⟨w.heap.size, j, none⟩ = false := (fun j => (hf2 w.heap.size j (by omega)).trans (f0 j)); rw [a0] at p0; rw [a1] at p1; rw [a2] at p2))
    refine bodyPost_ret (v := .tuple #[.agg #[.int .i64 4, .int .i64 (y : Int), .string ⟨#[]⟩], .bool true]) (by simp [results, Tryd.results38, go_sem, cell_set_same, p0, p1, p2]) rfl ⟨rfl, ?_⟩
    iterate 3 (refine Below.setCell ?_ (by simp) _)
    exact hbW.trans (hb23.mono hbW.size)

set_option maxHeartbeats 4000000 in
theorem rdecode_5 (n : Int) (b off m c : Nat) (hm : 1 ≤ m) (hmc : m + 1 ≤ c) (w : World) (r q : Bool) (ht : TailAsk w 5 n ⟨#[]⟩ (some ⟨b, off, none⟩) (m + 1) c r q) (hcell : w.cell? ⟨b, off, none⟩ = some (.int .u8 5)) (HF : Hid (∀ W, Below w.heap.size w W → Calls Tryd.prog 74 #[.slice (some ⟨b, off + 1, none⟩) m (c - 1)] W fun e w' => e = .returned (.tuple #[.int .i64 n, .bool true]) ∧ W = w')) :
    Calls Tryd.prog 38 #[.slice (some ⟨b, off, none⟩) (m + 1) c] w fun e w' => e = (if (r && q) = true then .returned (.tuple #[.agg #[.int .i64 5, .int .i64 n, .string ⟨#[]⟩], .bool true]) else .returned (.tuple #[.agg #[.int .i64 0, .int .i64 0, .string ⟨#[]⟩], .bool false])) ∧ Below w.heap.size w w' := by
  have HT := hid ht
  have HQ : Hid (r = false ∨ (r = true ∧ q = false) ∨ (r = true ∧ q = true)) := by unfold Hid; cases r <;> cases q <;> simp
  have HB := hid (below2 w)
  have hlt := cell_lt hcell
  clear ht
  go_enter Tryd.func38, Tryd.ntmps38
  go_upto_region 24 with (go_at_call 74; refine (HF.out _ (HB.out _ _)).mono ?_; rintro e w' ⟨rfl, rfl⟩)
  refine wp_letter (fun W => Hid (Below w.heap.size w W ∧ w.heap.size + 1 < W.heap.size) ∧ (∀ j, W.frozen? ⟨w.heap.size, j, none⟩ = false) ∧ W.cell? ⟨w.heap.size, 0, none⟩ = some (.int .i64 0) ∧ W.cell? ⟨w.heap.size, 1, none⟩ = some (.int .i64 0) ∧ W.cell? ⟨w.heap.size, 2, none⟩ = some (.string ⟨#[]⟩) ∧ W.cell? ⟨w.heap.size + 1, 0, none⟩ = some (.int .i64 5) ∧ W.cell? ⟨w.heap.size + 1, 1, none⟩ = some (.int .i64 n) ∧ W.cell? ⟨w.heap.size + 1, 2, none⟩ = some (.string ⟨#[]⟩)) ?_ (fun W hW => ?_)
  · exact ⟨hid ⟨HB.out _ _, by simp⟩, fun j => by simp, by simp, by simp, by simp, by simp, by simp, by simp⟩
  obtain ⟨hh, f0, a0, a1, a2, b0, b1, b2⟩ := hW
  obtain ⟨hbW, hzW⟩ := hh.out
  clear hh
  rcases HQ.out with rfl | ⟨rfl, rfl⟩ | ⟨rfl, rfl⟩
  · go_wp2_with (go_at_call 75; refine (HT.out.enc _ hbW).mono ?_; rintro e w2 ⟨V, rfl, -, hb2⟩; obtain ⟨hc2, hf2⟩ := bcell hb2; have p0 := hc2 w.heap.size 0 (by omega); have p1 := hc2 w.heap.size 1 (by omega); have p2 := hc2 w.heap.size 2 (by omega); have p3 : ∀ j, w2.frozen? ⟨w.heap.size, j, none⟩ = false := (fun j => (hf2 w.heap.size j (by omega)).trans (f0 j)); rw [a0] at p0; rw [a1] at p1; rw [a2] at p2)
    refine bodyPost_ret (v := .tuple #[.agg #[.int .i64 0, .int .i64 0, .string ⟨#[]⟩], .bool false]) (by simp [results, Tryd.results38, go_sem, cell_set_same, p0, p1, p2]) rfl ⟨rfl, ?_⟩
    iterate 3 (refine Below.setCell ?_ (by simp) _)
    exact hbW.trans (hb2.mono hbW.size)
  · go_wp2_with (first
      | (go_at_call 75; refine (HT.out.enc _ hbW).mono ?_; rintro e w2 ⟨V, rfl, hS, hb2⟩; have HS := hid (hS rfl); clear hS; have hbw2 := hbW.trans (hb2.mono hbW.size))
      | (go_at_call 18; refine (HS.out _ (Below.refl _ _) hbw2).mono ?_; rintro e w3 ⟨rfl, hb3⟩; have hb23 := hb2.trans (hb3.mono hb2.size); obtain ⟨hc2, hf2⟩ := bcell hb23; have p0 := hc2 w.heap.size 0 (by omega); have p1 := hc2 w.heap.size 1 (by omega); have p2 := hc2 w.heap.size 2 (by omega); have p3 : ∀ j, w3.frozen? ⟨w.heap.size, j, none⟩ = false := (fun j => (hf2 w.heap.size j (by omega)).trans (f0 j)); rw [a0] at p0; rw [a1] at p1; rw [a2] at p2))
    refine bodyPost_ret (v := .tuple #[.agg #[.int .i64 0, .int .i64 0, .string ⟨#[]⟩], .bool false]) (by simp [results, Tryd.results38, go_sem, cell_set_same, p0, p1, p2]) rfl ⟨rfl, ?_⟩
    iterate 3 (refine Below.setCell ?_ (by simp) _)
    exact hbW.trans (hb23.mono hbW.size)
  · go_wp2_with (first
      | (go_at_call 75; refine (HT.out.enc _ hbW).mono ?_; rintro e w2 ⟨V, rfl, hS, hb2⟩; have HS := hid (hS rfl); clear hS; have hbw2 := hbW.trans (hb2.mono hbW.size))
      | (go_at_call 18; refine (HS.out _ (Below.refl _ _) hbw2).mono ?_; rintro e w3 ⟨rfl, hb3⟩; have hb23 := hb2.trans (hb3.mono hb2.size); obtain ⟨hc2, hf2⟩ := bcell hb23; have p0 := hc2 w.heap.size 0 (by omega); have p1 := hc2 w.heap.size 1 (by omega); have p2 := hc2 w.heap.size 2 (by omega); have p3 : ∀ j, w3.frozen? ⟨w.heap.size, j, none⟩ = false := (fun j => (hf2 w.heap.size j (by omega)).trans (f0 j)); rw [a0] at p0; rw [a1] at p1; rw [a2] at p2))
    refine bodyPost_ret (v := .tuple #[.agg #[.int .i64 5, .int .i64 n, .string ⟨#[]⟩], .bool true]) (by simp [results, Tryd.results38, go_sem, cell_set_same, p0, p1, p2]) rfl ⟨rfl, ?_⟩
    iterate 3 (refine Below.setCell ?_ (by simp) _)
    exact hbW.trans (hb23.mono hbW.size)

set_option maxHeartbeats 4000000 in
theorem rdecode_2 (S : ByteArray) (b off m c : Nat) (hm : 1 ≤ m) (hmc : m + 1 ≤ c) (w : World) (r q : Bool) (ht : TailAsk w 2 0 S (some ⟨b, off, none⟩) (m + 1) c r q) (hcell : w.cell? ⟨b, off, none⟩ = some (.int .u8 2)) (HU : Hid (∀ W, Below w.heap.size w W → Calls Tryd.prog 37 #[.slice (some ⟨b, off + 1, none⟩) m (c - 1)] W fun e w' => (∃ R ok, e = .returned (.tuple #[.string S, R, .bool ok])) ∧ Below W.heap.size W w')) :
    Calls Tryd.prog 38 #[.slice (some ⟨b, off, none⟩) (m + 1) c] w fun e w' => e = (if (r && q) = true then .returned (.tuple #[.agg #[.int .i64 2, .int .i64 0, .string S], .bool true]) else .returned (.tuple #[.agg #[.int .i64 0, .int .i64 0, .string ⟨#[]⟩], .bool false])) ∧ Below w.heap.size w w' := by
  have HT := hid ht
  have HQ : Hid (r = false ∨ (r = true ∧ q = false) ∨ (r = true ∧ q = true)) := by unfold Hid; cases r <;> cases q <;> simp
  have HB := hid (below2 w)
  have hlt := cell_lt hcell
  clear ht
  go_enter Tryd.func38, Tryd.ntmps38
  go_upto_region 24 with (go_at_call 37; refine (HU.out _ (HB.out _ _)).mono ?_; rintro e w1 ⟨⟨R, ok, rfl⟩, hb1⟩; obtain ⟨hc1, hf1⟩ := bcell hb1; have hz1 : w.heap.size + 1 < w1.heap.size := (by have := hb1.size; simp at this; omega))
  refine wp_letter (fun W => Hid (Below w.heap.size w W ∧ w.heap.size + 1 < W.heap.size) ∧ (∀ j, W.frozen? ⟨w.heap.size, j, none⟩ = false) ∧ W.cell? ⟨w.heap.size, 0, none⟩ = some (.int .i64 0) ∧ W.cell? ⟨w.heap.size, 1, none⟩ = some (.int .i64 0) ∧ W.cell? ⟨w.heap.size, 2, none⟩ = some (.string ⟨#[]⟩) ∧ W.cell? ⟨w.heap.size + 1, 0, none⟩ = some (.int .i64 2) ∧ W.cell? ⟨w.heap.size + 1, 1, none⟩ = some (.int .i64 0) ∧ W.cell? ⟨w.heap.size + 1, 2, none⟩ = some (.string S)) ?_ (fun W hW => ?_)
  · have g0 := hc1 w.heap.size 0 (by simp; omega)
    have g1 := hc1 w.heap.size 1 (by simp; omega)
    have g2 := hc1 w.heap.size 2 (by simp; omega)
    have g3 := hc1 (w.heap.size + 1) 0 (by simp)
    have g4 := hc1 (w.heap.size + 1) 1 (by simp)
    have g5 := hc1 (w.heap.size + 1) 2 (by simp)
    have g6 : ∀ j, w1.frozen? ⟨w.heap.size, j, none⟩ = false := fun j => (hf1 w.heap.size j (by simp; omega)).trans (by simp)
    simp at g0 g1 g2 g3 g4 g5
    refine ⟨hid ⟨((HB.out _ _).trans (hb1.mono (by simp; omega))).setCell (by simp) _, by simp; omega⟩, fun j => by simp [g6], (World.cell?_setCell_other _ _ _ _ (addr_ne (by omega))).trans g0, (World.cell?_setCell_other _ _ _ _ (addr_ne (by omega))).trans g1, (World.cell?_setCell_other _ _ _ _ (addr_ne (by omega))).trans g2, (World.cell?_setCell_other _ _ _ _ (addr_ne (by omega))).trans g3, (World.cell?_setCell_other _ _ _ _ (addr_ne (by omega))).trans g4, World.cell?_setCell_same _ _ _ g5⟩
  obtain ⟨hh, f0, a0, a1, a2, b0, b1, b2⟩ := hW
  obtain ⟨hbW, hzW⟩ := hh.out
  clear hh
  rcases HQ.out with rfl | ⟨rfl, rfl⟩ | ⟨rfl, rfl⟩
  · go_wp2_with (go_at_call 75; refine (HT.out.enc _ hbW).mono ?_; rintro e w2 ⟨V, rfl, -, hb2⟩; obtain ⟨hc2, hf2⟩ := bcell hb2; have p0 := hc2 w.heap.size 0 (by omega); have p1 := hc2 w.heap.size 1 (by omega); have p2 := hc2 w.heap.size 2 (by omega); have p3 : ∀ j, w2.frozen? ⟨w.heap.size, j, none⟩ = false := (fun j => (hf2 w.heap.size j (by omega)).trans (f0 j)); rw [a0] at p0; rw [a1] at p1; rw [a2] at p2)
    refine bodyPost_ret (v := .tuple #[.agg #[.int .i64 0, .int .i64 0, .string ⟨#[]⟩], .bool false]) (by simp [results, Tryd.results38, go_sem, cell_set_same, p0, p1, p2]) rfl ⟨rfl, ?_⟩
    iterate 3 (refine Below.setCell ?_ (by simp) _)
    exact hbW.trans (hb2.mono hbW.size)
  · go_wp2_with (first
      | (go_at_call 75; refine (HT.out.enc _ hbW).mono ?_; rintro e w2 ⟨V, rfl, hS, hb2⟩; have HS := hid (hS rfl); clear hS; have hbw2 := hbW.trans (hb2.mono hbW.size))
      | (go_at_call 18; refine (HS.out _ (Below.refl _ _) hbw2).mono ?_; rintro e w3 ⟨rfl, hb3⟩; have hb23 := hb2.trans (hb3.mono hb2.size); obtain ⟨hc2, hf2⟩ := bcell hb23; have p0 := hc2 w.heap.size 0 (by omega); have p1 := hc2 w.heap.size 1 (by omega); have p2 := hc2 w.heap.size 2 (by omega); have p3 : ∀ j, w3.frozen? ⟨w.heap.size, j, none⟩ = false := (fun j => (hf2 w.heap.size j (by omega)).trans (f0 j)); rw [a0] at p0; rw [a1] at p1; rw [a2] at p2))
    refine bodyPost_ret (v := .tuple #[.agg #[.int .i64 0, .int .i64 0, .string ⟨#[]⟩], .bool false]) (by simp [results, Tryd.results38, go_sem, cell_set_same, p0, p1, p2]) rfl ⟨rfl, ?_⟩
    iterate 3 (refine Below.setCell ?_ (by simp) _)
    exact hbW.trans (hb23.mono hbW.size)
  · go_wp2_with (first
      | (go_at_call 75; refine (HT.out.enc _ hbW).mono ?_; rintro e w2 ⟨V, rfl, hS, hb2⟩; have HS := hid (hS rfl); clear hS; have hbw2 := hbW.trans (hb2.mono hbW.size))
      | (go_at_call 18; refine (HS.out _ (Below.refl _ _) hbw2).mono ?_; rintro e w3 ⟨rfl, hb3⟩; have hb23 := hb2.trans (hb3.mono hb2.size); obtain ⟨hc2, hf2⟩ := bcell hb23; have p0 := hc2 w.heap.size 0 (by omega); have p1 := hc2 w.heap.size 1 (by omega); have p2 := hc2 w.heap.size 2 (by omega); have p3 : ∀ j, w3.frozen? ⟨w.heap.size, j, none⟩ = false := (fun j => (hf2 w.heap.size j (by omega)).trans (f0 j)); rw [a0] at p0; rw [a1] at p1; rw [a2] at p2))
    refine bodyPost_ret (v := .tuple #[.agg #[.int .i64 2, .int .i64 0, .string S], .bool true]) (by simp [results, Tryd.results38, go_sem, cell_set_same, p0, p1, p2]) rfl ⟨rfl, ?_⟩
    iterate 3 (refine Below.setCell ?_ (by simp) _)
    exact hbW.trans (hb23.mono hbW.size)

set_option maxHeartbeats 4000000 in
theorem rdecode_3 (S : ByteArray) (b off m c : Nat) (hm : 1 ≤ m) (hmc : m + 1 ≤ c) (w : World) (r q : Bool) (ht : TailAsk w 3 0 S (some ⟨b, off, none⟩) (m + 1) c r q) (hcell : w.cell? ⟨b, off, none⟩ = some (.int .u8 3)) (HU : Hid (∀ W, Below w.heap.size w W → Calls Tryd.prog 37 #[.slice (some ⟨b, off + 1, none⟩) m (c - 1)] W fun e w' => (∃ R ok, e = .returned (.tuple #[.string S, R, .bool ok])) ∧ Below W.heap.size W w')) :
    Calls Tryd.prog 38 #[.slice (some ⟨b, off, none⟩) (m + 1) c] w fun e w' => e = (if (r && q) = true then .returned (.tuple #[.agg #[.int .i64 3, .int .i64 0, .string S], .bool true]) else .returned (.tuple #[.agg #[.int .i64 0, .int .i64 0, .string ⟨#[]⟩], .bool false])) ∧ Below w.heap.size w w' := by
  have HT := hid ht
  have HQ : Hid (r = false ∨ (r = true ∧ q = false) ∨ (r = true ∧ q = true)) := by unfold Hid; cases r <;> cases q <;> simp
  have HB := hid (below2 w)
  have hlt := cell_lt hcell
  clear ht
  go_enter Tryd.func38, Tryd.ntmps38
  go_upto_region 24 with (go_at_call 37; refine (HU.out _ (HB.out _ _)).mono ?_; rintro e w1 ⟨⟨R, ok, rfl⟩, hb1⟩; obtain ⟨hc1, hf1⟩ := bcell hb1; have hz1 : w.heap.size + 1 < w1.heap.size := (by have := hb1.size; simp at this; omega))
  refine wp_letter (fun W => Hid (Below w.heap.size w W ∧ w.heap.size + 1 < W.heap.size) ∧ (∀ j, W.frozen? ⟨w.heap.size, j, none⟩ = false) ∧ W.cell? ⟨w.heap.size, 0, none⟩ = some (.int .i64 0) ∧ W.cell? ⟨w.heap.size, 1, none⟩ = some (.int .i64 0) ∧ W.cell? ⟨w.heap.size, 2, none⟩ = some (.string ⟨#[]⟩) ∧ W.cell? ⟨w.heap.size + 1, 0, none⟩ = some (.int .i64 3) ∧ W.cell? ⟨w.heap.size + 1, 1, none⟩ = some (.int .i64 0) ∧ W.cell? ⟨w.heap.size + 1, 2, none⟩ = some (.string S)) ?_ (fun W hW => ?_)
  · have g0 := hc1 w.heap.size 0 (by simp; omega)
    have g1 := hc1 w.heap.size 1 (by simp; omega)
    have g2 := hc1 w.heap.size 2 (by simp; omega)
    have g3 := hc1 (w.heap.size + 1) 0 (by simp)
    have g4 := hc1 (w.heap.size + 1) 1 (by simp)
    have g5 := hc1 (w.heap.size + 1) 2 (by simp)
    have g6 : ∀ j, w1.frozen? ⟨w.heap.size, j, none⟩ = false := fun j => (hf1 w.heap.size j (by simp; omega)).trans (by simp)
    simp at g0 g1 g2 g3 g4 g5
    refine ⟨hid ⟨((HB.out _ _).trans (hb1.mono (by simp; omega))).setCell (by simp) _, by simp; omega⟩, fun j => by simp [g6], (World.cell?_setCell_other _ _ _ _ (addr_ne (by omega))).trans g0, (World.cell?_setCell_other _ _ _ _ (addr_ne (by omega))).trans g1, (World.cell?_setCell_other _ _ _ _ (addr_ne (by omega))).trans g2, (World.cell?_setCell_other _ _ _ _ (addr_ne (by omega))).trans g3, (World.cell?_setCell_other _ _ _ _ (addr_ne (by omega))).trans g4, World.cell?_setCell_same _ _ _ g5⟩
  obtain ⟨hh, f0, a0, a1, a2, b0, b1, b2⟩ := hW
  obtain ⟨hbW, hzW⟩ := hh.out
  clear hh
  rcases HQ.out with rfl | ⟨rfl, rfl⟩ | ⟨rfl, rfl⟩
  · go_wp2_with (go_at_call 75; refine (HT.out.enc _ hbW).mono ?_; rintro e w2 ⟨V, rfl, -, hb2⟩; obtain ⟨hc2, hf2⟩ := bcell hb2; have p0 := hc2 w.heap.size 0 (by omega); have p1 := hc2 w.heap.size 1 (by omega); have p2 := hc2 w.heap.size 2 (by omega); have p3 : ∀ j, w2.frozen? ⟨w.heap.size, j, none⟩ = false := (fun j => (hf2 w.heap.size j (by omega)).trans (f0 j)); rw [a0] at p0; rw [a1] at p1; rw [a2] at p2)
    refine bodyPost_ret (v := .tuple #[.agg #[.int .i64 0, .int .i64 0, .string ⟨#[]⟩], .bool false]) (by simp [results, Tryd.results38, go_sem, cell_set_same, p0, p1, p2]) rfl ⟨rfl, ?_⟩
    iterate 3 (refine Below.setCell ?_ (by simp) _)
    exact hbW.trans (hb2.mono hbW.size)
  · go_wp2_with (first
      | (go_at_call 75; refine (HT.out.enc _ hbW).mono ?_; rintro e w2 ⟨V, rfl, hS, hb2⟩; have HS := hid (hS rfl); clear hS; have hbw2 := hbW.trans (hb2.mono hbW.size))
      | (go_at_call 18; refine (HS.out _ (Below.refl _ _) hbw2).mono ?_; rintro e w3 ⟨rfl, hb3⟩; have hb23 := hb2.trans (hb3.mono hb2.size); obtain ⟨hc2, hf2⟩ := bcell hb23; have p0 := hc2 w.heap.size 0 (by omega); have p1 := hc2 w.heap.size 1 (by omega); have p2 := hc2 w.heap.size 2 (by omega); have p3 : ∀ j, w3.frozen? ⟨w.heap.size, j, none⟩ = false := (fun j => (hf2 w.heap.size j (by omega)).trans (f0 j)); rw [a0] at p0; rw [a1] at p1; rw [a2] at p2))
    refine bodyPost_ret (v := .tuple #[.agg #[.int .i64 0, .int .i64 0, .string ⟨#[]⟩], .bool false]) (by simp [results, Tryd.results38, go_sem, cell_set_same, p0, p1, p2]) rfl ⟨rfl, ?_⟩
    iterate 3 (refine Below.setCell ?_ (by simp) _)
    exact hbW.trans (hb23.mono hbW.size)
  · go_wp2_with (first
      | (go_at_call 75; refine (HT.out.enc _ hbW).mono ?_; rintro e w2 ⟨V, rfl, hS, hb2⟩; have HS := hid (hS rfl); clear hS; have hbw2 := hbW.trans (hb2.mono hbW.size))
      | (go_at_call 18; refine (HS.out _ (Below.refl _ _) hbw2).mono ?_; rintro e w3 ⟨rfl, hb3⟩; have hb23 := hb2.trans (hb3.mono hb2.size); obtain ⟨hc2, hf2⟩ := bcell hb23; have p0 := hc2 w.heap.size 0 (by omega); have p1 := hc2 w.heap.size 1 (by omega); have p2 := hc2 w.heap.size 2 (by omega); have p3 : ∀ j, w3.frozen? ⟨w.heap.size, j, none⟩ = false := (fun j => (hf2 w.heap.size j (by omega)).trans (f0 j)); rw [a0] at p0; rw [a1] at p1; rw [a2] at p2))
    refine bodyPost_ret (v := .tuple #[.agg #[.int .i64 3, .int .i64 0, .string S], .bool true]) (by simp [results, Tryd.results38, go_sem, cell_set_same, p0, p1, p2]) rfl ⟨rfl, ?_⟩
    iterate 3 (refine Below.setCell ?_ (by simp) _)
    exact hbW.trans (hb23.mono hbW.size)

end Go.Proofs.YtpjkhholpbfbpaaDoor

/- The document's Decode of a number, of nothing, and of what isn't a float. Conditions: as each theorem names them. -/
namespace Go.Proofs.YtpjkhholpbfbpaaDoor
open Go.RowKit

/-- The number that a row of bytes spells, in 64 bits. -/
def fmB (l : List UInt8) : Nat := l.foldl (fun r x => (r * 256 + x.toNat) % 18446744073709551616) 0
theorem fmB_snoc (l : List UInt8) (x : UInt8) : fmB (l ++ [x]) = (fmB l * 256 + x.toNat) % 18446744073709551616 := by unfold fmB; rw [List.foldl_append]; rfl
theorem fmB_lt (l : List UInt8) : fmB l < 18446744073709551616 := by
  rcases List.eq_nil_or_concat l with h | ⟨l', x, h⟩
  · rw [h]; decide
  · rw [h, List.concat_eq_append, fmB_snoc]; exact Nat.mod_lt _ (by decide)
theorem fmB_fold (l : List UInt8) : fmB l = foldB l % 18446744073709551616 := by
  induction h : l.length generalizing l with
  | zero =>
    have : l = [] := List.length_eq_zero_iff.1 h
    subst this; rfl
  | succ n ih =>
    obtain ⟨l', y, rfl⟩ : ∃ l' y, l = l' ++ [y] := ⟨l.dropLast, l.getLast (by intro e; rw [e] at h; simp at h), (List.dropLast_concat_getLast _).symm⟩
    have hl : l'.length = n := by simpa using h
    rw [fmB_snoc, foldB_snoc, ih l' hl]
    omega
theorem take_getD (l : List UInt8) (k : Nat) (h : k < l.length) : l.take (k + 1) = l.take k ++ [l.getD k 0] := by
  rw [List.take_succ_eq_append_getElem h, List.getD_eq_getElem?_getD, List.getElem?_eq_getElem h]
  rfl
theorem fm_step (u x : Nat) : IntKind.u64.wrap (IntKind.u64.wrap ((u : Int) * 256) + IntKind.u64.wrap (x : Int)) = (((u * 256 + x) % 18446744073709551616 : Nat) : Int) := by
  rw [IntKind.wrap_u64, IntKind.wrap_u64, IntKind.wrap_u64]; omega
theorem fm_down (u : Nat) (h : u < 18446744073709551616) : wrap64 (IntKind.u64.wrap ((u : Int) - 9223372036854775808)) = (u : Int) - 9223372036854775808 := by
  rw [IntKind.wrap_u64]
  unfold wrap64
  omega

set_option maxHeartbeats 1000000 in
theorem rdecode_short {A : Option Addr} (n c : Nat) (hn : n < 2) (w : World) :
    Calls Tryd.prog 38 #[.slice A n c] w fun e w' => e = .returned (.tuple #[.agg #[.int .i64 0, .int .i64 0, .string ⟨#[]⟩], .bool false]) ∧ Below w.heap.size w w' := by
  have HB := hid (below_new w)
  rcases (show n = 0 ∨ n = 1 by omega) with rfl | rfl
  all_goals
    go_enter Tryd.func38, Tryd.ntmps38
    go_wp2
    refine bodyPost_ret (v := .tuple #[.agg #[.int .i64 0, .int .i64 0, .string ⟨#[]⟩], .bool false]) (by simp [results, Tryd.results38, go_sem]) rfl ⟨rfl, ?_⟩
    repeat (first | exact HB.out _ | refine Below.setCell ?_ (by simp) _)

set_option maxHeartbeats 1000000 in
theorem rdecode_5_no (b off m c : Nat) (hm : 1 ≤ m) (hmc : m + 1 ≤ c) (w : World) (hcell : w.cell? ⟨b, off, none⟩ = some (.int .u8 5)) (HF : Hid (∀ W, Below w.heap.size w W → Calls Tryd.prog 74 #[.slice (some ⟨b, off + 1, none⟩) m (c - 1)] W fun e w' => e = .returned (.tuple #[.int .i64 0, .bool false]) ∧ W = w')) :
    Calls Tryd.prog 38 #[.slice (some ⟨b, off, none⟩) (m + 1) c] w fun e w' => e = .returned (.tuple #[.agg #[.int .i64 0, .int .i64 0, .string ⟨#[]⟩], .bool false]) ∧ Below w.heap.size w w' := by
  have HB := hid (below2 w)
  have hlt := cell_lt hcell
  go_enter Tryd.func38, Tryd.ntmps38
  go_wp2_with (go_at_call 74; refine (HF.out _ (HB.out _ _)).mono ?_; rintro e w' ⟨rfl, rfl⟩)
  refine bodyPost_ret (v := .tuple #[.agg #[.int .i64 0, .int .i64 0, .string ⟨#[]⟩], .bool false]) (by simp [results, Tryd.results38, go_sem]) rfl ⟨rfl, ?_⟩
  repeat (first | exact HB.out _ _ | refine Below.setCell ?_ (by simp) _)

set_option maxHeartbeats 4000000 in
theorem rdecode_1 (l : List UInt8) (U : Nat) (hU : fmB l = U) (b off m c : Nat) (hm : 1 ≤ m) (hmc : m + 1 ≤ c) (w : World) (r q : Bool) (ht : TailAsk w 1 ((U : Int) - 9223372036854775808) ⟨#[]⟩ (some ⟨b, off, none⟩) (m + 1) c r q) (hlm : l.length = m) (hm1000 : m ≤ 4000) (hcell : w.cell? ⟨b, off, none⟩ = some (.int .u8 1)) (hh : Holds w b (off + 1) l) :
    Calls Tryd.prog 38 #[.slice (some ⟨b, off, none⟩) (m + 1) c] w fun e w' => e = (if (r && q) = true then .returned (.tuple #[.agg #[.int .i64 1, .int .i64 ((U : Int) - 9223372036854775808), .string ⟨#[]⟩], .bool true]) else .returned (.tuple #[.agg #[.int .i64 0, .int .i64 0, .string ⟨#[]⟩], .bool false])) ∧ Below w.heap.size w w' := by
  have HT := hid ht
  have HQ : Hid (r = false ∨ (r = true ∧ q = false) ∨ (r = true ∧ q = true)) := by unfold Hid; cases r <;> cases q <;> simp
  have HB := hid (below2 w)
  have hlt := cell_lt hcell
  have HH := hid hh
  have HLm := hid hlm
  have HUU := hid hU
  have HUl : Hid (U < 18446744073709551616) := by rw [← hU]; exact fmB_lt l
  clear ht hh hlm hU
  go_enter Tryd.func38, Tryd.ntmps38
  go_wp2
  go_loop [6, 7] (fun vu vi => ∃ k u : Nat, k ≤ m ∧ vi = .int .i64 k ∧ vu = .int .u64 u ∧ u = fmB (l.take k)) (fun _ vi => m - (intOf vi).toNat)
  case atStart => exact ⟨0, 0, Nat.zero_le _, rfl, rfl, rfl⟩
  case round =>
    obtain ⟨k, u, hk, rfl, rfl, hu⟩ := hrel
    have HU := hid hu
    clear hu
    by_cases hkm : k < m
    · have g := HH.out k (by rw [HLm.out]; exact hkm)
      obtain ⟨x, hx⟩ : ∃ x, (l.getD k 0).toNat = x := ⟨_, rfl⟩
      rw [hx] at g
      have hst := fm_step u x
      obtain ⟨v, hv⟩ : ∃ v, (u * 256 + x) % 18446744073709551616 = v := ⟨_, rfl⟩
      rw [hv] at hst
      have HV : Hid (v = fmB (l.take (k + 1))) := by
        unfold Hid
        rw [take_getD l k (by rw [HLm.out]; exact hkm), fmB_snoc, ← HU.out, hx, hv]
      clear hx hv
      go_wp2
      go_round
      case rel => exact ⟨k + 1, v, by omega, by go_num, by first | rfl | go_num, HV.out⟩
      case measure => simp [intOf]; omega
    · obtain rfl : k = m := by omega
      have hun : (u : Int) = (U : Int) := by rw [HU.out, List.take_of_length_le (by rw [HLm.out]; exact Nat.le_refl _), ← HUU.out]
      obtain rfl : u = U := by omega
      have hdn := fm_down u HUl.out
      clear hun
      go_upto_region 24 with (fail)
      refine wp_letter (fun W => Hid (Below w.heap.size w W ∧ w.heap.size + 1 < W.heap.size) ∧ (∀ j, W.frozen? ⟨w.heap.size, j, none⟩ = false) ∧ W.cell? ⟨w.heap.size, 0, none⟩ = some (.int .i64 0) ∧ W.cell? ⟨w.heap.size, 1, none⟩ = some (.int .i64 0) ∧ W.cell? ⟨w.heap.size, 2, none⟩ = some (.string ⟨#[]⟩) ∧ W.cell? ⟨w.heap.size + 1, 0, none⟩ = some (.int .i64 1) ∧ W.cell? ⟨w.heap.size + 1, 1, none⟩ = some (.int .i64 ((u : Int) - 9223372036854775808)) ∧ W.cell? ⟨w.heap.size + 1, 2, none⟩ = some (.string ⟨#[]⟩)) ?_ (fun W hW => ?_)
      · exact ⟨hid ⟨HB.out _ _, by simp⟩, fun j => by simp, by simp, by simp, by simp, by simp, by simp, by simp⟩
      obtain ⟨hh, f0, a0, a1, a2, b0, b1, b2⟩ := hW
      obtain ⟨hbW, hzW⟩ := hh.out
      clear hh
      rcases HQ.out with rfl | ⟨rfl, rfl⟩ | ⟨rfl, rfl⟩
      · go_wp2_with (go_at_call 75; refine (HT.out.enc _ hbW).mono ?_; rintro e w2 ⟨V, rfl, -, hb2⟩; obtain ⟨hc2, hf2⟩ := bcell hb2; have p0 := hc2 w.heap.size 0 (by omega); have p1 := hc2 w.heap.size 1 (by omega); have p2 := hc2 w.heap.size 2 (by omega); have p3 : ∀ j, w2.frozen? ⟨w.heap.size, j, none⟩ = false := (fun j => (hf2 w.heap.size j (by omega)).trans (f0 j)); rw [a0] at p0; rw [a1] at p1; rw [a2] at p2)
        refine bodyPost_ret (v := .tuple #[.agg #[.int .i64 0, .int .i64 0, .string ⟨#[]⟩], .bool false]) (by simp [results, Tryd.results38, go_sem, cell_set_same, p0, p1, p2]) rfl ⟨rfl, ?_⟩
        iterate 3 (refine Below.setCell ?_ (by simp) _)
        exact hbW.trans (hb2.mono hbW.size)
      · go_wp2_with (first
          | (go_at_call 75; refine (HT.out.enc _ hbW).mono ?_; rintro e w2 ⟨V, rfl, hS, hb2⟩; have HS := hid (hS rfl); clear hS; have hbw2 := hbW.trans (hb2.mono hbW.size))
          | (go_at_call 18; refine (HS.out _ (Below.refl _ _) hbw2).mono ?_; rintro e w3 ⟨rfl, hb3⟩; have hb23 := hb2.trans (hb3.mono hb2.size); obtain ⟨hc2, hf2⟩ := bcell hb23; have p0 := hc2 w.heap.size 0 (by omega); have p1 := hc2 w.heap.size 1 (by omega); have p2 := hc2 w.heap.size 2 (by omega); have p3 : ∀ j, w3.frozen? ⟨w.heap.size, j, none⟩ = false := (fun j => (hf2 w.heap.size j (by omega)).trans (f0 j)); rw [a0] at p0; rw [a1] at p1; rw [a2] at p2))
        refine bodyPost_ret (v := .tuple #[.agg #[.int .i64 0, .int .i64 0, .string ⟨#[]⟩], .bool false]) (by simp [results, Tryd.results38, go_sem, cell_set_same, p0, p1, p2]) rfl ⟨rfl, ?_⟩
        iterate 3 (refine Below.setCell ?_ (by simp) _)
        exact hbW.trans (hb23.mono hbW.size)
      · go_wp2_with (first
          | (go_at_call 75; refine (HT.out.enc _ hbW).mono ?_; rintro e w2 ⟨V, rfl, hS, hb2⟩; have HS := hid (hS rfl); clear hS; have hbw2 := hbW.trans (hb2.mono hbW.size))
          | (go_at_call 18; refine (HS.out _ (Below.refl _ _) hbw2).mono ?_; rintro e w3 ⟨rfl, hb3⟩; have hb23 := hb2.trans (hb3.mono hb2.size); obtain ⟨hc2, hf2⟩ := bcell hb23; have p0 := hc2 w.heap.size 0 (by omega); have p1 := hc2 w.heap.size 1 (by omega); have p2 := hc2 w.heap.size 2 (by omega); have p3 : ∀ j, w3.frozen? ⟨w.heap.size, j, none⟩ = false := (fun j => (hf2 w.heap.size j (by omega)).trans (f0 j)); rw [a0] at p0; rw [a1] at p1; rw [a2] at p2))
        refine bodyPost_ret (v := .tuple #[.agg #[.int .i64 1, .int .i64 ((u : Int) - 9223372036854775808), .string ⟨#[]⟩], .bool true]) (by simp [results, Tryd.results38, go_sem, cell_set_same, p0, p1, p2]) rfl ⟨rfl, ?_⟩
        iterate 3 (refine Below.setCell ?_ (by simp) _)
        exact hbW.trans (hb23.mono hbW.size)

end Go.Proofs.YtpjkhholpbfbpaaDoor

/- The document's From at every slice of bytes. Conditions: the slice holds those bytes. -/
namespace Go.Proofs.YtpjkhholpbfbpaaDoor
open Go.RowKit

theorem fold_top (l : List UInt8) (hl : l.length = 8) : (9223372036854775808 ≤ foldB l) ↔ 128 ≤ (l.getD 0 0).toNat := by
  cases l with
  | nil => simp at hl
  | cons x m =>
    have hm : m.length = 7 := by simpa using hl
    have h1 := foldB_lt m
    rw [hm] at h1
    have p7 : (256 : Nat) ^ 7 = 72057594037927936 := by decide
    rw [foldB_cons, hm, p7]
    rw [p7] at h1
    have h2 := x.toNat_lt
    simp only [List.getD_cons_zero]
    omega

set_option maxHeartbeats 400000 in
theorem refFrom_no {a : Option Addr} (n c : Nat) (hn : n ≠ 8) (w : World) :
    Calls Tryd.prog 74 #[.slice a n c] w fun e w' => e = .returned (.tuple #[.int .i64 0, .bool false]) ∧ w = w' := by
  have h8 : ((n : Int) == 8) = false := by simpa using fun h => hn (by omega)
  go_enter Tryd.func74, Tryd.ntmps74
  go_wp2
  go_ret2
  exact ⟨rfl, rfl⟩

theorem from_body (l : List UInt8) (hl : l.length = 8) (E : Ending) (hE : fromEnd (unrankI (foldB l)) = E) : ∀ r : Int, r = foldB l → ∃ n : Int, inI n ∧ E = fromEnd n ∧ 0 ≤ r ∧ r < 18446744073709551616 ∧ ((128 ≤ (l.getD 0 0).toNat ∧ r - 9223372036854775808 = n ∧ 9223372036854775808 ≤ r) ∨ ((l.getD 0 0).toNat < 128 ∧ wrap64 (bits .xor .u64 IntKind.u64.max r) = n ∧ r < 9223372036854775808)) := fun r hr => by
  have h1 := foldB_lt l
  rw [hl] at h1
  have p8 : (256 : Nat) ^ 8 = 18446744073709551616 := by decide
  have hb : r < 18446744073709551616 := by omega
  have h0 : 0 ≤ r := by omega
  have ft := fold_top l hl
  refine ⟨unrankI r, unrank_in h0 hb, by rw [← hE, hr], h0, hb, ?_⟩
  by_cases ht : 9223372036854775808 ≤ r
  · refine Or.inl ⟨ft.1 (by omega), ?_, ht⟩
    unfold unrankI
    rw [if_neg (by omega)]
  · refine Or.inr ⟨by have := mt ft.2; omega, ?_, by omega⟩
    rw [turnR h0 hb]
    unfold wrap64 unrankI
    rw [if_pos (by omega)]
    omega

set_option maxHeartbeats 1000000 in
set_option maxRecDepth 100000 in
theorem refFrom_yes (l : List UInt8) (hl : l.length = 8) (b c : Nat) (w : World) (hcells : ∀ i, i < 8 → w.cell? ⟨b, i, none⟩ = some (.int .u8 ((l.getD i 0).toNat : Int))) :
    Calls Tryd.prog 74 #[.slice (some ⟨b, 0, none⟩) 8 c] w fun e w' => e = fromEnd (unrankI (foldB l)) ∧ w = w' := by
  have HL := hid hl
  have HC := hid hcells
  clear hl hcells
  obtain ⟨E, hE⟩ : ∃ E, fromEnd (unrankI (foldB l)) = E := ⟨_, rfl⟩
  rw [hE]
  have hbody := from_body l HL.out E hE
  have HB := hid hbody
  clear hbody hE
  go_enter Tryd.func74, Tryd.ntmps74
  go_wp2
  go_loop [4, 5] (fun vr vi => ∃ (k : Nat) (r : Int), k ≤ 8 ∧ vr = .int .u64 r ∧ vi = .int .i64 k ∧ 0 ≤ r ∧ r = foldB (l.take k)) (fun _ vi => 8 - (intOf vi).toNat)
  case atStart => exact ⟨0, 0, by omega, rfl, rfl, by omega, rfl⟩
  case round =>
    obtain ⟨k, r, hk, rfl, rfl, hr0, hr⟩ := hrel
    by_cases hlt : k < 8
    · have hb : r < 72057594037927936 := by
        have h1 := foldB_lt (l.take k)
        have h2 : (l.take k).length ≤ 7 := by rw [List.length_take]; omega
        have h3 : 256 ^ (l.take k).length ≤ 256 ^ 7 := Nat.pow_le_pow_right (by omega) h2
        rw [hr]
        omega
      have hcell := HC.out k hlt
      have hx := (l.getD k 0).toNat_lt
      obtain ⟨x, hxe⟩ : ∃ x, (l.getD k 0).toNat = x := ⟨_, rfl⟩
      rw [hxe] at hcell hx
      have hx2 : x ≤ 255 := by omega
      have HN : Hid (r * 256 + x = ((foldB (l.take (k + 1)) : Nat) : Int)) := hid (by rw [foldB_take l k (by rw [HL.out]; exact hlt), hxe, hr]; omega)
      clear hr hxe hx HB
      go_wp2
      go_round
      case rel => exact ⟨k + 1, r * 256 + x, by omega, rfl, by go_num, by omega, HN.out⟩
      case measure => simp [intOf]; omega
    · obtain rfl : k = 8 := by omega
      have hr8 : r = foldB l := by rw [hr, List.take_of_length_le (by rw [HL.out]; omega)]
      obtain ⟨n, hin, hEn, h0, hb, hsel⟩ := HB.out r hr8
      have hcell := HC.out 0 (by omega)
      obtain ⟨x, hxe⟩ : ∃ x, (l.getD 0 0).toNat = x := ⟨_, rfl⟩
      rw [hxe] at hcell hsel
      clear hr hr8 HB hxe hr0 hk
      have HRt : Hid (∀ W, Calls Tryd.prog 82 #[.int .i64 n] W fun e w' => e = .returned (.bool (rightB n)) ∧ W = w') := fun W => refRight_any n W
      clear hin
      rcases hsel with ⟨hx, hw, hge⟩ | ⟨hx, hw, hge⟩ <;> cases hrt : rightB n
      all_goals (rw [hrt] at HRt)
      · have HFE : Hid (E = .returned (.tuple #[.int .i64 0, .bool false])) := hid (by rw [hEn]; unfold fromEnd; rw [if_neg (by rw [hrt]; decide)])
        clear hEn hrt
        go_wp2_with (go_at_call 82; ((with_reducible refine (HRt.out _).mono ?_); rintro e w' ⟨rfl, rfl⟩))
        go_ret2
        rw [HFE.out]
        exact ⟨rfl, rfl⟩
      · have HFE : Hid (E = .returned (.tuple #[.int .i64 n, .bool true])) := hid (by rw [hEn]; unfold fromEnd; rw [if_pos hrt])
        clear hEn hrt
        go_wp2_with (go_at_call 82; ((with_reducible refine (HRt.out _).mono ?_); rintro e w' ⟨rfl, rfl⟩))
        go_ret2
        rw [HFE.out]
        exact ⟨rfl, rfl⟩
      · have HFE : Hid (E = .returned (.tuple #[.int .i64 0, .bool false])) := hid (by rw [hEn]; unfold fromEnd; rw [if_neg (by rw [hrt]; decide)])
        clear hEn hrt
        go_wp2_with (go_at_call 82; ((with_reducible refine (HRt.out _).mono ?_); rintro e w' ⟨rfl, rfl⟩))
        go_ret2
        rw [HFE.out]
        exact ⟨rfl, rfl⟩
      · have HFE : Hid (E = .returned (.tuple #[.int .i64 n, .bool true])) := hid (by rw [hEn]; unfold fromEnd; rw [if_pos hrt])
        clear hEn hrt
        go_wp2_with (go_at_call 82; ((with_reducible refine (HRt.out _).mono ?_); rintro e w' ⟨rfl, rfl⟩))
        go_ret2
        rw [HFE.out]
        exact ⟨rfl, rfl⟩

end Go.Proofs.YtpjkhholpbfbpaaDoor

/- float.From and the document's From at a slice anywhere in memory. Conditions: the slice holds those bytes. -/
namespace Go.Proofs.YtpjkhholpbfbpaaDoor
open Go.RowKit

set_option maxHeartbeats 1000000 in
set_option maxRecDepth 100000 in
theorem refFrom_off (l : List UInt8) (hl : l.length = 8) (b off c : Nat) (w : World) (hcells : ∀ i, i < 8 → w.cell? ⟨b, off + i, none⟩ = some (.int .u8 ((l.getD i 0).toNat : Int))) :
    Calls Tryd.prog 74 #[.slice (some ⟨b, off, none⟩) 8 c] w fun e w' => e = fromEnd (unrankI (foldB l)) ∧ w = w' := by
  have HL := hid hl
  have HC := hid hcells
  clear hl hcells
  obtain ⟨E, hE⟩ : ∃ E, fromEnd (unrankI (foldB l)) = E := ⟨_, rfl⟩
  rw [hE]
  have hbody := from_body l HL.out E hE
  have HB := hid hbody
  clear hbody hE
  go_enter Tryd.func74, Tryd.ntmps74
  go_wp2
  go_loop [4, 5] (fun vr vi => ∃ (k : Nat) (r : Int), k ≤ 8 ∧ vr = .int .u64 r ∧ vi = .int .i64 k ∧ 0 ≤ r ∧ r = foldB (l.take k)) (fun _ vi => 8 - (intOf vi).toNat)
  case atStart => exact ⟨0, 0, by omega, rfl, rfl, by omega, rfl⟩
  case round =>
    obtain ⟨k, r, hk, rfl, rfl, hr0, hr⟩ := hrel
    by_cases hlt : k < 8
    · have hb : r < 72057594037927936 := by
        have h1 := foldB_lt (l.take k)
        have h2 : (l.take k).length ≤ 7 := by rw [List.length_take]; omega
        have h3 : 256 ^ (l.take k).length ≤ 256 ^ 7 := Nat.pow_le_pow_right (by omega) h2
        rw [hr]
        omega
      have hcell := HC.out k hlt
      have hx := (l.getD k 0).toNat_lt
      obtain ⟨x, hxe⟩ : ∃ x, (l.getD k 0).toNat = x := ⟨_, rfl⟩
      rw [hxe] at hcell hx
      have hx2 : x ≤ 255 := by omega
      have HN : Hid (r * 256 + x = ((foldB (l.take (k + 1)) : Nat) : Int)) := hid (by rw [foldB_take l k (by rw [HL.out]; exact hlt), hxe, hr]; omega)
      clear hr hxe hx HB
      go_wp2
      go_round
      case rel => exact ⟨k + 1, r * 256 + x, by omega, rfl, by go_num, by omega, HN.out⟩
      case measure => simp [intOf]; omega
    · obtain rfl : k = 8 := by omega
      have hr8 : r = foldB l := by rw [hr, List.take_of_length_le (by rw [HL.out]; omega)]
      obtain ⟨n, hin, hEn, h0, hb, hsel⟩ := HB.out r hr8
      have hcell := HC.out 0 (by omega)
      rw [Nat.add_zero] at hcell
      obtain ⟨x, hxe⟩ : ∃ x, (l.getD 0 0).toNat = x := ⟨_, rfl⟩
      rw [hxe] at hcell hsel
      clear hr hr8 HB hxe hr0 hk
      have HRt : Hid (∀ W, Calls Tryd.prog 82 #[.int .i64 n] W fun e w' => e = .returned (.bool (rightB n)) ∧ W = w') := fun W => refRight_any n W
      clear hin
      rcases hsel with ⟨hx, hw, hge⟩ | ⟨hx, hw, hge⟩ <;> cases hrt : rightB n
      all_goals (rw [hrt] at HRt)
      · have HFE : Hid (E = .returned (.tuple #[.int .i64 0, .bool false])) := hid (by rw [hEn]; unfold fromEnd; rw [if_neg (by rw [hrt]; decide)])
        clear hEn hrt
        go_wp2_with (go_at_call 82; ((with_reducible refine (HRt.out _).mono ?_); rintro e w' ⟨rfl, rfl⟩))
        go_ret2
        rw [HFE.out]
        exact ⟨rfl, rfl⟩
      · have HFE : Hid (E = .returned (.tuple #[.int .i64 n, .bool true])) := hid (by rw [hEn]; unfold fromEnd; rw [if_pos hrt])
        clear hEn hrt
        go_wp2_with (go_at_call 82; ((with_reducible refine (HRt.out _).mono ?_); rintro e w' ⟨rfl, rfl⟩))
        go_ret2
        rw [HFE.out]
        exact ⟨rfl, rfl⟩
      · have HFE : Hid (E = .returned (.tuple #[.int .i64 0, .bool false])) := hid (by rw [hEn]; unfold fromEnd; rw [if_neg (by rw [hrt]; decide)])
        clear hEn hrt
        go_wp2_with (go_at_call 82; ((with_reducible refine (HRt.out _).mono ?_); rintro e w' ⟨rfl, rfl⟩))
        go_ret2
        rw [HFE.out]
        exact ⟨rfl, rfl⟩
      · have HFE : Hid (E = .returned (.tuple #[.int .i64 n, .bool true])) := hid (by rw [hEn]; unfold fromEnd; rw [if_pos hrt])
        clear hEn hrt
        go_wp2_with (go_at_call 82; ((with_reducible refine (HRt.out _).mono ?_); rintro e w' ⟨rfl, rfl⟩))
        go_ret2
        rw [HFE.out]
        exact ⟨rfl, rfl⟩

end Go.Proofs.YtpjkhholpbfbpaaDoor

/- The document's Decode, for every row of at most a thousand bytes: the right value whose bytes these are, or nothing. Conditions: the slice holds those bytes. -/
namespace Go.Proofs.YtpjkhholpbfbpaaDoor
open Go.RowKit

theorem unE_esc (s r : List UInt8) : unE (esc s ++ (0 :: 1 :: r)) = some (s, (esc s).length + 2) := by
  induction s with
  | nil => rfl
  | cons c l ih =>
    simp only [esc]
    by_cases h : c = 0
    · rw [if_pos h, List.cons_append, List.cons_append, unE_two, if_neg (by decide), if_pos rfl, ih, h]
      simp
    · rw [if_neg h, List.cons_append, unE_ne h, ih]
      simp

theorem unE_len : ∀ (l t : List UInt8) (q : Nat), unE l = some (t, q) → t.length ≤ l.length
  | [], t, q, h => by simp [unE] at h
  | [c], t, q, h => by rw [unE_single] at h; cases h
  | c :: d :: l, t, q, h => by
    by_cases hc : c = 0
    · subst hc
      rw [unE_two] at h
      by_cases h1 : d = 1
      · rw [if_pos h1] at h; injection h with h; injection h with h _; rw [← h]; simp
      · rw [if_neg h1] at h
        by_cases h2 : d = 255
        · rw [if_pos h2] at h
          obtain ⟨⟨t', q'⟩, h3, h4⟩ := Option.map_eq_some_iff.1 h
          injection h4 with h4 _
          have := unE_len l t' q' h3
          rw [← h4]
          simp at this ⊢
          omega
        · rw [if_neg h2] at h; cases h
    · rw [unE_ne hc] at h
      obtain ⟨⟨t', q'⟩, h3, h4⟩ := Option.map_eq_some_iff.1 h
      injection h4 with h4 _
      have := unE_len (d :: l) t' q' h3
      rw [← h4]
      simp at this ⊢
      omega
theorem mk_data' (S : ByteArray) : (⟨S.data.toList.toArray⟩ : ByteArray) = S := ByteArray.ext rfl

theorem tailAsk_any (k : Int) {n : Int} (hn : inI n) (S : ByteArray) (hS : S.size ≤ 4000) (l : List UInt8) (b off c : Nat) (w : World) (hh : Holds w b off l) (hb : b < w.heap.size) :
    TailAsk w k n S (some ⟨b, off, none⟩) l.length c (vRight k n S.data.toList) (decide (vEnc k n S.data.toList = l)) where
  enc W hW := by
    cases hr : vRight k n S.data.toList
    · exact (refEncode_no k n S hS hr W).mono fun e w' ⟨he, hb⟩ => ⟨_, he, fun h => absurd h (by decide), hb⟩
    · refine (refEncode_yes k hn S hS hr W).mono fun e w' ⟨V, he, hR, hbw⟩ => ⟨V, he, fun _ W2 h1 h2 => ?_, hbw⟩
      have h0 := enc_two hr
      have hsm := enc_small hr
      obtain ⟨g, q, rfl, _, hg, _, h6⟩ := hR.form (by omega)
      exact same_any (vEnc k n S.data.toList) l (by omega) _ _ q c W2 (fun _ => ⟨g, 0, rfl, fun i hi => by rw [Nat.zero_add]; exact (h1.cell (p := ⟨g, i, none⟩) hg).trans (h6 i hi)⟩) (fun _ => ⟨b, off, rfl, hh.below h2 hb⟩) (by omega)

/-- What comes out, by the value taken: nothing, where the row is no right value's bytes. -/
theorem out_no {k n : Int} (hn : inI n) (s l : List UInt8) (h : vdecEnd l = noEnd) : (vRight k n s && decide (vEnc k n s = l)) = false := by
  cases hr : vRight k n s
  · rfl
  · cases hq : decide (vEnc k n s = l)
    · rfl
    · have e := of_decide_eq_true hq
      have h2 := vdec_enc hn hr
      rw [e, h] at h2
      exact absurd h2 (by unfold noEnd valEnd; intro q; injection q with q; injection q with q; simp at q)

theorem out_any {k n : Int} (hn : inI n) (S : ByteArray) (l : List UInt8) (hc : ∀ k' n' s', inI n' → vRight k' n' s' = true → vEnc k' n' s' = l → k = k' ∧ n = n' ∧ S.data.toList = s') :
    (if (vRight k n S.data.toList && decide (vEnc k n S.data.toList = l)) = true then Ending.returned (.tuple #[.agg #[.int .i64 k, .int .i64 n, .string S], .bool true]) else .returned (.tuple #[.agg #[.int .i64 0, .int .i64 0, .string ⟨#[]⟩], .bool false])) = vdecEnd l := by
  rcases vdec_cases l with ⟨k', n', s', hn', hr', _, he', hv'⟩ | hno
  · obtain ⟨rfl, rfl, rfl⟩ := hc k' n' s' hn' hr' he'
    rw [hr', decide_eq_true he', hv']
    unfold valEnd
    rw [mk_data']
    rfl
  · rw [out_no hn _ l hno, hno]
    rfl

theorem venc_head {k n : Int} {s : List UInt8} {x : UInt8} {r : List UInt8} (hr : vRight k n s = true) (h : vEnc k n s = x :: r) : k = (x.toNat : Int) ∧ vBody k n s = r := by
  unfold vEnc at h
  injection h with h1 h2
  refine ⟨?_, h2⟩
  rw [← h1]
  rcases right_kind hr with rfl | rfl | rfl | rfl | rfl <;> rfl

set_option maxHeartbeats 1000000 in
/-- The document's Decode, for every row. -/
theorem refVdecode_any (l : List UInt8) (hl : l.length ≤ 4000) (b off c : Nat) (hc : l.length ≤ c) (hcm : c ≤ 9223372036854775807) (w : World) (hh : Holds w b off l) (hb : b < w.heap.size) :
    Calls Tryd.prog 38 #[.slice (some ⟨b, off, none⟩) l.length c] w fun e w' => e = vdecEnd l ∧ Below w.heap.size w w' := by
  match l, hl, hc, hh with
  | [], _, _, _ => exact rdecode_short 0 c (by omega) w
  | [x], _, _, _ =>
    refine (rdecode_short 1 c (by omega) w).mono fun e w' ⟨he, hb⟩ => ⟨he.trans ?_, hb⟩
    rcases vdec_cases [x] with ⟨k', n', s', _, hr', _, he', _⟩ | hno
    · have := enc_two hr'
      rw [he'] at this
      simp at this
    · exact hno.symm
  | x :: y :: r, hl, hc, hh =>
    have hx := x.toNat_lt
    have h0 : inI 0 := by unfold inI; omega
    have hcell : w.cell? ⟨b, off, none⟩ = some (.int .u8 (x.toNat : Int)) := by have := hh 0 (by simp); simpa using this
    have hr1 : Holds w b (off + 1) (y :: r) := by have := hh.drop 1; simpa using this
    have hlen : (x :: y :: r).length = (y :: r).length + 1 := rfl
    have hm : 1 ≤ (y :: r).length := by simp
    have hm2 : (y :: r).length ≤ 4000 := by simp at hl ⊢; omega
    have hT : ∀ (k n : Int) (S : ByteArray), inI n → S.size ≤ 4000 → TailAsk w k n S (some ⟨b, off, none⟩) ((y :: r).length + 1) c (vRight k n S.data.toList) (decide (vEnc k n S.data.toList = x :: y :: r)) := fun k n S hn hS => tailAsk_any k hn S hS (x :: y :: r) b off c w hh hb
    rw [hlen]
    rw [hlen] at hc
    generalize hR : y :: r = R at *
    clear hh hlen hl
    have he : (⟨#[]⟩ : ByteArray).data.toList = [] := rfl
    by_cases h1 : (x.toNat : Int) = 1
    · rw [h1] at hcell
      have hU := fmB_lt R
      have hn : inI ((fmB R : Int) - 9223372036854775808) := by unfold inI; omega
      refine (rdecode_1 R (fmB R) rfl b off R.length c hm hc w _ _ (hT 1 _ ⟨#[]⟩ hn (by decide)) rfl hm2 hcell hr1).mono fun e w' ⟨he2, hb2⟩ => ⟨he2.trans (out_any hn ⟨#[]⟩ (x :: R) fun k' n' s' hn' hr' he' => ?_), hb2⟩
      obtain ⟨hk, hbd⟩ := venc_head hr' he'
      have hk1 : k' = 1 := hk.trans h1
      subst hk1
      simp only [vRight] at hr'
      simp at hr'
      subst hr'
      refine ⟨rfl, ?_, rfl⟩
      have hb8 : byW 8 (upI n') = R := hbd
      have hup := upI_lt hn'
      have p : (256 : Nat) ^ 8 = 18446744073709551616 := by decide
      rw [fmB_fold, ← hb8, foldB_byW 8 _ (by omega), Nat.mod_eq_of_lt hup]
      unfold upI inI at *
      omega
    · by_cases h5 : (x.toNat : Int) = 5
      · rw [h5] at hcell
        by_cases h8 : R.length = 8
        · have hF := fun W (hW : Below w.heap.size w W) => refFrom_off R h8 b (off + 1) (c - 1) W (fun i hi => by rw [hW.cell (p := ⟨b, off + 1 + i, none⟩) hb]; exact hr1 i (by omega))
          have hf8 := foldB_8 R h8
          have hn : inI (unrankI (foldB R)) := unrank_in (by omega) hf8
          by_cases hrb : rightB (unrankI (foldB R)) = true
          · have hfe : fromEnd (unrankI (foldB R)) = .returned (.tuple #[.int .i64 (unrankI (foldB R)), .bool true]) := by unfold fromEnd; rw [if_pos hrb]
            rw [hfe] at hF
            refine (rdecode_5 (unrankI (foldB R)) b off R.length c hm hc w _ _ (hT 5 _ ⟨#[]⟩ hn (by decide)) hcell (hid fun W hW => by have := hF W hW; rw [h8]; exact this)).mono fun e w' ⟨he2, hb2⟩ => ⟨he2.trans (out_any hn ⟨#[]⟩ (x :: R) fun k' n' s' hn' hr' he' => ?_), hb2⟩
            obtain ⟨hk, hbd⟩ := venc_head hr' he'
            have hk1 : k' = 5 := hk.trans h5
            subst hk1
            rw [vBody5] at hbd
            simp only [vRight] at hr'
            simp at hr'
            obtain ⟨a0, a1⟩ := rank_in hn'
            have p : (256 : Nat) ^ 8 = 18446744073709551616 := by decide
            refine ⟨rfl, ?_, hr'.1.symm⟩
            rw [← hbd, foldB_byW 8 _ (by omega), Int.toNat_of_nonneg a0, unrank_rank hn']
          · have hfe : fromEnd (unrankI (foldB R)) = .returned (.tuple #[.int .i64 0, .bool false]) := by unfold fromEnd; rw [if_neg hrb]
            rw [hfe] at hF
            refine (rdecode_5_no b off R.length c hm hc w hcell (hid fun W hW => by have := hF W hW; rw [h8]; exact this)).mono fun e w' ⟨he2, hb2⟩ => ⟨he2.trans ?_, hb2⟩
            rcases vdec_cases (x :: R) with ⟨k', n', s', hn', hr', _, he', _⟩ | hno
            · exfalso
              obtain ⟨hk, hbd⟩ := venc_head hr' he'
              have hk1 : k' = 5 := hk.trans h5
              subst hk1
              rw [vBody5] at hbd
              simp only [vRight] at hr'
              simp at hr'
              obtain ⟨a0, a1⟩ := rank_in hn'
              have p : (256 : Nat) ^ 8 = 18446744073709551616 := by decide
              rw [← hbd, foldB_byW 8 _ (by omega), Int.toNat_of_nonneg a0, unrank_rank hn'] at hrb
              exact hrb hr'.2
            · exact hno.symm
        · refine (rdecode_5_no b off R.length c hm hc w hcell (hid fun W _ => refFrom_no R.length (c - 1) h8 W)).mono fun e w' ⟨he2, hb2⟩ => ⟨he2.trans ?_, hb2⟩
          rcases vdec_cases (x :: R) with ⟨k', n', s', hn', hr', _, he', _⟩ | hno
          · exfalso
            obtain ⟨hk, hbd⟩ := venc_head hr' he'
            have hk1 : k' = 5 := hk.trans h5
            subst hk1
            rw [vBody5] at hbd
            exact h8 (by rw [← hbd, byW_len])
          · exact hno.symm
      · by_cases h4 : (x.toNat : Int) = 4
        · rw [h4] at hcell
          have hy := (R.getD 0 0).toNat_lt
          have hn : inI ((R.getD 0 0).toNat : Int) := by unfold inI; omega
          have hc1 : w.cell? ⟨b, off + 1, none⟩ = some (.int .u8 ((R.getD 0 0).toNat : Int)) := by have := hr1 0 (by omega); simpa using this
          refine (rdecode_4 (R.getD 0 0).toNat (by omega) b off R.length c hm hc w _ _ (hT 4 _ ⟨#[]⟩ hn (by decide)) hcell hc1).mono fun e w' ⟨he2, hb2⟩ => ⟨he2.trans (out_any hn ⟨#[]⟩ (x :: R) fun k' n' s' hn' hr' he' => ?_), hb2⟩
          obtain ⟨hk, hbd⟩ := venc_head hr' he'
          have hk1 : k' = 4 := hk.trans h4
          subst hk1
          simp only [vRight] at hr'
          simp at hr'
          have hbd4 : [UInt8.ofNat n'.toNat] = R := hbd
          refine ⟨rfl, ?_, hr'.1.symm⟩
          rw [← hbd4]
          rcases hr'.2 with rfl | rfl <;> rfl
        · by_cases h2 : (x.toNat : Int) = 2 ∨ (x.toNat : Int) = 3
          · have hU := fun W (hW : Below w.heap.size w W) => unescaped_any R hm2 b (off + 1) (c - 1) (by omega) (by omega) W (hr1.below hW hb) (Nat.lt_of_lt_of_le hb hW.size)
            obtain ⟨S, hS, hSS⟩ : ∃ S : ByteArray, (S.size ≤ 4000 ∧ ∀ s' r', R = esc s' ++ (0 :: 1 :: r') → S.data.toList = s') ∧ ∀ W, Below w.heap.size w W → Calls Tryd.prog 37 #[.slice (some ⟨b, off + 1, none⟩) R.length (c - 1)] W fun e w' => (∃ V ok, e = .returned (.tuple #[.string S, V, .bool ok])) ∧ Below W.heap.size W w' := by
              cases hu : unE R with
              | none =>
                refine ⟨⟨#[]⟩, ⟨by decide, fun s' r' e => ?_⟩, fun W hW => (hU W hW).mono fun e w' ⟨h, hb⟩ => ⟨?_, hb⟩⟩
                · rw [e, unE_esc] at hu; cases hu
                · rw [hu] at h
                  exact ⟨_, _, h⟩
              | some p =>
                obtain ⟨t, q⟩ := p
                refine ⟨⟨t.toArray⟩, ⟨?_, fun s' r' e => ?_⟩, fun W hW => (hU W hW).mono fun e w' ⟨h, hb⟩ => ⟨?_, hb⟩⟩
                · rw [mk_size]
                  have := unE_len R t q hu
                  omega
                · rw [e, unE_esc] at hu
                  injection hu with hu
                  injection hu with hu _
                  exact hu.symm
                · rw [hu] at h
                  obtain ⟨A, q2, he, _⟩ := h
                  exact ⟨_, _, he⟩
            have hout : ∀ K : Int, K = 2 ∨ K = 3 → (x.toNat : Int) = K → ∀ k' n' s', inI n' → vRight k' n' s' = true → vEnc k' n' s' = x :: R → K = k' ∧ (0 : Int) = n' ∧ S.data.toList = s' := fun K hK hxK k' n' s' _ hr' he' => by
              obtain ⟨hk, hbd⟩ := venc_head hr' he'
              have hk1 : k' = K := hk.trans hxK
              subst hk1
              have hbd2 : esc s' ++ [0, 1] = R := by
                rcases hK with rfl | rfl
                · exact hbd
                · exact hbd
              refine ⟨rfl, ?_, hS.2 s' [] hbd2.symm⟩
              rcases hK with rfl | rfl
              · simp only [vRight] at hr'; simp at hr'; exact hr'.1.symm
              · simp only [vRight] at hr'; simp at hr'; exact hr'.1.1.symm
            rcases h2 with h2 | h3
            · have := hout 2 (.inl rfl) h2
              rw [h2] at hcell
              exact (rdecode_2 S b off R.length c hm hc w _ _ (hT 2 0 S h0 hS.1) hcell (hid hSS)).mono fun e w' ⟨he2, hb2⟩ => ⟨he2.trans (out_any h0 S (x :: R) this), hb2⟩
            · have := hout 3 (.inr rfl) h3
              rw [h3] at hcell
              exact (rdecode_3 S b off R.length c hm hc w _ _ (hT 3 0 S h0 hS.1) hcell (hid hSS)).mono fun e w' ⟨he2, hb2⟩ => ⟨he2.trans (out_any h0 S (x :: R) this), hb2⟩
          · refine (rdecode_0 x.toNat (by omega) b off R.length c hm hc w _ _ (hT _ 0 ⟨#[]⟩ h0 (by decide)) hcell (by simpa using h1) (by simpa using h5) (by simpa using h4) (by simp; omega) (by simp; omega)).mono fun e w' ⟨he2, hb2⟩ => ⟨he2.trans (out_any h0 ⟨#[]⟩ (x :: R) fun k' n' s' hn' hr' he' => ?_), hb2⟩
            exfalso
            obtain ⟨hk, _⟩ := venc_head hr' he'
            rcases right_kind hr' with h | h | h | h | h <;> omega

end Go.Proofs.YtpjkhholpbfbpaaDoor
