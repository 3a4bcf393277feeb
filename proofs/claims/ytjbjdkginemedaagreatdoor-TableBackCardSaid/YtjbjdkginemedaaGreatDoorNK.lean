/- block.Build at every list of cells. Conditions: the argument stands, 140 cells at most, their texts no longer than the laws look at. -/
import Derived.Test.YtjbjdkginemedaaGreatDoorNE
import Derived.Test.YtjbjdkginemedaaGreatDoorQC
import Derived.Test.YtjbjdkginemedaaGreatDoorQ9
import Derived.Test.YtjbjdkginemedaaGreatDoorQD
import Derived.Test.YtjbjdkginemedaaGreatDoorII
import Derived.Deep.RegionHeld3
namespace Go.Proofs.YtjbjdkginemedaaGreatDoor
open Go.RowKit

theorem keyc_yes (c : CT) (h : okC c) (hok : c.ok = true) (w : World) (hL : LaidU w) :
    Calls Tryz.prog 39 #[c.v] w fun e w' => ∃ v, e = .returned (.tuple #[v, .bool true]) ∧ Row w' w.heap.size v (keyL c) ∧ Below w.heap.size w w' := key_yes c.r c.f c.q c.s c.t c.k c.vk h.2.2 h.1 h.2.1 w hL hok
theorem keyc_no (c : CT) (h : okC c) (hok : c.ok = false) (w : World) (hL : LaidU w) :
    Calls Tryz.prog 39 #[c.v] w fun e w' => e = .returned (.tuple #[.slice none 0 0, .bool false]) ∧ Below w.heap.size w w' := key_no c.r c.f c.q c.s c.t c.k c.vk h.2.2 h.1 h.2.1 w hL hok

theorem abytes_at (B g cap : Nat) (l : List UInt8) (b off c : Nat) (part : List UInt8) (nl np : Nat) (h1 : l.length = nl) (h2 : part.length = np) (h0 : 0 < np) (hlen : nl + np ≤ 900000) (w : World) (h : RowG w B g cap l) (hp : Holds w b off part) (hne : b ≠ g) (hB : B ≤ w.heap.size) :
    Calls Tryz.prog 42 #[.slice (some ⟨g, 0, none⟩) nl cap, .slice (some ⟨b, off, none⟩) np c] w fun e w' => ∃ g' cap' n', e = .returned (.slice (some ⟨g', 0, none⟩) n' cap') ∧ Hid ((l ++ (numW np ++ part)).length = n' ∧ RowG w' B g' cap' (l ++ (numW np ++ part)) ∧ w.grownBy w' (some g) ∧ (g' = g ∨ w.heap.size ≤ g')) := by
  subst h1 h2
  exact (abytes_any B g cap l b off c part h0 hlen w h hp hne hB).mono fun e w' ⟨g', cap', he, h1, h2, h3⟩ => ⟨g', cap', _, he, rfl, h1, h2, h3⟩
/-- A key that stands, elsewhere than in block g. -/
def KeySt (W : World) (g : Nat) (v : Value) (k : List UInt8) : Prop := ∃ A c, v = .slice A k.length c ∧ HoldsA W A k ∧ (∀ b o, A = some ⟨b, o, none⟩ → b ≠ g ∧ b < W.heap.size)
theorem KeySt.below {W W' : World} {g : Nat} {v : Value} {k : List UInt8} (h : KeySt W g v k) (hb : Below W.heap.size W W') : KeySt W' g v k := by
  obtain ⟨A, c, e, hh, hn⟩ := h
  refine ⟨A, c, e, fun h0 => ?_, fun b o e => ⟨(hn b o e).1, Nat.lt_of_lt_of_le (hn b o e).2 hb.size⟩⟩
  obtain ⟨b, off, e2, h2⟩ := hh h0
  exact ⟨b, off, e2, h2.below hb (hn b off e2).2⟩
/-- Build's loop: some bytes, the key ahead. -/
structure BuI (w W : World) (g cap : Nat) (out : List UInt8) (va : Value) (a : List UInt8) : Prop where
  bel : Below w.heap.size w W
  row : RowG W w.heap.size g cap out
  key : KeySt W g va a
  len : a.length ≤ 3000
/-- Within a round: the bytes, the new key, the cell's own block. -/
structure BuR (w W : World) (g cap : Nat) (out : List UInt8) (gk capk : Nat) (k : List UInt8) (xb : Nat) (c : CT) : Prop where
  bel : Below w.heap.size w W
  row : RowG W w.heap.size g cap out
  key : RowG W w.heap.size gk capk k
  ne : gk ≠ g
  box : Blk W xb 26 c.e.toArray
  nb : xb ≠ g
section
variable {w W W' : World} {g cap gk capk xb g' cap' : Nat} {out out' k : List UInt8} {c : CT}
theorem BuR.below (h : BuR w W g cap out gk capk k xb c) (hb : Below W.heap.size W W') : BuR w W' g cap out gk capk k xb c :=
  ⟨h.bel.trans (hb.mono h.bel.size), h.row.below hb, h.key.below hb, h.ne, h.box.keep hb h.box.lt, h.nb⟩
theorem BuR.step (h : BuR w W g cap out gk capk k xb c) (hr : RowG W' w.heap.size g' cap' out') (hg : W.grownBy W' (some g)) (hd : g' = g ∨ W.heap.size ≤ g') : BuR w W' g' cap' out' gk capk k xb c := by
  have h1 := h.row.lt
  have h2 := h.key.lt
  have h3 := h.box.lt
  have hne := h.ne
  have hnb := h.nb
  refine ⟨h.bel.grown hg h.bel.size (fun j hj => ?_), hr, ⟨h.key.1, World.ownsRow.kept h.key.2 hg (.inr ?_)⟩, ?_, ?_, ?_⟩
  · injection hj with hj
    omega
  · intro e
    injection e with e
    exact hne e
  · rcases hd with rfl | hd <;> omega
  · unfold Blk at *
    rw [hg.block xb h3 (fun e => hnb (Option.some.inj e))]
    exact h.box
  · rcases hd with rfl | hd <;> omega
theorem BuR.next (h : BuR w W g cap out gk capk k xb c) (hk : k.length ≤ 3000) : BuI w W g cap out (.slice (some ⟨gk, 0, none⟩) k.length capk) k :=
  ⟨h.bel, h.row, ⟨_, _, rfl, fun _ => ⟨gk, 0, rfl, h.key.holds⟩, fun b o e => by
    injection e with e
    injection e with e
    subst e
    exact ⟨h.ne, h.key.lt.2⟩⟩, hk⟩
end
theorem fineK_stop {a : List UInt8} : ∀ (l : List CT) (i : Nat) (c : CT), l[i]? = some c → fineK a l = true → c.ok = true ∧ Lib.compareBytes (lastK a (l.take i)) (keyL c) < 0 := fun l i c hc hf => by
  obtain ⟨hi, rfl⟩ := List.getElem?_eq_some_iff.1 hc
  have e : l = (l.take i ++ [l[i]]) ++ l.drop (i + 1) := by rw [List.append_assoc, List.singleton_append, ← List.drop_eq_getElem_cons hi, List.take_append_drop]
  have h2 : ∀ (p q : List CT) (a : List UInt8), fineK a (p ++ q) = true → fineK a p = true := by
    intro p
    induction p with
    | nil => intro q a _; rfl
    | cons d p ih =>
      intro q a h
      have h' : (d.ok && (decide (Lib.compareBytes a (keyL d) < 0) && fineK (keyL d) (p ++ q))) = true := h
      show (d.ok && (decide (Lib.compareBytes a (keyL d) < 0) && fineK (keyL d) p)) = true
      simp only [Bool.and_eq_true] at h' ⊢
      exact ⟨h'.1, h'.2.1, ih q _ h'.2.2⟩
  rw [e] at hf
  have h3 := h2 _ _ a hf
  rw [fineK_snoc] at h3
  simp only [Bool.and_eq_true, decide_eq_true_eq] at h3
  exact h3.2
theorem venc_c {c : CT} (hk : c.k = 1) (hok : c.ok = true) (h : okC c) (w : World) (hL : LaidU w) :
    Calls Tryz.prog 43 #[.agg #[.int .i64 c.vk, .int .i64 c.vn, .string c.s]] w fun e w' => ∃ v, e = .returned (.tuple #[v, .bool true]) ∧ Row w' w.heap.size v (valL c) ∧ Below w.heap.size w w' := by
  obtain ⟨_, _, _, _, _, _, _, _, _, _, p1, _⟩ := cright_parts hok
  exact vencode_yes c.vk h.2.2 c.s h.2.1 (p1 hk) w hL
theorem valL_pos (c : CT) : 0 < (valL c).length := by
  unfold valL vEnc
  simp
theorem keyL_pos (c : CT) : 0 < (keyL c).length := by
  have := keyL_last c
  rcases Nat.eq_zero_or_pos (keyL c).length with h | h
  · rw [List.eq_nil_of_length_eq_zero h] at this; cases this
  · exact h
theorem pre_lt {a k : List UInt8} (h : Lib.compareBytes a k < 0) : preL a k < k.length := by
  have h1 := (preL_le a k).2
  rcases Nat.lt_or_ge (preL a k) k.length with h2 | h2
  · exact h2
  · exfalso
    have h3 := preL_take a k
    rw [show preL a k = k.length by omega, List.take_length] at h3
    rw [← h3] at h
    exact cmp_take a _ h

/-- What Build leaves. -/
def BuEnd (F : Bool) (l : List CT) (w : World) (e : Ending) (w' : World) : Prop := if F = true then ∃ v', e = .returned (.tuple #[v', .bool true]) ∧ Row w' w.heap.size v' (blockB l) else e = .returned (.tuple #[.slice none 0 0, .bool false])
theorem out_put {n p kl vl i : Nat} {l : List CT} {c : CT} (ht : l.take (i + 1) = l.take i ++ [c]) (hp : preL (lastK [] (l.take i)) (keyL c) = p) (hk : (keyL c).length = kl) (hv : (valL c).length = vl) (h1 : c.k = 1) : numW n ++ restB [] (l.take i) ++ numW p ++ (numW (kl - p) ++ (keyL c).drop p) ++ (numW vl ++ valL c) = numW n ++ restB [] (l.take (i + 1)) := by
  rw [ht, restB_snoc]
  unfold oneB
  rw [hp, hk, hv, if_pos h1]
  simp only [List.append_assoc]
theorem out_other {n p kl i : Nat} {l : List CT} {c : CT} (ht : l.take (i + 1) = l.take i ++ [c]) (hp : preL (lastK [] (l.take i)) (keyL c) = p) (hk : (keyL c).length = kl) (h1 : ¬ c.k = 1) : numW n ++ restB [] (l.take i) ++ numW p ++ (numW (kl - p) ++ (keyL c).drop p) = numW n ++ restB [] (l.take (i + 1)) := by
  rw [ht, restB_snoc]
  unfold oneB
  rw [hp, hk, if_neg h1]
  simp only [List.append_assoc, List.append_nil]
set_option maxRecDepth 100000 in
set_option maxHeartbeats 16000000 in
theorem build_any (v : Value) (l : List CT) (hl : l.length ≤ 140) (w : World) (h : ClA w v l) (hs : ∀ c ∈ l, Sm c) (hL : LaidU w) :
    Calls Tryz.prog 12 #[v] w fun e w' => Below w.heap.size w w' ∧ BuEnd (fineK [] l) l w e w' := by
  have mixed : Tryz.prog.follows .mixedOrders = true := by kernel_rfl
  obtain ⟨A, cc, rfl, hc1, hc2, hh⟩ := h
  have HH := hid hh
  have HSm := hid hs
  have HL := hid hL
  clear hh hs hL
  obtain ⟨n, hn⟩ : ∃ n, l.length = n := ⟨_, rfl⟩
  have HN := hid hn
  rw [hn] at hc1 hl ⊢
  have HNu := hid (num_any n (by omega) w)
  have HNp := hid (numW_pos n)
  have HN9 := hid (numW_len9 n (by omega))
  clear hn
  have hz : ¬ 1000 < (n : Int) := by omega
  obtain ⟨F, hF⟩ : ∃ F, F = fineK [] l := ⟨_, rfl⟩
  have HF := hid hF
  rw [← hF]
  clear hF
  go_enter Tryz.func12, Tryz.ntmps12
  go_wp2_with (first | (go_at_call 38; refine HNu.out.mono ?_; rintro e w1 ⟨v1, rfl, hR1, hb1⟩; obtain ⟨g1, cap1, rfl, hG1⟩ := hR1.toG HNp.out))
  have HI : Hid (BuI w w1 g1 cap1 (numW n ++ restB [] (l.take 0)) (.slice none 0 0) []) := by
    refine ⟨hb1, ?_, ⟨none, 0, rfl, fun h => absurd h (by simp), fun b o e => by cases e⟩, by simp⟩
    rw [List.take_zero]
    show RowG _ _ _ _ (_ ++ [])
    rw [List.append_nil]
    exact hG1
  have HIl : Hid ((numW n ++ restB [] (l.take 0)).length = (numW n).length) := by
    show _ = _
    rw [List.take_zero]
    show (_ ++ []).length = _
    rw [List.append_nil]
  clear hR1 hb1 hG1 HNu
  go_loopw [4, 5, 21] (fun vb va vi wr => ∃ (i : Nat) (g cap nb : Nat), i ≤ n ∧ vi = .int .i64 i ∧ vb = .slice (some ⟨g, 0, none⟩) nb cap ∧ Hid (BuI w wr g cap (numW n ++ restB [] (l.take i)) va (lastK [] (l.take i)) ∧ (numW n ++ restB [] (l.take i)).length = nb ∧ nb ≤ 9 + i * 6100 ∧ fineK [] (l.take i) = true)) (fun _ _ vi _ => n - (intOf vi).toNat)
  case atStart => exact ⟨0, g1, cap1, _, Nat.zero_le _, rfl, rfl, HI.out, HIl.out, by have := HN9.out; omega, rfl⟩
  case round =>
    clear HI HIl
    obtain ⟨i, g, cap, nb, hi, rfl, rfl, HI⟩ := hrel
    obtain ⟨Aa, ca, ea, _⟩ := HI.out.1.key
    subst ea
    obtain ⟨la, hla⟩ : ∃ la, (lastK [] (l.take i)).length = la := ⟨_, rfl⟩
    have HLa := hid hla
    rw [hla] at HI ⊢
    clear hla
    by_cases hlt : i < n
    · have hin : i < l.length := by rw [HN.out]; exact hlt
      have hltz : (i : Int) < (n : Int) := by omega
      obtain ⟨b, off, rfl, hhc⟩ := HH.out (by omega)
      have hbw : b < w.heap.size := hhc.lt (by omega)
      obtain ⟨c, hc⟩ : ∃ c, l[i]? = some c := ⟨_, List.getElem?_eq_getElem hin⟩
      have HC := hid hc
      have HCs : Hid (Sm c) := HSm.out c (List.mem_of_getElem? hc)
      have HTk : Hid (l.take (i + 1) = l.take i ++ [c]) := by show _ = _; rw [List.take_add_one, hc]; rfl
      obtain ⟨a0, a1, a2, a3, a4, a5, a6, a7⟩ := ct_words (hhc.below HI.out.1.bel hbw) i hc
      clear hhc hc hin
      have HKy : Hid (∀ W, Below w.heap.size w W → Calls Tryz.prog 39 #[c.v] W fun e w' => ∃ v, e = .returned (.tuple #[v, .bool c.ok]) ∧ Row w' W.heap.size v (if c.ok = true then keyL c else []) ∧ Below W.heap.size W w') := fun W hW => keyc_any c HCs.out.1 W (HL.out.below hW)
      go_upto_region 8 with (fail)
      obtain ⟨xb, hxb⟩ : ∃ xb, wr.heap.size = xb := ⟨_, rfl⟩
      obtain ⟨W1, hW1⟩ : ∃ W1, wr.alloc (.cells #[.string c.r, .string c.f, .string c.q, .int .i64 c.t, .int .i64 c.k, .int .i64 c.vk, .int .i64 c.vn, .string c.s] 26) = W1 := ⟨_, rfl⟩
      have HW1 : Hid (Below wr.heap.size wr W1 ∧ Blk W1 xb 26 c.e.toArray ∧ g < xb) := by
        rw [← hW1, ← hxb]
        exact ⟨below_new _ _, Blk.new _ _ _, HI.out.1.row.lt.2⟩
      rw [hW1, hxb]
      clear hW1 hxb a0 a1 a2 a3 a4 a5 a6 a7
      obtain ⟨y0, y1, y2, y3, y4, y5, y6, y7⟩ := blkc_words HW1.out.2.1
      cases hok : c.ok with
      | false =>
        have HKf := hid (HKy.out W1 (HI.out.1.bel.trans (HW1.out.1.mono HI.out.1.bel.size)))
        rw [hok] at HKf
        have HFf : Hid (¬ F = true) := fun e => by
          have h1 := (fineK_stop l i c HC.out (HF.out.symm.trans e)).1
          rw [hok] at h1
          cases h1
        clear hok HKy
        go_wp2_with (first
          | (go_at_call 39; refine HKf.out.mono ?_; rintro e w2 ⟨kv, rfl, hR2, hb2⟩; have HB2 := hid hb2; clear hR2 hb2))
        go_ret2
        have hb := HI.out.1.bel.trans (HW1.out.1.mono HI.out.1.bel.size)
        refine ⟨hb.trans (HB2.out.mono hb.size), ?_⟩
        unfold BuEnd; rw [if_neg HFf.out]
        rfl
      | true =>
        have HKt : Hid (Calls Tryz.prog 39 #[c.v] W1 fun e w' => ∃ gk capk, e = .returned (.tuple #[.slice (some ⟨gk, 0, none⟩) (keyL c).length capk, .bool true]) ∧ Hid (BuR w w' g cap (numW n ++ restB [] (l.take i)) gk capk (keyL c) xb c ∧ KeySt w' g (.slice Aa la ca) (lastK [] (l.take i)))) := by
          have hb0 := HI.out.1.bel.trans (HW1.out.1.mono HI.out.1.bel.size)
          refine (HKy.out W1 hb0).mono fun e w' ⟨v, he, hr, hb⟩ => ?_
          rw [hok] at he
          rw [if_pos hok] at hr
          obtain ⟨gk, capk, rfl, hG⟩ := hr.toG (keyL_pos c)
          have h1 := hG.lt
          have h2 := HI.out.1.row.lt
          have h3 := HW1.out.1.size
          have h4 : KeySt wr g (.slice Aa la ca) (lastK [] (l.take i)) := HI.out.1.key
          refine ⟨gk, capk, he, ⟨hb0.trans (hb.mono hb0.size), (HI.out.1.row.below HW1.out.1).below hb, ⟨hG.1, hG.2.le hb0.size⟩, by omega, HW1.out.2.1.keep hb HW1.out.2.1.lt, by have := HW1.out.2.2; omega⟩, KeySt.below (KeySt.below h4 HW1.out.1) hb⟩
        have HFo : Hid (F = true → Lib.compareBytes (lastK [] (l.take i)) (keyL c) < 0) := fun e => (fineK_stop l i c HC.out (HF.out.symm.trans e)).2
        have HOk := hid hok
        clear hok HKy
        obtain ⟨kl, hkl⟩ : ∃ kl, (keyL c).length = kl := ⟨_, rfl⟩
        have HKl := hid hkl
        rw [hkl] at HKt
        clear hkl y0 y1 y2 y3 y4 y5 y6 y7
        obtain ⟨y0, y1, y2, y3, y4, y5, y6, y7⟩ := blkc_words HW1.out.2.1
        obtain ⟨o, ho⟩ : ∃ o, Lib.compareBytes (lastK [] (l.take i)) (keyL c) = o := ⟨_, rfl⟩
        have HO := hid ho
        have HCm : Hid (∀ W gk capk, KeySt W g (.slice Aa la ca) (lastK [] (l.take i)) → RowG W w.heap.size gk capk (keyL c) → Calls Tryz.prog 40 #[.slice Aa la ca, .slice (some ⟨gk, 0, none⟩) kl capk] W fun e w' => e = .returned (.int .i64 o) ∧ w' = W) := fun W gk capk h1 h2 => by
          obtain ⟨A', c', e, hh, _⟩ := h1
          injection e with e1 e2 e3
          subst e1 e3
          have := bcompare_any Aa (some ⟨gk, 0, none⟩) ca capk (lastK [] (l.take i)) (keyL c) W hh (fun _ => ⟨gk, 0, rfl, h2.holds⟩)
          rw [HLa.out, HKl.out, HO.out] at this
          exact this
        clear ho
        by_cases hlt0 : o < 0
        · have hoz : ¬ 0 ≤ o := by omega
          obtain ⟨p, hp⟩ : ∃ p, preL (lastK [] (l.take i)) (keyL c) = p := ⟨_, rfl⟩
          have HP := hid hp
          have hpl : p < kl := by have := pre_lt (by rw [HO.out]; exact hlt0 : Lib.compareBytes (lastK [] (l.take i)) (keyL c) < 0); rw [HKl.out, hp] at this; exact this
          have hbc := bc_small (c := c) ⟨HOk.out, HCs.out.1.2.2, by have := HCs.out.2.2.2.2; omega⟩
          rw [HKl.out] at hbc
          have hk3 : kl ≤ 3000 := hbc.1
          have HVl := hid hbc.2
          clear hbc hp
          have HAl : Hid (∀ W gk capk, KeySt W g (.slice Aa la ca) (lastK [] (l.take i)) → RowG W w.heap.size gk capk (keyL c) → Calls Tryz.prog 41 #[.slice Aa la ca, .slice (some ⟨gk, 0, none⟩) kl capk] W fun e w' => e = .returned (.int .i64 (p : Int)) ∧ Below W.heap.size W w') := fun W gk capk h1 h2 => by
            obtain ⟨A', c', e, hh, _⟩ := h1
            injection e with e1 e2 e3
            subst e1 e3
            have hll : (lastK [] (l.take i)).length ≤ 1000000 := by have := HI.out.1.len; omega
            have := alike_any Aa (some ⟨gk, 0, none⟩) ca capk (lastK [] (l.take i)) (keyL c) hll W hh (fun _ => ⟨gk, 0, rfl, h2.holds⟩)
            rw [HLa.out, HKl.out, HP.out] at this
            exact this
          obtain ⟨N, hN⟩ : ∃ N, numW p = N := ⟨_, rfl⟩
          have HNN := hid hN
          have HNm : Hid (∀ W, Calls Tryz.prog 38 #[.int .i64 (p : Int)] W fun e w' => ∃ g5 cap5, e = .returned (.slice (some ⟨g5, 0, none⟩) N.length cap5) ∧ Hid (RowG w' W.heap.size g5 cap5 N ∧ Below W.heap.size W w')) := fun W => by
            rw [← hN]
            refine (num_any p (by omega) W).mono fun e w' ⟨v, he, hr, hb⟩ => ?_
            obtain ⟨g5, cap5, rfl, hG⟩ := hr.toG (numW_pos p)
            exact ⟨g5, cap5, he, hG, hb⟩
          have HNl : Hid (N.length ≤ 9 ∧ 0 < N.length) := by rw [← hN]; exact ⟨numW_len9 p (by omega), numW_pos p⟩
          have hN9 := HNl.out.1
          have hnb : nb ≤ 9 + 140 * 6100 := by have := HI.out.2.2.1; omega
          have hdl : ((keyL c).drop p).length = kl - p := by rw [List.length_drop, HKl.out]
          have HDl := hid hdl
          clear hN hdl hN9
          by_cases hk1 : c.k = 1
          · obtain ⟨vl, hvl⟩ : ∃ vl, (valL c).length = vl := ⟨_, rfl⟩
            have HVL := hid hvl
            have HK1 := hid hk1
            have hke : ((c.k : Int) == 1) = true := by simp [hk1]
            have HVe : Hid (∀ W, Below w.heap.size w W → Calls Tryz.prog 43 #[.agg #[.int .i64 c.vk, .int .i64 c.vn, .string c.s]] W fun e w' => ∃ gv capv, e = .returned (.tuple #[.slice (some ⟨gv, 0, none⟩) vl capv, .bool true]) ∧ Hid (RowG w' W.heap.size gv capv (valL c) ∧ Below W.heap.size W w')) := fun W hW => by
              refine (venc_c hk1 HOk.out HCs.out.1 W (HL.out.below hW)).mono fun e w' ⟨v, he, hr, hb⟩ => ?_
              obtain ⟨gv, capv, rfl, hG⟩ := hr.toG (valL_pos c)
              rw [hvl] at he
              exact ⟨gv, capv, he, hG, hb⟩
            have HB9 : Hid (∀ n6 n7, (numW n ++ restB [] (l.take i) ++ N).length = n6 → (numW n ++ restB [] (l.take i) ++ N ++ (numW (kl - p) ++ (keyL c).drop p)).length = n7 → n7 + vl ≤ 900000) := fun n6 n7 h1 h2 => by
              have h3 := HI.out.2.1
              have h4 := HVl.out
              have h5 := HNl.out.1
              have h6 := numW_len9 (kl - p) (by omega)
              have h7 := HDl.out
              rw [hvl] at h4
              simp only [List.length_append] at h1 h2 h3
              omega
            clear hvl hk1
            go_upto_region 16 with (first
              | (go_at_call 39; refine HKt.out.mono ?_; rintro e w2 ⟨gk, capk, rfl, H2⟩; have hcapk : kl ≤ capk := (by have := H2.out.1.key.caps.1; rw [HKl.out] at this; exact this); have hcapm : capk ≤ 9223372036854775807 := H2.out.1.key.caps.2)
              | (go_at_call 40; refine (HCm.out _ _ _ H2.out.2 H2.out.1.key).mono ?_; rintro e w3 ⟨rfl, rfl⟩)
              | (go_at_call 41; refine (HAl.out _ _ _ H2.out.2 H2.out.1.key).mono ?_; rintro e w4 ⟨rfl, hb4⟩; have H4 := hid (H2.out.1.below hb4); clear hb4)
              | (go_at_call 38; refine (HNm.out _).mono ?_; rintro e w5 ⟨g5, cap5, rfl, H5⟩; have H5b := hid (H4.out.below H5.out.2))
              | (at_builtin; refine wpList_append_g rfl (.tmp 41) (.tmp 43) rfl w5 w.heap.size g cap _ nb HI.out.2.1.symm ?_ H5b.out.row g5 0 N.length cap5 N rfl ?_ HNl.out.2 H5.out.1.holds (by have := HI.out.2.1; have := HNl.out; omega) H5b.out.bel.size ?_; rfl; rfl; intro g6 cap6 w6 n6 hn6 hG6 hg6 hd6; have H6 := hid (H5b.out.step hG6 hg6 hd6); clear hG6 hg6 hd6)
              | (go_at_call 42; have hq7 := abytes_at w.heap.size g6 cap6 _ gk p (capk - p) ((keyL c).drop p) n6 (kl - p) hn6.out HDl.out (by omega) (by have h1 := hn6.out; rw [List.length_append, HI.out.2.1] at h1; have := HNl.out.1; omega) w6 H6.out.row (by have h1 := H6.out.key.holds.drop p; rwa [Nat.zero_add] at h1) H6.out.ne H6.out.bel.size; refine hq7.mono ?_; rintro e w7 ⟨g7, cap7, n7, rfl, H7a⟩; have H7 := hid (H6.out.step H7a.out.2.1 H7a.out.2.2.1 H7a.out.2.2.2); obtain ⟨z0, z1, z2, z3, z4, z5, z6, z7⟩ := blkc_words H7.out.box)
              | (go_at_call 43; refine (HVe.out w7 H7.out.bel).mono ?_; rintro e w8 ⟨gv, capv, rfl, H8a⟩; have H8 := hid (H7.out.below H8a.out.2)))
            go_wp2_with (first
              | (go_at_call 42; have hq9 := abytes_at w.heap.size g7 cap7 _ gv 0 capv (valL c) n7 vl H7a.out.1 HVL.out (by have := valL_pos c; have := HVL.out; omega) (HB9.out n6 n7 hn6.out H7a.out.1) w8 H8.out.row H8a.out.1.holds (by have := H8a.out.1.lt.1; have := H7.out.row.lt.2; omega) H8.out.bel.size; refine hq9.mono ?_; rintro e w9 ⟨g9, cap9, n9, rfl, H9a⟩; have H9 := hid (H8.out.step H9a.out.2.1 H9a.out.2.2.1 H9a.out.2.2.2)))
            go_roundw
            case rel =>
              refine ⟨i + 1, _, _, _, by omega, by go_num, rfl, ?_⟩
              have ho : _ = numW n ++ restB [] (l.take (i + 1)) := out_put HTk.out HP.out HKl.out HVL.out HK1.out
              have hl1 : lastK [] (l.take (i + 1)) = keyL c := by rw [HTk.out, lastK_snoc]
              have h1 := H9a.out.1
              have h2 := BuR.next H9.out (by rw [HKl.out]; exact hk3)
              rw [HNN.out.symm] at h1 h2
              rw [ho] at h1 h2
              rw [HKl.out] at h2
              rw [hl1]
              refine ⟨h2, h1, ?_, ?_⟩
              · have h3 := congrArg List.length ho
                rw [h1] at h3
                simp only [List.length_append] at h3
                have h4 := HI.out.2.1
                simp only [List.length_append] at h4
                have h5 := HI.out.2.2.1
                have := HNl.out.1
                have h6 := HNN.out
                have := numW_len9 (kl - p) (by omega)
                have := HDl.out
                have := HVl.out; have := HVL.out; have := numW_len9 vl (by omega)
                rw [h6] at h3
                omega
              · rw [HTk.out, fineK_snoc, HI.out.2.2.2, HOk.out, decide_eq_true (by rw [HO.out]; exact hlt0)]
                rfl
            case measure => simp [intOf]; omega
          · have HK1 := hid hk1
            have hke : ((c.k : Int) == 1) = false := by simp [hk1]
            clear hk1
            go_wp2_with (first
              | (go_at_call 39; refine HKt.out.mono ?_; rintro e w2 ⟨gk, capk, rfl, H2⟩; have hcapk : kl ≤ capk := (by have := H2.out.1.key.caps.1; rw [HKl.out] at this; exact this); have hcapm : capk ≤ 9223372036854775807 := H2.out.1.key.caps.2)
              | (go_at_call 40; refine (HCm.out _ _ _ H2.out.2 H2.out.1.key).mono ?_; rintro e w3 ⟨rfl, rfl⟩)
              | (go_at_call 41; refine (HAl.out _ _ _ H2.out.2 H2.out.1.key).mono ?_; rintro e w4 ⟨rfl, hb4⟩; have H4 := hid (H2.out.1.below hb4); clear hb4)
              | (go_at_call 38; refine (HNm.out _).mono ?_; rintro e w5 ⟨g5, cap5, rfl, H5⟩; have H5b := hid (H4.out.below H5.out.2))
              | (at_builtin; refine wpList_append_g rfl (.tmp 41) (.tmp 43) rfl w5 w.heap.size g cap _ nb HI.out.2.1.symm ?_ H5b.out.row g5 0 N.length cap5 N rfl ?_ HNl.out.2 H5.out.1.holds (by have := HI.out.2.1; have := HNl.out; omega) H5b.out.bel.size ?_; rfl; rfl; intro g6 cap6 w6 n6 hn6 hG6 hg6 hd6; have H6 := hid (H5b.out.step hG6 hg6 hd6); clear hG6 hg6 hd6)
              | (go_at_call 42; have hq7 := abytes_at w.heap.size g6 cap6 _ gk p (capk - p) ((keyL c).drop p) n6 (kl - p) hn6.out HDl.out (by omega) (by have h1 := hn6.out; rw [List.length_append, HI.out.2.1] at h1; have := HNl.out.1; omega) w6 H6.out.row (by have h1 := H6.out.key.holds.drop p; rwa [Nat.zero_add] at h1) H6.out.ne H6.out.bel.size; refine hq7.mono ?_; rintro e w7 ⟨g7, cap7, n7, rfl, H7a⟩; have H7 := hid (H6.out.step H7a.out.2.1 H7a.out.2.2.1 H7a.out.2.2.2); obtain ⟨z0, z1, z2, z3, z4, z5, z6, z7⟩ := blkc_words H7.out.box))
            go_roundw
            case rel =>
              refine ⟨i + 1, _, _, _, by omega, by go_num, rfl, ?_⟩
              have ho : _ = numW n ++ restB [] (l.take (i + 1)) := out_other HTk.out HP.out HKl.out HK1.out
              have hl1 : lastK [] (l.take (i + 1)) = keyL c := by rw [HTk.out, lastK_snoc]
              have h1 := H7a.out.1
              have h2 := BuR.next H7.out (by rw [HKl.out]; exact hk3)
              rw [HNN.out.symm] at h1 h2
              rw [ho] at h1 h2
              rw [HKl.out] at h2
              rw [hl1]
              refine ⟨h2, h1, ?_, ?_⟩
              · have h3 := congrArg List.length ho
                rw [h1] at h3
                simp only [List.length_append] at h3
                have h4 := HI.out.2.1
                simp only [List.length_append] at h4
                have h5 := HI.out.2.2.1
                have := HNl.out.1
                have h6 := HNN.out
                have := numW_len9 (kl - p) (by omega)
                have := HDl.out
                skip
                rw [h6] at h3
                omega
              · rw [HTk.out, fineK_snoc, HI.out.2.2.2, HOk.out, decide_eq_true (by rw [HO.out]; exact hlt0)]
                rfl
            case measure => simp [intOf]; omega
        · have hoz : 0 ≤ o := by omega
          have HFf : Hid (¬ F = true) := fun e => by
            have := HFo.out e
            rw [HO.out] at this
            exact hlt0 this
          go_wp2_with (first
            | (go_at_call 39; refine HKt.out.mono ?_; rintro e w2 ⟨gk, capk, rfl, H2⟩)
            | (go_at_call 40; refine (HCm.out _ _ _ H2.out.2 H2.out.1.key).mono ?_; rintro e w3 ⟨rfl, rfl⟩))
          go_ret2
          refine ⟨H2.out.1.bel, ?_⟩
          unfold BuEnd; rw [if_neg HFf.out]
          rfl
    · obtain rfl : i = n := by omega
      have HE : Hid (numW i ++ restB [] (l.take i) = blockB l ∧ F = true) := by
        have e : l.take i = l := by rw [← HN.out, List.take_length]
        have h1 := HI.out.2.2.2
        rw [e] at h1 ⊢
        exact ⟨by unfold blockB; rw [HN.out], HF.out.trans h1⟩
      go_wp2
      go_ret2
      refine ⟨HI.out.1.bel, ?_⟩
      unfold BuEnd
      rw [if_pos HE.out.2]
      refine ⟨_, rfl, ?_⟩
      have h1 := HI.out.1.row.2
      rw [HI.out.2.1, HE.out.1] at h1
      exact h1
end Go.Proofs.YtjbjdkginemedaaGreatDoor
