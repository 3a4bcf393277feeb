/- slices.SortStableFunc over cells: the cells in order, what is alike in the order in which it came. Conditions: the comparison is a strict weak order; fewer than 2^60 cells. -/
import Derived.Test.YtfcnobcpnhfgmaaDoorGE
import Derived.Test.YtfcnobcpnhfgmaaDoorGF
namespace Go.Proofs.YtfcnobcpnhfgmaaDoor
open Go.Shelf Go.RowKit Go.Lib Go.Sort

section
variable {α : Type} [Inhabited α] {lt : α → α → Bool} {tg : α → Nat}
/-- A stretch that is sorted, and holds its own tags. -/
def BkO (lt : α → α → Bool) (tg : α → Nat) (lo hi : Nat) (d : Array α) : Prop := RS lt tg lo hi d ∧ ∀ i, lo ≤ i → i < hi → lo ≤ tg d[i]! ∧ tg d[i]! < hi
theorem BkO.none {lo hi : Nat} {d : Array α} (h : hi ≤ lo) : BkO lt tg lo hi d := ⟨fun i j h1 h2 h3 => by omega, fun i h1 h2 => by omega⟩
theorem BkO.keep {lo hi : Nat} {d d' : Array α} (h : BkO lt tg lo hi d) (hk : ∀ i, lo ≤ i → i < hi → d'[i]! = d[i]!) : BkO lt tg lo hi d' :=
  ⟨fun i j h1 h2 h3 => by rw [hk i h1 (by omega), hk j (by omega) h3]; exact h.1 i j h1 h2 h3, fun i h1 h2 => by rw [hk i h1 h2]; exact h.2 i h1 h2⟩
theorem BkO.tl {a m b : Nat} {d : Array α} (h1 : BkO lt tg a m d) (h2 : BkO lt tg m b d) : TL tg a m b d := fun i j q1 q2 q3 q4 => by
  have := (h1.2 i q1 q2).2
  have := (h2.2 j q3 q4).1
  omega
theorem BkO.merge {a m b : Nat} {d d' : Array α} (h1 : BkO lt tg a m d) (h2 : BkO lt tg m b d) (hb : b ≤ d.size) (ham : a ≤ m) (hmb : m ≤ b) (h : Mrg lt tg a b d d') : BkO lt tg a b d' :=
  ⟨h.2, permIn_all d d' a b (fun z => a ≤ tg z ∧ tg z < b) hb h.1 fun i q1 q2 => by
    by_cases hi : i < m
    · have := h1.2 i q1 hi; omega
    · have := h2.2 i (by omega) q2; omega⟩
theorem BkO.ins {a b : Nat} {d d' : Array α} (hb : b ≤ d.size) (ht : ∀ i, a ≤ i → i < b → tg d[i]! = i) (h : Mrg lt tg a b d d') : BkO lt tg a b d' :=
  ⟨h.2, permIn_all d d' a b (fun z => a ≤ tg z ∧ tg z < b) hb h.1 fun i q1 q2 => by rw [ht i q1 q2]; exact ⟨q1, q2⟩⟩
theorem ti_of {a b : Nat} {d : Array α} (ht : ∀ i, a ≤ i → i < b → tg d[i]! = i) : TI tg a b d := fun i j h1 h2 h3 => by rw [ht i h1 (by omega), ht j (by omega) h3]; exact h2

/-- The first loop: so many stretches of twenty are sorted. -/
structure St1 (lt : α → α → Bool) (tg : α → Nat) (q : Nat) (d0 d : Array α) : Prop where
  done : ∀ q', q' < q → BkO lt tg (q' * 20) (q' * 20 + 20) d
  rest : ∀ i, q * 20 ≤ i → i < d0.size → tg d[i]! = i
  perm : PermIn 0 d0.size d0 d
  size : d.size = d0.size
theorem St1.next {q : Nat} {d0 d d' : Array α} (h : St1 lt tg q d0 d) (hb : q * 20 + 20 ≤ d0.size) (hm : Mrg lt tg (q * 20) (q * 20 + 20) d d') : St1 lt tg (q + 1) d0 d' := by
  have hz := h.size
  refine ⟨fun q' hq => ?_, fun i h1 h2 => ?_, permIn_trans _ _ _ _ _ h.perm (permIn_mono _ _ _ _ _ _ (by omega) hb (by omega) hm.1), by rw [hm.1.1, hz]⟩
  · by_cases e : q' = q
    · subst e
      exact BkO.ins (by omega) (fun i h1 h2 => h.rest i h1 (by omega)) hm
    · exact (h.done q' (by omega)).keep fun i h1 h2 => hm.1.2.1 i (by omega)
  · rw [hm.1.2.1 i (by omega)]
    exact h.rest i (by omega) h2
/-- All stretches of bs are sorted. -/
structure St2 (lt : α → α → Bool) (tg : α → Nat) (bs : Nat) (d0 d : Array α) : Prop where
  all : ∀ q, BkO lt tg (q * bs) (min (q * bs + bs) d0.size) d
  perm : PermIn 0 d0.size d0 d
  size : d.size = d0.size
theorem St1.fin {q : Nat} {d0 d d' : Array α} (h : St1 lt tg q d0 d) (h1 : q * 20 ≤ d0.size) (h2 : d0.size < q * 20 + 20) (hm : Mrg lt tg (q * 20) d0.size d d') : St2 lt tg 20 d0 d' := by
  have hz := h.size
  refine ⟨fun q' => ?_, permIn_trans _ _ _ _ _ h.perm (permIn_mono _ _ _ _ _ _ (by omega) (Nat.le_refl _) (by omega) hm.1), by rw [hm.1.1, hz]⟩
  by_cases c1 : q' < q
  · rw [Nat.min_eq_left (by omega)]
    exact (h.done q' c1).keep fun i a1 a2 => hm.1.2.1 i (by omega)
  · by_cases c2 : q' = q
    · subst c2
      rw [Nat.min_eq_right (by omega)]
      exact BkO.ins (by omega) (fun i a1 a2 => h.rest i a1 a2) hm
    · exact BkO.none (by omega)
/-- The inner loop of the second: so many pairs of stretches of bs are merged; A is where it is. -/
structure St3 (lt : α → α → Bool) (tg : α → Nat) (bs q A : Nat) (d0 d : Array α) : Prop where
  eA : A = q * (2 * bs)
  done : ∀ q', q' < q → BkO lt tg (q' * (2 * bs)) (q' * (2 * bs) + 2 * bs) d
  rest : ∀ q', 2 * q ≤ q' → BkO lt tg (q' * bs) (min (q' * bs + bs) d0.size) d
  perm : PermIn 0 d0.size d0 d
  size : d.size = d0.size
theorem St2.start {bs : Nat} {d0 d : Array α} (h : St2 lt tg bs d0 d) : St3 lt tg bs 0 0 d0 d := ⟨by omega, fun q' hq => absurd hq (by omega), fun q' _ => h.all q', h.perm, h.size⟩
theorem two_mul_q (q bs : Nat) : 2 * q * bs = q * (2 * bs) ∧ (2 * q + 1) * bs = q * (2 * bs) + bs := by
  have h1 : 2 * q * bs = q * (2 * bs) := by rw [Nat.mul_comm 2 q, Nat.mul_assoc]
  exact ⟨h1, by rw [Nat.add_mul, h1, Nat.one_mul]⟩
theorem St3.left {bs q A : Nat} {d0 d : Array α} (h : St3 lt tg bs q A d0 d) (h1 : A + bs ≤ d0.size) : BkO lt tg A (A + bs) d := by
  have := h.rest (2 * q) (Nat.le_refl _)
  rwa [(two_mul_q q bs).1, ← h.eA, Nat.min_eq_left h1] at this
theorem St3.right {bs q A : Nat} {d0 d : Array α} (h : St3 lt tg bs q A d0 d) : BkO lt tg (A + bs) (min (A + bs + bs) d0.size) d := by
  have := h.rest (2 * q + 1) (by omega)
  rwa [(two_mul_q q bs).2, ← h.eA] at this
theorem St3.last {bs q A : Nat} {d0 d : Array α} (h : St3 lt tg bs q A d0 d) (h1 : d0.size ≤ A + bs) : BkO lt tg A d0.size d := by
  have := h.rest (2 * q) (Nat.le_refl _)
  rwa [(two_mul_q q bs).1, ← h.eA, Nat.min_eq_right h1] at this
theorem mul_step {a b c : Nat} (h : a < b) : a * c + c ≤ b * c := by
  have := Nat.mul_le_mul_right c (show a + 1 ≤ b from h)
  rwa [Nat.add_mul, Nat.one_mul] at this
theorem St3.next {bs q A : Nat} {d0 d d' : Array α} (h : St3 lt tg bs q A d0 d) (hb : A + 2 * bs ≤ d0.size) (hm : Mrg lt tg A (A + 2 * bs) d d') : St3 lt tg bs (q + 1) (A + 2 * bs) d0 d' := by
  have hz := h.size
  have e := h.eA
  refine ⟨by rw [Nat.add_mul, Nat.one_mul, e], fun q' hq => ?_, fun q' hq => ?_, permIn_trans _ _ _ _ _ h.perm (permIn_mono _ _ _ _ _ _ (by omega) hb (by omega) hm.1), by rw [hm.1.1, hz]⟩
  · by_cases c : q' = q
    · subst c
      rw [← e]
      have hr := h.right
      rw [Nat.min_eq_left (by omega)] at hr
      have := (h.left (by omega)).merge hr (by omega) (by omega) (by omega) (by rwa [show A + bs + bs = A + 2 * bs by omega])
      rwa [show A + bs + bs = A + 2 * bs by omega] at this
    · have h2 := mul_step (c := 2 * bs) (show q' < q by omega)
      exact (h.done q' (by omega)).keep fun i a1 a2 => hm.1.2.1 i (by omega)
  · have h2 : 2 * q * bs + 2 * bs ≤ q' * bs := by
      have := Nat.mul_le_mul_right bs (show 2 * q + 2 ≤ q' by omega)
      rwa [Nat.add_mul] at this
    rw [(two_mul_q q bs).1, ← e] at h2
    exact (h.rest q' (by omega)).keep fun i a1 a2 => hm.1.2.1 i (by omega)
theorem St3.fin {bs q A : Nat} {d0 d d' : Array α} (h : St3 lt tg bs q A d0 d) (h1 : A ≤ d0.size) (h2 : d0.size < A + 2 * bs) (hz' : d'.size = d.size) (hp : PermIn A d0.size d d') (hm : BkO lt tg A d0.size d') : St2 lt tg (2 * bs) d0 d' := by
  have hz := h.size
  have e := h.eA
  refine ⟨fun q' => ?_, permIn_trans _ _ _ _ _ h.perm (permIn_mono _ _ _ _ _ _ (by omega) (Nat.le_refl _) (by omega) hp), by rw [hz', hz]⟩
  by_cases c1 : q' < q
  · have k := mul_step (c := 2 * bs) c1
    rw [Nat.min_eq_left (by omega)]
    exact (h.done q' c1).keep fun i a1 a2 => hp.2.1 i (by omega)
  · by_cases c2 : q' = q
    · subst c2
      rw [← e, Nat.min_eq_right (by omega)]
      exact hm
    · have k := mul_step (c := 2 * bs) (show q < q' by omega)
      exact BkO.none (by omega)
theorem St2.sorted {bs : Nat} {d0 d : Array α} (h : St2 lt tg bs d0 d) (hb : d0.size ≤ bs) : RS lt tg 0 d0.size d := by
  have := (h.all 0).1
  rwa [Nat.zero_mul, Nat.min_eq_right (by omega)] at this
end

variable {P : Program} {k : Nat} {α : Type} [Inhabited α]

set_option maxHeartbeats 8000000 in
set_option maxRecDepth 1000000 in
theorem stable_any (L : SLP P k) (enc : α → List Value) (cf : α → α → Int) (tg : α → Nat) (g : Nat) (cb : Array Value) (blk off cap : Nat) (d0 : Array α) (w0 w : World)
    (eg : ∀ args w, (callFunc g args).run P w = .ok (.enter g args) w) (hcmp : CmpLays P g cb enc k cf blk off d0.size w0) (R : RowK enc k w0 blk off d0) (S : SWK enc k w0 blk off d0 w) (hO : SWO (ltOf cf)) (hsz : d0.size < 1152921504606846976)
    (ht : ∀ i, i < d0.size → tg d0[i]! = i) :
    Calls P 143 #[.slice (some ⟨blk, off, none⟩) d0.size cap, .int .i64 (d0.size : Int), .func (.func g) #[] cb] w fun e w' => e = .returned (.tuple #[]) ∧ ∃ d', SWK enc k w0 blk off d' w' ∧ PermIn 0 d0.size d0 d' ∧ RS (ltOf cf) tg 0 d0.size d' := by
  have mixed := L.mixed; have t0 := L.t0; have a0 := L.a0; have z0 := L.z0; have v0 := L.v0; have t3 := L.t3; have a3 := L.a3; have z3 := L.z3; have v3 := L.v3; have t4 := L.t4; have a4 := L.a4; have z4 := L.z4; have v4 := L.v4; have t22 := L.tS; have a22 := L.aS; have z22 := L.zS; have v22 := L.vS; have t25 := L.tF; have a25 := L.aF; have z25 := L.zF; have v25 := L.vF; have tU := L.tU; have aU := L.aU; have zU := L.zU; have vU := L.vU
  have FG := L.fs
  have S0 : Aside (SWK enc k w0 blk off d0 w) := S
  have eI : ∀ args w, (callFunc 161 args).run P w = .ok (.enter 161 args) w := enters_of L.fi (by kernel_rfl) rfl
  have eM : ∀ args w, (callFunc 162 args).run P w = .ok (.enter 162 args) w := enters_of L.fm (by kernel_rfl) rfl
  obtain ⟨n, hn⟩ : ∃ n, d0.size = n := ⟨_, rfl⟩
  have HN : Hid (d0.size = n) := hn
  have HIns : Hid (∀ (dk : Array α) (wk : World) (a b : Nat), dk.size = n → SWK enc k w0 blk off dk wk → b ≤ n → a ≤ b → TI tg a b dk → Calls P 161 #[.slice (some ⟨blk, off, none⟩) n cap, .int .i64 (a : Int), .int .i64 (b : Int), .func (.func g) #[] cb] wk fun e w' => e = .returned (.tuple #[]) ∧ ∃ d', SWK enc k w0 blk off d' w' ∧ Mrg (ltOf cf) tg a b dk d') := fun dk wk a b h1 h2 h3 h4 h5 => by
    have := insertion_any L enc cf tg g cb blk off cap a b d0 dk w0 wk eg hcmp R (by omega) h2 hO (by omega) (by omega) h4 h5
    rwa [h1] at this
  have HMr : Hid (∀ (dk : Array α) (wk : World) (a m b : Nat), dk.size = n → SWK enc k w0 blk off dk wk → a < m → m < b → b ≤ n → RS (ltOf cf) tg a m dk → RS (ltOf cf) tg m b dk → TL tg a m b dk → Calls P 162 #[.slice (some ⟨blk, off, none⟩) n cap, .int .i64 (a : Int), .int .i64 (m : Int), .int .i64 (b : Int), .func (.func g) #[] cb] wk fun e w' => e = .returned (.tuple #[]) ∧ ∃ d', SWK enc k w0 blk off d' w' ∧ Mrg (ltOf cf) tg a b dk d') := fun dk wk a m b h1 h2 h3 h4 h5 h6 h7 h8 => by
    have := symMerge_any L enc cf tg g cb blk off cap d0 w0 eg hcmp R hO (by omega) (b - a) dk a m b wk (Nat.le_refl _) h3 h4 (by omega) (by omega) h2 h6 h7 h8
    rwa [hn] at this
  have HS0 : Hid (St1 (ltOf cf) tg 0 d0 d0) := ⟨fun q' hq => absurd hq (by omega), fun i _ h => ht i h, permIn_refl d0 0 d0.size, rfl⟩
  rw [hn] at hsz ⊢
  clear hcmp S hO ht hn
  go_enter FG, Tryd.ntmps143
  go_wp2
  go_loopg [7, 8] (n + 20) (fun kx s7 s8 wr => ∃ (q : Nat) (dk : Array α), s7 = .int .i64 ((q * 20 : Nat) : Int) ∧ s8 = .int .i64 ((q * 20 + 20 : Nat) : Int) ∧ q * 20 ≤ n ∧ n + 20 - q * 20 ≤ kx ∧ Aside (SWK enc k w0 blk off dk wr) ∧ Hid (St1 (ltOf cf) tg q d0 dk))
  case atStart => exact ⟨0, d0, rfl, rfl, by omega, by omega, S0, HS0⟩
  case round =>
    clear S0 HS0
    obtain ⟨q, dk, rfl, rfl, hqn, hkx, S1, HS⟩ := hrel
    obtain ⟨A, hA⟩ : ∃ A, q * 20 = A := ⟨_, rfl⟩
    rw [hA] at hqn hkx
    have hA2 : ((q * 20 : Nat) : Int) = (A : Int) := by rw [hA]
    have hA3 : ((q * 20 + 20 : Nat) : Int) = (A : Int) + 20 := by omega
    rw [hA2, hA3]
    have HA : Hid (q * 20 = A) := hA
    clear hA hA2 hA3
    have hdk : dk.size = n := HS.out.size.trans HN.out
    by_cases hlt : A + 20 ≤ n
    · have hltz : (A : Int) + 20 ≤ (n : Int) := by omega
      have hcall := HIns.out dk wr A (A + 20) hdk S1.out hlt (by omega) (ti_of fun i h1 h2 => HS.out.rest i (by have := HA.out; omega) (by have := HN.out; omega))
      have hc2 : ((A + 20 : Nat) : Int) = (A : Int) + 20 := by omega
      rw [hc2] at hcall
      clear S1
      go_wp2_with (go_at_fn 161; refine hcall.mono ?_; rintro e w1 ⟨rfl, d1, S3, h1⟩)
      go_roundg (n + 20 - (q + 1) * 20)
      case measure => have := HA.out; omega
      case rel =>
        have hq := HA.out
        subst hq
        exact ⟨q + 1, d1, by congr 1; omega, by first | (congr 1; omega) | go_num, by omega, by omega, S3, HS.out.next (by have := HN.out; omega) h1⟩
    · have hltz : ¬ (A : Int) + 20 ≤ (n : Int) := by omega
      have hcall := HIns.out dk wr A n hdk S1.out (Nat.le_refl _) hqn (ti_of fun i h1 h2 => HS.out.rest i (by have := HA.out; omega) (by have := HN.out; omega))
      clear S1
      go_wp2_with (go_at_fn 161; refine hcall.mono ?_; rintro e w1 ⟨rfl, d1, S3, h1⟩)
      have HS2 : Hid (St2 (ltOf cf) tg 20 d0 d1) := by
        have hq := HA.out
        subst hq
        have := HS.out.fin (d' := d1) (by have := HN.out; omega) (by have := HN.out; omega) (by rw [HN.out]; exact h1)
        exact this
      clear HS h1 hcall
      go_loopg [6, 7, 8, 9] n (fun kx s6 s7 s8 s9 wr => ∃ (bs : Nat) (dj : Array α), s6 = .int .i64 (bs : Int) ∧ 1 ≤ bs ∧ bs ≤ 2305843009213693952 ∧ n - bs ≤ kx ∧ Aside (SWK enc k w0 blk off dj wr) ∧ Hid (St2 (ltOf cf) tg bs d0 dj))
      case atStart => exact ⟨20, d1, rfl, by omega, by omega, by omega, S3, HS2⟩
      case round =>
        clear S3 HS2
        obtain ⟨bs, dj, rfl, hbs1, hbs2, hkx2, S3, HT⟩ := hrel
        by_cases hbn : bs < n
        · have hbnz : (bs : Int) < (n : Int) := by omega
          have h2b : (2 : Int) * (bs : Int) = ((2 * bs : Nat) : Int) := by omega
          have hb2 : (bs : Int) * 2 = ((2 * bs : Nat) : Int) := by omega
          obtain ⟨c, hc⟩ : ∃ c, 2 * bs = c := ⟨_, rfl⟩
          rw [hc] at h2b hb2
          have HC : Hid (2 * bs = c) := hc
          have hcb : bs ≤ c := by omega
          have hc1 : 1 ≤ c := by omega
          have hcn : c < 2 * n := by omega
          clear hc
          go_wp2
          go_loopg [7, 8] (n + c) (fun kx s7 s8 wr => ∃ (q A : Nat) (dm : Array α), s7 = .int .i64 (A : Int) ∧ s8 = .int .i64 ((A : Int) + (c : Int)) ∧ A ≤ n ∧ n + c - A ≤ kx ∧ Aside (SWK enc k w0 blk off dm wr) ∧ Hid (St3 (ltOf cf) tg bs q A d0 dm))
          case atStart => exact ⟨0, 0, dj, rfl, by first | rfl | (congr 1; omega), by omega, by omega, S3, HT.out.start⟩
          case round =>
            clear S3
            obtain ⟨q2, A2, dm, rfl, rfl, hA2n, hkx3, S4, HU⟩ := hrel
            have hdm : dm.size = n := HU.out.size.trans HN.out
            have hab : (A2 : Int) + (bs : Int) = ((A2 + bs : Nat) : Int) := by omega
            obtain ⟨m, hm⟩ : ∃ m, A2 + bs = m := ⟨_, rfl⟩
            rw [hm] at hab
            have HM : Hid (A2 + bs = m) := hm
            have hAm : A2 < m := by omega
            clear hm
            by_cases hl2 : A2 + c ≤ n
            · have hl2z : (A2 : Int) + (c : Int) ≤ (n : Int) := by omega
              have hmc : m < A2 + c := by have := HM.out; have := HC.out; omega
              have hlf : BkO (ltOf cf) tg A2 m dm := by have := HU.out.left (by have := HM.out; have := HN.out; have := HC.out; omega); rwa [HM.out] at this
              have hrt : BkO (ltOf cf) tg m (A2 + c) dm := by
                have := HU.out.right
                have e : m + bs = A2 + c := by have := HM.out; have := HC.out; omega
                rwa [HM.out, e, HN.out, Nat.min_eq_left hl2] at this
              have hcall := HMr.out dm wr A2 m (A2 + c) hdm S4.out hAm hmc hl2 hlf.1 hrt.1 (hlf.tl hrt)
              have hc3 : ((A2 + c : Nat) : Int) = (A2 : Int) + (c : Int) := by omega
              rw [hc3] at hcall
              clear S4 hlf hrt
              go_wp2_with (go_at_fn 162; refine hcall.mono ?_; rintro e w2 ⟨rfl, d2, S5, h2⟩)
              go_roundg (n + c - (A2 + c))
              case measure => omega
              case rel =>
                have HUn := HU.out.next (d' := d2) (by have := HN.out; have := HC.out; omega) (by rw [HC.out]; exact h2)
                rw [HC.out] at HUn
                exact ⟨q2 + 1, A2 + c, d2, by first | rfl | (congr 1; omega) | go_num, by first | rfl | (congr 1; omega) | go_num, by omega, by omega, S5, HUn⟩
            · have hl2z : ¬ (A2 : Int) + (c : Int) ≤ (n : Int) := by omega
              by_cases hmn : m < n
              · have hmnz : (m : Int) < (n : Int) := by omega
                have hlf : BkO (ltOf cf) tg A2 m dm := by have := HU.out.left (by have := HM.out; have := HN.out; omega); rwa [HM.out] at this
                have hrt : BkO (ltOf cf) tg m n dm := by
                  have := HU.out.right
                  rwa [HM.out, HN.out, Nat.min_eq_right (by have := HM.out; have := HC.out; omega)] at this
                have hcall := HMr.out dm wr A2 m n hdm S4.out hAm hmn (Nat.le_refl _) hlf.1 hrt.1 (hlf.tl hrt)
                have HB : Hid (BkO (ltOf cf) tg A2 m dm ∧ BkO (ltOf cf) tg m n dm) := ⟨hlf, hrt⟩
                clear S4 hlf hrt
                go_wp2_with (go_at_fn 162; refine hcall.mono ?_; rintro e w2 ⟨rfl, d2, S5, h2⟩)
                go_roundg (n - c)
                case measure => have := HC.out; omega
                case rel =>
                  refine ⟨c, d2, by first | rfl | go_num, hc1, by omega, by omega, S5, ?_⟩
                  have hfin := HU.out.fin (d' := d2) (by have := HN.out; omega) (by have := HN.out; have := HC.out; omega) h2.1.1 (by rw [HN.out]; exact h2.1) (by rw [HN.out]; exact HB.out.1.merge HB.out.2 (by omega) (by omega) (by omega) h2)
                  rw [HC.out] at hfin
                  exact hfin
              · have hmnz : ¬ (m : Int) < (n : Int) := by omega
                go_wp2
                go_roundg (n - c)
                case measure => have := HC.out; omega
                case rel =>
                  refine ⟨c, dm, by first | rfl | go_num, hc1, by omega, by omega, S4, ?_⟩
                  have hfin := HU.out.fin (d' := dm) (by have := HN.out; omega) (by have := HN.out; have := HC.out; omega) rfl (permIn_refl dm _ _) (HU.out.last (by have := HN.out; have := HM.out; omega))
                  rw [HC.out] at hfin
                  exact hfin
        · have hbnz : ¬ (bs : Int) < (n : Int) := by omega
          go_wp2
          go_end0
          refine ⟨rfl, dj, S3.out, ?_, ?_⟩
          · have := HT.out.perm
            rwa [HN.out] at this
          · have := HT.out.sorted (by have := HN.out; omega)
            rwa [HN.out] at this
end Go.Proofs.YtfcnobcpnhfgmaaDoor
