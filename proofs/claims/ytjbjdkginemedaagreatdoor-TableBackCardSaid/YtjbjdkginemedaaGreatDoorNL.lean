/- Lists of parts in memory; block.fit and block.Cut at every list of cells. Conditions: the argument stands, ten thousand cells at most. -/
import Derived.Test.YtjbjdkginemedaaGreatDoorQ9
import Derived.Test.YtjbjdkginemedaaGreatDoorKD
import Derived.Test.YtjbjdkginemedaaGreatDoorII
import Derived.Test.YtjbjdkginemedaaGreatDoorQA
import Derived.Deep.RegionHeld3
import Derived.Deep.QuietTactic
import Derived.BigQuiet
namespace Go.Proofs.YtjbjdkginemedaaGreatDoor
open Go.RowKit

theorem info_part : (Tryz.prog.info? 22).map (fun i => (i.zero, i.size, i.bytes)) = some (some (.slice none 0 0), 1, 24) := by kernel_rfl

/-- The slice v is the call's own (from block B on) and its elements are rows of the call's own that hold xs. -/
def PRow (w : World) (B : Nat) (v : Value) (xs : List (List CT)) : Prop :=
  ∃ vs : List Value, w.ownsRow B 22 1 v xs.length vs ∧ ∀ (i : Nat) (x : List CT), xs[i]? = some x → ∃ u, vs[i]? = some u ∧ CRow w B u x
theorem PRow.none (w : World) (B : Nat) : PRow w B (.slice none 0 0) [] := ⟨[], ⟨rfl, .inl ⟨rfl, rfl⟩⟩, fun i x h => by simp at h⟩
theorem PRow.len {w : World} {B : Nat} {v : Value} {xs : List (List CT)} (h : PRow w B v xs) : ∃ A c, v = .slice A xs.length c := by
  obtain ⟨vs, ⟨_, h⟩, _⟩ := h
  rcases h with ⟨e, h0⟩ | ⟨g, cap, cur, e, _⟩
  · exact ⟨Option.none, 0, by rw [e, h0]⟩
  · exact ⟨_, _, e⟩
theorem PRow.below {w w' : World} {B : Nat} {v : Value} {xs : List (List CT)} (h : PRow w B v xs) (hb : Below w.heap.size w w') : PRow w' B v xs := by
  obtain ⟨vs, ho, hr⟩ := h
  refine ⟨vs, ?_, fun i x hx => ?_⟩
  · refine ⟨ho.1, ?_⟩
    rcases ho.2 with h2 | ⟨g, cap, cur, rfl, hB, hh, hrest⟩
    · exact .inl h2
    · refine .inr ⟨g, cap, cur, rfl, hB, ?_, hrest⟩
      rw [hb.block g (by rcases Nat.lt_or_ge g w.heap.size with h' | h'
                         · exact h'
                         · rw [Array.getElem?_eq_none h'] at hh; cases hh)]
      exact hh
  · obtain ⟨u, hu, hR⟩ := hr i x hx
    exact ⟨u, hu, hR.below hb⟩
/-- A row of bytes does not lie where a list of rows lies. -/
theorem part_ne_list {w : World} {B : Nat} {u v : Value} {x : List CT} {n : Nat} {vs : List Value} (h : CRow w B u x) (ho : w.ownsRow B 22 1 v n vs) : u.ownBlock = Option.none ∨ u.ownBlock ≠ v.ownBlock := by
  rcases h.2 with ⟨rfl, _⟩ | ⟨g, cap, cur, rfl, _, hh, _⟩
  · exact .inl rfl
  · refine .inr fun e => ?_
    rcases ho.2 with ⟨rfl, _⟩ | ⟨g', cap', cur', rfl, _, hh', _⟩
    · cases e
    · simp only [Value.ownBlock, Option.some.injEq] at e
      rw [← e, hh] at hh'
      simp only [Option.some.injEq, Obj.cells.injEq] at hh'
      exact absurd hh'.2.1 (by decide)
theorem CRow.grown {w w' : World} {B : Nat} {u : Value} {x : List CT} {row : Option Nat} (h : CRow w B u x) (hg : w.grownBy w' row) (hne : u.ownBlock = Option.none ∨ u.ownBlock ≠ row) : CRow w' B u x := World.ownsRow.kept h hg hne

section
variable {ops : Array Oper} {rest : List Oper} {o : Oper} {a : Act} {Q : Exit → Act → World → Prop}
/-- append of one row to a list of the call's own. -/
theorem wpList_append_part (hgd : o.guard = Option.none) (s x : Operand)
    (ho : o.op = .call { callee := .builtin .append, args := #[s, x], argTypes := #[35, 35] })
    (w : World) (base : Nat) (v : Value) (xs : List (List CT)) (hs : a.eval s = v) (hown : PRow w base v xs)
    (G : Nat) (c : Nat) (u : Value) (y : List CT) (hx : a.eval x = .slice (some ⟨G, 0, Option.none⟩) 1 c) (hc : w.cell? ⟨G, 0, Option.none⟩ = some u) (hu : CRow w base u y)
    (hlen : xs.length ≤ 1000000) (hbase : base ≤ w.heap.size)
    (h : ∀ v' w', PRow w' base v' (xs ++ [y]) → Below base w w' → wpList Tryz.prog ops Q rest (a.put o.dst v') w') : wpList Tryz.prog ops Q (o :: rest) a w := by
  obtain ⟨i0, hi, hz0, hz1, hz2⟩ := info_parts info_part
  obtain ⟨vs, how, hr⟩ := hown
  have hvl : vs.length = xs.length := by have := how.1; omega
  refine wpList_append_own w hgd s x 35 ho base 22 i0 (.slice Option.none 0 0) 1 24 Tryz.underlying35 hi hz0 hz1 hz2 rfl (by decide) v xs.length vs hs how ⟨G, 0, Option.none⟩ 1 c [u] hx rfl ?_ ?_ (by unfold maxLen; omega) (by omega) hbase ?_
  · intro j e he
    match j, he with
    | 0, he => simp at he; subst he; rw [add_zero_off]; exact hc
    | j + 1, he => simp at he
  · intro e he
    have : e = u := by simpa using he
    subst this
    rcases hu.2 with ⟨rfl, _⟩ | ⟨g, cap, cur, rfl, _⟩ <;> rfl
  · intro v' w' h1 h2 _
    refine h v' w' ⟨vs ++ [u], by rw [List.length_append]; exact h1, fun i x hx => ?_⟩ ((Below.refl _ _).grown h2 hbase fun k hk => (World.ownsRow.lt how k hk).1)
    by_cases hi' : i < xs.length
    · rw [List.getElem?_append_left hi'] at hx
      obtain ⟨u', hu', hR⟩ := hr i x hx
      exact ⟨u', by rw [List.getElem?_append_left (by omega)]; exact hu', hR.grown h2 (part_ne_list hR how)⟩
    · rw [List.getElem?_append_right (by omega)] at hx
      have hi0 : i - xs.length = 0 := by
        rcases Nat.eq_zero_or_pos (i - xs.length) with e | e
        · exact e
        · rw [List.getElem?_eq_none (by simp; omega)] at hx; cases hx
      rw [hi0] at hx
      have ey : y = x := by simpa using hx
      subst ey
      exact ⟨u, by rw [List.getElem?_append_right (by omega), hvl, hi0]; rfl, hu.grown h2 (part_ne_list hu how)⟩
end


theorem fitGo_stop {size : Int} {i t : Nat} {c : CT} {l : List CT} (h0 : 0 < i) (h : size < ((t + encN c : Nat) : Int)) : fitGo size i t (c :: l) = 0 := by
  unfold fitGo
  rw [if_pos ⟨h0, h⟩]
theorem fitGo_go {size : Int} {i t : Nat} {c : CT} {l : List CT} (h : ¬ (0 < i ∧ size < ((t + encN c : Nat) : Int))) : fitGo size i t (c :: l) = fitGo size (i + 1) (t + encN c) l + 1 := by
  rw [fitGo, if_neg h]
/-- Encode at any cell: how many bytes there are. -/
theorem encn_any (c : CT) (h : okC c) (w : World) (hL : LaidU w) :
    Calls Tryz.prog 112 #[c.v] w fun e w' => ∃ A cap b, e = .returned (.tuple #[.slice A (encN c) cap, .bool b]) ∧ Below w.heap.size w w' := by
  unfold encN
  cases hok : c.ok with
  | true =>
    refine (enc_yes c h hok w hL).mono fun e w' ⟨g, cap, he, hb⟩ => ⟨some ⟨g, 0, none⟩, cap, true, ?_, hb⟩
    rw [if_pos rfl]
    exact he
  | false =>
    refine (enc_no c h hok w hL).mono fun e w' ⟨he, hb⟩ => ⟨none, 0, false, ?_, hb⟩
    rw [if_neg (by simp)]
    exact he
theorem encN_le (c : CT) (h : c.s.size ≤ 1000) (hv : inI c.vn) : encN c ≤ 6000 := by
  unfold encN
  split
  · rename_i hok
    obtain ⟨h1, h2⟩ := bc_small (c := c) ⟨hok, hv, h⟩
    rw [encB_is, List.length_append]
    split
    · omega
    · simp only [List.length_nil]; omega
  · omega

set_option maxRecDepth 100000 in
set_option maxHeartbeats 4000000 in
theorem fit_any (A : Option Addr) (cap : Nat) (l : List CT) (size : Int) (hl : l.length ≤ cap) (hcap : cap ≤ 9223372036854775807) (w : World) (h : 0 < l.length → ∃ b off, A = some ⟨b, off, none⟩ ∧ HC w b off l) (hA : A = none → cap = 0) (hok : ∀ c ∈ l, okC c ∧ c.s.size ≤ 1000) (hL : LaidU w) :
    Calls Tryz.prog 51 #[.slice A l.length cap, .int .i64 size] w fun e w' => e = .returned (.int .i64 (fitN size l : Int)) ∧ Below w.heap.size w w' := by
  have mixed : Tryz.prog.follows .mixedOrders = true := by kernel_rfl
  have HH := hid h
  have HOk := hid hok
  have HL := hid hL
  clear h hok hL
  obtain ⟨m, hm⟩ : ∃ m, l.length = m := ⟨_, rfl⟩
  have HM := hid hm
  rw [hm] at hl ⊢
  clear hm
  obtain ⟨n, hn⟩ : ∃ n : Nat, n = min 1000 m := ⟨_, rfl⟩
  have hmin : min 1000 (m : Int) = (n : Int) := by omega
  have hnm : n ≤ m := by omega
  have hn1 : n ≤ 1000 := by omega
  have HT : Hid ((l.take 1000).length = n) := by show _ = n; rw [List.length_take, HM.out, hn]
  have HE : Hid (∀ i (c : CT), i < n → l[i]? = some c → (l.take 1000).drop i = c :: (l.take 1000).drop (i + 1)) := fun i c hi hc => by
    have h1 : (l.take 1000)[i]? = some c := by rw [List.getElem?_take_of_lt (by omega)]; exact hc
    obtain ⟨h2, rfl⟩ := List.getElem?_eq_some_iff.1 h1
    exact List.drop_eq_getElem_cons h2
  clear hn
  have HFi : Hid (fitN size l = 0 + fitGo size 0 0 ((l.take 1000).drop 0)) := by show _ = _; rw [List.drop_zero, Nat.zero_add]; rfl
  obtain ⟨R, hR⟩ : ∃ R, fitN size l = R := ⟨_, rfl⟩
  have HR := hid hR
  rw [hR] at HFi
  rw [hR]
  clear hR
  have hnc : (n : Int) ≤ (cap : Int) := by omega
  have hn0 : (0 : Int) ≤ (n : Int) := by omega
  have main : ∀ (ad : Option Addr), ad = A → Calls Tryz.prog 51 #[.slice ad m cap, .int .i64 size] w fun e w' => e = .returned (.int .i64 (R : Int)) ∧ Below w.heap.size w w' := by
    rintro ad rfl
    cases ad with
    | none =>
      obtain rfl := hA rfl
      obtain rfl : m = 0 := by omega
      obtain rfl : n = 0 := by omega
      have HR0 : Hid (R = 0) := by
        have h1 := HFi.out
        rw [List.drop_zero, List.eq_nil_of_length_eq_zero HT.out] at h1
        exact h1
      clear hmin
      go_enter Tryz.func51, Tryz.ntmps51
      go_wp2
      refine wp_loop_rounds 1 ?_
      rw [rounds_succ]; go_wp2
      go_ret
      exact ⟨by rw [HR0.out]; rfl, Below.refl _ _⟩
    | some a =>
      go_enter Tryz.func51, Tryz.ntmps51
      go_wp2
      go_loopw [5, 17] (fun vt vi wr => ∃ (i t : Nat), i ≤ n ∧ vi = .int .i64 i ∧ vt = .int .i64 (t : Int) ∧ Hid (R = i + fitGo size i t ((l.take 1000).drop i) ∧ t ≤ i * 6000) ∧ Hid (Below w.heap.size w wr)) (fun _ vi _ => n - (intOf vi).toNat)
      case atStart => exact ⟨0, 0, Nat.zero_le _, rfl, rfl, ⟨HFi.out, Nat.zero_le _⟩, Below.refl _ _⟩
      case round =>
        obtain ⟨i, t, hi, rfl, rfl, HI, HB⟩ := hrel
        by_cases hlt : i < n
        · have hin : i < l.length := by rw [HM.out]; omega
          have hltz : (i : Int) < (n : Int) := by omega
          obtain ⟨b, off, ea, hhc⟩ := HH.out (by omega)
          cases ea
          have hbw : b < w.heap.size := hhc.lt (by omega)
          obtain ⟨c, hc⟩ : ∃ c, l[i]? = some c := ⟨_, List.getElem?_eq_getElem hin⟩
          have HCo : Hid (okC c ∧ c.s.size ≤ 1000) := HOk.out c (List.mem_of_getElem? hc)
          have HDr := hid (HE.out i c hlt hc)
          have HEn : Hid (∀ W, Below w.heap.size w W → Calls Tryz.prog 112 #[c.v] W fun e w' => ∃ A cap b, e = .returned (.tuple #[.slice A (encN c) cap, .bool b]) ∧ Below W.heap.size W w') := fun W hW => encn_any c HCo.out.1 W (HL.out.below hW)
          obtain ⟨a0, a1, a2, a3, a4, a5, a6, a7⟩ := ct_words (hhc.below HB.out hbw) i hc
          clear hhc hc hin
          have HBn := hid (HB.out.trans ((below_new wr (.cells #[.string c.r, .string c.f, .string c.q, .int .i64 c.t, .int .i64 c.k, .int .i64 c.vk, .int .i64 c.vn, .string c.s] 26)).mono HB.out.size))
          obtain ⟨q, hq⟩ : ∃ q, encN c = q := ⟨_, rfl⟩
          have HQ := hid hq
          rw [hq] at HEn
          have hq6 : q ≤ 6000 := by rw [← hq]; exact encN_le c HCo.out.2 HCo.out.1.2.2
          have ht6 : t ≤ 6000000 := by have := HI.out.2; omega
          have htw : ((t : Int) + (q : Int)) = ((t + q : Nat) : Int) := by omega
          clear hq
          by_cases hst : 0 < i ∧ size < ((t + q : Nat) : Int)
          · have hi0 : (0 : Int) < (i : Int) := by omega
            have hst2 : size < (t : Int) + (q : Int) := by omega
            have HS : Hid (R = i) := by
              have h1 := HI.out.1
              rw [HDr.out, fitGo_stop hst.1 (by rw [HQ.out]; exact hst.2)] at h1
              exact h1
            clear htw hst
            go_wp2_with (first
              | (go_at_call 112; refine (HEn.out _ HBn.out).mono ?_; rintro e w2 ⟨A2, c2, b2, rfl, hb2⟩))
            go_ret
            exact ⟨by rw [HS.out]; rfl, HBn.out.trans (hb2.mono HBn.out.size)⟩
          · have HS : Hid (R = i + 1 + fitGo size (i + 1) (t + q) ((l.take 1000).drop (i + 1))) := by
              have h1 := HI.out.1
              rw [HDr.out, fitGo_go (by rw [HQ.out]; exact hst), HQ.out] at h1
              show R = _
              omega
            by_cases hi0 : 0 < i
            · have hi0z : (0 : Int) < (i : Int) := by omega
              have hst2 : ¬ size < (t : Int) + (q : Int) := by omega
              clear htw hst
              go_wp2_with (first
                | (go_at_call 112; refine (HEn.out _ HBn.out).mono ?_; rintro e w2 ⟨A2, c2, b2, rfl, hb2⟩))
              go_roundw
              case rel => exact ⟨i + 1, t + q, by omega, by go_num, by go_num, ⟨HS.out, by have := HI.out.2; omega⟩, HBn.out.trans (hb2.mono HBn.out.size)⟩
              case measure => simp [intOf]; omega
            · obtain rfl : i = 0 := by omega
              simp only [Nat.zero_mul, Nat.add_zero] at a0 a1 a2 a3 a4 a5 a6 a7
              clear htw hst
              go_wp2_with (first
                | (go_at_call 112; refine (HEn.out _ HBn.out).mono ?_; rintro e w2 ⟨A2, c2, b2, rfl, hb2⟩))
              go_roundw
              case rel => exact ⟨1, t + q, by omega, by go_num, by go_num, ⟨HS.out, by have := HI.out.2; omega⟩, HBn.out.trans (hb2.mono HBn.out.size)⟩
              case measure => simp [intOf]; omega
        · obtain rfl : i = n := by omega
          have HS : Hid (R = i) := by
            have h1 := HI.out.1
            rw [List.drop_of_length_le (by rw [HT.out]; omega)] at h1
            exact h1
          go_wp2
          go_ret
          exact ⟨by rw [HS.out]; rfl, HB.out⟩
  exact main A rfl

/-- slices.Clone at cells that stand. -/
theorem clonec_any (ad : Addr) (cap : Nat) (l : List CT) (hl : l.length ≤ 100000) (w : World) (h : ClA w (.slice (some ad) l.length cap) l) :
    Calls Tryz.prog 52 #[.slice (some ad) l.length cap] w fun e w' => ∃ v', e = .returned v' ∧ CRow w' w.heap.size v' l ∧ Below w.heap.size w w' := by
  have q22 : ∀ (w : World) (a : Option Addr) (n c n' c' : Nat), (binOp .eql 22 (.slice a n c) (.slice none n' c')).run Tryz.prog w = .ok (.bool a.isNone) w := fun w a n c n' c' => Lib.run_eql_slice_nil w _ _ a n c n' c' Tryz.underlying22
  have HS := hid h
  have HR := hid (empty_crow w w.heap.size (Nat.le_refl _))
  have HL := hid hl
  clear hl h
  obtain ⟨n, hn⟩ : ∃ n, l.length = n := ⟨_, rfl⟩
  have HN := hid hn
  rw [hn] at HS ⊢
  clear hn
  go_enter Tryz.func52, Tryz.ntmps52
  go_wp2_with (first
    | (at_builtin; refine wpList_append_cells rfl (.tmp 5) (.tmp 6) rfl rfl _ w.heap.size _ [] rfl HR.out _ l rfl (HS.out.below (below_new w _)) (by have := HL.out; simp only [List.length_nil]; omega) (by simp) ?_; intro v' w' hR' hb' _))
  go_ret
  exact ⟨_, rfl, hR', (below_new w _).trans hb'⟩

def lenV : Value → Nat | .slice _ n _ => n | _ => 0
set_option maxRecDepth 100000 in
set_option maxHeartbeats 4000000 in
theorem cut_any (v : Value) (l : List CT) (size : Int) (hl : l.length ≤ 10000) (w : World) (h : ClA w v l) (hok : ∀ c ∈ l, okC c ∧ c.s.size ≤ 1000) (hL : LaidU w) :
    Calls Tryz.prog 16 #[v, .int .i64 size] w fun e w' => ∃ v', e = .returned v' ∧ PRow w' w.heap.size v' (cutL size l) ∧ Below w.heap.size w w' := by
  have mixed : Tryz.prog.follows .mixedOrders = true := by kernel_rfl
  have HV := hid h
  have HOk := hid hok
  have HL := hid hL
  obtain ⟨A, cap, rfl, hc1, hc2, _⟩ := h
  obtain ⟨m, hm⟩ : ∃ m, l.length = m := ⟨_, rfl⟩
  have HM := hid hm
  rw [hm] at HV hl hc1 ⊢
  have HI0 : Hid (l.drop 0 = l) := List.drop_zero
  clear hok hL hm
  go_enter Tryz.func16, Tryz.ntmps16
  go_wp2
  go_loopw [0, 5] (fun vl vp wr => ∃ (k : Nat) (A' : Option Addr) (c' q : Nat) (ps : List (List CT)), k ≤ m ∧ q + k = m ∧ vl = .slice A' q c' ∧ vp = vp ∧ Hid (PRow wr w.heap.size vp ps) ∧ (Hid (ps ++ cutL size (l.drop k) = cutL size l) ∧ Hid (Below w.heap.size w wr) ∧ Hid (ps.length + (m - k) ≤ m)) ∧ (k < m → ∃ b off, A = some ⟨b, off, none⟩ ∧ A' = some ⟨b, off + k * 8, none⟩ ∧ c' = cap - k)) (fun vl _ _ => lenV vl)
  case atStart => exact ⟨0, A, cap, m, [], Nat.zero_le _, by omega, rfl, rfl, PRow.none _ _, ⟨by show _ ++ cutL size (l.drop 0) = _; rw [HI0.out]; rfl, Below.refl _ _, by show [].length + _ ≤ _; simp⟩, fun h0 => by
    obtain ⟨_, _, e, _, _, hh⟩ := HV.out
    injection e with e1 e2 e3
    subst e1
    obtain ⟨b, off, e, _⟩ := hh (by rw [HM.out]; exact h0)
    exact ⟨b, off, e, by rw [e, Nat.zero_mul, Nat.add_zero], by omega⟩⟩
  case round =>
    obtain ⟨k, A', c', q, ps, hk, hq, rfl, -, HP, ⟨HCt, HB, HLp⟩, hA⟩ := hrel
    obtain ⟨Ap, cp, ep⟩ := HP.out.len
    subst ep
    by_cases hkt : k < m
    · obtain ⟨b, off, rfl, rfl, hc'⟩ := hA hkt
      have hq0 : 0 < q := by omega
      have hqz : (0 : Int) < (q : Int) := by omega
      obtain ⟨ls, hls⟩ : ∃ ls, l.drop k = ls := ⟨_, rfl⟩
      have hlq : ls.length = q := by rw [← hls, List.length_drop, HM.out]; omega
      have hqc : q ≤ c' := by omega
      have hcm : c' ≤ 9223372036854775807 := by omega
      have hHC : HC w b (off + k * 8) ls := by
        obtain ⟨_, _, e, _, _, hh⟩ := HV.out
        injection e with e1 e2 e3
        obtain ⟨b', off', e', hc⟩ := hh (by rw [HM.out]; omega)
        rw [← e1] at e'
        cases e'
        rw [← hls]
        exact hc.drop k
      have hbw : b < w.heap.size := hHC.lt (by omega)
      obtain ⟨n, hn⟩ : ∃ n, fitN size ls = n := ⟨_, rfl⟩
      have hn1 : n ≤ q := by rw [← hn, ← hlq]; exact fitN_le size ls
      have hn2 : 0 < n := by rw [← hn]; exact fitN_pos size (by omega)
      have HFt : Hid (Calls Tryz.prog 51 #[.slice (some ⟨b, off + k * 8, none⟩) q c', .int .i64 size] wr fun e w' => e = .returned (.int .i64 (n : Int)) ∧ Below wr.heap.size wr w') := by
        have := fit_any (some ⟨b, off + k * 8, none⟩) c' ls size (by omega) hcm wr (fun _ => ⟨b, _, rfl, hHC.below HB.out hbw⟩) (fun e => by cases e) (fun c hc => HOk.out c (List.mem_of_mem_drop (by rw [hls]; exact hc))) (HL.out.below HB.out)
        rw [hlq, hn] at this
        exact this
      have htl : (ls.take n).length = n := by rw [List.length_take]; omega
      have HCl : Hid (∀ W, Below wr.heap.size wr W → Calls Tryz.prog 52 #[.slice (some ⟨b, off + k * 8, none⟩) n c'] W fun e w' => ∃ Au cu, e = .returned (.slice Au n cu) ∧ CRow w' W.heap.size (.slice Au n cu) (ls.take n) ∧ Below W.heap.size W w') := fun W hW => by
        have hcl : ClA W (.slice (some ⟨b, off + k * 8, none⟩) (ls.take n).length c') (ls.take n) := ⟨_, c', rfl, by omega, hcm, fun _ => ⟨b, _, rfl, fun i hi j hj => by
          have h1 := (hHC.below (HB.out.trans (hW.mono HB.out.size)) hbw) i (by rw [List.length_take] at hi; omega) j hj
          rw [h1, List.getElem_take]⟩⟩
        have := clonec_any ⟨b, off + k * 8, none⟩ c' (ls.take n) (by omega) W hcl
        rw [htl] at this
        refine this.mono fun e w' ⟨v', he, hr, hb⟩ => ?_
        obtain ⟨Au, cu, rfl, _, _⟩ := hr.len
        rw [htl] at he hr
        exact ⟨Au, cu, he, hr, hb⟩
      have HCu : Hid ((ps ++ [ls.take n]) ++ cutL size (l.drop (k + n)) = cutL size l) := by
        show _ = _
        rw [← HCt.out, hls, cutL_more size (show 0 < ls.length by omega), hn, List.append_assoc, ← hls, List.drop_drop]
        rfl
      clear hHC hls hn htl hA HCt
      obtain ⟨o, ho⟩ : ∃ o, off + k * 8 = o := ⟨_, rfl⟩
      have HO := hid ho
      rw [ho] at HFt HCl ⊢
      clear ho
      have HK := hid (And.intro hq (And.intro hc' (And.intro hkt hk)))
      clear hq hc' hkt hk
      by_cases hnc : n < c'
      · go_wp2_with (first
          | (go_at_call 51; refine HFt.out.mono ?_; rintro e w2 ⟨rfl, hb2⟩; have HB2 := hid hb2; clear hb2)
          | (go_at_call 52; refine (HCl.out w2 HB2.out).mono ?_; rintro e w3 ⟨Au, cu, rfl, hu3, hb3⟩; have HU3 := hid hu3; have HB3 := hid (HB2.out.trans (hb3.mono HB2.out.size)); clear hu3 hb3)
          | (at_builtin; refine wpList_append_part rfl (.tmp 13) (.tmp 18) rfl _ w.heap.size _ ps rfl ((HP.out.below HB3.out).below (below_new _ _)) _ 1 (.slice Au n cu) (ls.take n) rfl (cell_one _ _ _) (CRow.le (CRow.below HU3.out (below_new _ _)) (Nat.le_trans HB.out.size HB2.out.size)) (by have := HLp.out; omega) (by have := HB.out.size; have := HB3.out.size; simp; omega) ?_; intro v7 w7 h7 hb7; have HQ7 := hid h7; have HBw := hid (HB.out.trans ((HB3.out.mono HB.out.size).trans (((below_new w3 _).mono (Nat.le_trans HB.out.size HB3.out.size)).trans hb7)))))
        have HLn : Hid ((ps ++ [ls.take n]).length + (m - (k + n)) ≤ m) := by have := HLp.out; obtain ⟨hq, hc', hkt, hk⟩ := HK.out; show _ ≤ _; rw [List.length_append, List.length_singleton]; omega
        go_roundw
        case rel =>
          obtain ⟨hq, hc', hkt, hk⟩ := HK.out
          exact ⟨k + n, some ⟨b, o + n * 8, none⟩, c' - n, q - n, ps ++ [ls.take n], by omega, by omega, rfl, trivial, HQ7.out, ⟨HCu.out, HBw.out, HLn.out⟩, fun _ => ⟨b, off, rfl, by rw [← HO.out, show off + k * 8 + n * 8 = off + (k + n) * 8 by omega], by omega⟩⟩
        case measure => obtain ⟨hq, hc', hkt, hk⟩ := HK.out; simp [lenV]; omega
      · have hnc2 : c' ≤ n := by omega
        have hqn : q ≤ n := by omega
        go_wp2_with (first
          | (go_at_call 51; refine HFt.out.mono ?_; rintro e w2 ⟨rfl, hb2⟩; have HB2 := hid hb2; clear hb2)
          | (go_at_call 52; refine (HCl.out w2 HB2.out).mono ?_; rintro e w3 ⟨Au, cu, rfl, hu3, hb3⟩; have HU3 := hid hu3; have HB3 := hid (HB2.out.trans (hb3.mono HB2.out.size)); clear hu3 hb3)
          | (at_builtin; refine wpList_append_part rfl (.tmp 13) (.tmp 18) rfl _ w.heap.size _ ps rfl ((HP.out.below HB3.out).below (below_new _ _)) _ 1 (.slice Au n cu) (ls.take n) rfl (cell_one _ _ _) (CRow.le (CRow.below HU3.out (below_new _ _)) (Nat.le_trans HB.out.size HB2.out.size)) (by have := HLp.out; omega) (by have := HB.out.size; have := HB3.out.size; simp; omega) ?_; intro v7 w7 h7 hb7; have HQ7 := hid h7; have HBw := hid (HB.out.trans ((HB3.out.mono HB.out.size).trans (((below_new w3 _).mono (Nat.le_trans HB.out.size HB3.out.size)).trans hb7)))))
        have HLn : Hid ((ps ++ [ls.take n]).length + (m - (k + n)) ≤ m) := by have := HLp.out; obtain ⟨hq, hc', hkt, hk⟩ := HK.out; show _ ≤ _; rw [List.length_append, List.length_singleton]; omega
        go_roundw
        case rel =>
          obtain ⟨hq, hc', hkt, hk⟩ := HK.out
          exact ⟨k + n, some ⟨b, o, none⟩, 0, 0, ps ++ [ls.take n], by omega, by omega, rfl, trivial, HQ7.out, ⟨HCu.out, HBw.out, HLn.out⟩, fun h => by omega⟩
        case measure => obtain ⟨hq, hc', hkt, hk⟩ := HK.out; simp [lenV]; omega
    · obtain rfl : k = m := by omega
      obtain rfl : q = 0 := by omega
      clear hA
      go_wp2
      go_ret
      refine ⟨_, rfl, ?_, HB.out⟩
      have e := HCt.out
      rw [show l.drop k = [] from List.drop_of_length_le (by rw [HM.out]; omega), cutL_nil, List.append_nil] at e
      rw [← e]
      exact HP.out
end Go.Proofs.YtjbjdkginemedaaGreatDoor
