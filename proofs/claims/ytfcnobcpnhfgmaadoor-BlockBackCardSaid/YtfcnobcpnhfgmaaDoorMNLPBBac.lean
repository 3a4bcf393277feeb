/- Several texts in one: NL NM NN NO NP NQ NR NS PBBac. Conditions: as each theorem names them. -/
import Derived.Test.YtfcnobcpnhfgmaaDoorMCPNH
import Derived.Test.YtfcnobcpnhfgmaaDoorMSDHL
import Derived.Test.YtfcnobcpnhfgmaaDoorMIICQ
import Derived.Deep.RegionHeld3
import Derived.Deep.QuietTactic
import Derived.BigQuiet
import Derived.Test.YtfcnobcpnhfgmaaDoorMNINKc
import Derived.Test.YtfcnobcpnhfgmaaDoorHC
import Derived.Test.YtfcnobcpnhfgmaaDoorMHMEB
import Derived.Test.YtfcnobcpnhfgmaaDoorSLa
/- Lists of parts in memory; block.fit and block.Cut at every list of cells. Conditions: the argument stands, ten thousand cells at most. -/
namespace Go.Proofs.YtfcnobcpnhfgmaaDoor
open Go.RowKit

theorem info_part : (Tryd.prog.info? 22).map (fun i => (i.zero, i.size, i.bytes)) = some (some (.slice none 0 0), 1, 24) := by kernel_rfl

/-- The slice v is the call's own (from block B on) and its elements are rows of the call's own that hold xs. -/
def PRow (w : World) (B : Nat) (v : Value) (xs : List (List CT)) : Prop :=
  ∃ vs : List Value, w.ownsRow B 22 1 v xs.length vs ∧ ∀ (i : Nat) (x : List CT), xs[i]? = some x → ∃ u, vs[i]? = some u ∧ CRow w B u x
theorem PRow.none (w : World) (B : Nat) : PRow w B (.slice none 0 0) [] := ⟨[], ⟨rfl, .inl ⟨rfl, rfl⟩⟩, fun i x h => by simp at h⟩
theorem PRow.len {w : World} {B : Nat} {v : Value} {xs : List (List CT)} (h : PRow w B v xs) : ∃ A c, v = .slice A xs.length c := by
  obtain ⟨vs, ⟨_, h⟩, _⟩ := h
  rcases h with ⟨e, h0⟩ | ⟨g, cap, cur, e, _⟩
  · exact ⟨Option.none, 0, by rw [e, h0]⟩
  · exact ⟨_, _, e⟩
theorem PRow.below {w w' : World} {B : Nat} {v : Value} {xs : List (List CT)} (h : PRow w B v xs) (hb : Below w.heap.size w w') : PRow w' B v xs := by
  obtain ⟨vs, ho, hr⟩ := h
  refine ⟨vs, ?_, fun i x hx => ?_⟩
  · refine ⟨ho.1, ?_⟩
    rcases ho.2 with h2 | ⟨g, cap, cur, rfl, hB, hh, hrest⟩
    · exact .inl h2
    · refine .inr ⟨g, cap, cur, rfl, hB, ?_, hrest⟩
      rw [hb.block g (by rcases Nat.lt_or_ge g w.heap.size with h' | h'
                         · exact h'
                         · rw [Array.getElem?_eq_none h'] at hh; cases hh)]
      exact hh
  · obtain ⟨u, hu, hR⟩ := hr i x hx
    exact ⟨u, hu, hR.below hb⟩
/-- A row of bytes does not lie where a list of rows lies. -/
theorem part_ne_list {w : World} {B : Nat} {u v : Value} {x : List CT} {n : Nat} {vs : List Value} (h : CRow w B u x) (ho : w.ownsRow B 22 1 v n vs) : u.ownBlock = Option.none ∨ u.ownBlock ≠ v.ownBlock := by
  rcases h.2 with ⟨rfl, _⟩ | ⟨g, cap, cur, rfl, _, hh, _⟩
  · exact .inl rfl
  · refine .inr fun e => ?_
    rcases ho.2 with ⟨rfl, _⟩ | ⟨g', cap', cur', rfl, _, hh', _⟩
    · cases e
    · simp only [Value.ownBlock, Option.some.injEq] at e
      rw [← e, hh] at hh'
      simp only [Option.some.injEq, Obj.cells.injEq] at hh'
      exact absurd hh'.2.1 (by decide)
theorem CRow.grown {w w' : World} {B : Nat} {u : Value} {x : List CT} {row : Option Nat} (h : CRow w B u x) (hg : w.grownBy w' row) (hne : u.ownBlock = Option.none ∨ u.ownBlock ≠ row) : CRow w' B u x := World.ownsRow.kept h hg hne

section
variable {ops : Array Oper} {rest : List Oper} {o : Oper} {a : Act} {Q : Exit → Act → World → Prop}
/-- append of one row to a list of the call's own. -/
theorem wpList_append_part (hgd : o.guard = Option.none) (s x : Operand)
    (ho : o.op = .call { callee := .builtin .append, args := #[s, x], argTypes := #[34, 34] })
    (w : World) (base : Nat) (v : Value) (xs : List (List CT)) (hs : a.eval s = v) (hown : PRow w base v xs)
    (G : Nat) (c : Nat) (u : Value) (y : List CT) (hx : a.eval x = .slice (some ⟨G, 0, Option.none⟩) 1 c) (hc : w.cell? ⟨G, 0, Option.none⟩ = some u) (hu : CRow w base u y)
    (hlen : xs.length ≤ 1000000) (hbase : base ≤ w.heap.size)
    (h : ∀ v' w', PRow w' base v' (xs ++ [y]) → Below base w w' → wpList Tryd.prog ops Q rest (a.put o.dst v') w') : wpList Tryd.prog ops Q (o :: rest) a w := by
  obtain ⟨i0, hi, hz0, hz1, hz2⟩ := info_parts info_part
  obtain ⟨vs, how, hr⟩ := hown
  have hvl : vs.length = xs.length := by have := how.1; omega
  refine wpList_append_own w hgd s x 34 ho base 22 i0 (.slice Option.none 0 0) 1 24 Tryd.underlying34 hi hz0 hz1 hz2 rfl (by decide) v xs.length vs hs how ⟨G, 0, Option.none⟩ 1 c [u] hx rfl ?_ ?_ (by unfold maxLen; omega) (by omega) hbase ?_
  · intro j e he
    match j, he with
    | 0, he => simp at he; subst he; rw [add_zero_off]; exact hc
    | j + 1, he => simp at he
  · intro e he
    have : e = u := by simpa using he
    subst this
    rcases hu.2 with ⟨rfl, _⟩ | ⟨g, cap, cur, rfl, _⟩ <;> rfl
  · intro v' w' h1 h2 _
    refine h v' w' ⟨vs ++ [u], by rw [List.length_append]; exact h1, fun i x hx => ?_⟩ ((Below.refl _ _).grown h2 hbase fun k hk => (World.ownsRow.lt how k hk).1)
    by_cases hi' : i < xs.length
    · rw [List.getElem?_append_left hi'] at hx
      obtain ⟨u', hu', hR⟩ := hr i x hx
      exact ⟨u', by rw [List.getElem?_append_left (by omega)]; exact hu', hR.grown h2 (part_ne_list hR how)⟩
    · rw [List.getElem?_append_right (by omega)] at hx
      have hi0 : i - xs.length = 0 := by
        rcases Nat.eq_zero_or_pos (i - xs.length) with e | e
        · exact e
        · rw [List.getElem?_eq_none (by simp; omega)] at hx; cases hx
      rw [hi0] at hx
      have ey : y = x := by simpa using hx
      subst ey
      exact ⟨u, by rw [List.getElem?_append_right (by omega), hvl, hi0]; rfl, hu.grown h2 (part_ne_list hu how)⟩
end


theorem fitGo_stop {size : Int} {i t : Nat} {c : CT} {l : List CT} (h0 : 0 < i) (h : size < ((t + encN c : Nat) : Int)) : fitGo size i t (c :: l) = 0 := by
  unfold fitGo
  rw [if_pos ⟨h0, h⟩]
theorem fitGo_go {size : Int} {i t : Nat} {c : CT} {l : List CT} (h : ¬ (0 < i ∧ size < ((t + encN c : Nat) : Int))) : fitGo size i t (c :: l) = fitGo size (i + 1) (t + encN c) l + 1 := by
  rw [fitGo, if_neg h]
/-- Encode at any cell: how many bytes there are. -/
theorem encn_any (c : CT) (h : okC c) (w : World) (hL : LaidU w) :
    Calls Tryd.prog 60 #[c.v] w fun e w' => ∃ A cap b, e = .returned (.tuple #[.slice A (encN c) cap, .bool b]) ∧ Below w.heap.size w w' := by
  unfold encN
  cases hok : c.ok with
  | true =>
    refine (enc_yes c h hok w hL).mono fun e w' ⟨g, cap, he, hb⟩ => ⟨some ⟨g, 0, none⟩, cap, true, ?_, hb⟩
    rw [if_pos rfl]
    exact he
  | false =>
    refine (enc_no c h hok w hL).mono fun e w' ⟨he, hb⟩ => ⟨none, 0, false, ?_, hb⟩
    rw [if_neg (by simp)]
    exact he
theorem encN_le (c : CT) (h : c.s.size ≤ 1000) (hv : inI c.vn) : encN c ≤ 6000 := by
  unfold encN
  split
  · rename_i hok
    obtain ⟨h1, h2⟩ := bc_small (c := c) ⟨hok, hv, h⟩
    rw [encB_is, List.length_append]
    split
    · omega
    · simp only [List.length_nil]; omega
  · omega

set_option maxRecDepth 100000 in
set_option maxHeartbeats 4000000 in
theorem fit_any (A : Option Addr) (cap : Nat) (l : List CT) (size : Int) (hl : l.length ≤ cap) (hcap : cap ≤ 9223372036854775807) (w : World) (h : 0 < l.length → ∃ b off, A = some ⟨b, off, none⟩ ∧ HC w b off l) (hA : A = none → cap = 0) (hok : ∀ c ∈ l, okC c ∧ c.s.size ≤ 1000) (hL : LaidU w) :
    Calls Tryd.prog 51 #[.slice A l.length cap, .int .i64 size] w fun e w' => e = .returned (.int .i64 (fitN size l : Int)) ∧ Below w.heap.size w w' := by
  have mixed : Tryd.prog.follows .mixedOrders = true := by kernel_rfl
  have HH := hid h
  have HOk := hid hok
  have HL := hid hL
  clear h hok hL
  obtain ⟨m, hm⟩ : ∃ m, l.length = m := ⟨_, rfl⟩
  have HM := hid hm
  rw [hm] at hl ⊢
  clear hm
  obtain ⟨n, hn⟩ : ∃ n : Nat, n = min 1000 m := ⟨_, rfl⟩
  have hmin : min 1000 (m : Int) = (n : Int) := by omega
  have hnm : n ≤ m := by omega
  have hn1 : n ≤ 1000 := by omega
  have HT : Hid ((l.take 1000).length = n) := by show _ = n; rw [List.length_take, HM.out, hn]
  have HE : Hid (∀ i (c : CT), i < n → l[i]? = some c → (l.take 1000).drop i = c :: (l.take 1000).drop (i + 1)) := fun i c hi hc => by
    have h1 : (l.take 1000)[i]? = some c := by rw [List.getElem?_take_of_lt (by omega)]; exact hc
    obtain ⟨h2, rfl⟩ := List.getElem?_eq_some_iff.1 h1
    exact List.drop_eq_getElem_cons h2
  clear hn
  have HFi : Hid (fitN size l = 0 + fitGo size 0 0 ((l.take 1000).drop 0)) := by show _ = _; rw [List.drop_zero, Nat.zero_add]; rfl
  obtain ⟨R, hR⟩ : ∃ R, fitN size l = R := ⟨_, rfl⟩
  have HR := hid hR
  rw [hR] at HFi
  rw [hR]
  clear hR
  have hnc : (n : Int) ≤ (cap : Int) := by omega
  have hn0 : (0 : Int) ≤ (n : Int) := by omega
  have main : ∀ (ad : Option Addr), ad = A → Calls Tryd.prog 51 #[.slice ad m cap, .int .i64 size] w fun e w' => e = .returned (.int .i64 (R : Int)) ∧ Below w.heap.size w w' := by
    rintro ad rfl
    cases ad with
    | none =>
      obtain rfl := hA rfl
      obtain rfl : m = 0 := by omega
      obtain rfl : n = 0 := by omega
      have HR0 : Hid (R = 0) := by
        have h1 := HFi.out
        rw [List.drop_zero, List.eq_nil_of_length_eq_zero HT.out] at h1
        exact h1
      clear hmin
      go_enter Tryd.func51, Tryd.ntmps51
      go_wp2
      refine wp_loop_rounds 1 ?_
      rw [rounds_succ]; go_wp2
      go_ret
      exact ⟨by rw [HR0.out]; rfl, Below.refl _ _⟩
    | some a =>
      go_enter Tryd.func51, Tryd.ntmps51
      go_wp2
      go_loopw [5, 17] (fun vt vi wr => ∃ (i t : Nat), i ≤ n ∧ vi = .int .i64 i ∧ vt = .int .i64 (t : Int) ∧ Hid (R = i + fitGo size i t ((l.take 1000).drop i) ∧ t ≤ i * 6000) ∧ Hid (Below w.heap.size w wr)) (fun _ vi _ => n - (intOf vi).toNat)
      case atStart => exact ⟨0, 0, Nat.zero_le _, rfl, rfl, ⟨HFi.out, Nat.zero_le _⟩, Below.refl _ _⟩
      case round =>
        obtain ⟨i, t, hi, rfl, rfl, HI, HB⟩ := hrel
        by_cases hlt : i < n
        · have hin : i < l.length := by rw [HM.out]; omega
          have hltz : (i : Int) < (n : Int) := by omega
          obtain ⟨b, off, ea, hhc⟩ := HH.out (by omega)
          cases ea
          have hbw : b < w.heap.size := hhc.lt (by omega)
          obtain ⟨c, hc⟩ : ∃ c, l[i]? = some c := ⟨_, List.getElem?_eq_getElem hin⟩
          have HCo : Hid (okC c ∧ c.s.size ≤ 1000) := HOk.out c (List.mem_of_getElem? hc)
          have HDr := hid (HE.out i c hlt hc)
          have HEn : Hid (∀ W, Below w.heap.size w W → Calls Tryd.prog 60 #[c.v] W fun e w' => ∃ A cap b, e = .returned (.tuple #[.slice A (encN c) cap, .bool b]) ∧ Below W.heap.size W w') := fun W hW => encn_any c HCo.out.1 W (HL.out.below hW)
          obtain ⟨a0, a1, a2, a3, a4, a5, a6, a7⟩ := ct_words (hhc.below HB.out hbw) i hc
          clear hhc hc hin
          have HBn := hid (HB.out.trans ((below_new wr (.cells #[.string c.r, .string c.f, .string c.q, .int .i64 c.t, .int .i64 c.k, .int .i64 c.vk, .int .i64 c.vn, .string c.s] 40)).mono HB.out.size))
          obtain ⟨q, hq⟩ : ∃ q, encN c = q := ⟨_, rfl⟩
          have HQ := hid hq
          rw [hq] at HEn
          have hq6 : q ≤ 6000 := by rw [← hq]; exact encN_le c HCo.out.2 HCo.out.1.2.2
          have ht6 : t ≤ 6000000 := by have := HI.out.2; omega
          have htw : ((t : Int) + (q : Int)) = ((t + q : Nat) : Int) := by omega
          clear hq
          by_cases hst : 0 < i ∧ size < ((t + q : Nat) : Int)
          · have hi0 : (0 : Int) < (i : Int) := by omega
            have hst2 : size < (t : Int) + (q : Int) := by omega
            have HS : Hid (R = i) := by
              have h1 := HI.out.1
              rw [HDr.out, fitGo_stop hst.1 (by rw [HQ.out]; exact hst.2)] at h1
              exact h1
            clear htw hst
            go_wp2_with (first
              | (go_at_call 60; refine (HEn.out _ HBn.out).mono ?_; rintro e w2 ⟨A2, c2, b2, rfl, hb2⟩))
            go_ret
            exact ⟨by rw [HS.out]; rfl, HBn.out.trans (hb2.mono HBn.out.size)⟩
          · have HS : Hid (R = i + 1 + fitGo size (i + 1) (t + q) ((l.take 1000).drop (i + 1))) := by
              have h1 := HI.out.1
              rw [HDr.out, fitGo_go (by rw [HQ.out]; exact hst), HQ.out] at h1
              show R = _
              omega
            by_cases hi0 : 0 < i
            · have hi0z : (0 : Int) < (i : Int) := by omega
              have hst2 : ¬ size < (t : Int) + (q : Int) := by omega
              clear htw hst
              go_wp2_with (first
                | (go_at_call 60; refine (HEn.out _ HBn.out).mono ?_; rintro e w2 ⟨A2, c2, b2, rfl, hb2⟩))
              go_roundw
              case rel => exact ⟨i + 1, t + q, by omega, by go_num, by go_num, ⟨HS.out, by have := HI.out.2; omega⟩, HBn.out.trans (hb2.mono HBn.out.size)⟩
              case measure => simp [intOf]; omega
            · obtain rfl : i = 0 := by omega
              simp only [Nat.zero_mul, Nat.add_zero] at a0 a1 a2 a3 a4 a5 a6 a7
              clear htw hst
              go_wp2_with (first
                | (go_at_call 60; refine (HEn.out _ HBn.out).mono ?_; rintro e w2 ⟨A2, c2, b2, rfl, hb2⟩))
              go_roundw
              case rel => exact ⟨1, t + q, by omega, by go_num, by go_num, ⟨HS.out, by have := HI.out.2; omega⟩, HBn.out.trans (hb2.mono HBn.out.size)⟩
              case measure => simp [intOf]; omega
        · obtain rfl : i = n := by omega
          have HS : Hid (R = i) := by
            have h1 := HI.out.1
            rw [List.drop_of_length_le (by rw [HT.out]; omega)] at h1
            exact h1
          go_wp2
          go_ret
          exact ⟨by rw [HS.out]; rfl, HB.out⟩
  exact main A rfl

/-- slices.Clone at cells that stand. -/
theorem clonec_any (ad : Addr) (cap : Nat) (l : List CT) (hl : l.length ≤ 100000) (w : World) (h : ClA w (.slice (some ad) l.length cap) l) :
    Calls Tryd.prog 52 #[.slice (some ad) l.length cap] w fun e w' => ∃ v', e = .returned v' ∧ CRow w' w.heap.size v' l ∧ Below w.heap.size w w' := by
  have q22 : ∀ (w : World) (a : Option Addr) (n c n' c' : Nat), (binOp .eql 22 (.slice a n c) (.slice none n' c')).run Tryd.prog w = .ok (.bool a.isNone) w := fun w a n c n' c' => Lib.run_eql_slice_nil w _ _ a n c n' c' Tryd.underlying22
  have HS := hid h
  have HR := hid (empty_crow w w.heap.size (Nat.le_refl _))
  have HL := hid hl
  clear hl h
  obtain ⟨n, hn⟩ : ∃ n, l.length = n := ⟨_, rfl⟩
  have HN := hid hn
  rw [hn] at HS ⊢
  clear hn
  go_enter Tryd.func52, Tryd.ntmps52
  go_wp2_with (first
    | (at_builtin; refine wpList_append_cells rfl (.tmp 5) (.tmp 6) rfl rfl _ w.heap.size _ [] rfl HR.out _ l rfl (HS.out.below (below_new w _)) (by have := HL.out; simp only [List.length_nil]; omega) (by simp) ?_; intro v' w' hR' hb' _))
  go_ret
  exact ⟨_, rfl, hR', (below_new w _).trans hb'⟩

def lenV : Value → Nat | .slice _ n _ => n | _ => 0
set_option maxRecDepth 100000 in
set_option maxHeartbeats 4000000 in
theorem cut_any (v : Value) (l : List CT) (size : Int) (hl : l.length ≤ 10000) (w : World) (h : ClA w v l) (hok : ∀ c ∈ l, okC c ∧ c.s.size ≤ 1000) (hL : LaidU w) :
    Calls Tryd.prog 16 #[v, .int .i64 size] w fun e w' => ∃ v', e = .returned v' ∧ PRow w' w.heap.size v' (cutL size l) ∧ Below w.heap.size w w' := by
  have mixed : Tryd.prog.follows .mixedOrders = true := by kernel_rfl
  have HV := hid h
  have HOk := hid hok
  have HL := hid hL
  obtain ⟨A, cap, rfl, hc1, hc2, _⟩ := h
  obtain ⟨m, hm⟩ : ∃ m, l.length = m := ⟨_, rfl⟩
  have HM := hid hm
  rw [hm] at HV hl hc1 ⊢
  have HI0 : Hid (l.drop 0 = l) := List.drop_zero
  clear hok hL hm
  go_enter Tryd.func16, Tryd.ntmps16
  go_wp2
  go_loopw [0, 5] (fun vl vp wr => ∃ (k : Nat) (A' : Option Addr) (c' q : Nat) (ps : List (List CT)), k ≤ m ∧ q + k = m ∧ vl = .slice A' q c' ∧ vp = vp ∧ Hid (PRow wr w.heap.size vp ps) ∧ (Hid (ps ++ cutL size (l.drop k) = cutL size l) ∧ Hid (Below w.heap.size w wr) ∧ Hid (ps.length + (m - k) ≤ m)) ∧ (k < m → ∃ b off, A = some ⟨b, off, none⟩ ∧ A' = some ⟨b, off + k * 8, none⟩ ∧ c' = cap - k)) (fun vl _ _ => lenV vl)
  case atStart => exact ⟨0, A, cap, m, [], Nat.zero_le _, by omega, rfl, rfl, PRow.none _ _, ⟨by show _ ++ cutL size (l.drop 0) = _; rw [HI0.out]; rfl, Below.refl _ _, by show [].length + _ ≤ _; simp⟩, fun h0 => by
    obtain ⟨_, _, e, _, _, hh⟩ := HV.out
    injection e with e1 e2 e3
    subst e1
    obtain ⟨b, off, e, _⟩ := hh (by rw [HM.out]; exact h0)
    exact ⟨b, off, e, by rw [e, Nat.zero_mul, Nat.add_zero], by omega⟩⟩
  case round =>
    obtain ⟨k, A', c', q, ps, hk, hq, rfl, -, HP, ⟨HCt, HB, HLp⟩, hA⟩ := hrel
    obtain ⟨Ap, cp, ep⟩ := HP.out.len
    subst ep
    by_cases hkt : k < m
    · obtain ⟨b, off, rfl, rfl, hc'⟩ := hA hkt
      have hq0 : 0 < q := by omega
      have hqz : (0 : Int) < (q : Int) := by omega
      obtain ⟨ls, hls⟩ : ∃ ls, l.drop k = ls := ⟨_, rfl⟩
      have hlq : ls.length = q := by rw [← hls, List.length_drop, HM.out]; omega
      have hqc : q ≤ c' := by omega
      have hcm : c' ≤ 9223372036854775807 := by omega
      have hHC : HC w b (off + k * 8) ls := by
        obtain ⟨_, _, e, _, _, hh⟩ := HV.out
        injection e with e1 e2 e3
        obtain ⟨b', off', e', hc⟩ := hh (by rw [HM.out]; omega)
        rw [← e1] at e'
        cases e'
        rw [← hls]
        exact hc.drop k
      have hbw : b < w.heap.size := hHC.lt (by omega)
      obtain ⟨n, hn⟩ : ∃ n, fitN size ls = n := ⟨_, rfl⟩
      have hn1 : n ≤ q := by rw [← hn, ← hlq]; exact fitN_le size ls
      have hn2 : 0 < n := by rw [← hn]; exact fitN_pos size (by omega)
      have HFt : Hid (Calls Tryd.prog 51 #[.slice (some ⟨b, off + k * 8, none⟩) q c', .int .i64 size] wr fun e w' => e = .returned (.int .i64 (n : Int)) ∧ Below wr.heap.size wr w') := by
        have := fit_any (some ⟨b, off + k * 8, none⟩) c' ls size (by omega) hcm wr (fun _ => ⟨b, _, rfl, hHC.below HB.out hbw⟩) (fun e => by cases e) (fun c hc => HOk.out c (List.mem_of_mem_drop (by rw [hls]; exact hc))) (HL.out.below HB.out)
        rw [hlq, hn] at this
        exact this
      have htl : (ls.take n).length = n := by rw [List.length_take]; omega
      have HCl : Hid (∀ W, Below wr.heap.size wr W → Calls Tryd.prog 52 #[.slice (some ⟨b, off + k * 8, none⟩) n c'] W fun e w' => ∃ Au cu, e = .returned (.slice Au n cu) ∧ CRow w' W.heap.size (.slice Au n cu) (ls.take n) ∧ Below W.heap.size W w') := fun W hW => by
        have hcl : ClA W (.slice (some ⟨b, off + k * 8, none⟩) (ls.take n).length c') (ls.take n) := ⟨_, c', rfl, by omega, hcm, fun _ => ⟨b, _, rfl, fun i hi j hj => by
          have h1 := (hHC.below (HB.out.trans (hW.mono HB.out.size)) hbw) i (by rw [List.length_take] at hi; omega) j hj
          rw [h1, List.getElem_take]⟩⟩
        have := clonec_any ⟨b, off + k * 8, none⟩ c' (ls.take n) (by omega) W hcl
        rw [htl] at this
        refine this.mono fun e w' ⟨v', he, hr, hb⟩ => ?_
        obtain ⟨Au, cu, rfl, _, _⟩ := hr.len
        rw [htl] at he hr
        exact ⟨Au, cu, he, hr, hb⟩
      have HCu : Hid ((ps ++ [ls.take n]) ++ cutL size (l.drop (k + n)) = cutL size l) := by
        show _ = _
        rw [← HCt.out, hls, cutL_more size (show 0 < ls.length by omega), hn, List.append_assoc, ← hls, List.drop_drop]
        rfl
      clear hHC hls hn htl hA HCt
      obtain ⟨o, ho⟩ : ∃ o, off + k * 8 = o := ⟨_, rfl⟩
      have HO := hid ho
      rw [ho] at HFt HCl ⊢
      clear ho
      have HK := hid (And.intro hq (And.intro hc' (And.intro hkt hk)))
      clear hq hc' hkt hk
      by_cases hnc : n < c'
      · go_wp2_with (first
          | (go_at_call 51; refine HFt.out.mono ?_; rintro e w2 ⟨rfl, hb2⟩; have HB2 := hid hb2; clear hb2)
          | (go_at_call 52; refine (HCl.out w2 HB2.out).mono ?_; rintro e w3 ⟨Au, cu, rfl, hu3, hb3⟩; have HU3 := hid hu3; have HB3 := hid (HB2.out.trans (hb3.mono HB2.out.size)); clear hu3 hb3)
          | (at_builtin; refine wpList_append_part rfl (.tmp 13) (.tmp 18) rfl _ w.heap.size _ ps rfl ((HP.out.below HB3.out).below (below_new _ _)) _ 1 (.slice Au n cu) (ls.take n) rfl (cell_one _ _ _) (CRow.le (CRow.below HU3.out (below_new _ _)) (Nat.le_trans HB.out.size HB2.out.size)) (by have := HLp.out; omega) (by have := HB.out.size; have := HB3.out.size; simp; omega) ?_; intro v7 w7 h7 hb7; have HQ7 := hid h7; have HBw := hid (HB.out.trans ((HB3.out.mono HB.out.size).trans (((below_new w3 _).mono (Nat.le_trans HB.out.size HB3.out.size)).trans hb7)))))
        have HLn : Hid ((ps ++ [ls.take n]).length + (m - (k + n)) ≤ m) := by have := HLp.out; obtain ⟨hq, hc', hkt, hk⟩ := HK.out; show _ ≤ _; rw [List.length_append, List.length_singleton]; omega
        go_roundw
        case rel =>
          obtain ⟨hq, hc', hkt, hk⟩ := HK.out
          exact ⟨k + n, some ⟨b, o + n * 8, none⟩, c' - n, q - n, ps ++ [ls.take n], by omega, by omega, rfl, trivial, HQ7.out, ⟨HCu.out, HBw.out, HLn.out⟩, fun _ => ⟨b, off, rfl, by rw [← HO.out, show off + k * 8 + n * 8 = off + (k + n) * 8 by omega], by omega⟩⟩
        case measure => obtain ⟨hq, hc', hkt, hk⟩ := HK.out; simp [lenV]; omega
      · have hnc2 : c' ≤ n := by omega
        have hqn : q ≤ n := by omega
        go_wp2_with (first
          | (go_at_call 51; refine HFt.out.mono ?_; rintro e w2 ⟨rfl, hb2⟩; have HB2 := hid hb2; clear hb2)
          | (go_at_call 52; refine (HCl.out w2 HB2.out).mono ?_; rintro e w3 ⟨Au, cu, rfl, hu3, hb3⟩; have HU3 := hid hu3; have HB3 := hid (HB2.out.trans (hb3.mono HB2.out.size)); clear hu3 hb3)
          | (at_builtin; refine wpList_append_part rfl (.tmp 13) (.tmp 18) rfl _ w.heap.size _ ps rfl ((HP.out.below HB3.out).below (below_new _ _)) _ 1 (.slice Au n cu) (ls.take n) rfl (cell_one _ _ _) (CRow.le (CRow.below HU3.out (below_new _ _)) (Nat.le_trans HB.out.size HB2.out.size)) (by have := HLp.out; omega) (by have := HB.out.size; have := HB3.out.size; simp; omega) ?_; intro v7 w7 h7 hb7; have HQ7 := hid h7; have HBw := hid (HB.out.trans ((HB3.out.mono HB.out.size).trans (((below_new w3 _).mono (Nat.le_trans HB.out.size HB3.out.size)).trans hb7)))))
        have HLn : Hid ((ps ++ [ls.take n]).length + (m - (k + n)) ≤ m) := by have := HLp.out; obtain ⟨hq, hc', hkt, hk⟩ := HK.out; show _ ≤ _; rw [List.length_append, List.length_singleton]; omega
        go_roundw
        case rel =>
          obtain ⟨hq, hc', hkt, hk⟩ := HK.out
          exact ⟨k + n, some ⟨b, o, none⟩, 0, 0, ps ++ [ls.take n], by omega, by omega, rfl, trivial, HQ7.out, ⟨HCu.out, HBw.out, HLn.out⟩, fun h => by omega⟩
        case measure => obtain ⟨hq, hc', hkt, hk⟩ := HK.out; simp [lenV]; omega
    · obtain rfl : k = m := by omega
      obtain rfl : q = 0 := by omega
      clear hA
      go_wp2
      go_ret
      refine ⟨_, rfl, ?_, HB.out⟩
      have e := HCt.out
      rw [show l.drop k = [] from List.drop_of_length_le (by rw [HM.out]; omega), cutL_nil, List.append_nil] at e
      rw [← e]
      exact HP.out
end Go.Proofs.YtfcnobcpnhfgmaaDoor

/- block.Parse at any bytes. Conditions: the slice holds its bytes, a hundred thousand at most; the tables of utf8 read as they are laid. -/
namespace Go.Proofs.YtfcnobcpnhfgmaaDoor
open Go.RowKit

theorem CRow.but' {W W' : World} {B rb : Nat} {v : Value} {l : List CT} (h : CRow W B v l) (hb : But W.heap.size rb W W') (hr : rb < B) : CRow W' B v l := by
  refine ⟨h.1, ?_⟩
  rcases h.2 with q | ⟨g, cap, cur, e, h1, h2, hr2⟩
  · exact .inl q
  · have h3 : Blk W g 40 cur := h2
    exact .inr ⟨g, cap, cur, e, h1, (hb.block g h3.lt (by omega)).trans h2, hr2⟩
/-- What Parse leaves. -/
def PaEnd8 (l : List UInt8) (w : World) (e : Ending) (w' : World) : Prop :=
  Below w.heap.size w w' ∧ ((∃ v cs, e = .returned (.tuple #[v, .bool true]) ∧ CRow w' w.heap.size v cs ∧ (∀ c ∈ cs, Bc c) ∧ fineK [] cs = true ∧ cs.length ≤ 1000 ∧ blockB cs = l) ∨ (e = .returned (.tuple #[.slice none 0 0, .bool false]) ∧ NoBlock l))
/-- Where Parse's loop is. -/
structure PaI (l : List UInt8) (n : Nat) (w W : World) (i : Nat) (vl vk : Value) (cs : List CT) (rest : List UInt8) : Prop where
  bel : Below w.heap.size w W
  row : CRow W (w.heap.size + 1) vl cs
  kx : Sx W w.heap.size vk (lastK [] cs)
  rs : Rs W w.heap.size rest false
  rd : ReadI l n cs rest
  ln : cs.length = i
  bd : (lastK [] cs).length + rest.length ≤ l.length

theorem sx_grown {W W' : World} {rb : Nat} {v : Value} {l : List UInt8} {row : Option Nat} (h : Sx W rb v l) (hg : W.grownBy W' row) (hne : ∀ a m c, v = .slice (some a) m c → some a.block ≠ row) : Sx W' rb v l := by
  obtain ⟨A, c, h1, h2, h3, h4, h5⟩ := h
  refine ⟨A, c, h1, h2, h3, h4, fun h0 => ?_⟩
  obtain ⟨b, off, e, h6, hlt, hh⟩ := h5 h0
  exact ⟨b, off, e, h6, Nat.lt_of_lt_of_le hlt hg.size, fun i hi => hg.cell (hh i hi) (hne ⟨b, off, none⟩ l.length c (by rw [h1, e]))⟩
theorem sb_of {w : World} {v : Value} {l : List UInt8} (h : Sx w w.heap.size v l) : Sb w w.heap.size v l := by
  obtain ⟨A, c, h1, h2, h3, h4, h5⟩ := h
  refine ⟨A, c, h1, h2, h3, h4, fun h0 => ?_⟩
  obtain ⟨b, off, e, _, h6, hh⟩ := h5 h0
  exact ⟨b, off, e, h6, h6, hh⟩
/-- Behind cell: the reader, the key and the cell's block, as seen from the round's beginning. -/
theorem pa_cell {w wr w2 : World} {l r2 : List UInt8} {kv : Value} {k : List UInt8} {b bb : Bool} (h2 : Rs wr w.heap.size l bb) (hb : But (wr.alloc (.cells zeroA 40)).heap.size w.heap.size (wr.alloc (.cells zeroA 40)) w2) (hs : Sx w2 w.heap.size kv k) (hr : Rs w2 w.heap.size r2 b) : Ck wr w2 w.heap.size wr.heap.size kv k r2 b default := by
  have hlt := h2.lt
  have hsz : (wr.alloc (.cells zeroA 40)).heap.size = wr.heap.size + 1 := World.size_alloc _ _
  have h0 := below_new wr (.cells zeroA 40)
  refine ⟨(But.of_below h0 _).trans (hb.mono (by rw [hsz]; omega)), hs, hr, ?_, hlt, Nat.le_refl _⟩
  have hn : Blk (wr.alloc (.cells zeroA 40)) wr.heap.size 40 (default : CT).e.toArray := Blk.new wr _ _
  unfold Blk at hn ⊢
  rw [hb.block wr.heap.size (by rw [hsz]; omega) (by omega)]
  exact hn

set_option maxRecDepth 100000 in
set_option maxHeartbeats 16000000 in
theorem parse_any (v : Value) (l : List UInt8) (hl : l.length ≤ 100000) (w : World) (h : Sx w w.heap.size v l) (hL : LaidU w) :
    Calls Tryd.prog 13 #[v] w (PaEnd8 l w) := by
  have mixed : Tryd.prog.follows .mixedOrders = true := by kernel_rfl
  have HL := hid hL
  have HLen := hid hl
  obtain ⟨A, c, rfl, hc1, hc2, hnil, hA⟩ := h.form
  have H0 : Hid (Rs (w.alloc (.cells #[.slice A l.length c, .bool false] 73)) w.heap.size l false) := ⟨_, Blk.new w _ _, (sb_of h).below (below_new _ _)⟩
  have HN := hid (bnumber_any w.heap.size l false _ H0.out)
  have HB0 := hid (below_new w (.cells #[.slice A l.length c, .bool false] 73))
  obtain ⟨m, hm⟩ : ∃ m, l.length = m := ⟨_, rfl⟩
  have HM := hid hm
  rw [hm] at H0 HN HB0 hc1 ⊢
  clear h hL hl hm hA
  have hN := HN.out
  unfold NuEnd at hN
  cases ht : tk l with
  | none =>
    rw [ht] at hN
    have HN := hid hN
    have hno := hid (no_num ht)
    clear ht hN
    go_enter Tryd.func13, Tryd.ntmps13
    go_wp2_with (first
      | (go_at_call 49; refine HN.out.mono ?_; rintro e w1 ⟨hb1, rfl, hR1⟩))
    obtain ⟨vr, hBr, hSr⟩ := hR1
    obtain ⟨Ar, cr, rfl, _⟩ := hSr.form
    have q0 : w1.cell? ⟨w.heap.size, 0, none⟩ = some (.slice Ar m cr) := by rw [← HM.out]; exact hBr.cell 0
    have q1 : w1.cell? ⟨w.heap.size, 1, none⟩ = some (.bool true) := hBr.cell 1
    refine wp_loop_rounds 1 ?_
    rw [rounds_succ]; go_wp2
    go_ret2
    exact ⟨HB0.out.trans ((hb1.mono (by simp)).below (Nat.le_refl _)), .inr ⟨rfl, hno.out⟩⟩
  | some p =>
    obtain ⟨n, r⟩ := p
    rw [ht] at hN
    have HN := hid hN
    clear hN
    by_cases hn : 1000 < n
    · have hno := hid (no_great ht hn)
      have hnz : 1000 < (n : Int) := by omega
      clear ht
      go_enter Tryd.func13, Tryd.ntmps13
      go_wp2_with (first
        | (go_at_call 49; refine HN.out.mono ?_; rintro e w1 ⟨hb1, rfl, hR1⟩))
      go_ret2
      exact ⟨HB0.out.trans ((hb1.mono (by simp)).below (Nat.le_refl _)), .inr ⟨rfl, hno.out⟩⟩
    · have hnz : ¬ 1000 < (n : Int) := by omega
      have hn2 : n ≤ 1000 := by omega
      have HRd := hid (read_start ht hn2)
      have HRl : Hid (r.length ≤ l.length) := by have := congrArg List.length (tk_back ht); rw [List.length_append] at this; show _ ≤ _; omega
      clear ht hn
      go_enter Tryd.func13, Tryd.ntmps13
      go_wp2_with (first
        | (go_at_call 49; refine HN.out.mono ?_; rintro e w1 ⟨hb1, rfl, hR1⟩))
      have HI : Hid (PaI l n w w1 0 (.slice none 0 0) (.slice none 0 0) [] r) := ⟨HB0.out.trans ((hb1.mono (by simp)).below (Nat.le_refl _)), CRow.none _ _, sx_nil _ _, hR1, HRd.out, rfl, by have := HRl.out; simpa [lastK] using this⟩
      clear HN hb1 hR1 HRd HRl H0 HB0
      go_loopw [6, 7, 15] (fun vl vk vi wr => ∃ (i : Nat) (cs : List CT) (rest : List UInt8), i ≤ n ∧ vi = .int .i64 i ∧ Hid (PaI l n w wr i vl vk cs rest)) (fun _ _ vi _ => n - (intOf vi).toNat)
      case atStart => exact ⟨0, [], r, Nat.zero_le _, rfl, HI.out⟩
      case round =>
        clear HI
        obtain ⟨i, cs, rest, hi, rfl, H⟩ := hrel
        obtain ⟨Al, cl, el, _, _⟩ := H.out.row.len
        subst el
        have HLi := H.out.ln
        rw [HLi] at H ⊢
        have HLc := hid HLi
        clear HLi
        by_cases hlt : i < n
        · have hltz : (i : Int) < (n : Int) := by omega
          have HC : Hid (∀ (W : World) (u : Value), Rs W w.heap.size rest false → Sx W w.heap.size u (lastK [] cs) → Below w.heap.size w W → Calls Tryd.prog 50 #[.pointer (some ⟨w.heap.size, 0, none⟩), u] W (CeEnd w.heap.size (lastK [] cs) rest false W)) := fun W u h1 h2 h3 =>
            bcell_any w.heap.size (lastK [] cs) rest false u (by have := H.out.bd; have := HLen.out; omega) W h1 h2 (fun W' hW' => HL.out.below (h3.trans ((hW'.mono h3.size).below (Nat.le_refl _))))
          have HZ : Hid (∀ W : World, w.heap.size < W.heap.size → True) := fun _ _ => trivial
          go_upto_region 11 with (first
            | (go_at_call 50; refine (HC.out _ _ (H.out.rs.below (below_new _ _)) (H.out.kx.below (below_new _ _)) (H.out.bel.alloc H.out.bel.size _)).mono ?_; rintro e w2 ⟨hb2, X, kv, k, r2, b, rfl, hs2, hr2, hlen2, hcase⟩; have HQ := hid (pa_cell H.out.rs hb2 hs2 hr2); have HE := hid (And.intro hlen2 hcase); clear hb2 hs2 hr2 hlen2 hcase; obtain ⟨z0, z1, z2, z3, z4, z5, z6, z7⟩ := HQ.out.words; have zf : ∀ j, w2.frozen? ⟨wr.heap.size, j, none⟩ = false := fun j => HQ.out.dw.free j))
          refine wp_ltk (fun W => Hid (Ck wr W w.heap.size wr.heap.size kv k r2 b X)) (HQ.out.set8 X) (fun W HW => ?_)
          clear z0 z1 z2 z3 z4 z5 z6 z7 zf HQ
          obtain ⟨y0, y1, y2, y3, y4, y5, y6, y7⟩ := HW.out.words
          have g1 : W.cell? ⟨w.heap.size, 1, none⟩ = some (.bool b) := by
            obtain ⟨vr, hB, _⟩ := HW.out.rs
            exact hB.cell 1
          have HBW : Hid (Below w.heap.size w W) := H.out.bel.trans ((HW.out.but.mono H.out.bel.size).below (Nat.le_refl _))
          cases b with
          | true =>
            have hno : Hid (NoBlock l) := by
              refine read_no H.out.rd (by rw [HLc.out]; exact hlt) ?_
              rcases HE.out.2 with ⟨h, _⟩ | ⟨_, h⟩
              · cases h
              · exact h
            go_wp2
            go_ret2
            exact ⟨HBW.out, .inr ⟨rfl, hno.out⟩⟩
          | false =>
            have HG : Hid (Bc X ∧ k = keyL X ∧ Lib.compareBytes (lastK [] cs) (keyL X) < 0 ∧ rest = oneB (lastK [] cs) X ++ r2 ∧ FrV (wr.heap.size + 1) kv) := by
              rcases HE.out.2 with ⟨_, h⟩ | ⟨h, _⟩
              · refine ⟨h.1, h.2.1, h.2.2.1, h.2.2.2.1, fun a m c e => ?_⟩
                have := h.2.2.2.2 a m c e
                simpa using this
              · cases h
            have HRW := hid (CRow.but' H.out.row HW.out.but (by omega))
            have HSz : Hid (w.heap.size + 1 ≤ W.heap.size) := by have := HW.out.but.size; have := H.out.rs.lt; show _ ≤ _; omega
            go_wp2_with (first
              | (at_builtin; refine wpList_append_cell rfl (.tmp 24) (.tmp 26) rfl _ (w.heap.size + 1) _ cs rfl (HRW.out.below (below_new _ _)) _ 1 rfl X (ct_new X _ _) (by have := HLc.out; omega) (by have := HSz.out; simp; omega) ?_; intro v7 w7 h7 hb7 hg7))
            go_roundw
            case rel =>
              have hlast : lastK [] (cs ++ [X]) = k := by rw [lastK_snoc, HG.out.2.1]
              have hsz7 := (HRW.out.below (below_new W (.cells #[.string X.r, .string X.f, .string X.q, .int .i64 X.t, .int .i64 X.k, .int .i64 X.vk, .int .i64 X.vn, .string X.s] 40)))
              have hb8 : Below (w.heap.size + 1) W w7 := ((below_new W _).mono HSz.out).trans hb7
              refine ⟨i + 1, cs ++ [X], r2, by omega, by go_num, (⟨HBW.out.trans (hb8.mono (by omega)), h7, ?_, HW.out.rs.keep hb8, read_next H.out.rd (by rw [HLc.out]; exact hlt) HG.out.1 HG.out.2.2.1 HG.out.2.2.2.1, by rw [List.length_append, List.length_singleton, HLc.out], ?_⟩ : PaI l n w w7 (i + 1) _ _ _ _)⟩
              · rw [hlast]
                refine sx_grown (HW.out.kx.below (below_new W _)) hg7 (fun a m c e => ?_)
                have h1 := HG.out.2.2.2.2 a m c e
                intro q
                have h2 := (World.ownsRow.lt H.out.row a.block (by exact q.symm)).2
                omega
              · rw [hlast]
                have := HE.out.1
                have := H.out.bd
                omega
            case measure => simp [intOf]; omega
        · obtain rfl : i = n := by omega
          obtain ⟨vr, hBr, hSr⟩ := H.out.rs
          obtain ⟨Ar, cr, rfl, _⟩ := hSr.form
          obtain ⟨q, hq⟩ : ∃ q, rest.length = q := ⟨_, rfl⟩
          have HQ := hid hq
          rw [hq] at hBr
          have q0 : wr.cell? ⟨w.heap.size, 0, none⟩ = some (.slice Ar q cr) := hBr.cell 0
          have q1 : wr.cell? ⟨w.heap.size, 1, none⟩ = some (.bool false) := hBr.cell 1
          clear hBr hSr hq
          by_cases hq0 : q = 0
          · subst hq0
            have hall : Hid (blockB cs = l) := by
              have h0 : rest = [] := List.eq_nil_of_length_eq_zero HQ.out
              have h1 := H.out.rd
              rw [h0] at h1
              exact read_all h1 HLc.out
            go_wp2
            go_ret2
            exact ⟨H.out.bel, .inl ⟨_, cs, rfl, H.out.row.le (by omega), H.out.rd.bc, H.out.rd.fine, by have := H.out.rd.le; have := H.out.rd.n1; omega, hall.out⟩⟩
          · have hqz : 0 < (q : Int) := by omega
            have hno : Hid (NoBlock l) := read_more H.out.rd HLc.out (fun e => by have := HQ.out; rw [e] at this; exact hq0 this.symm)
            go_wp2
            go_ret2
            exact ⟨H.out.bel, .inr ⟨rfl, hno.out⟩⟩
end Go.Proofs.YtfcnobcpnhfgmaaDoor

/- slices.IndexFunc over what isn't ahead of a cell; block.Find at any bytes. Conditions: the slice holds its bytes, a hundred thousand at most; the tables of utf8 read as they are laid. -/
namespace Go.Proofs.YtfcnobcpnhfgmaaDoor
open Go.RowKit

theorem ordc_any (x y : CT) (w : World) : Calls Tryd.prog 57 #[x.v, y.v] w fun e w' => e = .returned (.int .i64 (CT.cmp x y)) ∧ Below w.heap.size w w' :=
  (corder_gr x.r x.f x.q x.s x.t x.k x.vk x.vn y.r y.f y.q y.s y.t y.k y.vk y.vn w).mono fun _ _ ⟨he, hg⟩ => ⟨he, Gr.below hg⟩
set_option maxRecDepth 100000 in
set_option maxHeartbeats 4000000 in
theorem find1_any (x c : CT) (g : Nat) (w : World) (h : DW w g c) :
    Calls Tryd.prog 56 #[x.v, .pointer (some ⟨g, 0, none⟩)] w fun e w' => e = .returned (.bool (decide (0 ≤ CT.cmp x c))) ∧ Below w.heap.size w w' := by
  have HO := hid (fun W => ordc_any x c W)
  obtain ⟨a0, a1, a2, a3, a4, a5, a6, a7⟩ := h.words
  have hlt : g < w.heap.size := Blk.lt h
  have hb0 := hid (below_new w (.cells #[.string x.r, .string x.f, .string x.q, .int .i64 x.t, .int .i64 x.k, .int .i64 x.vk, .int .i64 x.vn, .string x.s] 40))
  clear h
  go_enter Tryd.func56, Tryd.ntmps56
  go_wp2_with (first
    | (go_at_call 57; refine (HO.out _).mono ?_; rintro e w1 ⟨rfl, hb1⟩))
  go_ret
  exact ⟨rfl, hb0.out.trans (hb1.mono (by simp))⟩

set_option maxRecDepth 100000 in
set_option maxHeartbeats 4000000 in
theorem index_any (v : Value) (l : List CT) (c : CT) (g : Nat) (hl : l.length ≤ 100000) (w : World) (h : ClA w v l) (hd : DW w g c) :
    Calls Tryd.prog 55 #[v, .func (.func 56) #[] #[.pointer (some ⟨g, 0, none⟩)]] w fun e w' => Below w.heap.size w w' ∧ ((∃ (i : Nat) (x : CT), l[i]? = some x ∧ l.find? (fun x => decide (0 ≤ CT.cmp x c)) = some x ∧ e = .returned (.int .i64 (i : Int))) ∨ (l.find? (fun x => decide (0 ≤ CT.cmp x c)) = none ∧ e = .returned (.int .i64 (-1)))) := by
  have HD := hid hd
  obtain ⟨A, cap, rfl, hc1, hc2, hh⟩ := h
  have HH := hid hh
  obtain ⟨n, hn⟩ : ∃ n, l.length = n := ⟨_, rfl⟩
  have HN := hid hn
  rw [hn] at hc1 hl ⊢
  clear hd hh hn
  have HF : Hid (∀ x W, Below w.heap.size w W → Calls Tryd.prog 56 #[x.v, .pointer (some ⟨g, 0, none⟩)] W fun e w' => e = .returned (.bool (decide (0 ≤ CT.cmp x c))) ∧ Below W.heap.size W w') := fun x W hW => find1_any x c g W (HD.out.below hW)
  go_enter Tryd.func55, Tryd.ntmps55
  go_wp2
  go_loopw [8] (fun vi wr => ∃ i : Nat, i ≤ n ∧ vi = .int .i64 i ∧ Hid (Below w.heap.size w wr) ∧ Hid (l.find? (fun x => decide (0 ≤ CT.cmp x c)) = (l.drop i).find? (fun x => decide (0 ≤ CT.cmp x c)))) (fun vi _ => n - (intOf vi).toNat)
  case atStart => exact ⟨0, Nat.zero_le _, rfl, Below.refl _ _, by show _ = (l.drop 0).find? _; rw [List.drop_zero]⟩
  case round =>
    obtain ⟨i, hi, rfl, HB, HP⟩ := hrel
    by_cases hlt : i < n
    · have hin : i < l.length := by rw [HN.out]; exact hlt
      have hltz : (i : Int) < (n : Int) := by omega
      obtain ⟨b, off, rfl, hhc⟩ := HH.out (by omega)
      have hbw : b < w.heap.size := hhc.lt (by omega)
      obtain ⟨x, hx⟩ : ∃ x, l[i]? = some x := ⟨_, List.getElem?_eq_getElem hin⟩
      have HX := hid hx
      have HP2 : Hid ((l.drop i).find? (fun x => decide (0 ≤ CT.cmp x c)) = if 0 ≤ CT.cmp x c then some x else (l.drop (i + 1)).find? (fun x => decide (0 ≤ CT.cmp x c))) := by
        obtain ⟨h1, rfl⟩ := List.getElem?_eq_some_iff.1 hx
        show _ = _
        rw [List.drop_eq_getElem_cons h1, List.find?_cons]
        by_cases q : 0 ≤ CT.cmp l[i] c
        · rw [if_pos q, decide_eq_true q]
        · rw [if_neg q, decide_eq_false q]
      have HFx := hid (HF.out x wr HB.out)
      obtain ⟨a0, a1, a2, a3, a4, a5, a6, a7⟩ := ct_words (hhc.below HB.out hbw) i hx
      clear hhc hx hin
      by_cases hq : 0 ≤ CT.cmp x c
      · rw [decide_eq_true hq] at HFx
        have HR : Hid (l.find? (fun x => decide (0 ≤ CT.cmp x c)) = some x) := by show _ = _; rw [HP.out, HP2.out, if_pos hq]
        clear hq HP2
        go_wp2_with (first
          | (go_at_call 56; refine HFx.out.mono ?_; rintro e w1 ⟨rfl, hb1⟩))
        go_ret
        exact ⟨HB.out.trans (hb1.mono HB.out.size), .inl ⟨i, x, HX.out, HR.out, rfl⟩⟩
      · rw [decide_eq_false hq] at HFx
        have HR : Hid (l.find? (fun x => decide (0 ≤ CT.cmp x c)) = (l.drop (i + 1)).find? (fun x => decide (0 ≤ CT.cmp x c))) := by show _ = _; rw [HP.out, HP2.out, if_neg hq]
        clear hq HP2
        go_wp2_with (first
          | (go_at_call 56; refine HFx.out.mono ?_; rintro e w1 ⟨rfl, hb1⟩))
        go_roundw
        case rel => exact ⟨i + 1, by omega, by go_num, HB.out.trans (hb1.mono HB.out.size), HR.out⟩
        case measure => simp [intOf]; omega
    · obtain rfl : i = n := by omega
      have HR : Hid (l.find? (fun x => decide (0 ≤ CT.cmp x c)) = none) := by show _ = _; rw [HP.out, List.drop_of_length_le (by rw [HN.out]; omega)]; rfl
      go_wp2
      go_ret
      exact ⟨HB.out, .inr ⟨HR.out, rfl⟩⟩
end Go.Proofs.YtfcnobcpnhfgmaaDoor

/- The document's Sort. Conditions: the argument stands, its cells are such as the laws look at, a thousand at most. -/
namespace Go.Proofs.YtfcnobcpnhfgmaaDoor
open Go.RowKit

/-- Right cells in order, each once. -/
def sortL : List CT → List CT → List CT
  | d, [] => d
  | d, c :: l => sortL (if c.ok = true then putL d c else d) l
theorem sortL_snoc : ∀ (l : List CT) (d : List CT) (c : CT), sortL d (l ++ [c]) = if c.ok = true then putL (sortL d l) c else sortL d l
  | [], _, _ => rfl
  | x :: l, d, c => sortL_snoc l (if x.ok = true then putL d x else d) c
/-- What Sort has made of some cells. -/
structure SortI (d : List CT) : Prop where
  rise : d.Pairwise (fun x y => CT.cmp x y < 0)
  sm : ∀ x ∈ d, Sm x
  ok : ∀ x ∈ d, x.ok = true
theorem SortI.put {d : List CT} {c : CT} (h : SortI d) (hc : Sm c) (hok : c.ok = true) : SortI (putL d c) := by
  refine ⟨putL_rise c h.rise, fun x hx => ?_, fun x hx => ?_⟩
  · rcases putL_mem hx with rfl | hx
    · exact hc
    · exact h.sm x hx
  · rcases putL_mem hx with rfl | hx
    · exact hok
    · exact h.ok x hx
theorem sortI_nil : SortI [] := ⟨List.Pairwise.nil, fun x hx => (by cases hx), fun x hx => (by cases hx)⟩
theorem sortL_i : ∀ (l d : List CT), SortI d → (∀ x ∈ l, Sm x) → SortI (sortL d l)
  | [], _, h, _ => h
  | c :: l, d, h, hs => by
    show SortI (sortL (if c.ok = true then putL d c else d) l)
    refine sortL_i l _ ?_ (fun x hx => hs x (List.mem_cons_of_mem _ hx))
    split
    · rename_i hok
      exact h.put (hs c List.mem_cons_self) hok
    · exact h
theorem sortL_len : ∀ (l d : List CT), (sortL d l).length ≤ d.length + l.length
  | [], _ => Nat.le_refl _
  | c :: l, d => by
    have h := sortL_len l (if c.ok = true then putL d c else d)
    have h2 : (if c.ok = true then putL d c else d).length ≤ d.length + 1 := by
      split
      · unfold putL
        have := filter_two (p := fun x => decide (CT.cmp x c < 0)) (q := fun x => decide (0 < CT.cmp x c)) (l := d) fun x hx => by
          have := of_decide_eq_true hx
          exact decide_eq_false (by omega)
        rw [List.length_append, List.length_cons]
        omega
      · omega
    show (sortL (if c.ok = true then putL d c else d) l).length ≤ d.length + (l.length + 1)
    omega

section pax
variable {W0 W W' : World} {b o b2 p : Nat} {x y : CT}
/-- A cell of one list, and one of another, in a region that draws. -/
abbrev PaX (W0 : World) (b o b2 p : Nat) (x y : CT) (W : World) : Prop := Hid (Below W0.heap.size W0 W ∧ b < W0.heap.size ∧ b2 < W0.heap.size) ∧ (W.cell? ⟨b, o, none⟩ = some (.string x.r) ∧ W.cell? ⟨b, o + 1, none⟩ = some (.string x.f) ∧ W.cell? ⟨b, o + 2, none⟩ = some (.string x.q) ∧ W.cell? ⟨b, o + 3, none⟩ = some (.int .i64 x.t) ∧ W.cell? ⟨b, o + 4, none⟩ = some (.int .i64 x.k) ∧ W.cell? ⟨b, o + 5, none⟩ = some (.int .i64 x.vk) ∧ W.cell? ⟨b, o + 6, none⟩ = some (.int .i64 x.vn) ∧ W.cell? ⟨b, o + 7, none⟩ = some (.string x.s)) ∧ (W.cell? ⟨b2, p, none⟩ = some (.string y.r) ∧ W.cell? ⟨b2, p + 1, none⟩ = some (.string y.f) ∧ W.cell? ⟨b2, p + 2, none⟩ = some (.string y.q) ∧ W.cell? ⟨b2, p + 3, none⟩ = some (.int .i64 y.t) ∧ W.cell? ⟨b2, p + 4, none⟩ = some (.int .i64 y.k) ∧ W.cell? ⟨b2, p + 5, none⟩ = some (.int .i64 y.vk) ∧ W.cell? ⟨b2, p + 6, none⟩ = some (.int .i64 y.vn) ∧ W.cell? ⟨b2, p + 7, none⟩ = some (.string y.s))
theorem pax_drew (h : PaX W0 b o b2 p x y W) : PaX W0 b o b2 p x y W.drew := ⟨hid ⟨h.1.out.1.drew, h.1.out.2⟩, h.2⟩
theorem pax_call (h : PaX W0 b o b2 p x y W) (hb : Below W.heap.size W W') : PaX W0 b o b2 p x y W' := by
  obtain ⟨hh, ⟨a0, a1, a2, a3, a4, a5, a6, a7⟩, ⟨b0, b1, b2, b3, b4, b5, b6, b7⟩⟩ := h
  obtain ⟨hbw, h2, h3⟩ := hh.out
  have hz := hbw.size
  have hc : ∀ b o, b < W0.heap.size → W'.cell? ⟨b, o, none⟩ = W.cell? ⟨b, o, none⟩ := fun b o h => hb.cell (p := ⟨b, o, none⟩) (show b < W.heap.size by omega)
  refine ⟨hid ⟨hbw.trans (hb.mono hz), h2, h3⟩, ⟨?_, ?_, ?_, ?_, ?_, ?_, ?_, ?_⟩, ⟨?_, ?_, ?_, ?_, ?_, ?_, ?_, ?_⟩⟩ <;> (rw [hc _ _ (by omega)]; assumption)
end pax

set_option maxHeartbeats 16000000 in
set_option maxRecDepth 100000 in
theorem refsort_any (v : Value) (l : List CT) (w : World) (h : ClA w v l) (hs : ∀ x ∈ l, Sm x) (hl : l.length ≤ 1000) :
    Calls Tryd.prog 11 #[v] w fun e w' => ∃ v', e = .returned v' ∧ CRow w' w.heap.size v' (sortL [] l) ∧ Below w.heap.size w w' := by
  have mixed : Tryd.prog.follows .mixedOrders = true := by kernel_rfl
  have HSm := hid hs
  obtain ⟨A, cc, rfl, hc1, hc2, hh⟩ := h
  have HH := hid hh
  clear hh hs
  obtain ⟨n, hn⟩ : ∃ n, l.length = n := ⟨_, rfl⟩
  have HNl := hid hn
  rw [hn] at hc1 hl ⊢
  clear hn
  have HRi : Hid (∀ x ∈ l, ∀ W, Calls Tryd.prog 32 #[x.v] W fun e w' => e = .returned (.bool x.ok) ∧ Below W.heap.size W w') := fun x hx W => refright_ct x (HSm.out x hx) W
  have HE0 := hid (empty_crow w w.heap.size (Nat.le_refl _))
  have HA0 := hid (below_new w (.cells #[] 40))
  go_enter Tryd.func11, Tryd.ntmps11
  go_wp2
  go_loopw [3, 4] (fun vo vi wo => ∃ i : Nat, i ≤ n ∧ vi = .int .i64 i ∧ Hid (CRow wo w.heap.size vo (sortL [] (l.take i))) ∧ Hid (Below w.heap.size w wo)) (fun _ vi _ => n - (intOf vi).toNat)
  case atStart => exact ⟨0, Nat.zero_le _, rfl, HE0.out, HA0.out⟩
  case round =>
    obtain ⟨wo, hwo⟩ : ∃ x, x = wr := ⟨_, rfl⟩
    subst hwo
    clear HE0 HA0
    obtain ⟨i, hi, rfl, HRo, HBo⟩ := hrel
    obtain ⟨A9, c9, e9, hc9, hm9⟩ := HRo.out.len
    subst e9
    have HD : Hid (SortI (sortL [] (l.take i))) := sortL_i _ _ sortI_nil (fun x hx => HSm.out x (List.mem_of_mem_take hx))
    have HDl : Hid ((sortL [] (l.take i)).length ≤ 1000) := by
      have := sortL_len (l.take i) []
      rw [List.length_take, List.length_nil] at this
      have := HNl.out
      show _ ≤ _
      omega
    obtain ⟨d, hd⟩ : ∃ d, sortL [] (l.take i) = d := ⟨_, rfl⟩
    have HDe := hid hd
    rw [hd] at HRo HD HDl hc9
    rw [hd]
    obtain ⟨_, _, ed, _, _, hdc⟩ := HRo.out.cla
    injection ed with ed1 ed2 ed3
    subst ed1 ed3
    clear hd ed2
    have HDc := hid hdc
    clear hdc
    obtain ⟨m, hm⟩ : ∃ m, d.length = m := ⟨_, rfl⟩
    have HLd := hid hm
    rw [hm] at hc9 HRo HDl
    rw [hm]
    have hm1 := HDl.out
    clear hm
    by_cases hlt : i < n
    · have hin : i < l.length := by rw [HNl.out]; exact hlt
      have hltz : (i : Int) < (n : Int) := by omega
      obtain ⟨b, off, rfl, hhc⟩ := HH.out (by omega)
      have hbw : b < w.heap.size := hhc.lt (by omega)
      obtain ⟨c, hc⟩ : ∃ c, l[i]? = some c := ⟨_, List.getElem?_eq_getElem hin⟩
      have HCs : Hid (Sm c) := HSm.out c (List.mem_of_getElem? hc)
      have HRc := hid (HRi.out c (List.mem_of_getElem? hc))
      have HTk : Hid (sortL [] (l.take (i + 1)) = if c.ok = true then putL d c else d) := by
        have e1 : l.take (i + 1) = l.take i ++ [c] := by rw [List.take_add_one, hc]; rfl
        show _ = _
        rw [e1, sortL_snoc, HDe.out]
      have HTc : Hid (∀ W, Below w.heap.size w W → W.cell? ⟨b, off + i * 8, none⟩ = some (.string c.r) ∧ W.cell? ⟨b, off + i * 8 + 1, none⟩ = some (.string c.f) ∧ W.cell? ⟨b, off + i * 8 + 2, none⟩ = some (.string c.q) ∧ W.cell? ⟨b, off + i * 8 + 3, none⟩ = some (.int .i64 c.t) ∧ W.cell? ⟨b, off + i * 8 + 4, none⟩ = some (.int .i64 c.k) ∧ W.cell? ⟨b, off + i * 8 + 5, none⟩ = some (.int .i64 c.vk) ∧ W.cell? ⟨b, off + i * 8 + 6, none⟩ = some (.int .i64 c.vn) ∧ W.cell? ⟨b, off + i * 8 + 7, none⟩ = some (.string c.s)) := fun W hW => ct_words (hhc.below hW hbw) i hc
      obtain ⟨a0, a1, a2, a3, a4, a5, a6, a7⟩ := HTc.out wo HBo.out
      clear hhc hc hin
      cases hok : c.ok with
      | false =>
        rw [hok] at HRc HTk
        clear hok
        go_wp2_with (first | (go_at_call 32; refine (HRc.out _).mono ?_; rintro e w5 ⟨rfl, hb5⟩))
        go_roundw
        case rel => exact ⟨i + 1, by omega, by go_num, by show CRow _ _ _ _; rw [HTk.out]; exact HRo.out.below hb5, HBo.out.trans (hb5.mono HBo.out.size)⟩
        case measure => simp [intOf]; omega
      | true =>
        rw [hok] at HRc HTk
        clear hok
        go_upto_region 6 with (first | (go_at_call 32; refine (HRc.out _).mono ?_; rintro e w5 ⟨rfl, hb5⟩))
        have HB5 : Hid (Below w.heap.size w w5) := HBo.out.trans (hb5.mono HBo.out.size)
        have HR5 := hid (HRo.out.below hb5)
        have HG5 : Hid (Below wo.heap.size wo w5) := hb5
        clear hb5 HRc
        have HE5 := hid (empty_crow w5 w5.heap.size (Nat.le_refl _))
        have HA5 := hid (below_new w5 (.cells #[] 40))
        have HOr : Hid (∀ x ∈ d, ∀ W, Calls Tryd.prog 20 #[c.v, x.v] W fun e w' => e = .returned (.int .i64 (CT.cmp c x)) ∧ Below W.heap.size W w') := fun x hx W => reforder_ct c x HCs.out (HD.out.sm x hx) W
        clear a0 a1 a2 a3 a4 a5 a6 a7
        go_wp2
        go_loopw [5, 6, 7] (fun vn vd vk wr => ∃ (k : Nat) (dn : Bool) (nx : List CT), k ≤ m ∧ vk = .int .i64 k ∧ vd = .bool dn ∧ Hid (CRow wr w5.heap.size vn nx) ∧ Hid (Below w5.heap.size w5 wr) ∧ Hid (NextI d c k dn nx)) (fun _ _ vk _ => m - (intOf vk).toNat)
        case atStart => exact ⟨0, false, [], Nat.zero_le _, rfl, rfl, HE5.out, HA5.out, nxt_start d c⟩
        case round =>
          clear HE5 HA5
          obtain ⟨k, dn, nx, hk, rfl, rfl, HR, HB, HN⟩ := hrel
          obtain ⟨A8, c8, e8, hc8, hm8⟩ := HR.out.len
          subst e8
          by_cases hkt : k < m
          · have hkn : k < d.length := by rw [HLd.out]; exact hkt
            have hktz : (k : Int) < (m : Int) := by omega
            obtain ⟨b2, o2, rfl, hhd⟩ := HDc.out (by omega)
            have hbd : b2 < wo.heap.size := hhd.lt (by omega)
            obtain ⟨x, hx⟩ : ∃ x, d[k]? = some x := ⟨_, List.getElem?_eq_getElem hkn⟩
            have HX := hid hx
            have HTw : Hid (∀ W, Below w5.heap.size w5 W → PaX W b (off + i * 8) b2 (o2 + k * 8) c x W) := fun W hW => ⟨hid ⟨Below.refl _ _, Nat.lt_of_lt_of_le hbw (Nat.le_trans HB5.out.size hW.size), Nat.lt_of_lt_of_le hbd (Nat.le_trans HG5.out.size hW.size)⟩, HTc.out W (HB5.out.trans (hW.mono HB5.out.size)), ct_words ((hhd.below HG5.out hbd).below hW (Nat.lt_of_lt_of_le hbd HG5.out.size)) k hx⟩
            have HT := hid (HTw.out wr HB.out)
            obtain ⟨-, ⟨a0, a1, a2, a3, a4, a5, a6, a7⟩, ⟨x0, x1, x2, x3, x4, x5, x6, x7⟩⟩ := HT.out
            have HOx := hid (HOr.out x (List.mem_of_getElem? hx))
            have hnl : nx.length ≤ m + 1 := by have := nxt_len HN.out (by omega); rw [HLd.out] at this; exact this
            have HLn : Hid (nx.length ≤ 100000) := by show nx.length ≤ _; omega
            have HLm : Hid (∀ y, (nx ++ [y]).length ≤ 100000) := fun y => by rw [List.length_append, List.length_singleton]; omega
            clear hhd hkn hx hnl
            obtain ⟨o, ho⟩ : ∃ o, CT.cmp c x = o := ⟨_, rfl⟩
            rw [ho] at HOx
            have HO : Hid (CT.cmp x c = - o) := by rw [← ho]; exact ct_c3.anti c x
            clear ho
            cases dn with
            | true =>
              have hq : 0 < CT.cmp x c := (nxt_done HN.out HX.out).1
              have h1 : o < 0 := by have := HO.out; omega
              have h2 : (o != 0) = true := by simp; omega
              clear hq
              go_upto_region 11 with (fail)
              go_region_held3 (fun W' => Hid (Below wr.heap.size wr W' ∧ b < wr.heap.size ∧ b2 < wr.heap.size) ∧ (W'.cell? ⟨b, off + i * 8, none⟩ = some (.string c.r) ∧ W'.cell? ⟨b, off + i * 8 + 1, none⟩ = some (.string c.f) ∧ W'.cell? ⟨b, off + i * 8 + 2, none⟩ = some (.string c.q) ∧ W'.cell? ⟨b, off + i * 8 + 3, none⟩ = some (.int .i64 c.t) ∧ W'.cell? ⟨b, off + i * 8 + 4, none⟩ = some (.int .i64 c.k) ∧ W'.cell? ⟨b, off + i * 8 + 5, none⟩ = some (.int .i64 c.vk) ∧ W'.cell? ⟨b, off + i * 8 + 6, none⟩ = some (.int .i64 c.vn) ∧ W'.cell? ⟨b, off + i * 8 + 7, none⟩ = some (.string c.s)) ∧ (W'.cell? ⟨b2, o2 + k * 8, none⟩ = some (.string x.r) ∧ W'.cell? ⟨b2, o2 + k * 8 + 1, none⟩ = some (.string x.f) ∧ W'.cell? ⟨b2, o2 + k * 8 + 2, none⟩ = some (.string x.q) ∧ W'.cell? ⟨b2, o2 + k * 8 + 3, none⟩ = some (.int .i64 x.t) ∧ W'.cell? ⟨b2, o2 + k * 8 + 4, none⟩ = some (.int .i64 x.k) ∧ W'.cell? ⟨b2, o2 + k * 8 + 5, none⟩ = some (.int .i64 x.vk) ∧ W'.cell? ⟨b2, o2 + k * 8 + 6, none⟩ = some (.int .i64 x.vn) ∧ W'.cell? ⟨b2, o2 + k * 8 + 7, none⟩ = some (.string x.s)))
                (first | exact HT.out | exact pax_drew HT.out | exact pax_call (by assumption) hb3 | exact pax_drew (by assumption) | assumption)
                (first | (go_at_call 20; refine (HOx.out _).mono ?_; rintro e w3 ⟨rfl, hb3⟩))
              rename_i hLast
              have HZ := hid hLast.1.out.1
              have HR3 := hid (HR.out.below HZ.out)
              have HB3 := hid (HB.out.trans (HZ.out.mono HB.out.size))
              clear HT a0 a1 a2 a3 a4 a5 a6 a7 x0 x1 x2 x3 x4 x5 x6 x7
              obtain ⟨-, ⟨a0, a1, a2, a3, a4, a5, a6, a7⟩, ⟨x0, x1, x2, x3, x4, x5, x6, x7⟩⟩ := hLast
              have HN2 : Hid (NextI d c (k + 1) true (nx ++ [x])) := (nxt_done HN.out HX.out).2
              clear HN HX HO
              go_wp2_with (first | (at_builtin; refine wpList_append_cell rfl (.tmp 53) (.tmp 58) rfl _ w5.heap.size _ _ rfl (HR3.out.below (below_new _ _)) _ 1 rfl x (ct_new x _ _) HLn.out (by have := HB3.out.size; simp; omega) ?_; intro v7 w7 h7 hb7 _; have HR7 := hid h7; have HB7 := hid (HB3.out.trans (((below_new _ _).mono HB3.out.size).trans hb7))))
              go_roundw
              case rel => exact ⟨k + 1, true, _, by omega, by go_num, rfl, HR7.out, HB7.out, HN2.out⟩
              case measure => simp [intOf]; omega
            | false =>
              rcases Int.lt_trichotomy o 0 with h1 | h1 | h1
              · have h2 : (o != 0) = true := by simp; omega
                have h3 : o ≤ 0 := by omega
                go_upto_region 11 with (fail)
                go_region_held3 (fun W' => Hid (Below wr.heap.size wr W' ∧ b < wr.heap.size ∧ b2 < wr.heap.size) ∧ (W'.cell? ⟨b, off + i * 8, none⟩ = some (.string c.r) ∧ W'.cell? ⟨b, off + i * 8 + 1, none⟩ = some (.string c.f) ∧ W'.cell? ⟨b, off + i * 8 + 2, none⟩ = some (.string c.q) ∧ W'.cell? ⟨b, off + i * 8 + 3, none⟩ = some (.int .i64 c.t) ∧ W'.cell? ⟨b, off + i * 8 + 4, none⟩ = some (.int .i64 c.k) ∧ W'.cell? ⟨b, off + i * 8 + 5, none⟩ = some (.int .i64 c.vk) ∧ W'.cell? ⟨b, off + i * 8 + 6, none⟩ = some (.int .i64 c.vn) ∧ W'.cell? ⟨b, off + i * 8 + 7, none⟩ = some (.string c.s)) ∧ (W'.cell? ⟨b2, o2 + k * 8, none⟩ = some (.string x.r) ∧ W'.cell? ⟨b2, o2 + k * 8 + 1, none⟩ = some (.string x.f) ∧ W'.cell? ⟨b2, o2 + k * 8 + 2, none⟩ = some (.string x.q) ∧ W'.cell? ⟨b2, o2 + k * 8 + 3, none⟩ = some (.int .i64 x.t) ∧ W'.cell? ⟨b2, o2 + k * 8 + 4, none⟩ = some (.int .i64 x.k) ∧ W'.cell? ⟨b2, o2 + k * 8 + 5, none⟩ = some (.int .i64 x.vk) ∧ W'.cell? ⟨b2, o2 + k * 8 + 6, none⟩ = some (.int .i64 x.vn) ∧ W'.cell? ⟨b2, o2 + k * 8 + 7, none⟩ = some (.string x.s)))
                  (first | exact HT.out | exact pax_drew HT.out | exact pax_call (by assumption) hb3 | exact pax_drew (by assumption) | assumption)
                  (first | (go_at_call 20; refine (HOx.out _).mono ?_; rintro e w3 ⟨rfl, hb3⟩))
                rename_i hLast
                have HZ := hid hLast.1.out.1
                have HR3 := hid (HR.out.below HZ.out)
                have HB3 := hid (HB.out.trans (HZ.out.mono HB.out.size))
                clear HT a0 a1 a2 a3 a4 a5 a6 a7 x0 x1 x2 x3 x4 x5 x6 x7
                obtain ⟨-, ⟨a0, a1, a2, a3, a4, a5, a6, a7⟩, ⟨x0, x1, x2, x3, x4, x5, x6, x7⟩⟩ := hLast
                have HN2 : Hid (NextI d c (k + 1) true (nx ++ [c] ++ [x])) := nxt_high HD.out.rise HN.out HX.out (by have := HO.out; omega)
                clear HN HX HO
                go_wp2_with (first | (at_builtin; refine wpList_append_cell rfl (.tmp 44) (.tmp 49) rfl _ w5.heap.size _ _ rfl (HR3.out.below (below_new _ _)) _ 1 rfl c (ct_new c _ _) HLn.out (by have := HB3.out.size; simp; omega) ?_; intro v6 w6 h6 hb6 _; have HR6 := hid h6; have HB6 := hid (HB3.out.trans (((below_new _ _).mono HB3.out.size).trans hb6)); obtain ⟨-, -, ⟨x0, x1, x2, x3, x4, x5, x6, x7⟩⟩ := HTw.out _ HB6.out) | (at_builtin; refine wpList_append_cell rfl (.tmp 53) (.tmp 58) rfl _ w5.heap.size _ _ rfl (HR6.out.below (below_new _ _)) _ 1 rfl x (ct_new x _ _) (HLm.out c) (by have := HB6.out.size; simp; omega) ?_; intro v7 w7 h7 hb7 _; have HR7 := hid h7; have HB7 := hid (HB6.out.trans (((below_new _ _).mono HB6.out.size).trans hb7))))
                go_roundw
                case rel => exact ⟨k + 1, true, _, by omega, by go_num, rfl, HR7.out, HB7.out, HN2.out⟩
                case measure => simp [intOf]; omega
              · subst h1
                go_upto_region 11 with (fail)
                go_region_held3 (fun W' => Hid (Below wr.heap.size wr W' ∧ b < wr.heap.size ∧ b2 < wr.heap.size) ∧ (W'.cell? ⟨b, off + i * 8, none⟩ = some (.string c.r) ∧ W'.cell? ⟨b, off + i * 8 + 1, none⟩ = some (.string c.f) ∧ W'.cell? ⟨b, off + i * 8 + 2, none⟩ = some (.string c.q) ∧ W'.cell? ⟨b, off + i * 8 + 3, none⟩ = some (.int .i64 c.t) ∧ W'.cell? ⟨b, off + i * 8 + 4, none⟩ = some (.int .i64 c.k) ∧ W'.cell? ⟨b, off + i * 8 + 5, none⟩ = some (.int .i64 c.vk) ∧ W'.cell? ⟨b, off + i * 8 + 6, none⟩ = some (.int .i64 c.vn) ∧ W'.cell? ⟨b, off + i * 8 + 7, none⟩ = some (.string c.s)) ∧ (W'.cell? ⟨b2, o2 + k * 8, none⟩ = some (.string x.r) ∧ W'.cell? ⟨b2, o2 + k * 8 + 1, none⟩ = some (.string x.f) ∧ W'.cell? ⟨b2, o2 + k * 8 + 2, none⟩ = some (.string x.q) ∧ W'.cell? ⟨b2, o2 + k * 8 + 3, none⟩ = some (.int .i64 x.t) ∧ W'.cell? ⟨b2, o2 + k * 8 + 4, none⟩ = some (.int .i64 x.k) ∧ W'.cell? ⟨b2, o2 + k * 8 + 5, none⟩ = some (.int .i64 x.vk) ∧ W'.cell? ⟨b2, o2 + k * 8 + 6, none⟩ = some (.int .i64 x.vn) ∧ W'.cell? ⟨b2, o2 + k * 8 + 7, none⟩ = some (.string x.s)))
                  (first | exact HT.out | exact pax_drew HT.out | exact pax_call (by assumption) hb3 | exact pax_drew (by assumption) | assumption)
                  (first | (go_at_call 20; refine (HOx.out _).mono ?_; rintro e w3 ⟨rfl, hb3⟩))
                rename_i hLast
                have HZ := hid hLast.1.out.1
                have HR3 := hid (HR.out.below HZ.out)
                have HB3 := hid (HB.out.trans (HZ.out.mono HB.out.size))
                clear HT a0 a1 a2 a3 a4 a5 a6 a7 x0 x1 x2 x3 x4 x5 x6 x7
                obtain ⟨-, ⟨a0, a1, a2, a3, a4, a5, a6, a7⟩, ⟨x0, x1, x2, x3, x4, x5, x6, x7⟩⟩ := hLast
                have HN2 : Hid (NextI d c (k + 1) true (nx ++ [c])) := nxt_same HD.out.rise HN.out HX.out (by have := HO.out; omega)
                clear HN HX HO
                go_wp2_with (first | (at_builtin; refine wpList_append_cell rfl (.tmp 44) (.tmp 49) rfl _ w5.heap.size _ _ rfl (HR3.out.below (below_new _ _)) _ 1 rfl c (ct_new c _ _) HLn.out (by have := HB3.out.size; simp; omega) ?_; intro v6 w6 h6 hb6 _; have HR6 := hid h6; have HB6 := hid (HB3.out.trans (((below_new _ _).mono HB3.out.size).trans hb6)); obtain ⟨-, -, ⟨x0, x1, x2, x3, x4, x5, x6, x7⟩⟩ := HTw.out _ HB6.out))
                go_roundw
                case rel => exact ⟨k + 1, true, _, by omega, by go_num, rfl, HR6.out, HB6.out, HN2.out⟩
                case measure => simp [intOf]; omega
              · have h2 : (o != 0) = true := by simp; omega
                have h3 : ¬ o ≤ 0 := by omega
                go_upto_region 11 with (fail)
                go_region_held3 (fun W' => Hid (Below wr.heap.size wr W' ∧ b < wr.heap.size ∧ b2 < wr.heap.size) ∧ (W'.cell? ⟨b, off + i * 8, none⟩ = some (.string c.r) ∧ W'.cell? ⟨b, off + i * 8 + 1, none⟩ = some (.string c.f) ∧ W'.cell? ⟨b, off + i * 8 + 2, none⟩ = some (.string c.q) ∧ W'.cell? ⟨b, off + i * 8 + 3, none⟩ = some (.int .i64 c.t) ∧ W'.cell? ⟨b, off + i * 8 + 4, none⟩ = some (.int .i64 c.k) ∧ W'.cell? ⟨b, off + i * 8 + 5, none⟩ = some (.int .i64 c.vk) ∧ W'.cell? ⟨b, off + i * 8 + 6, none⟩ = some (.int .i64 c.vn) ∧ W'.cell? ⟨b, off + i * 8 + 7, none⟩ = some (.string c.s)) ∧ (W'.cell? ⟨b2, o2 + k * 8, none⟩ = some (.string x.r) ∧ W'.cell? ⟨b2, o2 + k * 8 + 1, none⟩ = some (.string x.f) ∧ W'.cell? ⟨b2, o2 + k * 8 + 2, none⟩ = some (.string x.q) ∧ W'.cell? ⟨b2, o2 + k * 8 + 3, none⟩ = some (.int .i64 x.t) ∧ W'.cell? ⟨b2, o2 + k * 8 + 4, none⟩ = some (.int .i64 x.k) ∧ W'.cell? ⟨b2, o2 + k * 8 + 5, none⟩ = some (.int .i64 x.vk) ∧ W'.cell? ⟨b2, o2 + k * 8 + 6, none⟩ = some (.int .i64 x.vn) ∧ W'.cell? ⟨b2, o2 + k * 8 + 7, none⟩ = some (.string x.s)))
                  (first | exact HT.out | exact pax_drew HT.out | exact pax_call (by assumption) hb3 | exact pax_drew (by assumption) | assumption)
                  (first | (go_at_call 20; refine (HOx.out _).mono ?_; rintro e w3 ⟨rfl, hb3⟩))
                rename_i hLast
                have HZ := hid hLast.1.out.1
                have HR3 := hid (HR.out.below HZ.out)
                have HB3 := hid (HB.out.trans (HZ.out.mono HB.out.size))
                clear HT a0 a1 a2 a3 a4 a5 a6 a7 x0 x1 x2 x3 x4 x5 x6 x7
                obtain ⟨-, ⟨a0, a1, a2, a3, a4, a5, a6, a7⟩, ⟨x0, x1, x2, x3, x4, x5, x6, x7⟩⟩ := hLast
                have HN2 : Hid (NextI d c (k + 1) false (nx ++ [x])) := nxt_low HN.out HX.out (by have := HO.out; omega)
                clear HN HX HO
                go_wp2_with (first | (at_builtin; refine wpList_append_cell rfl (.tmp 53) (.tmp 58) rfl _ w5.heap.size _ _ rfl (HR3.out.below (below_new _ _)) _ 1 rfl x (ct_new x _ _) HLn.out (by have := HB3.out.size; simp; omega) ?_; intro v7 w7 h7 hb7 _; have HR7 := hid h7; have HB7 := hid (HB3.out.trans (((below_new _ _).mono HB3.out.size).trans hb7))))
                go_roundw
                case rel => exact ⟨k + 1, false, _, by omega, by go_num, rfl, HR7.out, HB7.out, HN2.out⟩
                case measure => simp [intOf]; omega
          · obtain rfl : k = m := by omega
            have HNl := hid (nxt_len HN.out (by rw [HLd.out]; exact Nat.le_refl _))
            obtain ⟨a0, a1, a2, a3, a4, a5, a6, a7⟩ := HTc.out wr (HB5.out.trans (HB.out.mono HB5.out.size))
            have HBw : Hid (Below w.heap.size w wr) := HB5.out.trans (HB.out.mono HB5.out.size)
            cases dn with
            | true =>
              have HQ : Hid (nx = putL d c) := by
                have h1 := HN.out
                rw [← HLd.out] at h1
                exact nxt_end1 h1
              go_wp2
              go_roundw
              case rel => exact ⟨i + 1, by omega, by go_num, by show CRow _ _ _ _; rw [HTk.out, if_pos trivial, ← HQ.out]; exact HR.out.le HB5.out.size, HBw.out⟩
              case measure => simp [intOf]; omega
            | false =>
              have HQ : Hid (nx ++ [c] = putL d c) := by
                have h1 := HN.out
                rw [← HLd.out] at h1
                exact nxt_end0 h1
              have HLn : Hid (nx.length ≤ 100000) := by have := HNl.out; have := HLd.out; show nx.length ≤ _; omega
              go_wp2_with (first | (at_builtin; refine wpList_append_cell rfl (.tmp 62) (.tmp 67) rfl _ w5.heap.size _ _ rfl (HR.out.below (below_new _ _)) _ 1 rfl c (ct_new c _ _) HLn.out (by have := HB.out.size; simp; omega) ?_; intro v6 w6 h6 hb6 _; have HR6 := hid h6; have HB6 := hid (HB.out.trans (((below_new _ _).mono HB.out.size).trans hb6))))
              go_roundw
              case rel => exact ⟨i + 1, by omega, by go_num, by show CRow _ _ _ _; rw [HTk.out, if_pos trivial, ← HQ.out]; exact HR6.out.le HB5.out.size, HB5.out.trans (HB6.out.mono HB5.out.size)⟩
              case measure => simp [intOf]; omega
    · obtain rfl : i = n := by omega
      go_wp2
      go_ret
      refine ⟨_, rfl, ?_, HBo.out⟩
      have e := HDe.out
      rw [← HNl.out, List.take_length] at e
      rw [e]
      exact HRo.out
end Go.Proofs.YtfcnobcpnhfgmaaDoor

/- block.Find at any bytes. Conditions: the slice holds its bytes, a hundred thousand at most; the tables of utf8 read as they are laid. -/
namespace Go.Proofs.YtfcnobcpnhfgmaaDoor
open Go.RowKit

/-- The first cell that isn't ahead of c. -/
def findL (l : List CT) (c : CT) : Option CT := l.find? (fun x => decide (0 ≤ CT.cmp x c))
/-- The cells that any bytes are a block of, or none. -/
def BlockOf (l : List UInt8) (cs : List CT) : Prop := ((∀ c ∈ cs, Bc c) ∧ fineK [] cs = true ∧ cs.length ≤ 1000 ∧ blockB cs = l) ∨ (cs = [] ∧ NoBlock l)
theorem sx_any {w : World} {v : Value} {l : List UInt8} {r1 r2 : Nat} (h : Sx w r1 v l) (h2 : w.heap.size ≤ r2) : Sx w r2 v l := by
  obtain ⟨A, c, h1, h2', h3, h4, h5⟩ := h
  refine ⟨A, c, h1, h2', h3, h4, fun h0 => ?_⟩
  obtain ⟨b, off, e, _, h6, hh⟩ := h5 h0
  exact ⟨b, off, e, by omega, h6, hh⟩

set_option maxRecDepth 100000 in
set_option maxHeartbeats 8000000 in
theorem find_any (v : Value) (l : List UInt8) (c : CT) (hl : l.length ≤ 100000) (w : World) (h : Sx w w.heap.size v l) (hL : LaidU w) :
    Calls Tryd.prog 19 #[v, c.v] w fun e w' => Below w.heap.size w w' ∧ ∃ cs, BlockOf l cs ∧ e = .returned (.tuple #[((findL cs c).getD default).v, .bool (findL cs c).isSome]) := by
  have HP : Hid (∀ W, Below w.heap.size w W → Calls Tryd.prog 13 #[v] W fun e w' => ∃ Al nl cl ok cs, e = .returned (.tuple #[.slice Al nl cl, .bool ok]) ∧ Hid (Below W.heap.size W w' ∧ BlockOf l cs ∧ cs.length = nl ∧ ClA w' (.slice Al nl cl) cs)) := fun W hW => by
    refine (parse_any v l hl W (sx_any (h.below hW) (Nat.le_refl _)) (hL.below hW)).mono fun e w' ⟨hb, hc⟩ => ?_
    rcases hc with ⟨u, cs, he, hr, h1, h2, h3, h4⟩ | ⟨he, hno⟩
    · obtain ⟨Al, cl, rfl, _, _⟩ := hr.len
      exact ⟨Al, _, cl, true, cs, he, hb, .inl ⟨h1, h2, h3, h4⟩, rfl, hr.cla⟩
    · exact ⟨none, 0, 0, false, [], he, hb, .inr ⟨rfl, hno⟩, rfl, cla_nil _⟩
  have HI : Hid (∀ (W : World) (u : Value) (cs : List CT) (g : Nat), cs.length ≤ 1000 → ClA W u cs → DW W g c → Calls Tryd.prog 55 #[u, .func (.func 56) #[] #[.pointer (some ⟨g, 0, none⟩)]] W fun e w' => Below W.heap.size W w' ∧ ((∃ (i : Nat) (x : CT), cs[i]? = some x ∧ findL cs c = some x ∧ e = .returned (.int .i64 (i : Int))) ∨ (findL cs c = none ∧ e = .returned (.int .i64 (-1))))) := fun W u cs g h1 h2 h3 => index_any u cs c g (by omega) W h2 h3
  obtain ⟨A, cap, rfl, _⟩ := h
  obtain ⟨m, hm⟩ : ∃ m, l.length = m := ⟨_, rfl⟩
  rw [hm] at HP ⊢
  clear hm hL
  have H0 : Hid (∀ W0 : World, W0 = (w.alloc (.cells #[.string c.r, .string c.f, .string c.q, .int .i64 c.t, .int .i64 c.k, .int .i64 c.vk, .int .i64 c.vn, .string c.s] 40)).alloc (.cells zeroA 40) → Below w.heap.size w W0 ∧ DW W0 w.heap.size c ∧ Blk W0 (w.heap.size + 1) 40 (default : CT).e.toArray) := by
    rintro _ rfl
    have h1 : DW (w.alloc (.cells #[.string c.r, .string c.f, .string c.q, .int .i64 c.t, .int .i64 c.k, .int .i64 c.vk, .int .i64 c.vn, .string c.s] 40)) w.heap.size c := Blk.new w _ _
    refine ⟨(below_new w _).alloc (by simp) _, h1.below (below_new _ _), ?_⟩
    have h2 := Blk.new (w.alloc (.cells #[.string c.r, .string c.f, .string c.q, .int .i64 c.t, .int .i64 c.k, .int .i64 c.vk, .int .i64 c.vn, .string c.s] 40)) 40 (default : CT).e.toArray
    rw [World.size_alloc] at h2
    exact h2
  have hmf : ∀ (fn : Fn) (first cap : Array Value) (w : World), (Instr.makeFunc fn first cap).run Tryd.prog w = .ok (.func fn first cap) w := fun _ _ _ _ => rfl
  go_enter Tryd.func19, Tryd.ntmps19
  go_upto_region 2 with (first
    | (go_at_call 13; refine (HP.out _ (H0.out _ rfl).1).mono ?_; rintro e w1 ⟨Al, nl, cl, ok, cs, rfl, H1⟩; have HD1 : Hid (Below w.heap.size w w1 ∧ DW w1 w.heap.size c ∧ Blk w1 (w.heap.size + 1) 40 (default : CT).e.toArray) := (by obtain ⟨q1, q2, q3⟩ := H0.out _ rfl; exact ⟨q1.trans (H1.out.1.mono q1.size), q2.below H1.out.1, q3.keep H1.out.1 q3.lt⟩)))
  have HLc : Hid (cs.length ≤ 1000) := by
    rcases H1.out.2.1 with h | ⟨h, _⟩
    · exact h.2.2.1
    · rw [h]; show (0 : Nat) ≤ _; omega
  cases hf : findL cs c with
  | none =>
    have HIn : Hid (Calls Tryd.prog 55 #[.slice Al nl cl, .func (.func 56) #[] #[.pointer (some ⟨w.heap.size, 0, none⟩)]] w1 fun e w' => Below w1.heap.size w1 w' ∧ e = .returned (.int .i64 (-1))) := by
      refine (HI.out w1 _ cs w.heap.size HLc.out H1.out.2.2.2 HD1.out.2.1).mono fun e w' ⟨hb, hc⟩ => ⟨hb, ?_⟩
      rcases hc with ⟨i, x, _, h2, _⟩ | ⟨_, h2⟩
      · rw [hf] at h2; cases h2
      · exact h2
    have HFi := hid hf
    clear hf
    go_upto_region 3 with (first
      | (go_at_call 55; refine HIn.out.mono ?_; rintro e w2 ⟨hb2, rfl⟩))
    have HZ2 := hid (HD1.out.2.2.keep hb2 HD1.out.2.2.lt)
    have HB2 := hid (HD1.out.1.trans (hb2.mono HD1.out.1.size))
    clear hb2
    obtain ⟨r0, r1, r2, r3, r4, r5, r6, r7⟩ := blkc_words HZ2.out
    have zf : ∀ j, w2.frozen? ⟨w.heap.size + 1, j, none⟩ = false := fun j => HZ2.out.free j
    go_wp2
    refine bodyPost_ret (v := .tuple #[(default : CT).v, .bool false]) (by simp [results, Tryd.results19, go_sem, cell_set_same, r0, r1, r2, r3, r4, r5, r6, r7]; exact ⟨rfl, rfl, rfl, rfl, rfl, rfl, rfl, rfl⟩) rfl ?_
    refine ⟨?_, cs, H1.out.2.1, by rw [HFi.out]; rfl⟩
    exact ((((((((HB2.out.setCell (p := ⟨w.heap.size + 1, 0, none⟩) (by simp) _).setCell (p := ⟨w.heap.size + 1, 1, none⟩) (by simp) _).setCell (p := ⟨w.heap.size + 1, 2, none⟩) (by simp) _).setCell (p := ⟨w.heap.size + 1, 3, none⟩) (by simp) _).setCell (p := ⟨w.heap.size + 1, 4, none⟩) (by simp) _).setCell (p := ⟨w.heap.size + 1, 5, none⟩) (by simp) _).setCell (p := ⟨w.heap.size + 1, 6, none⟩) (by simp) _).setCell (p := ⟨w.heap.size + 1, 7, none⟩) (by simp) _)
  | some x =>
    have HIn : Hid (Calls Tryd.prog 55 #[.slice Al nl cl, .func (.func 56) #[] #[.pointer (some ⟨w.heap.size, 0, none⟩)]] w1 fun e w' => Below w1.heap.size w1 w' ∧ ∃ i : Nat, e = .returned (.int .i64 (i : Int)) ∧ cs[i]? = some x) := by
      refine (HI.out w1 _ cs w.heap.size HLc.out H1.out.2.2.2 HD1.out.2.1).mono fun e w' ⟨hb, hc⟩ => ⟨hb, ?_⟩
      rcases hc with ⟨i, y, h1, h2, h3⟩ | ⟨h2, _⟩
      · rw [hf] at h2
        cases h2
        exact ⟨i, h3, h1⟩
      · rw [hf] at h2; cases h2
    have HFi := hid hf
    clear hf
    go_upto_region 3 with (first
      | (go_at_call 55; refine HIn.out.mono ?_; rintro e w2 ⟨hb2, i, rfl, hi⟩))
    have HZ2 := hid (HD1.out.2.2.keep hb2 HD1.out.2.2.lt)
    have HB2 := hid (HD1.out.1.trans (hb2.mono HD1.out.1.size))
    obtain ⟨_, _, ea, hcl1, hcl2, hhc⟩ := H1.out.2.2.2
    injection ea with ea1 ea2 ea3
    subst ea1 ea3
    have hin : i < cs.length := (List.getElem?_eq_some_iff.1 hi).1
    obtain ⟨b, off, rfl, hhd⟩ := hhc (by omega)
    have hnl : i < nl := by have := H1.out.2.2.1; omega
    have hnc : nl ≤ 1000 := by have := H1.out.2.2.1; have := HLc.out; omega
    have hiz : (i : Int) < (nl : Int) := by omega
    have hi0 : ¬ (i : Int) < 0 := by omega
    obtain ⟨y0, y1, y2, y3, y4, y5, y6, y7⟩ := ct_words (hhd.below hb2 (hhd.lt (by omega))) i hi
    clear hb2 hi hin hhc hhd ea2 hcl1 hcl2
    obtain ⟨r0, r1, r2, r3, r4, r5, r6, r7⟩ := blkc_words HZ2.out
    have zf : ∀ j, w2.frozen? ⟨w.heap.size + 1, j, none⟩ = false := fun j => HZ2.out.free j
    go_wp2
    refine bodyPost_ret (v := .tuple #[x.v, .bool true]) (by simp [results, Tryd.results19, go_sem, cell_set_same, r0, r1, r2, r3, r4, r5, r6, r7]) rfl ?_
    refine ⟨?_, cs, H1.out.2.1, by rw [HFi.out]; rfl⟩
    exact ((((((((HB2.out.setCell (p := ⟨w.heap.size + 1, 0, none⟩) (by simp) _).setCell (p := ⟨w.heap.size + 1, 1, none⟩) (by simp) _).setCell (p := ⟨w.heap.size + 1, 2, none⟩) (by simp) _).setCell (p := ⟨w.heap.size + 1, 3, none⟩) (by simp) _).setCell (p := ⟨w.heap.size + 1, 4, none⟩) (by simp) _).setCell (p := ⟨w.heap.size + 1, 5, none⟩) (by simp) _).setCell (p := ⟨w.heap.size + 1, 6, none⟩) (by simp) _).setCell (p := ⟨w.heap.size + 1, 7, none⟩) (by simp) _)
end Go.Proofs.YtfcnobcpnhfgmaaDoor

/- The fixed part of layer 8's laws: alive. Conditions: the tables of utf8 read as they are laid. -/
namespace Go.Proofs.YtfcnobcpnhfgmaaDoor
open Go.RowKit

def put8 (r : ByteArray) (n : Int) : CT := ⟨r, ⟨#[102]⟩, ⟨#[113]⟩, n, 1, 4, 1, ⟨#[]⟩⟩
abbrev rA8 : ByteArray := ⟨#[97]⟩
set_option maxHeartbeats 1000000 in
theorem put8_any (r : ByteArray) (n : Int) (w : World) : Calls Tryd.prog 42 #[.string r, .int .i64 n] w fun e w' => e = .returned (.agg #[.string r, .string ⟨#[102]⟩, .string ⟨#[113]⟩, .int .i64 n, .int .i64 1, .int .i64 4, .int .i64 1, .string ⟨#[]⟩]) ∧ Below w.heap.size w w' := by
  go_enter Tryd.func42, Tryd.ntmps42
  go_wp2
  refine bodyPost_ret (v := (put8 r n).v) (by simp [results, Tryd.results42, go_sem, put8, CT.v, cellV]) rfl ?_
  exact ⟨rfl, below_new _ _⟩
abbrev ps8 : List CT := [put8 rA8 2, put8 rA8 1]
theorem put8_ok (n : Int) (h : 0 ≤ n) (h2 : n ≤ 5) : (put8 rA8 n).ok = true := by
  obtain rfl | rfl | rfl | rfl | rfl | rfl : n = 0 ∨ n = 1 ∨ n = 2 ∨ n = 3 ∨ n = 4 ∨ n = 5 := by omega
  all_goals kernel_rfl
theorem put8_sm (n : Int) (hn : inI n) : Sm (put8 rA8 n) := ⟨⟨by show (1 : Nat) ≤ _; omega, by show (0 : Nat) ≤ _; omega, by show inI 1; unfold inI; omega⟩, by show (1 : Nat) ≤ _; omega, by show (1 : Nat) ≤ _; omega, by show (1 : Nat) ≤ _; omega, by show (0 : Nat) ≤ _; omega⟩
theorem ps8_sm : ∀ c ∈ ps8, Sm c := fun c hc => by
  rcases List.mem_cons.1 hc with rfl | hc
  · exact put8_sm 2 (by unfold inI; omega)
  · rw [List.mem_singleton.1 hc]; exact put8_sm 1 (by unfold inI; omega)
theorem ps8_bc : ∀ c ∈ ps8, Bc c := fun c hc => by
  rcases List.mem_cons.1 hc with rfl | hc
  · exact ⟨put8_ok 2 (by omega) (by omega), by show inI 1; unfold inI; omega, by show (0 : Nat) ≤ _; omega⟩
  · rw [List.mem_singleton.1 hc]; exact ⟨put8_ok 1 (by omega) (by omega), by show inI 1; unfold inI; omega, by show (0 : Nat) ≤ _; omega⟩
theorem ps8_fine : fineK [] ps8 = true := by kernel_rfl
theorem ps8_not : fineK [] [put8 rA8 1, put8 rA8 2] = false := by kernel_rfl
theorem ps8_find : findL ps8 (put8 rA8 1) = some (put8 rA8 1) := by kernel_rfl
theorem ps8_len : (blockB ps8).length ≤ 1000 := of_decide_eq_true (by kernel_rfl)
theorem ps8_pos : 0 < (blockB ps8).length := of_decide_eq_true (by kernel_rfl)
theorem ps8_fit : fitN 5 ps8 = 1 := by kernel_rfl
theorem ps8_fit2 : fitN 5 [put8 rA8 1] = 1 := by kernel_rfl
theorem ps8_cut : (cutL 5 ps8).length = 2 := by
  rw [cutL_more 5 (show 0 < ps8.length by decide), ps8_fit]
  show (cutL 5 [put8 rA8 1]).length + 1 = 2
  rw [cutL_more 5 (show 0 < [put8 rA8 1].length by decide), ps8_fit2]
  show (cutL 5 []).length + 1 + 1 = 2
  rw [cutL_nil]
  rfl
/-- Two cells in a new block. -/
theorem two_cla (W : World) (a b : CT) : ClA (W.alloc (.cells #[.string a.r, .string a.f, .string a.q, .int .i64 a.t, .int .i64 a.k, .int .i64 a.vk, .int .i64 a.vn, .string a.s, .string b.r, .string b.f, .string b.q, .int .i64 b.t, .int .i64 b.k, .int .i64 b.vk, .int .i64 b.vn, .string b.s] 40)) (.slice (some ⟨W.heap.size, 0, none⟩) 2 2) [a, b] := by
  refine ⟨_, 2, rfl, Nat.le_refl _, by omega, fun _ => ⟨W.heap.size, 0, rfl, fun i hi j hj => ?_⟩⟩
  rw [Nat.zero_add, (Blk.new W _ _).cell]
  have hi2 : i < 2 := hi
  obtain rfl | rfl : i = 0 ∨ i = 1 := by omega
  all_goals
    obtain rfl | rfl | rfl | rfl | rfl | rfl | rfl | rfl : j = 0 ∨ j = 1 ∨ j = 2 ∨ j = 3 ∨ j = 4 ∨ j = 5 ∨ j = 6 ∨ j = 7 := by omega
    all_goals rfl
theorem row_sx {w : World} {B : Nat} {v : Value} {l : List UInt8} (h : Row w B v l) : Sx w w.heap.size v l := by
  rcases h.2 with ⟨e, h0⟩ | ⟨g, cap, cur, e, hg, hh, h1, h2, _⟩
  · have : l = [] := List.eq_nil_of_length_eq_zero h0
    subst this e
    exact sx_nil w _
  · have hlt : g < w.heap.size := World.ownsRow.lt h g (by rw [e]; rfl) |>.2
    refine ⟨_, cap, e, h1, by unfold maxLen at h2; omega, fun e => (by cases e), fun _ => ⟨g, 0, rfl, by omega, hlt, fun i hi => ?_⟩⟩
    obtain ⟨g', cap', e', _, _, _, hc⟩ := h.form (by omega)
    rw [e] at e'
    injection e' with e1
    injection e1 with e1
    injection e1 with e1
    rw [Nat.zero_add, e1]
    exact hc i hi
/-- Parse of a block's bytes. -/
theorem parse_block (v : Value) (cs : List CT) (h1 : ∀ c ∈ cs, Bc c) (h2 : fineK [] cs = true) (h3 : cs.length ≤ 1000) (hl : (blockB cs).length ≤ 100000) (w : World) (h : Sx w w.heap.size v (blockB cs)) (hL : LaidU w) :
    Calls Tryd.prog 13 #[v] w fun e w' => ∃ A c, e = .returned (.tuple #[.slice A cs.length c, .bool true]) ∧ ClA w' (.slice A cs.length c) cs ∧ Below w.heap.size w w' := by
  refine (parse_any v (blockB cs) hl w h hL).mono fun e w' ⟨hb, hc⟩ => ?_
  rcases hc with ⟨u, ds, he, hr, g1, g2, g3, g4⟩ | ⟨_, hno⟩
  · obtain rfl := block_same g3 h3 g1 h1 g2 h2 g4
    obtain ⟨A, c, rfl, _⟩ := hr.len
    exact ⟨A, c, he, hr.cla, hb⟩
  · exact absurd rfl (hno cs h1 h2 h3)
/-- Find in a block's bytes. -/
theorem find_block (v : Value) (cs : List CT) (c : CT) (h1 : ∀ c ∈ cs, Bc c) (h2 : fineK [] cs = true) (h3 : cs.length ≤ 1000) (hl : (blockB cs).length ≤ 100000) (w : World) (h : Sx w w.heap.size v (blockB cs)) (hL : LaidU w) :
    Calls Tryd.prog 19 #[v, c.v] w fun e w' => e = .returned (.tuple #[((findL cs c).getD default).v, .bool (findL cs c).isSome]) ∧ Below w.heap.size w w' := by
  refine (find_any v (blockB cs) c hl w h hL).mono fun e w' ⟨hb, ds, hd, he⟩ => ?_
  rcases hd with ⟨g1, g2, g3, g4⟩ | ⟨_, hno⟩
  · obtain rfl := block_same g3 h3 g1 h1 g2 h2 g4
    exact ⟨he, hb⟩
  · exact absurd rfl (hno cs h1 h2 h3)

/-- Where alive is. -/
def Al8S (w W : World) (g cap nb : Nat) (vs : List Value) : Prop := Below w.heap.size w W ∧ Row W w.heap.size (.slice (some ⟨g, 0, none⟩) nb cap) (blockB ps8) ∧ ∀ v ∈ vs, ClA W v ps8
theorem al8_below {w W W' : World} {g cap nb : Nat} {vs : List Value} (h : Al8S w W g cap nb vs) (hb : Below W.heap.size W W') : Al8S w W' g cap nb vs :=
  ⟨h.1.trans (hb.mono h.1.size), h.2.1.keep hb h.2.1.block_lt, fun v hv => (h.2.2 v hv).below hb⟩
/-- The same in the last region, which draws its order. -/
abbrev Al8W (w W0 : World) (g cap nb : Nat) (vs : List Value) (cb : Nat) (W : World) : Prop := Hid (Al8S w W g cap nb vs ∧ Below W0.heap.size W0 W ∧ cb < W0.heap.size) ∧ W.cell? ⟨cb, 0, none⟩ = some (.string rA8) ∧ W.cell? ⟨cb, 1, none⟩ = some (.string ⟨#[102]⟩) ∧ W.cell? ⟨cb, 2, none⟩ = some (.string ⟨#[113]⟩) ∧ W.cell? ⟨cb, 3, none⟩ = some (.int .i64 1) ∧ W.cell? ⟨cb, 4, none⟩ = some (.int .i64 1) ∧ W.cell? ⟨cb, 5, none⟩ = some (.int .i64 4) ∧ W.cell? ⟨cb, 6, none⟩ = some (.int .i64 1) ∧ W.cell? ⟨cb, 7, none⟩ = some (.string ⟨#[]⟩)
theorem al8w_start {w W : World} {g cap nb cb : Nat} {vs : List Value} (h : Al8S w W g cap nb vs) (hx : DW W cb (put8 rA8 1)) : Al8W w W g cap nb vs cb W := ⟨hid ⟨h, Below.refl _ _, Blk.lt hx⟩, hx.words⟩
theorem al8w_drew {w W0 W : World} {g cap nb cb : Nat} {vs : List Value} (h : Al8W w W0 g cap nb vs cb W) : Al8W w W0 g cap nb vs cb W.drew :=
  ⟨hid ⟨al8_below h.1.out.1 (Below.refl _ _).drew, h.1.out.2.1.drew, h.1.out.2.2⟩, h.2⟩
theorem al8w_call {w W0 W W' : World} {g cap nb cb : Nat} {vs : List Value} (h : Al8W w W0 g cap nb vs cb W) (hb : Below W.heap.size W W') : Al8W w W0 g cap nb vs cb W' := by
  obtain ⟨hh, a0, a1, a2, a3, a4, a5, a6, a7⟩ := h
  obtain ⟨h1, h2, h3⟩ := hh.out
  have hz := h2.size
  have hc : ∀ o, W'.cell? ⟨cb, o, none⟩ = W.cell? ⟨cb, o, none⟩ := fun o => hb.cell (p := ⟨cb, o, none⟩) (show cb < W.heap.size by omega)
  refine ⟨hid ⟨al8_below h1 hb, h2.trans (hb.mono hz), h3⟩, ?_, ?_, ?_, ?_, ?_, ?_, ?_, ?_⟩ <;> (rw [hc]; assumption)
set_option maxHeartbeats 8000000 in
set_option maxRecDepth 100000 in
theorem alive8_any (w : World) (hL : LaidU w) : Calls Tryd.prog 9 #[] w fun e w' => e = .returned (.bool true) ∧ Below w.heap.size w w' := by
  have mixed : Tryd.prog.follows .mixedOrders = true := by kernel_rfl
  have HP := hid put8_any
  obtain ⟨nb, hnb⟩ : ∃ nb, (blockB ps8).length = nb := ⟨_, rfl⟩
  have HNb := hid hnb
  have hnb0 : 0 < nb := by rw [← hnb]; exact ps8_pos
  have HBu : Hid (∀ W, Below w.heap.size w W → Calls Tryd.prog 12 #[.slice (some ⟨W.heap.size, 0, none⟩) 2 2] (W.alloc (.cells #[.string rA8, .string ⟨#[102]⟩, .string ⟨#[113]⟩, .int .i64 2, .int .i64 1, .int .i64 4, .int .i64 1, .string ⟨#[]⟩, .string rA8, .string ⟨#[102]⟩, .string ⟨#[113]⟩, .int .i64 1, .int .i64 1, .int .i64 4, .int .i64 1, .string ⟨#[]⟩] 40)) fun e w' => ∃ g cap, e = .returned (.tuple #[.slice (some ⟨g, 0, none⟩) nb cap, .bool true]) ∧ Hid (Below W.heap.size W w' ∧ Row w' W.heap.size (.slice (some ⟨g, 0, none⟩) nb cap) (blockB ps8) ∧ ClA w' (.slice (some ⟨W.heap.size, 0, none⟩) 2 2) ps8)) := fun W hW => by
    have hc := two_cla W (put8 rA8 2) (put8 rA8 1)
    have hb0 := below_new W (.cells #[.string rA8, .string ⟨#[102]⟩, .string ⟨#[113]⟩, .int .i64 2, .int .i64 1, .int .i64 4, .int .i64 1, .string ⟨#[]⟩, .string rA8, .string ⟨#[102]⟩, .string ⟨#[113]⟩, .int .i64 1, .int .i64 1, .int .i64 4, .int .i64 1, .string ⟨#[]⟩] 40)
    refine (build_any _ ps8 (by decide) _ hc ps8_sm (hL.below (hW.trans (hb0.mono hW.size)))).mono fun e w' ⟨hb, hx⟩ => ?_
    unfold BuEnd at hx
    rw [if_pos ps8_fine] at hx
    obtain ⟨v', he, hr⟩ := hx
    obtain ⟨g, cap, rfl, hG⟩ := hr.toG ps8_pos
    rw [hnb] at he hr
    exact ⟨g, cap, he, hb0.trans (hb.mono (by simp)), hr.le (by simp), hc.below hb⟩
  have HBn : Hid (∀ W, Below w.heap.size w W → Calls Tryd.prog 12 #[.slice (some ⟨W.heap.size, 0, none⟩) 2 2] (W.alloc (.cells #[.string rA8, .string ⟨#[102]⟩, .string ⟨#[113]⟩, .int .i64 1, .int .i64 1, .int .i64 4, .int .i64 1, .string ⟨#[]⟩, .string rA8, .string ⟨#[102]⟩, .string ⟨#[113]⟩, .int .i64 2, .int .i64 1, .int .i64 4, .int .i64 1, .string ⟨#[]⟩] 40)) fun e w' => e = .returned (.tuple #[.slice none 0 0, .bool false]) ∧ Hid (Below W.heap.size W w')) := fun W hW => by
    have hc := two_cla W (put8 rA8 1) (put8 rA8 2)
    have hb0 := below_new W (.cells #[.string rA8, .string ⟨#[102]⟩, .string ⟨#[113]⟩, .int .i64 1, .int .i64 1, .int .i64 4, .int .i64 1, .string ⟨#[]⟩, .string rA8, .string ⟨#[102]⟩, .string ⟨#[113]⟩, .int .i64 2, .int .i64 1, .int .i64 4, .int .i64 1, .string ⟨#[]⟩] 40)
    refine (build_any _ [put8 rA8 1, put8 rA8 2] (by decide) _ hc (fun c hc => ps8_sm c (by simp only [List.mem_cons, List.not_mem_nil, or_false] at hc ⊢; exact hc.symm)) (hL.below (hW.trans (hb0.mono hW.size)))).mono fun e w' ⟨hb, hx⟩ => ?_
    unfold BuEnd at hx
    rw [if_neg (by rw [ps8_not]; simp)] at hx
    exact ⟨hx, hb0.trans (hb.mono (by simp))⟩
  have HPa : Hid (∀ (W : World) (v : Value), Below w.heap.size w W → Sx W W.heap.size v (blockB ps8) → Calls Tryd.prog 13 #[v] W fun e w' => ∃ A c, e = .returned (.tuple #[.slice A 2 c, .bool true]) ∧ Hid (ClA w' (.slice A 2 c) ps8 ∧ Below W.heap.size W w')) := fun W v hW h => (parse_block v ps8 ps8_bc ps8_fine (by decide) (by have := ps8_len; omega) W h (hL.below hW)).mono fun e w' ⟨A, c, he, h1, h2⟩ => ⟨A, c, he, h1, h2⟩
  have HFi : Hid (∀ (W : World) (v : Value), Below w.heap.size w W → Sx W W.heap.size v (blockB ps8) → Calls Tryd.prog 19 #[v, .agg #[.string rA8, .string ⟨#[102]⟩, .string ⟨#[113]⟩, .int .i64 1, .int .i64 1, .int .i64 4, .int .i64 1, .string ⟨#[]⟩]] W fun e w' => e = .returned (.tuple #[.agg #[.string rA8, .string ⟨#[102]⟩, .string ⟨#[113]⟩, .int .i64 1, .int .i64 1, .int .i64 4, .int .i64 1, .string ⟨#[]⟩], .bool true]) ∧ Below W.heap.size W w') := fun W v hW h => (find_block v ps8 (put8 rA8 1) ps8_bc ps8_fine (by decide) (by have := ps8_len; omega) W h (hL.below hW)).mono fun e w' ⟨he, hb⟩ => ⟨by rw [he, ps8_find]; rfl, hb⟩
  have HCu : Hid (∀ (W : World) (v : Value), Below w.heap.size w W → ClA W v ps8 → Calls Tryd.prog 16 #[v, .int .i64 5] W fun e w' => ∃ A c, e = .returned (.slice A 2 c) ∧ Below W.heap.size W w') := fun W v hW h => (cut_any v ps8 5 (by decide) W h (fun c hc => ⟨(ps8_sm c hc).1, by have := (ps8_sm c hc).2.2.2.2; omega⟩) (hL.below hW)).mono fun e w' ⟨v', he, hr, hb⟩ => by
    obtain ⟨A, c, rfl⟩ := hr.len
    rw [ps8_cut] at he
    exact ⟨A, c, he, hb⟩
  have HSa : Hid (∀ (W : World) (v1 v2 : Value), ClA W v1 ps8 → ClA W v2 ps8 → Calls Tryd.prog 14 #[v1, v2] W fun e w' => e = .returned (.bool true) ∧ Below W.heap.size W w') := fun W v1 v2 h1 h2 => (samecells_any v1 v2 ps8 ps8 W h1 h2).mono fun e w' ⟨he, hb⟩ => ⟨by rw [he, decide_eq_true rfl], hb⟩
  have H0 : Hid (Below w.heap.size w w) := Below.refl _ _
  clear hL hnb
  go_enter Tryd.func9, Tryd.ntmps9
  go_upto_region 5 with (first
    | (go_at_call 42; refine (HP.out _ _ _).mono ?_; rintro e w5 ⟨rfl, hb5⟩; first | (have HS := (by first | exact hid (al8_below HS.out hb5) | exact hid (al8_below (al8_below HS.out (below_new _ _)) hb5) | exact hid (al8_below (al8_below (al8_below HS.out (below_new _ _)) (below_new _ _)) hb5)); clear hb5) | (have H0 := hid (Below.trans H0.out (hb5.mono H0.out.size)); clear hb5))
    | (go_at_call 12; first
        | (have hq := HBn.out _ HS.out.1; refine hq.mono ?_; clear hq; rintro e w6 ⟨rfl, hb6⟩; have HS := hid (al8_below HS.out hb6.out); clear hb6)
        | (have hq := HBu.out _ H0.out; refine hq.mono ?_; clear hq; rintro e w6 ⟨g, cap, rfl, H6⟩; obtain ⟨G, hG⟩ : ∃ G, w5.heap.size = G := ⟨_, rfl⟩; rw [hG] at H6 ⊢; have HS : Hid (Al8S w w6 g cap nb [.slice (some ⟨G, 0, none⟩) 2 2]) := hid (And.intro (H0.out.trans ((hG ▸ H6.out.1).mono H0.out.size)) (And.intro (H6.out.2.1.le (by rw [← hG]; exact H0.out.size)) (fun v hv => by rw [List.mem_singleton.1 hv]; exact H6.out.2.2))); clear H6 hG))
    | (go_at_call 13; refine (HPa.out _ _ (by first | exact HS.out.1 | exact (al8_below HS.out (below_new _ _)).1 | exact (al8_below (al8_below HS.out (below_new _ _)) (below_new _ _)).1) (by first | exact row_sx HS.out.2.1 | exact row_sx (al8_below HS.out (below_new _ _)).2.1 | exact row_sx (al8_below (al8_below HS.out (below_new _ _)) (below_new _ _)).2.1)).mono ?_; rintro e w7 ⟨Am, cm, rfl, H7⟩; have HS := (by first | exact hid (al8_below HS.out H7.out.2) | exact hid (al8_below (al8_below HS.out (below_new _ _)) H7.out.2)); have HM := hid H7.out.1; have HS : Hid (Al8S w w7 g cap nb [.slice Am 2 cm, .slice (some ⟨G, 0, none⟩) 2 2]) := hid (And.intro HS.out.1 (And.intro HS.out.2.1 (fun v hv => by
        rcases List.mem_cons.1 hv with rfl | hv
        · exact HM.out
        · exact HS.out.2.2 v hv))); clear H7 HM)
    | (go_at_call 19; refine (HFi.out _ _ (by first | exact HS.out.1 | exact (al8_below HS.out (below_new _ _)).1 | exact (al8_below (al8_below HS.out (below_new _ _)) (below_new _ _)).1) (by first | exact row_sx HS.out.2.1 | exact row_sx (al8_below HS.out (below_new _ _)).2.1 | exact row_sx (al8_below (al8_below HS.out (below_new _ _)) (below_new _ _)).2.1)).mono ?_; rintro e w8 ⟨rfl, hb8⟩; have HS := (by first | exact hid (al8_below HS.out hb8) | exact hid (al8_below (al8_below HS.out (below_new _ _)) hb8) | exact hid (al8_below (al8_below (al8_below HS.out (below_new _ _)) (below_new _ _)) hb8)); clear hb8)
    | (go_at_call 14; refine (HSa.out _ _ _ (by first | exact HS.out.2.2 _ (by simp) | exact (al8_below HS.out (below_new _ _)).2.2 _ (by simp) | exact (al8_below (al8_below HS.out (below_new _ _)) (below_new _ _)).2.2 _ (by simp)) (by first | exact HS.out.2.2 _ (by simp) | exact (al8_below HS.out (below_new _ _)).2.2 _ (by simp) | exact (al8_below (al8_below HS.out (below_new _ _)) (below_new _ _)).2.2 _ (by simp))).mono ?_; rintro e w9 ⟨rfl, hb9⟩; have HS := (by first | exact hid (al8_below HS.out hb9) | exact hid (al8_below (al8_below HS.out (below_new _ _)) hb9) | exact hid (al8_below (al8_below (al8_below HS.out (below_new _ _)) (below_new _ _)) hb9)); clear hb9)
    | (go_at_call 16; refine (HCu.out _ _ (by first | exact HS.out.1 | exact (al8_below HS.out (below_new _ _)).1 | exact (al8_below (al8_below HS.out (below_new _ _)) (below_new _ _)).1) (by first | exact HS.out.2.2 _ (by simp) | exact (al8_below HS.out (below_new _ _)).2.2 _ (by simp) | exact (al8_below (al8_below HS.out (below_new _ _)) (below_new _ _)).2.2 _ (by simp))).mono ?_; rintro e w10 ⟨Ac, cc, rfl, hb10⟩; have HS := (by first | exact hid (al8_below HS.out hb10) | exact hid (al8_below (al8_below HS.out (below_new _ _)) hb10) | exact hid (al8_below (al8_below (al8_below HS.out (below_new _ _)) (below_new _ _)) hb10)); clear hb10))
  obtain ⟨W8, hW8⟩ : ∃ W8, w8.alloc (.cells #[.string rA8, .string ⟨#[102]⟩, .string ⟨#[113]⟩, .int .i64 1, .int .i64 1, .int .i64 4, .int .i64 1, .string ⟨#[]⟩] 40) = W8 := ⟨_, rfl⟩
  obtain ⟨cb, hcb⟩ : ∃ cb, w8.heap.size = cb := ⟨_, rfl⟩
  have HX : Hid (DW W8 cb (put8 rA8 1)) := by
    rw [← hW8, ← hcb]
    exact Blk.new w8 _ _
  have HS := hid (al8_below HS.out (below_new w8 (.cells #[.string rA8, .string ⟨#[102]⟩, .string ⟨#[113]⟩, .int .i64 1, .int .i64 1, .int .i64 4, .int .i64 1, .string ⟨#[]⟩] 40)))
  rw [hW8] at HS ⊢
  rw [hcb]
  clear hW8 hcb
  go_upto_region 6 with (first
    | (go_at_call 42; refine (HP.out _ _ _).mono ?_; rintro e w5 ⟨rfl, hb5⟩; have HS := hid (al8_below HS.out hb5); have HX := hid (DW.below HX.out hb5); clear hb5)
    | (go_at_call 12; have hq := HBn.out _ HS.out.1; refine hq.mono ?_; clear hq; rintro e w6 ⟨rfl, hb6⟩; have HS := hid (al8_below HS.out hb6.out); have HX := hid (DW.below HX.out hb6.out); clear hb6))
  obtain ⟨W6, hW6⟩ : ∃ W6, W6 = w6 := ⟨_, rfl⟩
  subst hW6
  have HT : Hid (Al8W w W6 g cap nb [.slice Am 2 cm, .slice (some ⟨G, 0, none⟩) 2 2] cb W6) := hid (al8w_start HS.out HX.out)
  obtain ⟨-, a0, a1, a2, a3, a4, a5, a6, a7⟩ := HT.out
  go_region_held3 (fun W' => Hid (Al8S w W' g cap nb [.slice Am 2 cm, .slice (some ⟨G, 0, none⟩) 2 2] ∧ Below W6.heap.size W6 W' ∧ cb < W6.heap.size) ∧ W'.cell? ⟨cb, 0, none⟩ = some (.string rA8) ∧ W'.cell? ⟨cb, 1, none⟩ = some (.string ⟨#[102]⟩) ∧ W'.cell? ⟨cb, 2, none⟩ = some (.string ⟨#[113]⟩) ∧ W'.cell? ⟨cb, 3, none⟩ = some (.int .i64 1) ∧ W'.cell? ⟨cb, 4, none⟩ = some (.int .i64 1) ∧ W'.cell? ⟨cb, 5, none⟩ = some (.int .i64 4) ∧ W'.cell? ⟨cb, 6, none⟩ = some (.int .i64 1) ∧ W'.cell? ⟨cb, 7, none⟩ = some (.string ⟨#[]⟩))
    (first | exact al8w_drew HT.out | exact F11.out | exact F10.out | exact F9.out | exact HT.out | assumption)
    (first
      | (go_at_call 14; refine (HSa.out _ _ _ ((al8w_drew HT.out).1.out.1.2.2 _ (by simp)) ((al8w_drew HT.out).1.out.1.2.2 _ (by simp))).mono ?_; rintro e w9 ⟨rfl, hb9⟩; have F9 := hid (al8w_call (al8w_drew HT.out) hb9))
      | (go_at_call 42; refine (HP.out _ _ _).mono ?_; rintro e w10 ⟨rfl, hb10⟩; have F10 := hid (al8w_call F9.out hb10))
      | (go_at_call 16; refine (HCu.out _ _ F10.out.1.out.1.1 (F10.out.1.out.1.2.2 _ (by simp))).mono ?_; rintro e w11 ⟨Ac, cc, rfl, hb11⟩; have F11 := hid (al8w_call F10.out hb11)))
  rename_i hLast
  have HB := hid hLast.1.out.1.1
  clear hLast HT a0 a1 a2 a3 a4 a5 a6 a7
  go_wp2
  go_ret
  exact ⟨rfl, HB.out⟩
end Go.Proofs.YtfcnobcpnhfgmaaDoor

/- Layer 8's laws: what they have in common; how long a block's bytes are. Conditions: as each theorem names them. -/
namespace Go.Proofs.YtfcnobcpnhfgmaaDoor
open Go.RowKit

theorem bc_tight {c : CT} (h : Bc c) : (keyL c).length ≤ 100 ∧ (valL c).length ≤ 100 := by
  obtain ⟨_, h2, _, h4, h5, _, _, _, _, _, p1, p2⟩ := cright_parts h.1
  have h1 := esc_len c.r.data.toList
  have h3 := esc_len c.f.data.toList
  have h6 := esc_len c.q.data.toList
  have h7 := esc_len c.s.data.toList
  have hs : c.s.data.toList.length ≤ 32 := by
    by_cases hk : c.k = 1
    · exact right_len (p1 hk)
    · rw [(p2 hk).2.2]; simp
  constructor
  · unfold keyL keyM midM
    split <;> (simp only [List.length_append, List.length_cons, List.length_nil, tail_len]; omega)
  · unfold valL vEnc vBody
    repeat' split
    all_goals (simp only [List.length_append, List.length_cons, List.length_nil, byW_len]; omega)
theorem one_len {a : List UInt8} {c : CT} (h : Bc c) : (oneB a c).length ≤ 300 := by
  obtain ⟨h1, h2⟩ := bc_tight h
  have h3 := (preL_le a (keyL c)).2
  have h4 := numW_len9 (preL a (keyL c)) (by omega)
  have h5 := numW_len9 ((keyL c).length - preL a (keyL c)) (by omega)
  have h6 := numW_len9 (valL c).length (by omega)
  unfold oneB
  split <;> (simp only [List.length_append, List.length_drop, List.length_nil]; omega)
theorem rest_len : ∀ (l : List CT) (a : List UInt8), (∀ c ∈ l, Bc c) → (restB a l).length ≤ l.length * 300
  | [], _, _ => Nat.le_refl _
  | c :: l, a, h => by
    have h1 := one_len (a := a) (h c List.mem_cons_self)
    have h2 := rest_len l (keyL c) (fun x hx => h x (List.mem_cons_of_mem _ hx))
    show (oneB a c ++ restB (keyL c) l).length ≤ (l.length + 1) * 300
    rw [List.length_append]
    omega
theorem block_len {l : List CT} (h : ∀ c ∈ l, Bc c) (hl : l.length ≤ 140) : (blockB l).length ≤ 50000 := by
  have h1 := rest_len l [] h
  have h2 := numW_len9 l.length (by omega)
  unfold blockB
  rw [List.length_append]
  omega
theorem block_pos (l : List CT) : 0 < (blockB l).length := by
  have := numW_pos l.length
  unfold blockB
  rw [List.length_append]
  omega
/-- Sorted cells are a block's. -/
theorem sort_bc {l : List CT} (h : ∀ x ∈ l, Sm x) : (∀ c ∈ sortL [] l, Bc c) ∧ fineK [] (sortL [] l) = true ∧ (sortL [] l).length ≤ l.length := by
  have h1 := sortL_i l [] sortI_nil h
  refine ⟨fun c hc => ⟨h1.ok c hc, (h1.sm c hc).1.2.2, by have := (h1.sm c hc).2.2.2.2; omega⟩, (fineK_iff _).2 ⟨h1.ok, h1.rise⟩, ?_⟩
  have := sortL_len l []
  rw [List.length_nil] at this
  omega
theorem no_more {l : List CT} {r : List UInt8} (hl : l.length ≤ 1000) (h1 : ∀ c ∈ l, Bc c) (h2 : fineK [] l = true) (hr : r ≠ []) : NoBlock (blockB l ++ r) := fun ds hd f hlen e =>
  hr (block_one (by omega) (by omega) h1 hd h2 f e.symm).2
theorem no_less {l : List CT} {k : Nat} (hl : l.length ≤ 1000) (h1 : ∀ c ∈ l, Bc c) (h2 : fineK [] l = true) (hk : k < (blockB l).length) : NoBlock ((blockB l).take k) := fun ds hd f hlen e => by
  have h3 : blockB ds ++ (blockB l).drop k = blockB l := by rw [e, List.take_append_drop]
  have h4 := (block_one (by omega) (by omega) hd h1 f h2 h3).2
  have h5 := congrArg List.length h4
  rw [List.length_drop, List.length_nil] at h5
  omega
/-- Parse of what is no block. -/
theorem parse_none (v : Value) (l : List UInt8) (hno : NoBlock l) (hl : l.length ≤ 100000) (w : World) (h : Sx w w.heap.size v l) (hL : LaidU w) :
    Calls Tryd.prog 13 #[v] w fun e w' => e = .returned (.tuple #[.slice none 0 0, .bool false]) ∧ Below w.heap.size w w' := by
  refine (parse_any v l hl w h hL).mono fun e w' ⟨hb, hc⟩ => ?_
  rcases hc with ⟨u, ds, _, _, g1, g2, g3, g4⟩ | ⟨he, _⟩
  · exact absurd g4 (hno ds g1 g2 g3)
  · exact ⟨he, hb⟩
/-- Build of sorted cells. -/
theorem build_sorted (v : Value) (l : List CT) (hl : l.length ≤ 140) (w : World) (h : ClA w v l) (hs : ∀ c ∈ l, Sm c) (hf : fineK [] l = true) (hL : LaidU w) :
    Calls Tryd.prog 12 #[v] w fun e w' => ∃ g cap nb, e = .returned (.tuple #[.slice (some ⟨g, 0, none⟩) nb cap, .bool true]) ∧ Hid ((blockB l).length = nb ∧ Row w' w.heap.size (.slice (some ⟨g, 0, none⟩) nb cap) (blockB l) ∧ Below w.heap.size w w') := by
  refine (build_any v l hl w h hs hL).mono fun e w' ⟨hb, hx⟩ => ?_
  unfold BuEnd at hx
  rw [if_pos hf] at hx
  obtain ⟨v', he, hr⟩ := hx
  obtain ⟨g, cap, rfl, _⟩ := hr.toG (block_pos l)
  exact ⟨g, cap, _, he, rfl, hr, hb⟩
set_option maxHeartbeats 1000000 in
theorem long8_any (v : Value) (l : List CT) (w : World) (h : ClA w v l) :
    Calls Tryd.prog 10 #[v] w fun e w' => e = .returned (.bool (longM 100 l)) ∧ Below w.heap.size w w' := by
  have HL := hid (longcells_at 100 v l w h)
  clear h
  go_enter Tryd.func10, Tryd.ntmps10
  go_wp2_with (go_at_call 36; refine HL.out.mono ?_; rintro e w5 ⟨rfl, hb5⟩)
  go_ret
  exact ⟨rfl, hb5⟩
theorem longM_sm {m : Nat} {l : List CT} (h : longM m l = false) (hv : ∀ c ∈ l, inI c.vn) : l.length ≤ m ∧ ∀ c ∈ l, Sm c := by
  obtain ⟨h1, h2⟩ := longM_ok h hv
  exact ⟨h1, fun c hc => h2 c hc⟩
end Go.Proofs.YtfcnobcpnhfgmaaDoor

/- The statement of layer 8: cells that are packed come back; cut short, or with a byte more, nothing does. Conditions: the arguments stand, their numbers are of 64 bits; the tables of utf8 read as they are laid. -/
namespace Go.Proofs.YtfcnobcpnhfgmaaDoor
open Go.RowKit

theorem empty_row8 (W : World) (B : Nat) (hB : B ≤ W.heap.size) : Row (W.alloc (.cells #[] 5)) B (.slice (some ⟨W.heap.size, 0, none⟩) 0 0) [] := Row.new W B hB [] (by unfold maxLen; simp)
theorem sla_ha8 {w : World} {A : Option Addr} {c : Nat} {l : List UInt8} (h : SlA w (.slice A l.length c) l) : HoldsA w A l := by
  obtain ⟨A', c', e, _, _, h4, _⟩ := h
  injection e with e1
  subst e1
  exact h4
set_option maxHeartbeats 1000000 in
theorem copyb_any (v : Value) (l : List UInt8) (hl : l.length ≤ 1000000) (w : World) (h : SlA w v l) :
    Calls Tryd.prog 15 #[v] w fun e w' => ∃ v', e = .returned v' ∧ Row w' w.heap.size v' l ∧ Below w.heap.size w w' := by
  have HS := hid h
  obtain ⟨A, c, rfl, _⟩ := h
  have HR := hid (empty_row8 w w.heap.size (Nat.le_refl _))
  have HL := hid hl
  clear hl
  go_enter Tryd.func15, Tryd.ntmps15
  go_wp2_with (at_builtin; refine wpList_append_any rfl (.tmp 5) (.tmp 6) rfl rfl _ w.heap.size _ [] rfl HR.out A c l rfl (sla_ha8 (HS.out.below (below_new w _))) (by have := HL.out; simp only [List.length_nil]; omega) (by simp) ?_; intro v' w' hR' hb')
  go_ret
  exact ⟨_, rfl, hR', (below_new w _).trans hb'⟩

/-- Where the law is: sorted cells, and their block's bytes. -/
structure Bk8 (w W : World) (vs : Value) (s : List CT) (vb : Value) : Prop where
  bel : Below w.heap.size w W
  cl : ClA W vs s
  row : Row W w.heap.size vb (blockB s)
theorem Bk8.below {w W W' : World} {vs vb : Value} {s : List CT} (h : Bk8 w W vs s vb) (hb : Below W.heap.size W W') : Bk8 w W' vs s vb :=
  ⟨h.bel.trans (hb.mono h.bel.size), h.cl.below hb, h.row.keep hb h.row.block_lt⟩
theorem take_sx {w : World} {g n cap k : Nat} {l : List UInt8} {r : Nat} (h : Sx w r (.slice (some ⟨g, 0, none⟩) n cap) l) (hk : k ≤ l.length) : Sx w r (.slice (some ⟨g, 0, none⟩) k cap) (l.take k) := by
  obtain ⟨A, c, e, h2, h3, h4, h5⟩ := h
  injection e with e1 e2 e3
  subst e1 e3
  refine ⟨_, cap, by rw [List.length_take, Nat.min_eq_left hk], by rw [List.length_take]; omega, h3, h4, fun h0 => ?_⟩
  obtain ⟨b, off, e, k1, k2, k3⟩ := h5 h0
  refine ⟨b, off, e, k1, k2, fun i hi => ?_⟩
  rw [List.length_take] at hi
  rw [k3 i (by omega)]
  simp only [List.getD_eq_getElem?_getD, List.getElem?_take_of_lt (show i < k by omega)]

set_option maxHeartbeats 8000000 in
set_option maxRecDepth 100000 in
theorem blockback_any (v : Value) (l : List CT) (cut : Int) (w : World) (h : ClA w v l) (hv : ∀ c ∈ l, inI c.vn) (hL : LaidU w) :
    Calls Tryd.prog 3 #[v, .int .i64 cut] w fun e w' => e = .returned (.bool true) ∧ Below w.heap.size w w' := by
  have mixed : Tryd.prog.follows .mixedOrders = true := by kernel_rfl
  have HAl : Hid (Calls Tryd.prog 9 #[] w fun e w' => e = .returned (.bool true) ∧ Below w.heap.size w w') := alive8_any w hL
  have HLo : Hid (∀ W, Below w.heap.size w W → Calls Tryd.prog 10 #[v] W fun e w' => e = .returned (.bool (longM 100 l)) ∧ Below W.heap.size W w') := fun W hW => long8_any v l W (h.below hW)
  cases hlo : longM 100 l with
  | true =>
    rw [hlo] at HLo
    clear h hv hL hlo
    go_enter Tryd.func3, Tryd.ntmps3
    go_wp2_with (first
      | (go_at_call 9; refine HAl.out.mono ?_; rintro e w1 ⟨rfl, hb1⟩)
      | (go_at_call 10; refine (HLo.out _ hb1).mono ?_; rintro e w2 ⟨rfl, hb2⟩))
    go_ret
    exact ⟨rfl, hb1.trans (hb2.mono hb1.size)⟩
  | false =>
    rw [hlo] at HLo
    obtain ⟨hl, hs⟩ := longM_sm hlo hv
    have HSo : Hid (∀ W, Below w.heap.size w W → Calls Tryd.prog 11 #[v] W fun e w' => ∃ As cs, e = .returned (.slice As (sortL [] l).length cs) ∧ ClA w' (.slice As (sortL [] l).length cs) (sortL [] l) ∧ Below W.heap.size W w') := fun W hW => by
      refine (refsort_any v l W (h.below hW) hs (by omega)).mono fun e w' ⟨v', he, hr, hb⟩ => ?_
      obtain ⟨As, cs, rfl, _⟩ := hr.len
      exact ⟨As, cs, he, hr.cla, hb⟩
    have hSm := (sortL_i l [] sortI_nil hs).sm
    obtain ⟨hbc, hfine, hlen⟩ := sort_bc hs
    obtain ⟨s, hS⟩ : ∃ s, sortL [] l = s := ⟨_, rfl⟩
    rw [hS] at HSo hSm hbc hfine hlen
    obtain ⟨ns, hns⟩ : ∃ ns, s.length = ns := ⟨_, rfl⟩
    rw [hns] at HSo
    have hsl : s.length ≤ 100 := by omega
    obtain ⟨bl, hbl⟩ : ∃ bl, (blockB s).length = bl := ⟨_, rfl⟩
    have hbl5 : bl ≤ 50000 := by rw [← hbl]; exact block_len hbc (by omega)
    have HBu : Hid (∀ W v, Below w.heap.size w W → ClA W v s → Calls Tryd.prog 12 #[v] W fun e w' => ∃ g cap, e = .returned (.tuple #[.slice (some ⟨g, 0, none⟩) bl cap, .bool true]) ∧ bl ≤ cap ∧ cap ≤ 9223372036854775807 ∧ Bk8 w w' v s (.slice (some ⟨g, 0, none⟩) bl cap)) := fun W u hW hu => by
      refine (build_sorted u s (by omega) W hu hSm hfine (hL.below hW)).mono fun e w' ⟨g, cap, nb, he, hh⟩ => ?_
      obtain ⟨h1, h2, h3⟩ := hh.out
      obtain rfl : nb = bl := by omega
      have h4 := (row_sx h2).holds
      exact ⟨g, cap, he, by omega, h4.2.2.1, hW.trans (h3.mono hW.size), hu.below h3, h2.le hW.size⟩
    have HPa : Hid (∀ (W : World) (u vs : Value), Bk8 w W vs s u → Calls Tryd.prog 13 #[u] W fun e w' => ∃ A c, e = .returned (.tuple #[.slice A ns c, .bool true]) ∧ ClA w' (.slice A ns c) s ∧ Bk8 w w' vs s u) := fun W u vs hh => by
      have := parse_block u s hbc hfine (by omega) (by have := block_len hbc (by omega); omega) W (row_sx hh.row) (hL.below hh.bel)
      rw [hns] at this
      exact this.mono fun e w' ⟨A, c, he, h1, h2⟩ => ⟨A, c, he, h1, hh.below h2⟩
    have HSa : Hid (∀ (W : World) (u v1 v2 : Value), Bk8 w W v2 s u → ClA W v1 s → Calls Tryd.prog 14 #[v1, v2] W fun e w' => e = .returned (.bool true) ∧ Bk8 w w' v2 s u) := fun W u v1 v2 hh h1 => (samecells_any v1 v2 s s W h1 hh.cl).mono fun e w' ⟨he, hb⟩ => ⟨by rw [he, decide_eq_true rfl], hh.below hb⟩
    have HCp : Hid (∀ (W : World) (u vs : Value), Bk8 w W vs s u → Calls Tryd.prog 15 #[u] W fun e w' => ∃ g7 c7, e = .returned (.slice (some ⟨g7, 0, none⟩) bl c7) ∧ Row w' W.heap.size (.slice (some ⟨g7, 0, none⟩) bl c7) (blockB s) ∧ Below W.heap.size W w') := fun W u vs hh => (copyb_any u (blockB s) (by omega) W hh.row.sla).mono fun e w' ⟨v', he, hr, hb⟩ => by
      obtain ⟨g7, c7, rfl, _⟩ := hr.toG (block_pos s)
      rw [hbl] at he hr
      exact ⟨g7, c7, he, hr, hb⟩
    have HPm : Hid (∀ (W : World) (u : Value), Below w.heap.size w W → Row W w.heap.size u (blockB s ++ [0]) → Calls Tryd.prog 13 #[u] W fun e w' => e = .returned (.tuple #[.slice none 0 0, .bool false]) ∧ Below W.heap.size W w') := fun W u hW hr => parse_none u _ (no_more (by omega) hbc hfine (by simp)) (by rw [List.length_append]; have := block_len hbc (by omega); simp; omega) W (row_sx hr) (hL.below hW)
    have HPl : Hid (∀ (W : World) (g cap k : Nat) (vs : Value), Bk8 w W vs s (.slice (some ⟨g, 0, none⟩) bl cap) → k < bl → Calls Tryd.prog 13 #[.slice (some ⟨g, 0, none⟩) k cap] W fun e w' => e = .returned (.tuple #[.slice none 0 0, .bool false]) ∧ Below W.heap.size W w') := fun W g cap k vs hh hk =>
      parse_none _ ((blockB s).take k) (no_less (by omega) hbc hfine (by omega)) (by rw [List.length_take]; omega) W (take_sx (row_sx hh.row) (by omega)) (hL.below hh.bel)
    have HBl : Hid ((blockB s).length ≤ 50000) := block_len hbc (by omega)
    clear h hv hL hlo hl hs hSm hbc hfine hlen hS hns hsl hbl
    by_cases hc0 : 0 ≤ cut
    · by_cases hc1 : cut < (bl : Int)
      · obtain ⟨k, rfl⟩ : ∃ k : Nat, cut = (k : Int) := ⟨cut.toNat, by omega⟩
        have hkl : k < bl := by omega
        go_enter Tryd.func3, Tryd.ntmps3
        go_wp2_with (first
          | (go_at_call 9; refine HAl.out.mono ?_; rintro e w1 ⟨rfl, hb1⟩; have HB := hid hb1)
          | (go_at_call 10; refine (HLo.out _ HB.out).mono ?_; rintro e w2 ⟨rfl, hb2⟩; have HB := hid (HB.out.trans (hb2.mono HB.out.size)))
          | (go_at_call 11; refine (HSo.out _ HB.out).mono ?_; rintro e w3 ⟨As, cs, rfl, hc3, hb3⟩; have HB := hid (HB.out.trans (hb3.mono HB.out.size)); have HC3 := hid hc3; clear hc3)
          | (go_at_call 12; refine (HBu.out _ _ HB.out HC3.out).mono ?_; rintro e w4 ⟨g, cap, rfl, hcap, hcapm, h4⟩; have HK := hid h4; clear h4)
          | (go_at_call 14; refine (HSa.out _ _ _ _ HK.out HM.out).mono ?_; rintro e w6 ⟨rfl, h6⟩; have HK := hid h6; clear h6)
          | (go_at_call 15; refine (HCp.out _ _ _ HK.out).mono ?_; rintro e w7 ⟨g7, c7, rfl, h7, hb7⟩; have HR7 := hid h7; have HB7 := hid hb7; clear h7 hb7)
          | (at_builtin; refine wpList_append_bytes rfl (.tmp 38) (.tmp 39) rfl _ w6.heap.size _ (blockB s) rfl (HR7.out.alloc _) ⟨w7.heap.size, 0, none⟩ 1 1 [0] rfl rfl (one_new' _ 0 _ _ rfl) (by have := HBl.out; simp; omega) (by have := HB7.out.size; simp; omega) ?_; intro v8 w8 h8 hb8; have HB8 : Hid (Below w6.heap.size w6 w8) := HB7.out.trans (((below_new w7 _).mono HB7.out.size).trans hb8); have HK8 := hid (HK.out.below HB8.out); have HR8 := hid (Row.le h8 HK.out.bel.size); clear h8 hb8)
          | (go_at_call 13; first
              | (have hq := HPl.out _ _ _ _ _ HK9.out hkl; refine hq.mono ?_; clear hq; rintro e w10 ⟨rfl, hb10⟩; have HK10 := hid (HK9.out.below hb10); clear hb10)
              | (have hq := HPm.out _ _ HK8.out.bel HR8.out; refine hq.mono ?_; clear hq; rintro e w9 ⟨rfl, hb9⟩; have HK9 := hid (HK8.out.below hb9); clear hb9)
              | (have hq := HPa.out _ _ _ HK.out; refine hq.mono ?_; clear hq; rintro e w5 ⟨Am, cm, rfl, hm, k5⟩; have HK := hid k5; have HM := hid hm; clear hm k5)))
        go_ret
        exact ⟨rfl, HK10.out.bel⟩
      · go_enter Tryd.func3, Tryd.ntmps3
        go_wp2_with (first
          | (go_at_call 9; refine HAl.out.mono ?_; rintro e w1 ⟨rfl, hb1⟩; have HB := hid hb1)
          | (go_at_call 10; refine (HLo.out _ HB.out).mono ?_; rintro e w2 ⟨rfl, hb2⟩; have HB := hid (HB.out.trans (hb2.mono HB.out.size)))
          | (go_at_call 11; refine (HSo.out _ HB.out).mono ?_; rintro e w3 ⟨As, cs, rfl, hc3, hb3⟩; have HB := hid (HB.out.trans (hb3.mono HB.out.size)); have HC3 := hid hc3; clear hc3)
          | (go_at_call 12; refine (HBu.out _ _ HB.out HC3.out).mono ?_; rintro e w4 ⟨g, cap, rfl, hcap, hcapm, h4⟩; have HK := hid h4; clear h4)
          | (go_at_call 14; refine (HSa.out _ _ _ _ HK.out HM.out).mono ?_; rintro e w6 ⟨rfl, h6⟩; have HK := hid h6; clear h6)
          | (go_at_call 15; refine (HCp.out _ _ _ HK.out).mono ?_; rintro e w7 ⟨g7, c7, rfl, h7, hb7⟩; have HR7 := hid h7; have HB7 := hid hb7; clear h7 hb7)
          | (at_builtin; refine wpList_append_bytes rfl (.tmp 38) (.tmp 39) rfl _ w6.heap.size _ (blockB s) rfl (HR7.out.alloc _) ⟨w7.heap.size, 0, none⟩ 1 1 [0] rfl rfl (one_new' _ 0 _ _ rfl) (by have := HBl.out; simp; omega) (by have := HB7.out.size; simp; omega) ?_; intro v8 w8 h8 hb8; have HB8 : Hid (Below w6.heap.size w6 w8) := HB7.out.trans (((below_new w7 _).mono HB7.out.size).trans hb8); have HK8 := hid (HK.out.below HB8.out); have HR8 := hid (Row.le h8 HK.out.bel.size); clear h8 hb8)
          | (go_at_call 13; first
              | (have hq := HPm.out _ _ HK8.out.bel HR8.out; refine hq.mono ?_; clear hq; rintro e w9 ⟨rfl, hb9⟩; have HK9 := hid (HK8.out.below hb9); clear hb9)
              | (have hq := HPa.out _ _ _ HK.out; refine hq.mono ?_; clear hq; rintro e w5 ⟨Am, cm, rfl, hm, k5⟩; have HK := hid k5; have HM := hid hm; clear hm k5)))
        go_ret
        exact ⟨rfl, HK9.out.bel⟩
    · go_enter Tryd.func3, Tryd.ntmps3
      go_wp2_with (first
        | (go_at_call 9; refine HAl.out.mono ?_; rintro e w1 ⟨rfl, hb1⟩; have HB := hid hb1)
        | (go_at_call 10; refine (HLo.out _ HB.out).mono ?_; rintro e w2 ⟨rfl, hb2⟩; have HB := hid (HB.out.trans (hb2.mono HB.out.size)))
        | (go_at_call 11; refine (HSo.out _ HB.out).mono ?_; rintro e w3 ⟨As, cs, rfl, hc3, hb3⟩; have HB := hid (HB.out.trans (hb3.mono HB.out.size)); have HC3 := hid hc3; clear hc3)
        | (go_at_call 12; refine (HBu.out _ _ HB.out HC3.out).mono ?_; rintro e w4 ⟨g, cap, rfl, hcap, hcapm, h4⟩; have HK := hid h4; clear h4)
        | (go_at_call 14; refine (HSa.out _ _ _ _ HK.out HM.out).mono ?_; rintro e w6 ⟨rfl, h6⟩; have HK := hid h6; clear h6)
        | (go_at_call 15; refine (HCp.out _ _ _ HK.out).mono ?_; rintro e w7 ⟨g7, c7, rfl, h7, hb7⟩; have HR7 := hid h7; have HB7 := hid hb7; clear h7 hb7)
        | (at_builtin; refine wpList_append_bytes rfl (.tmp 38) (.tmp 39) rfl _ w6.heap.size _ (blockB s) rfl (HR7.out.alloc _) ⟨w7.heap.size, 0, none⟩ 1 1 [0] rfl rfl (one_new' _ 0 _ _ rfl) (by have := HBl.out; simp; omega) (by have := HB7.out.size; simp; omega) ?_; intro v8 w8 h8 hb8; have HB8 : Hid (Below w6.heap.size w6 w8) := HB7.out.trans (((below_new w7 _).mono HB7.out.size).trans hb8); have HK8 := hid (HK.out.below HB8.out); have HR8 := hid (Row.le h8 HK.out.bel.size); clear h8 hb8)
        | (go_at_call 13; first
            | (have hq := HPm.out _ _ HK8.out.bel HR8.out; refine hq.mono ?_; clear hq; rintro e w9 ⟨rfl, hb9⟩; have HK9 := hid (HK8.out.below hb9); clear hb9)
            | (have hq := HPa.out _ _ _ HK.out; refine hq.mono ?_; clear hq; rintro e w5 ⟨Am, cm, rfl, hm, k5⟩; have HK := hid k5; have HM := hid hm; clear hm k5)))
      go_ret
      exact ⟨rfl, HK9.out.bel⟩
end Go.Proofs.YtfcnobcpnhfgmaaDoor

/- BlockBack: cells that are packed come back; cut short, or with a byte more, nothing does. The row and its tied card. Conditions: none but the card's own (the listed variables of the library are laid by the program's text). -/
namespace Go.Proofs.YtfcnobcpnhfgmaaDoor.blockBack
open Go.ChangeShapes Go.WideShapes Go.ChangeAt Go.RowKit

set_option maxRecDepth 100000 in
/-- What the walk gives, for every argument and every world that holds the listed variables. -/
theorem contract (H : Type) (enc : TypeId × Value → H) (W : World) (base : Nat) (args : Array Value) (ds gs : List (DataW H)) (before : List MemPlace)
    (hval : ∀ (j : Nat) t v, Tryd.f3.params[j]? = some t → args[j]? = some v → Value.okWide Tryd.prog W .any base t v)
    (hW : DataW.Whole enc Tryd.prog Tryd.f3.params.toList Rows.blockBackSpec.vars false W args.toList ds gs before) (hL : laidMetH Tryd.prog Rows.blockBackRow.laid W) :
    Calls Tryd.prog 3 args W fun e W' => ∃ v, e = .returned v ∧ Rows.blockBackSpec.post enc Tryd.prog Tryd.f3 false true false false W args v W' := by
  have hW' := hW
  obtain ⟨p, q, hA0, hV, rfl, hfz, hnd⟩ := hW
  have hA : DataW.TrodAll enc Tryd.prog W 0 (fun _ => true) true Tryd.f3.params.toList args.toList ds p := hA0
  rw [Tryd.params3] at hA hval
  obtain ⟨v0, vs0, d0, ds0, p0, q_0, hargs, rfl, rfl, h0, r_0⟩ := trodAll_cons hA
  obtain ⟨v1, vs1, d1, ds1, p1, q_1, rfl, rfl, rfl, h1, r_1⟩ := trodAll_cons r_0
  obtain ⟨rfl, rfl, rfl⟩ := trodAll_nil r_1
  obtain rfl : args = #[v0, v1] := by cases args; simp_all
  obtain ⟨rfl, rfl⟩ := trodVars_none hV
  obtain ⟨l0, hs0, hv0⟩ := open_cla (hval 0 22 v0 rfl rfl) h0
  obtain ⟨c1, rfl, rfl, rfl, wc1⟩ := open_int Tryd.underlying3 (hval 1 3 v1 rfl rfl) h1
  clear hA0
  simp only [List.append_nil] at hW'
  have hL2 : LaidU W := laid_u (seat_met5 hL)
  have hlt0 : ∀ x ∈ p0, x.block < W.heap.size := fun x hx => by simpa using hW'.lt x (by simp [hx])
  refine (blockback_any v0 l0 c1 W hs0 hv0 hL2).mono fun e W' ⟨he, hg⟩ => ?_
  subst he
  exact ⟨_, rfl, _, _, _, [], (p0 ++ ([] ++ [])), [], hW', trodAll_cons_mk (shut_bool Tryd.underlying4 _) trodAll_mk0, (trodAll_cons_mk (Below.trod laid_out (by kernel_rfl) (of_decide_eq_true (by kernel_rfl)) h0 hg hlt0) (trodAll_cons_mk (shut_int Tryd.underlying3 wc1) trodAll_mk0)), rfl, hg.frame _, fun h => by cases h⟩

theorem reads (os : Os) (H : Type) (enc : TypeId × Value → H) : ∃ places, DataW.whole enc Tryd.prog ((laidWorld5 os).forCall (fun _ _ => 0) ⟨#[], #[.slice none 0 0, .int .i64 0], []⟩).memory Tryd.f3.params.toList Rows.blockBackSpec.vars false #[Value.slice none 0 0, Value.int .i64 0].toList 12 = some ([.nil, .lit (.int .i64 0)], [], places) :=
  ⟨[], by kernel_rfl⟩

set_option maxRecDepth 100000 in
theorem lifted (os : Os) (started : os.Started) (H : Type) (enc : TypeId × Value → H) (F : Stop.Interp) :
    ReturnsInHanded {} Tryd.checked os 3 .any ((OpenSpec.ofChange Rows.blockBackSpec).preRow enc Tryd.prog Tryd.f3 Rows.blockBackRow.domain false Rows.blockBackRow.laid) (((OpenSpec.ofChange Rows.blockBackSpec).at F).post enc Tryd.prog Tryd.f3 false true false false) := by
  obtain ⟨places, hx⟩ := reads os H enc
  refine returnsInHanded_of_row (C := Tryd.checked) (s := OpenSpec.ofChange Rows.blockBackSpec) seat_own started (by kernel_rfl) Tryd.func3
    (witness_row_at (enc := enc) (C := Tryd.checked) false (laidWorld5 os) #[.slice none 0 0, .int .i64 0] rfl (by kernel_rfl) (by kernel_rfl) (by kernel_rfl)
      (OpenSpec.preRow_of_cond 12 hx (by kernel_rfl) (fun k hk => by cases hk) (by kernel_rfl) (laid_met5 os _))) ?_
  intro W base args ds gs before hval hW _ _ _ hL _ _
  exact contract H enc W base args ds gs before hval hW hL

theorem said : Rows.BlockBackSaid :=
  OpenClaim.holds_of_cond 3 Tryd.f3 rfl rfl rfl rfl rfl rfl rfl ⟨rfl, rfl, rfl, rfl, rfl⟩ rfl rfl rfl rfl rfl (by kernel_rfl) Tryd.func3 (by kernel_rfl)
    (of_decide_eq_true (by kernel_rfl)) (by unfold Func.isWrapper; first | (rw [if_pos (by decide +kernel)]; kernel_rfl) | (rw [if_neg (by decide +kernel)]; exact ⟨rfl, rfl⟩))
    (fun os started H enc _ F => by rw [OpenClaim.pre_eq_preRow]; exact lifted os started H enc F)

theorem plain (f : FuncId) (fn : Func) (hf : Tryd.pinned.checked.prog.funcNamed "joist/joistlaw08.BlockBack" = some f) (hfn : Tryd.pinned.checked.prog.funcs[f]? = some fn) :
    true = Tryd.pinned.checked.prog.looks [] ∧ ∀ (j : Nat) t, fn.params[j]? = some t → Tryd.pinned.checked.prog.wantsStandIn t = false := by
  obtain rfl : f = 3 := Option.some.inj ((show Tryd.prog.funcNamed "joist/joistlaw08.BlockBack" = some 3 by kernel_rfl).symm.trans hf) |>.symm
  obtain rfl : fn = Tryd.f3 := (Option.some.inj (Tryd.func3.symm.trans hfn)).symm
  refine ⟨by kernel_rfl, fun j t ht => ?_⟩
  rw [Tryd.params3] at ht
  have hm := Array.mem_of_getElem? ht
  rcases (show t = 22 ∨ t = 3 by simpa using hm) with rfl | rfl
  · exact (show Tryd.prog.wantsStandIn 22 = false by kernel_rfl)
  · exact (show Tryd.prog.wantsStandIn 3 = false by kernel_rfl)

/-- THE CARD. -/
theorem card : Rows.BlockBackCardSaid :=
  Claim7.holds_tied_plain_at .later [] _ _ _ _ said (fun _ h => by cases h) (by kernel_rfl) (fun _ h => by cases h) blockBack_row_tie rfl ⟨rfl, rfl⟩ (by kernel_rfl) rfl plain (by kernel_rfl)
end Go.Proofs.YtfcnobcpnhfgmaaDoor.blockBack
namespace Go.Proofs.YtfcnobcpnhfgmaaDoor
theorem blockBack_card : Rows.BlockBackCardSaid := blockBack.card
end Go.Proofs.YtfcnobcpnhfgmaaDoor
