/- Several texts in one: HJ HK HL HM IA II CW. Conditions: as each theorem names them. -/
import Derived.Test.YtdjaofbjmnmlbaaDoorG1CellOrder
import Derived.Deep.QuietTactic
import Derived.BigQuiet
import Derived.Test.YtdjaofbjmnmlbaaDoorShelfB
import Derived.Lib.OwnBridge
import Derived.Lib.QuietBelow
import Derived.Test.YtdjaofbjmnmlbaaDoorEB
import Derived.Test.YtdjaofbjmnmlbaaDoorEA
import Derived.Test.YtdjaofbjmnmlbaaDoorFK
import Derived.Lib.SmallJoins
/- cell.seen at cells in order: what the sight lets. Conditions: a hundred thousand cells at most. -/
namespace Go.Proofs.YtdjaofbjmnmlbaaDoor
open Go.RowKit

/-- Of a list of cells those that the sight lets. -/
def seenF (ver life now : Int) : SG → List CT → List CT
  | _, [] => []
  | g, c :: l => if (g.lets c ver life now).2 = true then c :: seenF ver life now (g.lets c ver life now).1 l else seenF ver life now (g.lets c ver life now).1 l
/-- Where the sight stands behind a list of cells. -/
def sightF (ver life now : Int) : SG → List CT → SG
  | g, [] => g
  | g, c :: l => sightF ver life now (g.lets c ver life now).1 l
theorem seenF_app (ver life now : Int) : ∀ (g : SG) (l m : List CT), seenF ver life now g (l ++ m) = seenF ver life now g l ++ seenF ver life now (sightF ver life now g l) m
  | g, [], m => rfl
  | g, c :: l, m => by
    show (if (g.lets c ver life now).2 = true then c :: seenF ver life now (g.lets c ver life now).1 (l ++ m) else seenF ver life now (g.lets c ver life now).1 (l ++ m)) = (if (g.lets c ver life now).2 = true then c :: seenF ver life now (g.lets c ver life now).1 l else seenF ver life now (g.lets c ver life now).1 l) ++ seenF ver life now (sightF ver life now (g.lets c ver life now).1 l) m
    rw [seenF_app]
    split
    · rw [List.cons_append]
    · rfl
theorem sightF_app (ver life now : Int) : ∀ (g : SG) (l m : List CT), sightF ver life now g (l ++ m) = sightF ver life now (sightF ver life now g l) m
  | g, [], m => rfl
  | g, c :: l, m => by
    show sightF ver life now (g.lets c ver life now).1 (l ++ m) = sightF ver life now (sightF ver life now (g.lets c ver life now).1 l) m
    rw [sightF_app]
theorem seenF_len (ver life now : Int) : ∀ (g : SG) (l : List CT), (seenF ver life now g l).length ≤ l.length
  | g, [] => Nat.le_refl _
  | g, c :: l => by
    have := seenF_len ver life now (g.lets c ver life now).1 l
    show (if (g.lets c ver life now).2 = true then c :: seenF ver life now (g.lets c ver life now).1 l else seenF ver life now (g.lets c ver life now).1 l).length ≤ l.length + 1
    split
    · simp only [List.length_cons]; omega
    · omega
/-- What cell.seen answers. -/
def seenL (ver life now : Int) (l : List CT) : List CT := if rightM ver life = true then seenF ver life now SG.zero l else []
/-- One cell more. -/
theorem seenF_snoc (ver life now : Int) (g : SG) (l : List CT) (c : CT) : seenF ver life now g (l ++ [c]) = seenF ver life now g l ++ (if ((sightF ver life now g l).lets c ver life now).2 = true then [c] else []) := by
  rw [seenF_app]
  rfl
theorem sightF_snoc (ver life now : Int) (g : SG) (l : List CT) (c : CT) : sightF ver life now g (l ++ [c]) = ((sightF ver life now g l).lets c ver life now).1 := by
  rw [sightF_app]
  rfl

theorem CRow.but {w w' : World} {B sb : Nat} {v : Value} {l : List CT} {xs : Array Value} (h : CRow w B v l) (hs : Blk w sb 151 xs) (hb : But w.heap.size sb w w') : CRow w' B v l := by
  refine ⟨h.1, ?_⟩
  rcases h.2 with h | ⟨g, cap, cur, e, h1, h2, hr⟩
  · exact .inl h
  · have hg : g < w.heap.size := by
      rcases Nat.lt_or_ge g w.heap.size with h' | h'
      · exact h'
      · rw [Array.getElem?_eq_none h'] at h2; cases h2
    have hne : g ≠ sb := by
      rintro rfl
      unfold Blk at hs
      rw [hs] at h2
      cases h2
    exact .inr ⟨g, cap, cur, e, h1, by rw [hb.block g hg hne]; exact h2, hr⟩
theorem Blk.butC {w w' : World} {sb k : Nat} {T : TypeId} {xs : Array Value} (h : Blk w k T xs) (hb : But w.heap.size sb w w') (hne : k ≠ sb) : Blk w' k T xs := by
  have hl := h.lt
  unfold Blk at *
  rw [hb.block k hl hne]; exact h
/-- Where cell.seen is. -/
structure SnS (w W : World) (rb sb : Nat) (G : SG) (ver life now : Int) : Prop where
  s : Blk W sb 151 G.a
  r : Blk W rb 98 #[.int .i64 ver, .int .i64 life, .int .i64 now]
  b : Below w.heap.size w W
theorem SnS.below {w W W' : World} {rb sb : Nat} {G : SG} {ver life now : Int} (h : SnS w W rb sb G ver life now) (hb : Below W.heap.size W W') : SnS w W' rb sb G ver life now := ⟨h.s.keep hb h.s.lt, h.r.keep hb h.r.lt, h.b.trans (hb.mono h.b.size)⟩
theorem SnS.but {w W W' : World} {rb sb : Nat} {G G' : SG} {ver life now : Int} (h : SnS w W rb sb G ver life now) (hne : rb ≠ sb) (hsb : w.heap.size ≤ sb) (h1 : Blk W' sb 151 G'.a) (hb : But W.heap.size sb W W') : SnS w W' rb sb G' ver life now := by
  refine ⟨h1, ?_, h.b.trans ((hb.mono h.b.size).below hsb)⟩
  have hl := h.r.lt
  have hr := h.r
  unfold Blk at *
  rw [hb.block rb hl hne]; exact hr

/-- Behind an append to a row of cells another block is as it was. -/
theorem CRow.apart {w w' : World} {B k : Nat} {v : Value} {l : List CT} {T : TypeId} {xs : Array Value} (h : CRow w B v l) (hk : Blk w k T xs) (hT : T ≠ 28) (hg : w.grownBy w' v.ownBlock) : Blk w' k T xs := by
  have hne : some k ≠ v.ownBlock := by
    rcases h.2 with ⟨e, _⟩ | ⟨g, cap, cur, e, h1, h2, hr⟩
    · rw [e]; intro q; cases q
    · rw [e]; intro q; cases q
      unfold Blk at hk
      rw [hk] at h2
      cases h2
      exact hT rfl
  have hl := hk.lt
  unfold Blk at *
  rw [hg.block k hl hne]; exact hk
theorem SnS.grown {w W W' : World} {rb sb : Nat} {G : SG} {ver life now : Int} {v : Value} {l : List CT} (h : SnS w W rb sb G ver life now) (hc : CRow W w.heap.size v l) (o : Obj) (hb : Below w.heap.size (W.alloc o) W') (hg : (W.alloc o).grownBy W' v.ownBlock) : SnS w W' rb sb G ver life now :=
  have hc' := hc.below (below_new W o)
  ⟨hc'.apart (h.s.keep (below_new W o) h.s.lt) (by decide) hg, hc'.apart (h.r.keep (below_new W o) h.r.lt) (by decide) hg, (h.b.alloc h.b.size _).trans hb⟩

set_option maxHeartbeats 4000000 in
set_option maxRecDepth 100000 in
theorem seen_any (v : Value) (l : List CT) (hl : l.length ≤ 100000) (ver life now : Int) (w : World) (h : ClA w v l) :
    Calls Tryd.prog 79 #[v, .agg #[.int .i64 ver, .int .i64 life, .int .i64 now]] w fun e w' => ∃ v', e = .returned v' ∧ CRow w' w.heap.size v' (seenL ver life now l) ∧ Below w.heap.size w w' := by
  have HR : Hid (∀ W, Calls Tryd.prog 125 #[.agg #[.int .i64 ver, .int .i64 life, .int .i64 now]] W fun e w' => e = .returned (.bool (rightM ver life)) ∧ Below W.heap.size W w') := fun W => cright_rules ver life now W
  have HN0 := hid (CRow.none w w.heap.size)
  unfold seenL
  obtain ⟨A, cc, rfl, hc1, hc2, hh⟩ := h
  obtain ⟨n, hn⟩ : ∃ n, l.length = n := ⟨_, rfl⟩
  have HN := hid hn
  rw [hn] at hl hc1 hh ⊢
  have HH := hid hh
  clear hn hh
  cases hr : rightM ver life with
  | false =>
    rw [hr] at HR
    rw [if_neg (by decide)]
    clear hr
    go_enter Tryd.func79, Tryd.ntmps79
    go_wp2_with (go_at_call 125; refine (HR.out _).mono ?_; rintro e w5 ⟨rfl, hb5⟩)
    go_ret
    exact ⟨_, rfl, (HN0.out.below (((Below.refl _ _).alloc (Nat.le_refl _) _).trans (hb5.mono (by simp)))), ((Below.refl _ _).alloc (Nat.le_refl _) _).trans (hb5.mono (by simp))⟩
  | true =>
    rw [hr] at HR
    rw [if_pos rfl]
    clear hr
    have HL := hid lets_any
    go_enter Tryd.func79, Tryd.ntmps79
    go_wp2_with (go_at_call 125; refine (HR.out _).mono ?_; rintro e w5 ⟨rfl, hb5⟩)
    obtain ⟨rb, hrb⟩ : ∃ rb, w.heap.size = rb := ⟨_, rfl⟩
    obtain ⟨sb, hsb⟩ : ∃ sb, w5.heap.size = sb := ⟨_, rfl⟩
    have HB5 : Hid (Below w.heap.size w w5) := ((Below.refl _ _).alloc (Nat.le_refl _) _).trans (hb5.mono (by simp))
    have HR5 : Hid (Blk w5 w.heap.size 98 #[.int .i64 ver, .int .i64 life, .int .i64 now]) := (Blk.new w _ _).keep hb5 (by simp)
    have HS0 : Hid (SnS w (w5.alloc (.cells SG.zero.a 151)) rb sb SG.zero ver life now) := by
      rw [← hrb, ← hsb]
      exact ⟨Blk.new _ _ _, HR5.out.keep (below_new _ _) HR5.out.lt, HB5.out.alloc HB5.out.size _⟩
    have HC0 : Hid (CRow (w5.alloc (.cells SG.zero.a 151)) w.heap.size (.slice none 0 0) []) := (HN0.out.below HB5.out).below (below_new _ _)
    have HNE : Hid (rb ≠ sb ∧ w.heap.size ≤ sb) := by
      have h1 := HR5.out.lt
      exact ⟨by omega, by omega⟩
    rw [hrb, hsb]
    clear hb5 hrb hsb HB5 HR5 HR
    go_loopw [5, 14] (fun vo vi wr => ∃ i : Nat, i ≤ n ∧ vi = .int .i64 i ∧ Hid (CRow wr w.heap.size vo (seenF ver life now SG.zero (l.take i))) ∧ Hid (SnS w wr rb sb (sightF ver life now SG.zero (l.take i)) ver life now)) (fun _ vi _ => n - (intOf vi).toNat)
    case atStart => exact ⟨0, Nat.zero_le _, rfl, HC0.out, HS0.out⟩
    case round =>
      obtain ⟨i, hi, rfl, HO, HS⟩ := hrel
      by_cases hlt : i < n
      · have hin : i < l.length := by rw [HN.out]; exact hlt
        have hltz : (i : Int) < (n : Int) := by omega
        obtain ⟨b, off, rfl, hhc⟩ := HH.out (by omega)
        have hbw : b < w.heap.size := hhc.lt (by omega)
        obtain ⟨c, hc⟩ : ∃ c, l[i] = c := ⟨_, rfl⟩
        have P : wr.cell? ⟨b, off + i * 8, none⟩ = some (.string c.r) ∧ wr.cell? ⟨b, off + i * 8 + 1, none⟩ = some (.string c.f) ∧ wr.cell? ⟨b, off + i * 8 + 2, none⟩ = some (.string c.q) ∧ wr.cell? ⟨b, off + i * 8 + 3, none⟩ = some (.int .i64 c.t) ∧ wr.cell? ⟨b, off + i * 8 + 4, none⟩ = some (.int .i64 c.k) ∧ wr.cell? ⟨b, off + i * 8 + 5, none⟩ = some (.int .i64 c.vk) ∧ wr.cell? ⟨b, off + i * 8 + 6, none⟩ = some (.int .i64 c.vn) ∧ wr.cell? ⟨b, off + i * 8 + 7, none⟩ = some (.string c.s) := by
          rw [← hc]
          exact (hhc.below HS.out.b hbw).words i hin
        obtain ⟨G, hG⟩ : ∃ G, sightF ver life now SG.zero (l.take i) = G := ⟨_, rfl⟩
        have HT1 : Hid (seenF ver life now SG.zero (l.take (i + 1)) = seenF ver life now SG.zero (l.take i) ++ (if (G.lets c ver life now).2 = true then [c] else [])) := by
          unfold Hid
          rw [List.take_add_one, List.getElem?_eq_getElem hin, hc]
          show seenF ver life now SG.zero (l.take i ++ [c]) = _
          rw [seenF_snoc, hG]
        have HT2 : Hid (sightF ver life now SG.zero (l.take (i + 1)) = (G.lets c ver life now).1) := by
          unfold Hid
          rw [List.take_add_one, List.getElem?_eq_getElem hin, hc]
          show sightF ver life now SG.zero (l.take i ++ [c]) = _
          rw [sightF_snoc, hG]
        have HLn : Hid ((seenF ver life now SG.zero (l.take i)).length ≤ 100000) := by
          have := seenF_len ver life now SG.zero (l.take i)
          rw [List.length_take] at this
          unfold Hid; omega
        rw [hG] at HS
        obtain ⟨p0, p1, p2, p3, p4, p5, p6, p7⟩ := P
        clear hc hhc hG
        go_upto_region 8 with (fail)
        obtain ⟨bb, hbb⟩ : ∃ bb, wr.heap.size = bb := ⟨_, rfl⟩
        refine wp_ltc (fun W => Hid (Blk W bb 28 c.e.toArray ∧ Below wr.heap.size wr W ∧ bb = wr.heap.size) ∧ W.cell? ⟨bb, 0, none⟩ = some (.string c.r) ∧ W.cell? ⟨bb, 1, none⟩ = some (.string c.f) ∧ W.cell? ⟨bb, 2, none⟩ = some (.string c.q) ∧ W.cell? ⟨bb, 3, none⟩ = some (.int .i64 c.t) ∧ W.cell? ⟨bb, 4, none⟩ = some (.int .i64 c.k) ∧ W.cell? ⟨bb, 5, none⟩ = some (.int .i64 c.vk) ∧ W.cell? ⟨bb, 6, none⟩ = some (.int .i64 c.vn) ∧ W.cell? ⟨bb, 7, none⟩ = some (.string c.s)) (by rw [← hbb]; have hB := Blk.new wr 28 c.e.toArray; exact ⟨⟨hB, below_new _ _, rfl⟩, blk_words hB⟩) (fun W hW => ?_)
        rw [hbb]
        obtain ⟨HW, b0, b1, b2, b3, b4, b5, b6, b7⟩ := hW
        have HS2 : Hid (SnS w W rb sb G ver life now) := HS.out.below HW.out.2.1
        have HO2 : Hid (CRow W w.heap.size _ (seenF ver life now SG.zero (l.take i))) := HO.out.below HW.out.2.1
        have r0 : W.cell? ⟨rb, 0, none⟩ = some (.int .i64 ver) := HS2.out.r.cell 0
        have r1 : W.cell? ⟨rb, 1, none⟩ = some (.int .i64 life) := HS2.out.r.cell 1
        have r2 : W.cell? ⟨rb, 2, none⟩ = some (.int .i64 now) := HS2.out.r.cell 2
        have HBN : Hid (bb ≠ sb) := by
          have h1 := HS.out.s.lt
          have h2 := HW.out.2.2
          unfold Hid; omega
        have hL := HL.out G c ver life now sb W HS2.out.s
        clear p0 p1 p2 p3 p4 p5 p6 p7 hbb HO HS
        cases hck : (G.lets c ver life now).2 with
        | false =>
          rw [hck] at hL HT1
          have HL2 := hid hL
          have HT3 : Hid (seenF ver life now SG.zero (l.take (i + 1)) = seenF ver life now SG.zero (l.take i)) := by have := HT1.out; rwa [if_neg (by decide), List.append_nil] at this
          clear hL hck
          go_wp2_with (go_at_call 126; refine HL2.out.mono ?_; rintro e w6 ⟨rfl, hk6, hb6⟩)
          go_roundw
          case rel => exact ⟨i + 1, by omega, by go_num, by rw [HT3.out]; exact HO2.out.but HS2.out.s hb6, by rw [HT2.out]; exact HS2.out.but HNE.out.1 HNE.out.2 hk6 hb6⟩
          case measure => simp [intOf]; omega
        | true =>
          rw [hck] at hL HT1
          have HL2 := hid hL
          have HT3 : Hid (seenF ver life now SG.zero (l.take (i + 1)) = seenF ver life now SG.zero (l.take i) ++ [c]) := by have := HT1.out; rwa [if_pos rfl] at this
          clear hL hck
          have HX : Hid (∀ w6, Blk w6 sb 151 (G.lets c ver life now).1.a → But W.heap.size sb W w6 → SnS w w6 rb sb (G.lets c ver life now).1 ver life now ∧ Blk w6 bb 28 c.e.toArray ∧ CRow w6 w.heap.size u5 (seenF ver life now SG.zero (l.take i))) := fun w6 hk6 hb6 => ⟨HS2.out.but HNE.out.1 HNE.out.2 hk6 hb6, (HW.out.1 : Blk _ _ _ _).butC hb6 HBN.out, HO2.out.but HS2.out.s hb6⟩
          go_wp2_with (first
            | (go_at_call 126; refine HL2.out.mono ?_; rintro e w6 ⟨rfl, hk6, hb6⟩; have HX6 := hid (HX.out w6 hk6 hb6); obtain ⟨e0, e1, e2, e3, e4, e5, e6, e7⟩ := blk_words HX6.out.2.1)
            | (at_builtin; refine wpList_append_cell rfl (.tmp 21) (.tmp 23) rfl _ w.heap.size _ _ rfl (HX6.out.2.2.below (below_new _ _)) _ 1 rfl c (ct_new c _ _) HLn.out (by have := HX6.out.1.b.size; simp; omega) ?_; intro v7 w7 h7 hb7 hm7))
          go_roundw
          case rel =>
            exact ⟨i + 1, by omega, by go_num, by rw [HT3.out]; exact h7, by rw [HT2.out]; exact HX6.out.1.grown HX6.out.2.2 _ hb7 hm7⟩
          case measure => simp [intOf]; omega
      · obtain rfl : i = n := by omega
        have hO2 := HO.out
        rw [List.take_of_length_le (by rw [HN.out]; exact Nat.le_refl _)] at hO2
        have HO2 := hid hO2
        clear hO2
        go_wp2
        go_ret
        exact ⟨_, rfl, HO2.out, HS.out.b⟩
end Go.Proofs.YtdjaofbjmnmlbaaDoor

/- cell.Seen and cell.Needed at every list of cells. Conditions: as cell.Sort's. -/
namespace Go.Proofs.YtdjaofbjmnmlbaaDoor
open Go.RowKit

/-- s is l sorted: of a list of cells the right ones in order, of each place the last one. -/
def SortOf (l s : List CT) : Prop := ∃ l', StbL (l.filter CT.ok) l' ∧ s = lastsM (l'.map Prod.fst)
theorem SortOf.len {l s : List CT} (h : SortOf l s) : s.length ≤ l.length := by
  obtain ⟨l', h1, rfl⟩ := h
  have h2 := lasts_len (l'.map Prod.fst)
  have h3 := h1.perm.length_eq
  have h4 := List.length_filter_le CT.ok l
  rw [List.length_map] at h2
  rw [List.length_zipIdx] at h3
  omega
theorem sort_any (v : Value) (l : List CT) (hl : l.length ≤ 100000) (w : World) (h : ClA w v l) (hok : ∀ c ∈ l, okC c) (hL : LaidU w) :
    Calls Tryd.prog 25 #[v] w fun e w' => ∃ v' s, e = .returned v' ∧ SortOf l s ∧ CRow w' w.heap.size v' s ∧ Below w.heap.size w w' :=
  (csort_any v l hl w h hok hL).mono fun _ _ ⟨v', l', h1, h2, h3, h4⟩ => ⟨v', _, h1, ⟨l', h2, rfl⟩, h3, h4⟩

set_option maxHeartbeats 1000000 in
theorem cseen_any (v : Value) (l : List CT) (hl : l.length ≤ 100000) (ver life now : Int) (w : World) (h : ClA w v l) (hok : ∀ c ∈ l, okC c) (hL : LaidU w) :
    Calls Tryd.prog 30 #[v, .int .i64 ver, .int .i64 life, .int .i64 now] w fun e w' => ∃ v' s, e = .returned v' ∧ SortOf l s ∧ CRow w' w.heap.size v' (seenL ver life now s) ∧ Below w.heap.size w w' := by
  have HS := hid (sort_any v l hl w h hok hL)
  have HSn : Hid (∀ (W : World) (v5 : Value) (s : List CT), SortOf l s → CRow W w.heap.size v5 s → Calls Tryd.prog 79 #[v5, .agg #[.int .i64 ver, .int .i64 life, .int .i64 now]] W fun e w' => ∃ v', e = .returned v' ∧ CRow w' W.heap.size v' (seenL ver life now s) ∧ Below W.heap.size W w') := fun W v5 s h1 h2 => seen_any v5 s (Nat.le_trans h1.len hl) ver life now W h2.cla
  clear h hok hL
  go_enter Tryd.func30, Tryd.ntmps30
  go_wp2_with (first
    | (go_at_call 25; refine HS.out.mono ?_; rintro e w5 ⟨v5, s5, rfl, hq5, hr5, hb5⟩)
    | (go_at_call 79; refine (HSn.out _ _ _ hq5 hr5).mono ?_; rintro e w6 ⟨v6, rfl, hr6, hb6⟩))
  go_ret
  exact ⟨_, s5, rfl, hq5, hr6.le hb5.size, hb5.trans (hb6.mono hb5.size)⟩

set_option maxHeartbeats 1000000 in
theorem cneeded_any (v : Value) (l : List CT) (hl : l.length ≤ 100000) (ver life now : Int) (w : World) (h : ClA w v l) (hok : ∀ c ∈ l, okC c) (hL : LaidU w) :
    Calls Tryd.prog 72 #[v, .int .i64 ver, .int .i64 life, .int .i64 now] w fun e w' => ∃ v' s, e = .returned v' ∧ SortOf l s ∧ CRow w' w.heap.size v' (seenL ver life now s) ∧ Below w.heap.size w w' := by
  have HS := hid (cseen_any v l hl ver life now w h hok hL)
  clear h hok hL
  go_enter Tryd.func72, Tryd.ntmps72
  go_wp2_with (go_at_call 30; refine HS.out.mono ?_; rintro e w5 ⟨v5, s5, rfl, hq5, hr5, hb5⟩)
  go_ret
  exact ⟨_, s5, rfl, hq5, hr5, hb5⟩
end Go.Proofs.YtdjaofbjmnmlbaaDoor

/- cell.Value at every list of cells. Conditions: as cell.Sort's. -/
namespace Go.Proofs.YtdjaofbjmnmlbaaDoor
open Go.RowKit

/-- The first cell of the column in the first row. -/
def valueM (fam qual : ByteArray) (s : List CT) : List CT → Option CT
  | [] => none
  | c :: l => if c.r = (s.getD 0 default).r ∧ c.f = fam ∧ c.q = qual then some c else valueM fam qual s l
def valV : Option CT → Value
  | some c => .tuple #[.agg #[.int .i64 c.vk, .int .i64 c.vn, .string c.s], .bool true]
  | none => .tuple #[.agg #[.int .i64 0, .int .i64 0, .string ⟨#[]⟩], .bool false]
theorem seenL_len (ver life now : Int) (s : List CT) : (seenL ver life now s).length ≤ s.length := by
  unfold seenL
  split
  · exact seenF_len ver life now SG.zero s
  · exact Nat.zero_le _

set_option maxHeartbeats 4000000 in
set_option maxRecDepth 100000 in
theorem cvalue_any (v : Value) (l : List CT) (hl : l.length ≤ 100000) (fam qual : ByteArray) (ver life now : Int) (w : World) (h : ClA w v l) (hok : ∀ c ∈ l, okC c) (hL : LaidU w) :
    Calls Tryd.prog 70 #[v, .string fam, .string qual, .int .i64 ver, .int .i64 life, .int .i64 now] w fun e w' => ∃ s, e = .returned (valV (valueM fam qual s (seenL ver life now s))) ∧ SortOf l s ∧ Below w.heap.size w w' := by
  have mixed : Tryd.prog.follows .mixedOrders = true := by kernel_rfl
  have HS : Hid (∀ W, Below w.heap.size w W → Calls Tryd.prog 25 #[v] W fun e w' => ∃ v' s, e = .returned v' ∧ SortOf l s ∧ CRow w' W.heap.size v' s ∧ Below W.heap.size W w') := fun W hb => sort_any v l hl W (h.below hb) hok (hL.below hb)
  have HSn : Hid (∀ (W : World) (v5 : Value) (s : List CT) (B : Nat), SortOf l s → CRow W B v5 s → Calls Tryd.prog 79 #[v5, .agg #[.int .i64 ver, .int .i64 life, .int .i64 now]] W fun e w' => ∃ v', e = .returned v' ∧ CRow w' W.heap.size v' (seenL ver life now s) ∧ Below W.heap.size W w') := fun W v5 s B h1 h2 => seen_any v5 s (Nat.le_trans h1.len hl) ver life now W h2.cla
  have HB0 : Hid (Below w.heap.size w (w.alloc (.cells #[.int .i64 0, .int .i64 0, .string ⟨#[]⟩] 26))) := below_new _ _
  have HR0 : Hid (Blk (w.alloc (.cells #[.int .i64 0, .int .i64 0, .string ⟨#[]⟩] 26)) w.heap.size 26 #[.int .i64 0, .int .i64 0, .string ⟨#[]⟩]) := Blk.new _ _ _
  clear h hok hL
  go_enter Tryd.func70, Tryd.ntmps70
  go_wp2_with (first
    | (go_at_call 25; refine (HS.out _ HB0.out).mono ?_; rintro e w5 ⟨v5, s5, rfl, hq5, hr5, hb5⟩)
    | (go_at_call 79; refine (HSn.out _ _ _ _ hq5 hr5).mono ?_; rintro e w6 ⟨v6, rfl, hr6, hb6⟩; have K6 := hid hr6.cla; have K5 := hid (hr5.cla.below hb6); have KB := hid ((HR0.out.keep hb5 HR0.out.lt).keep hb6 (Nat.lt_of_lt_of_le HR0.out.lt hb5.size)); have BW := hid (HB0.out.trans ((hb5.mono HB0.out.size).trans (hb6.mono (Nat.le_trans HB0.out.size hb5.size)))); have HL6 := hid (seenL_len ver life now s5); obtain ⟨sl, hsl⟩ : ∃ sl, seenL ver life now s5 = sl := ⟨_, rfl⟩; have HSL := hid hsl; rw [hsl] at K6 HL6; clear hsl hr6 hr5 hb5 hb6; obtain ⟨A6, c6, rfl, hc6, hm6, hh6⟩ := K6.out; obtain ⟨A5, c5, rfl, hc5, hm5, hh5⟩ := K5.out; have HH6 := hid hh6; have HH5 := hid hh5; clear hh6 hh5 K6 K5; obtain ⟨m, hm⟩ : ∃ m, sl.length = m := ⟨_, rfl⟩; have HM := hid hm; obtain ⟨n5, hn5⟩ : ∃ n5, s5.length = n5 := ⟨_, rfl⟩; have HN5 := hid hn5; rw [hm] at hc6 ⊢; rw [hn5] at hc5 ⊢; clear hm hn5))
  obtain ⟨rb, hrb⟩ : ∃ rb, w.heap.size = rb := ⟨_, rfl⟩
  rw [hrb]
  have HRB := hid hrb
  clear hrb
  go_loopw [26] (fun vi wr => ∃ i : Nat, i ≤ m ∧ vi = .int .i64 i ∧ Hid (Below w6.heap.size w6 wr) ∧ Hid (valueM fam qual s5 sl = valueM fam qual s5 (sl.drop i))) (fun vi _ => m - (intOf vi).toNat)
  case atStart => exact ⟨0, Nat.zero_le _, rfl, Below.refl _ _, rfl⟩
  case round =>
    obtain ⟨i, hi, rfl, HB, HV⟩ := hrel
    by_cases hlt : i < m
    · have him : i < sl.length := by rw [HM.out]; exact hlt
      have hltz : (i : Int) < (m : Int) := by omega
      obtain ⟨b, off, rfl, hhc⟩ := HH6.out (by rw [HM.out]; omega)
      have h05 : 0 < s5.length := by have := HL6.out; omega
      have hn50 : (0 : Int) < (n5 : Int) := by have := HN5.out; omega
      obtain ⟨b5, off5, rfl, hhd⟩ := HH5.out h05
      have hbw : b < w6.heap.size := hhc.lt (by omega)
      have hbw5 : b5 < w6.heap.size := hhd.lt h05
      obtain ⟨c, hc⟩ : ∃ c, sl[i] = c := ⟨_, rfl⟩
      obtain ⟨d, hd⟩ : ∃ d, s5[0] = d := ⟨_, rfl⟩
      have HD : Hid (valueM fam qual s5 (sl.drop i) = if c.r = d.r ∧ c.f = fam ∧ c.q = qual then some c else valueM fam qual s5 (sl.drop (i + 1))) := by
        unfold Hid
        rw [List.drop_eq_getElem_cons him, hc]
        show (if c.r = (s5.getD 0 default).r ∧ c.f = fam ∧ c.q = qual then some c else _) = _
        rw [List.getD_eq_getElem?_getD, List.getElem?_eq_getElem h05, hd]
        rfl
      have P : wr.cell? ⟨b, off + i * 8, none⟩ = some (.string c.r) ∧ wr.cell? ⟨b, off + i * 8 + 1, none⟩ = some (.string c.f) ∧ wr.cell? ⟨b, off + i * 8 + 2, none⟩ = some (.string c.q) ∧ wr.cell? ⟨b, off + i * 8 + 3, none⟩ = some (.int .i64 c.t) ∧ wr.cell? ⟨b, off + i * 8 + 4, none⟩ = some (.int .i64 c.k) ∧ wr.cell? ⟨b, off + i * 8 + 5, none⟩ = some (.int .i64 c.vk) ∧ wr.cell? ⟨b, off + i * 8 + 6, none⟩ = some (.int .i64 c.vn) ∧ wr.cell? ⟨b, off + i * 8 + 7, none⟩ = some (.string c.s) := by
        rw [← hc]
        exact (hhc.below HB.out hbw).words i him
      have z0 : Hid (∀ W, Below wr.heap.size wr W → W.cell? ⟨b5, off5, none⟩ = some (.string d.r)) := fun W hW => by
        have := ((hhd.below HB.out hbw5).below hW (Nat.lt_of_lt_of_le hbw5 HB.out.size)).words 0 h05
        rw [Nat.zero_mul, Nat.add_zero, hd] at this
        exact this.1
      obtain ⟨p0, p1, p2, p3, p4, p5, p6, p7⟩ := P
      clear hc hhc hd hhd
      go_upto_region 5 with (fail)
      obtain ⟨bb, hbb⟩ : ∃ bb, wr.heap.size = bb := ⟨_, rfl⟩
      refine wp_ltc (fun W => Hid (Blk W bb 28 c.e.toArray ∧ Below wr.heap.size wr W) ∧ W.cell? ⟨bb, 0, none⟩ = some (.string c.r) ∧ W.cell? ⟨bb, 1, none⟩ = some (.string c.f) ∧ W.cell? ⟨bb, 2, none⟩ = some (.string c.q) ∧ W.cell? ⟨bb, 3, none⟩ = some (.int .i64 c.t) ∧ W.cell? ⟨bb, 4, none⟩ = some (.int .i64 c.k) ∧ W.cell? ⟨bb, 5, none⟩ = some (.int .i64 c.vk) ∧ W.cell? ⟨bb, 6, none⟩ = some (.int .i64 c.vn) ∧ W.cell? ⟨bb, 7, none⟩ = some (.string c.s)) (by rw [← hbb]; have hB := Blk.new wr 28 c.e.toArray; exact ⟨⟨hB, below_new _ _⟩, blk_words hB⟩) (fun W hW => ?_)
      rw [hbb]
      obtain ⟨HW, b0, b1, b2, b3, b4, b5, b6, b7⟩ := hW
      have d0 := z0.out W HW.out.2
      have HB2 : Hid (Below w6.heap.size w6 W) := HB.out.trans (HW.out.2.mono HB.out.size)
      clear p0 p1 p2 p3 p4 p5 p6 p7 hbb HB z0
      by_cases h1 : c.r = d.r
      · have q1 : (c.r.toList == d.r.toList) = true := by rw [h1]; simp
        by_cases h2 : c.f = fam
        · have q2 : (c.f.toList == fam.toList) = true := by rw [h2]; simp
          by_cases h3 : c.q = qual
          · have q3 : (c.q.toList == qual.toList) = true := by rw [h3]; simp
            have HV2 : Hid (valueM fam qual s5 sl = some c) := by
              unfold Hid
              rw [HV.out, HD.out]
              exact if_pos ⟨h1, h2, h3⟩
            have KB2 := KB.out.keep HB2.out KB.out.lt
            rw [HRB.out] at KB2
            have g0 : W.cell? ⟨rb, 0, none⟩ = some (.int .i64 0) := KB2.cell 0
            have g1 : W.cell? ⟨rb, 1, none⟩ = some (.int .i64 0) := KB2.cell 1
            have g2 : W.cell? ⟨rb, 2, none⟩ = some (.string ⟨#[]⟩) := KB2.cell 2
            have gf : ∀ j, W.frozen? ⟨rb, j, none⟩ = false := fun j => KB2.free j
            clear h1 h2 h3 KB2
            go_quiet (fail)
            go_wp2
            try simp only [Exit.inBlock, Exit.then]
            refine bodyPost_ret (v := .tuple #[.agg #[.int .i64 c.vk, .int .i64 c.vn, .string c.s], .bool true]) (by simp [results, Tryd.results70, go_sem, cell_set_same, g0, g1, g2]) rfl ?_
            refine ⟨s5, ?_, hq5, ?_⟩
            · rw [HSL.out, HV2.out]
              rfl
            · have hrb := HRB.out
              exact ((((BW.out.trans (HB2.out.mono BW.out.size)).trans (below_drewN (Below.refl _ _) _)).setCell (p := ⟨rb, 0, none⟩) (Nat.le_of_eq hrb) _).setCell (p := ⟨rb, 1, none⟩) (Nat.le_of_eq hrb) _).setCell (p := ⟨rb, 2, none⟩) (Nat.le_of_eq hrb) _
          · have q3 : (c.q.toList == qual.toList) = false := ba_ne h3
            
            have HV2 : Hid (valueM fam qual s5 sl = valueM fam qual s5 (sl.drop (i + 1))) := by
              unfold Hid
              rw [HV.out, HD.out]
              exact if_neg (fun h => h3 h.2.2)
            
            go_quiet (fail)
            go_wp2
            go_roundw
            case rel => exact ⟨i + 1, by omega, by go_num, below_drewN HB2.out _, HV2.out⟩
            case measure => simp [intOf]; omega
        · have q2 : (c.f.toList == fam.toList) = false := ba_ne h2
          
          have HV2 : Hid (valueM fam qual s5 sl = valueM fam qual s5 (sl.drop (i + 1))) := by
            unfold Hid
            rw [HV.out, HD.out]
            exact if_neg (fun h => h2 h.2.1)
          
          go_quiet (fail)
          go_wp2
          go_roundw
          case rel => exact ⟨i + 1, by omega, by go_num, below_drewN HB2.out _, HV2.out⟩
          case measure => simp [intOf]; omega
      · have q1 : (c.r.toList == d.r.toList) = false := ba_ne h1
        
        have HV2 : Hid (valueM fam qual s5 sl = valueM fam qual s5 (sl.drop (i + 1))) := by
          unfold Hid
          rw [HV.out, HD.out]
          exact if_neg (fun h => h1 h.1)
        
        go_quiet (fail)
        go_wp2
        go_roundw
        case rel => exact ⟨i + 1, by omega, by go_num, below_drewN HB2.out _, HV2.out⟩
        case measure => simp [intOf]; omega
    · obtain rfl : i = m := by omega
      have HV2 : Hid (valueM fam qual s5 sl = none) := by
        unfold Hid
        rw [HV.out, List.drop_of_length_le (by rw [HM.out]; exact Nat.le_refl _)]
        rfl
      have KB2 := KB.out.keep HB.out KB.out.lt
      rw [HRB.out] at KB2
      have g0 : wr.cell? ⟨rb, 0, none⟩ = some (.int .i64 0) := KB2.cell 0
      have g1 : wr.cell? ⟨rb, 1, none⟩ = some (.int .i64 0) := KB2.cell 1
      have g2 : wr.cell? ⟨rb, 2, none⟩ = some (.string ⟨#[]⟩) := KB2.cell 2
      have gf : ∀ j, wr.frozen? ⟨rb, j, none⟩ = false := fun j => KB2.free j
      clear KB2
      go_wp2
      try simp only [Exit.inBlock, Exit.then]
      refine bodyPost_ret (v := .tuple #[.agg #[.int .i64 0, .int .i64 0, .string ⟨#[]⟩], .bool false]) (by simp [results, Tryd.results70, go_sem, cell_set_same, g0, g1, g2]) rfl ?_
      refine ⟨s5, ?_, hq5, ?_⟩
      · rw [HSL.out, HV2.out]
        rfl
      · have hrb := HRB.out
        exact (((BW.out.trans (HB.out.mono BW.out.size)).setCell (p := ⟨rb, 0, none⟩) (Nat.le_of_eq hrb) _).setCell (p := ⟨rb, 1, none⟩) (Nat.le_of_eq hrb) _).setCell (p := ⟨rb, 2, none⟩) (Nat.le_of_eq hrb) _
end Go.Proofs.YtdjaofbjmnmlbaaDoor

/- cell.Rows at every list of cells. Conditions: a hundred thousand cells at most. -/
namespace Go.Proofs.YtdjaofbjmnmlbaaDoor
open Go.RowKit Go.Sort Go.Lib

/-- A row of the call's own that holds the texts ss. -/
def SRow (w : World) (B : Nat) (v : Value) (ss : List (List UInt8)) : Prop := w.ownsRow B 9 1 v ss.length (ss.map encStr)
theorem SRow.none (w : World) (B : Nat) : SRow w B (.slice none 0 0) [] := ⟨rfl, .inl ⟨rfl, rfl⟩⟩
theorem SRow.below {w w' : World} {B : Nat} {v : Value} {ss : List (List UInt8)} (h : SRow w B v ss) (hb : Below w.heap.size w w') : SRow w' B v ss := by
  refine ⟨h.1, ?_⟩
  rcases h.2 with h | ⟨g, cap, cur, e, h1, h2, hr⟩
  · exact .inl h
  · have hg : g < w.heap.size := by
      rcases Nat.lt_or_ge g w.heap.size with h' | h'
      · exact h'
      · rw [Array.getElem?_eq_none h'] at h2; cases h2
    exact .inr ⟨g, cap, cur, e, h1, by rw [hb.block g hg]; exact h2, hr⟩
theorem info_str : (Tryd.prog.info? 9).map (fun i => (i.zero, i.size, i.bytes)) = some (some (.string ⟨#[]⟩), 1, 16) := by kernel_rfl

section
variable {ops : Array Oper} {rest : List Oper} {o : Oper} {a : Act} {Q : Exit → Act → World → Prop}
set_option maxRecDepth 100000 in
/-- append of one text to a row of the call's own. -/
theorem wpList_append_text (hgd : o.guard = Option.none) (s x : Operand)
    (ho : o.op = .call { callee := .builtin .append, args := #[s, x], argTypes := #[89, 89] })
    (w : World) (base : Nat) (v : Value) (l : List (List UInt8)) (hs : a.eval s = v) (hown : SRow w base v l)
    (G : Nat) (m : Nat) (hx : a.eval x = .slice (some ⟨G, 0, Option.none⟩) 1 m) (y : ByteArray) (hc : w.cell? ⟨G, 0, Option.none⟩ = some (.string y))
    (hlen : l.length ≤ 100000) (hbase : base ≤ w.heap.size)
    (h : ∀ v' w', SRow w' base v' (l ++ [y.data.toList]) → Below base w w' → wpList Tryd.prog ops Q rest (a.put o.dst v') w') : wpList Tryd.prog ops Q (o :: rest) a w := by
  obtain ⟨i0, hi, hz0, hz1, hz2⟩ := info_parts info_str
  refine wpList_append_own w hgd s x 89 ho base 9 i0 _ 1 16 Tryd.underlying89 hi hz0 hz1 hz2 rfl (by decide) v l.length (l.map encStr) hs hown ⟨G, 0, Option.none⟩ 1 m [.string y] hx rfl (fun j u hu => ?_) (fun u hu => by rw [List.mem_singleton.1 hu]; rfl) (by unfold maxLen; omega) (by omega) hbase ?_
  · cases j with
    | zero =>
      injection hu with hu
      rw [← hu]
      exact hc
    | succ j => cases hu
  intro v' w' h1 h2 _
  refine h v' w' ?_ ((Below.refl _ _).grown h2 hbase fun k hk => (World.ownsRow.lt hown k hk).1)
  unfold SRow
  rw [List.map_append, List.length_append]
  exact h1
end

theorem below_grows (w : World) (os : Array Obj) : Below w.heap.size w (grow w os) := ⟨rfl, rfl, rfl, by simp [grow], fun k hk => by simp [grow, Array.getElem?_append_left hk]⟩
theorem srow_sort (B : Nat) (v : Value) (ss : List (List UInt8)) (hl : ss.length ≤ 100000) (w : World) (h : SRow w B v ss) (hB : B ≤ w.heap.size) :
    Calls Tryd.prog 120 #[v] w fun e w' => e = .returned (.tuple #[]) ∧ SRow w' B v (ss.mergeSort fun x y => decide (x ≤ y)) ∧ Below B w w' := by
  by_cases hv : v = .slice none 0 0
  · subst hv
    have e0 : ss = [] := by
      rcases h.2 with ⟨_, hz⟩ | ⟨g, cap, cur, e, _⟩
      · exact List.eq_nil_of_length_eq_zero hz
      · cases e
    subst e0
    refine (Tryd.slices_Sort_string_none none 0 w).mono ?_
    rintro e w' ⟨rfl, rfl⟩
    exact ⟨rfl, by rw [List.mergeSort_nil]; exact h, Below.refl _ _⟩
  · obtain ⟨g, cap, rfl, hBg, hgw, hc1, hc2, hl', hH⟩ := holds_of_ownsRow h hv
    refine (Tryd.slices_Sort_string g 0 cap ss w hH hgw (by omega)).mono ?_
    rintro e w' ⟨rfl, n, os, rfl⟩
    have hlen : (ss.mergeSort fun x y => decide (x ≤ y)).length = ss.length := List.length_mergeSort _
    have h1 := ownsRow_putRow (q := n) (k := ss.length) h hlen (Nat.le_refl _)
    rw [List.take_of_length_le (by rw [hlen]; exact Nat.le_refl _)] at h1
    have h2 : SRow (putRow encStr (Sort.ahead w n) g 0 (ss.mergeSort fun x y => decide (x ≤ y)).toArray) B (.slice (some ⟨g, 0, none⟩) ss.length cap) (ss.mergeSort fun x y => decide (x ≤ y)) := by
      unfold SRow
      rw [hlen]
      exact h1
    have hg := below_grows (putRow encStr (Sort.ahead w n) g 0 (ss.mergeSort fun x y => decide (x ≤ y)).toArray) os
    have hp : Below B w (putRow encStr (Sort.ahead w n) g 0 (ss.mergeSort fun x y => decide (x ≤ y)).toArray) := below_putRow (Below.refl _ _) hBg
    exact ⟨rfl, h2.below hg, hp.trans (hg.mono (Nat.le_trans hB hp.size))⟩
theorem srow_compact (B : Nat) (v : Value) (ss : List (List UInt8)) (hl : ss.length ≤ 100000) (w : World) (h : SRow w B v ss) (hB : B ≤ w.heap.size) :
    Calls Tryd.prog 121 #[v] w fun e w' => ∃ v', e = .returned v' ∧ SRow w' B v' (compact ss) ∧ Below B w w' := by
  by_cases hv : v = .slice none 0 0
  · subst hv
    have e0 : ss = [] := by
      rcases h.2 with ⟨_, hz⟩ | ⟨g, cap, cur, e, _⟩
      · exact List.eq_nil_of_length_eq_zero hz
      · cases e
    subst e0
    refine (Tryd.slices_Compact_string_empty none 0 w).mono ?_
    rintro e w' ⟨rfl, rfl⟩
    exact ⟨_, rfl, h, Below.refl _ _⟩
  · obtain ⟨g, cap, rfl, hBg, hgw, hc1, hc2, hl', hH⟩ := holds_of_ownsRow h hv
    refine (Tryd.slices_Compact_string g 0 cap ss w hH (by omega) hc1).mono ?_
    rintro e w' ⟨rfl, q, rfl⟩
    have hle : (compact ss).length ≤ ss.length := by
      unfold compact compactUpTo
      rw [List.length_map]
      exact Nat.le_trans (List.length_filter_le _ _) (by rw [List.length_range]; exact Nat.le_refl _)
    have hlen : (compact ss ++ List.replicate (ss.length - (compact ss).length) []).length = ss.length := by
      rw [List.length_append, List.length_replicate]; omega
    have h1 := ownsRow_putRow (q := q) (k := (compact ss).length) h hlen hle
    rw [List.take_left] at h1
    exact ⟨_, rfl, h1, below_putRow (Below.refl _ _) hBg⟩

/-- The rows of cells. -/
def rowsL (l : List CT) : List (List UInt8) := compact ((l.map fun c => c.r.data.toList).mergeSort fun x y => decide (x ≤ y))

set_option maxHeartbeats 4000000 in
set_option maxRecDepth 100000 in
theorem crows_any (v : Value) (l : List CT) (hl : l.length ≤ 100000) (w : World) (h : ClA w v l) :
    Calls Tryd.prog 71 #[v] w fun e w' => ∃ v', e = .returned v' ∧ SRow w' w.heap.size v' (rowsL l) ∧ Below w.heap.size w w' := by
  obtain ⟨A, cc, rfl, hc1, hc2, hh⟩ := h
  obtain ⟨n, hn⟩ : ∃ n, l.length = n := ⟨_, rfl⟩
  have HN := hid hn
  rw [hn] at hl hc1 hh ⊢
  have HH := hid hh
  have HS := hid srow_sort
  have HC := hid srow_compact
  have HN0 := hid (SRow.none w w.heap.size)
  clear hn hh
  go_enter Tryd.func71, Tryd.ntmps71
  go_wp2
  go_loopw [3, 8] (fun vo vi wr => ∃ i : Nat, i ≤ n ∧ vi = .int .i64 i ∧ Hid (SRow wr w.heap.size vo ((l.take i).map fun c => c.r.data.toList)) ∧ Hid (Below w.heap.size w wr)) (fun _ vi _ => n - (intOf vi).toNat)
  case atStart => exact ⟨0, Nat.zero_le _, rfl, HN0.out, Below.refl _ _⟩
  case round =>
    obtain ⟨i, hi, rfl, HO, HB⟩ := hrel
    by_cases hlt : i < n
    · have hin : i < l.length := by rw [HN.out]; exact hlt
      have hltz : (i : Int) < (n : Int) := by omega
      obtain ⟨b, off, rfl, hhc⟩ := HH.out (by omega)
      have hbw : b < w.heap.size := hhc.lt (by omega)
      obtain ⟨c, hc⟩ : ∃ c, l[i] = c := ⟨_, rfl⟩
      have P : wr.cell? ⟨b, off + i * 8, none⟩ = some (.string c.r) ∧ wr.cell? ⟨b, off + i * 8 + 1, none⟩ = some (.string c.f) ∧ wr.cell? ⟨b, off + i * 8 + 2, none⟩ = some (.string c.q) ∧ wr.cell? ⟨b, off + i * 8 + 3, none⟩ = some (.int .i64 c.t) ∧ wr.cell? ⟨b, off + i * 8 + 4, none⟩ = some (.int .i64 c.k) ∧ wr.cell? ⟨b, off + i * 8 + 5, none⟩ = some (.int .i64 c.vk) ∧ wr.cell? ⟨b, off + i * 8 + 6, none⟩ = some (.int .i64 c.vn) ∧ wr.cell? ⟨b, off + i * 8 + 7, none⟩ = some (.string c.s) := by
        rw [← hc]
        exact (hhc.below HB.out hbw).words i hin
      have HT : Hid ((l.take (i + 1)).map (fun c => c.r.data.toList) = (l.take i).map (fun c => c.r.data.toList) ++ [c.r.data.toList]) := by
        unfold Hid
        rw [List.take_add_one, List.getElem?_eq_getElem hin, hc, List.map_append]
        rfl
      have HLn : Hid (((l.take i).map fun c => c.r.data.toList).length ≤ 100000) := by
        unfold Hid
        rw [List.length_map, List.length_take]; omega
      obtain ⟨p0, p1, p2, p3, p4, p5, p6, p7⟩ := P
      clear hc hhc
      go_upto_region 5 with (fail)
      obtain ⟨bb, hbb⟩ : ∃ bb, wr.heap.size = bb := ⟨_, rfl⟩
      refine wp_ltc (fun W => Hid (Below wr.heap.size wr W) ∧ W.cell? ⟨bb, 0, none⟩ = some (.string c.r) ∧ W.cell? ⟨bb, 1, none⟩ = some (.string c.f) ∧ W.cell? ⟨bb, 2, none⟩ = some (.string c.q) ∧ W.cell? ⟨bb, 3, none⟩ = some (.int .i64 c.t) ∧ W.cell? ⟨bb, 4, none⟩ = some (.int .i64 c.k) ∧ W.cell? ⟨bb, 5, none⟩ = some (.int .i64 c.vk) ∧ W.cell? ⟨bb, 6, none⟩ = some (.int .i64 c.vn) ∧ W.cell? ⟨bb, 7, none⟩ = some (.string c.s)) (by rw [← hbb]; have hB := Blk.new wr 28 c.e.toArray; exact ⟨below_new _ _, blk_words hB⟩) (fun W hW => ?_)
      rw [hbb]
      obtain ⟨HW, b0, b1, b2, b3, b4, b5, b6, b7⟩ := hW
      have HB2 : Hid (Below w.heap.size w W) := HB.out.trans (HW.out.mono HB.out.size)
      have HO2 : Hid (SRow W w.heap.size _ ((l.take i).map fun c => c.r.data.toList)) := HO.out.below HW.out
      clear p0 p1 p2 p3 p4 p5 p6 p7 hbb HO HB
      go_wp2_with (at_builtin; refine wpList_append_text rfl (.tmp 12) (.tmp 15) rfl _ w.heap.size _ _ rfl (HO2.out.below (below_new _ _)) _ 1 rfl c.r (Blk.cell (T := 9) (Blk.new _ _ _) 0) HLn.out (by have := HB2.out.size; simp; omega) ?_; intro v6 w6 h6 hb6)
      go_roundw
      case rel => exact ⟨i + 1, by omega, by go_num, by rw [HT.out]; exact h6, (HB2.out.alloc HB2.out.size _).trans hb6⟩
      case measure => simp [intOf]; omega
    · obtain rfl : i = n := by omega
      have hO2 := HO.out
      rw [List.take_of_length_le (by rw [HN.out]; exact Nat.le_refl _)] at hO2
      have HO2 := hid hO2
      clear hO2
      have HLn : Hid ((l.map fun c => c.r.data.toList).length ≤ 100000) := by
        have := HN.out
        unfold Hid
        rw [List.length_map]; omega
      go_wp2_with (first
        | (go_at_call 120; refine (HS.out w.heap.size _ _ HLn.out wr HO2.out HB.out.size).mono ?_; rintro e w5 ⟨rfl, hS5, hb5⟩; have hl5 : ((l.map fun c => c.r.data.toList).mergeSort fun x y => decide (x ≤ y)).length ≤ 100000 := (by rw [List.length_mergeSort]; exact HLn.out))
        | (go_at_call 121; refine (HC.out w.heap.size _ _ hl5 w5 hS5 (Nat.le_trans HB.out.size hb5.size)).mono ?_; rintro e w6 ⟨v6, rfl, hS6, hb6⟩))
      go_ret
      exact ⟨_, rfl, hS6, (HB.out.trans hb5).trans hb6⟩
end Go.Proofs.YtdjaofbjmnmlbaaDoor

/- The statements' own helpers at cells: put, long. Conditions: as each names them. -/
namespace Go.Proofs.YtdjaofbjmnmlbaaDoor
open Go.RowKit

/-- Is a cell greater than is looked at? -/
def longC1 (c : CT) : Bool := decide (60 < c.r.size) || (decide (60 < c.f.size) || (decide (60 < c.q.size) || decide (100 < c.s.size)))
def longC (l : List CT) : Bool := decide (60 < l.length) || l.any longC1

def putC (n : Int) : CT := ⟨⟨#[114]⟩, ⟨#[102]⟩, ⟨#[113]⟩, n, 1, 1, n, ⟨#[]⟩⟩
set_option maxHeartbeats 1000000 in
theorem putc_any (n : Int) (w : World) : Calls Tryd.prog 69 #[.int .i64 n] w fun e w' => e = .returned (putC n).v ∧ Below w.heap.size w w' := by
  go_enter Tryd.func69, Tryd.ntmps69
  go_wp2
  refine bodyPost_ret (v := (putC n).v) (by simp [results, Tryd.results69, go_sem, putC, CT.v, cellV]) rfl ?_
  exact ⟨rfl, below_new _ _⟩

set_option maxHeartbeats 4000000 in
set_option maxRecDepth 100000 in
theorem longcells_any (v : Value) (l : List CT) (w : World) (h : ClA w v l) :
    Calls Tryd.prog 33 #[v, .int .i64 60] w fun e w' => e = .returned (.bool (longC l)) ∧ Below w.heap.size w w' := by
  have mixed : Tryd.prog.follows .mixedOrders = true := by kernel_rfl
  obtain ⟨A, cc, rfl, hc1, hc2, hh⟩ := h
  unfold longC
  obtain ⟨n, hn⟩ : ∃ n, l.length = n := ⟨_, rfl⟩
  have HN := hid hn
  rw [hn] at hc1 hh ⊢
  have HH := hid hh
  clear hn hh
  by_cases hl : 60 < n
  · have hlz : (60 : Int) < (n : Int) := by omega
    rw [decide_eq_true hl]
    go_enter Tryd.func33, Tryd.ntmps33
    go_wp2
    go_ret
    exact ⟨rfl, Below.refl _ _⟩
  · have hlz : ¬ (60 : Int) < (n : Int) := by omega
    rw [decide_eq_false hl]
    go_enter Tryd.func33, Tryd.ntmps33
    go_wp2
    go_loopw [5] (fun vi wr => wr = w ∧ ∃ i : Nat, i ≤ n ∧ vi = .int .i64 i ∧ Hid (l.any longC1 = (l.drop i).any longC1)) (fun vi _ => n - (intOf vi).toNat)
    case atStart => exact ⟨rfl, 0, Nat.zero_le _, rfl, rfl⟩
    case round =>
      obtain ⟨rfl, i, hi, rfl, HA⟩ := hrel
      by_cases hlt : i < n
      · have hin : i < l.length := by rw [HN.out]; exact hlt
        have hltz : (i : Int) < (n : Int) := by omega
        have hltd : decide ((i : Int) < (n : Int)) = true := decide_eq_true hltz
        obtain ⟨b, off, rfl, hhc⟩ := HH.out (by omega)
        obtain ⟨c, hc⟩ : ∃ c, l[i] = c := ⟨_, rfl⟩
        have P : wr.cell? ⟨b, off + i * 8, none⟩ = some (.string c.r) ∧ wr.cell? ⟨b, off + i * 8 + 1, none⟩ = some (.string c.f) ∧ wr.cell? ⟨b, off + i * 8 + 2, none⟩ = some (.string c.q) ∧ wr.cell? ⟨b, off + i * 8 + 3, none⟩ = some (.int .i64 c.t) ∧ wr.cell? ⟨b, off + i * 8 + 4, none⟩ = some (.int .i64 c.k) ∧ wr.cell? ⟨b, off + i * 8 + 5, none⟩ = some (.int .i64 c.vk) ∧ wr.cell? ⟨b, off + i * 8 + 6, none⟩ = some (.int .i64 c.vn) ∧ wr.cell? ⟨b, off + i * 8 + 7, none⟩ = some (.string c.s) := by
          rw [← hc]
          exact hhc.words i hin
        have HD : Hid (l.any longC1 = (longC1 c || (l.drop (i + 1)).any longC1)) := by
          unfold Hid
          rw [HA.out, List.drop_eq_getElem_cons hin, hc]
          rfl
        obtain ⟨p0, p1, p2, p3, p4, p5, p6, p7⟩ := P
        clear hc hhc HA
        by_cases h1 : 60 < c.r.size
        · have h1z : (60 : Int) < (c.r.size : Int) := by omega
          have HE : Hid (l.any longC1 = true) := by unfold Hid; rw [HD.out]; simp [longC1, h1]
          clear h1
          go_wp2
          go_ret
          exact ⟨by rw [HE.out]; rfl, Below.refl _ _⟩
        have h1z : ¬ (60 : Int) < (c.r.size : Int) := by omega
        by_cases h2 : 60 < c.f.size
        · have h2z : (60 : Int) < (c.f.size : Int) := by omega
          have HE : Hid (l.any longC1 = true) := by unfold Hid; rw [HD.out]; simp [longC1, h2]
          clear h1 h2
          go_wp2
          go_ret
          exact ⟨by rw [HE.out]; rfl, Below.refl _ _⟩
        have h2z : ¬ (60 : Int) < (c.f.size : Int) := by omega
        by_cases h3 : 60 < c.q.size
        · have h3z : (60 : Int) < (c.q.size : Int) := by omega
          have HE : Hid (l.any longC1 = true) := by unfold Hid; rw [HD.out]; simp [longC1, h3]
          clear h1 h2 h3
          go_wp2
          go_ret
          exact ⟨by rw [HE.out]; rfl, Below.refl _ _⟩
        have h3z : ¬ (60 : Int) < (c.q.size : Int) := by omega
        by_cases h4 : 100 < c.s.size
        · have h4z : (100 : Int) < (c.s.size : Int) := by omega
          have HE : Hid (l.any longC1 = true) := by unfold Hid; rw [HD.out]; simp [longC1, h4]
          clear h1 h2 h3 h4
          go_wp2
          go_ret
          exact ⟨by rw [HE.out]; rfl, Below.refl _ _⟩
        have h4z : ¬ (100 : Int) < (c.s.size : Int) := by omega
        have HE : Hid (l.any longC1 = (l.drop (i + 1)).any longC1) := by
          unfold Hid
          rw [HD.out]
          simp [longC1, h1, h2, h3, h4]
        clear h1 h2 h3 h4
        go_wp2
        go_roundw
        case rel => exact ⟨trivial, i + 1, by omega, by go_num, HE.out⟩
        case measure => simp [intOf]; omega
      · obtain rfl : i = n := by omega
        have HE : Hid (l.any longC1 = false) := by
          unfold Hid
          rw [HA.out, List.drop_of_length_le (by rw [HN.out]; exact Nat.le_refl _)]
          rfl
        go_wp2
        go_ret
        exact ⟨by rw [HE.out]; rfl, Below.refl _ _⟩
end Go.Proofs.YtdjaofbjmnmlbaaDoor

/- The document's Right and Order at cells that the laws look at; a list's cells as words. Conditions: as each theorem names them. -/
namespace Go.Proofs.YtdjaofbjmnmlbaaDoor
open Go.RowKit

/-- A cell that the laws look at. -/
def Sm (c : CT) : Prop := okC c ∧ c.r.size ≤ 60 ∧ c.f.size ≤ 60 ∧ c.q.size ≤ 60 ∧ c.s.size ≤ 100
theorem reforder_ct (x y : CT) (hx : Sm x) (hy : Sm y) (w : World) :
    Calls Tryd.prog 27 #[x.v, y.v] w fun e w' => e = .returned (.int .i64 (CT.cmp x y)) ∧ Below w.heap.size w w' := by
  obtain ⟨_, h1, h2, h3, _⟩ := hx
  obtain ⟨_, g1, g2, g3, _⟩ := hy
  exact refcorder_any x.r x.f x.q x.s x.t x.k x.vk x.vn y.r y.f y.q y.s y.t y.k y.vk y.vn (by omega) (by omega) (by omega) (by omega) (by omega) (by omega) w
theorem refright_ct (c : CT) (hc : Sm c) (w : World) : Calls Tryd.prog 26 #[c.v] w fun e w' => e = .returned (.bool c.ok) ∧ Below w.heap.size w w' :=
  refcright_any c.r c.f c.q c.s c.t c.k c.vk c.vn (by have := hc.2.2.1; omega) (by have := hc.2.2.2.2; omega) w
theorem longC_sm {l : List CT} (h : longC l = false) (hv : ∀ c ∈ l, inI c.vn) : l.length ≤ 60 ∧ ∀ c ∈ l, Sm c := by
  unfold longC at h
  rw [Bool.or_eq_false_iff] at h
  obtain ⟨h1, h2⟩ := h
  have h1 := of_decide_eq_false h1
  refine ⟨by omega, fun c hc => ?_⟩
  have h3 : longC1 c = false := by
    cases e : longC1 c with
    | false => rfl
    | true =>
      rw [List.any_eq_true.2 ⟨c, hc, e⟩] at h2
      cases h2
  unfold longC1 at h3
  simp only [Bool.or_eq_false_iff, decide_eq_false_iff_not] at h3
  exact ⟨⟨by omega, by omega, hv c hc⟩, by omega, by omega, by omega, by omega⟩
theorem ct_words {w : World} {b off : Nat} {l : List CT} (h : HC w b off l) (i : Nat) {c : CT} (hc : l[i]? = some c) : w.cell? ⟨b, off + i * 8, none⟩ = some (.string c.r) ∧ w.cell? ⟨b, off + i * 8 + 1, none⟩ = some (.string c.f) ∧ w.cell? ⟨b, off + i * 8 + 2, none⟩ = some (.string c.q) ∧ w.cell? ⟨b, off + i * 8 + 3, none⟩ = some (.int .i64 c.t) ∧ w.cell? ⟨b, off + i * 8 + 4, none⟩ = some (.int .i64 c.k) ∧ w.cell? ⟨b, off + i * 8 + 5, none⟩ = some (.int .i64 c.vk) ∧ w.cell? ⟨b, off + i * 8 + 6, none⟩ = some (.int .i64 c.vn) ∧ w.cell? ⟨b, off + i * 8 + 7, none⟩ = some (.string c.s) := by
  obtain ⟨hi, hc⟩ := List.getElem?_eq_some_iff.1 hc
  rw [← hc]
  exact h.words i hi
theorem rise_at {s : List CT} {i : Nat} {b c : CT} (h : s.Pairwise (fun x y => CT.cmp x y < 0)) (hb : s[i]? = some b) (hc : s[i + 1]? = some c) : CT.cmp b c < 0 := by
  obtain ⟨hi, rfl⟩ := List.getElem?_eq_some_iff.1 hb
  obtain ⟨hj, rfl⟩ := List.getElem?_eq_some_iff.1 hc
  exact List.pairwise_iff_getElem.1 h i (i + 1) hi hj (by omega)
section
variable {W0 W W' : World} {b o p : Nat} {x y : CT}
/-- Two cells of one list, in a region that draws. -/
abbrev PairW (W0 : World) (b o p : Nat) (x y : CT) (W : World) : Prop := Hid (Below W0.heap.size W0 W ∧ b < W0.heap.size) ∧ (W.cell? ⟨b, o, none⟩ = some (.string x.r) ∧ W.cell? ⟨b, o + 1, none⟩ = some (.string x.f) ∧ W.cell? ⟨b, o + 2, none⟩ = some (.string x.q) ∧ W.cell? ⟨b, o + 3, none⟩ = some (.int .i64 x.t) ∧ W.cell? ⟨b, o + 4, none⟩ = some (.int .i64 x.k) ∧ W.cell? ⟨b, o + 5, none⟩ = some (.int .i64 x.vk) ∧ W.cell? ⟨b, o + 6, none⟩ = some (.int .i64 x.vn) ∧ W.cell? ⟨b, o + 7, none⟩ = some (.string x.s)) ∧ (W.cell? ⟨b, p, none⟩ = some (.string y.r) ∧ W.cell? ⟨b, p + 1, none⟩ = some (.string y.f) ∧ W.cell? ⟨b, p + 2, none⟩ = some (.string y.q) ∧ W.cell? ⟨b, p + 3, none⟩ = some (.int .i64 y.t) ∧ W.cell? ⟨b, p + 4, none⟩ = some (.int .i64 y.k) ∧ W.cell? ⟨b, p + 5, none⟩ = some (.int .i64 y.vk) ∧ W.cell? ⟨b, p + 6, none⟩ = some (.int .i64 y.vn) ∧ W.cell? ⟨b, p + 7, none⟩ = some (.string y.s))
theorem pair_drew (h : PairW W0 b o p x y W) : PairW W0 b o p x y W.drew := ⟨hid ⟨h.1.out.1.drew, h.1.out.2⟩, h.2⟩
theorem pair_call (h : PairW W0 b o p x y W) (hb : Below W.heap.size W W') : PairW W0 b o p x y W' := by
  obtain ⟨hh, ⟨a0, a1, a2, a3, a4, a5, a6, a7⟩, ⟨b0, b1, b2, b3, b4, b5, b6, b7⟩⟩ := h
  obtain ⟨hbw, h2⟩ := hh.out
  have hz := hbw.size
  have hc : ∀ b o, b < W0.heap.size → W'.cell? ⟨b, o, none⟩ = W.cell? ⟨b, o, none⟩ := fun b o h => hb.cell (p := ⟨b, o, none⟩) (show b < W.heap.size by omega)
  refine ⟨hid ⟨hbw.trans (hb.mono hz), h2⟩, ⟨?_, ?_, ?_, ?_, ?_, ?_, ?_, ?_⟩, ⟨?_, ?_, ?_, ?_, ?_, ?_, ?_, ?_⟩⟩ <;> (rw [hc _ _ (by omega)]; assumption)
/-- One cell of a list, in a region that draws. -/
abbrev SingW (W0 : World) (b o : Nat) (x : CT) (W : World) : Prop := Hid (Below W0.heap.size W0 W ∧ b < W0.heap.size) ∧ (W.cell? ⟨b, o, none⟩ = some (.string x.r) ∧ W.cell? ⟨b, o + 1, none⟩ = some (.string x.f) ∧ W.cell? ⟨b, o + 2, none⟩ = some (.string x.q) ∧ W.cell? ⟨b, o + 3, none⟩ = some (.int .i64 x.t) ∧ W.cell? ⟨b, o + 4, none⟩ = some (.int .i64 x.k) ∧ W.cell? ⟨b, o + 5, none⟩ = some (.int .i64 x.vk) ∧ W.cell? ⟨b, o + 6, none⟩ = some (.int .i64 x.vn) ∧ W.cell? ⟨b, o + 7, none⟩ = some (.string x.s))
theorem sing_drew (h : SingW W0 b o x W) : SingW W0 b o x W.drew := ⟨hid ⟨h.1.out.1.drew, h.1.out.2⟩, h.2⟩
theorem sing_call (h : SingW W0 b o x W) (hb : Below W.heap.size W W') : SingW W0 b o x W' := by
  obtain ⟨hh, ⟨a0, a1, a2, a3, a4, a5, a6, a7⟩⟩ := h
  obtain ⟨hbw, h2⟩ := hh.out
  have hz := hbw.size
  have hc : ∀ b o, b < W0.heap.size → W'.cell? ⟨b, o, none⟩ = W.cell? ⟨b, o, none⟩ := fun b o h => hb.cell (p := ⟨b, o, none⟩) (show b < W.heap.size by omega)
  refine ⟨hid ⟨hbw.trans (hb.mono hz), h2⟩, ⟨?_, ?_, ?_, ?_, ?_, ?_, ?_, ?_⟩⟩ <;> (rw [hc _ _ (by omega)]; assumption)
end
end Go.Proofs.YtdjaofbjmnmlbaaDoor

/- A cell of a law's, opened and shut. Conditions: none. -/
namespace Go.Proofs.YtdjaofbjmnmlbaaDoor
open Go.ChangeShapes Go.WideShapes Go.ChangeAt Go.RowKit Go.Joins

theorem cellsC : Tryd.prog.cellsOf 28 = 8 := by kernel_rfl
theorem cellsV3 : Tryd.prog.cellsOf 26 = 3 := by kernel_rfl
theorem cellsS1 : Tryd.prog.cellsOf 9 = 1 := by kernel_rfl
theorem cellsI1 : Tryd.prog.cellsOf 3 = 1 := by kernel_rfl
theorem array8 {α : Type} {cs : Array α} (h : cs.size = 8) : ∃ c0 c1 c2 c3 c4 c5 c6 c7, cs = #[c0, c1, c2, c3, c4, c5, c6, c7] := by
  obtain ⟨l⟩ := cs
  match l, h with
  | [c0, c1, c2, c3, c4, c5, c6, c7], _ => exact ⟨c0, c1, c2, c3, c4, c5, c6, c7, rfl⟩
section
variable {H : Type} {enc : TypeId × Value → H} {W : World} {sp : Nat → Bool}
set_option maxRecDepth 100000 in
/-- A cell that came in, opened. -/
theorem open_cell {r : Reach} {b0 b1 : Nat} {v : Value} {d : DataW H} {p : List MemPlace} (hv : Value.okWide Tryd.prog W r b0 28 v) (h : DataW.Trod enc Tryd.prog W b1 sp true 28 v d p) :
    ∃ (r f q : ByteArray) (t k vk vn : Int) (s : ByteArray), v = .agg #[.string r, .string f, .string q, .int .i64 t, .int .i64 k, .int .i64 vk, .int .i64 vn, .string s] ∧
      d = .agg [.lit (.string r.data.toList), .lit (.string f.data.toList), .lit (.string q.data.toList), .lit (.int .i64 t), .lit (.int .i64 k), .agg [.lit (.int .i64 vk), .lit (.int .i64 vn), .lit (.string s.data.toList)]] ∧ p = [] ∧
      r.size ≤ maxLen ∧ f.size ≤ maxLen ∧ q.size ≤ maxLen ∧ (Lit.int .i64 t).wf = true ∧ (Lit.int .i64 k).wf = true ∧ (Lit.int .i64 vk).wf = true ∧ (Lit.int .i64 vn).wf = true ∧ s.size ≤ maxLen := by
  obtain ⟨cs, rfl, hsz⟩ := okWide_struct Tryd.underlying28 hv
  obtain ⟨c0, c1, c2, c3, c4, c5, c6, c7, rfl⟩ := array8 (hsz.trans cellsC)
  obtain ⟨fuel, hf⟩ := h
  obtain ⟨xs, n, _, hx, _, hlen, hg⟩ := DataW.trod_struct Tryd.underlying28 hf
  match xs, hlen with
  | [y0, y1, y2, y3, y4, y5], _ =>
    have h0 := hg 0 _ rfl
    have h1 := hg 1 _ rfl
    have h2 := hg 2 _ rfl
    have h3 := hg 3 _ rfl
    have h4 := hg 4 _ rfl
    have h5 := hg 5 _ rfl
    simp [Value.cells, cellsS1, cellsI1, cellsV3] at h0 h1 h2 h3 h4 h5
    obtain ⟨r, e0, z0, w0⟩ := DataW.trod_string Tryd.underlying9 h0
    obtain ⟨f, e1, z1, w1⟩ := DataW.trod_string Tryd.underlying9 h1
    obtain ⟨q, e2, z2, w2⟩ := DataW.trod_string Tryd.underlying9 h2
    obtain ⟨t, e3, z3, w3⟩ := DataW.trod_int Tryd.underlying3 h3
    obtain ⟨k, e4, z4, w4⟩ := DataW.trod_int Tryd.underlying3 h4
    obtain ⟨ys, n', _, hx', _, hlen', hg'⟩ := DataW.trod_struct Tryd.underlying26 h5
    match ys, hlen' with
    | [u0, u1, u2], _ =>
      have g0 := hg' 0 _ rfl
      have g1 := hg' 1 _ rfl
      have g2 := hg' 2 _ rfl
      simp [cellsS1, cellsI1] at g0 g1 g2
      obtain ⟨vk, e5, z5, w5⟩ := DataW.trod_int Tryd.underlying3 g0
      obtain ⟨vn, e6, z6, w6⟩ := DataW.trod_int Tryd.underlying3 g1
      obtain ⟨s, e7, z7, w7⟩ := DataW.trod_string Tryd.underlying9 g2
      simp at e0 e1 e2 e3 e4 e5 e6 e7
      subst e0 e1 e2 e3 e4 e5 e6 e7
      simp only [Prod.mk.injEq] at hx hx'
      exact ⟨r, f, q, t, k, vk, vn, s, rfl, by simp_all, by simp_all, w0, w1, w2, w3, w4, w5, w6, w7⟩
end
end Go.Proofs.YtdjaofbjmnmlbaaDoor
