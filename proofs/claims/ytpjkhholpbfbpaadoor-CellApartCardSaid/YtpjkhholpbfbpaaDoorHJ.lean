/- cell.seen at cells in order: what the sight lets. Conditions: a hundred thousand cells at most. -/
import Derived.Test.YtpjkhholpbfbpaaDoorHI
namespace Go.Proofs.YtpjkhholpbfbpaaDoor
open Go.RowKit

/-- Of a list of cells those that the sight lets. -/
def seenF (ver life now : Int) : SG → List CT → List CT
  | _, [] => []
  | g, c :: l => if (g.lets c ver life now).2 = true then c :: seenF ver life now (g.lets c ver life now).1 l else seenF ver life now (g.lets c ver life now).1 l
/-- Where the sight stands behind a list of cells. -/
def sightF (ver life now : Int) : SG → List CT → SG
  | g, [] => g
  | g, c :: l => sightF ver life now (g.lets c ver life now).1 l
theorem seenF_app (ver life now : Int) : ∀ (g : SG) (l m : List CT), seenF ver life now g (l ++ m) = seenF ver life now g l ++ seenF ver life now (sightF ver life now g l) m
  | g, [], m => rfl
  | g, c :: l, m => by
    show (if (g.lets c ver life now).2 = true then c :: seenF ver life now (g.lets c ver life now).1 (l ++ m) else seenF ver life now (g.lets c ver life now).1 (l ++ m)) = (if (g.lets c ver life now).2 = true then c :: seenF ver life now (g.lets c ver life now).1 l else seenF ver life now (g.lets c ver life now).1 l) ++ seenF ver life now (sightF ver life now (g.lets c ver life now).1 l) m
    rw [seenF_app]
    split
    · rw [List.cons_append]
    · rfl
theorem sightF_app (ver life now : Int) : ∀ (g : SG) (l m : List CT), sightF ver life now g (l ++ m) = sightF ver life now (sightF ver life now g l) m
  | g, [], m => rfl
  | g, c :: l, m => by
    show sightF ver life now (g.lets c ver life now).1 (l ++ m) = sightF ver life now (sightF ver life now (g.lets c ver life now).1 l) m
    rw [sightF_app]
theorem seenF_len (ver life now : Int) : ∀ (g : SG) (l : List CT), (seenF ver life now g l).length ≤ l.length
  | g, [] => Nat.le_refl _
  | g, c :: l => by
    have := seenF_len ver life now (g.lets c ver life now).1 l
    show (if (g.lets c ver life now).2 = true then c :: seenF ver life now (g.lets c ver life now).1 l else seenF ver life now (g.lets c ver life now).1 l).length ≤ l.length + 1
    split
    · simp only [List.length_cons]; omega
    · omega
/-- What cell.seen answers. -/
def seenL (ver life now : Int) (l : List CT) : List CT := if rightM ver life = true then seenF ver life now SG.zero l else []
/-- One cell more. -/
theorem seenF_snoc (ver life now : Int) (g : SG) (l : List CT) (c : CT) : seenF ver life now g (l ++ [c]) = seenF ver life now g l ++ (if ((sightF ver life now g l).lets c ver life now).2 = true then [c] else []) := by
  rw [seenF_app]
  rfl
theorem sightF_snoc (ver life now : Int) (g : SG) (l : List CT) (c : CT) : sightF ver life now g (l ++ [c]) = ((sightF ver life now g l).lets c ver life now).1 := by
  rw [sightF_app]
  rfl

theorem CRow.but {w w' : World} {B sb : Nat} {v : Value} {l : List CT} {xs : Array Value} (h : CRow w B v l) (hs : Blk w sb 111 xs) (hb : But w.heap.size sb w w') : CRow w' B v l := by
  refine ⟨h.1, ?_⟩
  rcases h.2 with h | ⟨g, cap, cur, e, h1, h2, hr⟩
  · exact .inl h
  · have hg : g < w.heap.size := by
      rcases Nat.lt_or_ge g w.heap.size with h' | h'
      · exact h'
      · rw [Array.getElem?_eq_none h'] at h2; cases h2
    have hne : g ≠ sb := by
      rintro rfl
      unfold Blk at hs
      rw [hs] at h2
      cases h2
    exact .inr ⟨g, cap, cur, e, h1, by rw [hb.block g hg hne]; exact h2, hr⟩
theorem Blk.butC {w w' : World} {sb k : Nat} {T : TypeId} {xs : Array Value} (h : Blk w k T xs) (hb : But w.heap.size sb w w') (hne : k ≠ sb) : Blk w' k T xs := by
  have hl := h.lt
  unfold Blk at *
  rw [hb.block k hl hne]; exact h
/-- Where cell.seen is. -/
structure SnS (w W : World) (rb sb : Nat) (G : SG) (ver life now : Int) : Prop where
  s : Blk W sb 111 G.a
  r : Blk W rb 79 #[.int .i64 ver, .int .i64 life, .int .i64 now]
  b : Below w.heap.size w W
theorem SnS.below {w W W' : World} {rb sb : Nat} {G : SG} {ver life now : Int} (h : SnS w W rb sb G ver life now) (hb : Below W.heap.size W W') : SnS w W' rb sb G ver life now := ⟨h.s.keep hb h.s.lt, h.r.keep hb h.r.lt, h.b.trans (hb.mono h.b.size)⟩
theorem SnS.but {w W W' : World} {rb sb : Nat} {G G' : SG} {ver life now : Int} (h : SnS w W rb sb G ver life now) (hne : rb ≠ sb) (hsb : w.heap.size ≤ sb) (h1 : Blk W' sb 111 G'.a) (hb : But W.heap.size sb W W') : SnS w W' rb sb G' ver life now := by
  refine ⟨h1, ?_, h.b.trans ((hb.mono h.b.size).below hsb)⟩
  have hl := h.r.lt
  have hr := h.r
  unfold Blk at *
  rw [hb.block rb hl hne]; exact hr

/-- Behind an append to a row of cells another block is as it was. -/
theorem CRow.apart {w w' : World} {B k : Nat} {v : Value} {l : List CT} {T : TypeId} {xs : Array Value} (h : CRow w B v l) (hk : Blk w k T xs) (hT : T ≠ 28) (hg : w.grownBy w' v.ownBlock) : Blk w' k T xs := by
  have hne : some k ≠ v.ownBlock := by
    rcases h.2 with ⟨e, _⟩ | ⟨g, cap, cur, e, h1, h2, hr⟩
    · rw [e]; intro q; cases q
    · rw [e]; intro q; cases q
      unfold Blk at hk
      rw [hk] at h2
      cases h2
      exact hT rfl
  have hl := hk.lt
  unfold Blk at *
  rw [hg.block k hl hne]; exact hk
theorem SnS.grown {w W W' : World} {rb sb : Nat} {G : SG} {ver life now : Int} {v : Value} {l : List CT} (h : SnS w W rb sb G ver life now) (hc : CRow W w.heap.size v l) (o : Obj) (hb : Below w.heap.size (W.alloc o) W') (hg : (W.alloc o).grownBy W' v.ownBlock) : SnS w W' rb sb G ver life now :=
  have hc' := hc.below (below_new W o)
  ⟨hc'.apart (h.s.keep (below_new W o) h.s.lt) (by decide) hg, hc'.apart (h.r.keep (below_new W o) h.r.lt) (by decide) hg, (h.b.alloc h.b.size _).trans hb⟩

set_option maxHeartbeats 4000000 in
set_option maxRecDepth 100000 in
theorem seen_any (v : Value) (l : List CT) (hl : l.length ≤ 100000) (ver life now : Int) (w : World) (h : ClA w v l) :
    Calls Tryd.prog 55 #[v, .agg #[.int .i64 ver, .int .i64 life, .int .i64 now]] w fun e w' => ∃ v', e = .returned v' ∧ CRow w' w.heap.size v' (seenL ver life now l) ∧ Below w.heap.size w w' := by
  have HR : Hid (∀ W, Calls Tryd.prog 83 #[.agg #[.int .i64 ver, .int .i64 life, .int .i64 now]] W fun e w' => e = .returned (.bool (rightM ver life)) ∧ Below W.heap.size W w') := fun W => cright_rules ver life now W
  have HN0 := hid (CRow.none w w.heap.size)
  unfold seenL
  obtain ⟨A, cc, rfl, hc1, hc2, hh⟩ := h
  obtain ⟨n, hn⟩ : ∃ n, l.length = n := ⟨_, rfl⟩
  have HN := hid hn
  rw [hn] at hl hc1 hh ⊢
  have HH := hid hh
  clear hn hh
  cases hr : rightM ver life with
  | false =>
    rw [hr] at HR
    rw [if_neg (by decide)]
    clear hr
    go_enter Tryd.func55, Tryd.ntmps55
    go_wp2_with (go_at_call 83; refine (HR.out _).mono ?_; rintro e w5 ⟨rfl, hb5⟩)
    go_ret
    exact ⟨_, rfl, (HN0.out.below (((Below.refl _ _).alloc (Nat.le_refl _) _).trans (hb5.mono (by simp)))), ((Below.refl _ _).alloc (Nat.le_refl _) _).trans (hb5.mono (by simp))⟩
  | true =>
    rw [hr] at HR
    rw [if_pos rfl]
    clear hr
    have HL := hid lets_any
    go_enter Tryd.func55, Tryd.ntmps55
    go_wp2_with (go_at_call 83; refine (HR.out _).mono ?_; rintro e w5 ⟨rfl, hb5⟩)
    obtain ⟨rb, hrb⟩ : ∃ rb, w.heap.size = rb := ⟨_, rfl⟩
    obtain ⟨sb, hsb⟩ : ∃ sb, w5.heap.size = sb := ⟨_, rfl⟩
    have HB5 : Hid (Below w.heap.size w w5) := ((Below.refl _ _).alloc (Nat.le_refl _) _).trans (hb5.mono (by simp))
    have HR5 : Hid (Blk w5 w.heap.size 79 #[.int .i64 ver, .int .i64 life, .int .i64 now]) := (Blk.new w _ _).keep hb5 (by simp)
    have HS0 : Hid (SnS w (w5.alloc (.cells SG.zero.a 111)) rb sb SG.zero ver life now) := by
      rw [← hrb, ← hsb]
      exact ⟨Blk.new _ _ _, HR5.out.keep (below_new _ _) HR5.out.lt, HB5.out.alloc HB5.out.size _⟩
    have HC0 : Hid (CRow (w5.alloc (.cells SG.zero.a 111)) w.heap.size (.slice none 0 0) []) := (HN0.out.below HB5.out).below (below_new _ _)
    have HNE : Hid (rb ≠ sb ∧ w.heap.size ≤ sb) := by
      have h1 := HR5.out.lt
      exact ⟨by omega, by omega⟩
    rw [hrb, hsb]
    clear hb5 hrb hsb HB5 HR5 HR
    go_loopw [5, 14] (fun vo vi wr => ∃ i : Nat, i ≤ n ∧ vi = .int .i64 i ∧ Hid (CRow wr w.heap.size vo (seenF ver life now SG.zero (l.take i))) ∧ Hid (SnS w wr rb sb (sightF ver life now SG.zero (l.take i)) ver life now)) (fun _ vi _ => n - (intOf vi).toNat)
    case atStart => exact ⟨0, Nat.zero_le _, rfl, HC0.out, HS0.out⟩
    case round =>
      obtain ⟨i, hi, rfl, HO, HS⟩ := hrel
      by_cases hlt : i < n
      · have hin : i < l.length := by rw [HN.out]; exact hlt
        have hltz : (i : Int) < (n : Int) := by omega
        obtain ⟨b, off, rfl, hhc⟩ := HH.out (by omega)
        have hbw : b < w.heap.size := hhc.lt (by omega)
        obtain ⟨c, hc⟩ : ∃ c, l[i] = c := ⟨_, rfl⟩
        have P : wr.cell? ⟨b, off + i * 8, none⟩ = some (.string c.r) ∧ wr.cell? ⟨b, off + i * 8 + 1, none⟩ = some (.string c.f) ∧ wr.cell? ⟨b, off + i * 8 + 2, none⟩ = some (.string c.q) ∧ wr.cell? ⟨b, off + i * 8 + 3, none⟩ = some (.int .i64 c.t) ∧ wr.cell? ⟨b, off + i * 8 + 4, none⟩ = some (.int .i64 c.k) ∧ wr.cell? ⟨b, off + i * 8 + 5, none⟩ = some (.int .i64 c.vk) ∧ wr.cell? ⟨b, off + i * 8 + 6, none⟩ = some (.int .i64 c.vn) ∧ wr.cell? ⟨b, off + i * 8 + 7, none⟩ = some (.string c.s) := by
          rw [← hc]
          exact (hhc.below HS.out.b hbw).words i hin
        obtain ⟨G, hG⟩ : ∃ G, sightF ver life now SG.zero (l.take i) = G := ⟨_, rfl⟩
        have HT1 : Hid (seenF ver life now SG.zero (l.take (i + 1)) = seenF ver life now SG.zero (l.take i) ++ (if (G.lets c ver life now).2 = true then [c] else [])) := by
          unfold Hid
          rw [List.take_add_one, List.getElem?_eq_getElem hin, hc]
          show seenF ver life now SG.zero (l.take i ++ [c]) = _
          rw [seenF_snoc, hG]
        have HT2 : Hid (sightF ver life now SG.zero (l.take (i + 1)) = (G.lets c ver life now).1) := by
          unfold Hid
          rw [List.take_add_one, List.getElem?_eq_getElem hin, hc]
          show sightF ver life now SG.zero (l.take i ++ [c]) = _
          rw [sightF_snoc, hG]
        have HLn : Hid ((seenF ver life now SG.zero (l.take i)).length ≤ 100000) := by
          have := seenF_len ver life now SG.zero (l.take i)
          rw [List.length_take] at this
          unfold Hid; omega
        rw [hG] at HS
        obtain ⟨p0, p1, p2, p3, p4, p5, p6, p7⟩ := P
        clear hc hhc hG
        go_upto_region 8 with (fail)
        obtain ⟨bb, hbb⟩ : ∃ bb, wr.heap.size = bb := ⟨_, rfl⟩
        refine wp_ltc (fun W => Hid (Blk W bb 28 c.e.toArray ∧ Below wr.heap.size wr W ∧ bb = wr.heap.size) ∧ W.cell? ⟨bb, 0, none⟩ = some (.string c.r) ∧ W.cell? ⟨bb, 1, none⟩ = some (.string c.f) ∧ W.cell? ⟨bb, 2, none⟩ = some (.string c.q) ∧ W.cell? ⟨bb, 3, none⟩ = some (.int .i64 c.t) ∧ W.cell? ⟨bb, 4, none⟩ = some (.int .i64 c.k) ∧ W.cell? ⟨bb, 5, none⟩ = some (.int .i64 c.vk) ∧ W.cell? ⟨bb, 6, none⟩ = some (.int .i64 c.vn) ∧ W.cell? ⟨bb, 7, none⟩ = some (.string c.s)) (by rw [← hbb]; have hB := Blk.new wr 28 c.e.toArray; exact ⟨⟨hB, below_new _ _, rfl⟩, blk_words hB⟩) (fun W hW => ?_)
        rw [hbb]
        obtain ⟨HW, b0, b1, b2, b3, b4, b5, b6, b7⟩ := hW
        have HS2 : Hid (SnS w W rb sb G ver life now) := HS.out.below HW.out.2.1
        have HO2 : Hid (CRow W w.heap.size _ (seenF ver life now SG.zero (l.take i))) := HO.out.below HW.out.2.1
        have r0 : W.cell? ⟨rb, 0, none⟩ = some (.int .i64 ver) := HS2.out.r.cell 0
        have r1 : W.cell? ⟨rb, 1, none⟩ = some (.int .i64 life) := HS2.out.r.cell 1
        have r2 : W.cell? ⟨rb, 2, none⟩ = some (.int .i64 now) := HS2.out.r.cell 2
        have HBN : Hid (bb ≠ sb) := by
          have h1 := HS.out.s.lt
          have h2 := HW.out.2.2
          unfold Hid; omega
        have hL := HL.out G c ver life now sb W HS2.out.s
        clear p0 p1 p2 p3 p4 p5 p6 p7 hbb HO HS
        cases hck : (G.lets c ver life now).2 with
        | false =>
          rw [hck] at hL HT1
          have HL2 := hid hL
          have HT3 : Hid (seenF ver life now SG.zero (l.take (i + 1)) = seenF ver life now SG.zero (l.take i)) := by have := HT1.out; rwa [if_neg (by decide), List.append_nil] at this
          clear hL hck
          go_wp2_with (go_at_call 84; refine HL2.out.mono ?_; rintro e w6 ⟨rfl, hk6, hb6⟩)
          go_roundw
          case rel => exact ⟨i + 1, by omega, by go_num, by rw [HT3.out]; exact HO2.out.but HS2.out.s hb6, by rw [HT2.out]; exact HS2.out.but HNE.out.1 HNE.out.2 hk6 hb6⟩
          case measure => simp [intOf]; omega
        | true =>
          rw [hck] at hL HT1
          have HL2 := hid hL
          have HT3 : Hid (seenF ver life now SG.zero (l.take (i + 1)) = seenF ver life now SG.zero (l.take i) ++ [c]) := by have := HT1.out; rwa [if_pos rfl] at this
          clear hL hck
          have HX : Hid (∀ w6, Blk w6 sb 111 (G.lets c ver life now).1.a → But W.heap.size sb W w6 → SnS w w6 rb sb (G.lets c ver life now).1 ver life now ∧ Blk w6 bb 28 c.e.toArray ∧ CRow w6 w.heap.size u5 (seenF ver life now SG.zero (l.take i))) := fun w6 hk6 hb6 => ⟨HS2.out.but HNE.out.1 HNE.out.2 hk6 hb6, (HW.out.1 : Blk _ _ _ _).butC hb6 HBN.out, HO2.out.but HS2.out.s hb6⟩
          go_wp2_with (first
            | (go_at_call 84; refine HL2.out.mono ?_; rintro e w6 ⟨rfl, hk6, hb6⟩; have HX6 := hid (HX.out w6 hk6 hb6); obtain ⟨e0, e1, e2, e3, e4, e5, e6, e7⟩ := blk_words HX6.out.2.1)
            | (at_builtin; refine wpList_append_cell rfl (.tmp 21) (.tmp 23) rfl _ w.heap.size _ _ rfl (HX6.out.2.2.below (below_new _ _)) _ 1 rfl c (ct_new c _ _) HLn.out (by have := HX6.out.1.b.size; simp; omega) ?_; intro v7 w7 h7 hb7 hm7))
          go_roundw
          case rel =>
            exact ⟨i + 1, by omega, by go_num, by rw [HT3.out]; exact h7, by rw [HT2.out]; exact HX6.out.1.grown HX6.out.2.2 _ hb7 hm7⟩
          case measure => simp [intOf]; omega
      · obtain rfl : i = n := by omega
        have hO2 := HO.out
        rw [List.take_of_length_le (by rw [HN.out]; exact Nat.le_refl _)] at hO2
        have HO2 := hid hO2
        clear hO2
        go_wp2
        go_ret
        exact ⟨_, rfl, HO2.out, HS.out.b⟩
end Go.Proofs.YtpjkhholpbfbpaaDoor
