/- Several texts in one: SuV SuW. Conditions: as each theorem names them. -/
import Derived.Test.YtofkfafdodhmdaaGreatDoorOE
/- The document's disk, call by call, in the words of our disk's files. Conditions: the disk stands and is good behind at most a thousand calls; it has at most 90000 bytes. -/
namespace Go.Proofs.YtofkfafdodhmdaaGreatDoor
open Go.RowKit

theorem newZ_lzm (no : Nat) : ∀ (b : List UInt8) (u : Nat), (newZ no b u).map lzm = b.map fun y => (no, y)
  | [], _ => rfl
  | x :: t, u => by show (no, x) :: (newZ no t (u + 1)).map lzm = (no, x) :: t.map _; rw [newZ_lzm no t (u + 1)]
/-- The document's disk, with what it is in our files' words. -/
structure RdG (W : World) (B rb : Nat) (fv lv : Value) (ms : List Rm) (ps : Ps) (lt : List Lz) (z : Int) (u nx : Nat) : Prop where
  rk : Rk W B rb fv lv ms (lt.map lzm) z nx
  ag : Ag ps lt u nx
  em : ms.map Rm.r = ps.map mkR
theorem RdG.below {W W' : World} {B rb nx u : Nat} {fv lv : Value} {ms : List Rm} {ps : Ps} {lt : List Lz} {z : Int} (h : RdG W B rb fv lv ms ps lt z u nx) (hb : Below W.heap.size W W') : RdG W' B rb fv lv ms ps lt z u nx := ⟨h.rk.below hb, h.ag, h.em⟩
theorem RdG.chg {W W' : World} {B rb nx u : Nat} {fv lv : Value} {ms : List Rm} {ps : Ps} {lt : List Lz} {z : Int} {S : Nat → Prop} (h : RdG W B rb fv lv ms ps lt z u nx) (hc : Chg S W W') (hs : ∀ k, Rt rb fv lv ms k → ¬ S k) : RdG W' B rb fv lv ms ps lt z u nx :=
  ⟨h.rk.keep fun k q => hc.block k (h.rk.rt q).2 (hs k q), h.ag, h.em⟩
/-- What a call did, by names alone. -/
def RDid (c : Cl) (q z : Int) (vs : Vs) (u : Nat) (vs' : Vs) (u' : Nat) : Prop :=
  (c.wh = 0 ∧ q = 0 ∧ rightB c.nm = true ∧ (sizeV vs : Int) + (c.d.length : Int) ≤ z ∧ vs' = wrV c.nm c.d u vs ∧ u' = u + c.d.length) ∨
  (c.wh = 0 ∧ ((q = 10 ∧ rightB c.nm = false) ∨ (q = 21 ∧ rightB c.nm = true ∧ z < (sizeV vs : Int) + (c.d.length : Int))) ∧ vs' = vs ∧ u' = u) ∨
  (c.wh = 1 ∧ u' = u ∧ ((q = 0 ∧ (∃ f, getV c.nm vs = some f) ∧ vs' = updV c.nm Fv.sync vs) ∨ (q = 12 ∧ getV c.nm vs = none ∧ vs' = vs))) ∨
  (c.wh = 2 ∧ u' = u ∧ ((q = 0 ∧ (∃ f, getV c.nm vs = some f) ∧ vs' = dropV c.nm vs) ∨ (q = 12 ∧ getV c.nm vs = none ∧ vs' = vs))) ∨
  (c.wh = 3 ∧ u' = u ∧ ((q = 0 ∧ rightB c.tg = true ∧ ∃ f, getV c.nm vs = some f ∧ vs' = insV (f.call c.tg) (dropV c.tg (dropV c.nm vs))) ∨ (q = 10 ∧ rightB c.tg = false ∧ vs' = vs) ∨ (q = 12 ∧ rightB c.tg = true ∧ getV c.nm vs = none ∧ vs' = vs)))
/-- Both disks do the same. -/
theorem did_same {c : Cl} {q q2 z : Int} {fs fs' : List Fl} {u u' u2 : Nat} {vs2 : Vs} (hw : 0 ≤ c.wh ∧ c.wh ≤ 3) (h : Did c q z fs u fs' u') (h2 : RDid c q2 z (viewF fs) u vs2 u2) : q2 = q ∧ vs2 = viewF fs' ∧ u2 = u' := by
  unfold RDid at h2
  rw [view_size] at h2
  rcases h with ⟨a0, a1, a2, a3, a4, a5⟩ | ⟨a0, a1, a2, a3⟩ | ⟨a0, a1, a2⟩ | ⟨a0, a1, a2⟩ | ⟨a0, a1, a2⟩ | ⟨a0, a1, a2⟩ | ⟨a0, a1⟩ <;>
    rcases h2 with ⟨b0, b1, b2, b3, b4, b5⟩ | ⟨b0, b1, b2, b3⟩ | ⟨b0, b1, b2⟩ | ⟨b0, b1, b2⟩ | ⟨b0, b1, b2⟩ <;> try omega
  · exact ⟨b1.trans a1.symm, b4.trans a4.symm, b5.trans a5.symm⟩
  · rcases b1 with ⟨_, b1⟩ | ⟨_, _, b1⟩
    · rw [a2] at b1; cases b1
    · omega
  · rcases a1 with ⟨_, a1⟩ | ⟨_, _, a1⟩
    · rw [a1] at b2; cases b2
    · omega
  · subst a2
    refine ⟨?_, b2, b3.trans a3.symm⟩
    rcases a1 with ⟨a4, a1⟩ | ⟨a4, a5, a1⟩ <;> rcases b1 with ⟨b4, b1⟩ | ⟨b4, b5, b1⟩
    · exact b4.trans a4.symm
    · rw [a1] at b5; cases b5
    · rw [a5] at b1; cases b1
    · exact b4.trans a4.symm
  · rcases a2 with ⟨a3, ⟨f, hf⟩, a4⟩ | ⟨a3, hf, a4⟩ <;> rcases b2 with ⟨b3, ⟨f2, hf2⟩, b4⟩ | ⟨b3, hf2, b4⟩
    · exact ⟨b3.trans a3.symm, b4.trans a4.symm, b1.trans a1.symm⟩
    · rw [hf] at hf2; cases hf2
    · rw [hf] at hf2; cases hf2
    · subst a4
      exact ⟨b3.trans a3.symm, b4, b1.trans a1.symm⟩
  · rcases a2 with ⟨a3, ⟨f, hf⟩, a4⟩ | ⟨a3, hf, a4⟩ <;> rcases b2 with ⟨b3, ⟨f2, hf2⟩, b4⟩ | ⟨b3, hf2, b4⟩
    · exact ⟨b3.trans a3.symm, b4.trans a4.symm, b1.trans a1.symm⟩
    · rw [hf] at hf2; cases hf2
    · rw [hf] at hf2; cases hf2
    · subst a4
      exact ⟨b3.trans a3.symm, b4, b1.trans a1.symm⟩
  · rcases a2 with ⟨a3, ht, f, hf, a4⟩ | ⟨a3, ht, a4⟩ | ⟨a3, ht, hf, a4⟩ <;> rcases b2 with ⟨b3, ht2, f2, hf2, b4⟩ | ⟨b3, ht2, b4⟩ | ⟨b3, ht2, hf2, b4⟩
    · rw [hf] at hf2
      obtain rfl := Option.some.inj hf2
      exact ⟨b3.trans a3.symm, b4.trans a4.symm, b1.trans a1.symm⟩
    · rw [ht] at ht2; cases ht2
    · rw [hf] at hf2; cases hf2
    · rw [ht] at ht2; cases ht2
    · subst a4
      exact ⟨b3.trans a3.symm, b4, b1.trans a1.symm⟩
    · rw [ht] at ht2; cases ht2
    · rw [hf] at hf2; cases hf2
    · rw [ht] at ht2; cases ht2
    · subst a4
      exact ⟨b3.trans a3.symm, b4, b1.trans a1.symm⟩
/-- What a call leaves of the document's disk. -/
structure RdE (w w' : World) (B rb : Nat) (fv lv : Value) (ms : List Rm) (c : Cl) (q z : Int) (ps : Ps) (u nx : Nat) (fv' lv' : Value) (ms' : List Rm) (ps' : Ps) (lt' : List Lz) (u' nx' : Nat) : Prop where
  g : RdG w' B rb fv' lv' ms' ps' lt' z u' nx'
  did : RDid c q z (ps.map Prod.fst) u (ps'.map Prod.fst) u'
  ch : Chg (Rt rb fv lv ms) w w'
  sub : ∀ k, Rt rb fv' lv' ms' k → Rt rb fv lv ms k ∨ w.heap.size ≤ k
  nx : nx' ≤ nx + 1
theorem rde_same {w w' : World} {B rb : Nat} {fv lv : Value} {ms : List Rm} {c : Cl} {q z : Int} {ps : Ps} {lt : List Lz} {u nx : Nat} (h : RdG w B rb fv lv ms ps lt z u nx) (hb : Below w.heap.size w w') (hd : RDid c q z (ps.map Prod.fst) u (ps.map Prod.fst) u) : RdE w w' B rb fv lv ms c q z ps u nx fv lv ms ps lt u nx :=
  ⟨h.below hb, hd, Chg.of_below _ hb, fun _ q => .inl q, Nat.le_succ _⟩
theorem rde_of {w w' : World} {B rb : Nat} {fv lv fv' lv' : Value} {ms ms' : List Rm} {c : Cl} {q z : Int} {ps ps' : Ps} {lt' : List Lz} {u u' nx nx' : Nat} (h : RkE w w' B rb fv lv ms fv' lv' ms' (lt'.map lzm) z nx') (ha : Ag ps' lt' u' nx') (he : ms'.map Rm.r = ps'.map mkR) (hd : RDid c q z (ps.map Prod.fst) u (ps'.map Prod.fst) u') (hn : nx' ≤ nx + 1) : RdE w w' B rb fv lv ms c q z ps u nx fv' lv' ms' ps' lt' u' nx' :=
  ⟨⟨h.rk, ha, he⟩, hd, h.ch, h.sub, hn⟩
/-- What a good disk's files are. -/
structure RdB (ps : Ps) (lt : List Lz) (ms : List Rm) : Prop where
  nm : ∀ p ∈ ps, rightB p.1.n = true
  mn : ∀ m ∈ ms, m.n.size ≤ maxLen
  len : ms.length ≤ 1000
  ls : (lt.map lzm).length ≤ 90000
  ml : ∀ m ∈ ms, m.s.length ≤ 90000
  sz : sizeM ms (lt.map lzm) = sizeV (ps.map Prod.fst)
theorem rdg_b {W : World} {B rb nx u i : Nat} {fv lv : Value} {ms : List Rm} {ps : Ps} {lt : List Lz} {z : Int} (h : RdG W B rb fv lv ms ps lt z u nx) (hg : GoodV (ps.map Prod.fst) z u i) (hi : i ≤ 1000) (hs : sizeV (ps.map Prod.fst) ≤ 90000) : RdB ps lt ms := by
  have hnm : ∀ p ∈ ps, rightB p.1.n = true := fun p hp => (hg.fl p.1 (List.mem_map_of_mem hp)).nm
  have hsz := ms_size h.em h.ag
  have hsl : sizeM ms (lt.map lzm) ≤ 90000 := by rw [hsz]; exact hs
  unfold sizeM at hsl
  refine ⟨hnm, fun m hm => ?_, ?_, by omega, fun m hm => ?_, hsz⟩
  · have := ms_each h.em (F := fun n => n.size ≤ maxLen) (fun a ha => by
      obtain ⟨_, h2⟩ := right_in (hnm a ha)
      show a.1.n.size ≤ maxLen
      unfold maxLen
      omega) m hm
    exact this
  · rw [ms_len h.em]
    have := hg.len
    rw [List.length_map] at this
    omega
  · obtain ⟨P, Q, rfl⟩ := List.append_of_mem hm
    rw [List.map_append, List.map_cons, List.sum_append_nat, List.sum_cons] at hsl
    omega
theorem mkR_add {f : Fv} (h : f.m ≤ f.d.length) (b : List UInt8) (u no : Nat) : mkR (f.add b u, no) = mkR (f, no) := by
  unfold mkR
  have hk : kB (f.add b u) = kB f := by unfold kB; rw [add_q]; unfold Fv.add; split <;> rfl
  rw [add_n, add_d, add_q, hk, List.take_append_of_le_length h]
theorem mkR_new (x : ByteArray) (b : List UInt8) (u no : Nat) : mkR ((newV x).add b u, no) = ⟨x, no, [], false⟩ := by
  rw [mkR_add (Nat.zero_le _)]
  rfl
theorem rd_write {W : World} {B rb nx u i : Nat} {fv lv : Value} {ms : List Rm} {ps : Ps} {lt : List Lz} {z : Int} (h : RdG W B rb fv lv ms ps lt z u nx) (hg : GoodV (ps.map Prod.fst) z u i) (hi : i ≤ 1000) (c : Cl) (hc : c.ok) (hwh : c.wh = 0) (hs : sizeV (ps.map Prod.fst) + c.d.length ≤ 90000) (hz : 0 ≤ z ∧ z ≤ 16777216) (hnx : nx ≤ 100000) (hv : SlA W c.dv c.d) (hvb : 0 < c.d.length → ∀ k, c.dv.ownBlock = some k → ¬ Rt rb fv lv ms k) :
    Calls Tryz.prog 25 #[.pointer (some ⟨rb, 0, none⟩), .string c.nm, c.dv] W fun e w' => ∃ q fv' lv' ms' ps' lt' u' nx', e = .returned (.int .i64 q) ∧ RdE W w' B rb fv lv ms c q z ps u nx fv' lv' ms' ps' lt' u' nx' := by
  have hB := rdg_b h hg hi (by omega)
  have hnm : c.nm.size ≤ maxLen := by have := hc.nm; unfold maxLen; omega
  cases hr : rightB c.nm with
  | false =>
    refine (rwrite_bad rb c.nm c.dv hnm hr W).mono ?_
    rintro e w' ⟨rfl, hb⟩
    exact ⟨10, _, _, _, _, _, _, _, rfl, rde_same h hb (.inr (.inl ⟨hwh, .inl ⟨rfl, hr⟩, rfl, rfl⟩))⟩
  | true =>
    by_cases hq : (sizeV (ps.map Prod.fst) : Int) + (c.d.length : Int) ≤ z
    · rcases partP c.nm h.ag.ri with ⟨A, f, no, C, rfl, hn⟩ | ⟨A, C, rfl, hA, hC⟩
      · obtain ⟨P, m, Q, rfl, e1, e2, e3⟩ := ms_mid h.em
        have en : m.n = c.nm := (congrArg Rs.n e2).trans hn
        have eno : m.no = no := congrArg Rs.no e2
        have hw := rwrite_yes h.rk (by rw [en]; exact hr) hB.mn (by have := hB.len; omega) (ms_ris h.em h.ag.ri) hz c.dv c.d hv hvb (by rw [hB.sz]; exact hq) (by have := hB.ls; omega)
        rw [en, eno] at hw
        refine hw.mono ?_
        rintro e w' ⟨rfl, lv', hE⟩
        obtain ⟨a1, a2⟩ := ag_write h.ag c.d
        rw [← newZ_lzm no c.d u, ← List.map_append] at hE
        refine ⟨0, _, _, _, A ++ (f.add c.d u, no) :: C, _, _, _, rfl, rde_of hE a1 ?_ (.inl ⟨hwh, rfl, hr, hq, by rw [a2, hn], rfl⟩) (Nat.le_succ _)⟩
        have := (h.ag.f (f, no) (by simp)).1
        rw [h.em, List.map_append, List.map_append, List.map_cons, List.map_cons, mkR_add this]
      · obtain ⟨P, Q, rfl, e1, e3⟩ := ms_app h.em
        refine (rwrite_new h.rk c.nm hr hB.mn (by have := hB.len; omega) (ms_each e1 (F := fun n => bef n c.nm = true) hA) (ms_each e3 (F := fun n => bef c.nm n = true) hC) hz (by omega) c.dv c.d hv hvb (by rw [hB.sz]; exact hq) (by have := hB.ls; omega)).mono ?_
        rintro e w' ⟨rfl, fv', lv', hE⟩
        obtain ⟨a1, a2⟩ := ag_make h.ag hA hC c.d
        rw [← newZ_lzm (nx + 1) c.d u, ← List.map_append] at hE
        refine ⟨0, _, _, _, A ++ ((newV c.nm).add c.d u, nx + 1) :: C, _, _, _, rfl, rde_of hE a1 ?_ (.inl ⟨hwh, rfl, hr, hq, a2, rfl⟩) (Nat.le_refl _)⟩
        rw [List.map_append, List.map_append, List.map_cons, List.map_cons, e1, e3, mkR_new]
        rfl
    · obtain ⟨A, c0, e0, _⟩ := hv
      rw [e0]
      refine (rwrite_full h.rk (by rw [hB.sz]; omega) (by have := hB.len; omega) hz c.nm hr A c.d.length c0 (by omega) (by rw [hB.sz]; omega)).mono ?_
      rintro e w' ⟨rfl, hb⟩
      exact ⟨21, _, _, _, _, _, _, _, rfl, rde_same h hb (.inr (.inl ⟨hwh, .inr ⟨rfl, hr, by omega⟩, rfl, rfl⟩))⟩
theorem get_ps {A C : Ps} {f : Fv} {no : Nat} {x : ByteArray} (h : RisV ((A ++ (f, no) :: C).map Prod.fst)) (hn : f.n = x) : getV x ((A ++ (f, no) :: C).map Prod.fst) = some f := by
  rw [fst_mid] at h ⊢
  rw [← hn]
  exact get_mid h
theorem get_po {A C : Ps} {x : ByteArray} (hA : ∀ a ∈ A, bef a.1.n x = true) (hC : ∀ c ∈ C, bef x c.1.n = true) : getV x ((A ++ C).map Prod.fst) = none := by
  rw [fst_app]
  exact get_out (fun a ha => by obtain ⟨q, hq, rfl⟩ := List.mem_map.1 ha; exact hA q hq) (fun a ha => by obtain ⟨q, hq, rfl⟩ := List.mem_map.1 ha; exact hC q hq)
theorem rd_sync {W : World} {B rb nx u i : Nat} {fv lv : Value} {ms : List Rm} {ps : Ps} {lt : List Lz} {z : Int} (h : RdG W B rb fv lv ms ps lt z u nx) (hg : GoodV (ps.map Prod.fst) z u i) (hi : i ≤ 1000) (c : Cl) (hc : c.ok) (hwh : c.wh = 1) (hs : sizeV (ps.map Prod.fst) ≤ 90000) :
    Calls Tryz.prog 55 #[.pointer (some ⟨rb, 0, none⟩), .string c.nm] W fun e w' => ∃ q fv' lv' ms' ps' lt' u' nx', e = .returned (.int .i64 q) ∧ RdE W w' B rb fv lv ms c q z ps u nx fv' lv' ms' ps' lt' u' nx' := by
  have hB := rdg_b h hg hi hs
  have hnm : c.nm.size ≤ maxLen := by have := hc.nm; unfold maxLen; omega
  rcases partP c.nm h.ag.ri with ⟨A, f, no, C, rfl, hn⟩ | ⟨A, C, rfl, hA, hC⟩
  · obtain ⟨P, m, Q, rfl, e1, e2, e3⟩ := ms_mid h.em
    have en : m.n = c.nm := (congrArg Rs.n e2).trans hn
    have eno : m.no = no := congrArg Rs.no e2
    have hw := rsync_yes h.rk (by rw [en]; exact hnm) hB.mn (by have := hB.len; omega) (ms_ris h.em h.ag.ri) (by have := hB.ls; omega) (by have := hB.ml m (by simp); omega)
    rw [en, eno, bytesM_lz, outM_lz] at hw
    refine hw.mono ?_
    rintro e w' ⟨rfl, v, lv', hE⟩
    obtain ⟨a1, a2⟩ := ag_sync h.ag
    refine ⟨0, _, _, _, A ++ (f.sync, no) :: C, _, _, _, rfl, rde_of hE a1 ?_ (.inr (.inr (.inl ⟨hwh, rfl, .inl ⟨rfl, ⟨f, get_ps h.ag.ri hn⟩, by rw [a2, hn]⟩⟩))) (Nat.le_succ _)⟩
    rw [List.map_append, List.map_append, List.map_cons, List.map_cons, e1, e3]
    have ha := ag_all h.ag (p := (f, no)) (by simp)
    have es : m.s = (mkR (f, no)).s := congrArg Rs.s e2
    congr 2
    show (⟨m.n, m.no, m.s ++ byOf lt no, true⟩ : Rs) = ⟨f.n, no, f.d.take f.d.length, kB f.sync⟩
    rw [en, eno, es, ha, List.take_length, hn]
    congr 1
    unfold kB Fv.sync
    simp
  · obtain ⟨P, Q, rfl, e1, e3⟩ := ms_app h.em
    refine (rsync_no h.rk c.nm hnm hB.mn (by have := hB.len; omega) (ms_each e1 (F := fun n => bef n c.nm = true) hA) (ms_each e3 (F := fun n => bef c.nm n = true) hC)).mono ?_
    rintro e w' ⟨rfl, hb⟩
    exact ⟨12, _, _, _, _, _, _, _, rfl, rde_same h hb (.inr (.inr (.inl ⟨hwh, rfl, .inr ⟨rfl, get_po hA hC, rfl⟩⟩)))⟩
theorem rd_remove {W : World} {B rb nx u i : Nat} {fv lv : Value} {ms : List Rm} {ps : Ps} {lt : List Lz} {z : Int} (h : RdG W B rb fv lv ms ps lt z u nx) (hg : GoodV (ps.map Prod.fst) z u i) (hi : i ≤ 1000) (c : Cl) (hc : c.ok) (hwh : c.wh = 2) (hs : sizeV (ps.map Prod.fst) ≤ 90000) :
    Calls Tryz.prog 88 #[.pointer (some ⟨rb, 0, none⟩), .string c.nm] W fun e w' => ∃ q fv' lv' ms' ps' lt' u' nx', e = .returned (.int .i64 q) ∧ RdE W w' B rb fv lv ms c q z ps u nx fv' lv' ms' ps' lt' u' nx' := by
  have hB := rdg_b h hg hi hs
  have hnm : c.nm.size ≤ maxLen := by have := hc.nm; unfold maxLen; omega
  rcases partP c.nm h.ag.ri with ⟨A, f, no, C, rfl, hn⟩ | ⟨A, C, rfl, hA, hC⟩
  · obtain ⟨P, m, Q, rfl, e1, e2, e3⟩ := ms_mid h.em
    have en : m.n = c.nm := (congrArg Rs.n e2).trans hn
    have eno : m.no = no := congrArg Rs.no e2
    have hw := rremove_yes h.rk (by rw [en]; exact hnm) hB.mn (by have := hB.len; omega) (ms_ris h.em h.ag.ri) (by have := hB.ls; omega)
    rw [en, eno, outM_lz] at hw
    refine hw.mono ?_
    rintro e w' ⟨rfl, v, lv', hE⟩
    obtain ⟨a1, a2⟩ := ag_drop h.ag
    refine ⟨0, _, _, _, A ++ C, _, _, _, rfl, rde_of hE a1 ?_ (.inr (.inr (.inr (.inl ⟨hwh, rfl, .inl ⟨rfl, ⟨f, get_ps h.ag.ri hn⟩, by rw [a2, hn]⟩⟩)))) (Nat.le_succ _)⟩
    rw [List.map_append, List.map_append, e1, e3]
  · obtain ⟨P, Q, rfl, e1, e3⟩ := ms_app h.em
    refine (rremove_no h.rk c.nm hnm hB.mn (by have := hB.len; omega) (ms_each e1 (F := fun n => bef n c.nm = true) hA) (ms_each e3 (F := fun n => bef c.nm n = true) hC)).mono ?_
    rintro e w' ⟨rfl, hb⟩
    exact ⟨12, _, _, _, _, _, _, _, rfl, rde_same h hb (.inr (.inr (.inr (.inl ⟨hwh, rfl, .inr ⟨rfl, get_po hA hC, rfl⟩⟩))))⟩
theorem mkR_call {f : Fv} {no : Nat} {m : Rm} (h : m.r = mkR (f, no)) (y : ByteArray) : (m.call y).r = mkR (f.call y, no) := by
  have h1 : m.no = no := congrArg Rs.no h
  have h2 : m.s = f.d.take f.m := congrArg Rs.s h
  show (⟨y, m.no, m.s, true⟩ : Rs) = ⟨y, no, f.d.take f.m, kB (f.call y)⟩
  rw [h1, h2]
  congr 1
  unfold kB Fv.call
  simp
theorem rd_rename {W : World} {B rb nx u i : Nat} {fv lv : Value} {ms : List Rm} {ps : Ps} {lt : List Lz} {z : Int} (h : RdG W B rb fv lv ms ps lt z u nx) (hg : GoodV (ps.map Prod.fst) z u i) (hi : i ≤ 1000) (c : Cl) (hc : c.ok) (hwh : c.wh = 3) (hs : sizeV (ps.map Prod.fst) ≤ 90000) :
    Calls Tryz.prog 89 #[.pointer (some ⟨rb, 0, none⟩), .string c.nm, .string c.tg] W fun e w' => ∃ q fv' lv' ms' ps' lt' u' nx', e = .returned (.int .i64 q) ∧ RdE W w' B rb fv lv ms c q z ps u nx fv' lv' ms' ps' lt' u' nx' := by
  have hB := rdg_b h hg hi hs
  have hnm : c.nm.size ≤ maxLen := by have := hc.nm; unfold maxLen; omega
  have hto : c.tg.size ≤ maxLen := by have := hc.tg; unfold maxLen; omega
  cases hr : rightB c.tg with
  | false =>
    refine (rrename_bad rb c.nm c.tg hto hr W).mono ?_
    rintro e w' ⟨rfl, hb⟩
    exact ⟨10, _, _, _, _, _, _, _, rfl, rde_same h hb (.inr (.inr (.inr (.inr ⟨hwh, rfl, .inr (.inl ⟨rfl, hr, rfl⟩)⟩))))⟩
  | true =>
    rcases partP c.nm h.ag.ri with ⟨A, f, no, C, rfl, hn⟩ | ⟨A, C, rfl, hA, hC⟩
    · obtain ⟨P, m, Q, rfl, e1, e2, e3⟩ := ms_mid h.em
      have en : m.n = c.nm := (congrArg Rs.n e2).trans hn
      have eno : m.no = no := congrArg Rs.no e2
      have hri := h.ag.ri
      rw [fst_mid] at hri
      obtain ⟨_, _, hri2⟩ := midV hri
      rw [← fst_app] at hri2
      have hAC : (P ++ Q).map Rm.r = (A ++ C).map mkR := by rw [List.map_append, List.map_append, e1, e3]
      rcases partP c.tg hri2 with ⟨X, g, no', Y, e, hg2⟩ | ⟨X, Y, e, hX, hY⟩
      · rw [e] at hAC
        obtain ⟨P', t, Q', ePQ, f1, f2, f3⟩ := ms_mid hAC
        have tn : t.n = c.tg := (congrArg Rs.n f2).trans hg2
        have tno : t.no = no' := congrArg Rs.no f2
        have hw := rrename_over h.rk (by rw [en]; exact hnm) hB.mn (by have := hB.len; omega) (ms_ris h.em h.ag.ri) c.tg hr ePQ tn (by have := hB.ls; omega)
        rw [en, tno, outM_lz] at hw
        refine hw.mono ?_
        rintro e9 w' ⟨rfl, fv', lv', hE⟩
        obtain ⟨a1, a2⟩ := ag_over h.ag e
        rw [hg2] at a1 a2
        refine ⟨0, _, _, _, X ++ (f.call c.tg, no) :: Y, _, _, _, rfl, rde_of hE a1 ?_ (.inr (.inr (.inr (.inr ⟨hwh, rfl, .inl ⟨rfl, hr, f, get_ps h.ag.ri hn, by rw [a2, hn]⟩⟩)))) (Nat.le_succ _)⟩
        rw [List.map_append, List.map_append, List.map_cons, List.map_cons, f1, f3, mkR_call e2]
      · rw [e] at hAC
        obtain ⟨P', Q', ePQ, f1, f3⟩ := ms_app hAC
        have hw := rrename_free h.rk (by rw [en]; exact hnm) hB.mn (by have := hB.len; omega) (ms_ris h.em h.ag.ri) c.tg hr ePQ (ms_each f1 (F := fun n => bef n c.tg = true) hX) (ms_each f3 (F := fun n => bef c.tg n = true) hY)
        rw [en] at hw
        refine hw.mono ?_
        rintro e9 w' ⟨rfl, fv', lv', hE⟩
        obtain ⟨a1, a2⟩ := ag_move h.ag e hX hY
        refine ⟨0, _, _, _, X ++ (f.call c.tg, no) :: Y, _, _, _, rfl, rde_of hE a1 ?_ (.inr (.inr (.inr (.inr ⟨hwh, rfl, .inl ⟨rfl, hr, f, get_ps h.ag.ri hn, by rw [a2, hn]⟩⟩)))) (Nat.le_succ _)⟩
        rw [List.map_append, List.map_append, List.map_cons, List.map_cons, f1, f3, mkR_call e2]
    · obtain ⟨P, Q, rfl, e1, e3⟩ := ms_app h.em
      refine (rrename_no h.rk c.nm c.tg hr hnm hB.mn (by have := hB.len; omega) (ms_each e1 (F := fun n => bef n c.nm = true) hA) (ms_each e3 (F := fun n => bef c.nm n = true) hC)).mono ?_
      rintro e w' ⟨rfl, hb⟩
      exact ⟨12, _, _, _, _, _, _, _, rfl, rde_same h hb (.inr (.inr (.inr (.inr ⟨hwh, rfl, .inr (.inr ⟨rfl, hr, get_po hA hC, rfl⟩)⟩))))⟩
/-- A crash. -/
theorem rd_crash {W : World} {B rb nx u i : Nat} {fv lv : Value} {ms : List Rm} {ps : Ps} {lt : List Lz} {z : Int} (h : RdG W B rb fv lv ms ps lt z u nx) (hg : GoodV (ps.map Prod.fst) z u i) (hi : i ≤ 1000) (K : Int) (hK1 : -9223372036854775808 ≤ K) (hK2 : K < 9223372036854775808) (hs : sizeV (ps.map Prod.fst) ≤ 90000) :
    Calls Tryz.prog 27 #[.pointer (some ⟨rb, 0, none⟩), .int .i64 K] W fun e w' => e = .returned (.tuple #[]) ∧ ∃ fv' ms', RdG w' B rb fv' (.slice none 0 0) ms' (crPs ps lt K.toNat) [] z u nx ∧ Chg (Rt rb fv lv ms) W w' ∧ ∀ k, Rt rb fv' (.slice none 0 0) ms' k → Rt rb fv lv ms k ∨ W.heap.size ≤ k := by
  have hB := rdg_b h hg hi hs
  refine (rcrash_ok h.rk (by have := hB.len; omega) (by have := hB.ls; omega) (fun m hm => by have := hB.ml m hm; omega) K hK1 hK2).mono ?_
  rintro e w' ⟨rfl, fv', ms', hE, he⟩
  refine ⟨rfl, fv', ms', ⟨hE.rk, cr_ag h.ag _, ?_⟩, hE.ch, hE.sub⟩
  rw [he, cr_ref h.ag, h.em]
  congr 1
  exact List.map_congr_left fun r _ => rcr_is lt _ r
/-- Both disks behind a crash. -/
theorem crash_same {W : World} {B rb nx u db mb : Nat} {fv lv : Value} {ms : List Rm} {ps : Ps} {lt : List Lz} {z : Int} {fs : List Fl} {s : Int} (h : RdG W B rb fv lv ms ps lt z u nx) {W2 : World} (hd : Dk W2 B db mb fs z s (u : Int)) (hv : viewF fs = ps.map Prod.fst) {l : List Pc} (hpm : l.Perm (allP fs)) (hso : l.Pairwise fun x y => x.2.1 ≤ y.2.1) (K : Int) : (crPs ps lt K.toNat).map Prod.fst = viewF (crF fs l K) := by
  obtain ⟨qs, e1, e2⟩ := qs_of hv
  have ha := h.ag
  subst e1 e2
  exact cr_view ha hd.ap hpm hso K
end Go.Proofs.YtofkfafdodhmdaaGreatDoor

/- The document's disk is asked. Conditions: as for its calls. -/
namespace Go.Proofs.YtofkfafdodhmdaaGreatDoor
open Go.RowKit

theorem rd_size {W : World} {B rb nx u i : Nat} {fv lv : Value} {ms : List Rm} {ps : Ps} {lt : List Lz} {z : Int} (h : RdG W B rb fv lv ms ps lt z u nx) (hg : GoodV (ps.map Prod.fst) z u i) (hi : i ≤ 1000) (hs : sizeV (ps.map Prod.fst) ≤ 90000) :
    Calls Tryz.prog 60 #[.pointer (some ⟨rb, 0, none⟩)] W fun e w' => e = .returned (.int .i64 ((sizeV (ps.map Prod.fst) : Nat) : Int)) ∧ Below W.heap.size W w' := by
  have hB := rdg_b h hg hi hs
  have := rsize_ok h.rk (by rw [hB.sz]; omega) (by have := hB.len; omega)
  rw [hB.sz] at this
  exact this
theorem rd_names {W : World} {B rb nx u i : Nat} {fv lv : Value} {ms : List Rm} {ps : Ps} {lt : List Lz} {z : Int} (h : RdG W B rb fv lv ms ps lt z u nx) (hg : GoodV (ps.map Prod.fst) z u i) (hi : i ≤ 1000) (hs : sizeV (ps.map Prod.fst) ≤ 90000) :
    Calls Tryz.prog 34 #[.pointer (some ⟨rb, 0, none⟩)] W fun e w' => ∃ v, e = .returned v ∧ SRowS w' W.heap.size v ((ps.map Prod.fst).map Fv.n) ∧ Below W.heap.size W w' := by
  have hB := rdg_b h hg hi hs
  have := rnames_ok h.rk (by have := hB.len; omega)
  rw [ms_name h.em] at this
  rw [List.map_map]
  exact this
theorem rd_read {W : World} {B rb nx u i : Nat} {fv lv : Value} {ms : List Rm} {ps : Ps} {lt : List Lz} {z : Int} (h : RdG W B rb fv lv ms ps lt z u nx) (hg : GoodV (ps.map Prod.fst) z u i) (hi : i ≤ 1000) (hs : sizeV (ps.map Prod.fst) ≤ 90000) (x : ByteArray) (hx : x.size ≤ maxLen) :
    Calls Tryz.prog 31 #[.pointer (some ⟨rb, 0, none⟩), .string x] W fun e w' => ∃ v, e = .returned (.tuple #[v, .bool (getV x (ps.map Prod.fst)).isSome]) ∧ Row w' W.heap.size v (((getV x (ps.map Prod.fst)).map Fv.d).getD []) ∧ Below W.heap.size W w' := by
  have hB := rdg_b h hg hi hs
  rcases partP x h.ag.ri with ⟨A, f, no, C, rfl, hn⟩ | ⟨A, C, rfl, hA, hC⟩
  · obtain ⟨P, m, Q, rfl, e1, e2, e3⟩ := ms_mid h.em
    have en : m.n = x := (congrArg Rs.n e2).trans hn
    have eno : m.no = no := congrArg Rs.no e2
    have es : m.s = (mkR (f, no)).s := congrArg Rs.s e2
    have ha := ag_all h.ag (p := (f, no)) (by simp)
    rw [get_ps h.ag.ri hn]
    have hw := rread_yes h.rk x hx hB.mn (by have := hB.len; omega) (ms_ris h.em h.ag.ri) en (by have := hB.ml m (by simp); omega) (by have := hB.ls; omega)
    rw [eno, bytesM_lz, es, ha] at hw
    exact hw
  · obtain ⟨P, Q, rfl, e1, e3⟩ := ms_app h.em
    rw [get_po hA hC]
    refine (rread_no h.rk x hx hB.mn (by have := hB.len; omega) (ms_each e1 (F := fun n => bef n x = true) hA) (ms_each e3 (F := fun n => bef x n = true) hC)).mono ?_
    rintro e w' ⟨rfl, hb⟩
    exact ⟨_, rfl, Row.none _ _, hb⟩
theorem get_at {vs : Vs} (h : RisV vs) {k : Nat} (hk : k < vs.length) : getV vs[k].n vs = some vs[k] := by
  have e : vs = vs.take k ++ vs[k] :: vs.drop (k + 1) := by simp
  have h2 : RisV (vs.take k ++ vs[k] :: vs.drop (k + 1)) := by rw [← e]; exact h
  have := get_mid h2
  rw [← e] at this
  exact this
end Go.Proofs.YtofkfafdodhmdaaGreatDoor
