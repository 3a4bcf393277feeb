/- Several texts in one: RBb StVa SuA SuB SuC SuD SuE SuF. Conditions: as each theorem names them. -/
import Derived.Test.YtofkfafdodhmdaaGreatDoorNB
import Derived.Lib.Bytealg
import Derived.Deep.QuietTactic
import Derived.BigQuiet
import Derived.Test.YtofkfafdodhmdaaGreatDoorNN
/- The document's Texts at every two texts. Conditions: texts no longer than any are. -/
namespace Go.Proofs.YtofkfafdodhmdaaGreatDoor
open Go.RowKit

theorem ret_i64 {k : IntKind} {a b : Int} (h : a = b) : Ending.returned (.int k a) = .returned (.int k b) := by rw [h]

theorem cmpB_drop (l m : List UInt8) (k : Nat) (h : k < l.length) (h' : k < m.length) :
    Lib.compareBytes (l.drop k) (m.drop k) = if (l.getD k 0).toNat < (m.getD k 0).toNat then -1 else if (m.getD k 0).toNat < (l.getD k 0).toNat then 1 else Lib.compareBytes (l.drop (k + 1)) (m.drop (k + 1)) := by
  rw [List.drop_eq_getElem_cons h, List.drop_eq_getElem_cons h']
  conv => lhs; unfold Lib.compareBytes
  simp only [List.getD_eq_getElem?_getD, List.getElem?_eq_getElem h, List.getElem?_eq_getElem h', Option.getD_some, UInt8.lt_iff_toNat_lt]

theorem cmpB_end (l m : List UInt8) (h : l = [] ∨ m = []) : Lib.compareBytes l m = if l.length < m.length then -1 else if m.length < l.length then 1 else 0 := by
  rcases h with rfl | rfl
  · cases m with
    | nil => rfl
    | cons => simp [Lib.compareBytes]
  · cases l with
    | nil => rfl
    | cons => simp [Lib.compareBytes]

/-- What the loop knows. -/
def XInv (s t : ByteArray) (w : World) (vi : Value) (wr : World) : Prop :=
  ∃ (i m : Nat), i ≤ s.size ∧ i ≤ t.size ∧ vi = .int .i64 i ∧ wr = w.drewN m ∧ Lib.compareBytes s.data.toList t.data.toList = Lib.compareBytes (s.data.toList.drop i) (t.data.toList.drop i)

theorem dl (s : ByteArray) : s.data.toList.length = s.size := rfl
theorem getD_str (s : ByteArray) (i : Nat) (h : i < s.size) : s.data.toList.getD i 0 = s[i] := by
  rw [List.getD_eq_getElem?_getD, List.getElem?_eq_getElem (show i < s.data.toList.length from h)]
  rfl

theorem drew_ex (w : World) (n : Nat) : ∃ m, w.drewN n = w.drewN m := ⟨n, rfl⟩

set_option maxHeartbeats 2000000 in
theorem texts_quiet (s t : ByteArray) (hs : s.size ≤ 9223372036854775807) (_ : t.size ≤ 9223372036854775807) (w : World) :
    Calls Tryz.prog 92 #[.string s, .string t] w fun e w' => e = .returned (.int .i64 (Lib.compareBytes s.data.toList t.data.toList)) ∧ ∃ m, w' = w.drewN m := by
  go_enter Tryz.func92, Tryz.ntmps92
  go_wp2
  go_loopw [5] (fun vi wr => XInv s t w vi wr) (fun vi _ => s.size - (intOf vi).toNat)
  case atStart => exact ⟨0, 0, Nat.zero_le _, Nat.zero_le _, rfl, rfl, rfl⟩
  case round =>
    obtain ⟨i, m, hi1, hi2, rfl, rfl, hc⟩ := hrel
    by_cases hlt : i < s.size ∧ i < t.size
    · obtain ⟨h1, h2⟩ := hlt
      have hd := cmpB_drop s.data.toList t.data.toList i h1 h2
      rw [getD_str s i h1, getD_str t i h2] at hd
      have HD := hid (hc.trans hd)
      clear hd hc
      by_cases c0 : s[i].toNat = t[i].toNat
      · have q0 : (s[i].toNat != t[i].toNat) = false := by simpa using c0
        have HQ : Hid (Lib.compareBytes s.data.toList t.data.toList = Lib.compareBytes (s.data.toList.drop (i + 1)) (t.data.toList.drop (i + 1))) := by
          have := HD.out
          rw [if_neg (by omega), if_neg (by omega)] at this
          exact this
        clear HD
        go_wp2
        go_quiet (fail)
        go_wp2
        go_roundw
        case rel => exact ⟨i + 1, _, by omega, by omega, by go_num, rfl, HQ.out⟩
        case measure => simp [intOf]; omega
      · have q0 : (s[i].toNat != t[i].toNat) = true := by simpa using c0
        by_cases c1 : s[i].toNat < t[i].toNat
        · have HQ : Hid (Lib.compareBytes s.data.toList t.data.toList = -1) := by
            have := HD.out
            rw [if_pos c1] at this
            exact this
          have q1 : decide (s[i].toNat < t[i].toNat) = true := decide_eq_true c1
          clear HD c0
          go_wp2
          go_quiet (fail)
          go_wp2
          go_quiet (fail)
          go_wp2
          go_ret
          exact ⟨ret_i64 HQ.out.symm, by first | exact drew_ex w _ | (simp only [World.drewN_drewN]; exact drew_ex w _)⟩
        · have HQ : Hid (Lib.compareBytes s.data.toList t.data.toList = 1) := by
            have := HD.out
            rw [if_neg c1, if_pos (by omega)] at this
            exact this
          have q1 : decide (s[i].toNat < t[i].toNat) = false := decide_eq_false c1
          clear HD c0
          go_wp2
          go_quiet (fail)
          go_wp2
          go_quiet (fail)
          go_wp2
          go_ret
          exact ⟨ret_i64 HQ.out.symm, by first | exact drew_ex w _ | (simp only [World.drewN_drewN]; exact drew_ex w _)⟩
    · have hq : Lib.compareBytes s.data.toList t.data.toList = if s.size < t.size then -1 else if t.size < s.size then 1 else 0 := by
        rw [hc, cmpB_end _ _ (by rcases (show i = s.size ∨ i = t.size by omega) with rfl | rfl <;> simp)]
        simp only [List.length_drop, dl]
        by_cases z1 : s.size < t.size
        · rw [if_pos (by omega), if_pos z1]
        · rw [if_neg (by omega), if_neg z1]
          by_cases z2 : t.size < s.size
          · rw [if_pos (by omega), if_pos z2]
          · rw [if_neg (by omega), if_neg z2]
      have hsel : (i < s.size ∧ decide (i < t.size) = false) ∨ i = s.size := by
        rcases Nat.lt_or_ge i s.size with h | h
        · exact .inl ⟨h, decide_eq_false (by omega)⟩
        · exact .inr (by omega)
      clear hc hlt
      rcases (show s.size < t.size ∨ t.size < s.size ∨ s.size = t.size by omega) with z | z | z
      · rw [if_pos z] at hq
        have HQ := hid hq
        have d1 : decide (s.size < t.size) = true := decide_eq_true z
        clear hq
        rcases hsel with ⟨h1, h2⟩ | rfl
        all_goals
          go_wp2
          go_ret
          exact ⟨ret_i64 HQ.out.symm, by first | exact drew_ex w _ | (simp only [World.drewN_drewN]; exact drew_ex w _)⟩
      · rw [if_neg (by omega), if_pos z] at hq
        have HQ := hid hq
        have d1 : decide (s.size < t.size) = false := decide_eq_false (by omega)
        have d2 : decide (t.size < s.size) = true := decide_eq_true z
        clear hq
        rcases hsel with ⟨h1, h2⟩ | rfl
        all_goals
          go_wp2
          go_ret
          exact ⟨ret_i64 HQ.out.symm, by first | exact drew_ex w _ | (simp only [World.drewN_drewN]; exact drew_ex w _)⟩
      · rw [if_neg (by omega), if_neg (by omega)] at hq
        have HQ := hid hq
        have d1 : decide (s.size < t.size) = false := decide_eq_false (by omega)
        have d2 : decide (t.size < s.size) = false := decide_eq_false (by omega)
        clear hq z
        rcases hsel with ⟨h1, h2⟩ | rfl
        all_goals
          go_wp2
          go_ret
          exact ⟨ret_i64 HQ.out.symm, by first | exact drew_ex w _ | (simp only [World.drewN_drewN]; exact drew_ex w _)⟩
theorem texts_any (s t : ByteArray) (hs : s.size ≤ 9223372036854775807) (ht : t.size ≤ 9223372036854775807) (w : World) :
    Calls Tryz.prog 92 #[.string s, .string t] w fun e w' => e = .returned (.int .i64 (Lib.compareBytes s.data.toList t.data.toList)) ∧ Below w.heap.size w w' :=
  (texts_quiet s t hs ht w).mono fun _ _ ⟨he, m, hm⟩ => ⟨he, by rw [hm]; exact Go.below_drewN (Below.refl _ _) _⟩
end Go.Proofs.YtofkfafdodhmdaaGreatDoor

/- What a crash leaves; rows and their forms. Conditions: none. -/
namespace Go.Proofs.YtofkfafdodhmdaaGreatDoor
open Go.RowKit

/-- What a crash leaves. -/
def crF (fs : List Fl) (l : List Pc) (K : Int) : List Fl := ((fs.map (mF l K)).filter keepB).map cutF
theorem row_form {w : World} {N : Nat} {v : Value} {l : List UInt8} (h : Row w N v l) {n : Nat} (hn : l.length = n) : ∃ A c, v = .slice A n c := by
  obtain ⟨A, c, e, _⟩ := h.sla
  exact ⟨A, c, by rw [e, hn]⟩
theorem row_low {w : World} {N M : Nat} {v : Value} {l : List UInt8} (h : Row w N v l) (hM : M ≤ N) : Row w M v l :=
  ⟨h.1, h.2.imp id fun ⟨g, cap, cur, e, hg, rest⟩ => ⟨g, cap, cur, e, Nat.le_trans hM hg, rest⟩⟩
end Go.Proofs.YtofkfafdodhmdaaGreatDoor

/- How the document's disk agrees with ours, by names alone. Conditions: none. -/
namespace Go.Proofs.YtofkfafdodhmdaaGreatDoor
open Go.RowKit

/-- A byte that doesn't last: of which file, which byte, when it was written. -/
structure Lz where
  no : Nat
  x : UInt8
  t : Nat
def runsT (l : List (Nat × Nat)) : List Nat := l.flatMap fun r => List.range' r.1 r.2
theorem runsT_app (l m : List (Nat × Nat)) : runsT (l ++ m) = runsT l ++ runsT m := by unfold runsT; rw [List.flatMap_append]
theorem runsT_one (a s : Nat) : runsT [(a, s)] = List.range' a s := by unfold runsT; simp
theorem runsT_add (l : List (Nat × Nat)) (u n : Nat) : runsT (addR l u n) = runsT l ++ List.range' u n := by
  rcases List.eq_nil_or_concat l with rfl | ⟨t, ⟨a, s⟩, rfl⟩
  · exact runsT_one u n
  · rw [List.concat_eq_append, addR_snoc]
    split
    · rename_i h
      rw [runsT_app, runsT_app, runsT_one, runsT_one, List.append_assoc, ← h, List.range'_append_1]
    · rw [runsT_app, runsT_one]
def isNo (no : Nat) (z : Lz) : Bool := decide (z.no = no)
def byOf (lt : List Lz) (no : Nat) : List UInt8 := (lt.filter (isNo no)).map Lz.x
def tmOf (lt : List Lz) (no : Nat) : List Nat := (lt.filter (isNo no)).map Lz.t
def newZ (no : Nat) : List UInt8 → Nat → List Lz
  | [], _ => []
  | x :: t, u => ⟨no, x, u⟩ :: newZ no t (u + 1)
theorem newZ_snoc (no : Nat) (x : UInt8) : ∀ (b : List UInt8) (u : Nat), newZ no (b ++ [x]) u = newZ no b u ++ [⟨no, x, u + b.length⟩]
  | [], _ => rfl
  | y :: t, u => by
    show ⟨no, y, u⟩ :: newZ no (t ++ [x]) (u + 1) = ⟨no, y, u⟩ :: (newZ no t (u + 1) ++ _)
    rw [newZ_snoc no x t (u + 1), List.length_cons]
    congr 4
    omega
theorem newZ_mem {no : Nat} {z : Lz} : ∀ {b : List UInt8} {u : Nat}, z ∈ newZ no b u → z.no = no ∧ u ≤ z.t ∧ z.t < u + b.length
  | x :: t, u, h => by
    rcases List.mem_cons.1 h with rfl | h
    · exact ⟨rfl, Nat.le_refl _, by simp⟩
    · obtain ⟨h1, h2, h3⟩ := newZ_mem h
      refine ⟨h1, by omega, ?_⟩
      rw [List.length_cons]
      omega
theorem newZ_up (no : Nat) : ∀ (b : List UInt8) (u : Nat), (newZ no b u).Pairwise fun a b => a.t < b.t
  | [], _ => List.Pairwise.nil
  | _ :: t, u => List.pairwise_cons.2 ⟨fun _ hz => (newZ_mem hz).2.1, newZ_up no t (u + 1)⟩
theorem newZ_x (no : Nat) : ∀ (b : List UInt8) (u : Nat), (newZ no b u).map Lz.x = b
  | [], _ => rfl
  | x :: t, u => by show x :: (newZ no t (u + 1)).map Lz.x = x :: t; rw [newZ_x no t]
theorem newZ_t (no : Nat) : ∀ (b : List UInt8) (u : Nat), (newZ no b u).map Lz.t = List.range' u b.length
  | [], _ => rfl
  | x :: t, u => by show u :: (newZ no t (u + 1)).map Lz.t = List.range' u (t.length + 1); rw [newZ_t no t, List.range'_succ]
theorem newZ_all (no : Nat) (b : List UInt8) (u : Nat) : (newZ no b u).filter (isNo no) = newZ no b u := List.filter_eq_self.2 fun _ hz => decide_eq_true (newZ_mem hz).1
theorem newZ_none {no no' : Nat} (h : no ≠ no') (b : List UInt8) (u : Nat) : (newZ no b u).filter (isNo no') = [] := by
  rw [List.filter_eq_nil_iff]
  intro z hz
  unfold isNo
  rw [(newZ_mem hz).1, decide_eq_false h]
  decide
theorem byOf_app (l m : List Lz) (no : Nat) : byOf (l ++ m) no = byOf l no ++ byOf m no := by unfold byOf; rw [List.filter_append, List.map_append]
theorem tmOf_app (l m : List Lz) (no : Nat) : tmOf (l ++ m) no = tmOf l no ++ tmOf m no := by unfold tmOf; rw [List.filter_append, List.map_append]
/-- What is left when a file's bytes are taken. -/
def outZ (lt : List Lz) (no : Nat) : List Lz := lt.filter fun z => !isNo no z
theorem out_same (lt : List Lz) (no : Nat) : (outZ lt no).filter (isNo no) = [] := by
  rw [List.filter_eq_nil_iff]
  intro z hz
  have := (List.mem_filter.1 hz).2
  rw [Bool.not_eq_true'] at this
  rw [this]
  decide
theorem out_other (lt : List Lz) {no no' : Nat} (h : no ≠ no') : (outZ lt no).filter (isNo no') = lt.filter (isNo no') := by
  unfold outZ
  rw [List.filter_filter]
  refine List.filter_congr fun z _ => ?_
  unfold isNo
  by_cases q : z.no = no'
  · rw [decide_eq_true q, decide_eq_false (fun e => h (e.symm.trans q))]; rfl
  · rw [decide_eq_false q, Bool.false_and]
/-- A file of the document's. -/
structure Rs where
  n : ByteArray
  no : Nat
  s : List UInt8
  h : Bool
def kB (f : Fv) : Bool := !(decide (f.m = 0) && !f.h)
def mkR (p : Fv × Nat) : Rs := ⟨p.1.n, p.2, p.1.d.take p.1.m, kB p.1⟩
abbrev Ps := List (Fv × Nat)
/-- The document's disk is as ours. -/
structure Ag (ps : Ps) (lt : List Lz) (u nx : Nat) : Prop where
  ri : RisV (ps.map Prod.fst)
  nd : (ps.map Prod.snd).Nodup
  nx : ∀ p ∈ ps, p.2 ≤ nx
  f : ∀ p ∈ ps, p.1.m ≤ p.1.d.length ∧ byOf lt p.2 = p.1.d.drop p.1.m ∧ tmOf lt p.2 = runsT p.1.l
  up : lt.Pairwise fun a b => a.t < b.t
  lo : ∀ z ∈ lt, z.t < u ∧ ∃ p ∈ ps, p.2 = z.no
theorem ag_nil : Ag [] [] 0 0 := ⟨List.Pairwise.nil, List.nodup_nil, fun p h => (by cases h), fun p h => (by cases h), List.Pairwise.nil, fun z h => (by cases h)⟩
theorem nd_mid {A C : Ps} {p : Fv × Nat} (h : ((A ++ p :: C).map Prod.snd).Nodup) : ∀ q ∈ A ++ C, q.2 ≠ p.2 := by
  rw [List.map_append, List.map_cons] at h
  obtain ⟨h1, h2, h3⟩ := List.pairwise_append.1 h
  obtain ⟨h4, _⟩ := List.pairwise_cons.1 h2
  intro q hq
  rcases List.mem_append.1 hq with r | r
  · exact h3 _ (List.mem_map_of_mem r) _ List.mem_cons_self
  · exact fun e => h4 _ (List.mem_map_of_mem r) e.symm
theorem nd_rest {A C : Ps} {p : Fv × Nat} (h : ((A ++ p :: C).map Prod.snd).Nodup) : ((A ++ C).map Prod.snd).Nodup := by
  rw [List.map_append, List.map_cons] at h
  rw [List.map_append]
  obtain ⟨h1, h2, h3⟩ := List.pairwise_append.1 h
  obtain ⟨h4, h5⟩ := List.pairwise_cons.1 h2
  exact List.pairwise_append.2 ⟨h1, h5, fun a ha c hc => h3 a ha c (List.mem_cons_of_mem _ hc)⟩
theorem nd_put {A C : Ps} {p : Fv × Nat} (h : ((A ++ C).map Prod.snd).Nodup) (hp : ∀ q ∈ A ++ C, q.2 ≠ p.2) : ((A ++ p :: C).map Prod.snd).Nodup := by
  rw [List.map_append] at h
  rw [List.map_append, List.map_cons]
  obtain ⟨h1, h2, h3⟩ := List.pairwise_append.1 h
  refine List.pairwise_append.2 ⟨h1, List.pairwise_cons.2 ⟨fun b hb => ?_, h2⟩, fun a ha c hc => ?_⟩
  · obtain ⟨q, hq, rfl⟩ := List.mem_map.1 hb
    exact fun e => hp q (List.mem_append_right _ hq) e.symm
  · rcases List.mem_cons.1 hc with rfl | hc
    · obtain ⟨q, hq, rfl⟩ := List.mem_map.1 ha
      exact hp q (List.mem_append_left _ hq)
    · exact h3 a ha c hc
theorem mem_mid {A C : Ps} {p q : Fv × Nat} (h : q ∈ A ++ p :: C) : q = p ∨ q ∈ A ++ C := by
  rcases List.mem_append.1 h with r | r
  · exact .inr (List.mem_append_left _ r)
  · rcases List.mem_cons.1 r with r | r
    · exact .inl r
    · exact .inr (List.mem_append_right _ r)
theorem mem_rest {A C : Ps} {p q : Fv × Nat} (h : q ∈ A ++ C) : q ∈ A ++ p :: C := by
  rcases List.mem_append.1 h with r | r
  · exact List.mem_append_left _ r
  · exact List.mem_append_right _ (List.mem_cons_of_mem _ r)
theorem fst_mid (A C : Ps) (p : Fv × Nat) : (A ++ p :: C).map Prod.fst = A.map Prod.fst ++ p.1 :: C.map Prod.fst := by rw [List.map_append, List.map_cons]
theorem fst_app (A C : Ps) : (A ++ C).map Prod.fst = A.map Prod.fst ++ C.map Prod.fst := List.map_append
theorem add_q (f : Fv) (b : List UInt8) (u : Nat) : (f.add b u).m = f.m := by unfold Fv.add; split <;> rfl
/-- Bytes at the end of a file that is there. -/
theorem ag_write {A C : Ps} {f : Fv} {no u nx : Nat} {lt : List Lz} (h : Ag (A ++ (f, no) :: C) lt u nx) (b : List UInt8) :
    Ag (A ++ (f.add b u, no) :: C) (lt ++ newZ no b u) (u + b.length) nx ∧ (A ++ (f.add b u, no) :: C).map Prod.fst = wrV f.n b u ((A ++ (f, no) :: C).map Prod.fst) := by
  have hri := h.ri
  rw [fst_mid] at hri
  have hv : (A ++ (f.add b u, no) :: C).map Prod.fst = wrV f.n b u ((A ++ (f, no) :: C).map Prod.fst) := by
    rw [fst_mid, fst_mid]
    unfold wrV
    rw [get_mid hri]
    exact (upd_mid hri (Fv.add b u)).symm
  refine ⟨⟨?_, ?_, fun q hq => ?_, fun q hq => ?_, ?_, fun z hz => ?_⟩, hv⟩
  · rw [fst_mid]
    obtain ⟨h1, h2, h3⟩ := midV hri
    exact putVr h3 (fun a ha => by rw [add_n]; exact h1 a ha) (fun c hc => by rw [add_n]; exact h2 c hc)
  · exact nd_put (nd_rest h.nd) fun q hq => nd_mid h.nd q hq
  · rcases mem_mid hq with rfl | hq
    · exact h.nx (f, no) (by simp)
    · exact h.nx q (mem_rest hq)
  · rcases mem_mid hq with rfl | hq
    · obtain ⟨h1, h2, h3⟩ := h.f (f, no) (by simp)
      refine ⟨?_, ?_, ?_⟩
      · rw [add_q, add_d, List.length_append]
        exact Nat.le_trans h1 (Nat.le_add_right _ _)
      · show byOf _ no = _
        rw [byOf_app, h2, add_q, add_d, List.drop_append_of_le_length h1]
        congr 1
        unfold byOf
        rw [newZ_all, newZ_x]
      · show tmOf _ no = _
        rw [tmOf_app, h3]
        unfold tmOf
        rw [newZ_all, newZ_t]
        unfold Fv.add
        by_cases hb : b = []
        · rw [if_pos hb, hb]
          exact List.append_nil _
        · rw [if_neg hb]
          exact (runsT_add f.l u b.length).symm
    · obtain ⟨h1, h2, h3⟩ := h.f q (mem_rest hq)
      have hne := nd_mid h.nd q hq
      refine ⟨h1, ?_, ?_⟩
      · rw [byOf_app, h2]
        unfold byOf
        rw [newZ_none (fun e => hne e.symm)]
        exact List.append_nil _
      · rw [tmOf_app, h3]
        unfold tmOf
        rw [newZ_none (fun e => hne e.symm)]
        exact List.append_nil _
  · exact List.pairwise_append.2 ⟨h.up, newZ_up no b u, fun a ha c hc => Nat.lt_of_lt_of_le (h.lo a ha).1 (newZ_mem hc).2.1⟩
  · rcases List.mem_append.1 hz with r | r
    · obtain ⟨h1, q, hq, e⟩ := h.lo z r
      refine ⟨by omega, ?_⟩
      rcases mem_mid hq with rfl | hq
      · exact ⟨(f.add b u, no), by simp, e⟩
      · exact ⟨q, mem_rest hq, e⟩
    · obtain ⟨h1, h2, h3⟩ := newZ_mem r
      exact ⟨h3, (f.add b u, no), by simp, h1.symm⟩
theorem none_of {lt : List Lz} {no : Nat} (h : ∀ z ∈ lt, z.no ≠ no) : lt.filter (isNo no) = [] := by
  rw [List.filter_eq_nil_iff]
  intro z hz
  unfold isNo
  rw [decide_eq_false (h z hz)]
  decide
/-- Bytes in a file that is made. -/
theorem ag_make {A C : Ps} {x : ByteArray} {u nx : Nat} {lt : List Lz} (h : Ag (A ++ C) lt u nx) (hA : ∀ a ∈ A, bef a.1.n x = true) (hC : ∀ c ∈ C, bef x c.1.n = true) (b : List UInt8) :
    Ag (A ++ ((newV x).add b u, nx + 1) :: C) (lt ++ newZ (nx + 1) b u) (u + b.length) (nx + 1) ∧ (A ++ ((newV x).add b u, nx + 1) :: C).map Prod.fst = wrV x b u ((A ++ C).map Prod.fst) := by
  have hri := h.ri
  rw [fst_app] at hri
  have hA1 : ∀ a ∈ A.map Prod.fst, bef a.n x = true := fun a ha => by obtain ⟨q, hq, rfl⟩ := List.mem_map.1 ha; exact hA q hq
  have hC1 : ∀ c ∈ C.map Prod.fst, bef x c.n = true := fun a ha => by obtain ⟨q, hq, rfl⟩ := List.mem_map.1 ha; exact hC q hq
  have hno : ∀ q ∈ A ++ C, q.2 ≠ nx + 1 := fun q hq e => by have := h.nx q hq; omega
  have hlt : ∀ z ∈ lt, z.no ≠ nx + 1 := fun z hz e => by
    obtain ⟨_, q, hq, e2⟩ := h.lo z hz
    exact hno q hq (e2.trans e)
  refine ⟨⟨?_, ?_, fun q hq => ?_, fun q hq => ?_, ?_, fun z hz => ?_⟩, ?_⟩
  · rw [fst_mid]
    exact putVr hri (fun a ha => by rw [add_n]; exact hA1 a ha) (fun c hc => by rw [add_n]; exact hC1 c hc)
  · exact nd_put h.nd hno
  · rcases mem_mid hq with rfl | hq
    · exact Nat.le_refl _
    · exact Nat.le_succ_of_le (h.nx q hq)
  · rcases mem_mid hq with rfl | hq
    · refine ⟨?_, ?_, ?_⟩
      · rw [add_q]
        exact Nat.zero_le _
      · show byOf _ (nx + 1) = _
        rw [byOf_app, add_q, add_d]
        unfold byOf
        rw [none_of hlt, newZ_all, newZ_x]
        rfl
      · show tmOf _ (nx + 1) = _
        rw [tmOf_app]
        unfold tmOf
        rw [none_of hlt, newZ_all, newZ_t]
        unfold Fv.add
        by_cases hb : b = []
        · rw [if_pos hb, hb]
          rfl
        · rw [if_neg hb]
          exact (runsT_add [] u b.length).symm
    · obtain ⟨h1, h2, h3⟩ := h.f q hq
      have hne := hno q hq
      refine ⟨h1, ?_, ?_⟩
      · rw [byOf_app, h2]
        unfold byOf
        rw [newZ_none (fun e => hne e.symm)]
        exact List.append_nil _
      · rw [tmOf_app, h3]
        unfold tmOf
        rw [newZ_none (fun e => hne e.symm)]
        exact List.append_nil _
  · exact List.pairwise_append.2 ⟨h.up, newZ_up _ b u, fun a ha c hc => Nat.lt_of_lt_of_le (h.lo a ha).1 (newZ_mem hc).2.1⟩
  · rcases List.mem_append.1 hz with r | r
    · obtain ⟨h1, q, hq, e⟩ := h.lo z r
      exact ⟨by omega, q, mem_rest hq, e⟩
    · obtain ⟨h1, h2, h3⟩ := newZ_mem r
      exact ⟨h3, _, List.mem_append_right _ List.mem_cons_self, h1.symm⟩
  · rw [fst_mid, fst_app]
    unfold wrV
    rw [get_out hA1 hC1]
    exact (ins_split (fun a ha => by rw [add_n]; exact hA1 a ha) (fun c hc => by rw [add_n]; exact hC1 c hc)).symm
/-- A file whose bytes that don't last are taken, is given what of its own one says. -/
theorem ag_turn {A C : Ps} {f g : Fv} {no u nx : Nat} {lt : List Lz} (h : Ag (A ++ (f, no) :: C) lt u nx) (hn : g.n = f.n) (hm : g.m = g.d.length) (hl : g.l = []) :
    Ag (A ++ (g, no) :: C) (outZ lt no) u nx := by
  have hri := h.ri
  rw [fst_mid] at hri
  refine ⟨?_, ?_, fun q hq => ?_, fun q hq => ?_, h.up.filter _, fun z hz => ?_⟩
  · rw [fst_mid]
    obtain ⟨h1, h2, h3⟩ := midV hri
    exact putVr h3 (fun a ha => by show bef a.n g.n = true; rw [hn]; exact h1 a ha) (fun c hc => by show bef g.n c.n = true; rw [hn]; exact h2 c hc)
  · exact nd_put (nd_rest h.nd) fun q hq => nd_mid h.nd q hq
  · rcases mem_mid hq with rfl | hq
    · exact h.nx (f, no) (by simp)
    · exact h.nx q (mem_rest hq)
  · rcases mem_mid hq with rfl | hq
    · refine ⟨Nat.le_of_eq hm, ?_, ?_⟩
      · show byOf _ no = g.d.drop g.m
        unfold byOf
        rw [out_same, hm, List.drop_length]
        rfl
      · show tmOf _ no = runsT g.l
        unfold tmOf
        rw [out_same, hl]
        rfl
    · obtain ⟨h1, h2, h3⟩ := h.f q (mem_rest hq)
      have hne := nd_mid h.nd q hq
      refine ⟨h1, ?_, ?_⟩
      · unfold byOf
        rw [out_other lt (fun e => hne e.symm)]
        exact h2
      · unfold tmOf
        rw [out_other lt (fun e => hne e.symm)]
        exact h3
  · obtain ⟨h1, q, hq, e⟩ := h.lo z (List.mem_filter.1 hz).1
    refine ⟨h1, ?_⟩
    rcases mem_mid hq with rfl | hq
    · exact ⟨(g, no), by simp, e⟩
    · exact ⟨q, mem_rest hq, e⟩
theorem ag_sync {A C : Ps} {f : Fv} {no u nx : Nat} {lt : List Lz} (h : Ag (A ++ (f, no) :: C) lt u nx) :
    Ag (A ++ (f.sync, no) :: C) (outZ lt no) u nx ∧ (A ++ (f.sync, no) :: C).map Prod.fst = updV f.n Fv.sync ((A ++ (f, no) :: C).map Prod.fst) := by
  have hri := h.ri
  rw [fst_mid] at hri
  refine ⟨ag_turn h rfl rfl rfl, ?_⟩
  rw [fst_mid, fst_mid]
  exact (upd_mid hri Fv.sync).symm
/-- A file that is taken away. -/
theorem ag_drop {A C : Ps} {f : Fv} {no u nx : Nat} {lt : List Lz} (h : Ag (A ++ (f, no) :: C) lt u nx) :
    Ag (A ++ C) (outZ lt no) u nx ∧ (A ++ C).map Prod.fst = dropV f.n ((A ++ (f, no) :: C).map Prod.fst) := by
  have hri := h.ri
  rw [fst_mid] at hri
  obtain ⟨_, _, h3⟩ := midV hri
  refine ⟨⟨by rw [fst_app]; exact h3, nd_rest h.nd, fun q hq => h.nx q (mem_rest hq), fun q hq => ?_, h.up.filter _, fun z hz => ?_⟩, ?_⟩
  · obtain ⟨h1, h2, h3⟩ := h.f q (mem_rest hq)
    have hne := nd_mid h.nd q hq
    refine ⟨h1, ?_, ?_⟩
    · unfold byOf
      rw [out_other lt (fun e => hne e.symm)]
      exact h2
    · unfold tmOf
      rw [out_other lt (fun e => hne e.symm)]
      exact h3
  · obtain ⟨hz1, hz2⟩ := List.mem_filter.1 hz
    obtain ⟨h1, q, hq, e⟩ := h.lo z hz1
    refine ⟨h1, ?_⟩
    rcases mem_mid hq with rfl | hq
    · rw [show isNo no z = true from decide_eq_true e.symm] at hz2
      cases hz2
    · exact ⟨q, hq, e⟩
  · rw [fst_app, fst_mid]
    exact (drop_mid hri).symm
end Go.Proofs.YtofkfafdodhmdaaGreatDoor

/- A file that is called otherwise, in the document's words and in ours. Conditions: none. -/
namespace Go.Proofs.YtofkfafdodhmdaaGreatDoor
open Go.RowKit

/-- A name that isn't there. -/
theorem ag_move {A C P Q : Ps} {f : Fv} {no u nx : Nat} {lt : List Lz} {y : ByteArray} (h : Ag (A ++ (f, no) :: C) lt u nx) (e : A ++ C = P ++ Q) (hP : ∀ a ∈ P, bef a.1.n y = true) (hQ : ∀ c ∈ Q, bef y c.1.n = true) :
    Ag (P ++ (f.call y, no) :: Q) lt u nx ∧ (P ++ (f.call y, no) :: Q).map Prod.fst = insV (f.call y) (dropV y (dropV f.n ((A ++ (f, no) :: C).map Prod.fst))) := by
  have hri := h.ri
  rw [fst_mid] at hri
  obtain ⟨_, _, h3⟩ := midV hri
  rw [← fst_app, e, fst_app] at h3
  have hP1 : ∀ a ∈ P.map Prod.fst, bef a.n y = true := fun a ha => by obtain ⟨q, hq, rfl⟩ := List.mem_map.1 ha; exact hP q hq
  have hQ1 : ∀ c ∈ Q.map Prod.fst, bef y c.n = true := fun a ha => by obtain ⟨q, hq, rfl⟩ := List.mem_map.1 ha; exact hQ q hq
  refine ⟨⟨?_, ?_, fun q hq => ?_, fun q hq => ?_, h.up, fun z hz => ?_⟩, ?_⟩
  · rw [fst_mid]
    exact putVr h3 hP1 hQ1
  · have h4 := nd_rest h.nd
    have h5 := nd_mid h.nd
    rw [e] at h4 h5
    exact nd_put h4 h5
  · rcases mem_mid hq with rfl | hq
    · exact h.nx (f, no) (by simp)
    · rw [← e] at hq
      exact h.nx q (mem_rest hq)
  · rcases mem_mid hq with rfl | hq
    · exact h.f (f, no) (by simp)
    · rw [← e] at hq
      exact h.f q (mem_rest hq)
  · obtain ⟨h1, q, hq, e2⟩ := h.lo z hz
    refine ⟨h1, ?_⟩
    rcases mem_mid hq with rfl | hq
    · exact ⟨(f.call y, no), by simp, e2⟩
    · rw [e] at hq
      exact ⟨q, mem_rest hq, e2⟩
  · rw [fst_mid, fst_mid, drop_mid hri, ← fst_app, e, fst_app, drop_out hP1 hQ1]
    exact (ins_split hP1 hQ1).symm
theorem mid_filter {A C : Ps} {p : Fv × Nat} (h : ((A ++ p :: C).map Prod.snd).Nodup) : (A ++ p :: C).filter (fun q => decide (q.2 ≠ p.2)) = A ++ C := by
  have hn := nd_mid h
  rw [List.filter_append, List.filter_cons_of_neg (by simp)]
  congr 1
  · exact List.filter_eq_self.2 fun q hq => decide_eq_true (hn q (List.mem_append_left _ hq))
  · exact List.filter_eq_self.2 fun q hq => decide_eq_true (hn q (List.mem_append_right _ hq))
theorem drop_two (y x : ByteArray) (vs : Vs) : dropV y (dropV x (dropV y vs)) = dropV y (dropV x vs) := by
  unfold dropV
  rw [List.filter_filter, List.filter_filter, List.filter_filter]
  refine List.filter_congr fun g _ => ?_
  cases decide (g.n ≠ y) <;> cases decide (g.n ≠ x) <;> rfl
/-- A name that is there: that file is taken away. -/
theorem ag_over {A C P Q : Ps} {f g : Fv} {no no' u nx : Nat} {lt : List Lz} (h : Ag (A ++ (f, no) :: C) lt u nx) (e : A ++ C = P ++ (g, no') :: Q) :
    Ag (P ++ (f.call g.n, no) :: Q) (outZ lt no') u nx ∧ (P ++ (f.call g.n, no) :: Q).map Prod.fst = insV (f.call g.n) (dropV g.n (dropV f.n ((A ++ (f, no) :: C).map Prod.fst))) := by
  have hg : (g, no') ∈ A ++ (f, no) :: C := mem_rest (by rw [e]; simp)
  have hne : no' ≠ no := nd_mid h.nd (g, no') (by rw [e]; simp)
  obtain ⟨X, Y, hO⟩ := List.append_of_mem hg
  have h1 := h
  rw [hO] at h1
  obtain ⟨h2, v2⟩ := ag_drop h1
  have hf : (f, no) ∈ X ++ Y := by
    have : (f, no) ∈ X ++ (g, no') :: Y := by rw [← hO]; simp
    rcases mem_mid this with q | q
    · exact absurd (congrArg Prod.snd q).symm hne
    · exact q
  obtain ⟨A', C', hXY⟩ := List.append_of_mem hf
  have h3 := h2
  rw [hXY] at h3
  have e1 := mid_filter h.nd
  have e2 := mid_filter h1.nd
  have e3 := mid_filter h3.nd
  have hndAC := nd_rest h.nd
  rw [e] at hndAC
  have e4 := mid_filter hndAC
  have e5 : A' ++ C' = P ++ Q := by
    rw [← e3, ← hXY, ← e2, ← e4, ← e, ← e1, hO, List.filter_filter, List.filter_filter]
    refine List.filter_congr fun q _ => ?_
    cases decide (q.2 ≠ no) <;> cases decide (q.2 ≠ no') <;> rfl
  have hri := h.ri
  rw [fst_mid] at hri
  obtain ⟨_, _, hri2⟩ := midV hri
  rw [← fst_app, e, fst_mid] at hri2
  obtain ⟨g1, g2, _⟩ := midV hri2
  obtain ⟨h6, v6⟩ := ag_move h3 e5 (y := g.n) (fun a ha => g1 a.1 (List.mem_map_of_mem ha)) (fun c hc => g2 c.1 (List.mem_map_of_mem hc))
  refine ⟨h6, ?_⟩
  rw [v6, ← hXY, v2, ← hO, drop_two]
end Go.Proofs.YtofkfafdodhmdaaGreatDoor

/- A crash in the document's words and in ours. Conditions: none. -/
namespace Go.Proofs.YtofkfafdodhmdaaGreatDoor
open Go.RowKit

theorem fm_congr {α β : Type} {l : List α} {f g : α → List β} (h : ∀ x ∈ l, f x = g x) : l.flatMap f = l.flatMap g := by
  rw [List.flatMap_def, List.flatMap_def, List.map_congr_left h]
def flatPc (l : List Pc) : List (Nat × Nat) := l.flatMap fun p => (List.range' p.2.1 p.2.2).map fun t => (p.1, t)
theorem part_count (p : Pc) (b n : Nat) : (((List.range' p.2.1 p.2.2).map fun t => (p.1, t)).take n).countP (fun x => decide (x.1 = b)) = if p.1 = b then min n p.2.2 else 0 := by
  have hall : ∀ x ∈ ((List.range' p.2.1 p.2.2).map fun t => (p.1, t)).take n, x.1 = p.1 := fun x hx => by
    obtain ⟨t, _, rfl⟩ := List.mem_map.1 (List.mem_of_mem_take hx)
    rfl
  by_cases q : p.1 = b
  · rw [if_pos q, List.countP_eq_length.2 fun x hx => decide_eq_true ((hall x hx).trans q), List.length_take, List.length_map, List.length_range']
  · rw [if_neg q, List.countP_eq_zero]
    intro x hx
    rw [decide_eq_false fun e => q ((hall x hx).symm.trans e)]
    decide
theorem inc_count (b : Nat) : ∀ (l : List Pc) (K : Int), incP l K b = ((flatPc l).take K.toNat).countP (fun x => decide (x.1 = b))
  | [], K => by
    show 0 = ((([] : List (Nat × Nat))).take K.toNat).countP _
    rw [List.take_nil]
    rfl
  | p :: t, K => by
    show (if p.1 = b then kp K p.2.2 else 0) + incP t _ b = _
    have e : flatPc (p :: t) = ((List.range' p.2.1 p.2.2).map fun t => (p.1, t)) ++ flatPc t := by unfold flatPc; rw [List.flatMap_cons]
    rw [e, List.take_append, List.countP_append, part_count, inc_count b t, List.length_map, List.length_range']
    have h1 : kp K p.2.2 = min K.toNat p.2.2 := by unfold kp; omega
    have h2 : (K - (kp K p.2.2 : Int)).toNat = K.toNat - p.2.2 := by unfold kp; omega
    rw [h2, h1]
theorem sorted_ext : ∀ {l m : List (Nat × Nat)}, (l.Pairwise fun a b => a.2 < b.2) → (m.Pairwise fun a b => a.2 < b.2) → (∀ x, x ∈ l ↔ x ∈ m) → l = m
  | [], [], _, _, _ => rfl
  | [], y :: m, _, _, h => absurd ((h y).2 List.mem_cons_self) (by simp)
  | x :: l, [], _, _, h => absurd ((h x).1 List.mem_cons_self) (by simp)
  | x :: l, y :: m, h1, h2, h => by
    obtain ⟨a1, a2⟩ := List.pairwise_cons.1 h1
    obtain ⟨b1, b2⟩ := List.pairwise_cons.1 h2
    have e : x = y := by
      rcases List.mem_cons.1 ((h x).1 List.mem_cons_self) with q | q
      · exact q
      · rcases List.mem_cons.1 ((h y).2 List.mem_cons_self) with r | r
        · exact r.symm
        · have := b1 x q
          have := a1 y r
          omega
    subst e
    rw [sorted_ext a2 b2 fun z => ⟨fun hz => ?_, fun hz => ?_⟩]
    · rcases List.mem_cons.1 ((h z).1 (List.mem_cons_of_mem _ hz)) with q | q
      · subst q
        exact absurd (a1 z hz) (Nat.lt_irrefl _)
      · exact q
    · rcases List.mem_cons.1 ((h z).2 (List.mem_cons_of_mem _ hz)) with q | q
      · subst q
        exact absurd (b1 z hz) (Nat.lt_irrefl _)
      · exact q
abbrev Qs := List (Fl × Nat)
def psOf (qs : Qs) : Ps := qs.map fun q => (q.1.v, q.2)
def fsOf (qs : Qs) : List Fl := qs.map Prod.fst
theorem qs_no {qs : Qs} (h : ((psOf qs).map Prod.snd).Nodup) {q q' : Fl × Nat} (hq : q ∈ qs) (hq' : q' ∈ qs) (e : q.2 = q'.2) : q = q' := by
  obtain ⟨X, Y, rfl⟩ := List.append_of_mem hq
  unfold psOf at h
  rw [List.map_map, List.map_append, List.map_cons] at h
  obtain ⟨_, h2, h3⟩ := List.pairwise_append.1 h
  obtain ⟨h4, _⟩ := List.pairwise_cons.1 h2
  rcases List.mem_append.1 hq' with r | r
  · exact absurd e.symm (h3 _ (List.mem_map_of_mem r) _ List.mem_cons_self)
  · rcases List.mem_cons.1 r with r | r
    · exact r.symm
    · exact absurd e (h4 _ (List.mem_map_of_mem r))
theorem qs_b {qs : Qs} (h : (fsOf qs).Pairwise Fl.apart) {q q' : Fl × Nat} (hq : q ∈ qs) (hq' : q' ∈ qs) (e : q.1.b = q'.1.b) : q = q' := by
  obtain ⟨X, Y, rfl⟩ := List.append_of_mem hq
  unfold fsOf at h
  rw [List.map_append, List.map_cons] at h
  obtain ⟨_, h2, h3⟩ := List.pairwise_append.1 h
  obtain ⟨h4, _⟩ := List.pairwise_cons.1 h2
  rcases List.mem_append.1 hq' with r | r
  · exact absurd (.inl e.symm) (h3 _ (List.mem_map_of_mem r) _ List.mem_cons_self q'.1.b (.inl rfl))
  · rcases List.mem_cons.1 r with r | r
    · exact r.symm
    · exact absurd (.inl e) (h4 _ (List.mem_map_of_mem r) q.1.b (.inl rfl))
/-- The block of the file with a number. -/
def bo (qs : Qs) (no : Nat) : Nat := match qs.find? fun q => decide (q.2 = no) with
  | some q => q.1.b
  | none => 0
theorem bo_q {qs : Qs} (h : ((psOf qs).map Prod.snd).Nodup) {q : Fl × Nat} (hq : q ∈ qs) : bo qs q.2 = q.1.b := by
  unfold bo
  cases hf : qs.find? fun q' => decide (q'.2 = q.2) with
  | none => exact absurd (List.find?_eq_none.1 hf q hq) (by simp)
  | some q' =>
    have h1 := List.find?_some hf
    have h2 := List.mem_of_find?_eq_some hf
    rw [qs_no h h2 hq (of_decide_eq_true h1)]
theorem flat_mem {l : List Pc} {x : Nat × Nat} : x ∈ flatPc l ↔ ∃ p ∈ l, x.1 = p.1 ∧ p.2.1 ≤ x.2 ∧ x.2 < p.2.1 + p.2.2 := by
  unfold flatPc
  rw [List.mem_flatMap]
  refine ⟨fun ⟨p, hp, h⟩ => ?_, fun ⟨p, hp, h1, h2, h3⟩ => ⟨p, hp, ?_⟩⟩
  · obtain ⟨t, ht, rfl⟩ := List.mem_map.1 h
    obtain ⟨h1, h2⟩ := List.mem_range'_1.1 ht
    exact ⟨p, hp, rfl, h1, h2⟩
  · exact List.mem_map.2 ⟨x.2, List.mem_range'_1.2 ⟨h2, h3⟩, by rw [← h1]⟩
theorem runs_mem {l : List (Nat × Nat)} {t : Nat} : t ∈ runsT l ↔ ∃ r ∈ l, r.1 ≤ t ∧ t < r.1 + r.2 := by
  unfold runsT
  rw [List.mem_flatMap]
  exact ⟨fun ⟨r, hr, h⟩ => ⟨r, hr, List.mem_range'_1.1 h⟩, fun ⟨r, hr, h⟩ => ⟨r, hr, List.mem_range'_1.2 h⟩⟩
theorem all_mem {fs : List Fl} {p : Pc} : p ∈ allP fs ↔ ∃ f ∈ fs, p.1 = f.b ∧ p.2 ∈ f.l := by
  unfold allP pcsF
  rw [List.mem_flatMap]
  refine ⟨fun ⟨f, hf, h⟩ => ?_, fun ⟨f, hf, h1, h2⟩ => ⟨f, hf, ?_⟩⟩
  · obtain ⟨r, hr, rfl⟩ := List.mem_map.1 h
    exact ⟨f, hf, rfl, hr⟩
  · exact List.mem_map.2 ⟨p.2, h2, by rw [← h1]⟩
theorem up_inj {lt : List Lz} (h : lt.Pairwise fun a b => a.t < b.t) {z z' : Lz} (hz : z ∈ lt) (hz' : z' ∈ lt) (e : z.t = z'.t) : z = z' := by
  obtain ⟨X, Y, rfl⟩ := List.append_of_mem hz
  obtain ⟨_, h2, h3⟩ := List.pairwise_append.1 h
  obtain ⟨h4, _⟩ := List.pairwise_cons.1 h2
  rcases List.mem_append.1 hz' with r | r
  · have := h3 z' r z List.mem_cons_self
    omega
  · rcases List.mem_cons.1 r with r | r
    · exact r.symm
    · have := h4 z' r
      omega
theorem tm_mem {lt : List Lz} {no t : Nat} : t ∈ tmOf lt no ↔ ∃ z ∈ lt, z.no = no ∧ z.t = t := by
  unfold tmOf
  rw [List.mem_map]
  exact ⟨fun ⟨z, hz, e⟩ => ⟨z, (List.mem_filter.1 hz).1, of_decide_eq_true (List.mem_filter.1 hz).2, e⟩, fun ⟨z, hz, e1, e2⟩ => ⟨z, List.mem_filter.2 ⟨hz, decide_eq_true e1⟩, e2⟩⟩
/-- The bytes that don't last, in the order of the runs, are in the order of writing. -/
theorem flat_is {qs : Qs} {lt : List Lz} {u nx : Nat} {l : List Pc} (h : Ag (psOf qs) lt u nx) (hpm : l.Perm (allP (fsOf qs))) (hs : l.Pairwise fun x y => x.2.1 ≤ y.2.1) : flatPc l = lt.map fun z => (bo qs z.no, z.t) := by
  have hf : ∀ q ∈ qs, tmOf lt q.2 = runsT q.1.l := fun q hq => (h.f (q.1.v, q.2) (List.mem_map_of_mem hq)).2.2
  refine sorted_ext ?_ (List.pairwise_map.2 h.up) fun x => ?_
  · have hnd : ((flatPc (allP (fsOf qs))).map Prod.snd).Nodup := by
      have e : (flatPc (allP (fsOf qs))).map Prod.snd = qs.flatMap fun q => tmOf lt q.2 := by
        unfold flatPc allP fsOf
        rw [List.map_flatMap, List.flatMap_assoc, List.flatMap_map]
        refine fm_congr fun q hq => ?_
        rw [hf q hq]
        unfold pcsF runsT
        rw [List.flatMap_map]
        refine fm_congr fun r _ => ?_
        rw [List.map_map]
        exact List.map_id _
      rw [e]
      refine List.pairwise_flatMap.2 ⟨fun q hq => ?_, ?_⟩
      · unfold tmOf
        exact List.pairwise_map.2 ((h.up.filter _).imp fun h => Nat.ne_of_lt h)
      · have hq : (qs.map Prod.snd).Pairwise (· ≠ ·) := by
          have := h.nd
          unfold psOf at this
          rw [List.map_map] at this
          exact this
        refine (List.pairwise_map.1 hq).imp fun {q q'} hne x hx y hy e => ?_
        obtain ⟨z, hz, z1, z2⟩ := tm_mem.1 hx
        obtain ⟨z', hz', z3, z4⟩ := tm_mem.1 hy
        have := up_inj h.up hz hz' (by rw [z2, z4, e])
        subst this
        exact hne (z1.symm.trans z3)
    have hnd2 : ((flatPc l).map Prod.snd).Nodup := ((hpm.flatMap_right _).map _).nodup_iff.2 hnd
    have e2 : (flatPc l).map Prod.snd = l.flatMap fun p => List.range' p.2.1 p.2.2 := by
      unfold flatPc
      rw [List.map_flatMap]
      refine fm_congr fun p _ => ?_
      rw [List.map_map]
      exact List.map_id _
    rw [e2] at hnd2
    have h3 := (List.pairwise_flatMap.1 hnd2).2
    unfold flatPc
    refine List.pairwise_flatMap.2 ⟨fun p _ => List.pairwise_map.2 (List.pairwise_lt_range' 1), (hs.and h3).imp fun {p q} ⟨k1, k2⟩ x hx y hy => ?_⟩
    obtain ⟨t, ht, rfl⟩ := List.mem_map.1 hx
    obtain ⟨t', ht', rfl⟩ := List.mem_map.1 hy
    obtain ⟨a1, a2⟩ := List.mem_range'_1.1 ht
    obtain ⟨b1, b2⟩ := List.mem_range'_1.1 ht'
    show t < t'
    by_cases q1 : t < t'
    · exact q1
    · exact absurd rfl (k2 t' (List.mem_range'_1.2 ⟨by omega, by omega⟩) t' ht')
  · rw [flat_mem]
    refine ⟨fun ⟨p, hp, h1, h2, h3⟩ => ?_, fun hx => ?_⟩
    · obtain ⟨f, hf2, e1, e2⟩ := all_mem.1 (hpm.mem_iff.1 hp)
      obtain ⟨q, hq, rfl⟩ := List.mem_map.1 hf2
      have ht : x.2 ∈ tmOf lt q.2 := by
        rw [hf q hq]
        exact runs_mem.2 ⟨p.2, e2, h2, h3⟩
      obtain ⟨z, hz, z1, z2⟩ := tm_mem.1 ht
      refine List.mem_map.2 ⟨z, hz, ?_⟩
      rw [z1, bo_q h.nd hq, z2, ← e1, ← h1]
    · obtain ⟨z, hz, rfl⟩ := List.mem_map.1 hx
      obtain ⟨_, p, hp, e⟩ := h.lo z hz
      obtain ⟨q, hq, rfl⟩ := List.mem_map.1 hp
      have e' : q.2 = z.no := e
      have ht : z.t ∈ runsT q.1.l := by
        rw [← hf q hq]
        exact tm_mem.2 ⟨z, hz, e'.symm, rfl⟩
      obtain ⟨r, hr, r1, r2⟩ := runs_mem.1 ht
      refine ⟨(q.1.b, r), hpm.mem_iff.2 (all_mem.2 ⟨q.1, List.mem_map_of_mem hq, rfl, hr⟩), ?_, r1, r2⟩
      show bo qs z.no = q.1.b
      rw [← e', bo_q h.nd hq]
/-- How many of a file's bytes are kept. -/
theorem inc_is {qs : Qs} {lt : List Lz} {u nx : Nat} {l : List Pc} (h : Ag (psOf qs) lt u nx) (hap : (fsOf qs).Pairwise Fl.apart) (hpm : l.Perm (allP (fsOf qs))) (hs : l.Pairwise fun x y => x.2.1 ≤ y.2.1) (K : Int) {q : Fl × Nat} (hq : q ∈ qs) :
    incP l K q.1.b = (lt.take K.toNat).countP (isNo q.2) := by
  rw [inc_count, flat_is h hpm hs, ← List.map_take, List.countP_map]
  refine List.countP_congr fun z hz => ?_
  obtain ⟨_, p, hp, e⟩ := h.lo z (List.mem_of_mem_take hz)
  obtain ⟨q', hq', rfl⟩ := List.mem_map.1 hp
  have e' : q'.2 = z.no := e
  show decide (bo qs z.no = q.1.b) = true ↔ decide (z.no = q.2) = true
  rw [← e', bo_q h.nd hq', decide_eq_true_iff, decide_eq_true_iff]
  exact ⟨fun k => by rw [qs_b hap hq' hq k], fun k => by rw [qs_no h.nd hq' hq k]⟩
end Go.Proofs.YtofkfafdodhmdaaGreatDoor

/- Behind a crash the document's disk is as ours. Conditions: none. -/
namespace Go.Proofs.YtofkfafdodhmdaaGreatDoor
open Go.RowKit

theorem take_filter (lt : List Lz) (p : Lz → Bool) (n : Nat) : (lt.take n).filter p = (lt.filter p).take ((lt.take n).countP p) := by
  conv => rhs; rw [← List.take_append_drop n lt]
  rw [List.filter_append, List.countP_eq_length_filter, List.take_append_drop, List.take_left' rfl]
theorem byOf_take (lt : List Lz) (no n : Nat) : byOf (lt.take n) no = (byOf lt no).take ((lt.take n).countP (isNo no)) := by
  unfold byOf
  rw [take_filter, List.map_take]
theorem count_le (lt : List Lz) (no n : Nat) : (lt.take n).countP (isNo no) ≤ (byOf lt no).length := by
  unfold byOf
  rw [List.length_map, List.countP_eq_length_filter]
  exact ((List.take_sublist n lt).filter _).length_le
theorem byOf_len (lt : List Lz) (no n : Nat) : (byOf (lt.take n) no).length = (lt.take n).countP (isNo no) := by
  rw [byOf_take, List.length_take]
  have := count_le lt no n
  omega
def crP (lt : List Lz) (n : Nat) (p : Fv × Nat) : Fv × Nat := ({ p.1 with m := p.1.m + (lt.take n).countP (isNo p.2) }, p.2)
def cuP (p : Fv × Nat) : Fv × Nat := ({ p.1 with d := p.1.d.take p.1.m, l := [] }, p.2)
def crPs (ps : Ps) (lt : List Lz) (n : Nat) : Ps := ((ps.map (crP lt n)).filter fun p => kB p.1).map cuP
theorem fuse {α β γ δ : Type} (a : α → β) (b : α → γ) (pa : β → Bool) (pb : γ → Bool) (ga : β → δ) (gb : γ → δ) : ∀ {l : List α}, (∀ x ∈ l, pa (a x) = pb (b x) ∧ (pa (a x) = true → ga (a x) = gb (b x))) → ((l.map a).filter pa).map ga = ((l.map b).filter pb).map gb
  | [], _ => rfl
  | x :: t, h => by
    obtain ⟨h1, h2⟩ := h x List.mem_cons_self
    have ih := fuse a b pa pb ga gb fun y hy => h y (List.mem_cons_of_mem _ hy)
    rw [List.map_cons, List.map_cons, List.filter_cons, List.filter_cons, ← h1]
    cases hp : pa (a x) with
    | true =>
      rw [if_pos rfl, if_pos rfl, List.map_cons, List.map_cons, ih, h2 hp]
    | false =>
      rw [if_neg (by decide), if_neg (by decide), ih]
/-- Our disk behind a crash. -/
theorem cr_view {qs : Qs} {lt : List Lz} {u nx : Nat} {l : List Pc} (h : Ag (psOf qs) lt u nx) (hap : (fsOf qs).Pairwise Fl.apart) (hpm : l.Perm (allP (fsOf qs))) (hs : l.Pairwise fun x y => x.2.1 ≤ y.2.1) (K : Int) :
    (crPs (psOf qs) lt K.toNat).map Prod.fst = viewF (crF (fsOf qs) l K) := by
  unfold crPs psOf crF fsOf viewF
  rw [List.map_map, List.map_map, List.map_map, List.map_map]
  refine fuse _ _ _ _ _ _ fun q hq => ?_
  have hi := inc_is h hap hpm hs K hq
  refine ⟨?_, fun _ => ?_⟩
  · show kB _ = keepB (mF l K q.1)
    unfold mF
    rw [hi]
    rfl
  · show (cuP (crP lt K.toNat (q.1.v, q.2))).1 = (cutF (mF l K q.1)).v
    unfold mF
    rw [hi]
    rfl
theorem cr_ag {ps : Ps} {lt : List Lz} {u nx : Nat} (h : Ag ps lt u nx) (n : Nat) : Ag (crPs ps lt n) [] u nx := by
  have hm : ∀ q ∈ crPs ps lt n, ∃ p ∈ ps, q = cuP (crP lt n p) := fun q hq => by
    obtain ⟨p1, h1, rfl⟩ := List.mem_map.1 hq
    obtain ⟨p, hp, rfl⟩ := List.mem_map.1 (List.mem_filter.1 h1).1
    exact ⟨p, hp, rfl⟩
  refine ⟨?_, ?_, fun q hq => ?_, fun q hq => ?_, List.Pairwise.nil, fun z hz => (by cases hz)⟩
  · refine List.pairwise_map.2 (List.pairwise_map.2 ((List.pairwise_map.2 ?_).filter _))
    exact (List.pairwise_map.1 h.ri).imp id
  · refine List.pairwise_map.2 (List.pairwise_map.2 ((List.pairwise_map.2 ?_).filter _))
    exact (List.pairwise_map.1 h.nd).imp id
  · obtain ⟨p, hp, rfl⟩ := hm q hq
    exact h.nx p hp
  · obtain ⟨p, hp, rfl⟩ := hm q hq
    obtain ⟨h1, h2, _⟩ := h.f p hp
    have hc := count_le lt p.2 n
    rw [h2, List.length_drop] at hc
    refine ⟨?_, ?_, rfl⟩
    · show p.1.m + _ ≤ (p.1.d.take (p.1.m + _)).length
      rw [List.length_take]
      omega
    · show [] = (p.1.d.take (p.1.m + _)).drop (p.1.m + _)
      rw [List.drop_eq_nil_of_le]
      rw [List.length_take]
      omega
/-- What the document's crash does to a file. -/
def rcr (lt : List Lz) (n : Nat) (r : Rs) : Rs := { r with s := r.s ++ byOf (lt.take n) r.no, h := r.h || !(byOf (lt.take n) r.no).isEmpty }
theorem cr_ref {ps : Ps} {lt : List Lz} {u nx : Nat} (h : Ag ps lt u nx) (n : Nat) : (crPs ps lt n).map mkR = ((ps.map mkR).map (rcr lt n)).filter Rs.h := by
  have e : ((ps.map mkR).map (rcr lt n)).filter Rs.h = ((ps.map fun p => rcr lt n (mkR p)).filter Rs.h).map id := by rw [List.map_id, List.map_map]; rfl
  rw [e]
  unfold crPs
  rw [List.map_map]
  refine fuse _ _ _ _ _ _ fun p hp => ?_
  obtain ⟨h1, h2, _⟩ := h.f p hp
  have hl := byOf_len lt p.2 n
  have ht := byOf_take lt p.2 n
  rw [h2] at ht
  obtain ⟨c, hc⟩ : ∃ c, (lt.take n).countP (isNo p.2) = c := ⟨_, rfl⟩
  rw [hc] at hl ht
  have hk : kB (crP lt n p).1 = (rcr lt n (mkR p)).h := by
    show (!(decide (p.1.m + (lt.take n).countP (isNo p.2) = 0) && !p.1.h)) = (kB p.1 || !(byOf (lt.take n) p.2).isEmpty)
    rw [hc]
    unfold kB
    cases hb : byOf (lt.take n) p.2 with
    | nil =>
      rw [hb] at hl
      have : c = 0 := hl.symm
      subst this
      simp
    | cons a t =>
      rw [hb] at hl
      have : c ≠ 0 := by
        intro e
        rw [e] at hl
        cases hl
      simp [this]
  refine ⟨hk, fun hkb => ?_⟩
  have hk2 := hk.symm.trans hkb
  show (⟨p.1.n, p.2, (p.1.d.take (p.1.m + (lt.take n).countP (isNo p.2))).take (p.1.m + (lt.take n).countP (isNo p.2)), kB (crP lt n p).1⟩ : Rs) = rcr lt n (mkR p)
  have hst : (p.1.d.take (p.1.m + c)).take (p.1.m + c) = p.1.d.take p.1.m ++ byOf (lt.take n) p.2 := by
    rw [List.take_take, Nat.min_self, ht, List.take_add]
  rw [hc, hst, hk]
  rfl
end Go.Proofs.YtofkfafdodhmdaaGreatDoor

/- The document's disk in memory. Conditions: none. -/
namespace Go.Proofs.YtofkfafdodhmdaaGreatDoor
open Go.RowKit

/-- A file of the document's in memory. -/
structure Rm where
  n : ByteArray
  no : Nat
  sv : Value
  s : List UInt8
  h : Bool
def Rm.r (m : Rm) : Rs := ⟨m.n, m.no, m.s, m.h⟩
def encM (m : Rm) : List Value := [.string m.n, .int .i64 (m.no : Int), m.sv, .bool m.h]
def flatM (l : List Rm) : List Value := l.flatMap encM
theorem flatM_len (l : List Rm) : (flatM l).length = l.length * 4 := by
  unfold flatM
  induction l with
  | nil => rfl
  | cons a t ih =>
    rw [List.flatMap_cons, List.length_append, ih, List.length_cons]
    show 4 + _ = _
    omega
theorem flatM_app (l m : List Rm) : flatM (l ++ m) = flatM l ++ flatM m := by unfold flatM; simp
theorem flatM_at : ∀ (l : List Rm) (i c : Nat) (hi : i < l.length), c < 4 → (flatM l)[i * 4 + c]? = (encM l[i])[c]?
  | [], i, _, hi, _ => absurd hi (by simp)
  | a :: t, 0, c, _, hc => by
    show (encM a ++ flatM t)[0 * 4 + c]? = (encM a)[c]?
    rw [List.getElem?_append_left (by show 0 * 4 + c < 4; omega), show 0 * 4 + c = c by omega]
  | a :: t, i + 1, c, hi, hc => by
    have hi' : i < t.length := by simpa using hi
    show (encM a ++ flatM t)[(i + 1) * 4 + c]? = (encM t[i])[c]?
    rw [List.getElem?_append_right (by show 4 ≤ _; omega), show (i + 1) * 4 + c - (encM a).length = i * 4 + c by show (i + 1) * 4 + c - 4 = _; omega]
    exact flatM_at t i c hi' hc
/-- A byte that doesn't last, in memory. -/
abbrev Lm := Nat × UInt8
def encL (x : Lm) : List Value := [.int .i64 (x.1 : Int), .int .u8 (x.2.toNat : Int)]
def flatL (l : List Lm) : List Value := l.flatMap encL
theorem flatL_len (l : List Lm) : (flatL l).length = l.length * 2 := by
  unfold flatL
  induction l with
  | nil => rfl
  | cons a t ih =>
    rw [List.flatMap_cons, List.length_append, ih, List.length_cons]
    show 2 + _ = _
    omega
theorem flatL_app (l m : List Lm) : flatL (l ++ m) = flatL l ++ flatL m := by unfold flatL; simp
theorem flatL_at : ∀ (l : List Lm) (i c : Nat) (hi : i < l.length), c < 2 → (flatL l)[i * 2 + c]? = (encL l[i])[c]?
  | [], i, _, hi, _ => absurd hi (by simp)
  | a :: t, 0, c, _, hc => by
    show (encL a ++ flatL t)[0 * 2 + c]? = (encL a)[c]?
    rw [List.getElem?_append_left (by show 0 * 2 + c < 2; omega), show 0 * 2 + c = c by omega]
  | a :: t, i + 1, c, hi, hc => by
    have hi' : i < t.length := by simpa using hi
    show (encL a ++ flatL t)[(i + 1) * 2 + c]? = (encL t[i])[c]?
    rw [List.getElem?_append_right (by show 2 ≤ _; omega), show (i + 1) * 2 + c - (encL a).length = i * 2 + c by show (i + 1) * 2 + c - 2 = _; omega]
    exact flatL_at t i c hi' hc
abbrev MRow (w : World) (B : Nat) (v : Value) (l : List Rm) : Prop := w.ownsRow B 109 4 v l.length (flatM l)
abbrev LRow (w : World) (B : Nat) (v : Value) (l : List Lm) : Prop := w.ownsRow B 111 2 v l.length (flatL l)
def Rm.apart (a b : Rm) : Prop := ∀ k, a.sv.ownBlock = some k → b.sv.ownBlock ≠ some k
/-- The document's disk: its block, its rows, each file's bytes. -/
structure Rk (w : World) (B rb : Nat) (fv lv : Value) (ms : List Rm) (ls : List Lm) (z : Int) (nx : Nat) : Prop where
  lo : B ≤ rb
  blk : Blk w rb 94 #[fv, lv, .int .i64 z, .int .i64 (nx : Int)]
  fr : MRow w B fv ms
  lr : LRow w B lv ls
  sr : ∀ m ∈ ms, Row w B m.sv m.s
  ap : ms.Pairwise Rm.apart
/-- Its blocks. -/
def Rt (rb : Nat) (fv lv : Value) (ms : List Rm) (k : Nat) : Prop := k = rb ∨ fv.ownBlock = some k ∨ lv.ownBlock = some k ∨ ∃ m ∈ ms, m.sv.ownBlock = some k
theorem Rk.rt {w : World} {B rb nx : Nat} {fv lv : Value} {ms : List Rm} {ls : List Lm} {z : Int} (h : Rk w B rb fv lv ms ls z nx) {k : Nat} (hk : Rt rb fv lv ms k) : B ≤ k ∧ k < w.heap.size := by
  rcases hk with rfl | q | q | ⟨m, hm, q⟩
  · exact ⟨h.lo, h.blk.lt⟩
  · exact World.ownsRow.lt h.fr k q
  · exact World.ownsRow.lt h.lr k q
  · exact World.ownsRow.lt (h.sr m hm) k q
theorem Rk.keep {w w' : World} {B rb nx : Nat} {fv lv : Value} {ms : List Rm} {ls : List Lm} {z : Int} (h : Rk w B rb fv lv ms ls z nx) (hk : ∀ k, Rt rb fv lv ms k → w'.heap[k]? = w.heap[k]?) : Rk w' B rb fv lv ms ls z nx :=
  ⟨h.lo, (hk _ (.inl rfl)).trans h.blk, own_block0 h.fr fun g q => hk g (.inr (.inl q)), own_block0 h.lr fun g q => hk g (.inr (.inr (.inl q))), fun m hm => own_block0 (h.sr m hm) fun g q => hk g (.inr (.inr (.inr ⟨m, hm, q⟩))), h.ap⟩
theorem Rk.below {w w' : World} {B rb nx : Nat} {fv lv : Value} {ms : List Rm} {ls : List Lm} {z : Int} (h : Rk w B rb fv lv ms ls z nx) (hb : Below w.heap.size w w') : Rk w' B rb fv lv ms ls z nx := h.keep fun k q => hb.block k (h.rt q).2
theorem mrow_form {w : World} {B : Nat} {v : Value} {l : List Rm} (h : MRow w B v l) {n : Nat} (hn : l.length = n) : ∃ A c, v = .slice A n c := by
  rcases h.2 with ⟨e, e2⟩ | ⟨g, cap, _, e, _⟩
  · exact ⟨none, 0, by rw [e, ← hn, e2]⟩
  · exact ⟨_, cap, by rw [e, hn]⟩
theorem lrow_form {w : World} {B : Nat} {v : Value} {l : List Lm} (h : LRow w B v l) {n : Nat} (hn : l.length = n) : ∃ A c, v = .slice A n c := by
  rcases h.2 with ⟨e, e2⟩ | ⟨g, cap, _, e, _⟩
  · exact ⟨none, 0, by rw [e, ← hn, e2]⟩
  · exact ⟨_, cap, by rw [e, hn]⟩
/-- A file's words. -/
theorem mrow_at {w : World} {B n c : Nat} {A : Option Addr} {l : List Rm} (h : MRow w B (.slice A n c) l) {i : Nat} (hi : i < l.length) : ∃ g, A = some ⟨g, 0, none⟩ ∧ ∀ j x, j < 4 → (encM l[i])[j]? = some x → w.cell? ⟨g, i * 4 + j, none⟩ = some x := by
  have hn : n = l.length := by
    rcases h.2 with ⟨e, e2⟩ | ⟨g, cap, _, e, _⟩
    · injection e with _ e3 _
      omega
    · injection e
  subst hn
  rcases h.2 with ⟨e, e2⟩ | ⟨g, cap, cur, e, _⟩
  · omega
  · injection e with e1 e2 e3
    subst e1 e3
    exact ⟨g, rfl, fun j x hj hx => (own_cells h (by rw [flatM_at l i j hi hj, hx])).1⟩
theorem lrow_at {w : World} {B n c : Nat} {A : Option Addr} {l : List Lm} (h : LRow w B (.slice A n c) l) {i : Nat} (hi : i < l.length) : ∃ g, A = some ⟨g, 0, none⟩ ∧ w.cell? ⟨g, i * 2, none⟩ = some (.int .i64 (l[i].1 : Int)) ∧ w.cell? ⟨g, i * 2 + 1, none⟩ = some (.int .u8 (l[i].2.toNat : Int)) := by
  have hn : n = l.length := by
    rcases h.2 with ⟨e, e2⟩ | ⟨g, cap, _, e, _⟩
    · injection e with _ e3 _
      omega
    · injection e
  subst hn
  rcases h.2 with ⟨e, e2⟩ | ⟨g, cap, cur, e, _⟩
  · omega
  · injection e with e1 e2 e3
    subst e1 e3
    exact ⟨g, rfl, (own_cells h (flatL_at l i 0 hi (by omega))).1, (own_cells h (by rw [flatL_at l i 1 hi (by omega)]; rfl)).1⟩
/-- All that the document's disk holds. -/
def sizeM (ms : List Rm) (ls : List Lm) : Nat := ls.length + (ms.map fun m => m.s.length).sum

set_option maxHeartbeats 1000000 in
theorem rnew_no (z : Int) (hz : z < 0 ∨ 16777216 < z) (w : World) : Calls Tryz.prog 21 #[.int .i64 z] w fun e w' => e = .returned (.tuple #[.pointer none, .int .i64 11]) ∧ Below w.heap.size w w' := by
  by_cases h1 : z < 0
  · clear hz
    go_enter Tryz.func21, Tryz.ntmps21
    go_wp2
    go_ret2
    exact ⟨rfl, Below.refl _ _⟩
  · have h2 : 16777216 < z := by omega
    clear hz
    go_enter Tryz.func21, Tryz.ntmps21
    go_wp2
    go_ret2
    exact ⟨rfl, Below.refl _ _⟩
set_option maxHeartbeats 1000000 in
theorem rnew_yes (z : Int) (h0 : 0 ≤ z) (h1 : z ≤ 16777216) (w : World) : Calls Tryz.prog 21 #[.int .i64 z] w fun e w' => e = .returned (.tuple #[.pointer (some ⟨w.heap.size, 0, none⟩), .int .i64 0]) ∧ Rk w' w.heap.size w.heap.size (.slice none 0 0) (.slice none 0 0) [] [] z 0 ∧ Below w.heap.size w w' := by
  have g1 : ¬ z < 0 := by omega
  have g2 : ¬ 16777216 < z := by omega
  clear h0 h1
  go_enter Tryz.func21, Tryz.ntmps21
  go_wp2
  go_ret2
  exact ⟨rfl, ⟨Nat.le_refl _, Blk.new w _ _, ⟨rfl, .inl ⟨rfl, rfl⟩⟩, ⟨rfl, .inl ⟨rfl, rfl⟩⟩, fun m hm => (by cases hm), List.Pairwise.nil⟩, below_new w _⟩
end Go.Proofs.YtofkfafdodhmdaaGreatDoor

/- The document's find, Size, Names. Conditions: the disk stands. -/
namespace Go.Proofs.YtofkfafdodhmdaaGreatDoor
open Go.RowKit

/-- Where a name is, or would stand. -/
structure FindE (x : ByteArray) (ms : List Rm) (i : Nat) (ok : Bool) : Prop where
  le : i ≤ ms.length
  lo : ∀ j (h : j < ms.length), j < i → bef ms[j].n x = true
  yes : ok = true → ∃ h : i < ms.length, ms[i].n = x
  no : ok = false → ∀ h : i < ms.length, bef x ms[i].n = true
theorem cmp_cases (a b : ByteArray) : (Lib.compareBytes a.data.toList b.data.toList < 0 ∧ bef a b = true) ∨ (Lib.compareBytes a.data.toList b.data.toList = 0 ∧ a = b) ∨ (0 < Lib.compareBytes a.data.toList b.data.toList ∧ bef b a = true) := by
  have gen : ∀ l m : List UInt8, (Lib.compareBytes l m < 0 ∧ bytesBefore l m = true) ∨ (Lib.compareBytes l m = 0 ∧ l = m) ∨ (0 < Lib.compareBytes l m ∧ bytesBefore m l = true) := by
    intro l
    induction l with
    | nil =>
      intro m
      cases m with
      | nil => exact .inr (.inl ⟨rfl, rfl⟩)
      | cons y t => exact .inl ⟨by show (-1 : Int) < 0; decide, rfl⟩
    | cons x l ih =>
      intro m
      cases m with
      | nil => exact .inr (.inr ⟨by show (0 : Int) < 1; decide, rfl⟩)
      | cons y t =>
        unfold Lib.compareBytes bytesBefore
        by_cases q : x < y
        · rw [if_pos q, decide_eq_true q]
          exact .inl ⟨by decide, rfl⟩
        · rw [if_neg q]
          by_cases r : y < x
          · rw [if_pos r, decide_eq_true r]
            exact .inr (.inr ⟨by decide, rfl⟩)
          · rw [if_neg r]
            have e : x = y := UInt8.le_antisymm (UInt8.not_lt.1 r) (UInt8.not_lt.1 q)
            subst e
            rw [decide_eq_false q, show (x == x) = true by simp]
            rcases ih t with ⟨h1, h2⟩ | ⟨h1, h2⟩ | ⟨h1, h2⟩
            · exact .inl ⟨h1, by rw [h2]; rfl⟩
            · exact .inr (.inl ⟨h1, by rw [h2]⟩)
            · exact .inr (.inr ⟨h1, by rw [h2]; rfl⟩)
  rcases gen a.data.toList b.data.toList with h | ⟨h1, h2⟩ | h
  · exact .inl h
  · exact .inr (.inl ⟨h1, ba_ext h2⟩)
  · exact .inr (.inr h)

set_option maxRecDepth 100000 in
set_option maxHeartbeats 4000000 in
theorem rfind_ok {w : World} {B rb nx : Nat} {fv lv : Value} {ms : List Rm} {ls : List Lm} {z : Int} (h : Rk w B rb fv lv ms ls z nx) (x : ByteArray) (hx : x.size ≤ maxLen) (hn : ∀ m ∈ ms, m.n.size ≤ maxLen) (hl : ms.length ≤ 1000000) :
    Calls Tryz.prog 61 #[.pointer (some ⟨rb, 0, none⟩), .string x] w fun e w' => ∃ i ok, e = .returned (.tuple #[.int .i64 ((i : Nat) : Int), .bool ok]) ∧ FindE x ms i ok ∧ Below w.heap.size w w' := by
  obtain ⟨n, hn1⟩ : ∃ n, ms.length = n := ⟨_, rfl⟩
  obtain ⟨A, c, rfl⟩ := mrow_form h.fr hn1
  have m0 : w.cell? ⟨rb, 0, none⟩ = some (.slice A n c) := h.blk.cell 0
  have H := hid h
  have HN1 := hid hn1
  have HNs := hid hn
  rw [hn1] at hl
  unfold maxLen at hx
  have HX := hid hx
  clear h hn hn1 hx
  go_enter Tryz.func61, Tryz.ntmps61
  go_wp2
  go_loopw [6] (fun vi wr => ∃ k : Nat, vi = .int .i64 (k : Int) ∧ k ≤ n ∧ Hid (Below w.heap.size w wr ∧ ∀ j (h : j < ms.length), j < k → bef ms[j].n x = true)) (fun vi _ => n - (intOf vi).toNat)
  case atStart => exact ⟨0, rfl, Nat.zero_le _, Below.refl _ _, fun j _ hj => absurd hj (by omega)⟩
  case round =>
    obtain ⟨k, rfl, hk, HI⟩ := hrel
    have m1 : wr.cell? ⟨rb, 0, none⟩ = some (.slice A n c) := (HI.out.1.cell (p := ⟨rb, 0, none⟩) (cell_lt m0)).trans m0
    by_cases hkn : k < n
    · have hkl : k < ms.length := by rw [HN1.out]; exact hkn
      obtain ⟨g, rfl, hc⟩ := mrow_at H.out.fr hkl
      have q0 := hc 0 _ (by omega) rfl
      rw [Nat.add_zero] at q0
      have q1 : wr.cell? ⟨g, k * 4, none⟩ = some (.string ms[k].n) := (HI.out.1.cell (p := ⟨g, k * 4, none⟩) (cell_lt q0)).trans q0
      have hms : ms[k].n.size ≤ 9223372036854775807 := by have := HNs.out _ (List.getElem_mem hkl); unfold maxLen at this; exact this
      have hcs := cmp_cases ms[k].n x
      obtain ⟨y, hy⟩ : ∃ y, ms[k].n = y := ⟨_, rfl⟩
      rw [hy] at q1 hms hcs
      have HTx := hid (texts_any y x hms HX.out wr)
      obtain ⟨q, hq⟩ : ∃ q, Lib.compareBytes y.data.toList x.data.toList = q := ⟨_, rfl⟩
      rw [hq] at HTx hcs
      have HY := hid hy
      have HKL := hid hkl
      clear hc q0 hms hq hy m0
      rcases hcs with ⟨h1, h2⟩ | ⟨h1, h2⟩ | ⟨h1, h2⟩
      · have H2 := hid h2
        clear h2
        go_upto_region 5 with (go_at_call 92; refine HTx.out.mono ?_; rintro e w1 ⟨rfl, hb⟩; have HB1 := hid (HI.out.1.trans (hb.mono HI.out.1.size)); clear hb)
        go_wp2
        go_roundw
        case rel =>
          refine ⟨k + 1, by go_num, by omega, HB1.out, fun j hj hjk => ?_⟩
          rcases Nat.lt_or_ge j k with r | r
          · exact HI.out.2 j hj r
          · obtain rfl : j = k := by omega
            rw [HY.out]
            exact H2.out
        case measure => simp [intOf]; omega
      · have H2 := hid h2
        clear h2
        go_upto_region 5 with (go_at_call 92; refine HTx.out.mono ?_; rintro e w1 ⟨rfl, hb⟩; have HB1 := hid (HI.out.1.trans (hb.mono HI.out.1.size)); clear hb)
        subst h1
        go_wp2
        go_ret2
        exact ⟨k, true, rfl, ⟨by rw [HN1.out]; exact hk, fun j hj hjk => HI.out.2 j hj hjk, fun _ => ⟨HKL.out, HY.out.trans H2.out⟩, fun e => (by cases e)⟩, HB1.out⟩
      · have H2 := hid h2
        have g1 : ¬ q = 0 := by omega
        clear h2
        go_upto_region 5 with (go_at_call 92; refine HTx.out.mono ?_; rintro e w1 ⟨rfl, hb⟩; have HB1 := hid (HI.out.1.trans (hb.mono HI.out.1.size)); clear hb)
        go_wp2
        go_ret2
        have e0 : (q == 0) = false := beq_false_of_ne g1
        refine ⟨k, (q == 0), rfl, ?_, HB1.out⟩
        rw [e0]
        exact ⟨by rw [HN1.out]; exact hk, fun j hj hjk => HI.out.2 j hj hjk, fun e => (by cases e), fun _ hh => by rw [HY.out]; exact H2.out⟩
    · obtain rfl : k = n := by omega
      go_wp2
      go_ret2
      exact ⟨k, false, rfl, ⟨by rw [HN1.out]; exact Nat.le_refl _, fun j hj _ => HI.out.2 j hj (by rw [HN1.out] at hj; exact hj), fun e => (by cases e), fun _ hh => absurd hh (by rw [HN1.out]; exact Nat.lt_irrefl _)⟩, HI.out.1⟩
theorem sum_take {ms : List Rm} {k : Nat} (h : k < ms.length) : ((ms.take (k + 1)).map fun m => m.s.length).sum = ((ms.take k).map fun m => m.s.length).sum + ms[k].s.length := by
  rw [List.take_succ_eq_append_getElem h, List.map_append, List.sum_append_nat]
  simp
theorem sum_sub (ms : List Rm) (k : Nat) : ((ms.take k).map fun m => m.s.length).sum ≤ (ms.map fun m => m.s.length).sum := by
  conv => rhs; rw [← List.take_append_drop k ms]
  rw [List.map_append, List.sum_append_nat]
  omega

set_option maxRecDepth 100000 in
set_option maxHeartbeats 4000000 in
theorem rsize_ok {w : World} {B rb nx : Nat} {fv lv : Value} {ms : List Rm} {ls : List Lm} {z : Int} (h : Rk w B rb fv lv ms ls z nx) (hb : sizeM ms ls ≤ 1000000000) (hl : ms.length ≤ 1000000) :
    Calls Tryz.prog 60 #[.pointer (some ⟨rb, 0, none⟩)] w fun e w' => e = .returned (.int .i64 ((sizeM ms ls : Nat) : Int)) ∧ Below w.heap.size w w' := by
  obtain ⟨n, hn1⟩ : ∃ n, ms.length = n := ⟨_, rfl⟩
  obtain ⟨p, hp1⟩ : ∃ p, ls.length = p := ⟨_, rfl⟩
  obtain ⟨A, c, rfl⟩ := mrow_form h.fr hn1
  obtain ⟨A2, c2, rfl⟩ := lrow_form h.lr hp1
  have m0 : w.cell? ⟨rb, 0, none⟩ = some (.slice A n c) := h.blk.cell 0
  have m1 : w.cell? ⟨rb, 1, none⟩ = some (.slice A2 p c2) := h.blk.cell 1
  have H := hid h
  have HN1 := hid hn1
  have HP1 := hid hp1
  have HBd : Hid (p + (ms.map fun m => m.s.length).sum ≤ 1000000000) := by
    unfold sizeM at hb
    rw [hp1] at hb
    exact hb
  rw [hn1] at hl
  unfold sizeM
  rw [hp1]
  clear h hn1 hp1 hb
  go_enter Tryz.func60, Tryz.ntmps60
  go_wp2
  go_loopw [3, 4] (fun vn vi wr => ∃ k s : Nat, vn = .int .i64 (s : Int) ∧ vi = .int .i64 (k : Int) ∧ k ≤ n ∧ Hid (s = p + ((ms.take k).map fun m => m.s.length).sum ∧ Below w.heap.size w wr)) (fun _ vi _ => n - (intOf vi).toNat)
  case atStart => exact ⟨0, p, rfl, rfl, Nat.zero_le _, rfl, Below.refl _ _⟩
  case round =>
    obtain ⟨k, s, rfl, rfl, hk, HI⟩ := hrel
    have m3 : wr.cell? ⟨rb, 0, none⟩ = some (.slice A n c) := (HI.out.2.cell (p := ⟨rb, 0, none⟩) (cell_lt m0)).trans m0
    by_cases hkn : k < n
    · have hkl : k < ms.length := by rw [HN1.out]; exact hkn
      obtain ⟨g, rfl, hc⟩ := mrow_at H.out.fr hkl
      obtain ⟨A3, c3, e3⟩ := row_form (H.out.sr _ (List.getElem_mem hkl)) rfl
      have q2 := hc 2 _ (by omega) rfl
      rw [e3] at q2
      have hst := sum_take hkl
      have hss := sum_sub ms (k + 1)
      have hbd := HBd.out
      have hs := HI.out.1
      obtain ⟨nl, hnl⟩ : ∃ nl, ms[k].s.length = nl := ⟨_, rfl⟩
      rw [hnl] at q2 hst
      have q4 : wr.cell? ⟨g, k * 4 + 2, none⟩ = some (.slice A3 nl c3) := (HI.out.2.cell (p := ⟨g, k * 4 + 2, none⟩) (cell_lt q2)).trans q2
      have hle : s + nl ≤ 1000000000 := by omega
      have HST := hid hst
      have w1 : IntKind.i64.wrap ((s : Int) + (nl : Int)) = ((s + nl : Nat) : Int) := by rw [IntKind.wrap_i64]; omega
      clear hc q2 hst hss hbd hs hnl e3 m0
      go_wp2
      go_roundw
      case rel => exact ⟨k + 1, s + nl, by go_num, by go_num, by omega, by rw [HST.out, HI.out.1, Nat.add_assoc], HI.out.2⟩
      case measure => simp [intOf]; omega
    · obtain rfl : k = n := by omega
      have e1 := HI.out.1
      rw [List.take_of_length_le (by rw [HN1.out]; exact Nat.le_refl _)] at e1
      have HB := hid HI.out.2
      have HE := hid e1
      clear e1
      go_wp2
      go_ret
      exact ⟨by rw [HE.out]; rfl, HB.out⟩
end Go.Proofs.YtofkfafdodhmdaaGreatDoor
