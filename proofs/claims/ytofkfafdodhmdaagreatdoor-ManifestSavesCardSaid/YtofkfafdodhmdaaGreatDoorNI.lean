/- Several texts in one: StA StB StC. Conditions: as each theorem names them. -/
import Derived.Test.YtofkfafdodhmdaaGreatDoorNC
import Derived.Laws.BytesArg
import Derived.Maps.RangeWalk
import Derived.Maps.OwnOps
import Derived.Sort.KeysCollected
/- joistref00.CopyBytes at any bytes. Conditions: the slice holds its bytes, a million at most. -/
namespace Go.Proofs.YtofkfafdodhmdaaGreatDoor
open Go.RowKit

theorem nums_str1 (l : List UInt8) : strOfNums (l.map fun x => (x.toNat : Int)) = ⟨l.toArray⟩ := by
  unfold strOfNums
  congr 2
  rw [List.map_map]
  apply List.ext_getElem
  · simp
  · intro i h1 h2; simp
theorem conv_some {A : Option Addr} {c : Nat} {l : List UInt8} {w : World} (h0 : 0 < l.length) (h : HoldsA w A l) : (convert 25 9 (.slice A l.length c)).run Tryz.prog w = .ok (.string ⟨l.toArray⟩) w := by
  obtain ⟨b, off, rfl, hh⟩ := h h0
  rw [← nums_str1]
  refine run_convert_bytes_arg w 25 5 Tryz.underlying25 Tryz.underlying5 b off l.length c _ (by simp) ?_ 9 Tryz.underlying9
  intro i hi
  rw [hh i hi]
  simp [List.getD_eq_getElem?_getD, List.getElem?_eq_getElem hi]
theorem ret_val {a b : Value} (h : a = b) : Ending.returned a = .returned b := by rw [h]
theorem int_val {k : IntKind} {a b : Int} (h : a = b) : Value.int k a = .int k b := by rw [h]
theorem SlA.hold {w : World} {A : Option Addr} {n c : Nat} {l : List UInt8} (h : SlA w (.slice A n c) l) : HoldsA w A l := by
  obtain ⟨_, _, e1, _, _, g1, _⟩ := h
  injection e1 with e1 _ _
  subst e1
  exact g1
theorem row_none0 (W : World) (B : Nat) (hB : B ≤ W.heap.size) : Row (W.alloc (.cells #[] 5)) B (.slice (some ⟨W.heap.size, 0, none⟩) 0 0) [] := Row.new W B hB [] (by unfold maxLen; simp)
set_option maxHeartbeats 1000000 in
theorem copyb_any (v : Value) (l : List UInt8) (hl : l.length ≤ 1000000) (w : World) (h : SlA w v l) :
    Calls Tryz.prog 68 #[v] w fun e w' => ∃ v', e = .returned v' ∧ Row w' w.heap.size v' l ∧ Below w.heap.size w w' := by
  have HS := hid h
  obtain ⟨A, c, rfl, _⟩ := h
  have HR := hid (row_none0 w w.heap.size (Nat.le_refl _))
  have HL := hid hl
  clear hl
  go_enter Tryz.func68, Tryz.ntmps68
  go_wp2_with (at_builtin; refine wpList_append_any rfl (.tmp 5) (.tmp 6) rfl rfl _ w.heap.size _ [] rfl HR.out A c l rfl (HS.out.below (below_new w _)).hold (by have := HL.out; simp only [List.length_nil]; omega) (by simp) ?_; intro v' w' hR' hb')
  go_ret
  exact ⟨_, rfl, hR', (below_new w _).trans hb'⟩
end Go.Proofs.YtofkfafdodhmdaaGreatDoor

/- A disk of package store in memory: files with names, how the map reads, what a call may turn. Conditions: none. -/
namespace Go.Proofs.YtofkfafdodhmdaaGreatDoor
open Go.RowKit

/-- A file: its name, its block, its bytes' slice, its bytes, how many last, its runs' slice, its runs, does it stay. -/
structure Fl where
  n : ByteArray
  b : Nat
  dv : Value
  d : List UInt8
  m : Nat
  lv : Value
  l : List (Nat × Nat)
  h : Bool
def flatR (l : List (Nat × Nat)) : List Value := l.flatMap fun r => [.int .i64 (r.1 : Int), .int .i64 (r.2 : Int)]
theorem flatR_len (l : List (Nat × Nat)) : (flatR l).length = l.length * 2 := by
  unfold flatR
  induction l with
  | nil => rfl
  | cons a t ih => simp only [List.flatMap_cons, List.length_append, ih, List.length_cons, List.length_nil]; omega
theorem flatR_app (l m : List (Nat × Nat)) : flatR (l ++ m) = flatR l ++ flatR m := by unfold flatR; simp
def sumR (l : List (Nat × Nat)) : Nat := (l.map Prod.snd).sum
abbrev RRow (w : World) (B : Nat) (v : Value) (l : List (Nat × Nat)) : Prop := w.ownsRow B 115 2 v l.length (flatR l)

/-- A file in memory. -/
structure FlAt (w : World) (B : Nat) (f : Fl) : Prop where
  lo : B ≤ f.b
  blk : Blk w f.b 102 #[f.dv, .int .i64 (f.m : Int), f.lv, .bool f.h]
  row : Row w B f.dv f.d
  run : RRow w B f.lv f.l
def Fl.has (f : Fl) (k : Nat) : Prop := k = f.b ∨ f.dv.ownBlock = some k ∨ f.lv.ownBlock = some k
/-- Two files share no block. -/
def Fl.apart (f g : Fl) : Prop := ∀ k, f.has k → ¬ g.has k
theorem Fl.apart_symm {f g : Fl} (h : f.apart g) : g.apart f := fun k h1 h2 => h k h2 h1
theorem FlAt.lt {w : World} {B : Nat} {f : Fl} (h : FlAt w B f) {k : Nat} (hk : f.has k) : B ≤ k ∧ k < w.heap.size := by
  rcases hk with rfl | hk | hk
  · exact ⟨h.lo, h.blk.lt⟩
  · exact World.ownsRow.lt h.row k hk
  · exact World.ownsRow.lt h.run k hk
theorem own_block0 {w w' : World} {B : Nat} {e : TypeId} {sz : Nat} {v : Value} {n : Nat} {xs : List Value} (h : w.ownsRow B e sz v n xs) (hk : ∀ g, v.ownBlock = some g → w'.heap[g]? = w.heap[g]?) : w'.ownsRow B e sz v n xs := by
  refine ⟨h.1, ?_⟩
  rcases h.2 with h | ⟨g, cap, cur, e, h1, h2, hr⟩
  · exact .inl h
  · exact .inr ⟨g, cap, cur, e, h1, (hk g (by rw [e]; rfl)).trans h2, hr⟩
/-- A file stands where its blocks are as they were. -/
theorem FlAt.keep {w w' : World} {B : Nat} {f : Fl} (h : FlAt w B f) (hk : ∀ k, f.has k → w'.heap[k]? = w.heap[k]?) : FlAt w' B f :=
  ⟨h.lo, (hk _ (.inl rfl)).trans h.blk, own_block0 h.row fun g q => hk g (.inr (.inl q)), own_block0 h.run fun g q => hk g (.inr (.inr q))⟩

/-! ### how the map reads -/
abbrev ptrB (b : Option Nat) : Value := .pointer (b.map fun b => ⟨b, 0, none⟩)
def Rp : Value → Option (DataW Unit × List MemPlace)
  | .pointer none => some (.nil, [])
  | .pointer (some ⟨b, 0, none⟩) => some (.lit (.int .i64 b), [])
  | _ => none
theorem Rp_some (b : Nat) : Rp (.pointer (some ⟨b, 0, none⟩)) = some (.lit (.int .i64 b), []) := rfl
theorem Rp_inv {v : Value} {y : DataW Unit × List MemPlace} (h : Rp v = some y) : ∃ c : Option Nat, v = ptrB c := by
  unfold Rp at h
  split at h
  · exact ⟨none, rfl⟩
  · rename_i b; exact ⟨some b, rfl⟩
  · cases h
theorem Rp_int {v : Value} {b : Nat} {ps : List MemPlace} (h : Rp v = some (.lit (.int .i64 b), ps)) : v = .pointer (some ⟨b, 0, none⟩) := by
  unfold Rp at h
  split at h
  · simp at h
  · rename_i b'
    simp only [Option.some.injEq, Prod.mk.injEq, DataW.lit.injEq, Lit.int.injEq] at h
    obtain ⟨⟨_, h⟩, _⟩ := h
    rw [Int.ofNat_inj.1 h]
  · cases h
theorem Rp_nil {v : Value} {ps : List MemPlace} (h : Rp v = some (.nil, ps)) : v = .pointer none := by
  unfold Rp at h
  split at h
  · rfl
  · simp at h
  · cases h
def Fl.key (f : Fl) : Lit := .string f.n.data.toList
def Fl.ent (f : Fl) : Lit × DataW Unit := (f.key, .lit (.int .i64 (f.b : Int)))
def mapD (fs : List Fl) : DataW Unit := .map (fs.map Fl.ent)
def bef (a b : ByteArray) : Bool := bytesBefore a.data.toList b.data.toList
theorem bef_irr (a : ByteArray) : bef a a = false := WideAt.bytes_irrefl _
theorem bef_trans {a b c : ByteArray} (h : bef a b = true) (k : bef b c = true) : bef a c = true := WideShapes.bytes_trans _ _ _ h k
theorem ba_ext {a b : ByteArray} (h : a.data.toList = b.data.toList) : a = b := ByteArray.ext (Array.toList_inj.1 h)
theorem bef_tot {a b : ByteArray} (h : a ≠ b) : bef a b = true ∨ bef b a = true := WideAt.bytes_total _ _ fun e => h (ba_ext e)
theorem bef_ne {a b : ByteArray} (h : bef a b = true) : a ≠ b := fun e => by rw [e, bef_irr] at h; cases h
theorem bef_asymm {a b : ByteArray} (h : bef a b = true) : bef b a = false := by
  cases q : bef b a with
  | false => rfl
  | true => have := bef_trans h q; rw [bef_irr] at this; cases this
theorem sameKey_str (a b : ByteArray) : (Lit.string a.data.toList).sameKey (.string b.data.toList) = decide (a = b) := by
  rw [Bool.eq_iff_iff, decide_eq_true_iff]
  show (a.data.toList == b.data.toList) = true ↔ _
  rw [beq_iff_eq]
  exact ⟨ba_ext, fun e => by rw [e]⟩
abbrev Ris (fs : List Fl) : Prop := fs.Pairwise fun f g => bef f.n g.n = true
theorem map_rise {fs : List Fl} (h : Ris fs) : (fs.map Fl.ent).Pairwise (fun p q => p.1.before q.1 = true) := List.pairwise_map.2 h
/-- A name stands in a list that rises, or there is a place for it. -/
theorem part (x : ByteArray) : ∀ {fs : List Fl}, Ris fs → (∃ A f C, fs = A ++ f :: C ∧ f.n = x) ∨ (∃ A C, fs = A ++ C ∧ (∀ a ∈ A, bef a.n x = true) ∧ ∀ c ∈ C, bef x c.n = true)
  | [], _ => .inr ⟨[], [], rfl, fun _ h => (by cases h), fun _ h => (by cases h)⟩
  | f :: t, h => by
    obtain ⟨h1, h2⟩ := List.pairwise_cons.1 h
    by_cases q : f.n = x
    · exact .inl ⟨[], f, t, rfl, q⟩
    · rcases bef_tot q with q | q
      · rcases part x h2 with ⟨A, g, C, rfl, e⟩ | ⟨A, C, rfl, hA, hC⟩
        · exact .inl ⟨f :: A, g, C, rfl, e⟩
        · refine .inr ⟨f :: A, C, rfl, fun a ha => ?_, hC⟩
          rcases List.mem_cons.1 ha with rfl | ha
          · exact q
          · exact hA a ha
      · refine .inr ⟨[], f :: t, rfl, (fun _ h => (by cases h)), fun c hc => ?_⟩
        rcases List.mem_cons.1 hc with rfl | hc
        · exact q
        · exact bef_trans q (h1 c hc)
theorem rise_mid {A C : List Fl} {f : Fl} (h : Ris (A ++ f :: C)) : (∀ a ∈ A, bef a.n f.n = true) ∧ (∀ c ∈ C, bef f.n c.n = true) ∧ Ris (A ++ C) := by
  obtain ⟨h1, h2, h3⟩ := List.pairwise_append.1 h
  obtain ⟨h4, h5⟩ := List.pairwise_cons.1 h2
  exact ⟨fun a ha => h3 a ha f List.mem_cons_self, h4, List.pairwise_append.2 ⟨h1, h5, fun a ha c hc => h3 a ha c (List.mem_cons_of_mem _ hc)⟩⟩
theorem rise_put {A C : List Fl} {f : Fl} (h : Ris (A ++ C)) (hA : ∀ a ∈ A, bef a.n f.n = true) (hC : ∀ c ∈ C, bef f.n c.n = true) : Ris (A ++ f :: C) := by
  obtain ⟨h1, h2, h3⟩ := List.pairwise_append.1 h
  refine List.pairwise_append.2 ⟨h1, List.pairwise_cons.2 ⟨hC, h2⟩, fun a ha c hc => ?_⟩
  rcases List.mem_cons.1 hc with rfl | hc
  · exact hA a ha
  · exact h3 a ha c hc
theorem rise_set {A C : List Fl} {f g : Fl} (h : Ris (A ++ f :: C)) (e : g.n = f.n) : Ris (A ++ g :: C) := by
  obtain ⟨h1, h2, h3⟩ := rise_mid h
  exact rise_put h3 (by rw [e]; exact h1) (by rw [e]; exact h2)
theorem not_in {A C : List Fl} {x : ByteArray} (hA : ∀ a ∈ A, bef a.n x = true) (hC : ∀ c ∈ C, bef x c.n = true) : ∀ g ∈ A ++ C, g.n ≠ x := fun g hg => by
  rcases List.mem_append.1 hg with q | q
  · exact bef_ne (hA g q)
  · exact fun e => bef_ne (hC g q) e.symm
/-- What the map gives. -/
theorem at_none {fs : List Fl} {x : ByteArray} (h : ∀ g ∈ fs, g.n ≠ x) (z : DataW Unit) : (mapD fs).atKey (.string x.data.toList) z = z := by
  unfold mapD DataW.atKey
  have : (fs.map Fl.ent).find? (fun p => p.1.sameKey (.string x.data.toList)) = none := by
    rw [List.find?_eq_none]
    intro p hp
    obtain ⟨g, hg, rfl⟩ := List.mem_map.1 hp
    show ¬ (Lit.string g.n.data.toList).sameKey _ = true
    rw [sameKey_str, decide_eq_true_iff]
    exact h g hg
  simp only [this]
theorem at_some {A C : List Fl} {f : Fl} (h : Ris (A ++ f :: C)) (z : DataW Unit) : (mapD (A ++ f :: C)).atKey (.string f.n.data.toList) z = .lit (.int .i64 (f.b : Int)) := by
  unfold mapD DataW.atKey
  have : ((A ++ f :: C).map Fl.ent).find? (fun p => p.1.sameKey (.string f.n.data.toList)) = some f.ent := by
    rw [List.map_append, List.find?_append]
    have e1 : (A.map Fl.ent).find? (fun p => p.1.sameKey (.string f.n.data.toList)) = none := by
      rw [List.find?_eq_none]
      intro p hp
      obtain ⟨g, hg, rfl⟩ := List.mem_map.1 hp
      show ¬ (Lit.string g.n.data.toList).sameKey _ = true
      rw [sameKey_str, decide_eq_true_iff]
      exact bef_ne ((rise_mid h).1 g hg)
    rw [e1, Option.none_or, List.map_cons, List.find?_cons]
    have : f.ent.1.sameKey (.string f.n.data.toList) = true := by
      show (Lit.string f.n.data.toList).sameKey _ = true
      rw [sameKey_str, decide_eq_true rfl]
    rw [this]
  simp only [this]
  rfl
theorem del_some {A C : List Fl} {f : Fl} (h : Ris (A ++ f :: C)) : (mapD (A ++ f :: C)).del (.string f.n.data.toList) = mapD (A ++ C) := by
  show DataW.map (((A ++ f :: C).map Fl.ent).filter _) = .map ((A ++ C).map Fl.ent)
  have key : ∀ g : Fl, (!(g.ent.1.sameKey (.string f.n.data.toList))) = true ↔ g.n ≠ f.n := fun g => by
    show (!((Lit.string g.n.data.toList).sameKey _)) = true ↔ _
    rw [sameKey_str]
    simp
  have all : ∀ l : List Fl, (∀ g ∈ l, g.n ≠ f.n) → (l.map Fl.ent).filter (fun p => !p.1.sameKey (.string f.n.data.toList)) = l.map Fl.ent := fun l hl => by
    rw [List.filter_eq_self]
    intro p hp
    obtain ⟨g, hg, rfl⟩ := List.mem_map.1 hp
    exact (key g).2 (hl g hg)
  obtain ⟨h1, h2, _⟩ := rise_mid h
  rw [List.map_append, List.filter_append, List.map_cons, List.filter_cons, if_neg (fun q => (key f).1 q rfl), all A fun g hg => bef_ne (h1 g hg), all C fun g hg e => bef_ne (h2 g hg) e.symm, List.map_append]
theorem ins_mid (p : Lit × DataW Unit) : ∀ (A C : List (Lit × DataW Unit)), (∀ a ∈ A, p.1.before a.1 = false) → (∀ c ∈ C, p.1.before c.1 = true) → DataW.insert p (A ++ C) = A ++ p :: C
  | [], [], _, _ => rfl
  | [], c :: C, _, hC => by
    show DataW.insert p (c :: C) = p :: c :: C
    unfold DataW.insert
    rw [if_pos (hC c List.mem_cons_self)]
  | a :: A, C, hA, hC => by
    show DataW.insert p (a :: (A ++ C)) = a :: (A ++ p :: C)
    unfold DataW.insert
    rw [if_neg (by rw [hA a List.mem_cons_self]; decide), ins_mid p A C (fun x hx => hA x (List.mem_cons_of_mem _ hx)) hC]
theorem put_new {A C : List Fl} {f : Fl} (hA : ∀ a ∈ A, bef a.n f.n = true) (hC : ∀ c ∈ C, bef f.n c.n = true) : (mapD (A ++ C)).put (.string f.n.data.toList) (.lit (.int .i64 (f.b : Int))) = mapD (A ++ f :: C) := by
  show DataW.map (DataW.insert (f.key, _) (((A ++ C).map Fl.ent).filter _)) = .map ((A ++ f :: C).map Fl.ent)
  have e : ((A ++ C).map Fl.ent).filter (fun p => !p.1.sameKey (.string f.n.data.toList)) = (A ++ C).map Fl.ent := by
    rw [List.filter_eq_self]
    intro p hp
    obtain ⟨g, hg, rfl⟩ := List.mem_map.1 hp
    show (!((Lit.string g.n.data.toList).sameKey _)) = true
    rw [sameKey_str, decide_eq_false (not_in hA hC g hg)]
    rfl
  rw [e, List.map_append, ins_mid]
  · rw [List.map_append]; rfl
  · intro p hp
    obtain ⟨g, hg, rfl⟩ := List.mem_map.1 hp
    exact bef_asymm (hA g hg)
  · intro p hp
    obtain ⟨g, hg, rfl⟩ := List.mem_map.1 hp
    exact hC g hg
theorem mapD_size (fs : List Fl) : Maps.size (mapD fs) = fs.length := by
  unfold mapD Maps.size
  simp
theorem has_iff (fs : List Fl) (x : ByteArray) : Maps.has (mapD fs) (.string x.data.toList) = true ↔ ∃ g ∈ fs, g.n = x := by
  show ((fs.map Fl.ent).any _) = true ↔ _
  rw [List.any_eq_true]
  constructor
  · rintro ⟨p, hp, q⟩
    obtain ⟨g, hg, rfl⟩ := List.mem_map.1 hp
    have : (Lit.string g.n.data.toList).sameKey (.string x.data.toList) = true := q
    rw [sameKey_str, decide_eq_true_iff] at this
    exact ⟨g, hg, this⟩
  · rintro ⟨g, hg, e⟩
    refine ⟨g.ent, List.mem_map_of_mem hg, ?_⟩
    show (Lit.string g.n.data.toList).sameKey (.string x.data.toList) = true
    rw [sameKey_str, decide_eq_true_iff]
    exact e

/-! ### the disk -/
abbrev OMap (w : World) (mb : Nat) (fs : List Fl) : Prop := w.ownsMap Tryz.prog 9 Rp mb fs.length (mapD fs)
theorem omap_tight {w : World} {mb n : Nat} {fs : List Fl} (h : w.ownsMap Tryz.prog 9 Rp mb n (mapD fs)) : OMap w mb fs := by
  obtain ⟨es, clock, hb, F, hs, hD⟩ := h
  refine ⟨es, clock, hb, F, ?_, hD⟩
  have := congrArg Maps.size hD
  rw [mapD_size] at this
  rw [this]
  unfold Maps.size
  simp [length_sorted]
def sizeF (fs : List Fl) : Nat := (fs.map fun f => f.d.length).sum
def looseF (fs : List Fl) : Nat := (fs.map fun f => f.d.length - f.m).sum
/-- A disk in memory: room z, size s as it is noted, so many bytes written. -/
structure Dk (w : World) (B db mb : Nat) (fs : List Fl) (z s u : Int) : Prop where
  lo : B ≤ db ∧ B ≤ mb
  blk : Blk w db 90 #[.map (some mb), .int .i64 z, .int .i64 s, .int .i64 u]
  map : OMap w mb fs
  fl : ∀ f ∈ fs, FlAt w B f
  ap : fs.Pairwise Fl.apart
  ri : Ris fs
abbrev DkAt (w : World) (B db mb : Nat) (fs : List Fl) (z u : Int) : Prop := Dk w B db mb fs z (sizeF fs : Int) u
/-- The disk's blocks. -/
def Ft (db mb : Nat) (fs : List Fl) (k : Nat) : Prop := k = db ∨ k = mb ∨ ∃ f ∈ fs, f.has k
/-- What a call turns: of what was there, the blocks in S alone. -/
structure Chg (S : Nat → Prop) (w w' : World) : Prop where
  os : w'.os = w.os
  tape : w'.tape = w.tape
  output : w'.output = w.output
  size : w.heap.size ≤ w'.heap.size
  block : ∀ k, k < w.heap.size → ¬ S k → w'.heap[k]? = w.heap[k]?
theorem Chg.refl (S : Nat → Prop) (w : World) : Chg S w w := ⟨rfl, rfl, rfl, Nat.le_refl _, fun _ _ _ => rfl⟩
theorem Chg.trans {S S' : Nat → Prop} {w w' w'' : World} (h : Chg S w w') (h' : Chg S' w' w'') (hs : ∀ k, S' k → S k ∨ w.heap.size ≤ k) : Chg S w w'' :=
  ⟨h'.os.trans h.os, h'.tape.trans h.tape, h'.output.trans h.output, Nat.le_trans h.size h'.size, fun k hk q => (h'.block k (Nat.lt_of_lt_of_le hk h.size) fun q' => by
    rcases hs k q' with r | r
    · exact q r
    · omega).trans (h.block k hk q)⟩
theorem Chg.of_below {w w' : World} (S : Nat → Prop) (h : Below w.heap.size w w') : Chg S w w' := ⟨h.os, h.tape, h.output, h.size, fun k hk _ => h.block k hk⟩
theorem Chg.of_grown {w w' : World} {g : Option Nat} {S : Nat → Prop} (h : w.grownBy w' g) (hg : ∀ k, g = some k → S k ∨ w.heap.size ≤ k) : Chg S w w' :=
  ⟨h.os, h.tape, h.output, h.size, fun k hk q => h.block k hk fun e => by
    rcases hg k e.symm with r | r
    · exact q r
    · omega⟩
theorem Chg.of_set (w : World) (b o : Nat) (u : Value) {S : Nat → Prop} (h : S b) : Chg S w (w.setCell ⟨b, o, none⟩ u) :=
  ⟨rfl, rfl, rfl, by simp [World.setCell], fun k _ q => Below.heap_setCell _ _ _ _ fun e => q (by rw [e]; exact h)⟩
theorem Chg.mono {S S' : Nat → Prop} {w w' : World} (h : Chg S w w') (hs : ∀ k, S k → S' k) : Chg S' w w' := ⟨h.os, h.tape, h.output, h.size, fun k hk q => h.block k hk fun r => q (hs k r)⟩
theorem Chg.below {S : Nat → Prop} {w w' : World} {B : Nat} (h : Chg S w w') (hs : ∀ k, S k → B ≤ k) (hB : B ≤ w.heap.size) : Below B w w' :=
  ⟨h.os, h.tape, h.output, h.size, fun k hk => h.block k (by omega) fun q => by have := hs k q; omega⟩
theorem Dk.ft {w : World} {B db mb : Nat} {fs : List Fl} {z s u : Int} (h : Dk w B db mb fs z s u) {k : Nat} (hk : Ft db mb fs k) : B ≤ k ∧ k < w.heap.size := by
  rcases hk with rfl | rfl | ⟨f, hf, hk⟩
  · exact ⟨h.lo.1, h.blk.lt⟩
  · exact ⟨h.lo.2, h.map.lt⟩
  · exact (h.fl f hf).lt hk
/-- The disk stands while nothing of it is turned. -/
theorem Dk.keep {w w' : World} {B db mb : Nat} {fs : List Fl} {z s u : Int} (h : Dk w B db mb fs z s u) (hk : ∀ k, Ft db mb fs k → w'.heap[k]? = w.heap[k]?) : Dk w' B db mb fs z s u := by
  refine ⟨h.lo, (hk _ (.inl rfl)).trans h.blk, ?_, fun f hf => (h.fl f hf).keep fun k q => hk k (.inr (.inr ⟨f, hf, q⟩)), h.ap, h.ri⟩
  obtain ⟨es, clock, hb, r⟩ := h.map
  exact ⟨es, clock, (hk _ (.inr (.inl rfl))).trans hb, r⟩
theorem Dk.below {w w' : World} {B db mb : Nat} {fs : List Fl} {z s u : Int} (h : Dk w B db mb fs z s u) (hb : Below w.heap.size w w') : Dk w' B db mb fs z s u := h.keep fun k q => hb.block k (h.ft q).2
/-- The map's block is no other's. -/
theorem Dk.mb_ne {w : World} {B db mb : Nat} {fs : List Fl} {z s u : Int} (h : Dk w B db mb fs z s u) {g : Nat} {T : TypeId} {xs : Array Value} (hg : Blk w g T xs) : g ≠ mb := fun e => by
  obtain ⟨es, clock, hb, _⟩ := h.map
  unfold Blk at hg
  rw [e, hb] at hg
  cases hg
theorem blk_ne0 {w : World} {k g : Nat} {T T' : TypeId} {xs ys : Array Value} (h : Blk w k T xs) (h2 : Blk w g T' ys) (hT : T ≠ T') : k ≠ g := by
  rintro rfl
  unfold Blk at h h2
  rw [h] at h2
  injection h2 with h2
  injection h2 with _ h3 _
  exact hT h3
/-- A row that is owned lies in a block of its type. -/
theorem own_blk {w : World} {B sz n : Nat} {T : TypeId} {v : Value} {xs : List Value} (h : w.ownsRow B T sz v n xs) {g : Nat} (hg : v.ownBlock = some g) : ∃ cur, Blk w g T cur := by
  rcases h.2 with ⟨e, _⟩ | ⟨g', cap', cur, e, _, h2, _⟩
  · rw [e] at hg; cases hg
  · rw [e] at hg
    cases hg
    exact ⟨cur, h2⟩
theorem Dk.db_ne {w : World} {B db mb : Nat} {fs : List Fl} {z s u : Int} (h : Dk w B db mb fs z s u) {f : Fl} (hf : f ∈ fs) {k : Nat} (hk : f.has k) : k ≠ db ∧ k ≠ mb := by
  have hF := h.fl f hf
  rcases hk with rfl | hk | hk
  · exact ⟨blk_ne0 hF.blk h.blk (by decide), h.mb_ne hF.blk⟩
  · obtain ⟨cur, hc⟩ := own_blk hF.row hk
    exact ⟨blk_ne0 hc h.blk (by decide), h.mb_ne hc⟩
  · obtain ⟨cur, hc⟩ := own_blk hF.run hk
    exact ⟨blk_ne0 hc h.blk (by decide), h.mb_ne hc⟩
theorem Dk.lts {w : World} {B db mb : Nat} {fs : List Fl} {z s u : Int} (h : Dk w B db mb fs z s u) {f : Fl} (hf : f ∈ fs) {k : Nat} (hk : f.has k) : k < w.heap.size := ((h.fl f hf).lt hk).2
/-- Files apart from one another, one of them in the middle. -/
theorem ap_mid {A C : List Fl} {f : Fl} : (A ++ f :: C).Pairwise Fl.apart ↔ (A ++ C).Pairwise Fl.apart ∧ ∀ g ∈ A ++ C, f.apart g := by
  have pm : (A ++ f :: C).Perm (f :: (A ++ C)) := List.perm_middle
  rw [pm.pairwise_iff Fl.apart_symm, List.pairwise_cons]
  exact And.comm
theorem sizeF_mid (A C : List Fl) (f : Fl) : sizeF (A ++ f :: C) = sizeF (A ++ C) + f.d.length := by unfold sizeF; simp; omega
theorem looseF_mid (A C : List Fl) (f : Fl) : looseF (A ++ f :: C) = looseF (A ++ C) + (f.d.length - f.m) := by unfold looseF; simp; omega
theorem ft_mid {db mb : Nat} {A C : List Fl} {f : Fl} {k : Nat} : Ft db mb (A ++ f :: C) k ↔ Ft db mb (A ++ C) k ∨ f.has k := by
  unfold Ft
  constructor
  · rintro (q | q | ⟨g, hg, q⟩)
    · exact .inl (.inl q)
    · exact .inl (.inr (.inl q))
    · rcases List.mem_append.1 hg with r | r
      · exact .inl (.inr (.inr ⟨g, List.mem_append_left _ r, q⟩))
      · rcases List.mem_cons.1 r with rfl | r
        · exact .inr q
        · exact .inl (.inr (.inr ⟨g, List.mem_append_right _ r, q⟩))
  · rintro ((q | q | ⟨g, hg, q⟩) | q)
    · exact .inl q
    · exact .inr (.inl q)
    · refine .inr (.inr ⟨g, ?_, q⟩)
      rcases List.mem_append.1 hg with r | r
      · exact List.mem_append_left _ r
      · exact List.mem_append_right _ (List.mem_cons_of_mem _ r)
    · exact .inr (.inr ⟨f, by simp, q⟩)
/-- A file of the disk turns into another one of that name, in that block. -/
theorem Dk.upd {w w' : World} {B db mb : Nat} {A C : List Fl} {f g : Fl} {z s u : Int} (h : Dk w B db mb (A ++ f :: C) z s u) (hc : Chg f.has w w') (hg : FlAt w' B g) (hn : g.n = f.n) (hb : g.b = f.b) (hs : ∀ k, g.has k → f.has k ∨ w.heap.size ≤ k) : Dk w' B db mb (A ++ g :: C) z s u := by
  have hf : f ∈ A ++ f :: C := by simp
  have e : mapD (A ++ g :: C) = mapD (A ++ f :: C) := by
    unfold mapD
    rw [List.map_append, List.map_append, List.map_cons, List.map_cons]
    have : g.ent = f.ent := by unfold Fl.ent Fl.key; rw [hn, hb]
    rw [this]
  have ell : (A ++ g :: C).length = (A ++ f :: C).length := by simp
  obtain ⟨a1, a2⟩ := ap_mid.1 h.ap
  have hin : ∀ o ∈ A ++ C, o ∈ A ++ f :: C := fun o ho => by
    rcases List.mem_append.1 ho with r | r
    · exact List.mem_append_left _ r
    · exact List.mem_append_right _ (List.mem_cons_of_mem _ r)
  refine ⟨h.lo, ?_, ?_, fun o ho => ?_, ap_mid.2 ⟨a1, fun o ho k q1 q2 => ?_⟩, rise_set h.ri hn⟩
  · exact (hc.block db h.blk.lt fun q => (h.db_ne hf q).1 rfl).trans h.blk
  · show World.ownsMap w' Tryz.prog 9 Rp mb (A ++ g :: C).length (mapD (A ++ g :: C))
    rw [e, ell]
    obtain ⟨es, clock, hb2, r⟩ := h.map
    exact ⟨es, clock, (hc.block mb h.map.lt fun q => (h.db_ne hf q).2 rfl).trans hb2, r⟩
  · have key : o = g ∨ o ∈ A ++ C := by
      rcases List.mem_append.1 ho with r | r
      · exact .inr (List.mem_append_left _ r)
      · rcases List.mem_cons.1 r with r | r
        · exact .inl r
        · exact .inr (List.mem_append_right _ r)
    rcases key with rfl | key
    · exact hg
    · exact (h.fl o (hin o key)).keep fun k q => hc.block k (h.lts (hin o key) q) fun q2 => a2 o key k q2 q
  · rcases hs k q1 with r | r
    · exact a2 o ho k r q2
    · have := h.lts (hin o ho) q2; omega
/-- The disk's own cells turn. -/
theorem Dk.own {w : World} {B db mb : Nat} {fs : List Fl} {z s u : Int} (h : Dk w B db mb fs z s u) (i : Nat) (v : Value) {z' s' u' : Int} (e : #[Value.map (some mb), .int .i64 z, .int .i64 s, .int .i64 u].setIfInBounds i v = #[Value.map (some mb), .int .i64 z', .int .i64 s', .int .i64 u']) : Dk (w.setCell ⟨db, i, none⟩ v) B db mb fs z' s' u' ∧ Chg (fun k => k = db) w (w.setCell ⟨db, i, none⟩ v) := by
  have hc : Chg (fun k => k = db) w (w.setCell ⟨db, i, none⟩ v) := Chg.of_set w db i v rfl
  refine ⟨⟨h.lo, ?_, ?_, fun f hf => (h.fl f hf).keep fun k q => hc.block k (h.lts hf q) (h.db_ne hf q).1, h.ap, h.ri⟩, hc⟩
  · have := h.blk.set i v
    rw [e] at this
    exact this
  · obtain ⟨es, clock, hb2, r⟩ := h.map
    exact ⟨es, clock, (hc.block mb h.map.lt fun q => h.mb_ne h.blk q.symm).trans hb2, r⟩
/-- A file's entry goes. -/
theorem Dk.del {w w' : World} {B db mb : Nat} {A C : List Fl} {f : Fl} {z s u : Int} (h : Dk w B db mb (A ++ f :: C) z s u) (hm : w'.ownsMap Tryz.prog 9 Rp mb (A ++ f :: C).length ((mapD (A ++ f :: C)).del (.string f.n.data.toList))) (hg : w.grownBy w' (some mb)) : Dk w' B db mb (A ++ C) z s u ∧ FlAt w' B f := by
  have hin : ∀ o ∈ A ++ C, o ∈ A ++ f :: C := fun o ho => by
    rcases List.mem_append.1 ho with r | r
    · exact List.mem_append_left _ r
    · exact List.mem_append_right _ (List.mem_cons_of_mem _ r)
  have hk : ∀ o ∈ A ++ f :: C, FlAt w' B o := fun o ho => (h.fl o ho).keep fun k q => hg.block k (h.lts ho q) fun e => (h.db_ne ho q).2 (by injection e)
  rw [del_some h.ri] at hm
  exact ⟨⟨h.lo, (hg.block db h.blk.lt fun e => h.mb_ne h.blk (by injection e)).trans h.blk, omap_tight hm, fun o ho => hk o (hin o ho), (ap_mid.1 h.ap).1, (rise_mid h.ri).2.2⟩, hk f (by simp)⟩
/-- A file's entry comes. -/
theorem Dk.put {w w' : World} {B db mb : Nat} {A C : List Fl} {f : Fl} {z s u : Int} (h : Dk w B db mb (A ++ C) z s u) (hf : FlAt w B f) (hA : ∀ a ∈ A, bef a.n f.n = true) (hC : ∀ c ∈ C, bef f.n c.n = true) (ha : ∀ g ∈ A ++ C, f.apart g) (hm : w'.ownsMap Tryz.prog 9 Rp mb ((A ++ C).length + 1) ((mapD (A ++ C)).put (.string f.n.data.toList) (.lit (.int .i64 (f.b : Int))))) (hg : w.grownBy w' (some mb)) : Dk w' B db mb (A ++ f :: C) z s u := by
  rw [put_new hA hC] at hm
  have hfm : ¬ f.has mb := fun q => by
    rcases q with q | q | q
    · exact h.mb_ne hf.blk q.symm
    · obtain ⟨cur, hc⟩ := own_blk hf.row q; exact h.mb_ne hc rfl
    · obtain ⟨cur, hc⟩ := own_blk hf.run q; exact h.mb_ne hc rfl
  refine ⟨h.lo, (hg.block db h.blk.lt fun e => h.mb_ne h.blk (by injection e)).trans h.blk, omap_tight hm, fun o ho => ?_, ap_mid.2 ⟨h.ap, ha⟩, rise_put h.ri hA hC⟩
  have key : o = f ∨ o ∈ A ++ C := by
    rcases List.mem_append.1 ho with r | r
    · exact .inr (List.mem_append_left _ r)
    · rcases List.mem_cons.1 r with r | r
      · exact .inl r
      · exact .inr (List.mem_append_right _ r)
  rcases key with rfl | key
  · exact hf.keep fun k q => hg.block k (hf.lt q).2 fun e => hfm (by injection e with e; rw [← e]; exact q)
  · exact (h.fl o key).keep fun k q => hg.block k (h.lts key q) fun e => (h.db_ne key q).2 (by injection e)
theorem strK : Maps.Keyed Tryz.prog 9 := Maps.string_keyed Tryz.underlying9
theorem keyS (s : ByteArray) (h : s.size ≤ maxLen) : keyOf Tryz.prog 9 (.string s) = some (.string s.data.toList) := WideMaps.keyOf_string_mk Tryz.underlying9 h
/-- The file under a name, or none. -/
theorem look_some {w : World} {mb : Nat} {A C : List Fl} {f : Fl} (h : OMap w mb (A ++ f :: C)) (hr : Ris (A ++ f :: C)) (hs : f.n.size ≤ maxLen) : (Instr.lookup 88 (.map (some mb)) (.string f.n) false).run Tryz.prog w = .ok (.pointer (some ⟨f.b, 0, none⟩)) w := by
  obtain ⟨v, ps, hrun, hv⟩ := h.lookup strK Tryz.underlying88 (z := .pointer none) (zd := .nil) (zp := []) (by kernel_rfl) rfl (keyS f.n hs)
  rw [at_some hr] at hv
  rw [hrun, Rp_int hv]
theorem flook_none {w : World} {mb : Nat} {fs : List Fl} {x : ByteArray} (h : OMap w mb fs) (hx : ∀ g ∈ fs, g.n ≠ x) (hs : x.size ≤ maxLen) : (Instr.lookup 88 (.map (some mb)) (.string x) false).run Tryz.prog w = .ok (.pointer none) w := by
  obtain ⟨v, ps, hrun, hv⟩ := h.lookup strK Tryz.underlying88 (z := .pointer none) (zd := .nil) (zp := []) (by kernel_rfl) rfl (keyS x hs)
  rw [at_none hx] at hv
  rw [hrun, Rp_nil hv]
end Go.Proofs.YtofkfafdodhmdaaGreatDoor

/- store.New, right, Size, Room, Read. Conditions: the disk stands; names no longer than any are. -/
namespace Go.Proofs.YtofkfafdodhmdaaGreatDoor
open Go.RowKit

def rightB (s : ByteArray) : Bool := decide (1 ≤ s.size) && decide (s.size ≤ 16)

set_option maxHeartbeats 1000000 in
theorem right_ok (s : ByteArray) (hs : s.size ≤ maxLen) (w : World) : Calls Tryz.prog 56 #[.string s] w fun e w' => e = .returned (.bool (rightB s)) ∧ Below w.heap.size w w' := by
  unfold maxLen at hs
  by_cases h1 : 1 ≤ s.size
  · by_cases h2 : s.size ≤ 16
    · have HR : Hid (rightB s = true) := by unfold Hid rightB; rw [decide_eq_true h1, decide_eq_true h2]; rfl
      have g1 : decide ((1 : Int) ≤ (s.size : Int)) = true := decide_eq_true (by omega)
      have g2 : decide ((s.size : Int) ≤ 16) = true := decide_eq_true (by omega)
      go_enter Tryz.func56, Tryz.ntmps56
      go_wp2
      go_ret
      exact ⟨by rw [HR.out]; rfl, Below.refl _ _⟩
    · have HR : Hid (rightB s = false) := by unfold Hid rightB; rw [decide_eq_false h2, Bool.and_false]
      have g1 : decide ((1 : Int) ≤ (s.size : Int)) = true := decide_eq_true (by omega)
      have g2 : decide ((s.size : Int) ≤ 16) = false := decide_eq_false (by omega)
      go_enter Tryz.func56, Tryz.ntmps56
      go_wp2
      go_ret
      exact ⟨by rw [HR.out]; rfl, Below.refl _ _⟩
  · have HR : Hid (rightB s = false) := by unfold Hid rightB; rw [decide_eq_false h1, Bool.false_and]
    have g1 : decide ((1 : Int) ≤ (s.size : Int)) = false := decide_eq_false (by omega)
    go_enter Tryz.func56, Tryz.ntmps56
    go_wp2
    go_ret
    exact ⟨by rw [HR.out]; rfl, Below.refl _ _⟩

set_option maxHeartbeats 1000000 in
theorem new_no (z : Int) (hz : z < 0 ∨ 16777216 < z) (w : World) : Calls Tryz.prog 20 #[.int .i64 z] w fun e w' => e = .returned (.tuple #[.pointer none, .int .i64 11]) ∧ Below w.heap.size w w' := by
  by_cases h1 : z < 0
  · clear hz
    go_enter Tryz.func20, Tryz.ntmps20
    go_wp2
    go_ret2
    exact ⟨rfl, Below.refl _ _⟩
  · have h2 : 16777216 < z := by omega
    clear hz
    go_enter Tryz.func20, Tryz.ntmps20
    go_wp2
    go_ret2
    exact ⟨rfl, Below.refl _ _⟩

set_option maxHeartbeats 1000000 in
theorem new_yes (z : Int) (h0 : 0 ≤ z) (h1 : z ≤ 16777216) (w : World) : Calls Tryz.prog 20 #[.int .i64 z] w fun e w' => e = .returned (.tuple #[.pointer (some ⟨w.heap.size + 1, 0, none⟩), .int .i64 0]) ∧ DkAt w' w.heap.size (w.heap.size + 1) w.heap.size [] z 0 ∧ Below w.heap.size w w' := by
  have g1 : ¬ z < 0 := by omega
  have g2 : ¬ 16777216 < z := by omega
  have hmm := @run_makeMap Tryz.prog
  clear h0 h1
  go_enter Tryz.func20, Tryz.ntmps20
  go_wp2
  go_ret2
  have k := World.ownsMap_made (H := Unit) w Tryz.prog 9 Rp
  have e1 : (w.alloc (.map #[] 0)).heap.size = w.heap.size + 1 := World.size_alloc _ _
  have k2 := Blk.new (w.alloc (.map #[] 0)) 90 #[.map (some w.heap.size), .int .i64 z, .int .i64 0, .int .i64 0]
  rw [e1] at k2
  exact ⟨by simp, ⟨⟨by omega, Nat.le_refl _⟩, k2, k.alloc _, (fun f hf => by cases hf), List.Pairwise.nil, List.Pairwise.nil⟩, (below_new w _).trans ((below_new _ _).mono (by rw [e1]; omega))⟩

set_option maxHeartbeats 1000000 in
theorem room_ok {B db mb : Nat} {fs : List Fl} {z u : Int} {w : World} (h : DkAt w B db mb fs z u) (hz : 0 ≤ z ∧ z ≤ 16777216) (hs : (sizeF fs : Int) ≤ z) : Calls Tryz.prog 57 #[.pointer (some ⟨db, 0, none⟩)] w fun e w' => e = .returned (.int .i64 (z - (sizeF fs : Int))) ∧ Below w.heap.size w w' := by
  have m1 : w.cell? ⟨db, 1, none⟩ = some (.int .i64 z) := h.blk.cell 1
  have m2 : w.cell? ⟨db, 2, none⟩ = some (.int .i64 (sizeF fs : Int)) := h.blk.cell 2
  generalize sizeF fs = s at *
  have hw : IntKind.i64.wrap (z - (s : Int)) = z - (s : Int) := by rw [IntKind.wrap_i64]; omega
  clear h
  go_enter Tryz.func57, Tryz.ntmps57
  go_wp2
  go_region
  all_goals
    go_wp2
    go_ret
    exact ⟨ret_val (int_val (by first | exact hw | rfl)), by repeat (first | exact Below.refl _ _ | refine Go.below_drewN ?_ _ | refine Below.drew ?_)⟩

set_option maxHeartbeats 1000000 in
theorem read_none {B db mb : Nat} {fs : List Fl} {z u : Int} {w : World} (h : DkAt w B db mb fs z u) (x : ByteArray) (hx : ∀ g ∈ fs, g.n ≠ x) (hs : x.size ≤ maxLen) : Calls Tryz.prog 30 #[.pointer (some ⟨db, 0, none⟩), .string x] w fun e w' => e = .returned (.tuple #[.slice none 0 0, .bool false]) ∧ Below w.heap.size w w' := by
  have m0 : w.cell? ⟨db, 0, none⟩ = some (.map (some mb)) := h.blk.cell 0
  have hl := flook_none h.map hx hs
  clear h
  go_enter Tryz.func30, Tryz.ntmps30
  go_wp2
  go_ret2
  exact ⟨rfl, Below.refl _ _⟩

set_option maxHeartbeats 1000000 in
theorem read_some {B db mb : Nat} {A C : List Fl} {f : Fl} {z u : Int} {w : World} (h : DkAt w B db mb (A ++ f :: C) z u) (hs : f.n.size ≤ maxLen) (hd : f.d.length ≤ 1000000) : Calls Tryz.prog 30 #[.pointer (some ⟨db, 0, none⟩), .string f.n] w fun e w' => ∃ v, e = .returned (.tuple #[v, .bool true]) ∧ Row w' w.heap.size v f.d ∧ Below w.heap.size w w' := by
  have m0 : w.cell? ⟨db, 0, none⟩ = some (.map (some mb)) := h.blk.cell 0
  have hl := look_some h.map h.ri hs
  have hF := h.fl f (by simp)
  have m1 : w.cell? ⟨f.b, 0, none⟩ = some f.dv := hF.blk.cell 0
  obtain ⟨A1, c1, e1, _, _, hh, _⟩ := hF.row.sla
  rw [e1] at m1
  have HC := hid (clone_any A1 c1 f.d hd w hh)
  clear h hF hh
  go_enter Tryz.func30, Tryz.ntmps30
  go_wp2_with (go_at_call 67; refine HC.out.mono ?_; rintro e w1 ⟨v, rfl, hr, hb⟩)
  go_ret2
  exact ⟨v, rfl, hr, hb⟩
end Go.Proofs.YtofkfafdodhmdaaGreatDoor
