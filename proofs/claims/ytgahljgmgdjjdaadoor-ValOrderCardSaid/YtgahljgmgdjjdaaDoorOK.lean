/- The law ValOrder answers true for every three values. Conditions: the listed variables of the library read as they are laid; the numbers are of 64 bits. -/
import Derived.Test.YtgahljgmgdjjdaaDoorOF
import Derived.Test.YtgahljgmgdjjdaaDoorOG
import Derived.Test.YtgahljgmgdjjdaaDoorOH
import Derived.Test.YtgahljgmgdjjdaaDoorOI
import Derived.Test.YtgahljgmgdjjdaaDoorOJ
namespace Go.Proofs.YtgahljgmgdjjdaaDoor
open Go.RowKit

theorem ordAsk_any {k1 n1 k2 n2 k3 n3 : Int} (hn1 : inI n1) (hn2 : inI n2) (hn3 : inI n3) (s1 s2 s3 : ByteArray) (hs1 : s1.size ≤ 9223372036854775807) (hs2 : s2.size ≤ 9223372036854775807) (w : World) (hL : LaidIn w) :
    OrdAsk w k1 n1 s1 k2 n2 s2 k3 n3 s3 (vOrd k1 n1 s1.data.toList k2 n2 s2.data.toList) (vOrd k2 n2 s2.data.toList k1 n1 s1.data.toList) (vOrd k2 n2 s2.data.toList k3 n3 s3.data.toList) (vOrd k1 n1 s1.data.toList k3 n3 s3.data.toList) (vRight k1 n1 s1.data.toList) (vRight k2 n2 s2.data.toList) where
  a12 W _ := vorder_any k1 k2 hn1 hn2 s1 s2 W
  a21 W _ := vorder_any k2 k1 hn2 hn1 s2 s1 W
  a11 W _ := (vorder_any k1 k1 hn1 hn1 s1 s1 W).mono fun _ _ ⟨he, hb⟩ => ⟨he.trans (ret_int (vOrd_self _ _ _)), hb⟩
  a23 W _ := vorder_any k2 k3 hn2 hn3 s2 s3 W
  a13 W _ := vorder_any k1 k3 hn1 hn3 s1 s3 W
  r1 W hW := vright_any k1 hn1 s1 W hs1 (hL.below hW)
  r2 W hW := vright_any k2 hn2 s2 W hs2 (hL.below hW)

theorem bytes_ext {s1 s2 : ByteArray} (h : s1.data.toList = s2.data.toList) : s1 = s2 := by
  apply ByteArray.ext
  exact Array.ext' h

/-- The law ValOrder, whatever the values. -/
theorem order_walk {k1 n1 k2 n2 k3 n3 : Int} (hn1 : inI n1) (hn2 : inI n2) (hn3 : inI n3) (s1 s2 s3 : ByteArray) (hs1 : s1.size ≤ 9223372036854775807) (hs2 : s2.size ≤ 9223372036854775807) (hs3 : s3.size ≤ 9223372036854775807) (w : World) (hL : LaidIn w) :
    Calls Tryd.prog 4 #[.agg #[.int .i64 k1, .int .i64 n1, .string s1], .agg #[.int .i64 k2, .int .i64 n2, .string s2], .agg #[.int .i64 k3, .int .i64 n3, .string s3]] w fun e w' => e = .returned (.bool true) ∧ Below w.heap.size w w' := by
  have h3 : Three w k1 n1 s1 k2 n2 s2 k3 n3 s3 := three_any s1 s2 s3 hs1 hs2 hs3 w hL
  cases hl1 : decide (500 < s1.size)
  · cases hl2 : decide (500 < s2.size)
    · cases hl3 : decide (500 < s3.size)
      · have hq := ordAsk_any (k1 := k1) (k2 := k2) (k3 := k3) hn1 hn2 hn3 s1 s2 s3 hs1 hs2 w hL
        have hneg := vOrd_neg k2 n2 s2.data.toList k1 n1 s1.data.toList
        have hthr := vOrd_three k1 n1 s1.data.toList k2 n2 s2.data.toList
        have ht := @vOrd_trans k1 n1 s1.data.toList k2 n2 s2.data.toList k3 n3 s3.data.toList
        have hone := @vOrd_one k1 n1 s1.data.toList k2 n2 s2.data.toList hn1 hn2
        generalize vOrd k2 n2 s2.data.toList k1 n1 s1.data.toList = o21 at *
        generalize vOrd k2 n2 s2.data.toList k3 n3 s3.data.toList = o23 at *
        generalize vOrd k1 n1 s1.data.toList k3 n3 s3.data.toList = o13 at *
        generalize vOrd k1 n1 s1.data.toList k2 n2 s2.data.toList = o12 at *
        have ho : (o12 = -1 ∧ o21 = 1) ∨ (o12 = 0 ∧ o21 = 0) ∨ (o12 = 1 ∧ o21 = -1) := by omega
        cases hr1 : vRight k1 n1 s1.data.toList
        · rw [hr1] at hq
          exact order_no s1 s2 s3 w h3 hl1 hl2 hl3 o12 o21 o23 o13 _ hq ho ht
        · cases hr2 : vRight k2 n2 s2.data.toList
          · rw [hr1, hr2] at hq
            exact order_half s1 s2 s3 w h3 hl1 hl2 hl3 o12 o21 o23 o13 hq ho ht
          · rw [hr1, hr2] at hq
            have hone := hone hr1 hr2
            by_cases hk : k1 = k2
            · subst hk
              by_cases hn : n1 = n2
              · subst hn
                by_cases hs : s1 = s2
                · subst hs
                  have h0 : o12 = 0 := hone.2 ⟨rfl, rfl, rfl⟩
                  exact order_eq s1 s3 w h3 hl1 hl2 hl3 o12 o21 o23 o13 hq (by omega) ht
                · have h0 : ¬ o12 = 0 := fun h => hs (bytes_ext (hone.1 h).2.2)
                  exact order_ne3 s1 s2 s3 w h3 hl1 hl2 hl3 o12 o21 o23 o13 hq (by omega) ht (by
                    rw [toList_eq, toList_eq]
                    have : ¬ s1.data.toList = s2.data.toList := fun h => hs (bytes_ext h)
                    simpa using this)
              · have h0 : ¬ o12 = 0 := fun h => hn (hone.1 h).2.1
                exact order_ne2 s1 s2 s3 w h3 hl1 hl2 hl3 o12 o21 o23 o13 hq (by omega) ht (by simpa using hn)
            · have h0 : ¬ o12 = 0 := fun h => hk (hone.1 h).1
              exact order_ne1 s1 s2 s3 w h3 hl1 hl2 hl3 o12 o21 o23 o13 hq (by omega) ht (by simpa using hk)
      · exact order_long3 s1 s2 s3 w h3 hl1 hl2 hl3
    · exact order_long2 s1 s2 s3 w h3 hl1 hl2
  · exact order_long1 s1 s2 s3 w h3 hl1

end Go.Proofs.YtgahljgmgdjjdaaDoor
