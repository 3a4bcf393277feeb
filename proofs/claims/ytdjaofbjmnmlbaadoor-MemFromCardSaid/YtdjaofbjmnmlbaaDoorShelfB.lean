/- Contracts of functions of Go's library at this program: the library's own theorems over any program, laid here by their own two commands. Conditions: those that each names. -/
import Derived.Shelf.Small.Bits
import Derived.Shelf.Small.Strs
import Derived.Shelf.Small.Wraps
import Derived.Shelf.Sort.Plain
import Derived.Shelf.Slices.CompactS
import Derived.Shelf.Slices.In.SortNone
import Derived.Test.YtdjaofbjmnmlbaaDoorProg
namespace Go.Proofs
open Go.Shelf
def Tryd.lays190_ren : Go.Shelf.Ren := ⟨fun | 190 => 120 | 125 => 152 | 258 => 151 | 128 => 181 | 129 => 182 | 302 => 172 | 303 => 173 | 304 => 174 | 305 => 175 | 306 => 176 | 307 => 177 | 308 => 178 | 309 => 179 | 310 => 180 | 333 => 187 | 329 => 188 | 330 => 189 | 334 => 190 | 335 => 191 | 336 => 192 | 344 => 194 | n => n, fun | 31 => 89 | 9 => 9 | 3 => 3 | 46 => 168 | 0 => 0 | 51 => 195 | 53 => 83 | 4 => 4 | 183 => 188 | 182 => 187 | 131 => 144 | 5 => 5 | 218 => 199 | 222 => 203 | 228 => 205 | 229 => 206 | n => n, fun | n => n⟩
theorem Tryd.lays190 : Go.Proofs.Lays.n190 Tryd.prog Tryd.lays190_ren := {
  mixed := by kernel_rfl
  f125 := Tryd.func152.trans (congrArg some (by kernel_rfl))
  f128 := Tryd.func181.trans (congrArg some (by kernel_rfl))
  f129 := Tryd.func182.trans (congrArg some (by kernel_rfl))
  f190 := Tryd.func120.trans (congrArg some (by kernel_rfl))
  f258 := Tryd.func151.trans (congrArg some (by kernel_rfl))
  f302 := Tryd.func172.trans (congrArg some (by kernel_rfl))
  f303 := Tryd.func173.trans (congrArg some (by kernel_rfl))
  f304 := Tryd.func174.trans (congrArg some (by kernel_rfl))
  f305 := Tryd.func175.trans (congrArg some (by kernel_rfl))
  f306 := Tryd.func176.trans (congrArg some (by kernel_rfl))
  f307 := Tryd.func177.trans (congrArg some (by kernel_rfl))
  f308 := Tryd.func178.trans (congrArg some (by kernel_rfl))
  f309 := Tryd.func179.trans (congrArg some (by kernel_rfl))
  f310 := Tryd.func180.trans (congrArg some (by kernel_rfl))
  f329 := Tryd.func188.trans (congrArg some (by kernel_rfl))
  f330 := Tryd.func189.trans (congrArg some (by kernel_rfl))
  f333 := Tryd.func187.trans (congrArg some (by kernel_rfl))
  f334 := Tryd.func190.trans (congrArg some (by kernel_rfl))
  f335 := Tryd.func191.trans (congrArg some (by kernel_rfl))
  f336 := Tryd.func192.trans (congrArg some (by kernel_rfl))
  f344 := Tryd.func194.trans (congrArg some (by kernel_rfl))
  t0 := Tryd.underlying0
  a0 := Tryd.isAgg0
  z0 := Tryd.sizeOf0
  v0 := Tryd.zeroValue0
  t3 := Tryd.underlying3
  a3 := Tryd.isAgg3
  z3 := Tryd.sizeOf3
  v3 := Tryd.zeroValue3
  t4 := Tryd.underlying4
  a4 := Tryd.isAgg4
  z4 := Tryd.sizeOf4
  v4 := Tryd.zeroValue4
  t5 := Tryd.underlying5
  a5 := Tryd.isAgg5
  z5 := Tryd.sizeOf5
  v5 := Tryd.zeroValue5
  t9 := Tryd.underlying9
  a9 := Tryd.isAgg9
  z9 := Tryd.sizeOf9
  v9 := Tryd.zeroValue9
  t31 := Tryd.underlying89
  a31 := Tryd.isAgg89
  z31 := Tryd.sizeOf89
  v31 := Tryd.zeroValue89
  t46 := Tryd.underlying168
  a46 := Tryd.isAgg168
  z46 := Tryd.sizeOf168
  v46 := Tryd.zeroValue168
  t51 := Tryd.underlying195
  a51 := Tryd.isAgg195
  z51 := Tryd.sizeOf195
  v51 := Tryd.zeroValue195
  t53 := Tryd.underlying83
  a53 := Tryd.isAgg83
  z53 := Tryd.sizeOf83
  v53 := Tryd.zeroValue83
  t131 := Tryd.underlying144
  a131 := Tryd.isAgg144
  z131 := Tryd.sizeOf144
  v131 := Tryd.zeroValue144
  t182 := Tryd.underlying187
  a182 := Tryd.isAgg187
  z182 := Tryd.sizeOf187
  v182 := Tryd.zeroValue187
  t183 := Tryd.underlying188
  a183 := Tryd.isAgg188
  z183 := Tryd.sizeOf188
  v183 := Tryd.zeroValue188
  t218 := Tryd.underlying199
  a218 := Tryd.isAgg199
  z218 := Tryd.sizeOf199
  v218 := Tryd.zeroValue199
  t222 := Tryd.underlying203
  a222 := Tryd.isAgg203
  z222 := Tryd.sizeOf203
  v222 := Tryd.zeroValue203
  t228 := Tryd.underlying205
  a228 := Tryd.isAgg205
  z228 := Tryd.sizeOf205
  v228 := Tryd.zeroValue205
  t229 := Tryd.underlying206
  a229 := Tryd.isAgg206
  z229 := Tryd.sizeOf206
  v229 := Tryd.zeroValue206 }
open Go.Sort Go.RowKit in
theorem Tryd.slices_Sort_string (blk off cap : Nat) (ss : List (List UInt8)) (w : World) (hH : Holds encStr w blk off ss.toArray) (hblk : blk < w.heap.size) (hsz : ss.length < 4611686018427387904) :
    Calls Tryd.prog 120 #[.slice (some ⟨blk, off, none⟩) ss.length cap] w fun e w' =>
      e = .returned (.tuple #[]) ∧ ∃ n os, w' = grow (putRow encStr (Sort.ahead w n) blk off (ss.mergeSort fun x y => decide (x ≤ y)).toArray) os := Any.slices_Sort_string Tryd.lays190 blk off cap ss w hH hblk hsz
open Go.RowKit Go.Sort in
theorem Tryd.slices_Sort_string_none (p : Option Addr) (cap : Nat) (w : World) :
    Calls Tryd.prog 120 #[.slice p 0 cap] w fun e w' => e = .returned (.tuple #[]) ∧ w' = w := Any.slices_Sort_string_none Tryd.lays190 p cap w
def Tryd.lays194_ren : Go.Shelf.Ren := ⟨fun | 194 => 121 | n => n, fun | 31 => 89 | 9 => 9 | 3 => 3 | 4 => 4 | 0 => 0 | n => n, fun | n => n⟩
theorem Tryd.lays194 : Go.Proofs.Lays.n194 Tryd.prog Tryd.lays194_ren := {
  mixed := by kernel_rfl
  f194 := Tryd.func121.trans (congrArg some (by kernel_rfl))
  t0 := Tryd.underlying0
  a0 := Tryd.isAgg0
  z0 := Tryd.sizeOf0
  v0 := Tryd.zeroValue0
  t3 := Tryd.underlying3
  a3 := Tryd.isAgg3
  z3 := Tryd.sizeOf3
  v3 := Tryd.zeroValue3
  t4 := Tryd.underlying4
  a4 := Tryd.isAgg4
  z4 := Tryd.sizeOf4
  v4 := Tryd.zeroValue4
  t9 := Tryd.underlying9
  a9 := Tryd.isAgg9
  z9 := Tryd.sizeOf9
  v9 := Tryd.zeroValue9
  t31 := Tryd.underlying89
  a31 := Tryd.isAgg89
  z31 := Tryd.sizeOf89
  v31 := Tryd.zeroValue89 }
open Go.RowKit Go.Lib Go.Sort in
theorem Tryd.slices_Compact_string (blk off cap : Nat) (zs : List (List UInt8)) (w : World) (hH : Holds encStr w blk off zs.toArray) (hsz : zs.length ≤ 9223372036854775807) (hcap : zs.length ≤ cap) :
    Calls Tryd.prog 121 #[.slice (some ⟨blk, off, none⟩) zs.length cap] w fun e w' => e = .returned (.slice (some ⟨blk, off, none⟩) (Lib.compact zs).length cap) ∧ ∃ q, w' = putRow encStr (Sort.ahead w q) blk off (Lib.compact zs ++ List.replicate (zs.length - (Lib.compact zs).length) []).toArray := Any.slices_Compact_string Tryd.lays194 blk off cap zs w hH hsz hcap
open Go.RowKit Go.Lib Go.Sort in
theorem Tryd.slices_Compact_string_empty (a : Option Addr) (cap : Nat) (w : World) :
    Calls Tryd.prog 121 #[.slice a 0 cap] w fun e w' => e = .returned (.slice a 0 cap) ∧ w' = w := Any.slices_Compact_string_empty Tryd.lays194 a cap w
end Go.Proofs
