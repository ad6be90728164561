/-
  Stage 18's laws, walked: StyleNone.
-/
import Derived.Test.YthcafgningpdnaaDoorG36
import Derived.Test.YthcafgningpdnaaDoorG37
import Derived.Test.YthcafgningpdnaaDoorG38
import Derived.Test.YthcafgningpdnaaDoorG39
import Derived.Test.YthcafgningpdnaaDoorG40
import Derived.Test.YthcafgningpdnaaDoorG41
import Derived.Test.YthcafgningpdnaaDoorG42
import Derived.Test.YthcafgningpdnaaDoorG43
import Derived.Test.YthcafgningpdnaaDoorG44
namespace Go.Proofs.YthcafgningpdnaaDoor
open Go.RowKit
theorem styleNone_walk (s : Sy) (hs : okSy s) (n : Int) (n0 : -9223372036854775808 ≤ n) (n1 : n ≤ 9223372036854775807) (x y z t : Int) (hx : in18 x) (hy : in18 y) (hz : in18 z) (ht0 : in18 t) (w : World) (ht : Tab w) : Calls Tryd.prog 8 #[syV s, .int .i64 n, .agg #[.int .i64 x, .int .i64 y, .int .i64 z, .int .i64 t]] w fun e w' => e = .returned (.bool true) ∧ Below w.heap.size w w' := by
 by_cases h0 : n ≤ 9 ∧ n ≠ 6
 ·exact sNone_0 s hs n n0 n1 x y z t hx hy hz ht0 w ht h0
 by_cases h1 : 30 ≤ n ∧ n ≤ 49
 ·exact sNone_1 s hs n n0 n1 x y z t hx hy hz ht0 w ht h1
 by_cases h2 : 90 ≤ n ∧ n ≤ 107 ∧ n ≠ 98 ∧ n ≠ 99
 ·exact sNone_2 s hs n n0 n1 x y z t hx hy hz ht0 w ht h2
 by_cases h3 : n = 6
 ·exact sNone_3 s hs n n0 n1 x y z t hx hy hz ht0 w ht h3
 by_cases h4 : 9 < n ∧ n < 30
 ·exact sNone_4 s hs n n0 n1 x y z t hx hy hz ht0 w ht h4
 by_cases h5 : 49 < n ∧ n < 90
 ·exact sNone_5 s hs n n0 n1 x y z t hx hy hz ht0 w ht h5
 by_cases h6 : n = 98
 ·exact sNone_6 s hs n n0 n1 x y z t hx hy hz ht0 w ht h6
 by_cases h7 : n = 99
 ·exact sNone_7 s hs n n0 n1 x y z t hx hy hz ht0 w ht h7
 exact sNone_8 s hs n n0 n1 x y z t hx hy hz ht0 w ht (by omega)
end Go.Proofs.YthcafgningpdnaaDoor
