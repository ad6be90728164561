/-
  From layer 18's walks to a law's row: an array of four numbers that came in.
-/
import Derived.Test.YthcafgningpdnaaDoorG32
import Derived.Test.YthcafgningpdnaaDoorRows
import Derived.Deep.Matrix
import Derived.Deep.Slices
import Derived.OpenShut
import Derived.Deep.Grids
namespace Go.Proofs.YthcafgningpdnaaDoor
open Go.RowKit Go.WideShapes Go.ChangeShapes Go.ChangeAt Go.ChangeMaps Go.Deep
section
section
variable {H : Type} {enc : TypeId × Value → H}
theorem okWide_i4 {P : Program} {t e : TypeId} {n : Nat} {W : World} {r : Reach} {b0 : Nat} {v : Value} (ht : P.underlying t = some (.array n e)) (h : Value.okWide P W r b0 t v) : ∃ cs, v = .agg cs ∧ cs.size = P.cellsOf t := by
 simp only [Value.okWide, ht] at h
 obtain ⟨cs, h1, h2, _⟩ := h
 exact ⟨cs, h1, h2⟩
set_option maxRecDepth 100000 in
theorem open_i4 {r : Reach} {b0 : Nat} {W : World} {v : Value} {d : DataW H} {ps : List MemPlace} (hval : Value.okWide Tryd.prog W r b0 39 v) (h : DataW.Trod enc Tryd.prog W 0 (fun _ => true) true 39 v d ps) :
 ∃ a b c e : Int, v = .agg #[.int .i64 a, .int .i64 b, .int .i64 c, .int .i64 e] ∧ (-9223372036854775808 ≤ a ∧ a ≤ 9223372036854775807) ∧ (-9223372036854775808 ≤ b ∧ b ≤ 9223372036854775807) ∧ (-9223372036854775808 ≤ c ∧ c ≤ 9223372036854775807) ∧ (-9223372036854775808 ≤ e ∧ e ≤ 9223372036854775807) := by
 obtain ⟨cs, rfl, hsz⟩ := okWide_i4 Tryd.underlying39 hval
 obtain ⟨fuel, hf⟩ := h
 obtain ⟨xs, m, _, hx, hlen, hxl, hel⟩ := DataW.trod_array Tryd.underlying39 hf
 rw [show Tryd.prog.cellsOf 39 = 4 by kernel_rfl] at hsz
 have ce : Tryd.prog.cellsOf 3 = 1 := by kernel_rfl
 obtain ⟨l⟩ := cs
 match l, hsz with
 | [u0, u1, u2, u3], _ =>
   match xs, hxl with
   | [y0, y1, y2, y3], _ =>
     have g0 := hel 0 (by omega)
     have g1 := hel 1 (by omega)
     have g2 := hel 2 (by omega)
     have g3 := hel 3 (by omega)
     rw [ce] at g0 g1 g2 g3
     obtain ⟨z0, k0, _, w0⟩ := DataW.trod_int Tryd.underlying3 (show DataW.trod enc Tryd.prog W 0 (fun _ => true) true m 3 [u0] = some y0 by simpa [Value.cells] using g0)
     obtain ⟨z1, k1, _, w1⟩ := DataW.trod_int Tryd.underlying3 (show DataW.trod enc Tryd.prog W 0 (fun _ => true) true m 3 [u1] = some y1 by simpa [Value.cells] using g1)
     obtain ⟨z2, k2, _, w2⟩ := DataW.trod_int Tryd.underlying3 (show DataW.trod enc Tryd.prog W 0 (fun _ => true) true m 3 [u2] = some y2 by simpa [Value.cells] using g2)
     obtain ⟨z3, k3, _, w3⟩ := DataW.trod_int Tryd.underlying3 (show DataW.trod enc Tryd.prog W 0 (fun _ => true) true m 3 [u3] = some y3 by simpa [Value.cells] using g3)
     simp at k0 k1 k2 k3
     subst k0 k1 k2 k3
     have b0 := bounds_i64 w0
     have b1 := bounds_i64 w1
     have b2 := bounds_i64 w2
     have b3 := bounds_i64 w3
     exact ⟨z0, z1, z2, z3, rfl, ⟨by omega, by omega⟩, ⟨by omega, by omega⟩, ⟨by omega, by omega⟩, ⟨by omega, by omega⟩⟩
end
end
end Go.Proofs.YthcafgningpdnaaDoor
