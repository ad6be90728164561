/-
  From what a row lists to memory: the array of sizes.
-/
import Derived.Test.YtdhpbihooeckoaaDoorLift
import Derived.Test.YtdhpbihooeckoaaDoorUtfA
import Derived.Test.YtdhpbihooeckoaaDoorRows
import Derived.OpenShut
namespace Go.Proofs.YtdhpbihooeckoaaDoor
open Go.RowKit Go.WideShapes Go.ChangeShapes Go.ChangeAt Go.ChangeMaps

section
variable {H : Type} {enc : TypeId × Value → H} {P : Program}
/-- A struct of three integers that reads so. -/
theorem row_three {w : World} {base : Nat} {sp : Nat → Bool} {held : Bool} {fuel : Nat} {t e : TypeId} {f0 f1 f2 : Field} {cs : List Value} {a b c : Int} {p : List MemPlace}
    (ht : P.underlying t = some (.struct #[f0, f1, f2])) (e0 : f0.type = e) (e1 : f1.type = e) (e2 : f2.type = e) (o0 : f0.offset = 0) (o1 : f1.offset = 1) (o2 : f2.offset = 2) (he : P.underlying e = some (.int .i64)) (hce : P.cellsOf e = 1) (hct : P.cellsOf t = 3)
    (h : DataW.trod enc P w base sp held fuel t cs = some (.agg [.lit (.int .i64 a), .lit (.int .i64 b), .lit (.int .i64 c)], p)) : cs = [.int .i64 a, .int .i64 b, .int .i64 c] := by
  obtain ⟨xs, n, _, hx, hlen, hxl, hf⟩ := DataW.trod_struct ht h
  rw [hct] at hlen
  simp only [Prod.mk.injEq, DataW.agg.injEq] at hx
  match cs, hlen with
  | [u, v, y], _ =>
    match xs, hxl with
    | [x0, x1, x2], _ =>
      simp only [List.map_cons, List.map_nil, List.cons.injEq, and_true] at hx
      obtain ⟨⟨h0, h1, h2⟩, _⟩ := hx
      have g0 := hf 0 f0 rfl
      have g1 := hf 1 f1 rfl
      have g2 := hf 2 f2 rfl
      rw [e0, o0, hce] at g0
      rw [e1, o1, hce] at g1
      rw [e2, o2, hce] at g2
      obtain ⟨z0, k0, m0, _⟩ := DataW.trod_int he g0
      obtain ⟨z1, k1, m1, _⟩ := DataW.trod_int he g1
      obtain ⟨z2, k2, m2, _⟩ := DataW.trod_int he g2
      simp at k0 k1 k2
      subst k0 k1 k2
      rw [m0] at h0
      rw [m1] at h1
      rw [m2] at h2
      simp at h0 h1 h2
      rw [h0, h1, h2]
end

theorem siz_of {W : World} {rest : List (String × DataW Unit)} (h : laidMet Tryd.prog (("clavier/utf.sizes", Rows.laid_clavier_utf_sizes) :: rest) W) : Siz W := by
  obtain ⟨ps, ⟨g, t, cs, fuel, p, q, hg, ht, hvar, hd, _, _⟩, _⟩ := h
  obtain rfl := Option.some.inj ((show Tryd.prog.globalNamed "clavier/utf.sizes" = some 1 by kernel_rfl).symm.trans hg)
  obtain rfl := Option.some.inj ((show (Tryd.prog.globals[1]?).map (·.type) = some 64 by kernel_rfl).symm.trans ht)
  obtain ⟨xs, m, _, hx, hlen, hxl, hel⟩ := DataW.trod_array Tryd.underlying64 hd
  rw [show Tryd.prog.cellsOf 64 = 12 by kernel_rfl] at hlen
  rw [show Tryd.prog.cellsOf 62 = 3 by kernel_rfl] at hel
  have row : ∀ (cs3 : List Value) (a b c : Int) (x : DataW Unit × List MemPlace), x.1 = .agg [.lit (.int .i64 a), .lit (.int .i64 b), .lit (.int .i64 c)] → DataW.trod (fun _ => ()) Tryd.prog W 0 (fun _ => true) false m 62 cs3 = some x → cs3 = [.int .i64 a, .int .i64 b, .int .i64 c] := fun cs3 a b c x hx h3 => by
    obtain ⟨x1, x2⟩ := x
    subst hx
    exact row_three Tryd.underlying62 (e := 3) rfl rfl rfl rfl rfl rfl Tryd.underlying3 (by kernel_rfl) (by kernel_rfl) h3
  match xs, hxl with
  | [x0, x1, x2, x3], _ =>
    simp only [Prod.mk.injEq, Rows.laid_clavier_utf_sizes, DataW.agg.injEq, List.map_cons, List.map_nil, List.cons.injEq, and_true] at hx
    obtain ⟨⟨d0, d1, d2, d3⟩, _⟩ := hx
    have r0 := row _ _ _ _ x0 d0.symm (hel 0 (by omega))
    have r1 := row _ _ _ _ x1 d1.symm (hel 1 (by omega))
    have r2 := row _ _ _ _ x2 d2.symm (hel 2 (by omega))
    have r3 := row _ _ _ _ x3 d3.symm (hel 3 (by omega))
    have e : cs = sizC := by
      apply Array.ext'
      generalize cs.toList = l at *
      match l, hlen with
      | [a0, a1, a2, a3, a4, a5, a6, a7, a8, a9, b0, b1], _ =>
        simp at r0 r1 r2 r3
        obtain ⟨rfl, rfl, rfl⟩ := r0
        obtain ⟨rfl, rfl, rfl⟩ := r1
        obtain ⟨rfl, rfl, rfl⟩ := r2
        obtain ⟨rfl, rfl, rfl⟩ := r3
        rfl
    subst e
    simp only [World.var?, hg, Option.bind_some] at hvar
    split at hvar
    · rename_i c t' fr hb
      cases hvar
      exact ⟨t', fr, hb⟩
    · cases hvar
end Go.Proofs.YtdhpbihooeckoaaDoor
