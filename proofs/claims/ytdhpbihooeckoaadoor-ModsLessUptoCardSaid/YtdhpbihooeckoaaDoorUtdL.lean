/-
  What All answers.
-/
import Derived.Test.YtdhpbihooeckoaaDoorInts
import Derived.Test.YtdhpbihooeckoaaDoorOwn
namespace Go.Proofs.YtdhpbihooeckoaaDoor
open Go.RowKit

theorem Tryd.intinfo : (Tryd.prog.info? 3).map (fun i => (i.zero, i.size, i.bytes)) = some (some (.int .i64 0), 1, 8) := by kernel_rfl

/-- What All answers. -/
def Al (o : Option (List Int)) (w : World) (e : Ending) (w' : World) : Prop :=
  match o with
  | some k => ∃ A c, e = .returned (.tuple #[.slice A k.length c, .bool true]) ∧ Rd w' A (is_ k) ∧ Below w.heap.size w w'
  | none => e = .returned (.tuple #[.slice none 0 0, .bool false]) ∧ Below w.heap.size w w'
theorem Al.yes {o : Option (List Int)} {k : List Int} {n : Nat} (h : o = some k) (hn : k.length = n) {w w' : World} {A : Option Addr} {c : Nat} (hr : Rd w' A (is_ k)) (hb : Below w.heap.size w w') : Al o w (.returned (.tuple #[.slice A n c, .bool true])) w' := by
  subst h hn
  exact ⟨A, c, rfl, hr, hb⟩
theorem Al.no {o : Option (List Int)} (h : o = none) {w w' : World} (hb : Below w.heap.size w w') : Al o w (.returned (.tuple #[.slice none 0 0, .bool false])) w' := by
  subst h
  exact ⟨rfl, hb⟩

end Go.Proofs.YtdhpbihooeckoaaDoor
