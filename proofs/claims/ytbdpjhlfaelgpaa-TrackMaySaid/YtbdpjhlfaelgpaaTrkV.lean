/-
  Layer 15: a mouse's event, and a cell, as values.
-/
import Derived.Test.YtbdpjhlfaelgpaaTrkM
import Derived.Test.YtbdpjhlfaelgpaaSix
import Derived.Test.YtbdpjhlfaelgpaaMid
namespace Go.Proofs.Ytbdpjhlfaelgpaa
open Go.RowKit

def msC (e : Ms) : Array Value := #[.int .i64 e.btn, .int .i64 e.typ, .int .i64 e.x, .int .i64 e.y, .int .i64 e.mods]
def msV (e : Ms) : Value := .agg #[.int .i64 e.btn, .int .i64 e.typ, .int .i64 e.x, .int .i64 e.y, .int .i64 e.mods]
def ceV (s : Ce) : Value := .agg #[.int .i64 s.x, .int .i64 s.y]
structure okT (e : Ms) : Prop where
  btn : -9223372036854775808 ≤ e.btn ∧ e.btn ≤ 9223372036854775807
  typ : -9223372036854775808 ≤ e.typ ∧ e.typ ≤ 9223372036854775807
  x : -9223372036854775808 ≤ e.x ∧ e.x ≤ 9223372036854775807
  y : -9223372036854775808 ≤ e.y ∧ e.y ≤ 9223372036854775807
  mods : -9223372036854775808 ≤ e.mods ∧ e.mods ≤ 9223372036854775807
def inM (n : Int) : Prop := -9223372036854775808 ≤ n ∧ n ≤ 9223372036854775807
theorem ret_bl {x y : Bool} (h : x = y) : Ending.returned (.bool x) = .returned (.bool y) := by rw [h]
end Go.Proofs.Ytbdpjhlfaelgpaa
