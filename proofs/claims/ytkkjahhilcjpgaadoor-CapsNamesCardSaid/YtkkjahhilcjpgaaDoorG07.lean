/-
  Numbers in figures, plainly: no program is named here. (Later layers' texts take this in the place of layer 1's own.) Layer 3's mathematics: a sequence, whether it may be, its bytes, and the sequence with which bytes begin. Stage 19, the landed report, walked: Num with its rows, setting, Place.
  Cut out of RepB. A block that is written whole, and read whole.
-/
import Derived.Test.YtkkjahhilcjpgaaDoorG05
import Derived.Test.YtkkjahhilcjpgaaDoorG06
import Derived.Lib.ItoaLen
import Derived.Deep.MidRow
namespace Go.Proofs.YtkkjahhilcjpgaaDoor
def rd (M : Int) (n : Int) (c : UInt8) : Int := min (10 * max n 0 + ((c.toNat : Int) - 48)) M
structure Sq where
 kind : Int
 priv : UInt8
 params : List (List Int)
 inter : List UInt8
 final : UInt8
 data : List UInt8
def btw (a b : Nat) (c : UInt8) : Bool := decide (a ≤ c.toNat) && decide (c.toNat ≤ b)
theorem btw_iff (a b : Nat) (c : UInt8) : btw a b c = true ↔ a ≤ c.toNat ∧ c.toNat ≤ b := by simp [btw]
theorem btw_no (a b : Nat) (c : UInt8) : btw a b c = false ↔ ¬ (a ≤ c.toNat ∧ c.toNat ≤ b) := by rw [← btw_iff]; simp
def parOk (l : List (List Int)) : Bool := decide (l.length ≤ 16) && decide (l ≠ [[-1]]) && l.all fun p => decide (1 ≤ p.length) && decide (p.length ≤ 8) && p.all fun n => decide (-1 ≤ n) && decide (n ≤ 1114111)
def lastOk (s : Sq) : Bool :=
 if s.kind = 1 ∨ s.kind = 2 ∨ s.kind = 3 then btw 64 126 s.final
 else if s.kind = 5 then btw 48 126 s.final && (decide (s.inter ≠ []) || !([79, 80, 88, 91, 93, 92, 94, 95] : List UInt8).contains s.final)
 else decide (s.kind = 4) && decide (s.final = 0)
def bareOk (s : Sq) : Bool :=
 !(decide (s.kind = 2 ∨ s.kind = 4 ∨ s.kind = 5) && (decide (s.priv ≠ 0) || decide (s.params ≠ []))) && !(decide (s.kind = 2 ∨ s.kind = 4) && decide (s.inter ≠ [])) && (decide (s.data = []) || decide (s.kind = 3 ∨ s.kind = 4))
def privOk (c : UInt8) : Bool := decide (c = 0) || btw 60 63 c
def okS (s : Sq) : Bool := privOk s.priv && parOk s.params && decide (s.inter.length ≤ 2) && s.inter.all (btw 32 47) && s.data.all (btw 32 126) && lastOk s && bareOk s
def mayS (s : Sq) : Int := if 4096 < s.data.length then 4 else if okS s = true then 0 else 1
end Go.Proofs.YtkkjahhilcjpgaaDoor
namespace Go.Proofs.YtkkjahhilcjpgaaDoor
open Go.RowKit
theorem rdpn_lit (w : World) (x : Int) : RdPN (w.heap.size + 2) ((w.alloc (.cells #[.int .i64 x] 3)).alloc (.cells #[.slice (some ⟨w.heap.size, 0, none⟩) 1 1] 45)) (some ⟨w.heap.size + 1, 0, none⟩) [[x]] := fun _ => by
 have h0 := heap_alloc_new (w.alloc (.cells #[.int .i64 x] 3)) (.cells #[.slice (some ⟨w.heap.size, 0, none⟩) 1 1] 45)
 rw [World.size_alloc] at h0
 have h1 := (Below.heap_alloc (w.alloc (.cells #[.int .i64 x] 3)) (.cells #[.slice (some ⟨w.heap.size, 0, none⟩) 1 1] 45) w.heap.size (by simp)).trans (heap_alloc_new w (.cells #[.int .i64 x] 3))
 refine ⟨w.heap.size + 1, 0, rfl, by omega, ⟨_, _, h0⟩, fun k hk => ?_⟩
 obtain rfl : k = 0 := by simpa using hk
 refine ⟨some ⟨w.heap.size, 0, none⟩, 1, cell_of_row _ _ 0 _ _ _ h0, fun _ => ⟨w.heap.size, 0, rfl, by omega, ⟨_, _, h1⟩, fun j u hu => ?_⟩⟩
 match j, hu with
 | 0, hu =>
   obtain rfl : Value.int .i64 x = u := by simpa [is_] using hu
   exact cell_of_row _ _ 0 _ _ _ h1
section
section
variable {w w' : World} {g : Nat} {t : TypeId} {cs ds : Array Value}
theorem Blk.there (h : Blk w g t cs) : w.there g 0 cs.size := fun j hj => by
 rw [Nat.zero_add]
 exact ⟨by rw [h.cell j]; simp [hj], h.frozen j⟩
theorem Blk.range (h : Blk w g t cs) : w.rangeAt g 0 cs.toList := fun j v hv => by
 rw [Nat.zero_add, h.cell j]
 simpa using hv
end
end
end Go.Proofs.YtkkjahhilcjpgaaDoor
