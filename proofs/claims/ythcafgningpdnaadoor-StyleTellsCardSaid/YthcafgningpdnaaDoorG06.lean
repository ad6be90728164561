/-
  Layer 18's words: a style in memory, rows of numbers with their room.
-/
import Derived.Test.YthcafgningpdnaaDoorG03
import Derived.Test.YthcafgningpdnaaDoorG04
import Derived.Test.YthcafgningpdnaaDoorG05
namespace Go.Proofs.YthcafgningpdnaaDoor
open Go.RowKit
def syV (s : Sy) : Value := .agg #[.bool s.bold, .bool s.faint, .bool s.italic, .bool s.blink, .bool s.inverse, .bool s.hidden, .bool s.strike, .int .i64 s.under, .int .i64 s.fore, .int .i64 s.back]
def syC (s : Sy) : Array Value := #[.bool s.bold, .bool s.faint, .bool s.italic, .bool s.blink, .bool s.inverse, .bool s.hidden, .bool s.strike, .int .i64 s.under, .int .i64 s.fore, .int .i64 s.back]
def in18 (n : Int) : Prop := -9223372036854775808 ≤ n ∧ n ≤ 9223372036854775807
def okSy (s : Sy) : Prop := in18 s.under ∧ in18 s.fore ∧ in18 s.back
def RdPc (w : World) (A : Option Addr) (ps : List (List Int)) : Prop :=
 0 < ps.length → ∃ b o, A = some ⟨b, o, none⟩ ∧ b < w.heap.size ∧ ∀ k (hk : k < ps.length), ∃ A' c', (ps[k]).length ≤ c' ∧ w.cell? ⟨b, o + k, none⟩ = some (.slice A' (ps[k]).length c') ∧ Rd w A' (is_ ps[k])
theorem RdPc.nil (w : World) (A : Option Addr) : RdPc w A [] := fun h => absurd h (by simp)
theorem RdPc.below {w w' : World} {A : Option Addr} {ps : List (List Int)} (h : RdPc w A ps) (hb : Below w.heap.size w w') : RdPc w' A ps := fun hp => by
 obtain ⟨b, o, rfl, hlt, hc⟩ := h hp
 refine ⟨b, o, rfl, Nat.lt_of_lt_of_le hlt hb.size, fun k hk => ?_⟩
 obtain ⟨A', c', h0, h1, h2⟩ := hc k hk
 exact ⟨A', c', h0, (hb.cell (p := ⟨b, o + k, none⟩) hlt).trans h1, h2.below hb⟩
theorem RdPc.rdp {w : World} {A : Option Addr} {ps : List (List Int)} (h : RdPc w A ps) : RdP w A ps := fun hp => by
 obtain ⟨b, o, rfl, hlt, hc⟩ := h hp
 refine ⟨b, o, rfl, hlt, fun k hk => ?_⟩
 obtain ⟨A', c', _, h1, h2⟩ := hc k hk
 exact ⟨A', c', h1, h2⟩
theorem RdPc.alloc {w : World} {A : Option Addr} {ps : List (List Int)} (h : RdPc w A ps) (o : Obj) : RdPc (w.alloc o) A ps := h.below ((Below.refl _ _).alloc (Nat.le_refl _) o)
structure LsIn (W : World) (A : Option Addr) (ps : List (List Int)) : Prop where
 rd : RdPc W A ps
 nr : ∀ p ∈ ps, ∀ n ∈ p, in18 n
theorem LsIn.below {w w' : World} {A : Option Addr} {ps : List (List Int)} (h : LsIn w A ps) (hb : Below w.heap.size w w') : LsIn w' A ps := ⟨h.rd.below hb, h.nr⟩
theorem Blk.cells10y {w : World} {b : Nat} {t : TypeId} {s : Sy} (h : Blk w b t (syC s)) : w.cell? ⟨b, 0, none⟩ = some (.bool s.bold) ∧ w.cell? ⟨b, 1, none⟩ = some (.bool s.faint) ∧ w.cell? ⟨b, 2, none⟩ = some (.bool s.italic) ∧ w.cell? ⟨b, 3, none⟩ = some (.bool s.blink) ∧ w.cell? ⟨b, 4, none⟩ = some (.bool s.inverse) ∧ w.cell? ⟨b, 5, none⟩ = some (.bool s.hidden) ∧ w.cell? ⟨b, 6, none⟩ = some (.bool s.strike) ∧ w.cell? ⟨b, 7, none⟩ = some (.int .i64 s.under) ∧ w.cell? ⟨b, 8, none⟩ = some (.int .i64 s.fore) ∧ w.cell? ⟨b, 9, none⟩ = some (.int .i64 s.back) :=
 ⟨h.cell 0, h.cell 1, h.cell 2, h.cell 3, h.cell 4, h.cell 5, h.cell 6, h.cell 7, h.cell 8, h.cell 9⟩
end Go.Proofs.YthcafgningpdnaaDoor
