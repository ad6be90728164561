/-
  Layer 3: words for the laws' walks.
-/
import Derived.Test.YtmmbfidnbdckmaaDoorWpW
import Derived.Test.YtmmbfidnbdckmaaDoorWpF
import Derived.Test.YtmmbfidnbdckmaaDoorWpL
namespace Go.Proofs.YtmmbfidnbdckmaaDoor
open Go.RowKit

/-- The two boxes of a law's arguments. -/
structure Bx2 (w W : World) (s : Sq) (A : Option Addr) (c : Nat) (t : Sq) (B : Option Addr) (d : Nat) : Prop where
  sq1 : Blk W w.heap.size 24 (seqC s A c)
  sq2 : Blk W (w.heap.size + 1) 24 (seqC t B d)
  be : Below w.heap.size w W
theorem Bx2.next {w W W' : World} {s t : Sq} {A B : Option Addr} {c d : Nat} (h : Bx2 w W s A c t B d) (hb : Below W.heap.size W W') : Bx2 w W' s A c t B d :=
  ⟨h.sq1.below hb h.sq1.lt, h.sq2.below hb h.sq2.lt, h.be.trans (hb.mono h.be.size)⟩
theorem Bx2.new (w : World) (s t : Sq) (A B : Option Addr) (c d : Nat) : Bx2 w ((w.alloc (.cells (seqC s A c) 24)).alloc (.cells (seqC t B d) 24)) s A c t B d := by
  refine ⟨(Blk.new w _ _).alloc _, ?_, ((Below.refl _ w).alloc (Nat.le_refl _) _).alloc (by simp) _⟩
  have := Blk.new (w.alloc (.cells (seqC s A c) 24)) 24 (seqC t B d)
  rwa [World.size_alloc] at this
theorem Bx2.cells {w W : World} {s t : Sq} {A B : Option Addr} {c d : Nat} (h : Bx2 w W s A c t B d) :
    (W.cell? ⟨w.heap.size, 0, none⟩ = some (.int .i64 s.kind) ∧ W.cell? ⟨w.heap.size, 1, none⟩ = some (.int .u8 (s.priv.toNat : Int)) ∧ W.cell? ⟨w.heap.size, 2, none⟩ = some (.slice A s.params.length c) ∧ W.cell? ⟨w.heap.size, 3, none⟩ = some (.string ⟨s.inter.toArray⟩) ∧ W.cell? ⟨w.heap.size, 4, none⟩ = some (.int .u8 (s.final.toNat : Int)) ∧ W.cell? ⟨w.heap.size, 5, none⟩ = some (.string ⟨s.data.toArray⟩)) ∧
    (W.cell? ⟨w.heap.size + 1, 0, none⟩ = some (.int .i64 t.kind) ∧ W.cell? ⟨w.heap.size + 1, 1, none⟩ = some (.int .u8 (t.priv.toNat : Int)) ∧ W.cell? ⟨w.heap.size + 1, 2, none⟩ = some (.slice B t.params.length d) ∧ W.cell? ⟨w.heap.size + 1, 3, none⟩ = some (.string ⟨t.inter.toArray⟩) ∧ W.cell? ⟨w.heap.size + 1, 4, none⟩ = some (.int .u8 (t.final.toNat : Int)) ∧ W.cell? ⟨w.heap.size + 1, 5, none⟩ = some (.string ⟨t.data.toArray⟩)) := ⟨Blk.cells6 h.sq1, Blk.cells6 h.sq2⟩
/-- The box of a law's argument. -/
structure Bx1 (w W : World) (s : Sq) (A : Option Addr) (c : Nat) : Prop where
  sq1 : Blk W w.heap.size 24 (seqC s A c)
  be : Below w.heap.size w W
theorem Bx1.next {w W W' : World} {s : Sq} {A : Option Addr} {c : Nat} (h : Bx1 w W s A c) (hb : Below W.heap.size W W') : Bx1 w W' s A c :=
  ⟨h.sq1.below hb h.sq1.lt, h.be.trans (hb.mono h.be.size)⟩
theorem Bx1.new (w : World) (s : Sq) (A : Option Addr) (c : Nat) : Bx1 w (w.alloc (.cells (seqC s A c) 24)) s A c :=
  ⟨Blk.new w _ _, (Below.refl _ w).alloc (Nat.le_refl _) _⟩
theorem Bx1.cells {w W : World} {s : Sq} {A : Option Addr} {c : Nat} (h : Bx1 w W s A c) :
    W.cell? ⟨w.heap.size, 0, none⟩ = some (.int .i64 s.kind) ∧ W.cell? ⟨w.heap.size, 1, none⟩ = some (.int .u8 (s.priv.toNat : Int)) ∧ W.cell? ⟨w.heap.size, 2, none⟩ = some (.slice A s.params.length c) ∧ W.cell? ⟨w.heap.size, 3, none⟩ = some (.string ⟨s.inter.toArray⟩) ∧ W.cell? ⟨w.heap.size, 4, none⟩ = some (.int .u8 (s.final.toNat : Int)) ∧ W.cell? ⟨w.heap.size, 5, none⟩ = some (.string ⟨s.data.toArray⟩) := Blk.cells6 h.sq1
/-- Put, whatever it tells. -/
def PutE (m : Int) (T : List UInt8) (w : World) (e : Ending) (w' : World) : Prop :=
  (∃ A c, e = .returned (.tuple #[.slice A T.length c, .int .i64 m]) ∧ T.length ≤ c ∧ Rd w' A (bs T)) ∧ Below w.heap.size w w'
def putE (s : Sq) : List UInt8 := if mayS s = 0 then putS s else []
theorem putE_0 {s : Sq} (h : mayS s = 0) : putE s = putS s := if_pos h
theorem putE_no {s : Sq} (h : mayS s ≠ 0) : putE s = [] := if_neg h
theorem putE_len (s : Sq) : (putE s).length ≤ 20000 := by
  unfold putE
  split
  · rename_i h; exact (may_small h).2.2.1
  · simp
theorem few_len {s : Sq} (h : fewB s = true) : s.params.length ≤ 4294967296 ∧ (∀ p ∈ s.params, p.length ≤ 4294967296) ∧ s.inter.length ≤ 4294967296 := by
  obtain ⟨h1, h2, h3, _⟩ := few_parts h
  exact ⟨by omega, fun p hp => by have := h2 p hp; omega, by omega⟩
theorem pputE_any (s : Sq) (A : Option Addr) (c : Nat) (m : Int) (T : List UInt8) (w : World) (hm : mayS s = m) (hT : putE s = T) (hf : fewB s = true) (ht : Tab w) (hr : RdP w A s.params) :
    Calls Tryd.prog 11 #[sqV s A c] w (PutE m T w) := by
  subst hT
  subst hm
  obtain ⟨f1, f2, f3⟩ := few_len hf
  by_cases h : mayS s = 0
  · refine (pput_yes s A c w h ht hr).mono ?_
    rintro e w' ⟨⟨A', c', rfl, h1, h2⟩, hb⟩
    rw [putE_0 h, h]
    exact ⟨⟨A', c', rfl, h1, h2⟩, hb⟩
  · refine (pput_no s A c _ w rfl h f1 f2 f3 hr).mono ?_
    rintro e w' ⟨rfl, hb⟩
    rw [putE_no h]
    exact ⟨⟨none, 0, rfl, Nat.le_refl _, Rd.nil _ _⟩, hb⟩
end Go.Proofs.YtmmbfidnbdckmaaDoor
