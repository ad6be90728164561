/-
  Layer 3's mathematics: a sequence's body, a parameter at a time; its length. Stage 18: styles compared. Layer 2's mathematics: code points and their bytes; the first one of a list of bytes; all of them. Cut out of WirF: what names no function of any dump. The cells of a block of five, and of six. Cut out of Same: what names no function of any dump.
-/
import Derived.Test.YthcafgningpdnaaDoorG03
import Derived.Test.YthcafgningpdnaaDoorG05
import Derived.Test.YthcafgningpdnaaDoorG06
import Derived.Lib.Hide
namespace Go.Proofs.YthcafgningpdnaaDoor
open Go.RowKit
end Go.Proofs.YthcafgningpdnaaDoor
namespace Go.Proofs.YthcafgningpdnaaDoor
end Go.Proofs.YthcafgningpdnaaDoor
namespace Go.Proofs.YthcafgningpdnaaDoor
open Go.RowKit
theorem Blk.cells6 {w : World} {g : Nat} {t : TypeId} {a b c d e f : Value} (h : Blk w g t #[a, b, c, d, e, f]) :
 w.cell? ⟨g, 0, none⟩ = some a ∧ w.cell? ⟨g, 1, none⟩ = some b ∧ w.cell? ⟨g, 2, none⟩ = some c ∧ w.cell? ⟨g, 3, none⟩ = some d ∧ w.cell? ⟨g, 4, none⟩ = some e ∧ w.cell? ⟨g, 5, none⟩ = some f :=
 ⟨h.cell 0, h.cell 1, h.cell 2, h.cell 3, h.cell 4, h.cell 5⟩
def sameB (s t : Sq) : Bool := decide (s.kind = t.kind) && decide (s.priv = t.priv) && decide (s.params = t.params) && decide (s.inter = t.inter) && decide (s.final = t.final) && decide (s.data = t.data)
theorem sameB_iff (s t : Sq) : sameB s t = true ↔ s = t := by
 obtain ⟨a, b, c, d, e, f⟩ := s
 obtain ⟨a', b', c', d', e', f'⟩ := t
 simp only [sameB, Bool.and_eq_true, decide_eq_true_eq, Sq.mk.injEq]
 constructor
 ·rintro ⟨⟨⟨⟨⟨h1, h2⟩, h3⟩, h4⟩, h5⟩, h6⟩
  exact ⟨h1, h2, h3, h4, h5, h6⟩
 ·rintro ⟨h1, h2, h3, h4, h5, h6⟩
  exact ⟨⟨⟨⟨⟨h1, h2⟩, h3⟩, h4⟩, h5⟩, h6⟩
theorem byte_ne {a b : UInt8} (h : a ≠ b) : ((a.toNat : Int) == (b.toNat : Int)) = false ∧ ((a.toNat : Int) != (b.toNat : Int)) = true := by
 have h1 : a.toNat ≠ b.toNat := fun e => h (UInt8.toNat_inj.1 e)
 have h2 : ((a.toNat : Int) == (b.toNat : Int)) = false := beq_false_of_ne (by omega)
 exact ⟨h2, by simp [bne, h2]⟩
end Go.Proofs.YthcafgningpdnaaDoor
