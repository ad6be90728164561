/-
  Cut out of NumU: what names no function of any dump. The cells of a block of five, and of six. Cut out of Same: what names no function of any dump. Cut out of WirY: what names no function of any dump.
-/
import Derived.Test.YtkkjahhilcjpgaaDoorG04
import Derived.Test.YtkkjahhilcjpgaaDoorG13
import Derived.Test.YtkkjahhilcjpgaaDoorG15
namespace Go.Proofs.YtkkjahhilcjpgaaDoor
open Go.RowKit
def isX (c : UInt8) : Bool := decide (figV (c.toNat : Int) < 16)
def xv (c : UInt8) : Nat := (figV (c.toNat : Int)).toNat
def pairs : List UInt8 → List UInt8
 | a :: b :: r => UInt8.ofNat (16 * xv a + xv b) :: pairs r
 | _ => []
def unhexL (l : List UInt8) : Option (List UInt8) := if l.length % 2 = 0 ∧ l.all isX = true then some (pairs l) else none
theorem figV_rng (c : Int) : 0 ≤ figV c ∧ figV c ≤ 99 := by unfold figV; (repeat' split) <;> omega
theorem figV_high (c : Int) (h : 103 ≤ c) : figV c = 99 := by unfold figV; rw [if_neg (by omega), if_neg (by omega), if_neg (by omega)]
theorem isX_low (c : UInt8) (h : isX c = true) : c.toNat < 103 := by
 have h' : figV (c.toNat : Int) < 16 := of_decide_eq_true h
 rcases Nat.lt_or_ge c.toNat 103 with hl | hl
 ·exact hl
 ·rw [figV_high _ (by omega)] at h'; omega
theorem isX_fig (c : UInt8) (h : isX c = true) : figB (c.toNat : Int) 16 = true ∧ figA (c.toNat : Int) 16 = (xv c : Int) ∧ xv c < 16 := by
 have h' : figV (c.toNat : Int) < 16 := of_decide_eq_true h
 have hr := figV_rng (c.toNat : Int)
 refine ⟨decide_eq_true h', ?_, ?_⟩
 ·unfold figA xv; rw [if_pos h']; omega
 ·unfold xv; omega
theorem isX_not (c : UInt8) (h : isX c = false) : figB (c.toNat : Int) 16 = false := h
theorem figB_high (c : Int) (h : 128 ≤ c) : figB c 16 = false := by unfold figB; rw [figV_high c (by omega)]; rfl
theorem unhexL_none_of (l : List UInt8) (k : Nat) (hk : k < l.length) (h : isX l[k] = false) : unhexL l = none := by
 unfold unhexL
 rw [if_neg]
 rintro ⟨_, ha⟩
 have := List.all_eq_true.1 ha l[k] (List.getElem_mem hk)
 rw [h] at this
 cases this
theorem unhexL_odd (l : List UInt8) (h : l.length % 2 ≠ 0) : unhexL l = none := by unfold unhexL; rw [if_neg (fun c => h c.1)]
theorem unhexL_all (l : List UInt8) (h : l.length % 2 = 0) (ha : ∀ j (hj : j < l.length), isX l[j] = true) : unhexL l = some (pairs l) := by
 have hall : l.all isX = true := List.all_eq_true.2 fun x hx => by
  obtain ⟨j, hj, he⟩ := List.getElem_of_mem hx
  rw [← he]
  exact ha j hj
 unfold unhexL
 rw [if_pos ⟨h, hall⟩]
theorem pairs_length : ∀ (l : List UInt8), (pairs l).length = l.length / 2
 | [] => rfl
 | [_] => by simp [pairs]
 | _ :: _ :: r => by simp only [pairs, List.length_cons, pairs_length r]; omega
theorem pairs_get : ∀ (l : List UInt8) (i : Nat) (h : 2 * i + 1 < l.length), (pairs l)[i]? = some (UInt8.ofNat (16 * xv (l[2 * i]'(by omega)) + xv l[2 * i + 1]))
 | [], i, h => by simp at h
 | [_], i, h => by simp at h
 | a :: b :: r, 0, _ => rfl
 | a :: b :: r, i + 1, h => by
   have := pairs_get r i (by simp only [List.length_cons] at h; omega)
   simp only [pairs, List.getElem?_cons_succ]
   rw [this]
   rfl
theorem Blk.cells6 {w : World} {g : Nat} {t : TypeId} {a b c d e f : Value} (h : Blk w g t #[a, b, c, d, e, f]) :
 w.cell? ⟨g, 0, none⟩ = some a ∧ w.cell? ⟨g, 1, none⟩ = some b ∧ w.cell? ⟨g, 2, none⟩ = some c ∧ w.cell? ⟨g, 3, none⟩ = some d ∧ w.cell? ⟨g, 4, none⟩ = some e ∧ w.cell? ⟨g, 5, none⟩ = some f :=
 ⟨h.cell 0, h.cell 1, h.cell 2, h.cell 3, h.cell 4, h.cell 5⟩
def sameB (s t : Sq) : Bool := decide (s.kind = t.kind) && decide (s.priv = t.priv) && decide (s.params = t.params) && decide (s.inter = t.inter) && decide (s.final = t.final) && decide (s.data = t.data)
theorem sameB_iff (s t : Sq) : sameB s t = true ↔ s = t := by
 obtain ⟨a, b, c, d, e, f⟩ := s
 obtain ⟨a', b', c', d', e', f'⟩ := t
 simp only [sameB, Bool.and_eq_true, decide_eq_true_eq, Sq.mk.injEq]
 constructor
 ·rintro ⟨⟨⟨⟨⟨h1, h2⟩, h3⟩, h4⟩, h5⟩, h6⟩
  exact ⟨h1, h2, h3, h4, h5, h6⟩
 ·rintro ⟨h1, h2, h3, h4, h5, h6⟩
  exact ⟨⟨⟨⟨⟨h1, h2⟩, h3⟩, h4⟩, h5⟩, h6⟩
theorem byte_ne {a b : UInt8} (h : a ≠ b) : ((a.toNat : Int) == (b.toNat : Int)) = false ∧ ((a.toNat : Int) != (b.toNat : Int)) = true := by
 have h1 : a.toNat ≠ b.toNat := fun e => h (UInt8.toNat_inj.1 e)
 have h2 : ((a.toNat : Int) == (b.toNat : Int)) = false := beq_false_of_ne (by omega)
 exact ⟨h2, by simp [bne, h2]⟩
theorem may_1 {s : Sq} (h : s.data.length ≤ 4096) (h1 : okS s = false) : mayS s = 1 := by
 unfold mayS; rw [if_neg (by omega), if_neg (by rw [h1]; decide)]
theorem may_0 {s : Sq} (h : s.data.length ≤ 4096) (h1 : okS s = true) : mayS s = 0 := by
 unfold mayS; rw [if_neg (by omega), if_pos h1]
theorem may_4 {s : Sq} (h : 4096 < s.data.length) : mayS s = 4 := by unfold mayS; rw [if_pos h]
end Go.Proofs.YtkkjahhilcjpgaaDoor
