/-
  Layer 2: what the calls answer, said in one form for valid and other bytes.
-/
import Derived.Test.YtcijdbklapidnaaDoorUtfW
import Derived.Test.YtcijdbklapidnaaDoorUtfY
namespace Go.Proofs.YtcijdbklapidnaaDoor
open Go.RowKit

def allK (l : List UInt8) : List Int := (allL l).getD []
def txtK (l : List Int) : List UInt8 := (textL l).getD []
theorem allK_some {l : List UInt8} {k : List Int} (h : allL l = some k) : allK l = k := by unfold allK; rw [h]; rfl
theorem allK_le (l : List UInt8) : (allK l).length ≤ l.length := by
  cases h : allL l with
  | none => unfold allK; rw [h]; exact Nat.zero_le _
  | some k => rw [allK_some h]; exact all_length h
theorem txtK_le (l : List Int) : (txtK l).length ≤ 4 * l.length := by
  unfold txtK textL
  split
  · exact catL_length l
  · exact Nat.zero_le _
theorem al_one {l : List UInt8} {w w' : World} {e : Ending} {K : List Int} {q : Bool} (hK : allK l = K) (hq : (allL l).isSome = q) (g : Al (allL l) w e w') : ∃ A c, e = .returned (.tuple #[.slice A K.length c, .bool q]) ∧ Rd w' A (is_ K) ∧ Below w.heap.size w w' := by
  subst hK hq
  unfold allK
  cases h : allL l with
  | none => rw [h] at g; exact ⟨none, 0, g.1, Rd.nil _ _, g.2⟩
  | some k => rw [h] at g; exact g
theorem tx_one {l : List Int} {w w' : World} {e : Ending} {T : List UInt8} {q : Bool} (hT : txtK l = T) (hq : (textL l).isSome = q) (g : Tx (textL l) w e w') : ∃ A c, e = .returned (.tuple #[.slice A T.length c, .bool q]) ∧ T.length ≤ c ∧ Rd w' A (bs T) ∧ Below w.heap.size w w' := by
  subst hT hq
  unfold txtK
  cases h : textL l with
  | none => rw [h] at g; exact ⟨none, 0, g.1, Nat.le_refl _, Rd.nil _ _, g.2⟩
  | some k => rw [h] at g; exact g
theorem All_one (A : Option Addr) (n c : Nat) (l : List UInt8) (K : List Int) (q : Bool) (w : World) (hn : l.length = n) (hK : allK l = K) (hq : (allL l).isSome = q) (hs : Siz w) (hl : l.length ≤ 4294967296) (hlc : n ≤ c) (hr : Rd w A (bs l)) :
    Calls Tryd.prog 14 #[.slice A n c] w fun e w' => ∃ A c, e = .returned (.tuple #[.slice A K.length c, .bool q]) ∧ Rd w' A (is_ K) ∧ Below w.heap.size w w' := by
  subst hn
  exact (all_any A c l w hs hl hlc hr).mono fun _ _ g => al_one hK hq g
theorem rAll_one (A : Option Addr) (n c : Nat) (l : List UInt8) (K : List Int) (q : Bool) (w : World) (hn : l.length = n) (hK : allK l = K) (hq : (allL l).isSome = q) (hl : l.length ≤ 4294967296) (hlc : n ≤ c) (hr : Rd w A (bs l)) :
    Calls Tryd.prog 15 #[.slice A n c] w fun e w' => ∃ A c, e = .returned (.tuple #[.slice A K.length c, .bool q]) ∧ Rd w' A (is_ K) ∧ Below w.heap.size w w' := by
  subst hn
  exact (rall_any A c l w hl hlc hr).mono fun _ _ g => al_one hK hq g
theorem Text_one (A : Option Addr) (n c : Nat) (l : List Int) (T : List UInt8) (q : Bool) (w : World) (hn : l.length = n) (hT : txtK l = T) (hq : (textL l).isSome = q) (hs : Siz w) (hl : l.length ≤ 268435456) (hr : Rd w A (is_ l)) :
    Calls Tryd.prog 16 #[.slice A n c] w fun e w' => ∃ A c, e = .returned (.tuple #[.slice A T.length c, .bool q]) ∧ T.length ≤ c ∧ Rd w' A (bs T) ∧ Below w.heap.size w w' := by
  subst hn
  exact (text_any A c l w hs hl hr).mono fun _ _ g => tx_one hT hq g
theorem rText_one (A : Option Addr) (n c : Nat) (l : List Int) (T : List UInt8) (q : Bool) (w : World) (hn : l.length = n) (hT : txtK l = T) (hq : (textL l).isSome = q) (hl : l.length ≤ 268435456) (hr : Rd w A (is_ l)) :
    Calls Tryd.prog 17 #[.slice A n c] w fun e w' => ∃ A c, e = .returned (.tuple #[.slice A T.length c, .bool q]) ∧ T.length ≤ c ∧ Rd w' A (bs T) ∧ Below w.heap.size w w' := by
  subst hn
  exact (rtext_any A c l w hl hr).mono fun _ _ g => tx_one hT hq g
theorem Ints_at (A : Option Addr) (n c : Nat) (a : List Int) (B : Option Addr) (m d : Nat) (b : List Int) (q : Bool) (w : World) (hn : a.length = n) (hm : b.length = m) (hq : decide (a = b) = q) (ha : a.length ≤ 268435456) (hb : b.length ≤ 268435456) (hra : Rd w A (is_ a)) (hrb : Rd w B (is_ b)) :
    Calls Tryd.prog 19 #[.slice A n c, .slice B m d] w fun e w' => e = .returned (.bool q) ∧ Below w.heap.size w w' := by
  subst hn hm hq
  exact ints_any A c a B d b w ha hb hra hrb
end Go.Proofs.YtcijdbklapidnaaDoor
