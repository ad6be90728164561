/-
  Layer 3's mathematics: a sequence's body, a parameter at a time; its length. Cut out of WpT: what names no function of any dump. Numbers in figures, walked: the program's Text and Take. (For layers that don't load layer 1's own texts.)
  Cut out of FigT. Cut out of WirF: what names no function of any dump. Cut out of RepM: what names no function of any dump. Cut out of Same: what names no function of any dump. Two strings of known bytes, compared. Cut out of WirY: what names no function of any dump.
-/
import Derived.Test.YthcafgningpdnaaDoorG01
import Derived.Test.YthcafgningpdnaaDoorG07
import Derived.Test.YthcafgningpdnaaDoorG09
import Derived.Lib.Join
import Derived.Test.YthcafgningpdnaaDoorShelf
import Derived.Deep.QuietTactic
import Derived.BigQuiet
import Derived.Lib.AppendIntMem
namespace Go.Proofs.YthcafgningpdnaaDoor
open Go.RowKit
def ss_ (l : List (List UInt8)) : List Value := l.map fun t => .string ⟨t.toArray⟩
theorem join_cons2 (sep p q : List UInt8) (l : List (List UInt8)) : Lib.join (p :: q :: l) sep = p ++ sep ++ Lib.join (q :: l) sep := by
 simp [Lib.join, List.intercalate_cons_cons]
theorem join_part (p : List Int) : Lib.join (p.map textL) [58] = partL p := by
 match p with
 | [] => rfl
 | [n] => simp [Lib.join, partL]
 | n :: m :: p =>
   rw [List.map_cons, List.map_cons, join_cons2, ← List.map_cons, join_part (m :: p)]
   simp [partL]
theorem join_par (l : List (List Int)) : Lib.join (l.map partL) [59] = parL l := by
 match l with
 | [] => rfl
 | [n] => simp [Lib.join, parL]
 | n :: m :: p =>
   rw [List.map_cons, List.map_cons, join_cons2, ← List.map_cons, join_par (m :: p)]
   simp [parL]
set_option maxHeartbeats 400000 in
theorem text_any (n : Int) (w : World) (h0 : -9223372036854775808 ≤ n) (h1 : n ≤ 9223372036854775807) (htab : Lib.TabIs Tryd.prog w "internal/strconv.uint64pow10" .u64 Lib.pow10Tab) :
 Calls Tryd.prog 31 #[.int .i64 n] w fun e w' => e = .returned (.string ⟨(textL n).toArray⟩) ∧ Below w.heap.size w w' := by
 by_cases hn : n < 0
 ·have HE := Lib.hid (show textL n = [] from if_pos hn)
  go_enter Tryd.func31, Tryd.ntmps31
  go_wp2
  go_ret
  exact ⟨ret_s HE.out.symm, Below.refl _ _⟩
 ·have HE := Lib.hid (show textL n = Lib.itoa n by unfold textL Lib.itoa; rw [if_neg hn, if_neg hn])
  go_enter Tryd.func31, Tryd.ntmps31
  go_wp2_with (go_at_call 41; refine (Tryd.strconv_Itoa n h0 h1 w htab).mono ?_; rintro e w' ⟨rfl, k, os, rfl⟩)
  go_ret
  exact ⟨ret_s HE.out.symm, below_grow (below_drewN (Below.refl _ _) k) (by simp) os⟩
def Tab (w : World) : Prop := Lib.TabIs Tryd.prog w "internal/strconv.uint64pow10" .u64 Lib.pow10Tab
theorem Tab.below {w w' : World} (h : Tab w) (hb : Below w.heap.size w w') : Tab w' := Lib.tabBelow_of_tabIs h w' hb
end Go.Proofs.YthcafgningpdnaaDoor
namespace Go.Proofs.YthcafgningpdnaaDoor
theorem pok_of {l : List (List Int)} (h : parOk l = true) : l.length ≤ 16 ∧ ∀ p ∈ l, pOk p := by
 unfold parOk at h
 simp only [Bool.and_eq_true, decide_eq_true_eq, List.all_eq_true] at h
 exact ⟨h.1.1, fun p hp => ⟨⟨(h.2 p hp).1.1, (h.2 p hp).1.2⟩, (h.2 p hp).2⟩⟩
end Go.Proofs.YthcafgningpdnaaDoor
namespace Go.Proofs.YthcafgningpdnaaDoor
open Go.RowKit
theorem str_ne {a b : List UInt8} (h : a ≠ b) : (⟨a.toArray⟩ : ByteArray) ≠ ⟨b.toArray⟩ := fun e => h (by injection e with e; simpa using e)
theorem seq_eql (L1 L2 : List UInt8) (r : Bool) (h : r = true ↔ L1 = L2) (x y : Operand) (w : World) : (do eqGuard .eql 9 x y (.string ⟨L1.toArray⟩) (.string ⟨L2.toArray⟩); binOp .eql 9 (.string ⟨L1.toArray⟩) (.string ⟨L2.toArray⟩) : Sem Value).run Tryd.prog w = .ok (.bool r) w := by
 cases r with
 | true =>
   obtain rfl := h.1 rfl
   go_simp
 | false =>
   have hn : ¬ L1 = L2 := fun e => by simpa using h.2 e
   have hne : (⟨L1.toArray⟩ : ByteArray) ≠ ⟨L2.toArray⟩ := str_ne hn
   go_simp
theorem may_1 {s : Sq} (h : s.data.length ≤ 4096) (h1 : okS s = false) : mayS s = 1 := by
 unfold mayS; rw [if_neg (by omega), if_neg (by rw [h1]; decide)]
theorem may_0 {s : Sq} (h : s.data.length ≤ 4096) (h1 : okS s = true) : mayS s = 0 := by
 unfold mayS; rw [if_neg (by omega), if_pos h1]
theorem may_4 {s : Sq} (h : 4096 < s.data.length) : mayS s = 4 := by unfold mayS; rw [if_pos h]
end Go.Proofs.YthcafgningpdnaaDoor
