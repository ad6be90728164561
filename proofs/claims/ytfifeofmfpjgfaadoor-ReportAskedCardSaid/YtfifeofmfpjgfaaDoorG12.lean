/-
  Layer 18's words: a style in memory, rows of numbers with their room. Numbers in figures, walked: the program's Text and Take. (For layers that don't load layer 1's own texts.)
  Cut out of FigT. Stage 18, the landed style, walked: what colours and lines are; May.
  Cut out of StyA. Layer 8, the document's: Flags, has, Same.
  Cut out of StkR. Layer 2, walked: the document's comparison of two lists of numbers. Cut out of RegH: what names no function of any dump. Words for what Put and Take tell, the document's and the program's.
-/
import Derived.Test.YtfifeofmfpjgfaaDoorG01
import Derived.Test.YtfifeofmfpjgfaaDoorG03
import Derived.Test.YtfifeofmfpjgfaaDoorG07
import Derived.Test.YtfifeofmfpjgfaaDoorG08
import Derived.Test.YtfifeofmfpjgfaaDoorG09
import Derived.Test.YtfifeofmfpjgfaaDoorG11
import Derived.Test.YtfifeofmfpjgfaaDoorShelf
import Derived.Deep.QuietTactic
import Derived.BigQuiet
import Derived.Lib.AppendIntMem
import Derived.Deep.Cut
namespace Go.Proofs.YtfifeofmfpjgfaaDoor
open Go.RowKit
def syV (s : Sy) : Value := .agg #[.bool s.bold, .bool s.faint, .bool s.italic, .bool s.blink, .bool s.inverse, .bool s.hidden, .bool s.strike, .int .i64 s.under, .int .i64 s.fore, .int .i64 s.back]
def syC (s : Sy) : Array Value := #[.bool s.bold, .bool s.faint, .bool s.italic, .bool s.blink, .bool s.inverse, .bool s.hidden, .bool s.strike, .int .i64 s.under, .int .i64 s.fore, .int .i64 s.back]
def in18 (n : Int) : Prop := -9223372036854775808 ≤ n ∧ n ≤ 9223372036854775807
def okSy (s : Sy) : Prop := in18 s.under ∧ in18 s.fore ∧ in18 s.back
def RdPc (w : World) (A : Option Addr) (ps : List (List Int)) : Prop :=
 0 < ps.length → ∃ b o, A = some ⟨b, o, none⟩ ∧ b < w.heap.size ∧ ∀ k (hk : k < ps.length), ∃ A' c', (ps[k]).length ≤ c' ∧ w.cell? ⟨b, o + k, none⟩ = some (.slice A' (ps[k]).length c') ∧ Rd w A' (is_ ps[k])
theorem RdPc.nil (w : World) (A : Option Addr) : RdPc w A [] := fun h => absurd h (by simp)
theorem RdPc.below {w w' : World} {A : Option Addr} {ps : List (List Int)} (h : RdPc w A ps) (hb : Below w.heap.size w w') : RdPc w' A ps := fun hp => by
 obtain ⟨b, o, rfl, hlt, hc⟩ := h hp
 refine ⟨b, o, rfl, Nat.lt_of_lt_of_le hlt hb.size, fun k hk => ?_⟩
 obtain ⟨A', c', h0, h1, h2⟩ := hc k hk
 exact ⟨A', c', h0, (hb.cell (p := ⟨b, o + k, none⟩) hlt).trans h1, h2.below hb⟩
theorem RdPc.rdp {w : World} {A : Option Addr} {ps : List (List Int)} (h : RdPc w A ps) : RdP w A ps := fun hp => by
 obtain ⟨b, o, rfl, hlt, hc⟩ := h hp
 refine ⟨b, o, rfl, hlt, fun k hk => ?_⟩
 obtain ⟨A', c', _, h1, h2⟩ := hc k hk
 exact ⟨A', c', h1, h2⟩
theorem RdPc.alloc {w : World} {A : Option Addr} {ps : List (List Int)} (h : RdPc w A ps) (o : Obj) : RdPc (w.alloc o) A ps := h.below ((Below.refl _ _).alloc (Nat.le_refl _) o)
structure LsIn (W : World) (A : Option Addr) (ps : List (List Int)) : Prop where
 rd : RdPc W A ps
 nr : ∀ p ∈ ps, ∀ n ∈ p, in18 n
theorem LsIn.below {w w' : World} {A : Option Addr} {ps : List (List Int)} (h : LsIn w A ps) (hb : Below w.heap.size w w') : LsIn w' A ps := ⟨h.rd.below hb, h.nr⟩
theorem Blk.cells10y {w : World} {b : Nat} {t : TypeId} {s : Sy} (h : Blk w b t (syC s)) : w.cell? ⟨b, 0, none⟩ = some (.bool s.bold) ∧ w.cell? ⟨b, 1, none⟩ = some (.bool s.faint) ∧ w.cell? ⟨b, 2, none⟩ = some (.bool s.italic) ∧ w.cell? ⟨b, 3, none⟩ = some (.bool s.blink) ∧ w.cell? ⟨b, 4, none⟩ = some (.bool s.inverse) ∧ w.cell? ⟨b, 5, none⟩ = some (.bool s.hidden) ∧ w.cell? ⟨b, 6, none⟩ = some (.bool s.strike) ∧ w.cell? ⟨b, 7, none⟩ = some (.int .i64 s.under) ∧ w.cell? ⟨b, 8, none⟩ = some (.int .i64 s.fore) ∧ w.cell? ⟨b, 9, none⟩ = some (.int .i64 s.back) :=
 ⟨h.cell 0, h.cell 1, h.cell 2, h.cell 3, h.cell 4, h.cell 5, h.cell 6, h.cell 7, h.cell 8, h.cell 9⟩
set_option maxHeartbeats 400000 in
theorem text_any (n : Int) (w : World) (h0 : -9223372036854775808 ≤ n) (h1 : n ≤ 9223372036854775807) (htab : Lib.TabIs Tryd.prog w "internal/strconv.uint64pow10" .u64 Lib.pow10Tab) :
 Calls Tryd.prog 65 #[.int .i64 n] w fun e w' => e = .returned (.string ⟨(textL n).toArray⟩) ∧ Below w.heap.size w w' := by
 by_cases hn : n < 0
 ·have HE := Lib.hid (show textL n = [] from if_pos hn)
  go_enter Tryd.func65, Tryd.ntmps65
  go_wp2
  go_ret
  exact ⟨ret_s HE.out.symm, Below.refl _ _⟩
 ·have HE := Lib.hid (show textL n = Lib.itoa n by unfold textL Lib.itoa; rw [if_neg hn, if_neg hn])
  go_enter Tryd.func65, Tryd.ntmps65
  go_wp2_with (go_at_call 77; refine (Tryd.strconv_Itoa n h0 h1 w htab).mono ?_; rintro e w' ⟨rfl, k, os, rfl⟩)
  go_ret
  exact ⟨ret_s HE.out.symm, below_grow (below_drewN (Below.refl _ _) k) (by simp) os⟩
def Tab (w : World) : Prop := Lib.TabIs Tryd.prog w "internal/strconv.uint64pow10" .u64 Lib.pow10Tab
theorem Tab.below {w w' : World} (h : Tab w) (hb : Below w.heap.size w w') : Tab w' := Lib.tabBelow_of_tabIs h w' hb
theorem ret_bq {x y : Bool} (h : x = y) : Ending.returned (.bool x) = .returned (.bool y) := by rw [h]
theorem sisUnder_any (n : Int) (q : Bool) (hq : (decide (0 ≤ n) && decide (n ≤ 5)) = q) (w : World) : Calls Tryd.prog 67 #[.int .i64 n] w fun e w' => e = .returned (.bool q) ∧ Below w.heap.size w w' := by
 by_cases h : 0 ≤ n
 ·rw [decide_eq_true h, Bool.true_and] at hq
  have HQ := Lib.hid hq
  clear hq
  go_enter Tryd.func67, Tryd.ntmps67
  go_wp2_with fail
  go_ret
  exact ⟨ret_bq HQ.out, Below.refl _ _⟩
 ·rw [decide_eq_false h, Bool.false_and] at hq
  subst hq
  go_enter Tryd.func67, Tryd.ntmps67
  go_wp2_with fail
  go_ret
  exact ⟨rfl, Below.refl _ _⟩
theorem sisColour_any (n : Int) (q : Bool) (hq : colY n = q) (w : World) : Calls Tryd.prog 68 #[.int .i64 n] w fun e w' => e = .returned (.bool q) ∧ Below w.heap.size w w' := by
 unfold colY at hq
 rw [show decide (n < 16777472) = decide (n ≤ 16777471) from decide_eq_decide.2 (by omega)] at hq
 by_cases h : -1 ≤ n
 ·rw [decide_eq_true h, Bool.true_and] at hq
  have HQ := Lib.hid hq
  clear hq
  go_enter Tryd.func68, Tryd.ntmps68
  go_wp2_with fail
  go_ret
  exact ⟨ret_bq HQ.out, Below.refl _ _⟩
 ·rw [decide_eq_false h, Bool.false_and] at hq
  subst hq
  go_enter Tryd.func68, Tryd.ntmps68
  go_wp2_with fail
  go_ret
  exact ⟨rfl, Below.refl _ _⟩
set_option maxRecDepth 100000 in
set_option maxHeartbeats 4000000 in
theorem smay_any (s : Sy) (q : Bool) (hq : mayY s = q) (w : World) : Calls Tryd.prog 51 #[syV s] w fun e w' => e = .returned (.bool q) ∧ Below w.heap.size w w' := by
 obtain ⟨s0, s1, s2, s3, s4, s5, s6, u, x, y⟩ := s
 obtain ⟨q1, h1⟩ : ∃ q, (decide (0 ≤ u) && decide (u ≤ 5)) = q := ⟨_, rfl⟩
 obtain ⟨q2, h2⟩ : ∃ q, colY x = q := ⟨_, rfl⟩
 obtain ⟨q3, h3⟩ : ∃ q, colY y = q := ⟨_, rfl⟩
 unfold mayY at hq
 simp only [h1, h2, h3] at hq
 have H1 := Lib.hid h1
 have H2 := Lib.hid h2
 have H3 := Lib.hid h3
 clear h1 h2 h3
 subst hq
 unfold syV
 simp only
 have k0 := Blk.new w 23 #[.bool s0, .bool s1, .bool s2, .bool s3, .bool s4, .bool s5, .bool s6, .int .i64 u, .int .i64 x, .int .i64 y]
 have HB0 : Below w.heap.size w (w.alloc (.cells #[.bool s0, .bool s1, .bool s2, .bool s3, .bool s4, .bool s5, .bool s6, .int .i64 u, .int .i64 x, .int .i64 y] 23)) := (Below.refl _ w).alloc (Nat.le_refl _) _
 have c7 := k0.cell 7
 go_enter Tryd.func51, Tryd.ntmps51
 go_wp2_with fail
 refine (sisUnder_any u q1 H1.out _).mono ?_
 rintro e w1 ⟨rfl, hb1⟩
 have hB1 := HB0.trans (hb1.mono HB0.size)
 have k1 := k0.below hb1 k0.lt
 clear c7
 have c8 := k1.cell 8
 cases q1 with
 | false =>
   go_wp2_with fail
   go_ret
   exact ⟨rfl, hB1⟩
 | true =>
   go_wp2_with fail
   refine (sisColour_any x q2 H2.out _).mono ?_
   rintro e w2 ⟨rfl, hb2⟩
   have hB2 := hB1.trans (hb2.mono hB1.size)
   have k2 := k1.below hb2 k1.lt
   clear c8
   have c9 := k2.cell 9
   cases q2 with
   | false =>
     go_wp2_with fail
     go_ret
     exact ⟨rfl, hB2⟩
   | true =>
     go_wp2_with fail
     refine (sisColour_any y q3 H3.out _).mono ?_
     rintro e w3 ⟨rfl, hb3⟩
     have hB3 := hB2.trans (hb3.mono hB2.size)
     go_wp2_with fail
     go_ret
     exact ⟨rfl, hB3⟩
def stV (now : Int) (A : Option Addr) (n c : Nat) : Value := .agg #[.int .i64 now, .slice A n c]
set_option maxRecDepth 100000 in
set_option maxHeartbeats 4000000 in
theorem ints_any (A B : Option Addr) (c d : Nat) (a b : List Int) (w : World) (hl : a.length ≤ 4294967296) (hl2 : b.length ≤ 4294967296) (hra : Rd w A (is_ a)) (hrb : Rd w B (is_ b)) :
 Calls Tryd.prog 28 #[.slice A a.length c, .slice B b.length d] w fun e w' => e = .returned (.bool (decide (a = b))) ∧ Below w.heap.size w w' := by
 by_cases hlen : a.length = b.length
 ·go_enter Tryd.func28, Tryd.ntmps28
  go_wp2
  go_loopw [5] (fun i wr => ∃ k : Nat, k ≤ a.length ∧ i = .int .i64 k ∧ a.take k = b.take k ∧ Below w.heap.size w wr) (fun i _ => a.length - (intOf i).toNat)
  case atStart => exact ⟨0, Nat.zero_le _, rfl, rfl, Below.refl _ _⟩
  case round =>
   obtain ⟨k, hk, rfl, hab, hbw⟩ := hrel
   have HAB := Lib.hid hab
   clear hab
   by_cases hlt : k < a.length
   ·have hltb : k < b.length := by omega
    obtain ⟨p, o, rfl, hp, hc⟩ := hra.int_at (by omega)
    obtain ⟨q, u, rfl, hq, hd⟩ := hrb.int_at (by omega)
    have hck := (hbw.cell (p := ⟨p, o + k, none⟩) hp).trans (hc k hlt)
    have hdk := (hbw.cell (p := ⟨q, u + k, none⟩) hq).trans (hd k hltb)
    clear hc hd
    have g0 : (0 : Int) ≤ (k : Int) := by omega
    have g1 : (k : Int) < (a.length : Int) := by omega
    have g2 : (k : Int) < (b.length : Int) := by omega
    by_cases he : a[k]'hlt = b[k]'hltb
    ·have H := Lib.hid (show a.take (k + 1) = b.take (k + 1) by rw [List.take_succ_eq_append_getElem hlt, List.take_succ_eq_append_getElem hltb, HAB.out, he])
     obtain ⟨x, hx⟩ : ∃ x, a[k]'hlt = x := ⟨_, rfl⟩
     obtain ⟨y, hy⟩ : ∃ y, b[k]'hltb = y := ⟨_, rfl⟩
     rw [hx] at hck he
     rw [hy] at hdk he
     subst he
     clear hx hy
     go_wp2
     go_quiet (fail)
     go_wp2
     go_roundw
     case rel => exact ⟨k + 1, by omega, by go_num, H.out, below_drewN hbw _⟩
     case measure => simp [intOf]; omega
    ·have E := Lib.hid (show decide (a = b) = false from decide_eq_false (fun e => he (by subst e; rfl)))
     have t1 : (a[k]'hlt == b[k]'hltb) = false := beq_false_of_ne he
     have t2 : (a[k]'hlt != b[k]'hltb) = true := by simp [bne, t1]
     clear he
     go_wp2
     go_quiet (fail)
     go_wp2
     go_ret
     exact ⟨ret_b E.out.symm, below_drewN hbw _⟩
   ·have E := Lib.hid (show decide (a = b) = true from decide_eq_true (by
     have h1 := HAB.out
     rw [List.take_of_length_le (by omega), List.take_of_length_le (by omega)] at h1
     exact h1))
    go_wp2
    go_ret
    exact ⟨ret_b E.out.symm, hbw⟩
 ·have E := Lib.hid (show decide (a = b) = false from decide_eq_false (fun e => hlen (by rw [e])))
  have t1 : ((a.length : Int) == (b.length : Int)) = false := beq_false_of_ne (by omega)
  have t2 : ((a.length : Int) != (b.length : Int)) = true := by simp [bne, t1]
  clear hlen
  go_enter Tryd.func28, Tryd.ntmps28
  go_wp2
  go_ret
  exact ⟨ret_b E.out.symm, Below.refl _ _⟩
theorem ints_at (A B : Option Addr) (n m c d : Nat) (a b : List Int) (q : Bool) (w : World) (hn : a.length = n) (hm : b.length = m) (hq : decide (a = b) = q) (hl : n ≤ 4294967296) (hl2 : m ≤ 4294967296) (hra : Rd w A (is_ a)) (hrb : Rd w B (is_ b)) :
 Calls Tryd.prog 28 #[.slice A n c, .slice B m d] w fun e w' => e = .returned (.bool q) ∧ Below w.heap.size w w' := by
 subst hn hm hq
 exact ints_any A B c d a b w hl hl2 hra hrb
section
section
variable {P : Program} {ops : Array Oper} {md : Region.Mode} {w1 : World} {K : List Fact} {ix iz : Nat} {R0 R1 : (Tmp → Value) → World → World → Prop} {aF : (Tmp → Value) → Act} {i : Nat} {o : Oper}
end
end
def PutE (m : Int) (T : List UInt8) (w : World) (e : Ending) (w' : World) : Prop :=
 (∃ A c, e = .returned (.tuple #[.slice A T.length c, .int .i64 m]) ∧ T.length ≤ c ∧ Rd w' A (bs T)) ∧ Below w.heap.size w w'
def putE (s : Sq) : List UInt8 := if mayS s = 0 then putS s else []
theorem putE_0 {s : Sq} (h : mayS s = 0) : putE s = putS s := if_pos h
theorem putE_no {s : Sq} (h : mayS s ≠ 0) : putE s = [] := if_neg h
end Go.Proofs.YtfifeofmfpjgfaaDoor
