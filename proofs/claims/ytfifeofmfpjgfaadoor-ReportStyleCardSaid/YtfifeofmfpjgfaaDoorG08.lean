/-
  Lists of numbers, read in memory; the document's comparison of two of them. (For layers that don't load layer 2's own texts.) Layer 3's mathematics: the sequence with which bytes begin is told there and back, and there is one at most. Cut out of WirP: what names no function of any dump. Cut out of WirQ: what names no function of any dump. Layer 8's mathematics: flags that are kept. Layer 6's mathematics: modes, set, reset and told, as the document has them. Layer 8, the document's Flags.
  Cut out of FlgR. Layer 8, the landed flagsOf, slices.Clone, Same, walked.
  Cut out of StkF. A region that draws its order, in which an empty row is made, and two slices are appended, one behind the other (append(append([]T{}, a...), b...)). Layer 15: a row of numbers that a literal makes in a drawn region, and a cell of it.
  Cut out of TrkQ.
-/
import Derived.Test.YtfifeofmfpjgfaaDoorG01
import Derived.Test.YtfifeofmfpjgfaaDoorG02
import Derived.Test.YtfifeofmfpjgfaaDoorG03
import Derived.Test.YtfifeofmfpjgfaaDoorG06
import Derived.Test.YtfifeofmfpjgfaaDoorG07
import Derived.BigQuiet
import Derived.Deep.QuietTactic
import Derived.Laws.Small
import Derived.IntWalk
namespace Go.Proofs.YtfifeofmfpjgfaaDoor
open Go.RowKit
def is_ (l : List Int) : List Value := l.map (Value.int .i64)
theorem is_length (l : List Int) : (is_ l).length = l.length := by simp [is_]
theorem Rd.int_at {w : World} {A : Option Addr} {l : List Int} (h : Rd w A (is_ l)) (hp : 0 < l.length) :
 ∃ b o, A = some ⟨b, o, none⟩ ∧ b < w.heap.size ∧ ∀ k (hk : k < l.length), w.cell? ⟨b, o + k, none⟩ = some (.int .i64 l[k]) := by
 obtain ⟨b, o, rfl, hb, hc⟩ := h (by rw [is_length]; exact hp)
 exact ⟨b, o, rfl, hb, fun k hk => hc k _ (by simp [is_, hk])⟩
def RdP (w : World) (A : Option Addr) (ps : List (List Int)) : Prop :=
 0 < ps.length → ∃ b o, A = some ⟨b, o, none⟩ ∧ b < w.heap.size ∧ ∀ k (hk : k < ps.length), ∃ A' c', w.cell? ⟨b, o + k, none⟩ = some (.slice A' (ps[k]).length c') ∧ Rd w A' (is_ ps[k])
theorem RdP.nil (w : World) (A : Option Addr) : RdP w A [] := fun h => absurd h (by simp)
theorem RdP.below {w w' : World} {A : Option Addr} {ps : List (List Int)} (h : RdP w A ps) (hb : Below w.heap.size w w') : RdP w' A ps := fun hp => by
 obtain ⟨b, o, rfl, hlt, hc⟩ := h hp
 refine ⟨b, o, rfl, Nat.lt_of_lt_of_le hlt hb.size, fun k hk => ?_⟩
 obtain ⟨A', c', h1, h2⟩ := hc k hk
 exact ⟨A', c', (hb.cell (p := ⟨b, o + k, none⟩) hlt).trans h1, h2.below hb⟩
theorem RdP.drewN {w : World} {A : Option Addr} {ps : List (List Int)} (h : RdP w A ps) (n : Nat) : RdP (w.drewN n) A ps := h
theorem RdP.alloc {w : World} {A : Option Addr} {ps : List (List Int)} (h : RdP w A ps) (o : Obj) : RdP (w.alloc o) A ps := h.below ((Below.refl _ _).alloc (Nat.le_refl _) o)
end Go.Proofs.YtfifeofmfpjgfaaDoor
namespace Go.Proofs.YtfifeofmfpjgfaaDoor
theorem ok_parts {s : Sq} (h : mayS s = 0) : s.data.length ≤ 4096 ∧ privOk s.priv = true ∧ parOk s.params = true ∧ s.inter.length ≤ 2 ∧ (∀ c ∈ s.inter, btw 32 47 c = true) ∧ (∀ c ∈ s.data, btw 32 126 c = true) ∧ lastOk s = true ∧ bareOk s = true := by
 unfold mayS at h
 split at h
 ·cases h
 ·split at h
  ·rename_i h1 h2
   simp only [okS, Bool.and_eq_true, decide_eq_true_eq, List.all_eq_true] at h2
   obtain ⟨⟨⟨⟨⟨⟨a, b⟩, c⟩, d⟩, e⟩, f⟩, g⟩ := h2
   exact ⟨by omega, a, b, c, d, e, f, g⟩
  ·cases h
end Go.Proofs.YtfifeofmfpjgfaaDoor
namespace Go.Proofs.YtfifeofmfpjgfaaDoor
open Go.RowKit
theorem all_no {p : UInt8 → Bool} {l : List UInt8} {k : Nat} (hk : k < l.length) (h : p l[k] = false) : l.all p = false := by
 rw [List.all_eq_false]
 exact ⟨_, List.getElem_mem hk, by simp [h]⟩
def partB (p : List Int) : Bool := decide (1 ≤ p.length) && decide (p.length ≤ 8) && p.all fun n => decide (-1 ≤ n) && decide (n ≤ 1114111)
theorem parOk_eq (l : List (List Int)) : parOk l = (decide (l.length ≤ 16) && decide (l ≠ [[-1]]) && l.all partB) := rfl
theorem par_long {l : List (List Int)} (h : 16 < l.length) : parOk l = false := by rw [parOk_eq, decide_eq_false (by omega)]; rfl
theorem par_no {l : List (List Int)} {k : Nat} (hk : k < l.length) (h : partB l[k] = false) : parOk l = false := by
 rw [parOk_eq, show l.all partB = false from List.all_eq_false.2 ⟨_, List.getElem_mem hk, by simp [h]⟩, Bool.and_false]
theorem part_len {p : List Int} (h : ¬ (1 ≤ p.length ∧ p.length ≤ 8)) : partB p = false := by
 unfold partB
 by_cases h1 : 1 ≤ p.length
 ·rw [decide_eq_false (p := p.length ≤ 8) (by omega), Bool.and_false, Bool.false_and]
 ·rw [decide_eq_false h1, Bool.false_and, Bool.false_and]
def numOk (n : Int) : Bool := decide (-1 ≤ n) && decide (n ≤ 1114111)
theorem partB_yes {p : List Int} (h1 : 1 ≤ p.length) (h2 : p.length ≤ 8) (h : p.all numOk = true) : partB p = true := by
 unfold partB
 rw [decide_eq_true h1, decide_eq_true h2]
 exact h
theorem parOk_yes {l : List (List Int)} (h : l.length ≤ 16) (h1 : l ≠ [[-1]]) (h2 : l.all partB = true) : parOk l = true := by
 rw [parOk_eq, decide_eq_true h, decide_eq_true h1, h2]; rfl
theorem numOk_iff (n : Int) : numOk n = true ↔ -1 ≤ n ∧ n ≤ 1114111 := by simp [numOk]
def sqV (s : Sq) (A : Option Addr) (c : Nat) : Value := .agg #[.int .i64 s.kind, .int .u8 (s.priv.toNat : Int), .slice A s.params.length c, .string ⟨s.inter.toArray⟩, .int .u8 (s.final.toNat : Int), .string ⟨s.data.toArray⟩]
theorem last_q {s : Sq} {q : Bool} (hq : lastOk s = q) : (s.kind = 1 ∨ s.kind = 2 ∨ s.kind = 3 → q = (decide (64 ≤ s.final.toNat) && decide (s.final.toNat ≤ 126))) ∧
 (s.kind = 5 → (s.final.toNat < 48 ∨ 126 < s.final.toNat → q = false) ∧ (48 ≤ s.final.toNat → s.final.toNat ≤ 126 → (s.inter ≠ [] → q = true) ∧
   (s.inter = [] → q = !([79, 80, 88, 91, 93, 92, 94, 95] : List Nat).contains s.final.toNat))) ∧
 (s.kind = 4 → q = decide (s.final.toNat = 0)) ∧ (¬ (s.kind = 1 ∨ s.kind = 2 ∨ s.kind = 3 ∨ s.kind = 4 ∨ s.kind = 5) → q = false) := by
 subst hq
 refine ⟨fun h => ?_, fun h => ⟨fun h1 => ?_, fun h1 h2 => ⟨fun h3 => ?_, fun h3 => ?_⟩⟩, fun h => ?_, fun h => ?_⟩
 ·unfold lastOk; rw [if_pos h]; rfl
 ·unfold lastOk; rw [if_neg (by omega), if_pos h, (btw_no 48 126 _).2 (by omega), Bool.false_and]
 ·unfold lastOk; rw [if_neg (by omega), if_pos h, (btw_iff 48 126 _).2 ⟨h1, h2⟩, decide_eq_true h3]; rfl
 ·unfold lastOk; rw [if_neg (by omega), if_pos h, (btw_iff 48 126 _).2 ⟨h1, h2⟩, decide_eq_false (by simpa using h3), Bool.false_or, Bool.true_and]
  congr 1
  rw [Bool.eq_iff_iff]
  simp [← UInt8.toNat_inj]
 ·unfold lastOk; rw [if_neg (by omega), if_neg (by omega), decide_eq_true h, Bool.true_and]
  rw [Bool.eq_iff_iff]
  simp [← UInt8.toNat_inj]
 ·unfold lastOk; rw [if_neg (by omega), if_neg (by omega), decide_eq_false (by omega)]; rfl
end Go.Proofs.YtfifeofmfpjgfaaDoor
namespace Go.Proofs.YtfifeofmfpjgfaaDoor
def flg (n : Int) : Int := max n 0 % 32
theorem flg_rng (n : Int) : 0 ≤ flg n ∧ flg n < 32 := by
 unfold flg
 omega
structure St where
 now : Int
 kept : List Int
def last8 (l : List Int) : List Int := l.drop (l.length - 8)
def pushS (s : St) (f : Int) : St := ⟨flg f, last8 (s.kept ++ [s.now])⟩
structure Mo where
 cursor : Bool
 keypad : Bool
 back : Bool
 focus : Bool
 paste : Bool
 lock : Bool
 line : Bool
 mouse : Int
 coding : Int
 other : Int
def sameM (a b : Mo) : Bool := a.cursor == b.cursor && (a.keypad == b.keypad && (a.back == b.back && (a.focus == b.focus && (a.paste == b.paste && (a.lock == b.lock && (a.line == b.line && (a.mouse == b.mouse && (a.coding == b.coding && a.other == b.other))))))))
theorem sameM_iff (a b : Mo) : sameM a b = true ↔ a = b := by
 obtain ⟨a0, a1, a2, a3, a4, a5, a6, a7, a8, a9⟩ := a
 obtain ⟨b0, b1, b2, b3, b4, b5, b6, b7, b8, b9⟩ := b
 simp only [sameM, Bool.and_eq_true, beq_iff_eq, Mo.mk.injEq]
def mouseN (n : Int) : Bool := decide (n = 9 ∨ n = 1000 ∨ n = 1002 ∨ n = 1003)
def codingN (n : Int) : Bool := decide (n = 1005 ∨ n = 1006 ∨ n = 1015)
def oneM (was n : Int) (on : Bool) : Int := if on = true then n else if was = n then 0 else was
def plainM (m : Mo) (n : Int) (on : Bool) : Mo × Bool := if n = 2 then ({ m with lock := on }, true) else if n = 20 then ({ m with line := on }, true) else (m, false)
def setM (m : Mo) (p : Bool) (n : Int) (on : Bool) : Mo × Bool :=
 if p = false then plainM m n on
 else if n = 1 then ({ m with cursor := on }, true)
 else if n = 66 then ({ m with keypad := on }, true)
 else if n = 67 then ({ m with back := on }, true)
 else if n = 1004 then ({ m with focus := on }, true)
 else if n = 2004 then ({ m with paste := on }, true)
 else if mouseN n = true then ({ m with mouse := oneM m.mouse n on }, true)
 else if codingN n = true then ({ m with coding := oneM m.coding n on }, true)
 else (m, false)
def fixedM (p : Bool) (n : Int) : Int := if p = true ∧ (n = 7 ∨ n = 25) then 3 else if p = false ∧ (n = 4 ∨ n = 12) then 4 else 0
def getM (m : Mo) (p : Bool) (n : Int) : Int := if (setM m p n true).2 = true then (if sameM (setM m p n true).1 m = true then 1 else 2) else fixedM p n
theorem mouseN_iff (n : Int) : mouseN n = true ↔ n = 9 ∨ n = 1000 ∨ n = 1002 ∨ n = 1003 := by simp [mouseN]
theorem codingN_iff (n : Int) : codingN n = true ↔ n = 1005 ∨ n = 1006 ∨ n = 1015 := by simp [codingN]
def canM (p : Bool) (n : Int) : Bool := if p = false then decide (n = 2 ∨ n = 20) else decide (n = 1 ∨ n = 66 ∨ n = 67 ∨ n = 1004 ∨ n = 2004) || (mouseN n || codingN n)
theorem set_can (m : Mo) (p : Bool) (n : Int) (on : Bool) : (setM m p n on).2 = canM p n := by
 unfold setM canM plainM
 by_cases hp : p = false
 ·rw [if_pos hp, if_pos hp]
  by_cases h1 : n = 2
  ·simp [h1]
  ·by_cases h2 : n = 20
   ·simp [h2]
   ·simp [h1, h2]
 ·rw [if_neg hp, if_neg hp]
  by_cases h1 : n = 1
  ·simp [h1]
  by_cases h2 : n = 66
  ·simp [h2]
  by_cases h3 : n = 67
  ·simp [h3]
  by_cases h4 : n = 1004
  ·simp [h4]
  by_cases h5 : n = 2004
  ·simp [h5]
  simp only [h1, h2, h3, h4, h5, if_false]
  by_cases h6 : mouseN n = true
  ·simp [h6]
  have h6' : mouseN n = false := by simpa using h6
  by_cases h7 : codingN n = true
  ·simp [h6', h7]
  ·simp [h6', h7]
theorem set_no {m : Mo} {p : Bool} {n : Int} {on : Bool} (h : canM p n = false) : setM m p n on = (m, false) := by
 have h2 := set_can m p n on
 rw [h] at h2
 unfold setM plainM at *
 (repeat' split at h2) <;> simp_all
theorem get_no {m : Mo} {p : Bool} {n : Int} (h : canM p n = false) : getM m p n = fixedM p n := by
 unfold getM
 rw [set_no h]
 simp
theorem get_rng (m : Mo) (p : Bool) (n : Int) : 0 ≤ getM m p n ∧ getM m p n ≤ 4 := by
 unfold getM fixedM
 (repeat' split) <;> simp
def isM (m : Mo) (p : Bool) (n : Int) : Bool :=
 if p = false then (if n = 2 then m.lock else m.line)
 else if n = 1 then m.cursor else if n = 66 then m.keypad else if n = 67 then m.back else if n = 1004 then m.focus else if n = 2004 then m.paste
 else if mouseN n = true then decide (m.mouse = n) else decide (m.coding = n)
theorem get_is {m : Mo} {p : Bool} {n : Int} (h : canM p n = true) : getM m p n = if isM m p n = true then 1 else 2 := by
 have hs : sameM (setM m p n true).1 m = isM m p n := by
  rw [Bool.eq_iff_iff, sameM_iff]
  obtain ⟨a0, a1, a2, a3, a4, a5, a6, a7, a8, a9⟩ := m
  unfold setM isM plainM canM oneM at *
  by_cases hp : p = false
  ·rw [if_pos hp] at h ⊢
   rw [if_pos hp]
   by_cases h1 : n = 2
   ·simp [h1, eq_comm]
   ·have h2 : n = 20 := by simpa [h1] using h
    subst h2
    simp [eq_comm]
  ·rw [if_neg hp] at h ⊢
   rw [if_neg hp]
   by_cases h1 : n = 1
   ·simp [h1, eq_comm]
   by_cases h2 : n = 66
   ·simp [h2, eq_comm]
   by_cases h3 : n = 67
   ·simp [h3, eq_comm]
   by_cases h4 : n = 1004
   ·simp [h4, eq_comm]
   by_cases h5 : n = 2004
   ·simp [h5, eq_comm]
   simp only [h1, h2, h3, h4, h5, if_false]
   by_cases h6 : mouseN n = true
   ·simp [h6, eq_comm]
   ·have h7 : codingN n = true := by simpa [h1, h2, h3, h4, h5, h6] using h
    simp [h6, h7, eq_comm]
 unfold getM
 rw [set_can, h, if_pos rfl, hs]
end Go.Proofs.YtfifeofmfpjgfaaDoor
namespace Go.Proofs.YtfifeofmfpjgfaaDoor
open Go.RowKit
theorem maxZ (n N : Int) (h : max n 0 = N) {P : Program} : ∀ (ts : Array TypeId) (t : TypeId) (W : World), (Builtin.max_ ts t #[.int .i64 n, .int .i64 0]).run P W = .ok (.int .i64 N) W := fun ts t W => by
 rw [run_max_int2]
 congr 2
 split <;> omega
set_option maxRecDepth 100000 in
set_option maxHeartbeats 2000000 in
theorem pflags_any (n : Int) (w : World) : Calls Tryd.prog 64 #[.int .i64 n] w fun e w' => e = .returned (.int .i64 (flg n)) ∧ Below w.heap.size w w' := by
 obtain ⟨N, hN⟩ : ∃ N, max n 0 = N := ⟨_, rfl⟩
 have hmax := maxZ n N hN (P := Tryd.prog)
 obtain ⟨F, hF⟩ : ∃ F, flg n = F := ⟨_, rfl⟩
 have hm : Int.tmod N 32 = F := by
  rw [Int.tmod_eq_emod_of_nonneg (by omega), ← hF, ← hN]
  rfl
 rw [hF]
 clear hF hN
 go_enter Tryd.func64, Tryd.ntmps64
 go_wp2
 go_ret
 exact ⟨rfl, by first | exact Below.refl _ _ | exact below_drewN (Below.refl _ _) _⟩
section
section
variable {P : Program} {ops : Array Oper} {md : Region.Mode}
structure SJ (w1 : World) (i0 i1 i2 i3 : Nat) (d0 d1 d2 d3 : Tmp) (te : TypeId) (n1 n2 : Nat) (x1 x2 : List Value) (l : Array Bool) (g : Tmp → Value) (w : World) : Prop where
 below : Below w1.heap.size w1 w
 s0 : l.getD i0 false = true → l.getD i1 false = false → Own w w1.heap.size te 1 (g d0) 0 []
 s1 : l.getD i1 false = true → l.getD i2 false = false → Own w w1.heap.size te 1 (g d1) n1 x1
 s2 : l.getD i2 false = true → Own w w1.heap.size te 1 (g d2) (n1 + n2) (x1 ++ x2)
 s3 : l.getD i3 false = true → g d3 = g d2
 t1 : l.getD i1 false = true → l.getD i0 false = true
 t2 : l.getD i2 false = true → l.getD i1 false = true
 t3 : l.getD i3 false = true → l.getD i2 false = true
variable {w1 : World} {i0 i1 i2 i3 : Nat} {d0 d1 d2 d3 : Tmp} {te : TypeId} {n1 n2 : Nat} {x1 x2 : List Value} {l : Array Bool} {g : Tmp → Value} {w : World} {aF : (Tmp → Value) → Act} {i : Nat} {o : Oper}
theorem SJ.zero (w1 : World) (hb : Below w1.heap.size w1 w) (k : Nat) : SJ w1 i0 i1 i2 i3 d0 d1 d2 d3 te n1 n2 x1 x2 (Array.replicate k false) g w :=
 ⟨hb, (fun h => by rw [no_laid] at h; cases h), (fun h => by rw [no_laid] at h; cases h), (fun h => by rw [no_laid] at h; cases h), (fun h => by rw [no_laid] at h; cases h), (fun h => by rw [no_laid] at h; cases h), (fun h => by rw [no_laid] at h; cases h), (fun h => by rw [no_laid] at h; cases h)⟩
theorem SJ.quiet (h : SJ w1 i0 i1 i2 i3 d0 d1 d2 d3 te n1 n2 x1 x2 l g w) (h0 : i ≠ i0) (h1 : i ≠ i1) (h2 : i ≠ i2) (h3 : i ≠ i3) : SJ w1 i0 i1 i2 i3 d0 d1 d2 d3 te n1 n2 x1 x2 (l.setIfInBounds i true) g w := by
 refine ⟨h.below, ?_, ?_, ?_, ?_, ?_, ?_, ?_⟩ <;> simp only [getD_set_ne false h0, getD_set_ne false h1, getD_set_ne false h2, getD_set_ne false h3]
 ·exact h.s0
 ·exact h.s1
 ·exact h.s2
 ·exact h.s3
 ·exact h.t1
 ·exact h.t2
 ·exact h.t3
end
end
def FRw (cs : Array Value) (n : Nat) (v : Value) (w : World) : Prop := ∃ b, v = .slice (some ⟨b, 0, none⟩) n n ∧ Blk w b 3 cs
theorem frw_ok (i : Nat) (d : Tmp) (cs : Array Value) (n : Nat) : (⟨i, d, FRw cs n⟩ : Fact).ok := fun _ _ _ ⟨b, e, h⟩ hb => ⟨b, e, h.below hb h.lt⟩
theorem frw_made {ev : Operand → Value} {o : Oper} {cs : Array Value} {n : Nat} {w : World} (hr : (execOp ev o).run Tryd.prog w = .ok (.value (.slice (some ⟨w.heap.size, 0, none⟩) n n)) (w.alloc (.cells cs 3))) :
 ∃ v w', (execOp ev o).run Tryd.prog w = .ok (.value v) w' ∧ FRw cs n v w' ∧ Below w.heap.size w w' :=
 ⟨_, _, hr, ⟨_, rfl, Blk.new w _ cs⟩, (Below.refl _ _).alloc (Nat.le_refl _) _⟩
end Go.Proofs.YtfifeofmfpjgfaaDoor
