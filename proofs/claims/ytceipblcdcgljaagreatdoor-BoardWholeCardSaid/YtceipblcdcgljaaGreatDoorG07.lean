/-
  Layer 9: what keys are: mathematics. Layer 10's mathematics: events of keys, and their modifiers. Layer 11's mathematics: a key's event in its old form. Layer 11's mathematics: old forms: what a functional key's, a text's, and a plain key's are. A key's event in memory; words for layers that send keys. Cut out of RegH: what names no function of any dump. In a drawn region whose calls answer what the run alone tells: a value that is known by these answers; bytes that such an answer is, made a string. Layer 2, the mathematics of following bytes. Layer 2, walked: what a code point is; the sizes, in their array. Layer 10, the landed mods: whether a number is modifiers. Layer 2's mathematics: how the program reckons the code point with which bytes begin. A region that draws its order, in which an empty row is made, and two slices are appended, one behind the other (append(append([]T{}, a...), b...)). Layer 3, walked: the program's reader: skip, run, one, part.
  Cut out of RdA. From layer 10's walks on: a key's event that came in.
-/
import Derived.Test.YtceipblcdcgljaaGreatDoorG01
import Derived.Test.YtceipblcdcgljaaGreatDoorG02
import Derived.Test.YtceipblcdcgljaaGreatDoorG03
import Derived.Test.YtceipblcdcgljaaGreatDoorG05
import Derived.Test.YtceipblcdcgljaaGreatDoorG06
import Derived.BigQuiet
import Derived.Deep.QuietTactic
import Derived.Deep.RegionHeld
import Derived.Deep.Matrix
import Derived.Deep.Slices
import Derived.OpenShut
import Derived.Deep.Grids
namespace Go.Proofs.YtceipblcdcgljaaGreatDoor
structure En where
 kind : Int
 fin : Int
 num : Int
 char : Int
 keys : Bool
deriving DecidableEq
def letterN (c : Int) : Int :=
 if c = 57350 ∨ c = 57417 then 68 else if c = 57351 ∨ c = 57418 then 67 else if c = 57352 ∨ c = 57419 then 65 else if c = 57353 ∨ c = 57420 then 66
 else if c = 57356 ∨ c = 57423 then 72 else if c = 57357 ∨ c = 57424 then 70 else if c = 57427 then 69 else if 57364 ≤ c ∧ c ≤ 57367 then 80 + c - 57364 else 0
def numberN (c : Int) : Int :=
 if c = 57348 ∨ c = 57425 then 2 else if c = 57349 ∨ c = 57426 then 3 else if c = 57354 ∨ c = 57421 then 5 else if c = 57355 ∨ c = 57422 then 6
 else if c = 57368 then 15 else if 57369 ≤ c ∧ c ≤ 57373 then 17 + c - 57369 else if 57374 ≤ c ∧ c ≤ 57375 then 23 + c - 57374 else if c = 57363 then 29 else 0
def padE (c : Int) : En :=
 if c ≤ 57408 then ⟨5, 112 + c - 57399, 0, 48 + c - 57399, true⟩
 else ⟨5, [110, 111, 106, 109, 107, 77, 88, 108].getD (c - 57409).toNat 0, 0, [46, 47, 42, 45, 43, 13, 61, 44].getD (c - 57409).toNat 0, true⟩
def isPtK (c : Int) : Bool := decide (0 ≤ c ∧ c ≤ 1114111 ∧ ¬ (55296 ≤ c ∧ c ≤ 57343))
def restN (c : Int) : Int :=
 if c = 9 ∨ c = 13 ∨ c = 27 ∨ c = 127 then 2
 else if 57358 ≤ c ∧ c ≤ 57362 ∨ 57376 ≤ c ∧ c ≤ 57398 ∨ 57428 ≤ c ∧ c ≤ 57440 then 6
 else if 57441 ≤ c ∧ c ≤ 57454 then 7
 else if isPtK c = false ∨ c < 32 ∨ 127 ≤ c ∧ c ≤ 159 ∨ 57344 ≤ c ∧ c ≤ 63743 then 0 else 1
def lookE (c : Int) : En :=
 if letterN c ≠ 0 then ⟨3, letterN c, 0, 0, decide (57399 ≤ c)⟩
 else if numberN c ≠ 0 then ⟨4, 0, numberN c, 0, decide (57399 ≤ c)⟩
 else if 57399 ≤ c ∧ c ≤ 57416 then padE c else ⟨restN c, 0, 0, 0, false⟩
theorem letter_out {c : Int} (h : c < 57344 ∨ 57455 ≤ c) : letterN c = 0 := by
 unfold letterN
 repeat' split
 all_goals omega
theorem number_out {c : Int} (h : c < 57344 ∨ 57455 ≤ c) : numberN c = 0 := by
 unfold numberN
 repeat' split
 all_goals omega
theorem look_out {c : Int} (h : c < 57344 ∨ 57455 ≤ c) : lookE c = ⟨restN c, 0, 0, 0, false⟩ := by
 unfold lookE
 rw [letter_out h, number_out h, if_neg (by decide), if_neg (by decide), if_neg (by omega)]
theorem rest_rng (c : Int) : restN c = 0 ∨ restN c = 1 ∨ restN c = 2 ∨ restN c = 6 ∨ restN c = 7 := by
 unfold restN
 repeat' split
 all_goals simp
theorem code_all : ∀ k : Fin 111, (lookE (57344 + k.1)).kind = 0 ∨ (lookE (57344 + k.1)).kind = 3 ∨ (lookE (57344 + k.1)).kind = 4 ∨ (lookE (57344 + k.1)).kind = 5 ∨ (lookE (57344 + k.1)).kind = 6 ∨ (lookE (57344 + k.1)).kind = 7 := by decide +kernel
structure Ky where
 code : Int
 mods : Int
 typ : Int
 shift : Int
 base : Int
 text : ByteArray
def in10 (n : Int) : Prop := -9223372036854775808 ≤ n ∧ n ≤ 9223372036854775807
structure okK (k : Ky) : Prop where
 code : in10 k.code
 mods : in10 k.mods
 typ : in10 k.typ
 shift : in10 k.shift
 base : in10 k.base
def textK (c : Int) : Bool := (lookE c).kind == 1
def cleanP (ks : List Int) : Bool := ks.all fun r => !(decide (r < 32) || decide (127 ≤ r) && decide (r ≤ 159))
def cleanO : Option (List Int) → Bool
 | some ks => decide (ks.length ≤ 8) && cleanP ks
 | none => false
def cleanL (l : List UInt8) : Bool := cleanO (allL l)
def cleanB (s : ByteArray) : Bool := cleanL s.data.toList
def mayK (k : Ky) : Bool := !((lookE k.code).kind == 0 || decide (k.mods < 0) || decide (255 < k.mods) || decide (k.typ < 1) || decide (3 < k.typ)) && ((k.shift == 0 || textK k.shift) && (k.base == 0 || textK k.base) && cleanB k.text)
def hasN (n one : Int) : Bool := max n 0 / one % 2 == 1
def oldN (n : Int) : Int := max n 0 % 8
def paramN (n : Int) : Int := if n < 0 ∨ 255 < n then 1 else n + 1
def shownK (k : Ky) : Int := if hasN k.mods 1 = false then k.code else if k.shift ≠ 0 then k.shift else if 97 ≤ k.code ∧ k.code ≤ 122 then k.code - 32 else k.code
def foldN (c : Int) : Int × Bool :=
 if c = 32 ∨ c = 50 ∨ c = 64 then (0, true) else if 97 ≤ c ∧ c ≤ 122 then (c - 96, true) else if 65 ≤ c ∧ c ≤ 95 then (c - 64, true) else if 51 ≤ c ∧ c ≤ 55 then (27 + c - 51, true) else if c = 47 then (31, true) else if c = 56 ∨ c = 63 then (127, true) else (0, false)
theorem fold_rng (c : Int) : ((foldN c).2 = true → 0 ≤ (foldN c).1 ∧ ((foldN c).1 < 32 ∨ (foldN c).1 = 127)) ∧ ((foldN c).2 = false → (foldN c).1 = 0) := by
 unfold foldN
 repeat' split
 all_goals simp
 all_goals omega
theorem may_parts (k : Ky) : mayK k = true ↔ ((lookE k.code).kind ≠ 0 ∧ 0 ≤ k.mods ∧ k.mods ≤ 255 ∧ 1 ≤ k.typ ∧ k.typ ≤ 3) ∧ (k.shift = 0 ∨ textK k.shift = true) ∧ (k.base = 0 ∨ textK k.base = true) ∧ cleanB k.text = true := by
 unfold mayK
 simp only [Bool.and_eq_true, Bool.not_eq_true', Bool.or_eq_false_iff, Bool.or_eq_true, beq_iff_eq, beq_eq_false_iff_ne, decide_eq_false_iff_not, and_assoc, ne_eq]
 constructor <;> (rintro ⟨h1, h2, h3, h4, h5, h6, h7, h8⟩; exact ⟨h1, by omega, by omega, by omega, by omega, h6, h7, h8⟩)
def sqN (kind f : Int) (l : List Int) : Sq := ⟨kind, 0, l.map fun n => [n], [], byt f, []⟩
def seqB (kind f : Int) (l : List Int) : List UInt8 := if mayS (sqN kind f l) = 0 then putS (sqN kind f l) else []
def shownC (code shift : Int) (s1 : Bool) : Int := if s1 = false then code else if shift ≠ 0 then shift else if 97 ≤ code ∧ code ≤ 122 then code - 32 else code
theorem shownK_eq (k : Ky) : shownK k = shownC k.code k.shift (hasN k.mods 1) := rfl
def shownG (code shift : Int) (s1 c4 : Bool) (text : List UInt8) : List UInt8 :=
 if c4 = false ∧ text ≠ [] then text else if (c4 && (foldN (shownC code shift s1)).2) = true then [byt (foldN (shownC code shift s1)).1] else putL (shownC code shift s1)
def plainG (m : Mo) (code : Int) (s1 c4 : Bool) : List UInt8 :=
 if code = 9 then (if s1 = true then seqB 1 90 [] else [9]) else if code = 13 then (if m.line = true then [13, 10] else [13]) else if code = 27 then [27] else if (m.back != c4) = true then [8] else [127]
def aheadG (a2 : Bool) (l : List UInt8) : List UInt8 := if a2 = true then 27 :: l else l
def funcG (m : Mo) (e : En) (o : Int) : List UInt8 :=
 if e.kind = 4 then (if o = 0 then seqB 1 126 [e.num] else seqB 1 126 [e.num, 1 + o])
 else if 0 < o then seqB 1 e.fin [1, 1 + o] else if (m.cursor || decide (80 ≤ e.fin)) = true then seqB 2 e.fin [] else seqB 1 e.fin []
def legE (m : Mo) (e : En) (code shift o : Int) (s1 a2 c4 : Bool) (text : List UInt8) : List UInt8 :=
 if e.kind = 1 then aheadG a2 (shownG code shift s1 c4 text) else if e.kind = 2 then aheadG a2 (plainG m code s1 c4) else if e.kind = 3 ∨ e.kind = 4 then funcG m e o else []
def legG (m : Mo) (code shift o : Int) (s1 a2 c4 : Bool) (text : List UInt8) : List UInt8 :=
 if (lookE code).kind = 5 then
  (if m.keypad = true ∧ o = 0 then seqB 2 (lookE code).fin [] else legE m (lookE (lookE code).char) (lookE code).char 0 o s1 a2 c4 text)
 else legE m (lookE code) code shift o s1 a2 c4 text
def legL (m : Mo) (k : Ky) : List UInt8 := if mayK k = false ∨ k.typ = 3 then [] else legG m k.code k.shift (oldN k.mods) (hasN k.mods 1) (hasN k.mods 2) (hasN k.mods 4) k.text.data.toList
theorem leg_no {m : Mo} {k : Ky} (h : mayK k = false ∨ k.typ = 3) : legL m k = [] := if_pos h
theorem leg_yes {m : Mo} {k : Ky} (h : mayK k = true) (h3 : k.typ ≠ 3) : legL m k = legG m k.code k.shift (oldN k.mods) (hasN k.mods 1) (hasN k.mods 2) (hasN k.mods 4) k.text.data.toList :=
 if_neg (by rw [h]; simp [h3])
theorem may_typ {k : Ky} (h : mayK k = true) {t : Int} (h1 : 1 ≤ t) (h2 : t ≤ 3) : mayK { k with typ := t } = true := by
 obtain ⟨⟨a, b, c, _, _⟩, d⟩ := (may_parts k).1 h
 exact (may_parts _).2 ⟨⟨a, b, c, h1, h2⟩, d⟩
theorem leg_repeat (m : Mo) {k : Ky} (h : mayK k = true) : legL m { k with typ := 2 } = legL m { k with typ := 1 } := by
 rw [leg_yes (may_typ h (t := 2) (by decide) (by decide)) (by simp), leg_yes (may_typ h (t := 1) (by decide) (by decide)) (by simp)]
theorem byt_btw {f : Int} {a b : Nat} (h0 : (a : Int) ≤ f) (h1 : f ≤ (b : Int)) (hb : b < 256) : btw a b (byt f) = true := by
 have h := byt_nat f (by omega) (by omega)
 rw [btw_iff]
 omega
theorem par_nums {l : List Int} (hl : l.length ≤ 16) (hn : ∀ n ∈ l, 0 ≤ n ∧ n ≤ 1114111) : parOk (l.map fun n => [n]) = true := by
 unfold parOk
 simp only [Bool.and_eq_true, decide_eq_true_eq, List.all_eq_true]
 refine ⟨⟨by rw [List.length_map]; exact hl, fun h => ?_⟩, fun p hp => ?_⟩
 ·have : (-1 : Int) ∈ l := by
   match l, h with
   | [x], h =>
     simp at h
     simp [h]
  have := (hn _ this).1
  omega
 ·obtain ⟨n, hn', rfl⟩ := List.mem_map.1 hp
  have := hn n hn'
  exact ⟨⟨by simp, by simp⟩, fun m hm => by rw [List.mem_singleton.1 hm]; exact ⟨by omega, by omega⟩⟩
theorem may_csi {f : Int} {l : List Int} (h0 : 64 ≤ f) (h1 : f ≤ 126) (hl : l.length ≤ 16) (hn : ∀ n ∈ l, 0 ≤ n ∧ n ≤ 1114111) : mayS (sqN 1 f l) = 0 := by
 have hp := par_nums hl hn
 have hb := byt_btw (f := f) (a := 64) (b := 126) h0 h1 (by decide)
 have ho : okS (sqN 1 f l) = true := by
  unfold okS sqN
  simp [privOk, lastOk, bareOk, hp, hb]
 unfold mayS
 rw [if_neg (by simp [sqN]), if_pos ho]
theorem may_ss3 {f : Int} (h0 : 64 ≤ f) (h1 : f ≤ 126) : mayS (sqN 2 f []) = 0 := by
 have hb := byt_btw (f := f) (a := 64) (b := 126) h0 h1 (by decide)
 have ho : okS (sqN 2 f []) = true := by
  unfold okS sqN
  simp [privOk, lastOk, bareOk, hb, parOk]
 unfold mayS
 rw [if_neg (by simp [sqN]), if_pos ho]
theorem seqB_is {k f : Int} {l : List Int} (h : mayS (sqN k f l) = 0) : seqB k f l = putS (sqN k f l) := if_pos h
def FormE (e : En) : Prop := (e.kind = 4 → 1 ≤ e.num ∧ e.num ≤ 100) ∧ (e.kind = 3 → 65 ≤ e.fin ∧ e.fin ≤ 90) ∧ (e.kind = 5 → 65 ≤ e.fin ∧ e.fin ≤ 122)
instance (e : En) : Decidable (FormE e) := by unfold FormE; infer_instance
theorem form_fin : ∀ k : Fin 111, FormE (lookE (57344 + (k.1 : Int))) := by decide +kernel
theorem form_e (c : Int) : FormE (lookE c) := by
 by_cases h : c < 57344 ∨ 57455 ≤ c
 ·rw [look_out h]
  have := rest_rng c
  unfold FormE
  simp only
  omega
 ·obtain ⟨k, rfl⟩ : ∃ k : Fin 111, c = 57344 + k.1 := ⟨⟨(c - 57344).toNat, by omega⟩, by simp; omega⟩
  exact form_fin k
def funcQ (m : Mo) (e : En) (o : Int) : Sq :=
 if e.kind = 4 then (if o = 0 then sqN 1 126 [e.num] else sqN 1 126 [e.num, 1 + o])
 else if 0 < o then sqN 1 e.fin [1, 1 + o] else if (m.cursor || decide (80 ≤ e.fin)) = true then sqN 2 e.fin [] else sqN 1 e.fin []
theorem func_put (m : Mo) {c o : Int} (hk : (lookE c).kind = 3 ∨ (lookE c).kind = 4) (h0 : 0 ≤ o) (h1 : o < 8) : mayS (funcQ m (lookE c) o) = 0 ∧ funcG m (lookE c) o = putS (funcQ m (lookE c) o) := by
 obtain ⟨f4, f3, _⟩ := form_e c
 unfold funcG funcQ
 by_cases h4 : (lookE c).kind = 4
 ·have hb := f4 h4
  rw [if_pos h4, if_pos h4]
  by_cases ho : o = 0
  ·have hm : mayS (sqN 1 126 [(lookE c).num]) = 0 := may_csi (by decide) (by decide) (by simp) (by simp; omega)
   rw [if_pos ho, if_pos ho]
   exact ⟨hm, seqB_is hm⟩
  ·have hm : mayS (sqN 1 126 [(lookE c).num, 1 + o]) = 0 := may_csi (by decide) (by decide) (by simp) (by simp; omega)
   rw [if_neg ho, if_neg ho]
   exact ⟨hm, seqB_is hm⟩
 ·have hb := f3 (by omega)
  rw [if_neg h4, if_neg h4]
  by_cases ho : 0 < o
  ·have hm : mayS (sqN 1 (lookE c).fin [1, 1 + o]) = 0 := may_csi (by omega) (by omega) (by simp) (by simp; omega)
   rw [if_pos ho, if_pos ho]
   exact ⟨hm, seqB_is hm⟩
  ·rw [if_neg ho, if_neg ho]
   by_cases hc : (m.cursor || decide (80 ≤ (lookE c).fin)) = true
   ·have hm : mayS (sqN 2 (lookE c).fin []) = 0 := may_ss3 (by omega) (by omega)
    rw [if_pos hc, if_pos hc]
    exact ⟨hm, seqB_is hm⟩
   ·have hm : mayS (sqN 1 (lookE c).fin []) = 0 := may_csi (by omega) (by omega) (by simp) (by simp)
    rw [if_neg hc, if_neg hc]
    exact ⟨hm, seqB_is hm⟩
theorem text_pt {c : Int} (h : (lookE c).kind = 1) : isPt c = true := by
 by_cases ho : c < 57344 ∨ 57455 ≤ c
 ·rw [look_out ho] at h
  simp only at h
  unfold restN at h
  by_cases h1 : c = 9 ∨ c = 13 ∨ c = 27 ∨ c = 127
  ·rw [if_pos h1] at h; cases h
  ·rw [if_neg h1, if_neg (by omega), if_neg (by omega)] at h
   by_cases h2 : isPtK c = false ∨ c < 32 ∨ 127 ≤ c ∧ c ≤ 159 ∨ 57344 ≤ c ∧ c ≤ 63743
   ·rw [if_pos h2] at h; cases h
   ·have h3 : isPtK c = true := by
     cases e : isPtK c with
     | true => rfl
     | false => exact absurd (.inl e) h2
    have h4 := of_decide_eq_true h3
    exact (isPt_iff c).2 (by omega)
 ·exfalso
  obtain ⟨k, rfl⟩ : ∃ k : Fin 111, c = 57344 + k.1 := ⟨⟨(c - 57344).toNat, by omega⟩, by simp; omega⟩
  have := code_all k
  omega
theorem shown_pt {code shift : Int} (h : (lookE code).kind = 1) (hs : shift = 0 ∨ textK shift = true) (s1 : Bool) : isPt (shownC code shift s1) = true := by
 unfold shownC
 split
 ·exact text_pt h
 ·split
  next h2 =>
   rcases hs with hs | hs
   ·exact absurd hs h2
   ·exact text_pt (eq_of_beq hs)
  next =>
   split
   next h3 => exact (isPt_iff _).2 (by omega)
   next => exact text_pt h
end Go.Proofs.YtceipblcdcgljaaGreatDoor
namespace Go.Proofs.YtceipblcdcgljaaGreatDoor
open Go.RowKit
def kyV (k : Ky) : Value := .agg #[.int .i64 k.code, .int .i64 k.mods, .int .i64 k.typ, .int .i64 k.shift, .int .i64 k.base, .string k.text]
def kyC (k : Ky) : Array Value := #[.int .i64 k.code, .int .i64 k.mods, .int .i64 k.typ, .int .i64 k.shift, .int .i64 k.base, .string k.text]
theorem Own.capT {w : World} {base : Nat} {e : TypeId} {A : Option Addr} {n c : Nat} {xs : List Value} (h : Own w base e 1 (.slice A n c) n xs) : n ≤ c := by
 rcases h.2 with ⟨hv, h0⟩ | ⟨g, cap, hv, hb, hh, hnc, hcm, hx, hc⟩
 ·omega
 ·injection hv with _ _ h3
  omega
theorem below_none {w w' : World} (h : w.grownBy w' none) : Below w.heap.size w w' := ⟨h.os, h.tape, h.output, h.size, fun k hk => h.block k hk (by simp)⟩
theorem max0 (n N : Int) (h : max n 0 = N) {P : Program} : ∀ (ts : Array TypeId) (t : TypeId) (W : World), (Builtin.max_ ts t #[.int .i64 n, .int .i64 0]).run P W = .ok (.int .i64 N) W := fun ts t W => by
 rw [run_max_int2]
 congr 2
 split <;> omega
theorem ky_box (w : World) (k : Ky) : Below w.heap.size w (w.alloc (.cells (kyC k) 25)) := (Below.refl _ w).alloc (Nat.le_refl _) _
section
section
variable {P : Program} {ops : Array Oper} {md : Region.Mode} {w1 : World} {K : List Fact} {ix iz : Nat} {R0 R1 : (Tmp → Value) → World → World → Prop} {aF : (Tmp → Value) → Act} {i : Nat} {o : Oper}
theorem goesK_know (v : Value) (hst : ∀ f ∈ K, f.ok) (hah : Ahead md ops ix i) (hio : ops[i]? = some o) (hx : i ≠ ix) (hz : i ≠ iz) (hni : (K.all fun f => f.i != i) = true) (hw : ∀ g, Region.wanted o (yielded ops (aF g).tmps) = true) {d0 : Tmp} (h0 : o.dst = some d0) (hd : ∀ g, (aF g).tmps[d0]? = some v)
 (h : ∀ g w, Below w1.heap.size w1 w → (∀ (q : Nat) (f : Fact), K[q]? = some f → edgeB md ops i f.i = true → f.F (g f.d) w) → (execOp (aF g).eval o).run P w = .ok (.value v) w) :
 GoesM P md ops aF (SK md ops w1 K ix iz R0 R1) i o := fun l g w hsz hf hrd hS => by
 rw [if_pos (hw g)]
 have hfx := hah l hsz hS.shut hf
 obtain ⟨h1, h2⟩ := hS.pre hfx
 refine .inl ⟨v, w, .inl (h g w h1 fun q f' hf' he => h2 f' (List.mem_of_getElem? hf') ?_), g, .inl rfl, (fun d' h' => by rw [h0] at h'; cases h'; exact hd g), hS.quiet hst (hS.shut.step hio hrd) (Below.refl _ _) hx hz hni hfx⟩
 unfold edgeB at he
 rw [hio] at he
 obtain ⟨e, he, hb⟩ := Array.any_eq_true'.1 he
 simp only [Bool.and_eq_true, beq_iff_eq] at hb
 rw [← hb.2]
 exact hrd e he hb.1
end
end
section
section
variable {P : Program} {ops : Array Oper} {md : Region.Mode} {w1 : World} {K : List Fact} {ix iz : Nat} {R0 R1 : (Tmp → Value) → World → World → Prop} {aF : (Tmp → Value) → Act} {i : Nat} {o : Oper}
def FB (L : List UInt8) (v : Value) (w : World) : Prop := ∃ A c, v = .slice A L.length c ∧ Rd w A (bs L)
theorem fb_ok (i : Nat) (d : Tmp) (L : List UInt8) : (⟨i, d, FB L⟩ : Fact).ok := fun _ _ _ ⟨A, c, e, h⟩ hb => ⟨A, c, e, h.below hb⟩
theorem fb_out {L : List UInt8} {w : World} {f : FuncId} {args : Array Value} (h : Calls P f args w (Out L w)) : Calls P f args w fun e w' => ∃ v, e = .returned v ∧ FB L v w' ∧ Below w.heap.size w w' :=
 h.mono fun _ _ ⟨A, c, he, hr, hb⟩ => ⟨_, he, ⟨A, c, rfl, hr⟩, hb⟩
theorem goesK_str {L : List UInt8} {src dst e : TypeId} {x : Operand} {j : Nat} {d : Tmp} (p : Nat) (hat : K[p]? = some ⟨j, d, FB L⟩) (hed : edgeB md ops i j = true) (hsrc : P.underlying src = some (.slice e)) (he : P.underlying e = some (.int .u8)) (hdst : P.underlying dst = some .string)
 (hst : ∀ f ∈ K, f.ok) (hah : Ahead md ops ix i) (hio : ops[i]? = some o) (hx : i ≠ ix) (hz : i ≠ iz) (hni : (K.all fun f => f.i != i) = true) (hw : ∀ g, Region.wanted o (yielded ops (aF g).tmps) = true) {d0 : Tmp} (h0 : o.dst = some d0) (hd : ∀ g, (aF g).tmps[d0]? = some (.string ⟨L.toArray⟩))
 (ho : o.op = .convert src dst x) (hxv : ∀ g, (aF g).eval x = g d) : GoesM P md ops aF (SK md ops w1 K ix iz R0 R1) i o :=
 goesK_know _ hst hah hio hx hz hni hw h0 hd fun g w _ hin => by
  obtain ⟨A, c, hv, hr⟩ := hin p _ hat hed
  simp only at hv
  unfold execOp
  simp only [ho, hxv, hv, Sem.run_bind, Sem.run_pure, conv_str hsrc he rfl hr dst hdst, Result.andThen_ok]
end
end
end Go.Proofs.YtceipblcdcgljaaGreatDoor
namespace Go.Proofs.YtceipblcdcgljaaGreatDoor
def accL (x : Int) : List UInt8 → Option Int
 | [] => some x
 | c :: t => if fol c = true then accL (x * 64 + ((c.toNat : Int) - 128)) t else none
theorem accL_append (x : Int) (t u : List UInt8) : accL x (t ++ u) = (accL x t).bind fun y => accL y u := by
 induction t generalizing x with
 | nil => rfl
 | cons c t ih =>
   by_cases hf : fol c = true
   ·have e1 : ∀ t, accL x (c :: t) = accL (x * 64 + ((c.toNat : Int) - 128)) t := fun t => if_pos hf
    rw [List.cons_append, e1, e1]
    exact ih _
   ·have e1 : ∀ t, accL x (c :: t) = none := fun t => if_neg hf
    rw [List.cons_append, e1, e1]
    rfl
theorem accL_step (x : Int) (l : List UInt8) (k : Nat) (h : k < l.length) (y : Int) (hy : accL x (l.take k) = some y) :
 accL x (l.take (k + 1)) = if fol l[k] = true then some (y * 64 + ((l[k].toNat : Int) - 128)) else none := by
 rw [List.take_succ_eq_append_getElem h, accL_append, hy]
 rfl
theorem accL_none (x : Int) (l : List UInt8) (k j : Nat) (hk : k ≤ j) (h : accL x (l.take k) = none) : accL x (l.take j) = none := by
 have e : l.take j = l.take k ++ (l.drop k).take (j - k) := by
  rw [← List.take_add, show k + (j - k) = j by omega]
 rw [e, accL_append, h]; rfl
theorem accL_bd : ∀ (t : List UInt8) (x y : Int), 0 ≤ x → accL x t = some y → 0 ≤ y := by
 intro t
 induction t with
 | nil => intro x y h0 h; injection h with h; omega
 | cons c t ih =>
   intro x y h0 h
   unfold accL at h
   split at h
   ·rename_i hf
    have := (fol_iff c).1 hf
    exact ih _ y (by omega) h
   ·cases h
theorem accL_up (x : Int) (l : List UInt8) (k : Nat) (hk : k ≤ 3) (h0 : 0 ≤ x) (h1 : x < 256) (y : Int) (h : accL x (l.take k) = some y) : 0 ≤ y ∧ y < 67108864 := by
 refine ⟨accL_bd _ _ _ h0 h, ?_⟩
 have step : ∀ (t : List UInt8) (x y B : Int), x < B → accL x t = some y → y < B * 64 ^ t.length := by
  intro t
  induction t with
  | nil => intro x y B hB h; injection h with h; simp; omega
  | cons c t ih =>
    intro x y B hB h
    unfold accL at h
    split at h
    ·rename_i hf
     have := (fol_iff c).1 hf
     have h2 := ih _ y (B * 64) (by omega) h
     rw [List.length_cons, show B * 64 ^ (t.length + 1) = B * 64 * 64 ^ t.length by rw [Int.pow_succ]; simp only [Int.mul_assoc]; rw [Int.mul_comm (64 ^ t.length)]]
     exact h2
    ·cases h
 have hs := step _ x y 256 h1 h
 have hl : (l.take k).length ≤ 3 := Nat.le_trans (List.length_take_le _ _) hk
 have : (l.take k).length = 0 ∨ (l.take k).length = 1 ∨ (l.take k).length = 2 ∨ (l.take k).length = 3 := by omega
 rcases this with e | e | e | e <;> (rw [e] at hs; simp at hs; omega)
end Go.Proofs.YtceipblcdcgljaaGreatDoor
namespace Go.Proofs.YtceipblcdcgljaaGreatDoor
open Go.RowKit
set_option maxHeartbeats 1000000 in
theorem isPt_any (r : Int) (w : World) : Calls Tryz.prog 90 #[.int .i64 r] w fun e w' => e = .returned (.bool (isPt r)) ∧ w = w' := by
 by_cases h0 : 0 ≤ r
 ·by_cases h1 : r ≤ 1114111
  ·by_cases h2 : r < 55296
   ·go_enter Tryz.func90, Tryz.ntmps90
    go_wp2
    go_ret
    exact ⟨ret_b (((isPt_iff r).2 (by omega)).symm), rfl⟩
   ·by_cases h3 : 57343 < r
    ·go_enter Tryz.func90, Tryz.ntmps90
     go_wp2
     go_ret
     exact ⟨ret_b (((isPt_iff r).2 (by omega)).symm), rfl⟩
    ·go_enter Tryz.func90, Tryz.ntmps90
     go_wp2
     go_ret
     exact ⟨ret_b (((isPt_no r).2 (by omega)).symm), rfl⟩
  ·go_enter Tryz.func90, Tryz.ntmps90
   go_wp2
   go_ret
   exact ⟨ret_b (((isPt_no r).2 (by omega)).symm), rfl⟩
 ·go_enter Tryz.func90, Tryz.ntmps90
  go_wp2
  go_ret
  exact ⟨ret_b (((isPt_no r).2 (by omega)).symm), rfl⟩
def sizC : Array Value := #[.int .i64 1, .int .i64 0, .int .i64 0, .int .i64 2, .int .i64 128, .int .i64 192, .int .i64 3, .int .i64 2048, .int .i64 224, .int .i64 4, .int .i64 65536, .int .i64 240]
def Siz (w : World) : Prop := ∃ t fz, w.heap[1]? = some (.cells sizC t fz)
theorem Siz.below {w w' : World} {B : Nat} (h : Siz w) (hb : Below B w w') (hB : w.heap.size ≤ B) : Siz w' := by
 obtain ⟨t, fz, hh⟩ := h
 have := (Array.getElem?_eq_some_iff.1 hh).1
 exact ⟨t, fz, (hb.block _ (by omega)).trans hh⟩
theorem Siz.below' {w w' : World} (h : Siz w) (hb : Below w.heap.size w w') : Siz w' := h.below hb (Nat.le_refl _)
def szA : Nat → Array Value
 | 0 => #[.int .i64 1, .int .i64 0, .int .i64 0]
 | 1 => #[.int .i64 2, .int .i64 128, .int .i64 192]
 | 2 => #[.int .i64 3, .int .i64 2048, .int .i64 224]
 | _ => #[.int .i64 4, .int .i64 65536, .int .i64 240]
def ixP (r : Int) (k : Nat) : Nat := if 3 < k ∧ 65536 ≤ r then 3 else if 2 < k ∧ 2048 ≤ r then 2 else if 1 < k ∧ 128 ≤ r then 1 else 0
def ixF (r : Int) (k : Nat) : Nat := if 3 < k ∧ 240 ≤ r then 3 else if 2 < k ∧ 224 ≤ r then 2 else if 1 < k ∧ 192 ≤ r then 1 else 0
def areN (n : Int) : Bool := decide (0 ≤ n) && decide (n ≤ 255)
set_option maxRecDepth 100000 in
theorem are_any (n : Int) (w : World) : Calls Tryz.prog 98 #[.int .i64 n] w fun e w' => e = .returned (.bool (areN n)) ∧ Below w.heap.size w w' := by
 obtain ⟨R, hR⟩ : ∃ R, areN n = R := ⟨_, rfl⟩
 rw [hR]
 have HR := Lib.hid hR
 clear hR
 by_cases h0 : 0 ≤ n
 ·by_cases h1 : n ≤ 255
  ·have HF := Lib.hid (show true = R by rw [← HR.out]; simp [areN, h0, h1])
   go_enter Tryz.func98, Tryz.ntmps98
   go_wp2_with fail
   go_ret
   exact ⟨ret_b HF.out, Below.refl _ _⟩
  ·have HF := Lib.hid (show false = R by rw [← HR.out]; simp [areN, h1])
   go_enter Tryz.func98, Tryz.ntmps98
   go_wp2_with fail
   go_ret
   exact ⟨ret_b HF.out, Below.refl _ _⟩
 ·have HF := Lib.hid (show false = R by rw [← HR.out]; simp [areN, h0])
  go_enter Tryz.func98, Tryz.ntmps98
  go_wp2_with fail
  go_ret
  exact ⟨ret_b HF.out, Below.refl _ _⟩
theorem are_at {n : Int} {q : Bool} (h : areN n = q) (w : World) : Calls Tryz.prog 98 #[.int .i64 n] w fun e w' => e = .returned (.bool q) ∧ Below w.heap.size w w' := by
 rw [← h]
 exact are_any n w
end Go.Proofs.YtceipblcdcgljaaGreatDoor
namespace Go.Proofs.YtceipblcdcgljaaGreatDoor
structure Fst (a : UInt8) (j : Nat) (lead : Int) : Prop where
 short : ∀ l : List UInt8, l.length < j → takeL (a :: l) = (0, 0)
 none_ : ∀ l : List UInt8, j ≤ l.length → accL ((a.toNat : Int) - lead) (l.take j) = none → takeL (a :: l) = (0, 0)
 no : ∀ (l : List UInt8) (x : Int), j ≤ l.length → accL ((a.toNat : Int) - lead) (l.take j) = some x → ¬ (isPt x = true ∧ ixP x 4 = j) → takeL (a :: l) = (0, 0)
 yes : ∀ (l : List UInt8) (x : Int), j ≤ l.length → accL ((a.toNat : Int) - lead) (l.take j) = some x → isPt x = true → ixP x 4 = j → takeL (a :: l) = (x, j + 1)
theorem ix0 (x : Int) : ixP x 4 = 0 ↔ x < 128 := by unfold ixP; (repeat' split) <;> omega
theorem ix1 (x : Int) : ixP x 4 = 1 ↔ 128 ≤ x ∧ x < 2048 := by unfold ixP; (repeat' split) <;> omega
theorem ix2 (x : Int) : ixP x 4 = 2 ↔ 2048 ≤ x ∧ x < 65536 := by unfold ixP; (repeat' split) <;> omega
theorem ix3 (x : Int) : ixP x 4 = 3 ↔ 65536 ≤ x := by unfold ixP; (repeat' split) <;> omega
theorem fst_split (a : UInt8) : ∃ (j : Nat) (least lead : Int), j ≤ 3 ∧ ixF a.toNat 4 = j ∧ szA (ixF a.toNat 4) = #[.int .i64 ((j : Int) + 1), .int .i64 least, .int .i64 lead] ∧ 0 ≤ lead ∧ lead ≤ a.toNat ∧ Fst a j lead := by
 have ha := a.toNat_lt
 by_cases a1 : a.toNat < 192
 ·have e : ixF a.toNat 4 = 0 := by unfold ixF; (repeat' split) <;> omega
  refine ⟨0, 0, 0, by omega, e, by rw [e]; rfl, by omega, by omega, ⟨fun l h => absurd h (by omega), fun l _ h => ?_, fun l x _ h hn => ?_, fun l x _ h hp hi => ?_⟩⟩
  ·cases h
  ·obtain rfl : (a.toNat : Int) = x := by have := Option.some.inj h; omega
   simp only [takeL]
   rw [if_pos a1]
   by_cases a2 : a.toNat < 128
   ·exact absurd ⟨(isPt_iff _).2 (by omega), (ix0 _).2 (by omega)⟩ hn
   ·rw [if_neg a2]
  ·obtain rfl : (a.toNat : Int) = x := by have := Option.some.inj h; omega
   have := (ix0 _).1 hi
   simp only [takeL]
   rw [if_pos a1, if_pos (by omega)]
   rfl
 ·by_cases a2 : a.toNat < 224
  ·have e : ixF a.toNat 4 = 1 := by unfold ixF; (repeat' split) <;> omega
   refine ⟨1, 128, 192, by omega, e, by rw [e]; rfl, by omega, by omega, ⟨fun l h => ?_, fun l hl h => ?_, fun l x hl h hn => ?_, fun l x hl h hp hi => ?_⟩⟩
   ·match l, h with
    | [], _ => simp only [takeL]; rw [if_neg a1, if_pos a2]
   ·match l, hl with
    | b :: l, _ =>
      simp only [takeL]; rw [if_neg a1, if_pos a2]
      by_cases f1 : fol b = true
      ·simp [accL, f1] at h
      ·rw [if_neg (fun hh => f1 hh.1)]
   ·match l, hl with
    | b :: l, _ =>
      simp only [takeL]; rw [if_neg a1, if_pos a2]
      by_cases f1 : fol b = true
      ·have hx : num2 a b = x := by simpa [accL, f1, num2] using h
       have e0 : num2 a b = ((a.toNat : Int) - 192) * 64 + ((b.toNat : Int) - 128) := rfl
       have := (fol_iff b).1 f1
       rw [hx]
       rw [if_neg (fun hh => hn ⟨hh.2.1, (ix1 x).2 (by omega)⟩)]
      ·rw [if_neg (fun hh => f1 hh.1)]
   ·match l, hl with
    | b :: l, _ =>
      simp only [takeL]; rw [if_neg a1, if_pos a2]
      by_cases f1 : fol b = true
      ·have hx : num2 a b = x := by simpa [accL, f1, num2] using h
       rw [hx, if_pos ⟨f1, hp, ((ix1 x).1 hi).1⟩]
      ·simp [accL, f1] at h
  ·by_cases a3 : a.toNat < 240
   ·have e : ixF a.toNat 4 = 2 := by unfold ixF; (repeat' split) <;> omega
    refine ⟨2, 2048, 224, by omega, e, by rw [e]; rfl, by omega, by omega, ⟨fun l h => ?_, fun l hl h => ?_, fun l x hl h hn => ?_, fun l x hl h hp hi => ?_⟩⟩
    ·match l, h with
     | [], _ => simp only [takeL]; rw [if_neg a1, if_neg a2, if_pos a3]
     | [_], _ => simp only [takeL]; rw [if_neg a1, if_neg a2, if_pos a3]
    ·match l, hl with
     | b :: c :: l, _ =>
       simp only [takeL]; rw [if_neg a1, if_neg a2, if_pos a3]
       by_cases f1 : fol b = true
       ·by_cases f2 : fol c = true
        ·simp [accL, f1, f2] at h
        ·rw [if_neg (fun hh => f2 hh.2.1)]
       ·rw [if_neg (fun hh => f1 hh.1)]
    ·match l, hl with
     | b :: c :: l, _ =>
       simp only [takeL]; rw [if_neg a1, if_neg a2, if_pos a3]
       by_cases f1 : fol b = true
       ·by_cases f2 : fol c = true
        ·have hx : num3 a b c = x := by simpa [accL, f1, f2, num3] using h
         have e0 : num3 a b c = (((a.toNat : Int) - 224) * 64 + ((b.toNat : Int) - 128)) * 64 + ((c.toNat : Int) - 128) := rfl
         have := (fol_iff b).1 f1
         have := (fol_iff c).1 f2
         rw [hx]
         rw [if_neg (fun hh => hn ⟨hh.2.2.1, (ix2 x).2 (by omega)⟩)]
        ·rw [if_neg (fun hh => f2 hh.2.1)]
       ·rw [if_neg (fun hh => f1 hh.1)]
    ·match l, hl with
     | b :: c :: l, _ =>
       simp only [takeL]; rw [if_neg a1, if_neg a2, if_pos a3]
       by_cases f1 : fol b = true
       ·by_cases f2 : fol c = true
        ·have hx : num3 a b c = x := by simpa [accL, f1, f2, num3] using h
         rw [hx, if_pos ⟨f1, f2, hp, ((ix2 x).1 hi).1⟩]
        ·simp [accL, f1, f2] at h
       ·simp [accL, f1] at h
   ·have e : ixF a.toNat 4 = 3 := by unfold ixF; (repeat' split) <;> omega
    refine ⟨3, 65536, 240, by omega, e, by rw [e]; rfl, by omega, by omega, ⟨fun l h => ?_, fun l hl h => ?_, fun l x hl h hn => ?_, fun l x hl h hp hi => ?_⟩⟩
    ·match l, h with
     | [], _ => simp only [takeL]; rw [if_neg a1, if_neg a2, if_neg a3]
     | [_], _ => simp only [takeL]; rw [if_neg a1, if_neg a2, if_neg a3]
     | [_, _], _ => simp only [takeL]; rw [if_neg a1, if_neg a2, if_neg a3]
    ·match l, hl with
     | b :: c :: d :: l, _ =>
       simp only [takeL]; rw [if_neg a1, if_neg a2, if_neg a3]
       by_cases f1 : fol b = true
       ·by_cases f2 : fol c = true
        ·by_cases f3 : fol d = true
         ·simp [accL, f1, f2, f3] at h
         ·rw [if_neg (fun hh => f3 hh.2.2.1)]
        ·rw [if_neg (fun hh => f2 hh.2.1)]
       ·rw [if_neg (fun hh => f1 hh.1)]
    ·match l, hl with
     | b :: c :: d :: l, _ =>
       simp only [takeL]; rw [if_neg a1, if_neg a2, if_neg a3]
       by_cases f1 : fol b = true
       ·by_cases f2 : fol c = true
        ·by_cases f3 : fol d = true
         ·have hx : num4 a b c d = x := by simpa [accL, f1, f2, f3, num4] using h
          rw [hx]
          rw [if_neg (fun hh => hn ⟨hh.2.2.2.1, (ix3 x).2 hh.2.2.2.2⟩)]
         ·rw [if_neg (fun hh => f3 hh.2.2.1)]
        ·rw [if_neg (fun hh => f2 hh.2.1)]
       ·rw [if_neg (fun hh => f1 hh.1)]
    ·match l, hl with
     | b :: c :: d :: l, _ =>
       simp only [takeL]; rw [if_neg a1, if_neg a2, if_neg a3]
       by_cases f1 : fol b = true
       ·by_cases f2 : fol c = true
        ·by_cases f3 : fol d = true
         ·have hx : num4 a b c d = x := by simpa [accL, f1, f2, f3, num4] using h
          rw [hx, if_pos ⟨f1, f2, f3, hp, ((ix3 x).1 hi)⟩]
         ·simp [accL, f1, f2, f3] at h
        ·simp [accL, f1, f2] at h
       ·simp [accL, f1] at h
end Go.Proofs.YtceipblcdcgljaaGreatDoor
namespace Go.Proofs.YtceipblcdcgljaaGreatDoor
open Go.RowKit
section
section
variable {P : Program} {ops : Array Oper} {md : Region.Mode}
structure SJ (w1 : World) (i0 i1 i2 i3 : Nat) (d0 d1 d2 d3 : Tmp) (te : TypeId) (n1 n2 : Nat) (x1 x2 : List Value) (l : Array Bool) (g : Tmp → Value) (w : World) : Prop where
 below : Below w1.heap.size w1 w
 s0 : l.getD i0 false = true → l.getD i1 false = false → Own w w1.heap.size te 1 (g d0) 0 []
 s1 : l.getD i1 false = true → l.getD i2 false = false → Own w w1.heap.size te 1 (g d1) n1 x1
 s2 : l.getD i2 false = true → Own w w1.heap.size te 1 (g d2) (n1 + n2) (x1 ++ x2)
 s3 : l.getD i3 false = true → g d3 = g d2
 t1 : l.getD i1 false = true → l.getD i0 false = true
 t2 : l.getD i2 false = true → l.getD i1 false = true
 t3 : l.getD i3 false = true → l.getD i2 false = true
variable {w1 : World} {i0 i1 i2 i3 : Nat} {d0 d1 d2 d3 : Tmp} {te : TypeId} {n1 n2 : Nat} {x1 x2 : List Value} {l : Array Bool} {g : Tmp → Value} {w : World} {aF : (Tmp → Value) → Act} {i : Nat} {o : Oper}
theorem SJ.zero (w1 : World) (hb : Below w1.heap.size w1 w) (k : Nat) : SJ w1 i0 i1 i2 i3 d0 d1 d2 d3 te n1 n2 x1 x2 (Array.replicate k false) g w :=
 ⟨hb, (fun h => by rw [no_laid] at h; cases h), (fun h => by rw [no_laid] at h; cases h), (fun h => by rw [no_laid] at h; cases h), (fun h => by rw [no_laid] at h; cases h), (fun h => by rw [no_laid] at h; cases h), (fun h => by rw [no_laid] at h; cases h), (fun h => by rw [no_laid] at h; cases h)⟩
theorem SJ.quiet (h : SJ w1 i0 i1 i2 i3 d0 d1 d2 d3 te n1 n2 x1 x2 l g w) (h0 : i ≠ i0) (h1 : i ≠ i1) (h2 : i ≠ i2) (h3 : i ≠ i3) : SJ w1 i0 i1 i2 i3 d0 d1 d2 d3 te n1 n2 x1 x2 (l.setIfInBounds i true) g w := by
 refine ⟨h.below, ?_, ?_, ?_, ?_, ?_, ?_, ?_⟩ <;> simp only [getD_set_ne false h0, getD_set_ne false h1, getD_set_ne false h2, getD_set_ne false h3]
 ·exact h.s0
 ·exact h.s1
 ·exact h.s2
 ·exact h.s3
 ·exact h.t1
 ·exact h.t2
 ·exact h.t3
end
end
theorem conv_all (P : Program) (src dst e : TypeId) (t : List UInt8) (hs : P.underlying src = some .string) (hd : P.underlying dst = some (.slice e)) (he : P.underlying e = some (.int .u8)) (hm : t.length ≤ maxLen) :
 ∃ (C : World → Nat) (X : World → World), ∀ W, (convert src dst (.string ⟨t.toArray⟩)).run P W = .ok (.slice (some ⟨W.heap.size, 0, none⟩) t.length (C W)) (X W) ∧ t.length ≤ C W ∧
   Rd (X W) (some ⟨W.heap.size, 0, none⟩) (bs t) ∧ Below W.heap.size W (X W) := by
 refine ⟨fun W => grownCap W t.length 0 e, fun W => W.drew.alloc (.cells (bytesRow ⟨t.toArray⟩ (grownCap W t.length 0 e)) e ((bytesRow ⟨t.toArray⟩ (grownCap W t.length 0 e)).size, (bytesRow ⟨t.toArray⟩ (grownCap W t.length 0 e)).size + 1)), fun W => ⟨?_, grownCap_ge W t.length 0 e, ?_, ?_⟩⟩
 ·have := run_bytes_of_string (P := P) W src dst e ⟨t.toArray⟩ hs hd he
  rw [this]
  rfl
 ·obtain ⟨v', w', hr, ho, hg⟩ := run_conv (P := P) W 0 src dst e ⟨t.toArray⟩ hs hd he hm (Nat.zero_le _)
  rw [run_bytes_of_string (P := P) W src dst e ⟨t.toArray⟩ hs hd he] at hr
  injection hr with h1 h2
  subst h1
  subst h2
  exact ho.rd
 ·exact ((Below.refl _ W).drew).alloc (by simp) _
end Go.Proofs.YtceipblcdcgljaaGreatDoor
namespace Go.Proofs.YtceipblcdcgljaaGreatDoor
open Go.RowKit Go.WideShapes Go.ChangeShapes Go.ChangeAt Go.ChangeMaps Go.Deep
section
section
variable {H : Type} {enc : TypeId × Value → H}
theorem okWide_sk {P : Program} {t : TypeId} {fs : Array Field} {W : World} {r : Reach} {b0 : Nat} {v : Value} (ht : P.underlying t = some (.struct fs)) (h : Value.okWide P W r b0 t v) : ∃ cs, v = .agg cs ∧ cs.size = P.cellsOf t := by
 simp only [Value.okWide, ht] at h
 obtain ⟨cs, h1, h2, _⟩ := h
 exact ⟨cs, h1, h2⟩
theorem in_of_wf {z : Int} (h : (Lit.int .i64 z).wf = true) : in10 z := by
 have := bounds_i64 h
 exact ⟨this.1, this.2⟩
set_option maxRecDepth 100000 in
theorem open_ky {r : Reach} {b0 : Nat} {W : World} {v : Value} {d : DataW H} {ps : List MemPlace} (hval : Value.okWide Tryz.prog W r b0 25 v) (h : DataW.Trod enc Tryz.prog W 0 (fun _ => true) true 25 v d ps) :
 ∃ k : Ky, v = kyV k ∧ okK k ∧ k.text.size ≤ maxLen ∧ ∃ y0 y1 y2 y3 y4, d = .agg [y0, y1, y2, y3, y4, .lit (.string k.text.data.toList)] := by
 obtain ⟨cs, rfl, _⟩ := okWide_sk Tryz.underlying25 hval
 obtain ⟨fuel, hf⟩ := h
 obtain ⟨xs, n, _, hx, hlen, hxl, hf⟩ := DataW.trod_struct Tryz.underlying25 hf
 rw [show Tryz.prog.cellsOf 25 = 6 by kernel_rfl] at hlen
 obtain ⟨l⟩ := cs
 simp only [Value.cells] at hlen hf
 match l, hlen with
 | [u0, u1, u2, u3, u4, u5], _ =>
   match xs, hxl with
   | [y0, y1, y2, y3, y4, y5], _ =>
     have ci : Tryz.prog.cellsOf 3 = 1 := by kernel_rfl
     have cs : Tryz.prog.cellsOf 9 = 1 := by kernel_rfl
     have g0 : DataW.trod enc Tryz.prog W 0 (fun _ => true) true n 3 (List.take (Tryz.prog.cellsOf 3) (List.drop 0 [u0, u1, u2, u3, u4, u5])) = some y0 := hf 0 _ rfl
     have g1 : DataW.trod enc Tryz.prog W 0 (fun _ => true) true n 3 (List.take (Tryz.prog.cellsOf 3) (List.drop 1 [u0, u1, u2, u3, u4, u5])) = some y1 := hf 1 _ rfl
     have g2 : DataW.trod enc Tryz.prog W 0 (fun _ => true) true n 3 (List.take (Tryz.prog.cellsOf 3) (List.drop 2 [u0, u1, u2, u3, u4, u5])) = some y2 := hf 2 _ rfl
     have g3 : DataW.trod enc Tryz.prog W 0 (fun _ => true) true n 3 (List.take (Tryz.prog.cellsOf 3) (List.drop 3 [u0, u1, u2, u3, u4, u5])) = some y3 := hf 3 _ rfl
     have g4 : DataW.trod enc Tryz.prog W 0 (fun _ => true) true n 3 (List.take (Tryz.prog.cellsOf 3) (List.drop 4 [u0, u1, u2, u3, u4, u5])) = some y4 := hf 4 _ rfl
     have g5 : DataW.trod enc Tryz.prog W 0 (fun _ => true) true n 9 (List.take (Tryz.prog.cellsOf 9) (List.drop 5 [u0, u1, u2, u3, u4, u5])) = some y5 := hf 5 _ rfl
     rw [ci] at g0 g1 g2 g3 g4
     rw [cs] at g5
     obtain ⟨z0, k0, _, w0⟩ := DataW.trod_int Tryz.underlying3 g0
     obtain ⟨z1, k1, _, w1⟩ := DataW.trod_int Tryz.underlying3 g1
     obtain ⟨z2, k2, _, w2⟩ := DataW.trod_int Tryz.underlying3 g2
     obtain ⟨z3, k3, _, w3⟩ := DataW.trod_int Tryz.underlying3 g3
     obtain ⟨z4, k4, _, w4⟩ := DataW.trod_int Tryz.underlying3 g4
     obtain ⟨s, k5, e5, w5⟩ := DataW.trod_string Tryz.underlying9 g5
     simp at k0 k1 k2 k3 k4 k5
     subst k0 k1 k2 k3 k4 k5
     refine ⟨⟨z0, z1, z2, z3, z4, s⟩, rfl, ⟨in_of_wf w0, in_of_wf w1, in_of_wf w2, in_of_wf w3, in_of_wf w4⟩, w5, y0.1, y1.1, y2.1, y3.1, y4.1, ?_⟩
     simp only [Prod.mk.injEq] at hx
     rw [hx.1, e5]
     rfl
end
end
end Go.Proofs.YtceipblcdcgljaaGreatDoor
