/-
  Layer 10's mathematics: events of keys, and their modifiers. Layer 6's mathematics: modes, set, reset and told, as the document has them. The cells of a block of five, and of six. Layer 9, the landed keys: mathematics: its rows, the codes of all rows one after the other, and what is found among them. A region that draws its order, with an append onto a row of one's own (and a store behind it). Cut out of WirQ: what names no function of any dump. Layer 3's mathematics: a sequence's body, a parameter at a time; its length. Layer 3's mathematics: what a reader of bytes reads, a piece at a time; that it is just the sequence with which the bytes begin. The library's comparison of two lists of numbers, walked.
-/
import Derived.Test.YtdfojkbgdoiglaaDoorG01
import Derived.Test.YtdfojkbgdoiglaaDoorG02
import Derived.Test.YtdfojkbgdoiglaaDoorG03
import Derived.Test.YtdfojkbgdoiglaaDoorG06
import Derived.Test.YtdfojkbgdoiglaaDoorG07
import Derived.Test.YtdfojkbgdoiglaaDoorG08
import Derived.Deep.QuietTactic
import Derived.BigQuiet
namespace Go.Proofs.YtdfojkbgdoiglaaDoor
structure Ky where
 code : Int
 mods : Int
 typ : Int
 shift : Int
 base : Int
 text : ByteArray
def in10 (n : Int) : Prop := -9223372036854775808 ≤ n ∧ n ≤ 9223372036854775807
structure okK (k : Ky) : Prop where
 code : in10 k.code
 mods : in10 k.mods
 typ : in10 k.typ
 shift : in10 k.shift
 base : in10 k.base
def textK (c : Int) : Bool := (lookE c).kind == 1
def cleanP (ks : List Int) : Bool := ks.all fun r => !(decide (r < 32) || decide (127 ≤ r) && decide (r ≤ 159))
def cleanO : Option (List Int) → Bool
 | some ks => decide (ks.length ≤ 8) && cleanP ks
 | none => false
def cleanL (l : List UInt8) : Bool := cleanO (allL l)
def cleanB (s : ByteArray) : Bool := cleanL s.data.toList
def mayK (k : Ky) : Bool := !((lookE k.code).kind == 0 || decide (k.mods < 0) || decide (255 < k.mods) || decide (k.typ < 1) || decide (3 < k.typ)) && ((k.shift == 0 || textK k.shift) && (k.base == 0 || textK k.base) && cleanB k.text)
def hasN (n one : Int) : Bool := max n 0 / one % 2 == 1
def oldN (n : Int) : Int := max n 0 % 8
def paramN (n : Int) : Int := if n < 0 ∨ 255 < n then 1 else n + 1
def shownK (k : Ky) : Int := if hasN k.mods 1 = false then k.code else if k.shift ≠ 0 then k.shift else if 97 ≤ k.code ∧ k.code ≤ 122 then k.code - 32 else k.code
theorem may_parts (k : Ky) : mayK k = true ↔ ((lookE k.code).kind ≠ 0 ∧ 0 ≤ k.mods ∧ k.mods ≤ 255 ∧ 1 ≤ k.typ ∧ k.typ ≤ 3) ∧ (k.shift = 0 ∨ textK k.shift = true) ∧ (k.base = 0 ∨ textK k.base = true) ∧ cleanB k.text = true := by
 unfold mayK
 simp only [Bool.and_eq_true, Bool.not_eq_true', Bool.or_eq_false_iff, Bool.or_eq_true, beq_iff_eq, beq_eq_false_iff_ne, decide_eq_false_iff_not, and_assoc, ne_eq]
 constructor <;> (rintro ⟨h1, h2, h3, h4, h5, h6, h7, h8⟩; exact ⟨h1, by omega, by omega, by omega, by omega, h6, h7, h8⟩)
end Go.Proofs.YtdfojkbgdoiglaaDoor
namespace Go.Proofs.YtdfojkbgdoiglaaDoor
end Go.Proofs.YtdfojkbgdoiglaaDoor
namespace Go.Proofs.YtdfojkbgdoiglaaDoor
open Go.RowKit
theorem Blk.cells5 {w : World} {g : Nat} {t : TypeId} {a b c d e : Value} (h : Blk w g t #[a, b, c, d, e]) :
 w.cell? ⟨g, 0, none⟩ = some a ∧ w.cell? ⟨g, 1, none⟩ = some b ∧ w.cell? ⟨g, 2, none⟩ = some c ∧ w.cell? ⟨g, 3, none⟩ = some d ∧ w.cell? ⟨g, 4, none⟩ = some e :=
 ⟨h.cell 0, h.cell 1, h.cell 2, h.cell 3, h.cell 4⟩
theorem Blk.cells6 {w : World} {g : Nat} {t : TypeId} {a b c d e f : Value} (h : Blk w g t #[a, b, c, d, e, f]) :
 w.cell? ⟨g, 0, none⟩ = some a ∧ w.cell? ⟨g, 1, none⟩ = some b ∧ w.cell? ⟨g, 2, none⟩ = some c ∧ w.cell? ⟨g, 3, none⟩ = some d ∧ w.cell? ⟨g, 4, none⟩ = some e ∧ w.cell? ⟨g, 5, none⟩ = some f :=
 ⟨h.cell 0, h.cell 1, h.cell 2, h.cell 3, h.cell 4, h.cell 5⟩
end Go.Proofs.YtdfojkbgdoiglaaDoor
namespace Go.Proofs.YtdfojkbgdoiglaaDoor
structure Ro where
 first : Int
 last : Int
 kind : Int
 finals : List UInt8
 nums : List Int
 chars : List UInt8
 keys : Bool
deriving DecidableEq
def roL : List Ro := [
 ⟨9, 9, 2, [], [], [], false⟩, ⟨13, 13, 2, [], [], [], false⟩, ⟨27, 27, 2, [], [], [], false⟩, ⟨127, 127, 2, [], [], [], false⟩,
 ⟨57350, 57353, 3, [68, 67, 65, 66], [], [], false⟩, ⟨57356, 57357, 3, [72, 70], [], [], false⟩, ⟨57364, 57367, 3, [80, 81, 82, 83], [], [], false⟩,
 ⟨57348, 57349, 4, [], [2, 3], [], false⟩, ⟨57354, 57355, 4, [], [5, 6], [], false⟩, ⟨57368, 57375, 4, [], [15, 17, 18, 19, 20, 21, 23, 24], [], false⟩, ⟨57363, 57363, 4, [], [29], [], false⟩,
 ⟨57399, 57408, 5, [112, 113, 114, 115, 116, 117, 118, 119, 120, 121], [], [48, 49, 50, 51, 52, 53, 54, 55, 56, 57], true⟩,
 ⟨57409, 57416, 5, [110, 111, 106, 109, 107, 77, 88, 108], [], [46, 47, 42, 45, 43, 13, 61, 44], true⟩,
 ⟨57417, 57420, 3, [68, 67, 65, 66], [], [], true⟩, ⟨57423, 57424, 3, [72, 70], [], [], true⟩, ⟨57427, 57427, 3, [69], [], [], true⟩,
 ⟨57421, 57422, 4, [], [5, 6], [], true⟩, ⟨57425, 57426, 4, [], [2, 3], [], true⟩,
 ⟨57358, 57362, 6, [], [], [], false⟩, ⟨57376, 57398, 6, [], [], [], false⟩, ⟨57428, 57440, 6, [], [], [], false⟩, ⟨57441, 57454, 7, [], [], [], false⟩]
def byL (l : List UInt8) (a : Nat) : Int := ((l.getD a 0).toNat : Int)
def entK (r : Ro) (a : Nat) : En := ⟨r.kind, byL r.finals a, r.nums.getD a 0, byL r.chars a, r.keys⟩
def inRo (c : Int) (r : Ro) : Bool := decide (r.first ≤ c) && decide (c ≤ r.last)
theorem inRo_iff (c : Int) (r : Ro) : inRo c r = true ↔ r.first ≤ c ∧ c ≤ r.last := by simp [inRo]
theorem inRo_no {c : Int} {r : Ro} (h : ¬ (r.first ≤ c ∧ c ≤ r.last)) : inRo c r = false := by
 cases e : inRo c r with
 | false => rfl
 | true => exact absurd ((inRo_iff c r).1 e) h
def txK (c : Int) : Bool := !(decide (c < 32) || decide (127 ≤ c) && decide (c ≤ 159)) && !(decide (57344 ≤ c) && decide (c ≤ 63743)) && isPtK c
def lookP (c : Int) : En := match roL.find? (inRo c) with
 | some r => entK r (c - r.first).toNat
 | none => if txK c then ⟨1, 0, 0, 0, false⟩ else ⟨0, 0, 0, 0, false⟩
theorem ro_all : ∀ r ∈ roL, (r.first = r.last ∧ (r.first = 9 ∨ r.first = 13 ∨ r.first = 27 ∨ r.first = 127)) ∨ (57344 ≤ r.first ∧ r.last < 57455) := by decide +kernel
theorem ro_bd : ∀ r ∈ roL, (0 ≤ r.first ∧ r.first ≤ r.last ∧ r.last ≤ 60000) ∧ (r.finals.length ≤ 100 ∧ r.nums.length ≤ 100 ∧ r.chars.length ≤ 100) := by decide +kernel
theorem look_in : ∀ k : Fin 111, lookP (57344 + k.1) = lookE (57344 + k.1) := by decide +kernel
theorem look_nil {c : Int} (h : c < 57344 ∨ 57455 ≤ c) (h9 : c ≠ 9) (h13 : c ≠ 13) (h27 : c ≠ 27) (h127 : c ≠ 127) : roL.find? (inRo c) = none := by
 rw [List.find?_eq_none]
 intro r hr hi
 have h1 := (inRo_iff c r).1 hi
 rcases ro_all r hr with ⟨e, e2⟩ | ⟨e, e2⟩ <;> omega
theorem txK_rest {c : Int} (h : c < 57344 ∨ 57455 ≤ c) (h9 : c ≠ 9) (h13 : c ≠ 13) (h27 : c ≠ 27) (h127 : c ≠ 127) : restN c = if txK c then 1 else 0 := by
 unfold restN txK
 rw [if_neg (by omega), if_neg (by omega), if_neg (by omega)]
 cases e : isPtK c with
 | false => simp
 | true =>
   by_cases h1 : c < 32 ∨ 127 ≤ c ∧ c ≤ 159 ∨ 57344 ≤ c ∧ c ≤ 63743
   ·rw [if_pos (.inr h1), if_neg]
    simp
    omega
   ·rw [if_neg (by simp; omega), if_pos]
    simp
    omega
theorem lookP_eq (c : Int) : lookP c = lookE c := by
 by_cases h : c < 57344 ∨ 57455 ≤ c
 ·by_cases h9 : c = 9
  ·subst h9; decide +kernel
  by_cases h13 : c = 13
  ·subst h13; decide +kernel
  by_cases h27 : c = 27
  ·subst h27; decide +kernel
  by_cases h127 : c = 127
  ·subst h127; decide +kernel
  unfold lookP
  rw [look_nil h h9 h13 h27 h127, look_out h, txK_rest h h9 h13 h27 h127]
  cases txK c <;> rfl
 ·obtain ⟨k, rfl⟩ : ∃ k : Fin 111, c = 57344 + k.1 := ⟨⟨(c - 57344).toNat, by omega⟩, by simp; omega⟩
  exact look_in k
end Go.Proofs.YtdfojkbgdoiglaaDoor
namespace Go.Proofs.YtdfojkbgdoiglaaDoor
open Go.RowKit
section
variable {P : Program} {ops : Array Oper} {md : Region.Mode} {w1 : World} {K : List Fact} {ix iz : Nat} {R1 : (Tmp → Value) → World → World → Prop} {aF : (Tmp → Value) → Act} {i : Nat} {o : Oper}
end
end Go.Proofs.YtdfojkbgdoiglaaDoor
namespace Go.Proofs.YtdfojkbgdoiglaaDoor
open Go.RowKit
def sqV (s : Sq) (A : Option Addr) (c : Nat) : Value := .agg #[.int .i64 s.kind, .int .u8 (s.priv.toNat : Int), .slice A s.params.length c, .string ⟨s.inter.toArray⟩, .int .u8 (s.final.toNat : Int), .string ⟨s.data.toArray⟩]
theorem last_q {s : Sq} {q : Bool} (hq : lastOk s = q) : (s.kind = 1 ∨ s.kind = 2 ∨ s.kind = 3 → q = (decide (64 ≤ s.final.toNat) && decide (s.final.toNat ≤ 126))) ∧
 (s.kind = 5 → (s.final.toNat < 48 ∨ 126 < s.final.toNat → q = false) ∧ (48 ≤ s.final.toNat → s.final.toNat ≤ 126 → (s.inter ≠ [] → q = true) ∧
   (s.inter = [] → q = !([79, 80, 88, 91, 93, 92, 94, 95] : List Nat).contains s.final.toNat))) ∧
 (s.kind = 4 → q = decide (s.final.toNat = 0)) ∧ (¬ (s.kind = 1 ∨ s.kind = 2 ∨ s.kind = 3 ∨ s.kind = 4 ∨ s.kind = 5) → q = false) := by
 subst hq
 refine ⟨fun h => ?_, fun h => ⟨fun h1 => ?_, fun h1 h2 => ⟨fun h3 => ?_, fun h3 => ?_⟩⟩, fun h => ?_, fun h => ?_⟩
 ·unfold lastOk; rw [if_pos h]; rfl
 ·unfold lastOk; rw [if_neg (by omega), if_pos h, (btw_no 48 126 _).2 (by omega), Bool.false_and]
 ·unfold lastOk; rw [if_neg (by omega), if_pos h, (btw_iff 48 126 _).2 ⟨h1, h2⟩, decide_eq_true h3]; rfl
 ·unfold lastOk; rw [if_neg (by omega), if_pos h, (btw_iff 48 126 _).2 ⟨h1, h2⟩, decide_eq_false (by simpa using h3), Bool.false_or, Bool.true_and]
  congr 1
  rw [Bool.eq_iff_iff]
  simp [← UInt8.toNat_inj]
 ·unfold lastOk; rw [if_neg (by omega), if_neg (by omega), decide_eq_true h, Bool.true_and]
  rw [Bool.eq_iff_iff]
  simp [← UInt8.toNat_inj]
 ·unfold lastOk; rw [if_neg (by omega), if_neg (by omega), decide_eq_false (by omega)]; rfl
end Go.Proofs.YtdfojkbgdoiglaaDoor
namespace Go.Proofs.YtdfojkbgdoiglaaDoor
open Go.RowKit
theorem partL_len : ∀ (p : List Int), partOk p → (partL p).length ≤ 22 * p.length := by
 intro p ho
 match p with
 | [] => simp [partL]
 | [n] =>
   have := textL_length n (by have := ho n (List.mem_cons_self ..); omega)
   simp only [partL, List.length_cons, List.length_nil]; omega
 | n :: m :: p =>
   have h1 := textL_length n (by have := ho n (List.mem_cons_self ..); omega)
   have h2 := partL_len (m :: p) (fun x hx => ho x (List.mem_cons_of_mem _ hx))
   show (textL n ++ (58 :: partL (m :: p))).length ≤ _
   rw [List.length_append, List.length_cons]
   simp only [List.length_cons] at *
   omega
theorem parL_len : ∀ (l : List (List Int)), (∀ p ∈ l, p.length ≤ 8 ∧ partOk p) → (parL l).length ≤ 177 * l.length := by
 intro l ho
 match l with
 | [] => simp [parL]
 | [p] =>
   have h := ho p (List.mem_cons_self ..)
   have := partL_len p h.2
   simp only [parL, List.length_cons, List.length_nil]; omega
 | p :: q :: l =>
   have h := ho p (List.mem_cons_self ..)
   have h1 := partL_len p h.2
   have h2 := parL_len (q :: l) (fun x hx => ho x (List.mem_cons_of_mem _ hx))
   show (partL p ++ (59 :: parL (q :: l))).length ≤ _
   rw [List.length_append, List.length_cons]
   simp only [List.length_cons] at *
   omega
theorem parOk_lens {l : List (List Int)} (h : parOk l = true) : l.length ≤ 16 ∧ ∀ p ∈ l, p.length ≤ 8 ∧ partOk p := by
 simp only [parOk, Bool.and_eq_true, decide_eq_true_eq, List.all_eq_true] at h
 refine ⟨h.1.1, fun p hp => ?_⟩
 obtain ⟨⟨_, h1⟩, h2⟩ := h.2 p hp
 exact ⟨h1, fun n hn => h2 n hn⟩
end Go.Proofs.YtdfojkbgdoiglaaDoor
namespace Go.Proofs.YtdfojkbgdoiglaaDoor
end Go.Proofs.YtdfojkbgdoiglaaDoor
namespace Go.Proofs.YtdfojkbgdoiglaaDoor
open Go.RowKit
set_option maxRecDepth 100000 in
set_option maxHeartbeats 4000000 in
theorem eq_any (A B : Option Addr) (c d : Nat) (a b : List Int) (w : World) (hl : a.length ≤ 4294967296) (hl2 : b.length ≤ 4294967296) (hra : Rd w A (is_ a)) (hrb : Rd w B (is_ b)) :
 Calls Tryd.prog 52 #[.slice A a.length c, .slice B b.length d] w fun e w' => e = .returned (.bool (decide (a = b))) ∧ Below w.heap.size w w' := by
 by_cases hlen : a.length = b.length
 ·go_enter Tryd.func52, Tryd.ntmps52
  go_wp2
  go_loopw [13] (fun i wr => ∃ k : Nat, k ≤ a.length ∧ i = .int .i64 k ∧ a.take k = b.take k ∧ Below w.heap.size w wr) (fun i _ => a.length - (intOf i).toNat)
  case atStart => exact ⟨0, Nat.zero_le _, rfl, rfl, Below.refl _ _⟩
  case round =>
   obtain ⟨k, hk, rfl, hab, hbw⟩ := hrel
   have HAB := Lib.hid hab
   clear hab
   by_cases hlt : k < a.length
   ·have hltb : k < b.length := by omega
    obtain ⟨p, o, rfl, hp, hc⟩ := hra.int_at (by omega)
    obtain ⟨q, u, rfl, hq, hd⟩ := hrb.int_at (by omega)
    have hck := (hbw.cell (p := ⟨p, o + k, none⟩) hp).trans (hc k hlt)
    have hdk := (hbw.cell (p := ⟨q, u + k, none⟩) hq).trans (hd k hltb)
    clear hc hd
    have g0 : (0 : Int) ≤ (k : Int) := by omega
    have g1 : (k : Int) < (a.length : Int) := by omega
    have g2 : (k : Int) < (b.length : Int) := by omega
    by_cases he : a[k]'hlt = b[k]'hltb
    ·have H := Lib.hid (show a.take (k + 1) = b.take (k + 1) by rw [List.take_succ_eq_append_getElem hlt, List.take_succ_eq_append_getElem hltb, HAB.out, he])
     obtain ⟨x, hx⟩ : ∃ x, a[k]'hlt = x := ⟨_, rfl⟩
     obtain ⟨y, hy⟩ : ∃ y, b[k]'hltb = y := ⟨_, rfl⟩
     rw [hx] at hck he
     rw [hy] at hdk he
     subst he
     clear hx hy
     go_wp2
     go_quiet (fail)
     go_wp2
     go_roundw
     case rel => exact ⟨k + 1, by omega, by go_num, H.out, below_drewN hbw _⟩
     case measure => simp [intOf]; omega
    ·have E := Lib.hid (show decide (a = b) = false from decide_eq_false (fun e => he (by subst e; rfl)))
     have t1 : (a[k]'hlt == b[k]'hltb) = false := beq_false_of_ne he
     have t2 : (a[k]'hlt != b[k]'hltb) = true := by simp [bne, t1]
     clear he
     go_wp2
     go_quiet (fail)
     go_wp2
     go_ret
     exact ⟨ret_b E.out.symm, below_drewN hbw _⟩
   ·have E := Lib.hid (show decide (a = b) = true from decide_eq_true (by
     have h1 := HAB.out
     rw [List.take_of_length_le (by omega), List.take_of_length_le (by omega)] at h1
     exact h1))
    go_wp2
    go_ret
    exact ⟨ret_b E.out.symm, hbw⟩
 ·have E := Lib.hid (show decide (a = b) = false from decide_eq_false (fun e => hlen (by rw [e])))
  have t1 : ((a.length : Int) == (b.length : Int)) = false := beq_false_of_ne (by omega)
  have t2 : ((a.length : Int) != (b.length : Int)) = true := by simp [bne, t1]
  clear hlen
  go_enter Tryd.func52, Tryd.ntmps52
  go_wp2
  go_ret
  exact ⟨ret_b E.out.symm, Below.refl _ _⟩
theorem eq_at (A B : Option Addr) (n m c d : Nat) (a b : List Int) (q : Bool) (w : World) (hn : a.length = n) (hm : b.length = m) (hq : decide (a = b) = q) (hl : n ≤ 4294967296) (hl2 : m ≤ 4294967296) (hra : Rd w A (is_ a)) (hrb : Rd w B (is_ b)) :
 Calls Tryd.prog 52 #[.slice A n c, .slice B m d] w fun e w' => e = .returned (.bool q) ∧ Below w.heap.size w w' := by
 subst hn hm hq
 exact eq_any A B c d a b w hl hl2 hra hrb
end Go.Proofs.YtdfojkbgdoiglaaDoor
