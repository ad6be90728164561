/-
  Cut out of NumH: what names no function of any dump. Cut out of WirQ: what names no function of any dump. Layer 19's words: a screen in memory; a fact; replies with their rows.
  Cut out of RepW. The library's comparison of two lists of numbers, walked. Layer 3's mathematics: a sequence's body, a parameter at a time; its length. Cut out of WpT: what names no function of any dump.
-/
import Derived.Test.YtkkjahhilcjpgaaDoorG02
import Derived.Test.YtkkjahhilcjpgaaDoorG03
import Derived.Test.YtkkjahhilcjpgaaDoorG13
import Derived.Test.YtkkjahhilcjpgaaDoorG14
import Derived.Deep.QuietTactic
import Derived.BigQuiet
import Derived.Lib.Join
namespace Go.Proofs.YtkkjahhilcjpgaaDoor
open Go.RowKit
def hexD (n : Nat) : UInt8 := if n < 10 then UInt8.ofNat (48 + n) else UInt8.ofNat (55 + n)
def hexL (l : List UInt8) : List UInt8 := l.flatMap fun c => [hexD (c.toNat / 16), hexD (c.toNat % 16)]
theorem hexL_length (l : List UInt8) : (hexL l).length = 2 * l.length := by
 induction l with
 | nil => rfl
 | cons c r ih => simp only [hexL, List.flatMap_cons, List.length_append, List.length_cons, List.length_nil] at ih ⊢; omega
theorem hexL_snoc (l : List UInt8) (c : UInt8) : hexL (l ++ [c]) = hexL l ++ [hexD (c.toNat / 16), hexD (c.toNat % 16)] := by simp [hexL]
def sqV (s : Sq) (A : Option Addr) (c : Nat) : Value := .agg #[.int .i64 s.kind, .int .u8 (s.priv.toNat : Int), .slice A s.params.length c, .string ⟨s.inter.toArray⟩, .int .u8 (s.final.toNat : Int), .string ⟨s.data.toArray⟩]
theorem last_q {s : Sq} {q : Bool} (hq : lastOk s = q) : (s.kind = 1 ∨ s.kind = 2 ∨ s.kind = 3 → q = (decide (64 ≤ s.final.toNat) && decide (s.final.toNat ≤ 126))) ∧
 (s.kind = 5 → (s.final.toNat < 48 ∨ 126 < s.final.toNat → q = false) ∧ (48 ≤ s.final.toNat → s.final.toNat ≤ 126 → (s.inter ≠ [] → q = true) ∧
   (s.inter = [] → q = !([79, 80, 88, 91, 93, 92, 94, 95] : List Nat).contains s.final.toNat))) ∧
 (s.kind = 4 → q = decide (s.final.toNat = 0)) ∧ (¬ (s.kind = 1 ∨ s.kind = 2 ∨ s.kind = 3 ∨ s.kind = 4 ∨ s.kind = 5) → q = false) := by
 subst hq
 refine ⟨fun h => ?_, fun h => ⟨fun h1 => ?_, fun h1 h2 => ⟨fun h3 => ?_, fun h3 => ?_⟩⟩, fun h => ?_, fun h => ?_⟩
 ·unfold lastOk; rw [if_pos h]; rfl
 ·unfold lastOk; rw [if_neg (by omega), if_pos h, (btw_no 48 126 _).2 (by omega), Bool.false_and]
 ·unfold lastOk; rw [if_neg (by omega), if_pos h, (btw_iff 48 126 _).2 ⟨h1, h2⟩, decide_eq_true h3]; rfl
 ·unfold lastOk; rw [if_neg (by omega), if_pos h, (btw_iff 48 126 _).2 ⟨h1, h2⟩, decide_eq_false (by simpa using h3), Bool.false_or, Bool.true_and]
  congr 1
  rw [Bool.eq_iff_iff]
  simp [← UInt8.toNat_inj]
 ·unfold lastOk; rw [if_neg (by omega), if_neg (by omega), decide_eq_true h, Bool.true_and]
  rw [Bool.eq_iff_iff]
  simp [← UInt8.toNat_inj]
 ·unfold lastOk; rw [if_neg (by omega), if_neg (by omega), decide_eq_false (by omega)]; rfl
def RepE (s : Sq) (w : World) (e : Ending) (w' : World) : Prop := ∃ A c, e = .returned (sqV s A c) ∧ RdP w' A s.params ∧ Below w.heap.size w w'
set_option maxRecDepth 100000 in
set_option maxHeartbeats 4000000 in
theorem eq_any (A B : Option Addr) (c d : Nat) (a b : List Int) (w : World) (hl : a.length ≤ 4294967296) (hl2 : b.length ≤ 4294967296) (hra : Rd w A (is_ a)) (hrb : Rd w B (is_ b)) :
 Calls Tryd.prog 46 #[.slice A a.length c, .slice B b.length d] w fun e w' => e = .returned (.bool (decide (a = b))) ∧ Below w.heap.size w w' := by
 by_cases hlen : a.length = b.length
 ·go_enter Tryd.func46, Tryd.ntmps46
  go_wp2
  go_loopw [13] (fun i wr => ∃ k : Nat, k ≤ a.length ∧ i = .int .i64 k ∧ a.take k = b.take k ∧ Below w.heap.size w wr) (fun i _ => a.length - (intOf i).toNat)
  case atStart => exact ⟨0, Nat.zero_le _, rfl, rfl, Below.refl _ _⟩
  case round =>
   obtain ⟨k, hk, rfl, hab, hbw⟩ := hrel
   have HAB := Lib.hid hab
   clear hab
   by_cases hlt : k < a.length
   ·have hltb : k < b.length := by omega
    obtain ⟨p, o, rfl, hp, hc⟩ := hra.int_at (by omega)
    obtain ⟨q, u, rfl, hq, hd⟩ := hrb.int_at (by omega)
    have hck := (hbw.cell (p := ⟨p, o + k, none⟩) hp).trans (hc k hlt)
    have hdk := (hbw.cell (p := ⟨q, u + k, none⟩) hq).trans (hd k hltb)
    clear hc hd
    have g0 : (0 : Int) ≤ (k : Int) := by omega
    have g1 : (k : Int) < (a.length : Int) := by omega
    have g2 : (k : Int) < (b.length : Int) := by omega
    by_cases he : a[k]'hlt = b[k]'hltb
    ·have H := Lib.hid (show a.take (k + 1) = b.take (k + 1) by rw [List.take_succ_eq_append_getElem hlt, List.take_succ_eq_append_getElem hltb, HAB.out, he])
     obtain ⟨x, hx⟩ : ∃ x, a[k]'hlt = x := ⟨_, rfl⟩
     obtain ⟨y, hy⟩ : ∃ y, b[k]'hltb = y := ⟨_, rfl⟩
     rw [hx] at hck he
     rw [hy] at hdk he
     subst he
     clear hx hy
     go_wp2
     go_quiet (fail)
     go_wp2
     go_roundw
     case rel => exact ⟨k + 1, by omega, by go_num, H.out, below_drewN hbw _⟩
     case measure => simp [intOf]; omega
    ·have E := Lib.hid (show decide (a = b) = false from decide_eq_false (fun e => he (by subst e; rfl)))
     have t1 : (a[k]'hlt == b[k]'hltb) = false := beq_false_of_ne he
     have t2 : (a[k]'hlt != b[k]'hltb) = true := by simp [bne, t1]
     clear he
     go_wp2
     go_quiet (fail)
     go_wp2
     go_ret
     exact ⟨ret_b E.out.symm, below_drewN hbw _⟩
   ·have E := Lib.hid (show decide (a = b) = true from decide_eq_true (by
     have h1 := HAB.out
     rw [List.take_of_length_le (by omega), List.take_of_length_le (by omega)] at h1
     exact h1))
    go_wp2
    go_ret
    exact ⟨ret_b E.out.symm, hbw⟩
 ·have E := Lib.hid (show decide (a = b) = false from decide_eq_false (fun e => hlen (by rw [e])))
  have t1 : ((a.length : Int) == (b.length : Int)) = false := beq_false_of_ne (by omega)
  have t2 : ((a.length : Int) != (b.length : Int)) = true := by simp [bne, t1]
  clear hlen
  go_enter Tryd.func46, Tryd.ntmps46
  go_wp2
  go_ret
  exact ⟨ret_b E.out.symm, Below.refl _ _⟩
theorem eq_at (A B : Option Addr) (n m c d : Nat) (a b : List Int) (q : Bool) (w : World) (hn : a.length = n) (hm : b.length = m) (hq : decide (a = b) = q) (hl : n ≤ 4294967296) (hl2 : m ≤ 4294967296) (hra : Rd w A (is_ a)) (hrb : Rd w B (is_ b)) :
 Calls Tryd.prog 46 #[.slice A n c, .slice B m d] w fun e w' => e = .returned (.bool q) ∧ Below w.heap.size w w' := by
 subst hn hm hq
 exact eq_any A B c d a b w hl hl2 hra hrb
def ss_ (l : List (List UInt8)) : List Value := l.map fun t => .string ⟨t.toArray⟩
end Go.Proofs.YtkkjahhilcjpgaaDoor
