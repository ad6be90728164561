/-
  Layer 2's mathematics: how the program reckons the code point with which bytes begin. Layer 3, walked: the program's small functions: formOf, char, within, isNone.
-/
import Derived.Test.YtgaoijinchakoaaDoorG06
import Derived.Test.YtgaoijinchakoaaDoorG07
import Derived.Test.YtgaoijinchakoaaDoorG08
import Derived.Test.YtgaoijinchakoaaDoorG21
namespace Go.Proofs.YtgaoijinchakoaaDoor
structure Fst (a : UInt8) (j : Nat) (lead : Int) : Prop where
 short : ∀ l : List UInt8, l.length < j → takeL (a :: l) = (0, 0)
 none_ : ∀ l : List UInt8, j ≤ l.length → accL ((a.toNat : Int) - lead) (l.take j) = none → takeL (a :: l) = (0, 0)
 no : ∀ (l : List UInt8) (x : Int), j ≤ l.length → accL ((a.toNat : Int) - lead) (l.take j) = some x → ¬ (isPt x = true ∧ ixP x 4 = j) → takeL (a :: l) = (0, 0)
 yes : ∀ (l : List UInt8) (x : Int), j ≤ l.length → accL ((a.toNat : Int) - lead) (l.take j) = some x → isPt x = true → ixP x 4 = j → takeL (a :: l) = (x, j + 1)
theorem ix0 (x : Int) : ixP x 4 = 0 ↔ x < 128 := by unfold ixP; (repeat' split) <;> omega
theorem ix1 (x : Int) : ixP x 4 = 1 ↔ 128 ≤ x ∧ x < 2048 := by unfold ixP; (repeat' split) <;> omega
theorem ix2 (x : Int) : ixP x 4 = 2 ↔ 2048 ≤ x ∧ x < 65536 := by unfold ixP; (repeat' split) <;> omega
theorem ix3 (x : Int) : ixP x 4 = 3 ↔ 65536 ≤ x := by unfold ixP; (repeat' split) <;> omega
theorem fst_split (a : UInt8) : ∃ (j : Nat) (least lead : Int), j ≤ 3 ∧ ixF a.toNat 4 = j ∧ szA (ixF a.toNat 4) = #[.int .i64 ((j : Int) + 1), .int .i64 least, .int .i64 lead] ∧ 0 ≤ lead ∧ lead ≤ a.toNat ∧ Fst a j lead := by
 have ha := a.toNat_lt
 by_cases a1 : a.toNat < 192
 ·have e : ixF a.toNat 4 = 0 := by unfold ixF; (repeat' split) <;> omega
  refine ⟨0, 0, 0, by omega, e, by rw [e]; rfl, by omega, by omega, ⟨fun l h => absurd h (by omega), fun l _ h => ?_, fun l x _ h hn => ?_, fun l x _ h hp hi => ?_⟩⟩
  ·cases h
  ·obtain rfl : (a.toNat : Int) = x := by have := Option.some.inj h; omega
   simp only [takeL]
   rw [if_pos a1]
   by_cases a2 : a.toNat < 128
   ·exact absurd ⟨(isPt_iff _).2 (by omega), (ix0 _).2 (by omega)⟩ hn
   ·rw [if_neg a2]
  ·obtain rfl : (a.toNat : Int) = x := by have := Option.some.inj h; omega
   have := (ix0 _).1 hi
   simp only [takeL]
   rw [if_pos a1, if_pos (by omega)]
   rfl
 ·by_cases a2 : a.toNat < 224
  ·have e : ixF a.toNat 4 = 1 := by unfold ixF; (repeat' split) <;> omega
   refine ⟨1, 128, 192, by omega, e, by rw [e]; rfl, by omega, by omega, ⟨fun l h => ?_, fun l hl h => ?_, fun l x hl h hn => ?_, fun l x hl h hp hi => ?_⟩⟩
   ·match l, h with
    | [], _ => simp only [takeL]; rw [if_neg a1, if_pos a2]
   ·match l, hl with
    | b :: l, _ =>
      simp only [takeL]; rw [if_neg a1, if_pos a2]
      by_cases f1 : fol b = true
      ·simp [accL, f1] at h
      ·rw [if_neg (fun hh => f1 hh.1)]
   ·match l, hl with
    | b :: l, _ =>
      simp only [takeL]; rw [if_neg a1, if_pos a2]
      by_cases f1 : fol b = true
      ·have hx : num2 a b = x := by simpa [accL, f1, num2] using h
       have e0 : num2 a b = ((a.toNat : Int) - 192) * 64 + ((b.toNat : Int) - 128) := rfl
       have := (fol_iff b).1 f1
       rw [hx]
       rw [if_neg (fun hh => hn ⟨hh.2.1, (ix1 x).2 (by omega)⟩)]
      ·rw [if_neg (fun hh => f1 hh.1)]
   ·match l, hl with
    | b :: l, _ =>
      simp only [takeL]; rw [if_neg a1, if_pos a2]
      by_cases f1 : fol b = true
      ·have hx : num2 a b = x := by simpa [accL, f1, num2] using h
       rw [hx, if_pos ⟨f1, hp, ((ix1 x).1 hi).1⟩]
      ·simp [accL, f1] at h
  ·by_cases a3 : a.toNat < 240
   ·have e : ixF a.toNat 4 = 2 := by unfold ixF; (repeat' split) <;> omega
    refine ⟨2, 2048, 224, by omega, e, by rw [e]; rfl, by omega, by omega, ⟨fun l h => ?_, fun l hl h => ?_, fun l x hl h hn => ?_, fun l x hl h hp hi => ?_⟩⟩
    ·match l, h with
     | [], _ => simp only [takeL]; rw [if_neg a1, if_neg a2, if_pos a3]
     | [_], _ => simp only [takeL]; rw [if_neg a1, if_neg a2, if_pos a3]
    ·match l, hl with
     | b :: c :: l, _ =>
       simp only [takeL]; rw [if_neg a1, if_neg a2, if_pos a3]
       by_cases f1 : fol b = true
       ·by_cases f2 : fol c = true
        ·simp [accL, f1, f2] at h
        ·rw [if_neg (fun hh => f2 hh.2.1)]
       ·rw [if_neg (fun hh => f1 hh.1)]
    ·match l, hl with
     | b :: c :: l, _ =>
       simp only [takeL]; rw [if_neg a1, if_neg a2, if_pos a3]
       by_cases f1 : fol b = true
       ·by_cases f2 : fol c = true
        ·have hx : num3 a b c = x := by simpa [accL, f1, f2, num3] using h
         have e0 : num3 a b c = (((a.toNat : Int) - 224) * 64 + ((b.toNat : Int) - 128)) * 64 + ((c.toNat : Int) - 128) := rfl
         have := (fol_iff b).1 f1
         have := (fol_iff c).1 f2
         rw [hx]
         rw [if_neg (fun hh => hn ⟨hh.2.2.1, (ix2 x).2 (by omega)⟩)]
        ·rw [if_neg (fun hh => f2 hh.2.1)]
       ·rw [if_neg (fun hh => f1 hh.1)]
    ·match l, hl with
     | b :: c :: l, _ =>
       simp only [takeL]; rw [if_neg a1, if_neg a2, if_pos a3]
       by_cases f1 : fol b = true
       ·by_cases f2 : fol c = true
        ·have hx : num3 a b c = x := by simpa [accL, f1, f2, num3] using h
         rw [hx, if_pos ⟨f1, f2, hp, ((ix2 x).1 hi).1⟩]
        ·simp [accL, f1, f2] at h
       ·simp [accL, f1] at h
   ·have e : ixF a.toNat 4 = 3 := by unfold ixF; (repeat' split) <;> omega
    refine ⟨3, 65536, 240, by omega, e, by rw [e]; rfl, by omega, by omega, ⟨fun l h => ?_, fun l hl h => ?_, fun l x hl h hn => ?_, fun l x hl h hp hi => ?_⟩⟩
    ·match l, h with
     | [], _ => simp only [takeL]; rw [if_neg a1, if_neg a2, if_neg a3]
     | [_], _ => simp only [takeL]; rw [if_neg a1, if_neg a2, if_neg a3]
     | [_, _], _ => simp only [takeL]; rw [if_neg a1, if_neg a2, if_neg a3]
    ·match l, hl with
     | b :: c :: d :: l, _ =>
       simp only [takeL]; rw [if_neg a1, if_neg a2, if_neg a3]
       by_cases f1 : fol b = true
       ·by_cases f2 : fol c = true
        ·by_cases f3 : fol d = true
         ·simp [accL, f1, f2, f3] at h
         ·rw [if_neg (fun hh => f3 hh.2.2.1)]
        ·rw [if_neg (fun hh => f2 hh.2.1)]
       ·rw [if_neg (fun hh => f1 hh.1)]
    ·match l, hl with
     | b :: c :: d :: l, _ =>
       simp only [takeL]; rw [if_neg a1, if_neg a2, if_neg a3]
       by_cases f1 : fol b = true
       ·by_cases f2 : fol c = true
        ·by_cases f3 : fol d = true
         ·have hx : num4 a b c d = x := by simpa [accL, f1, f2, f3, num4] using h
          rw [hx]
          rw [if_neg (fun hh => hn ⟨hh.2.2.2.1, (ix3 x).2 hh.2.2.2.2⟩)]
         ·rw [if_neg (fun hh => f3 hh.2.2.1)]
        ·rw [if_neg (fun hh => f2 hh.2.1)]
       ·rw [if_neg (fun hh => f1 hh.1)]
    ·match l, hl with
     | b :: c :: d :: l, _ =>
       simp only [takeL]; rw [if_neg a1, if_neg a2, if_neg a3]
       by_cases f1 : fol b = true
       ·by_cases f2 : fol c = true
        ·by_cases f3 : fol d = true
         ·have hx : num4 a b c d = x := by simpa [accL, f1, f2, f3, num4] using h
          rw [hx, if_pos ⟨f1, f2, f3, hp, ((ix3 x).1 hi)⟩]
         ·simp [accL, f1, f2, f3] at h
        ·simp [accL, f1, f2] at h
       ·simp [accL, f1] at h
end Go.Proofs.YtgaoijinchakoaaDoor
namespace Go.Proofs.YtgaoijinchakoaaDoor
open Go.RowKit
def fmV (f : Fm) : Value := .agg #[.string ⟨f.letter.toArray⟩, .bool f.body, .bool f.inter, .int .u8 (f.first.toNat : Int), .string ⟨f.en.toArray⟩]
def kindB (k : Int) : Bool := decide (k = 1 ∨ k = 2 ∨ k = 3 ∨ k = 4 ∨ k = 5)
theorem fm_0 {k : Int} (h1 : k ≠ 1) (h2 : k ≠ 2) (h3 : k ≠ 3) (h4 : k ≠ 4) (h5 : k ≠ 5) : formF k = ⟨[], false, false, 0, []⟩ := by
 unfold formF; rw [if_neg h1, if_neg h2, if_neg h3, if_neg h4, if_neg h5]
set_option maxRecDepth 100000 in
set_option maxHeartbeats 2000000 in
theorem formOf_any (k : Int) (w : World) :
 Calls Tryd.prog 48 #[.int .i64 k] w fun e w' => e = .returned (.tuple #[fmV (formF k), .bool (kindB k)]) ∧ Below w.heap.size w w' := by
 by_cases h1 : k = 1
 ·subst h1
  go_enter Tryd.func48, Tryd.ntmps48
  go_wp2
  exact bodyPost_ret (v := .tuple #[fmV (formF 1), .bool (kindB 1)]) (by simp [results, Tryd.results48, go_sem, fmV, formF, kindB]) rfl ⟨rfl, (Below.refl _ _).alloc (Nat.le_refl _) _⟩
 ·by_cases h2 : k = 2
  ·subst h2
   go_enter Tryd.func48, Tryd.ntmps48
   go_wp2
   exact bodyPost_ret (v := .tuple #[fmV (formF 2), .bool (kindB 2)]) (by simp [results, Tryd.results48, go_sem, fmV, formF, kindB]) rfl ⟨rfl, (Below.refl _ _).alloc (Nat.le_refl _) _⟩
  ·by_cases h3 : k = 3
   ·subst h3
    go_enter Tryd.func48, Tryd.ntmps48
    go_wp2
    exact bodyPost_ret (v := .tuple #[fmV (formF 3), .bool (kindB 3)]) (by simp [results, Tryd.results48, go_sem, fmV, formF, kindB]) rfl ⟨rfl, (Below.refl _ _).alloc (Nat.le_refl _) _⟩
   ·by_cases h4 : k = 4
    ·subst h4
     go_enter Tryd.func48, Tryd.ntmps48
     go_wp2
     exact bodyPost_ret (v := .tuple #[fmV (formF 4), .bool (kindB 4)]) (by simp [results, Tryd.results48, go_sem, fmV, formF, kindB]) rfl ⟨rfl, (Below.refl _ _).alloc (Nat.le_refl _) _⟩
    ·by_cases h5 : k = 5
     ·subst h5
      go_enter Tryd.func48, Tryd.ntmps48
      go_wp2
      exact bodyPost_ret (v := .tuple #[fmV (formF 5), .bool (kindB 5)]) (by simp [results, Tryd.results48, go_sem, fmV, formF, kindB]) rfl ⟨rfl, (Below.refl _ _).alloc (Nat.le_refl _) _⟩
     ·have E := Lib.hid (fm_0 h1 h2 h3 h4 h5)
      have EB := Lib.hid (show kindB k = false by unfold kindB; exact decide_eq_false (by omega))
      have t1 : (k == 1) = false := beq_false_of_ne h1
      have t2 : (k == 2) = false := beq_false_of_ne h2
      have t3 : (k == 3) = false := beq_false_of_ne h3
      have t4 : (k == 4) = false := beq_false_of_ne h4
      have t5 : (k == 5) = false := beq_false_of_ne h5
      clear h1 h2 h3 h4 h5
      go_enter Tryd.func48, Tryd.ntmps48
      go_wp2
      rw [E.out, EB.out]
      exact bodyPost_ret (v := .tuple #[fmV ⟨[], false, false, 0, []⟩, .bool false]) (by simp [results, Tryd.results48, go_sem, fmV]) rfl ⟨rfl, (Below.refl _ _).alloc (Nat.le_refl _) _⟩
theorem char_str (c : UInt8) (h : c.toNat < 128) : Utf8.encode (c.toNat : Int) = ⟨[c].toArray⟩ := by
 have v : Utf8.valid (c.toNat : Int) = true := by simp [Utf8.valid]; omega
 simp [Utf8.encode, v, h]
set_option maxRecDepth 100000 in
set_option maxHeartbeats 2000000 in
theorem pwithin_str (s : ByteArray) (a b : Nat) (q : Bool) (w : World) (hl : s.size ≤ 4294967296) (hq : s.data.toList.all (btw a b) = q) :
 Calls Tryd.prog 55 #[.string s, .int .u8 a, .int .u8 b] w fun e w' => e = .returned (.bool q) ∧ w = w' := by
 have HQ := Lib.hid hq
 clear hq
 go_enter Tryd.func55, Tryd.ntmps55
 go_wp2
 go_loop [10] (fun i => ∃ k : Nat, k ≤ s.size ∧ i = .int .i64 k ∧ (s.data.toList.take k).all (btw a b) = true) (fun i => s.size - (intOf i).toNat)
 case atStart => exact ⟨0, Nat.zero_le _, rfl, rfl⟩
 case round =>
  obtain ⟨k, hk, rfl, hall⟩ := hrel
  have HA := Lib.hid hall
  clear hall
  by_cases hlt : k < s.size
  ·have hlt2 : k < s.data.toList.length := by simpa using hlt
   have hby := byte_at s k hlt
   have HB := Lib.hid hby
   have hd := (s[k]'hlt).toNat_lt
   have k0 : (0 : Int) ≤ (k : Int) := by omega
   have k1 : (k : Int) < (s.size : Int) := by omega
   clear hby
   by_cases h1 : (s[k]'hlt).toNat < a
   ·have E := Lib.hid (HQ.out.symm.trans (all_no (p := btw a b) hlt2 ((btw_no a b _).2 (by rw [← HB.out]; omega))))
    go_wp2
    go_ret
    exact ⟨ret_b E.out.symm, rfl⟩
   ·by_cases h2 : b < (s[k]'hlt).toNat
    ·have E := Lib.hid (HQ.out.symm.trans (all_no (p := btw a b) hlt2 ((btw_no a b _).2 (by rw [← HB.out]; omega))))
     go_wp2
     go_ret
     exact ⟨ret_b E.out.symm, rfl⟩
    ·have E := Lib.hid (show (s.data.toList.take (k + 1)).all (btw a b) = true by rw [List.take_succ_eq_append_getElem hlt2, List.all_append, HA.out, ← HB.out]; simp [(btw_iff a b _).2 ⟨Nat.le_of_not_lt h1, Nat.le_of_not_lt h2⟩])
     go_wp2
     go_round
     case rel => exact ⟨k + 1, by omega, by go_num, E.out⟩
     case measure => simp [intOf]; omega
  ·have E := Lib.hid (show q = true by have := HA.out; rw [List.take_of_length_le (by simp; omega)] at this; exact HQ.out.symm.trans this)
   go_wp2
   go_ret
   exact ⟨ret_b E.out.symm, rfl⟩
theorem pwithin_any (l : List UInt8) (a b : Nat) (q : Bool) (w : World) (hl : l.length ≤ 4294967296) (hq : l.all (btw a b) = q) :
 Calls Tryd.prog 55 #[.string ⟨l.toArray⟩, .int .u8 a, .int .u8 b] w fun e w' => e = .returned (.bool q) ∧ w = w' := by
 exact pwithin_str ⟨l.toArray⟩ a b q w hl hq
end Go.Proofs.YtgaoijinchakoaaDoor
