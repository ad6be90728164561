/-
  Layer 3, walked: the program's small functions: formOf, char, within, isNone.
-/
import Derived.Test.YtdpdgdidfikphaaDoorRdT
import Derived.Test.YtdpdgdidfikphaaDoorWirQ
import Derived.Test.YtdpdgdidfikphaaDoorBlk
namespace Go.Proofs.YtdpdgdidfikphaaDoor
open Go.RowKit

/-- A form as a value. -/
def fmV (f : Fm) : Value := .agg #[.string ⟨f.letter.toArray⟩, .bool f.body, .bool f.inter, .int .u8 (f.first.toNat : Int), .string ⟨f.en.toArray⟩]
def kindB (k : Int) : Bool := decide (k = 1 ∨ k = 2 ∨ k = 3 ∨ k = 4 ∨ k = 5)
theorem fm_0 {k : Int} (h1 : k ≠ 1) (h2 : k ≠ 2) (h3 : k ≠ 3) (h4 : k ≠ 4) (h5 : k ≠ 5) : formF k = ⟨[], false, false, 0, []⟩ := by
  unfold formF; rw [if_neg h1, if_neg h2, if_neg h3, if_neg h4, if_neg h5]

set_option maxRecDepth 100000 in
set_option maxHeartbeats 2000000 in
theorem formOf_any (k : Int) (w : World) :
    Calls Tryd.prog 29 #[.int .i64 k] w fun e w' => e = .returned (.tuple #[fmV (formF k), .bool (kindB k)]) ∧ Below w.heap.size w w' := by
  by_cases h1 : k = 1
  · subst h1
    go_enter Tryd.func29, Tryd.ntmps29
    go_wp2
    exact bodyPost_ret (v := .tuple #[fmV (formF 1), .bool (kindB 1)]) (by simp [results, Tryd.results29, go_sem, fmV, formF, kindB]) rfl ⟨rfl, (Below.refl _ _).alloc (Nat.le_refl _) _⟩
  · by_cases h2 : k = 2
    · subst h2
      go_enter Tryd.func29, Tryd.ntmps29
      go_wp2
      exact bodyPost_ret (v := .tuple #[fmV (formF 2), .bool (kindB 2)]) (by simp [results, Tryd.results29, go_sem, fmV, formF, kindB]) rfl ⟨rfl, (Below.refl _ _).alloc (Nat.le_refl _) _⟩
    · by_cases h3 : k = 3
      · subst h3
        go_enter Tryd.func29, Tryd.ntmps29
        go_wp2
        exact bodyPost_ret (v := .tuple #[fmV (formF 3), .bool (kindB 3)]) (by simp [results, Tryd.results29, go_sem, fmV, formF, kindB]) rfl ⟨rfl, (Below.refl _ _).alloc (Nat.le_refl _) _⟩
      · by_cases h4 : k = 4
        · subst h4
          go_enter Tryd.func29, Tryd.ntmps29
          go_wp2
          exact bodyPost_ret (v := .tuple #[fmV (formF 4), .bool (kindB 4)]) (by simp [results, Tryd.results29, go_sem, fmV, formF, kindB]) rfl ⟨rfl, (Below.refl _ _).alloc (Nat.le_refl _) _⟩
        · by_cases h5 : k = 5
          · subst h5
            go_enter Tryd.func29, Tryd.ntmps29
            go_wp2
            exact bodyPost_ret (v := .tuple #[fmV (formF 5), .bool (kindB 5)]) (by simp [results, Tryd.results29, go_sem, fmV, formF, kindB]) rfl ⟨rfl, (Below.refl _ _).alloc (Nat.le_refl _) _⟩
          · have E := Lib.hid (fm_0 h1 h2 h3 h4 h5)
            have EB := Lib.hid (show kindB k = false by unfold kindB; exact decide_eq_false (by omega))
            have t1 : (k == 1) = false := beq_false_of_ne h1
            have t2 : (k == 2) = false := beq_false_of_ne h2
            have t3 : (k == 3) = false := beq_false_of_ne h3
            have t4 : (k == 4) = false := beq_false_of_ne h4
            have t5 : (k == 5) = false := beq_false_of_ne h5
            clear h1 h2 h3 h4 h5
            go_enter Tryd.func29, Tryd.ntmps29
            go_wp2
            rw [E.out, EB.out]
            exact bodyPost_ret (v := .tuple #[fmV ⟨[], false, false, 0, []⟩, .bool false]) (by simp [results, Tryd.results29, go_sem, fmV]) rfl ⟨rfl, (Below.refl _ _).alloc (Nat.le_refl _) _⟩

theorem char_str (c : UInt8) (h : c.toNat < 128) : Utf8.encode (c.toNat : Int) = ⟨[c].toArray⟩ := by
  have v : Utf8.valid (c.toNat : Int) = true := by simp [Utf8.valid]; omega
  simp [Utf8.encode, v, h]
set_option maxRecDepth 100000 in
set_option maxHeartbeats 2000000 in
theorem pwithin_str (s : ByteArray) (a b : Nat) (q : Bool) (w : World) (hl : s.size ≤ 4294967296) (hq : s.data.toList.all (btw a b) = q) :
    Calls Tryd.prog 33 #[.string s, .int .u8 a, .int .u8 b] w fun e w' => e = .returned (.bool q) ∧ w = w' := by
  have HQ := Lib.hid hq
  clear hq
  go_enter Tryd.func33, Tryd.ntmps33
  go_wp2
  go_loop [10] (fun i => ∃ k : Nat, k ≤ s.size ∧ i = .int .i64 k ∧ (s.data.toList.take k).all (btw a b) = true) (fun i => s.size - (intOf i).toNat)
  case atStart => exact ⟨0, Nat.zero_le _, rfl, rfl⟩
  case round =>
    obtain ⟨k, hk, rfl, hall⟩ := hrel
    have HA := Lib.hid hall
    clear hall
    by_cases hlt : k < s.size
    · have hlt2 : k < s.data.toList.length := by simpa using hlt
      have hby := byte_at s k hlt
      have HB := Lib.hid hby
      have hd := (s[k]'hlt).toNat_lt
      have k0 : (0 : Int) ≤ (k : Int) := by omega
      have k1 : (k : Int) < (s.size : Int) := by omega
      clear hby
      by_cases h1 : (s[k]'hlt).toNat < a
      · have E := Lib.hid (HQ.out.symm.trans (all_no (p := btw a b) hlt2 ((btw_no a b _).2 (by rw [← HB.out]; omega))))
        go_wp2
        go_ret
        exact ⟨ret_b E.out.symm, rfl⟩
      · by_cases h2 : b < (s[k]'hlt).toNat
        · have E := Lib.hid (HQ.out.symm.trans (all_no (p := btw a b) hlt2 ((btw_no a b _).2 (by rw [← HB.out]; omega))))
          go_wp2
          go_ret
          exact ⟨ret_b E.out.symm, rfl⟩
        · have E := Lib.hid (show (s.data.toList.take (k + 1)).all (btw a b) = true by rw [List.take_succ_eq_append_getElem hlt2, List.all_append, HA.out, ← HB.out]; simp [(btw_iff a b _).2 ⟨Nat.le_of_not_lt h1, Nat.le_of_not_lt h2⟩])
          go_wp2
          go_round
          case rel => exact ⟨k + 1, by omega, by go_num, E.out⟩
          case measure => simp [intOf]; omega
    · have E := Lib.hid (show q = true by have := HA.out; rw [List.take_of_length_le (by simp; omega)] at this; exact HQ.out.symm.trans this)
      go_wp2
      go_ret
      exact ⟨ret_b E.out.symm, rfl⟩
theorem pwithin_any (l : List UInt8) (a b : Nat) (q : Bool) (w : World) (hl : l.length ≤ 4294967296) (hq : l.all (btw a b) = q) :
    Calls Tryd.prog 33 #[.string ⟨l.toArray⟩, .int .u8 a, .int .u8 b] w fun e w' => e = .returned (.bool q) ∧ w = w' := by
  exact pwithin_str ⟨l.toArray⟩ a b q w hl hq

end Go.Proofs.YtdpdgdidfikphaaDoor
