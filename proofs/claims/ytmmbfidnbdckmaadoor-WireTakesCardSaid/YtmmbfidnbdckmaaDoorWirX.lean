/-
  Layer 3, walked: the document's guess: the other kinds.
-/
import Derived.Test.YtmmbfidnbdckmaaDoorWirT
namespace Go.Proofs.YtmmbfidnbdckmaaDoor
open Go.RowKit

set_option maxRecDepth 100000 in
set_option maxHeartbeats 8000000 in
theorem guess_x_short (s : ByteArray) (w : World) (h : s.size < 2) :
    Calls Tryd.prog 37 #[.string s] w (GuessP s.data.toList w) := by
  have HG := Lib.hid (guess_short s h)
  go_enter Tryd.func37, Tryd.ntmps37
  go_wp2_with fail
  refine bodyPost_ret (v := .tuple #[.agg #[.int .i64 0, .int .u8 0, .slice none 0 0, .string ⟨#[]⟩, .int .u8 0, .string ⟨#[]⟩], .int .i64 (-1)]) (by simp [results, Tryd.results37, go_sem]) rfl (gp_no HG.out _ _ _ _ _ _ _ _ rfl ((Below.refl _ w).alloc (Nat.le_refl _) _))
set_option maxRecDepth 100000 in
set_option maxHeartbeats 8000000 in
theorem guess_x_not (s : ByteArray) (w : World) (h2 : 1 < s.size) (h0 : (s[0]'(by omega)).toNat ≠ 27) :
    Calls Tryd.prog 37 #[.string s] w (GuessP s.data.toList w) := by
  have HG := Lib.hid (guess_not s h2 h0)
  have t0 : (((s[0]'(by omega)).toNat : Int) == 27) = false := beq_false_of_ne (by omega)
  have t1 : (((s[0]'(by omega)).toNat : Int) != 27) = true := by simp [bne, t0]
  clear h0
  go_enter Tryd.func37, Tryd.ntmps37
  go_wp2_with fail
  refine bodyPost_ret (v := .tuple #[.agg #[.int .i64 0, .int .u8 0, .slice none 0 0, .string ⟨#[]⟩, .int .u8 0, .string ⟨#[]⟩], .int .i64 (-1)]) (by simp [results, Tryd.results37, go_sem]) rfl (gp_no HG.out _ _ _ _ _ _ _ _ rfl ((Below.refl _ w).alloc (Nat.le_refl _) _))
set_option maxRecDepth 100000 in
set_option maxHeartbeats 8000000 in
theorem guess_x_79n (s : ByteArray) (w : World) (h2 : s.size = 2) (h0 : (s[0]'(by omega)).toNat = 27) (h1 : (s[1]'(by omega)).toNat = 79) :
    Calls Tryd.prog 37 #[.string s] w (GuessP s.data.toList w) := by
  have HG := Lib.hid (guess_79n s h2 h0 h1)
  have b1 : ((s[0]'(by omega)).toNat : Int) = 27 := by omega
  have b2 : ((s[1]'(by omega)).toNat : Int) = 79 := by omega
  go_enter Tryd.func37, Tryd.ntmps37
  go_wp2_with fail
  refine bodyPost_ret (v := .tuple #[.agg #[.int .i64 5, .int .u8 0, .slice none 0 0, .string ⟨#[]⟩, .int .u8 0, .string ⟨#[]⟩], .int .i64 (-1)]) (by simp [results, Tryd.results37, go_sem]) rfl (gp_no HG.out _ _ _ _ _ _ _ _ rfl (((Below.refl _ w).alloc (Nat.le_refl _) _).alloc (by simp) _))
set_option maxRecDepth 100000 in
set_option maxHeartbeats 8000000 in
theorem guess_x_79s (s : ByteArray) (w : World) (h2 : 2 < s.size) (h0 : (s[0]'(by omega)).toNat = 27) (h1 : (s[1]'(by omega)).toNat = 79) :
    Calls Tryd.prog 37 #[.string s] w (GuessP s.data.toList w) := by
  have HG := Lib.hid (guess_79s s h2 h0 h1)
  have b1 : ((s[0]'(by omega)).toNat : Int) = 27 := by omega
  have b2 : ((s[1]'(by omega)).toNat : Int) = 79 := by omega
  go_enter Tryd.func37, Tryd.ntmps37
  go_wp2_with fail
  refine bodyPost_ret (v := .tuple #[.agg #[.int .i64 2, .int .u8 0, .slice none 0 0, .string ⟨#[]⟩, .int .u8 ((s[2]'h2).toNat : Int), .string ⟨#[]⟩], .int .i64 3]) (by simp [results, Tryd.results37, go_sem]) rfl (gp_yes HG.out none 0 rfl (RdPN.nil 0 _ _) (((Below.refl _ w).alloc (Nat.le_refl _) _).alloc (by simp) _))
set_option maxRecDepth 100000 in
set_option maxHeartbeats 8000000 in
theorem guess_x_93 (s : ByteArray) (w : World) (hl : s.size ≤ 4294967296) (h2 : 1 < s.size) (h0 : (s[0]'(by omega)).toNat = 27) (h1 : (s[1]'h2).toNat = 93) :
    Calls Tryd.prog 37 #[.string s] w (GuessP s.data.toList w) := by
  have b1 : ((s[0]'(by omega)).toNat : Int) = 27 := by omega
  have b2 : ((s[1]'h2).toNat : Int) = 93 := by omega
  have hlen : s.data.toList.length = s.size := by simp
  obtain ⟨n, hn⟩ : ∃ n, runL s.data.toList 2 32 126 = n := ⟨_, rfl⟩
  have r1 := run_le s.data.toList 2 32 126 (by omega)
  rw [hn, hlen] at r1
  have HN := Lib.hid hn
  obtain ⟨m, hm⟩ : ∃ m, 2 + n = m := ⟨_, rfl⟩
  rw [hm] at r1
  have HG := Lib.hid (guess_93 s h2 h0 h1 n m hn hm)
  have E1 := Lib.hid (ext_str s 2 n m 32 126 hn hm)
  have ew1 : IntKind.i64.wrap ((2 : Int) + (n : Int)) = (m : Int) := by have := IntWalk.i64_in ((2 : Int) + (n : Int)) (by omega); rw [this]; omega
  have q1 : (2 : Int) ≤ (m : Int) := by omega
  have q2 : (m : Int) ≤ (s.size : Int) := by omega
  clear hn hm
  go_enter Tryd.func37, Tryd.ntmps37
  go_wp2_with fail
  refine (run_str s 2 32 126 n _ hl (by omega) HN.out).mono ?_
  rintro e w1 ⟨rfl, rfl⟩
  go_wp2_with fail
  refine bodyPost_ret (v := .tuple #[.agg #[.int .i64 4, .int .u8 0, .slice none 0 0, .string ⟨#[]⟩, .int .u8 0, .string (s.extract 2 m)], .int .i64 ((m : Int) + 2)]) (by simp [results, Tryd.results37, go_sem]) rfl (gp_yes HG.out none 0 (by rw [E1.out]; rfl) (RdPN.nil 0 _ _) (((Below.refl _ w).alloc (Nat.le_refl _) _).alloc (by simp) _))
set_option maxRecDepth 100000 in
set_option maxHeartbeats 8000000 in
theorem guess_x_esc (s : ByteArray) (w : World) (hl : s.size ≤ 4294967296) (h2 : 1 < s.size) (h0 : (s[0]'(by omega)).toNat = 27) (h1 : (s[1]'h2).toNat ≠ 79 ∧ (s[1]'h2).toNat ≠ 93 ∧ (s[1]'h2).toNat ≠ 91 ∧ (s[1]'h2).toNat ≠ 80) :
    Calls Tryd.prog 37 #[.string s] w (GuessP s.data.toList w) := by
  have HQ := Lib.hid (guess_esc s h2 h0 h1)
  have b1 : ((s[0]'(by omega)).toNat : Int) = 27 := by omega
  have t79 : (((s[1]'h2).toNat : Int) == 79) = false := beq_false_of_ne (by omega)
  have t93 : (((s[1]'h2).toNat : Int) == 93) = false := beq_false_of_ne (by omega)
  have t91 : (((s[1]'h2).toNat : Int) == 91) = false := beq_false_of_ne (by omega)
  have t80 : (((s[1]'h2).toNat : Int) == 80) = false := beq_false_of_ne (by omega)
  have hlen : s.data.toList.length = s.size := by simp
  obtain ⟨n2, hn2⟩ : ∃ n, runL s.data.toList 1 32 47 = n := ⟨_, rfl⟩
  have r2 := run_le s.data.toList 1 32 47 (by omega)
  rw [hn2, hlen] at r2
  have HN2 := Lib.hid hn2
  obtain ⟨m2, hm2⟩ : ∃ m, 1 + n2 = m := ⟨_, rfl⟩
  rw [hm2] at r2
  have E2 := Lib.hid (ext_str s 1 n2 m2 32 47 hn2 hm2)
  have ew2 : IntKind.i64.wrap ((1 : Int) + (n2 : Int)) = (m2 : Int) := by have := IntWalk.i64_in ((1 : Int) + (n2 : Int)) (by omega); rw [this]; omega
  have q3 : (1 : Int) ≤ (m2 : Int) := by omega
  have q4 : (m2 : Int) ≤ (s.size : Int) := by omega
  by_cases hlt : m2 < s.size
  · have k3 : (m2 : Int) < (s.size : Int) := by omega
    have k4 : (0 : Int) ≤ (m2 : Int) := by omega
    have HG := Lib.hid (HQ.out.trans (esc_some s.data.toList n2 m2 (s[m2]'hlt) hn2 hm2 (by omega) (by rw [byte_at s m2 hlt, getD_at])))
    clear hn2 hm2 h1
    go_enter Tryd.func37, Tryd.ntmps37
    go_wp2_with fail
    refine (run_str s 1 32 47 n2 _ hl (by omega) HN2.out).mono ?_
    rintro e w1 ⟨rfl, rfl⟩
    go_wp2_with fail
    refine bodyPost_ret (v := .tuple #[.agg #[.int .i64 5, .int .u8 0, .slice none 0 0, .string (s.extract 1 m2), .int .u8 ((s[m2]'hlt).toNat : Int), .string ⟨#[]⟩], .int .i64 ((m2 : Int) + 1)]) (by simp [results, Tryd.results37, go_sem]) rfl (gp_yes HG.out none 0 (by rw [E2.out]; rfl) (RdPN.nil 0 _ _) (((Below.refl _ w).alloc (Nat.le_refl _) _).alloc (by simp) _))
  · have k3 : (s.size : Int) ≤ (m2 : Int) := by omega
    have HG := Lib.hid (HQ.out.trans (esc_none s.data.toList n2 m2 hn2 hm2 (by omega)))
    clear hn2 hm2 h1
    go_enter Tryd.func37, Tryd.ntmps37
    go_wp2_with fail
    refine (run_str s 1 32 47 n2 _ hl (by omega) HN2.out).mono ?_
    rintro e w1 ⟨rfl, rfl⟩
    go_wp2_with fail
    refine bodyPost_ret (v := .tuple #[.agg #[.int .i64 5, .int .u8 0, .slice none 0 0, .string (s.extract 1 m2), .int .u8 0, .string ⟨#[]⟩], .int .i64 (-1)]) (by simp [results, Tryd.results37, go_sem]) rfl (gp_no HG.out _ _ _ _ _ _ _ _ rfl (((Below.refl _ w).alloc (Nat.le_refl _) _).alloc (by simp) _))
end Go.Proofs.YtmmbfidnbdckmaaDoor
