/-
  Layer 9: the document's own answers: the parts of Look. Layer 9, the landed keys, walked: whether a code is a text's, and Look. Layer 10, the landed mods: Param and Of.
  Cut out of MdtQ. Cut out of WpQ: what names no function of any dump. Layer 3, walked: the program's holds and ends. Cut out of WirY: what names no function of any dump. In a drawn region whose calls answer what the run alone tells: a value that is known by these answers; bytes that such an answer is, made a string.
-/
import Derived.Test.YtdfojkbgdoiglaaDoorG03
import Derived.Test.YtdfojkbgdoiglaaDoorG07
import Derived.Test.YtdfojkbgdoiglaaDoorG08
import Derived.Test.YtdfojkbgdoiglaaDoorG09
import Derived.Test.YtdfojkbgdoiglaaDoorG10
import Derived.Test.YtdfojkbgdoiglaaDoorG12
import Derived.Test.YtdfojkbgdoiglaaDoorG13
import Derived.Test.YtdfojkbgdoiglaaDoorG15
import Derived.Test.YtdfojkbgdoiglaaDoorG20
import Derived.Test.YtdfojkbgdoiglaaDoorShelf
namespace Go.Proofs.YtdfojkbgdoiglaaDoor
open Go.RowKit
theorem ret_i9 {k : IntKind} {a b : Int} (h : a = b) : Ending.returned (.int k a) = .returned (.int k b) := by rw [h]
set_option maxRecDepth 100000 in
set_option maxHeartbeats 8000000 in
theorem rletter_any (c : Int) (w : World) : Calls Tryd.prog 27 #[.int .i64 c] w fun e w' => e = .returned (.int .u8 (letterN c)) ∧ w' = w := by
 go_enter Tryd.func27, Tryd.ntmps27
 go_wp2
 all_goals
  go_ret
  refine ⟨ret_i9 ?_, rfl⟩
  simp only [beq_iff_eq, beq_eq_false_iff_ne, ne_eq] at *
  first
   | (subst_vars; decide +kernel)
   | (unfold letterN
      repeat' split
      all_goals omega)
set_option maxRecDepth 100000 in
set_option maxHeartbeats 8000000 in
theorem rnumber_any (c : Int) (w : World) : Calls Tryd.prog 28 #[.int .i64 c] w fun e w' => e = .returned (.int .i64 (numberN c)) ∧ w' = w := by
 go_enter Tryd.func28, Tryd.ntmps28
 go_wp2
 all_goals
  go_ret
  refine ⟨ret_i9 ?_, rfl⟩
  simp only [beq_iff_eq, beq_eq_false_iff_ne, ne_eq] at *
  first
   | (subst_vars; decide +kernel)
   | (unfold numberN
      repeat' split
      all_goals omega)
end Go.Proofs.YtdfojkbgdoiglaaDoor
namespace Go.Proofs.YtdfojkbgdoiglaaDoor
open Go.RowKit
theorem isPtK_eq (c : Int) : isPtK c = isPt c := by
 cases h : isPt c with
 | true => exact decide_eq_true (by have := (isPt_iff c).1 h; omega)
 | false => exact decide_eq_false (by have := (isPt_no c).1 h; omega)
theorem put_len (c : Int) : decide (0 < ((putL c).length : Int)) = isPtK c := by
 rw [isPtK_eq]
 cases h : isPt c with
 | true =>
   have := (cnt_bd c).1
   rw [putL_length h]
   exact decide_eq_true (by omega)
 | false => rw [putL_no h]; rfl
theorem txK_no {c : Int} (h : c < 32 ∨ (127 ≤ c ∧ c ≤ 159) ∨ (57344 ≤ c ∧ c ≤ 63743)) : txK c = false := by
 unfold txK
 rcases h with h | h | h <;> simp [h]
theorem txK_is {c : Int} (h : ¬ (c < 32 ∨ (127 ≤ c ∧ c ≤ 159) ∨ (57344 ≤ c ∧ c ≤ 63743))) : txK c = isPtK c := by
 unfold txK
 rw [show decide (c < 32) = false from decide_eq_false (by omega), show (decide (127 ≤ c) && decide (c ≤ 159)) = false by simp; omega, show (decide (57344 ≤ c) && decide (c ≤ 63743)) = false by simp; omega]
 rfl
set_option maxRecDepth 100000 in
set_option maxHeartbeats 4000000 in
theorem isText_any (c : Int) (w : World) (hs : Siz w) : Calls Tryd.prog 26 #[.int .i64 c] w fun e w' => e = .returned (.bool (txK c)) ∧ Below w.heap.size w w' := by
 have HP := Lib.hid (Put_any c w hs)
 have HL := Lib.hid (put_len c)
 by_cases h1 : c < 32
 ·have E := Lib.hid (txK_no (.inl h1))
  go_enter Tryd.func26, Tryd.ntmps26
  go_wp2_with fail
  go_ret
  exact ⟨ret_b E.out.symm, Below.refl _ _⟩
 by_cases h2 : c < 127
 ·have E := Lib.hid (txK_is (c := c) (by omega))
  have j1 : 32 ≤ c := by omega
  clear h1
  go_enter Tryd.func26, Tryd.ntmps26
  go_wp2_with fail
  refine HP.out.mono ?_
  rintro e w1 ⟨A, cp, rfl, _, hb⟩
  have hl := HL.out
  go_wp2_with fail
  go_ret
  exact ⟨ret_b (by rw [E.out, ← hl]; simp [show ¬ c < 32 by omega]), hb⟩
 by_cases h3 : c ≤ 159
 ·have E := Lib.hid (txK_no (c := c) (.inr (.inl ⟨by omega, h3⟩)))
  have j1 : 32 ≤ c := by omega
  have j2 : 127 ≤ c := by omega
  clear h1 h2
  go_enter Tryd.func26, Tryd.ntmps26
  go_wp2_with fail
  go_ret
  exact ⟨ret_b E.out.symm, Below.refl _ _⟩
 by_cases h4 : c < 57344
 ·have E := Lib.hid (txK_is (c := c) (by omega))
  have j1 : 32 ≤ c := by omega
  have j2 : 127 ≤ c := by omega
  have j3 : 159 < c := by omega
  clear h1 h2 h3
  go_enter Tryd.func26, Tryd.ntmps26
  go_wp2_with fail
  refine HP.out.mono ?_
  rintro e w1 ⟨A, cp, rfl, _, hb⟩
  have hl := HL.out
  go_wp2_with fail
  go_ret
  exact ⟨ret_b (by rw [E.out, ← hl]; simp [show ¬ c < 32 by omega, show ¬ c ≤ 159 by omega]), hb⟩
 have j1 : 32 ≤ c := by omega
 have j2 : 127 ≤ c := by omega
 have j3 : 159 < c := by omega
 have j4 : 57344 ≤ c := by omega
 by_cases h5 : c ≤ 63743
 ·have E := Lib.hid (txK_no (c := c) (.inr (.inr ⟨j4, h5⟩)))
  clear h1 h2 h3 h4
  go_enter Tryd.func26, Tryd.ntmps26
  go_wp2_with fail
  go_ret
  exact ⟨ret_b E.out.symm, Below.refl _ _⟩
 ·have E := Lib.hid (txK_is (c := c) (by omega))
  have j5 : 63743 < c := by omega
  clear h1 h2 h3 h4 h5
  go_enter Tryd.func26, Tryd.ntmps26
  go_wp2_with fail
  refine HP.out.mono ?_
  rintro e w1 ⟨A, cp, rfl, _, hb⟩
  have hl := HL.out
  go_wp2_with fail
  go_ret
  exact ⟨ret_b (by rw [E.out, ← hl]; simp [show ¬ c < 32 by omega, show ¬ c ≤ 159 by omega, show ¬ c ≤ 63743 by omega]), hb⟩
theorem entry_ro (r : Ro) (hr : r ∈ roL) (a : Nat) (c : Int) (hc : c = r.first + (a : Int)) (hc2 : c ≤ r.last) (A : Option Addr) (cp : Nat) (w : World) (hR : Rd w A (is_ r.nums)) :
 Calls Tryd.prog 25 #[.agg #[.int .i64 r.first, .int .i64 r.last, .int .i64 r.kind, .string ⟨r.finals.toArray⟩, .slice A r.nums.length cp, .string ⟨r.chars.toArray⟩, .bool r.keys], .int .i64 c] w fun e w' => e = .returned (enV (entK r a)) ∧ Below w.heap.size w w' := by
 obtain ⟨⟨b1, b2, b3⟩, b4, b5, b6⟩ := ro_bd r hr
 subst hc
 refine (entry_any r.first r.last r.kind ⟨r.finals.toArray⟩ r.nums r.nums.length rfl ⟨r.chars.toArray⟩ r.keys A cp a (by omega) b1 (by omega) b4 b5 b6 w hR).mono ?_
 rintro e w' ⟨rfl, hb⟩
 refine ⟨?_, hb⟩
 rw [sbK_eq, sbK_eq]
 rfl
end Go.Proofs.YtdfojkbgdoiglaaDoor
namespace Go.Proofs.YtdfojkbgdoiglaaDoor
open Go.RowKit
set_option maxRecDepth 100000 in
theorem pparam_any (n : Int) (w : World) : Calls Tryd.prog 54 #[.int .i64 n] w fun e w' => e = .returned (.int .i64 (paramN n)) ∧ Below w.heap.size w w' := by
 cases hq : areN n with
 | true =>
   have hr : 0 ≤ n ∧ n ≤ 255 := by simpa [areN] using hq
   have hp : paramN n = n + 1 := by unfold paramN; rw [if_neg (by omega)]
   have hw : IntKind.i64.wrap (n + 1) = n + 1 := by rw [IntKind.wrap_i64]; omega
   have hcall := fun W => are_at hq W
   rw [hp]
   clear hp hr hq
   go_enter Tryd.func54, Tryd.ntmps54
   go_wp2_with fail
   refine (hcall _).mono ?_
   clear hcall
   rintro e w1 ⟨rfl, hb1⟩
   go_wp2_with fail
   go_ret
   exact ⟨rfl, hb1⟩
 | false =>
   have hr : ¬ (0 ≤ n ∧ n ≤ 255) := by simpa [areN] using hq
   have hp : paramN n = 1 := by unfold paramN; rw [if_pos (by omega)]
   have hcall := fun W => are_at hq W
   rw [hp]
   clear hp hr hq
   go_enter Tryd.func54, Tryd.ntmps54
   go_wp2_with fail
   refine (hcall _).mono ?_
   clear hcall
   rintro e w1 ⟨rfl, hb1⟩
   go_wp2_with fail
   go_ret
   exact ⟨rfl, hb1⟩
end Go.Proofs.YtdfojkbgdoiglaaDoor
namespace Go.Proofs.YtdfojkbgdoiglaaDoor
open Go.RowKit
theorem may_small {s : Sq} (h : mayS s = 0) : s.priv.toNat < 128 ∧ s.final.toNat < 128 ∧ (putS s).length ≤ 20000 ∧ (s.kind = 1 ∨ s.kind = 2 ∨ s.kind = 3 ∨ s.kind = 4 ∨ s.kind = 5) := by
 obtain ⟨hdl, hv, hp, hil, hi, hd, hl, hb⟩ := ok_parts h
 have hk : s.kind = 1 ∨ s.kind = 2 ∨ s.kind = 3 ∨ s.kind = 4 ∨ s.kind = 5 := by
  unfold lastOk at hl
  split at hl
  ·omega
  ·split at hl
   ·omega
   ·simp only [Bool.and_eq_true, decide_eq_true_eq] at hl; omega
 refine ⟨?_, ?_, ?_, hk⟩
 ·simp only [privOk, Bool.or_eq_true, decide_eq_true_eq] at hv
  rcases hv with hv | hv
  ·rw [hv]; decide
  ·have := (btw_iff _ _ _).1 hv; omega
 ·unfold lastOk at hl
  split at hl
  ·have := (btw_iff _ _ _).1 hl; omega
  ·split at hl
   ·simp only [Bool.and_eq_true] at hl
    have := (btw_iff _ _ _).1 hl.1; omega
   ·simp only [Bool.and_eq_true, decide_eq_true_eq] at hl
    rw [hl.2]; decide
 ·have h3 := body_len hp hil
  unfold putS
  (repeat' split) <;> simp <;> omega
end Go.Proofs.YtdfojkbgdoiglaaDoor
namespace Go.Proofs.YtdfojkbgdoiglaaDoor
open Go.RowKit
theorem fm1 : fmV (formF 1) = .agg #[.string ⟨#[91]⟩, .bool true, .bool true, .int .u8 64, .string ⟨#[]⟩] := rfl
theorem fm2 : fmV (formF 2) = .agg #[.string ⟨#[79]⟩, .bool false, .bool false, .int .u8 64, .string ⟨#[]⟩] := rfl
theorem fm3 : fmV (formF 3) = .agg #[.string ⟨#[80]⟩, .bool true, .bool true, .int .u8 64, .string ⟨#[27, 92]⟩] := rfl
theorem fm4 : fmV (formF 4) = .agg #[.string ⟨#[93]⟩, .bool false, .bool false, .int .u8 0, .string ⟨#[27, 92]⟩] := rfl
theorem fm5 : fmV (formF 5) = .agg #[.string ⟨#[]⟩, .bool false, .bool true, .int .u8 48, .string ⟨#[]⟩] := rfl
theorem priv_ne {c : UInt8} (h : c ≠ 0) : ((c.toNat : Int) == 0) = false := beq_false_of_ne (fun e => h (UInt8.toNat_inj.1 (by show c.toNat = 0; omega)))
set_option maxRecDepth 100000 in
set_option maxHeartbeats 4000000 in
theorem holds_any (s : Sq) (A : Option Addr) (c : Nat) (q : Bool) (w : World) (hk : s.kind = 1 ∨ s.kind = 2 ∨ s.kind = 3 ∨ s.kind = 4 ∨ s.kind = 5) (hq : bareOk s = q) :
 Calls Tryd.prog 67 #[fmV (formF s.kind), sqV s A c] w fun e w' => e = .returned (.bool q) ∧ Below w.heap.size w w' := by
 obtain ⟨k, pv, ps, it, f, d⟩ := s
 have hB : ∀ (x y : Obj), Below w.heap.size w ((w.alloc x).alloc y) := fun x y => ((Below.refl _ w).alloc (Nat.le_refl _) _).alloc (by simp) _
 dsimp only at hk ⊢
 unfold sqV
 dsimp only
 rcases hk with rfl | rfl | rfl | rfl | rfl
 ·rw [fm1]
  cases d with
  | nil =>
    obtain rfl : true = q := by rw [← hq]; simp [bareOk]
    clear hq
    go_enter Tryd.func67, Tryd.ntmps67
    go_wp2
    go_ret
    exact ⟨rfl, hB _ _⟩
  | cons x d =>
    obtain rfl : false = q := by rw [← hq]; simp [bareOk]
    clear hq
    go_enter Tryd.func67, Tryd.ntmps67
    go_wp2
    go_ret
    exact ⟨rfl, hB _ _⟩
 ·rw [fm2]
  by_cases h1 : pv = 0
  ·subst h1
   cases ps with
   | nil =>
     cases it with
     | nil =>
       cases d with
       | nil =>
         obtain rfl : true = q := by rw [← hq]; simp [bareOk]
         clear hq
         go_enter Tryd.func67, Tryd.ntmps67
         go_wp2
         go_ret
         exact ⟨rfl, hB _ _⟩
       | cons x d =>
         obtain rfl : false = q := by rw [← hq]; simp [bareOk]
         clear hq
         go_enter Tryd.func67, Tryd.ntmps67
         go_wp2
         go_ret
         exact ⟨rfl, hB _ _⟩
     | cons x it =>
       obtain rfl : false = q := by rw [← hq]; simp [bareOk]
       clear hq
       go_enter Tryd.func67, Tryd.ntmps67
       go_wp2
       go_ret
       exact ⟨rfl, hB _ _⟩
   | cons x ps =>
     obtain rfl : false = q := by rw [← hq]; simp [bareOk]
     clear hq
     obtain ⟨n, hn⟩ : ∃ n, (x :: ps).length = n := ⟨_, rfl⟩
     have hn2 : 0 < n := by rw [← hn]; simp
     have t1 : ((n : Int) == 0) = false := beq_false_of_ne (by omega)
     rw [hn]
     clear hn
     go_enter Tryd.func67, Tryd.ntmps67
     go_wp2
     go_ret
     exact ⟨rfl, hB _ _⟩
  ·obtain rfl : false = q := by rw [← hq]; simp [bareOk, h1]
   have t1 := priv_ne h1
   clear hq h1
   go_enter Tryd.func67, Tryd.ntmps67
   go_wp2
   go_ret
   exact ⟨rfl, hB _ _⟩
 ·rw [fm3]
  obtain rfl : true = q := by rw [← hq]; simp [bareOk]
  clear hq
  go_enter Tryd.func67, Tryd.ntmps67
  go_wp2
  go_ret
  exact ⟨rfl, hB _ _⟩
 ·rw [fm4]
  by_cases h1 : pv = 0
  ·subst h1
   cases ps with
   | nil =>
     cases it with
     | nil =>
       obtain rfl : true = q := by rw [← hq]; simp [bareOk]
       clear hq
       go_enter Tryd.func67, Tryd.ntmps67
       go_wp2
       go_ret
       exact ⟨rfl, hB _ _⟩
     | cons x it =>
       obtain rfl : false = q := by rw [← hq]; simp [bareOk]
       clear hq
       go_enter Tryd.func67, Tryd.ntmps67
       go_wp2
       go_ret
       exact ⟨rfl, hB _ _⟩
   | cons x ps =>
     obtain rfl : false = q := by rw [← hq]; simp [bareOk]
     clear hq
     obtain ⟨n, hn⟩ : ∃ n, (x :: ps).length = n := ⟨_, rfl⟩
     have hn2 : 0 < n := by rw [← hn]; simp
     have t1 : ((n : Int) == 0) = false := beq_false_of_ne (by omega)
     rw [hn]
     clear hn
     go_enter Tryd.func67, Tryd.ntmps67
     go_wp2
     go_ret
     exact ⟨rfl, hB _ _⟩
  ·obtain rfl : false = q := by rw [← hq]; simp [bareOk, h1]
   have t1 := priv_ne h1
   clear hq h1
   go_enter Tryd.func67, Tryd.ntmps67
   go_wp2
   go_ret
   exact ⟨rfl, hB _ _⟩
 ·rw [fm5]
  by_cases h1 : pv = 0
  ·subst h1
   cases ps with
   | nil =>
     cases d with
     | nil =>
       obtain rfl : true = q := by rw [← hq]; simp [bareOk]
       clear hq
       go_enter Tryd.func67, Tryd.ntmps67
       go_wp2
       go_ret
       exact ⟨rfl, hB _ _⟩
     | cons x d =>
       obtain rfl : false = q := by rw [← hq]; simp [bareOk]
       clear hq
       go_enter Tryd.func67, Tryd.ntmps67
       go_wp2
       go_ret
       exact ⟨rfl, hB _ _⟩
   | cons x ps =>
     obtain rfl : false = q := by rw [← hq]; simp [bareOk]
     clear hq
     obtain ⟨n, hn⟩ : ∃ n, (x :: ps).length = n := ⟨_, rfl⟩
     have hn2 : 0 < n := by rw [← hn]; simp
     have t1 : ((n : Int) == 0) = false := beq_false_of_ne (by omega)
     rw [hn]
     clear hn
     go_enter Tryd.func67, Tryd.ntmps67
     go_wp2
     go_ret
     exact ⟨rfl, hB _ _⟩
  ·obtain rfl : false = q := by rw [← hq]; simp [bareOk, h1]
   have t1 := priv_ne h1
   clear hq h1
   go_enter Tryd.func67, Tryd.ntmps67
   go_wp2
   go_ret
   exact ⟨rfl, hB _ _⟩
theorem idx_mem (l : List UInt8) (c : UInt8) : (0 ≤ Lib.indexByte l c) ↔ c ∈ l := by
 induction l with
 | nil => simp [Lib.indexByte]
 | cons b l ih =>
   have := Lib.indexByte_ge l c
   unfold Lib.indexByte
   by_cases h : b = c
   ·subst h; simp
   ·have h2 : ¬ c = b := fun e => h e.symm
    rw [if_neg (by simpa using h)]
    simp only [List.mem_cons, h2, false_or, ← ih]
    by_cases h3 : Lib.indexByte l c = -1
    ·rw [if_pos (by simpa using h3)]; omega
    ·rw [if_neg (by simpa using h3)]; omega
theorem idx_in (c : UInt8) : (0 ≤ Lib.indexByte [79, 80, 88, 91, 93, 92, 94, 95] c) ↔ ([79, 80, 88, 91, 93, 92, 94, 95] : List UInt8).contains c = true := by
 rw [idx_mem, List.contains_iff_mem]
set_option maxRecDepth 100000 in
set_option maxHeartbeats 4000000 in
theorem ends_any (s : Sq) (A : Option Addr) (c : Nat) (q : Bool) (w : World) (hk : s.kind = 1 ∨ s.kind = 2 ∨ s.kind = 3 ∨ s.kind = 4 ∨ s.kind = 5) (hq : lastOk s = q) :
 Calls Tryd.prog 68 #[fmV (formF s.kind), sqV s A c] w fun e w' => e = .returned (.bool q) ∧ Below w.heap.size w w' := by
 have hB : ∀ (x y : Obj), Below w.heap.size w ((w.alloc x).alloc y) := fun x y => ((Below.refl _ w).alloc (Nat.le_refl _) _).alloc (by simp) _
 obtain ⟨q1, q5, q4, q0⟩ := last_q hq
 obtain ⟨k, pv, ps, it, f, d⟩ := s
 dsimp only at hk q1 q5 q4 ⊢
 have hf := f.toNat_lt
 unfold sqV
 dsimp only
 have key : (k = 1 ∨ k = 2 ∨ k = 3) ∨ k = 4 ∨ k = 5 := by omega
 clear hk q0
 rcases key with h | rfl | rfl
 ·have E := Lib.hid (q1 h)
  clear q1 q5 q4 hq
  obtain ⟨n, hn⟩ : ∃ n, f.toNat = n := ⟨_, rfl⟩
  rw [hn] at E hf ⊢
  clear hn
  rcases h with rfl | rfl | rfl
  ·rw [fm1]
   go_enter Tryd.func68, Tryd.ntmps68
   go_wp2
   all_goals
    go_ret
    refine ⟨ret_b ?_, hB _ _⟩
    rw [E.out, Bool.eq_iff_iff]
    simp
    omega
  ·rw [fm2]
   go_enter Tryd.func68, Tryd.ntmps68
   go_wp2
   all_goals
    go_ret
    refine ⟨ret_b ?_, hB _ _⟩
    rw [E.out, Bool.eq_iff_iff]
    simp
    omega
  ·rw [fm3]
   go_enter Tryd.func68, Tryd.ntmps68
   go_wp2
   all_goals
    go_ret
    refine ⟨ret_b ?_, hB _ _⟩
    rw [E.out, Bool.eq_iff_iff]
    simp
    omega
 ·have E := Lib.hid (q4 rfl)
  clear q1 q5 q4 hq
  obtain ⟨n, hn⟩ : ∃ n, f.toNat = n := ⟨_, rfl⟩
  rw [hn] at E hf ⊢
  clear hn
  rw [fm4]
  go_enter Tryd.func68, Tryd.ntmps68
  go_wp2
  all_goals
   go_ret
   refine ⟨ret_b ?_, hB _ _⟩
   rw [E.out, Bool.eq_iff_iff]
   simp
 ·obtain ⟨e1, e2⟩ := q5 rfl
  clear q1 q5 q4
  rw [fm5]
  cases it with
  | cons x it =>
    have E := Lib.hid (show q = (decide (48 ≤ f.toNat) && decide (f.toNat ≤ 126)) by
     by_cases h1 : 48 ≤ f.toNat
     ·by_cases h2 : f.toNat ≤ 126
      ·rw [(e2 h1 h2).1 (by simp)]; simp [h1, h2]
      ·rw [e1 (by omega)]; simp [h2]
     ·rw [e1 (by omega)]; simp [h1])
    clear e1 e2 hq
    obtain ⟨n, hn⟩ : ∃ n, f.toNat = n := ⟨_, rfl⟩
    rw [hn] at E hf ⊢
    clear hn
    go_enter Tryd.func68, Tryd.ntmps68
    go_wp2
    all_goals
     go_ret
     refine ⟨ret_b ?_, hB _ _⟩
     rw [E.out, Bool.eq_iff_iff]
     simp
     omega
  | nil =>
    clear e1 e2
    obtain ⟨x, hx⟩ : ∃ x, Lib.indexByte [79, 80, 88, 91, 93, 92, 94, 95] f = x := ⟨_, rfl⟩
    have hi := idx_in f
    rw [hx] at hi
    have HX := Lib.hid (show Lib.indexByte (⟨#[79, 80, 88, 91, 93, 92, 94, 95]⟩ : ByteArray).data.toList ((f.toNat : Int)).toNat.toUInt8 = x by rw [← hx]; congr 1; rw [Int.toNat_natCast]; simp)
    clear hx
    have HF := Lib.hid (show lastOk ⟨5, pv, ps, [], f, d⟩ = (btw 48 126 f && !([79, 80, 88, 91, 93, 92, 94, 95] : List UInt8).contains f) by simp [lastOk])
    by_cases h0 : 0 ≤ x
    ·have E := Lib.hid (show q = false by rw [← hq, HF.out, hi.1 h0]; simp)
     clear hq hi HF
     go_enter Tryd.func68, Tryd.ntmps68
     go_wp2_with fail
     refine (Tryd.strings_IndexByte _ _ _).mono ?_
     rw [HX.out]
     rintro e w1 ⟨rfl, rfl⟩
     go_wp2_with fail
     go_ret
     exact ⟨ret_b E.out.symm, hB _ _⟩
    ·have hc : ([79, 80, 88, 91, 93, 92, 94, 95] : List UInt8).contains f = false := by
      cases hh : ([79, 80, 88, 91, 93, 92, 94, 95] : List UInt8).contains f with
      | false => rfl
      | true => exact absurd (hi.2 hh) h0
     have E := Lib.hid (show q = (decide (48 ≤ f.toNat) && decide (f.toNat ≤ 126)) by rw [← hq, HF.out, hc]; simp [btw])
     clear hq hi HF hc
     obtain ⟨n, hn⟩ : ∃ n, f.toNat = n := ⟨_, rfl⟩
     rw [hn] at E hf HX ⊢
     clear hn
     go_enter Tryd.func68, Tryd.ntmps68
     go_wp2_with fail
     refine (Tryd.strings_IndexByte _ _ _).mono ?_
     rw [HX.out]
     rintro e w1 ⟨rfl, rfl⟩
     go_wp2_with fail
     all_goals
      go_ret
      refine ⟨ret_b ?_, hB _ _⟩
      rw [E.out, Bool.eq_iff_iff]
      simp
      omega
end Go.Proofs.YtdfojkbgdoiglaaDoor
namespace Go.Proofs.YtdfojkbgdoiglaaDoor
open Go.RowKit
theorem may_1 {s : Sq} (h : s.data.length ≤ 4096) (h1 : okS s = false) : mayS s = 1 := by
 unfold mayS; rw [if_neg (by omega), if_neg (by rw [h1]; decide)]
theorem may_0 {s : Sq} (h : s.data.length ≤ 4096) (h1 : okS s = true) : mayS s = 0 := by
 unfold mayS; rw [if_neg (by omega), if_pos h1]
theorem may_4 {s : Sq} (h : 4096 < s.data.length) : mayS s = 4 := by unfold mayS; rw [if_pos h]
end Go.Proofs.YtdfojkbgdoiglaaDoor
namespace Go.Proofs.YtdfojkbgdoiglaaDoor
open Go.RowKit
section
variable {P : Program} {ops : Array Oper} {md : Region.Mode} {w1 : World} {K : List Fact} {ix iz : Nat} {R0 R1 : (Tmp → Value) → World → World → Prop} {aF : (Tmp → Value) → Act} {i : Nat} {o : Oper}
end
end Go.Proofs.YtdfojkbgdoiglaaDoor
