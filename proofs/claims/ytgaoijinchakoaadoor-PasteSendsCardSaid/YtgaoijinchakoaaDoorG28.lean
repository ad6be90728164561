/-
  Layer 3, walked: the program's holds and ends.
-/
import Derived.Test.YtgaoijinchakoaaDoorG22
import Derived.Test.YtgaoijinchakoaaDoorShelf
namespace Go.Proofs.YtgaoijinchakoaaDoor
open Go.RowKit
theorem fm1 : fmV (formF 1) = .agg #[.string ⟨#[91]⟩, .bool true, .bool true, .int .u8 64, .string ⟨#[]⟩] := rfl
theorem fm2 : fmV (formF 2) = .agg #[.string ⟨#[79]⟩, .bool false, .bool false, .int .u8 64, .string ⟨#[]⟩] := rfl
theorem fm3 : fmV (formF 3) = .agg #[.string ⟨#[80]⟩, .bool true, .bool true, .int .u8 64, .string ⟨#[27, 92]⟩] := rfl
theorem fm4 : fmV (formF 4) = .agg #[.string ⟨#[93]⟩, .bool false, .bool false, .int .u8 0, .string ⟨#[27, 92]⟩] := rfl
theorem fm5 : fmV (formF 5) = .agg #[.string ⟨#[]⟩, .bool false, .bool true, .int .u8 48, .string ⟨#[]⟩] := rfl
theorem priv_ne {c : UInt8} (h : c ≠ 0) : ((c.toNat : Int) == 0) = false := beq_false_of_ne (fun e => h (UInt8.toNat_inj.1 (by show c.toNat = 0; omega)))
set_option maxRecDepth 100000 in
set_option maxHeartbeats 4000000 in
theorem holds_any (s : Sq) (A : Option Addr) (c : Nat) (q : Bool) (w : World) (hk : s.kind = 1 ∨ s.kind = 2 ∨ s.kind = 3 ∨ s.kind = 4 ∨ s.kind = 5) (hq : bareOk s = q) :
 Calls Tryd.prog 52 #[fmV (formF s.kind), sqV s A c] w fun e w' => e = .returned (.bool q) ∧ Below w.heap.size w w' := by
 obtain ⟨k, pv, ps, it, f, d⟩ := s
 have hB : ∀ (x y : Obj), Below w.heap.size w ((w.alloc x).alloc y) := fun x y => ((Below.refl _ w).alloc (Nat.le_refl _) _).alloc (by simp) _
 dsimp only at hk ⊢
 unfold sqV
 dsimp only
 rcases hk with rfl | rfl | rfl | rfl | rfl
 ·rw [fm1]
  cases d with
  | nil =>
    obtain rfl : true = q := by rw [← hq]; simp [bareOk]
    clear hq
    go_enter Tryd.func52, Tryd.ntmps52
    go_wp2
    go_ret
    exact ⟨rfl, hB _ _⟩
  | cons x d =>
    obtain rfl : false = q := by rw [← hq]; simp [bareOk]
    clear hq
    go_enter Tryd.func52, Tryd.ntmps52
    go_wp2
    go_ret
    exact ⟨rfl, hB _ _⟩
 ·rw [fm2]
  by_cases h1 : pv = 0
  ·subst h1
   cases ps with
   | nil =>
     cases it with
     | nil =>
       cases d with
       | nil =>
         obtain rfl : true = q := by rw [← hq]; simp [bareOk]
         clear hq
         go_enter Tryd.func52, Tryd.ntmps52
         go_wp2
         go_ret
         exact ⟨rfl, hB _ _⟩
       | cons x d =>
         obtain rfl : false = q := by rw [← hq]; simp [bareOk]
         clear hq
         go_enter Tryd.func52, Tryd.ntmps52
         go_wp2
         go_ret
         exact ⟨rfl, hB _ _⟩
     | cons x it =>
       obtain rfl : false = q := by rw [← hq]; simp [bareOk]
       clear hq
       go_enter Tryd.func52, Tryd.ntmps52
       go_wp2
       go_ret
       exact ⟨rfl, hB _ _⟩
   | cons x ps =>
     obtain rfl : false = q := by rw [← hq]; simp [bareOk]
     clear hq
     obtain ⟨n, hn⟩ : ∃ n, (x :: ps).length = n := ⟨_, rfl⟩
     have hn2 : 0 < n := by rw [← hn]; simp
     have t1 : ((n : Int) == 0) = false := beq_false_of_ne (by omega)
     rw [hn]
     clear hn
     go_enter Tryd.func52, Tryd.ntmps52
     go_wp2
     go_ret
     exact ⟨rfl, hB _ _⟩
  ·obtain rfl : false = q := by rw [← hq]; simp [bareOk, h1]
   have t1 := priv_ne h1
   clear hq h1
   go_enter Tryd.func52, Tryd.ntmps52
   go_wp2
   go_ret
   exact ⟨rfl, hB _ _⟩
 ·rw [fm3]
  obtain rfl : true = q := by rw [← hq]; simp [bareOk]
  clear hq
  go_enter Tryd.func52, Tryd.ntmps52
  go_wp2
  go_ret
  exact ⟨rfl, hB _ _⟩
 ·rw [fm4]
  by_cases h1 : pv = 0
  ·subst h1
   cases ps with
   | nil =>
     cases it with
     | nil =>
       obtain rfl : true = q := by rw [← hq]; simp [bareOk]
       clear hq
       go_enter Tryd.func52, Tryd.ntmps52
       go_wp2
       go_ret
       exact ⟨rfl, hB _ _⟩
     | cons x it =>
       obtain rfl : false = q := by rw [← hq]; simp [bareOk]
       clear hq
       go_enter Tryd.func52, Tryd.ntmps52
       go_wp2
       go_ret
       exact ⟨rfl, hB _ _⟩
   | cons x ps =>
     obtain rfl : false = q := by rw [← hq]; simp [bareOk]
     clear hq
     obtain ⟨n, hn⟩ : ∃ n, (x :: ps).length = n := ⟨_, rfl⟩
     have hn2 : 0 < n := by rw [← hn]; simp
     have t1 : ((n : Int) == 0) = false := beq_false_of_ne (by omega)
     rw [hn]
     clear hn
     go_enter Tryd.func52, Tryd.ntmps52
     go_wp2
     go_ret
     exact ⟨rfl, hB _ _⟩
  ·obtain rfl : false = q := by rw [← hq]; simp [bareOk, h1]
   have t1 := priv_ne h1
   clear hq h1
   go_enter Tryd.func52, Tryd.ntmps52
   go_wp2
   go_ret
   exact ⟨rfl, hB _ _⟩
 ·rw [fm5]
  by_cases h1 : pv = 0
  ·subst h1
   cases ps with
   | nil =>
     cases d with
     | nil =>
       obtain rfl : true = q := by rw [← hq]; simp [bareOk]
       clear hq
       go_enter Tryd.func52, Tryd.ntmps52
       go_wp2
       go_ret
       exact ⟨rfl, hB _ _⟩
     | cons x d =>
       obtain rfl : false = q := by rw [← hq]; simp [bareOk]
       clear hq
       go_enter Tryd.func52, Tryd.ntmps52
       go_wp2
       go_ret
       exact ⟨rfl, hB _ _⟩
   | cons x ps =>
     obtain rfl : false = q := by rw [← hq]; simp [bareOk]
     clear hq
     obtain ⟨n, hn⟩ : ∃ n, (x :: ps).length = n := ⟨_, rfl⟩
     have hn2 : 0 < n := by rw [← hn]; simp
     have t1 : ((n : Int) == 0) = false := beq_false_of_ne (by omega)
     rw [hn]
     clear hn
     go_enter Tryd.func52, Tryd.ntmps52
     go_wp2
     go_ret
     exact ⟨rfl, hB _ _⟩
  ·obtain rfl : false = q := by rw [← hq]; simp [bareOk, h1]
   have t1 := priv_ne h1
   clear hq h1
   go_enter Tryd.func52, Tryd.ntmps52
   go_wp2
   go_ret
   exact ⟨rfl, hB _ _⟩
theorem idx_mem (l : List UInt8) (c : UInt8) : (0 ≤ Lib.indexByte l c) ↔ c ∈ l := by
 induction l with
 | nil => simp [Lib.indexByte]
 | cons b l ih =>
   have := Lib.indexByte_ge l c
   unfold Lib.indexByte
   by_cases h : b = c
   ·subst h; simp
   ·have h2 : ¬ c = b := fun e => h e.symm
    rw [if_neg (by simpa using h)]
    simp only [List.mem_cons, h2, false_or, ← ih]
    by_cases h3 : Lib.indexByte l c = -1
    ·rw [if_pos (by simpa using h3)]; omega
    ·rw [if_neg (by simpa using h3)]; omega
theorem idx_in (c : UInt8) : (0 ≤ Lib.indexByte [79, 80, 88, 91, 93, 92, 94, 95] c) ↔ ([79, 80, 88, 91, 93, 92, 94, 95] : List UInt8).contains c = true := by
 rw [idx_mem, List.contains_iff_mem]
set_option maxRecDepth 100000 in
set_option maxHeartbeats 4000000 in
theorem ends_any (s : Sq) (A : Option Addr) (c : Nat) (q : Bool) (w : World) (hk : s.kind = 1 ∨ s.kind = 2 ∨ s.kind = 3 ∨ s.kind = 4 ∨ s.kind = 5) (hq : lastOk s = q) :
 Calls Tryd.prog 53 #[fmV (formF s.kind), sqV s A c] w fun e w' => e = .returned (.bool q) ∧ Below w.heap.size w w' := by
 have hB : ∀ (x y : Obj), Below w.heap.size w ((w.alloc x).alloc y) := fun x y => ((Below.refl _ w).alloc (Nat.le_refl _) _).alloc (by simp) _
 obtain ⟨q1, q5, q4, q0⟩ := last_q hq
 obtain ⟨k, pv, ps, it, f, d⟩ := s
 dsimp only at hk q1 q5 q4 ⊢
 have hf := f.toNat_lt
 unfold sqV
 dsimp only
 have key : (k = 1 ∨ k = 2 ∨ k = 3) ∨ k = 4 ∨ k = 5 := by omega
 clear hk q0
 rcases key with h | rfl | rfl
 ·have E := Lib.hid (q1 h)
  clear q1 q5 q4 hq
  obtain ⟨n, hn⟩ : ∃ n, f.toNat = n := ⟨_, rfl⟩
  rw [hn] at E hf ⊢
  clear hn
  rcases h with rfl | rfl | rfl
  ·rw [fm1]
   go_enter Tryd.func53, Tryd.ntmps53
   go_wp2
   all_goals
    go_ret
    refine ⟨ret_b ?_, hB _ _⟩
    rw [E.out, Bool.eq_iff_iff]
    simp
    omega
  ·rw [fm2]
   go_enter Tryd.func53, Tryd.ntmps53
   go_wp2
   all_goals
    go_ret
    refine ⟨ret_b ?_, hB _ _⟩
    rw [E.out, Bool.eq_iff_iff]
    simp
    omega
  ·rw [fm3]
   go_enter Tryd.func53, Tryd.ntmps53
   go_wp2
   all_goals
    go_ret
    refine ⟨ret_b ?_, hB _ _⟩
    rw [E.out, Bool.eq_iff_iff]
    simp
    omega
 ·have E := Lib.hid (q4 rfl)
  clear q1 q5 q4 hq
  obtain ⟨n, hn⟩ : ∃ n, f.toNat = n := ⟨_, rfl⟩
  rw [hn] at E hf ⊢
  clear hn
  rw [fm4]
  go_enter Tryd.func53, Tryd.ntmps53
  go_wp2
  all_goals
   go_ret
   refine ⟨ret_b ?_, hB _ _⟩
   rw [E.out, Bool.eq_iff_iff]
   simp
 ·obtain ⟨e1, e2⟩ := q5 rfl
  clear q1 q5 q4
  rw [fm5]
  cases it with
  | cons x it =>
    have E := Lib.hid (show q = (decide (48 ≤ f.toNat) && decide (f.toNat ≤ 126)) by
     by_cases h1 : 48 ≤ f.toNat
     ·by_cases h2 : f.toNat ≤ 126
      ·rw [(e2 h1 h2).1 (by simp)]; simp [h1, h2]
      ·rw [e1 (by omega)]; simp [h2]
     ·rw [e1 (by omega)]; simp [h1])
    clear e1 e2 hq
    obtain ⟨n, hn⟩ : ∃ n, f.toNat = n := ⟨_, rfl⟩
    rw [hn] at E hf ⊢
    clear hn
    go_enter Tryd.func53, Tryd.ntmps53
    go_wp2
    all_goals
     go_ret
     refine ⟨ret_b ?_, hB _ _⟩
     rw [E.out, Bool.eq_iff_iff]
     simp
     omega
  | nil =>
    clear e1 e2
    obtain ⟨x, hx⟩ : ∃ x, Lib.indexByte [79, 80, 88, 91, 93, 92, 94, 95] f = x := ⟨_, rfl⟩
    have hi := idx_in f
    rw [hx] at hi
    have HX := Lib.hid (show Lib.indexByte (⟨#[79, 80, 88, 91, 93, 92, 94, 95]⟩ : ByteArray).data.toList ((f.toNat : Int)).toNat.toUInt8 = x by rw [← hx]; congr 1; rw [Int.toNat_natCast]; simp)
    clear hx
    have HF := Lib.hid (show lastOk ⟨5, pv, ps, [], f, d⟩ = (btw 48 126 f && !([79, 80, 88, 91, 93, 92, 94, 95] : List UInt8).contains f) by simp [lastOk])
    by_cases h0 : 0 ≤ x
    ·have E := Lib.hid (show q = false by rw [← hq, HF.out, hi.1 h0]; simp)
     clear hq hi HF
     go_enter Tryd.func53, Tryd.ntmps53
     go_wp2_with fail
     refine (Tryd.strings_IndexByte _ _ _).mono ?_
     rw [HX.out]
     rintro e w1 ⟨rfl, rfl⟩
     go_wp2_with fail
     go_ret
     exact ⟨ret_b E.out.symm, hB _ _⟩
    ·have hc : ([79, 80, 88, 91, 93, 92, 94, 95] : List UInt8).contains f = false := by
      cases hh : ([79, 80, 88, 91, 93, 92, 94, 95] : List UInt8).contains f with
      | false => rfl
      | true => exact absurd (hi.2 hh) h0
     have E := Lib.hid (show q = (decide (48 ≤ f.toNat) && decide (f.toNat ≤ 126)) by rw [← hq, HF.out, hc]; simp [btw])
     clear hq hi HF hc
     obtain ⟨n, hn⟩ : ∃ n, f.toNat = n := ⟨_, rfl⟩
     rw [hn] at E hf HX ⊢
     clear hn
     go_enter Tryd.func53, Tryd.ntmps53
     go_wp2_with fail
     refine (Tryd.strings_IndexByte _ _ _).mono ?_
     rw [HX.out]
     rintro e w1 ⟨rfl, rfl⟩
     go_wp2_with fail
     all_goals
      go_ret
      refine ⟨ret_b ?_, hB _ _⟩
      rw [E.out, Bool.eq_iff_iff]
      simp
      omega
end Go.Proofs.YtgaoijinchakoaaDoor
