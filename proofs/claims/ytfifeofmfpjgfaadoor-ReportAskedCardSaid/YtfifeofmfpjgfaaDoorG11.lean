/-
  Layer 3's mathematics: a sequence's body, a parameter at a time; its length. Cut out of WirF: what names no function of any dump. Layer 9: what keys are: mathematics. Cut out of WpT: what names no function of any dump. Layer 3's mathematics: what a reader of bytes reads, a piece at a time; that it is just the sequence with which the bytes begin. Layer 8, the document's Flags. Cut out of WirY: what names no function of any dump. Layer 3, walked: the document's last and bare. Layer 3, walked: the document's bare.
-/
import Derived.Test.YtfifeofmfpjgfaaDoorG01
import Derived.Test.YtfifeofmfpjgfaaDoorG02
import Derived.Test.YtfifeofmfpjgfaaDoorG03
import Derived.Test.YtfifeofmfpjgfaaDoorG08
import Derived.Test.YtfifeofmfpjgfaaDoorG10
import Derived.Lib.Join
import Derived.Laws.Small
import Derived.IntWalk
namespace Go.Proofs.YtfifeofmfpjgfaaDoor
open Go.RowKit
theorem str_cat (a b c : List UInt8) (h : a ++ b = c) : (⟨a.toArray⟩ : ByteArray) ++ (⟨b.toArray⟩ : ByteArray) = ⟨c.toArray⟩ := by
 subst h
 apply ByteArray.ext
 simp [ByteArray.data_append]
theorem partL_snoc (p : List Int) (n : Int) : partL (p ++ [n]) = partL p ++ (if p = [] then [] else [58]) ++ textL n := by
 match p with
 | [] => simp [partL]
 | [m] => simp [partL]
 | m :: k :: p =>
   have ih := partL_snoc (k :: p) n
   show textL m ++ (58 :: partL (k :: p ++ [n])) = _
   rw [ih]
   simp [partL]
theorem parL_snoc (l : List (List Int)) (p : List Int) : parL (l ++ [p]) = parL l ++ (if l = [] then [] else [59]) ++ partL p := by
 match l with
 | [] => simp [parL]
 | [m] => simp [parL]
 | m :: k :: l =>
   have ih := parL_snoc (k :: l) p
   show partL m ++ (59 :: parL (k :: l ++ [p])) = _
   rw [ih]
   simp [parL]
theorem partL_len : ∀ (p : List Int), partOk p → (partL p).length ≤ 22 * p.length := by
 intro p ho
 match p with
 | [] => simp [partL]
 | [n] =>
   have := textL_length n (by have := ho n (List.mem_cons_self ..); omega)
   simp only [partL, List.length_cons, List.length_nil]; omega
 | n :: m :: p =>
   have h1 := textL_length n (by have := ho n (List.mem_cons_self ..); omega)
   have h2 := partL_len (m :: p) (fun x hx => ho x (List.mem_cons_of_mem _ hx))
   show (textL n ++ (58 :: partL (m :: p))).length ≤ _
   rw [List.length_append, List.length_cons]
   simp only [List.length_cons] at *
   omega
theorem partL_take {p : List Int} {k : Nat} (h : k < p.length) : partL (p.take (k + 1)) = partL (p.take k) ++ (if k = 0 then [] else [58]) ++ textL p[k] := by
 rw [List.take_succ_eq_append_getElem h, partL_snoc]
 congr 2
 by_cases hk : k = 0
 ·subst hk; simp
 ·rw [if_neg hk, if_neg]
  intro e
  have := congrArg List.length e
  rw [List.length_take, List.length_nil] at this
  omega
theorem parL_take {l : List (List Int)} {k : Nat} (h : k < l.length) : parL (l.take (k + 1)) = parL (l.take k) ++ (if k = 0 then [] else [59]) ++ partL l[k] := by
 rw [List.take_succ_eq_append_getElem h, parL_snoc]
 congr 2
 by_cases hk : k = 0
 ·subst hk; simp
 ·rw [if_neg hk, if_neg]
  intro e
  have := congrArg List.length e
  rw [List.length_take, List.length_nil] at this
  omega
theorem parL_len : ∀ (l : List (List Int)), (∀ p ∈ l, p.length ≤ 8 ∧ partOk p) → (parL l).length ≤ 177 * l.length := by
 intro l ho
 match l with
 | [] => simp [parL]
 | [p] =>
   have h := ho p (List.mem_cons_self ..)
   have := partL_len p h.2
   simp only [parL, List.length_cons, List.length_nil]; omega
 | p :: q :: l =>
   have h := ho p (List.mem_cons_self ..)
   have h1 := partL_len p h.2
   have h2 := parL_len (q :: l) (fun x hx => ho x (List.mem_cons_of_mem _ hx))
   show (partL p ++ (59 :: parL (q :: l))).length ≤ _
   rw [List.length_append, List.length_cons]
   simp only [List.length_cons] at *
   omega
theorem parOk_lens {l : List (List Int)} (h : parOk l = true) : l.length ≤ 16 ∧ ∀ p ∈ l, p.length ≤ 8 ∧ partOk p := by
 simp only [parOk, Bool.and_eq_true, decide_eq_true_eq, List.all_eq_true] at h
 refine ⟨h.1.1, fun p hp => ?_⟩
 obtain ⟨⟨_, h1⟩, h2⟩ := h.2 p hp
 exact ⟨h1, fun n hn => h2 n hn⟩
def WYes (T : List UInt8) (w : World) (e : Ending) (w' : World) : Prop := (∃ A c, e = .returned (.tuple #[.slice A T.length c, .int .i64 0]) ∧ T.length ≤ c ∧ Rd w' A (bs T)) ∧ Below w.heap.size w w'
def WNo (m : Int) (w : World) (e : Ending) (w' : World) : Prop := e = .returned (.tuple #[.slice none 0 0, .int .i64 m]) ∧ Below w.heap.size w w'
theorem body_len {s : Sq} (hp : parOk s.params = true) (hi : s.inter.length ≤ 2) : (bodyL s).length ≤ 3000 := by
 obtain ⟨h1, h2⟩ := parOk_lens hp
 have h3 := parL_len s.params h2
 have h4 : (privL s.priv).length ≤ 1 := by unfold privL; split <;> simp
 unfold bodyL
 rw [List.length_append, List.length_append]
 omega
end Go.Proofs.YtfifeofmfpjgfaaDoor
namespace Go.Proofs.YtfifeofmfpjgfaaDoor
structure En where
 kind : Int
 fin : Int
 num : Int
 char : Int
 keys : Bool
deriving DecidableEq
end Go.Proofs.YtfifeofmfpjgfaaDoor
namespace Go.Proofs.YtfifeofmfpjgfaaDoor
open Go.RowKit
def ss_ (l : List (List UInt8)) : List Value := l.map fun t => .string ⟨t.toArray⟩
theorem join_cons2 (sep p q : List UInt8) (l : List (List UInt8)) : Lib.join (p :: q :: l) sep = p ++ sep ++ Lib.join (q :: l) sep := by
 simp [Lib.join, List.intercalate_cons_cons]
theorem join_part (p : List Int) : Lib.join (p.map textL) [58] = partL p := by
 match p with
 | [] => rfl
 | [n] => simp [Lib.join, partL]
 | n :: m :: p =>
   rw [List.map_cons, List.map_cons, join_cons2, ← List.map_cons, join_part (m :: p)]
   simp [partL]
theorem join_par (l : List (List Int)) : Lib.join (l.map partL) [59] = parL l := by
 match l with
 | [] => rfl
 | [n] => simp [Lib.join, parL]
 | n :: m :: p =>
   rw [List.map_cons, List.map_cons, join_cons2, ← List.map_cons, join_par (m :: p)]
   simp [parL]
end Go.Proofs.YtfifeofmfpjgfaaDoor
namespace Go.Proofs.YtfifeofmfpjgfaaDoor
end Go.Proofs.YtfifeofmfpjgfaaDoor
namespace Go.Proofs.YtfifeofmfpjgfaaDoor
open Go.RowKit
set_option maxRecDepth 100000 in
set_option maxHeartbeats 2000000 in
theorem rflags_any (n : Int) (w : World) : Calls Tryd.prog 39 #[.int .i64 n] w fun e w' => e = .returned (.int .i64 (flg n)) ∧ Below w.heap.size w w' := by
 obtain ⟨N, hN⟩ : ∃ N, max n 0 = N := ⟨_, rfl⟩
 have hmax := maxZ n N hN (P := Tryd.prog)
 obtain ⟨F, hF⟩ : ∃ F, flg n = F := ⟨_, rfl⟩
 have hm : Int.tmod N 32 = F := by
  rw [Int.tmod_eq_emod_of_nonneg (by omega), ← hF, ← hN]
  rfl
 rw [hF]
 clear hF hN
 go_enter Tryd.func39, Tryd.ntmps39
 go_wp2
 go_ret
 exact ⟨rfl, by first | exact Below.refl _ _ | exact below_drewN (Below.refl _ _) _⟩
theorem may_1 {s : Sq} (h : s.data.length ≤ 4096) (h1 : okS s = false) : mayS s = 1 := by
 unfold mayS; rw [if_neg (by omega), if_neg (by rw [h1]; decide)]
theorem may_0 {s : Sq} (h : s.data.length ≤ 4096) (h1 : okS s = true) : mayS s = 0 := by
 unfold mayS; rw [if_neg (by omega), if_pos h1]
theorem may_4 {s : Sq} (h : 4096 < s.data.length) : mayS s = 4 := by unfold mayS; rw [if_pos h]
set_option maxRecDepth 100000 in
set_option maxHeartbeats 4000000 in
theorem last_any (s : Sq) (A : Option Addr) (c : Nat) (q : Bool) (w : World) (hq : lastOk s = q) :
 Calls Tryd.prog 42 #[sqV s A c] w fun e w' => e = .returned (.bool q) ∧ Below w.heap.size w w' := by
 obtain ⟨q1, q5, q4, q0⟩ := last_q hq
 clear hq
 obtain ⟨k, pv, ps, it, f, d⟩ := s
 dsimp only at q1 q5 q4 q0
 have hf := f.toNat_lt
 obtain ⟨n, hn⟩ : ∃ n, f.toNat = n := ⟨_, rfl⟩
 rw [hn] at q1 q5 q4 hf
 unfold sqV
 dsimp only
 rw [hn]
 clear hn
 by_cases k1 : k = 1 ∨ k = 2 ∨ k = 3
 ·have E := Lib.hid (q1 k1)
  clear q1 q5 q4 q0
  rcases k1 with rfl | rfl | rfl
  all_goals
   go_enter Tryd.func42, Tryd.ntmps42
   go_wp2
   all_goals
    go_ret
    refine ⟨ret_b ?_, (Below.refl _ _).alloc (Nat.le_refl _) _⟩
    rw [E.out, Bool.eq_iff_iff]
    simp only [Bool.and_eq_true, decide_eq_true_eq, Bool.false_eq_true, false_iff]
    omega
 ·by_cases k5 : k = 5
  ·obtain ⟨e1, e2⟩ := q5 k5
   subst k5
   clear q1 q4 q0 k1 q5
   by_cases hr : n < 48 ∨ 126 < n
   ·have E := Lib.hid (e1 hr)
    clear e1 e2
    rcases hr with hr | hr
    all_goals
     go_enter Tryd.func42, Tryd.ntmps42
     go_wp2
     go_ret
     exact ⟨ret_b E.out.symm, (Below.refl _ _).alloc (Nat.le_refl _) _⟩
   ·have n0 : 48 ≤ n := by omega
    have n1 : n ≤ 126 := by omega
    obtain ⟨e3, e4⟩ := e2 n0 n1
    clear e1 e2 hr
    cases it with
    | cons x it =>
      have E := Lib.hid (e3 (by simp))
      clear e3 e4
      go_enter Tryd.func42, Tryd.ntmps42
      go_wp2
      go_ret
      exact ⟨ret_b E.out.symm, (Below.refl _ _).alloc (Nat.le_refl _) _⟩
    | nil =>
      have E := Lib.hid (e4 rfl)
      clear e3 e4
      go_enter Tryd.func42, Tryd.ntmps42
      go_wp2
      all_goals
       go_ret
       refine ⟨ret_b ?_, (Below.refl _ _).alloc (Nat.le_refl _) _⟩
       rw [E.out, Bool.eq_iff_iff]
       simp
       omega
  ·by_cases k4 : k = 4
   ·have E := Lib.hid (q4 k4)
    subst k4
    clear q1 q4 q0 k1 q5 k5
    go_enter Tryd.func42, Tryd.ntmps42
    go_wp2
    all_goals
     go_ret
     refine ⟨ret_b ?_, (Below.refl _ _).alloc (Nat.le_refl _) _⟩
     rw [E.out, Bool.eq_iff_iff]
     simp
   ·have E := Lib.hid (q0 (by omega))
    have t1 : (k == 1) = false := beq_false_of_ne (by omega)
    have t2 : (k == 2) = false := beq_false_of_ne (by omega)
    have t3 : (k == 3) = false := beq_false_of_ne (by omega)
    have t4 : (k == 4) = false := beq_false_of_ne k4
    have t5 : (k == 5) = false := beq_false_of_ne k5
    clear q1 q4 q0 k1 q5 k5 k4
    go_enter Tryd.func42, Tryd.ntmps42
    go_wp2
    go_ret
    exact ⟨ret_b E.out.symm, (Below.refl _ _).alloc (Nat.le_refl _) _⟩
set_option maxRecDepth 100000 in
set_option maxHeartbeats 4000000 in
theorem bare_any (s : Sq) (A : Option Addr) (c : Nat) (q : Bool) (w : World) (hq : bareOk s = q) :
 Calls Tryd.prog 43 #[sqV s A c] w fun e w' => e = .returned (.bool q) ∧ Below w.heap.size w w' := by
 obtain ⟨k, pv, ps, it, f, d⟩ := s
 unfold sqV
 dsimp only
 have key : (k = 2 ∨ k = 4 ∨ k = 5) ∧ pv ≠ 0 ∧ q = false ∨ (k = 2 ∨ k = 4 ∨ k = 5) ∧ pv = 0 ∧ ps ≠ [] ∧ q = false ∨ (k = 2 ∨ k = 4) ∧ pv = 0 ∧ ps = [] ∧ it ≠ [] ∧ q = false ∨
  (k = 2 ∧ pv = 0 ∧ ps = [] ∧ it = [] ∨ k = 5 ∧ pv = 0 ∧ ps = []) ∧ q = decide (d = []) ∨ k = 4 ∧ pv = 0 ∧ ps = [] ∧ it = [] ∧ q = true ∨ k = 3 ∧ q = true ∨ (k ≠ 2 ∧ k ≠ 3 ∧ k ≠ 4 ∧ k ≠ 5) ∧ q = decide (d = []) := by
  subst hq
  unfold bareOk
  dsimp only
  by_cases k2 : k = 2
  ·subst k2
   by_cases h1 : pv = 0 <;> by_cases h2 : ps = [] <;> by_cases h3 : it = [] <;> simp [h1, h2, h3]
  ·by_cases k4 : k = 4
   ·subst k4
    by_cases h1 : pv = 0 <;> by_cases h2 : ps = [] <;> by_cases h3 : it = [] <;> simp [h1, h2, h3]
   ·by_cases k5 : k = 5
    ·subst k5
     by_cases h1 : pv = 0 <;> by_cases h2 : ps = [] <;> simp [h1, h2]
    ·by_cases k3 : k = 3
     ·subst k3; simp
     ·simp [k2, k3, k4, k5]
 clear hq
 rcases key with ⟨hk, hp, rfl⟩ | ⟨hk, rfl, hp, rfl⟩ | ⟨hk, rfl, rfl, hi, rfl⟩ | ⟨⟨rfl, rfl, rfl, rfl⟩ | ⟨rfl, rfl, rfl⟩, hq⟩ | ⟨rfl, rfl, rfl, rfl, rfl⟩ | ⟨rfl, rfl⟩ | ⟨⟨k2, k3, k4, k5⟩, hq⟩
 ·have hn : pv.toNat ≠ 0 := fun e => hp (UInt8.toNat_inj.1 e)
  have t1 : ((pv.toNat : Int) == 0) = false := beq_false_of_ne (by omega)
  have t2 : ((pv.toNat : Int) != 0) = true := by simp [bne, t1]
  clear hp
  rcases hk with rfl | rfl | rfl
  all_goals
   go_enter Tryd.func43, Tryd.ntmps43
   go_wp2
   go_ret
   exact ⟨rfl, (Below.refl _ _).alloc (Nat.le_refl _) _⟩
 ·have hn : 0 < ps.length := List.length_pos_iff.2 hp
  have hn2 : (0 : Int) < (ps.length : Int) := by omega
  clear hp
  rcases hk with rfl | rfl | rfl
  all_goals
   go_enter Tryd.func43, Tryd.ntmps43
   go_wp2
   go_ret
   exact ⟨rfl, (Below.refl _ _).alloc (Nat.le_refl _) _⟩
 ·cases it with
  | nil => exact absurd rfl hi
  | cons x it =>
    clear hi
    rcases hk with rfl | rfl
    all_goals
     go_enter Tryd.func43, Tryd.ntmps43
     go_wp2
     go_ret
     exact ⟨rfl, (Below.refl _ _).alloc (Nat.le_refl _) _⟩
 ·cases d with
  | nil =>
    obtain rfl : true = q := hq.symm
    clear hq
    go_enter Tryd.func43, Tryd.ntmps43
    go_wp2
    go_ret
    exact ⟨rfl, (Below.refl _ _).alloc (Nat.le_refl _) _⟩
  | cons x d =>
    obtain rfl : false = q := hq.symm
    clear hq
    go_enter Tryd.func43, Tryd.ntmps43
    go_wp2
    go_ret
    exact ⟨rfl, (Below.refl _ _).alloc (Nat.le_refl _) _⟩
 ·cases d with
  | nil =>
    obtain rfl : true = q := hq.symm
    clear hq
    go_enter Tryd.func43, Tryd.ntmps43
    go_wp2
    go_ret
    exact ⟨rfl, (Below.refl _ _).alloc (Nat.le_refl _) _⟩
  | cons x d =>
    obtain rfl : false = q := hq.symm
    clear hq
    go_enter Tryd.func43, Tryd.ntmps43
    go_wp2
    go_ret
    exact ⟨rfl, (Below.refl _ _).alloc (Nat.le_refl _) _⟩
 ·cases d
  all_goals
   go_enter Tryd.func43, Tryd.ntmps43
   go_wp2
   go_ret
   exact ⟨rfl, (Below.refl _ _).alloc (Nat.le_refl _) _⟩
 ·cases d
  all_goals
   go_enter Tryd.func43, Tryd.ntmps43
   go_wp2
   go_ret
   exact ⟨rfl, (Below.refl _ _).alloc (Nat.le_refl _) _⟩
 ·have t2 : (k == 2) = false := beq_false_of_ne k2
  have t3 : (k == 3) = false := beq_false_of_ne k3
  have t4 : (k == 4) = false := beq_false_of_ne k4
  have t5 : (k == 5) = false := beq_false_of_ne k5
  clear k2 k3 k4 k5
  cases d with
  | nil =>
    obtain rfl : true = q := hq.symm
    clear hq
    go_enter Tryd.func43, Tryd.ntmps43
    go_wp2
    go_ret
    exact ⟨rfl, (Below.refl _ _).alloc (Nat.le_refl _) _⟩
  | cons x d =>
    obtain rfl : false = q := hq.symm
    clear hq
    go_enter Tryd.func43, Tryd.ntmps43
    go_wp2
    go_ret
    exact ⟨rfl, (Below.refl _ _).alloc (Nat.le_refl _) _⟩
end Go.Proofs.YtfifeofmfpjgfaaDoor
