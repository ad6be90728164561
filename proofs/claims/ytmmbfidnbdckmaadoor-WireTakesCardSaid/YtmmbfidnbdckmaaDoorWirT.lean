/-
  Layer 3, walked: the document's guess.
-/
import Derived.Test.YtmmbfidnbdckmaaDoorWirR
import Derived.Test.YtmmbfidnbdckmaaDoorWirG
import Derived.Test.YtmmbfidnbdckmaaDoorWirS
import Derived.Test.YtmmbfidnbdckmaaDoorWpM
namespace Go.Proofs.YtmmbfidnbdckmaaDoor
open Go.RowKit

theorem getD_at (l : List UInt8) (i : Nat) (h : i < l.length) : l.getD i 0 = l[i] := by
  rw [List.getD_eq_getElem?_getD, List.getElem?_eq_getElem h, Option.getD_some]
/-- What the guess tells. -/
def GuessP (l : List UInt8) (w : World) (e : Ending) (w' : World) : Prop :=
  (match guessS l with
   | some (q, n) => ∃ A c g, e = .returned (.tuple #[sqV q A c, .int .i64 (n : Nat)]) ∧ RdPN g w' A q.params
   | none => ∃ (k b f : Int) (A : Option Addr) (n c : Nat) (x y : ByteArray), e = .returned (.tuple #[.agg #[.int .i64 k, .int .u8 b, .slice A n c, .string x, .int .u8 f, .string y], .int .i64 (-1)])) ∧ Below w.heap.size w w'
theorem gp_no {l : List UInt8} {w w' : World} {e : Ending} (h : guessS l = none) (k b f : Int) (A : Option Addr) (n c : Nat) (x y : ByteArray) (he : e = .returned (.tuple #[.agg #[.int .i64 k, .int .u8 b, .slice A n c, .string x, .int .u8 f, .string y], .int .i64 (-1)])) (hb : Below w.heap.size w w') : GuessP l w e w' := by
  unfold GuessP
  rw [h]
  exact ⟨⟨k, b, f, A, n, c, x, y, he⟩, hb⟩
theorem gp_yes {l : List UInt8} {w w' : World} {e : Ending} {q : Sq} {n : Nat} (h : guessS l = some (q, n)) (A : Option Addr) (c : Nat) (he : e = .returned (.tuple #[sqV q A c, .int .i64 n])) {g : Nat} (hr : RdPN g w' A q.params) (hb : Below w.heap.size w w') : GuessP l w e w' := by
  unfold GuessP
  rw [h]
  exact ⟨⟨A, c, g, he, hr⟩, hb⟩
theorem RdPN.below {g : Nat} {w w' : World} {A : Option Addr} {ps : List (List Int)} (h : RdPN g w A ps) (hb : Below w.heap.size w w') : RdPN g w' A ps :=
  h.keep fun k _ ⟨cur, fz, hh⟩ => hb.block k (by rcases hh with hh | hh <;> exact (Array.getElem?_eq_some_iff.1 hh).1)
theorem u8_is {c : UInt8} {n : Nat} (h : c.toNat = n) : c = UInt8.ofNat n := by rw [← h]; simp
theorem ext_list (s : ByteArray) (at_ n m a b : Nat) (hn : runL s.data.toList at_ a b = n) (hm : at_ + n = m) : (s.extract at_ m).data.toList = (s.data.toList.drop at_).takeWhile (btw a b) := by
  have h1 : (s.data.toList.drop at_).takeWhile (btw a b) = (s.data.toList.drop at_).take n := by
    rw [← hn]
    exact List.prefix_iff_eq_take.1 (List.takeWhile_prefix _)
  rw [h1, ByteArray.data_extract, Array.toList_extract, ← hm]
  simp
theorem ext_str (s : ByteArray) (at_ n m a b : Nat) (hn : runL s.data.toList at_ a b = n) (hm : at_ + n = m) : s.extract at_ m = ⟨((s.data.toList.drop at_).takeWhile (btw a b)).toArray⟩ := by
  apply ByteArray.ext
  rw [← ext_list s at_ n m a b hn hm]
theorem ext_size (s : ByteArray) (a b : Nat) (h : s.size ≤ 4294967296) : (s.extract a b).size ≤ 4294967296 := by
  rw [ByteArray.size_extract]
  omega
theorem two_bytes (s : ByteArray) (h2 : 1 < s.size) : s.data.toList = s[0] :: s[1] :: s.data.toList.drop 2 := by
  have hlen : s.data.toList.length = s.size := by simp
  have e0 := List.drop_eq_getElem_cons (l := s.data.toList) (i := 0) (by omega)
  have e1 := List.drop_eq_getElem_cons (l := s.data.toList) (i := 1) (by omega)
  rw [List.drop_zero, Nat.zero_add, e1] at e0
  exact e0
theorem third (s : ByteArray) (h : 2 < s.size) : s.data.toList.drop 2 = s[2] :: s.data.toList.drop 3 := by
  have hlen : s.data.toList.length = s.size := by simp
  exact List.drop_eq_getElem_cons (l := s.data.toList) (i := 2) (by omega)
/-- The character of a kind. -/
def kindC (k : Int) : Nat := if k = 1 then 91 else 80
theorem guess_seq (s : ByteArray) (h2 : 1 < s.size) (h0 : (s[0]'(by omega)).toNat = 27) (k : Int) (h1 : (s[1]'h2).toNat = kindC k) (hk : k = 1 ∨ k = 3) : guessS s.data.toList = seqS k (s.data.toList.drop 2) := by
  rw [two_bytes s h2, u8_is h0, u8_is h1]
  rcases hk with rfl | rfl <;> simp [guessS, kindC]
theorem seq_e (k : Int) (s : ByteArray) (h : s.size = 2) : seqS k (s.data.toList.drop 2) = tailS k 0 2 (s.data.toList.drop 2) := by
  have : s.data.toList.drop 2 = [] := List.drop_eq_nil_of_le (by simp; omega)
  rw [this]; rfl
theorem seq_no (k : Int) (s : ByteArray) (h : 2 < s.size) (hc : (s[2]'h).toNat < 60 ∨ 63 < (s[2]'h).toNat) : seqS k (s.data.toList.drop 2) = tailS k 0 2 (s.data.toList.drop 2) := by
  rw [third s h]
  unfold seqS
  dsimp only
  rw [if_neg (by rw [Bool.not_eq_true, btw_no]; omega)]
theorem seq_yes (k : Int) (s : ByteArray) (h : 2 < s.size) (hc : 60 ≤ (s[2]'h).toNat ∧ (s[2]'h).toNat ≤ 63) : seqS k (s.data.toList.drop 2) = tailS k (s[2]'h) 3 (s.data.toList.drop 3) := by
  rw [third s h]
  unfold seqS
  dsimp only
  rw [if_pos ((btw_iff _ _ _).2 hc)]
theorem tail_none (k : Int) (pv : UInt8) (at_ n1 n2 m1 m2 : Nat) (l : List UInt8) (h1 : runL l at_ 48 59 = n1) (e1 : at_ + n1 = m1) (h2 : runL l m1 32 47 = n2) (e2 : m1 + n2 = m2) (hm : l.length ≤ m2) : tailS k pv at_ (l.drop at_) = none := by
  unfold runL at h1 h2
  unfold tailS
  have d1 : (l.drop at_).drop n1 = l.drop m1 := by rw [List.drop_drop, e1]
  have d2 : (l.drop m1).drop n2 = l.drop m2 := by rw [List.drop_drop, e2]
  rw [h1, d1, h2, d2, List.drop_eq_nil_of_le hm]
theorem tail_some (k : Int) (pv : UInt8) (at_ n1 n2 m1 m2 : Nat) (l : List UInt8) (h1 : runL l at_ 48 59 = n1) (e1 : at_ + n1 = m1) (h2 : runL l m1 32 47 = n2) (e2 : m1 + n2 = m2) (ps : List (List Int)) (hp : numsL ((l.drop at_).takeWhile (btw 48 59)) = ps) (hm : m2 < l.length) :
    tailS k pv at_ (l.drop at_) = some (⟨k, pv, ps, (l.drop m1).takeWhile (btw 32 47), l.getD m2 0, if k = 3 then (l.drop (m2 + 1)).takeWhile (btw 32 126) else []⟩, m2 + 1 + if k = 3 then ((l.drop (m2 + 1)).takeWhile (btw 32 126)).length + 2 else 0) := by
  unfold runL at h1 h2
  unfold tailS
  have d1 : (l.drop at_).drop n1 = l.drop m1 := by rw [List.drop_drop, e1]
  have d2 : (l.drop m1).drop n2 = l.drop m2 := by rw [List.drop_drop, e2]
  rw [h1, d1, h2, d2, List.drop_eq_getElem_cons hm, hp]
  dsimp only
  rw [e1, e2, getD_at _ _ hm]
theorem tail_1 {pv : UInt8} {at_ m1 m2 : Nat} {l : List UInt8} {ps : List (List Int)} {x : UInt8} (h : m2 < l.length → tailS 1 pv at_ (l.drop at_) = some (⟨1, pv, ps, (l.drop m1).takeWhile (btw 32 47), l.getD m2 0, if (1 : Int) = 3 then (l.drop (m2 + 1)).takeWhile (btw 32 126) else []⟩, m2 + 1 + if (1 : Int) = 3 then ((l.drop (m2 + 1)).takeWhile (btw 32 126)).length + 2 else 0)) (hm : m2 < l.length) (hx : x = l.getD m2 0) :
    tailS 1 pv at_ (l.drop at_) = some (⟨1, pv, ps, (l.drop m1).takeWhile (btw 32 47), x, []⟩, m2 + 1) := by
  rw [h hm, hx]
  simp
theorem tail_3 {pv : UInt8} {at_ m1 m2 m3 m4 n3 : Nat} {l : List UInt8} {ps : List (List Int)} {x : UInt8} (h : m2 < l.length → tailS 3 pv at_ (l.drop at_) = some (⟨3, pv, ps, (l.drop m1).takeWhile (btw 32 47), l.getD m2 0, if (3 : Int) = 3 then (l.drop (m2 + 1)).takeWhile (btw 32 126) else []⟩, m2 + 1 + if (3 : Int) = 3 then ((l.drop (m2 + 1)).takeWhile (btw 32 126)).length + 2 else 0)) (hm : m2 < l.length) (hx : x = l.getD m2 0) (h3 : m2 + 1 = m3) (hn : runL l m3 32 126 = n3) (h4 : m3 + n3 = m4) :
    tailS 3 pv at_ (l.drop at_) = some (⟨3, pv, ps, (l.drop m1).takeWhile (btw 32 47), x, (l.drop m3).takeWhile (btw 32 126)⟩, m4 + 2) := by
  unfold runL at hn
  rw [h hm, hx, h3, if_pos rfl, if_pos rfl, hn, ← h4]
  rfl
theorem guess_short (s : ByteArray) (h : s.size < 2) : guessS s.data.toList = none := by
  have hlen : s.data.toList.length = s.size := by simp
  match hl : s.data.toList with
  | [] => rfl
  | [c] => rfl
  | a :: b :: r => rw [hl] at hlen; simp at hlen; omega
theorem guess_not (s : ByteArray) (h2 : 1 < s.size) (h0 : (s[0]'(by omega)).toNat ≠ 27) : guessS s.data.toList = none := by
  have e : s[0]'(by omega) ≠ 27 := fun e => h0 (by rw [e]; rfl)
  rw [two_bytes s h2]
  unfold guessS
  dsimp only
  rw [if_pos e]
theorem guess_79n (s : ByteArray) (h2 : s.size = 2) (h0 : (s[0]'(by omega)).toNat = 27) (h1 : (s[1]'(by omega)).toNat = 79) : guessS s.data.toList = none := by
  have e : s.data.toList.drop 2 = [] := List.drop_eq_nil_of_le (by simp; omega)
  rw [two_bytes s (by omega), u8_is h0, u8_is h1, e]
  rfl
theorem guess_79s (s : ByteArray) (h2 : 2 < s.size) (h0 : (s[0]'(by omega)).toNat = 27) (h1 : (s[1]'(by omega)).toNat = 79) : guessS s.data.toList = some (⟨2, 0, [], [], s[2], []⟩, 3) := by
  rw [two_bytes s (by omega), u8_is h0, u8_is h1, third s h2]
  rfl
theorem guess_93 (s : ByteArray) (h2 : 1 < s.size) (h0 : (s[0]'(by omega)).toNat = 27) (h1 : (s[1]'h2).toNat = 93) (n m : Nat) (hn : runL s.data.toList 2 32 126 = n) (hm : 2 + n = m) : guessS s.data.toList = some (⟨4, 0, [], [], 0, (s.data.toList.drop 2).takeWhile (btw 32 126)⟩, m + 2) := by
  unfold runL at hn
  rw [← hm, ← hn]
  conv => lhs; rw [two_bytes s h2, u8_is h0, u8_is h1]
  rfl
theorem guess_esc (s : ByteArray) (h2 : 1 < s.size) (h0 : (s[0]'(by omega)).toNat = 27) (h1 : (s[1]'h2).toNat ≠ 79 ∧ (s[1]'h2).toNat ≠ 93 ∧ (s[1]'h2).toNat ≠ 91 ∧ (s[1]'h2).toNat ≠ 80) : guessS s.data.toList = escS (s.data.toList.drop 1) := by
  obtain ⟨e1, e2, e3, e4⟩ := h1
  rw [two_bytes s h2, u8_is h0]
  unfold guessS
  dsimp only
  rw [if_neg (by decide), if_neg (fun e => e1 (by rw [e]; rfl)), if_neg (fun e => e2 (by rw [e]; rfl)), if_neg (fun e => e3 (by rw [e]; rfl)), if_neg (fun e => e4 (by rw [e]; rfl))]
  rfl
theorem esc_none (l : List UInt8) (n2 m2 : Nat) (h2 : runL l 1 32 47 = n2) (e2 : 1 + n2 = m2) (hm : l.length ≤ m2) : escS (l.drop 1) = none := by
  unfold runL at h2
  unfold escS
  rw [h2, List.drop_drop, e2, List.drop_eq_nil_of_le hm]
theorem esc_some (l : List UInt8) (n2 m2 : Nat) (x : UInt8) (h2 : runL l 1 32 47 = n2) (e2 : 1 + n2 = m2) (hm : m2 < l.length) (hx : x = l.getD m2 0) : escS (l.drop 1) = some (⟨5, 0, [], (l.drop 1).takeWhile (btw 32 47), x, []⟩, m2 + 1) := by
  unfold runL at h2
  unfold escS
  rw [h2, List.drop_drop, e2, List.drop_eq_getElem_cons hm, hx, getD_at _ _ hm]
end Go.Proofs.YtmmbfidnbdckmaaDoor
