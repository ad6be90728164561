/-
  Layer 2, walked: what a code point is; the sizes, in their array. Layer 2, the mathematics of following bytes. Numbers in figures, plainly: no program is named here. (Later layers' texts take this in the place of layer 1's own.) Layer 3's mathematics: a sequence, whether it may be, its bytes, and the sequence with which bytes begin. Layer 3, walked: the program's reader: skip, run, one, part.
  Cut out of RdA.
-/
import Derived.Test.YtgaoijinchakoaaDoorG01
import Derived.Test.YtgaoijinchakoaaDoorG03
import Derived.Test.YtgaoijinchakoaaDoorG04
import Derived.Test.YtgaoijinchakoaaDoorG05
import Derived.BigQuiet
import Derived.Deep.QuietTactic
import Derived.Lib.ItoaLen
import Derived.Deep.RegionHeld
namespace Go.Proofs.YtgaoijinchakoaaDoor
open Go.RowKit
set_option maxHeartbeats 1000000 in
theorem isPt_any (r : Int) (w : World) : Calls Tryd.prog 44 #[.int .i64 r] w fun e w' => e = .returned (.bool (isPt r)) ∧ w = w' := by
 by_cases h0 : 0 ≤ r
 ·by_cases h1 : r ≤ 1114111
  ·by_cases h2 : r < 55296
   ·go_enter Tryd.func44, Tryd.ntmps44
    go_wp2
    go_ret
    exact ⟨ret_b (((isPt_iff r).2 (by omega)).symm), rfl⟩
   ·by_cases h3 : 57343 < r
    ·go_enter Tryd.func44, Tryd.ntmps44
     go_wp2
     go_ret
     exact ⟨ret_b (((isPt_iff r).2 (by omega)).symm), rfl⟩
    ·go_enter Tryd.func44, Tryd.ntmps44
     go_wp2
     go_ret
     exact ⟨ret_b (((isPt_no r).2 (by omega)).symm), rfl⟩
  ·go_enter Tryd.func44, Tryd.ntmps44
   go_wp2
   go_ret
   exact ⟨ret_b (((isPt_no r).2 (by omega)).symm), rfl⟩
 ·go_enter Tryd.func44, Tryd.ntmps44
  go_wp2
  go_ret
  exact ⟨ret_b (((isPt_no r).2 (by omega)).symm), rfl⟩
def sizC : Array Value := #[.int .i64 1, .int .i64 0, .int .i64 0, .int .i64 2, .int .i64 128, .int .i64 192, .int .i64 3, .int .i64 2048, .int .i64 224, .int .i64 4, .int .i64 65536, .int .i64 240]
def Siz (w : World) : Prop := ∃ t fz, w.heap[0]? = some (.cells sizC t fz)
theorem Siz.below {w w' : World} {B : Nat} (h : Siz w) (hb : Below B w w') (hB : w.heap.size ≤ B) : Siz w' := by
 obtain ⟨t, fz, hh⟩ := h
 have := (Array.getElem?_eq_some_iff.1 hh).1
 exact ⟨t, fz, (hb.block _ (by omega)).trans hh⟩
theorem Siz.below' {w w' : World} (h : Siz w) (hb : Below w.heap.size w w') : Siz w' := h.below hb (Nat.le_refl _)
def szA : Nat → Array Value
 | 0 => #[.int .i64 1, .int .i64 0, .int .i64 0]
 | 1 => #[.int .i64 2, .int .i64 128, .int .i64 192]
 | 2 => #[.int .i64 3, .int .i64 2048, .int .i64 224]
 | _ => #[.int .i64 4, .int .i64 65536, .int .i64 240]
def ixP (r : Int) (k : Nat) : Nat := if 3 < k ∧ 65536 ≤ r then 3 else if 2 < k ∧ 2048 ≤ r then 2 else if 1 < k ∧ 128 ≤ r then 1 else 0
def ixF (r : Int) (k : Nat) : Nat := if 3 < k ∧ 240 ≤ r then 3 else if 2 < k ∧ 224 ≤ r then 2 else if 1 < k ∧ 192 ≤ r then 1 else 0
end Go.Proofs.YtgaoijinchakoaaDoor
namespace Go.Proofs.YtgaoijinchakoaaDoor
def accL (x : Int) : List UInt8 → Option Int
 | [] => some x
 | c :: t => if fol c = true then accL (x * 64 + ((c.toNat : Int) - 128)) t else none
theorem accL_append (x : Int) (t u : List UInt8) : accL x (t ++ u) = (accL x t).bind fun y => accL y u := by
 induction t generalizing x with
 | nil => rfl
 | cons c t ih =>
   by_cases hf : fol c = true
   ·have e1 : ∀ t, accL x (c :: t) = accL (x * 64 + ((c.toNat : Int) - 128)) t := fun t => if_pos hf
    rw [List.cons_append, e1, e1]
    exact ih _
   ·have e1 : ∀ t, accL x (c :: t) = none := fun t => if_neg hf
    rw [List.cons_append, e1, e1]
    rfl
theorem accL_step (x : Int) (l : List UInt8) (k : Nat) (h : k < l.length) (y : Int) (hy : accL x (l.take k) = some y) :
 accL x (l.take (k + 1)) = if fol l[k] = true then some (y * 64 + ((l[k].toNat : Int) - 128)) else none := by
 rw [List.take_succ_eq_append_getElem h, accL_append, hy]
 rfl
theorem accL_none (x : Int) (l : List UInt8) (k j : Nat) (hk : k ≤ j) (h : accL x (l.take k) = none) : accL x (l.take j) = none := by
 have e : l.take j = l.take k ++ (l.drop k).take (j - k) := by
  rw [← List.take_add, show k + (j - k) = j by omega]
 rw [e, accL_append, h]; rfl
theorem accL_bd : ∀ (t : List UInt8) (x y : Int), 0 ≤ x → accL x t = some y → 0 ≤ y := by
 intro t
 induction t with
 | nil => intro x y h0 h; injection h with h; omega
 | cons c t ih =>
   intro x y h0 h
   unfold accL at h
   split at h
   ·rename_i hf
    have := (fol_iff c).1 hf
    exact ih _ y (by omega) h
   ·cases h
theorem accL_up (x : Int) (l : List UInt8) (k : Nat) (hk : k ≤ 3) (h0 : 0 ≤ x) (h1 : x < 256) (y : Int) (h : accL x (l.take k) = some y) : 0 ≤ y ∧ y < 67108864 := by
 refine ⟨accL_bd _ _ _ h0 h, ?_⟩
 have step : ∀ (t : List UInt8) (x y B : Int), x < B → accL x t = some y → y < B * 64 ^ t.length := by
  intro t
  induction t with
  | nil => intro x y B hB h; injection h with h; simp; omega
  | cons c t ih =>
    intro x y B hB h
    unfold accL at h
    split at h
    ·rename_i hf
     have := (fol_iff c).1 hf
     have h2 := ih _ y (B * 64) (by omega) h
     rw [List.length_cons, show B * 64 ^ (t.length + 1) = B * 64 * 64 ^ t.length by rw [Int.pow_succ]; simp only [Int.mul_assoc]; rw [Int.mul_comm (64 ^ t.length)]]
     exact h2
    ·cases h
 have hs := step _ x y 256 h1 h
 have hl : (l.take k).length ≤ 3 := Nat.le_trans (List.length_take_le _ _) hk
 have : (l.take k).length = 0 ∨ (l.take k).length = 1 ∨ (l.take k).length = 2 ∨ (l.take k).length = 3 := by omega
 rcases this with e | e | e | e <;> (rw [e] at hs; simp at hs; omega)
def textL (n : Int) : List UInt8 := if n < 0 then [] else Lib.decDigits n.toNat
theorem textL_neg (n : Int) (h : n < 0) : textL n = [] := if_pos h
theorem textL_small (n : Int) (h0 : 0 ≤ n) (h : n < 10) : textL n = [UInt8.ofNat (48 + n.toNat)] := by
 unfold textL; rw [if_neg (by omega), Lib.decDigits, dif_pos (by omega)]
theorem textL_big (n : Int) (h : 10 ≤ n) : textL n = textL (n / 10) ++ [UInt8.ofNat (48 + (n % 10).toNat)] := by
 unfold textL
 rw [if_neg (by omega), if_neg (by omega), Lib.decDigits, dif_neg (by omega)]
 rw [show (n / 10).toNat = n.toNat / 10 by omega, show (n % 10).toNat = n.toNat % 10 by omega]
theorem textL_length (n : Int) (h1 : n ≤ 9223372036854775807) : (textL n).length ≤ 21 := by
 by_cases h : n < 0
 ·rw [textL_neg n h]; simp
 ·rw [show textL n = Lib.itoa n by unfold textL Lib.itoa; rw [if_neg h, if_neg h]]
  exact Lib.itoa_length_le n (by omega) h1
def isD (c : UInt8) : Bool := decide (48 ≤ c.toNat ∧ c.toNat ≤ 57)
def rd (M : Int) (n : Int) (c : UInt8) : Int := min (10 * max n 0 + ((c.toNat : Int) - 48)) M
structure Sq where
 kind : Int
 priv : UInt8
 params : List (List Int)
 inter : List UInt8
 final : UInt8
 data : List UInt8
def btw (a b : Nat) (c : UInt8) : Bool := decide (a ≤ c.toNat) && decide (c.toNat ≤ b)
theorem btw_iff (a b : Nat) (c : UInt8) : btw a b c = true ↔ a ≤ c.toNat ∧ c.toNat ≤ b := by simp [btw]
theorem btw_no (a b : Nat) (c : UInt8) : btw a b c = false ↔ ¬ (a ≤ c.toNat ∧ c.toNat ≤ b) := by rw [← btw_iff]; simp
def parOk (l : List (List Int)) : Bool := decide (l.length ≤ 16) && decide (l ≠ [[-1]]) && l.all fun p => decide (1 ≤ p.length) && decide (p.length ≤ 8) && p.all fun n => decide (-1 ≤ n) && decide (n ≤ 1114111)
def lastOk (s : Sq) : Bool :=
 if s.kind = 1 ∨ s.kind = 2 ∨ s.kind = 3 then btw 64 126 s.final
 else if s.kind = 5 then btw 48 126 s.final && (decide (s.inter ≠ []) || !([79, 80, 88, 91, 93, 92, 94, 95] : List UInt8).contains s.final)
 else decide (s.kind = 4) && decide (s.final = 0)
def bareOk (s : Sq) : Bool :=
 !(decide (s.kind = 2 ∨ s.kind = 4 ∨ s.kind = 5) && (decide (s.priv ≠ 0) || decide (s.params ≠ []))) && !(decide (s.kind = 2 ∨ s.kind = 4) && decide (s.inter ≠ [])) && (decide (s.data = []) || decide (s.kind = 3 ∨ s.kind = 4))
def privOk (c : UInt8) : Bool := decide (c = 0) || btw 60 63 c
def okS (s : Sq) : Bool := privOk s.priv && parOk s.params && decide (s.inter.length ≤ 2) && s.inter.all (btw 32 47) && s.data.all (btw 32 126) && lastOk s && bareOk s
def mayS (s : Sq) : Int := if 4096 < s.data.length then 4 else if okS s = true then 0 else 1
def partL : List Int → List UInt8
 | [] => []
 | [n] => textL n
 | n :: m :: p => textL n ++ (58 :: partL (m :: p))
def parL : List (List Int) → List UInt8
 | [] => []
 | [p] => partL p
 | p :: q :: l => partL p ++ (59 :: parL (q :: l))
def privL (c : UInt8) : List UInt8 := if c = 0 then [] else [c]
def bodyL (s : Sq) : List UInt8 := privL s.priv ++ parL s.params ++ s.inter
def putS (s : Sq) : List UInt8 :=
 if s.kind = 1 then 27 :: 91 :: (bodyL s ++ [s.final])
 else if s.kind = 2 then [27, 79, s.final]
 else if s.kind = 3 then 27 :: 80 :: (bodyL s ++ (s.final :: (s.data ++ [27, 92])))
 else if s.kind = 4 then 27 :: 93 :: (s.data ++ [27, 92])
 else 27 :: (s.inter ++ [s.final])
def partOk (p : List Int) : Prop := ∀ n ∈ p, -1 ≤ n ∧ n ≤ 1114111
end Go.Proofs.YtgaoijinchakoaaDoor
namespace Go.Proofs.YtgaoijinchakoaaDoor
open Go.RowKit
theorem conv_own (P : Program) (src dst e : TypeId) (t : List UInt8) (hs : P.underlying src = some .string) (hd : P.underlying dst = some (.slice e)) (he : P.underlying e = some (.int .u8)) (hm : t.length ≤ maxLen) :
 ∃ (C : World → Nat) (X : World → World), ∀ W, (convert src dst (.string ⟨t.toArray⟩)).run P W = .ok (.slice (some ⟨W.heap.size, 0, none⟩) t.length (C W)) (X W) ∧ t.length ≤ C W ∧
   Rd (X W) (some ⟨W.heap.size, 0, none⟩) (bs t) ∧ Below W.heap.size W (X W) ∧ Own (X W) W.heap.size e 1 (.slice (some ⟨W.heap.size, 0, none⟩) t.length (C W)) t.length (bs t) := by
 refine ⟨fun W => grownCap W t.length 0 e, fun W => W.drew.alloc (.cells (bytesRow ⟨t.toArray⟩ (grownCap W t.length 0 e)) e ((bytesRow ⟨t.toArray⟩ (grownCap W t.length 0 e)).size, (bytesRow ⟨t.toArray⟩ (grownCap W t.length 0 e)).size + 1)), fun W => ?_⟩
 obtain ⟨v', w', hr, ho, hg⟩ := run_conv (P := P) W W.heap.size src dst e ⟨t.toArray⟩ hs hd he hm (Nat.le_refl _)
 rw [run_bytes_of_string (P := P) W src dst e ⟨t.toArray⟩ hs hd he] at hr
 injection hr with h1 h2
 subst h1
 subst h2
 refine ⟨?_, grownCap_ge W t.length 0 e, ho.rd, ((Below.refl _ W).drew).alloc (by simp) _, ho⟩
 have := run_bytes_of_string (P := P) W src dst e ⟨t.toArray⟩ hs hd he
 rw [this]
 rfl
end Go.Proofs.YtgaoijinchakoaaDoor
