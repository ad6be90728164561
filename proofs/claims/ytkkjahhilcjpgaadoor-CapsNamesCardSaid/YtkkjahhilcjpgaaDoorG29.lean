/-
  Layer 3, walked: Same, the program's (the document's: Same).
  Cut out of WpS.
-/
import Derived.Test.YtkkjahhilcjpgaaDoorG16
import Derived.Test.YtkkjahhilcjpgaaDoorG28
import Derived.Deep.QuietTactic
import Derived.BigQuiet
namespace Go.Proofs.YtkkjahhilcjpgaaDoor
open Go.RowKit
set_option maxRecDepth 100000 in
set_option maxHeartbeats 8000000 in
theorem psame_any (s t : Sq) (A B : Option Addr) (c d : Nat) (q : Bool) (w : World) (hq : sameB s t = q) (hl : s.params.length ≤ 4294967296) (hl2 : t.params.length ≤ 4294967296) (hp : ∀ p ∈ s.params, p.length ≤ 4294967296) (hp2 : ∀ p ∈ t.params, p.length ≤ 4294967296) (hra : RdP w A s.params) (hrb : RdP w B t.params) :
 Calls Tryd.prog 35 #[sqV s A c, sqV t B d] w fun e w' => e = .returned (.bool q) ∧ Below w.heap.size w w' := by
 have hB : ∀ (x y : Obj), Below w.heap.size w ((w.alloc x).alloc y) := fun x y => ((Below.refl _ w).alloc (Nat.le_refl _) _).alloc (by simp) _
 obtain ⟨k, pv, ps, it, f, dd⟩ := s
 obtain ⟨k', pv', ps', it', f', dd'⟩ := t
 have HQ := Lib.hid hq
 have HP := Lib.hid hp
 have HP2 := Lib.hid hp2
 clear hq hp hp2
 dsimp only at hl hl2 hra hrb HP HP2
 unfold sqV
 dsimp only
 by_cases h1 : k = k'
 ·subst h1
  by_cases h2 : pv = pv'
  ·subst h2
   by_cases h4 : it = it'
   ·subst h4
    by_cases h5 : f = f'
    ·subst h5
     by_cases h6 : dd = dd'
     ·subst h6
      have HD := Lib.hid (show decide (ps = ps') = q by rw [← HQ.out]; simp [sameB])
      obtain ⟨n, hn⟩ : ∃ n, ps.length = n := ⟨_, rfl⟩
      obtain ⟨m, hm⟩ : ∃ m, ps'.length = m := ⟨_, rfl⟩
      have HN := Lib.hid hn
      have HM := Lib.hid hm
      rw [hn] at hl ⊢
      rw [hm] at hl2 ⊢
      clear hn hm
      have hra2 := hra.below (hB (.cells #[.int .i64 k, .int .u8 (pv.toNat : Int), .slice A n c, .string ⟨it.toArray⟩, .int .u8 (f.toNat : Int), .string ⟨dd.toArray⟩] 28) (.cells #[.int .i64 k, .int .u8 (pv.toNat : Int), .slice B m d, .string ⟨it.toArray⟩, .int .u8 (f.toNat : Int), .string ⟨dd.toArray⟩] 28))
      have hrb2 := hrb.below (hB (.cells #[.int .i64 k, .int .u8 (pv.toNat : Int), .slice A n c, .string ⟨it.toArray⟩, .int .u8 (f.toNat : Int), .string ⟨dd.toArray⟩] 28) (.cells #[.int .i64 k, .int .u8 (pv.toNat : Int), .slice B m d, .string ⟨it.toArray⟩, .int .u8 (f.toNat : Int), .string ⟨dd.toArray⟩] 28))
      go_enter Tryd.func35, Tryd.ntmps35
      go_wp2_with fail
      refine (eqf_any A B n m c d ps ps' q _ HN.out HM.out HD.out hl hl2 HP.out HP2.out hra2 hrb2).mono ?_
      rintro e w1 ⟨rfl, hb1⟩
      go_wp2_with fail
      go_ret
      exact ⟨rfl, (hB _ _).trans (hb1.mono (by simp; omega))⟩
     ·have HF := Lib.hid (show false = q by rw [← HQ.out]; simp [sameB, h6])
      go_enter Tryd.func35, Tryd.ntmps35
      go_wp2_with fail
      go_ret
      exact ⟨ret_b HF.out, hB _ _⟩
    ·have HF := Lib.hid (show false = q by rw [← HQ.out]; simp [sameB, h5])
     obtain ⟨n2, n3⟩ := byte_ne h5
     clear h5
     go_enter Tryd.func35, Tryd.ntmps35
     go_wp2_with fail
     go_ret
     exact ⟨ret_b HF.out, hB _ _⟩
   ·have HF := Lib.hid (show false = q by rw [← HQ.out]; simp [sameB, h4])
    go_enter Tryd.func35, Tryd.ntmps35
    go_wp2_with fail
    go_ret
    exact ⟨ret_b HF.out, hB _ _⟩
  ·have HF := Lib.hid (show false = q by rw [← HQ.out]; simp [sameB, h2])
   obtain ⟨n2, n3⟩ := byte_ne h2
   clear h2
   go_enter Tryd.func35, Tryd.ntmps35
   go_wp2_with fail
   go_ret
   exact ⟨ret_b HF.out, hB _ _⟩
 ·have HF := Lib.hid (show false = q by rw [← HQ.out]; simp [sameB, h1])
  have n2 : (k == k') = false := beq_false_of_ne h1
  have n3 : (k != k') = true := by simp [bne, n2]
  clear h1
  go_enter Tryd.func35, Tryd.ntmps35
  go_wp2_with fail
  go_ret
  exact ⟨ret_b HF.out, hB _ _⟩
end Go.Proofs.YtkkjahhilcjpgaaDoor
