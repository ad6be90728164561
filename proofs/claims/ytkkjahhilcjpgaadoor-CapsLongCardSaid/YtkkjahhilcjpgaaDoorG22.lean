/-
  Layer 1, walked: the document's Unhex.
-/
import Derived.Test.YtkkjahhilcjpgaaDoorG21
namespace Go.Proofs.YtkkjahhilcjpgaaDoor
open Go.RowKit
theorem valV_yes (c : UInt8) (h : isX c = true) : valV (c.toNat : Int) = (xv c : Int) := by
 have h' : figV (c.toNat : Int) < 16 := of_decide_eq_true h
 have hr := figV_rng (c.toNat : Int)
 unfold valV xv
 rw [if_neg (by omega)]
 omega
theorem valV_no (c : UInt8) (h : isX c = false) : valV (c.toNat : Int) = -1 := by
 have h' : ¬ figV (c.toNat : Int) < 16 := of_decide_eq_false h
 have : figV (c.toNat : Int) = 99 := by
  revert h'
  unfold figV
  (repeat' split) <;> omega
 unfold valV
 rw [if_pos this]
theorem pairs_take : ∀ (l : List UInt8) (j : Nat) (h : 2 * j + 1 < l.length), pairs (l.take (2 * (j + 1))) = pairs (l.take (2 * j)) ++ [UInt8.ofNat (16 * xv (l[2 * j]'(by omega)) + xv l[2 * j + 1])]
 | [], j, h => by simp at h
 | [_], j, h => by simp at h
 | a :: b :: r, 0, _ => by simp [pairs]
 | a :: b :: r, j + 1, h => by
   have ih := pairs_take r j (by simp only [List.length_cons] at h; omega)
   have e1 : (a :: b :: r).take (2 * (j + 1 + 1)) = a :: b :: r.take (2 * (j + 1)) := by rw [show 2 * (j + 1 + 1) = 2 * (j + 1) + 1 + 1 by omega]; rfl
   have e2 : (a :: b :: r).take (2 * (j + 1)) = a :: b :: r.take (2 * j) := by rw [show 2 * (j + 1) = 2 * j + 1 + 1 by omega]; rfl
   rw [e1, e2]
   simp only [pairs, List.cons_append, ih]
   rfl
theorem byte_mk2 (p q : Nat) (h1 : p < 16) (h2 : q < 16) : Value.int .u8 (16 * (p : Int) + q) = B8 (UInt8.ofNat (16 * p + q)) := by
 rw [← byte_mk p q h1 h2, Int.mul_comm]
set_option maxRecDepth 100000 in
set_option maxHeartbeats 2000000 in
theorem runhex_any (s : ByteArray) (w : World) (hs : s.size ≤ 4294967296) :
 Calls Tryd.prog 26 #[.string s] w (Got s.data.toList w) := by
 obtain ⟨i0, hi, hz0, hz1, hz2⟩ := info_parts Tryd.u8info
 have hown := World.ownsRow_nil w w.heap.size 5 1
 have hb1 := Below.refl w.heap.size w
 go_enter Tryd.func26, Tryd.ntmps26
 go_wp2_with fail
 go_loopw [4, 5] (fun v i wr => ∃ j : Nat, 2 * j ≤ s.size ∧ i = .int .i64 (2 * (j : Int)) ∧ wr.ownsRow w.heap.size 5 1 v j (bs (pairs (s.data.toList.take (2 * j)))) ∧ Below w.heap.size w wr ∧ Hid (∀ k (hk : k < s.data.toList.length), k < 2 * j → isX s.data.toList[k] = true)) (fun _ i _ => s.size - (intOf i).toNat)
 case atStart => exact ⟨0, Nat.zero_le _, rfl, hown, hb1, fun j _ h => absurd h (by omega)⟩
 case round =>
  obtain ⟨j, hj, rfl, hown, hbw, hall⟩ := hrel
  have hl1 : s.size ≤ s.data.toList.length := Nat.le_of_eq Array.length_toList.symm
  by_cases hlt : 2 * j + 1 < s.size
  ·have hlt0 : 2 * j < s.size := by omega
   have hc1 := (s[2 * j]'hlt0).toNat_lt
   have hc2 := (s[2 * j + 1]'hlt).toNat_lt
   have n1 : (2 * (j : Int)).toNat = 2 * j := by omega
   have n2 : (2 * (j : Int) + 1).toNat = 2 * j + 1 := by omega
   have hbs : ∀ o, w.heap.size ≤ (wr.alloc o).heap.size := fun o => Nat.le_trans hbw.size (by simp)
   have hlim : j + 1 ≤ 140737488355328 := by omega
   have one1 : ∀ x : Int, ∀ u ∈ [Value.int .u8 x], u.oneCell' = true := fun x => ints_one [x]
   cases hx : isX (s[2 * j]'hlt0) with
   | true =>
     have H1 := Lib.hid (valV_yes _ hx)
     have f1 := (isX_fig _ hx).2.2
     have HX := Lib.hid hx
     clear hx
     cases hy : isX (s[2 * j + 1]'hlt) with
     | true =>
       have H2 := Lib.hid (valV_yes _ hy)
       have f2 := (isX_fig _ hy).2.2
       have HY := Lib.hid hy
       have HW := Lib.hid (show bs (pairs (s.data.toList.take (2 * (j + 1)))) = bs (pairs (s.data.toList.take (2 * j))) ++ [.int .u8 (16 * (xv (s[2 * j]'hlt0) : Int) + (xv (s[2 * j + 1]'hlt) : Int))] by
        rw [pairs_take _ j (by omega), bs_append, byte_mk2 _ _ f1 f2]; rfl)
       clear hy
       go_wp2_with fail
       refine (value_any _ _ (by omega) (by omega)).mono ?_
       rintro e w' ⟨rfl, rfl⟩
       rw [H1.out]
       go_wp2_with fail
       refine (value_any _ _ (by omega) (by omega)).mono ?_
       rintro e w' ⟨rfl, rfl⟩
       rw [H2.out]
       go_wp2_with (at_builtin; refine list_own rfl (.tmp 30) (.tmp 36) 33 rfl w.heap.size 5 i0 _ Tryd.underlying33 hi hz0 hz1 hz2 rfl u4 j _ rfl (hown.alloc _) _ 1 1 _ rfl rfl (lit_cells _ _ _) (one1 _) hlim (hbs _) ?_; intro v' w' hown' hg')
       have hbv : Below w.heap.size w w' := (hbw.alloc hbw.size _).grown hg' (hbs _) (fun g hg => (hown.lt g hg).1)
       clear hg'
       rw [← HW.out] at hown'
       go_wp2
       go_roundw
       case rel =>
        refine ⟨j + 1, by omega, by go_num, hown', hbv, ?_⟩
        intro k hk hj
        by_cases e : k = 2 * j
        ·subst e; exact HX.out
        ·by_cases e2 : k = 2 * j + 1
         ·subst e2; exact HY.out
         ·exact hall.out k hk (by omega)
       case measure => simp [intOf]; omega
     | false =>
       have H2 := Lib.hid (valV_no _ hy)
       have HE := Lib.hid (unhexL_none_of s.data.toList (2 * j + 1) (by omega) hy)
       clear hy
       go_wp2_with fail
       refine (value_any _ _ (by omega) (by omega)).mono ?_
       rintro e w' ⟨rfl, rfl⟩
       rw [H1.out]
       go_wp2_with fail
       refine (value_any _ _ (by omega) (by omega)).mono ?_
       rintro e w' ⟨rfl, rfl⟩
       rw [H2.out]
       go_wp2_with fail
       go_ret2
       exact got_none HE.out hbw
   | false =>
     have H1 := Lib.hid (valV_no _ hx)
     have HE := Lib.hid (unhexL_none_of s.data.toList (2 * j) (by omega) hx)
     clear hx
     go_wp2_with fail
     refine (value_any _ _ (by omega) (by omega)).mono ?_
     rintro e w' ⟨rfl, rfl⟩
     rw [H1.out]
     go_wp2_with fail
     refine (value_any _ _ (by omega) (by omega)).mono ?_
     rintro e w' ⟨rfl, rfl⟩
     go_wp2_with fail
     go_ret2
     exact got_none HE.out hbw
  ·by_cases hodd : s.size % 2 = 0
   ·have ho : ((s.size : Int) % 2 == 1) = false := by rw [beq_eq_false_iff_ne]; omega
    have hl2 : s.data.toList.length = s.size := Array.length_toList
    have HT := Lib.hid (show s.data.toList.take (2 * j) = s.data.toList from List.take_of_length_le (by omega))
    have HP := Lib.hid (unhexL_all s.data.toList (by omega) fun k hk => hall.out k hk (by omega))
    have HL := Lib.hid (show j = (pairs s.data.toList).length by rw [pairs_length]; omega)
    clear hl2
    obtain ⟨A', c', rfl, hrd⟩ := own_form hown
    go_wp2_with fail
    go_ret2
    rw [HT.out] at hrd
    exact got_some HP.out HL.out hbw hrd
   ·have ho : ((s.size : Int) % 2 == 1) = true := by rw [beq_iff_eq]; omega
    have HE := Lib.hid (unhexL_odd s.data.toList (by rw [Array.length_toList]; exact hodd))
    go_wp2_with fail
    go_ret2
    exact got_none HE.out hbw
end Go.Proofs.YtkkjahhilcjpgaaDoor
