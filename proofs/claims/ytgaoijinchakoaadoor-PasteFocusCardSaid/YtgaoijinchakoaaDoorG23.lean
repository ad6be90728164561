/-
  Layer 2, walked: Take.
-/
import Derived.Test.YtgaoijinchakoaaDoorG11
import Derived.Test.YtgaoijinchakoaaDoorG19
import Derived.Test.YtgaoijinchakoaaDoorG22
import Derived.Deep.RegionHeld3
namespace Go.Proofs.YtgaoijinchakoaaDoor
open Go.RowKit
theorem quiet_more {P : Program} {f : FuncId} {args : Array Value} {w : World} {a n : Nat} {v : Value} (h : Calls P f args (w.drewN (a + n)) fun e w' => e = .returned v ∧ w' = w.drewN (a + n)) : Calls P f args (w.drewN (a + n)) fun e w' => e = .returned v ∧ ∃ m, w' = w.drewN (a + m) :=
 h.mono fun _ _ h => ⟨h.1, n, h.2⟩
theorem isPt_at (r : Int) (p : Bool) (h : isPt r = p) (w : World) : Calls Tryd.prog 44 #[.int .i64 r] w fun e w' => e = .returned (.bool p) ∧ w = w' := by
 subst h
 exact isPt_any r w
theorem isPt_same (r : Int) (p : Bool) (h : isPt r = p) (w : World) : Calls Tryd.prog 44 #[.int .i64 r] w fun e w' => e = .returned (.bool p) ∧ w' = w := (isPt_at r p h w).mono fun _ _ ⟨a, b⟩ => ⟨a, b.symm⟩
theorem sizeOf_at (r : Int) (u : Array Value) (h : szA (ixP r 4) = u) (w : World) (hs : Siz w) : Calls Tryd.prog 45 #[.int .i64 r] w fun e w' => e = .returned (.agg u) ∧ Below w.heap.size w w' := by
 subst h
 exact sizeOf_any r w hs
theorem szA_cnt (i : Nat) (h : i ≤ 3) : ∃ p q : Int, szA i = #[.int .i64 ((i : Int) + 1), .int .i64 p, .int .i64 q] := by
 obtain rfl | rfl | rfl | rfl : i = 0 ∨ i = 1 ∨ i = 2 ∨ i = 3 := by omega
 all_goals exact ⟨_, _, rfl⟩
theorem ixP_le (r : Int) : ixP r 4 ≤ 3 := by unfold ixP; (repeat' split) <;> omega
set_option maxRecDepth 100000 in
set_option maxHeartbeats 4000000 in
theorem take_any (A : Option Addr) (c : Nat) (l : List UInt8) (w : World) (hs : Siz w) (hl : l.length ≤ 4294967296) (hlc : l.length ≤ c) (hr : Rd w A (bs l)) :
 Calls Tryd.prog 35 #[.slice A l.length c] w fun e w' => e = Tk l ∧ Below w.heap.size w w' := by
 cases l with
 | nil =>
   go_enter Tryd.func35, Tryd.ntmps35
   go_wp2_with fail
   go_ret2
   exact ⟨tk_zero rfl, Below.refl _ _⟩
 | cons a l =>
   obtain ⟨b, o, rfl, hb, hc⟩ := hr.at_ (by simp)
   have hc0 := hc 0 (by simp)
   have ha := a.toNat_lt
   simp only [Nat.add_zero, List.getElem_cons_zero] at hc0
   simp only [List.length_cons] at hl hlc
   obtain ⟨j, least, lead, hj, hix, hz, l0, l1, F⟩ := fst_split a
   have HZ := Lib.hid hz
   have HI := Lib.hid hix
   clear hix hz
   by_cases hlt : l.length < j
   ·have E := Lib.hid (tk_zero (F.short l hlt))
    clear F hc
    go_enter Tryd.func35, Tryd.ntmps35
    go_wp2_with fail
    refine (sizeByFirst_any _ _ hs).mono ?_
    rw [HZ.out]
    rintro e w1 ⟨rfl, hb1⟩
    have p1 := Blk.new w1 71 #[.int .i64 ((j : Int) + 1), .int .i64 least, .int .i64 lead]
    have g0 := p1.cell 0
    go_wp2
    go_ret2
    exact ⟨E.out, hb1.alloc hb1.size _⟩
   ·have hlj : j ≤ l.length := by omega
    go_enter Tryd.func35, Tryd.ntmps35
    go_wp2_with fail
    refine (sizeByFirst_any _ _ hs).mono ?_
    rw [HZ.out]
    rintro e w1 ⟨rfl, hb1⟩
    have hc1 := (hb1.cell (p := ⟨b, o, none⟩) hb).trans hc0
    have p1 := Blk.new w1 71 #[.int .i64 ((j : Int) + 1), .int .i64 least, .int .i64 lead]
    have g0 := p1.cell 0
    have g2 := p1.cell 2
    have hb2 := Nat.lt_of_lt_of_le hb hb1.size
    go_wp2
    go_quiet (fail)
    have hcs : ∀ k (hk : k < l.length), w.cell? ⟨b, o + 1 + k, none⟩ = some (.int .u8 ((l[k]'hk).toNat : Int)) := fun k hk => by
     have := hc (k + 1) (by simpa using hk)
     rw [show o + 1 + k = o + (k + 1) by omega]
     simpa using this
    have hbM : ∀ m, Below w.heap.size w ((w1.alloc (.cells #[.int .i64 ((j : Int) + 1), .int .i64 least, .int .i64 lead] 71)).drewN m) := fun m => below_drewN (hb1.alloc hb1.size _) m
    by_cases h1c : c = 1
    ·subst h1c
     go_wp2
     go_loop [5, 34] (fun x i => ∃ (k : Nat) (y : Int), k ≤ j ∧ i = .int .i64 k ∧ x = .int .i64 y ∧ accL ((a.toNat : Int) - lead) (l.take k) = some y) (fun _ i => j - (intOf i).toNat)
     case atStart => exact ⟨0, _, Nat.zero_le _, rfl, rfl, rfl⟩
     case round =>
      obtain ⟨k, y, hk, rfl, rfl, hy⟩ := hrel
      have HY := Lib.hid hy
      clear hy
      obtain ⟨y0, y1⟩ := accL_up _ l k (by omega) (by omega) (by omega) y HY.out
      by_cases hkj : k < j
      ·exfalso; omega
      ·obtain rfl : k = j := by omega
       have hs1 : Siz (w1.alloc (.cells #[.int .i64 ((k : Int) + 1), .int .i64 least, .int .i64 lead] 71)) := hs.below' (hb1.alloc hb1.size _)
       cases hp : isPt y with
       | false =>
         have E := Lib.hid (tk_zero (F.no l y hlj HY.out (fun hh => by rw [hp] at hh; cases hh.1)))
         have HP := Lib.hid hp
         clear hp
         go_wp2
         go_quiet ((go_at_call 44; exact quiet_more (isPt_same _ _ HP.out _)))
         go_wp2
         go_ret2
         exact ⟨E.out, below_drewN (hbM _) _⟩
       | true =>
         have HP := Lib.hid hp
         clear hp
         have hsM : ∀ m, Siz ((w1.alloc (.cells #[.int .i64 ((k : Int) + 1), .int .i64 least, .int .i64 lead] 71)).drewN m) := fun _ => hs1
         have q0 := p1.cell 0
         have q1 := p1.cell 1
         have q2 := p1.cell 2
         by_cases hi : ixP y 4 = k
         ·have E := Lib.hid (tk_is (m := (k : Int) + 1) (F.yes l y hlj HY.out HP.out hi) rfl)
          have HX := Lib.hid (show szA (ixP y 4) = #[.int .i64 ((k : Int) + 1), .int .i64 least, .int .i64 lead] by rw [show ixP y 4 = ixF a.toNat 4 from hi.trans HI.out.symm]; exact HZ.out)
          clear hi
          go_wp2
          go_region_held3 (fun w' => w'.cell? ⟨w1.heap.size, 0, none⟩ = some (.int .i64 ((k : Int) + 1)) ∧ w'.cell? ⟨w1.heap.size, 1, none⟩ = some (.int .i64 least) ∧ w'.cell? ⟨w1.heap.size, 2, none⟩ = some (.int .i64 lead)) (first | exact ⟨q0, q1, q2⟩ | exact ⟨(hb3.cell (p := ⟨w1.heap.size, 0, none⟩) (by simp)).trans q0, (hb3.cell (p := ⟨w1.heap.size, 1, none⟩) (by simp)).trans q1, (hb3.cell (p := ⟨w1.heap.size, 2, none⟩) (by simp)).trans q2⟩) (first | (go_at_call 44; refine (isPt_at _ _ HP.out _).mono ?_; rintro e w' ⟨rfl, rfl⟩) | (go_at_call 45; refine (sizeOf_at _ _ HX.out _ (hsM _)).mono ?_; rintro e w3 ⟨rfl, hb3⟩))
          all_goals
           have r0 := (hb3.cell (p := ⟨w1.heap.size, 0, none⟩) (by simp)).trans q0
           have hb4 : Below w.heap.size w w3 := (hbM _).trans (hb3.mono (hbM _).size)
           clear hb3
           go_wp2
           go_quiet (fail)
           go_wp2
           go_ret2
           exact ⟨E.out, below_drewN hb4 _⟩
         ·have E := Lib.hid (tk_zero (F.no l y hlj HY.out (fun hh => hi hh.2)))
          obtain ⟨i, hi'⟩ : ∃ i, ixP y 4 = i := ⟨_, rfl⟩
          obtain ⟨p, q, hpq⟩ := szA_cnt (ixP y 4) (ixP_le y)
          rw [hi'] at hpq hi
          have HX := Lib.hid (show szA (ixP y 4) = #[.int .i64 ((i : Int) + 1), .int .i64 p, .int .i64 q] by rw [hi']; exact hpq)
          have t1 : (((i : Int) + 1) == ((k : Int) + 1)) = false := beq_false_of_ne (by omega)
          clear hi hi' hpq
          go_wp2
          go_region_held3 (fun w' => w'.cell? ⟨w1.heap.size, 0, none⟩ = some (.int .i64 ((k : Int) + 1)) ∧ w'.cell? ⟨w1.heap.size, 1, none⟩ = some (.int .i64 least) ∧ w'.cell? ⟨w1.heap.size, 2, none⟩ = some (.int .i64 lead)) (first | exact ⟨q0, q1, q2⟩ | exact ⟨(hb3.cell (p := ⟨w1.heap.size, 0, none⟩) (by simp)).trans q0, (hb3.cell (p := ⟨w1.heap.size, 1, none⟩) (by simp)).trans q1, (hb3.cell (p := ⟨w1.heap.size, 2, none⟩) (by simp)).trans q2⟩) (first | (go_at_call 44; refine (isPt_at _ _ HP.out _).mono ?_; rintro e w' ⟨rfl, rfl⟩) | (go_at_call 45; refine (sizeOf_at _ _ HX.out _ (hsM _)).mono ?_; rintro e w3 ⟨rfl, hb3⟩))
          all_goals
           have hb4 : Below w.heap.size w w3 := (hbM _).trans (hb3.mono (hbM _).size)
           clear hb3
           go_wp2
           go_ret2
           exact ⟨E.out, hb4⟩
    ·go_wp2
     go_loop [5, 34] (fun x i => ∃ (k : Nat) (y : Int), k ≤ j ∧ i = .int .i64 k ∧ x = .int .i64 y ∧ accL ((a.toNat : Int) - lead) (l.take k) = some y) (fun _ i => j - (intOf i).toNat)
     case atStart => exact ⟨0, _, Nat.zero_le _, rfl, rfl, rfl⟩
     case round =>
      obtain ⟨k, y, hk, rfl, rfl, hy⟩ := hrel
      have HY := Lib.hid hy
      clear hy
      obtain ⟨y0, y1⟩ := accL_up _ l k (by omega) (by omega) (by omega) y HY.out
      by_cases hkj : k < j
      ·have hck := (hb1.cell (p := ⟨b, o + 1 + k, none⟩) hb).trans (hcs k (by omega))
       have hd := (l[k]'(by omega)).toNat_lt
       have HS := Lib.hid (accL_step _ l k (by omega) y HY.out)
       by_cases hf : fol (l[k]'(by omega)) = true
       ·have HF := Lib.hid hf
        obtain ⟨f0, f1⟩ := (fol_iff _).1 hf
        clear hf
        go_wp2
        go_round
        case rel => exact ⟨k + 1, _, by omega, by go_num, rfl, by rw [HS.out, if_pos HF.out]⟩
        case measure => simp [intOf]; omega
       ·have E := Lib.hid (tk_zero (F.none_ l hlj (accL_none _ l (k + 1) j (by omega) (by rw [HS.out, if_neg hf]))))
        have hf2 : ¬ (128 ≤ (l[k]'(by omega)).toNat ∧ (l[k]'(by omega)).toNat < 192) := fun h => hf ((fol_iff _).2 h)
        by_cases f0 : (l[k]'(by omega)).toNat < 128
        ·clear hf hf2
         go_wp2
         go_ret2
         exact ⟨E.out, hbM _⟩
        ·have f1 : 192 ≤ (l[k]'(by omega)).toNat := by omega
         clear hf hf2
         go_wp2
         go_ret2
         exact ⟨E.out, hbM _⟩
      ·obtain rfl : k = j := by omega
       have hs1 : Siz (w1.alloc (.cells #[.int .i64 ((k : Int) + 1), .int .i64 least, .int .i64 lead] 71)) := hs.below' (hb1.alloc hb1.size _)
       cases hp : isPt y with
       | false =>
         have E := Lib.hid (tk_zero (F.no l y hlj HY.out (fun hh => by rw [hp] at hh; cases hh.1)))
         have HP := Lib.hid hp
         clear hp
         go_wp2
         go_quiet ((go_at_call 44; exact quiet_more (isPt_same _ _ HP.out _)))
         go_wp2
         go_ret2
         exact ⟨E.out, below_drewN (hbM _) _⟩
       | true =>
         have HP := Lib.hid hp
         clear hp
         have hsM : ∀ m, Siz ((w1.alloc (.cells #[.int .i64 ((k : Int) + 1), .int .i64 least, .int .i64 lead] 71)).drewN m) := fun _ => hs1
         have q0 := p1.cell 0
         have q1 := p1.cell 1
         have q2 := p1.cell 2
         by_cases hi : ixP y 4 = k
         ·have E := Lib.hid (tk_is (m := (k : Int) + 1) (F.yes l y hlj HY.out HP.out hi) rfl)
          have HX := Lib.hid (show szA (ixP y 4) = #[.int .i64 ((k : Int) + 1), .int .i64 least, .int .i64 lead] by rw [show ixP y 4 = ixF a.toNat 4 from hi.trans HI.out.symm]; exact HZ.out)
          clear hi
          go_wp2
          go_region_held3 (fun w' => w'.cell? ⟨w1.heap.size, 0, none⟩ = some (.int .i64 ((k : Int) + 1)) ∧ w'.cell? ⟨w1.heap.size, 1, none⟩ = some (.int .i64 least) ∧ w'.cell? ⟨w1.heap.size, 2, none⟩ = some (.int .i64 lead)) (first | exact ⟨q0, q1, q2⟩ | exact ⟨(hb3.cell (p := ⟨w1.heap.size, 0, none⟩) (by simp)).trans q0, (hb3.cell (p := ⟨w1.heap.size, 1, none⟩) (by simp)).trans q1, (hb3.cell (p := ⟨w1.heap.size, 2, none⟩) (by simp)).trans q2⟩) (first | (go_at_call 44; refine (isPt_at _ _ HP.out _).mono ?_; rintro e w' ⟨rfl, rfl⟩) | (go_at_call 45; refine (sizeOf_at _ _ HX.out _ (hsM _)).mono ?_; rintro e w3 ⟨rfl, hb3⟩))
          all_goals
           have r0 := (hb3.cell (p := ⟨w1.heap.size, 0, none⟩) (by simp)).trans q0
           have hb4 : Below w.heap.size w w3 := (hbM _).trans (hb3.mono (hbM _).size)
           clear hb3
           go_wp2
           go_quiet (fail)
           go_wp2
           go_ret2
           exact ⟨E.out, below_drewN hb4 _⟩
         ·have E := Lib.hid (tk_zero (F.no l y hlj HY.out (fun hh => hi hh.2)))
          obtain ⟨i, hi'⟩ : ∃ i, ixP y 4 = i := ⟨_, rfl⟩
          obtain ⟨p, q, hpq⟩ := szA_cnt (ixP y 4) (ixP_le y)
          rw [hi'] at hpq hi
          have HX := Lib.hid (show szA (ixP y 4) = #[.int .i64 ((i : Int) + 1), .int .i64 p, .int .i64 q] by rw [hi']; exact hpq)
          have t1 : (((i : Int) + 1) == ((k : Int) + 1)) = false := beq_false_of_ne (by omega)
          clear hi hi' hpq
          go_wp2
          go_region_held3 (fun w' => w'.cell? ⟨w1.heap.size, 0, none⟩ = some (.int .i64 ((k : Int) + 1)) ∧ w'.cell? ⟨w1.heap.size, 1, none⟩ = some (.int .i64 least) ∧ w'.cell? ⟨w1.heap.size, 2, none⟩ = some (.int .i64 lead)) (first | exact ⟨q0, q1, q2⟩ | exact ⟨(hb3.cell (p := ⟨w1.heap.size, 0, none⟩) (by simp)).trans q0, (hb3.cell (p := ⟨w1.heap.size, 1, none⟩) (by simp)).trans q1, (hb3.cell (p := ⟨w1.heap.size, 2, none⟩) (by simp)).trans q2⟩) (first | (go_at_call 44; refine (isPt_at _ _ HP.out _).mono ?_; rintro e w' ⟨rfl, rfl⟩) | (go_at_call 45; refine (sizeOf_at _ _ HX.out _ (hsM _)).mono ?_; rintro e w3 ⟨rfl, hb3⟩))
          all_goals
           have hb4 : Below w.heap.size w w3 := (hbM _).trans (hb3.mono (hbM _).size)
           clear hb3
           go_wp2
           go_ret2
           exact ⟨E.out, hb4⟩
end Go.Proofs.YtgaoijinchakoaaDoor
