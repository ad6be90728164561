/-
  Layer 2's mathematics: how the program reckons the code point with which bytes begin. Layer 2, walked: Take. Numbers in figures, walked: the program's Text and Take. (For layers that don't load layer 1's own texts.)
-/
import Derived.Test.YtdfojkbgdoiglaaGreatDoorG01
import Derived.Test.YtdfojkbgdoiglaaGreatDoorG03
import Derived.Test.YtdfojkbgdoiglaaGreatDoorG08
import Derived.Test.YtdfojkbgdoiglaaGreatDoorG09
import Derived.Test.YtdfojkbgdoiglaaGreatDoorG10
import Derived.Test.YtdfojkbgdoiglaaGreatDoorG14
import Derived.Deep.RegionHeld3
import Derived.Test.YtdfojkbgdoiglaaGreatDoorShelf
import Derived.Deep.QuietTactic
import Derived.BigQuiet
import Derived.Lib.AppendIntMem
namespace Go.Proofs.YtdfojkbgdoiglaaGreatDoor
structure Fst (a : UInt8) (j : Nat) (lead : Int) : Prop where
 short : ∀ l : List UInt8, l.length < j → takeL (a :: l) = (0, 0)
 none_ : ∀ l : List UInt8, j ≤ l.length → accL ((a.toNat : Int) - lead) (l.take j) = none → takeL (a :: l) = (0, 0)
 no : ∀ (l : List UInt8) (x : Int), j ≤ l.length → accL ((a.toNat : Int) - lead) (l.take j) = some x → ¬ (isPt x = true ∧ ixP x 4 = j) → takeL (a :: l) = (0, 0)
 yes : ∀ (l : List UInt8) (x : Int), j ≤ l.length → accL ((a.toNat : Int) - lead) (l.take j) = some x → isPt x = true → ixP x 4 = j → takeL (a :: l) = (x, j + 1)
theorem ix0 (x : Int) : ixP x 4 = 0 ↔ x < 128 := by unfold ixP; (repeat' split) <;> omega
theorem ix1 (x : Int) : ixP x 4 = 1 ↔ 128 ≤ x ∧ x < 2048 := by unfold ixP; (repeat' split) <;> omega
theorem ix2 (x : Int) : ixP x 4 = 2 ↔ 2048 ≤ x ∧ x < 65536 := by unfold ixP; (repeat' split) <;> omega
theorem ix3 (x : Int) : ixP x 4 = 3 ↔ 65536 ≤ x := by unfold ixP; (repeat' split) <;> omega
theorem fst_split (a : UInt8) : ∃ (j : Nat) (least lead : Int), j ≤ 3 ∧ ixF a.toNat 4 = j ∧ szA (ixF a.toNat 4) = #[.int .i64 ((j : Int) + 1), .int .i64 least, .int .i64 lead] ∧ 0 ≤ lead ∧ lead ≤ a.toNat ∧ Fst a j lead := by
 have ha := a.toNat_lt
 by_cases a1 : a.toNat < 192
 ·have e : ixF a.toNat 4 = 0 := by unfold ixF; (repeat' split) <;> omega
  refine ⟨0, 0, 0, by omega, e, by rw [e]; rfl, by omega, by omega, ⟨fun l h => absurd h (by omega), fun l _ h => ?_, fun l x _ h hn => ?_, fun l x _ h hp hi => ?_⟩⟩
  ·cases h
  ·obtain rfl : (a.toNat : Int) = x := by have := Option.some.inj h; omega
   simp only [takeL]
   rw [if_pos a1]
   by_cases a2 : a.toNat < 128
   ·exact absurd ⟨(isPt_iff _).2 (by omega), (ix0 _).2 (by omega)⟩ hn
   ·rw [if_neg a2]
  ·obtain rfl : (a.toNat : Int) = x := by have := Option.some.inj h; omega
   have := (ix0 _).1 hi
   simp only [takeL]
   rw [if_pos a1, if_pos (by omega)]
   rfl
 ·by_cases a2 : a.toNat < 224
  ·have e : ixF a.toNat 4 = 1 := by unfold ixF; (repeat' split) <;> omega
   refine ⟨1, 128, 192, by omega, e, by rw [e]; rfl, by omega, by omega, ⟨fun l h => ?_, fun l hl h => ?_, fun l x hl h hn => ?_, fun l x hl h hp hi => ?_⟩⟩
   ·match l, h with
    | [], _ => simp only [takeL]; rw [if_neg a1, if_pos a2]
   ·match l, hl with
    | b :: l, _ =>
      simp only [takeL]; rw [if_neg a1, if_pos a2]
      by_cases f1 : fol b = true
      ·simp [accL, f1] at h
      ·rw [if_neg (fun hh => f1 hh.1)]
   ·match l, hl with
    | b :: l, _ =>
      simp only [takeL]; rw [if_neg a1, if_pos a2]
      by_cases f1 : fol b = true
      ·have hx : num2 a b = x := by simpa [accL, f1, num2] using h
       have e0 : num2 a b = ((a.toNat : Int) - 192) * 64 + ((b.toNat : Int) - 128) := rfl
       have := (fol_iff b).1 f1
       rw [hx]
       rw [if_neg (fun hh => hn ⟨hh.2.1, (ix1 x).2 (by omega)⟩)]
      ·rw [if_neg (fun hh => f1 hh.1)]
   ·match l, hl with
    | b :: l, _ =>
      simp only [takeL]; rw [if_neg a1, if_pos a2]
      by_cases f1 : fol b = true
      ·have hx : num2 a b = x := by simpa [accL, f1, num2] using h
       rw [hx, if_pos ⟨f1, hp, ((ix1 x).1 hi).1⟩]
      ·simp [accL, f1] at h
  ·by_cases a3 : a.toNat < 240
   ·have e : ixF a.toNat 4 = 2 := by unfold ixF; (repeat' split) <;> omega
    refine ⟨2, 2048, 224, by omega, e, by rw [e]; rfl, by omega, by omega, ⟨fun l h => ?_, fun l hl h => ?_, fun l x hl h hn => ?_, fun l x hl h hp hi => ?_⟩⟩
    ·match l, h with
     | [], _ => simp only [takeL]; rw [if_neg a1, if_neg a2, if_pos a3]
     | [_], _ => simp only [takeL]; rw [if_neg a1, if_neg a2, if_pos a3]
    ·match l, hl with
     | b :: c :: l, _ =>
       simp only [takeL]; rw [if_neg a1, if_neg a2, if_pos a3]
       by_cases f1 : fol b = true
       ·by_cases f2 : fol c = true
        ·simp [accL, f1, f2] at h
        ·rw [if_neg (fun hh => f2 hh.2.1)]
       ·rw [if_neg (fun hh => f1 hh.1)]
    ·match l, hl with
     | b :: c :: l, _ =>
       simp only [takeL]; rw [if_neg a1, if_neg a2, if_pos a3]
       by_cases f1 : fol b = true
       ·by_cases f2 : fol c = true
        ·have hx : num3 a b c = x := by simpa [accL, f1, f2, num3] using h
         have e0 : num3 a b c = (((a.toNat : Int) - 224) * 64 + ((b.toNat : Int) - 128)) * 64 + ((c.toNat : Int) - 128) := rfl
         have := (fol_iff b).1 f1
         have := (fol_iff c).1 f2
         rw [hx]
         rw [if_neg (fun hh => hn ⟨hh.2.2.1, (ix2 x).2 (by omega)⟩)]
        ·rw [if_neg (fun hh => f2 hh.2.1)]
       ·rw [if_neg (fun hh => f1 hh.1)]
    ·match l, hl with
     | b :: c :: l, _ =>
       simp only [takeL]; rw [if_neg a1, if_neg a2, if_pos a3]
       by_cases f1 : fol b = true
       ·by_cases f2 : fol c = true
        ·have hx : num3 a b c = x := by simpa [accL, f1, f2, num3] using h
         rw [hx, if_pos ⟨f1, f2, hp, ((ix2 x).1 hi).1⟩]
        ·simp [accL, f1, f2] at h
       ·simp [accL, f1] at h
   ·have e : ixF a.toNat 4 = 3 := by unfold ixF; (repeat' split) <;> omega
    refine ⟨3, 65536, 240, by omega, e, by rw [e]; rfl, by omega, by omega, ⟨fun l h => ?_, fun l hl h => ?_, fun l x hl h hn => ?_, fun l x hl h hp hi => ?_⟩⟩
    ·match l, h with
     | [], _ => simp only [takeL]; rw [if_neg a1, if_neg a2, if_neg a3]
     | [_], _ => simp only [takeL]; rw [if_neg a1, if_neg a2, if_neg a3]
     | [_, _], _ => simp only [takeL]; rw [if_neg a1, if_neg a2, if_neg a3]
    ·match l, hl with
     | b :: c :: d :: l, _ =>
       simp only [takeL]; rw [if_neg a1, if_neg a2, if_neg a3]
       by_cases f1 : fol b = true
       ·by_cases f2 : fol c = true
        ·by_cases f3 : fol d = true
         ·simp [accL, f1, f2, f3] at h
         ·rw [if_neg (fun hh => f3 hh.2.2.1)]
        ·rw [if_neg (fun hh => f2 hh.2.1)]
       ·rw [if_neg (fun hh => f1 hh.1)]
    ·match l, hl with
     | b :: c :: d :: l, _ =>
       simp only [takeL]; rw [if_neg a1, if_neg a2, if_neg a3]
       by_cases f1 : fol b = true
       ·by_cases f2 : fol c = true
        ·by_cases f3 : fol d = true
         ·have hx : num4 a b c d = x := by simpa [accL, f1, f2, f3, num4] using h
          rw [hx]
          rw [if_neg (fun hh => hn ⟨hh.2.2.2.1, (ix3 x).2 hh.2.2.2.2⟩)]
         ·rw [if_neg (fun hh => f3 hh.2.2.1)]
        ·rw [if_neg (fun hh => f2 hh.2.1)]
       ·rw [if_neg (fun hh => f1 hh.1)]
    ·match l, hl with
     | b :: c :: d :: l, _ =>
       simp only [takeL]; rw [if_neg a1, if_neg a2, if_neg a3]
       by_cases f1 : fol b = true
       ·by_cases f2 : fol c = true
        ·by_cases f3 : fol d = true
         ·have hx : num4 a b c d = x := by simpa [accL, f1, f2, f3, num4] using h
          rw [hx, if_pos ⟨f1, f2, f3, hp, ((ix3 x).1 hi)⟩]
         ·simp [accL, f1, f2, f3] at h
        ·simp [accL, f1, f2] at h
       ·simp [accL, f1] at h
end Go.Proofs.YtdfojkbgdoiglaaGreatDoor
namespace Go.Proofs.YtdfojkbgdoiglaaGreatDoor
open Go.RowKit
theorem quiet_more {P : Program} {f : FuncId} {args : Array Value} {w : World} {a n : Nat} {v : Value} (h : Calls P f args (w.drewN (a + n)) fun e w' => e = .returned v ∧ w' = w.drewN (a + n)) : Calls P f args (w.drewN (a + n)) fun e w' => e = .returned v ∧ ∃ m, w' = w.drewN (a + m) :=
 h.mono fun _ _ h => ⟨h.1, n, h.2⟩
theorem isPt_at (r : Int) (p : Bool) (h : isPt r = p) (w : World) : Calls Tryz.prog 72 #[.int .i64 r] w fun e w' => e = .returned (.bool p) ∧ w = w' := by
 subst h
 exact isPt_any r w
theorem isPt_same (r : Int) (p : Bool) (h : isPt r = p) (w : World) : Calls Tryz.prog 72 #[.int .i64 r] w fun e w' => e = .returned (.bool p) ∧ w' = w := (isPt_at r p h w).mono fun _ _ ⟨a, b⟩ => ⟨a, b.symm⟩
theorem sizeOf_at (r : Int) (u : Array Value) (h : szA (ixP r 4) = u) (w : World) (hs : Siz w) : Calls Tryz.prog 92 #[.int .i64 r] w fun e w' => e = .returned (.agg u) ∧ Below w.heap.size w w' := by
 subst h
 exact sizeOf_any r w hs
theorem szA_cnt (i : Nat) (h : i ≤ 3) : ∃ p q : Int, szA i = #[.int .i64 ((i : Int) + 1), .int .i64 p, .int .i64 q] := by
 obtain rfl | rfl | rfl | rfl : i = 0 ∨ i = 1 ∨ i = 2 ∨ i = 3 := by omega
 all_goals exact ⟨_, _, rfl⟩
theorem ixP_le (r : Int) : ixP r 4 ≤ 3 := by unfold ixP; (repeat' split) <;> omega
set_option maxRecDepth 100000 in
set_option maxHeartbeats 4000000 in
theorem take_any (A : Option Addr) (c : Nat) (l : List UInt8) (w : World) (hs : Siz w) (hl : l.length ≤ 4294967296) (hlc : l.length ≤ c) (hr : Rd w A (bs l)) :
 Calls Tryz.prog 100 #[.slice A l.length c] w fun e w' => e = Tk l ∧ Below w.heap.size w w' := by
 cases l with
 | nil =>
   go_enter Tryz.func100, Tryz.ntmps100
   go_wp2_with fail
   go_ret2
   exact ⟨tk_zero rfl, Below.refl _ _⟩
 | cons a l =>
   obtain ⟨b, o, rfl, hb, hc⟩ := hr.at_ (by simp)
   have hc0 := hc 0 (by simp)
   have ha := a.toNat_lt
   simp only [Nat.add_zero, List.getElem_cons_zero] at hc0
   simp only [List.length_cons] at hl hlc
   obtain ⟨j, least, lead, hj, hix, hz, l0, l1, F⟩ := fst_split a
   have HZ := Lib.hid hz
   have HI := Lib.hid hix
   clear hix hz
   by_cases hlt : l.length < j
   ·have E := Lib.hid (tk_zero (F.short l hlt))
    clear F hc
    go_enter Tryz.func100, Tryz.ntmps100
    go_wp2_with fail
    refine (sizeByFirst_any _ _ hs).mono ?_
    rw [HZ.out]
    rintro e w1 ⟨rfl, hb1⟩
    have p1 := Blk.new w1 106 #[.int .i64 ((j : Int) + 1), .int .i64 least, .int .i64 lead]
    have g0 := p1.cell 0
    go_wp2
    go_ret2
    exact ⟨E.out, hb1.alloc hb1.size _⟩
   ·have hlj : j ≤ l.length := by omega
    go_enter Tryz.func100, Tryz.ntmps100
    go_wp2_with fail
    refine (sizeByFirst_any _ _ hs).mono ?_
    rw [HZ.out]
    rintro e w1 ⟨rfl, hb1⟩
    have hc1 := (hb1.cell (p := ⟨b, o, none⟩) hb).trans hc0
    have p1 := Blk.new w1 106 #[.int .i64 ((j : Int) + 1), .int .i64 least, .int .i64 lead]
    have g0 := p1.cell 0
    have g2 := p1.cell 2
    have hb2 := Nat.lt_of_lt_of_le hb hb1.size
    go_wp2
    go_quiet (fail)
    have hcs : ∀ k (hk : k < l.length), w.cell? ⟨b, o + 1 + k, none⟩ = some (.int .u8 ((l[k]'hk).toNat : Int)) := fun k hk => by
     have := hc (k + 1) (by simpa using hk)
     rw [show o + 1 + k = o + (k + 1) by omega]
     simpa using this
    have hbM : ∀ m, Below w.heap.size w ((w1.alloc (.cells #[.int .i64 ((j : Int) + 1), .int .i64 least, .int .i64 lead] 106)).drewN m) := fun m => below_drewN (hb1.alloc hb1.size _) m
    by_cases h1c : c = 1
    ·subst h1c
     go_wp2
     go_loop [5, 34] (fun x i => ∃ (k : Nat) (y : Int), k ≤ j ∧ i = .int .i64 k ∧ x = .int .i64 y ∧ accL ((a.toNat : Int) - lead) (l.take k) = some y) (fun _ i => j - (intOf i).toNat)
     case atStart => exact ⟨0, _, Nat.zero_le _, rfl, rfl, rfl⟩
     case round =>
      obtain ⟨k, y, hk, rfl, rfl, hy⟩ := hrel
      have HY := Lib.hid hy
      clear hy
      obtain ⟨y0, y1⟩ := accL_up _ l k (by omega) (by omega) (by omega) y HY.out
      by_cases hkj : k < j
      ·exfalso; omega
      ·obtain rfl : k = j := by omega
       have hs1 : Siz (w1.alloc (.cells #[.int .i64 ((k : Int) + 1), .int .i64 least, .int .i64 lead] 106)) := hs.below' (hb1.alloc hb1.size _)
       cases hp : isPt y with
       | false =>
         have E := Lib.hid (tk_zero (F.no l y hlj HY.out (fun hh => by rw [hp] at hh; cases hh.1)))
         have HP := Lib.hid hp
         clear hp
         go_wp2
         go_quiet ((go_at_call 72; exact quiet_more (isPt_same _ _ HP.out _)))
         go_wp2
         go_ret2
         exact ⟨E.out, below_drewN (hbM _) _⟩
       | true =>
         have HP := Lib.hid hp
         clear hp
         have hsM : ∀ m, Siz ((w1.alloc (.cells #[.int .i64 ((k : Int) + 1), .int .i64 least, .int .i64 lead] 106)).drewN m) := fun _ => hs1
         have q0 := p1.cell 0
         have q1 := p1.cell 1
         have q2 := p1.cell 2
         by_cases hi : ixP y 4 = k
         ·have E := Lib.hid (tk_is (m := (k : Int) + 1) (F.yes l y hlj HY.out HP.out hi) rfl)
          have HX := Lib.hid (show szA (ixP y 4) = #[.int .i64 ((k : Int) + 1), .int .i64 least, .int .i64 lead] by rw [show ixP y 4 = ixF a.toNat 4 from hi.trans HI.out.symm]; exact HZ.out)
          clear hi
          go_wp2
          go_region_held3 (fun w' => w'.cell? ⟨w1.heap.size, 0, none⟩ = some (.int .i64 ((k : Int) + 1)) ∧ w'.cell? ⟨w1.heap.size, 1, none⟩ = some (.int .i64 least) ∧ w'.cell? ⟨w1.heap.size, 2, none⟩ = some (.int .i64 lead)) (first | exact ⟨q0, q1, q2⟩ | exact ⟨(hb3.cell (p := ⟨w1.heap.size, 0, none⟩) (by simp)).trans q0, (hb3.cell (p := ⟨w1.heap.size, 1, none⟩) (by simp)).trans q1, (hb3.cell (p := ⟨w1.heap.size, 2, none⟩) (by simp)).trans q2⟩) (first | (go_at_call 72; refine (isPt_at _ _ HP.out _).mono ?_; rintro e w' ⟨rfl, rfl⟩) | (go_at_call 92; refine (sizeOf_at _ _ HX.out _ (hsM _)).mono ?_; rintro e w3 ⟨rfl, hb3⟩))
          all_goals
           have r0 := (hb3.cell (p := ⟨w1.heap.size, 0, none⟩) (by simp)).trans q0
           have hb4 : Below w.heap.size w w3 := (hbM _).trans (hb3.mono (hbM _).size)
           clear hb3
           go_wp2
           go_quiet (fail)
           go_wp2
           go_ret2
           exact ⟨E.out, below_drewN hb4 _⟩
         ·have E := Lib.hid (tk_zero (F.no l y hlj HY.out (fun hh => hi hh.2)))
          obtain ⟨i, hi'⟩ : ∃ i, ixP y 4 = i := ⟨_, rfl⟩
          obtain ⟨p, q, hpq⟩ := szA_cnt (ixP y 4) (ixP_le y)
          rw [hi'] at hpq hi
          have HX := Lib.hid (show szA (ixP y 4) = #[.int .i64 ((i : Int) + 1), .int .i64 p, .int .i64 q] by rw [hi']; exact hpq)
          have t1 : (((i : Int) + 1) == ((k : Int) + 1)) = false := beq_false_of_ne (by omega)
          clear hi hi' hpq
          go_wp2
          go_region_held3 (fun w' => w'.cell? ⟨w1.heap.size, 0, none⟩ = some (.int .i64 ((k : Int) + 1)) ∧ w'.cell? ⟨w1.heap.size, 1, none⟩ = some (.int .i64 least) ∧ w'.cell? ⟨w1.heap.size, 2, none⟩ = some (.int .i64 lead)) (first | exact ⟨q0, q1, q2⟩ | exact ⟨(hb3.cell (p := ⟨w1.heap.size, 0, none⟩) (by simp)).trans q0, (hb3.cell (p := ⟨w1.heap.size, 1, none⟩) (by simp)).trans q1, (hb3.cell (p := ⟨w1.heap.size, 2, none⟩) (by simp)).trans q2⟩) (first | (go_at_call 72; refine (isPt_at _ _ HP.out _).mono ?_; rintro e w' ⟨rfl, rfl⟩) | (go_at_call 92; refine (sizeOf_at _ _ HX.out _ (hsM _)).mono ?_; rintro e w3 ⟨rfl, hb3⟩))
          all_goals
           have hb4 : Below w.heap.size w w3 := (hbM _).trans (hb3.mono (hbM _).size)
           clear hb3
           go_wp2
           go_ret2
           exact ⟨E.out, hb4⟩
    ·go_wp2
     go_loop [5, 34] (fun x i => ∃ (k : Nat) (y : Int), k ≤ j ∧ i = .int .i64 k ∧ x = .int .i64 y ∧ accL ((a.toNat : Int) - lead) (l.take k) = some y) (fun _ i => j - (intOf i).toNat)
     case atStart => exact ⟨0, _, Nat.zero_le _, rfl, rfl, rfl⟩
     case round =>
      obtain ⟨k, y, hk, rfl, rfl, hy⟩ := hrel
      have HY := Lib.hid hy
      clear hy
      obtain ⟨y0, y1⟩ := accL_up _ l k (by omega) (by omega) (by omega) y HY.out
      by_cases hkj : k < j
      ·have hck := (hb1.cell (p := ⟨b, o + 1 + k, none⟩) hb).trans (hcs k (by omega))
       have hd := (l[k]'(by omega)).toNat_lt
       have HS := Lib.hid (accL_step _ l k (by omega) y HY.out)
       by_cases hf : fol (l[k]'(by omega)) = true
       ·have HF := Lib.hid hf
        obtain ⟨f0, f1⟩ := (fol_iff _).1 hf
        clear hf
        go_wp2
        go_round
        case rel => exact ⟨k + 1, _, by omega, by go_num, rfl, by rw [HS.out, if_pos HF.out]⟩
        case measure => simp [intOf]; omega
       ·have E := Lib.hid (tk_zero (F.none_ l hlj (accL_none _ l (k + 1) j (by omega) (by rw [HS.out, if_neg hf]))))
        have hf2 : ¬ (128 ≤ (l[k]'(by omega)).toNat ∧ (l[k]'(by omega)).toNat < 192) := fun h => hf ((fol_iff _).2 h)
        by_cases f0 : (l[k]'(by omega)).toNat < 128
        ·clear hf hf2
         go_wp2
         go_ret2
         exact ⟨E.out, hbM _⟩
        ·have f1 : 192 ≤ (l[k]'(by omega)).toNat := by omega
         clear hf hf2
         go_wp2
         go_ret2
         exact ⟨E.out, hbM _⟩
      ·obtain rfl : k = j := by omega
       have hs1 : Siz (w1.alloc (.cells #[.int .i64 ((k : Int) + 1), .int .i64 least, .int .i64 lead] 106)) := hs.below' (hb1.alloc hb1.size _)
       cases hp : isPt y with
       | false =>
         have E := Lib.hid (tk_zero (F.no l y hlj HY.out (fun hh => by rw [hp] at hh; cases hh.1)))
         have HP := Lib.hid hp
         clear hp
         go_wp2
         go_quiet ((go_at_call 72; exact quiet_more (isPt_same _ _ HP.out _)))
         go_wp2
         go_ret2
         exact ⟨E.out, below_drewN (hbM _) _⟩
       | true =>
         have HP := Lib.hid hp
         clear hp
         have hsM : ∀ m, Siz ((w1.alloc (.cells #[.int .i64 ((k : Int) + 1), .int .i64 least, .int .i64 lead] 106)).drewN m) := fun _ => hs1
         have q0 := p1.cell 0
         have q1 := p1.cell 1
         have q2 := p1.cell 2
         by_cases hi : ixP y 4 = k
         ·have E := Lib.hid (tk_is (m := (k : Int) + 1) (F.yes l y hlj HY.out HP.out hi) rfl)
          have HX := Lib.hid (show szA (ixP y 4) = #[.int .i64 ((k : Int) + 1), .int .i64 least, .int .i64 lead] by rw [show ixP y 4 = ixF a.toNat 4 from hi.trans HI.out.symm]; exact HZ.out)
          clear hi
          go_wp2
          go_region_held3 (fun w' => w'.cell? ⟨w1.heap.size, 0, none⟩ = some (.int .i64 ((k : Int) + 1)) ∧ w'.cell? ⟨w1.heap.size, 1, none⟩ = some (.int .i64 least) ∧ w'.cell? ⟨w1.heap.size, 2, none⟩ = some (.int .i64 lead)) (first | exact ⟨q0, q1, q2⟩ | exact ⟨(hb3.cell (p := ⟨w1.heap.size, 0, none⟩) (by simp)).trans q0, (hb3.cell (p := ⟨w1.heap.size, 1, none⟩) (by simp)).trans q1, (hb3.cell (p := ⟨w1.heap.size, 2, none⟩) (by simp)).trans q2⟩) (first | (go_at_call 72; refine (isPt_at _ _ HP.out _).mono ?_; rintro e w' ⟨rfl, rfl⟩) | (go_at_call 92; refine (sizeOf_at _ _ HX.out _ (hsM _)).mono ?_; rintro e w3 ⟨rfl, hb3⟩))
          all_goals
           have r0 := (hb3.cell (p := ⟨w1.heap.size, 0, none⟩) (by simp)).trans q0
           have hb4 : Below w.heap.size w w3 := (hbM _).trans (hb3.mono (hbM _).size)
           clear hb3
           go_wp2
           go_quiet (fail)
           go_wp2
           go_ret2
           exact ⟨E.out, below_drewN hb4 _⟩
         ·have E := Lib.hid (tk_zero (F.no l y hlj HY.out (fun hh => hi hh.2)))
          obtain ⟨i, hi'⟩ : ∃ i, ixP y 4 = i := ⟨_, rfl⟩
          obtain ⟨p, q, hpq⟩ := szA_cnt (ixP y 4) (ixP_le y)
          rw [hi'] at hpq hi
          have HX := Lib.hid (show szA (ixP y 4) = #[.int .i64 ((i : Int) + 1), .int .i64 p, .int .i64 q] by rw [hi']; exact hpq)
          have t1 : (((i : Int) + 1) == ((k : Int) + 1)) = false := beq_false_of_ne (by omega)
          clear hi hi' hpq
          go_wp2
          go_region_held3 (fun w' => w'.cell? ⟨w1.heap.size, 0, none⟩ = some (.int .i64 ((k : Int) + 1)) ∧ w'.cell? ⟨w1.heap.size, 1, none⟩ = some (.int .i64 least) ∧ w'.cell? ⟨w1.heap.size, 2, none⟩ = some (.int .i64 lead)) (first | exact ⟨q0, q1, q2⟩ | exact ⟨(hb3.cell (p := ⟨w1.heap.size, 0, none⟩) (by simp)).trans q0, (hb3.cell (p := ⟨w1.heap.size, 1, none⟩) (by simp)).trans q1, (hb3.cell (p := ⟨w1.heap.size, 2, none⟩) (by simp)).trans q2⟩) (first | (go_at_call 72; refine (isPt_at _ _ HP.out _).mono ?_; rintro e w' ⟨rfl, rfl⟩) | (go_at_call 92; refine (sizeOf_at _ _ HX.out _ (hsM _)).mono ?_; rintro e w3 ⟨rfl, hb3⟩))
          all_goals
           have hb4 : Below w.heap.size w w3 := (hbM _).trans (hb3.mono (hbM _).size)
           clear hb3
           go_wp2
           go_ret2
           exact ⟨E.out, hb4⟩
end Go.Proofs.YtdfojkbgdoiglaaGreatDoor
namespace Go.Proofs.YtdfojkbgdoiglaaGreatDoor
open Go.RowKit
def figV (c : Int) : Int := if 48 ≤ c ∧ c ≤ 57 then c - 48 else if 65 ≤ c ∧ c ≤ 70 then c - 55 else if 97 ≤ c ∧ c ≤ 102 then c - 87 else 99
set_option maxHeartbeats 400000 in
theorem figures_any (n : Int) (w : World) :
 Calls Tryz.prog 110 #[.int .i64 n] w fun e w' => e = .returned (.func (.func 114) #[] #[.pointer (some ⟨w.heap.size, 0, none⟩)]) ∧ w' = w.alloc (.cells #[.int .i64 n] 3) := by
 have hmf : ∀ (fn : Fn) (first cap : Array Value) (w : World), (Instr.makeFunc fn first cap).run Tryz.prog w = .ok (.func fn first cap) w := fun _ _ _ _ => rfl
 go_enter Tryz.func110, Tryz.ntmps110
 go_wp2
 go_ret
 exact ⟨rfl, rfl⟩
def figA (c n : Int) : Int := if figV c < n then figV c else 0
def figB (c n : Int) : Bool := decide (figV c < n)
set_option maxHeartbeats 1000000 in
theorem figure_any (c n : Int) (a : Addr) (w : World) (h0 : 0 ≤ c) (h1 : c ≤ 2147483647) (hn0 : 1 ≤ n) (hn1 : n ≤ 36) (hc : w.cell? a = some (.int .i64 n)) :
 Calls Tryz.prog 114 #[.int .i32 c, .pointer (some a)] w fun e w' =>
  e = .returned (.tuple #[.int .i64 (figA c n), .bool (figB c n)]) ∧ w' = w := by
 go_enter Tryz.func114, Tryz.ntmps114
 go_wp2
 all_goals go_ret2
 all_goals
  refine ⟨ret_ib ?_ ?_, rfl⟩
  ·unfold figA figV
   (repeat' split) <;> omega
  ·unfold figB figV
   (repeat' split) <;> first | (rw [eq_comm, decide_eq_true_eq]; omega) | (rw [eq_comm, decide_eq_false_iff_not]; omega)
def digs (l : List UInt8) : Nat := (l.takeWhile isD).length
def satk (l : List UInt8) (k : Nat) : Nat := (l.take k).foldl dstep 0
theorem take_snoc (l : List UInt8) (k : Nat) (h : k < l.length) : l.take (k + 1) = l.take k ++ [l[k]] := by
 rw [List.take_succ_eq_append_getElem h]
theorem satk_succ (l : List UInt8) (k : Nat) (h : k < l.length) : satk l (k + 1) = dstep (satk l k) l[k] := by
 unfold satk; rw [take_snoc l k h, List.foldl_append]; rfl
theorem satk_le (l : List UInt8) : ∀ k, satk l k ≤ 1114111 := by
 intro k
 unfold satk
 generalize l.take k = t
 cases ht : t.reverse with
 | nil => rw [List.reverse_eq_nil_iff] at ht; subst ht; simp
 | cons c r =>
   have : t = r.reverse ++ [c] := by rw [← List.reverse_reverse t, ht]; simp
   rw [this, List.foldl_append]
   exact dstep_le _ _
theorem takeWhile_of_all {p : UInt8 → Bool} : ∀ (l : List UInt8) (k : Nat), k ≤ l.length → (∀ j (h : j < l.length), j < k → p l[j] = true) → (∀ h : k < l.length, p l[k] = false) → l.takeWhile p = l.take k
 | [], k, hk, _, _ => by simp at hk; subst hk; rfl
 | c :: r, 0, _, _, hn => by
   have := hn (by simp)
   simp at this
   simp [this]
 | c :: r, k + 1, hk, ha, hn => by
   have h0 := ha 0 (by simp) (by omega)
   simp at h0
   rw [List.takeWhile_cons_of_pos h0, List.take_succ_cons]
   congr 1
   refine takeWhile_of_all r k (by simpa using hk) (fun j h hj => ?_) (fun h => ?_)
   ·exact ha (j + 1) (by rw [List.length_cons]; omega) (by omega)
   ·exact hn (by rw [List.length_cons]; omega)
theorem digs_at (l : List UInt8) (k : Nat) (hk : k ≤ l.length) (ha : ∀ j (h : j < l.length), j < k → isD l[j] = true) (hn : ∀ h : k < l.length, isD l[k] = false) : digs l = k ∧ satv l = satk l k := by
 unfold digs satv satk
 rw [takeWhile_of_all l k hk ha hn]
 exact ⟨by rw [List.length_take]; omega, rfl⟩
theorem fig_digit (c : UInt8) (h : isD c = true) : figB (c.toNat : Int) 10 = true ∧ figA (c.toNat : Int) 10 = (c.toNat : Int) - 48 := by
 have h' : 48 ≤ c.toNat ∧ c.toNat ≤ 57 := of_decide_eq_true h
 have hv : figV (c.toNat : Int) = (c.toNat : Int) - 48 := by unfold figV; rw [if_pos (by omega)]
 unfold figB figA
 rw [hv]
 exact ⟨decide_eq_true (by omega), if_pos (by omega)⟩
theorem fig_other (c : UInt8) (h : isD c = false) : figB (c.toNat : Int) 10 = false := by
 have h' : ¬ (48 ≤ c.toNat ∧ c.toNat ≤ 57) := of_decide_eq_false h
 unfold figB
 rw [decide_eq_false_iff_not]
 unfold figV
 rw [if_neg (by omega)]
 split
 ·omega
 ·split <;> omega
set_option maxHeartbeats 1000000 in
theorem figtake_any (A : Option Addr) (c : Nat) (l : List UInt8) (w : World) (hl : l.length ≤ 4294967296) (hr : Rd w A (bs l)) :
 Calls Tryz.prog 103 #[.slice A l.length c] w fun e w' => e = .returned (.tuple #[.int .i64 (satv l), .int .i64 (digs l)]) ∧ Below w.heap.size w w' := by
 have hr1 := hr.alloc (.cells #[.int .i64 10] 3)
 have hb1 : Below w.heap.size w (w.alloc (.cells #[.int .i64 10] 3)) := (Below.refl _ _).alloc (Nat.le_refl _) _
 have hbox : (w.alloc (.cells #[.int .i64 10] 3)).cell? ⟨w.heap.size, 0, none⟩ = some (.int .i64 10) := by
  rw [World.cell?_alloc_at _ _ _ _ rfl]; rfl
 go_enter Tryz.func103, Tryz.ntmps103
 go_wp2_with (go_at_call 110; refine (figures_any 10 _).mono ?_; rintro e w' ⟨rfl, rfl⟩)
 go_loop [5, 6, 14] (fun n u i => ∃ k : Nat, k ≤ l.length ∧ i = .int .i64 k ∧ u = .int .i64 k ∧ n = .int .i64 (satk l k) ∧ Hid (∀ j (h : j < l.length), j < k → isD l[j] = true)) (fun _ _ i => l.length - (intOf i).toNat)
 case atStart => exact ⟨0, Nat.zero_le _, rfl, rfl, rfl, fun j _ h => absurd h (by omega)⟩
 case round =>
  obtain ⟨k, hk, rfl, rfl, rfl, hall⟩ := hrel
  have hsk := satk_le l k
  by_cases hlt : k < l.length
  ·obtain ⟨b, o, rfl, hb, hcell⟩ := hr1.at_ (by omega)
   have hck := hcell k hlt
   have hlo := (l[k]).toNat_lt
   clear hcell
   cases hd : isD l[k] with
   | true =>
     obtain ⟨f1, f2⟩ := fig_digit _ hd
     have H1 := Lib.hid f1
     have H2 := Lib.hid f2
     have HS := Lib.hid (satk_succ l k hlt)
     have HD := Lib.hid hd
     have h5 : 48 ≤ (l[k]).toNat ∧ (l[k]).toNat ≤ 57 := of_decide_eq_true hd
     clear f1 f2 hd
     go_wp2_with (go_at_call 114; refine (figure_any _ 10 _ _ (by omega) (by omega) (by omega) (by omega) hbox).mono ?_; rintro e w' ⟨rfl, rfl⟩; rw [H1.out, H2.out])
     go_round
     case rel =>
      refine ⟨k + 1, by omega, by go_num, by go_num, ?_, ?_⟩
      ·rw [HS.out]
       unfold dstep
       congr 1
       first | omega | (split <;> omega)
      ·intro j h hj
       by_cases e : j = k
       ·subst e; exact HD.out
       ·exact hall.out j h (by omega)
     case measure => simp [intOf]; omega
   | false =>
     have H1 := Lib.hid (fig_other _ hd)
     have HE := Lib.hid (digs_at l k hk hall.out fun _ => hd)
     clear hd
     go_wp2_with (go_at_call 114; refine (figure_any _ 10 _ _ (by omega) (by omega) (by omega) (by omega) hbox).mono ?_; rintro e w' ⟨rfl, rfl⟩; rw [H1.out])
     go_ret2
     exact ⟨ret_ii (by rw [HE.out.2]) (by rw [HE.out.1]), hb1⟩
  ·have HE := Lib.hid (digs_at l k hk hall.out fun h => absurd h hlt)
   go_wp2
   go_ret2
   exact ⟨ret_ii (by rw [HE.out.2]) (by rw [HE.out.1]), hb1⟩
theorem take_at (A : Option Addr) (c : Nat) (l : List UInt8) (n : Nat) (w : World) (hn : l.length = n) (hl : l.length ≤ 4294967296) (hr : Rd w A (bs l)) :
 Calls Tryz.prog 103 #[.slice A n c] w fun e w' => e = .returned (.tuple #[.int .i64 (satv l), .int .i64 (digs l)]) ∧ Below w.heap.size w w' := by
 subst hn
 exact figtake_any A c l w hl hr
end Go.Proofs.YtdfojkbgdoiglaaGreatDoor
