/-
  A region that draws its order, with one new block that is stored into (and one slice that is handed to a call): what each operation keeps. Layer 3, walked: the document's bare. Layer 3, walked: the document's May.
-/
import Derived.Test.YtjlhhelikiegdaaGreatDoorG01
import Derived.Test.YtjlhhelikiegdaaGreatDoorG06
import Derived.Test.YtjlhhelikiegdaaGreatDoorG08
import Derived.Test.YtjlhhelikiegdaaGreatDoorG09
namespace Go.Proofs.YtjlhhelikiegdaaGreatDoor
open Go.RowKit
section
section
variable {P : Program} {ops : Array Oper} {md : Region.Mode}
theorem getD_up {l : Array Bool} {i j : Nat} (h : l.getD j false = true) : (l.setIfInBounds i true).getD j false = true := by
 by_cases hij : i = j
 ·subst hij
  have hlt : i < l.size := by
   rcases Nat.lt_or_ge i l.size with h1 | h1
   ·exact h1
   ·rw [Array.getD_eq_getD_getElem?, Array.getElem?_eq_none h1] at h
    cases h
  rw [Array.getD_eq_getD_getElem?, Array.getElem?_setIfInBounds_self_of_lt hlt]
  rfl
 ·rw [getD_set_ne false hij]
  exact h
theorem getD_dn {l : Array Bool} {i j : Nat} (h : (l.setIfInBounds i true).getD j false = false) : l.getD j false = false := by
 cases hh : l.getD j false with
 | false => rfl
 | true =>
   rw [getD_up hh] at h
   cases h
theorem getD_self {l : Array Bool} {i : Nat} (h : i < l.size) : (l.setIfInBounds i true).getD i false = true := by
 rw [Array.getD_eq_getD_getElem?, Array.getElem?_setIfInBounds_self_of_lt h]
 rfl
structure SM (w1 : World) (ia iz : Nat) (d : Tmp) (ty : TypeId) (z cs : Array Value) (ih ic : Nat) (dh : Tmp) (n : Nat) (xs : List Value) (l : Array Bool) (g : Tmp → Value) (w : World) : Prop where
 below : Below w1.heap.size w1 w
 made : l.getD ia false = true → ∃ b, g d = .pointer (some ⟨b, 0, none⟩) ∧ w1.heap.size ≤ b ∧ Blk w b ty (if l.getD iz false = true then cs else z)
 hand : l.getD ih false = true → l.getD ic false = false → ∃ A c, g dh = .slice A n c ∧ Rd w A xs
 turn : l.getD iz false = true → l.getD ia false = true
variable {w1 : World} {ia iz : Nat} {d : Tmp} {ty : TypeId} {z cs : Array Value} {ih ic : Nat} {dh : Tmp} {n : Nat} {xs : List Value} {l : Array Bool} {g : Tmp → Value} {w w' : World} {aF : (Tmp → Value) → Act} {i : Nat} {o : Oper}
theorem SM.quiet (h : SM w1 ia iz d ty z cs ih ic dh n xs l g w) (hb : Below w.heap.size w w') (hia : i ≠ ia) (hiz : i ≠ iz) (hih : i ≠ ih) : SM w1 ia iz d ty z cs ih ic dh n xs (l.setIfInBounds i true) g w' := by
 refine ⟨h.below.trans (hb.mono h.below.size), fun ha => ?_, fun ha hc => ?_, fun hz => ?_⟩
 ·rw [getD_set_ne false hia] at ha
  obtain ⟨b, h1, h2, h3⟩ := h.made ha
  refine ⟨b, h1, h2, ?_⟩
  rw [getD_set_ne false hiz]
  exact h3.below hb h3.lt
 ·rw [getD_set_ne false hih] at ha
  obtain ⟨A, c, h1, h2⟩ := h.hand ha (getD_dn hc)
  exact ⟨A, c, h1, h2.below hb⟩
 ·rw [getD_set_ne false hiz] at hz
  exact getD_up (h.turn hz)
theorem no_laid (k j : Nat) : (Array.replicate k false).getD j false = false := by
 rw [Array.getD_eq_getD_getElem?, Array.getElem?_replicate]
 split <;> rfl
theorem SM.zero (w1 : World) (hb : Below w1.heap.size w1 w) (k : Nat) : SM w1 ia iz d ty z cs ih ic dh n xs (Array.replicate k false) g w :=
 ⟨hb, (fun h => by rw [no_laid] at h; cases h), (fun h => by rw [no_laid] at h; cases h), (fun h => by rw [no_laid] at h; cases h)⟩
def GoesL (P : Program) (md : Region.Mode) (ops : Array Oper) (aF : (Tmp → Value) → Act) (S : Array Bool → (Tmp → Value) → World → Prop) : Nat → List Oper → Prop
 | _, [] => True
 | i, o :: os => GoesM P md ops aF S i o ∧ GoesL P md ops aF S (i + 1) os
theorem goes_cons {S : Array Bool → (Tmp → Value) → World → Prop} {os : List Oper} (h : GoesM P md ops aF S i o) (hs : GoesL P md ops aF S (i + 1) os) : GoesL P md ops aF S i (o :: os) := ⟨h, hs⟩
theorem goes_nil {S : Array Bool → (Tmp → Value) → World → Prop} : GoesL P md ops aF S i [] := trivial
theorem goesL_get {S : Array Bool → (Tmp → Value) → World → Prop} : ∀ (os : List Oper) (k : Nat), GoesL P md ops aF S k os → ∀ (j : Nat) (o : Oper), os[j]? = some o → GoesM P md ops aF S (k + j) o
 | [], _, _, _, _, h => by simp at h
 | x :: os, k, h, 0, o, ho => by
   simp at ho
   subst ho
   exact h.1
 | x :: os, k, h, j + 1, o, ho => by
   have := goesL_get os (k + 1) h.2 j o (by simpa using ho)
   rwa [show k + 1 + j = k + (j + 1) by omega] at this
theorem goesAllM_of_list {S : Array Bool → (Tmp → Value) → World → Prop} (h : GoesL P md ops aF S 0 ops.toList) : GoesAllM P md ops aF S := fun i o ho => by
 have := goesL_get ops.toList 0 h i o (by rw [← ho, Array.getElem?_toList])
 rwa [Nat.zero_add] at this
theorem run_loadVar_one {t : TypeId} {a : Addr} {v : Value} {w : World} (hag : ∀ w, (isAgg t).run P w = .ok false w) (hc : w.cell? a = some v) : (loadVar t a).run P w = .ok v w := by
 simp [loadVar, hag, hc, Result.andThen]
end
end
set_option maxRecDepth 100000 in
set_option maxHeartbeats 4000000 in
theorem bare_any (s : Sq) (A : Option Addr) (c : Nat) (q : Bool) (w : World) (hq : bareOk s = q) :
 Calls Tryz.prog 77 #[sqV s A c] w fun e w' => e = .returned (.bool q) ∧ Below w.heap.size w w' := by
 obtain ⟨k, pv, ps, it, f, d⟩ := s
 unfold sqV
 dsimp only
 have key : (k = 2 ∨ k = 4 ∨ k = 5) ∧ pv ≠ 0 ∧ q = false ∨ (k = 2 ∨ k = 4 ∨ k = 5) ∧ pv = 0 ∧ ps ≠ [] ∧ q = false ∨ (k = 2 ∨ k = 4) ∧ pv = 0 ∧ ps = [] ∧ it ≠ [] ∧ q = false ∨
  (k = 2 ∧ pv = 0 ∧ ps = [] ∧ it = [] ∨ k = 5 ∧ pv = 0 ∧ ps = []) ∧ q = decide (d = []) ∨ k = 4 ∧ pv = 0 ∧ ps = [] ∧ it = [] ∧ q = true ∨ k = 3 ∧ q = true ∨ (k ≠ 2 ∧ k ≠ 3 ∧ k ≠ 4 ∧ k ≠ 5) ∧ q = decide (d = []) := by
  subst hq
  unfold bareOk
  dsimp only
  by_cases k2 : k = 2
  ·subst k2
   by_cases h1 : pv = 0 <;> by_cases h2 : ps = [] <;> by_cases h3 : it = [] <;> simp [h1, h2, h3]
  ·by_cases k4 : k = 4
   ·subst k4
    by_cases h1 : pv = 0 <;> by_cases h2 : ps = [] <;> by_cases h3 : it = [] <;> simp [h1, h2, h3]
   ·by_cases k5 : k = 5
    ·subst k5
     by_cases h1 : pv = 0 <;> by_cases h2 : ps = [] <;> simp [h1, h2]
    ·by_cases k3 : k = 3
     ·subst k3; simp
     ·simp [k2, k3, k4, k5]
 clear hq
 rcases key with ⟨hk, hp, rfl⟩ | ⟨hk, rfl, hp, rfl⟩ | ⟨hk, rfl, rfl, hi, rfl⟩ | ⟨⟨rfl, rfl, rfl, rfl⟩ | ⟨rfl, rfl, rfl⟩, hq⟩ | ⟨rfl, rfl, rfl, rfl, rfl⟩ | ⟨rfl, rfl⟩ | ⟨⟨k2, k3, k4, k5⟩, hq⟩
 ·have hn : pv.toNat ≠ 0 := fun e => hp (UInt8.toNat_inj.1 e)
  have t1 : ((pv.toNat : Int) == 0) = false := beq_false_of_ne (by omega)
  have t2 : ((pv.toNat : Int) != 0) = true := by simp [bne, t1]
  clear hp
  rcases hk with rfl | rfl | rfl
  all_goals
   go_enter Tryz.func77, Tryz.ntmps77
   go_wp2
   go_ret
   exact ⟨rfl, (Below.refl _ _).alloc (Nat.le_refl _) _⟩
 ·have hn : 0 < ps.length := List.length_pos_iff.2 hp
  have hn2 : (0 : Int) < (ps.length : Int) := by omega
  clear hp
  rcases hk with rfl | rfl | rfl
  all_goals
   go_enter Tryz.func77, Tryz.ntmps77
   go_wp2
   go_ret
   exact ⟨rfl, (Below.refl _ _).alloc (Nat.le_refl _) _⟩
 ·cases it with
  | nil => exact absurd rfl hi
  | cons x it =>
    clear hi
    rcases hk with rfl | rfl
    all_goals
     go_enter Tryz.func77, Tryz.ntmps77
     go_wp2
     go_ret
     exact ⟨rfl, (Below.refl _ _).alloc (Nat.le_refl _) _⟩
 ·cases d with
  | nil =>
    obtain rfl : true = q := hq.symm
    clear hq
    go_enter Tryz.func77, Tryz.ntmps77
    go_wp2
    go_ret
    exact ⟨rfl, (Below.refl _ _).alloc (Nat.le_refl _) _⟩
  | cons x d =>
    obtain rfl : false = q := hq.symm
    clear hq
    go_enter Tryz.func77, Tryz.ntmps77
    go_wp2
    go_ret
    exact ⟨rfl, (Below.refl _ _).alloc (Nat.le_refl _) _⟩
 ·cases d with
  | nil =>
    obtain rfl : true = q := hq.symm
    clear hq
    go_enter Tryz.func77, Tryz.ntmps77
    go_wp2
    go_ret
    exact ⟨rfl, (Below.refl _ _).alloc (Nat.le_refl _) _⟩
  | cons x d =>
    obtain rfl : false = q := hq.symm
    clear hq
    go_enter Tryz.func77, Tryz.ntmps77
    go_wp2
    go_ret
    exact ⟨rfl, (Below.refl _ _).alloc (Nat.le_refl _) _⟩
 ·cases d
  all_goals
   go_enter Tryz.func77, Tryz.ntmps77
   go_wp2
   go_ret
   exact ⟨rfl, (Below.refl _ _).alloc (Nat.le_refl _) _⟩
 ·cases d
  all_goals
   go_enter Tryz.func77, Tryz.ntmps77
   go_wp2
   go_ret
   exact ⟨rfl, (Below.refl _ _).alloc (Nat.le_refl _) _⟩
 ·have t2 : (k == 2) = false := beq_false_of_ne k2
  have t3 : (k == 3) = false := beq_false_of_ne k3
  have t4 : (k == 4) = false := beq_false_of_ne k4
  have t5 : (k == 5) = false := beq_false_of_ne k5
  clear k2 k3 k4 k5
  cases d with
  | nil =>
    obtain rfl : true = q := hq.symm
    clear hq
    go_enter Tryz.func77, Tryz.ntmps77
    go_wp2
    go_ret
    exact ⟨rfl, (Below.refl _ _).alloc (Nat.le_refl _) _⟩
  | cons x d =>
    obtain rfl : false = q := hq.symm
    clear hq
    go_enter Tryz.func77, Tryz.ntmps77
    go_wp2
    go_ret
    exact ⟨rfl, (Below.refl _ _).alloc (Nat.le_refl _) _⟩
set_option maxRecDepth 100000 in
set_option maxHeartbeats 8000000 in
theorem may_wide (s : Sq) (A : Option Addr) (c : Nat) (m : Int) (w : World) (hm : mayS s = m) (hp : s.params.length ≤ 4294967296) (hi : s.inter.length ≤ 9223372036854775807) (hr : RdP w A s.params) :
 Calls Tryz.prog 58 #[sqV s A c] w fun e w' => e = .returned (.int .i64 m) ∧ Below w.heap.size w w' := by
 by_cases hd : 4096 < s.data.length
 ·obtain rfl : 4 = m := (may_4 hd).symm.trans hm
  clear hm
  unfold sqV
  go_enter Tryz.func58, Tryz.ntmps58
  go_wp2_with fail
  go_ret
  exact ⟨rfl, (Below.refl _ _).alloc (Nat.le_refl _) _⟩
 ·have hd4 : s.data.length ≤ 4096 := by omega
  clear hd
  have hB : Below w.heap.size w (w.alloc (.cells #[.int .i64 s.kind, .int .u8 (s.priv.toNat : Int), .slice A s.params.length c, .string ⟨s.inter.toArray⟩, .int .u8 (s.final.toNat : Int), .string ⟨s.data.toArray⟩] 44)) := (Below.refl _ _).alloc (Nat.le_refl _) _
  cases h1 : privOk s.priv with
  | false =>
    obtain rfl : 1 = m := (may_1 hd4 (by unfold okS; rw [h1]; rfl)).symm.trans hm
    clear hm
    simp only [privOk, Bool.or_eq_false_iff, decide_eq_false_iff_not] at h1
    obtain ⟨p0, p1⟩ := h1
    have p2 := (btw_no _ _ _).1 p1
    have hn : s.priv.toNat ≠ 0 := fun e => p0 (UInt8.toNat_inj.1 e)
    have t1 : ((s.priv.toNat : Int) == 0) = false := beq_false_of_ne (by omega)
    have t2 : ((s.priv.toNat : Int) != 0) = true := by simp [bne, t1]
    clear p0 p1
    by_cases p3 : s.priv.toNat < 60
    all_goals
     unfold sqV
     go_enter Tryz.func58, Tryz.ntmps58
     go_wp2_with fail
     go_ret
     exact ⟨rfl, hB⟩
  | true =>
    have V1 := Lib.hid h1
    have key : ((s.priv.toNat : Int) == 0) = true ∧ ((s.priv.toNat : Int) != 0) = false ∨ ((s.priv.toNat : Int) == 0) = false ∧ ((s.priv.toNat : Int) != 0) = true ∧ 60 ≤ s.priv.toNat ∧ s.priv.toNat ≤ 63 := by
     simp only [privOk, Bool.or_eq_true, decide_eq_true_eq] at h1
     rcases h1 with h1 | h1
     ·left; rw [h1]; exact ⟨rfl, rfl⟩
     ·right
      have := (btw_iff _ _ _).1 h1
      have t1 : ((s.priv.toNat : Int) == 0) = false := beq_false_of_ne (by omega)
      exact ⟨t1, by simp [bne, t1], this⟩
    clear h1
    rcases key with ⟨t1, t2⟩ | ⟨t1, t2, p1, p2⟩
    all_goals
     cases h2 : parOk s.params with
     | false =>
       have V2 := Lib.hid h2
       clear h2
       obtain rfl : 1 = m := (may_1 hd4 (by simp [okS, V1.out, V2.out])).symm.trans hm
       clear hm
       unfold sqV
       go_enter Tryz.func58, Tryz.ntmps58
       go_wp2_with fail
       refine (params_any A c s.params false _ V2.out hp (hr.below hB)).mono ?_
       rintro e w1 ⟨rfl, rfl⟩
       go_wp2_with fail
       go_ret
       exact ⟨rfl, hB⟩
     | true =>
       have V2 := Lib.hid h2
       clear h2
       by_cases h3 : 2 < s.inter.length
       ·have V3 := Lib.hid (show ¬ s.inter.length ≤ 2 by omega)
        obtain rfl : 1 = m := (may_1 hd4 (by simp [okS, V1.out, V2.out, V3.out])).symm.trans hm
        clear hm
        unfold sqV
        go_enter Tryz.func58, Tryz.ntmps58
        go_wp2_with fail
        refine (params_any A c s.params true _ V2.out hp (hr.below hB)).mono ?_
        rintro e w1 ⟨rfl, rfl⟩
        go_wp2_with fail
        go_ret
        exact ⟨rfl, hB⟩
       ·have h3 : s.inter.length ≤ 2 := by omega
        have V3 := Lib.hid h3
        cases h4 : s.inter.all (btw 32 47) with
        | false =>
          have V4 := Lib.hid h4
          clear h4
          obtain rfl : 1 = m := (may_1 hd4 (by simp [okS, V1.out, V2.out, V3.out, V4.out])).symm.trans hm
          clear hm
          unfold sqV
          go_enter Tryz.func58, Tryz.ntmps58
          go_wp2_with fail
          refine (params_any A c s.params true _ V2.out hp (hr.below hB)).mono ?_
          rintro e w1 ⟨rfl, rfl⟩
          go_wp2_with fail
          refine (within_any s.inter 32 47 false _ (by omega) V4.out).mono ?_
          rintro e w1 ⟨rfl, rfl⟩
          go_wp2_with fail
          go_ret
          exact ⟨rfl, hB⟩
        | true =>
          have V4 := Lib.hid h4
          clear h4
          cases h5 : s.data.all (btw 32 126) with
          | false =>
            have V5 := Lib.hid h5
            clear h5
            obtain rfl : 1 = m := (may_1 hd4 (by simp [okS, V1.out, V2.out, V3.out, V4.out, V5.out])).symm.trans hm
            clear hm
            unfold sqV
            go_enter Tryz.func58, Tryz.ntmps58
            go_wp2_with fail
            refine (params_any A c s.params true _ V2.out hp (hr.below hB)).mono ?_
            rintro e w1 ⟨rfl, rfl⟩
            go_wp2_with fail
            refine (within_any s.inter 32 47 true _ (by omega) V4.out).mono ?_
            rintro e w1 ⟨rfl, rfl⟩
            go_wp2_with fail
            refine (within_any s.data 32 126 false _ (by omega) V5.out).mono ?_
            rintro e w1 ⟨rfl, rfl⟩
            go_wp2_with fail
            go_ret
            exact ⟨rfl, hB⟩
          | true =>
            have V5 := Lib.hid h5
            clear h5
            cases h6 : lastOk s with
            | false =>
              have V6 := Lib.hid h6
              clear h6
              obtain rfl : 1 = m := (may_1 hd4 (by simp [okS, V1.out, V2.out, V3.out, V4.out, V5.out, V6.out])).symm.trans hm
              clear hm
              unfold sqV
              go_enter Tryz.func58, Tryz.ntmps58
              go_wp2_with fail
              refine (params_any A c s.params true _ V2.out hp (hr.below hB)).mono ?_
              rintro e w1 ⟨rfl, rfl⟩
              go_wp2_with fail
              refine (within_any s.inter 32 47 true _ (by omega) V4.out).mono ?_
              rintro e w1 ⟨rfl, rfl⟩
              go_wp2_with fail
              refine (within_any s.data 32 126 true _ (by omega) V5.out).mono ?_
              rintro e w1 ⟨rfl, rfl⟩
              go_wp2_with fail
              refine (last_any s A c false _ V6.out).mono ?_
              rintro e w2 ⟨rfl, hb2⟩
              obtain ⟨hbc, hbf⟩ := below_cells hb2
              have hb2' := hB.trans (hb2.mono hB.size)
              go_wp2_with fail
              go_ret
              exact ⟨rfl, hb2'⟩
            | true =>
              have V6 := Lib.hid h6
              clear h6
              cases h7 : bareOk s with
              | false =>
                have V7 := Lib.hid h7
                clear h7
                obtain rfl : 1 = m := (may_1 hd4 (by simp [okS, V1.out, V2.out, V3.out, V4.out, V5.out, V6.out, V7.out])).symm.trans hm
                clear hm
                unfold sqV
                go_enter Tryz.func58, Tryz.ntmps58
                go_wp2_with fail
                refine (params_any A c s.params true _ V2.out hp (hr.below hB)).mono ?_
                rintro e w1 ⟨rfl, rfl⟩
                go_wp2_with fail
                refine (within_any s.inter 32 47 true _ (by omega) V4.out).mono ?_
                rintro e w1 ⟨rfl, rfl⟩
                go_wp2_with fail
                refine (within_any s.data 32 126 true _ (by omega) V5.out).mono ?_
                rintro e w1 ⟨rfl, rfl⟩
                go_wp2_with fail
                refine (last_any s A c true _ V6.out).mono ?_
                rintro e w2 ⟨rfl, hb2⟩
                obtain ⟨hbc, hbf⟩ := below_cells hb2
                have hb2' := hB.trans (hb2.mono hB.size)
                go_wp2_with fail
                refine (bare_any s A c false _ V7.out).mono ?_
                rintro e w3 ⟨rfl, hb3⟩
                have hb3' := hb2'.trans (hb3.mono hb2'.size)
                go_wp2_with fail
                go_ret
                exact ⟨rfl, hb3'⟩
              | true =>
                have V7 := Lib.hid h7
                clear h7
                obtain rfl : 0 = m := (may_0 hd4 (by simp [okS, V1.out, V2.out, V3.out, V4.out, V5.out, V6.out, V7.out])).symm.trans hm
                clear hm
                unfold sqV
                go_enter Tryz.func58, Tryz.ntmps58
                go_wp2_with fail
                refine (params_any A c s.params true _ V2.out hp (hr.below hB)).mono ?_
                rintro e w1 ⟨rfl, rfl⟩
                go_wp2_with fail
                refine (within_any s.inter 32 47 true _ (by omega) V4.out).mono ?_
                rintro e w1 ⟨rfl, rfl⟩
                go_wp2_with fail
                refine (within_any s.data 32 126 true _ (by omega) V5.out).mono ?_
                rintro e w1 ⟨rfl, rfl⟩
                go_wp2_with fail
                refine (last_any s A c true _ V6.out).mono ?_
                rintro e w2 ⟨rfl, hb2⟩
                obtain ⟨hbc, hbf⟩ := below_cells hb2
                have hb2' := hB.trans (hb2.mono hB.size)
                go_wp2_with fail
                refine (bare_any s A c true _ V7.out).mono ?_
                rintro e w3 ⟨rfl, hb3⟩
                have hb3' := hb2'.trans (hb3.mono hb2'.size)
                go_wp2_with fail
                go_ret
                exact ⟨rfl, hb3'⟩
theorem may_any (s : Sq) (A : Option Addr) (c : Nat) (m : Int) (w : World) (hm : mayS s = m) (hp : s.params.length ≤ 4294967296) (hi : s.inter.length ≤ 4294967296) (hr : RdP w A s.params) :
 Calls Tryz.prog 58 #[sqV s A c] w fun e w' => e = .returned (.int .i64 m) ∧ Below w.heap.size w w' :=
 may_wide s A c m w hm hp (by omega) hr
end Go.Proofs.YtjlhhelikiegdaaGreatDoor
