/-
  Layer 10, the document's functions, walked. Layer 3, walked: the document's bare. Layer 3, walked: the document's May. The document's numbers in figures, walked. (For layers that don't load layer 1's own texts.) Layer 3, walked: a sequence's body, the document's.
-/
import Derived.Test.YtceipblcdcgljaaGreatDoorG01
import Derived.Test.YtceipblcdcgljaaGreatDoorG02
import Derived.Test.YtceipblcdcgljaaGreatDoorG07
import Derived.Test.YtceipblcdcgljaaGreatDoorG10
import Derived.Test.YtceipblcdcgljaaGreatDoorG11
import Derived.Test.YtceipblcdcgljaaGreatDoorG15
import Derived.Test.YtceipblcdcgljaaGreatDoorG18
import Derived.Test.YtceipblcdcgljaaGreatDoorG21
import Derived.Test.YtceipblcdcgljaaGreatDoorG29
import Derived.RegionCalls
import Derived.Deep.RegionWith
namespace Go.Proofs.YtceipblcdcgljaaGreatDoor
open Go.RowKit
section
section
variable {k : Ky}
set_option maxRecDepth 100000 in
set_option maxHeartbeats 4000000 in
theorem rshown_any (k : Ky) (hk : okK k) (w : World) : Calls Tryz.prog 41 #[kyV k] w fun e w' => e = .returned (.int .i64 (shownK k)) ∧ Below w.heap.size w w' := by
 have hB := ky_box w k
 have hhas := rhas10_any k.mods 1 (by decide) (by decide) hk.mods.2 (w.alloc (.cells (kyC k) 25))
 have k0 := Blk.new w 25 (kyC k)
 have hsh : shownK k = if hasN k.mods 1 = false then k.code else if k.shift ≠ 0 then k.shift else if 97 ≤ k.code ∧ k.code ≤ 122 then k.code - 32 else k.code := rfl
 obtain ⟨p, hp⟩ : ∃ p, hasN k.mods 1 = p := ⟨_, rfl⟩
 have hc := hk.code
 rw [hp] at hhas hsh
 clear hk hp
 rw [kyV]
 rw [kyC] at hB hhas k0
 obtain ⟨code, mods, typ, shift, base, text⟩ := k
 simp only at hB hhas k0 hsh hc ⊢
 go_enter Tryz.func41, Tryz.ntmps41
 have a0 := k0.cell 0
 have a1 := k0.cell 1
 have a3 := k0.cell 3
 have HSH := Lib.hid hsh
 clear hsh
 go_wp2_with fail
 refine hhas.mono ?_
 clear hhas
 rintro e w1 ⟨rfl, hb1⟩
 have k1 := k0.below hb1 k0.lt
 have hB1 := hB.trans (hb1.mono hB.size)
 clear k0 hB hb1 a0 a1 a3
 have a0 := k1.cell 0
 have a3 := k1.cell 3
 cases p with
 | false =>
   go_wp2_with fail
   go_ret
   exact ⟨ret_i (by rw [HSH.out]; rfl), hB1⟩
 | true =>
   by_cases h3 : shift = 0
   ·subst h3
    by_cases h4 : 97 ≤ code
    ·by_cases h5 : code ≤ 122
     ·go_wp2_with fail
      go_ret
      exact ⟨ret_i (by rw [HSH.out, if_neg (by decide), if_neg (fun h => h rfl), if_pos ⟨h4, h5⟩]), hB1⟩
     ·have h6 : 122 < code := by omega
      go_wp2_with fail
      go_ret
      exact ⟨ret_i (by rw [HSH.out, if_neg (by decide), if_neg (fun h => h rfl), if_neg (by omega)]), hB1⟩
    ·have h6 : code < 97 := by omega
     go_wp2_with fail
     go_ret
     exact ⟨ret_i (by rw [HSH.out, if_neg (by decide), if_neg (fun h => h rfl), if_neg (by omega)]), hB1⟩
   ·have h5 : (shift == 0) = false := beq_false_of_ne h3
    have h6 : (shift != 0) = true := by simp [bne, h5]
    have H3 := Lib.hid h3
    clear h3
    go_wp2_with fail
    go_ret
    exact ⟨ret_i (by rw [HSH.out, if_neg (by decide), if_pos H3.out]), hB1⟩
end
section
end
section
end
end
set_option maxRecDepth 100000 in
set_option maxHeartbeats 4000000 in
theorem bare_any (s : Sq) (A : Option Addr) (c : Nat) (q : Bool) (w : World) (hq : bareOk s = q) :
 Calls Tryz.prog 123 #[sqV s A c] w fun e w' => e = .returned (.bool q) ∧ Below w.heap.size w w' := by
 obtain ⟨k, pv, ps, it, f, d⟩ := s
 unfold sqV
 dsimp only
 have key : (k = 2 ∨ k = 4 ∨ k = 5) ∧ pv ≠ 0 ∧ q = false ∨ (k = 2 ∨ k = 4 ∨ k = 5) ∧ pv = 0 ∧ ps ≠ [] ∧ q = false ∨ (k = 2 ∨ k = 4) ∧ pv = 0 ∧ ps = [] ∧ it ≠ [] ∧ q = false ∨
  (k = 2 ∧ pv = 0 ∧ ps = [] ∧ it = [] ∨ k = 5 ∧ pv = 0 ∧ ps = []) ∧ q = decide (d = []) ∨ k = 4 ∧ pv = 0 ∧ ps = [] ∧ it = [] ∧ q = true ∨ k = 3 ∧ q = true ∨ (k ≠ 2 ∧ k ≠ 3 ∧ k ≠ 4 ∧ k ≠ 5) ∧ q = decide (d = []) := by
  subst hq
  unfold bareOk
  dsimp only
  by_cases k2 : k = 2
  ·subst k2
   by_cases h1 : pv = 0 <;> by_cases h2 : ps = [] <;> by_cases h3 : it = [] <;> simp [h1, h2, h3]
  ·by_cases k4 : k = 4
   ·subst k4
    by_cases h1 : pv = 0 <;> by_cases h2 : ps = [] <;> by_cases h3 : it = [] <;> simp [h1, h2, h3]
   ·by_cases k5 : k = 5
    ·subst k5
     by_cases h1 : pv = 0 <;> by_cases h2 : ps = [] <;> simp [h1, h2]
    ·by_cases k3 : k = 3
     ·subst k3; simp
     ·simp [k2, k3, k4, k5]
 clear hq
 rcases key with ⟨hk, hp, rfl⟩ | ⟨hk, rfl, hp, rfl⟩ | ⟨hk, rfl, rfl, hi, rfl⟩ | ⟨⟨rfl, rfl, rfl, rfl⟩ | ⟨rfl, rfl, rfl⟩, hq⟩ | ⟨rfl, rfl, rfl, rfl, rfl⟩ | ⟨rfl, rfl⟩ | ⟨⟨k2, k3, k4, k5⟩, hq⟩
 ·have hn : pv.toNat ≠ 0 := fun e => hp (UInt8.toNat_inj.1 e)
  have t1 : ((pv.toNat : Int) == 0) = false := beq_false_of_ne (by omega)
  have t2 : ((pv.toNat : Int) != 0) = true := by simp [bne, t1]
  clear hp
  rcases hk with rfl | rfl | rfl
  all_goals
   go_enter Tryz.func123, Tryz.ntmps123
   go_wp2
   go_ret
   exact ⟨rfl, (Below.refl _ _).alloc (Nat.le_refl _) _⟩
 ·have hn : 0 < ps.length := List.length_pos_iff.2 hp
  have hn2 : (0 : Int) < (ps.length : Int) := by omega
  clear hp
  rcases hk with rfl | rfl | rfl
  all_goals
   go_enter Tryz.func123, Tryz.ntmps123
   go_wp2
   go_ret
   exact ⟨rfl, (Below.refl _ _).alloc (Nat.le_refl _) _⟩
 ·cases it with
  | nil => exact absurd rfl hi
  | cons x it =>
    clear hi
    rcases hk with rfl | rfl
    all_goals
     go_enter Tryz.func123, Tryz.ntmps123
     go_wp2
     go_ret
     exact ⟨rfl, (Below.refl _ _).alloc (Nat.le_refl _) _⟩
 ·cases d with
  | nil =>
    obtain rfl : true = q := hq.symm
    clear hq
    go_enter Tryz.func123, Tryz.ntmps123
    go_wp2
    go_ret
    exact ⟨rfl, (Below.refl _ _).alloc (Nat.le_refl _) _⟩
  | cons x d =>
    obtain rfl : false = q := hq.symm
    clear hq
    go_enter Tryz.func123, Tryz.ntmps123
    go_wp2
    go_ret
    exact ⟨rfl, (Below.refl _ _).alloc (Nat.le_refl _) _⟩
 ·cases d with
  | nil =>
    obtain rfl : true = q := hq.symm
    clear hq
    go_enter Tryz.func123, Tryz.ntmps123
    go_wp2
    go_ret
    exact ⟨rfl, (Below.refl _ _).alloc (Nat.le_refl _) _⟩
  | cons x d =>
    obtain rfl : false = q := hq.symm
    clear hq
    go_enter Tryz.func123, Tryz.ntmps123
    go_wp2
    go_ret
    exact ⟨rfl, (Below.refl _ _).alloc (Nat.le_refl _) _⟩
 ·cases d
  all_goals
   go_enter Tryz.func123, Tryz.ntmps123
   go_wp2
   go_ret
   exact ⟨rfl, (Below.refl _ _).alloc (Nat.le_refl _) _⟩
 ·cases d
  all_goals
   go_enter Tryz.func123, Tryz.ntmps123
   go_wp2
   go_ret
   exact ⟨rfl, (Below.refl _ _).alloc (Nat.le_refl _) _⟩
 ·have t2 : (k == 2) = false := beq_false_of_ne k2
  have t3 : (k == 3) = false := beq_false_of_ne k3
  have t4 : (k == 4) = false := beq_false_of_ne k4
  have t5 : (k == 5) = false := beq_false_of_ne k5
  clear k2 k3 k4 k5
  cases d with
  | nil =>
    obtain rfl : true = q := hq.symm
    clear hq
    go_enter Tryz.func123, Tryz.ntmps123
    go_wp2
    go_ret
    exact ⟨rfl, (Below.refl _ _).alloc (Nat.le_refl _) _⟩
  | cons x d =>
    obtain rfl : false = q := hq.symm
    clear hq
    go_enter Tryz.func123, Tryz.ntmps123
    go_wp2
    go_ret
    exact ⟨rfl, (Below.refl _ _).alloc (Nat.le_refl _) _⟩
set_option maxRecDepth 100000 in
set_option maxHeartbeats 8000000 in
theorem may_wide (s : Sq) (A : Option Addr) (c : Nat) (m : Int) (w : World) (hm : mayS s = m) (hp : s.params.length ≤ 4294967296) (hi : s.inter.length ≤ 9223372036854775807) (hr : RdP w A s.params) :
 Calls Tryz.prog 83 #[sqV s A c] w fun e w' => e = .returned (.int .i64 m) ∧ Below w.heap.size w w' := by
 by_cases hd : 4096 < s.data.length
 ·obtain rfl : 4 = m := (may_4 hd).symm.trans hm
  clear hm
  unfold sqV
  go_enter Tryz.func83, Tryz.ntmps83
  go_wp2_with fail
  go_ret
  exact ⟨rfl, (Below.refl _ _).alloc (Nat.le_refl _) _⟩
 ·have hd4 : s.data.length ≤ 4096 := by omega
  clear hd
  have hB : Below w.heap.size w (w.alloc (.cells #[.int .i64 s.kind, .int .u8 (s.priv.toNat : Int), .slice A s.params.length c, .string ⟨s.inter.toArray⟩, .int .u8 (s.final.toNat : Int), .string ⟨s.data.toArray⟩] 40)) := (Below.refl _ _).alloc (Nat.le_refl _) _
  cases h1 : privOk s.priv with
  | false =>
    obtain rfl : 1 = m := (may_1 hd4 (by unfold okS; rw [h1]; rfl)).symm.trans hm
    clear hm
    simp only [privOk, Bool.or_eq_false_iff, decide_eq_false_iff_not] at h1
    obtain ⟨p0, p1⟩ := h1
    have p2 := (btw_no _ _ _).1 p1
    have hn : s.priv.toNat ≠ 0 := fun e => p0 (UInt8.toNat_inj.1 e)
    have t1 : ((s.priv.toNat : Int) == 0) = false := beq_false_of_ne (by omega)
    have t2 : ((s.priv.toNat : Int) != 0) = true := by simp [bne, t1]
    clear p0 p1
    by_cases p3 : s.priv.toNat < 60
    all_goals
     unfold sqV
     go_enter Tryz.func83, Tryz.ntmps83
     go_wp2_with fail
     go_ret
     exact ⟨rfl, hB⟩
  | true =>
    have V1 := Lib.hid h1
    have key : ((s.priv.toNat : Int) == 0) = true ∧ ((s.priv.toNat : Int) != 0) = false ∨ ((s.priv.toNat : Int) == 0) = false ∧ ((s.priv.toNat : Int) != 0) = true ∧ 60 ≤ s.priv.toNat ∧ s.priv.toNat ≤ 63 := by
     simp only [privOk, Bool.or_eq_true, decide_eq_true_eq] at h1
     rcases h1 with h1 | h1
     ·left; rw [h1]; exact ⟨rfl, rfl⟩
     ·right
      have := (btw_iff _ _ _).1 h1
      have t1 : ((s.priv.toNat : Int) == 0) = false := beq_false_of_ne (by omega)
      exact ⟨t1, by simp [bne, t1], this⟩
    clear h1
    rcases key with ⟨t1, t2⟩ | ⟨t1, t2, p1, p2⟩
    all_goals
     cases h2 : parOk s.params with
     | false =>
       have V2 := Lib.hid h2
       clear h2
       obtain rfl : 1 = m := (may_1 hd4 (by simp [okS, V1.out, V2.out])).symm.trans hm
       clear hm
       unfold sqV
       go_enter Tryz.func83, Tryz.ntmps83
       go_wp2_with fail
       refine (params_any A c s.params false _ V2.out hp (hr.below hB)).mono ?_
       rintro e w1 ⟨rfl, rfl⟩
       go_wp2_with fail
       go_ret
       exact ⟨rfl, hB⟩
     | true =>
       have V2 := Lib.hid h2
       clear h2
       by_cases h3 : 2 < s.inter.length
       ·have V3 := Lib.hid (show ¬ s.inter.length ≤ 2 by omega)
        obtain rfl : 1 = m := (may_1 hd4 (by simp [okS, V1.out, V2.out, V3.out])).symm.trans hm
        clear hm
        unfold sqV
        go_enter Tryz.func83, Tryz.ntmps83
        go_wp2_with fail
        refine (params_any A c s.params true _ V2.out hp (hr.below hB)).mono ?_
        rintro e w1 ⟨rfl, rfl⟩
        go_wp2_with fail
        go_ret
        exact ⟨rfl, hB⟩
       ·have h3 : s.inter.length ≤ 2 := by omega
        have V3 := Lib.hid h3
        cases h4 : s.inter.all (btw 32 47) with
        | false =>
          have V4 := Lib.hid h4
          clear h4
          obtain rfl : 1 = m := (may_1 hd4 (by simp [okS, V1.out, V2.out, V3.out, V4.out])).symm.trans hm
          clear hm
          unfold sqV
          go_enter Tryz.func83, Tryz.ntmps83
          go_wp2_with fail
          refine (params_any A c s.params true _ V2.out hp (hr.below hB)).mono ?_
          rintro e w1 ⟨rfl, rfl⟩
          go_wp2_with fail
          refine (within_any s.inter 32 47 false _ (by omega) V4.out).mono ?_
          rintro e w1 ⟨rfl, rfl⟩
          go_wp2_with fail
          go_ret
          exact ⟨rfl, hB⟩
        | true =>
          have V4 := Lib.hid h4
          clear h4
          cases h5 : s.data.all (btw 32 126) with
          | false =>
            have V5 := Lib.hid h5
            clear h5
            obtain rfl : 1 = m := (may_1 hd4 (by simp [okS, V1.out, V2.out, V3.out, V4.out, V5.out])).symm.trans hm
            clear hm
            unfold sqV
            go_enter Tryz.func83, Tryz.ntmps83
            go_wp2_with fail
            refine (params_any A c s.params true _ V2.out hp (hr.below hB)).mono ?_
            rintro e w1 ⟨rfl, rfl⟩
            go_wp2_with fail
            refine (within_any s.inter 32 47 true _ (by omega) V4.out).mono ?_
            rintro e w1 ⟨rfl, rfl⟩
            go_wp2_with fail
            refine (within_any s.data 32 126 false _ (by omega) V5.out).mono ?_
            rintro e w1 ⟨rfl, rfl⟩
            go_wp2_with fail
            go_ret
            exact ⟨rfl, hB⟩
          | true =>
            have V5 := Lib.hid h5
            clear h5
            cases h6 : lastOk s with
            | false =>
              have V6 := Lib.hid h6
              clear h6
              obtain rfl : 1 = m := (may_1 hd4 (by simp [okS, V1.out, V2.out, V3.out, V4.out, V5.out, V6.out])).symm.trans hm
              clear hm
              unfold sqV
              go_enter Tryz.func83, Tryz.ntmps83
              go_wp2_with fail
              refine (params_any A c s.params true _ V2.out hp (hr.below hB)).mono ?_
              rintro e w1 ⟨rfl, rfl⟩
              go_wp2_with fail
              refine (within_any s.inter 32 47 true _ (by omega) V4.out).mono ?_
              rintro e w1 ⟨rfl, rfl⟩
              go_wp2_with fail
              refine (within_any s.data 32 126 true _ (by omega) V5.out).mono ?_
              rintro e w1 ⟨rfl, rfl⟩
              go_wp2_with fail
              refine (last_any s A c false _ V6.out).mono ?_
              rintro e w2 ⟨rfl, hb2⟩
              obtain ⟨hbc, hbf⟩ := below_cells hb2
              have hb2' := hB.trans (hb2.mono hB.size)
              go_wp2_with fail
              go_ret
              exact ⟨rfl, hb2'⟩
            | true =>
              have V6 := Lib.hid h6
              clear h6
              cases h7 : bareOk s with
              | false =>
                have V7 := Lib.hid h7
                clear h7
                obtain rfl : 1 = m := (may_1 hd4 (by simp [okS, V1.out, V2.out, V3.out, V4.out, V5.out, V6.out, V7.out])).symm.trans hm
                clear hm
                unfold sqV
                go_enter Tryz.func83, Tryz.ntmps83
                go_wp2_with fail
                refine (params_any A c s.params true _ V2.out hp (hr.below hB)).mono ?_
                rintro e w1 ⟨rfl, rfl⟩
                go_wp2_with fail
                refine (within_any s.inter 32 47 true _ (by omega) V4.out).mono ?_
                rintro e w1 ⟨rfl, rfl⟩
                go_wp2_with fail
                refine (within_any s.data 32 126 true _ (by omega) V5.out).mono ?_
                rintro e w1 ⟨rfl, rfl⟩
                go_wp2_with fail
                refine (last_any s A c true _ V6.out).mono ?_
                rintro e w2 ⟨rfl, hb2⟩
                obtain ⟨hbc, hbf⟩ := below_cells hb2
                have hb2' := hB.trans (hb2.mono hB.size)
                go_wp2_with fail
                refine (bare_any s A c false _ V7.out).mono ?_
                rintro e w3 ⟨rfl, hb3⟩
                have hb3' := hb2'.trans (hb3.mono hb2'.size)
                go_wp2_with fail
                go_ret
                exact ⟨rfl, hb3'⟩
              | true =>
                have V7 := Lib.hid h7
                clear h7
                obtain rfl : 0 = m := (may_0 hd4 (by simp [okS, V1.out, V2.out, V3.out, V4.out, V5.out, V6.out, V7.out])).symm.trans hm
                clear hm
                unfold sqV
                go_enter Tryz.func83, Tryz.ntmps83
                go_wp2_with fail
                refine (params_any A c s.params true _ V2.out hp (hr.below hB)).mono ?_
                rintro e w1 ⟨rfl, rfl⟩
                go_wp2_with fail
                refine (within_any s.inter 32 47 true _ (by omega) V4.out).mono ?_
                rintro e w1 ⟨rfl, rfl⟩
                go_wp2_with fail
                refine (within_any s.data 32 126 true _ (by omega) V5.out).mono ?_
                rintro e w1 ⟨rfl, rfl⟩
                go_wp2_with fail
                refine (last_any s A c true _ V6.out).mono ?_
                rintro e w2 ⟨rfl, hb2⟩
                obtain ⟨hbc, hbf⟩ := below_cells hb2
                have hb2' := hB.trans (hb2.mono hB.size)
                go_wp2_with fail
                refine (bare_any s A c true _ V7.out).mono ?_
                rintro e w3 ⟨rfl, hb3⟩
                have hb3' := hb2'.trans (hb3.mono hb2'.size)
                go_wp2_with fail
                go_ret
                exact ⟨rfl, hb3'⟩
theorem may_any (s : Sq) (A : Option Addr) (c : Nat) (m : Int) (w : World) (hm : mayS s = m) (hp : s.params.length ≤ 4294967296) (hi : s.inter.length ≤ 4294967296) (hr : RdP w A s.params) :
 Calls Tryz.prog 83 #[sqV s A c] w fun e w' => e = .returned (.int .i64 m) ∧ Below w.heap.size w w' :=
 may_wide s A c m w hm hp (by omega) hr
set_option maxHeartbeats 1000000 in
theorem rtext_any (k : Nat) : ∀ (n : Int) (w : World), n < k → n ≤ 9223372036854775807 → -9223372036854775808 ≤ n →
 Calls Tryz.prog 124 #[.int .i64 n] w fun e w' => e = .returned (.string ⟨(textL n).toArray⟩) ∧ Below w.heap.size w w' := by
 induction k with
 | zero =>
   intro n w hk h1 h0
   have hn : n < 0 := by omega
   have HE := Lib.hid (textL_neg n hn)
   go_enter Tryz.func124, Tryz.ntmps124
   go_wp2_with fail
   go_ret
   exact ⟨ret_s HE.out.symm, Below.refl _ _⟩
 | succ k ih =>
   intro n w hk h1 h0
   have IH := Lib.hid ih
   clear ih
   by_cases hn : n < 0
   ·have HE := Lib.hid (textL_neg n hn)
    go_enter Tryz.func124, Tryz.ntmps124
    go_wp2_with fail
    go_ret
    exact ⟨ret_s HE.out.symm, Below.refl _ _⟩
   ·by_cases h10 : n < 10
    ·have HE := Lib.hid (textL_small n (by omega) h10)
     have hcv := conv_one (P := Tryz.prog) Tryz.underlying27 Tryz.underlying5 Tryz.underlying9 (48 + n) (by omega) (by omega)
     go_enter Tryz.func124, Tryz.ntmps124
     go_wp2_with fail
     go_ret
     exact ⟨ret_s (by rw [HE.out, show (48 + n).toNat = 48 + n.toNat by omega]), (Below.refl _ _).alloc (Nat.le_refl _) _⟩
    ·have HE := Lib.hid (textL_big n (by omega))
     have hcv := conv_one (P := Tryz.prog) Tryz.underlying27 Tryz.underlying5 Tryz.underlying9 (48 + n % 10) (by omega) (by omega)
     go_enter Tryz.func124, Tryz.ntmps124
     go_wp2_with fail
     have b1 : n / 10 < k := by omega
     have b2 : n / 10 ≤ 9223372036854775807 := by omega
     have b4 := textL_length (n / 10) b2
     have b3 : -9223372036854775808 ≤ n / 10 := by omega
     have e1 : IntKind.i64.wrap (n.tdiv 10) = n / 10 := by
      rw [Int.tdiv_eq_ediv_of_nonneg (by omega)]; exact IntWalk.i64_in _ (by omega)
     have e2 : n.tmod 10 = n % 10 := Int.tmod_eq_emod_of_nonneg (by omega)
     have e3 : IntKind.i64.wrap (48 + n % 10) = 48 + n % 10 := IntWalk.i64_in _ (by omega)
     have e4 : IntKind.u8.wrap (48 + n % 10) = 48 + n % 10 := by rw [IntKind.wrap_u8]; omega
     go_region_with (first | (go_at_call 124; refine (IH.out (n / 10) _ b1 b2 b3).mono ?_; rintro e w' ⟨rfl, hb⟩; obtain ⟨hbc, hbf⟩ := below_cells hb))
     all_goals clear e1 e2 e3 e4
     all_goals go_wp2
     all_goals go_ret
     all_goals refine ⟨ret_s (q := textL n) (by rw [HE.out, show (48 + n % 10).toNat = 48 + (n % 10).toNat by omega]), ?_⟩
     all_goals first
      | exact ((Below.refl _ w).drew.trans hb).alloc hb.size _
      | exact (((Below.refl _ w).alloc (Nat.le_refl _) _).drew).trans (hb.mono (by simp))
set_option maxRecDepth 100000 in
set_option maxHeartbeats 4000000 in
theorem body_any (s : Sq) (A : Option Addr) (c : Nat) (w : World) (hp : parOk s.params = true) (hi : s.inter.length ≤ 4294967296) (hr : RdP w A s.params) :
 Calls Tryz.prog 84 #[sqV s A c] w fun e w' => e = .returned (.string ⟨(bodyL s).toArray⟩) ∧ Below w.heap.size w w' := by
 obtain ⟨hl16, hl8⟩ := parOk_lens hp
 have hB : Below w.heap.size w (w.alloc (.cells #[.int .i64 s.kind, .int .u8 (s.priv.toNat : Int), .slice A s.params.length c, .string ⟨s.inter.toArray⟩, .int .u8 (s.final.toNat : Int), .string ⟨s.data.toArray⟩] 40)) := (Below.refl _ _).alloc (Nat.le_refl _) _
 have HB := Lib.hid (show bodyL s = privL s.priv ++ parL s.params ++ s.inter from rfl)
 obtain ⟨bd, hbd⟩ : ∃ b, bodyL s = b := ⟨_, rfl⟩
 rw [hbd]
 have HBD := Lib.hid hbd
 clear hbd
 by_cases h0 : s.priv = 0
 ·have HV := Lib.hid (show privL s.priv = [] from if_pos h0)
  have t1 : ((s.priv.toNat : Int) == 0) = true := by rw [h0]; rfl
  have t2 : ((s.priv.toNat : Int) != 0) = false := by rw [h0]; rfl
  clear h0
  unfold sqV
  go_enter Tryz.func84, Tryz.ntmps84
  go_wp2_with fail
  obtain ⟨W1, hW1⟩ : ∃ W1, W1 = w.alloc (.cells #[.int .i64 s.kind, .int .u8 (s.priv.toNat : Int), .slice A s.params.length c, .string ⟨s.inter.toArray⟩, .int .u8 (s.final.toNat : Int), .string ⟨s.data.toArray⟩] 40) := ⟨_, rfl⟩
  have hcell : ∀ i, W1.cell? ⟨w.heap.size, i, none⟩ = (#[.int .i64 s.kind, .int .u8 (s.priv.toNat : Int), .slice A s.params.length c, .string ⟨s.inter.toArray⟩, .int .u8 (s.final.toNat : Int), .string ⟨s.data.toArray⟩] : Array Value)[i]? := fun i => by
   rw [hW1]; exact cell_of_row _ _ _ _ _ _ (heap_alloc_new w _)
  have c2 : W1.cell? ⟨w.heap.size, 2, none⟩ = some (.slice A s.params.length c) := hcell 2
  have c3 : W1.cell? ⟨w.heap.size, 3, none⟩ = some (.string ⟨s.inter.toArray⟩) := hcell 3
  have hs1 : w.heap.size < W1.heap.size := by rw [hW1]; simp
  have hr1 : RdP W1 A s.params := by rw [hW1]; exact hr.alloc _
  rw [← hW1] at hB
  clear hcell hr
  rw [← hW1]
  clear hW1
  go_loopw [3, 4] (fun t i wr => ∃ (k : Nat) (L : List UInt8), k ≤ s.params.length ∧ i = .int .i64 k ∧ t = .string ⟨L.toArray⟩ ∧ L = ([] : List UInt8) ++ parL (s.params.take k) ∧ Below W1.heap.size W1 wr) (fun _ i _ => s.params.length - (intOf i).toNat)
  case atStart => exact ⟨0, _, Nat.zero_le _, rfl, rfl, by simp [parL], Below.refl _ _⟩
  case round =>
   obtain ⟨k, L, hk, rfl, rfl, hL, hbw⟩ := hrel
   have HL := Lib.hid hL
   have hLl : L.length ≤ 3000 := by
    rw [hL, List.length_append]
    have := parL_len (s.params.take k) (fun p hp => hl8 p (List.mem_of_mem_take hp))
    have h2 : (s.params.take k).length ≤ 16 := Nat.le_trans (List.length_take_le' _ _) hl16
    have h3 : (([] : List UInt8) : List UInt8).length ≤ 1 := by simp
    omega
   clear hL
   have d2 := (hbw.cell (p := ⟨w.heap.size, 2, none⟩) hs1).trans c2
   have d3 := (hbw.cell (p := ⟨w.heap.size, 3, none⟩) hs1).trans c3
   by_cases hlt : k < s.params.length
   ·obtain ⟨b, o, hA, hb, hcc⟩ := hr1 (by omega)
    cases hA
    obtain ⟨A', c', hck, hrk⟩ := hcc k hlt
    obtain ⟨n, hn⟩ : ∃ n, (s.params[k]'hlt).length = n := ⟨_, rfl⟩
    rw [hn] at hck
    have hl8k := hl8 _ (List.getElem_mem hlt)
    have hn8 : n ≤ 8 := hn ▸ hl8k.1
    have HN := Lib.hid hn
    have HP := Lib.hid (hl8k.2)
    clear hn hcc hl8k
    have dk := (hbw.cell (p := ⟨b, o + k, none⟩) hb).trans hck
    have hbs : b < wr.heap.size := Nat.lt_of_lt_of_le hb hbw.size
    by_cases hk0 : k = 0
    ·have hk1 : ¬ 0 < k := by omega
     obtain ⟨L0, hL0⟩ : ∃ L0, L ++ [] = L0 := ⟨_, rfl⟩
     rw [List.append_nil] at hL0
     subst hL0
     have HT := Lib.hid (show ([] : List UInt8) ++ parL (s.params.take (k + 1)) = L ++ partL (s.params[k]'hlt) by rw [parL_take hlt, HL.out, if_pos hk0, List.append_nil, ← List.append_assoc])
     have hLl2 : L.length ≤ 3001 := by omega
     clear hk0
     go_wp2_with fail
     go_loopw [3, 5] (fun t i wr2 => ∃ (j : Nat) (M : List UInt8), j ≤ n ∧ i = .int .i64 j ∧ t = .string ⟨M.toArray⟩ ∧ M = L ++ partL ((s.params[k]'hlt).take j) ∧ Below W1.heap.size W1 wr2) (fun _ i _ => n - (intOf i).toNat)
     case atStart => exact ⟨0, _, Nat.zero_le _, rfl, rfl, by simp [partL], hbw⟩
     case round =>
      obtain ⟨j, M, hj, rfl, rfl, hM, hbw2⟩ := hrel
      have HM := Lib.hid hM
      have hMl : M.length ≤ 4000 := by
       rw [hM, List.length_append]
       have := partL_len ((s.params[k]'hlt).take j) (fun x hx => HP.out x (List.mem_of_mem_take hx))
       have h2 : ((s.params[k]'hlt).take j).length ≤ 8 := by rw [List.length_take, HN.out]; omega
       omega
      clear hM
      have e2 := (hbw2.cell (p := ⟨w.heap.size, 2, none⟩) hs1).trans c2
      have ek := (hbw2.cell (p := ⟨b, o + k, none⟩) hb).trans hck
      have hbs2 : b < wr.heap.size := Nat.lt_of_lt_of_le hb hbw2.size
      have hws2 : w.heap.size < wr.heap.size := Nat.lt_of_lt_of_le hs1 hbw2.size
      clear d2 d3 dk
      by_cases hjl : j < n
      ·have hjl2 : j < (s.params[k]'hlt).length := by rw [HN.out]; exact hjl
       obtain ⟨b2, o2, rfl, hb2, hc2⟩ := hrk.int_at (by omega)
       obtain ⟨x, hx⟩ : ∃ x, (s.params[k]'hlt)[j]'hjl2 = x := ⟨_, rfl⟩
       have hcj := (hbw2.cell (p := ⟨b2, o2 + j, none⟩) hb2).trans (hc2 j hjl2)
       rw [hx] at hcj
       have hx0 := HP.out _ (List.getElem_mem hjl2)
       rw [hx] at hx0
       obtain ⟨hx1, hx2⟩ := hx0
       have HX := Lib.hid hx
       have hbs3 : b2 < wr.heap.size := Nat.lt_of_lt_of_le hb2 hbw2.size
       clear hc2 hx
       have hxl := textL_length x (by omega)
       by_cases hj0 : j = 0
       ·have hj1 : ¬ 0 < j := by omega
        have eT := str_cat M (textL x) _ rfl
        have HR := Lib.hid (show M ++ textL x = L ++ partL ((s.params[k]'hlt).take (j + 1)) by rw [partL_take hjl2, HM.out, if_pos hj0, List.append_nil, HX.out, ← List.append_assoc])
        clear hj0
        go_wp2_with fail
        refine (rtext_any (x.toNat + 1) x _ (by omega) (by omega) (by omega)).mono ?_
        rintro e w' ⟨rfl, hb'⟩
        go_wp2
        go_round
        case rel => exact ⟨j + 1, _, by omega, by go_num, rfl, HR.out, hbw2.trans (hb'.mono hbw2.size)⟩
        case measure => simp [intOf]; omega
       ·have hj1 : 0 < j := by omega
        have eC : (⟨M.toArray⟩ : ByteArray) ++ (⟨#[58]⟩ : ByteArray) = ⟨(M ++ ([58] : List UInt8)).toArray⟩ := str_cat M [58] _ rfl
        have eT := str_cat (M ++ ([58] : List UInt8)) (textL x) _ rfl
        have HR := Lib.hid (show M ++ ([58] : List UInt8) ++ textL x = L ++ partL ((s.params[k]'hlt).take (j + 1)) by rw [partL_take hjl2, HM.out, if_neg hj0, HX.out, ← List.append_assoc, ← List.append_assoc])
        go_wp2_with fail
        refine (rtext_any (x.toNat + 1) x _ (by omega) (by omega) (by omega)).mono ?_
        rintro e w' ⟨rfl, hb'⟩
        go_wp2
        go_round
        case rel => exact ⟨j + 1, _, by omega, by go_num, rfl, (by rw [← HR.out]; simp), hbw2.trans (hb'.mono hbw2.size)⟩
        case measure => simp [intOf]; omega
      ·have hjn : j = n := by omega
       have HR := Lib.hid (show M = ([] : List UInt8) ++ parL (s.params.take (k + 1)) by rw [HT.out, HM.out, List.take_of_length_le (by rw [HN.out]; omega)])
       clear hjn
       go_wp2
       go_round
       case rel => exact ⟨k + 1, _, by omega, by go_num, rfl, HR.out, hbw2⟩
       case measure => simp [intOf]; omega
    ·have hk1 : 0 < k := by omega
     have eS : (⟨L.toArray⟩ : ByteArray) ++ (⟨#[59]⟩ : ByteArray) = ⟨(L ++ [59]).toArray⟩ := str_cat L [59] _ rfl
     obtain ⟨L0, hL0⟩ : ∃ L0, L ++ [59] = L0 := ⟨_, rfl⟩
     rw [hL0] at eS
     have HT := Lib.hid (show ([] : List UInt8) ++ parL (s.params.take (k + 1)) = L0 ++ partL (s.params[k]'hlt) by rw [parL_take hlt, ← hL0, HL.out, if_neg hk0, ← List.append_assoc, ← List.append_assoc])
     have hLl2 : L0.length ≤ 3001 := by rw [← hL0, List.length_append, List.length_singleton]; omega
     clear hL0
     go_wp2_with fail
     go_loopw [3, 5] (fun t i wr2 => ∃ (j : Nat) (M : List UInt8), j ≤ n ∧ i = .int .i64 j ∧ t = .string ⟨M.toArray⟩ ∧ M = L0 ++ partL ((s.params[k]'hlt).take j) ∧ Below W1.heap.size W1 wr2) (fun _ i _ => n - (intOf i).toNat)
     case atStart => exact ⟨0, _, Nat.zero_le _, rfl, rfl, by simp [partL], hbw⟩
     case round =>
      obtain ⟨j, M, hj, rfl, rfl, hM, hbw2⟩ := hrel
      have HM := Lib.hid hM
      have hMl : M.length ≤ 4000 := by
       rw [hM, List.length_append]
       have := partL_len ((s.params[k]'hlt).take j) (fun x hx => HP.out x (List.mem_of_mem_take hx))
       have h2 : ((s.params[k]'hlt).take j).length ≤ 8 := by rw [List.length_take, HN.out]; omega
       omega
      clear hM
      have e2 := (hbw2.cell (p := ⟨w.heap.size, 2, none⟩) hs1).trans c2
      have ek := (hbw2.cell (p := ⟨b, o + k, none⟩) hb).trans hck
      have hbs2 : b < wr.heap.size := Nat.lt_of_lt_of_le hb hbw2.size
      have hws2 : w.heap.size < wr.heap.size := Nat.lt_of_lt_of_le hs1 hbw2.size
      clear d2 d3 dk
      by_cases hjl : j < n
      ·have hjl2 : j < (s.params[k]'hlt).length := by rw [HN.out]; exact hjl
       obtain ⟨b2, o2, rfl, hb2, hc2⟩ := hrk.int_at (by omega)
       obtain ⟨x, hx⟩ : ∃ x, (s.params[k]'hlt)[j]'hjl2 = x := ⟨_, rfl⟩
       have hcj := (hbw2.cell (p := ⟨b2, o2 + j, none⟩) hb2).trans (hc2 j hjl2)
       rw [hx] at hcj
       have hx0 := HP.out _ (List.getElem_mem hjl2)
       rw [hx] at hx0
       obtain ⟨hx1, hx2⟩ := hx0
       have HX := Lib.hid hx
       have hbs3 : b2 < wr.heap.size := Nat.lt_of_lt_of_le hb2 hbw2.size
       clear hc2 hx
       have hxl := textL_length x (by omega)
       by_cases hj0 : j = 0
       ·have hj1 : ¬ 0 < j := by omega
        have eT := str_cat M (textL x) _ rfl
        have HR := Lib.hid (show M ++ textL x = L0 ++ partL ((s.params[k]'hlt).take (j + 1)) by rw [partL_take hjl2, HM.out, if_pos hj0, List.append_nil, HX.out, ← List.append_assoc])
        clear hj0
        go_wp2_with fail
        refine (rtext_any (x.toNat + 1) x _ (by omega) (by omega) (by omega)).mono ?_
        rintro e w' ⟨rfl, hb'⟩
        go_wp2
        go_round
        case rel => exact ⟨j + 1, _, by omega, by go_num, rfl, HR.out, hbw2.trans (hb'.mono hbw2.size)⟩
        case measure => simp [intOf]; omega
       ·have hj1 : 0 < j := by omega
        have eC : (⟨M.toArray⟩ : ByteArray) ++ (⟨#[58]⟩ : ByteArray) = ⟨(M ++ ([58] : List UInt8)).toArray⟩ := str_cat M [58] _ rfl
        have eT := str_cat (M ++ ([58] : List UInt8)) (textL x) _ rfl
        have HR := Lib.hid (show M ++ ([58] : List UInt8) ++ textL x = L0 ++ partL ((s.params[k]'hlt).take (j + 1)) by rw [partL_take hjl2, HM.out, if_neg hj0, HX.out, ← List.append_assoc, ← List.append_assoc])
        go_wp2_with fail
        refine (rtext_any (x.toNat + 1) x _ (by omega) (by omega) (by omega)).mono ?_
        rintro e w' ⟨rfl, hb'⟩
        go_wp2
        go_round
        case rel => exact ⟨j + 1, _, by omega, by go_num, rfl, (by rw [← HR.out]; simp), hbw2.trans (hb'.mono hbw2.size)⟩
        case measure => simp [intOf]; omega
      ·have hjn : j = n := by omega
       have HR := Lib.hid (show M = ([] : List UInt8) ++ parL (s.params.take (k + 1)) by rw [HT.out, HM.out, List.take_of_length_le (by rw [HN.out]; omega)])
       clear hjn
       go_wp2
       go_round
       case rel => exact ⟨k + 1, _, by omega, by go_num, rfl, HR.out, hbw2⟩
       case measure => simp [intOf]; omega
   ·have eF := str_cat L s.inter _ rfl
    have HR := Lib.hid (show bd = L ++ s.inter by rw [← HBD.out, HB.out, HV.out, HL.out, List.take_of_length_le (by omega)])
    have hLi : L.length + s.inter.length ≤ 4294970296 := by omega
    go_wp2
    go_ret
    exact ⟨ret_s HR.out.symm, hB.trans (hbw.mono (by omega))⟩
 ·have HV := Lib.hid (show privL s.priv = [s.priv] from if_neg h0)
  have hn : s.priv.toNat ≠ 0 := fun e => h0 (UInt8.toNat_inj.1 e)
  have t1 : ((s.priv.toNat : Int) == 0) = false := beq_false_of_ne (by omega)
  have t2 : ((s.priv.toNat : Int) != 0) = true := by simp [bne, t1]
  have hcv := conv_one (P := Tryz.prog) Tryz.underlying27 Tryz.underlying5 Tryz.underlying9 (s.priv.toNat : Int) (by omega) (by have := s.priv.toNat_lt; omega)
  clear h0
  unfold sqV
  go_enter Tryz.func84, Tryz.ntmps84
  go_wp2_with fail
  obtain ⟨W1, hW1⟩ : ∃ W1, W1 = w.alloc (.cells #[.int .i64 s.kind, .int .u8 (s.priv.toNat : Int), .slice A s.params.length c, .string ⟨s.inter.toArray⟩, .int .u8 (s.final.toNat : Int), .string ⟨s.data.toArray⟩] 40) := ⟨_, rfl⟩
  have hcell : ∀ i, W1.cell? ⟨w.heap.size, i, none⟩ = (#[.int .i64 s.kind, .int .u8 (s.priv.toNat : Int), .slice A s.params.length c, .string ⟨s.inter.toArray⟩, .int .u8 (s.final.toNat : Int), .string ⟨s.data.toArray⟩] : Array Value)[i]? := fun i => by
   rw [hW1]; exact cell_of_row _ _ _ _ _ _ (heap_alloc_new w _)
  have c2 : W1.cell? ⟨w.heap.size, 2, none⟩ = some (.slice A s.params.length c) := hcell 2
  have c3 : W1.cell? ⟨w.heap.size, 3, none⟩ = some (.string ⟨s.inter.toArray⟩) := hcell 3
  have hs1 : w.heap.size < W1.heap.size := by rw [hW1]; simp
  have hr1 : RdP W1 A s.params := by rw [hW1]; exact hr.alloc _
  rw [← hW1] at hB
  clear hcell hr
  rw [← hW1]
  clear hW1
  go_loopw [3, 4] (fun t i wr => ∃ (k : Nat) (L : List UInt8), k ≤ s.params.length ∧ i = .int .i64 k ∧ t = .string ⟨L.toArray⟩ ∧ L = [s.priv] ++ parL (s.params.take k) ∧ Below W1.heap.size W1 wr) (fun _ i _ => s.params.length - (intOf i).toNat)
  case atStart => exact ⟨0, _, Nat.zero_le _, rfl, rfl, by simp [parL], (Below.refl _ _).alloc (Nat.le_refl _) _⟩
  case round =>
   obtain ⟨k, L, hk, rfl, rfl, hL, hbw⟩ := hrel
   have HL := Lib.hid hL
   have hLl : L.length ≤ 3000 := by
    rw [hL, List.length_append]
    have := parL_len (s.params.take k) (fun p hp => hl8 p (List.mem_of_mem_take hp))
    have h2 : (s.params.take k).length ≤ 16 := Nat.le_trans (List.length_take_le' _ _) hl16
    have h3 : ([s.priv] : List UInt8).length ≤ 1 := by simp
    omega
   clear hL
   have d2 := (hbw.cell (p := ⟨w.heap.size, 2, none⟩) hs1).trans c2
   have d3 := (hbw.cell (p := ⟨w.heap.size, 3, none⟩) hs1).trans c3
   by_cases hlt : k < s.params.length
   ·obtain ⟨b, o, hA, hb, hcc⟩ := hr1 (by omega)
    cases hA
    obtain ⟨A', c', hck, hrk⟩ := hcc k hlt
    obtain ⟨n, hn⟩ : ∃ n, (s.params[k]'hlt).length = n := ⟨_, rfl⟩
    rw [hn] at hck
    have hl8k := hl8 _ (List.getElem_mem hlt)
    have hn8 : n ≤ 8 := hn ▸ hl8k.1
    have HN := Lib.hid hn
    have HP := Lib.hid (hl8k.2)
    clear hn hcc hl8k
    have dk := (hbw.cell (p := ⟨b, o + k, none⟩) hb).trans hck
    have hbs : b < wr.heap.size := Nat.lt_of_lt_of_le hb hbw.size
    by_cases hk0 : k = 0
    ·have hk1 : ¬ 0 < k := by omega
     obtain ⟨L0, hL0⟩ : ∃ L0, L ++ [] = L0 := ⟨_, rfl⟩
     rw [List.append_nil] at hL0
     subst hL0
     have HT := Lib.hid (show [s.priv] ++ parL (s.params.take (k + 1)) = L ++ partL (s.params[k]'hlt) by rw [parL_take hlt, HL.out, if_pos hk0, List.append_nil, ← List.append_assoc])
     have hLl2 : L.length ≤ 3001 := by omega
     clear hk0
     go_wp2_with fail
     go_loopw [3, 5] (fun t i wr2 => ∃ (j : Nat) (M : List UInt8), j ≤ n ∧ i = .int .i64 j ∧ t = .string ⟨M.toArray⟩ ∧ M = L ++ partL ((s.params[k]'hlt).take j) ∧ Below W1.heap.size W1 wr2) (fun _ i _ => n - (intOf i).toNat)
     case atStart => exact ⟨0, _, Nat.zero_le _, rfl, rfl, by simp [partL], hbw⟩
     case round =>
      obtain ⟨j, M, hj, rfl, rfl, hM, hbw2⟩ := hrel
      have HM := Lib.hid hM
      have hMl : M.length ≤ 4000 := by
       rw [hM, List.length_append]
       have := partL_len ((s.params[k]'hlt).take j) (fun x hx => HP.out x (List.mem_of_mem_take hx))
       have h2 : ((s.params[k]'hlt).take j).length ≤ 8 := by rw [List.length_take, HN.out]; omega
       omega
      clear hM
      have e2 := (hbw2.cell (p := ⟨w.heap.size, 2, none⟩) hs1).trans c2
      have ek := (hbw2.cell (p := ⟨b, o + k, none⟩) hb).trans hck
      have hbs2 : b < wr.heap.size := Nat.lt_of_lt_of_le hb hbw2.size
      have hws2 : w.heap.size < wr.heap.size := Nat.lt_of_lt_of_le hs1 hbw2.size
      clear d2 d3 dk
      by_cases hjl : j < n
      ·have hjl2 : j < (s.params[k]'hlt).length := by rw [HN.out]; exact hjl
       obtain ⟨b2, o2, rfl, hb2, hc2⟩ := hrk.int_at (by omega)
       obtain ⟨x, hx⟩ : ∃ x, (s.params[k]'hlt)[j]'hjl2 = x := ⟨_, rfl⟩
       have hcj := (hbw2.cell (p := ⟨b2, o2 + j, none⟩) hb2).trans (hc2 j hjl2)
       rw [hx] at hcj
       have hx0 := HP.out _ (List.getElem_mem hjl2)
       rw [hx] at hx0
       obtain ⟨hx1, hx2⟩ := hx0
       have HX := Lib.hid hx
       have hbs3 : b2 < wr.heap.size := Nat.lt_of_lt_of_le hb2 hbw2.size
       clear hc2 hx
       have hxl := textL_length x (by omega)
       by_cases hj0 : j = 0
       ·have hj1 : ¬ 0 < j := by omega
        have eT := str_cat M (textL x) _ rfl
        have HR := Lib.hid (show M ++ textL x = L ++ partL ((s.params[k]'hlt).take (j + 1)) by rw [partL_take hjl2, HM.out, if_pos hj0, List.append_nil, HX.out, ← List.append_assoc])
        clear hj0
        go_wp2_with fail
        refine (rtext_any (x.toNat + 1) x _ (by omega) (by omega) (by omega)).mono ?_
        rintro e w' ⟨rfl, hb'⟩
        go_wp2
        go_round
        case rel => exact ⟨j + 1, _, by omega, by go_num, rfl, HR.out, hbw2.trans (hb'.mono hbw2.size)⟩
        case measure => simp [intOf]; omega
       ·have hj1 : 0 < j := by omega
        have eC : (⟨M.toArray⟩ : ByteArray) ++ (⟨#[58]⟩ : ByteArray) = ⟨(M ++ ([58] : List UInt8)).toArray⟩ := str_cat M [58] _ rfl
        have eT := str_cat (M ++ ([58] : List UInt8)) (textL x) _ rfl
        have HR := Lib.hid (show M ++ ([58] : List UInt8) ++ textL x = L ++ partL ((s.params[k]'hlt).take (j + 1)) by rw [partL_take hjl2, HM.out, if_neg hj0, HX.out, ← List.append_assoc, ← List.append_assoc])
        go_wp2_with fail
        refine (rtext_any (x.toNat + 1) x _ (by omega) (by omega) (by omega)).mono ?_
        rintro e w' ⟨rfl, hb'⟩
        go_wp2
        go_round
        case rel => exact ⟨j + 1, _, by omega, by go_num, rfl, (by rw [← HR.out]; simp), hbw2.trans (hb'.mono hbw2.size)⟩
        case measure => simp [intOf]; omega
      ·have hjn : j = n := by omega
       have HR := Lib.hid (show M = [s.priv] ++ parL (s.params.take (k + 1)) by rw [HT.out, HM.out, List.take_of_length_le (by rw [HN.out]; omega)])
       clear hjn
       go_wp2
       go_round
       case rel => exact ⟨k + 1, _, by omega, by go_num, rfl, HR.out, hbw2⟩
       case measure => simp [intOf]; omega
    ·have hk1 : 0 < k := by omega
     have eS : (⟨L.toArray⟩ : ByteArray) ++ (⟨#[59]⟩ : ByteArray) = ⟨(L ++ [59]).toArray⟩ := str_cat L [59] _ rfl
     obtain ⟨L0, hL0⟩ : ∃ L0, L ++ [59] = L0 := ⟨_, rfl⟩
     rw [hL0] at eS
     have HT := Lib.hid (show [s.priv] ++ parL (s.params.take (k + 1)) = L0 ++ partL (s.params[k]'hlt) by rw [parL_take hlt, ← hL0, HL.out, if_neg hk0, ← List.append_assoc, ← List.append_assoc])
     have hLl2 : L0.length ≤ 3001 := by rw [← hL0, List.length_append, List.length_singleton]; omega
     clear hL0
     go_wp2_with fail
     go_loopw [3, 5] (fun t i wr2 => ∃ (j : Nat) (M : List UInt8), j ≤ n ∧ i = .int .i64 j ∧ t = .string ⟨M.toArray⟩ ∧ M = L0 ++ partL ((s.params[k]'hlt).take j) ∧ Below W1.heap.size W1 wr2) (fun _ i _ => n - (intOf i).toNat)
     case atStart => exact ⟨0, _, Nat.zero_le _, rfl, rfl, by simp [partL], hbw⟩
     case round =>
      obtain ⟨j, M, hj, rfl, rfl, hM, hbw2⟩ := hrel
      have HM := Lib.hid hM
      have hMl : M.length ≤ 4000 := by
       rw [hM, List.length_append]
       have := partL_len ((s.params[k]'hlt).take j) (fun x hx => HP.out x (List.mem_of_mem_take hx))
       have h2 : ((s.params[k]'hlt).take j).length ≤ 8 := by rw [List.length_take, HN.out]; omega
       omega
      clear hM
      have e2 := (hbw2.cell (p := ⟨w.heap.size, 2, none⟩) hs1).trans c2
      have ek := (hbw2.cell (p := ⟨b, o + k, none⟩) hb).trans hck
      have hbs2 : b < wr.heap.size := Nat.lt_of_lt_of_le hb hbw2.size
      have hws2 : w.heap.size < wr.heap.size := Nat.lt_of_lt_of_le hs1 hbw2.size
      clear d2 d3 dk
      by_cases hjl : j < n
      ·have hjl2 : j < (s.params[k]'hlt).length := by rw [HN.out]; exact hjl
       obtain ⟨b2, o2, rfl, hb2, hc2⟩ := hrk.int_at (by omega)
       obtain ⟨x, hx⟩ : ∃ x, (s.params[k]'hlt)[j]'hjl2 = x := ⟨_, rfl⟩
       have hcj := (hbw2.cell (p := ⟨b2, o2 + j, none⟩) hb2).trans (hc2 j hjl2)
       rw [hx] at hcj
       have hx0 := HP.out _ (List.getElem_mem hjl2)
       rw [hx] at hx0
       obtain ⟨hx1, hx2⟩ := hx0
       have HX := Lib.hid hx
       have hbs3 : b2 < wr.heap.size := Nat.lt_of_lt_of_le hb2 hbw2.size
       clear hc2 hx
       have hxl := textL_length x (by omega)
       by_cases hj0 : j = 0
       ·have hj1 : ¬ 0 < j := by omega
        have eT := str_cat M (textL x) _ rfl
        have HR := Lib.hid (show M ++ textL x = L0 ++ partL ((s.params[k]'hlt).take (j + 1)) by rw [partL_take hjl2, HM.out, if_pos hj0, List.append_nil, HX.out, ← List.append_assoc])
        clear hj0
        go_wp2_with fail
        refine (rtext_any (x.toNat + 1) x _ (by omega) (by omega) (by omega)).mono ?_
        rintro e w' ⟨rfl, hb'⟩
        go_wp2
        go_round
        case rel => exact ⟨j + 1, _, by omega, by go_num, rfl, HR.out, hbw2.trans (hb'.mono hbw2.size)⟩
        case measure => simp [intOf]; omega
       ·have hj1 : 0 < j := by omega
        have eC : (⟨M.toArray⟩ : ByteArray) ++ (⟨#[58]⟩ : ByteArray) = ⟨(M ++ ([58] : List UInt8)).toArray⟩ := str_cat M [58] _ rfl
        have eT := str_cat (M ++ ([58] : List UInt8)) (textL x) _ rfl
        have HR := Lib.hid (show M ++ ([58] : List UInt8) ++ textL x = L0 ++ partL ((s.params[k]'hlt).take (j + 1)) by rw [partL_take hjl2, HM.out, if_neg hj0, HX.out, ← List.append_assoc, ← List.append_assoc])
        go_wp2_with fail
        refine (rtext_any (x.toNat + 1) x _ (by omega) (by omega) (by omega)).mono ?_
        rintro e w' ⟨rfl, hb'⟩
        go_wp2
        go_round
        case rel => exact ⟨j + 1, _, by omega, by go_num, rfl, (by rw [← HR.out]; simp), hbw2.trans (hb'.mono hbw2.size)⟩
        case measure => simp [intOf]; omega
      ·have hjn : j = n := by omega
       have HR := Lib.hid (show M = [s.priv] ++ parL (s.params.take (k + 1)) by rw [HT.out, HM.out, List.take_of_length_le (by rw [HN.out]; omega)])
       clear hjn
       go_wp2
       go_round
       case rel => exact ⟨k + 1, _, by omega, by go_num, rfl, HR.out, hbw2⟩
       case measure => simp [intOf]; omega
   ·have eF := str_cat L s.inter _ rfl
    have HR := Lib.hid (show bd = L ++ s.inter by rw [← HBD.out, HB.out, HV.out, HL.out, List.take_of_length_le (by omega)])
    have hLi : L.length + s.inter.length ≤ 4294970296 := by omega
    go_wp2
    go_ret
    exact ⟨ret_s HR.out.symm, hB.trans (hbw.mono (by omega))⟩
end Go.Proofs.YtceipblcdcgljaaGreatDoor
