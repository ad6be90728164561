/-
  Layer 13, the laws' walks over the bundle: KittyForms. Layer 13, walked: the alternates, as the law tells them.
-/
import Derived.Test.YtdfojkbgdoiglaaDoorG07
import Derived.Test.YtdfojkbgdoiglaaDoorG09
import Derived.Test.YtdfojkbgdoiglaaDoorG10
import Derived.Test.YtdfojkbgdoiglaaDoorG15
import Derived.Test.YtdfojkbgdoiglaaDoorG24
import Derived.Test.YtdfojkbgdoiglaaDoorG27
import Derived.Test.YtdfojkbgdoiglaaDoorG35
import Derived.Test.YtdfojkbgdoiglaaDoorG37
import Derived.Deep.Cut
namespace Go.Proofs.YtdfojkbgdoiglaaDoor
open Go.RowKit
variable {Inv : World → Prop}
theorem frm_zero {c : Int} (h : (lookE c).kind = 0) : frmK c = (0, 0) := if_pos h
set_option maxRecDepth 100000 in
set_option maxHeartbeats 8000000 in
theorem kittyForms_walk (H : KitC Inv) (c : Int) (c0 : -9223372036854775808 ≤ c) (c1 : c ≤ 9223372036854775807) (d : Int) (d0 : -9223372036854775808 ≤ d) (d1 : d ≤ 9223372036854775807) (w : World) (hv : Inv w) : Calls Tryd.prog 5 #[.int .i64 c, .int .i64 d] w fun e w' => e = .returned (.bool true) ∧ Below w.heap.size w w' := by
 obtain ⟨⟨n, f⟩, hnf⟩ : ∃ x, frmK c = x := ⟨_, rfl⟩
 obtain ⟨⟨m, g⟩, hmg⟩ : ∃ x, frmK d = x := ⟨_, rfl⟩
 obtain ⟨⟨K, F, N, C, B⟩, hc⟩ : ∃ x, lookE c = x := ⟨_, rfl⟩
 obtain ⟨⟨K2, F2, N2, C2, B2⟩, hd⟩ : ∃ x, lookE d = x := ⟨_, rfl⟩
 have z1 : K = 0 → n = 0 ∧ f = 0 := fun h => by
  have := frm_zero (c := c) (by rw [hc]; exact h)
  rw [hnf] at this
  exact ⟨(Prod.mk.inj this).1, (Prod.mk.inj this).2⟩
 have z2 : K ≠ 0 → K2 ≠ 0 → n = m → f = g → c = d := fun h h2 e1 e2 => frm_inj (by rw [hc]; exact h) (by rw [hd]; exact h2) (by rw [hnf, hmg, e1, e2])
 have z3 : K ≠ 0 → (f = 117 ↔ n = c) := fun h => by
  have := frm_u (c := c) (by rw [hc]; exact h)
  rwa [hnf] at this
 have z4 : c = d → n = m ∧ f = g := fun h => by
  rw [h, hmg] at hnf
  exact ⟨(Prod.mk.inj hnf).1.symm, (Prod.mk.inj hnf).2.symm⟩
 have HF1 : Hid (∀ W, Inv W → Calls Tryd.prog 12 #[.int .i64 c] W fun e w' => e = .returned (.tuple #[.int .i64 n, .int .u8 f]) ∧ Below W.heap.size W w') := Lib.hid fun W hW => H.form_at hnf W hW ⟨c0, c1⟩
 have HF2 : Hid (∀ W, Inv W → Calls Tryd.prog 12 #[.int .i64 d] W fun e w' => e = .returned (.tuple #[.int .i64 m, .int .u8 g]) ∧ Below W.heap.size W w') := Lib.hid fun W hW => H.form_at hmg W hW ⟨d0, d1⟩
 have HL1 : Hid (∀ W, Calls Tryd.prog 13 #[.int .i64 c] W fun e w' => e = .returned (.agg #[.int .i64 K, .int .u8 F, .int .i64 N, .int .i64 C, .bool B]) ∧ Below W.heap.size W w') := Lib.hid fun W => by have := rlook_any c W; rw [hc] at this; exact this
 have HL2 : Hid (∀ W, Calls Tryd.prog 13 #[.int .i64 d] W fun e w' => e = .returned (.agg #[.int .i64 K2, .int .u8 F2, .int .i64 N2, .int .i64 C2, .bool B2]) ∧ Below W.heap.size W w') := Lib.hid fun W => by have := rlook_any d W; rw [hd] at this; exact this
 have Z1 := Lib.hid z1
 have Z2 := Lib.hid z2
 have Z3 := Lib.hid z3
 have Z4 := Lib.hid z4
 clear hnf hmg hc hd z1 z2 z3 z4
 have hfld : ∀ w, (Instr.field 40 (.agg #[.int .i64 K2, .int .u8 F2, .int .i64 N2, .int .i64 C2, .bool B2]) 0).run Tryd.prog w = .ok (.int .i64 K2) w := fun _ => by kernel_rfl
 go_enter Tryd.func5, Tryd.ntmps5
 go_wp2_with fail
 refine (kitAwake H _ hv).mono ?_
 rintro e w1 ⟨rfl, hb1⟩
 have hv1 := H.invB hv hb1
 go_wp2_with fail
 refine (HF1.out _ hv1).mono ?_
 rintro e w2 ⟨rfl, hb2⟩
 have hB2 := hb1.trans (hb2.mono hb1.size)
 have hv2 := H.invB hv hB2
 clear hb1 hb2 hv1
 go_wp2_with fail
 refine (HF2.out _ hv2).mono ?_
 rintro e w3 ⟨rfl, hb3⟩
 have hB3 := hB2.trans (hb3.mono hB2.size)
 clear hB2 hb3 hv2
 go_wp2_with fail
 refine (HL1.out _).mono ?_
 rintro e w4 ⟨rfl, hb4⟩
 have hB4 := (hB3.trans (hb4.mono hB3.size)).alloc (hB3.trans (hb4.mono hB3.size)).size (.cells #[.int .i64 K, .int .u8 F, .int .i64 N, .int .i64 C, .bool B] 40)
 have k4 := Blk.new w4 40 #[.int .i64 K, .int .u8 F, .int .i64 N, .int .i64 C, .bool B]
 clear hB3 hb4
 go_upto_region 5 with (fail)
 obtain ⟨W4, hW4⟩ : ∃ W, w4.alloc (.cells #[.int .i64 K, .int .u8 F, .int .i64 N, .int .i64 C, .bool B] 40) = W := ⟨_, rfl⟩
 rw [hW4] at hB4 k4 ⊢
 clear hW4
 have a0 := k4.cell 0
 by_cases hK : K = 0
 ·obtain ⟨rfl, rfl⟩ := Z1.out hK
  subst hK
  go_wp2_with fail
  go_ret
  exact ⟨rfl, hB4⟩
 ·have tK : (K == 0) = false := beq_false_of_ne hK
  go_wp2_with fail
  refine (HL2.out _).mono ?_
  rintro e w5 ⟨rfl, hb5⟩
  have hB5 := hB4.trans (hb5.mono hB4.size)
  replace k4 := k4.below hb5 k4.lt
  clear a0
  have a0 := k4.cell 0
  have nK : (K != 0) = true := by rw [bne, tK]; rfl
  by_cases h2 : K2 = 0
  ·subst h2
   go_wp2_with fail
   go_ret
   exact ⟨rfl, hB5⟩
  ·have t2 : (K2 == 0) = false := beq_false_of_ne h2
   have z3 := Z3.out hK
   have z2 := Z2.out hK h2
   have r1 : (((n == m) && (f == g)) == (c == d)) = true := by
    by_cases hcd : c = d
    ·obtain ⟨e1, e2⟩ := Z4.out hcd
     rw [hcd, e1, e2]
     simp
    ·rw [beq_false_of_ne hcd]
     by_cases e1 : n = m
     ·by_cases e2 : f = g
      ·exact absurd (z2 e1 e2) hcd
      ·rw [beq_false_of_ne e2]; simp
     ·rw [beq_false_of_ne e1]; simp
   have r2 : ((f == 117) == (n == c)) = true := by
    by_cases h : f = 117
    ·rw [z3.1 h, h]; simp
    ·rw [beq_false_of_ne h, beq_false_of_ne (fun e => h (z3.2 e))]; rfl
   obtain ⟨p1, hp1⟩ : ∃ p, (n == m) = p := ⟨_, rfl⟩
   obtain ⟨p2, hp2⟩ : ∃ p, (f == g) = p := ⟨_, rfl⟩
   obtain ⟨p3, hp3⟩ : ∃ p, (c == d) = p := ⟨_, rfl⟩
   obtain ⟨p4, hp4⟩ : ∃ p, (f == 117) = p := ⟨_, rfl⟩
   obtain ⟨p5, hp5⟩ : ∃ p, (n == c) = p := ⟨_, rfl⟩
   rw [hp1, hp2, hp3] at r1
   rw [hp4, hp5] at r2
   clear z2 z3 Z1 Z2 Z3 Z4 HL1 HL2 HF1 HF2 hK h2
   cases p1 <;> cases p2 <;> cases p3 <;> cases p4 <;> cases p5 <;> first
    | (exfalso; exact absurd r1 (by decide))
    | (exfalso; exact absurd r2 (by decide))
    | (clear r1 r2
       go_wp2_with fail
       go_ret
       exact ⟨rfl, hB5⟩)
end Go.Proofs.YtdfojkbgdoiglaaDoor
namespace Go.Proofs.YtdfojkbgdoiglaaDoor
open Go.RowKit
def AltE (x y : Int) (w : World) (e : Ending) (w' : World) : Prop := ∃ A c, e = .returned (.slice A 1 c) ∧ RdP w' A [[x, y]] ∧ Below w.heap.size w w'
theorem alt_two {w w1 : World} (hb : Below w.heap.size w w1) {g : Nat} (hg : w1.heap.size = g) (x y : Int) {x' y' : Int} (hx : x' = x) (hy : y' = y) : AltE x' y' w (.returned (.slice (some ⟨g + 1, 0, none⟩) 1 1)) ((w1.alloc (.cells #[.int .i64 x, .int .i64 y] 3)).alloc (.cells #[.slice (some ⟨g, 0, none⟩) 2 2] 51)) := by
 subst hg hx hy
 have h0 := (Blk.new w1 3 #[.int .i64 x', .int .i64 y']).alloc (.cells #[.slice (some ⟨w1.heap.size, 0, none⟩) 2 2] 51)
 have h1 := Blk.new (w1.alloc (.cells #[.int .i64 x', .int .i64 y'] 3)) 51 #[.slice (some ⟨w1.heap.size, 0, none⟩) 2 2]
 rw [World.size_alloc] at h1
 refine ⟨_, _, rfl, fun _ => ⟨w1.heap.size + 1, 0, rfl, h1.lt, fun k hk => ?_⟩, (hb.alloc hb.size _).alloc (by have := hb.size; simp; omega) _⟩
 obtain rfl : k = 0 := by simp at hk; omega
 exact ⟨some ⟨w1.heap.size, 0, none⟩, 2, h1.cell 0, Rd.block h0 rfl⟩
set_option maxRecDepth 100000 in
set_option maxHeartbeats 8000000 in
theorem ralt_any (k : Ky) (hk : okK k) (w : World) : Calls Tryd.prog 10 #[kyV k] w (AltE (alts13 k).1 (alts13 k).2 w) := by
 obtain ⟨⟨n, f⟩, hnf⟩ : ∃ x, frmK k.code = x := ⟨_, rfl⟩
 have HF : Hid (∀ W, Calls Tryd.prog 23 #[.int .i64 k.code] W fun e w' => e = .returned (.tuple #[.int .i64 n, .int .u8 f]) ∧ Below W.heap.size W w') := Lib.hid fun W => by have := rfrm_any k.code W; rw [hnf] at this; exact this
 obtain ⟨q, hq⟩ : ∃ q, hasN k.mods 1 = q := ⟨_, rfl⟩
 have HH : Hid (∀ W, Calls Tryd.prog 24 #[.int .i64 k.mods, .int .i64 1] W fun e w' => e = .returned (.bool q) ∧ Below W.heap.size W w') := Lib.hid fun W => by rw [← hq]; exact rhas10_any k.mods 1 (by decide) (by decide) hk.mods.2 W
 have ha : alts13 k = if f = 117 then (if q = true then k.shift else 0, if k.base ≠ k.code then k.base else 0) else (0, 0) := by
  unfold alts13 altsK
  rw [hnf, hq]
 obtain ⟨⟨X, Y⟩, hXY⟩ : ∃ x, alts13 k = x := ⟨_, rfl⟩
 rw [hXY] at ha ⊢
 have HA := Lib.hid ha
 clear hnf hq ha hXY hk
 rw [kyV]
 obtain ⟨code, mods, typ, shift, base, text⟩ := k
 simp only at HF HH HA ⊢
 have hB := (Below.refl w.heap.size w).alloc (Nat.le_refl _) (.cells #[.int .i64 code, .int .i64 mods, .int .i64 typ, .int .i64 shift, .int .i64 base, .string text] 23)
 have k0 := Blk.new w 23 #[.int .i64 code, .int .i64 mods, .int .i64 typ, .int .i64 shift, .int .i64 base, .string text]
 obtain ⟨a0, a1, a2, a3, a4, a5⟩ := Blk.cells6 k0
 go_enter Tryd.func10, Tryd.ntmps10
 go_wp2_with fail
 refine (HF.out _).mono ?_
 rintro e w1 ⟨rfl, hb1⟩
 have hB1 := hB.trans (hb1.mono hB.size)
 replace k0 := k0.below hb1 k0.lt
 clear a0 a1 a2 a3 a4 a5 hB hb1
 obtain ⟨a0, a1, a2, a3, a4, a5⟩ := Blk.cells6 k0
 by_cases hf : f = 117
 ·subst hf
  have HA := Lib.hid (HA.out.trans (if_pos rfl))
  go_wp2_with fail
  refine (HH.out _).mono ?_
  rintro e w2 ⟨rfl, hb2⟩
  have hB2 := hB1.trans (hb2.mono hB1.size)
  replace k0 := k0.below hb2 k0.lt
  clear a0 a1 a2 a3 a4 a5 hB1 hb2
  obtain ⟨a0, a1, a2, a3, a4, a5⟩ := Blk.cells6 k0
  cases q with
  | true =>
    by_cases hbc : base = code
    ·subst hbc
     have hx := (Prod.mk.inj HA.out).1.trans (if_pos rfl)
     have hy := (Prod.mk.inj HA.out).2.trans (if_neg (fun h => h rfl))
     clear HA HF HH
     go_wp2_with fail
     go_ret
     exact alt_two hB2 rfl _ _ hx hy
    ·have nb : (base == code) = false := beq_false_of_ne hbc
     have nb2 : (base != code) = true := by rw [bne, nb]; rfl
     have hx := (Prod.mk.inj HA.out).1.trans (if_pos rfl)
     have hy := (Prod.mk.inj HA.out).2.trans (if_pos hbc)
     clear HA HF HH hbc
     go_wp2_with fail
     go_ret
     exact alt_two hB2 rfl _ _ hx hy
  | false =>
    by_cases hbc : base = code
    ·subst hbc
     have hx := (Prod.mk.inj HA.out).1.trans (if_neg (by decide))
     have hy := (Prod.mk.inj HA.out).2.trans (if_neg (fun h => h rfl))
     clear HA HF HH
     go_wp2_with fail
     go_ret
     exact alt_two hB2 rfl _ _ hx hy
    ·have nb : (base == code) = false := beq_false_of_ne hbc
     have nb2 : (base != code) = true := by rw [bne, nb]; rfl
     have hx := (Prod.mk.inj HA.out).1.trans (if_neg (by decide))
     have hy := (Prod.mk.inj HA.out).2.trans (if_pos hbc)
     clear HA HF HH hbc
     go_wp2_with fail
     go_ret
     exact alt_two hB2 rfl _ _ hx hy
 ·have tf : (f == 117) = false := beq_false_of_ne hf
  have HA := Lib.hid (HA.out.trans (if_neg hf))
  have hx := (Prod.mk.inj HA.out).1
  have hy := (Prod.mk.inj HA.out).2
  clear HA HF HH hf
  go_wp2_with fail
  go_ret
  exact alt_two hB1 rfl _ _ hx hy
end Go.Proofs.YtdfojkbgdoiglaaDoor
