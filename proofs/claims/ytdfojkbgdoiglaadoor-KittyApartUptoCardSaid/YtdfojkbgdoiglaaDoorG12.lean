/-
  Layer 11's mathematics: a key's event in its old form. Layer 11's mathematics: old forms: what a functional key's, a text's, and a plain key's are. Layer 10, the landed mods: Old and Shown. Layer 2, walked: Put, the program's and the document's. Layer 2, walked: the size of what begins with a byte.
-/
import Derived.Test.YtdfojkbgdoiglaaDoorG06
import Derived.Test.YtdfojkbgdoiglaaDoorG09
import Derived.Test.YtdfojkbgdoiglaaDoorG10
import Derived.Test.YtdfojkbgdoiglaaDoorG11
import Derived.Laws.BitsLemmas
namespace Go.Proofs.YtdfojkbgdoiglaaDoor
def shownC (code shift : Int) (s1 : Bool) : Int := if s1 = false then code else if shift ≠ 0 then shift else if 97 ≤ code ∧ code ≤ 122 then code - 32 else code
theorem shownK_eq (k : Ky) : shownK k = shownC k.code k.shift (hasN k.mods 1) := rfl
theorem may_typ {k : Ky} (h : mayK k = true) {t : Int} (h1 : 1 ≤ t) (h2 : t ≤ 3) : mayK { k with typ := t } = true := by
 obtain ⟨⟨a, b, c, _, _⟩, d⟩ := (may_parts k).1 h
 exact (may_parts _).2 ⟨⟨a, b, c, h1, h2⟩, d⟩
theorem may_mods {k : Ky} (h : mayK k = true) {n : Int} (h1 : 0 ≤ n) (h2 : n ≤ 255) : mayK { k with mods := n } = true := by
 obtain ⟨⟨a, _, _, b, c⟩, d⟩ := (may_parts k).1 h
 exact (may_parts _).2 ⟨⟨a, h1, h2, b, c⟩, d⟩
end Go.Proofs.YtdfojkbgdoiglaaDoor
namespace Go.Proofs.YtdfojkbgdoiglaaDoor
theorem byt_btw {f : Int} {a b : Nat} (h0 : (a : Int) ≤ f) (h1 : f ≤ (b : Int)) (hb : b < 256) : btw a b (byt f) = true := by
 have h := byt_nat f (by omega) (by omega)
 rw [btw_iff]
 omega
def FormE (e : En) : Prop := (e.kind = 4 → 1 ≤ e.num ∧ e.num ≤ 100) ∧ (e.kind = 3 → 65 ≤ e.fin ∧ e.fin ≤ 90) ∧ (e.kind = 5 → 65 ≤ e.fin ∧ e.fin ≤ 122)
instance (e : En) : Decidable (FormE e) := by unfold FormE; infer_instance
theorem text_pt {c : Int} (h : (lookE c).kind = 1) : isPt c = true := by
 by_cases ho : c < 57344 ∨ 57455 ≤ c
 ·rw [look_out ho] at h
  simp only at h
  unfold restN at h
  by_cases h1 : c = 9 ∨ c = 13 ∨ c = 27 ∨ c = 127
  ·rw [if_pos h1] at h; cases h
  ·rw [if_neg h1, if_neg (by omega), if_neg (by omega)] at h
   by_cases h2 : isPtK c = false ∨ c < 32 ∨ 127 ≤ c ∧ c ≤ 159 ∨ 57344 ≤ c ∧ c ≤ 63743
   ·rw [if_pos h2] at h; cases h
   ·have h3 : isPtK c = true := by
     cases e : isPtK c with
     | true => rfl
     | false => exact absurd (.inl e) h2
    have h4 := of_decide_eq_true h3
    exact (isPt_iff c).2 (by omega)
 ·exfalso
  obtain ⟨k, rfl⟩ : ∃ k : Fin 111, c = 57344 + k.1 := ⟨⟨(c - 57344).toNat, by omega⟩, by simp; omega⟩
  have := code_all k
  omega
theorem shown_pt {code shift : Int} (h : (lookE code).kind = 1) (hs : shift = 0 ∨ textK shift = true) (s1 : Bool) : isPt (shownC code shift s1) = true := by
 unfold shownC
 split
 ·exact text_pt h
 ·split
  next h2 =>
   rcases hs with hs | hs
   ·exact absurd hs h2
   ·exact text_pt (eq_of_beq hs)
  next =>
   split
   next h3 => exact (isPt_iff _).2 (by omega)
   next => exact text_pt h
end Go.Proofs.YtdfojkbgdoiglaaDoor
namespace Go.Proofs.YtdfojkbgdoiglaaDoor
open Go.RowKit
theorem mask7 {x : Int} (h0 : 0 ≤ x) (h1 : x ≤ 9223372036854775807) : bits .and .i64 x 7 = x % 8 :=
 bits_mask .i64 63 (by decide) (fun n a b => by rw [IntKind.wrap_i64]; omega) 3 (by decide) x h0 (by omega)
theorem mask1 {x : Int} (h0 : 0 ≤ x) (h1 : x ≤ 9223372036854775807) : bits .and .i64 x 1 = x % 2 :=
 bits_mask .i64 63 (by decide) (fun n a b => by rw [IntKind.wrap_i64]; omega) 1 (by decide) x h0 (by omega)
set_option maxRecDepth 100000 in
theorem pold_any (n : Int) (w : World) (hn : in10 n) : Calls Tryd.prog 51 #[.int .i64 n] w fun e w' => e = .returned (.int .i64 (oldN n)) ∧ Below w.heap.size w w' := by
 obtain ⟨N, hN⟩ : ∃ N, max n 0 = N := ⟨_, rfl⟩
 have hmax := max0 n N hN (P := Tryd.prog)
 obtain ⟨F, hF⟩ : ∃ F, oldN n = F := ⟨_, rfl⟩
 have hm : bits .and .i64 N 7 = F := by
  have h2 := hn.2
  rw [mask7 (by omega) (by omega), ← hF, ← hN]
  rfl
 rw [hF]
 clear hF hN hn
 go_enter Tryd.func51, Tryd.ntmps51
 go_wp2
 go_ret
 exact ⟨rfl, by first | exact Below.refl _ _ | exact below_drewN (Below.refl _ _) _⟩
set_option maxRecDepth 100000 in
set_option maxHeartbeats 4000000 in
theorem pshown_any (k : Ky) (hk : okK k) (w : World) : Calls Tryd.prog 39 #[kyV k] w fun e w' => e = .returned (.int .i64 (shownK k)) ∧ Below w.heap.size w w' := by
 have hB := ky_box w k
 have hold := pold_any k.mods (w.alloc (.cells (kyC k) 23)) hk.mods
 have k0 := Blk.new w 23 (kyC k)
 have hsh : shownK k = if hasN k.mods 1 = false then k.code else if k.shift ≠ 0 then k.shift else if 97 ≤ k.code ∧ k.code ≤ 122 then k.code - 32 else k.code := rfl
 obtain ⟨F, hF⟩ : ∃ F, oldN k.mods = F := ⟨_, rfl⟩
 have hr : 0 ≤ F ∧ F < 8 := by rw [← hF]; unfold oldN; omega
 obtain ⟨N, hN⟩ : ∃ N, bits .and .i64 F 1 = N := ⟨_, rfl⟩
 have hN2 : N = F % 2 := by rw [← hN]; exact mask1 hr.1 (by omega)
 obtain ⟨p, hp⟩ : ∃ p, hasN k.mods 1 = p := ⟨_, rfl⟩
 have hz : (N == 0) = !p := by
  rw [← hp]
  unfold hasN
  rw [Int.ediv_one, hN2, ← hF]
  unfold oldN
  have e : max k.mods 0 % 8 % 2 = max k.mods 0 % 2 := by omega
  rw [e]
  rcases Int.emod_two_eq (max k.mods 0) with h | h <;> rw [h] <;> rfl
 have hc := hk.code
 rw [hF] at hold
 rw [hp] at hsh
 clear hk hp hF hr hN2
 rw [kyV]
 rw [kyC] at hB hold k0
 obtain ⟨code, mods, typ, shift, base, text⟩ := k
 simp only at hB hold k0 hsh hc ⊢
 go_enter Tryd.func39, Tryd.ntmps39
 have a0 := k0.cell 0
 have a1 := k0.cell 1
 have a3 := k0.cell 3
 have HSH := Lib.hid hsh
 clear hsh
 go_wp2_with fail
 refine hold.mono ?_
 clear hold
 rintro e w1 ⟨rfl, hb1⟩
 have k1 := k0.below hb1 k0.lt
 have hB1 := hB.trans (hb1.mono hB.size)
 clear k0 hB hb1 a0 a1 a3
 have a0 := k1.cell 0
 have a3 := k1.cell 3
 cases p with
 | false =>
   have hz2 : (N == 0) = true := hz
   clear hz
   go_wp2_with fail
   go_ret
   exact ⟨ret_i (by rw [HSH.out]; rfl), hB1⟩
 | true =>
   have hz2 : (N == 0) = false := hz
   clear hz
   by_cases h3 : shift = 0
   ·subst h3
    by_cases h4 : 97 ≤ code
    ·by_cases h5 : code ≤ 122
     ·have e1 : IntKind.i64.wrap (code - 97) = code - 97 := by rw [IntKind.wrap_i64]; omega
      have e2 : IntKind.i64.wrap (code - 97 + 65) = code - 32 := by rw [IntKind.wrap_i64]; omega
      go_wp2_with fail
      go_ret
      exact ⟨ret_i (by rw [HSH.out, if_neg (by decide), if_neg (fun h => h rfl), if_pos ⟨h4, h5⟩]), hB1⟩
     ·have h6 : 122 < code := by omega
      go_wp2_with fail
      go_ret
      exact ⟨ret_i (by rw [HSH.out, if_neg (by decide), if_neg (fun h => h rfl), if_neg (by omega)]), hB1⟩
    ·have h6 : code < 97 := by omega
     go_wp2_with fail
     go_ret
     exact ⟨ret_i (by rw [HSH.out, if_neg (by decide), if_neg (fun h => h rfl), if_neg (by omega)]), hB1⟩
   ·have h5 : (shift == 0) = false := beq_false_of_ne h3
    have h6 : (shift != 0) = true := by simp [bne, h5]
    have H3 := Lib.hid h3
    clear h3
    go_wp2_with fail
    go_ret
    exact ⟨ret_i (by rw [HSH.out, if_neg (by decide), if_pos H3.out]), hB1⟩
end Go.Proofs.YtdfojkbgdoiglaaDoor
namespace Go.Proofs.YtdfojkbgdoiglaaDoor
open Go.RowKit
set_option maxHeartbeats 1000000 in
theorem Put_any (r : Int) (w : World) (hs : Siz w) : Calls Tryd.prog 38 #[.int .i64 r] w (Out (putL r) w) := by
 cases h : isPt r with
 | false =>
   rw [putL_no h]
   go_enter Tryd.func38, Tryd.ntmps38
   go_wp2_with fail
   refine (isPt_any r _).mono ?_
   rintro e w1 ⟨rfl, rfl⟩
   go_wp2_with fail
   go_ret
   exact ⟨none, 0, rfl, Rd.nil _ _, Below.refl _ _⟩
 | true =>
   have H := Lib.hid h
   go_enter Tryd.func38, Tryd.ntmps38
   go_wp2_with fail
   refine (isPt_any r _).mono ?_
   rintro e w1 ⟨rfl, rfl⟩
   go_wp2_with fail
   refine (put_any r H.out w.heap.size (.slice none 0 0) 0 [] w hs (Own.nil_ _ _ _ _) (Nat.le_refl _) (by omega)).mono ?_
   rintro e w2 ⟨v, rfl, ho, hb⟩
   go_wp2_with fail
   go_ret
   exact out_own ho hb
end Go.Proofs.YtdfojkbgdoiglaaDoor
namespace Go.Proofs.YtdfojkbgdoiglaaDoor
open Go.RowKit
set_option maxRecDepth 100000 in
set_option maxHeartbeats 4000000 in
theorem sizeByFirst_any (r : Int) (w : World) (hs : Siz w) : Calls Tryd.prog 73 #[.int .i64 r] w fun e w' => e = .returned (.agg (szA (ixF r 4))) ∧ Below w.heap.size w w' := by
 obtain ⟨t, fz, hh⟩ := hs
 have hlt := (Array.getElem?_eq_some_iff.1 hh).1
 have hlt0 : 0 < w.heap.size := Nat.zero_lt_of_lt hlt
 have c0 : w.cell? ⟨1, 0, none⟩ = some (.int .i64 1) := siz_cell hh 0
 have c1 : w.cell? ⟨1, 1, none⟩ = some (.int .i64 0) := siz_cell hh 1
 have c2 : w.cell? ⟨1, 2, none⟩ = some (.int .i64 0) := siz_cell hh 2
 have c3 : w.cell? ⟨1, 3, none⟩ = some (.int .i64 2) := siz_cell hh 3
 have c4 : w.cell? ⟨1, 4, none⟩ = some (.int .i64 128) := siz_cell hh 4
 have c5 : w.cell? ⟨1, 5, none⟩ = some (.int .i64 192) := siz_cell hh 5
 have c6 : w.cell? ⟨1, 6, none⟩ = some (.int .i64 3) := siz_cell hh 6
 have c7 : w.cell? ⟨1, 7, none⟩ = some (.int .i64 2048) := siz_cell hh 7
 have c8 : w.cell? ⟨1, 8, none⟩ = some (.int .i64 224) := siz_cell hh 8
 have c9 : w.cell? ⟨1, 9, none⟩ = some (.int .i64 4) := siz_cell hh 9
 have c10 : w.cell? ⟨1, 10, none⟩ = some (.int .i64 65536) := siz_cell hh 10
 have c11 : w.cell? ⟨1, 11, none⟩ = some (.int .i64 240) := siz_cell hh 11
 go_enter Tryd.func73, Tryd.ntmps73
 go_wp2
 have b0 := Blk.new w 77 #[.int .i64 0, .int .i64 0, .int .i64 0]
 have b1 := Blk.new (w.alloc (.cells #[.int .i64 0, .int .i64 0, .int .i64 0] 77)) 77 #[.int .i64 1, .int .i64 0, .int .i64 0]
 rw [World.size_alloc] at b1
 have hb0 : Below w.heap.size w ((w.alloc (.cells #[.int .i64 0, .int .i64 0, .int .i64 0] 77)).alloc (.cells #[.int .i64 1, .int .i64 0, .int .i64 0] 77)) := ((Below.refl _ w).alloc (Nat.le_refl _) _).alloc (by simp) _
 go_loopw [9] (fun i wr => ∃ k : Nat, k ≤ 4 ∧ i = .int .i64 k ∧ Blk wr w.heap.size 77 #[.int .i64 0, .int .i64 0, .int .i64 0] ∧ Blk wr (w.heap.size + 1) 77 (szA (ixF r k)) ∧ Below w.heap.size w wr) (fun i _ => 4 - (intOf i).toNat)
 case atStart => exact ⟨0, by omega, rfl, b0.alloc _, b1, hb0⟩
 case round =>
  obtain ⟨k, hk, rfl, p0, p1, hbw⟩ := hrel
  clear b0 b1 hb0 c0 c1 c2 c3 c4 c5 c6 c7 c8 c9 c10 c11
  have hz := p1.lt
  have q0 := p1.frozen 0
  have q1 := p1.frozen 1
  have q2 := p1.frozen 2
  obtain rfl | rfl | rfl | rfl | rfl : k = 0 ∨ k = 1 ∨ k = 2 ∨ k = 3 ∨ k = 4 := by omega
  ·have i0 : ∀ w : World, (Instr.index 88 (.agg #[.int .i64 1, .int .i64 0, .int .i64 0, .int .i64 2, .int .i64 128, .int .i64 192, .int .i64 3, .int .i64 2048, .int .i64 224, .int .i64 4, .int .i64 65536, .int .i64 240]) (.int .i64 0)).run Tryd.prog w = .ok (.agg #[.int .i64 1, .int .i64 0, .int .i64 0]) w := fun _ => by kernel_rfl
   by_cases hr : 0 ≤ r
   ·have f0 := Lib.hid (show szA (ixF r (0 + 1)) = szA 0 by rw [show ixF r (0 + 1) = 0 by unfold ixF; (repeat' split) <;> omega])
    obtain ⟨u0, u1, u2, hu⟩ := szA_form (ixF r 0)
    rw [hu] at p1
    have g0 := p1.cell 0
    have g1 := p1.cell 1
    have g2 := p1.cell 2
    go_wp2
    go_roundw
    case rel => exact ⟨0 + 1, by omega, by go_num, (p0.far3 (Nat.ne_of_lt (Nat.lt_succ_self _)) _ _ _).alloc _, by rw [f0.out]; exact (p1.set3 _ _ _).alloc _, (below_set3 hbw (Nat.le_succ _) _ _ _).alloc (by rw [set3_size]; exact hbw.size) _⟩
    case measure => simp [intOf]
   ·have f0 := Lib.hid (show szA (ixF r (0 + 1)) = szA (ixF r 0) by rw [show ixF r (0 + 1) = ixF r 0 by unfold ixF; (repeat' split) <;> omega])
    go_wp2
    go_roundw
    case rel => exact ⟨0 + 1, by omega, by go_num, p0.alloc _, by rw [f0.out]; exact p1.alloc _, hbw.alloc hbw.size _⟩
    case measure => simp [intOf]
  ·have i0 : ∀ w : World, (Instr.index 88 (.agg #[.int .i64 1, .int .i64 0, .int .i64 0, .int .i64 2, .int .i64 128, .int .i64 192, .int .i64 3, .int .i64 2048, .int .i64 224, .int .i64 4, .int .i64 65536, .int .i64 240]) (.int .i64 1)).run Tryd.prog w = .ok (.agg #[.int .i64 2, .int .i64 128, .int .i64 192]) w := fun _ => by kernel_rfl
   by_cases hr : 192 ≤ r
   ·have f0 := Lib.hid (show szA (ixF r (1 + 1)) = szA 1 by rw [show ixF r (1 + 1) = 1 by unfold ixF; (repeat' split) <;> omega])
    obtain ⟨u0, u1, u2, hu⟩ := szA_form (ixF r 1)
    rw [hu] at p1
    have g0 := p1.cell 0
    have g1 := p1.cell 1
    have g2 := p1.cell 2
    go_wp2
    go_roundw
    case rel => exact ⟨1 + 1, by omega, by go_num, (p0.far3 (Nat.ne_of_lt (Nat.lt_succ_self _)) _ _ _).alloc _, by rw [f0.out]; exact (p1.set3 _ _ _).alloc _, (below_set3 hbw (Nat.le_succ _) _ _ _).alloc (by rw [set3_size]; exact hbw.size) _⟩
    case measure => simp [intOf]
   ·have f0 := Lib.hid (show szA (ixF r (1 + 1)) = szA (ixF r 1) by rw [show ixF r (1 + 1) = ixF r 1 by unfold ixF; (repeat' split) <;> omega])
    go_wp2
    go_roundw
    case rel => exact ⟨1 + 1, by omega, by go_num, p0.alloc _, by rw [f0.out]; exact p1.alloc _, hbw.alloc hbw.size _⟩
    case measure => simp [intOf]
  ·have i0 : ∀ w : World, (Instr.index 88 (.agg #[.int .i64 1, .int .i64 0, .int .i64 0, .int .i64 2, .int .i64 128, .int .i64 192, .int .i64 3, .int .i64 2048, .int .i64 224, .int .i64 4, .int .i64 65536, .int .i64 240]) (.int .i64 2)).run Tryd.prog w = .ok (.agg #[.int .i64 3, .int .i64 2048, .int .i64 224]) w := fun _ => by kernel_rfl
   by_cases hr : 224 ≤ r
   ·have f0 := Lib.hid (show szA (ixF r (2 + 1)) = szA 2 by rw [show ixF r (2 + 1) = 2 by unfold ixF; (repeat' split) <;> omega])
    obtain ⟨u0, u1, u2, hu⟩ := szA_form (ixF r 2)
    rw [hu] at p1
    have g0 := p1.cell 0
    have g1 := p1.cell 1
    have g2 := p1.cell 2
    go_wp2
    go_roundw
    case rel => exact ⟨2 + 1, by omega, by go_num, (p0.far3 (Nat.ne_of_lt (Nat.lt_succ_self _)) _ _ _).alloc _, by rw [f0.out]; exact (p1.set3 _ _ _).alloc _, (below_set3 hbw (Nat.le_succ _) _ _ _).alloc (by rw [set3_size]; exact hbw.size) _⟩
    case measure => simp [intOf]
   ·have f0 := Lib.hid (show szA (ixF r (2 + 1)) = szA (ixF r 2) by rw [show ixF r (2 + 1) = ixF r 2 by unfold ixF; (repeat' split) <;> omega])
    go_wp2
    go_roundw
    case rel => exact ⟨2 + 1, by omega, by go_num, p0.alloc _, by rw [f0.out]; exact p1.alloc _, hbw.alloc hbw.size _⟩
    case measure => simp [intOf]
  ·have i0 : ∀ w : World, (Instr.index 88 (.agg #[.int .i64 1, .int .i64 0, .int .i64 0, .int .i64 2, .int .i64 128, .int .i64 192, .int .i64 3, .int .i64 2048, .int .i64 224, .int .i64 4, .int .i64 65536, .int .i64 240]) (.int .i64 3)).run Tryd.prog w = .ok (.agg #[.int .i64 4, .int .i64 65536, .int .i64 240]) w := fun _ => by kernel_rfl
   by_cases hr : 240 ≤ r
   ·have f0 := Lib.hid (show szA (ixF r (3 + 1)) = szA 3 by rw [show ixF r (3 + 1) = 3 by unfold ixF; (repeat' split) <;> omega])
    obtain ⟨u0, u1, u2, hu⟩ := szA_form (ixF r 3)
    rw [hu] at p1
    have g0 := p1.cell 0
    have g1 := p1.cell 1
    have g2 := p1.cell 2
    go_wp2
    go_roundw
    case rel => exact ⟨3 + 1, by omega, by go_num, (p0.far3 (Nat.ne_of_lt (Nat.lt_succ_self _)) _ _ _).alloc _, by rw [f0.out]; exact (p1.set3 _ _ _).alloc _, (below_set3 hbw (Nat.le_succ _) _ _ _).alloc (by rw [set3_size]; exact hbw.size) _⟩
    case measure => simp [intOf]
   ·have f0 := Lib.hid (show szA (ixF r (3 + 1)) = szA (ixF r 3) by rw [show ixF r (3 + 1) = ixF r 3 by unfold ixF; (repeat' split) <;> omega])
    go_wp2
    go_roundw
    case rel => exact ⟨3 + 1, by omega, by go_num, p0.alloc _, by rw [f0.out]; exact p1.alloc _, hbw.alloc hbw.size _⟩
    case measure => simp [intOf]
  ·obtain ⟨u0, u1, u2, hu⟩ := szA_form (ixF r 4)
   rw [hu] at p1
   have g0 := p1.cell 0
   have g1 := p1.cell 1
   have g2 := p1.cell 2
   have y0 := p0.cell 0
   have y1 := p0.cell 1
   have y2 := p0.cell 2
   have x0 := p0.frozen 0
   have x1 := p0.frozen 1
   have x2 := p0.frozen 2
   have hlt2 := p0.lt
   go_wp2
   exact bodyPost_ret (v := .agg #[.int .i64 u0, .int .i64 u1, .int .i64 u2]) (by simp [results, Tryd.results73, go_sem, y0, y1, y2]) rfl ⟨by rw [hu], below_set3 hbw (Nat.le_refl _) _ _ _⟩
end Go.Proofs.YtdfojkbgdoiglaaDoor
