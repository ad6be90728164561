/-
  Layer 16, walked: the document's Encode.
-/
import Derived.Test.YtjlhhelikiegdaaGreatDoorG27
import Derived.Test.YtjlhhelikiegdaaGreatDoorG32
import Derived.Test.YtjlhhelikiegdaaGreatDoorG33
import Derived.Test.YtjlhhelikiegdaaGreatDoorG34
import Derived.Lib.SmallJoins
namespace Go.Proofs.YtjlhhelikiegdaaGreatDoor
open Go.RowKit
theorem made6b {ev : Operand → Value} {o : Oper} {x y z : Operand} (ho : o.op = .buildSlice 25 6 #[(0, .const (.int .u8 27)), (1, .const (.int .u8 91)), (2, .const (.int .u8 77)), (3, x), (4, y), (5, z)]) (a b c : Int) (h0 : ∀ v, ev (.const v) = v) (hx : ev x = .int .u8 a) (hy : ev y = .int .u8 b) (hz : ev z = .int .u8 c) {w : World} :
 ∃ v w', (execOp ev o).run Tryz.prog w = .ok (.value v) w' ∧ FRow 6 [.int .u8 27, .int .u8 91, .int .u8 77, .int .u8 a, .int .u8 b, .int .u8 c] v w' ∧ Below w.heap.size w w' := by
 refine ⟨.slice (some ⟨w.heap.size, 0, none⟩) 6 6, w.alloc (.cells #[.int .u8 27, .int .u8 91, .int .u8 77, .int .u8 a, .int .u8 b, .int .u8 c] 5), ?_, ⟨_, _, rfl, Rd.block (heap_alloc_new w _) rfl⟩, (Below.refl _ _).alloc (Nat.le_refl _) _⟩
 unfold execOp
 simp only [ho]
 rw [show Array.map (fun x => (x.fst, ev x.snd)) #[(0, .const (.int .u8 27)), (1, .const (.int .u8 91)), (2, .const (.int .u8 77)), (3, x), (4, y), (5, z)] = #[(0, .int .u8 27), (1, .int .u8 91), (2, .int .u8 77), (3, .int .u8 a), (4, .int .u8 b), (5, .int .u8 c)] by simp [h0, hx, hy, hz]]
 kernel_rfl
theorem u8wr {k : Int} (h0 : 0 ≤ k) (h1 : k < 256) : Value.int .u8 (IntKind.u8.wrap k) = B8 (byt k) := by
 have e : IntKind.u8.wrap k = k := by
  have : IntKind.u8.wrap k = k % 256 := by simp [IntKind.wrap, IntKind.bits, IntKind.signed]
  omega
 show _ = Value.int .u8 ((byt k).toNat : Int)
 rw [e, byt_nat k h0 h1]
theorem own_mark16 (w : World) (base : Nat) (e : TypeId) (n : Nat) (C : Array Value) (hb : base ≤ w.heap.size) (hn : C.size = n) (hm : n ≤ maxLen) : Own (w.alloc (.cells C e (n, n + 1))) base e 1 (.slice (some ⟨w.heap.size, 0, none⟩) n n) n C.toList := by
 subst hn
 refine ⟨by simp, .inr ⟨w.heap.size, _, rfl, hb, ⟨_, _, heap_alloc_new w _⟩, Nat.le_refl _, hm, fun j u hu => ?_, fun j hj => ⟨?_, (World.frozen?_alloc_mark w _ _ _ _ j).trans ?_⟩⟩⟩
 ·refine (World.cell?_alloc_mark w _ _ _ j).trans ?_
  simpa using hu
 ·rw [show (w.alloc (.cells C e (C.size, C.size + 1))).cell? ⟨w.heap.size, j, none⟩ = C[j]? from World.cell?_alloc_mark w _ _ _ j]
  simpa using hj
 ·rw [Bool.and_eq_false_iff]
  left
  simpa using hj
theorem num_sqU (a : UInt8) (l : List Int) : sqU a 109 l = sqP a 109 l := rfl
theorem num_sqM (a : UInt8) (l : List Int) : sqU a 77 l = sqP a 77 l := rfl
theorem enc_else16 (mode c : Int) {e : Ms} (h : mayT e = true) (h1 : c ≠ 1005) (h2 : c ≠ 1006) (h3 : c ≠ 1015) : encM mode c e = encM mode 0 e := by
 rw [enc_0 mode h]
 unfold encM
 rw [if_neg (by rw [h]; decide), if_neg h2, if_neg h3, if_neg h1]
set_option maxRecDepth 100000 in
set_option maxHeartbeats 16000000 in
theorem rencode16_any (mode coding btn typ x y mods : Int) (L : List UInt8) (hL : encM mode coding ⟨btn, typ, x, y, mods⟩ = L) (w : World) : Calls Tryz.prog 7 #[.int .i64 mode, .int .i64 coding, .agg #[.int .i64 btn, .int .i64 typ, .int .i64 x, .int .i64 y, .int .i64 mods]] w (Out L w) := by
 obtain ⟨p, hp⟩ : ∃ p, mayT ⟨btn, typ, x, y, mods⟩ = p := ⟨_, rfl⟩
 have HM : Hid (∀ W, Calls Tryz.prog 14 #[.agg #[.int .i64 btn, .int .i64 typ, .int .i64 x, .int .i64 y, .int .i64 mods]] W fun e w' => e = .returned (.bool p) ∧ Below W.heap.size W w') := Lib.hid fun W => by
  have := rmay15_any ⟨btn, typ, x, y, mods⟩ W
  rw [hp] at this
  exact this
 have k0 := Blk.new w 23 #[.int .i64 btn, .int .i64 typ, .int .i64 x, .int .i64 y, .int .i64 mods]
 have hB : Below w.heap.size w (w.alloc (.cells #[.int .i64 btn, .int .i64 typ, .int .i64 x, .int .i64 y, .int .i64 mods] 23)) := (Below.refl _ w).alloc (Nat.le_refl _) _
 obtain ⟨a0, a1, a2, a3, a4⟩ := Blk.cells5 k0
 cases p with
 | false =>
   have HF := Lib.hid (show [] = L by rw [← hL, enc_no hp])
   clear hp hL
   go_enter Tryz.func7, Tryz.ntmps7
   go_wp2_with fail
   refine (HM.out _).mono ?_
   rintro e w1 ⟨rfl, hb1⟩
   go_wp2_with fail
   go_ret
   exact ⟨none, 0, by rw [← HF.out]; rfl, by rw [← HF.out]; exact Rd.nil _ _, hB.trans (hb1.mono hB.size)⟩
 | true =>
   have hxy := may_cell hp
   simp only at hxy
   obtain ⟨hx, hy⟩ := hxy
   obtain ⟨C, hC⟩ : ∃ c, codeM mode ⟨btn, typ, x, y, mods⟩ = c := ⟨_, rfl⟩
   obtain ⟨lo, hlo⟩ : ∃ c, lostM mode ⟨btn, typ, x, y, mods⟩ = c := ⟨_, rfl⟩
   have hlr := lost_rng (mode := mode) hp
   rw [hlo] at hlr
   have hw : IntKind.i64.wrap (32 + lo) = 32 + lo := by rw [IntKind.wrap_i64]; omega
   have hwx : IntKind.i64.wrap (32 + x) = 32 + x := by rw [IntKind.wrap_i64]; omega
   have hwy : IntKind.i64.wrap (32 + y) = 32 + y := by rw [IntKind.wrap_i64]; omega
   have HCO : Hid (∀ W, Calls Tryz.prog 9 #[.int .i64 mode, .agg #[.int .i64 btn, .int .i64 typ, .int .i64 x, .int .i64 y, .int .i64 mods]] W fun e w' => e = .returned (.int .i64 C) ∧ Below W.heap.size W w') := Lib.hid fun W => rcode16_any mode btn typ x y mods C hC W
   have HLO : Hid (∀ W, Calls Tryz.prog 16 #[.int .i64 mode, .agg #[.int .i64 btn, .int .i64 typ, .int .i64 x, .int .i64 y, .int .i64 mods]] W fun e w' => e = .returned (.int .i64 lo) ∧ Below W.heap.size W w') := Lib.hid fun W => rlost16_any mode btn typ x y mods lo hp hlo W
   by_cases c6 : coding = 1006
   ·subst c6
    obtain ⟨m1, m2⟩ := enc_1006 mode hp
    rw [hL, hC] at m2
    rw [hC] at m1
    by_cases h3 : typ = 3
    ·simp only at m1 m2
     rw [if_pos h3] at m1 m2
     have HNU : Hid (∀ A c W, Rd W A (is_ [C, x, y]) → Calls Tryz.prog 15 #[.int .u8 60, .int .u8 109, .slice A 3 c] W (Out L W)) := Lib.hid fun A c W hr => rnums16_any 60 109 A [C, x, y] 3 c L rfl (by decide) (by rw [num_sqU]; exact m1) (by rw [num_sqU]; exact m2.symm) W hr
     have t3 : (typ == 3) = true := by rw [h3]; rfl
     clear m1 m2 hp hC hlo hlr hx hy h3 hL HLO
     go_enter Tryz.func7, Tryz.ntmps7
     go_wp2_with fail
     refine (HM.out _).mono ?_
     rintro e w2 ⟨rfl, hb2⟩
     have hB2 := hB.trans (hb2.mono hB.size)
     have k2 := k0.below hb2 k0.lt
     clear hb2 hB k0 HM a0 a1 a2 a3 a4
     obtain ⟨a0, a1, a2, a3, a4⟩ := Blk.cells5 k2
     have le : ∀ W, Below w2.heap.size w2 W → Blk W w.heap.size 23 #[.int .i64 btn, .int .i64 typ, .int .i64 x, .int .i64 y, .int .i64 mods] := fun W hW => k2.below hW k2.lt
     have hst : ∀ f ∈ ([⟨7, 24, FRow 3 (is_ [C, x, y])⟩, ⟨8, 25, FB L⟩, ⟨9, 6, FB L⟩] : List Fact), f.ok := List.forall_mem_cons.2 ⟨frow_ok _ _ _ _, List.forall_mem_cons.2 ⟨fb_ok _ _ _, List.forall_mem_cons.2 ⟨fb_ok _ _ _, fun _ h => by cases h⟩⟩⟩
     go_upto_region 6 with (fail)
     refine wp_region_told (w1 := w2) (K := [⟨7, 24, FRow 3 (is_ [C, x, y])⟩, ⟨8, 25, FB L⟩, ⟨9, 6, FB L⟩]) (ix := 1000) (R0 := fun _ _ _ => True) (R1 := fun _ _ _ => True) [24, 25, 6] (⟨#[.int .i64 mode, .int .i64 1006, .agg #[.int .i64 btn, .int .i64 typ, .int .i64 x, .int .i64 y, .int .i64 mods], undef, undef, .pointer (some ⟨w.heap.size, 0, none⟩), undef, undef, .agg #[.int .i64 btn, .int .i64 typ, .int .i64 x, .int .i64 y, .int .i64 mods], .bool true, .bool false, .int .i64 1006, .bool true, .bool true, .pointer (some ⟨w.heap.size, 1, none⟩), .int .i64 typ, .bool true, .int .i64 mode, .agg #[.int .i64 btn, .int .i64 typ, .int .i64 x, .int .i64 y, .int .i64 mods], .int .i64 C, .pointer (some ⟨w.heap.size, 2, none⟩), .int .i64 x, .pointer (some ⟨w.heap.size, 3, none⟩), .int .i64 y, undef, undef, undef, undef, undef, undef, undef, undef, undef, undef, undef, undef, undef, undef, undef, undef, undef, undef, undef, undef, undef, undef, undef, undef, undef, undef, undef, undef, undef, undef, undef, undef, undef, undef, undef, undef, undef, undef, undef, undef, undef, undef, undef, undef, undef, undef, undef, undef, undef, undef, undef, undef, undef, undef, undef, undef, undef, undef, undef, undef, undef, undef, undef, undef, undef, undef, undef, undef, undef, undef, undef, undef, undef, undef, undef, undef, undef], []⟩) (fun g => ⟨#[.int .i64 mode, .int .i64 1006, .agg #[.int .i64 btn, .int .i64 typ, .int .i64 x, .int .i64 y, .int .i64 mods], undef, undef, .pointer (some ⟨w.heap.size, 0, none⟩), (g 6), undef, .agg #[.int .i64 btn, .int .i64 typ, .int .i64 x, .int .i64 y, .int .i64 mods], .bool true, .bool false, .int .i64 1006, .bool true, .bool true, .pointer (some ⟨w.heap.size, 1, none⟩), .int .i64 typ, .bool true, .int .i64 mode, .agg #[.int .i64 btn, .int .i64 typ, .int .i64 x, .int .i64 y, .int .i64 mods], .int .i64 C, .pointer (some ⟨w.heap.size, 2, none⟩), .int .i64 x, .pointer (some ⟨w.heap.size, 3, none⟩), .int .i64 y, (g 24), (g 25), undef, undef, undef, undef, undef, undef, undef, undef, undef, undef, undef, undef, undef, undef, undef, undef, undef, undef, undef, undef, undef, undef, undef, undef, undef, undef, undef, undef, undef, undef, undef, undef, undef, undef, undef, undef, undef, undef, undef, undef, undef, undef, undef, undef, undef, undef, undef, undef, undef, undef, undef, undef, undef, undef, undef, undef, undef, undef, undef, undef, undef, undef, undef, undef, undef, undef, undef, undef, undef, undef, undef, undef, undef, undef, undef], []⟩) [.int .i64 mode, .agg #[.int .i64 btn, .int .i64 typ, .int .i64 x, .int .i64 y, .int .i64 mods], .int .i64 C, .pointer (some ⟨w.heap.size, 2, none⟩), .int .i64 x, .pointer (some ⟨w.heap.size, 3, none⟩), .int .i64 y, undef, undef, undef] (by kernel_rfl) (by kernel_rfl) (by kernel_rfl) (fun g => by kernel_rfl) (by kernel_rfl) (Below.refl _ _).drew (by decide) (by kernel_rfl)
      (goes_cons (gkP (fun _ => .int .i64 mode))
      (goes_cons (gkL hst (fun W hW => le W hW) Tryz.underlying23)
      (goes_cons (gkK (fun g => #[.int .i64 mode, .agg #[.int .i64 btn, .int .i64 typ, .int .i64 x, .int .i64 y, .int .i64 mods]]) hst (fun g W hW hin => HCO.out W))
      (goes_cons (gkP (fun _ => .pointer (some ⟨w.heap.size, 2, none⟩)))
      (goes_cons (gkC hst (fun W hW => (le W hW).cell 2))
      (goes_cons (gkP (fun _ => .pointer (some ⟨w.heap.size, 3, none⟩)))
      (goes_cons (gkC hst (fun W hW => (le W hW).cell 3))
      (goes_cons (goesK_any hst (ahead_none (by decide)) rfl (by decide) (by decide) 0 rfl (by kernel_rfl) (fun g => by kernel_rfl) rfl (fun g => by kernel_rfl) (fun g W hW hin => made3i rfl C x y rfl rfl rfl))
      (goes_cons (gkG (fun g => #[.int .u8 60, .int .u8 109, g 24]) hst 1 (fun g W hW hin => by obtain ⟨A, c, hv, hr⟩ := hin 0 _ rfl (by kernel_rfl); simp only at hv; rw [hv]; exact fb_out (HNU.out A c W hr)))
      (goes_cons (goesK_name (p' := 1) hst (ahead_none (by decide)) rfl (by decide) (by decide) 2 rfl rfl (by kernel_rfl) (by kernel_rfl) (fun g => by kernel_rfl) rfl (fun g => by kernel_rfl) (fun g w => by kernel_rfl)) goes_nil)))))))))) ?_
     intro g W hW hK
     obtain ⟨A9, c9, h3, hr9⟩ := hK 2 _ rfl
     have hB3 := hB2.trans (hW.mono hB2.size)
     simp only at h3
     simp only [h3]
     generalize g 24 = v1
     generalize g 25 = v2
     clear hK le hst h3
     go_wp2_with fail
     go_ret
     exact ⟨A9, c9, rfl, hr9, hB3⟩
    ·simp only at m1 m2
     rw [if_neg h3] at m1 m2
     have HNU : Hid (∀ A c W, Rd W A (is_ [C, x, y]) → Calls Tryz.prog 15 #[.int .u8 60, .int .u8 77, .slice A 3 c] W (Out L W)) := Lib.hid fun A c W hr => rnums16_any 60 77 A [C, x, y] 3 c L rfl (by decide) (by rw [num_sqM]; exact m1) (by rw [num_sqM]; exact m2.symm) W hr
     have t3 : (typ == 3) = false := beq_false_of_ne h3
     clear m1 m2 hp hC hlo hlr hx hy h3 hL HLO
     go_enter Tryz.func7, Tryz.ntmps7
     go_wp2_with fail
     refine (HM.out _).mono ?_
     rintro e w2 ⟨rfl, hb2⟩
     have hB2 := hB.trans (hb2.mono hB.size)
     have k2 := k0.below hb2 k0.lt
     clear hb2 hB k0 HM a0 a1 a2 a3 a4
     obtain ⟨a0, a1, a2, a3, a4⟩ := Blk.cells5 k2
     have le : ∀ W, Below w2.heap.size w2 W → Blk W w.heap.size 23 #[.int .i64 btn, .int .i64 typ, .int .i64 x, .int .i64 y, .int .i64 mods] := fun W hW => k2.below hW k2.lt
     have hst : ∀ f ∈ ([⟨7, 33, FRow 3 (is_ [C, x, y])⟩, ⟨8, 34, FB L⟩, ⟨9, 6, FB L⟩] : List Fact), f.ok := List.forall_mem_cons.2 ⟨frow_ok _ _ _ _, List.forall_mem_cons.2 ⟨fb_ok _ _ _, List.forall_mem_cons.2 ⟨fb_ok _ _ _, fun _ h => by cases h⟩⟩⟩
     go_upto_region 7 with (fail)
     refine wp_region_told (w1 := w2) (K := [⟨7, 33, FRow 3 (is_ [C, x, y])⟩, ⟨8, 34, FB L⟩, ⟨9, 6, FB L⟩]) (ix := 1000) (R0 := fun _ _ _ => True) (R1 := fun _ _ _ => True) [33, 34, 6] (⟨#[.int .i64 mode, .int .i64 1006, .agg #[.int .i64 btn, .int .i64 typ, .int .i64 x, .int .i64 y, .int .i64 mods], undef, undef, .pointer (some ⟨w.heap.size, 0, none⟩), undef, undef, .agg #[.int .i64 btn, .int .i64 typ, .int .i64 x, .int .i64 y, .int .i64 mods], .bool true, .bool false, .int .i64 1006, .bool true, .bool true, .pointer (some ⟨w.heap.size, 1, none⟩), .int .i64 typ, .bool false, undef, undef, undef, undef, undef, undef, undef, undef, undef, .int .i64 mode, .agg #[.int .i64 btn, .int .i64 typ, .int .i64 x, .int .i64 y, .int .i64 mods], .int .i64 C, .pointer (some ⟨w.heap.size, 2, none⟩), .int .i64 x, .pointer (some ⟨w.heap.size, 3, none⟩), .int .i64 y, undef, undef, undef, undef, undef, undef, undef, undef, undef, undef, undef, undef, undef, undef, undef, undef, undef, undef, undef, undef, undef, undef, undef, undef, undef, undef, undef, undef, undef, undef, undef, undef, undef, undef, undef, undef, undef, undef, undef, undef, undef, undef, undef, undef, undef, undef, undef, undef, undef, undef, undef, undef, undef, undef, undef, undef, undef, undef, undef, undef, undef, undef, undef, undef, undef, undef, undef, undef], []⟩) (fun g => ⟨#[.int .i64 mode, .int .i64 1006, .agg #[.int .i64 btn, .int .i64 typ, .int .i64 x, .int .i64 y, .int .i64 mods], undef, undef, .pointer (some ⟨w.heap.size, 0, none⟩), (g 6), undef, .agg #[.int .i64 btn, .int .i64 typ, .int .i64 x, .int .i64 y, .int .i64 mods], .bool true, .bool false, .int .i64 1006, .bool true, .bool true, .pointer (some ⟨w.heap.size, 1, none⟩), .int .i64 typ, .bool false, undef, undef, undef, undef, undef, undef, undef, undef, undef, .int .i64 mode, .agg #[.int .i64 btn, .int .i64 typ, .int .i64 x, .int .i64 y, .int .i64 mods], .int .i64 C, .pointer (some ⟨w.heap.size, 2, none⟩), .int .i64 x, .pointer (some ⟨w.heap.size, 3, none⟩), .int .i64 y, (g 33), (g 34), undef, undef, undef, undef, undef, undef, undef, undef, undef, undef, undef, undef, undef, undef, undef, undef, undef, undef, undef, undef, undef, undef, undef, undef, undef, undef, undef, undef, undef, undef, undef, undef, undef, undef, undef, undef, undef, undef, undef, undef, undef, undef, undef, undef, undef, undef, undef, undef, undef, undef, undef, undef, undef, undef, undef, undef, undef, undef, undef, undef, undef, undef, undef, undef, undef, undef], []⟩) [.int .i64 mode, .agg #[.int .i64 btn, .int .i64 typ, .int .i64 x, .int .i64 y, .int .i64 mods], .int .i64 C, .pointer (some ⟨w.heap.size, 2, none⟩), .int .i64 x, .pointer (some ⟨w.heap.size, 3, none⟩), .int .i64 y, undef, undef, undef] (by kernel_rfl) (by kernel_rfl) (by kernel_rfl) (fun g => by kernel_rfl) (by kernel_rfl) (Below.refl _ _).drew (by decide) (by kernel_rfl)
      (goes_cons (gkP (fun _ => .int .i64 mode))
      (goes_cons (gkL hst (fun W hW => le W hW) Tryz.underlying23)
      (goes_cons (gkK (fun g => #[.int .i64 mode, .agg #[.int .i64 btn, .int .i64 typ, .int .i64 x, .int .i64 y, .int .i64 mods]]) hst (fun g W hW hin => HCO.out W))
      (goes_cons (gkP (fun _ => .pointer (some ⟨w.heap.size, 2, none⟩)))
      (goes_cons (gkC hst (fun W hW => (le W hW).cell 2))
      (goes_cons (gkP (fun _ => .pointer (some ⟨w.heap.size, 3, none⟩)))
      (goes_cons (gkC hst (fun W hW => (le W hW).cell 3))
      (goes_cons (goesK_any hst (ahead_none (by decide)) rfl (by decide) (by decide) 0 rfl (by kernel_rfl) (fun g => by kernel_rfl) rfl (fun g => by kernel_rfl) (fun g W hW hin => made3i rfl C x y rfl rfl rfl))
      (goes_cons (gkG (fun g => #[.int .u8 60, .int .u8 77, g 33]) hst 1 (fun g W hW hin => by obtain ⟨A, c, hv, hr⟩ := hin 0 _ rfl (by kernel_rfl); simp only at hv; rw [hv]; exact fb_out (HNU.out A c W hr)))
      (goes_cons (goesK_name (p' := 1) hst (ahead_none (by decide)) rfl (by decide) (by decide) 2 rfl rfl (by kernel_rfl) (by kernel_rfl) (fun g => by kernel_rfl) rfl (fun g => by kernel_rfl) (fun g w => by kernel_rfl)) goes_nil)))))))))) ?_
     intro g W hW hK
     obtain ⟨A9, c9, h3, hr9⟩ := hK 2 _ rfl
     have hB3 := hB2.trans (hW.mono hB2.size)
     simp only at h3
     simp only [h3]
     generalize g 33 = v1
     generalize g 34 = v2
     clear hK le hst h3
     go_wp2_with fail
     go_ret
     exact ⟨A9, c9, rfl, hr9, hB3⟩
   have t6 : (coding == 1006) = false := beq_false_of_ne c6
   by_cases c5 : coding = 1015
   ·subst c5
    obtain ⟨m1, m2⟩ := enc_1015 mode hp
    rw [hL, hlo] at m2
    rw [hlo] at m1
    simp only at m1 m2
    have HNU : Hid (∀ A c W, Rd W A (is_ [(32 + lo), x, y]) → Calls Tryz.prog 15 #[.int .u8 0, .int .u8 77, .slice A 3 c] W (Out L W)) := Lib.hid fun A c W hr => rnums16_any 0 77 A [(32 + lo), x, y] 3 c L rfl (by decide) (by rw [num_sqM]; exact m1) (by rw [num_sqM]; exact m2.symm) W hr
    clear m1 m2 hp hC hlo hlr hx hy hL HCO c6 t6
    go_enter Tryz.func7, Tryz.ntmps7
    go_wp2_with fail
    refine (HM.out _).mono ?_
    rintro e w2 ⟨rfl, hb2⟩
    have hB2 := hB.trans (hb2.mono hB.size)
    have k2 := k0.below hb2 k0.lt
    clear hb2 hB k0 HM a0 a1 a2 a3 a4
    obtain ⟨a0, a1, a2, a3, a4⟩ := Blk.cells5 k2
    have le : ∀ W, Below w2.heap.size w2 W → Blk W w.heap.size 23 #[.int .i64 btn, .int .i64 typ, .int .i64 x, .int .i64 y, .int .i64 mods] := fun W hW => k2.below hW k2.lt
    have hst : ∀ f ∈ ([⟨8, 45, FRow 3 (is_ [(32 + lo), x, y])⟩, ⟨9, 46, FB L⟩, ⟨10, 6, FB L⟩] : List Fact), f.ok := List.forall_mem_cons.2 ⟨frow_ok _ _ _ _, List.forall_mem_cons.2 ⟨fb_ok _ _ _, List.forall_mem_cons.2 ⟨fb_ok _ _ _, fun _ h => by cases h⟩⟩⟩
    go_upto_region 9 with (fail)
    refine wp_region_told (w1 := w2) (K := [⟨8, 45, FRow 3 (is_ [(32 + lo), x, y])⟩, ⟨9, 46, FB L⟩, ⟨10, 6, FB L⟩]) (ix := 1000) (R0 := fun _ _ _ => True) (R1 := fun _ _ _ => True) [45, 46, 6] (⟨#[.int .i64 mode, .int .i64 1015, .agg #[.int .i64 btn, .int .i64 typ, .int .i64 x, .int .i64 y, .int .i64 mods], undef, undef, .pointer (some ⟨w.heap.size, 0, none⟩), undef, undef, .agg #[.int .i64 btn, .int .i64 typ, .int .i64 x, .int .i64 y, .int .i64 mods], .bool true, .bool false, .int .i64 1015, .bool false, .bool false, undef, undef, undef, undef, undef, undef, undef, undef, undef, undef, undef, undef, undef, undef, undef, undef, undef, undef, undef, undef, undef, .bool true, .bool true, .int .i64 mode, .agg #[.int .i64 btn, .int .i64 typ, .int .i64 x, .int .i64 y, .int .i64 mods], .int .i64 lo, .int .i64 (32 + lo), .pointer (some ⟨w.heap.size, 2, none⟩), .int .i64 x, .pointer (some ⟨w.heap.size, 3, none⟩), .int .i64 y, undef, undef, undef, undef, undef, undef, undef, undef, undef, undef, undef, undef, undef, undef, undef, undef, undef, undef, undef, undef, undef, undef, undef, undef, undef, undef, undef, undef, undef, undef, undef, undef, undef, undef, undef, undef, undef, undef, undef, undef, undef, undef, undef, undef, undef, undef, undef, undef, undef, undef, undef, undef, undef, undef, undef, undef], []⟩) (fun g => ⟨#[.int .i64 mode, .int .i64 1015, .agg #[.int .i64 btn, .int .i64 typ, .int .i64 x, .int .i64 y, .int .i64 mods], undef, undef, .pointer (some ⟨w.heap.size, 0, none⟩), (g 6), undef, .agg #[.int .i64 btn, .int .i64 typ, .int .i64 x, .int .i64 y, .int .i64 mods], .bool true, .bool false, .int .i64 1015, .bool false, .bool false, undef, undef, undef, undef, undef, undef, undef, undef, undef, undef, undef, undef, undef, undef, undef, undef, undef, undef, undef, undef, undef, .bool true, .bool true, .int .i64 mode, .agg #[.int .i64 btn, .int .i64 typ, .int .i64 x, .int .i64 y, .int .i64 mods], .int .i64 lo, .int .i64 (32 + lo), .pointer (some ⟨w.heap.size, 2, none⟩), .int .i64 x, .pointer (some ⟨w.heap.size, 3, none⟩), .int .i64 y, (g 45), (g 46), undef, undef, undef, undef, undef, undef, undef, undef, undef, undef, undef, undef, undef, undef, undef, undef, undef, undef, undef, undef, undef, undef, undef, undef, undef, undef, undef, undef, undef, undef, undef, undef, undef, undef, undef, undef, undef, undef, undef, undef, undef, undef, undef, undef, undef, undef, undef, undef, undef, undef, undef, undef, undef, undef], []⟩) [.int .i64 mode, .agg #[.int .i64 btn, .int .i64 typ, .int .i64 x, .int .i64 y, .int .i64 mods], .int .i64 lo, .int .i64 (32 + lo), .pointer (some ⟨w.heap.size, 2, none⟩), .int .i64 x, .pointer (some ⟨w.heap.size, 3, none⟩), .int .i64 y, undef, undef, undef] (by kernel_rfl) (by kernel_rfl) (by kernel_rfl) (fun g => by kernel_rfl) (by kernel_rfl) (Below.refl _ _).drew (by decide) (by kernel_rfl)
     (goes_cons (gkP (fun _ => .int .i64 mode))
     (goes_cons (gkL hst (fun W hW => le W hW) Tryz.underlying23)
     (goes_cons (gkK (fun g => #[.int .i64 mode, .agg #[.int .i64 btn, .int .i64 typ, .int .i64 x, .int .i64 y, .int .i64 mods]]) hst (fun g W hW hin => HLO.out W))
     (goes_cons (gkP (fun _ => .int .i64 (32 + lo)) (h := (fun g w => add_run rfl rfl rfl hw w)))
     (goes_cons (gkP (fun _ => .pointer (some ⟨w.heap.size, 2, none⟩)))
     (goes_cons (gkC hst (fun W hW => (le W hW).cell 2))
     (goes_cons (gkP (fun _ => .pointer (some ⟨w.heap.size, 3, none⟩)))
     (goes_cons (gkC hst (fun W hW => (le W hW).cell 3))
     (goes_cons (goesK_any hst (ahead_none (by decide)) rfl (by decide) (by decide) 0 rfl (by kernel_rfl) (fun g => by kernel_rfl) rfl (fun g => by kernel_rfl) (fun g W hW hin => made3i rfl (32 + lo) x y rfl rfl rfl))
     (goes_cons (gkG (fun g => #[.int .u8 0, .int .u8 77, g 45]) hst 1 (fun g W hW hin => by obtain ⟨A, c, hv, hr⟩ := hin 0 _ rfl (by kernel_rfl); simp only at hv; rw [hv]; exact fb_out (HNU.out A c W hr)))
     (goes_cons (goesK_name (p' := 1) hst (ahead_none (by decide)) rfl (by decide) (by decide) 2 rfl rfl (by kernel_rfl) (by kernel_rfl) (fun g => by kernel_rfl) rfl (fun g => by kernel_rfl) (fun g w => by kernel_rfl)) goes_nil))))))))))) ?_
    intro g W hW hK
    obtain ⟨A9, c9, h3, hr9⟩ := hK 2 _ rfl
    have hB3 := hB2.trans (hW.mono hB2.size)
    simp only at h3
    simp only [h3]
    generalize g 45 = v1
    generalize g 46 = v2
    clear hK le hst h3
    go_wp2_with fail
    go_ret
    exact ⟨A9, c9, rfl, hr9, hB3⟩
   have t5 : (coding == 1015) = false := beq_false_of_ne c5
   by_cases c1 : coding = 1005
   ·subst c1
    have m2 := enc_1005 mode hp
    rw [hL, hlo] at m2
    simp only at m2
    by_cases hg : 2015 < x
    ·rw [if_pos (Or.inl hg)] at m2
     subst m2
     clear hp hC hlo hlr hx hy hL HCO HLO c6 t6 c5 t5
     go_enter Tryz.func7, Tryz.ntmps7
     go_wp2_with fail
     refine (HM.out _).mono ?_
     rintro e w2 ⟨rfl, hb2⟩
     have hB2 := hB.trans (hb2.mono hB.size)
     have k2 := k0.below hb2 k0.lt
     clear hb2 hB k0 HM a0 a1 a2 a3 a4
     obtain ⟨a0, a1, a2, a3, a4⟩ := Blk.cells5 k2
     go_wp2_with fail
     go_ret
     exact ⟨none, 0, rfl, Rd.nil _ _, hB2⟩
    by_cases hg2 : 2015 < y
    ·rw [if_pos (Or.inr hg2)] at m2
     subst m2
     clear hp hC hlo hlr hx hy hL HCO HLO c6 t6 c5 t5
     go_enter Tryz.func7, Tryz.ntmps7
     go_wp2_with fail
     refine (HM.out _).mono ?_
     rintro e w2 ⟨rfl, hb2⟩
     have hB2 := hB.trans (hb2.mono hB.size)
     have k2 := k0.below hb2 k0.lt
     clear hb2 hB k0 HM a0 a1 a2 a3 a4
     obtain ⟨a0, a1, a2, a3, a4⟩ := Blk.cells5 k2
     go_wp2_with fail
     go_ret
     exact ⟨none, 0, rfl, Rd.nil _ _, hB2⟩
    rw [if_neg (by omega)] at m2
    have HLL := Lib.hid m2
    obtain ⟨i0, hi0, hz0, hz1, hz2⟩ : ∃ i, Tryz.prog.info? 5 = some i ∧ i.zero = some (.int .u8 0) ∧ i.size = 1 ∧ i.bytes = 1 := ⟨_, rfl, rfl, rfl, rfl⟩
    have kc := fun (w : World) (C : Array Value) (n c : Nat) => Lib.run_convert_bytes_const (P := Tryz.prog) w 25 5 C n c Tryz.underlying25 Tryz.underlying5
    clear m2 hp hC hlo hx hy hL HCO c6 t6 c5 t5 hlr
    go_enter Tryz.func7, Tryz.ntmps7
    go_wp2_with fail
    refine (HM.out _).mono ?_
    rintro e w2 ⟨rfl, hb2⟩
    have hB2 := hB.trans (hb2.mono hB.size)
    have k2 := k0.below hb2 k0.lt
    clear hb2 hB k0 HM a0 a1 a2 a3 a4
    obtain ⟨a0, a1, a2, a3, a4⟩ := Blk.cells5 k2
    have hB2s := hB2.size
    replace hB2 := hB2.alloc hB2.size (.cells #[.int .u8 27, .int .u8 91, .int .u8 77] 5 (3, 4))
    have k2n := k2.alloc (.cells #[.int .u8 27, .int .u8 91, .int .u8 77] 5 (3, 4))
    have own2 : Own (w2.alloc (.cells #[.int .u8 27, .int .u8 91, .int .u8 77] 5 (3, 4))) w.heap.size 5 1 (.slice (some ⟨w2.heap.size, 0, none⟩) 3 3) 3 (bs [27, 91, 77]) := own_mark16 w2 _ _ 3 #[.int .u8 27, .int .u8 91, .int .u8 77] hB2s rfl (by simp [maxLen])
    obtain ⟨b0, b1, b2, b3, b4⟩ := Blk.cells5 k2n
    go_wp2_with fail
    refine (HLO.out _).mono ?_
    rintro e w3 ⟨rfl, hb3⟩
    have hB3 := hB2.trans (hb3.mono hB2.size)
    have k3 := k2n.below hb3 k2n.lt
    have own3 := own2.behind hb3
    clear hb3 hB2 k2 k2n own2 HLO kc a0 a1 a2 a3 a4 b0 b1 b2 b3 b4
    obtain ⟨a0, a1, a2, a3, a4⟩ := Blk.cells5 k3
    go_wp2_with fail
    refine (rPut_any (32 + lo) _).mono ?_
    rintro e w4 ⟨A4, c4, rfl, hr4, hb4⟩
    have hB4 := hB3.trans (hb4.mono hB3.size)
    have k4 := k3.below hb4 k3.lt
    have ow4 := own3.behind hb4
    clear hb4 hB3 k3 own3 a0 a1 a2 a3 a4
    obtain ⟨a0, a1, a2, a3, a4⟩ := Blk.cells5 k4
    have l4 := putL_le (32 + lo)
    have q1 : 3 + (putL (32 + lo)).length ≤ maxLen := by simp only [maxLen]; omega
    have q2 : (3 + (putL (32 + lo)).length) * 1 ≤ 140737488355328 := by omega
    have q3 := hB4.size
    go_wp2_with (at_builtin; refine list_app _ rfl (.tmp 59) (.tmp 64) 25 rfl w.heap.size 5 i0 _ 1 1 Tryz.underlying25 hi0 hz0 hz1 hz2 rfl Nat.one_pos _ (3) _ rfl ow4 A4 (putL (32 + lo)).length c4 (bs (putL (32 + lo))) rfl (by rw [bs_length, Nat.mul_one]) hr4 (bs_one _) q1 q2 q3 ?_; intro v4 u4 own4 hg4; have hC4 := hB4.grown hg4 q3 (fun k hk => (ow4.lt k hk).1); have m4 := k4.grown hg4 (ow4.no_cells k4 (by decide)); rw [← bs_append] at own4; obtain ⟨B4, e4, rfl, _⟩ := own4.form; clear q1 q2 q3 hg4 k4 hB4 hr4 a0 a1 a2 a3 a4; obtain ⟨a0, a1, a2, a3, a4⟩ := Blk.cells5 m4)
    refine (rPut_any (32 + x) _).mono ?_
    rintro e w5 ⟨A5, c5, rfl, hr5, hb5⟩
    have hB5 := hC4.trans (hb5.mono hC4.size)
    have k5 := m4.below hb5 m4.lt
    have ow5 := own4.behind hb5
    clear hb5 hC4 m4 own4 a0 a1 a2 a3 a4
    obtain ⟨a0, a1, a2, a3, a4⟩ := Blk.cells5 k5
    have l5 := putL_le (32 + x)
    have q1 : 3 + (putL (32 + lo)).length + (putL (32 + x)).length ≤ maxLen := by simp only [maxLen]; omega
    have q2 : (3 + (putL (32 + lo)).length + (putL (32 + x)).length) * 1 ≤ 140737488355328 := by omega
    have q3 := hB5.size
    go_wp2_with (at_builtin; refine list_app _ rfl (.tmp 66) (.tmp 70) 25 rfl w.heap.size 5 i0 _ 1 1 Tryz.underlying25 hi0 hz0 hz1 hz2 rfl Nat.one_pos _ (3 + (putL (32 + lo)).length) _ rfl ow5 A5 (putL (32 + x)).length c5 (bs (putL (32 + x))) rfl (by rw [bs_length, Nat.mul_one]) hr5 (bs_one _) q1 q2 q3 ?_; intro v5 u5 own5 hg5; have hC5 := hB5.grown hg5 q3 (fun k hk => (ow5.lt k hk).1); have m5 := k5.grown hg5 (ow5.no_cells k5 (by decide)); rw [← bs_append] at own5; obtain ⟨B5, e5, rfl, _⟩ := own5.form; clear q1 q2 q3 hg5 k5 hB5 hr5 a0 a1 a2 a3 a4; obtain ⟨a0, a1, a2, a3, a4⟩ := Blk.cells5 m5)
    refine (rPut_any (32 + y) _).mono ?_
    rintro e w6 ⟨A6, c6, rfl, hr6, hb6⟩
    have hB6 := hC5.trans (hb6.mono hC5.size)
    have k6 := m5.below hb6 m5.lt
    have ow6 := own5.behind hb6
    clear hb6 hC5 m5 own5 a0 a1 a2 a3 a4
    obtain ⟨a0, a1, a2, a3, a4⟩ := Blk.cells5 k6
    have l6 := putL_le (32 + y)
    have q1 : 3 + (putL (32 + lo)).length + (putL (32 + x)).length + (putL (32 + y)).length ≤ maxLen := by simp only [maxLen]; omega
    have q2 : (3 + (putL (32 + lo)).length + (putL (32 + x)).length + (putL (32 + y)).length) * 1 ≤ 140737488355328 := by omega
    have q3 := hB6.size
    go_wp2_with (at_builtin; refine list_app _ rfl (.tmp 72) (.tmp 76) 25 rfl w.heap.size 5 i0 _ 1 1 Tryz.underlying25 hi0 hz0 hz1 hz2 rfl Nat.one_pos _ (3 + (putL (32 + lo)).length + (putL (32 + x)).length) _ rfl ow6 A6 (putL (32 + y)).length c6 (bs (putL (32 + y))) rfl (by rw [bs_length, Nat.mul_one]) hr6 (bs_one _) q1 q2 q3 ?_; intro v6 u6 own6 hg6; have hC6 := hB6.grown hg6 q3 (fun k hk => (ow6.lt k hk).1); have m6 := k6.grown hg6 (ow6.no_cells k6 (by decide)); rw [← bs_append] at own6; obtain ⟨B6, e6, rfl, _⟩ := own6.form; clear q1 q2 q3 hg6 k6 hB6 hr6 a0 a1 a2 a3 a4; obtain ⟨a0, a1, a2, a3, a4⟩ := Blk.cells5 m6)
    go_ret
    have hl := own6.rd
    have hlen : 3 + (putL (32 + lo)).length + (putL (32 + x)).length + (putL (32 + y)).length = L.length := by rw [HLL.out]; simp only [List.length_append, List.length_cons, List.length_nil]
    exact ⟨B6, e6, by rw [← hlen]; rfl, by rw [HLL.out]; exact hl, hC6⟩
   have t1 : (coding == 1005) = false := beq_false_of_ne c1
   have m2 := (enc_else16 mode coding hp c1 c6 c5).symm.trans hL
   rw [enc_0 mode hp, hlo] at m2
   simp only at m2
   by_cases hg : 223 < x
   ·rw [if_pos (Or.inl hg)] at m2
    subst m2
    clear hp hC hlo hlr hx hy hL HCO HLO c6 c5 c1
    go_enter Tryz.func7, Tryz.ntmps7
    go_wp2_with fail
    refine (HM.out _).mono ?_
    rintro e w2 ⟨rfl, hb2⟩
    have hB2 := hB.trans (hb2.mono hB.size)
    have k2 := k0.below hb2 k0.lt
    clear hb2 hB k0 HM a0 a1 a2 a3 a4
    obtain ⟨a0, a1, a2, a3, a4⟩ := Blk.cells5 k2
    go_wp2_with fail
    go_ret
    exact ⟨none, 0, rfl, Rd.nil _ _, hB2⟩
   by_cases hg2 : 223 < y
   ·rw [if_pos (Or.inr hg2)] at m2
    subst m2
    clear hp hC hlo hlr hx hy hL HCO HLO c6 c5 c1
    go_enter Tryz.func7, Tryz.ntmps7
    go_wp2_with fail
    refine (HM.out _).mono ?_
    rintro e w2 ⟨rfl, hb2⟩
    have hB2 := hB.trans (hb2.mono hB.size)
    have k2 := k0.below hb2 k0.lt
    clear hb2 hB k0 HM a0 a1 a2 a3 a4
    obtain ⟨a0, a1, a2, a3, a4⟩ := Blk.cells5 k2
    go_wp2_with fail
    go_ret
    exact ⟨none, 0, rfl, Rd.nil _ _, hB2⟩
   rw [if_neg (by omega)] at m2
   have HX6 : Hid ([.int .u8 27, .int .u8 91, .int .u8 77, .int .u8 (IntKind.u8.wrap (32 + lo)), .int .u8 (IntKind.u8.wrap (32 + x)), .int .u8 (IntKind.u8.wrap (32 + y))] = bs L ∧ 6 = L.length) := Lib.hid (by
    rw [← m2]
    refine ⟨?_, rfl⟩
    rw [u8wr (by omega) (by omega), u8wr (by omega) (by omega), u8wr (by omega) (by omega)]
    rfl)
   clear m2 hp hC hlo hlr hx hy hL HCO c6 c5 c1
   go_enter Tryz.func7, Tryz.ntmps7
   go_wp2_with fail
   refine (HM.out _).mono ?_
   rintro e w2 ⟨rfl, hb2⟩
   have hB2 := hB.trans (hb2.mono hB.size)
   have k2 := k0.below hb2 k0.lt
   clear hb2 hB k0 HM a0 a1 a2 a3 a4
   obtain ⟨a0, a1, a2, a3, a4⟩ := Blk.cells5 k2
   have le : ∀ W, Below w2.heap.size w2 W → Blk W w.heap.size 23 #[.int .i64 btn, .int .i64 typ, .int .i64 x, .int .i64 y, .int .i64 mods] := fun W hW => k2.below hW k2.lt
   have hst : ∀ f ∈ ([⟨13, 100, FRow 6 [.int .u8 27, .int .u8 91, .int .u8 77, .int .u8 (IntKind.u8.wrap (32 + lo)), .int .u8 (IntKind.u8.wrap (32 + x)), .int .u8 (IntKind.u8.wrap (32 + y))]⟩, ⟨14, 6, FRow 6 [.int .u8 27, .int .u8 91, .int .u8 77, .int .u8 (IntKind.u8.wrap (32 + lo)), .int .u8 (IntKind.u8.wrap (32 + x)), .int .u8 (IntKind.u8.wrap (32 + y))]⟩] : List Fact), f.ok := List.forall_mem_cons.2 ⟨frow_ok _ _ _ _, List.forall_mem_cons.2 ⟨frow_ok _ _ _ _, fun _ h => by cases h⟩⟩
   go_upto_region 20 with (fail)
   refine wp_region_told (w1 := w2) (K := [⟨13, 100, FRow 6 [.int .u8 27, .int .u8 91, .int .u8 77, .int .u8 (IntKind.u8.wrap (32 + lo)), .int .u8 (IntKind.u8.wrap (32 + x)), .int .u8 (IntKind.u8.wrap (32 + y))]⟩, ⟨14, 6, FRow 6 [.int .u8 27, .int .u8 91, .int .u8 77, .int .u8 (IntKind.u8.wrap (32 + lo)), .int .u8 (IntKind.u8.wrap (32 + x)), .int .u8 (IntKind.u8.wrap (32 + y))]⟩]) (ix := 1000) (R0 := fun _ _ _ => True) (R1 := fun _ _ _ => True) [100, 6] (⟨#[.int .i64 mode, .int .i64 coding, .agg #[.int .i64 btn, .int .i64 typ, .int .i64 x, .int .i64 y, .int .i64 mods], undef, undef, .pointer (some ⟨w.heap.size, 0, none⟩), undef, undef, .agg #[.int .i64 btn, .int .i64 typ, .int .i64 x, .int .i64 y, .int .i64 mods], .bool true, .bool false, .int .i64 coding, .bool false, .bool false, undef, undef, undef, undef, undef, undef, undef, undef, undef, undef, undef, undef, undef, undef, undef, undef, undef, undef, undef, undef, undef, .bool false, .bool false, undef, undef, undef, undef, undef, undef, undef, undef, undef, undef, .bool false, .bool false, undef, undef, undef, undef, undef, undef, undef, undef, undef, undef, undef, undef, undef, undef, undef, undef, undef, undef, undef, undef, undef, undef, undef, undef, undef, undef, undef, undef, undef, undef, .pointer (some ⟨w.heap.size, 2, none⟩), .int .i64 x, .bool (decide (223 < x)), .bool (decide (223 < x)), .pointer (some ⟨w.heap.size, 3, none⟩), .int .i64 y, .bool (decide (223 < y)), .bool (decide (223 < x) || decide (223 < y)), .int .i64 mode, .agg #[.int .i64 btn, .int .i64 typ, .int .i64 x, .int .i64 y, .int .i64 mods], .int .i64 lo, .int .i64 (32 + lo), .int .u8 (IntKind.u8.wrap (32 + lo)), .pointer (some ⟨w.heap.size, 2, none⟩), .int .i64 x, .int .i64 (32 + x), .int .u8 (IntKind.u8.wrap (32 + x)), .pointer (some ⟨w.heap.size, 3, none⟩), .int .i64 y, .int .i64 (32 + y), .int .u8 (IntKind.u8.wrap (32 + y)), undef], []⟩) (fun g => ⟨#[.int .i64 mode, .int .i64 coding, .agg #[.int .i64 btn, .int .i64 typ, .int .i64 x, .int .i64 y, .int .i64 mods], undef, undef, .pointer (some ⟨w.heap.size, 0, none⟩), (g 6), undef, .agg #[.int .i64 btn, .int .i64 typ, .int .i64 x, .int .i64 y, .int .i64 mods], .bool true, .bool false, .int .i64 coding, .bool false, .bool false, undef, undef, undef, undef, undef, undef, undef, undef, undef, undef, undef, undef, undef, undef, undef, undef, undef, undef, undef, undef, undef, .bool false, .bool false, undef, undef, undef, undef, undef, undef, undef, undef, undef, undef, .bool false, .bool false, undef, undef, undef, undef, undef, undef, undef, undef, undef, undef, undef, undef, undef, undef, undef, undef, undef, undef, undef, undef, undef, undef, undef, undef, undef, undef, undef, undef, undef, undef, .pointer (some ⟨w.heap.size, 2, none⟩), .int .i64 x, .bool (decide (223 < x)), .bool (decide (223 < x)), .pointer (some ⟨w.heap.size, 3, none⟩), .int .i64 y, .bool (decide (223 < y)), .bool (decide (223 < x) || decide (223 < y)), .int .i64 mode, .agg #[.int .i64 btn, .int .i64 typ, .int .i64 x, .int .i64 y, .int .i64 mods], .int .i64 lo, .int .i64 (32 + lo), .int .u8 (IntKind.u8.wrap (32 + lo)), .pointer (some ⟨w.heap.size, 2, none⟩), .int .i64 x, .int .i64 (32 + x), .int .u8 (IntKind.u8.wrap (32 + x)), .pointer (some ⟨w.heap.size, 3, none⟩), .int .i64 y, .int .i64 (32 + y), .int .u8 (IntKind.u8.wrap (32 + y)), (g 100)], []⟩) [.int .i64 mode, .agg #[.int .i64 btn, .int .i64 typ, .int .i64 x, .int .i64 y, .int .i64 mods], .int .i64 lo, .int .i64 (32 + lo), .int .u8 (IntKind.u8.wrap (32 + lo)), .pointer (some ⟨w.heap.size, 2, none⟩), .int .i64 x, .int .i64 (32 + x), .int .u8 (IntKind.u8.wrap (32 + x)), .pointer (some ⟨w.heap.size, 3, none⟩), .int .i64 y, .int .i64 (32 + y), .int .u8 (IntKind.u8.wrap (32 + y)), undef, undef] (by kernel_rfl) (by kernel_rfl) (by kernel_rfl) (fun g => by kernel_rfl) (by kernel_rfl) (Below.refl _ _).drew (by decide) (by kernel_rfl)
    (goes_cons (gkP (fun _ => .int .i64 mode))
    (goes_cons (gkL hst (fun W hW => le W hW) Tryz.underlying23)
    (goes_cons (gkK (fun g => #[.int .i64 mode, .agg #[.int .i64 btn, .int .i64 typ, .int .i64 x, .int .i64 y, .int .i64 mods]]) hst (fun g W hW hin => HLO.out W))
    (goes_cons (gkP (fun _ => .int .i64 (32 + lo)) (h := (fun g w => add_run rfl rfl rfl hw w)))
    (goes_cons (gkP (fun _ => .int .u8 (IntKind.u8.wrap (32 + lo))))
    (goes_cons (gkP (fun _ => .pointer (some ⟨w.heap.size, 2, none⟩)))
    (goes_cons (gkC hst (fun W hW => (le W hW).cell 2))
    (goes_cons (gkP (fun _ => .int .i64 (32 + x)) (h := (fun g w => add_run rfl rfl rfl hwx w)))
    (goes_cons (gkP (fun _ => .int .u8 (IntKind.u8.wrap (32 + x))))
    (goes_cons (gkP (fun _ => .pointer (some ⟨w.heap.size, 3, none⟩)))
    (goes_cons (gkC hst (fun W hW => (le W hW).cell 3))
    (goes_cons (gkP (fun _ => .int .i64 (32 + y)) (h := (fun g w => add_run rfl rfl rfl hwy w)))
    (goes_cons (gkP (fun _ => .int .u8 (IntKind.u8.wrap (32 + y))))
    (goes_cons (goesK_any hst (ahead_none (by decide)) rfl (by decide) (by decide) 0 rfl (by kernel_rfl) (fun g => by kernel_rfl) rfl (fun g => by kernel_rfl) (fun g W hW hin => made6b rfl (IntKind.u8.wrap (32 + lo)) (IntKind.u8.wrap (32 + x)) (IntKind.u8.wrap (32 + y)) (fun _ => rfl) rfl rfl rfl))
    (goes_cons (goesK_name (p' := 0) hst (ahead_none (by decide)) rfl (by decide) (by decide) 1 rfl rfl (by kernel_rfl) (by kernel_rfl) (fun g => by kernel_rfl) rfl (fun g => by kernel_rfl) (fun g w => by kernel_rfl)) goes_nil))))))))))))))) ?_
   intro g W hW hK
   obtain ⟨A9, c9, h3, hr9⟩ := hK 1 _ rfl
   have hB3 := hB2.trans (hW.mono hB2.size)
   simp only at h3
   simp only [h3]
   generalize g 100 = v1
   clear hK le hst h3
   go_wp2_with fail
   go_ret
   rw [HX6.out.1] at hr9
   exact ⟨A9, c9, by rw [← HX6.out.2]; rfl, hr9, hB3⟩
end Go.Proofs.YtjlhhelikiegdaaGreatDoor
