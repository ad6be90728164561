/-
  Stage 16: what the laws' walks look at: events compared, bytes as strings; the example that each statement asks. Layer 16, walked over the landed mouse: MouseOld.
-/
import Derived.Test.YtjlhhelikiegdaaDoorG15
import Derived.Test.YtjlhhelikiegdaaDoorG34
import Derived.Test.YtjlhhelikiegdaaDoorG42
import Derived.Lib.SmallJoins
namespace Go.Proofs.YtjlhhelikiegdaaDoor
open Go.RowKit
theorem ms_same (b0 b1 b2 b3 b4 : Int) (x y : Operand) (w : World) : (do eqGuard .eql 23 x y (.agg #[.int .i64 b0, .int .i64 b1, .int .i64 b2, .int .i64 b3, .int .i64 b4]) (.agg #[.int .i64 b0, .int .i64 b1, .int .i64 b2, .int .i64 b3, .int .i64 b4]); binOp .eql 23 (.agg #[.int .i64 b0, .int .i64 b1, .int .i64 b2, .int .i64 b3, .int .i64 b4]) (.agg #[.int .i64 b0, .int .i64 b1, .int .i64 b2, .int .i64 b3, .int .i64 b4]) : Sem Value).run Tryd.prog w = .ok (.bool true) w := by
 go_simp
theorem ms_diff (b0 b1 b2 b3 b4 c0 c1 c2 c3 c4 : Int) (h : ¬ (b0 = c0 ∧ b1 = c1 ∧ b2 = c2 ∧ b3 = c3 ∧ b4 = c4)) (x y : Operand) (w : World) : (do eqGuard .eql 23 x y (.agg #[.int .i64 b0, .int .i64 b1, .int .i64 b2, .int .i64 b3, .int .i64 b4]) (.agg #[.int .i64 c0, .int .i64 c1, .int .i64 c2, .int .i64 c3, .int .i64 c4]); binOp .eql 23 (.agg #[.int .i64 b0, .int .i64 b1, .int .i64 b2, .int .i64 b3, .int .i64 b4]) (.agg #[.int .i64 c0, .int .i64 c1, .int .i64 c2, .int .i64 c3, .int .i64 c4]) : Sem Value).run Tryd.prog w = .ok (.bool false) w := by
 by_cases h0 : b0 = c0
 ·by_cases h1 : b1 = c1
  ·by_cases h2 : b2 = c2
   ·by_cases h3 : b3 = c3
    ·by_cases h4 : b4 = c4
     ·exact absurd ⟨h0, h1, h2, h3, h4⟩ h
     ·subst h0 h1 h2 h3
      clear h
      have t : (b4 == c4) = false := beq_false_of_ne h4
      go_simp
    ·subst h0 h1 h2
     clear h
     have t : (b3 == c3) = false := beq_false_of_ne h3
     go_simp
   ·subst h0 h1
    clear h
    have t : (b2 == c2) = false := beq_false_of_ne h2
    go_simp
  ·subst h0
   clear h
   have t : (b1 == c1) = false := beq_false_of_ne h1
   go_simp
 ·clear h
  have t : (b0 == c0) = false := beq_false_of_ne h0
  go_simp
theorem str16 {w : World} {A : Option Addr} {L : List UInt8} {n c : Nat} (hn : L.length = n) (h : Rd w A (bs L)) : (convert 26 9 (.slice A n c)).run Tryd.prog w = .ok (.string ⟨L.toArray⟩) w :=
 conv_str (P := Tryd.prog) Tryd.underlying26 Tryd.underlying5 hn h _ Tryd.underlying9
def EncK (mode coding : Int) (e : Ms) (L : List UInt8) (n : Nat) (W0 : World) : Prop := ∀ W, Below W0.heap.size W0 W → Calls Tryd.prog 9 #[.int .i64 mode, .int .i64 coding, .agg #[.int .i64 e.btn, .int .i64 e.typ, .int .i64 e.x, .int .i64 e.y, .int .i64 e.mods]] W (OutR L n W)
theorem enc_k (mode coding : Int) (e : Ms) (hc : -9223372036854775808 ≤ coding ∧ coding ≤ 9223372036854775807) (L : List UInt8) (n : Nat) (hL : encM mode coding e = L) (hn : L.length = n) (w : World) (ht : Tab w) (hz : Siz w) : EncK mode coding e L n w := fun W hW => mencode_any mode coding e.btn e.typ e.x e.y e.mods hc L n hL hn W (ht.below hW) (hz.below' hW)
set_option maxRecDepth 100000 in
set_option maxHeartbeats 16000000 in
theorem mouAwake (w0 : World) (ht : Tab w0) (hz : Siz w0) : Calls Tryd.prog 7 #[] w0 fun e w' => e = .returned (.bool true) ∧ Below w0.heap.size w0 w' := by
 have H1 := Lib.hid (enc_k 1000 1006 ⟨1, 1, 1, 1, 0⟩ ⟨by decide, by decide⟩ [27, 91, 60, 48, 59, 49, 59, 49, 77] 9 (by decide +kernel) rfl w0 ht hz)
 have H2 := Lib.hid (enc_k 1000 0 ⟨1, 1, 1, 1, 0⟩ ⟨by decide, by decide⟩ [27, 91, 77, 32, 33, 33] 6 (by decide +kernel) rfl w0 ht hz)
 have HD : Hid (∀ A W, Below w0.heap.size w0 W → Rd W A (bs [27, 91, 60, 48, 59, 49, 59, 49, 77]) → Calls Tryd.prog 10 #[.slice A 9 9] W fun e w' => e = .returned (.tuple #[.agg #[.int .i64 1, .int .i64 1, .int .i64 1, .int .i64 1, .int .i64 0], .bool true]) ∧ Below W.heap.size W w') := Lib.hid fun A W hW hr => by
  have := mdecode_any A 9 9 [27, 91, 60, 48, 59, 49, 59, 49, 77] rfl (by decide) (by decide) W (ht.below hW) (hz.below' hW) hr
  rw [show decM [27, 91, 60, 48, 59, 49, 59, 49, 77] = (⟨1, 1, 1, 1, 0⟩, true) from by kernel_rfl] at this
  exact this
 have HC : Hid (∀ W, Calls Tryd.prog 11 #[.int .i64 1000, .agg #[.int .i64 4, .int .i64 1, .int .i64 1, .int .i64 1, .int .i64 4]] W (NumE 80 W)) := Lib.hid fun W => mcode_any 1000 4 1 1 1 4 80 (by decide +kernel) W
 clear ht hz
 have hB1 : Below w0.heap.size w0 (w0.alloc (.cells #[.int .i64 1, .int .i64 1, .int .i64 1, .int .i64 1, .int .i64 0] 23)) := (Below.refl _ w0).alloc (Nat.le_refl _) _
 have k1 := Blk.new w0 23 #[.int .i64 1, .int .i64 1, .int .i64 1, .int .i64 1, .int .i64 0]
 have hB2 := hB1.alloc hB1.size (.cells #[.int .u8 27, .int .u8 91, .int .u8 60, .int .u8 48, .int .u8 59, .int .u8 49, .int .u8 59, .int .u8 49, .int .u8 77] 5 (9, 10))
 have k2 := k1.alloc (.cells #[.int .u8 27, .int .u8 91, .int .u8 60, .int .u8 48, .int .u8 59, .int .u8 49, .int .u8 59, .int .u8 49, .int .u8 77] 5 (9, 10))
 have hr2 : Rd ((w0.alloc (.cells #[.int .i64 1, .int .i64 1, .int .i64 1, .int .i64 1, .int .i64 0] 23)).alloc (.cells #[.int .u8 27, .int .u8 91, .int .u8 60, .int .u8 48, .int .u8 59, .int .u8 49, .int .u8 59, .int .u8 49, .int .u8 77] 5 (9, 10))) (some ⟨(w0.alloc (.cells #[.int .i64 1, .int .i64 1, .int .i64 1, .int .i64 1, .int .i64 0] 23)).heap.size, 0, none⟩) (bs [27, 91, 60, 48, 59, 49, 59, 49, 77]) := Rd.block (heap_alloc_new (w0.alloc (.cells #[.int .i64 1, .int .i64 1, .int .i64 1, .int .i64 1, .int .i64 0] 23)) _) rfl
 rw [World.size_alloc] at hr2
 have hcv := Joins.run_convert_bytes_const_at (P := Tryd.prog) (w0.alloc (.cells #[.int .i64 1, .int .i64 1, .int .i64 1, .int .i64 1, .int .i64 0] 23)) 26 5 #[.int .u8 27, .int .u8 91, .int .u8 60, .int .u8 48, .int .u8 59, .int .u8 49, .int .u8 59, .int .u8 49, .int .u8 77] 9 9 (w0.heap.size + 1) (by simp) Tryd.underlying26 Tryd.underlying5
 go_enter Tryd.func7, Tryd.ntmps7
 go_wp2_with fail
 refine (HD.out _ _ hB2 hr2).mono ?_
 rintro e w3 ⟨rfl, hb3⟩
 have hB3 := hB2.trans (hb3.mono hB2.size)
 have k3 := k2.below hb3 k2.lt
 clear hb3 k2 k1 hr2 hB2 hB1
 have hB4 := hB3.alloc hB3.size (.cells #[.int .i64 1, .int .i64 1, .int .i64 1, .int .i64 1, .int .i64 0] 23)
 have d4 := Blk.new w3 23 #[.int .i64 1, .int .i64 1, .int .i64 1, .int .i64 1, .int .i64 0]
 have k4 := k3.alloc (.cells #[.int .i64 1, .int .i64 1, .int .i64 1, .int .i64 1, .int .i64 0] 23)
 obtain ⟨a0, a1, a2, a3, a4⟩ := Blk.cells5 k4
 go_wp2_with fail
 refine (H1.out _ hB4).mono ?_
 rintro e w5 ⟨A5, c5, rfl, _, hr5, hb5⟩
 have hB5 := hB4.trans (hb5.mono hB4.size)
 have k5 := k4.below hb5 k4.lt
 have d5 := d4.below hb5 d4.lt
 have s5 := str16 (n := 9) (c := c5) rfl hr5
 clear hb5 a0 a1 a2 a3 a4 k4 d4 hB4 k3 hB3
 obtain ⟨a0, a1, a2, a3, a4⟩ := Blk.cells5 k5
 go_wp2_with fail
 refine (H2.out _ hB5).mono ?_
 rintro e w6 ⟨A6, c6, rfl, _, hr6, hb6⟩
 have hB6 := hB5.trans (hb6.mono hB5.size)
 have k6 := k5.below hb6 k5.lt
 have d6 := d5.below hb6 d5.lt
 have s6 := str16 (n := 6) (c := c6) rfl hr6
 clear hb6 a0 a1 a2 a3 a4 k5 d5 hB5 s5 hr5
 obtain ⟨a0, a1, a2, a3, a4⟩ := Blk.cells5 k6
 obtain ⟨b0, b1, b2, b3, b4⟩ := Blk.cells5 d6
 go_wp2_with fail
 refine (HC.out _).mono ?_
 rintro e w7 ⟨rfl, hb7⟩
 go_wp2_with fail
 go_ret
 exact ⟨rfl, hB6.trans (hb7.mono hB6.size)⟩
theorem outR_b {L : List UInt8} {w : World} {f : FuncId} {args : Array Value} (h : Calls Tryd.prog f args w (OutR L L.length w)) : Calls Tryd.prog f args w fun e w' => ∃ v, e = .returned v ∧ FB L v w' ∧ Below w.heap.size w w' :=
 h.mono fun _ _ ⟨A, c, he, _, hr, hb⟩ => ⟨_, he, ⟨A, c, rfl, hr⟩, hb⟩
set_option maxRecDepth 100000 in
set_option maxHeartbeats 16000000 in
theorem mouseOld_walk (e : Ms) (cod : Int) (c0 : -9223372036854775808 ≤ cod) (c1 : cod ≤ 9223372036854775807) (n : Int) (n0 : 0 ≤ n) (n1 : n ≤ 255) (w : World) (hi : Siz w ∧ Tab w) : Calls Tryd.prog 6 #[msV e, .int .i64 cod, .int .u8 n] w fun e w' => e = .returned (.bool true) ∧ Below w.heap.size w w' := by
 obtain ⟨btn, typ, x, y, md⟩ := e
 unfold msV
 simp only
 obtain ⟨p, hp⟩ : ∃ p, mayT ⟨btn, typ, x, y, md⟩ = p := ⟨_, rfl⟩
 have HT : Hid (∀ W, Below w.heap.size w W → Tab W) := Lib.hid fun W hW => hi.2.below hW
 have HS : Hid (∀ W, Below w.heap.size w W → Siz W) := Lib.hid fun W hW => hi.1.below' hW
 have HM : Hid (∀ W, Calls Tryd.prog 8 #[.agg #[.int .i64 btn, .int .i64 typ, .int .i64 x, .int .i64 y, .int .i64 md]] W fun e w' => e = .returned (.bool p) ∧ Below W.heap.size W w') := Lib.hid fun W => by
  have := rmay15_any ⟨btn, typ, x, y, md⟩ W
  rw [hp] at this
  exact this
 have k0 := Blk.new w 23 #[.int .i64 btn, .int .i64 typ, .int .i64 x, .int .i64 y, .int .i64 md]
 have HB0 : Below w.heap.size w (w.alloc (.cells #[.int .i64 btn, .int .i64 typ, .int .i64 x, .int .i64 y, .int .i64 md] 23)) := (Below.refl _ w).alloc (Nat.le_refl _) _
 cases p with
 | false =>
   clear hp
   go_enter Tryd.func6, Tryd.ntmps6
   go_wp2_with fail
   refine (mouAwake _ (HT.out _ HB0) (HS.out _ HB0)).mono ?_
   rintro e w1 ⟨rfl, hb1⟩
   have hB1 := HB0.trans (hb1.mono HB0.size)
   obtain ⟨a0, a1, a2, a3, a4⟩ := Blk.cells5 (k0.below hb1 k0.lt)
   go_wp2_with fail
   refine (HM.out _).mono ?_
   rintro e w2 ⟨rfl, hb2⟩
   go_wp2_with fail
   go_ret
   exact ⟨rfl, hB1.trans (hb2.mono hB1.size)⟩
 | true =>
   obtain ⟨L, hL⟩ : ∃ L, encM 9 cod ⟨btn, typ, x, y, md⟩ = L := ⟨_, rfl⟩
   have H1 := Lib.hid (enc_k 9 cod ⟨btn, typ, x, y, md⟩ ⟨c0, c1⟩ L L.length hL rfl w hi.2 hi.1)
   have H2 := Lib.hid (enc_k 9 cod ⟨btn, typ, x, y, n⟩ ⟨c0, c1⟩ L L.length ((mou_old cod hp n0 n1).symm.trans hL) rfl w hi.2 hi.1)
   have hwn : IntKind.i64.wrap n = n := by rw [IntKind.wrap_i64]; omega
   clear hp hL hi c0 c1
   go_enter Tryd.func6, Tryd.ntmps6
   go_wp2_with fail
   refine (mouAwake _ (HT.out _ HB0) (HS.out _ HB0)).mono ?_
   rintro e w1 ⟨rfl, hb1⟩
   have hB1 := HB0.trans (hb1.mono HB0.size)
   have k1 := k0.below hb1 k0.lt
   clear hb1 HB0 k0
   obtain ⟨a0, a1, a2, a3, a4⟩ := Blk.cells5 k1
   go_wp2_with fail
   refine (HM.out _).mono ?_
   rintro e w2 ⟨rfl, hb2⟩
   have hB2 := hB1.trans (hb2.mono hB1.size)
   have k2 := k1.below hb2 k1.lt
   clear hb2 hB1 k1 HM a0 a1 a2 a3 a4
   obtain ⟨a0, a1, a2, a3, a4⟩ := Blk.cells5 k2
   go_wp2_with fail
   refine (H1.out _ hB2).mono ?_
   rintro e w3 ⟨A, c, rfl, hc, hr3, hb3⟩
   have hB3 := hB2.trans (hb3.mono hB2.size)
   have k3 := k2.below hb3 k2.lt
   clear hb3 hB2 k2 a0 a1 a2 a3 a4 H1
   obtain ⟨a0, a1, a2, a3, a4⟩ := Blk.cells5 k3
   have z4 := k3.frozen 4
   have hr3' := ((hr3.off_key k3 rfl).fr (Fr.setCell w3 w.heap.size 4 (.int .i64 n) (fun k => k = w.heap.size) rfl) (Wid.refl _ _)).rd
   replace k3 := k3.set 4 (.int .i64 n)
   have hB4 := hB3.setCell (p := ⟨w.heap.size, 4, none⟩) (Nat.le_refl _) (.int .i64 n)
   obtain ⟨w4, hw4⟩ : ∃ W, w3.setCell ⟨w.heap.size, 4, none⟩ (.int .i64 n) = W := ⟨_, rfl⟩
   rw [hw4] at k3 hB4 hr3'
   clear hr3
   have hr3 := hr3'
   clear hr3'
   have hst : ∀ f ∈ ([⟨6, 26, FB L⟩] : List Fact), f.ok := List.forall_mem_cons.2 ⟨fb_ok _ _ _, fun _ h => by cases h⟩
   go_upto_region 6 with (fail)
   try rw [hw4]
   clear hw4
   refine wp_region_told (w1 := w4) (K := [⟨6, 26, FB L⟩]) (ix := 1000) (R0 := fun _ _ _ => True) (R1 := fun _ _ _ => True) [26] (⟨#[.agg #[.int .i64 btn, .int .i64 typ, .int .i64 x, .int .i64 y, .int .i64 md], .int .i64 cod, .int .u8 n, .pointer (some ⟨w.heap.size, 0, none⟩), undef, undef, .bool true, .bool true, .slice A L.length c, .bool true, .agg #[.int .i64 btn, .int .i64 typ, .int .i64 x, .int .i64 y, .int .i64 md], .bool true, .bool false, undef, .int .i64 cod, .agg #[.int .i64 btn, .int .i64 typ, .int .i64 x, .int .i64 y, .int .i64 md], .slice A L.length c, .int .u8 n, .int .i64 n, .pointer (some ⟨w.heap.size, 4, none⟩), .bool true, .bool true, .slice A L.length c, .string ⟨L.toArray⟩, .int .i64 cod, .agg #[.int .i64 btn, .int .i64 typ, .int .i64 x, .int .i64 y, .int .i64 n], undef, .string ⟨L.toArray⟩, .bool true, .bool true], []⟩) (fun g => ⟨#[.agg #[.int .i64 btn, .int .i64 typ, .int .i64 x, .int .i64 y, .int .i64 md], .int .i64 cod, .int .u8 n, .pointer (some ⟨w.heap.size, 0, none⟩), undef, undef, .bool true, .bool true, .slice A L.length c, .bool true, .agg #[.int .i64 btn, .int .i64 typ, .int .i64 x, .int .i64 y, .int .i64 md], .bool true, .bool false, undef, .int .i64 cod, .agg #[.int .i64 btn, .int .i64 typ, .int .i64 x, .int .i64 y, .int .i64 md], .slice A L.length c, .int .u8 n, .int .i64 n, .pointer (some ⟨w.heap.size, 4, none⟩), .bool true, .bool true, .slice A L.length c, .string ⟨L.toArray⟩, .int .i64 cod, .agg #[.int .i64 btn, .int .i64 typ, .int .i64 x, .int .i64 y, .int .i64 n], (g 26), .string ⟨L.toArray⟩, .bool true, .bool true], []⟩) [.bool true, .bool true, .slice A L.length c, .string ⟨L.toArray⟩, .int .i64 cod, .agg #[.int .i64 btn, .int .i64 typ, .int .i64 x, .int .i64 y, .int .i64 n], undef, .string ⟨L.toArray⟩, .bool true, .bool true, .bool true] (by kernel_rfl) (by kernel_rfl) (by kernel_rfl) (fun g => by kernel_rfl) (by kernel_rfl) (Below.refl _ _).drew (by decide) (by kernel_rfl)
    (goes_cons (gkP (fun _ => .bool true))
    (goes_cons (gkP (fun _ => .bool true))
    (goes_cons (gkP (fun _ => .slice A L.length c))
    (goes_cons (goesK_conv (c := c) rfl (fun W hW => hr3.below hW) Tryd.underlying26 Tryd.underlying5 Tryd.underlying9 hst (ahead_none (by decide)) rfl (by decide) (by decide) (by kernel_rfl) (fun g => by kernel_rfl) rfl (fun g => by kernel_rfl) rfl (fun g => by kernel_rfl))
    (goes_cons (gkP (fun _ => .int .i64 cod))
    (goes_cons (gkL hst (fun W hW => k3.below hW k3.lt) Tryd.underlying23)
    (goes_cons (gkG (fun g => #[.int .i64 9, .int .i64 cod, .agg #[.int .i64 btn, .int .i64 typ, .int .i64 x, .int .i64 y, .int .i64 n]]) hst 0 (fun g W hW hin => outR_b (H2.out W (hB4.trans (hW.mono hB4.size)))))
    (goes_cons (goesK_str 0 rfl (by kernel_rfl) Tryd.underlying26 Tryd.underlying5 Tryd.underlying9 hst (ahead_none (by decide)) rfl (by decide) (by decide) (by kernel_rfl) (fun g => by kernel_rfl) rfl (fun g => by kernel_rfl) rfl (fun g => by kernel_rfl))
    (goes_cons (goesK_bin (v := .bool true) (xv := .string ⟨L.toArray⟩) (yv := .string ⟨L.toArray⟩) rfl (by decide) (by decide) (by kernel_rfl) (fun g => by kernel_rfl) rfl (fun g => by kernel_rfl) rfl (fun g => by kernel_rfl) (fun g => by kernel_rfl) (fun w => by go_simp))
    (goes_cons (gkP (fun _ => .bool true))
    (goes_cons (gkP (fun _ => .bool true)) goes_nil))))))))))) ?_
   intro g W hW hK
   have hB5 := hB4.trans (hW.mono hB4.size)
   generalize g 26 = v26
   clear hK hst
   go_wp2_with fail
   go_ret
   exact ⟨rfl, hB5⟩
end Go.Proofs.YtjlhhelikiegdaaDoor
