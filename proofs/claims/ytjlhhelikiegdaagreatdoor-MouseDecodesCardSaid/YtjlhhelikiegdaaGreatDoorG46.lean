/-
  Stage 16: what the laws' walks look at: events compared, bytes as strings; the example that each statement asks. Layer 16, walked over the landed mouse: MouseTells. Layer 16, walked over the landed mouse: MouseDecodes.
-/
import Derived.Test.YtjlhhelikiegdaaGreatDoorG26
import Derived.Test.YtjlhhelikiegdaaGreatDoorG40
import Derived.Test.YtjlhhelikiegdaaGreatDoorG41
import Derived.Test.YtjlhhelikiegdaaGreatDoorG45
import Derived.Lib.SmallJoins
namespace Go.Proofs.YtjlhhelikiegdaaGreatDoor
open Go.RowKit
theorem str16 {w : World} {A : Option Addr} {L : List UInt8} {n c : Nat} (hn : L.length = n) (h : Rd w A (bs L)) : (convert 25 9 (.slice A n c)).run Tryz.prog w = .ok (.string ⟨L.toArray⟩) w :=
 conv_str (P := Tryz.prog) Tryz.underlying25 Tryz.underlying5 hn h _ Tryz.underlying9
def EncK (mode coding : Int) (e : Ms) (L : List UInt8) (n : Nat) (W0 : World) : Prop := ∀ W, Below W0.heap.size W0 W → Calls Tryz.prog 6 #[.int .i64 mode, .int .i64 coding, .agg #[.int .i64 e.btn, .int .i64 e.typ, .int .i64 e.x, .int .i64 e.y, .int .i64 e.mods]] W (OutR L n W)
theorem enc_k (mode coding : Int) (e : Ms) (hc : -9223372036854775808 ≤ coding ∧ coding ≤ 9223372036854775807) (L : List UInt8) (n : Nat) (hL : encM mode coding e = L) (hn : L.length = n) (w : World) (ht : Tab w) (hz : Siz w) : EncK mode coding e L n w := fun W hW => mencode_any mode coding e.btn e.typ e.x e.y e.mods hc L n hL hn W (ht.below hW) (hz.below' hW)
set_option maxRecDepth 100000 in
set_option maxHeartbeats 16000000 in
theorem mouAwake (w0 : World) (ht : Tab w0) (hz : Siz w0) : Calls Tryz.prog 5 #[] w0 fun e w' => e = .returned (.bool true) ∧ Below w0.heap.size w0 w' := by
 have H1 := Lib.hid (enc_k 1000 1006 ⟨1, 1, 1, 1, 0⟩ ⟨by decide, by decide⟩ [27, 91, 60, 48, 59, 49, 59, 49, 77] 9 (by decide +kernel) rfl w0 ht hz)
 have H2 := Lib.hid (enc_k 1000 0 ⟨1, 1, 1, 1, 0⟩ ⟨by decide, by decide⟩ [27, 91, 77, 32, 33, 33] 6 (by decide +kernel) rfl w0 ht hz)
 have HD : Hid (∀ A W, Below w0.heap.size w0 W → Rd W A (bs [27, 91, 60, 48, 59, 49, 59, 49, 77]) → Calls Tryz.prog 10 #[.slice A 9 9] W fun e w' => e = .returned (.tuple #[.agg #[.int .i64 1, .int .i64 1, .int .i64 1, .int .i64 1, .int .i64 0], .bool true]) ∧ Below W.heap.size W w') := Lib.hid fun A W hW hr => by
  have := mdecode_any A 9 9 [27, 91, 60, 48, 59, 49, 59, 49, 77] rfl (by decide) (by decide) W (ht.below hW) (hz.below' hW) hr
  rw [show decM [27, 91, 60, 48, 59, 49, 59, 49, 77] = (⟨1, 1, 1, 1, 0⟩, true) from by kernel_rfl] at this
  exact this
 have HC : Hid (∀ W, Calls Tryz.prog 8 #[.int .i64 1000, .agg #[.int .i64 4, .int .i64 1, .int .i64 1, .int .i64 1, .int .i64 4]] W (NumE 80 W)) := Lib.hid fun W => mcode_any 1000 4 1 1 1 4 80 (by decide +kernel) W
 clear ht hz
 have hB1 : Below w0.heap.size w0 (w0.alloc (.cells #[.int .i64 1, .int .i64 1, .int .i64 1, .int .i64 1, .int .i64 0] 23)) := (Below.refl _ w0).alloc (Nat.le_refl _) _
 have k1 := Blk.new w0 23 #[.int .i64 1, .int .i64 1, .int .i64 1, .int .i64 1, .int .i64 0]
 have hB2 := hB1.alloc hB1.size (.cells #[.int .u8 27, .int .u8 91, .int .u8 60, .int .u8 48, .int .u8 59, .int .u8 49, .int .u8 59, .int .u8 49, .int .u8 77] 5 (9, 10))
 have k2 := k1.alloc (.cells #[.int .u8 27, .int .u8 91, .int .u8 60, .int .u8 48, .int .u8 59, .int .u8 49, .int .u8 59, .int .u8 49, .int .u8 77] 5 (9, 10))
 have hr2 : Rd ((w0.alloc (.cells #[.int .i64 1, .int .i64 1, .int .i64 1, .int .i64 1, .int .i64 0] 23)).alloc (.cells #[.int .u8 27, .int .u8 91, .int .u8 60, .int .u8 48, .int .u8 59, .int .u8 49, .int .u8 59, .int .u8 49, .int .u8 77] 5 (9, 10))) (some ⟨(w0.alloc (.cells #[.int .i64 1, .int .i64 1, .int .i64 1, .int .i64 1, .int .i64 0] 23)).heap.size, 0, none⟩) (bs [27, 91, 60, 48, 59, 49, 59, 49, 77]) := Rd.block (heap_alloc_new (w0.alloc (.cells #[.int .i64 1, .int .i64 1, .int .i64 1, .int .i64 1, .int .i64 0] 23)) _) rfl
 rw [World.size_alloc] at hr2
 have hcv := Joins.run_convert_bytes_const_at (P := Tryz.prog) (w0.alloc (.cells #[.int .i64 1, .int .i64 1, .int .i64 1, .int .i64 1, .int .i64 0] 23)) 25 5 #[.int .u8 27, .int .u8 91, .int .u8 60, .int .u8 48, .int .u8 59, .int .u8 49, .int .u8 59, .int .u8 49, .int .u8 77] 9 9 (w0.heap.size + 1) (by simp) Tryz.underlying25 Tryz.underlying5
 go_enter Tryz.func5, Tryz.ntmps5
 go_wp2_with fail
 refine (HD.out _ _ hB2 hr2).mono ?_
 rintro e w3 ⟨rfl, hb3⟩
 have hB3 := hB2.trans (hb3.mono hB2.size)
 have k3 := k2.below hb3 k2.lt
 clear hb3 k2 k1 hr2 hB2 hB1
 have hB4 := hB3.alloc hB3.size (.cells #[.int .i64 1, .int .i64 1, .int .i64 1, .int .i64 1, .int .i64 0] 23)
 have d4 := Blk.new w3 23 #[.int .i64 1, .int .i64 1, .int .i64 1, .int .i64 1, .int .i64 0]
 have k4 := k3.alloc (.cells #[.int .i64 1, .int .i64 1, .int .i64 1, .int .i64 1, .int .i64 0] 23)
 obtain ⟨a0, a1, a2, a3, a4⟩ := Blk.cells5 k4
 go_wp2_with fail
 refine (H1.out _ hB4).mono ?_
 rintro e w5 ⟨A5, c5, rfl, _, hr5, hb5⟩
 have hB5 := hB4.trans (hb5.mono hB4.size)
 have k5 := k4.below hb5 k4.lt
 have d5 := d4.below hb5 d4.lt
 have s5 := str16 (n := 9) (c := c5) rfl hr5
 clear hb5 a0 a1 a2 a3 a4 k4 d4 hB4 k3 hB3
 obtain ⟨a0, a1, a2, a3, a4⟩ := Blk.cells5 k5
 go_wp2_with fail
 refine (H2.out _ hB5).mono ?_
 rintro e w6 ⟨A6, c6, rfl, _, hr6, hb6⟩
 have hB6 := hB5.trans (hb6.mono hB5.size)
 have k6 := k5.below hb6 k5.lt
 have d6 := d5.below hb6 d5.lt
 have s6 := str16 (n := 6) (c := c6) rfl hr6
 clear hb6 a0 a1 a2 a3 a4 k5 d5 hB5 s5 hr5
 obtain ⟨a0, a1, a2, a3, a4⟩ := Blk.cells5 k6
 obtain ⟨b0, b1, b2, b3, b4⟩ := Blk.cells5 d6
 go_wp2_with fail
 refine (HC.out _).mono ?_
 rintro e w7 ⟨rfl, hb7⟩
 go_wp2_with fail
 go_ret
 exact ⟨rfl, hB6.trans (hb7.mono hB6.size)⟩
theorem outR_b16 {L : List UInt8} {w : World} {f : FuncId} {args : Array Value} (h : Calls Tryz.prog f args w (OutR L L.length w)) : Calls Tryz.prog f args w fun e w' => ∃ v, e = .returned v ∧ FB L v w' ∧ Below w.heap.size w w' :=
 h.mono fun _ _ ⟨A, c, he, _, hr, hb⟩ => ⟨_, he, ⟨A, c, rfl, hr⟩, hb⟩
set_option maxRecDepth 100000 in
set_option maxHeartbeats 16000000 in
theorem mouseTells_walk (mode : Int) (_m0 : -9223372036854775808 ≤ mode) (_m1 : mode ≤ 9223372036854775807) (cod : Int) (c0 : -9223372036854775808 ≤ cod) (c1 : cod ≤ 9223372036854775807) (e : Ms) (w : World) (hi : Siz w ∧ Tab w) : Calls Tryz.prog 3 #[.int .i64 mode, .int .i64 cod, msV e] w fun e w' => e = .returned (.bool true) ∧ Below w.heap.size w w' := by
 obtain ⟨btn, typ, x, y, md⟩ := e
 unfold msV
 simp only
 have HT : Hid (∀ W, Below w.heap.size w W → Tab W) := Lib.hid fun W hW => hi.2.below hW
 have HS : Hid (∀ W, Below w.heap.size w W → Siz W) := Lib.hid fun W hW => hi.1.below' hW
 obtain ⟨L, hL⟩ : ∃ L, encM mode cod ⟨btn, typ, x, y, md⟩ = L := ⟨_, rfl⟩
 obtain ⟨C, hC⟩ : ∃ L, codeM mode ⟨btn, typ, x, y, md⟩ = L := ⟨_, rfl⟩
 have H1 := Lib.hid (enc_k mode cod ⟨btn, typ, x, y, md⟩ ⟨c0, c1⟩ L L.length hL rfl w hi.2 hi.1)
 have H2 : Hid (∀ W, Calls Tryz.prog 7 #[.int .i64 mode, .int .i64 cod, .agg #[.int .i64 btn, .int .i64 typ, .int .i64 x, .int .i64 y, .int .i64 md]] W (Out L W)) := Lib.hid fun W => rencode16_any mode cod btn typ x y md L hL W
 have H3 : Hid (∀ W, Calls Tryz.prog 8 #[.int .i64 mode, .agg #[.int .i64 btn, .int .i64 typ, .int .i64 x, .int .i64 y, .int .i64 md]] W (NumE C W)) := Lib.hid fun W => mcode_any mode btn typ x y md C hC W
 have H4 : Hid (∀ W, Calls Tryz.prog 9 #[.int .i64 mode, .agg #[.int .i64 btn, .int .i64 typ, .int .i64 x, .int .i64 y, .int .i64 md]] W fun e w' => e = .returned (.int .i64 C) ∧ Below W.heap.size W w') := Lib.hid fun W => rcode16_any mode btn typ x y md C hC W
 have k0 := Blk.new w 23 #[.int .i64 btn, .int .i64 typ, .int .i64 x, .int .i64 y, .int .i64 md]
 have HB0 : Below w.heap.size w (w.alloc (.cells #[.int .i64 btn, .int .i64 typ, .int .i64 x, .int .i64 y, .int .i64 md] 23)) := (Below.refl _ w).alloc (Nat.le_refl _) _
 clear hL hC hi c0 c1
 go_enter Tryz.func3, Tryz.ntmps3
 go_wp2_with fail
 refine (mouAwake _ (HT.out _ HB0) (HS.out _ HB0)).mono ?_
 rintro e w1 ⟨rfl, hb1⟩
 have hB1 := HB0.trans (hb1.mono HB0.size)
 have k1 := k0.below hb1 k0.lt
 clear hb1 HB0 k0
 have hst : ∀ f ∈ ([⟨5, 14, FB L⟩, ⟨10, 19, FB L⟩] : List Fact), f.ok := List.forall_mem_cons.2 ⟨fb_ok _ _ _, List.forall_mem_cons.2 ⟨fb_ok _ _ _, fun _ h => by cases h⟩⟩
 go_upto_region 2 with (fail)
 refine wp_region_told (w1 := w1) (K := [⟨5, 14, FB L⟩, ⟨10, 19, FB L⟩]) (ix := 1000) (R0 := fun _ _ _ => True) (R1 := fun _ _ _ => True) [14, 19] (⟨#[.int .i64 mode, .int .i64 cod, .agg #[.int .i64 btn, .int .i64 typ, .int .i64 x, .int .i64 y, .int .i64 md], undef, undef, .pointer (some ⟨w.heap.size, 0, none⟩), .bool true, .bool true, .bool true, .bool true, .bool true, .int .i64 mode, .int .i64 cod, .agg #[.int .i64 btn, .int .i64 typ, .int .i64 x, .int .i64 y, .int .i64 md], undef, .string ⟨L.toArray⟩, .int .i64 mode, .int .i64 cod, .agg #[.int .i64 btn, .int .i64 typ, .int .i64 x, .int .i64 y, .int .i64 md], undef, .string ⟨L.toArray⟩, .bool true, .bool true, .bool true, .int .i64 mode, .agg #[.int .i64 btn, .int .i64 typ, .int .i64 x, .int .i64 y, .int .i64 md], .int .i64 C, .int .i64 mode, .agg #[.int .i64 btn, .int .i64 typ, .int .i64 x, .int .i64 y, .int .i64 md], .int .i64 C, .bool true, .bool true], []⟩) (fun g => ⟨#[.int .i64 mode, .int .i64 cod, .agg #[.int .i64 btn, .int .i64 typ, .int .i64 x, .int .i64 y, .int .i64 md], undef, undef, .pointer (some ⟨w.heap.size, 0, none⟩), .bool true, .bool true, .bool true, .bool true, .bool true, .int .i64 mode, .int .i64 cod, .agg #[.int .i64 btn, .int .i64 typ, .int .i64 x, .int .i64 y, .int .i64 md], (g 14), .string ⟨L.toArray⟩, .int .i64 mode, .int .i64 cod, .agg #[.int .i64 btn, .int .i64 typ, .int .i64 x, .int .i64 y, .int .i64 md], (g 19), .string ⟨L.toArray⟩, .bool true, .bool true, .bool true, .int .i64 mode, .agg #[.int .i64 btn, .int .i64 typ, .int .i64 x, .int .i64 y, .int .i64 md], .int .i64 C, .int .i64 mode, .agg #[.int .i64 btn, .int .i64 typ, .int .i64 x, .int .i64 y, .int .i64 md], .int .i64 C, .bool true, .bool true], []⟩) [.bool true, .bool true, .int .i64 mode, .int .i64 cod, .agg #[.int .i64 btn, .int .i64 typ, .int .i64 x, .int .i64 y, .int .i64 md], undef, .string ⟨L.toArray⟩, .int .i64 mode, .int .i64 cod, .agg #[.int .i64 btn, .int .i64 typ, .int .i64 x, .int .i64 y, .int .i64 md], undef, .string ⟨L.toArray⟩, .bool true, .bool true, .bool true, .int .i64 mode, .agg #[.int .i64 btn, .int .i64 typ, .int .i64 x, .int .i64 y, .int .i64 md], .int .i64 C, .int .i64 mode, .agg #[.int .i64 btn, .int .i64 typ, .int .i64 x, .int .i64 y, .int .i64 md], .int .i64 C, .bool true, .bool true, .bool true] (by kernel_rfl) (by kernel_rfl) (by kernel_rfl) (fun g => by kernel_rfl) (by kernel_rfl) (Below.refl _ _).drew (by decide) (by kernel_rfl)
  (goes_cons (gkP (fun _ => .bool true))
  (goes_cons (gkP (fun _ => .bool true))
  (goes_cons (gkP (fun _ => .int .i64 mode))
  (goes_cons (gkP (fun _ => .int .i64 cod))
  (goes_cons (gkL hst (fun W hW => k1.below hW k1.lt) Tryz.underlying23)
  (goes_cons (gkG (fun g => #[.int .i64 mode, .int .i64 cod, .agg #[.int .i64 btn, .int .i64 typ, .int .i64 x, .int .i64 y, .int .i64 md]]) hst 0 (fun g W hW hin => outR_b16 (H1.out W (hB1.trans (hW.mono hB1.size)))))
  (goes_cons (goesK_str 0 rfl (by kernel_rfl) Tryz.underlying25 Tryz.underlying5 Tryz.underlying9 hst (ahead_none (by decide)) rfl (by decide) (by decide) (by kernel_rfl) (fun g => by kernel_rfl) rfl (fun g => by kernel_rfl) rfl (fun g => by kernel_rfl))
  (goes_cons (gkP (fun _ => .int .i64 mode))
  (goes_cons (gkP (fun _ => .int .i64 cod))
  (goes_cons (gkL hst (fun W hW => k1.below hW k1.lt) Tryz.underlying23)
  (goes_cons (gkG (fun g => #[.int .i64 mode, .int .i64 cod, .agg #[.int .i64 btn, .int .i64 typ, .int .i64 x, .int .i64 y, .int .i64 md]]) hst 1 (fun g W hW hin => fb_out (H2.out W)))
  (goes_cons (goesK_str 1 rfl (by kernel_rfl) Tryz.underlying25 Tryz.underlying5 Tryz.underlying9 hst (ahead_none (by decide)) rfl (by decide) (by decide) (by kernel_rfl) (fun g => by kernel_rfl) rfl (fun g => by kernel_rfl) rfl (fun g => by kernel_rfl))
  (goes_cons (goesK_bin (v := .bool true) (xv := .string ⟨L.toArray⟩) (yv := .string ⟨L.toArray⟩) rfl (by decide) (by decide) (by kernel_rfl) (fun g => by kernel_rfl) rfl (fun g => by kernel_rfl) rfl (fun g => by kernel_rfl) (fun g => by kernel_rfl) (fun w => by go_simp))
  (goes_cons (gkP (fun _ => .bool true))
  (goes_cons (gkP (fun _ => .bool true))
  (goes_cons (gkP (fun _ => .int .i64 mode))
  (goes_cons (gkL hst (fun W hW => k1.below hW k1.lt) Tryz.underlying23)
  (goes_cons (gkK (fun g => #[.int .i64 mode, .agg #[.int .i64 btn, .int .i64 typ, .int .i64 x, .int .i64 y, .int .i64 md]]) hst (fun g W hW hin => H3.out W))
  (goes_cons (gkP (fun _ => .int .i64 mode))
  (goes_cons (gkL hst (fun W hW => k1.below hW k1.lt) Tryz.underlying23)
  (goes_cons (gkK (fun g => #[.int .i64 mode, .agg #[.int .i64 btn, .int .i64 typ, .int .i64 x, .int .i64 y, .int .i64 md]]) hst (fun g W hW hin => H4.out W))
  (goes_cons (goesK_bin (v := .bool true) (xv := .int .i64 C) (yv := .int .i64 C) rfl (by decide) (by decide) (by kernel_rfl) (fun g => by kernel_rfl) rfl (fun g => by kernel_rfl) rfl (fun g => by kernel_rfl) (fun g => by kernel_rfl) (fun w => by go_simp))
  (goes_cons (gkP (fun _ => .bool true))
  (goes_cons (gkP (fun _ => .bool true)) goes_nil)))))))))))))))))))))))) ?_
 intro g W hW _
 have hB5 := hB1.trans (hW.mono hB1.size)
 generalize g 14 = v14
 generalize g 19 = v19
 clear hst
 go_wp2_with fail
 go_ret
 exact ⟨rfl, hB5⟩
set_option maxRecDepth 100000 in
set_option maxHeartbeats 16000000 in
theorem mouseDecodes_walk (A : Option Addr) (l : List UInt8) (c : Nat) (hlc : l.length ≤ c) (w : World) (hr : Rd w A (bs l)) (hi : Siz w ∧ Tab w) : Calls Tryz.prog 4 #[.slice A l.length c] w fun e w' => e = .returned (.bool true) ∧ Below w.heap.size w w' := by
 obtain ⟨n, hn⟩ : ∃ n, l.length = n := ⟨_, rfl⟩
 rw [hn] at hlc ⊢
 have HT : Hid (∀ W, Below w.heap.size w W → Tab W) := Lib.hid fun W hW => hi.2.below hW
 have HS : Hid (∀ W, Below w.heap.size w W → Siz W) := Lib.hid fun W hW => hi.1.below' hW
 by_cases h : 100 < n
 ·have h2 : (100 : Int) < (n : Int) := by omega
  go_enter Tryz.func4, Tryz.ntmps4
  go_wp2_with fail
  refine (mouAwake _ hi.2 hi.1).mono ?_
  rintro e w1 ⟨rfl, hb1⟩
  go_wp2_with fail
  go_ret
  exact ⟨rfl, hb1⟩
 have h2 : ¬ ((100 : Int) < (n : Int)) := by omega
 obtain ⟨⟨⟨gb, gt, gx, gy, gm⟩, q⟩, hd⟩ : ∃ x, decM l = x := ⟨_, rfl⟩
 have HD : Hid (∀ W, Below w.heap.size w W → Calls Tryz.prog 10 #[.slice A n c] W fun e w' => e = .returned (.tuple #[.agg #[.int .i64 gb, .int .i64 gt, .int .i64 gx, .int .i64 gy, .int .i64 gm], .bool q]) ∧ Below W.heap.size W w') := Lib.hid fun W hW => by
  have := mdecode_any A n c l hn hlc (by omega) W (HT.out W hW) (HS.out W hW) (hr.below hW)
  rw [hd] at this
  exact this
 have HE : Hid (∀ W, Below w.heap.size w W → Calls Tryz.prog 11 #[.slice A n c] W fun e w' => e = .returned (.tuple #[.agg #[.int .i64 gb, .int .i64 gt, .int .i64 gx, .int .i64 gy, .int .i64 gm], .bool q]) ∧ Below W.heap.size W w') := Lib.hid fun W hW => by
  have := rdecode16_any A n c l hn hlc (by omega) W (hr.below hW)
  rw [hd] at this
  exact this
 clear hd h hn hr
 go_enter Tryz.func4, Tryz.ntmps4
 go_wp2_with fail
 refine (mouAwake _ hi.2 hi.1).mono ?_
 rintro e w1 ⟨rfl, hb1⟩
 go_wp2_with fail
 refine (HD.out _ hb1).mono ?_
 rintro e w2 ⟨rfl, hb2⟩
 have hB2 := hb1.trans (hb2.mono hb1.size)
 clear hb1 hb2
 have k3 := Blk.new w2 23 #[.int .i64 gb, .int .i64 gt, .int .i64 gx, .int .i64 gy, .int .i64 gm]
 have hB3 := hB2.alloc hB2.size (.cells #[.int .i64 gb, .int .i64 gt, .int .i64 gx, .int .i64 gy, .int .i64 gm] 23)
 go_wp2_with fail
 refine (HE.out _ hB3).mono ?_
 rintro e w4 ⟨rfl, hb4⟩
 have hB4 := hB3.trans (hb4.mono hB3.size)
 have k4 := k3.below hb4 k3.lt
 clear hb4 k3 hB3
 have k5 := k4.alloc (.cells #[.int .i64 gb, .int .i64 gt, .int .i64 gx, .int .i64 gy, .int .i64 gm] 23)
 have m5 := Blk.new w4 23 #[.int .i64 gb, .int .i64 gt, .int .i64 gx, .int .i64 gy, .int .i64 gm]
 have hB5 := hB4.alloc hB4.size (.cells #[.int .i64 gb, .int .i64 gt, .int .i64 gx, .int .i64 gy, .int .i64 gm] 23)
 obtain ⟨a0, a1, a2, a3, a4⟩ := Blk.cells5 k5
 obtain ⟨b0, b1, b2, b3, b4⟩ := Blk.cells5 m5
 cases q with
 | true =>
   go_wp2_with fail
   go_ret
   exact ⟨rfl, hB5⟩
 | false =>
   go_wp2_with fail
   go_ret
   exact ⟨rfl, hB5⟩
end Go.Proofs.YtjlhhelikiegdaaGreatDoor
