/-
  Layer 9: the walk of KeysPad.
-/
import Derived.Test.YtkicenpcklknnaaDoorKeyH
namespace Go.Proofs.YtkicenpcklknnaaDoor
open Go.RowKit

def Moves (e : En) : Prop := (e = ⟨3, e.fin, 0, 0, true⟩ ∧ (findE e.fin 0).2 = true ∧ lookE (findE e.fin 0).1 = ⟨3, e.fin, 0, 0, false⟩) ∨ (e = ⟨4, 0, e.num, 0, true⟩ ∧ (findE 126 e.num).2 = true ∧ lookE (findE 126 e.num).1 = ⟨4, 0, e.num, 0, false⟩)
instance (e : En) : Decidable (Moves e) := by unfold Moves; infer_instance
theorem moves_fin : ∀ k : Fin 10, Moves (lookE (57417 + (k.1 : Int))) := by decide +kernel
def Chars (e : En) : Prop := e = ⟨5, e.fin, 0, e.char, true⟩ ∧ (97 ≤ e.fin ∧ e.fin ≤ 122 ∨ 65 ≤ e.fin ∧ e.fin ≤ 90) ∧ (e.char = 13 ∨ lookE e.char = ⟨1, 0, 0, 0, false⟩ ∧ (e.char == 13) = false) ∧ 0 ≤ e.char ∧ e.char ≤ 255
instance (e : En) : Decidable (Chars e) := by unfold Chars; infer_instance
theorem chars_fin : ∀ k : Fin 18, Chars (lookE (57399 + (k.1 : Int))) := by decide +kernel
section
variable {Inv : World → Prop}
set_option maxRecDepth 100000 in
set_option maxHeartbeats 32000000 in
theorem pad_000 (H : KeysC Inv) (t p q x y b G F C : Int) (g1 : 97 ≤ G) (g2 : G ≤ 122) (_cn : (C == 13) = false) (_t0 : 0 ≤ t) (_t1 : t ≤ 255) (hp : Int.tmod t 10 = p) (hq : Int.tmod t 18 = q) (p0 : 0 ≤ p) (p1 : p < 10) (q0 : 0 ≤ q) (q1 : q < 18) (hx : 57417 + p = x) (hy : 57399 + q = y) (w : World) (hv : Inv w)
    (H1 : Hid (∀ W, Inv W → Calls Tryd.prog 10 #[.int .i64 x] W fun e w' => e = .returned (.agg #[.int .i64 3, .int .u8 F, .int .i64 0, .int .i64 0, .bool true]) ∧ Below W.heap.size W w'))
    (HF : Hid (∀ W, Inv W → Calls Tryd.prog 13 #[.int .u8 F, .int .i64 0] W fun e w' => e = .returned (.tuple #[.int .i64 b, .bool true]) ∧ Below W.heap.size W w'))
    (H2 : Hid (∀ W, Inv W → Calls Tryd.prog 10 #[.int .i64 b] W fun e w' => e = .returned (.agg #[.int .i64 3, .int .u8 F, .int .i64 0, .int .i64 0, .bool false]) ∧ Below W.heap.size W w'))
    (H3 : Hid (∀ W, Inv W → Calls Tryd.prog 10 #[.int .i64 y] W fun e w' => e = .returned (.agg #[.int .i64 5, .int .u8 G, .int .i64 0, .int .i64 C, .bool true]) ∧ Below W.heap.size W w'))
    (H4 : Hid (∀ W, Inv W → Calls Tryd.prog 10 #[.int .i64 C] W fun e w' => e = .returned (.agg #[.int .i64 1, .int .u8 0, .int .i64 0, .int .i64 0, .bool false]) ∧ Below W.heap.size W w')) :
    Calls Tryd.prog 8 #[.int .u8 t] w fun e w' => e = .returned (.bool true) ∧ Below w.heap.size w w' := by
  have ha := keysAwake H _ hv
  have fk := field9_kind
  have k1 : IntKind.u8.wrap p = p := by rw [IntKind.wrap_u8]; omega
  have k2 : IntKind.u8.wrap q = q := by rw [IntKind.wrap_u8]; omega
  have k3 : IntKind.i64.wrap p = p := by rw [IntKind.wrap_i64]; go_num
  have k4 : IntKind.i64.wrap q = q := by rw [IntKind.wrap_i64]; go_num
  have k5 : IntKind.i64.wrap (57417 + p) = x := by rw [IntKind.wrap_i64, hx]; go_num
  have k6 : IntKind.i64.wrap (57399 + q) = y := by rw [IntKind.wrap_i64, hy]; go_num
  go_enter Tryd.func8, Tryd.ntmps8
  go_wp2_with fail
  refine ha.mono ?_
  rintro e w1 ⟨rfl, hb1⟩
  go_wp2_with fail
  refine (H1.out _ (H.invB hv hb1)).mono ?_
  rintro e w2 ⟨rfl, hb2⟩
  have hbx := (below_step9 hb1 hb2 hb1.size).alloc (below_step9 hb1 hb2 hb1.size).size (.cells #[.int .i64 3, .int .u8 F, .int .i64 0, .int .i64 0, .bool true] 24)
  have a0 := Blk.new w2 24 #[.int .i64 3, .int .u8 F, .int .i64 0, .int .i64 0, .bool true]
  go_wp2_with fail
  refine (HF.out _ (H.invB hv hbx)).mono ?_
  rintro e w3 ⟨rfl, hb3⟩
  have hb3' := below_step9 hbx hb3 hbx.size
  have a1 := a0.below hb3 a0.lt
  go_wp2_with fail
  refine (H2.out _ (H.invB hv hb3')).mono ?_
  rintro e w4 ⟨rfl, hb4⟩
  have hb4' := (below_step9 hb3' hb4 hb3'.size).alloc (below_step9 hb3' hb4 hb3'.size).size (.cells #[.int .i64 3, .int .u8 F, .int .i64 0, .int .i64 0, .bool false] 24)
  have a2 := (a1.below hb4 a1.lt).alloc (.cells #[.int .i64 3, .int .u8 F, .int .i64 0, .int .i64 0, .bool false] 24)
  have c2 := Blk.new w4 24 #[.int .i64 3, .int .u8 F, .int .i64 0, .int .i64 0, .bool false]
  go_wp2_with fail
  refine (H3.out _ (H.invB hv hb4')).mono ?_
  rintro e w5 ⟨rfl, hb5⟩
  have hb5' := (below_step9 hb4' hb5 hb4'.size).alloc (below_step9 hb4' hb5 hb4'.size).size (.cells #[.int .i64 5, .int .u8 G, .int .i64 0, .int .i64 C, .bool true] 24)
  have a3 := (a2.below hb5 a2.lt).alloc (.cells #[.int .i64 5, .int .u8 G, .int .i64 0, .int .i64 C, .bool true] 24)
  have c3 := (c2.below hb5 c2.lt).alloc (.cells #[.int .i64 5, .int .u8 G, .int .i64 0, .int .i64 C, .bool true] 24)
  have u0 := a3.cell 0
  have u1 := a3.cell 1
  have u2 := a3.cell 2
  have u4 := a3.cell 4
  have v0 := c3.cell 0
  have v1 := c3.cell 1
  have v2 := c3.cell 2
  have v4 := c3.cell 4
  have e3 := Blk.new w5 24 #[.int .i64 5, .int .u8 G, .int .i64 0, .int .i64 C, .bool true]
  clear a0 a1 a2 c2 ha
  go_wp2_with fail
  refine (H4.out _ (H.invB hv hb5')).mono ?_
  rintro e w6 ⟨rfl, hb6⟩
  have hb6' := below_step9 hb5' hb6 hb5'.size
  have e4 := e3.below hb6 e3.lt
  have r3 := e4.cell 3
  clear u0 u1 u2 u4 v0 v1 v2 v4 a3 c3 e3
  go_wp2_with fail
  go_ret
  exact ⟨rfl, hb6'⟩
set_option maxRecDepth 100000 in
set_option maxHeartbeats 32000000 in
theorem pad_001 (H : KeysC Inv) (t p q x y b G F : Int) (g1 : 97 ≤ G) (g2 : G ≤ 122) (_t0 : 0 ≤ t) (_t1 : t ≤ 255) (hp : Int.tmod t 10 = p) (hq : Int.tmod t 18 = q) (p0 : 0 ≤ p) (p1 : p < 10) (q0 : 0 ≤ q) (q1 : q < 18) (hx : 57417 + p = x) (hy : 57399 + q = y) (w : World) (hv : Inv w)
    (H1 : Hid (∀ W, Inv W → Calls Tryd.prog 10 #[.int .i64 x] W fun e w' => e = .returned (.agg #[.int .i64 3, .int .u8 F, .int .i64 0, .int .i64 0, .bool true]) ∧ Below W.heap.size W w'))
    (HF : Hid (∀ W, Inv W → Calls Tryd.prog 13 #[.int .u8 F, .int .i64 0] W fun e w' => e = .returned (.tuple #[.int .i64 b, .bool true]) ∧ Below W.heap.size W w'))
    (H2 : Hid (∀ W, Inv W → Calls Tryd.prog 10 #[.int .i64 b] W fun e w' => e = .returned (.agg #[.int .i64 3, .int .u8 F, .int .i64 0, .int .i64 0, .bool false]) ∧ Below W.heap.size W w'))
    (H3 : Hid (∀ W, Inv W → Calls Tryd.prog 10 #[.int .i64 y] W fun e w' => e = .returned (.agg #[.int .i64 5, .int .u8 G, .int .i64 0, .int .i64 13, .bool true]) ∧ Below W.heap.size W w'))
    (H4 : Hid (∀ W, Inv W → Calls Tryd.prog 10 #[.int .i64 13] W fun e w' => e = .returned (.agg #[.int .i64 2, .int .u8 0, .int .i64 0, .int .i64 0, .bool false]) ∧ Below W.heap.size W w')) :
    Calls Tryd.prog 8 #[.int .u8 t] w fun e w' => e = .returned (.bool true) ∧ Below w.heap.size w w' := by
  have ha := keysAwake H _ hv
  have fk := field9_kind
  have k1 : IntKind.u8.wrap p = p := by rw [IntKind.wrap_u8]; omega
  have k2 : IntKind.u8.wrap q = q := by rw [IntKind.wrap_u8]; omega
  have k3 : IntKind.i64.wrap p = p := by rw [IntKind.wrap_i64]; go_num
  have k4 : IntKind.i64.wrap q = q := by rw [IntKind.wrap_i64]; go_num
  have k5 : IntKind.i64.wrap (57417 + p) = x := by rw [IntKind.wrap_i64, hx]; go_num
  have k6 : IntKind.i64.wrap (57399 + q) = y := by rw [IntKind.wrap_i64, hy]; go_num
  go_enter Tryd.func8, Tryd.ntmps8
  go_wp2_with fail
  refine ha.mono ?_
  rintro e w1 ⟨rfl, hb1⟩
  go_wp2_with fail
  refine (H1.out _ (H.invB hv hb1)).mono ?_
  rintro e w2 ⟨rfl, hb2⟩
  have hbx := (below_step9 hb1 hb2 hb1.size).alloc (below_step9 hb1 hb2 hb1.size).size (.cells #[.int .i64 3, .int .u8 F, .int .i64 0, .int .i64 0, .bool true] 24)
  have a0 := Blk.new w2 24 #[.int .i64 3, .int .u8 F, .int .i64 0, .int .i64 0, .bool true]
  go_wp2_with fail
  refine (HF.out _ (H.invB hv hbx)).mono ?_
  rintro e w3 ⟨rfl, hb3⟩
  have hb3' := below_step9 hbx hb3 hbx.size
  have a1 := a0.below hb3 a0.lt
  go_wp2_with fail
  refine (H2.out _ (H.invB hv hb3')).mono ?_
  rintro e w4 ⟨rfl, hb4⟩
  have hb4' := (below_step9 hb3' hb4 hb3'.size).alloc (below_step9 hb3' hb4 hb3'.size).size (.cells #[.int .i64 3, .int .u8 F, .int .i64 0, .int .i64 0, .bool false] 24)
  have a2 := (a1.below hb4 a1.lt).alloc (.cells #[.int .i64 3, .int .u8 F, .int .i64 0, .int .i64 0, .bool false] 24)
  have c2 := Blk.new w4 24 #[.int .i64 3, .int .u8 F, .int .i64 0, .int .i64 0, .bool false]
  go_wp2_with fail
  refine (H3.out _ (H.invB hv hb4')).mono ?_
  rintro e w5 ⟨rfl, hb5⟩
  have hb5' := (below_step9 hb4' hb5 hb4'.size).alloc (below_step9 hb4' hb5 hb4'.size).size (.cells #[.int .i64 5, .int .u8 G, .int .i64 0, .int .i64 13, .bool true] 24)
  have a3 := (a2.below hb5 a2.lt).alloc (.cells #[.int .i64 5, .int .u8 G, .int .i64 0, .int .i64 13, .bool true] 24)
  have c3 := (c2.below hb5 c2.lt).alloc (.cells #[.int .i64 5, .int .u8 G, .int .i64 0, .int .i64 13, .bool true] 24)
  have u0 := a3.cell 0
  have u1 := a3.cell 1
  have u2 := a3.cell 2
  have u4 := a3.cell 4
  have v0 := c3.cell 0
  have v1 := c3.cell 1
  have v2 := c3.cell 2
  have v4 := c3.cell 4
  have e3 := Blk.new w5 24 #[.int .i64 5, .int .u8 G, .int .i64 0, .int .i64 13, .bool true]
  clear a0 a1 a2 c2 ha
  go_wp2_with fail
  refine (H4.out _ (H.invB hv hb5')).mono ?_
  rintro e w6 ⟨rfl, hb6⟩
  have hb6' := below_step9 hb5' hb6 hb5'.size
  have e4 := e3.below hb6 e3.lt
  have r3 := e4.cell 3
  clear u0 u1 u2 u4 v0 v1 v2 v4 a3 c3 e3
  go_wp2_with fail
  go_ret
  exact ⟨rfl, hb6'⟩
set_option maxRecDepth 100000 in
set_option maxHeartbeats 32000000 in
theorem pad_010 (H : KeysC Inv) (t p q x y b G F C : Int) (g1 : 65 ≤ G) (g2 : G ≤ 90) (_cn : (C == 13) = false) (_t0 : 0 ≤ t) (_t1 : t ≤ 255) (hp : Int.tmod t 10 = p) (hq : Int.tmod t 18 = q) (p0 : 0 ≤ p) (p1 : p < 10) (q0 : 0 ≤ q) (q1 : q < 18) (hx : 57417 + p = x) (hy : 57399 + q = y) (w : World) (hv : Inv w)
    (H1 : Hid (∀ W, Inv W → Calls Tryd.prog 10 #[.int .i64 x] W fun e w' => e = .returned (.agg #[.int .i64 3, .int .u8 F, .int .i64 0, .int .i64 0, .bool true]) ∧ Below W.heap.size W w'))
    (HF : Hid (∀ W, Inv W → Calls Tryd.prog 13 #[.int .u8 F, .int .i64 0] W fun e w' => e = .returned (.tuple #[.int .i64 b, .bool true]) ∧ Below W.heap.size W w'))
    (H2 : Hid (∀ W, Inv W → Calls Tryd.prog 10 #[.int .i64 b] W fun e w' => e = .returned (.agg #[.int .i64 3, .int .u8 F, .int .i64 0, .int .i64 0, .bool false]) ∧ Below W.heap.size W w'))
    (H3 : Hid (∀ W, Inv W → Calls Tryd.prog 10 #[.int .i64 y] W fun e w' => e = .returned (.agg #[.int .i64 5, .int .u8 G, .int .i64 0, .int .i64 C, .bool true]) ∧ Below W.heap.size W w'))
    (H4 : Hid (∀ W, Inv W → Calls Tryd.prog 10 #[.int .i64 C] W fun e w' => e = .returned (.agg #[.int .i64 1, .int .u8 0, .int .i64 0, .int .i64 0, .bool false]) ∧ Below W.heap.size W w')) :
    Calls Tryd.prog 8 #[.int .u8 t] w fun e w' => e = .returned (.bool true) ∧ Below w.heap.size w w' := by
  have ha := keysAwake H _ hv
  have fk := field9_kind
  have k1 : IntKind.u8.wrap p = p := by rw [IntKind.wrap_u8]; omega
  have k2 : IntKind.u8.wrap q = q := by rw [IntKind.wrap_u8]; omega
  have k3 : IntKind.i64.wrap p = p := by rw [IntKind.wrap_i64]; go_num
  have k4 : IntKind.i64.wrap q = q := by rw [IntKind.wrap_i64]; go_num
  have k5 : IntKind.i64.wrap (57417 + p) = x := by rw [IntKind.wrap_i64, hx]; go_num
  have k6 : IntKind.i64.wrap (57399 + q) = y := by rw [IntKind.wrap_i64, hy]; go_num
  go_enter Tryd.func8, Tryd.ntmps8
  go_wp2_with fail
  refine ha.mono ?_
  rintro e w1 ⟨rfl, hb1⟩
  go_wp2_with fail
  refine (H1.out _ (H.invB hv hb1)).mono ?_
  rintro e w2 ⟨rfl, hb2⟩
  have hbx := (below_step9 hb1 hb2 hb1.size).alloc (below_step9 hb1 hb2 hb1.size).size (.cells #[.int .i64 3, .int .u8 F, .int .i64 0, .int .i64 0, .bool true] 24)
  have a0 := Blk.new w2 24 #[.int .i64 3, .int .u8 F, .int .i64 0, .int .i64 0, .bool true]
  go_wp2_with fail
  refine (HF.out _ (H.invB hv hbx)).mono ?_
  rintro e w3 ⟨rfl, hb3⟩
  have hb3' := below_step9 hbx hb3 hbx.size
  have a1 := a0.below hb3 a0.lt
  go_wp2_with fail
  refine (H2.out _ (H.invB hv hb3')).mono ?_
  rintro e w4 ⟨rfl, hb4⟩
  have hb4' := (below_step9 hb3' hb4 hb3'.size).alloc (below_step9 hb3' hb4 hb3'.size).size (.cells #[.int .i64 3, .int .u8 F, .int .i64 0, .int .i64 0, .bool false] 24)
  have a2 := (a1.below hb4 a1.lt).alloc (.cells #[.int .i64 3, .int .u8 F, .int .i64 0, .int .i64 0, .bool false] 24)
  have c2 := Blk.new w4 24 #[.int .i64 3, .int .u8 F, .int .i64 0, .int .i64 0, .bool false]
  go_wp2_with fail
  refine (H3.out _ (H.invB hv hb4')).mono ?_
  rintro e w5 ⟨rfl, hb5⟩
  have hb5' := (below_step9 hb4' hb5 hb4'.size).alloc (below_step9 hb4' hb5 hb4'.size).size (.cells #[.int .i64 5, .int .u8 G, .int .i64 0, .int .i64 C, .bool true] 24)
  have a3 := (a2.below hb5 a2.lt).alloc (.cells #[.int .i64 5, .int .u8 G, .int .i64 0, .int .i64 C, .bool true] 24)
  have c3 := (c2.below hb5 c2.lt).alloc (.cells #[.int .i64 5, .int .u8 G, .int .i64 0, .int .i64 C, .bool true] 24)
  have u0 := a3.cell 0
  have u1 := a3.cell 1
  have u2 := a3.cell 2
  have u4 := a3.cell 4
  have v0 := c3.cell 0
  have v1 := c3.cell 1
  have v2 := c3.cell 2
  have v4 := c3.cell 4
  have e3 := Blk.new w5 24 #[.int .i64 5, .int .u8 G, .int .i64 0, .int .i64 C, .bool true]
  clear a0 a1 a2 c2 ha
  go_wp2_with fail
  refine (H4.out _ (H.invB hv hb5')).mono ?_
  rintro e w6 ⟨rfl, hb6⟩
  have hb6' := below_step9 hb5' hb6 hb5'.size
  have e4 := e3.below hb6 e3.lt
  have r3 := e4.cell 3
  clear u0 u1 u2 u4 v0 v1 v2 v4 a3 c3 e3
  go_wp2_with fail
  go_ret
  exact ⟨rfl, hb6'⟩
set_option maxRecDepth 100000 in
set_option maxHeartbeats 32000000 in
theorem pad_011 (H : KeysC Inv) (t p q x y b G F : Int) (g1 : 65 ≤ G) (g2 : G ≤ 90) (_t0 : 0 ≤ t) (_t1 : t ≤ 255) (hp : Int.tmod t 10 = p) (hq : Int.tmod t 18 = q) (p0 : 0 ≤ p) (p1 : p < 10) (q0 : 0 ≤ q) (q1 : q < 18) (hx : 57417 + p = x) (hy : 57399 + q = y) (w : World) (hv : Inv w)
    (H1 : Hid (∀ W, Inv W → Calls Tryd.prog 10 #[.int .i64 x] W fun e w' => e = .returned (.agg #[.int .i64 3, .int .u8 F, .int .i64 0, .int .i64 0, .bool true]) ∧ Below W.heap.size W w'))
    (HF : Hid (∀ W, Inv W → Calls Tryd.prog 13 #[.int .u8 F, .int .i64 0] W fun e w' => e = .returned (.tuple #[.int .i64 b, .bool true]) ∧ Below W.heap.size W w'))
    (H2 : Hid (∀ W, Inv W → Calls Tryd.prog 10 #[.int .i64 b] W fun e w' => e = .returned (.agg #[.int .i64 3, .int .u8 F, .int .i64 0, .int .i64 0, .bool false]) ∧ Below W.heap.size W w'))
    (H3 : Hid (∀ W, Inv W → Calls Tryd.prog 10 #[.int .i64 y] W fun e w' => e = .returned (.agg #[.int .i64 5, .int .u8 G, .int .i64 0, .int .i64 13, .bool true]) ∧ Below W.heap.size W w'))
    (H4 : Hid (∀ W, Inv W → Calls Tryd.prog 10 #[.int .i64 13] W fun e w' => e = .returned (.agg #[.int .i64 2, .int .u8 0, .int .i64 0, .int .i64 0, .bool false]) ∧ Below W.heap.size W w')) :
    Calls Tryd.prog 8 #[.int .u8 t] w fun e w' => e = .returned (.bool true) ∧ Below w.heap.size w w' := by
  have ha := keysAwake H _ hv
  have fk := field9_kind
  have k1 : IntKind.u8.wrap p = p := by rw [IntKind.wrap_u8]; omega
  have k2 : IntKind.u8.wrap q = q := by rw [IntKind.wrap_u8]; omega
  have k3 : IntKind.i64.wrap p = p := by rw [IntKind.wrap_i64]; go_num
  have k4 : IntKind.i64.wrap q = q := by rw [IntKind.wrap_i64]; go_num
  have k5 : IntKind.i64.wrap (57417 + p) = x := by rw [IntKind.wrap_i64, hx]; go_num
  have k6 : IntKind.i64.wrap (57399 + q) = y := by rw [IntKind.wrap_i64, hy]; go_num
  go_enter Tryd.func8, Tryd.ntmps8
  go_wp2_with fail
  refine ha.mono ?_
  rintro e w1 ⟨rfl, hb1⟩
  go_wp2_with fail
  refine (H1.out _ (H.invB hv hb1)).mono ?_
  rintro e w2 ⟨rfl, hb2⟩
  have hbx := (below_step9 hb1 hb2 hb1.size).alloc (below_step9 hb1 hb2 hb1.size).size (.cells #[.int .i64 3, .int .u8 F, .int .i64 0, .int .i64 0, .bool true] 24)
  have a0 := Blk.new w2 24 #[.int .i64 3, .int .u8 F, .int .i64 0, .int .i64 0, .bool true]
  go_wp2_with fail
  refine (HF.out _ (H.invB hv hbx)).mono ?_
  rintro e w3 ⟨rfl, hb3⟩
  have hb3' := below_step9 hbx hb3 hbx.size
  have a1 := a0.below hb3 a0.lt
  go_wp2_with fail
  refine (H2.out _ (H.invB hv hb3')).mono ?_
  rintro e w4 ⟨rfl, hb4⟩
  have hb4' := (below_step9 hb3' hb4 hb3'.size).alloc (below_step9 hb3' hb4 hb3'.size).size (.cells #[.int .i64 3, .int .u8 F, .int .i64 0, .int .i64 0, .bool false] 24)
  have a2 := (a1.below hb4 a1.lt).alloc (.cells #[.int .i64 3, .int .u8 F, .int .i64 0, .int .i64 0, .bool false] 24)
  have c2 := Blk.new w4 24 #[.int .i64 3, .int .u8 F, .int .i64 0, .int .i64 0, .bool false]
  go_wp2_with fail
  refine (H3.out _ (H.invB hv hb4')).mono ?_
  rintro e w5 ⟨rfl, hb5⟩
  have hb5' := (below_step9 hb4' hb5 hb4'.size).alloc (below_step9 hb4' hb5 hb4'.size).size (.cells #[.int .i64 5, .int .u8 G, .int .i64 0, .int .i64 13, .bool true] 24)
  have a3 := (a2.below hb5 a2.lt).alloc (.cells #[.int .i64 5, .int .u8 G, .int .i64 0, .int .i64 13, .bool true] 24)
  have c3 := (c2.below hb5 c2.lt).alloc (.cells #[.int .i64 5, .int .u8 G, .int .i64 0, .int .i64 13, .bool true] 24)
  have u0 := a3.cell 0
  have u1 := a3.cell 1
  have u2 := a3.cell 2
  have u4 := a3.cell 4
  have v0 := c3.cell 0
  have v1 := c3.cell 1
  have v2 := c3.cell 2
  have v4 := c3.cell 4
  have e3 := Blk.new w5 24 #[.int .i64 5, .int .u8 G, .int .i64 0, .int .i64 13, .bool true]
  clear a0 a1 a2 c2 ha
  go_wp2_with fail
  refine (H4.out _ (H.invB hv hb5')).mono ?_
  rintro e w6 ⟨rfl, hb6⟩
  have hb6' := below_step9 hb5' hb6 hb5'.size
  have e4 := e3.below hb6 e3.lt
  have r3 := e4.cell 3
  clear u0 u1 u2 u4 v0 v1 v2 v4 a3 c3 e3
  go_wp2_with fail
  go_ret
  exact ⟨rfl, hb6'⟩
set_option maxRecDepth 100000 in
set_option maxHeartbeats 32000000 in
theorem pad_100 (H : KeysC Inv) (t p q x y b G N C : Int) (g1 : 97 ≤ G) (g2 : G ≤ 122) (_cn : (C == 13) = false) (_t0 : 0 ≤ t) (_t1 : t ≤ 255) (hp : Int.tmod t 10 = p) (hq : Int.tmod t 18 = q) (p0 : 0 ≤ p) (p1 : p < 10) (q0 : 0 ≤ q) (q1 : q < 18) (hx : 57417 + p = x) (hy : 57399 + q = y) (w : World) (hv : Inv w)
    (H1 : Hid (∀ W, Inv W → Calls Tryd.prog 10 #[.int .i64 x] W fun e w' => e = .returned (.agg #[.int .i64 4, .int .u8 0, .int .i64 N, .int .i64 0, .bool true]) ∧ Below W.heap.size W w'))
    (HF : Hid (∀ W, Inv W → Calls Tryd.prog 13 #[.int .u8 126, .int .i64 N] W fun e w' => e = .returned (.tuple #[.int .i64 b, .bool true]) ∧ Below W.heap.size W w'))
    (H2 : Hid (∀ W, Inv W → Calls Tryd.prog 10 #[.int .i64 b] W fun e w' => e = .returned (.agg #[.int .i64 4, .int .u8 0, .int .i64 N, .int .i64 0, .bool false]) ∧ Below W.heap.size W w'))
    (H3 : Hid (∀ W, Inv W → Calls Tryd.prog 10 #[.int .i64 y] W fun e w' => e = .returned (.agg #[.int .i64 5, .int .u8 G, .int .i64 0, .int .i64 C, .bool true]) ∧ Below W.heap.size W w'))
    (H4 : Hid (∀ W, Inv W → Calls Tryd.prog 10 #[.int .i64 C] W fun e w' => e = .returned (.agg #[.int .i64 1, .int .u8 0, .int .i64 0, .int .i64 0, .bool false]) ∧ Below W.heap.size W w')) :
    Calls Tryd.prog 8 #[.int .u8 t] w fun e w' => e = .returned (.bool true) ∧ Below w.heap.size w w' := by
  have ha := keysAwake H _ hv
  have fk := field9_kind
  have k1 : IntKind.u8.wrap p = p := by rw [IntKind.wrap_u8]; omega
  have k2 : IntKind.u8.wrap q = q := by rw [IntKind.wrap_u8]; omega
  have k3 : IntKind.i64.wrap p = p := by rw [IntKind.wrap_i64]; go_num
  have k4 : IntKind.i64.wrap q = q := by rw [IntKind.wrap_i64]; go_num
  have k5 : IntKind.i64.wrap (57417 + p) = x := by rw [IntKind.wrap_i64, hx]; go_num
  have k6 : IntKind.i64.wrap (57399 + q) = y := by rw [IntKind.wrap_i64, hy]; go_num
  go_enter Tryd.func8, Tryd.ntmps8
  go_wp2_with fail
  refine ha.mono ?_
  rintro e w1 ⟨rfl, hb1⟩
  go_wp2_with fail
  refine (H1.out _ (H.invB hv hb1)).mono ?_
  rintro e w2 ⟨rfl, hb2⟩
  have hbx := (below_step9 hb1 hb2 hb1.size).alloc (below_step9 hb1 hb2 hb1.size).size (.cells #[.int .i64 4, .int .u8 0, .int .i64 N, .int .i64 0, .bool true] 24)
  have a0 := Blk.new w2 24 #[.int .i64 4, .int .u8 0, .int .i64 N, .int .i64 0, .bool true]
  go_wp2_with fail
  refine (HF.out _ (H.invB hv hbx)).mono ?_
  rintro e w3 ⟨rfl, hb3⟩
  have hb3' := below_step9 hbx hb3 hbx.size
  have a1 := a0.below hb3 a0.lt
  go_wp2_with fail
  refine (H2.out _ (H.invB hv hb3')).mono ?_
  rintro e w4 ⟨rfl, hb4⟩
  have hb4' := (below_step9 hb3' hb4 hb3'.size).alloc (below_step9 hb3' hb4 hb3'.size).size (.cells #[.int .i64 4, .int .u8 0, .int .i64 N, .int .i64 0, .bool false] 24)
  have a2 := (a1.below hb4 a1.lt).alloc (.cells #[.int .i64 4, .int .u8 0, .int .i64 N, .int .i64 0, .bool false] 24)
  have c2 := Blk.new w4 24 #[.int .i64 4, .int .u8 0, .int .i64 N, .int .i64 0, .bool false]
  go_wp2_with fail
  refine (H3.out _ (H.invB hv hb4')).mono ?_
  rintro e w5 ⟨rfl, hb5⟩
  have hb5' := (below_step9 hb4' hb5 hb4'.size).alloc (below_step9 hb4' hb5 hb4'.size).size (.cells #[.int .i64 5, .int .u8 G, .int .i64 0, .int .i64 C, .bool true] 24)
  have a3 := (a2.below hb5 a2.lt).alloc (.cells #[.int .i64 5, .int .u8 G, .int .i64 0, .int .i64 C, .bool true] 24)
  have c3 := (c2.below hb5 c2.lt).alloc (.cells #[.int .i64 5, .int .u8 G, .int .i64 0, .int .i64 C, .bool true] 24)
  have u0 := a3.cell 0
  have u1 := a3.cell 1
  have u2 := a3.cell 2
  have u4 := a3.cell 4
  have v0 := c3.cell 0
  have v1 := c3.cell 1
  have v2 := c3.cell 2
  have v4 := c3.cell 4
  have e3 := Blk.new w5 24 #[.int .i64 5, .int .u8 G, .int .i64 0, .int .i64 C, .bool true]
  clear a0 a1 a2 c2 ha
  go_wp2_with fail
  refine (H4.out _ (H.invB hv hb5')).mono ?_
  rintro e w6 ⟨rfl, hb6⟩
  have hb6' := below_step9 hb5' hb6 hb5'.size
  have e4 := e3.below hb6 e3.lt
  have r3 := e4.cell 3
  clear u0 u1 u2 u4 v0 v1 v2 v4 a3 c3 e3
  go_wp2_with fail
  go_ret
  exact ⟨rfl, hb6'⟩
set_option maxRecDepth 100000 in
set_option maxHeartbeats 32000000 in
theorem pad_101 (H : KeysC Inv) (t p q x y b G N : Int) (g1 : 97 ≤ G) (g2 : G ≤ 122) (_t0 : 0 ≤ t) (_t1 : t ≤ 255) (hp : Int.tmod t 10 = p) (hq : Int.tmod t 18 = q) (p0 : 0 ≤ p) (p1 : p < 10) (q0 : 0 ≤ q) (q1 : q < 18) (hx : 57417 + p = x) (hy : 57399 + q = y) (w : World) (hv : Inv w)
    (H1 : Hid (∀ W, Inv W → Calls Tryd.prog 10 #[.int .i64 x] W fun e w' => e = .returned (.agg #[.int .i64 4, .int .u8 0, .int .i64 N, .int .i64 0, .bool true]) ∧ Below W.heap.size W w'))
    (HF : Hid (∀ W, Inv W → Calls Tryd.prog 13 #[.int .u8 126, .int .i64 N] W fun e w' => e = .returned (.tuple #[.int .i64 b, .bool true]) ∧ Below W.heap.size W w'))
    (H2 : Hid (∀ W, Inv W → Calls Tryd.prog 10 #[.int .i64 b] W fun e w' => e = .returned (.agg #[.int .i64 4, .int .u8 0, .int .i64 N, .int .i64 0, .bool false]) ∧ Below W.heap.size W w'))
    (H3 : Hid (∀ W, Inv W → Calls Tryd.prog 10 #[.int .i64 y] W fun e w' => e = .returned (.agg #[.int .i64 5, .int .u8 G, .int .i64 0, .int .i64 13, .bool true]) ∧ Below W.heap.size W w'))
    (H4 : Hid (∀ W, Inv W → Calls Tryd.prog 10 #[.int .i64 13] W fun e w' => e = .returned (.agg #[.int .i64 2, .int .u8 0, .int .i64 0, .int .i64 0, .bool false]) ∧ Below W.heap.size W w')) :
    Calls Tryd.prog 8 #[.int .u8 t] w fun e w' => e = .returned (.bool true) ∧ Below w.heap.size w w' := by
  have ha := keysAwake H _ hv
  have fk := field9_kind
  have k1 : IntKind.u8.wrap p = p := by rw [IntKind.wrap_u8]; omega
  have k2 : IntKind.u8.wrap q = q := by rw [IntKind.wrap_u8]; omega
  have k3 : IntKind.i64.wrap p = p := by rw [IntKind.wrap_i64]; go_num
  have k4 : IntKind.i64.wrap q = q := by rw [IntKind.wrap_i64]; go_num
  have k5 : IntKind.i64.wrap (57417 + p) = x := by rw [IntKind.wrap_i64, hx]; go_num
  have k6 : IntKind.i64.wrap (57399 + q) = y := by rw [IntKind.wrap_i64, hy]; go_num
  go_enter Tryd.func8, Tryd.ntmps8
  go_wp2_with fail
  refine ha.mono ?_
  rintro e w1 ⟨rfl, hb1⟩
  go_wp2_with fail
  refine (H1.out _ (H.invB hv hb1)).mono ?_
  rintro e w2 ⟨rfl, hb2⟩
  have hbx := (below_step9 hb1 hb2 hb1.size).alloc (below_step9 hb1 hb2 hb1.size).size (.cells #[.int .i64 4, .int .u8 0, .int .i64 N, .int .i64 0, .bool true] 24)
  have a0 := Blk.new w2 24 #[.int .i64 4, .int .u8 0, .int .i64 N, .int .i64 0, .bool true]
  go_wp2_with fail
  refine (HF.out _ (H.invB hv hbx)).mono ?_
  rintro e w3 ⟨rfl, hb3⟩
  have hb3' := below_step9 hbx hb3 hbx.size
  have a1 := a0.below hb3 a0.lt
  go_wp2_with fail
  refine (H2.out _ (H.invB hv hb3')).mono ?_
  rintro e w4 ⟨rfl, hb4⟩
  have hb4' := (below_step9 hb3' hb4 hb3'.size).alloc (below_step9 hb3' hb4 hb3'.size).size (.cells #[.int .i64 4, .int .u8 0, .int .i64 N, .int .i64 0, .bool false] 24)
  have a2 := (a1.below hb4 a1.lt).alloc (.cells #[.int .i64 4, .int .u8 0, .int .i64 N, .int .i64 0, .bool false] 24)
  have c2 := Blk.new w4 24 #[.int .i64 4, .int .u8 0, .int .i64 N, .int .i64 0, .bool false]
  go_wp2_with fail
  refine (H3.out _ (H.invB hv hb4')).mono ?_
  rintro e w5 ⟨rfl, hb5⟩
  have hb5' := (below_step9 hb4' hb5 hb4'.size).alloc (below_step9 hb4' hb5 hb4'.size).size (.cells #[.int .i64 5, .int .u8 G, .int .i64 0, .int .i64 13, .bool true] 24)
  have a3 := (a2.below hb5 a2.lt).alloc (.cells #[.int .i64 5, .int .u8 G, .int .i64 0, .int .i64 13, .bool true] 24)
  have c3 := (c2.below hb5 c2.lt).alloc (.cells #[.int .i64 5, .int .u8 G, .int .i64 0, .int .i64 13, .bool true] 24)
  have u0 := a3.cell 0
  have u1 := a3.cell 1
  have u2 := a3.cell 2
  have u4 := a3.cell 4
  have v0 := c3.cell 0
  have v1 := c3.cell 1
  have v2 := c3.cell 2
  have v4 := c3.cell 4
  have e3 := Blk.new w5 24 #[.int .i64 5, .int .u8 G, .int .i64 0, .int .i64 13, .bool true]
  clear a0 a1 a2 c2 ha
  go_wp2_with fail
  refine (H4.out _ (H.invB hv hb5')).mono ?_
  rintro e w6 ⟨rfl, hb6⟩
  have hb6' := below_step9 hb5' hb6 hb5'.size
  have e4 := e3.below hb6 e3.lt
  have r3 := e4.cell 3
  clear u0 u1 u2 u4 v0 v1 v2 v4 a3 c3 e3
  go_wp2_with fail
  go_ret
  exact ⟨rfl, hb6'⟩
set_option maxRecDepth 100000 in
set_option maxHeartbeats 32000000 in
theorem pad_110 (H : KeysC Inv) (t p q x y b G N C : Int) (g1 : 65 ≤ G) (g2 : G ≤ 90) (_cn : (C == 13) = false) (_t0 : 0 ≤ t) (_t1 : t ≤ 255) (hp : Int.tmod t 10 = p) (hq : Int.tmod t 18 = q) (p0 : 0 ≤ p) (p1 : p < 10) (q0 : 0 ≤ q) (q1 : q < 18) (hx : 57417 + p = x) (hy : 57399 + q = y) (w : World) (hv : Inv w)
    (H1 : Hid (∀ W, Inv W → Calls Tryd.prog 10 #[.int .i64 x] W fun e w' => e = .returned (.agg #[.int .i64 4, .int .u8 0, .int .i64 N, .int .i64 0, .bool true]) ∧ Below W.heap.size W w'))
    (HF : Hid (∀ W, Inv W → Calls Tryd.prog 13 #[.int .u8 126, .int .i64 N] W fun e w' => e = .returned (.tuple #[.int .i64 b, .bool true]) ∧ Below W.heap.size W w'))
    (H2 : Hid (∀ W, Inv W → Calls Tryd.prog 10 #[.int .i64 b] W fun e w' => e = .returned (.agg #[.int .i64 4, .int .u8 0, .int .i64 N, .int .i64 0, .bool false]) ∧ Below W.heap.size W w'))
    (H3 : Hid (∀ W, Inv W → Calls Tryd.prog 10 #[.int .i64 y] W fun e w' => e = .returned (.agg #[.int .i64 5, .int .u8 G, .int .i64 0, .int .i64 C, .bool true]) ∧ Below W.heap.size W w'))
    (H4 : Hid (∀ W, Inv W → Calls Tryd.prog 10 #[.int .i64 C] W fun e w' => e = .returned (.agg #[.int .i64 1, .int .u8 0, .int .i64 0, .int .i64 0, .bool false]) ∧ Below W.heap.size W w')) :
    Calls Tryd.prog 8 #[.int .u8 t] w fun e w' => e = .returned (.bool true) ∧ Below w.heap.size w w' := by
  have ha := keysAwake H _ hv
  have fk := field9_kind
  have k1 : IntKind.u8.wrap p = p := by rw [IntKind.wrap_u8]; omega
  have k2 : IntKind.u8.wrap q = q := by rw [IntKind.wrap_u8]; omega
  have k3 : IntKind.i64.wrap p = p := by rw [IntKind.wrap_i64]; go_num
  have k4 : IntKind.i64.wrap q = q := by rw [IntKind.wrap_i64]; go_num
  have k5 : IntKind.i64.wrap (57417 + p) = x := by rw [IntKind.wrap_i64, hx]; go_num
  have k6 : IntKind.i64.wrap (57399 + q) = y := by rw [IntKind.wrap_i64, hy]; go_num
  go_enter Tryd.func8, Tryd.ntmps8
  go_wp2_with fail
  refine ha.mono ?_
  rintro e w1 ⟨rfl, hb1⟩
  go_wp2_with fail
  refine (H1.out _ (H.invB hv hb1)).mono ?_
  rintro e w2 ⟨rfl, hb2⟩
  have hbx := (below_step9 hb1 hb2 hb1.size).alloc (below_step9 hb1 hb2 hb1.size).size (.cells #[.int .i64 4, .int .u8 0, .int .i64 N, .int .i64 0, .bool true] 24)
  have a0 := Blk.new w2 24 #[.int .i64 4, .int .u8 0, .int .i64 N, .int .i64 0, .bool true]
  go_wp2_with fail
  refine (HF.out _ (H.invB hv hbx)).mono ?_
  rintro e w3 ⟨rfl, hb3⟩
  have hb3' := below_step9 hbx hb3 hbx.size
  have a1 := a0.below hb3 a0.lt
  go_wp2_with fail
  refine (H2.out _ (H.invB hv hb3')).mono ?_
  rintro e w4 ⟨rfl, hb4⟩
  have hb4' := (below_step9 hb3' hb4 hb3'.size).alloc (below_step9 hb3' hb4 hb3'.size).size (.cells #[.int .i64 4, .int .u8 0, .int .i64 N, .int .i64 0, .bool false] 24)
  have a2 := (a1.below hb4 a1.lt).alloc (.cells #[.int .i64 4, .int .u8 0, .int .i64 N, .int .i64 0, .bool false] 24)
  have c2 := Blk.new w4 24 #[.int .i64 4, .int .u8 0, .int .i64 N, .int .i64 0, .bool false]
  go_wp2_with fail
  refine (H3.out _ (H.invB hv hb4')).mono ?_
  rintro e w5 ⟨rfl, hb5⟩
  have hb5' := (below_step9 hb4' hb5 hb4'.size).alloc (below_step9 hb4' hb5 hb4'.size).size (.cells #[.int .i64 5, .int .u8 G, .int .i64 0, .int .i64 C, .bool true] 24)
  have a3 := (a2.below hb5 a2.lt).alloc (.cells #[.int .i64 5, .int .u8 G, .int .i64 0, .int .i64 C, .bool true] 24)
  have c3 := (c2.below hb5 c2.lt).alloc (.cells #[.int .i64 5, .int .u8 G, .int .i64 0, .int .i64 C, .bool true] 24)
  have u0 := a3.cell 0
  have u1 := a3.cell 1
  have u2 := a3.cell 2
  have u4 := a3.cell 4
  have v0 := c3.cell 0
  have v1 := c3.cell 1
  have v2 := c3.cell 2
  have v4 := c3.cell 4
  have e3 := Blk.new w5 24 #[.int .i64 5, .int .u8 G, .int .i64 0, .int .i64 C, .bool true]
  clear a0 a1 a2 c2 ha
  go_wp2_with fail
  refine (H4.out _ (H.invB hv hb5')).mono ?_
  rintro e w6 ⟨rfl, hb6⟩
  have hb6' := below_step9 hb5' hb6 hb5'.size
  have e4 := e3.below hb6 e3.lt
  have r3 := e4.cell 3
  clear u0 u1 u2 u4 v0 v1 v2 v4 a3 c3 e3
  go_wp2_with fail
  go_ret
  exact ⟨rfl, hb6'⟩
set_option maxRecDepth 100000 in
set_option maxHeartbeats 32000000 in
theorem pad_111 (H : KeysC Inv) (t p q x y b G N : Int) (g1 : 65 ≤ G) (g2 : G ≤ 90) (_t0 : 0 ≤ t) (_t1 : t ≤ 255) (hp : Int.tmod t 10 = p) (hq : Int.tmod t 18 = q) (p0 : 0 ≤ p) (p1 : p < 10) (q0 : 0 ≤ q) (q1 : q < 18) (hx : 57417 + p = x) (hy : 57399 + q = y) (w : World) (hv : Inv w)
    (H1 : Hid (∀ W, Inv W → Calls Tryd.prog 10 #[.int .i64 x] W fun e w' => e = .returned (.agg #[.int .i64 4, .int .u8 0, .int .i64 N, .int .i64 0, .bool true]) ∧ Below W.heap.size W w'))
    (HF : Hid (∀ W, Inv W → Calls Tryd.prog 13 #[.int .u8 126, .int .i64 N] W fun e w' => e = .returned (.tuple #[.int .i64 b, .bool true]) ∧ Below W.heap.size W w'))
    (H2 : Hid (∀ W, Inv W → Calls Tryd.prog 10 #[.int .i64 b] W fun e w' => e = .returned (.agg #[.int .i64 4, .int .u8 0, .int .i64 N, .int .i64 0, .bool false]) ∧ Below W.heap.size W w'))
    (H3 : Hid (∀ W, Inv W → Calls Tryd.prog 10 #[.int .i64 y] W fun e w' => e = .returned (.agg #[.int .i64 5, .int .u8 G, .int .i64 0, .int .i64 13, .bool true]) ∧ Below W.heap.size W w'))
    (H4 : Hid (∀ W, Inv W → Calls Tryd.prog 10 #[.int .i64 13] W fun e w' => e = .returned (.agg #[.int .i64 2, .int .u8 0, .int .i64 0, .int .i64 0, .bool false]) ∧ Below W.heap.size W w')) :
    Calls Tryd.prog 8 #[.int .u8 t] w fun e w' => e = .returned (.bool true) ∧ Below w.heap.size w w' := by
  have ha := keysAwake H _ hv
  have fk := field9_kind
  have k1 : IntKind.u8.wrap p = p := by rw [IntKind.wrap_u8]; omega
  have k2 : IntKind.u8.wrap q = q := by rw [IntKind.wrap_u8]; omega
  have k3 : IntKind.i64.wrap p = p := by rw [IntKind.wrap_i64]; go_num
  have k4 : IntKind.i64.wrap q = q := by rw [IntKind.wrap_i64]; go_num
  have k5 : IntKind.i64.wrap (57417 + p) = x := by rw [IntKind.wrap_i64, hx]; go_num
  have k6 : IntKind.i64.wrap (57399 + q) = y := by rw [IntKind.wrap_i64, hy]; go_num
  go_enter Tryd.func8, Tryd.ntmps8
  go_wp2_with fail
  refine ha.mono ?_
  rintro e w1 ⟨rfl, hb1⟩
  go_wp2_with fail
  refine (H1.out _ (H.invB hv hb1)).mono ?_
  rintro e w2 ⟨rfl, hb2⟩
  have hbx := (below_step9 hb1 hb2 hb1.size).alloc (below_step9 hb1 hb2 hb1.size).size (.cells #[.int .i64 4, .int .u8 0, .int .i64 N, .int .i64 0, .bool true] 24)
  have a0 := Blk.new w2 24 #[.int .i64 4, .int .u8 0, .int .i64 N, .int .i64 0, .bool true]
  go_wp2_with fail
  refine (HF.out _ (H.invB hv hbx)).mono ?_
  rintro e w3 ⟨rfl, hb3⟩
  have hb3' := below_step9 hbx hb3 hbx.size
  have a1 := a0.below hb3 a0.lt
  go_wp2_with fail
  refine (H2.out _ (H.invB hv hb3')).mono ?_
  rintro e w4 ⟨rfl, hb4⟩
  have hb4' := (below_step9 hb3' hb4 hb3'.size).alloc (below_step9 hb3' hb4 hb3'.size).size (.cells #[.int .i64 4, .int .u8 0, .int .i64 N, .int .i64 0, .bool false] 24)
  have a2 := (a1.below hb4 a1.lt).alloc (.cells #[.int .i64 4, .int .u8 0, .int .i64 N, .int .i64 0, .bool false] 24)
  have c2 := Blk.new w4 24 #[.int .i64 4, .int .u8 0, .int .i64 N, .int .i64 0, .bool false]
  go_wp2_with fail
  refine (H3.out _ (H.invB hv hb4')).mono ?_
  rintro e w5 ⟨rfl, hb5⟩
  have hb5' := (below_step9 hb4' hb5 hb4'.size).alloc (below_step9 hb4' hb5 hb4'.size).size (.cells #[.int .i64 5, .int .u8 G, .int .i64 0, .int .i64 13, .bool true] 24)
  have a3 := (a2.below hb5 a2.lt).alloc (.cells #[.int .i64 5, .int .u8 G, .int .i64 0, .int .i64 13, .bool true] 24)
  have c3 := (c2.below hb5 c2.lt).alloc (.cells #[.int .i64 5, .int .u8 G, .int .i64 0, .int .i64 13, .bool true] 24)
  have u0 := a3.cell 0
  have u1 := a3.cell 1
  have u2 := a3.cell 2
  have u4 := a3.cell 4
  have v0 := c3.cell 0
  have v1 := c3.cell 1
  have v2 := c3.cell 2
  have v4 := c3.cell 4
  have e3 := Blk.new w5 24 #[.int .i64 5, .int .u8 G, .int .i64 0, .int .i64 13, .bool true]
  clear a0 a1 a2 c2 ha
  go_wp2_with fail
  refine (H4.out _ (H.invB hv hb5')).mono ?_
  rintro e w6 ⟨rfl, hb6⟩
  have hb6' := below_step9 hb5' hb6 hb5'.size
  have e4 := e3.below hb6 e3.lt
  have r3 := e4.cell 3
  clear u0 u1 u2 u4 v0 v1 v2 v4 a3 c3 e3
  go_wp2_with fail
  go_ret
  exact ⟨rfl, hb6'⟩
theorem keysPad_walk (H : KeysC Inv) (t : Int) (t0 : 0 ≤ t) (t1 : t ≤ 255) (w : World) (hv : Inv w) :
    Calls Tryd.prog 8 #[.int .u8 t] w fun e w' => e = .returned (.bool true) ∧ Below w.heap.size w w' := by
  obtain ⟨p, hp⟩ : ∃ p, Int.tmod t 10 = p := ⟨_, rfl⟩
  obtain ⟨q, hq⟩ : ∃ q, Int.tmod t 18 = q := ⟨_, rfl⟩
  have p0 : 0 ≤ p := by rw [← hp]; exact Int.tmod_nonneg 10 t0
  have p1 : p < 10 := by rw [← hp]; exact Int.tmod_lt_of_pos t (by decide)
  have q0 : 0 ≤ q := by rw [← hq]; exact Int.tmod_nonneg 18 t0
  have q1 : q < 18 := by rw [← hq]; exact Int.tmod_lt_of_pos t (by decide)
  obtain ⟨x, hx⟩ : ∃ x, 57417 + p = x := ⟨_, rfl⟩
  obtain ⟨y, hy⟩ : ∃ y, 57399 + q = y := ⟨_, rfl⟩
  have hm : Moves (lookE x) := by
    have h := moves_fin ⟨p.toNat, by omega⟩
    have e : (57417 + ((p.toNat : Nat) : Int)) = x := by omega
    rw [← e]
    exact h
  have hc : Chars (lookE y) := by
    have h := chars_fin ⟨q.toNat, by omega⟩
    have e : (57399 + ((q.toNat : Nat) : Int)) = y := by omega
    rw [← e]
    exact h
  have rx := look_rng x
  obtain ⟨⟨K, F, N, C1, B⟩, hE⟩ : ∃ E, lookE x = E := ⟨_, rfl⟩
  obtain ⟨⟨K2, G, N2, C, B2⟩, hE2⟩ : ∃ E, lookE y = E := ⟨_, rfl⟩
  have LK : ∀ (x : Int) (e : En), lookE x = e → in64 x → Hid (∀ W, Inv W → Calls Tryd.prog 10 #[.int .i64 x] W fun e' w' => e' = .returned (enV e) ∧ Below W.heap.size W w') := fun x e h hx => Lib.hid fun W hW => by
    have := H.look x W hW hx
    rwa [h] at this
  have FD : ∀ (g m a : Int) (t : Bool), findE g m = (a, t) → (0 ≤ g ∧ g ≤ 255) → in64 m → Hid (∀ W, Inv W → Calls Tryd.prog 13 #[.int .u8 g, .int .i64 m] W fun e' w' => e' = .returned (.tuple #[.int .i64 a, .bool t]) ∧ Below W.heap.size W w') := fun g m a t h hg hm => Lib.hid fun W hW => by
    have := H.find g m W hW hg hm
    rwa [h] at this
  rw [hE] at rx hm
  rw [hE2] at hc
  obtain ⟨hF, hN1, hN2⟩ := rx
  simp only at hF hN1 hN2
  obtain ⟨he2, hg, hcc, hc0, hc1⟩ := hc
  simp only at he2 hg hcc hc0 hc1
  injection he2 with e1 _ e3 _ e5
  subst e1 e3 e5
  have L3 := LK y _ hE2 ⟨by omega, by omega⟩
  have hcx : in64 C := ⟨by omega, by omega⟩
  rcases hm with ⟨he, hf, hl⟩ | ⟨he, hf, hl⟩
  · simp only at he hf hl
    injection he with e1 _ e3 e4 e5
    subst e1 e3 e4 e5
    obtain ⟨⟨b, u⟩, hb⟩ : ∃ E, findE F 0 = E := ⟨_, rfl⟩
    rw [hb] at hf hl
    simp only at hf hl
    subst hf
    have L1 := LK x _ hE ⟨by omega, by omega⟩
    have A := FD _ _ _ _ hb hF ⟨by decide, by decide⟩
    have hbr : in64 b := by
      rcases found_cases hb with ⟨h, _⟩ | ⟨_, h, _⟩ | ⟨_, h, _⟩
      · cases h
      · exact h
      · exact h
    have L2 := LK b _ hl hbr
    rcases hcc with rfl | ⟨hcl, hcn⟩
    · have L4 := LK 13 ⟨2, 0, 0, 0, false⟩ (by decide +kernel) ⟨by decide, by decide⟩
      rcases hg with ⟨g1, g2⟩ | ⟨g1, g2⟩
      · exact pad_001 H t p q x y b G F g1 g2 t0 t1 hp hq p0 p1 q0 q1 hx hy w hv L1 A L2 L3 L4
      · exact pad_011 H t p q x y b G F g1 g2 t0 t1 hp hq p0 p1 q0 q1 hx hy w hv L1 A L2 L3 L4
    · have L4 := LK C _ hcl hcx
      rcases hg with ⟨g1, g2⟩ | ⟨g1, g2⟩
      · exact pad_000 H t p q x y b G F C g1 g2 hcn t0 t1 hp hq p0 p1 q0 q1 hx hy w hv L1 A L2 L3 L4
      · exact pad_010 H t p q x y b G F C g1 g2 hcn t0 t1 hp hq p0 p1 q0 q1 hx hy w hv L1 A L2 L3 L4
  · simp only at he hf hl
    injection he with e1 e2 _ e4 e5
    subst e1 e2 e4 e5
    obtain ⟨⟨b, u⟩, hb⟩ : ∃ E, findE 126 N = E := ⟨_, rfl⟩
    rw [hb] at hf hl
    simp only at hf hl
    subst hf
    have L1 := LK x _ hE ⟨by omega, by omega⟩
    have A := FD _ _ _ _ hb ⟨by decide, by decide⟩ ⟨by omega, by omega⟩
    have hbr : in64 b := by
      rcases found_cases hb with ⟨h, _⟩ | ⟨_, h, _⟩ | ⟨_, h, _⟩
      · cases h
      · exact h
      · exact h
    have L2 := LK b _ hl hbr
    rcases hcc with rfl | ⟨hcl, hcn⟩
    · have L4 := LK 13 ⟨2, 0, 0, 0, false⟩ (by decide +kernel) ⟨by decide, by decide⟩
      rcases hg with ⟨g1, g2⟩ | ⟨g1, g2⟩
      · exact pad_101 H t p q x y b G N g1 g2 t0 t1 hp hq p0 p1 q0 q1 hx hy w hv L1 A L2 L3 L4
      · exact pad_111 H t p q x y b G N g1 g2 t0 t1 hp hq p0 p1 q0 q1 hx hy w hv L1 A L2 L3 L4
    · have L4 := LK C _ hcl hcx
      rcases hg with ⟨g1, g2⟩ | ⟨g1, g2⟩
      · exact pad_100 H t p q x y b G N C g1 g2 hcn t0 t1 hp hq p0 p1 q0 q1 hx hy w hv L1 A L2 L3 L4
      · exact pad_110 H t p q x y b G N C g1 g2 hcn t0 t1 hp hq p0 p1 q0 q1 hx hy w hv L1 A L2 L3 L4
end
end Go.Proofs.YtkicenpcklknnaaDoor
