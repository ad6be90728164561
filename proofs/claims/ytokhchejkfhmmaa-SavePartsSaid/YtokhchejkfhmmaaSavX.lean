/-
  Layer 7, walked: the landed Restore; with the landed Save all that the layer's laws need of the program.
-/
import Derived.Test.YtokhchejkfhmmaaSavW
import Derived.Test.YtokhchejkfhmmaaLsA
namespace Go.Proofs.Ytokhchejkfhmmaa
open Go.RowKit Go.Shelf
attribute [local go_sem] Oper.semAt_some

theorem keeps_set10 (w : World) (g : Nat) (x0 x1 x2 x3 x4 x5 x6 x7 x8 x9 : Value) : KeepsOthers w ((((((((((w.setCell ⟨g, 0, none⟩ x0).setCell ⟨g, 1, none⟩ x1).setCell ⟨g, 2, none⟩ x2).setCell ⟨g, 3, none⟩ x3).setCell ⟨g, 4, none⟩ x4).setCell ⟨g, 5, none⟩ x5).setCell ⟨g, 6, none⟩ x6).setCell ⟨g, 7, none⟩ x7).setCell ⟨g, 8, none⟩ x8).setCell ⟨g, 9, none⟩ x9) :=
  (((((((((KeepsOthers.setCell _ _ _).trans (KeepsOthers.setCell _ _ _)).trans (KeepsOthers.setCell _ _ _)).trans (KeepsOthers.setCell _ _ _)).trans (KeepsOthers.setCell _ _ _)).trans (KeepsOthers.setCell _ _ _)).trans (KeepsOthers.setCell _ _ _)).trans (KeepsOthers.setCell _ _ _)).trans (KeepsOthers.setCell _ _ _)).trans (KeepsOthers.setCell _ _ _)
theorem kpx_set10 {X : Nat → Prop} {W w : World} (h : KpX X W w) {g : Nat} (hg : X g) (x0 x1 x2 x3 x4 x5 x6 x7 x8 x9 : Value) : KpX X W ((((((((((w.setCell ⟨g, 0, none⟩ x0).setCell ⟨g, 1, none⟩ x1).setCell ⟨g, 2, none⟩ x2).setCell ⟨g, 3, none⟩ x3).setCell ⟨g, 4, none⟩ x4).setCell ⟨g, 5, none⟩ x5).setCell ⟨g, 6, none⟩ x6).setCell ⟨g, 7, none⟩ x7).setCell ⟨g, 8, none⟩ x8).setCell ⟨g, 9, none⟩ x9) :=
  KpX.set (a := ⟨g, 9, none⟩) (KpX.set (a := ⟨g, 8, none⟩) (KpX.set (a := ⟨g, 7, none⟩) (KpX.set (a := ⟨g, 6, none⟩) (KpX.set (a := ⟨g, 5, none⟩) (KpX.set (a := ⟨g, 4, none⟩) (KpX.set (a := ⟨g, 3, none⟩) (KpX.set (a := ⟨g, 2, none⟩) (KpX.set (a := ⟨g, 1, none⟩) (KpX.set (a := ⟨g, 0, none⟩) h hg _) hg _) hg _) hg _) hg _) hg _) hg _) hg _) hg _) hg _
def restP (s : List UInt8) (m : Mo) (pre : List PN) : Mo := pre.foldl (fun m x => rest1 s m x.1) m
theorem restP_snoc (s : List UInt8) (m : Mo) (pre : List PN) (x : PN) : restP s m (pre ++ [x]) = rest1 s (restP s m pre) x.1 := by simp [restP]
theorem restP_prs (s : List UInt8) (hs : s.length = 12) : ∀ (l : List Int) (m : Mo), restP s m (prs l) = restS s m l
  | [], _ => rfl
  | x :: l, m => by
    show _ = restS s (rest1 s m x) l
    cases h : canM true x with
    | true =>
      rw [prs_cons_yes h, ← restP_prs s hs l _]
      rfl
    | false => rw [prs_cons_no h, rest1_no hs h, restP_prs s hs l m]
set_option maxRecDepth 100000 in
set_option maxHeartbeats 8000000 in
theorem prest_none (m : Mo) (A : Option Addr) (l : List Int) (c n : Nat) (w : World) :
    Calls Try.prog 12 #[savV sav0, moV m, .slice A n c] w (MoW (restS sav0 m l) w) := by
  have hsv : savV sav0 = .agg #[.int .u8 0, .int .u8 0, .int .u8 0, .int .u8 0, .int .u8 0, .int .u8 0, .int .u8 0, .int .u8 0, .int .u8 0, .int .u8 0, .int .u8 0, .int .u8 0] := rfl
  have HR := Lib.hid (rest_none m l)
  rw [hsv, moV]
  have k3 := ((Blk.new w 28 #[.int .u8 0, .int .u8 0, .int .u8 0, .int .u8 0, .int .u8 0, .int .u8 0, .int .u8 0, .int .u8 0, .int .u8 0, .int .u8 0, .int .u8 0, .int .u8 0]).alloc (.cells #[.bool m.cursor, .bool m.keypad, .bool m.back, .bool m.focus, .bool m.paste, .bool m.lock, .bool m.line, .int .i64 m.mouse, .int .i64 m.coding, .int .i64 m.other] 25)).alloc (.cells #[.bool false, .bool false, .bool false, .bool false, .bool false, .bool false, .bool false, .int .i64 0, .int .i64 0, .int .i64 0] 25)
  have k4 := (Blk.new (w.alloc (.cells #[.int .u8 0, .int .u8 0, .int .u8 0, .int .u8 0, .int .u8 0, .int .u8 0, .int .u8 0, .int .u8 0, .int .u8 0, .int .u8 0, .int .u8 0, .int .u8 0] 28)) 25 #[.bool m.cursor, .bool m.keypad, .bool m.back, .bool m.focus, .bool m.paste, .bool m.lock, .bool m.line, .int .i64 m.mouse, .int .i64 m.coding, .int .i64 m.other]).alloc (.cells #[.bool false, .bool false, .bool false, .bool false, .bool false, .bool false, .bool false, .int .i64 0, .int .i64 0, .int .i64 0] 25)
  have k6 := Blk.new ((w.alloc (.cells #[.int .u8 0, .int .u8 0, .int .u8 0, .int .u8 0, .int .u8 0, .int .u8 0, .int .u8 0, .int .u8 0, .int .u8 0, .int .u8 0, .int .u8 0, .int .u8 0] 28)).alloc (.cells #[.bool m.cursor, .bool m.keypad, .bool m.back, .bool m.focus, .bool m.paste, .bool m.lock, .bool m.line, .int .i64 m.mouse, .int .i64 m.coding, .int .i64 m.other] 25)) 25 #[.bool false, .bool false, .bool false, .bool false, .bool false, .bool false, .bool false, .int .i64 0, .int .i64 0, .int .i64 0]
  simp only [World.size_alloc] at k4 k6
  have hB0 : Below w.heap.size w (((w.alloc (.cells #[.int .u8 0, .int .u8 0, .int .u8 0, .int .u8 0, .int .u8 0, .int .u8 0, .int .u8 0, .int .u8 0, .int .u8 0, .int .u8 0, .int .u8 0, .int .u8 0] 28)).alloc (.cells #[.bool m.cursor, .bool m.keypad, .bool m.back, .bool m.focus, .bool m.paste, .bool m.lock, .bool m.line, .int .i64 m.mouse, .int .i64 m.coding, .int .i64 m.other] 25)).alloc (.cells #[.bool false, .bool false, .bool false, .bool false, .bool false, .bool false, .bool false, .int .i64 0, .int .i64 0, .int .i64 0] 25)) :=
    (((Below.refl _ w).alloc (Nat.le_refl _) _).alloc (by simp) _).alloc (by simp; omega) _
  have hq : ∀ W : World, (binOp .eql 28 (.agg #[.int .u8 0, .int .u8 0, .int .u8 0, .int .u8 0, .int .u8 0, .int .u8 0, .int .u8 0, .int .u8 0, .int .u8 0, .int .u8 0, .int .u8 0, .int .u8 0]) (.agg #[.int .u8 0, .int .u8 0, .int .u8 0, .int .u8 0, .int .u8 0, .int .u8 0, .int .u8 0, .int .u8 0, .int .u8 0, .int .u8 0, .int .u8 0, .int .u8 0])).run Try.prog W = .ok (.bool true) W := fun W => by
    have := eqlP sav0 sav0 rfl rfl W
    rw [hsv] at this
    simpa using this
  have hBE : Below w.heap.size w (((w.alloc (.cells #[.int .u8 0, .int .u8 0, .int .u8 0, .int .u8 0, .int .u8 0, .int .u8 0, .int .u8 0, .int .u8 0, .int .u8 0, .int .u8 0, .int .u8 0, .int .u8 0] 28)).alloc (.cells #[.bool m.cursor, .bool m.keypad, .bool m.back, .bool m.focus, .bool m.paste, .bool m.lock, .bool m.line, .int .i64 m.mouse, .int .i64 m.coding, .int .i64 m.other] 25)).alloc (.cells #[.bool m.cursor, .bool m.keypad, .bool m.back, .bool m.focus, .bool m.paste, .bool m.lock, .bool m.line, .int .i64 m.mouse, .int .i64 m.coding, .int .i64 m.other] 25)) :=
    (((Below.refl _ w).alloc (Nat.le_refl _) _).alloc (by simp) _).alloc (by simp; omega) _
  have kF := Blk.new ((w.alloc (.cells #[.int .u8 0, .int .u8 0, .int .u8 0, .int .u8 0, .int .u8 0, .int .u8 0, .int .u8 0, .int .u8 0, .int .u8 0, .int .u8 0, .int .u8 0, .int .u8 0] 28)).alloc (.cells #[.bool m.cursor, .bool m.keypad, .bool m.back, .bool m.focus, .bool m.paste, .bool m.lock, .bool m.line, .int .i64 m.mouse, .int .i64 m.coding, .int .i64 m.other] 25)) 25 #[.bool m.cursor, .bool m.keypad, .bool m.back, .bool m.focus, .bool m.paste, .bool m.lock, .bool m.line, .int .i64 m.mouse, .int .i64 m.coding, .int .i64 m.other]
  simp only [World.size_alloc] at kF
  obtain ⟨c0, c1, c2, c3, c4, c5, c6, c7, c8, c9, c10, c11⟩ := Blk.cells12 k3
  obtain ⟨d0, d1, d2, d3, d4, d5, d6, d7, d8, d9⟩ := Blk.cells10 k4
  obtain ⟨q0, q1, q2, q3, q4, q5, q6, q7, q8, q9⟩ := Blk.cells10 k6
  have z0 := k6.frozen 0; have z1 := k6.frozen 1; have z2 := k6.frozen 2; have z3 := k6.frozen 3; have z4 := k6.frozen 4; have z5 := k6.frozen 5; have z6 := k6.frozen 6; have z7 := k6.frozen 7; have z8 := k6.frozen 8; have z9 := k6.frozen 9
  obtain ⟨r0, r1, r2, r3, r4, r5, r6, r7, r8, r9⟩ := Blk.cells10 kF
  clear k3 k4 k6 kF hB0 hsv
  refine (callsIn_wide (n := 3)).1 ?_
  refine callsIn_of_wp_marks Try.func12 rfl trivial ?_ rfl
  simp only [Try.ntmps12, List.size_toArray, List.length_cons, List.length_nil, Nat.reduceAdd, Nat.reduceSub, Array.replicate_succ, Array.replicate_zero, List.push_toArray, List.append_toArray, List.nil_append, List.cons_append]
  gi_wp2_with fail
  refine ⟨.agg #[.bool m.cursor, .bool m.keypad, .bool m.back, .bool m.focus, .bool m.paste, .bool m.lock, .bool m.line, .int .i64 m.mouse, .int .i64 m.coding, .int .i64 m.other], ?_, ⟨by rw [HR.out, moV], hBE⟩⟩
  simp [results, Try.f12, go_sem, r0, r1, r2, r3, r4, r5, r6, r7, r8, r9]
set_option maxRecDepth 100000 in
set_option maxHeartbeats 16000000 in
theorem prest_some (s : List UInt8) (hs : s.length = 12) (hne : s ≠ sav0) (m : Mo) (A : Option Addr) (l : List Int) (c n : Nat) (hn : l.length = n) (hnl : n ≤ 4294967296) (w : World) (hr : Rd w A (is_ l)) :
    Calls Try.prog 12 #[savV s, moV m, .slice A n c] w (MoW (restS s m l) w) := by
  obtain ⟨b0, b1, b2, b3, b4, b5, b6, b7, b8, b9, b10, b11, hb⟩ := of12 hs
  have hsc : savC s = #[.int .u8 (b0.toNat : Int), .int .u8 (b1.toNat : Int), .int .u8 (b2.toNat : Int), .int .u8 (b3.toNat : Int), .int .u8 (b4.toNat : Int), .int .u8 (b5.toNat : Int), .int .u8 (b6.toNat : Int), .int .u8 (b7.toNat : Int), .int .u8 (b8.toNat : Int), .int .u8 (b9.toNat : Int), .int .u8 (b10.toNat : Int), .int .u8 (b11.toNat : Int)] := by rw [hb]; rfl
  have hsv : savV s = .agg #[.int .u8 (b0.toNat : Int), .int .u8 (b1.toNat : Int), .int .u8 (b2.toNat : Int), .int .u8 (b3.toNat : Int), .int .u8 (b4.toNat : Int), .int .u8 (b5.toNat : Int), .int .u8 (b6.toNat : Int), .int .u8 (b7.toNat : Int), .int .u8 (b8.toNat : Int), .int .u8 (b9.toNat : Int), .int .u8 (b10.toNat : Int), .int .u8 (b11.toNat : Int)] := by rw [savV, hsc]
  have HSC := Lib.hid hsc
  have HL := Lib.hid hs
  have HP := Lib.hid (restP_prs s hs l m)
  have hq : ∀ W : World, (binOp .eql 28 (.agg #[.int .u8 (b0.toNat : Int), .int .u8 (b1.toNat : Int), .int .u8 (b2.toNat : Int), .int .u8 (b3.toNat : Int), .int .u8 (b4.toNat : Int), .int .u8 (b5.toNat : Int), .int .u8 (b6.toNat : Int), .int .u8 (b7.toNat : Int), .int .u8 (b8.toNat : Int), .int .u8 (b9.toNat : Int), .int .u8 (b10.toNat : Int), .int .u8 (b11.toNat : Int)]) (.agg #[.int .u8 0, .int .u8 0, .int .u8 0, .int .u8 0, .int .u8 0, .int .u8 0, .int .u8 0, .int .u8 0, .int .u8 0, .int .u8 0, .int .u8 0, .int .u8 0])).run Try.prog W = .ok (.bool false) W := fun W => by
    have := eqlP s sav0 hs rfl W
    rw [hsv, show savV sav0 = .agg #[.int .u8 0, .int .u8 0, .int .u8 0, .int .u8 0, .int .u8 0, .int .u8 0, .int .u8 0, .int .u8 0, .int .u8 0, .int .u8 0, .int .u8 0, .int .u8 0] from rfl] at this
    rw [this]
    simp [hne]
  rw [hsv, moV]
  clear hsv hsc hb hs hne
  have k3 := (((Blk.new w 28 #[.int .u8 (b0.toNat : Int), .int .u8 (b1.toNat : Int), .int .u8 (b2.toNat : Int), .int .u8 (b3.toNat : Int), .int .u8 (b4.toNat : Int), .int .u8 (b5.toNat : Int), .int .u8 (b6.toNat : Int), .int .u8 (b7.toNat : Int), .int .u8 (b8.toNat : Int), .int .u8 (b9.toNat : Int), .int .u8 (b10.toNat : Int), .int .u8 (b11.toNat : Int)]).alloc (.cells #[.bool m.cursor, .bool m.keypad, .bool m.back, .bool m.focus, .bool m.paste, .bool m.lock, .bool m.line, .int .i64 m.mouse, .int .i64 m.coding, .int .i64 m.other] 25)).alloc (.cells #[.bool false, .bool false, .bool false, .bool false, .bool false, .bool false, .bool false, .int .i64 0, .int .i64 0, .int .i64 0] 25)).alloc (.cells #[.slice A n c] 26)
  have k4 := ((Blk.new (w.alloc (.cells #[.int .u8 (b0.toNat : Int), .int .u8 (b1.toNat : Int), .int .u8 (b2.toNat : Int), .int .u8 (b3.toNat : Int), .int .u8 (b4.toNat : Int), .int .u8 (b5.toNat : Int), .int .u8 (b6.toNat : Int), .int .u8 (b7.toNat : Int), .int .u8 (b8.toNat : Int), .int .u8 (b9.toNat : Int), .int .u8 (b10.toNat : Int), .int .u8 (b11.toNat : Int)] 28)) 25 #[.bool m.cursor, .bool m.keypad, .bool m.back, .bool m.focus, .bool m.paste, .bool m.lock, .bool m.line, .int .i64 m.mouse, .int .i64 m.coding, .int .i64 m.other]).alloc (.cells #[.bool false, .bool false, .bool false, .bool false, .bool false, .bool false, .bool false, .int .i64 0, .int .i64 0, .int .i64 0] 25)).alloc (.cells #[.slice A n c] 26)
  have k6 := (Blk.new ((w.alloc (.cells #[.int .u8 (b0.toNat : Int), .int .u8 (b1.toNat : Int), .int .u8 (b2.toNat : Int), .int .u8 (b3.toNat : Int), .int .u8 (b4.toNat : Int), .int .u8 (b5.toNat : Int), .int .u8 (b6.toNat : Int), .int .u8 (b7.toNat : Int), .int .u8 (b8.toNat : Int), .int .u8 (b9.toNat : Int), .int .u8 (b10.toNat : Int), .int .u8 (b11.toNat : Int)] 28)).alloc (.cells #[.bool m.cursor, .bool m.keypad, .bool m.back, .bool m.focus, .bool m.paste, .bool m.lock, .bool m.line, .int .i64 m.mouse, .int .i64 m.coding, .int .i64 m.other] 25)) 25 #[.bool false, .bool false, .bool false, .bool false, .bool false, .bool false, .bool false, .int .i64 0, .int .i64 0, .int .i64 0]).alloc (.cells #[.slice A n c] 26)
  have bx := Blk.new (((w.alloc (.cells #[.int .u8 (b0.toNat : Int), .int .u8 (b1.toNat : Int), .int .u8 (b2.toNat : Int), .int .u8 (b3.toNat : Int), .int .u8 (b4.toNat : Int), .int .u8 (b5.toNat : Int), .int .u8 (b6.toNat : Int), .int .u8 (b7.toNat : Int), .int .u8 (b8.toNat : Int), .int .u8 (b9.toNat : Int), .int .u8 (b10.toNat : Int), .int .u8 (b11.toNat : Int)] 28)).alloc (.cells #[.bool m.cursor, .bool m.keypad, .bool m.back, .bool m.focus, .bool m.paste, .bool m.lock, .bool m.line, .int .i64 m.mouse, .int .i64 m.coding, .int .i64 m.other] 25)).alloc (.cells #[.bool false, .bool false, .bool false, .bool false, .bool false, .bool false, .bool false, .int .i64 0, .int .i64 0, .int .i64 0] 25)) 26 #[.slice A n c]
  simp only [World.size_alloc] at k4 k6 bx
  have hB0 : Below w.heap.size w ((((w.alloc (.cells #[.int .u8 (b0.toNat : Int), .int .u8 (b1.toNat : Int), .int .u8 (b2.toNat : Int), .int .u8 (b3.toNat : Int), .int .u8 (b4.toNat : Int), .int .u8 (b5.toNat : Int), .int .u8 (b6.toNat : Int), .int .u8 (b7.toNat : Int), .int .u8 (b8.toNat : Int), .int .u8 (b9.toNat : Int), .int .u8 (b10.toNat : Int), .int .u8 (b11.toNat : Int)] 28)).alloc (.cells #[.bool m.cursor, .bool m.keypad, .bool m.back, .bool m.focus, .bool m.paste, .bool m.lock, .bool m.line, .int .i64 m.mouse, .int .i64 m.coding, .int .i64 m.other] 25)).alloc (.cells #[.bool false, .bool false, .bool false, .bool false, .bool false, .bool false, .bool false, .int .i64 0, .int .i64 0, .int .i64 0] 25)).alloc (.cells #[.slice A n c] 26)) :=
    ((((Below.refl _ w).alloc (Nat.le_refl _) _).alloc (by simp) _).alloc (by simp; omega) _).alloc (by simp; omega) _
  have hro : RdOff ((((w.alloc (.cells #[.int .u8 (b0.toNat : Int), .int .u8 (b1.toNat : Int), .int .u8 (b2.toNat : Int), .int .u8 (b3.toNat : Int), .int .u8 (b4.toNat : Int), .int .u8 (b5.toNat : Int), .int .u8 (b6.toNat : Int), .int .u8 (b7.toNat : Int), .int .u8 (b8.toNat : Int), .int .u8 (b9.toNat : Int), .int .u8 (b10.toNat : Int), .int .u8 (b11.toNat : Int)] 28)).alloc (.cells #[.bool m.cursor, .bool m.keypad, .bool m.back, .bool m.focus, .bool m.paste, .bool m.lock, .bool m.line, .int .i64 m.mouse, .int .i64 m.coding, .int .i64 m.other] 25)).alloc (.cells #[.bool false, .bool false, .bool false, .bool false, .bool false, .bool false, .bool false, .int .i64 0, .int .i64 0, .int .i64 0] 25)).alloc (.cells #[.slice A n c] 26)) (fun k => k = w.heap.size + 1) A (is_ l) := RdOff.of_rdIn (n₁ := w.heap.size) ((RdIn.of hr).below hB0) (by simp; omega) (fun k hk => by omega)
  have kk3 := (Blk.new w 28 #[.int .u8 (b0.toNat : Int), .int .u8 (b1.toNat : Int), .int .u8 (b2.toNat : Int), .int .u8 (b3.toNat : Int), .int .u8 (b4.toNat : Int), .int .u8 (b5.toNat : Int), .int .u8 (b6.toNat : Int), .int .u8 (b7.toNat : Int), .int .u8 (b8.toNat : Int), .int .u8 (b9.toNat : Int), .int .u8 (b10.toNat : Int), .int .u8 (b11.toNat : Int)]).alloc (.cells #[.bool m.cursor, .bool m.keypad, .bool m.back, .bool m.focus, .bool m.paste, .bool m.lock, .bool m.line, .int .i64 m.mouse, .int .i64 m.coding, .int .i64 m.other] 25)
  obtain ⟨c0, c1, c2, c3, c4, c5, c6, c7, c8, c9, c10, c11⟩ := Blk.cells12 kk3
  clear kk3
  refine (callsIn_wide (n := 3)).1 ?_
  refine callsIn_of_wp_marks Try.func12 rfl trivial ?_ rfl
  simp only [Try.ntmps12, List.size_toArray, List.length_cons, List.length_nil, Nat.reduceAdd, Nat.reduceSub, Array.replicate_succ, Array.replicate_zero, List.push_toArray, List.append_toArray, List.nil_append, List.cons_append]
  gi_wp2_with fail
  refine ⟨trivial, ?_⟩
  gi_at_call 18
  refine (callsIn_wide.2 (places_any A n c _)).mono ?_
  rintro e w1 ⟨rfl, rfl⟩
  clear c0 c1 c2 c3 c4 c5 c6 c7 c8 c9 c10 c11
  gi_wp2_with fail
  refine wpIn_rangeFunc_ownG rfl (by omega) (gf := 29) (lb := #[.pointer (some ⟨w.heap.size + 1 + 1 + 1, 0, none⟩)]) rfl trivial (enters_of Try.func29 (by kernel_rfl) rfl)
    (pl_stops 2 (by omega) (w.heap.size + 1 + 1 + 1) c n A l hn hnl (fun k => k = w.heap.size + 1) (by omega) _ (fun k hk => by simp; omega) bx hro) KpX.trans (fun W i o o' _ h hc _ => KpX.put _ W i o o' h hc) (Below.refl _ _) (fun _ => rfl)
    (fun (pre : List PN) W => ((Blk W w.heap.size 28 (savC s) ∧ Blk W (w.heap.size + 1) 25 (moC (restP s m pre))) ∧ Blk W (w.heap.size + 1 + 1) 25 #[.bool false, .bool false, .bool false, .bool false, .bool false, .bool false, .bool false, .int .i64 0, .int .i64 0, .int .i64 0]) ∧ Below w.heap.size w W)
    (fun _ (_ : List PN) _ => False)
    (OwnFrom.and (OwnFrom.and (OwnFrom.and (Go.Own.from (blk_own w.heap.size 28 fun _ => savC s) _) (Go.Own.from (blk_own (w.heap.size + 1) 25 fun pre => moC (restP s m pre)) _)) (Go.Own.from (blk_own (w.heap.size + 1 + 1) 25 fun _ => #[.bool false, .bool false, .bool false, .bool false, .bool false, .bool false, .bool false, .int .i64 0, .int .i64 0, .int .i64 0]) _)) (ownFrom_below (Nat.le_refl _) (by simp; omega)))
    (fun _ => ownFrom_no _)
    ⟨⟨⟨by rw [HSC.out]; exact k3, k4⟩, k6⟩, hB0⟩
    (fun x => { tmps := #[.agg #[.int .u8 (b0.toNat : Int), .int .u8 (b1.toNat : Int), .int .u8 (b2.toNat : Int), .int .u8 (b3.toNat : Int), .int .u8 (b4.toNat : Int), .int .u8 (b5.toNat : Int), .int .u8 (b6.toNat : Int), .int .u8 (b7.toNat : Int), .int .u8 (b8.toNat : Int), .int .u8 (b9.toNat : Int), .int .u8 (b10.toNat : Int), .int .u8 (b11.toNat : Int)], .agg #[.bool m.cursor, .bool m.keypad, .bool m.back, .bool m.focus, .bool m.paste, .bool m.lock, .bool m.line, .int .i64 m.mouse, .int .i64 m.coding, .int .i64 m.other], .slice A n c, .pointer (some ⟨w.heap.size, 0, none⟩), .pointer (some ⟨w.heap.size + 1, 0, none⟩), undef, .pointer (some ⟨w.heap.size + 1 + 1, 0, none⟩), .int .i64 (placeN x.1 : Int), .int .i64 x.1, .agg #[.int .u8 (b0.toNat : Int), .int .u8 (b1.toNat : Int), .int .u8 (b2.toNat : Int), .int .u8 (b3.toNat : Int), .int .u8 (b4.toNat : Int), .int .u8 (b5.toNat : Int), .int .u8 (b6.toNat : Int), .int .u8 (b7.toNat : Int), .int .u8 (b8.toNat : Int), .int .u8 (b9.toNat : Int), .int .u8 (b10.toNat : Int), .int .u8 (b11.toNat : Int)], .agg #[.int .u8 0, .int .u8 0, .int .u8 0, .int .u8 0, .int .u8 0, .int .u8 0, .int .u8 0, .int .u8 0, .int .u8 0, .int .u8 0, .int .u8 0, .int .u8 0], .bool false, undef, .slice A n c, .func (.func 29) #[] #[.pointer (some ⟨w.heap.size + 1 + 1 + 1, 0, none⟩)], .int .i64 (placeN x.1 : Int), .int .i64 x.1, undef, undef, undef, undef, undef, undef, undef, undef, undef, undef, undef, undef, undef, undef, undef, undef, undef, undef, undef, undef], defers := [] }) ?assign ?body ?done ?stop
  case assign =>
    intro l x W K hK
    gi_wp2
    exact hK
  case body =>
    clear k3 k4 k6 bx hB0 hro hr hq HP
    rintro l pre x W ⟨⟨⟨k3, k4⟩, k6⟩, hB⟩ _
    have hst := restP_snoc s m pre x
    have hx := pn_in x
    have hp := place_lt.2 x.2
    rw [rest1_at (by rw [HL.out]; exact hp)] at hst
    obtain ⟨mk, hmk⟩ : ∃ mk, restP s m pre = mk := ⟨_, rfl⟩
    obtain ⟨v, hv⟩ : ∃ v, s[placeN x.1]'(by rw [HL.out]; exact hp) = v := ⟨_, rfl⟩
    have co := (k3.cell (placeN x.1)).trans (savC_get (by rw [HL.out]; exact hp))
    rw [hv] at hst co
    rw [hmk] at hst k4
    obtain ⟨p, hpp⟩ : ∃ p, placeN x.1 = p := ⟨_, rfl⟩
    obtain ⟨z, hz⟩ : ∃ z, x.1 = z := ⟨_, rfl⟩
    rw [hpp] at hp co
    rw [hz] at hx hst
    rw [hpp, hz]
    have HST := Lib.hid hst
    have HX := Lib.hid hx
    have g0 : (0 : Int) ≤ (p : Int) := by omega
    have g1 : (p : Int) < 12 := by omega
    have co1 : W.cell? ⟨w.heap.size, p, none⟩ = some (.int .u8 (v.toNat : Int)) := co
    obtain ⟨c0, c1, c2, c3, c4, c5, c6, c7, c8, c9⟩ := Blk.cells10 k4
    clear hst hx hmk hpp hz co hv
    by_cases h1 : v = 1
    · obtain ⟨mn, q, hq⟩ : ∃ m' q, setM mk true z true = (m', q) := ⟨_, _, rfl⟩
      have HQ := Lib.hid hq
      have HE := Lib.hid (show restP s m (pre ++ [x]) = mn by rw [HST.out, if_pos h1, HQ.out])
      have t1 : ((v.toNat : Int) == 1) = true := by rw [h1]; rfl
      clear hq h1
      gi_wp2_with fail
      refine ⟨trivial, ?_⟩
      gi_at_call 14
      refine (CallsIn.inRound l (callsIn_wide.2 (pset_at (m := mk) _ HX.out HQ.out))).mono ?_
      rintro e w3 ⟨rfl, hb3⟩
      have f3 := k3.below hb3 k3.lt
      have f4 := k4.below hb3 k4.lt
      have f6 := k6.below hb3 k6.lt
      have hB3 := below_step hB hb3 hB.size
      have kp3 : KpX (fun k => k = w.heap.size + 1) W w3 := KpX.of_below hb3
      have ko3 := keeps_below hb3
      obtain ⟨e0, e1, e2, e3, e4, e5, e6, e7, e8, e9⟩ := Blk.cells10 f4
      have z0 := f4.frozen 0; have z1 := f4.frozen 1; have z2 := f4.frozen 2; have z3 := f4.frozen 3; have z4 := f4.frozen 4; have z5 := f4.frozen 5; have z6 := f4.frozen 6; have z7 := f4.frozen 7; have z8 := f4.frozen 8; have z9 := f4.frozen 9
      have kE := f4.set10 (.bool mn.cursor) (.bool mn.keypad) (.bool mn.back) (.bool mn.focus) (.bool mn.paste) (.bool mn.lock) (.bool mn.line) (.int .i64 mn.mouse) (.int .i64 mn.coding) (.int .i64 mn.other)
      have e3 := f3.far10 (b := w.heap.size + 1) (by omega) (.bool mn.cursor) (.bool mn.keypad) (.bool mn.back) (.bool mn.focus) (.bool mn.paste) (.bool mn.lock) (.bool mn.line) (.int .i64 mn.mouse) (.int .i64 mn.coding) (.int .i64 mn.other)
      have e6 := f6.far10 (b := w.heap.size + 1) (by omega) (.bool mn.cursor) (.bool mn.keypad) (.bool mn.back) (.bool mn.focus) (.bool mn.paste) (.bool mn.lock) (.bool mn.line) (.int .i64 mn.mouse) (.int .i64 mn.coding) (.int .i64 mn.other)
      have hBE := below_set10 hB3 (g := w.heap.size + 1) (by omega) (.bool mn.cursor) (.bool mn.keypad) (.bool mn.back) (.bool mn.focus) (.bool mn.paste) (.bool mn.lock) (.bool mn.line) (.int .i64 mn.mouse) (.int .i64 mn.coding) (.int .i64 mn.other)
      have kpE := kpx_set10 kp3 (g := w.heap.size + 1) rfl (.bool mn.cursor) (.bool mn.keypad) (.bool mn.back) (.bool mn.focus) (.bool mn.paste) (.bool mn.lock) (.bool mn.line) (.int .i64 mn.mouse) (.int .i64 mn.coding) (.int .i64 mn.other)
      have koE := ko3.trans (keeps_set10 w3 (w.heap.size + 1) (.bool mn.cursor) (.bool mn.keypad) (.bool mn.back) (.bool mn.focus) (.bool mn.paste) (.bool mn.lock) (.bool mn.line) (.int .i64 mn.mouse) (.int .i64 mn.coding) (.int .i64 mn.other))
      clear k3 k4 k6 hB co1 c0 c1 c2 c3 c4 c5 c6 c7 c8 c9 hb3 f3 f4 f6 hB3 kp3 ko3
      rw [moV]
      gi_wp2_with fail
      exact ⟨koE.from _, kpE, ⟨⟨e3, by rw [HE.out]; exact kE⟩, e6⟩, hBE⟩
    · have t1 : ((v.toNat : Int) == 1) = false := by
        refine beq_false_of_ne fun h => h1 (UInt8.toNat_inj.1 ?_)
        show v.toNat = 1
        omega
      by_cases h2 : v = 2
      · obtain ⟨mn, q, hq⟩ : ∃ m' q, setM mk true z false = (m', q) := ⟨_, _, rfl⟩
        have HQ := Lib.hid hq
        have HE := Lib.hid (show restP s m (pre ++ [x]) = mn by rw [HST.out, if_neg h1, if_pos h2, HQ.out])
        have t2 : ((v.toNat : Int) == 2) = true := by rw [h2]; rfl
        clear hq h1 h2
        gi_wp2_with fail
        refine ⟨trivial, ?_⟩
        gi_at_call 14
        refine (CallsIn.inRound l (callsIn_wide.2 (pset_at (m := mk) _ HX.out HQ.out))).mono ?_
        rintro e w3 ⟨rfl, hb3⟩
        have f3 := k3.below hb3 k3.lt
        have f4 := k4.below hb3 k4.lt
        have f6 := k6.below hb3 k6.lt
        have hB3 := below_step hB hb3 hB.size
        have kp3 : KpX (fun k => k = w.heap.size + 1) W w3 := KpX.of_below hb3
        have ko3 := keeps_below hb3
        obtain ⟨e0, e1, e2, e3, e4, e5, e6, e7, e8, e9⟩ := Blk.cells10 f4
        have z0 := f4.frozen 0; have z1 := f4.frozen 1; have z2 := f4.frozen 2; have z3 := f4.frozen 3; have z4 := f4.frozen 4; have z5 := f4.frozen 5; have z6 := f4.frozen 6; have z7 := f4.frozen 7; have z8 := f4.frozen 8; have z9 := f4.frozen 9
        have kE := f4.set10 (.bool mn.cursor) (.bool mn.keypad) (.bool mn.back) (.bool mn.focus) (.bool mn.paste) (.bool mn.lock) (.bool mn.line) (.int .i64 mn.mouse) (.int .i64 mn.coding) (.int .i64 mn.other)
        have e3 := f3.far10 (b := w.heap.size + 1) (by omega) (.bool mn.cursor) (.bool mn.keypad) (.bool mn.back) (.bool mn.focus) (.bool mn.paste) (.bool mn.lock) (.bool mn.line) (.int .i64 mn.mouse) (.int .i64 mn.coding) (.int .i64 mn.other)
        have e6 := f6.far10 (b := w.heap.size + 1) (by omega) (.bool mn.cursor) (.bool mn.keypad) (.bool mn.back) (.bool mn.focus) (.bool mn.paste) (.bool mn.lock) (.bool mn.line) (.int .i64 mn.mouse) (.int .i64 mn.coding) (.int .i64 mn.other)
        have hBE := below_set10 hB3 (g := w.heap.size + 1) (by omega) (.bool mn.cursor) (.bool mn.keypad) (.bool mn.back) (.bool mn.focus) (.bool mn.paste) (.bool mn.lock) (.bool mn.line) (.int .i64 mn.mouse) (.int .i64 mn.coding) (.int .i64 mn.other)
        have kpE := kpx_set10 kp3 (g := w.heap.size + 1) rfl (.bool mn.cursor) (.bool mn.keypad) (.bool mn.back) (.bool mn.focus) (.bool mn.paste) (.bool mn.lock) (.bool mn.line) (.int .i64 mn.mouse) (.int .i64 mn.coding) (.int .i64 mn.other)
        have koE := ko3.trans (keeps_set10 w3 (w.heap.size + 1) (.bool mn.cursor) (.bool mn.keypad) (.bool mn.back) (.bool mn.focus) (.bool mn.paste) (.bool mn.lock) (.bool mn.line) (.int .i64 mn.mouse) (.int .i64 mn.coding) (.int .i64 mn.other))
        clear k3 k4 k6 hB co1 c0 c1 c2 c3 c4 c5 c6 c7 c8 c9 hb3 f3 f4 f6 hB3 kp3 ko3
        rw [moV]
        gi_wp2_with fail
        exact ⟨koE.from _, kpE, ⟨⟨e3, by rw [HE.out]; exact kE⟩, e6⟩, hBE⟩
      · have HE := Lib.hid (show restP s m (pre ++ [x]) = mk by rw [HST.out, if_neg h1, if_neg h2])
        have t2 : ((v.toNat : Int) == 2) = false := by
          refine beq_false_of_ne fun h => h2 (UInt8.toNat_inj.1 ?_)
          show v.toNat = 2
          omega
        clear h1 h2
        gi_wp2
        exact ⟨(KeepsOthers.refl _).from _, KpX.refl _ _, ⟨⟨k3, by rw [HE.out]; exact k4⟩, k6⟩, hB⟩
  case done =>
    clear k3 k4 k6 bx hB0 hro hr hq
    rintro D ys W hD rfl ⟨⟨⟨k3, k4⟩, k6⟩, hB⟩ hK
    rw [HP.out] at k4
    obtain ⟨mr, hmr⟩ : ∃ mr, restS s m l = mr := ⟨_, rfl⟩
    rw [hmr] at k4
    have HMR := Lib.hid hmr
    clear hmr
    obtain ⟨c0, c1, c2, c3, c4, c5, c6, c7, c8, c9⟩ := Blk.cells10 k4
    obtain ⟨q0, q1, q2, q3, q4, q5, q6, q7, q8, q9⟩ := Blk.cells10 k6
    have z0 := k6.frozen 0; have z1 := k6.frozen 1; have z2 := k6.frozen 2; have z3 := k6.frozen 3; have z4 := k6.frozen 4; have z5 := k6.frozen 5; have z6 := k6.frozen 6; have z7 := k6.frozen 7; have z8 := k6.frozen 8; have z9 := k6.frozen 9
    have kE := k6.set10 (.bool mr.cursor) (.bool mr.keypad) (.bool mr.back) (.bool mr.focus) (.bool mr.paste) (.bool mr.lock) (.bool mr.line) (.int .i64 mr.mouse) (.int .i64 mr.coding) (.int .i64 mr.other)
    have hK' := (keeps_set10 W (w.heap.size + 1 + 1) (.bool mr.cursor) (.bool mr.keypad) (.bool mr.back) (.bool mr.focus) (.bool mr.paste) (.bool mr.lock) (.bool mr.line) (.int .i64 mr.mouse) (.int .i64 mr.coding) (.int .i64 mr.other)).same D _ hK rfl
    have hBE := below_set10 hB (g := w.heap.size + 1 + 1) (by omega) (.bool mr.cursor) (.bool mr.keypad) (.bool mr.back) (.bool mr.focus) (.bool mr.paste) (.bool mr.lock) (.bool mr.line) (.int .i64 mr.mouse) (.int .i64 mr.coding) (.int .i64 mr.other)
    have kF := kE.kpx (X := fun _ => False) (KpX.put _ _ D _ (.deferred none) hK' rfl) (fun h => h)
    obtain ⟨r0, r1, r2, r3, r4, r5, r6, r7, r8, r9⟩ := Blk.cells10 kF
    gi_wp2
    refine ⟨by simp, .inl ⟨_, _, rfl, run_takeDeferred hK', ?_⟩⟩
    refine ⟨.agg #[.bool mr.cursor, .bool mr.keypad, .bool mr.back, .bool mr.focus, .bool mr.paste, .bool mr.lock, .bool mr.line, .int .i64 mr.mouse, .int .i64 mr.coding, .int .i64 mr.other], ?_, ⟨by rw [HMR.out, moV], hBE.trans (belowK_b (w := w) (Nat.le_refl _) _ D _ _ (by simp at hD; omega) hK' rfl rfl)⟩⟩
    simp [results, Try.f12, go_sem, r0, r1, r2, r3, r4, r5, r6, r7, r8, r9]
  case stop =>
    rintro D j pre W hD hpre hf hK
    exact hf.elim
/-- All that the layer's laws need of the program. -/
theorem savC_ : SavC fun _ => True :=
  ⟨fun _ _ => trivial, fun s hs m A l c n w _ hn hnl _ _ hr => psave_any s hs m A l c n hn hnl w hr, fun s hs m A l c n w _ hn hnl _ _ hr => by
    by_cases h : s = sav0
    · subst h
      exact prest_none m A l c n w
    · exact prest_some s hs h m A l c n hn hnl w hr⟩
end Go.Proofs.Ytokhchejkfhmmaa
