/-
  Layer 16, walked over the landed mouse: MouseBack.
-/
import Derived.Test.YtjlhhelikiegdaaDoorG15
import Derived.Test.YtjlhhelikiegdaaDoorG43
namespace Go.Proofs.YtjlhhelikiegdaaDoor
open Go.RowKit
theorem enc_len16 {e : Ms} (h : mayT e = true) : (encM 1003 1006 e).length ≤ 4294967296 := by
 obtain ⟨hm, he⟩ := enc_1006 1003 h
 rw [he]
 exact Nat.le_trans (may_small hm).2.2.1 (by decide)
theorem seq_eql (L1 L2 : List UInt8) (r : Bool) (h : r = true ↔ L1 = L2) (x y : Operand) (w : World) : (do eqGuard .eql 9 x y (.string ⟨L1.toArray⟩) (.string ⟨L2.toArray⟩); binOp .eql 9 (.string ⟨L1.toArray⟩) (.string ⟨L2.toArray⟩) : Sem Value).run Tryd.prog w = .ok (.bool r) w := by
 cases r with
 | true =>
   obtain rfl := h.1 rfl
   go_simp
 | false =>
   have hn : ¬ L1 = L2 := fun e => by simpa using h.2 e
   have hne : (⟨L1.toArray⟩ : ByteArray) ≠ ⟨L2.toArray⟩ := str_ne hn
   go_simp
theorem ms_eql (b0 b1 b2 b3 b4 c0 c1 c2 c3 c4 : Int) (r : Bool) (h : r = true ↔ (⟨b0, b1, b2, b3, b4⟩ : Ms) = ⟨c0, c1, c2, c3, c4⟩) (x y : Operand) (w : World) : (do eqGuard .eql 23 x y (.agg #[.int .i64 b0, .int .i64 b1, .int .i64 b2, .int .i64 b3, .int .i64 b4]) (.agg #[.int .i64 c0, .int .i64 c1, .int .i64 c2, .int .i64 c3, .int .i64 c4]); binOp .eql 23 (.agg #[.int .i64 b0, .int .i64 b1, .int .i64 b2, .int .i64 b3, .int .i64 b4]) (.agg #[.int .i64 c0, .int .i64 c1, .int .i64 c2, .int .i64 c3, .int .i64 c4]) : Sem Value).run Tryd.prog w = .ok (.bool r) w := by
 cases r with
 | true =>
   have e := h.1 rfl
   simp only [Ms.mk.injEq] at e
   obtain ⟨rfl, rfl, rfl, rfl, rfl⟩ := e
   exact ms_same _ _ _ _ _ _ _ _
 | false =>
   exact ms_diff _ _ _ _ _ _ _ _ _ _ (fun ⟨e0, e1, e2, e3, e4⟩ => by
    have := h.2 (by rw [e0, e1, e2, e3, e4])
    cases this) _ _ _
set_option maxRecDepth 100000 in
set_option maxHeartbeats 16000000 in
theorem mouseBack_walk (e f : Ms) (w : World) (hi : Siz w ∧ Tab w) : Calls Tryd.prog 3 #[msV e, msV f] w fun e w' => e = .returned (.bool true) ∧ Below w.heap.size w w' := by
 obtain ⟨btn, typ, x, y, md⟩ := e
 obtain ⟨fb, ft, fx, fy, fm⟩ := f
 unfold msV
 simp only
 obtain ⟨p, hp⟩ : ∃ p, mayT ⟨btn, typ, x, y, md⟩ = p := ⟨_, rfl⟩
 obtain ⟨q, hq⟩ : ∃ q, mayT ⟨fb, ft, fx, fy, fm⟩ = q := ⟨_, rfl⟩
 have HT : Hid (∀ W, Below w.heap.size w W → Tab W) := Lib.hid fun W hW => hi.2.below hW
 have HS : Hid (∀ W, Below w.heap.size w W → Siz W) := Lib.hid fun W hW => hi.1.below' hW
 have HME : Hid (∀ W, Calls Tryd.prog 8 #[.agg #[.int .i64 btn, .int .i64 typ, .int .i64 x, .int .i64 y, .int .i64 md]] W fun e w' => e = .returned (.bool p) ∧ Below W.heap.size W w') := Lib.hid fun W => by
  have := rmay15_any ⟨btn, typ, x, y, md⟩ W
  rw [hp] at this
  exact this
 have HMF : Hid (∀ W, Calls Tryd.prog 8 #[.agg #[.int .i64 fb, .int .i64 ft, .int .i64 fx, .int .i64 fy, .int .i64 fm]] W fun e w' => e = .returned (.bool q) ∧ Below W.heap.size W w') := Lib.hid fun W => by
  have := rmay15_any ⟨fb, ft, fx, fy, fm⟩ W
  rw [hq] at this
  exact this
 have ke := (Blk.new w 23 #[.int .i64 btn, .int .i64 typ, .int .i64 x, .int .i64 y, .int .i64 md]).alloc (.cells #[.int .i64 fb, .int .i64 ft, .int .i64 fx, .int .i64 fy, .int .i64 fm] 23)
 have kf := Blk.new (w.alloc (.cells #[.int .i64 btn, .int .i64 typ, .int .i64 x, .int .i64 y, .int .i64 md] 23)) 23 #[.int .i64 fb, .int .i64 ft, .int .i64 fx, .int .i64 fy, .int .i64 fm]
 rw [World.size_alloc] at kf
 have HB0 : Below w.heap.size w ((w.alloc (.cells #[.int .i64 btn, .int .i64 typ, .int .i64 x, .int .i64 y, .int .i64 md] 23)).alloc (.cells #[.int .i64 fb, .int .i64 ft, .int .i64 fx, .int .i64 fy, .int .i64 fm] 23)) := ((Below.refl _ w).alloc (Nat.le_refl _) _).alloc (by simp) _
 cases p with
 | false =>
   clear hp HMF
   go_enter Tryd.func3, Tryd.ntmps3
   go_wp2_with fail
   refine (mouAwake _ (HT.out _ HB0) (HS.out _ HB0)).mono ?_
   rintro e w1 ⟨rfl, hb1⟩
   have hB1 := HB0.trans (hb1.mono HB0.size)
   obtain ⟨a0, a1, a2, a3, a4⟩ := Blk.cells5 (ke.below hb1 ke.lt)
   go_wp2_with fail
   refine (HME.out _).mono ?_
   rintro e w2 ⟨rfl, hb2⟩
   go_wp2_with fail
   go_ret
   exact ⟨rfl, hB1.trans (hb2.mono hB1.size)⟩
 | true =>
 cases q with
 | false =>
   clear hp
   go_enter Tryd.func3, Tryd.ntmps3
   go_wp2_with fail
   refine (mouAwake _ (HT.out _ HB0) (HS.out _ HB0)).mono ?_
   rintro e w1 ⟨rfl, hb1⟩
   have hB1 := HB0.trans (hb1.mono HB0.size)
   have ke1 := ke.below hb1 ke.lt
   have kf1 := kf.below hb1 kf.lt
   obtain ⟨a0, a1, a2, a3, a4⟩ := Blk.cells5 ke1
   go_wp2_with fail
   refine (HME.out _).mono ?_
   rintro e w2 ⟨rfl, hb2⟩
   obtain ⟨b0, b1, b2, b3, b4⟩ := Blk.cells5 (kf1.below hb2 kf1.lt)
   have hB2 := hB1.trans (hb2.mono hB1.size)
   go_wp2_with fail
   refine (HMF.out _).mono ?_
   rintro e w3 ⟨rfl, hb3⟩
   go_wp2_with fail
   go_ret
   exact ⟨rfl, hB2.trans (hb3.mono hB2.size)⟩
 | true =>
   obtain ⟨L1, hL1⟩ : ∃ L, encM 1003 1006 ⟨btn, typ, x, y, md⟩ = L := ⟨_, rfl⟩
   obtain ⟨L2, hL2⟩ : ∃ L, encM 1003 1006 ⟨fb, ft, fx, fy, fm⟩ = L := ⟨_, rfl⟩
   obtain ⟨n1, hn1⟩ : ∃ n, L1.length = n := ⟨_, rfl⟩
   obtain ⟨n2, hn2⟩ : ∃ n, L2.length = n := ⟨_, rfl⟩
   have H1 := Lib.hid (enc_k 1003 1006 ⟨btn, typ, x, y, md⟩ ⟨by decide, by decide⟩ L1 n1 hL1 hn1 w hi.2 hi.1)
   have H2 := Lib.hid (enc_k 1003 1006 ⟨fb, ft, fx, fy, fm⟩ ⟨by decide, by decide⟩ L2 n2 hL2 hn2 w hi.2 hi.1)
   have hap := mou_apart hp hq
   have hbk := mou_back hp
   have hle := enc_len16 hp
   rw [hL1, hL2] at hap
   rw [hL1] at hbk hle
   rw [hn1] at hle
   simp only at hap hbk
   obtain ⟨_, ⟨m0, m1⟩, _⟩ := may_rng hp
   obtain ⟨_, ⟨f0, f1⟩, _⟩ := may_rng hq
   simp only at m0 m1 f0 f1
   have tm : Int.tmod md 8 = md % 8 := Int.tmod_eq_emod_of_nonneg m0
   have tf : Int.tmod fm 8 = fm % 8 := Int.tmod_eq_emod_of_nonneg f0
   obtain ⟨r, hr⟩ : ∃ r : Bool, r = true ↔ L1 = L2 := by
    by_cases h : L1 = L2
    ·exact ⟨true, by simp [h]⟩
    ·exact ⟨false, by simp [h]⟩
   have HSE := Lib.hid fun x y w => seq_eql L1 L2 r hr x y w
   have HME2 := Lib.hid fun X Y w => ms_eql btn typ x y (md % 8) fb ft fx fy (fm % 8) r (hr.trans hap) X Y w
   have HN1 := Lib.hid hn1
   have HN2 := Lib.hid hn2
   have HD : Hid (∀ A c W, n1 ≤ c → Below w.heap.size w W → Rd W A (bs L1) → Calls Tryd.prog 10 #[.slice A n1 c] W fun e w' => e = .returned (.tuple #[.agg #[.int .i64 btn, .int .i64 typ, .int .i64 x, .int .i64 y, .int .i64 (md % 8)], .bool true]) ∧ Below W.heap.size W w') := Lib.hid fun A c W hc hW hr => by
    have := mdecode_any A n1 c L1 hn1 hc hle W (HT.out W hW) (HS.out W hW) hr
    rw [hbk] at this
    exact this
   clear hp hq hL1 hL2 hn1 hn2 hap hbk hle hr hi
   go_enter Tryd.func3, Tryd.ntmps3
   go_wp2_with fail
   refine (mouAwake _ (HT.out _ HB0) (HS.out _ HB0)).mono ?_
   rintro e w1 ⟨rfl, hb1⟩
   have hB1 := HB0.trans (hb1.mono HB0.size)
   have ke1 := ke.below hb1 ke.lt
   have kf1 := kf.below hb1 kf.lt
   clear hb1 HB0 ke kf
   obtain ⟨a0, a1, a2, a3, a4⟩ := Blk.cells5 ke1
   go_wp2_with fail
   refine (HME.out _).mono ?_
   rintro e w2 ⟨rfl, hb2⟩
   have hB2 := hB1.trans (hb2.mono hB1.size)
   have ke2 := ke1.below hb2 ke1.lt
   have kf2 := kf1.below hb2 kf1.lt
   clear hb2 hB1 ke1 kf1 HME a0 a1 a2 a3 a4
   obtain ⟨b0, b1, b2, b3, b4⟩ := Blk.cells5 kf2
   go_wp2_with fail
   refine (HMF.out _).mono ?_
   rintro e w3 ⟨rfl, hb3⟩
   have hB3 := hB2.trans (hb3.mono hB2.size)
   have ke3 := ke2.below hb3 ke2.lt
   have kf3 := kf2.below hb3 kf2.lt
   clear hb3 hB2 ke2 kf2 HMF b0 b1 b2 b3 b4
   obtain ⟨a0, a1, a2, a3, a4⟩ := Blk.cells5 ke3
   go_wp2_with fail
   refine (H1.out _ hB3).mono ?_
   rintro e w4 ⟨A1, c1, rfl, hc1, hr1, hb4⟩
   have hB4 := hB3.trans (hb4.mono hB3.size)
   have ke4 := ke3.below hb4 ke3.lt
   have kf4 := kf3.below hb4 kf3.lt
   clear hb4 hB3 ke3 kf3 a0 a1 a2 a3 a4 H1
   obtain ⟨b0, b1, b2, b3, b4⟩ := Blk.cells5 kf4
   go_wp2_with fail
   refine (H2.out _ hB4).mono ?_
   rintro e w5 ⟨A2, c2, rfl, hc2, hr2, hb5⟩
   have hB5 := hB4.trans (hb5.mono hB4.size)
   have ke5 := ke4.below hb5 ke4.lt
   have kf5 := kf4.below hb5 kf4.lt
   replace hr1 := hr1.below hb5
   clear hb5 hB4 ke4 kf4 b0 b1 b2 b3 b4 H2
   obtain ⟨a0, a1, a2, a3, a4⟩ := Blk.cells5 ke5
   obtain ⟨b0, b1, b2, b3, b4⟩ := Blk.cells5 kf5
   have z4 := ke5.frozen 4
   have y4 := kf5.frozen 4
   have s1 := ((hr1.off_key ke5 rfl).fr (Fr.setCell w5 (w.heap.size) 4 (.int .i64 (md % 8)) (fun k => k = w.heap.size) rfl) (Wid.refl _ _)).rd
   have s2 := ((hr2.off_key ke5 rfl).fr (Fr.setCell w5 (w.heap.size) 4 (.int .i64 (md % 8)) (fun k => k = w.heap.size) rfl) (Wid.refl _ _)).rd
   have n1 := ke5.set 4 (.int .i64 (md % 8))
   have n2 := kf5.far (a := ⟨w.heap.size, 4, none⟩) (show w.heap.size + 1 ≠ w.heap.size by omega) (.int .i64 (md % 8))
   have n3 := hB5.setCell (p := ⟨w.heap.size, 4, none⟩) (show w.heap.size ≤ w.heap.size by omega) (.int .i64 (md % 8))
   obtain ⟨w6, hw6⟩ : ∃ W, w5.setCell ⟨w.heap.size, 4, none⟩ (.int .i64 (md % 8)) = W := ⟨_, rfl⟩
   rw [hw6] at s1 s2 n1 n2 n3
   clear hr1 hr2 ke5 kf5 hB5
   have hr1 := s1
   have hr2 := s2
   clear s1 s2
   have y5 := n2.frozen 4
   have b45 := n2.cell 4
   have s1 := ((hr1.off_key n2 rfl).fr (Fr.setCell w6 (w.heap.size + 1) 4 (.int .i64 (fm % 8)) (fun k => k = w.heap.size + 1) rfl) (Wid.refl _ _)).rd
   have s2 := ((hr2.off_key n2 rfl).fr (Fr.setCell w6 (w.heap.size + 1) 4 (.int .i64 (fm % 8)) (fun k => k = w.heap.size + 1) rfl) (Wid.refl _ _)).rd
   have q1 := n2.set 4 (.int .i64 (fm % 8))
   have q2 := n1.far (a := ⟨w.heap.size + 1, 4, none⟩) (show w.heap.size ≠ w.heap.size + 1 by omega) (.int .i64 (fm % 8))
   have q3 := n3.setCell (p := ⟨w.heap.size + 1, 4, none⟩) (show w.heap.size ≤ w.heap.size + 1 by omega) (.int .i64 (fm % 8))
   obtain ⟨w7, hw7⟩ : ∃ W, w6.setCell ⟨w.heap.size + 1, 4, none⟩ (.int .i64 (fm % 8)) = W := ⟨_, rfl⟩
   rw [hw7] at s1 s2 q1 q2 q3
   clear hr1 hr2 n1 n2 n3
   have b4' := q1.cell 4
   go_wp2_with fail
   try rw [hw6]
   try rw [hw7]
   refine (HD.out _ _ _ hc1 q3 s1).mono ?_
   rintro e w8 ⟨rfl, hb8⟩
   have hB8 := q3.trans (hb8.mono q3.size)
   have ke8 := q2.below hb8 q2.lt
   have kf8 := q1.below hb8 q1.lt
   have hr1 := s1.below hb8
   have hr2 := s2.below hb8
   clear s1 s2 q1 q2 q3 hb8 a0 a1 a2 a3 a4 b0 b1 b2 b3 b4 b4' b45 z4 y4 y5 hw6 hw7
   have d9 := Blk.new w8 23 #[.int .i64 btn, .int .i64 typ, .int .i64 x, .int .i64 y, .int .i64 (md % 8)]
   have ke9 := ke8.alloc (.cells #[.int .i64 btn, .int .i64 typ, .int .i64 x, .int .i64 y, .int .i64 (md % 8)] 23)
   have kf9 := kf8.alloc (.cells #[.int .i64 btn, .int .i64 typ, .int .i64 x, .int .i64 y, .int .i64 (md % 8)] 23)
   replace hr1 := hr1.alloc (.cells #[.int .i64 btn, .int .i64 typ, .int .i64 x, .int .i64 y, .int .i64 (md % 8)] 23)
   replace hr2 := hr2.alloc (.cells #[.int .i64 btn, .int .i64 typ, .int .i64 x, .int .i64 y, .int .i64 (md % 8)] 23)
   have hB9 := hB8.alloc hB8.size (.cells #[.int .i64 btn, .int .i64 typ, .int .i64 x, .int .i64 y, .int .i64 (md % 8)] 23)
   have hst : ∀ f ∈ ([] : List Fact), f.ok := fun _ h => by cases h
   clear ke8 kf8 hB8
   go_upto_region 9 with (fail)
   obtain ⟨w9, hw9⟩ : ∃ W, w8.alloc (.cells #[.int .i64 btn, .int .i64 typ, .int .i64 x, .int .i64 y, .int .i64 (md % 8)] 23) = W := ⟨_, rfl⟩
   rw [hw9] at d9 ke9 kf9 hr1 hr2 hB9 ⊢
   refine wp_region_told (w1 := w9) (K := []) (ix := 1000) (R0 := fun _ _ _ => True) (R1 := fun _ _ _ => True) [] (⟨#[.agg #[.int .i64 btn, .int .i64 typ, .int .i64 x, .int .i64 y, .int .i64 md], .agg #[.int .i64 fb, .int .i64 ft, .int .i64 fx, .int .i64 fy, .int .i64 fm], .pointer (some ⟨w.heap.size, 0, none⟩), .pointer (some ⟨w.heap.size + 1, 0, none⟩), .bool true, .bool true, .slice A1 n1 c1, .slice A2 n2 c2, .pointer (some ⟨w8.heap.size, 0, none⟩), .bool true, .bool true, .agg #[.int .i64 btn, .int .i64 typ, .int .i64 x, .int .i64 y, .int .i64 md], .bool true, .bool false, .bool false, .agg #[.int .i64 fb, .int .i64 ft, .int .i64 fx, .int .i64 fy, .int .i64 fm], .bool true, .bool false, .bool false, undef, .agg #[.int .i64 btn, .int .i64 typ, .int .i64 x, .int .i64 y, .int .i64 md], .slice A1 n1 c1, .agg #[.int .i64 fb, .int .i64 ft, .int .i64 fx, .int .i64 fy, .int .i64 fm], .slice A2 n2 c2, .pointer (some ⟨w.heap.size, 4, none⟩), .int .i64 md, .int .i64 (md % 8), .pointer (some ⟨w.heap.size, 4, none⟩), .pointer (some ⟨w.heap.size + 1, 4, none⟩), .int .i64 fm, .int .i64 (fm % 8), .pointer (some ⟨w.heap.size + 1, 4, none⟩), .tuple #[.agg #[.int .i64 btn, .int .i64 typ, .int .i64 x, .int .i64 y, .int .i64 (md % 8)], .bool true], .slice A1 n1 c1, .tuple #[.agg #[.int .i64 btn, .int .i64 typ, .int .i64 x, .int .i64 y, .int .i64 (md % 8)], .bool true], .agg #[.int .i64 btn, .int .i64 typ, .int .i64 x, .int .i64 y, .int .i64 (md % 8)], .bool true, .bool true, .bool true, .bool true, .bool true, .bool true, .agg #[.int .i64 btn, .int .i64 typ, .int .i64 x, .int .i64 y, .int .i64 (md % 8)], .agg #[.int .i64 btn, .int .i64 typ, .int .i64 x, .int .i64 y, .int .i64 (md % 8)], .bool true, .bool true, .bool true, .slice A1 n1 c1, .string ⟨L1.toArray⟩, .slice A2 n2 c2, .string ⟨L2.toArray⟩, .bool r, .agg #[.int .i64 btn, .int .i64 typ, .int .i64 x, .int .i64 y, .int .i64 (md % 8)], .agg #[.int .i64 fb, .int .i64 ft, .int .i64 fx, .int .i64 fy, .int .i64 (fm % 8)], .bool r, .bool true, .bool true], []⟩) (fun g => ⟨#[.agg #[.int .i64 btn, .int .i64 typ, .int .i64 x, .int .i64 y, .int .i64 md], .agg #[.int .i64 fb, .int .i64 ft, .int .i64 fx, .int .i64 fy, .int .i64 fm], .pointer (some ⟨w.heap.size, 0, none⟩), .pointer (some ⟨w.heap.size + 1, 0, none⟩), .bool true, .bool true, .slice A1 n1 c1, .slice A2 n2 c2, .pointer (some ⟨w8.heap.size, 0, none⟩), .bool true, .bool true, .agg #[.int .i64 btn, .int .i64 typ, .int .i64 x, .int .i64 y, .int .i64 md], .bool true, .bool false, .bool false, .agg #[.int .i64 fb, .int .i64 ft, .int .i64 fx, .int .i64 fy, .int .i64 fm], .bool true, .bool false, .bool false, undef, .agg #[.int .i64 btn, .int .i64 typ, .int .i64 x, .int .i64 y, .int .i64 md], .slice A1 n1 c1, .agg #[.int .i64 fb, .int .i64 ft, .int .i64 fx, .int .i64 fy, .int .i64 fm], .slice A2 n2 c2, .pointer (some ⟨w.heap.size, 4, none⟩), .int .i64 md, .int .i64 (md % 8), .pointer (some ⟨w.heap.size, 4, none⟩), .pointer (some ⟨w.heap.size + 1, 4, none⟩), .int .i64 fm, .int .i64 (fm % 8), .pointer (some ⟨w.heap.size + 1, 4, none⟩), .tuple #[.agg #[.int .i64 btn, .int .i64 typ, .int .i64 x, .int .i64 y, .int .i64 (md % 8)], .bool true], .slice A1 n1 c1, .tuple #[.agg #[.int .i64 btn, .int .i64 typ, .int .i64 x, .int .i64 y, .int .i64 (md % 8)], .bool true], .agg #[.int .i64 btn, .int .i64 typ, .int .i64 x, .int .i64 y, .int .i64 (md % 8)], .bool true, .bool true, .bool true, .bool true, .bool true, .bool true, .agg #[.int .i64 btn, .int .i64 typ, .int .i64 x, .int .i64 y, .int .i64 (md % 8)], .agg #[.int .i64 btn, .int .i64 typ, .int .i64 x, .int .i64 y, .int .i64 (md % 8)], .bool true, .bool true, .bool true, .slice A1 n1 c1, .string ⟨L1.toArray⟩, .slice A2 n2 c2, .string ⟨L2.toArray⟩, .bool r, .agg #[.int .i64 btn, .int .i64 typ, .int .i64 x, .int .i64 y, .int .i64 (md % 8)], .agg #[.int .i64 fb, .int .i64 ft, .int .i64 fx, .int .i64 fy, .int .i64 (fm % 8)], .bool r, .bool true, .bool true], []⟩) [.bool true, .bool true, .bool true, .bool true, .bool true, .agg #[.int .i64 btn, .int .i64 typ, .int .i64 x, .int .i64 y, .int .i64 (md % 8)], .agg #[.int .i64 btn, .int .i64 typ, .int .i64 x, .int .i64 y, .int .i64 (md % 8)], .bool true, .bool true, .bool true, .slice A1 n1 c1, .string ⟨L1.toArray⟩, .slice A2 n2 c2, .string ⟨L2.toArray⟩, .bool r, .agg #[.int .i64 btn, .int .i64 typ, .int .i64 x, .int .i64 y, .int .i64 (md % 8)], .agg #[.int .i64 fb, .int .i64 ft, .int .i64 fx, .int .i64 fy, .int .i64 (fm % 8)], .bool r, .bool true, .bool true, .bool true] (by kernel_rfl) (by kernel_rfl) (by kernel_rfl) (fun g => by kernel_rfl) (by kernel_rfl) (Below.refl _ _).drew (by decide) (by kernel_rfl)
    (goes_cons (gkP (fun _ => .bool true))
    (goes_cons (gkP (fun _ => .bool true))
    (goes_cons (gkP (fun _ => .bool true))
    (goes_cons (gkP (fun _ => .bool true))
    (goes_cons (gkP (fun _ => .bool true))
    (goes_cons (gkL hst (fun W hW => d9.below hW d9.lt) Tryd.underlying23)
    (goes_cons (gkL hst (fun W hW => ke9.below hW ke9.lt) Tryd.underlying23)
    (goes_cons (gkB (.bool true) (.agg #[.int .i64 btn, .int .i64 typ, .int .i64 x, .int .i64 y, .int .i64 (md % 8)]) (.agg #[.int .i64 btn, .int .i64 typ, .int .i64 x, .int .i64 y, .int .i64 (md % 8)]) (ms_same _ _ _ _ _ _ _))
    (goes_cons (gkP (fun _ => .bool true))
    (goes_cons (gkP (fun _ => .bool true))
    (goes_cons (gkP (fun _ => .slice A1 n1 c1))
    (goes_cons (goesK_conv (c := c1) HN1.out (fun W hW => hr1.below hW) Tryd.underlying26 Tryd.underlying5 Tryd.underlying9 hst (ahead_none (by decide)) rfl (by decide) (by decide) (by kernel_rfl) (fun g => by kernel_rfl) rfl (fun g => by kernel_rfl) rfl (fun g => by kernel_rfl))
    (goes_cons (gkP (fun _ => .slice A2 n2 c2))
    (goes_cons (goesK_conv (c := c2) HN2.out (fun W hW => hr2.below hW) Tryd.underlying26 Tryd.underlying5 Tryd.underlying9 hst (ahead_none (by decide)) rfl (by decide) (by decide) (by kernel_rfl) (fun g => by kernel_rfl) rfl (fun g => by kernel_rfl) rfl (fun g => by kernel_rfl))
    (goes_cons (gkB (.bool r) (.string ⟨L1.toArray⟩) (.string ⟨L2.toArray⟩) (HSE.out _ _))
    (goes_cons (gkL hst (fun W hW => ke9.below hW ke9.lt) Tryd.underlying23)
    (goes_cons (gkL hst (fun W hW => kf9.below hW kf9.lt) Tryd.underlying23)
    (goes_cons (gkB (.bool r) (.agg #[.int .i64 btn, .int .i64 typ, .int .i64 x, .int .i64 y, .int .i64 (md % 8)]) (.agg #[.int .i64 fb, .int .i64 ft, .int .i64 fx, .int .i64 fy, .int .i64 (fm % 8)]) (HME2.out _ _))
    (goes_cons (gkB (.bool true) (.bool r) (.bool r) (fun w => by cases r <;> kernel_rfl))
    (goes_cons (gkP (fun _ => .bool true))
    (goes_cons (gkP (fun _ => .bool true)) goes_nil))))))))))))))))))))) ?_
   intro g W hW _
   have hB10 := hB9.trans (hW.mono hB9.size)
   clear hst
   go_wp2_with fail
   go_ret
   exact ⟨rfl, hB10⟩
end Go.Proofs.YtjlhhelikiegdaaDoor
