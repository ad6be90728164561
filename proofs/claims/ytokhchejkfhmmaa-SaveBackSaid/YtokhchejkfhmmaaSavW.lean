/-
  Layer 7, walked: the landed Save.
-/
import Derived.Test.YtokhchejkfhmmaaSavI
import Derived.Test.YtokhchejkfhmmaaSavQ
import Derived.Test.YtokhchejkfhmmaaModJ
namespace Go.Proofs.Ytokhchejkfhmmaa
open Go.RowKit Go.Shelf
attribute [local go_sem] Oper.semAt_some

theorem blk_own {β : Type} (B : Nat) (t : TypeId) (f : β → Array Value) : Go.Own (fun s W => Blk W B t (f s)) := fun s X Y row hs hg hrow =>
  hs.grown hg (fun e' => by obtain ⟨o, ho, hc⟩ := hrow B e'; rw [show X.heap[B]? = _ from hs] at ho; cases ho; cases hc)
theorem ownFrom_no {β : Type} (B : Nat) : OwnFrom B (fun (_ : β) (_ : World) => False) := fun _ _ _ _ hs _ _ => hs
theorem keeps_below {W W' : World} (h : Below W.heap.size W W') : KeepsOthers W W' := ⟨h.size, fun k _ hk _ => (h.block k (Array.getElem?_eq_some_iff.1 hk).1).trans hk⟩
theorem keeps_set12 (w : World) (g : Nat) (x0 x1 x2 x3 x4 x5 x6 x7 x8 x9 x10 x11 : Value) : KeepsOthers w ((((((((((((w.setCell ⟨g, 0, none⟩ x0).setCell ⟨g, 1, none⟩ x1).setCell ⟨g, 2, none⟩ x2).setCell ⟨g, 3, none⟩ x3).setCell ⟨g, 4, none⟩ x4).setCell ⟨g, 5, none⟩ x5).setCell ⟨g, 6, none⟩ x6).setCell ⟨g, 7, none⟩ x7).setCell ⟨g, 8, none⟩ x8).setCell ⟨g, 9, none⟩ x9).setCell ⟨g, 10, none⟩ x10).setCell ⟨g, 11, none⟩ x11) :=
  (((((((((((KeepsOthers.setCell _ _ _).trans (KeepsOthers.setCell _ _ _)).trans (KeepsOthers.setCell _ _ _)).trans (KeepsOthers.setCell _ _ _)).trans (KeepsOthers.setCell _ _ _)).trans (KeepsOthers.setCell _ _ _)).trans (KeepsOthers.setCell _ _ _)).trans (KeepsOthers.setCell _ _ _)).trans (KeepsOthers.setCell _ _ _)).trans (KeepsOthers.setCell _ _ _)).trans (KeepsOthers.setCell _ _ _)).trans (KeepsOthers.setCell _ _ _)
def saveP (m : Mo) (s : List UInt8) (pre : List PN) : List UInt8 := pre.foldl (fun s x => save1 m s x.1) s
theorem saveP_len (m : Mo) : ∀ (pre : List PN) (s : List UInt8), (saveP m s pre).length = s.length
  | [], _ => rfl
  | x :: l, s => by
    show (saveP m (save1 m s x.1) l).length = s.length
    rw [saveP_len m l, save1_len]
theorem saveP_snoc (m : Mo) (s : List UInt8) (pre : List PN) (x : PN) : saveP m s (pre ++ [x]) = save1 m (saveP m s pre) x.1 := by simp [saveP]
theorem saveP_prs (m : Mo) : ∀ (l : List Int) (s : List UInt8), s.length = 12 → saveP m s (prs l) = saveS s m l
  | [], _, _ => rfl
  | x :: l, s, hs => by
    show _ = saveS (save1 m s x) m l
    cases h : canM true x with
    | true =>
      rw [prs_cons_yes h, ← saveP_prs m l _ (by rw [save1_len, hs])]
      rfl
    | false => rw [prs_cons_no h, save1_no hs h, saveP_prs m l s hs]
set_option maxRecDepth 100000 in
set_option maxHeartbeats 8000000 in
theorem psave_any (s : List UInt8) (hs : s.length = 12) (m : Mo) (A : Option Addr) (l : List Int) (c n : Nat) (hn : l.length = n) (hnl : n ≤ 4294967296) (w : World) (hr : Rd w A (is_ l)) :
    Calls Try.prog 10 #[savV s, moV m, .slice A n c] w (SavE (saveS s m l) w) := by
  obtain ⟨b0, b1, b2, b3, b4, b5, b6, b7, b8, b9, b10, b11, hb⟩ := of12 hs
  have hsc : savC s = #[.int .u8 (b0.toNat : Int), .int .u8 (b1.toNat : Int), .int .u8 (b2.toNat : Int), .int .u8 (b3.toNat : Int), .int .u8 (b4.toNat : Int), .int .u8 (b5.toNat : Int), .int .u8 (b6.toNat : Int), .int .u8 (b7.toNat : Int), .int .u8 (b8.toNat : Int), .int .u8 (b9.toNat : Int), .int .u8 (b10.toNat : Int), .int .u8 (b11.toNat : Int)] := by rw [hb]; rfl
  have hsv : savV s = .agg #[.int .u8 (b0.toNat : Int), .int .u8 (b1.toNat : Int), .int .u8 (b2.toNat : Int), .int .u8 (b3.toNat : Int), .int .u8 (b4.toNat : Int), .int .u8 (b5.toNat : Int), .int .u8 (b6.toNat : Int), .int .u8 (b7.toNat : Int), .int .u8 (b8.toNat : Int), .int .u8 (b9.toNat : Int), .int .u8 (b10.toNat : Int), .int .u8 (b11.toNat : Int)] := by rw [savV, hsc]
  have HSC := Lib.hid hsc
  have HL := Lib.hid hs
  rw [hsv, moV]
  clear hsv hsc hb hs
  have k3 := (((Blk.new w 28 #[.int .u8 (b0.toNat : Int), .int .u8 (b1.toNat : Int), .int .u8 (b2.toNat : Int), .int .u8 (b3.toNat : Int), .int .u8 (b4.toNat : Int), .int .u8 (b5.toNat : Int), .int .u8 (b6.toNat : Int), .int .u8 (b7.toNat : Int), .int .u8 (b8.toNat : Int), .int .u8 (b9.toNat : Int), .int .u8 (b10.toNat : Int), .int .u8 (b11.toNat : Int)]).alloc (.cells #[.bool m.cursor, .bool m.keypad, .bool m.back, .bool m.focus, .bool m.paste, .bool m.lock, .bool m.line, .int .i64 m.mouse, .int .i64 m.coding, .int .i64 m.other] 25)).alloc (.cells #[.int .u8 0, .int .u8 0, .int .u8 0, .int .u8 0, .int .u8 0, .int .u8 0, .int .u8 0, .int .u8 0, .int .u8 0, .int .u8 0, .int .u8 0, .int .u8 0] 28)).alloc (.cells #[.slice A n c] 26)
  have k4 := ((Blk.new (w.alloc (.cells #[.int .u8 (b0.toNat : Int), .int .u8 (b1.toNat : Int), .int .u8 (b2.toNat : Int), .int .u8 (b3.toNat : Int), .int .u8 (b4.toNat : Int), .int .u8 (b5.toNat : Int), .int .u8 (b6.toNat : Int), .int .u8 (b7.toNat : Int), .int .u8 (b8.toNat : Int), .int .u8 (b9.toNat : Int), .int .u8 (b10.toNat : Int), .int .u8 (b11.toNat : Int)] 28)) 25 #[.bool m.cursor, .bool m.keypad, .bool m.back, .bool m.focus, .bool m.paste, .bool m.lock, .bool m.line, .int .i64 m.mouse, .int .i64 m.coding, .int .i64 m.other]).alloc (.cells #[.int .u8 0, .int .u8 0, .int .u8 0, .int .u8 0, .int .u8 0, .int .u8 0, .int .u8 0, .int .u8 0, .int .u8 0, .int .u8 0, .int .u8 0, .int .u8 0] 28)).alloc (.cells #[.slice A n c] 26)
  have k6 := (Blk.new ((w.alloc (.cells #[.int .u8 (b0.toNat : Int), .int .u8 (b1.toNat : Int), .int .u8 (b2.toNat : Int), .int .u8 (b3.toNat : Int), .int .u8 (b4.toNat : Int), .int .u8 (b5.toNat : Int), .int .u8 (b6.toNat : Int), .int .u8 (b7.toNat : Int), .int .u8 (b8.toNat : Int), .int .u8 (b9.toNat : Int), .int .u8 (b10.toNat : Int), .int .u8 (b11.toNat : Int)] 28)).alloc (.cells #[.bool m.cursor, .bool m.keypad, .bool m.back, .bool m.focus, .bool m.paste, .bool m.lock, .bool m.line, .int .i64 m.mouse, .int .i64 m.coding, .int .i64 m.other] 25)) 28 #[.int .u8 0, .int .u8 0, .int .u8 0, .int .u8 0, .int .u8 0, .int .u8 0, .int .u8 0, .int .u8 0, .int .u8 0, .int .u8 0, .int .u8 0, .int .u8 0]).alloc (.cells #[.slice A n c] 26)
  have bx := Blk.new (((w.alloc (.cells #[.int .u8 (b0.toNat : Int), .int .u8 (b1.toNat : Int), .int .u8 (b2.toNat : Int), .int .u8 (b3.toNat : Int), .int .u8 (b4.toNat : Int), .int .u8 (b5.toNat : Int), .int .u8 (b6.toNat : Int), .int .u8 (b7.toNat : Int), .int .u8 (b8.toNat : Int), .int .u8 (b9.toNat : Int), .int .u8 (b10.toNat : Int), .int .u8 (b11.toNat : Int)] 28)).alloc (.cells #[.bool m.cursor, .bool m.keypad, .bool m.back, .bool m.focus, .bool m.paste, .bool m.lock, .bool m.line, .int .i64 m.mouse, .int .i64 m.coding, .int .i64 m.other] 25)).alloc (.cells #[.int .u8 0, .int .u8 0, .int .u8 0, .int .u8 0, .int .u8 0, .int .u8 0, .int .u8 0, .int .u8 0, .int .u8 0, .int .u8 0, .int .u8 0, .int .u8 0] 28)) 26 #[.slice A n c]
  simp only [World.size_alloc] at k4 k6 bx
  have hB0 : Below w.heap.size w ((((w.alloc (.cells #[.int .u8 (b0.toNat : Int), .int .u8 (b1.toNat : Int), .int .u8 (b2.toNat : Int), .int .u8 (b3.toNat : Int), .int .u8 (b4.toNat : Int), .int .u8 (b5.toNat : Int), .int .u8 (b6.toNat : Int), .int .u8 (b7.toNat : Int), .int .u8 (b8.toNat : Int), .int .u8 (b9.toNat : Int), .int .u8 (b10.toNat : Int), .int .u8 (b11.toNat : Int)] 28)).alloc (.cells #[.bool m.cursor, .bool m.keypad, .bool m.back, .bool m.focus, .bool m.paste, .bool m.lock, .bool m.line, .int .i64 m.mouse, .int .i64 m.coding, .int .i64 m.other] 25)).alloc (.cells #[.int .u8 0, .int .u8 0, .int .u8 0, .int .u8 0, .int .u8 0, .int .u8 0, .int .u8 0, .int .u8 0, .int .u8 0, .int .u8 0, .int .u8 0, .int .u8 0] 28)).alloc (.cells #[.slice A n c] 26)) :=
    ((((Below.refl _ w).alloc (Nat.le_refl _) _).alloc (by simp) _).alloc (by simp; omega) _).alloc (by simp; omega) _
  have hro : RdOff ((((w.alloc (.cells #[.int .u8 (b0.toNat : Int), .int .u8 (b1.toNat : Int), .int .u8 (b2.toNat : Int), .int .u8 (b3.toNat : Int), .int .u8 (b4.toNat : Int), .int .u8 (b5.toNat : Int), .int .u8 (b6.toNat : Int), .int .u8 (b7.toNat : Int), .int .u8 (b8.toNat : Int), .int .u8 (b9.toNat : Int), .int .u8 (b10.toNat : Int), .int .u8 (b11.toNat : Int)] 28)).alloc (.cells #[.bool m.cursor, .bool m.keypad, .bool m.back, .bool m.focus, .bool m.paste, .bool m.lock, .bool m.line, .int .i64 m.mouse, .int .i64 m.coding, .int .i64 m.other] 25)).alloc (.cells #[.int .u8 0, .int .u8 0, .int .u8 0, .int .u8 0, .int .u8 0, .int .u8 0, .int .u8 0, .int .u8 0, .int .u8 0, .int .u8 0, .int .u8 0, .int .u8 0] 28)).alloc (.cells #[.slice A n c] 26)) (fun k => k = w.heap.size) A (is_ l) := RdOff.of_rdIn (n₁ := w.heap.size) ((RdIn.of hr).below hB0) (by simp; omega) (fun k hk => by omega)
  refine (callsIn_wide (n := 3)).1 ?_
  refine callsIn_of_wp_marks Try.func10 rfl trivial ?_ rfl
  simp only [Try.ntmps10, List.size_toArray, List.length_cons, List.length_nil, Nat.reduceAdd, Nat.reduceSub, Array.replicate_succ, Array.replicate_zero, List.push_toArray, List.append_toArray, List.nil_append, List.cons_append]
  gi_wp2_with fail
  refine ⟨trivial, ?_⟩
  gi_at_call 18
  refine (callsIn_wide.2 (places_any A n c _)).mono ?_
  rintro e w1 ⟨rfl, rfl⟩
  gi_wp2_with fail
  refine wpIn_rangeFunc_ownG rfl (by omega) (gf := 29) (lb := #[.pointer (some ⟨w.heap.size + 1 + 1 + 1, 0, none⟩)]) rfl trivial (enters_of Try.func29 (by kernel_rfl) rfl)
    (pl_stops 2 (by omega) (w.heap.size + 1 + 1 + 1) c n A l hn hnl (fun k => k = w.heap.size) (by omega) _ (fun k hk => by simp; omega) bx hro) KpX.trans (fun W i o o' _ h hc _ => KpX.put _ W i o o' h hc) (Below.refl _ _) (fun _ => rfl)
    (fun (pre : List PN) W => ((Blk W w.heap.size 28 (savC (saveP m s pre)) ∧ Blk W (w.heap.size + 1) 25 #[.bool m.cursor, .bool m.keypad, .bool m.back, .bool m.focus, .bool m.paste, .bool m.lock, .bool m.line, .int .i64 m.mouse, .int .i64 m.coding, .int .i64 m.other]) ∧ Blk W (w.heap.size + 1 + 1) 28 #[.int .u8 0, .int .u8 0, .int .u8 0, .int .u8 0, .int .u8 0, .int .u8 0, .int .u8 0, .int .u8 0, .int .u8 0, .int .u8 0, .int .u8 0, .int .u8 0]) ∧ Below w.heap.size w W)
    (fun _ (_ : List PN) _ => False)
    (OwnFrom.and (OwnFrom.and (OwnFrom.and (Go.Own.from (blk_own w.heap.size 28 fun pre => savC (saveP m s pre)) _) (Go.Own.from (blk_own (w.heap.size + 1) 25 fun _ => #[.bool m.cursor, .bool m.keypad, .bool m.back, .bool m.focus, .bool m.paste, .bool m.lock, .bool m.line, .int .i64 m.mouse, .int .i64 m.coding, .int .i64 m.other]) _)) (Go.Own.from (blk_own (w.heap.size + 1 + 1) 28 fun _ => #[.int .u8 0, .int .u8 0, .int .u8 0, .int .u8 0, .int .u8 0, .int .u8 0, .int .u8 0, .int .u8 0, .int .u8 0, .int .u8 0, .int .u8 0, .int .u8 0]) _)) (ownFrom_below (Nat.le_refl _) (by simp; omega)))
    (fun _ => ownFrom_no _)
    ⟨⟨⟨by rw [show saveP m s [] = s from rfl, HSC.out]; exact k3, k4⟩, k6⟩, hB0⟩
    (fun x => { tmps := #[.agg #[.int .u8 (b0.toNat : Int), .int .u8 (b1.toNat : Int), .int .u8 (b2.toNat : Int), .int .u8 (b3.toNat : Int), .int .u8 (b4.toNat : Int), .int .u8 (b5.toNat : Int), .int .u8 (b6.toNat : Int), .int .u8 (b7.toNat : Int), .int .u8 (b8.toNat : Int), .int .u8 (b9.toNat : Int), .int .u8 (b10.toNat : Int), .int .u8 (b11.toNat : Int)], .agg #[.bool m.cursor, .bool m.keypad, .bool m.back, .bool m.focus, .bool m.paste, .bool m.lock, .bool m.line, .int .i64 m.mouse, .int .i64 m.coding, .int .i64 m.other], .slice A n c, .pointer (some ⟨w.heap.size, 0, none⟩), .pointer (some ⟨w.heap.size + 1, 0, none⟩), undef, .pointer (some ⟨w.heap.size + 1 + 1, 0, none⟩), .int .i64 (placeN x.1 : Int), .int .i64 x.1, .slice A n c, .func (.func 29) #[] #[.pointer (some ⟨w.heap.size + 1 + 1 + 1, 0, none⟩)], .int .i64 (placeN x.1 : Int), .int .i64 x.1, undef, undef, undef, undef, undef, undef, undef, undef, undef], defers := [] }) ?assign ?body ?done ?stop
  case assign =>
    intro l x W K hK
    gi_wp2
    exact hK
  case body =>
    clear k3 k4 k6 bx hB0 hro hr
    rintro l pre x W ⟨⟨⟨k3, k4⟩, k6⟩, hB⟩ _
    have hl1 : (saveP m s pre).length = 12 := by rw [saveP_len, HL.out]
    have hst := saveP_snoc m s pre x
    have hx := pn_in x
    have hp := place_lt.2 x.2
    obtain ⟨s1, hs1⟩ : ∃ s1, saveP m s pre = s1 := ⟨_, rfl⟩
    obtain ⟨p, hpp⟩ : ∃ p, placeN x.1 = p := ⟨_, rfl⟩
    obtain ⟨y, hy⟩ : ∃ y, getM m true x.1 = y := ⟨_, rfl⟩
    obtain ⟨z, hz⟩ : ∃ z, x.1 = z := ⟨_, rfl⟩
    rw [hs1] at hl1 hst k3
    unfold save1 markN at hst
    rw [hy, hpp] at hst
    rw [hpp] at hp
    rw [hz] at hx hy
    have HST := Lib.hid hst
    have HY := Lib.hid hy
    have HX := Lib.hid hx
    obtain ⟨v0, co⟩ : ∃ v : UInt8, W.cell? ⟨w.heap.size, p, none⟩ = some (.int .u8 (v.toNat : Int)) := ⟨_, (k3.cell p).trans (savC_get (by omega : p < s1.length))⟩
    have zo := k3.frozen p
    have e3 := k3.set p (B8 2)
    rw [savC_set] at e3
    have e4 := k4.far (a := ⟨w.heap.size, p, none⟩) (by show w.heap.size + 1 ≠ w.heap.size; omega) (B8 2)
    have e6 := k6.far (a := ⟨w.heap.size, p, none⟩) (by show w.heap.size + 1 + 1 ≠ w.heap.size; omega) (B8 2)
    have hB2 := hB.setCell (p := ⟨w.heap.size, p, none⟩) (Nat.le_refl _) (B8 2)
    have kp2 : KpX (fun k => k = w.heap.size) W (W.setCell ⟨w.heap.size, p, none⟩ (B8 2)) := KpX.set (X := fun k => k = w.heap.size) (a := ⟨w.heap.size, p, none⟩) (KpX.refl _ W) rfl _
    have ko2 := KeepsOthers.setCell W ⟨w.heap.size, p, none⟩ (B8 2)
    have g0 : (0 : Int) ≤ (p : Int) := by omega
    have g1 : (p : Int) < 12 := by omega
    have hB8 : B8 2 = .int .u8 2 := rfl
    rw [hB8] at e3 e4 e6 hB2 kp2 ko2
    obtain ⟨c0, c1, c2, c3, c4, c5, c6, c7, c8, c9⟩ := Blk.cells10 k4
    rw [hpp, hz]
    clear hs1 hst hy hx hz hpp k3 k4 k6 hB
    gi_wp2_with fail
    refine ⟨trivial, ?_⟩
    gi_at_call 15
    refine (CallsIn.inRound l (callsIn_wide.2 (pget_at (m := m) _ HX.out HY.out))).mono ?_
    rintro e w3 ⟨rfl, hb3⟩
    have f3 := e3.below hb3 e3.lt
    have f4 := e4.below hb3 e4.lt
    have f6 := e6.below hb3 e6.lt
    have hB3 := below_step hB2 hb3 hB2.size
    have kp3 := kp2.trans (KpX.of_below hb3)
    have ko3 := ko2.trans (keeps_below hb3)
    clear e3 e4 e6 hB2 kp2 ko2 hb3 co zo c0 c1 c2 c3 c4 c5 c6 c7 c8 c9
    by_cases h1 : y = 1
    · have t1 : (y == 1) = true := by simp [h1]
      have HE := Lib.hid (show saveP m s (pre ++ [x]) = s1.set p 1 by rw [HST.out, if_pos h1])
      have c2 : w3.cell? ⟨w.heap.size, p, none⟩ = some (.int .u8 2) := by rw [f3.cell p, savC_get (by simp; omega)]; simp [B8]
      have z2 := f3.frozen p
      have q3 := f3.set p (B8 1)
      rw [savC_set, List.set_set] at q3
      have q4 := f4.far (a := ⟨w.heap.size, p, none⟩) (by show w.heap.size + 1 ≠ w.heap.size; omega) (B8 1)
      have q6 := f6.far (a := ⟨w.heap.size, p, none⟩) (by show w.heap.size + 1 + 1 ≠ w.heap.size; omega) (B8 1)
      have hB4 := hB3.setCell (p := ⟨w.heap.size, p, none⟩) (Nat.le_refl _) (B8 1)
      have kp4 : KpX (fun k => k = w.heap.size) W (w3.setCell ⟨w.heap.size, p, none⟩ (B8 1)) := kp3.set rfl _
      have ko4 := ko3.trans (KeepsOthers.setCell w3 ⟨w.heap.size, p, none⟩ (B8 1))
      clear h1 f3 f4 f6 hB3 kp3 ko3
      gi_wp2
      exact ⟨ko4.from _, kp4, ⟨⟨by rw [HE.out]; exact q3, q4⟩, q6⟩, hB4⟩
    · have t1 : (y == 1) = false := by simp [h1]
      have HE := Lib.hid (show saveP m s (pre ++ [x]) = s1.set p 2 by rw [HST.out, if_neg h1])
      clear h1
      gi_wp2
      exact ⟨ko3.from _, kp3, ⟨⟨by rw [HE.out]; exact f3, f4⟩, f6⟩, hB3⟩
  case done =>
    clear k3 k4 k6 bx hB0 hro hr
    rintro D ys W hD rfl ⟨⟨⟨k3, k4⟩, k6⟩, hB⟩ hK
    have hE := saveP_prs m l s HL.out
    obtain ⟨s1, hs1⟩ : ∃ s1, saveS s m l = s1 := ⟨_, rfl⟩
    have hl1 : s1.length = 12 := by rw [← hs1, saveS_len, HL.out]
    rw [hE, hs1] at k3
    obtain ⟨d0, d1, d2, d3, d4, d5, d6, d7, d8, d9, d10, d11, hd⟩ := of12 hl1
    have hsd : savC s1 = #[.int .u8 (d0.toNat : Int), .int .u8 (d1.toNat : Int), .int .u8 (d2.toNat : Int), .int .u8 (d3.toNat : Int), .int .u8 (d4.toNat : Int), .int .u8 (d5.toNat : Int), .int .u8 (d6.toNat : Int), .int .u8 (d7.toNat : Int), .int .u8 (d8.toNat : Int), .int .u8 (d9.toNat : Int), .int .u8 (d10.toNat : Int), .int .u8 (d11.toNat : Int)] := by rw [hd]; rfl
    have hsv : savV s1 = .agg #[.int .u8 (d0.toNat : Int), .int .u8 (d1.toNat : Int), .int .u8 (d2.toNat : Int), .int .u8 (d3.toNat : Int), .int .u8 (d4.toNat : Int), .int .u8 (d5.toNat : Int), .int .u8 (d6.toNat : Int), .int .u8 (d7.toNat : Int), .int .u8 (d8.toNat : Int), .int .u8 (d9.toNat : Int), .int .u8 (d10.toNat : Int), .int .u8 (d11.toNat : Int)] := by rw [savV, hsd]
    rw [hsd] at k3
    have HSV := Lib.hid hsv
    have HS1 := Lib.hid hs1
    clear hd hsd hsv hs1 hl1 hE
    obtain ⟨c0, c1, c2, c3, c4, c5, c6, c7, c8, c9, c10, c11⟩ := Blk.cells12 k3
    obtain ⟨q0, q1, q2, q3, q4, q5, q6, q7, q8, q9, q10, q11⟩ := Blk.cells12 k6
    have z0 := k6.frozen 0; have z1 := k6.frozen 1; have z2 := k6.frozen 2; have z3 := k6.frozen 3; have z4 := k6.frozen 4; have z5 := k6.frozen 5; have z6 := k6.frozen 6; have z7 := k6.frozen 7; have z8 := k6.frozen 8; have z9 := k6.frozen 9; have z10 := k6.frozen 10; have z11 := k6.frozen 11
    have kE := k6.set12 (.int .u8 (d0.toNat : Int)) (.int .u8 (d1.toNat : Int)) (.int .u8 (d2.toNat : Int)) (.int .u8 (d3.toNat : Int)) (.int .u8 (d4.toNat : Int)) (.int .u8 (d5.toNat : Int)) (.int .u8 (d6.toNat : Int)) (.int .u8 (d7.toNat : Int)) (.int .u8 (d8.toNat : Int)) (.int .u8 (d9.toNat : Int)) (.int .u8 (d10.toNat : Int)) (.int .u8 (d11.toNat : Int))
    have hK' := (keeps_set12 W (w.heap.size + 1 + 1) (.int .u8 (d0.toNat : Int)) (.int .u8 (d1.toNat : Int)) (.int .u8 (d2.toNat : Int)) (.int .u8 (d3.toNat : Int)) (.int .u8 (d4.toNat : Int)) (.int .u8 (d5.toNat : Int)) (.int .u8 (d6.toNat : Int)) (.int .u8 (d7.toNat : Int)) (.int .u8 (d8.toNat : Int)) (.int .u8 (d9.toNat : Int)) (.int .u8 (d10.toNat : Int)) (.int .u8 (d11.toNat : Int))).same D _ hK rfl
    have hBE := below_set12 hB (g := w.heap.size + 1 + 1) (by omega) (.int .u8 (d0.toNat : Int)) (.int .u8 (d1.toNat : Int)) (.int .u8 (d2.toNat : Int)) (.int .u8 (d3.toNat : Int)) (.int .u8 (d4.toNat : Int)) (.int .u8 (d5.toNat : Int)) (.int .u8 (d6.toNat : Int)) (.int .u8 (d7.toNat : Int)) (.int .u8 (d8.toNat : Int)) (.int .u8 (d9.toNat : Int)) (.int .u8 (d10.toNat : Int)) (.int .u8 (d11.toNat : Int))
    have kF := kE.kpx (X := fun _ => False) (KpX.put _ _ D _ (.deferred none) hK' rfl) (fun h => h)
    obtain ⟨r0, r1, r2, r3, r4, r5, r6, r7, r8, r9, r10, r11⟩ := Blk.cells12 kF
    gi_wp2
    refine ⟨by simp, .inl ⟨_, _, rfl, run_takeDeferred hK', ?_⟩⟩
    refine ⟨.agg #[.int .u8 (d0.toNat : Int), .int .u8 (d1.toNat : Int), .int .u8 (d2.toNat : Int), .int .u8 (d3.toNat : Int), .int .u8 (d4.toNat : Int), .int .u8 (d5.toNat : Int), .int .u8 (d6.toNat : Int), .int .u8 (d7.toNat : Int), .int .u8 (d8.toNat : Int), .int .u8 (d9.toNat : Int), .int .u8 (d10.toNat : Int), .int .u8 (d11.toNat : Int)], ?_, ⟨by rw [HS1.out, HSV.out], hBE.trans (belowK_b (w := w) (Nat.le_refl _) _ D _ _ (by simp at hD; omega) hK' rfl rfl)⟩⟩
    simp [results, Try.f10, go_sem, r0, r1, r2, r3, r4, r5, r6, r7, r8, r9, r10, r11]
  case stop =>
    rintro D j pre W hD hpre hf hK
    exact hf.elim
end Go.Proofs.Ytokhchejkfhmmaa
