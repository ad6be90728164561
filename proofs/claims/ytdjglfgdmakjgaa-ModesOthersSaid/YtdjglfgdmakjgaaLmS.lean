/-
  Layer 6: words for its laws' walks; the walk of ModesSet.
-/
import Derived.Test.YtdjglfgdmakjgaaModC
import Derived.Deep.RegionHeld3
namespace Go.Proofs.Ytdjglfgdmakjgaa
open Go.RowKit

/-- Blocks that are known whole, all at once. -/
def Bl (w : World) (L : List (Nat × TypeId × Array Value)) : Prop := ∀ x ∈ L, Blk w x.1 x.2.1 x.2.2
section
variable {w w' : World} {L : List (Nat × TypeId × Array Value)}
theorem Bl.nil (w : World) : Bl w [] := fun _ h => by cases h
theorem Bl.below (h : Bl w L) (hb : Below w.heap.size w w') : Bl w' L := fun x hx => (h x hx).below hb (h x hx).lt
theorem Bl.alloc (h : Bl w L) (o : Obj) : Bl (w.alloc o) L := fun x hx => (h x hx).alloc o
theorem Bl.add (h : Bl w L) (t : TypeId) (cs : Array Value) : Bl (w.alloc (.cells cs t)) ((w.heap.size, t, cs) :: L) := fun x hx => by
  rcases List.mem_cons.1 hx with rfl | hx
  · exact Blk.new w t cs
  · exact (h x hx).alloc _
theorem Bl.head {x : Nat × TypeId × Array Value} (h : Bl w (x :: L)) : Blk w x.1 x.2.1 x.2.2 := h x (List.mem_cons_self ..)
theorem Bl.tail {x : Nat × TypeId × Array Value} (h : Bl w (x :: L)) : Bl w L := fun y hy => h y (List.mem_cons_of_mem _ hy)
end
/-- What a call's own box is told by: the value that came, as cells. -/
theorem moV_eq (m : Mo) : moV m = .agg (moC m) := rfl
section
variable {Inv : World → Prop}
set_option maxRecDepth 100000 in
set_option maxHeartbeats 16000000 in
theorem modesSet_walk (H : ModC Inv) (m : Mo) (hm : okM m) (n : Int) (lo : -9223372036854775808 ≤ n) (hi : n ≤ 9223372036854775807) (p on : Bool) (w : World) (hv : Inv w) :
    Calls Try.prog 3 #[moV m, .int .i64 n, .agg #[.bool p, .bool on]] w fun e w' => e = .returned (.bool true) ∧ Below w.heap.size w w' := by
  have HN := Lib.hid (show inI n from ⟨lo, hi⟩)
  have HO := Lib.hid hm
  obtain ⟨m', q, hs⟩ : ∃ m' q, setM m p n on = (m', q) := ⟨_, _, rfl⟩
  obtain ⟨k, hk⟩ : ∃ k, getM m p n = k := ⟨_, rfl⟩
  obtain ⟨y, hy⟩ : ∃ y, mayM m = y := ⟨_, rfl⟩
  have HS1 := Lib.hid hs
  have HK := Lib.hid hk
  have HY := Lib.hid hy
  clear lo hi hm hs hk hy
  have hbe : Below w.heap.size w ((w.alloc (.cells (moC m) 23)).alloc (.cells #[.bool p, .bool on] 24)) := ((Below.refl _ w).alloc (Nat.le_refl _) _).alloc (by simp) _
  have L2 := ((Bl.nil w).add 23 (moC m)).add 24 #[.bool p, .bool on]
  simp only [World.size_alloc, moC] at L2
  rw [moV]
  go_enter Try.func3, Try.ntmps3
  go_wp2_with fail
  refine (modesAwake H _ (H.invB hv hbe)).mono ?_
  rintro e w1 ⟨rfl, hb1⟩
  have L3 := L2.below hb1
  have hbe1 := below_step hbe hb1 hbe.size
  clear L2 hbe hb1
  obtain ⟨c0, c1, c2, c3, c4, c5, c6, c7, c8, c9⟩ := Blk.cells10 L3.tail.head
  have d0 := L3.head.cell 0
  have d1 := L3.head.cell 1
  go_wp2_with fail
  refine (H.set_at w1 (H.invB hv hbe1) HN.out HS1.out).mono ?_
  rintro e w2 ⟨rfl, hb2⟩
  have L4 := L3.below hb2
  have hbe2 := below_step hbe1 hb2 hbe1.size
  clear c0 c1 c2 c3 c4 c5 c6 c7 c8 c9 d0 d1 L3 hbe1 hb2
  have L5 := L4.add 23 (moC m')
  have hbe3 := hbe2.alloc hbe2.size (.cells (moC m') 23)
  simp only [moC] at L5 hbe3
  obtain ⟨c0, c1, c2, c3, c4, c5, c6, c7, c8, c9⟩ := Blk.cells10 L5.tail.tail.head
  have d0 := L5.tail.head.cell 0
  have d1 := L5.tail.head.cell 1
  rw [moV]
  go_wp2_with fail
  have R := rset_any m p n on
  rw [HS1.out] at R
  refine (R _).mono ?_
  rintro e w3 ⟨rfl, hb3⟩
  have L6 := (L5.below hb3).add 23 (moC m')
  have hbe4 := below_step hbe3 hb3 hbe3.size
  have hbe5 := hbe4.alloc hbe4.size (.cells (moC m') 23)
  simp only [moC] at L6 hbe5
  clear c0 c1 c2 c3 c4 c5 c6 c7 c8 c9 d0 d1 L4 L5 hbe2 hbe3 hbe4 R
  have HS : Hid (∀ W, Below (w3.heap.size + 1) (w3.alloc (.cells #[.bool m'.cursor, .bool m'.keypad, .bool m'.back, .bool m'.focus, .bool m'.paste, .bool m'.lock, .bool m'.line, .int .i64 m'.mouse, .int .i64 m'.coding, .int .i64 m'.other] 23)) W → Below (w3.heap.size + 1) (w3.alloc (.cells #[.bool m'.cursor, .bool m'.keypad, .bool m'.back, .bool m'.focus, .bool m'.paste, .bool m'.lock, .bool m'.line, .int .i64 m'.mouse, .int .i64 m'.coding, .int .i64 m'.other] 23)) W ∧ W.cell? ⟨w.heap.size, 0, none⟩ = some (.bool m.cursor) ∧ W.cell? ⟨w.heap.size, 1, none⟩ = some (.bool m.keypad) ∧ W.cell? ⟨w.heap.size, 2, none⟩ = some (.bool m.back) ∧ W.cell? ⟨w.heap.size, 3, none⟩ = some (.bool m.focus) ∧ W.cell? ⟨w.heap.size, 4, none⟩ = some (.bool m.paste) ∧ W.cell? ⟨w.heap.size, 5, none⟩ = some (.bool m.lock) ∧ W.cell? ⟨w.heap.size, 6, none⟩ = some (.bool m.line) ∧ W.cell? ⟨w.heap.size, 7, none⟩ = some (.int .i64 m.mouse) ∧ W.cell? ⟨w.heap.size, 8, none⟩ = some (.int .i64 m.coding) ∧ W.cell? ⟨w.heap.size, 9, none⟩ = some (.int .i64 m.other) ∧ W.cell? ⟨w.heap.size + 1, 0, none⟩ = some (.bool p) ∧ W.cell? ⟨w2.heap.size, 0, none⟩ = some (.bool m'.cursor) ∧ W.cell? ⟨w2.heap.size, 1, none⟩ = some (.bool m'.keypad) ∧ W.cell? ⟨w2.heap.size, 2, none⟩ = some (.bool m'.back) ∧ W.cell? ⟨w2.heap.size, 3, none⟩ = some (.bool m'.focus) ∧ W.cell? ⟨w2.heap.size, 4, none⟩ = some (.bool m'.paste) ∧ W.cell? ⟨w2.heap.size, 5, none⟩ = some (.bool m'.lock) ∧ W.cell? ⟨w2.heap.size, 6, none⟩ = some (.bool m'.line) ∧ W.cell? ⟨w2.heap.size, 7, none⟩ = some (.int .i64 m'.mouse) ∧ W.cell? ⟨w2.heap.size, 8, none⟩ = some (.int .i64 m'.coding) ∧ W.cell? ⟨w2.heap.size, 9, none⟩ = some (.int .i64 m'.other) ∧ W.cell? ⟨w3.heap.size, 0, none⟩ = some (.bool m'.cursor) ∧ W.cell? ⟨w3.heap.size, 1, none⟩ = some (.bool m'.keypad) ∧ W.cell? ⟨w3.heap.size, 2, none⟩ = some (.bool m'.back) ∧ W.cell? ⟨w3.heap.size, 3, none⟩ = some (.bool m'.focus) ∧ W.cell? ⟨w3.heap.size, 4, none⟩ = some (.bool m'.paste) ∧ W.cell? ⟨w3.heap.size, 5, none⟩ = some (.bool m'.lock) ∧ W.cell? ⟨w3.heap.size, 6, none⟩ = some (.bool m'.line) ∧ W.cell? ⟨w3.heap.size, 7, none⟩ = some (.int .i64 m'.mouse) ∧ W.cell? ⟨w3.heap.size, 8, none⟩ = some (.int .i64 m'.coding) ∧ W.cell? ⟨w3.heap.size, 9, none⟩ = some (.int .i64 m'.other)) := by
    have km : Blk _ (w.heap.size) 23 (moC m) := L6.tail.tail.tail.head
    have kh : Blk _ (w.heap.size + 1) 24 #[.bool p, .bool on] := L6.tail.tail.head
    have ka : Blk _ w2.heap.size 23 (moC m') := L6.tail.head
    have kb : Blk _ w3.heap.size 23 (moC m') := L6.head
    have hm1 := km.lt
    have hm2 := kh.lt
    have hm3 := ka.lt
    have hm4 := kb.lt
    simp only [World.size_alloc] at hm1 hm2 hm3 hm4
    exact Lib.hid fun W hb => ⟨hb, (hb.cell (p := ⟨w.heap.size, 0, none⟩) hm1).trans (km.cell 0), (hb.cell (p := ⟨w.heap.size, 1, none⟩) hm1).trans (km.cell 1), (hb.cell (p := ⟨w.heap.size, 2, none⟩) hm1).trans (km.cell 2), (hb.cell (p := ⟨w.heap.size, 3, none⟩) hm1).trans (km.cell 3), (hb.cell (p := ⟨w.heap.size, 4, none⟩) hm1).trans (km.cell 4), (hb.cell (p := ⟨w.heap.size, 5, none⟩) hm1).trans (km.cell 5), (hb.cell (p := ⟨w.heap.size, 6, none⟩) hm1).trans (km.cell 6), (hb.cell (p := ⟨w.heap.size, 7, none⟩) hm1).trans (km.cell 7), (hb.cell (p := ⟨w.heap.size, 8, none⟩) hm1).trans (km.cell 8), (hb.cell (p := ⟨w.heap.size, 9, none⟩) hm1).trans (km.cell 9), (hb.cell (p := ⟨w.heap.size + 1, 0, none⟩) hm2).trans (kh.cell 0), (hb.cell (p := ⟨w2.heap.size, 0, none⟩) hm3).trans (ka.cell 0), (hb.cell (p := ⟨w2.heap.size, 1, none⟩) hm3).trans (ka.cell 1), (hb.cell (p := ⟨w2.heap.size, 2, none⟩) hm3).trans (ka.cell 2), (hb.cell (p := ⟨w2.heap.size, 3, none⟩) hm3).trans (ka.cell 3), (hb.cell (p := ⟨w2.heap.size, 4, none⟩) hm3).trans (ka.cell 4), (hb.cell (p := ⟨w2.heap.size, 5, none⟩) hm3).trans (ka.cell 5), (hb.cell (p := ⟨w2.heap.size, 6, none⟩) hm3).trans (ka.cell 6), (hb.cell (p := ⟨w2.heap.size, 7, none⟩) hm3).trans (ka.cell 7), (hb.cell (p := ⟨w2.heap.size, 8, none⟩) hm3).trans (ka.cell 8), (hb.cell (p := ⟨w2.heap.size, 9, none⟩) hm3).trans (ka.cell 9), (hb.cell (p := ⟨w3.heap.size, 0, none⟩) hm4).trans (kb.cell 0), (hb.cell (p := ⟨w3.heap.size, 1, none⟩) hm4).trans (kb.cell 1), (hb.cell (p := ⟨w3.heap.size, 2, none⟩) hm4).trans (kb.cell 2), (hb.cell (p := ⟨w3.heap.size, 3, none⟩) hm4).trans (kb.cell 3), (hb.cell (p := ⟨w3.heap.size, 4, none⟩) hm4).trans (kb.cell 4), (hb.cell (p := ⟨w3.heap.size, 5, none⟩) hm4).trans (kb.cell 5), (hb.cell (p := ⟨w3.heap.size, 6, none⟩) hm4).trans (kb.cell 6), (hb.cell (p := ⟨w3.heap.size, 7, none⟩) hm4).trans (kb.cell 7), (hb.cell (p := ⟨w3.heap.size, 8, none⟩) hm4).trans (kb.cell 8), (hb.cell (p := ⟨w3.heap.size, 9, none⟩) hm4).trans (kb.cell 9)⟩
  have HZ : Hid (w3.heap.size + 1 = (w3.alloc (.cells #[.bool m'.cursor, .bool m'.keypad, .bool m'.back, .bool m'.focus, .bool m'.paste, .bool m'.lock, .bool m'.line, .int .i64 m'.mouse, .int .i64 m'.coding, .int .i64 m'.other] 23)).heap.size) := Lib.hid (by simp)
  have HI : Hid (∀ W, Below (w3.heap.size + 1) (w3.alloc (.cells #[.bool m'.cursor, .bool m'.keypad, .bool m'.back, .bool m'.focus, .bool m'.paste, .bool m'.lock, .bool m'.line, .int .i64 m'.mouse, .int .i64 m'.coding, .int .i64 m'.other] 23)) W → Below w.heap.size w W) := Lib.hid fun W hb => hbe5.trans (hb.mono (by have := hbe5.size; simpa using this))
  clear L6 hbe5 hb3
  rw [moV]
  go_wp2_with fail
  go_region_held3 (fun W => Below (w3.heap.size + 1) (w3.alloc (.cells #[.bool m'.cursor, .bool m'.keypad, .bool m'.back, .bool m'.focus, .bool m'.paste, .bool m'.lock, .bool m'.line, .int .i64 m'.mouse, .int .i64 m'.coding, .int .i64 m'.other] 23)) W ∧ W.cell? ⟨w.heap.size, 0, none⟩ = some (.bool m.cursor) ∧ W.cell? ⟨w.heap.size, 1, none⟩ = some (.bool m.keypad) ∧ W.cell? ⟨w.heap.size, 2, none⟩ = some (.bool m.back) ∧ W.cell? ⟨w.heap.size, 3, none⟩ = some (.bool m.focus) ∧ W.cell? ⟨w.heap.size, 4, none⟩ = some (.bool m.paste) ∧ W.cell? ⟨w.heap.size, 5, none⟩ = some (.bool m.lock) ∧ W.cell? ⟨w.heap.size, 6, none⟩ = some (.bool m.line) ∧ W.cell? ⟨w.heap.size, 7, none⟩ = some (.int .i64 m.mouse) ∧ W.cell? ⟨w.heap.size, 8, none⟩ = some (.int .i64 m.coding) ∧ W.cell? ⟨w.heap.size, 9, none⟩ = some (.int .i64 m.other) ∧ W.cell? ⟨w.heap.size + 1, 0, none⟩ = some (.bool p) ∧ W.cell? ⟨w2.heap.size, 0, none⟩ = some (.bool m'.cursor) ∧ W.cell? ⟨w2.heap.size, 1, none⟩ = some (.bool m'.keypad) ∧ W.cell? ⟨w2.heap.size, 2, none⟩ = some (.bool m'.back) ∧ W.cell? ⟨w2.heap.size, 3, none⟩ = some (.bool m'.focus) ∧ W.cell? ⟨w2.heap.size, 4, none⟩ = some (.bool m'.paste) ∧ W.cell? ⟨w2.heap.size, 5, none⟩ = some (.bool m'.lock) ∧ W.cell? ⟨w2.heap.size, 6, none⟩ = some (.bool m'.line) ∧ W.cell? ⟨w2.heap.size, 7, none⟩ = some (.int .i64 m'.mouse) ∧ W.cell? ⟨w2.heap.size, 8, none⟩ = some (.int .i64 m'.coding) ∧ W.cell? ⟨w2.heap.size, 9, none⟩ = some (.int .i64 m'.other) ∧ W.cell? ⟨w3.heap.size, 0, none⟩ = some (.bool m'.cursor) ∧ W.cell? ⟨w3.heap.size, 1, none⟩ = some (.bool m'.keypad) ∧ W.cell? ⟨w3.heap.size, 2, none⟩ = some (.bool m'.back) ∧ W.cell? ⟨w3.heap.size, 3, none⟩ = some (.bool m'.focus) ∧ W.cell? ⟨w3.heap.size, 4, none⟩ = some (.bool m'.paste) ∧ W.cell? ⟨w3.heap.size, 5, none⟩ = some (.bool m'.lock) ∧ W.cell? ⟨w3.heap.size, 6, none⟩ = some (.bool m'.line) ∧ W.cell? ⟨w3.heap.size, 7, none⟩ = some (.int .i64 m'.mouse) ∧ W.cell? ⟨w3.heap.size, 8, none⟩ = some (.int .i64 m'.coding) ∧ W.cell? ⟨w3.heap.size, 9, none⟩ = some (.int .i64 m'.other))
    (first | exact HS.out _ (Below.refl _ _).drew | assumption | exact HS.out _ (Below.trans (And.left (by assumption)) (hb6.mono (by rw [HZ.out]; exact (And.left (by assumption) : Below (w3.heap.size + 1) (w3.alloc (.cells #[.bool m'.cursor, .bool m'.keypad, .bool m'.back, .bool m'.focus, .bool m'.paste, .bool m'.lock, .bool m'.line, .int .i64 m'.mouse, .int .i64 m'.coding, .int .i64 m'.other] 23)) _).size))))
    (first
      | (go_at_call 12; refine (H.get_at _ (H.invB hv (HI.out _ (And.left (by assumption)))) HN.out HK.out).mono ?_; rintro e w6 ⟨rfl, hb6⟩)
      | (go_at_call 13; refine (rget_any m p n _).mono ?_; rw [HK.out]; rintro e w6 ⟨rfl, hb6⟩)
      | (go_at_call 14; refine (H.may_at _ (H.invB hv (HI.out _ (And.left (by assumption)))) HO.out HY.out).mono ?_; rintro e w6 ⟨rfl, hb6⟩)
      | (go_at_call 15; refine (rmay_any m _).mono ?_; rw [HY.out]; rintro e w6 ⟨rfl, hb6⟩))
  all_goals
    go_wp2
    go_ret
    exact ⟨rfl, HI.out _ (And.left (by assumption))⟩
end
end Go.Proofs.Ytdjglfgdmakjgaa
