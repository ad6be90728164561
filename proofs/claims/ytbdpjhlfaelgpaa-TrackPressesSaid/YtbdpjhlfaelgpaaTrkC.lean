/-
  Layer 15: what a law needs of the program; and the example that each statement asks.
-/
import Derived.Test.YtbdpjhlfaelgpaaTrkW
namespace Go.Proofs.Ytbdpjhlfaelgpaa
open Go.RowKit

structure TrkC (Inv : World → Prop) : Prop where
  invB : ∀ {w w' : World}, Inv w → Below w.heap.size w w' → Inv w'
  tell : ∀ (mode : Int) (s : Ce) (e : Ms) (w : World), Inv w → inM mode → Calls Try.prog 10 #[.int .i64 mode, ceV s, msV e] w fun x w' => x = .returned (.tuple #[ceV (tellT mode s e).1, .bool (tellT mode s e).2]) ∧ Below w.heap.size w w'
  may : ∀ (e : Ms) (w : World), Inv w → Calls Try.prog 12 #[msV e] w fun x w' => x = .returned (.bool (mayT e)) ∧ Below w.heap.size w w'
variable {Inv : World → Prop}
theorem TrkC.tell_at (H : TrkC Inv) (mode : Int) (s : Ce) (e : Ms) {u v : Int} {b : Bool} (ht : tellT mode s e = (⟨u, v⟩, b)) (w : World) (hi : Inv w) (hm : inM mode := by first | exact ⟨by decide, by decide⟩ | exact ⟨by omega, by omega⟩) :
    Calls Try.prog 10 #[.int .i64 mode, .agg #[.int .i64 s.x, .int .i64 s.y], .agg #[.int .i64 e.btn, .int .i64 e.typ, .int .i64 e.x, .int .i64 e.y, .int .i64 e.mods]] w fun x w' => x = .returned (.tuple #[.agg #[.int .i64 u, .int .i64 v], .bool b]) ∧ Below w.heap.size w w' := by
  have := H.tell mode s e w hi hm
  rw [ht] at this
  exact this
theorem TrkC.may_at (H : TrkC Inv) (e : Ms) {b : Bool} (hm : mayT e = b) (w : World) (hi : Inv w) :
    Calls Try.prog 12 #[.agg #[.int .i64 e.btn, .int .i64 e.typ, .int .i64 e.x, .int .i64 e.y, .int .i64 e.mods]] w fun x w' => x = .returned (.bool b) ∧ Below w.heap.size w w' := by
  have := H.may e w hi
  rw [hm] at this
  exact this
set_option maxRecDepth 100000 in
set_option maxHeartbeats 8000000 in
theorem trkAwake (H : TrkC Inv) (w0 : World) (hv0 : Inv w0) : Calls Try.prog 9 #[] w0 fun e w' => e = .returned (.bool true) ∧ Below w0.heap.size w0 w' := by
  have hB := (Below.refl w0.heap.size w0).alloc (Nat.le_refl _) (.cells #[.int .i64 1, .int .i64 4, .int .i64 3, .int .i64 4, .int .i64 0] 25)
  have k0 := Blk.new w0 25 #[.int .i64 1, .int .i64 4, .int .i64 3, .int .i64 4, .int .i64 0]
  have hv := H.invB hv0 hB
  obtain ⟨b0, b1, b2, b3, b4⟩ := Blk.cells5 k0
  go_enter Try.func9, Try.ntmps9
  go_wp2_with fail
  refine (H.tell_at 1002 ⟨0, 0⟩ ⟨1, 4, 3, 4, 0⟩ (u := 3) (v := 4) (b := true) (by decide) _ hv).mono ?_
  rintro e w1 ⟨rfl, hb⟩
  have hB1 := hB.trans (hb.mono hB.size)
  replace k0 := k0.below hb k0.lt
  clear b0 b1 b2 b3 b4 hb hB hv
  have hB2 := hB1.alloc hB1.size (.cells #[.int .i64 3, .int .i64 4] 27)
  have s0 := Blk.new w1 27 #[.int .i64 3, .int .i64 4]
  replace k0 := k0.alloc (.cells #[.int .i64 3, .int .i64 4] 27)
  obtain ⟨b0, b1, b2, b3, b4⟩ := Blk.cells5 k0
  obtain ⟨c0, c1⟩ := And.intro (s0.cell 0) (s0.cell 1)
  go_wp2_with fail
  refine (H.tell_at 1002 ⟨3, 4⟩ ⟨1, 4, 3, 4, 0⟩ (u := 3) (v := 4) (b := false) (by decide) _ (H.invB hv0 hB2)).mono ?_
  rintro e w2 ⟨rfl, hb⟩
  have hB3 := hB2.trans (hb.mono hB2.size)
  replace k0 := k0.below hb k0.lt
  replace s0 := s0.below hb s0.lt
  clear b0 b1 b2 b3 b4 c0 c1 hb hB2
  have hB4 := hB3.alloc hB3.size (.cells #[.int .i64 3, .int .i64 4] 27)
  have t0 := Blk.new w2 27 #[.int .i64 3, .int .i64 4]
  replace k0 := k0.alloc (.cells #[.int .i64 3, .int .i64 4] 27)
  replace s0 := s0.alloc (.cells #[.int .i64 3, .int .i64 4] 27)
  obtain ⟨b0, b1, b2, b3, b4⟩ := Blk.cells5 k0
  obtain ⟨c0, c1⟩ := And.intro (s0.cell 0) (s0.cell 1)
  obtain ⟨d0, d1⟩ := And.intro (t0.cell 0) (t0.cell 1)
  go_wp2_with fail
  refine (H.tell_at 1000 ⟨0, 0⟩ ⟨1, 4, 3, 4, 0⟩ (u := 0) (v := 0) (b := false) (by decide) _ (H.invB hv0 hB4)).mono ?_
  rintro e w3 ⟨rfl, hb⟩
  have hB5 := hB4.trans (hb.mono hB4.size)
  replace k0 := k0.below hb k0.lt
  replace s0 := s0.below hb s0.lt
  replace t0 := t0.below hb t0.lt
  clear b0 b1 b2 b3 b4 c0 c1 d0 d1 hb hB4 hB3
  have hB6 := hB5.alloc hB5.size (.cells #[.int .i64 0, .int .i64 0] 27)
  have u0 := Blk.new w3 27 #[.int .i64 0, .int .i64 0]
  replace k0 := k0.alloc (.cells #[.int .i64 0, .int .i64 0] 27)
  replace s0 := s0.alloc (.cells #[.int .i64 0, .int .i64 0] 27)
  replace t0 := t0.alloc (.cells #[.int .i64 0, .int .i64 0] 27)
  obtain ⟨b0, b1, b2, b3, b4⟩ := Blk.cells5 k0
  obtain ⟨c0, c1⟩ := And.intro (s0.cell 0) (s0.cell 1)
  obtain ⟨d0, d1⟩ := And.intro (t0.cell 0) (t0.cell 1)
  go_wp2_with fail
  refine (H.may_at ⟨1, 4, 3, 4, 0⟩ (b := true) (by decide) _ (H.invB hv0 hB6)).mono ?_
  rintro e w4 ⟨rfl, hb⟩
  go_wp2_with fail
  go_ret
  exact ⟨rfl, hB6.trans (hb.mono hB6.size)⟩
end Go.Proofs.Ytbdpjhlfaelgpaa
