/-
  Layer 2, walked: two code points.
-/
import Derived.Test.YtcijdbklapidnaaDoorUtfZ
import Derived.WalkLawsBesides
import Derived.Lib.SlBytesConst
namespace Go.Proofs.YtcijdbklapidnaaDoor
open Go.RowKit

theorem Put_at (r : Int) (m : List UInt8) (n : Nat) (h : putL r = m) (hn : m.length = n) (w : World) (hs : Siz w) : Calls Tryd.prog 12 #[.int .i64 r] w fun e w' => ∃ A c, e = .returned (.slice A n c) ∧ Rd w' A (bs m) ∧ Below w.heap.size w w' := by
  subst h hn
  exact Put_any r w hs
theorem All_at (A : Option Addr) (n c : Nat) (l : List UInt8) (k : List Int) (m : Nat) (w : World) (hn : l.length = n) (h : allL l = some k) (hm : k.length = m) (hs : Siz w) (hl : l.length ≤ 4294967296) (hlc : n ≤ c) (hr : Rd w A (bs l)) :
    Calls Tryd.prog 14 #[.slice A n c] w fun e w' => ∃ A c, e = .returned (.tuple #[.slice A m c, .bool true]) ∧ Rd w' A (is_ k) ∧ Below w.heap.size w w' := by
  subst hn hm
  refine (all_any A c l w hs hl hlc hr).mono ?_
  intro e w' g
  rw [h] at g
  exact g
theorem All_none (A : Option Addr) (n c : Nat) (l : List UInt8) (w : World) (hn : l.length = n) (h : allL l = none) (hs : Siz w) (hl : l.length ≤ 4294967296) (hlc : n ≤ c) (hr : Rd w A (bs l)) :
    Calls Tryd.prog 14 #[.slice A n c] w fun e w' => e = .returned (.tuple #[.slice none 0 0, .bool false]) ∧ Below w.heap.size w w' := by
  subst hn
  refine (all_any A c l w hs hl hlc hr).mono ?_
  intro e w' g
  rw [h] at g
  exact g
theorem Valid_at (A : Option Addr) (n c : Nat) (l : List UInt8) (b : Bool) (w : World) (hn : l.length = n) (h : (allL l).isSome = b) (hs : Siz w) (hl : l.length ≤ 4294967296) (hlc : n ≤ c) (hr : Rd w A (bs l)) :
    Calls Tryd.prog 18 #[.slice A n c] w fun e w' => e = .returned (.bool b) ∧ Below w.heap.size w w' := by
  subst hn h
  exact valid_any A c l w hs hl hlc hr
theorem rd_lits (w : World) (l : List UInt8) (L : Array Value) (t : TypeId) (z : Nat × Nat) (h : bs l = L.toList) : Rd (w.alloc (.cells L t z)) (some ⟨w.heap.size, 0, none⟩) (bs l) :=
  Rd.block (heap_alloc_new w _) (by rw [h]; exact List.take_of_length_le (Nat.le_refl _))

set_option maxRecDepth 100000 in
set_option maxHeartbeats 4000000 in
theorem awake_any (w : World) (hs : Siz w) : Calls Tryd.prog 9 #[] w fun e w' => e = .returned (.bool true) ∧ Below w.heap.size w w' := by
  have kc := fun (w : World) (C : Array Value) (n c : Nat) => Lib.run_convert_bytes_const (P := Tryd.prog) w 22 5 C n c Tryd.underlying22 Tryd.underlying5
  go_enter Tryd.func9, Tryd.ntmps9
  go_wp2_with fail
  have hB1 := (Below.refl w.heap.size w).alloc (Nat.le_refl _) (.cells #[.int .u8 226, .int .u8 130, .int .u8 172, .int .u8 120] 5 (4, 5))
  refine (take_tup _ 4 4 [226, 130, 172, 120] 8364 3 _ rfl (by decide) (hs.below' hB1) (by decide) (by decide) (rd_lits w _ _ _ _ rfl)).mono ?_
  rintro e w1 ⟨rfl, hb1⟩
  have hb1 : Below w.heap.size w w1 := hB1.trans (hb1.mono hB1.size)
  clear hB1
  go_wp2_with fail
  have hB2 := hb1.alloc hb1.size (.cells #[.int .u8 97, .int .u8 195, .int .u8 169] 5 (3, 4))
  refine (All_at _ 3 3 [97, 195, 169] [97, 233] 2 _ rfl (by decide) rfl (hs.below' hB2) (by decide) (by decide) (rd_lits w1 _ _ _ _ rfl)).mono ?_
  rintro e w2 ⟨A2, c2, rfl, hr2, hb2⟩
  have hb2 : Below w.heap.size w w2 := hB2.trans (hb2.mono hB2.size)
  clear hB2 hb1
  go_wp2_with fail
  refine (Put_at 233 [195, 169] 2 (by decide) rfl _ (hs.below' hb2)).mono ?_
  rintro e w3 ⟨A3, c3, rfl, hr3, hb3⟩
  have hr2 := hr2.below hb3
  have hb3 : Below w.heap.size w w3 := hb2.trans (hb3.mono hb2.size)
  clear hb2
  obtain ⟨b, o, rfl, hb, hc⟩ := hr2.int_at (by decide)
  have hc1 := hc 1 (by decide)
  simp only [List.getElem_cons_succ, List.getElem_cons_zero] at hc1
  have hcv := conv_str (P := Tryd.prog) Tryd.underlying22 Tryd.underlying5 (c := c3) (n := 2) rfl hr3 _ Tryd.underlying9
  clear hc hr2 hr3
  go_wp2_with fail
  have hB4 := hb3.alloc hb3.size (.cells #[.int .u8 192, .int .u8 128] 5 (2, 3))
  refine (Valid_at _ 2 2 [192, 128] false _ rfl (by decide) (hs.below' hB4) (by decide) (by decide) (rd_lits w3 _ _ _ _ rfl)).mono ?_
  rintro e w4 ⟨rfl, hb4⟩
  have hb4 : Below w.heap.size w w4 := hB4.trans (hb4.mono hB4.size)
  go_wp2_with fail
  go_ret
  exact ⟨rfl, hb4⟩
end Go.Proofs.YtcijdbklapidnaaDoor
