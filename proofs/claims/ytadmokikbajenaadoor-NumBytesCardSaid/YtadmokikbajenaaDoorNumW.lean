/-
  Layer 1: that the program is awake, as each of the layer's statements asks first.
-/
import Derived.Test.YtadmokikbajenaaDoorNumV
import Derived.Test.YtadmokikbajenaaDoorNumT
import Derived.Test.YtadmokikbajenaaDoorNumX
import Derived.Lib.AppendIntMem
import Derived.Lib.SlBytesConst
namespace Go.Proofs.YtadmokikbajenaaDoor
open Go.RowKit

def Tab (w : World) : Prop := Lib.TabIs Tryd.prog w "internal/strconv.uint64pow10" .u64 Lib.pow10Tab
theorem Tab.below {w w' : World} (h : Tab w) (hb : Below w.heap.size w w') : Tab w' := Lib.tabBelow_of_tabIs h w' hb

theorem got_yes {l out : List UInt8} {w w' : World} {e : Ending} (h : unhexL l = some out) (g : Got l w e w') : ∃ A c, e = .returned (.tuple #[.slice A out.length c, .bool true]) ∧ Rd w' A (bs out) ∧ Below w.heap.size w w' := by
  unfold Got at g
  rw [h] at g
  obtain ⟨hb, A, c, he, hr⟩ := g
  exact ⟨A, c, he, hr, hb⟩
theorem got_no {l : List UInt8} {w w' : World} {e : Ending} (h : unhexL l = none) (g : Got l w e w') : e = .returned (.tuple #[.slice none 0 0, .bool false]) ∧ Below w.heap.size w w' := by
  unfold Got at g
  rw [h] at g
  exact ⟨g.2, g.1⟩

theorem aw_take : satv [50, 48, 48, 48, 48, 48, 48, 59] = 1114111 ∧ digs [50, 48, 48, 48, 48, 48, 48, 59] = 7 := by decide
theorem aw_unhex : unhexL [52, 97, 52, 66] = some [74, 75] := by decide
theorem aw_text : textL 40 = [52, 48] := by unfold textL; rw [if_neg (by omega)]; exact Lib.decDigits_two (i := 40) (by omega) (by omega)
theorem aw_hex : hexL [65, 66] = [52, 49, 52, 50] := by decide

set_option maxHeartbeats 1000000 in
theorem awake_any (w : World) (htab : Tab w) :
    Calls Tryd.prog 9 #[] w fun e w' => e = .returned (.bool true) ∧ Below w.heap.size w w' := by
  have kc := fun (w : World) (C : Array Value) (n c : Nat) => Lib.run_convert_bytes_const (P := Tryd.prog) w 22 5 C n c Tryd.underlying22 Tryd.underlying5
  go_enter Tryd.func9, Tryd.ntmps9
  go_wp2_with fail
  have h1 : Rd (w.alloc (.cells #[.int .u8 50, .int .u8 48, .int .u8 48, .int .u8 48, .int .u8 48, .int .u8 48, .int .u8 48, .int .u8 59] 5 (8, 9))) (some ⟨w.heap.size, 0, none⟩) (bs [50, 48, 48, 48, 48, 48, 48, 59]) := Rd.block (heap_alloc_new w _) rfl
  refine (take_any (some ⟨w.heap.size, 0, none⟩) 8 [50, 48, 48, 48, 48, 48, 48, 59] _ (by decide) h1).mono ?_
  rintro e w1 ⟨rfl, hb1⟩
  rw [aw_take.1, aw_take.2]
  have hb1 : Below w.heap.size w w1 := ((Below.refl _ w).alloc (Nat.le_refl _) _).trans (hb1.mono (by simp))
  go_wp2_with fail
  refine (unhex_any _ _ (by decide)).mono ?_
  rintro e w2 g
  obtain ⟨A, c, rfl, hr, hb2⟩ := got_yes aw_unhex g
  have hb2 : Below w.heap.size w w2 := hb1.trans (hb2.mono hb1.size)
  clear g
  go_wp2_with fail
  refine (text_any 40 _ (by omega) (by omega) (htab.below hb2)).mono ?_
  rintro e w3 ⟨rfl, hb3⟩
  rw [aw_text]
  have hr3 := hr.below hb3
  have hb3 : Below w.heap.size w w3 := hb2.trans (hb3.mono hb2.size)
  go_wp2_with fail
  have h4 : Rd (w3.alloc (.cells #[.int .u8 65, .int .u8 66] 5 (2, 3))) (some ⟨w3.heap.size, 0, none⟩) (bs [65, 66]) := Rd.block (heap_alloc_new w3 _) rfl
  refine (hex_any (some ⟨w3.heap.size, 0, none⟩) 2 [65, 66] _ (by decide) h4).mono ?_
  rintro e w4 ⟨rfl, hb4⟩
  rw [aw_hex]
  have hr4 := (hr3.alloc (.cells #[.int .u8 65, .int .u8 66] 5 (2, 3))).below hb4
  have hb4 : Below w.heap.size w w4 := (hb3.alloc hb3.size _).trans (hb4.mono (Nat.le_trans hb3.size (by simp)))
  have hcv := conv_str (P := Tryd.prog) Tryd.underlying22 Tryd.underlying5 (c := c) (n := 2) rfl hr4 _ Tryd.underlying9
  go_wp2_with fail
  go_ret
  exact ⟨rfl, hb4⟩
end Go.Proofs.YtadmokikbajenaaDoor
