/-
  From layer 7's walks to a law's row: two modes that came in.
  Cut out of SavL. An array of two bytes that came in.
-/
import Derived.Test.YtceipblcdcgljaaGreatDoorG15
import Derived.Test.YtceipblcdcgljaaGreatDoorG16
namespace Go.Proofs.YtceipblcdcgljaaGreatDoor
open Go.RowKit Go.WideShapes Go.ChangeShapes Go.ChangeAt Go.ChangeMaps Go.Deep
section
section
variable {H : Type} {enc : TypeId × Value → H}
set_option maxRecDepth 100000 in
theorem open_mo2 {r : Reach} {b0 : Nat} {W : World} {v : Value} {d : DataW H} {ps : List MemPlace} (hval : Value.okWide Tryz.prog W r b0 31 v) (h : DataW.Trod enc Tryz.prog W 0 (fun _ => true) true 31 v d ps) :
 ∃ a b : Mo, v = .agg ((moC a).toList ++ (moC b).toList).toArray ∧ okM a ∧ okM b := by
 obtain ⟨cs, rfl, hsz⟩ := okWide_two Tryz.underlying31 hval
 obtain ⟨fuel, hf⟩ := h
 obtain ⟨xs, m, _, hx, hlen, hxl, hel⟩ := DataW.trod_array Tryz.underlying31 hf
 have ct : Tryz.prog.cellsOf 31 = 20 := by kernel_rfl
 have ce : Tryz.prog.cellsOf 23 = 10 := by kernel_rfl
 rw [ct] at hsz
 rw [ce] at hel
 obtain ⟨l⟩ := cs
 have hl : l.length = 20 := hsz
 match xs, hxl with
 | [y0, y1], _ =>
   obtain ⟨a, ha, oa⟩ := mo_in (show DataW.trod enc Tryz.prog W 0 (fun _ => true) true m 23 ((l.drop 0).take 10) = some y0 from hel 0 (by omega))
   obtain ⟨b, hb, ob⟩ := mo_in (show DataW.trod enc Tryz.prog W 0 (fun _ => true) true m 23 ((l.drop 10).take 10) = some y1 from hel 1 (by omega))
   refine ⟨a, b, ?_, oa, ob⟩
   have e : l = (moC a).toList ++ (moC b).toList := by
    rw [← ha, ← hb, List.drop_zero, List.take_of_length_le (l := l.drop 10) (by simp [hl]), List.take_append_drop]
   rw [e]
end
end
section
section
variable {H : Type} {enc : TypeId × Value → H}
set_option maxRecDepth 100000 in
theorem open_b2 {r : Reach} {b0 : Nat} {W : World} {v : Value} {d : DataW H} {ps : List MemPlace} (hval : Value.okWide Tryz.prog W r b0 32 v) (h : DataW.Trod enc Tryz.prog W 0 (fun _ => true) true 32 v d ps) :
 ∃ a b : UInt8, v = .agg #[.int .u8 (a.toNat : Int), .int .u8 (b.toNat : Int)] := by
 obtain ⟨a, b, rfl, wa, wb⟩ := open_two Tryz.underlying32 Tryz.underlying5 (by kernel_rfl) (by kernel_rfl) hval h
 obtain ⟨a', rfl⟩ := byte_of wa
 obtain ⟨b', rfl⟩ := byte_of wb
 exact ⟨a', b', rfl⟩
end
end
end Go.Proofs.YtceipblcdcgljaaGreatDoor
