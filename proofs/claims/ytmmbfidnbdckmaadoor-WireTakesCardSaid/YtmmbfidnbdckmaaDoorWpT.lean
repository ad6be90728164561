/-
  Layer 3, walked: the program's join, and its parameters as a text.
-/
import Derived.Test.YtmmbfidnbdckmaaDoorWirD
import Derived.Test.YtmmbfidnbdckmaaDoorFigT
import Derived.Test.YtmmbfidnbdckmaaDoorBlk
import Derived.Laws.OwnMore
namespace Go.Proofs.YtmmbfidnbdckmaaDoor
open Go.RowKit

/-- Texts as values, in a row. -/
def ss_ (l : List (List UInt8)) : List Value := l.map fun t => .string ⟨t.toArray⟩
theorem join_cons2 (sep p q : List UInt8) (l : List (List UInt8)) : Lib.join (p :: q :: l) sep = p ++ sep ++ Lib.join (q :: l) sep := by
  simp [Lib.join, List.intercalate_cons_cons]
theorem join_part (p : List Int) : Lib.join (p.map textL) [58] = partL p := by
  match p with
  | [] => rfl
  | [n] => simp [Lib.join, partL]
  | n :: m :: p =>
    rw [List.map_cons, List.map_cons, join_cons2, ← List.map_cons, join_part (m :: p)]
    simp [partL]
theorem join_par (l : List (List Int)) : Lib.join (l.map partL) [59] = parL l := by
  match l with
  | [] => rfl
  | [n] => simp [Lib.join, parL]
  | n :: m :: p =>
    rw [List.map_cons, List.map_cons, join_cons2, ← List.map_cons, join_par (m :: p)]
    simp [parL]

set_option maxRecDepth 100000 in
set_option maxHeartbeats 4000000 in
theorem join_any (A : Option Addr) (n c : Nat) (l : List (List UInt8)) (sep T : List UInt8) (w : World) (hn : l.length = n) (hT : Lib.join l sep = T) (hl : n ≤ 4294967296) (hc : n ≤ c) (hlen : T.length ≤ 140737488355328) (hr : Rd w A (ss_ l)) :
    Calls Tryd.prog 23 #[.string ⟨sep.toArray⟩, .slice A n c] w fun e w' => e = .returned (.string ⟨T.toArray⟩) ∧ Below w.heap.size w w' := by
  have hm : (l.map fun t : List UInt8 => (⟨t.toArray⟩ : ByteArray)).map (·.data.toList) = l := by
    rw [List.map_map]
    calc l.map _ = l.map id := List.map_congr_left (fun x _ => by simp)
      _ = l := List.map_id l
  by_cases h0 : n = 0
  · subst h0
    have e0 : l = [] := List.eq_nil_of_length_eq_zero hn
    subst e0
    obtain rfl : [] = T := hT
    go_enter Tryd.func23, Tryd.ntmps23
    go_wp2_with fail
    refine (Tryd.strings_Join_none A c _ _).mono ?_
    rintro e w1 ⟨rfl, rfl⟩
    go_wp2_with fail
    go_ret
    exact ⟨rfl, Below.refl _ _⟩
  · obtain ⟨b, o, rfl, hb, hcc⟩ := hr (by simp [ss_]; omega)
    have HJ := Lib.hid (show Lib.join ((l.map fun t : List UInt8 => (⟨t.toArray⟩ : ByteArray)).map (·.data.toList)) (⟨sep.toArray⟩ : ByteArray).data.toList = T by rw [hm]; exact hT)
    have hcells : Hid (∀ (j : Nat) (x : ByteArray), (l.map fun t : List UInt8 => (⟨t.toArray⟩ : ByteArray))[j]? = some x → w.cell? ⟨b, o + j, none⟩ = some (.string x)) := Lib.hid fun j x hx => hcc j _ (by
      unfold ss_
      rw [List.getElem?_map] at hx ⊢
      cases hj : l[j]? with
      | none => rw [hj] at hx; cases hx
      | some t => rw [hj] at hx; simp at hx; subst hx; rfl)
    have HLn := Lib.hid (show (l.map fun t : List UInt8 => (⟨t.toArray⟩ : ByteArray)).length = n by rw [List.length_map]; exact hn)
    clear hm hcc hT hn
    have hJ := Tryd.strings_Join b o c (l.map fun t : List UInt8 => (⟨t.toArray⟩ : ByteArray)) ⟨sep.toArray⟩ w hcells.out hb (by rw [HLn.out]; omega) (by rw [HLn.out]; exact hc) (by rw [HJ.out]; exact hlen)
    rw [HJ.out, HLn.out] at hJ
    go_enter Tryd.func23, Tryd.ntmps23
    go_wp2_with fail
    refine hJ.mono ?_
    rintro e w1 ⟨rfl, hb1⟩
    go_wp2_with fail
    go_ret
    exact ⟨rfl, hb1⟩
end Go.Proofs.YtmmbfidnbdckmaaDoor
