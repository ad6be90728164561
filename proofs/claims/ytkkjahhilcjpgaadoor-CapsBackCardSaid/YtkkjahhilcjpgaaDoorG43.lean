/-
  Stage 20, the landed caps, walked: Names (the keys of the map, sorted).
-/
import Derived.Test.YtkkjahhilcjpgaaDoorG03
import Derived.Test.YtkkjahhilcjpgaaDoorG15
import Derived.Test.YtkkjahhilcjpgaaDoorG19
import Derived.Test.YtkkjahhilcjpgaaDoorShelf
namespace Go.Proofs.YtkkjahhilcjpgaaDoor
open Go.RowKit Go.Maps Go.Sort Go.Shelf
theorem sorts20 (m : Nat) : AnyZ.SortsIn Tryd.prog Tryd.sortedA_ren Fence.wide m :=
 ⟨fun blk off cap ss W hH hblk hsz => callsIn_wide.2 (AnyM.slices_Sort_string Tryd.sortA blk off cap ss W hH hblk hsz),
  fun p cap W => callsIn_wide.2 (AnyM.slices_Sort_string_none Tryd.sortA p cap W)⟩
theorem keys20_of (mb : Option Nat) (w : World) : Calls Tryd.prog 33 #[.map mb] w fun e w' => e = .returned (.func (.func 44) #[] #[.pointer (some ⟨w.heap.size, 0, none⟩)]) ∧ w' = w.alloc (.cells #[.map mb] 49) :=
 (callsIn_wide (n := 6)).1 (AnyZ.keys_in Tryd.keysA Fence.wide 6 trivial rfl mb w)
set_option maxHeartbeats 1000000 in
theorem sorted20_of (b nn : Nat) (D0 : DataW Value) (w : World) (hown : w.ownsMap Tryd.prog 9 hel b nn D0) (hmax : Maps.size D0 ≤ maxLen) (hbytes : Maps.size D0 * 16 ≤ 140737488355328) (Bm : Nat) (hBm : Bm < w.heap.size) (hm : w.cell? ⟨Bm, 0, none⟩ = some (.map (some b))) :
 Calls Tryd.prog 32 #[.func (.func 44) #[] #[.pointer (some ⟨Bm, 0, none⟩)]] w fun e w' => ∃ (v : Value) (ss : List (List UInt8)), e = .returned v ∧ ss.Perm (strKeys D0) ∧
  w'.ownsRow w.heap.size 9 1 v ss.length ((ss.mergeSort (fun x y => decide (x ≤ y))).map encStr) ∧ (v = .slice none 0 0 ↔ ss = []) ∧ Below w.heap.size w w' := by
 refine (callsIn_wide (n := 6)).1 ?_
 have hseq : SeqGives Fence.wide 3 Tryd.prog 44 #[.pointer (some ⟨Bm, 0, none⟩)] encStr (fun ss => ss.Perm (strKeys D0)) (Maps.size D0) w :=
  AnyZ.keys_gives (ρ := Tryd.keysA_ren) { Tryd.keysA with } Fence.wide _ trivial rfl (by omega) Bm b nn D0 w hBm hm hown
 exact AnyZ.sorted_in Tryd.sortedA Fence.wide 6 trivial trivial trivial trivial rfl (by omega) (sorts20 _) (enters_of Tryd.func43 (by kernel_rfl) rfl) 44 #[.pointer (some ⟨Bm, 0, none⟩)] trivial (enters_of Tryd.func44 (by kernel_rfl) rfl) _ _ hmax hbytes _ hseq
def namesL20 : List (List UInt8) := namesC.map fun q => q.1
theorem names20_sorted {ss : List (List UInt8)} (h : ss.Perm (strKeys capsD)) : ss.mergeSort (fun x y => decide (x ≤ y)) = namesL20 := by
 rw [mergeSort_of_perm (h.trans (show (strKeys capsD).Perm namesL20 by decide +kernel))]
 exact List.mergeSort_of_pairwise (by decide +kernel)
set_option maxRecDepth 100000 in
set_option maxHeartbeats 4000000 in
theorem pNames20_any (w : World) : Calls Tryd.prog 15 #[] w fun e w' => ∃ A c, e = .returned (.slice A 12 c) ∧ Rd w' A (ss_ namesL20) ∧ Below w.heap.size w w' := by
 go_enter Tryd.func15, Tryd.ntmps15
 go_wp2_with fail
 refine (pnames20_any _).mono ?_
 rintro e w1 ⟨v, rfl, ⟨b, rfl, hown, _⟩, hb1⟩
 go_wp2_with fail
 refine (keys20_of (some b) w1).mono ?_
 rintro e w2 ⟨rfl, rfl⟩
 have o2 := hown.alloc (.cells #[.map (some b)] 49)
 have c2 := Blk.new w1 49 #[.map (some b)]
 have hB2 := hb1.alloc hb1.size (.cells #[.map (some b)] 49)
 clear hown hb1
 go_wp2_with fail
 refine (sorted20_of b 12 _ _ o2 (by show 12 ≤ maxLen; decide) (by show 12 * 16 ≤ 140737488355328; decide) w1.heap.size c2.lt (c2.cell 0)).mono ?_
 rintro e w3 ⟨v, ss, rfl, hp, hrow, hnil, hb3⟩
 have hs := names20_sorted hp
 have hl : ss.length = 12 := by rw [hp.length_eq]; decide +kernel
 rw [hs, hl] at hrow
 have hB3 := hB2.trans (hb3.mono hB2.size)
 clear o2 c2 hp hs hl hnil hb3
 go_wp2_with fail
 go_ret
 rcases hrow.2 with ⟨_, h0⟩ | ⟨g, cap, cur, rfl, hge, hh, hcap, _, _, hx⟩
 ·cases h0
 ·refine ⟨_, cap, rfl, fun _ => ⟨g, 0, rfl, (Array.getElem?_eq_some_iff.1 hh).1, fun k u hu => ?_⟩, hB3⟩
  rw [Nat.zero_add, cell_of_row w3 g k cur _ (0, 0) hh, ← Array.getElem?_toList]
  have hx2 : (ss_ namesL20)[k]? = (cur.toList.take 12)[k]? := by
   show (namesL20.map encStr)[k]? = _
   rw [← hx]
  rw [hx2, List.getElem?_take] at hu
  split at hu
  ·exact hu
  ·cases hu
end Go.Proofs.YtkkjahhilcjpgaaDoor
