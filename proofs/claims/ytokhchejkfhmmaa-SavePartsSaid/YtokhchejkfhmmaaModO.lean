/-
  Layer 6: the landed Own (the keys of the map of fields, sorted), walked.
-/
import Derived.Test.YtokhchejkfhmmaaModG
import Derived.Test.YtokhchejkfhmmaaShelf
namespace Go.Proofs.Ytokhchejkfhmmaa
open Go.RowKit Go.Maps Go.Sort Go.Shelf

theorem sortsA (m : Nat) : AnyZI.SortsIn Try.prog Try.sortedA_ren Fence.wide m :=
  ⟨fun blk off cap ss W hH hblk hsz => callsIn_wide.2 (AnyM.slices_Sort_int Try.sortA blk off cap ss W hH hblk hsz),
   fun p cap W => callsIn_wide.2 (AnyM.slices_Sort_int_none Try.sortA p cap W)⟩
theorem keys_of (mb : Option Nat) (w : World) : Calls Try.prog 28 #[.map mb] w fun e w' => e = .returned (.func (.func 37) #[] #[.pointer (some ⟨w.heap.size, 0, none⟩)]) ∧ w' = w.alloc (.cells #[.map mb] 55) :=
  (callsIn_wide (n := 6)).1 (AnyZI.keys_in Try.keysA Fence.wide 6 trivial rfl mb w)
set_option maxHeartbeats 1000000 in
theorem sorted_of (b nn : Nat) (D0 : DataW Value) (w : World) (hown : w.ownsMap Try.prog 3 hel b nn D0) (hmax : Maps.size D0 ≤ maxLen) (hbytes : Maps.size D0 * 8 ≤ 140737488355328) (Bm : Nat) (hBm : Bm < w.heap.size) (hm : w.cell? ⟨Bm, 0, none⟩ = some (.map (some b))) :
    Calls Try.prog 27 #[.func (.func 37) #[] #[.pointer (some ⟨Bm, 0, none⟩)]] w fun e w' => ∃ (v : Value) (ss : List Int), e = .returned v ∧ ss.Perm (intKeys D0) ∧
      w'.ownsRow w.heap.size 3 1 v ss.length ((ss.mergeSort (fun x y => decide (x ≤ y))).map encZ) ∧ (v = .slice none 0 0 ↔ ss = []) ∧ Below w.heap.size w w' := by
  refine (callsIn_wide (n := 6)).1 ?_
  have hseq : SeqGives Fence.wide 3 Try.prog 37 #[.pointer (some ⟨Bm, 0, none⟩)] encZ (fun ss => ss.Perm (intKeys D0)) (Maps.size D0) w :=
    AnyZI.keys_gives (ρ := Try.keysA_ren) { Try.keysA with } Fence.wide _ trivial rfl (by omega) Bm b nn D0 w hBm hm hown
  exact AnyZI.sorted_in Try.sortedA Fence.wide 6 trivial trivial trivial trivial rfl (by omega) (sortsA _) (enters_of Try.func36 (by kernel_rfl) rfl) 37 #[.pointer (some ⟨Bm, 0, none⟩)] trivial (enters_of Try.func37 (by kernel_rfl) rfl) _ _ hmax hbytes _ hseq
theorem keys_list (g : Nat) : intKeys (DataW.map (fieldL true g)) = ownM := by kernel_rfl
theorem own_sorted {ss : List Int} (g : Nat) (h : ss.Perm (intKeys (DataW.map (fieldL true g)))) : ss.mergeSort (fun x y => decide (x ≤ y)) = ownM := by
  rw [mergeSort_of_perm_i h, keys_list]
  exact List.mergeSort_of_pairwise (by decide)
set_option maxRecDepth 100000 in
set_option maxHeartbeats 4000000 in
theorem pown_new (w : World) : Calls Try.prog 17 #[] w fun e w' => ∃ g c, e = .returned (.slice (some ⟨g, 0, none⟩) 12 c) ∧ (w.heap.size ≤ g ∧ 12 ≤ c) ∧ Rd w' (some ⟨g, 0, none⟩) (is_ ownM) ∧ Below w.heap.size w w' := by
  have hb0 : Below w.heap.size w (w.alloc (.cells (moC mo0) 25)) := (Below.refl _ w).alloc (Nat.le_refl _) _
  go_enter Try.func17, Try.ntmps17
  go_wp2_with fail
  refine (fields_yes w.heap.size _).mono ?_
  rintro e w1 ⟨b, n, rfl, hbs, hown, hb1⟩
  have hbb1 := below_step hb0 hb1 hb0.size
  clear hb0 hb1
  go_wp2_with fail
  refine (keys_of (some b) w1).mono ?_
  rintro e w2 ⟨rfl, rfl⟩
  have o2 := hown.alloc (.cells #[.map (some b)] 55)
  have c2 := Blk.new w1 55 #[.map (some b)]
  have hbb2 := hbb1.alloc hbb1.size (.cells #[.map (some b)] 55)
  go_wp2_with fail
  refine (sorted_of b n _ _ o2 (by show 12 ≤ maxLen; decide) (by show 12 * 8 ≤ 140737488355328; decide) w1.heap.size c2.lt (c2.cell 0)).mono ?_
  rintro e w3 ⟨v, ss, rfl, hp, hrow, hnil, hb3⟩
  have hs := own_sorted _ hp
  have hl : ss.length = 12 := by rw [hp.length_eq, keys_list]; rfl
  rw [hs, hl] at hrow
  have hbb3 := below_step hbb2 hb3 hbb2.size
  clear hown o2 c2 hbb1 hp hs hnil hb3 hbs
  go_wp2_with fail
  go_ret
  rcases hrow.2 with ⟨_, h0⟩ | ⟨g, cap, cur, rfl, hge, hh, hcap, _, _, hx⟩
  · cases h0
  · refine ⟨g, cap, rfl, ⟨Nat.le_trans hbb2.size hge, hcap⟩, fun _ => ⟨g, 0, rfl, (Array.getElem?_eq_some_iff.1 hh).1, fun k u hu => ?_⟩, hbb3⟩
    rw [Nat.zero_add, cell_of_row w3 g k cur _ (0, 0) hh, ← Array.getElem?_toList]
    have hx2 : (is_ ownM)[k]? = (cur.toList.take 12)[k]? := by
      show (ownM.map encZ)[k]? = _
      rw [← hx]
    rw [hx2, List.getElem?_take] at hu
    split at hu
    · exact hu
    · cases hu
theorem pown_any (w : World) : Calls Try.prog 17 #[] w (OwnE w) := (pown_new w).mono fun _ _ ⟨g, c, he, hg, hr, hb⟩ => ⟨some ⟨g, 0, none⟩, c, he, hg.2, hr, hb⟩
end Go.Proofs.Ytokhchejkfhmmaa
