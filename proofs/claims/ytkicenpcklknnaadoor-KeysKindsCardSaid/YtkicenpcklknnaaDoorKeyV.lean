/-
  Layer 9: the document's own answers: Find.
-/
import Derived.Test.YtkicenpcklknnaaDoorKeyU
namespace Go.Proofs.YtkicenpcklknnaaDoor
open Go.RowKit

theorem findK_hit {f n : Int} {k : Nat} {c : Int} (h : hasE f n c = true) : findK f n (k + 1) c = (c, true) := by
  rw [findK, if_pos h]
theorem findK_next {f n : Int} {k : Nat} {c : Int} (h : hasE f n c = false) : findK f n (k + 1) c = findK f n k (c + 1) := by
  rw [findK, if_neg (by rw [h]; decide)]
set_option maxRecDepth 100000 in
set_option maxHeartbeats 32000000 in
theorem rfind_any (f n : Int) (w : World) : Calls Tryd.prog 14 #[.int .u8 f, .int .i64 n] w fun e w' => e = .returned (.tuple #[.int .i64 (findE f n).1, .bool (findE f n).2]) ∧ Below w.heap.size w w' := by
  go_enter Tryd.func14, Tryd.ntmps14
  go_wp2
  go_loopw [6] (fun s4 wr => ∃ i : Nat, i ≤ 55 ∧ s4 = .int .i64 (57344 + (i : Int)) ∧ Hid (findE f n = findK f n (55 - i) (57344 + (i : Int))) ∧ Below w.heap.size w wr) (fun s4 _ => 57399 - (intOf s4).toNat)
  case atStart => exact ⟨0, by omega, rfl, Lib.hid rfl, Below.refl _ _⟩
  case round =>
    obtain ⟨i, hi, rfl, HF, hbw⟩ := hrel
    by_cases hlt : i < 55
    · have HL := Lib.hid (rlook_any (57344 + (i : Int)) wr)
      obtain ⟨E, hE⟩ : ∃ E, lookE (57344 + (i : Int)) = E := ⟨_, rfl⟩
      have HH : Hid (hasE f n (57344 + (i : Int)) = (E.kind == 3 && E.fin == f || E.kind == 4 && f == 126 && E.num == n)) := Lib.hid (by unfold hasE; rw [hE])
      rw [hE, enV] at HL
      obtain ⟨c, hc⟩ : ∃ c, 57344 + (i : Int) = c := ⟨_, rfl⟩
      rw [hc] at HL HH HF ⊢
      have gc : c < 57399 := by omega
      obtain ⟨K, F, N, C, B⟩ := E
      clear hE
      cases hf : (f == 126)
      all_goals
        go_wp2_with fail
        refine HL.out.mono ?_
        rintro e w1 ⟨rfl, hb⟩
        go_wp2_with fail
        all_goals have hbE : ∀ x, Below w.heap.size w (w1.alloc x) := fun x => (below_step9 hbw hb hbw.size).alloc (below_step9 hbw hb hbw.size).size x
        all_goals
          first
            | (go_ret2
               have hh : hasE f n c = true := by
                 rw [HH.out]
                 simp [*]
               have hr : findE f n = (c, true) := by rw [HF.out, show 55 - i = (54 - i) + 1 by omega, findK_hit hh]
               exact ⟨by rw [hr]; rfl, hbE _⟩)
            | (go_roundw
               case rel =>
                 have hh : hasE f n c = false := by
                   rw [HH.out]
                   simp [*]
                 have hr : findE f n = findK f n (55 - (i + 1)) (c + 1) := by rw [HF.out, show 55 - i = (55 - (i + 1)) + 1 by omega, findK_next hh]
                 exact ⟨i + 1, by omega, by go_num, Lib.hid (by rw [hr]; congr 1; omega), hbE _⟩
               case measure => simp [intOf]; omega)
    · obtain rfl : i = 55 := by omega
      have hr : findE f n = (0, false) := by rw [HF.out]; rfl
      clear HF
      go_wp2_with fail
      go_ret2
      exact ⟨by rw [hr]; rfl, hbw⟩
end Go.Proofs.YtkicenpcklknnaaDoor
