/-
  Stage 20's law CapsNames, walked.
-/
import Derived.Test.YtkkjahhilcjpgaaDoorG33
import Derived.Test.YtkkjahhilcjpgaaDoorG34
import Derived.Test.YtkkjahhilcjpgaaDoorG43
import Derived.Deep.Cut
import Derived.BigQuiet
namespace Go.Proofs.YtkkjahhilcjpgaaDoor
open Go.RowKit
theorem names_cnt : namesL20.length = 12 := by decide +kernel
theorem names_has : ∀ n ∈ namesL20, (lookC n).isSome = true ∧ capV n ≠ [] := by decide +kernel
theorem names_rise : ∀ k, k < 11 → Op.bytesLess (namesL20.getD k []) (namesL20.getD (k + 1) []) = true := by decide +kernel
theorem names_in (n : List UInt8) : (lookC n).isSome = (namesL20.any fun x => x == n) := by
 rw [look_in]
 unfold namesL20
 rw [List.any_map]
 rfl
set_option maxRecDepth 100000 in
set_option maxHeartbeats 16000000 in
theorem capsNames_walk (a0 : ByteArray) (ha : a0.size ≤ maxLen) (w : World) : Calls Tryd.prog 7 #[.string a0] w fun e w' => e = .returned (.bool true) ∧ Below w.heap.size w w' := by
 obtain ⟨⟨n⟩⟩ := a0
 have hnl : n.length ≤ maxLen := ha
 have HLO := Lib.hid (pLook20_any n hnl)
 clear ha
 by_cases h1 : 100 < n.length
 ·have v1 : (100 : Int) < (n.length : Int) := by omega
  go_enter Tryd.func7, Tryd.ntmps7
  go_wp2_with fail
  refine (capAwake _).mono ?_
  rintro e w1 ⟨rfl, hb1⟩
  go_wp2_with fail
  go_ret
  exact ⟨rfl, hb1⟩
 have v1 : ¬ ((100 : Int) < (n.length : Int)) := by omega
 have HI := Lib.hid (names_in n)
 clear h1 hnl
 go_enter Tryd.func7, Tryd.ntmps7
 go_wp2_with fail
 refine (capAwake _).mono ?_
 rintro e w1 ⟨rfl, hb1⟩
 go_wp2_with fail
 refine (pNames20_any _).mono ?_
 rintro e w2 ⟨A, c, rfl, hrd, hb2⟩
 have hB2 := hb1.trans (hb2.mono hb1.size)
 clear hb1 hb2
 go_wp2_with fail
 go_loopw [5, 6] (fun v z wr => ∃ k : Nat, k ≤ 12 ∧ z = .int .i64 k ∧ v = .bool ((namesL20.take k).any fun x => x == n) ∧ Below w2.heap.size w2 wr) (fun _ z _ => 12 - (intOf z).toNat)
 case atStart => exact ⟨0, Nat.zero_le _, rfl, rfl, Below.refl _ _⟩
 case round =>
  obtain ⟨k, hk, rfl, rfl, hbw⟩ := hrel
  have hB := hB2.trans (hbw.mono hB2.size)
  by_cases hlt : k < 12
  ·have v2 : (k : Int) < 12 := by omega
   have v0 : (0 : Int) ≤ (k : Int) := by omega
   have v3 : IntKind.i64.wrap ((k : Int) + 1) = (k : Int) + 1 := by rw [IntKind.wrap_i64]; omega
   have hkl : k < namesL20.length := by rw [names_cnt]; exact hlt
   obtain ⟨N, hN⟩ : ∃ N, namesL20[k] = N := ⟨_, rfl⟩
   have hmem : N ∈ namesL20 := hN ▸ List.getElem_mem hkl
   obtain ⟨b, o, rfl, hbl, hcell⟩ := hrd (by simp [ss_, names_cnt])
   have hck0 := hcell k (.string ⟨N.toArray⟩) (by simp [ss_, hkl, hN])
   have hck := (hbw.cell (p := ⟨b, o + k, none⟩) hbl).trans hck0
   obtain ⟨hs1, hs2⟩ := names_has N hmem
   have HLN := Lib.hid (pLook20_any N (by have := (names_has N hmem); have : ∀ x ∈ namesL20, x.length ≤ maxLen := by decide +kernel
                                          exact this N hmem))
   rw [hs1] at HLN
   obtain ⟨V, hV⟩ : ∃ V, capV N = V := ⟨_, rfl⟩
   rw [hV] at HLN hs2
   have hve : V.isEmpty = false := by cases V with | nil => exact absurd rfl hs2 | cons => rfl
   have htk : (namesL20.take (k + 1)).any (fun x => x == n) = ((namesL20.take k).any (fun x => x == n) || N == n) := by rw [List.take_succ_eq_append_getElem hkl, hN, List.any_append]; simp
   go_upto_region 9 with fail
   go_wp2_with fail
   refine (HLN.out _).mono ?_
   rintro e w3 ⟨rfl, hb3⟩
   have hw3 := hbw.trans (hb3.mono hbw.size)
   have hck3 := (hw3.cell (p := ⟨b, o + k, none⟩) hbl).trans hck0
   go_upto_region 10 with fail
   obtain ⟨q, hq⟩ : ∃ q, ((namesL20.take k).any fun x => x == n) = q := ⟨_, rfl⟩
   rw [hq] at htk ⊢
   have HTK := Lib.hid htk
   clear hq htk
   cases k with
   | zero =>
     go_quiet (fail)
     replace hw3 := below_drewN hw3 nq
     have hckz : (w3.drewN nq).cell? ⟨b, o + 0, none⟩ = some (.string ⟨N.toArray⟩) := hck3
     have hcky : (w3.drewN nq).cell? ⟨b, o, none⟩ = some (.string ⟨N.toArray⟩) := hck3
     cases q with
     | true =>
       go_wp2_with fail
       exact ⟨⟨0 + 1, by omega, by go_num, by simp [HTK.out], hw3⟩, by simp [intOf] <;> omega⟩
     | false =>
       go_wp2_with fail
       exact ⟨⟨0 + 1, by omega, by go_num, by simp [HTK.out], hw3⟩, by simp [intOf] <;> omega⟩
   | succ j =>
     obtain ⟨P, hP⟩ : ∃ P, namesL20[j] = P := ⟨_, rfl⟩
     have hjl : j < namesL20.length := by omega
     have hcj := (hw3.cell (p := ⟨b, o + j, none⟩) hbl).trans (hcell j (.string ⟨P.toArray⟩) (by simp [ss_, hjl]; exact hP))
     have hlss : Op.bytesLess P N = true := by
      have := names_rise j (by omega)
      rw [List.getD_eq_getElem?_getD, List.getD_eq_getElem?_getD, List.getElem?_eq_getElem hkl, List.getElem?_eq_getElem hjl, hN] at this
      rw [← hP]
      exact this
     have v4 : (0 : Int) < ((j + 1 : Nat) : Int) := by omega
     have v5 : IntKind.i64.wrap (((j + 1 : Nat) : Int) - 1) = (j : Int) := by rw [IntKind.wrap_i64]; omega
     have v6 : (0 : Int) ≤ (j : Int) := by omega
     have v7 : (j : Int) < 12 := by omega
     go_quiet (fail)
     replace hw3 := below_drewN hw3 nq
     have hckz : (w3.drewN nq).cell? ⟨b, o + (j + 1), none⟩ = some (.string ⟨N.toArray⟩) := hck3
     cases q with
     | true =>
       go_wp2_with fail
       exact ⟨⟨(j + 1) + 1, by omega, by go_num, by simp [HTK.out], hw3⟩, by simp [intOf] <;> omega⟩
     | false =>
       go_wp2_with fail
       exact ⟨⟨(j + 1) + 1, by omega, by go_num, by simp [HTK.out], hw3⟩, by simp [intOf] <;> omega⟩
  ·obtain rfl : k = 12 := by omega
   have hall : namesL20.take 12 = namesL20 := by rw [← names_cnt]; exact List.take_length
   obtain ⟨q, hq⟩ : ∃ q, (namesL20.any fun x => x == n) = q := ⟨_, rfl⟩
   have HQ : Hid ((lookC n).isSome = q) := Lib.hid (by rw [HI.out, hq])
   rw [hall, hq]
   clear hq hall
   go_wp2_with fail
   refine (HLO.out _).mono ?_
   rw [HQ.out]
   rintro e w5 ⟨rfl, hb5⟩
   have hB5 := hB.trans (hb5.mono hB.size)
   clear hb5 hB
   cases q with
   | true =>
     go_wp2_with fail
     refine (rNames20_any _).mono ?_
     rintro e w6 ⟨A6, c6, rfl, hb6⟩
     have hB6 := hB5.trans (hb6.mono hB5.size)
     go_wp2_with fail
     go_ret
     exact ⟨rfl, hB6⟩
   | false =>
     go_wp2_with fail
     refine (rNames20_any _).mono ?_
     rintro e w6 ⟨A6, c6, rfl, hb6⟩
     have hB6 := hB5.trans (hb6.mono hB5.size)
     go_wp2_with fail
     go_ret
     exact ⟨rfl, hB6⟩
end Go.Proofs.YtkkjahhilcjpgaaDoor
