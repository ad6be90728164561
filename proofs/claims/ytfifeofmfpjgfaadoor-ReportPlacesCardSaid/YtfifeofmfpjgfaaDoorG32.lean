/-
  Stage 18, the document's style, walked: Text.
-/
import Derived.Test.YtfifeofmfpjgfaaDoorG06
import Derived.Test.YtfifeofmfpjgfaaDoorG12
import Derived.Test.YtfifeofmfpjgfaaDoorG14
namespace Go.Proofs.YtfifeofmfpjgfaaDoor
open Go.RowKit
theorem partL18_snoc : ∀ (p : List Int) (n : Int), partL (p ++ [n]) = (if p = [] then [] else partL p ++ [58]) ++ textL n
 | [], n => rfl
 | [a], n => by simp [partL]
 | a :: b :: p, n => by
   rw [if_neg (by simp)]
   show partL (a :: b :: (p ++ [n])) = _
   have ih := partL18_snoc (b :: p) n
   rw [if_neg (by simp)] at ih
   rw [List.cons_append] at ih
   simp only [partL]
   rw [ih]
   simp
theorem parL18_snoc : ∀ (l : List (List Int)) (p : List Int), parL (l ++ [p]) = (if l = [] then [] else parL l ++ [59]) ++ partL p
 | [], p => rfl
 | [a], p => by simp [parL]
 | a :: b :: l, p => by
   rw [if_neg (by simp)]
   show parL (a :: b :: (l ++ [p])) = _
   have ih := parL18_snoc (b :: l) p
   rw [if_neg (by simp)] at ih
   rw [List.cons_append] at ih
   simp only [parL]
   rw [ih]
   simp
theorem part18_take {p : List Int} {j : Nat} (h : j < p.length) : partL (p.take (j + 1)) = (if j = 0 then [] else partL (p.take j) ++ [58]) ++ textL p[j] := by
 rw [List.take_succ_eq_append_getElem h, partL18_snoc]
 by_cases e : j = 0
 ·subst e; simp
 ·rw [if_neg e, if_neg (fun h' => e (by
   have h2 : (p.take j).length = j := by rw [List.length_take]; omega
   rw [h'] at h2
   exact h2.symm))]
theorem par18_take {l : List (List Int)} {i : Nat} (h : i < l.length) : parL (l.take (i + 1)) = (if i = 0 then [] else parL (l.take i) ++ [59]) ++ partL l[i] := by
 rw [List.take_succ_eq_append_getElem h, parL18_snoc]
 by_cases e : i = 0
 ·subst e; simp
 ·rw [if_neg e, if_neg (fun h' => e (by
   have h2 : (l.take i).length = i := by rw [List.length_take]; omega
   rw [h'] at h2
   exact h2.symm))]
theorem cat18 {L M : List UInt8} (h : L.length + M.length ≤ 9223372036854775807) (W : World) : (Op.stringOp .add ⟨L.toArray⟩ ⟨M.toArray⟩).run Tryd.prog W = .ok (.string ⟨(L ++ M).toArray⟩) W := by
 have hsum : (⟨L.toArray⟩ : ByteArray).size + (⟨M.toArray⟩ : ByteArray).size ≤ 9223372036854775807 := h
 have := run_string_add_sum (P := Tryd.prog) W _ _ hsum
 simpa [ByteArray.mk_append_mk] using this
set_option maxRecDepth 100000 in
set_option maxHeartbeats 16000000 in
theorem rText18_any (A : Option Addr) (l : List (List Int)) (n c : Nat) (hn : l.length = n) (hln : n ≤ 100) (hlp : ∀ p ∈ l, p.length ≤ 100) (w : World) (hl : LsIn w A l) :
 Calls Tryd.prog 55 #[.slice A n c] w fun e w' => e = .returned (.string ⟨(parL l).toArray⟩) ∧ Below w.heap.size w w' := by
 have HN := Lib.hid hn
 have HLP := Lib.hid hlp
 clear hlp hn
 go_enter Tryd.func55, Tryd.ntmps55
 go_wp2_with fail
 go_loopw [3, 4] (fun tv z wr => ∃ (i : Nat) (T : List UInt8), i ≤ n ∧ z = .int .i64 i ∧ tv = .string ⟨T.toArray⟩ ∧ Hid (parL (l.take i) = T) ∧ T.length ≤ 3000 * i ∧ Below w.heap.size w wr) (fun _ z _ => n - (intOf z).toNat)
 case atStart => exact ⟨0, [], Nat.zero_le _, rfl, rfl, Lib.hid rfl, by simp, Below.refl _ _⟩
 case round =>
  obtain ⟨i, T, hi', rfl, rfl, hT, hTl, hbw⟩ := hrel
  by_cases hlt : i < n
  ·have t1 : (i : Int) < (n : Int) := by omega
   have t0 : (0 : Int) ≤ (i : Int) := by omega
   have t2 : IntKind.i64.wrap ((i : Int) + 1) = (i : Int) + 1 := by rw [IntKind.wrap_i64]; omega
   have hii : i < l.length := by have := HN.out; omega
   obtain ⟨b, o, rfl, hbb, hc⟩ := hl.rd (by omega)
   obtain ⟨A', c', hc', hcell, hr'⟩ := hc i hii
   have HNR : Hid (∀ n ∈ l[i], in18 n) := Lib.hid fun n hn => hl.nr _ (List.getElem_mem hii) n hn
   have hp1 := HLP.out _ (List.getElem_mem hii)
   have HPT := Lib.hid (par18_take hii)
   obtain ⟨p, hp⟩ : ∃ p, l[i] = p := ⟨_, rfl⟩
   rw [hp] at HNR hc' hcell hr' hp1 HPT
   obtain ⟨k, hk⟩ : ∃ k, p.length = k := ⟨_, rfl⟩
   rw [hk] at hc' hcell hp1
   have HK := Lib.hid hk
   have HCE : Hid (∀ W, Below w.heap.size w W → W.cell? ⟨b, o + i, none⟩ = some (.slice A' k c')) := Lib.hid fun W hW => (hW.cell (p := ⟨b, o + i, none⟩) hbb).trans hcell
   clear hc hcell hp hk
   obtain ⟨T1, hT1⟩ : ∃ T1, (if i = 0 then [] else T ++ [59]) = T1 := ⟨_, rfl⟩
   have hT1l : T1.length ≤ 3000 * i + 1 := by
    rw [← hT1]
    split
    ·simp
    ·rw [List.length_append]; simp; omega
   have HT1 : Hid (parL (l.take (i + 1)) = T1 ++ partL p) := Lib.hid (by rw [HPT.out, hT.out, hT1])
   have hcs := cat18 (L := T) (M := [59]) (by simp; omega)
   have hstep : (i = 0 ∧ T1 = []) ∨ (0 < i ∧ T1 = T ++ [59]) := by
    by_cases e : i = 0
    ·exact .inl ⟨e, by rw [← hT1, if_pos e]⟩
    ·exact .inr ⟨by omega, by rw [← hT1, if_neg e]⟩
   have hT0 : i = 0 → T = [] := fun e => by rw [← hT.out, e]; rfl
   clear hT1 hT HPT
   have ce := HCE.out _ hbw
   have key : ∀ (d : Nat), d = i → (d = 0 ∧ T1 = T) ∨ (0 < d ∧ T1 = T ++ [59]) := fun d hd => by
    rcases hstep with ⟨e, e1⟩ | ⟨e, e1⟩
    ·exact .inl ⟨by omega, by rw [e1, hT0 e]⟩
    ·exact .inr ⟨by omega, e1⟩
   have hk2 := key i rfl
   clear key hstep hT0
   have hgt : (0 : Int) < (i : Int) ∧ T1 = T ++ [59] ∨ ¬ ((0 : Int) < (i : Int)) ∧ T1 = T := by
    rcases hk2 with ⟨e, e1⟩ | ⟨e, e1⟩
    ·exact .inr ⟨by omega, e1⟩
    ·exact .inl ⟨by omega, e1⟩
   clear hk2
   rcases hgt with ⟨hg, hT1e⟩ | ⟨hg, rfl⟩
   ·replace hcs : ∀ W : World, (Op.stringOp .add ⟨T.toArray⟩ ⟨#[59]⟩).run Tryd.prog W = .ok (.string ⟨T1.toArray⟩) W := fun W => by rw [hT1e]; exact hcs W
    clear hT1e
    go_wp2_with fail
    clear hg
    rename_i hxx
    clear hxx
    go_loopw [3, 5] (fun tv z wr' => ∃ (j : Nat) (U : List UInt8), j ≤ k ∧ z = .int .i64 j ∧ tv = .string ⟨U.toArray⟩ ∧ Hid (T1 ++ partL (p.take j) = U) ∧ U.length ≤ 3000 * i + 1 + 23 * j ∧ Below w.heap.size w wr') (fun _ z _ => k - (intOf z).toNat)
    case atStart => exact ⟨0, _, Nat.zero_le _, rfl, rfl, Lib.hid (List.append_nil _), by omega, hbw⟩
    case round =>
     obtain ⟨j, U, hj', rfl, rfl, hU, hUl, hbv⟩ := hrel
     have ce := HCE.out _ hbv
     by_cases hlj : j < k
     ·have v1 : (j : Int) < (k : Int) := by omega
      have v0 : (0 : Int) ≤ (j : Int) := by omega
      have v2 : IntKind.i64.wrap ((j : Int) + 1) = (j : Int) + 1 := by rw [IntKind.wrap_i64]; omega
      have hjj : j < p.length := by have := HK.out; omega
      obtain ⟨b', o', hA', hbb', hcc'⟩ := (hr'.below hbv).int_at (by omega)
      subst hA'
      have hcj := hcc' j hjj
      have HR := Lib.hid (HNR.out _ (List.getElem_mem hjj))
      have HPJ := Lib.hid (part18_take hjj)
      obtain ⟨r, hrr⟩ : ∃ r, p[j] = r := ⟨_, rfl⟩
      rw [hrr] at hcj HR HPJ
      have hrl := textL_length r HR.out.2
      clear hcc' hrr
      have hcs1 := cat18 (L := U) (M := [58]) (by simp; omega)
      have hcs2 := cat18 (L := U) (M := textL r) (by omega)
      have hcs3 := cat18 (L := U ++ [58]) (M := textL r) (by rw [List.length_append]; simp; omega)
      have HTR : Hid (∀ W, Calls Tryd.prog 58 #[.int .i64 r] W fun e w' => e = .returned (.string ⟨(textL r).toArray⟩) ∧ Below W.heap.size W w') := Lib.hid fun W => rtext_any 9223372036854775808 r W (by have := HR.out.2; omega) HR.out.2 HR.out.1
      obtain ⟨R, hR⟩ : ∃ R, textL r = R := ⟨_, rfl⟩
      rw [hR] at hcs2 hcs3 HTR HPJ hrl
      clear hR
      by_cases hj0 : j = 0
      ·have g0 : ¬ ((0 : Int) < (j : Int)) := by omega
       have HU2 := Lib.hid (show T1 ++ partL (p.take (j + 1)) = U ++ R by rw [HPJ.out, if_pos hj0, List.nil_append, ← hU.out, hj0]; simp [partL])
       clear hj0 hU HPJ
       go_wp2_with fail
       refine (HTR.out _).mono ?_
       rintro e w4 ⟨rfl, hb4⟩
       have hbv4 := hbv.trans (hb4.mono hbv.size)
       go_wp2_with fail
       go_roundw
       case rel => exact ⟨j + 1, _, by omega, by go_num, rfl, HU2, by rw [List.length_append]; omega, hbv4⟩
       case measure => simp [intOf]; omega
      ·have g0 : (0 : Int) < (j : Int) := by omega
       have HU2 := Lib.hid (show T1 ++ partL (p.take (j + 1)) = U ++ 58 :: R by rw [HPJ.out, if_neg hj0, ← hU.out]; simp)
       clear hj0 hU HPJ
       go_wp2_with fail
       refine (HTR.out _).mono ?_
       rintro e w4 ⟨rfl, hb4⟩
       have hbv4 := hbv.trans (hb4.mono hbv.size)
       go_wp2_with fail
       go_roundw
       case rel => exact ⟨j + 1, _, by omega, by go_num, rfl, HU2, by rw [List.length_append, List.length_cons]; omega, hbv4⟩
       case measure => simp [intOf]; omega
     ·have v1 : ¬ ((j : Int) < (k : Int)) := by omega
      have HU3 : Hid (parL (l.take (i + 1)) = U) := Lib.hid (by rw [HT1.out, ← hU.out, List.take_of_length_le (by have := HK.out; omega)])
      clear hU
      go_wp2_with fail
      go_roundw
      case rel => exact ⟨i + 1, U, by omega, by go_num, rfl, HU3, by omega, hbv⟩
      case measure => simp [intOf]; omega
   ·go_wp2_with fail
    go_loopw [3, 5] (fun tv z wr' => ∃ (j : Nat) (U : List UInt8), j ≤ k ∧ z = .int .i64 j ∧ tv = .string ⟨U.toArray⟩ ∧ Hid (T1 ++ partL (p.take j) = U) ∧ U.length ≤ 3000 * i + 1 + 23 * j ∧ Below w.heap.size w wr') (fun _ z _ => k - (intOf z).toNat)
    case atStart => exact ⟨0, _, Nat.zero_le _, rfl, rfl, Lib.hid (List.append_nil _), by omega, hbw⟩
    case round =>
     obtain ⟨j, U, hj', rfl, rfl, hU, hUl, hbv⟩ := hrel
     have ce := HCE.out _ hbv
     by_cases hlj : j < k
     ·have v1 : (j : Int) < (k : Int) := by omega
      have v0 : (0 : Int) ≤ (j : Int) := by omega
      have v2 : IntKind.i64.wrap ((j : Int) + 1) = (j : Int) + 1 := by rw [IntKind.wrap_i64]; omega
      have hjj : j < p.length := by have := HK.out; omega
      obtain ⟨b', o', hA', hbb', hcc'⟩ := (hr'.below hbv).int_at (by omega)
      subst hA'
      have hcj := hcc' j hjj
      have HR := Lib.hid (HNR.out _ (List.getElem_mem hjj))
      have HPJ := Lib.hid (part18_take hjj)
      obtain ⟨r, hrr⟩ : ∃ r, p[j] = r := ⟨_, rfl⟩
      rw [hrr] at hcj HR HPJ
      have hrl := textL_length r HR.out.2
      clear hcc' hrr
      have hcs1 := cat18 (L := U) (M := [58]) (by simp; omega)
      have hcs2 := cat18 (L := U) (M := textL r) (by omega)
      have hcs3 := cat18 (L := U ++ [58]) (M := textL r) (by rw [List.length_append]; simp; omega)
      have HTR : Hid (∀ W, Calls Tryd.prog 58 #[.int .i64 r] W fun e w' => e = .returned (.string ⟨(textL r).toArray⟩) ∧ Below W.heap.size W w') := Lib.hid fun W => rtext_any 9223372036854775808 r W (by have := HR.out.2; omega) HR.out.2 HR.out.1
      obtain ⟨R, hR⟩ : ∃ R, textL r = R := ⟨_, rfl⟩
      rw [hR] at hcs2 hcs3 HTR HPJ hrl
      clear hR
      by_cases hj0 : j = 0
      ·have g0 : ¬ ((0 : Int) < (j : Int)) := by omega
       have HU2 := Lib.hid (show T1 ++ partL (p.take (j + 1)) = U ++ R by rw [HPJ.out, if_pos hj0, List.nil_append, ← hU.out, hj0]; simp [partL])
       clear hj0 hU HPJ
       go_wp2_with fail
       refine (HTR.out _).mono ?_
       rintro e w4 ⟨rfl, hb4⟩
       have hbv4 := hbv.trans (hb4.mono hbv.size)
       go_wp2_with fail
       go_roundw
       case rel => exact ⟨j + 1, _, by omega, by go_num, rfl, HU2, by rw [List.length_append]; omega, hbv4⟩
       case measure => simp [intOf]; omega
      ·have g0 : (0 : Int) < (j : Int) := by omega
       have HU2 := Lib.hid (show T1 ++ partL (p.take (j + 1)) = U ++ 58 :: R by rw [HPJ.out, if_neg hj0, ← hU.out]; simp)
       clear hj0 hU HPJ
       go_wp2_with fail
       refine (HTR.out _).mono ?_
       rintro e w4 ⟨rfl, hb4⟩
       have hbv4 := hbv.trans (hb4.mono hbv.size)
       go_wp2_with fail
       go_roundw
       case rel => exact ⟨j + 1, _, by omega, by go_num, rfl, HU2, by rw [List.length_append, List.length_cons]; omega, hbv4⟩
       case measure => simp [intOf]; omega
     ·have v1 : ¬ ((j : Int) < (k : Int)) := by omega
      have HU3 : Hid (parL (l.take (i + 1)) = U) := Lib.hid (by rw [HT1.out, ← hU.out, List.take_of_length_le (by have := HK.out; omega)])
      clear hU
      go_wp2_with fail
      go_roundw
      case rel => exact ⟨i + 1, U, by omega, by go_num, rfl, HU3, by omega, hbv⟩
      case measure => simp [intOf]; omega
  ·have t1 : ¬ ((i : Int) < (n : Int)) := by omega
   have HX : Hid (parL l = T) := Lib.hid (by rw [← hT.out, List.take_of_length_le (by have := HN.out; omega)])
   clear hT
   go_wp2_with fail
   go_ret
   exact ⟨ret_s HX.out.symm, hbw⟩
end Go.Proofs.YtfifeofmfpjgfaaDoor
