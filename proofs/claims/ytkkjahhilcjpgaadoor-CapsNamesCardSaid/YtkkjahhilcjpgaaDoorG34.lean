/-
  Stage 20, the document walked: Names, split.
-/
import Derived.Test.YtkkjahhilcjpgaaDoorG03
import Derived.Test.YtkkjahhilcjpgaaDoorG15
import Derived.Test.YtkkjahhilcjpgaaDoorG23
import Derived.Laws.EntriesVeiled
namespace Go.Proofs.YtkkjahhilcjpgaaDoor
open Go.RowKit
theorem ss_snoc (l : List (List UInt8)) (x : List UInt8) : ss_ (l ++ [x]) = ss_ l ++ [.string ⟨x.toArray⟩] := by simp [ss_]
theorem rd_one20 (w : World) (t : TypeId) (v : Value) : Rd (w.alloc (.cells #[v] t)) (some ⟨w.heap.size, 0, none⟩) [v] :=
 Rd.block (heap_alloc_new w _) rfl
theorem Tryd.strinfo20 : (Tryd.prog.info? 9).map (fun i => (i.zero, i.size, i.bytes)) = some (some (.string ⟨#[]⟩), 1, 16) := by kernel_rfl
set_option maxRecDepth 100000 in
set_option maxHeartbeats 16000000 in
theorem rNames20_any (w : World) : Calls Tryd.prog 18 #[] w fun e w' => ∃ A c, e = .returned (.slice A 12 c) ∧ Below w.heap.size w w' := by
 obtain ⟨i0, hi, hz0, hz1, hz2⟩ := info_parts Tryd.strinfo20
 go_enter Tryd.func18, Tryd.ntmps18
 go_wp2_with fail
 refine (rall20_any _).mono ?_
 rintro e w1 ⟨A, rfl, hpr, hb1⟩
 go_wp2_with fail
 go_loopw [2, 3] (fun v z wr => ∃ (k : Nat) (L : List (List UInt8)), k ≤ 12 ∧ z = .int .i64 k ∧ L.length = k ∧ Own wr w1.heap.size 9 1 v k (ss_ L) ∧ Below w1.heap.size w1 wr) (fun _ z _ => 12 - (intOf z).toNat)
 case atStart => exact ⟨0, [], Nat.zero_le _, rfl, rfl, Own.nil_ _ _ _ _, Below.refl _ _⟩
 case round =>
  obtain ⟨k, L, hk, rfl, hL, hown, hbw⟩ := hrel
  have hB := hb1.trans (hbw.mono hb1.size)
  by_cases hlt : k < 12
  ·have v1 : (k : Int) < 12 := by omega
   have v0 : (0 : Int) ≤ (k : Int) := by omega
   have v2 : IntKind.i64.wrap ((k : Int) + 1) = (k : Int) + 1 := by rw [IntKind.wrap_i64]; omega
   have hkl : k < namesC.length := hlt
   obtain ⟨b, o, rfl, _, hc⟩ := hpr.below hbw
   obtain ⟨c0, c1⟩ := hc k hkl
   obtain ⟨N, hN⟩ : ∃ N, (namesC[k]).1 = N := ⟨_, rfl⟩
   rw [hN] at c0
   clear hc hN c1 hpr
   have p1 := hown.alloc (.cells #[.string ⟨N.toArray⟩] 9)
   have pr := rd_one20 wr 9 (.string ⟨N.toArray⟩)
   have ps : w1.heap.size ≤ (wr.alloc (.cells #[.string ⟨N.toArray⟩] 9)).heap.size := by have := hbw.size; simp; omega
   have hbA := hbw.alloc hbw.size (.cells #[.string ⟨N.toArray⟩] 9)
   have h63 : k + 1 ≤ maxLen := by simp only [maxLen]; omega
   have hlim : (k + 1) * 16 ≤ 140737488355328 := by omega
   have HL := Lib.hid hL
   clear hL hown
   go_wp2_with (at_builtin; refine list_app _ rfl (.tmp 11) (.tmp 17) 34 rfl w1.heap.size 9 i0 _ 1 16 Tryd.underlying34 hi hz0 hz1 hz2 rfl Nat.one_pos _ _ _ rfl p1 _ 1 1 [.string ⟨N.toArray⟩] rfl rfl pr (by simp [Value.oneCell']) h63 hlim ps ?_; intro v5 w5 o5 hg)
   have hbZ := hbA.grown hg ps (fun g hg => (p1.lt g hg).1)
   rw [← ss_snoc] at o5
   clear hg p1 pr ps hbA
   go_wp2_with fail
   go_roundw
   case rel => exact ⟨k + 1, L ++ [N], by omega, by go_num, by simp [HL.out], o5, hbZ⟩
   case measure => simp [intOf]; omega
  ·obtain rfl : k = 12 := by omega
   have v1 : ¬ ((12 : Int) < 12) := by omega
   obtain ⟨A', c', rfl, hrd⟩ := hown.form
   clear hpr hown hL
   go_wp2_with fail
   refine bodyPost_ret (v := .slice A' 12 c') (by simp [results, Tryd.results18, go_sem]) rfl ⟨⟨A', c', rfl⟩, hB⟩
theorem drop_seg {t : List UInt8} {f i : Nat} (hfi : f ≤ i) : t.drop f = (t.drop f).take (i - f) ++ t.drop i := by
 have := List.take_append_drop (i - f) (t.drop f)
 rw [List.drop_drop, show f + (i - f) = i by omega] at this
 exact this.symm
theorem seg_no {t : List UInt8} {f i : Nat} (hi : i ≤ t.length) (hn : ∀ j (hj : j < t.length), f ≤ j → j < i → t[j] ≠ 59) : ∀ c ∈ (t.drop f).take (i - f), c ≠ 59 := fun c hc => by
 obtain ⟨k, hk, rfl⟩ := List.getElem_of_mem hc
 rw [List.length_take, List.length_drop] at hk
 rw [List.getElem_take, List.getElem_drop]
 exact hn _ (by omega) (by omega) (by omega)
theorem split_at {t : List UInt8} {D : List (List UInt8)} {f i : Nat} (hfi : f ≤ i) (hi : i < t.length) (hn : ∀ j (hj : j < t.length), f ≤ j → j < i → t[j] ≠ 59) (hc : t[i] = 59) (h : splitC t = D ++ splitC (t.drop f)) :
 splitC t = (D ++ [(t.drop f).take (i - f)]) ++ splitC (t.drop (i + 1)) := by
 have e := drop_seg (t := t) hfi
 rw [List.drop_eq_getElem_cons hi, hc] at e
 rw [h]
 have e2 := congrArg splitC e
 rw [split_app (seg_no (Nat.le_of_lt hi) hn)] at e2
 rw [e2, List.append_assoc]
 rfl
theorem split_end {t : List UInt8} {D : List (List UInt8)} {f : Nat} (hn : ∀ j (hj : j < t.length), f ≤ j → j < t.length → t[j] ≠ 59) (h : splitC t = D ++ splitC (t.drop f)) : splitC t = D ++ [(t.drop f).take (t.length - f)] := by
 rw [h]
 have := seg_no (f := f) (Nat.le_refl _) hn
 rw [List.take_of_length_le (by rw [List.length_drop]; omega)] at this ⊢
 rw [split_one this]
theorem str_seg (L : List UInt8) (f i : Nat) (_hfi : f ≤ i) (_hi : i ≤ L.length) : (⟨L.toArray⟩ : ByteArray).extract f i = ⟨((L.drop f).take (i - f)).toArray⟩ := by
 apply ByteArray.ext
 rw [ByteArray.data_extract]
 simp
set_option maxRecDepth 100000 in
set_option maxHeartbeats 16000000 in
theorem rsplit20_any (t : List UInt8) (ht : t.length ≤ 1000000) (w : World) : Calls Tryd.prog 25 #[.string ⟨t.toArray⟩] w fun e w' => ∃ A c, e = .returned (.slice A (splitC t).length c) ∧ Rd w' A (ss_ (splitC t)) ∧ Below w.heap.size w w' := by
 obtain ⟨i0, hi, hz0, hz1, hz2⟩ := info_parts Tryd.strinfo20
 obtain ⟨S, hS⟩ : ∃ S, splitC t = S := ⟨_, rfl⟩
 have HS := Lib.hid hS
 rw [hS]
 clear hS
 go_enter Tryd.func25, Tryd.ntmps25
 go_wp2_with fail
 go_loopw [3, 4, 5] (fun v y z wr => ∃ (i f : Nat) (D : List (List UInt8)), i ≤ t.length + 1 ∧ f ≤ i ∧ z = .int .i64 i ∧ y = .int .i64 f ∧ Hid ((i ≤ t.length → splitC t = D ++ splitC (t.drop f) ∧ ∀ j (hj : j < t.length), f ≤ j → j < i → t[j] ≠ 59) ∧ (i = t.length + 1 → splitC t = D)) ∧ D.length ≤ i ∧ Own wr w.heap.size 9 1 v D.length (ss_ D) ∧ Below w.heap.size w wr) (fun _ _ z _ => t.length + 1 - (intOf z).toNat)
 case atStart => exact ⟨0, 0, [], Nat.zero_le _, Nat.le_refl _, rfl, rfl, Lib.hid ⟨fun _ => ⟨rfl, fun j _ _ h => absurd h (Nat.not_lt_zero j)⟩, fun h => absurd h (by omega)⟩, Nat.le_refl _, Own.nil_ _ _ _ _, Below.refl _ _⟩
 case round =>
  obtain ⟨i, f, D, hi1, hfi, rfl, rfl, HI, hDl, hown, hbw⟩ := hrel
  by_cases hle : i ≤ t.length
  ·have v1 : (i : Int) ≤ (t.length : Int) := by omega
   have v0 : (0 : Int) ≤ (i : Int) := by omega
   have v2 : IntKind.i64.wrap ((i : Int) + 1) = (i : Int) + 1 := by rw [IntKind.wrap_i64]; omega
   have v3 : (f : Int) ≤ (i : Int) := by omega
   have v4 : (0 : Int) ≤ (f : Int) := by omega
   obtain ⟨P, hP⟩ : ∃ P, (t.drop f).take (i - f) = P := ⟨_, rfl⟩
   have hseg : (⟨t.toArray⟩ : ByteArray).extract f i = ⟨P.toArray⟩ := (str_seg t f i hfi hle).trans (by rw [hP])
   have HP := Lib.hid hP
   clear hP
   have p1 := hown.alloc (.cells #[.string ⟨P.toArray⟩] 9)
   have pr := rd_one20 wr 9 (.string ⟨P.toArray⟩)
   have ps : w.heap.size ≤ (wr.alloc (.cells #[.string ⟨P.toArray⟩] 9)).heap.size := by have := hbw.size; simp; omega
   have hbA := hbw.alloc hbw.size (.cells #[.string ⟨P.toArray⟩] 9)
   have h63 : D.length + 1 ≤ maxLen := by simp only [maxLen]; omega
   have hlim : (D.length + 1) * 16 ≤ 140737488355328 := by omega
   have HDL := Lib.hid hDl
   by_cases heq : i = t.length
   ·have q0 : ((i : Int) == (t.length : Int)) = true := by simp [heq]
    have HI2 : Hid (splitC t = D ++ [P]) := Lib.hid (by rw [← HP.out]; subst heq; exact split_end (HI.out.1 (Nat.le_refl _)).2 (HI.out.1 (Nat.le_refl _)).1)
    have HE := Lib.hid heq
    clear heq hDl
    go_wp2_with (at_builtin; refine list_app _ rfl (.tmp 22) (.tmp 27) 34 rfl w.heap.size 9 i0 _ 1 16 Tryd.underlying34 hi hz0 hz1 hz2 rfl Nat.one_pos _ _ _ rfl p1 _ 1 1 [.string ⟨P.toArray⟩] rfl rfl pr (by simp [Value.oneCell']) h63 hlim ps ?_; intro v5 w5 o5 hg)
    have hbZ := hbA.grown hg ps (fun g hg => (p1.lt g hg).1)
    rw [← ss_snoc] at o5
    exact ⟨⟨i + 1, i + 1, D ++ [P], by have := HE.out; omega, Nat.le_refl _, by go_num, by go_num, Lib.hid ⟨fun h => absurd h (by have := HE.out; omega), fun _ => HI2.out⟩, by have := HDL.out; simp; omega, by simpa using o5, hbZ⟩, by simp [intOf]; omega⟩
   ·have q0 : ((i : Int) == (t.length : Int)) = false := by simp; omega
    have hlt : i < t.length := by omega
    have hget : (⟨t.toArray⟩ : ByteArray)[i]'hlt = t[i] := rfl
    have v5 : (i : Int) < (t.length : Int) := by omega
    obtain ⟨c, hc⟩ : ∃ c, t[i] = c := ⟨_, rfl⟩
    rw [hc] at hget
    by_cases h59 : c = 59
    ·subst h59
     have HI2 : Hid (splitC t = (D ++ [P]) ++ splitC (t.drop (i + 1))) := Lib.hid (by rw [← HP.out]; exact split_at hfi hlt (HI.out.1 hle).2 hc (HI.out.1 hle).1)
     have HE := Lib.hid hlt
     clear heq hDl hc
     go_wp2_with (at_builtin; refine list_app _ rfl (.tmp 22) (.tmp 27) 34 rfl w.heap.size 9 i0 _ 1 16 Tryd.underlying34 hi hz0 hz1 hz2 rfl Nat.one_pos _ _ _ rfl p1 _ 1 1 [.string ⟨P.toArray⟩] rfl rfl pr (by simp [Value.oneCell']) h63 hlim ps ?_; intro v5 w5 o5 hg)
     have hbZ := hbA.grown hg ps (fun g hg => (p1.lt g hg).1)
     rw [← ss_snoc] at o5
     exact ⟨⟨i + 1, i + 1, D ++ [P], by have := HE.out; omega, Nat.le_refl _, by go_num, by go_num, Lib.hid ⟨fun _ => ⟨HI2.out, fun j _ h1 h2 => absurd h2 (by omega)⟩, fun h => absurd h (by have := HE.out; omega)⟩, by have := HDL.out; simp; omega, by simpa using o5, hbZ⟩, by simp [intOf]; omega⟩
    ·have q1 : ((c.toNat : Int) == 59) = false := by
      simp only [beq_eq_false_iff_ne, ne_eq]
      exact fun h => h59 (UInt8.toNat_inj.1 (show c.toNat = 59 by omega))
     have HE := Lib.hid hlt
     have HI2 : Hid (splitC t = D ++ splitC (t.drop f) ∧ ∀ j (hj : j < t.length), f ≤ j → j < i + 1 → t[j] ≠ 59) := Lib.hid ⟨(HI.out.1 hle).1, fun j hj h1 h2 => by
      by_cases hji : j = i
      ·subst hji
       rw [hc]
       exact h59
      ·exact (HI.out.1 hle).2 j hj h1 (by omega)⟩
     clear heq hDl hc h59 p1 pr ps hbA
     go_wp2_with fail
     exact ⟨⟨i + 1, f, D, by have := HE.out; omega, by omega, by go_num, rfl, Lib.hid ⟨fun _ => HI2.out, fun h => absurd h (by have := HE.out; omega)⟩, by have := HDL.out; omega, hown, hbw⟩, by simp [intOf]; omega⟩
  ·have v1 : ¬ ((i : Int) ≤ (t.length : Int)) := by omega
   obtain ⟨A', c', rfl, hrd⟩ := hown.form
   have HE : Hid (D = S) := Lib.hid (by rw [← HS.out]; exact (HI.out.2 (by omega)).symm)
   clear hown
   go_wp2_with fail
   refine bodyPost_ret (v := .slice A' D.length c') (by simp [results, Tryd.results25, go_sem]) rfl ⟨A', ?_⟩
   rw [← HE.out]
   exact ⟨⟨c', rfl⟩, hrd, hbw⟩
end Go.Proofs.YtkkjahhilcjpgaaDoor
