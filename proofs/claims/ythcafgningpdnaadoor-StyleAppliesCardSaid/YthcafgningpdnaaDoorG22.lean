/-
  Stage 18, the landed style, walked: Text.
-/
import Derived.Test.YthcafgningpdnaaDoorG06
import Derived.Test.YthcafgningpdnaaDoorG07
import Derived.Test.YthcafgningpdnaaDoorG15
import Derived.Test.YthcafgningpdnaaDoorG16
import Derived.Laws.OwnMore
import Derived.Deep.Cut
namespace Go.Proofs.YthcafgningpdnaaDoor
open Go.RowKit
theorem sjoin_any (A : Option Addr) (n c : Nat) (l : List (List UInt8)) (sep T : List UInt8) (w : World) (hn : l.length = n) (hT : Lib.join l sep = T) (hl : n ≤ 4294967296) (hc : n ≤ c) (hlen : T.length ≤ 140737488355328) (hr : Rd w A (ss_ l)) :
 Calls Tryd.prog 32 #[.slice A n c, .string ⟨sep.toArray⟩] w fun e w' => e = .returned (.string ⟨T.toArray⟩) ∧ Below w.heap.size w w' := by
 have hm : (l.map fun t : List UInt8 => (⟨t.toArray⟩ : ByteArray)).map (·.data.toList) = l := by
  rw [List.map_map]
  calc l.map _ = l.map id := List.map_congr_left (fun x _ => by simp)
   _ = l := List.map_id l
 by_cases h0 : n = 0
 ·subst h0
  have e0 : l = [] := List.eq_nil_of_length_eq_zero hn
  subst e0
  obtain rfl : [] = T := hT
  refine (Tryd.strings_Join_none A c _ _).mono ?_
  rintro e w1 ⟨rfl, rfl⟩
  exact ⟨rfl, Below.refl _ _⟩
 ·obtain ⟨b, o, rfl, hb, hcc⟩ := hr (by simp [ss_]; omega)
  have hcells : ∀ (j : Nat) (x : ByteArray), (l.map fun t : List UInt8 => (⟨t.toArray⟩ : ByteArray))[j]? = some x → w.cell? ⟨b, o + j, none⟩ = some (.string x) := fun j x hx => hcc j _ (by
   unfold ss_
   rw [List.getElem?_map] at hx ⊢
   cases hj : l[j]? with
   | none => rw [hj] at hx; cases hx
   | some t => rw [hj] at hx; simp at hx; subst hx; rfl)
  have hJ := Tryd.strings_Join b o c (l.map fun t : List UInt8 => (⟨t.toArray⟩ : ByteArray)) ⟨sep.toArray⟩ w hcells hb (by rw [List.length_map]; omega) (by rw [List.length_map]; omega) (by rw [hm]; show (Lib.join l sep).length ≤ _; rw [hT]; exact hlen)
  rw [List.length_map, hm, hn] at hJ
  refine hJ.mono ?_
  rintro e w1 ⟨rfl, hb1⟩
  exact ⟨by show _ = Ending.returned (.string ⟨T.toArray⟩); rw [← hT], hb1⟩
def Fill (k : Nat) (xs : List Value) (l : List (List UInt8)) : Prop := ∀ j, j < k → xs[j]? = (ss_ l)[j]?
theorem Fill.step {k : Nat} {xs : List Value} {l : List (List UInt8)} (h : Fill k xs l) (hk : k < l.length) (hx : k < xs.length) {t : List UInt8} (ht : l[k] = t) : Fill (k + 1) (xs.set k (.string ⟨t.toArray⟩)) l := fun j hj => by
 by_cases e : j = k
 ·subst e
  rw [List.getElem?_set_self hx, ss_, List.getElem?_map, List.getElem?_eq_getElem hk, ht]
  rfl
 ·rw [List.getElem?_set_ne (fun h => e h.symm)]
  exact h j (by omega)
theorem Fill.all {xs : List Value} {l : List (List UInt8)} (h : Fill l.length xs l) (hx : xs.length = l.length) : xs = ss_ l := by
 refine List.ext_getElem? fun j => ?_
 by_cases hj : j < l.length
 ·exact h j hj
 ·rw [List.getElem?_eq_none (by omega), List.getElem?_eq_none (by rw [ss_, List.length_map]; omega)]
set_option maxRecDepth 100000 in
set_option maxHeartbeats 16000000 in
theorem sText_any (A : Option Addr) (l : List (List Int)) (n c : Nat) (hn : l.length = n) (hln : n ≤ 4294967296) (hlp : ∀ p ∈ l, p.length ≤ 4294967296 ∧ (partL p).length ≤ 140737488355328) (hlT : (parL l).length ≤ 140737488355328) (w : World) (ht : Tab w) (hl : LsIn w A l) :
 Calls Tryd.prog 15 #[.slice A n c] w fun e w' => e = .returned (.string ⟨(parL l).toArray⟩) ∧ Below w.heap.size w w' := by
 obtain ⟨i0, hi, hz0, hz1, hz2⟩ : ∃ i, Tryd.prog.info? 9 = some i ∧ i.zero = some (.string ⟨#[]⟩) ∧ i.size = 1 ∧ i.bytes = 16 := ⟨_, rfl, rfl, rfl, rfl⟩
 have HN := Lib.hid hn
 have HLP := Lib.hid hlp
 have HLT := Lib.hid hlT
 clear hlp hlT hn
 go_enter Tryd.func15, Tryd.ntmps15
 go_wp2_with (at_make; refine wpList_make_full _ rfl _ _ 52 rfl w.heap.size 9 i0 _ 1 Tryd.underlying52 hi hz0 hz1 _ _ _ _ n rfl rfl ?d0 ?d1 ?d2 ?d3 ?d4 ?_)
 case d0 => rfl
 case d1 => rfl
 case d2 => rw [hz2]; omega
 case d3 => simp only [maxLen]; omega
 case d4 => exact Nat.le_refl _
 intro w1 hown1 hg1
 have hb1 : Below w.heap.size w w1 := (Below.refl _ _).grown hg1 (Nat.le_refl _) (by simp)
 have ho1 := Own.of hown1
 clear hg1 hown1
 obtain ⟨g, hg⟩ : ∃ g, w.heap.size = g := ⟨_, rfl⟩
 rw [hg] at ho1 ⊢
 have HG := Lib.hid hg
 go_wp2_with fail
 go_loopw [14] (fun z wr => ∃ (i : Nat) (xs : List Value), i ≤ n ∧ z = .int .i64 i ∧ Own wr g 9 1 (.slice (some ⟨g, 0, none⟩) n n) n xs ∧ Hid (Fill i xs (l.map partL)) ∧ Below w.heap.size w wr) (fun z _ => n - (intOf z).toNat)
 case atStart => exact ⟨0, _, Nat.zero_le _, rfl, ho1, Lib.hid fun j hj => absurd hj (by omega), hb1⟩
 case round =>
  obtain ⟨i, xs, hi', rfl, ho, hfill, hbw⟩ := hrel
  clear ho1 hb1
  by_cases hlt : i < n
  ·have t1 : (i : Int) < (n : Int) := by omega
   have t0 : (0 : Int) ≤ (i : Int) := by omega
   have t2 : IntKind.i64.wrap ((i : Int) + 1) = (i : Int) + 1 := by rw [IntKind.wrap_i64]; omega
   have hii : i < l.length := by have := HN.out; omega
   obtain ⟨b, o, rfl, hbb, hc⟩ := hl.rd (by omega)
   obtain ⟨A', c', hc', hcell, hr'⟩ := hc i hii
   have hcell' := (hbw.cell (p := ⟨b, o + i, none⟩) hbb).trans hcell
   have HNR : Hid (∀ n ∈ l[i], in18 n) := Lib.hid fun n hn => hl.nr _ (List.getElem_mem hii) n hn
   obtain ⟨hp1, hp2⟩ := HLP.out _ (List.getElem_mem hii)
   obtain ⟨p, hp⟩ : ∃ p, l[i] = p := ⟨_, rfl⟩
   have HSP : Hid ((l.map partL)[i]'(by rw [List.length_map]; exact hii) = partL p) := Lib.hid (by rw [List.getElem_map, hp])
   rw [hp] at HNR hc' hcell' hr' hp1 hp2
   obtain ⟨k, hk⟩ : ∃ k, p.length = k := ⟨_, rfl⟩
   rw [hk] at hc' hcell' hp1
   have HK := Lib.hid hk
   have HPT := Lib.hid hp2
   have hsg : g ≤ wr.heap.size := by have := hbw.size; have := HG.out; omega
   clear hc hcell hp hk hp2
   go_wp2_with (at_make; refine wpList_make_full _ rfl _ _ 52 rfl wr.heap.size 9 i0 _ 1 Tryd.underlying52 hi hz0 hz1 _ _ _ _ k rfl rfl ?d0 ?d1 ?d2 ?d3 ?d4 ?_)
   case d0 => rfl
   case d1 => rfl
   case d2 => rw [hz2]; omega
   case d3 => simp only [maxLen]; omega
   case d4 => exact Nat.le_refl _
   intro w2 hown2 hg2
   have hb2 : Below wr.heap.size wr w2 := (Below.refl _ _).grown hg2 (Nat.le_refl _) (by simp)
   have ho2 := Own.of hown2
   clear hg2 hown2
   obtain ⟨h, hh⟩ : ∃ h, wr.heap.size = h := ⟨_, rfl⟩
   rw [hh] at ho2 ⊢
   have HH := Lib.hid hh
   go_wp2_with fail
   go_loopw [24] (fun z wr' => ∃ (j : Nat) (ys : List Value), j ≤ k ∧ z = .int .i64 j ∧ Own wr' h 9 1 (.slice (some ⟨h, 0, none⟩) k k) k ys ∧ Hid (Fill j ys (p.map textL)) ∧ Below wr.heap.size wr wr') (fun z _ => k - (intOf z).toNat)
   case atStart => exact ⟨0, _, Nat.zero_le _, rfl, ho2, Lib.hid fun j hj => absurd hj (by omega), hb2⟩
   case round =>
    obtain ⟨j, ys, hj', rfl, hoy, hfy, hbv⟩ := hrel
    clear ho2 hb2
    have hbX := hbw.trans (hbv.mono hbw.size)
    by_cases hlj : j < k
    ·have v1 : (j : Int) < (k : Int) := by omega
     have v0 : (0 : Int) ≤ (j : Int) := by omega
     have v2 : IntKind.i64.wrap ((j : Int) + 1) = (j : Int) + 1 := by rw [IntKind.wrap_i64]; omega
     have hjj : j < p.length := by have := HK.out; omega
     obtain ⟨b', o', hA', hbb', hcc'⟩ := (hr'.below hbX).int_at (by omega)
     subst hA'
     have hcj := hcc' j hjj
     have HR := Lib.hid (HNR.out _ (List.getElem_mem hjj))
     have HST : Hid ((p.map textL)[j]'(by rw [List.length_map]; exact hjj) = textL p[j]) := Lib.hid (by rw [List.getElem_map])
     obtain ⟨r, hrr⟩ : ∃ r, p[j] = r := ⟨_, rfl⟩
     rw [hrr] at hcj HR HST
     clear hcc' hrr
     go_wp2_with fail
     refine (text_any r _ HR.out.1 HR.out.2 (ht.below hbX)).mono ?_
     rintro e w4 ⟨rfl, hb4⟩
     have ho4 := hoy.behind hb4
     have hbv4 := hbv.trans (hb4.mono hbv.size)
     have hyl : j < ys.length := by have := hoy.1; omega
     have hce := ho4.cellAt j hyl
     have hfe := ho4.frozenAt j hyl
     clear hoy hbv hb4 hbX
     go_wp2_with fail
     go_roundw
     case rel => exact ⟨j + 1, _, by omega, by go_num, ho4.stored j _, Lib.hid (hfy.out.step (by rw [List.length_map]; exact hjj) hyl HST.out), hbv4.setCell (p := ⟨h, j, none⟩) (Nat.le_of_eq HH.out) _⟩
     case measure => simp [intOf]; omega
    ·have v1 : ¬ ((j : Int) < (k : Int)) := by omega
     obtain rfl : k = j := by omega
     have hyx : ys = ss_ (p.map textL) := Fill.all (by rw [List.length_map, HK.out]; exact hfy.out) (by have := hoy.1; rw [List.length_map, HK.out]; omega)
     rw [hyx] at hoy
     clear hyx hfy
     have hrs := hoy.rd
     have HLm := Lib.hid (show (p.map textL).length = k by rw [List.length_map]; exact HK.out)
     have hoB := ho.below hbv (fun k hk => (ho.lt k hk).2)
     clear ho hoy hcell' hr'
     go_wp2_with fail
     refine (sjoin_any _ k _ (p.map textL) [58] (partL p) _ HLm.out (join_part p) (by omega) (Nat.le_refl _) HPT.out hrs).mono ?_
     rintro e w5 ⟨rfl, hb5⟩
     have ho5 := hoB.behind hb5
     have hB5 := hbX.trans (hb5.mono hbX.size)
     have hxl : i < xs.length := by have := hoB.1; omega
     have hce := ho5.cellAt i hxl
     have hfe := ho5.frozenAt i hxl
     clear hoB hbv hb5 hbX hrs hbw
     go_wp2_with fail
     go_roundw
     case rel => exact ⟨i + 1, _, by omega, by go_num, ho5.stored i _, Lib.hid (hfill.out.step (by rw [List.length_map]; exact hii) hxl HSP.out), hB5.setCell (p := ⟨g, i, none⟩) (Nat.le_of_eq HG.out) _⟩
     case measure => simp [intOf]; omega
  ·have t1 : ¬ ((i : Int) < (n : Int)) := by omega
   obtain rfl : n = i := by omega
   have hxx : xs = ss_ (l.map partL) := Fill.all (by rw [List.length_map, HN.out]; exact hfill.out) (by have := ho.1; rw [List.length_map, HN.out]; omega)
   rw [hxx] at ho
   clear hxx hfill
   have hrs := ho.rd
   have HLm := Lib.hid (show (l.map partL).length = n by rw [List.length_map]; exact HN.out)
   clear ho
   go_wp2_with fail
   refine (sjoin_any _ n _ (l.map partL) [59] (parL l) _ HLm.out (join_par l) hln (Nat.le_refl _) HLT.out hrs).mono ?_
   rintro e w5 ⟨rfl, hb5⟩
   have hB5 := hbw.trans (hb5.mono hbw.size)
   go_wp2_with fail
   go_ret
   exact ⟨rfl, hB5⟩
end Go.Proofs.YthcafgningpdnaaDoor
