/-
  Layer 3, walked: the program's parameters as a text.
-/
import Derived.Test.YtgaoijinchakoaaDoorG12
namespace Go.Proofs.YtgaoijinchakoaaDoor
open Go.RowKit
theorem own_full {w : World} {base : Nat} {e : TypeId} {g n : Nat} {xs : List Value} {l : List Value} (h : Own w base e 1 (.slice (some ⟨g, 0, none⟩) n n) n xs) (hl : l.length = n) (hx : ∀ j, j < n → xs[j]? = l[j]?) : Rd w (some ⟨g, 0, none⟩) l := by
 have h1 := h.1
 have : xs = l := List.ext_getElem? fun j => by
  by_cases hj : j < n
  ·exact hx j hj
  ·rw [List.getElem?_eq_none (by omega), List.getElem?_eq_none (by omega)]
 subst this
 exact h.rd
set_option maxRecDepth 100000 in
set_option maxHeartbeats 8000000 in
theorem ptext_any (A : Option Addr) (c : Nat) (ps : List (List Int)) (w : World) (hp : parOk ps = true) (ht : Tab w) (hr : RdP w A ps) :
 Calls Tryd.prog 51 #[.slice A ps.length c] w fun e w' => e = .returned (.string ⟨(parL ps).toArray⟩) ∧ Below w.heap.size w w' := by
 obtain ⟨i0, hi, hz0, hz1, hz2⟩ : ∃ i, Tryd.prog.info? 9 = some i ∧ i.zero = some (.string ⟨#[]⟩) ∧ i.size = 1 ∧ i.bytes = 16 := ⟨_, rfl, rfl, rfl, rfl⟩
 obtain ⟨hl16, hp8⟩ := parOk_lens hp
 have HP8 := Lib.hid hp8
 obtain ⟨n, hn⟩ : ∃ n, ps.length = n := ⟨_, rfl⟩
 rw [hn] at hl16 ⊢
 have HN := Lib.hid hn
 have HP := Lib.hid hp
 clear hp hp8 hn
 go_enter Tryd.func51, Tryd.ntmps51
 go_wp2_with (first | (at_make; refine wpList_make_full _ rfl _ _ 85 rfl w.heap.size 9 i0 _ 1 Tryd.underlying85 hi hz0 hz1 _ _ _ _ n rfl rfl ?d0 ?d1 ?d2 ?d3 ?d4 ?_))
 case d0 => omega
 case d1 => omega
 case d2 => rw [hz2]; omega
 case d3 => simp only [maxLen]; omega
 case d4 => exact Nat.le_refl _
 intro w2 hown2 hg2
 have hb2 : Below w.heap.size w w2 := (Below.refl _ _).grown hg2 (Nat.le_refl _) (by simp)
 have ho2 := Own.of hown2
 have hlt2 : w.heap.size < w2.heap.size := (ho2.lt w.heap.size rfl).2
 clear hown2 hg2
 go_wp2_with fail
 go_loopw [14] (fun i wr => ∃ (k : Nat) (xs : List Value), k ≤ n ∧ i = .int .i64 k ∧ Own wr w.heap.size 9 1 (.slice (some ⟨w.heap.size, 0, none⟩) n n) n xs ∧ Below w.heap.size w wr ∧ Hid (∀ j, j < k → xs[j]? = (ss_ (ps.map partL))[j]?)) (fun i _ => n - (intOf i).toNat)
 case atStart => exact ⟨0, _, Nat.zero_le _, rfl, ho2, hb2, Lib.hid fun j h => absurd h (by omega)⟩
 case round =>
  obtain ⟨k, xs, hk, rfl, ho, hb, hdone⟩ := hrel
  clear ho2 hb2 hlt2
  have hltr : w.heap.size < wr.heap.size := (ho.lt w.heap.size rfl).2
  obtain ⟨wo, rfl⟩ : ∃ wo : World, wo = wr := ⟨_, rfl⟩
  by_cases hlt : k < n
  ·have hkn : k < ps.length := by rw [HN.out]; exact hlt
   obtain ⟨b, o, hA, hbA, hcc⟩ := (hr.below hb) (by omega)
   cases hA
   obtain ⟨A', c', hck, hrk⟩ := hcc k hkn
   obtain ⟨p, hp'⟩ : ∃ p, (ps[k]'hkn) = p := ⟨_, rfl⟩
   have hpl := HP8.out _ (List.getElem_mem hkn)
   rw [hp'] at hck hrk hpl
   have HPP := Lib.hid hp'
   clear hp' hcc
   obtain ⟨m, hm⟩ : ∃ m, p.length = m := ⟨_, rfl⟩
   rw [hm] at hck hpl
   have HM := Lib.hid hm
   obtain ⟨hm8, hpo⟩ := hpl
   have HPO := Lib.hid hpo
   clear hm hpo
   go_wp2_with (first | (at_make; refine wpList_make_full _ rfl _ _ 85 rfl wo.heap.size 9 i0 _ 1 Tryd.underlying85 hi hz0 hz1 _ _ _ _ m rfl rfl ?d0 ?d1 ?d2 ?d3 ?d4 ?_))
   case d0 => omega
   case d1 => omega
   case d2 => rw [hz2]; omega
   case d3 => simp only [maxLen]; omega
   case d4 => exact Nat.le_refl _
   intro w3 hown3 hg3
   have hb3 : Below wo.heap.size wo w3 := (Below.refl _ _).grown hg3 (Nat.le_refl _) (by simp)
   have ho3 := Own.of hown3
   clear hown3 hg3
   go_wp2_with fail
   go_loopw [24] (fun i wr => ∃ (j : Nat) (ys : List Value), j ≤ m ∧ i = .int .i64 j ∧ Own wr wo.heap.size 9 1 (.slice (some ⟨wo.heap.size, 0, none⟩) m m) m ys ∧ Below wo.heap.size wo wr ∧ Hid (∀ t, t < j → ys[t]? = (ss_ (p.map textL))[t]?)) (fun i _ => m - (intOf i).toNat)
   case atStart => exact ⟨0, _, Nat.zero_le _, rfl, ho3, hb3, Lib.hid fun j h => absurd h (by omega)⟩
   case round =>
    obtain ⟨j, ys, hj, rfl, hoi, hbi, hdi⟩ := hrel
    clear ho3 hb3
    have hlti : wo.heap.size < wr.heap.size := (hoi.lt wo.heap.size rfl).2
    by_cases hjm : j < m
    ·have hjp : j < p.length := by rw [HM.out]; exact hjm
     obtain ⟨b4, o4, hA4, hb4, hc4⟩ := (hrk.below hbi).int_at (by omega)
     cases hA4
     have hcj := hc4 j hjp
     obtain ⟨x, hx⟩ : ∃ x, p[j]'hjp = x := ⟨_, rfl⟩
     have hxr := HPO.out _ (List.getElem_mem hjp)
     rw [hx] at hcj hxr
     have HX := Lib.hid hx
     clear hx hc4
     obtain ⟨x0, x1⟩ := hxr
     go_wp2_with fail
     refine (text_any x _ (by omega) (by omega) (ht.below (hb.trans (hbi.mono hb.size)))).mono ?_
     rintro e w5 ⟨rfl, hb5⟩
     have ho5 := hoi.behind hb5
     have hyl : j < ys.length := by have := hoi.1; omega
     have hd1 := ho5.cellAt j hyl
     have hd2 := ho5.frozenAt j hyl
     have hbi5 : Below wo.heap.size wo w5 := hbi.trans (hb5.mono hbi.size)
     clear hb5 hcj
     go_wp2_with fail
     go_roundw
     case rel =>
      refine ⟨j + 1, _, by omega, by go_num, ho5.stored j _, hbi5.setCell (p := ⟨wo.heap.size, j, none⟩) (Nat.le_refl _) _, Lib.hid fun t ht => ?_⟩
      by_cases e : t = j
      ·subst e
       rw [List.getElem?_set_self hyl]
       simp [ss_, List.getElem?_eq_getElem hjp, HX.out]
      ·rw [List.getElem?_set_ne (fun h => e h.symm)]
       exact hdi.out t (by omega)
     case measure => simp [intOf]; omega
    ·have hrow := own_full hoi (l := ss_ (p.map textL)) (by simp [ss_, HM.out]) (fun t ht => hdi.out t (by omega))
     have hJ := Lib.hid (join_part p)
     have hlen := partL_len p HPO.out
     rw [HM.out] at hlen
     have hml := Lib.hid (show (p.map textL).length = m by rw [List.length_map]; exact HM.out)
     go_wp2_with fail
     refine (join_any (some ⟨wo.heap.size, 0, none⟩) m m (p.map textL) [58] (partL p) _ hml.out hJ.out (by omega) (Nat.le_refl _) (by omega) hrow).mono ?_
     rintro e w5 ⟨rfl, hb5⟩
     have hbi5 : Below wo.heap.size wo w5 := hbi.trans (hb5.mono hbi.size)
     have ho5 := ho.behind hbi5
     have hxl : k < xs.length := by have := ho.1; omega
     have hd1 := ho5.cellAt k hxl
     have hd2 := ho5.frozenAt k hxl
     have hb5' : Below w.heap.size w w5 := hb.trans (hbi5.mono hb.size)
     clear hb5 hrow
     go_wp2_with fail
     go_roundw
     case rel =>
      refine ⟨k + 1, _, by omega, by go_num, ho5.stored k _, hb5'.setCell (p := ⟨w.heap.size, k, none⟩) (Nat.le_refl _) _, Lib.hid fun t ht => ?_⟩
      by_cases e : t = k
      ·subst e
       rw [List.getElem?_set_self hxl]
       simp [ss_, List.getElem?_eq_getElem hkn, HPP.out]
      ·rw [List.getElem?_set_ne (fun h => e h.symm)]
       exact hdone.out t (by omega)
     case measure => simp [intOf]; omega
  ·have hrow := own_full ho (l := ss_ (ps.map partL)) (by simp [ss_, HN.out]) (fun t ht => hdone.out t (by omega))
   have hJ := Lib.hid (join_par ps)
   have hlen := parL_len ps HP8.out
   rw [HN.out] at hlen
   have hml := Lib.hid (show (ps.map partL).length = n by rw [List.length_map]; exact HN.out)
   go_wp2_with fail
   refine (join_any (some ⟨w.heap.size, 0, none⟩) n n (ps.map partL) [59] (parL ps) _ hml.out hJ.out (by omega) (Nat.le_refl _) (by omega) hrow).mono ?_
   rintro e w5 ⟨rfl, hb5⟩
   go_wp2_with fail
   go_ret
   exact ⟨rfl, hb.trans (hb5.mono hb.size)⟩
end Go.Proofs.YtgaoijinchakoaaDoor
