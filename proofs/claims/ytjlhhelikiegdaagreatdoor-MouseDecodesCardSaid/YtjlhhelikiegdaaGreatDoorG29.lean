/-
  Stage 16, the landed mouse, walked: numbers: a button's, the marks', the code. Layer 3, walked: the program's parameters as a text.
-/
import Derived.Test.YtjlhhelikiegdaaGreatDoorG06
import Derived.Test.YtjlhhelikiegdaaGreatDoorG18
import Derived.Test.YtjlhhelikiegdaaGreatDoorG27
import Derived.Test.YtjlhhelikiegdaaGreatDoorG28
namespace Go.Proofs.YtjlhhelikiegdaaGreatDoor
open Go.RowKit
theorem ret_in {a b : Int} (h : a = b) : Ending.returned (.int .i64 a) = .returned (.int .i64 b) := by rw [h]
def NumE (n : Int) (w : World) (e : Ending) (w' : World) : Prop := e = .returned (.int .i64 n) ∧ Below w.heap.size w w'
set_option maxRecDepth 100000 in
set_option maxHeartbeats 4000000 in
theorem mwhen_any (b : Bool) (n q : Int) (hq : wh b n = q) (w : World) : Calls Tryz.prog 18 #[.bool b, .int .i64 n] w (NumE q w) := by
 cases b with
 | true =>
   have HQ := Lib.hid (show n = q from hq)
   clear hq
   go_enter Tryz.func18, Tryz.ntmps18
   go_wp2_with fail
   go_ret
   exact ⟨ret_in HQ.out, Below.refl _ _⟩
 | false =>
   have HQ := Lib.hid (show 0 = q from hq)
   clear hq
   go_enter Tryz.func18, Tryz.ntmps18
   go_wp2_with fail
   go_ret
   exact ⟨ret_in HQ.out, Below.refl _ _⟩
set_option maxRecDepth 100000 in
set_option maxHeartbeats 4000000 in
theorem mnumber_any (b q : Int) (hq : numW b = q) (w : World) : Calls Tryz.prog 19 #[.int .i64 b] w (NumE q w) := by
 have HC := Lib.hid hq
 clear hq
 by_cases h0 : b = 0
 ·subst h0
  have HF := Lib.hid (show 3 = q by rw [← HC.out]; rfl)
  clear HC
  go_enter Tryz.func19, Tryz.ntmps19
  go_wp2_with fail
  go_ret
  exact ⟨ret_in HF.out, Below.refl _ _⟩
 have f0 : (b == 0) = false := beq_false_of_ne h0
 by_cases h4 : b < 4
 ·have HF := Lib.hid (show wR (b - 1) = q by rw [← HC.out]; unfold numW; rw [if_neg h0, if_pos h4])
  clear HC h0
  unfold wR at HF
  go_enter Tryz.func19, Tryz.ntmps19
  go_wp2_with fail
  go_ret
  exact ⟨ret_in HF.out, Below.refl _ _⟩
 ·have HF := Lib.hid (show wR (wR (wR (b.tdiv 4) * 64) + b % 4) = q by rw [← HC.out]; unfold numW; rw [if_neg h0, if_neg h4])
  clear HC h0
  unfold wR at HF
  go_enter Tryz.func19, Tryz.ntmps19
  go_wp2_with fail
  go_ret
  exact ⟨ret_in HF.out, Below.refl _ _⟩
set_option maxRecDepth 100000 in
set_option maxHeartbeats 4000000 in
theorem mhas_any (mode mods d : Int) (q : Bool) (hq : hasW mode mods d = q) {gm ge : Nat} {t x y : Int} {b : Int} (w : World) (km : Blk w gm 3 #[.int .i64 mode]) (ke : Blk w ge 23 #[.int .i64 b, .int .i64 t, .int .i64 x, .int .i64 y, .int .i64 mods]) :
 Calls Tryz.prog 45 #[.int .i64 d, .pointer (some ⟨gm, 0, none⟩), .pointer (some ⟨ge, 0, none⟩)] w fun e w' => e = .returned (.bool q) ∧ Below w.heap.size w w' := by
 have HC := Lib.hid hq
 clear hq
 have c0 := km.cell 0
 obtain ⟨a0, a1, a2, a3, a4⟩ := Blk.cells5 ke
 by_cases h9 : mode = 9
 ·subst h9
  have HF := Lib.hid (show false = q by rw [← HC.out]; rfl)
  clear HC
  go_enter Tryz.func45, Tryz.ntmps45
  go_wp2_with fail
  go_ret
  exact ⟨ret_bl HF.out, Below.refl _ _⟩
 ·have f9 : (mode != 9) = true := bne_iff_ne.2 h9
  have HF := Lib.hid (show (bits .and .i64 mods d != 0) = q by rw [← HC.out]; unfold hasW bT; rw [f9, Bool.true_and])
  clear HC h9
  go_enter Tryz.func45, Tryz.ntmps45
  go_wp2_with fail
  go_ret
  exact ⟨ret_bl HF.out, Below.refl _ _⟩
set_option maxRecDepth 100000 in
set_option maxHeartbeats 4000000 in
theorem mmodhas_any (n d : Int) (q : Bool) (hq : bT n d = q) {g : Nat} (w : World) (k : Blk w g 3 #[.int .i64 n]) : Calls Tryz.prog 51 #[.int .i64 d, .pointer (some ⟨g, 0, none⟩)] w fun e w' => e = .returned (.bool q) ∧ Below w.heap.size w w' := by
 have HF := Lib.hid (show (bits .and .i64 n d != 0) = q from hq)
 clear hq
 have c0 := k.cell 0
 go_enter Tryz.func51, Tryz.ntmps51
 go_wp2_with fail
 go_ret
 exact ⟨ret_bl HF.out, Below.refl _ _⟩
set_option maxRecDepth 100000 in
set_option maxHeartbeats 4000000 in
theorem mtype_any (n : Int) (f : UInt8) (q : Int) (hq : typP n f = q) (w : World) : Calls Tryz.prog 25 #[.int .i64 n, .int .u8 (f.toNat : Int)] w (NumE q w) := by
 have HC := Lib.hid hq
 clear hq
 by_cases hf : f = 109
 ·subst hf
  have HF := Lib.hid (show 3 = q by rw [← HC.out]; rfl)
  clear HC
  go_enter Tryz.func25, Tryz.ntmps25
  go_wp2_with fail
  go_ret
  exact ⟨ret_in HF.out, Below.refl _ _⟩
 have f9 : ((f.toNat : Int) == 109) = false := beq_false_of_ne fun h => hf (by apply UInt8.toNat_inj.1; show f.toNat = 109; omega)
 by_cases hb : bT n 32 = true
 ·have HF := Lib.hid (show 4 = q by rw [← HC.out]; unfold typP; rw [if_neg hf, if_pos hb])
  have h2 : (bits .and .i64 n 32 != 0) = true := hb
  clear HC hb hf
  go_enter Tryz.func25, Tryz.ntmps25
  go_wp2_with fail
  go_ret
  exact ⟨ret_in HF.out, Below.refl _ _⟩
 ·have HF := Lib.hid (show 1 = q by rw [← HC.out]; unfold typP; rw [if_neg hf, if_neg hb])
  have h2 : (bits .and .i64 n 32 != 0) = false := by simpa [bT] using hb
  clear HC hb hf
  go_enter Tryz.func25, Tryz.ntmps25
  go_wp2_with fail
  go_ret
  exact ⟨ret_in HF.out, Below.refl _ _⟩
theorem sum_step (l : List Int) {k : Nat} (h : k < l.length) : (l.take (k + 1)).sum = (l.take k).sum + l[k] := by
 rw [List.take_succ_eq_append_getElem h, List.sum_append]; simp
theorem sum_rng : ∀ (l : List Int), (∀ n ∈ l, 0 ≤ n ∧ n ≤ 1000) → 0 ≤ l.sum ∧ l.sum ≤ 1000 * l.length
 | [], _ => by simp
 | n :: l, h => by
   have := sum_rng l fun m hm => h m (List.mem_cons_of_mem _ hm)
   have := h n (List.mem_cons_self ..)
   simp only [List.sum_cons, List.length_cons]
   omega
set_option maxRecDepth 100000 in
set_option maxHeartbeats 4000000 in
theorem msum_any (l : List Int) (m : Nat) (q : Int) (hm : l.length = m) (hm2 : m ≤ 1000) (hr : ∀ n ∈ l, 0 ≤ n ∧ n ≤ 1000) (hq : l.sum = q) (A : Option Addr) (c : Nat) (w : World) (hrd : Rd w A (is_ l)) : Calls Tryz.prog 46 #[.slice A m c] w (NumE q w) := by
 have HM := Lib.hid hm
 have HQ := Lib.hid hq
 have HR := Lib.hid hr
 clear hm hq hr
 go_enter Tryz.func46, Tryz.ntmps46
 go_wp2_with fail
 go_loop [3, 8] (fun s i => ∃ (k : Nat) (p : Int), k ≤ m ∧ i = .int .i64 k ∧ s = .int .i64 p ∧ Hid ((l.take k).sum = p)) (fun _ i => m - (intOf i).toNat)
 case atStart => exact ⟨0, 0, Nat.zero_le _, rfl, rfl, Lib.hid (by simp)⟩
 case round =>
  obtain ⟨k, p, hk, rfl, rfl, HP⟩ := hrel
  by_cases hlt : k < m
  ·have hkl : k < l.length := by rw [HM.out]; exact hlt
   obtain ⟨b, o, rfl, hb, hc⟩ := hrd.int_at (by omega)
   have hck := hc k hkl
   obtain ⟨x, hx⟩ : ∃ x, l[k]'hkl = x := ⟨_, rfl⟩
   rw [hx] at hck
   have hst := sum_step l hkl
   rw [HP.out, hx] at hst
   have r1 := sum_rng (l.take (k + 1)) fun n hn => HR.out n (List.mem_of_mem_take hn)
   have r2 : (l.take (k + 1)).length ≤ 1000 := by rw [List.length_take]; omega
   rw [hst] at r1
   have HP2 := Lib.hid hst
   have g0 : (0 : Int) ≤ (k : Int) := by omega
   have g1 : (k : Int) < (m : Int) := by omega
   have hw : IntKind.i64.wrap (p + x) = p + x := by rw [IntKind.wrap_i64]; omega
   clear hc hx hst
   go_wp2_with fail
   go_round
   case rel => exact ⟨k + 1, p + x, by omega, by go_num, rfl, HP2⟩
   case measure => simp [intOf]; omega
  ·obtain rfl : k = m := by omega
   have hpq : p = q := by rw [← HP.out, List.take_of_length_le (by rw [HM.out]; exact Nat.le_refl _), HQ.out]
   subst hpq
   go_wp2_with fail
   go_ret
   exact ⟨rfl, Below.refl _ _⟩
theorem own_full {w : World} {base : Nat} {e : TypeId} {g n : Nat} {xs : List Value} {l : List Value} (h : Own w base e 1 (.slice (some ⟨g, 0, none⟩) n n) n xs) (hl : l.length = n) (hx : ∀ j, j < n → xs[j]? = l[j]?) : Rd w (some ⟨g, 0, none⟩) l := by
 have h1 := h.1
 have : xs = l := List.ext_getElem? fun j => by
  by_cases hj : j < n
  ·exact hx j hj
  ·rw [List.getElem?_eq_none (by omega), List.getElem?_eq_none (by omega)]
 subst this
 exact h.rd
set_option maxRecDepth 100000 in
set_option maxHeartbeats 8000000 in
theorem ptext_any (A : Option Addr) (c : Nat) (ps : List (List Int)) (w : World) (hp : parOk ps = true) (ht : Tab w) (hr : RdP w A ps) :
 Calls Tryz.prog 72 #[.slice A ps.length c] w fun e w' => e = .returned (.string ⟨(parL ps).toArray⟩) ∧ Below w.heap.size w w' := by
 obtain ⟨i0, hi, hz0, hz1, hz2⟩ : ∃ i, Tryz.prog.info? 9 = some i ∧ i.zero = some (.string ⟨#[]⟩) ∧ i.size = 1 ∧ i.bytes = 16 := ⟨_, rfl, rfl, rfl, rfl⟩
 obtain ⟨hl16, hp8⟩ := parOk_lens hp
 have HP8 := Lib.hid hp8
 obtain ⟨n, hn⟩ : ∃ n, ps.length = n := ⟨_, rfl⟩
 rw [hn] at hl16 ⊢
 have HN := Lib.hid hn
 have HP := Lib.hid hp
 clear hp hp8 hn
 go_enter Tryz.func72, Tryz.ntmps72
 go_wp2_with (first | (at_make; refine wpList_make_full _ rfl _ _ 101 rfl w.heap.size 9 i0 _ 1 Tryz.underlying101 hi hz0 hz1 _ _ _ _ n rfl rfl ?d0 ?d1 ?d2 ?d3 ?d4 ?_))
 case d0 => omega
 case d1 => omega
 case d2 => rw [hz2]; omega
 case d3 => simp only [maxLen]; omega
 case d4 => exact Nat.le_refl _
 intro w2 hown2 hg2
 have hb2 : Below w.heap.size w w2 := (Below.refl _ _).grown hg2 (Nat.le_refl _) (by simp)
 have ho2 := Own.of hown2
 have hlt2 : w.heap.size < w2.heap.size := (ho2.lt w.heap.size rfl).2
 clear hown2 hg2
 go_wp2_with fail
 go_loopw [14] (fun i wr => ∃ (k : Nat) (xs : List Value), k ≤ n ∧ i = .int .i64 k ∧ Own wr w.heap.size 9 1 (.slice (some ⟨w.heap.size, 0, none⟩) n n) n xs ∧ Below w.heap.size w wr ∧ Hid (∀ j, j < k → xs[j]? = (ss_ (ps.map partL))[j]?)) (fun i _ => n - (intOf i).toNat)
 case atStart => exact ⟨0, _, Nat.zero_le _, rfl, ho2, hb2, Lib.hid fun j h => absurd h (by omega)⟩
 case round =>
  obtain ⟨k, xs, hk, rfl, ho, hb, hdone⟩ := hrel
  clear ho2 hb2 hlt2
  have hltr : w.heap.size < wr.heap.size := (ho.lt w.heap.size rfl).2
  obtain ⟨wo, rfl⟩ : ∃ wo : World, wo = wr := ⟨_, rfl⟩
  by_cases hlt : k < n
  ·have hkn : k < ps.length := by rw [HN.out]; exact hlt
   obtain ⟨b, o, hA, hbA, hcc⟩ := (hr.below hb) (by omega)
   cases hA
   obtain ⟨A', c', hck, hrk⟩ := hcc k hkn
   obtain ⟨p, hp'⟩ : ∃ p, (ps[k]'hkn) = p := ⟨_, rfl⟩
   have hpl := HP8.out _ (List.getElem_mem hkn)
   rw [hp'] at hck hrk hpl
   have HPP := Lib.hid hp'
   clear hp' hcc
   obtain ⟨m, hm⟩ : ∃ m, p.length = m := ⟨_, rfl⟩
   rw [hm] at hck hpl
   have HM := Lib.hid hm
   obtain ⟨hm8, hpo⟩ := hpl
   have HPO := Lib.hid hpo
   clear hm hpo
   go_wp2_with (first | (at_make; refine wpList_make_full _ rfl _ _ 101 rfl wo.heap.size 9 i0 _ 1 Tryz.underlying101 hi hz0 hz1 _ _ _ _ m rfl rfl ?d0 ?d1 ?d2 ?d3 ?d4 ?_))
   case d0 => omega
   case d1 => omega
   case d2 => rw [hz2]; omega
   case d3 => simp only [maxLen]; omega
   case d4 => exact Nat.le_refl _
   intro w3 hown3 hg3
   have hb3 : Below wo.heap.size wo w3 := (Below.refl _ _).grown hg3 (Nat.le_refl _) (by simp)
   have ho3 := Own.of hown3
   clear hown3 hg3
   go_wp2_with fail
   go_loopw [24] (fun i wr => ∃ (j : Nat) (ys : List Value), j ≤ m ∧ i = .int .i64 j ∧ Own wr wo.heap.size 9 1 (.slice (some ⟨wo.heap.size, 0, none⟩) m m) m ys ∧ Below wo.heap.size wo wr ∧ Hid (∀ t, t < j → ys[t]? = (ss_ (p.map textL))[t]?)) (fun i _ => m - (intOf i).toNat)
   case atStart => exact ⟨0, _, Nat.zero_le _, rfl, ho3, hb3, Lib.hid fun j h => absurd h (by omega)⟩
   case round =>
    obtain ⟨j, ys, hj, rfl, hoi, hbi, hdi⟩ := hrel
    clear ho3 hb3
    have hlti : wo.heap.size < wr.heap.size := (hoi.lt wo.heap.size rfl).2
    by_cases hjm : j < m
    ·have hjp : j < p.length := by rw [HM.out]; exact hjm
     obtain ⟨b4, o4, hA4, hb4, hc4⟩ := (hrk.below hbi).int_at (by omega)
     cases hA4
     have hcj := hc4 j hjp
     obtain ⟨x, hx⟩ : ∃ x, p[j]'hjp = x := ⟨_, rfl⟩
     have hxr := HPO.out _ (List.getElem_mem hjp)
     rw [hx] at hcj hxr
     have HX := Lib.hid hx
     clear hx hc4
     obtain ⟨x0, x1⟩ := hxr
     go_wp2_with fail
     refine (text_any x _ (by omega) (by omega) (ht.below (hb.trans (hbi.mono hb.size)))).mono ?_
     rintro e w5 ⟨rfl, hb5⟩
     have ho5 := hoi.behind hb5
     have hyl : j < ys.length := by have := hoi.1; omega
     have hd1 := ho5.cellAt j hyl
     have hd2 := ho5.frozenAt j hyl
     have hbi5 : Below wo.heap.size wo w5 := hbi.trans (hb5.mono hbi.size)
     clear hb5 hcj
     go_wp2_with fail
     go_roundw
     case rel =>
      refine ⟨j + 1, _, by omega, by go_num, ho5.stored j _, hbi5.setCell (p := ⟨wo.heap.size, j, none⟩) (Nat.le_refl _) _, Lib.hid fun t ht => ?_⟩
      by_cases e : t = j
      ·subst e
       rw [List.getElem?_set_self hyl]
       simp [ss_, List.getElem?_eq_getElem hjp, HX.out]
      ·rw [List.getElem?_set_ne (fun h => e h.symm)]
       exact hdi.out t (by omega)
     case measure => simp [intOf]; omega
    ·have hrow := own_full hoi (l := ss_ (p.map textL)) (by simp [ss_, HM.out]) (fun t ht => hdi.out t (by omega))
     have hJ := Lib.hid (join_part p)
     have hlen := partL_len p HPO.out
     rw [HM.out] at hlen
     have hml := Lib.hid (show (p.map textL).length = m by rw [List.length_map]; exact HM.out)
     go_wp2_with fail
     refine (join_any (some ⟨wo.heap.size, 0, none⟩) m m (p.map textL) [58] (partL p) _ hml.out hJ.out (by omega) (Nat.le_refl _) (by omega) hrow).mono ?_
     rintro e w5 ⟨rfl, hb5⟩
     have hbi5 : Below wo.heap.size wo w5 := hbi.trans (hb5.mono hbi.size)
     have ho5 := ho.behind hbi5
     have hxl : k < xs.length := by have := ho.1; omega
     have hd1 := ho5.cellAt k hxl
     have hd2 := ho5.frozenAt k hxl
     have hb5' : Below w.heap.size w w5 := hb.trans (hbi5.mono hb.size)
     clear hb5 hrow
     go_wp2_with fail
     go_roundw
     case rel =>
      refine ⟨k + 1, _, by omega, by go_num, ho5.stored k _, hb5'.setCell (p := ⟨w.heap.size, k, none⟩) (Nat.le_refl _) _, Lib.hid fun t ht => ?_⟩
      by_cases e : t = k
      ·subst e
       rw [List.getElem?_set_self hxl]
       simp [ss_, List.getElem?_eq_getElem hkn, HPP.out]
      ·rw [List.getElem?_set_ne (fun h => e h.symm)]
       exact hdone.out t (by omega)
     case measure => simp [intOf]; omega
  ·have hrow := own_full ho (l := ss_ (ps.map partL)) (by simp [ss_, HN.out]) (fun t ht => hdone.out t (by omega))
   have hJ := Lib.hid (join_par ps)
   have hlen := parL_len ps HP8.out
   rw [HN.out] at hlen
   have hml := Lib.hid (show (ps.map partL).length = n by rw [List.length_map]; exact HN.out)
   go_wp2_with fail
   refine (join_any (some ⟨w.heap.size, 0, none⟩) n n (ps.map partL) [59] (parL ps) _ hml.out hJ.out (by omega) (Nat.le_refl _) (by omega) hrow).mono ?_
   rintro e w5 ⟨rfl, hb5⟩
   go_wp2_with fail
   go_ret
   exact ⟨rfl, hb.trans (hb5.mono hb.size)⟩
end Go.Proofs.YtjlhhelikiegdaaGreatDoor
