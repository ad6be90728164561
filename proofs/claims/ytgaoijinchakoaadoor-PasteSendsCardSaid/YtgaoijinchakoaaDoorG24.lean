/-
  slices.Grow of nothing, and slices.Concat, of rows of bytes.
-/
import Derived.Test.YtgaoijinchakoaaDoorG04
import Derived.Test.YtgaoijinchakoaaDoorG07
import Derived.Lib.AppendZeros
import Derived.LaidMore
namespace Go.Proofs.YtgaoijinchakoaaDoor
open Go.RowKit
def RdBs (w : World) (A : Option Addr) (ls : List (List UInt8)) : Prop :=
 0 < ls.length → ∃ b o, A = some ⟨b, o, none⟩ ∧ b < w.heap.size ∧ ∀ k (hk : k < ls.length), ∃ A' c', w.cell? ⟨b, o + k, none⟩ = some (.slice A' (ls[k]).length c') ∧ Rd w A' (bs ls[k])
theorem RdBs.below {w w' : World} {A : Option Addr} {ls : List (List UInt8)} (h : RdBs w A ls) (hb : Below w.heap.size w w') : RdBs w' A ls := fun hp => by
 obtain ⟨b, o, rfl, hlt, hc⟩ := h hp
 refine ⟨b, o, rfl, Nat.lt_of_lt_of_le hlt hb.size, fun k hk => ?_⟩
 obtain ⟨A', c', h1, h2⟩ := hc k hk
 exact ⟨A', c', (hb.cell (p := ⟨b, o + k, none⟩) hlt).trans h1, h2.below hb⟩
theorem flat_step {α : Type} (ls : List (List α)) {k : Nat} (h : k < ls.length) : (ls.take (k + 1)).flatten = (ls.take k).flatten ++ ls[k] := by
 rw [List.take_succ_eq_append_getElem h, List.flatten_append]; simp
theorem flat_le {α : Type} (ls : List (List α)) (k : Nat) : (ls.take k).flatten.length ≤ ls.flatten.length := by
 have : ls.flatten = (ls.take k).flatten ++ (ls.drop k).flatten := by rw [← List.flatten_append, List.take_append_drop]
 rw [this, List.length_append]; omega
set_option maxRecDepth 100000 in
set_option maxHeartbeats 4000000 in
theorem grow_any (n : Nat) (hn : n ≤ 4294967296) (w : World) : Calls Tryd.prog 38 #[.slice none 0 0, .int .i64 n] w fun e w' => ∃ A c, e = .returned (.slice A 0 c) ∧ Own w' w.heap.size 5 1 (.slice A 0 c) 0 [] ∧ Below w.heap.size w w' := by
 obtain ⟨i0, hi0, hz0, hz1, hz2⟩ : ∃ i, Tryd.prog.info? 5 = some i ∧ i.zero = some (.int .u8 0) ∧ i.size = 1 ∧ i.bytes = 1 := ⟨_, rfl, rfl, rfl, rfl⟩
 have n0 : ¬ ((n : Int) < 0) := by omega
 by_cases h0 : n = 0
 ·subst h0
  go_enter Tryd.func38, Tryd.ntmps38
  go_wp2_with fail
  go_ret
  exact ⟨none, 0, rfl, Own.nil_ _ _ _ _, Below.refl _ _⟩
 ·have n1 : (0 : Int) < (n : Int) := by omega
  have hw1 : IntKind.i64.wrap (n : Int) = n := by rw [IntKind.wrap_i64]; omega
  have hw2 : IntKind.i64.wrap ((n : Int) - 0) = n := by rw [IntKind.wrap_i64]; omega
  have happ := Lib.run_append_nil_zeros (P := Tryd.prog) w 24 3 24 5 i0 (.int .u8 0) .i64 .i64 Tryd.underlying24 Tryd.underlying3 hi0 hz0 n (by omega) (by omega) (by omega) (by rw [hz2]; omega)
  generalize hcap : grownCap w n 0 5 = cap2 at happ
  have hcapge : n ≤ cap2 := by rw [← hcap]; exact grownCap_ge w _ 0 5
  have hcaple : cap2 ≤ maxLen := by rw [← hcap]; exact grownCap_le_maxLen w _ 0 5 (by unfold maxLen; omega)
  generalize hZ : (Builtin.zeroCells (Value.int .u8 0).cells n ++ Builtin.zeroCells (Value.int .u8 0).cells (cap2 - n)) = Z at happ
  have hZs : Z.size = cap2 := by rw [← hZ]; simp [size_zeroCells, Value.cells]; omega
  clear hcap hZ
  have hown : Own (w.drew.alloc (.cells Z 5)) w.heap.size 5 1 (.slice (some ⟨w.heap.size, 0, none⟩) 0 cap2) 0 [] := by
   refine ⟨by simp, .inr ⟨w.heap.size, cap2, rfl, Nat.le_refl _, ⟨Z, (0, 0), heap_alloc_new w.drew _⟩, Nat.zero_le _, hcaple, fun j u hu => by simp at hu, fun j hj => ?_⟩⟩
   have hd : w.heap.size = w.drew.heap.size := rfl
   rw [hd, cell_of_row _ _ j _ _ _ (heap_alloc_new w.drew _)]
   exact ⟨by simpa using (by omega : j < Z.size), frozen_of_row _ _ j _ _ (heap_alloc_new w.drew _)⟩
  have hB : Below w.heap.size w (w.drew.alloc (.cells Z 5)) := below_drewN ((Below.refl _ w).alloc (Nat.le_refl _) (.cells Z 5)) 1
  go_enter Tryd.func38, Tryd.ntmps38
  go_wp2_with (at_builtin; refine Lib.wpList_append_run _ rfl _ _ _ _ rfl _ _ rfl rfl _ _ happ ?_)
  go_ret
  exact ⟨_, _, rfl, hown, hB⟩
set_option maxRecDepth 100000 in
set_option maxHeartbeats 8000000 in
theorem concat_any (A : Option Addr) (c : Nat) (ls : List (List UInt8)) (L : List UInt8) (m n : Nat) (hls : ls.length = m) (hm : m ≤ 1000) (hL : ls.flatten = L) (hn : L.length = n) (hl : n ≤ 4294967296) (w : World) (hr : RdBs w A ls) :
 Calls Tryd.prog 25 #[.slice A m c] w fun e w' => ∃ B d, e = .returned (.slice B n d) ∧ Own w' w.heap.size 5 1 (.slice B n d) n (bs L) ∧ Below w.heap.size w w' := by
 obtain ⟨i0, hi0, hz0, hz1, hz2⟩ : ∃ i, Tryd.prog.info? 5 = some i ∧ i.zero = some (.int .u8 0) ∧ i.size = 1 ∧ i.bytes = 1 := ⟨_, rfl, rfl, rfl, rfl⟩
 have HM := Lib.hid hls
 have HN := Lib.hid hn
 have HL := Lib.hid hL
 clear hls hn hL
 go_enter Tryd.func25, Tryd.ntmps25
 go_wp2_with fail
 go_loopw [3, 11] (fun sm i wr => ∃ (k p : Nat), k ≤ m ∧ p ≤ n ∧ i = .int .i64 k ∧ sm = .int .i64 p ∧ Hid ((ls.take k).flatten.length = p) ∧ Below w.heap.size w wr) (fun _ i _ => m - (intOf i).toNat)
 case atStart => exact ⟨0, 0, Nat.zero_le _, Nat.zero_le _, rfl, rfl, Lib.hid (by simp), Below.refl _ _⟩
 case round =>
  obtain ⟨k, p, hk, hp, rfl, rfl, HP, hbw⟩ := hrel
  by_cases hlt : k < m
  ·have hkl : k < ls.length := by rw [HM.out]; exact hlt
   obtain ⟨b, o, hA, hb, hc⟩ := hr (by omega)
   subst hA
   obtain ⟨A', c', hck, _⟩ := hc k hkl
   have hck := (hbw.cell (p := ⟨b, o + k, none⟩) hb).trans hck
   obtain ⟨x, hx⟩ : ∃ x, ls[k]'hkl = x := ⟨_, rfl⟩
   rw [hx] at hck
   obtain ⟨q, hq⟩ : ∃ q, x.length = q := ⟨_, rfl⟩
   rw [hq] at hck
   have hle := flat_le ls (k + 1)
   have hst := flat_step ls hkl
   rw [hst, List.length_append, HP.out, hx, hq, HL.out, HN.out] at hle
   have HP2 : Hid ((ls.take (k + 1)).flatten.length = p + q) := Lib.hid (by rw [hst, List.length_append, HP.out, hx, hq])
   have hw : IntKind.i64.wrap ((p : Int) + (q : Int)) = ((p + q : Nat) : Int) := by rw [IntKind.wrap_i64]; omega
   have hneg : ¬ (((p + q : Nat) : Int) < 0) := by omega
   have g0 : (0 : Int) ≤ (k : Int) := by omega
   have g1 : (k : Int) < (m : Int) := by omega
   clear hc hx hst
   go_wp2_with fail
   go_roundw
   case rel => exact ⟨k + 1, p + q, by omega, hle, by go_num, rfl, HP2, hbw⟩
   case measure => simp [intOf]; omega
  ·obtain rfl : k = m := by omega
   have hpn : p = n := by rw [← HP.out, List.take_of_length_le (by rw [HM.out]; exact Nat.le_refl _), HL.out, HN.out]
   subst hpn
   go_wp2_with fail
   refine (grow_any p hl _).mono ?_
   rintro e w1 ⟨B0, d0, rfl, own0, hb1⟩
   have hB1 := hbw.trans (hb1.mono hbw.size)
   have own1 := own0.mono hbw.size
   clear own0 hb1 hbw
   go_wp2_with fail
   go_loopw [6, 27] (fun v i w2 => ∃ (j q : Nat) (u : Value), j ≤ k ∧ q ≤ p ∧ i = .int .i64 j ∧ u = v ∧ Own w2 w.heap.size 5 1 u q (bs (ls.take j).flatten) ∧ Hid ((ls.take j).flatten.length = q) ∧ Below w.heap.size w w2) (fun _ i _ => k - (intOf i).toNat)
   case atStart => exact ⟨0, 0, _, Nat.zero_le _, Nat.zero_le _, rfl, rfl, own1, Lib.hid (by simp), hB1⟩
   case round =>
    obtain ⟨j, q, u, hj, hq, rfl, rfl, own2, HQ, hb2⟩ := hrel
    clear own1 hB1
    by_cases hlt2 : j < k
    ·have hkl : j < ls.length := by rw [HM.out]; exact hlt2
     obtain ⟨b, o, hA, hb, hc⟩ := (hr.below (hb2.mono (Nat.le_refl _))) (by omega)
     subst hA
     obtain ⟨A', c', hck, hrd⟩ := hc j hkl
     obtain ⟨x, hx⟩ : ∃ x, ls[j]'hkl = x := ⟨_, rfl⟩
     rw [hx] at hck hrd
     obtain ⟨t, ht⟩ : ∃ t, x.length = t := ⟨_, rfl⟩
     rw [ht] at hck
     have hle := flat_le ls (j + 1)
     have hst := flat_step ls hkl
     rw [hst, List.length_append, HQ.out, hx, ht, HL.out, HN.out] at hle
     have HQ2 : Hid ((ls.take (j + 1)).flatten.length = q + t) := Lib.hid (by rw [hst, List.length_append, HQ.out, hx, ht])
     have HS := Lib.hid (show bs (ls.take j).flatten ++ bs x = bs (ls.take (j + 1)).flatten by rw [hst, bs_append, hx])
     have g0 : (0 : Int) ≤ (j : Int) := by omega
     have g1 : (j : Int) < (k : Int) := by omega
     have hxl : (bs x).length = t * 1 := by rw [bs_length, ht]; omega
     have h63 : q + t ≤ maxLen := by simp only [maxLen]; omega
     have hlim : (q + t) * 1 ≤ 140737488355328 := by omega
     have hs2 := hb2.size
     clear hc hx hst
     go_wp2_with (at_builtin; refine list_app _ rfl (.tmp 31) (.tmp 32) 24 rfl w.heap.size 5 i0 _ 1 1 Tryd.underlying24 hi0 hz0 hz1 hz2 rfl Nat.one_pos u q _ rfl own2 A' t c' (bs x) rfl hxl hrd (bs_one _) h63 hlim hs2 ?_; intro v2 w3 own3 hg3)
     have hb3 := hb2.grown hg3 hs2 (fun g hg => (own2.lt g hg).1)
     rw [HS.out] at own3
     go_wp2_with fail
     go_roundw
     case rel => exact ⟨j + 1, q + t, _, by omega, hle, by go_num, rfl, own3, HQ2, hb3⟩
     case measure => simp [intOf]; omega
    ·obtain rfl : j = k := by omega
     have hfl : (ls.take j).flatten = L := by rw [List.take_of_length_le (by rw [HM.out]; exact Nat.le_refl _), HL.out]
     rw [hfl] at own2 HQ
     have hqp : q = p := by rw [← HQ.out, HN.out]
     subst hqp
     obtain ⟨B, d, rfl, _⟩ := own2.form
     go_wp2_with fail
     go_ret
     exact ⟨B, d, rfl, own2, hb2⟩
end Go.Proofs.YtgaoijinchakoaaDoor
