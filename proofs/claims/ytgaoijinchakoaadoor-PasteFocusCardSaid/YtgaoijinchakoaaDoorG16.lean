/-
  Layer 2, walked: the document's Take, its loop.
-/
import Derived.Test.YtgaoijinchakoaaDoorG07
import Derived.Deep.RegionHeld3
import Derived.Maps.RangeWalk
namespace Go.Proofs.YtgaoijinchakoaaDoor
open Go.RowKit
theorem Rd.take {w : World} {A : Option Addr} {l : List UInt8} (h : Rd w A (bs l)) (n : Nat) : Rd w A (bs (l.take n)) := fun hp => by
 rw [bs_length, List.length_take] at hp
 obtain ⟨b, o, rfl, hb, hc⟩ := h (by rw [bs_length]; omega)
 refine ⟨b, o, rfl, hb, fun k u hu => hc k u ?_⟩
 simp only [bs, List.map_take] at hu ⊢
 rw [List.getElem?_take] at hu
 split at hu
 ·exact hu
 ·cases hu
theorem rPut_at (r : Int) (m : List UInt8) (n : Nat) (h : putL r = m) (hn : m.length = n) (w : World) : Calls Tryd.prog 37 #[.int .i64 r] w fun e w' => ∃ A c, e = .returned (.slice A n c) ∧ Rd w' A (bs m) ∧ Below w.heap.size w w' := by
 subst h hn
 exact rPut_any r w
theorem gs_hit' {l : List UInt8} {n : Nat} {g : Int} {U : List UInt8} (hn : 1 ≤ n) (hg : gs l n = g) (hU : putL g = U) (hl : U.length = n) (h : l.take n = U) : takeL l = (g, n) := by
 subst hg hU
 exact gs_hit hn hl h.symm
theorem gs_miss {l : List UInt8} {n : Nat} {g : Int} {U T : List UInt8} (hn : 1 ≤ n) (hg : gs l n = g) (hU : putL g = U) (_hl : U.length = n) (hT : l.take n = T) (h : U ≠ T) (hh : (takeL l).2 = 0 ∨ n ≤ (takeL l).2) : (takeL l).2 = 0 ∨ n + 1 ≤ (takeL l).2 := by
 subst hg hU hT
 rcases hh with hz | hz
 ·exact .inl hz
 ·by_cases e : (takeL l).2 = n
  ·exact absurd (gs_told hn e).2.2 h
  ·right; omega
theorem gs_long {l : List UInt8} {n : Nat} {g : Int} (hn : 1 ≤ n) (hg : gs l n = g) (hl : ¬ (putL g).length = n) (hh : (takeL l).2 = 0 ∨ n ≤ (takeL l).2) : (takeL l).2 = 0 ∨ n + 1 ≤ (takeL l).2 := by
 subst hg
 rcases hh with hz | hz
 ·exact .inl hz
 ·by_cases e : (takeL l).2 = n
  ·exact absurd (gs_told hn e).2.1 hl
  ·right; omega
theorem gs_end1 {l : List UInt8} {n : Nat} (_hn : 1 ≤ n) (h : l.length < n) (hh : (takeL l).2 = 0 ∨ n ≤ (takeL l).2) : takeL l = (0, 0) := by
 have := (take_snd_le l).1
 exact take_zero (by omega)
theorem gs_end2 {l : List UInt8} {n : Nat} (h : 4 < n) (hh : (takeL l).2 = 0 ∨ n ≤ (takeL l).2) : takeL l = (0, 0) := by
 have := (take_snd_le l).2
 exact take_zero (by omega)
theorem ne_of_beq_bytes {a b : List UInt8} (h : (a == b) = false) : a ≠ b := by
 intro e
 rw [e, beq_self_eq_true] at h
 cases h
set_option maxRecDepth 100000 in
set_option maxHeartbeats 800000 in
theorem rtake_any (A : Option Addr) (c : Nat) (l : List UInt8) (w : World) (hl : l.length ≤ 4294967296) (hlc : l.length ≤ c) (hr : Rd w A (bs l)) :
 Calls Tryd.prog 23 #[.slice A l.length c] w fun e w' => e = Tk l ∧ Below w.heap.size w w' := by
 cases l with
 | nil =>
   go_enter Tryd.func23, Tryd.ntmps23
   go_wp2
   refine wp_loop_rounds 1 ?_
   rw [rounds_succ]
   go_wp2
   go_ret2
   exact ⟨tk_zero rfl, Below.refl _ _⟩
 | cons a0 l0 =>
   obtain ⟨l, hll⟩ : ∃ l, l = a0 :: l0 := ⟨_, rfl⟩
   rw [← hll] at hl hlc hr ⊢
   have hpos : 0 < l.length := by rw [hll]; simp
   clear hll a0 l0
   obtain ⟨b, o, rfl, hb, hcc⟩ := hr.at_ hpos
   clear hcc
   go_enter Tryd.func23, Tryd.ntmps23
   go_wp2
   go_loopw [4] (fun i wr => ∃ n : Nat, 1 ≤ n ∧ n ≤ 5 ∧ i = .int .i64 n ∧ ((takeL l).2 = 0 ∨ n ≤ (takeL l).2) ∧ Below w.heap.size w wr) (fun i _ => 5 - (intOf i).toNat)
   case atStart => exact ⟨1, Nat.le_refl _, by omega, rfl, by omega, Below.refl _ _⟩
   case round =>
    obtain ⟨n, hn1, hn5, rfl, hT, hbw⟩ := hrel
    have HT := Lib.hid hT
    clear hT
    by_cases hn4 : n ≤ 4
    ·by_cases hnl : n ≤ l.length
     ·have hrw := hr.below hbw
      obtain ⟨gd0, gd1⟩ := gs_bd l n
      obtain ⟨g, hg⟩ : ∃ g, gs l n = g := ⟨_, rfl⟩
      have HE : Hid (gs l n = g) := Lib.hid hg
      rw [hg] at gd0 gd1
      by_cases hlen : (putL g).length = n
      ·obtain ⟨T, hT⟩ : ∃ T, l.take n = T := ⟨_, rfl⟩
       obtain ⟨U, hU⟩ : ∃ U, putL g = U := ⟨_, rfl⟩
       rw [hU] at hlen
       have HP := Lib.hid hU
       have HU := Lib.hid hlen
       have HT2 := Lib.hid hT
       have HL := Lib.hid (show T.length = n by rw [← hT, List.length_take]; omega)
       have hrT : Rd wr (some ⟨b, o, none⟩) (bs T) := by rw [← hT]; exact hrw.take n
       have HCV := Lib.hid (show ∀ (W : World) (A' : Option Addr) (c' : Nat), Rd W A' (bs T) → (convert 24 9 (.slice A' n c')).run Tryd.prog W = .ok (.string ⟨T.toArray⟩) W from fun W A' c' h => conv_str Tryd.underlying24 Tryd.underlying5 HL.out h _ Tryd.underlying9)
       have HCW := Lib.hid (show ∀ (W : World) (A' : Option Addr) (c' : Nat), Rd W A' (bs U) → (convert 24 9 (.slice A' n c')).run Tryd.prog W = .ok (.string ⟨U.toArray⟩) W from fun W A' c' h => conv_str Tryd.underlying24 Tryd.underlying5 HU.out h _ Tryd.underlying9)
       clear hlen hT hU hg
       go_wp2_with fail
       refine (guess_any _ c l n _ hl hn1 hn4 hnl hrw).mono ?_
       rw [HE.out]
       rintro e w2 ⟨rfl, hb2⟩
       have hr2 := hrT.below hb2
       have hb2 : Below w.heap.size w w2 := hbw.trans (hb2.mono hbw.size)
       clear hrT hrw
       have n0 : (0 : Int) ≤ (n : Int) := by omega
       have n1 : (n : Int) ≤ (c : Int) := by omega
       go_wp2_with fail
       have hcv := HCV.out
       have hcw := HCW.out
       go_region_held (fun w' => Rd w' (some ⟨b, o, none⟩) (bs T) ∧ Below w.heap.size w w') (first | exact ⟨hr2, hb2.drew⟩ | assumption | exact ⟨Rd.below (And.left (by assumption)) hb3, Below.trans (And.right (by assumption)) (hb3.mono (Below.size (And.right (by assumption))))⟩) (first | (go_at_call 37; refine (rPut_at _ U n HP.out HU.out _).mono ?_; rintro e w3 ⟨A3, c3, rfl, hr3, hb3⟩))
       all_goals
        go_wp2
       ·have hUT : U = T := eq_of_beq (by assumption)
        go_ret2
        refine ⟨tk_is (n := n) (gs_hit' hn1 HE.out HP.out HU.out (HT2.out.trans hUT.symm)) rfl, And.right (by assumption)⟩
       ·have hUT : U ≠ T := ne_of_beq_bytes (by assumption)
        go_roundw
        case rel => exact ⟨n + 1, by omega, by omega, by go_num, gs_miss hn1 HE.out HP.out HU.out HT2.out hUT HT.out, And.right (by assumption)⟩
        case measure => simp [intOf]; omega
      ·have HP := Lib.hid (show putL g = putL g from rfl)
       have hne : (((putL g).length : Int) == (n : Int)) = false := beq_false_of_ne (by omega)
       clear hg
       go_wp2_with fail
       refine (guess_any _ c l n _ hl hn1 hn4 hnl hrw).mono ?_
       rw [HE.out]
       rintro e w2 ⟨rfl, hb2⟩
       have hb2 : Below w.heap.size w w2 := hbw.trans (hb2.mono hbw.size)
       have n0 : (0 : Int) ≤ (n : Int) := by omega
       have n1 : (n : Int) ≤ (c : Int) := by omega
       go_wp2_with fail
       have hb2 := hb2.drew
       refine wp_region_any (by kernel_rfl) ?_
       change wpAny _ _ _ _ _ _ _ (World.drew _)
       refine wpAny_take (i := 0) (oi := ⟨some 19, _, _, _, _, _⟩) (v := ?_) rfl (by kernel_rfl) (by kernel_rfl) (by kernel_rfl) (fun _ _ _ h => h) (Or.inl ⟨rfl, ?_⟩) ?_
       rotate_left 1
       ·intro W
        go_simp <;> with_reducible rfl
       try go_frame
       refine wpAny_take (i := 3) (oi := ⟨some 22, _, _, _, _, _⟩) (v := ?_) rfl (by kernel_rfl) (by kernel_rfl) (by kernel_rfl) (fun _ _ _ h => h) (Or.inl ⟨rfl, ?_⟩) ?_
       rotate_left 1
       ·intro W
        go_simp <;> with_reducible rfl
       try go_frame
       refine wpAny_ready (rs := [1]) (by kernel_rfl) (by simp) ?_
       refine AllReady.cons (o := ⟨some 20, _, _, _, _, _⟩) rfl (fun K hK => ?_) AllReady.nil
       go_simp
       go_at_call 37
       refine (rPut_any g _).mono ?_
       rintro e w3 ⟨A3, c3, rfl, hr3, hb3⟩
       have hb2 := hb2.trans (hb3.mono hb2.size)
       clear hb3 hr3
       refine hK _ _ ?_
       clear hK K
       refine wpAny_take (i := 2) (oi := ⟨some 21, _, _, _, _, _⟩) (v := ?_) rfl (by kernel_rfl) (by kernel_rfl) (by kernel_rfl) (fun _ _ _ h => h) (Or.inl ⟨rfl, ?_⟩) ?_
       rotate_left 1
       ·intro W
        go_simp <;> with_reducible rfl
       try go_frame
       refine wpAny_take (i := 4) (oi := ⟨some 23, _, _, _, _, _⟩) (v := ?_) rfl (by kernel_rfl) (by kernel_rfl) (by kernel_rfl) (fun _ _ _ h => h) (Or.inl ⟨rfl, ?_⟩) ?_
       rotate_left 1
       ·intro W
        go_simp <;> with_reducible rfl
       try go_frame
       refine wpAny_take (i := 5) (oi := ⟨some 24, _, _, _, _, _⟩) (v := ?_) rfl (by kernel_rfl) (by kernel_rfl) (by kernel_rfl) (fun _ _ _ h => h) (Or.inl ⟨rfl, ?_⟩) ?_
       rotate_left 1
       ·intro W
        go_simp <;> with_reducible rfl
       try go_frame
       refine wpAny_take (i := 6) (oi := ⟨some 25, _, _, _, _, _⟩) (v := undef) rfl (by kernel_rfl) (by kernel_rfl) (by kernel_rfl) (fun _ _ _ h => h) (Or.inr ⟨rfl, rfl⟩) ?_
       try go_frame
       refine wpAny_take (i := 7) (oi := ⟨some 26, _, _, _, _, _⟩) (v := undef) rfl (by kernel_rfl) (by kernel_rfl) (by kernel_rfl) (fun _ _ _ h => h) (Or.inr ⟨rfl, rfl⟩) ?_
       try go_frame
       refine wpAny_take (i := 8) (oi := ⟨some 27, _, _, _, _, _⟩) (v := undef) rfl (by kernel_rfl) (by kernel_rfl) (by kernel_rfl) (fun _ _ _ h => h) (Or.inr ⟨rfl, rfl⟩) ?_
       try go_frame
       refine wpAny_take (i := 9) (oi := ⟨some 28, _, _, _, _, _⟩) (v := undef) rfl (by kernel_rfl) (by kernel_rfl) (by kernel_rfl) (fun _ _ _ h => h) (Or.inr ⟨rfl, rfl⟩) ?_
       try go_frame
       refine wpAny_take (i := 10) (oi := ⟨some 29, _, _, _, _, _⟩) (v := undef) rfl (by kernel_rfl) (by kernel_rfl) (by kernel_rfl) (fun _ _ _ h => h) (Or.inr ⟨rfl, rfl⟩) ?_
       try go_frame
       refine wpAny_take (i := 11) (oi := ⟨some 30, _, _, _, _, _⟩) (v := undef) rfl (by kernel_rfl) (by kernel_rfl) (by kernel_rfl) (fun _ _ _ h => h) (Or.inr ⟨rfl, rfl⟩) ?_
       try go_frame
       refine wpAny_take (i := 12) (oi := ⟨some 31, _, _, _, _, _⟩) (v := undef) rfl (by kernel_rfl) (by kernel_rfl) (by kernel_rfl) (fun _ _ _ h => h) (Or.inr ⟨rfl, rfl⟩) ?_
       try go_frame
       refine wpAny_take (i := 13) (oi := ⟨some 32, _, _, _, _, _⟩) (v := undef) rfl (by kernel_rfl) (by kernel_rfl) (by kernel_rfl) (fun _ _ _ h => h) (Or.inr ⟨rfl, rfl⟩) ?_
       try go_frame
       refine wpAny_take (i := 14) (oi := ⟨some 33, _, _, _, _, _⟩) (v := ?_) rfl (by kernel_rfl) (by kernel_rfl) (by kernel_rfl) (fun _ _ _ h => h) (Or.inl ⟨rfl, ?_⟩) ?_
       rotate_left 1
       ·intro W
        go_simp <;> with_reducible rfl
       try go_frame
       refine wpAny_done (by kernel_rfl) ?_ _
       all_goals
        go_wp2
        go_roundw
        case rel => exact ⟨n + 1, by omega, by omega, by go_num, gs_long hn1 HE.out hlen HT.out, hb2⟩
        case measure => simp [intOf]; omega
     ·have E := Lib.hid (tk_zero (gs_end1 hn1 (Nat.lt_of_not_le hnl) HT.out))
      go_wp2
      go_ret2
      exact ⟨E.out, hbw⟩
    ·have E := Lib.hid (tk_zero (gs_end2 (n := n) (by omega) HT.out))
     go_wp2
     go_ret2
     exact ⟨E.out, hbw⟩
end Go.Proofs.YtgaoijinchakoaaDoor
