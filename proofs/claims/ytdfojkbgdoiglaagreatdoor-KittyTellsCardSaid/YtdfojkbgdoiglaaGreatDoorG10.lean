/-
  Layer 9: the document's own answers: the parts of Look. Layer 2, walked: the document's Take, its loop. Layer 2, walked: what a code point is; the sizes, in their array. Layer 9, the landed keys, walked: a row's entry. Layer 10, the landed mods: Param and Of.
  Cut out of MdtQ.
-/
import Derived.Test.YtdfojkbgdoiglaaGreatDoorG01
import Derived.Test.YtdfojkbgdoiglaaGreatDoorG03
import Derived.Test.YtdfojkbgdoiglaaGreatDoorG05
import Derived.Test.YtdfojkbgdoiglaaGreatDoorG08
import Derived.Test.YtdfojkbgdoiglaaGreatDoorG09
import Derived.Deep.RegionHeld3
import Derived.Maps.RangeWalk
import Derived.BigQuiet
import Derived.Deep.QuietTactic
namespace Go.Proofs.YtdfojkbgdoiglaaGreatDoor
open Go.RowKit
theorem ret_i9 {k : IntKind} {a b : Int} (h : a = b) : Ending.returned (.int k a) = .returned (.int k b) := by rw [h]
set_option maxRecDepth 100000 in
set_option maxHeartbeats 8000000 in
theorem rletter_any (c : Int) (w : World) : Calls Tryz.prog 37 #[.int .i64 c] w fun e w' => e = .returned (.int .u8 (letterN c)) ∧ w' = w := by
 go_enter Tryz.func37, Tryz.ntmps37
 go_wp2
 all_goals
  go_ret
  refine ⟨ret_i9 ?_, rfl⟩
  simp only [beq_iff_eq, beq_eq_false_iff_ne, ne_eq] at *
  first
   | (subst_vars; decide +kernel)
   | (unfold letterN
      repeat' split
      all_goals omega)
set_option maxRecDepth 100000 in
set_option maxHeartbeats 8000000 in
theorem rnumber_any (c : Int) (w : World) : Calls Tryz.prog 38 #[.int .i64 c] w fun e w' => e = .returned (.int .i64 (numberN c)) ∧ w' = w := by
 go_enter Tryz.func38, Tryz.ntmps38
 go_wp2
 all_goals
  go_ret
  refine ⟨ret_i9 ?_, rfl⟩
  simp only [beq_iff_eq, beq_eq_false_iff_ne, ne_eq] at *
  first
   | (subst_vars; decide +kernel)
   | (unfold numberN
      repeat' split
      all_goals omega)
end Go.Proofs.YtdfojkbgdoiglaaGreatDoor
namespace Go.Proofs.YtdfojkbgdoiglaaGreatDoor
open Go.RowKit
theorem Rd.take {w : World} {A : Option Addr} {l : List UInt8} (h : Rd w A (bs l)) (n : Nat) : Rd w A (bs (l.take n)) := fun hp => by
 rw [bs_length, List.length_take] at hp
 obtain ⟨b, o, rfl, hb, hc⟩ := h (by rw [bs_length]; omega)
 refine ⟨b, o, rfl, hb, fun k u hu => hc k u ?_⟩
 simp only [bs, List.map_take] at hu ⊢
 rw [List.getElem?_take] at hu
 split at hu
 ·exact hu
 ·cases hu
theorem rPut_at (r : Int) (m : List UInt8) (n : Nat) (h : putL r = m) (hn : m.length = n) (w : World) : Calls Tryz.prog 25 #[.int .i64 r] w fun e w' => ∃ A c, e = .returned (.slice A n c) ∧ Rd w' A (bs m) ∧ Below w.heap.size w w' := by
 subst h hn
 exact rPut_any r w
theorem gs_hit' {l : List UInt8} {n : Nat} {g : Int} {U : List UInt8} (hn : 1 ≤ n) (hg : gs l n = g) (hU : putL g = U) (hl : U.length = n) (h : l.take n = U) : takeL l = (g, n) := by
 subst hg hU
 exact gs_hit hn hl h.symm
theorem gs_miss {l : List UInt8} {n : Nat} {g : Int} {U T : List UInt8} (hn : 1 ≤ n) (hg : gs l n = g) (hU : putL g = U) (_hl : U.length = n) (hT : l.take n = T) (h : U ≠ T) (hh : (takeL l).2 = 0 ∨ n ≤ (takeL l).2) : (takeL l).2 = 0 ∨ n + 1 ≤ (takeL l).2 := by
 subst hg hU hT
 rcases hh with hz | hz
 ·exact .inl hz
 ·by_cases e : (takeL l).2 = n
  ·exact absurd (gs_told hn e).2.2 h
  ·right; omega
theorem gs_long {l : List UInt8} {n : Nat} {g : Int} (hn : 1 ≤ n) (hg : gs l n = g) (hl : ¬ (putL g).length = n) (hh : (takeL l).2 = 0 ∨ n ≤ (takeL l).2) : (takeL l).2 = 0 ∨ n + 1 ≤ (takeL l).2 := by
 subst hg
 rcases hh with hz | hz
 ·exact .inl hz
 ·by_cases e : (takeL l).2 = n
  ·exact absurd (gs_told hn e).2.1 hl
  ·right; omega
theorem gs_end1 {l : List UInt8} {n : Nat} (_hn : 1 ≤ n) (h : l.length < n) (hh : (takeL l).2 = 0 ∨ n ≤ (takeL l).2) : takeL l = (0, 0) := by
 have := (take_snd_le l).1
 exact take_zero (by omega)
theorem gs_end2 {l : List UInt8} {n : Nat} (h : 4 < n) (hh : (takeL l).2 = 0 ∨ n ≤ (takeL l).2) : takeL l = (0, 0) := by
 have := (take_snd_le l).2
 exact take_zero (by omega)
theorem ne_of_beq_bytes {a b : List UInt8} (h : (a == b) = false) : a ≠ b := by
 intro e
 rw [e, beq_self_eq_true] at h
 cases h
set_option maxRecDepth 100000 in
set_option maxHeartbeats 800000 in
theorem rtake_any (A : Option Addr) (c : Nat) (l : List UInt8) (w : World) (hl : l.length ≤ 4294967296) (hlc : l.length ≤ c) (hr : Rd w A (bs l)) :
 Calls Tryz.prog 83 #[.slice A l.length c] w fun e w' => e = Tk l ∧ Below w.heap.size w w' := by
 cases l with
 | nil =>
   go_enter Tryz.func83, Tryz.ntmps83
   go_wp2
   refine wp_loop_rounds 1 ?_
   rw [rounds_succ]
   go_wp2
   go_ret2
   exact ⟨tk_zero rfl, Below.refl _ _⟩
 | cons a0 l0 =>
   obtain ⟨l, hll⟩ : ∃ l, l = a0 :: l0 := ⟨_, rfl⟩
   rw [← hll] at hl hlc hr ⊢
   have hpos : 0 < l.length := by rw [hll]; simp
   clear hll a0 l0
   obtain ⟨b, o, rfl, hb, hcc⟩ := hr.at_ hpos
   clear hcc
   go_enter Tryz.func83, Tryz.ntmps83
   go_wp2
   go_loopw [4] (fun i wr => ∃ n : Nat, 1 ≤ n ∧ n ≤ 5 ∧ i = .int .i64 n ∧ ((takeL l).2 = 0 ∨ n ≤ (takeL l).2) ∧ Below w.heap.size w wr) (fun i _ => 5 - (intOf i).toNat)
   case atStart => exact ⟨1, Nat.le_refl _, by omega, rfl, by omega, Below.refl _ _⟩
   case round =>
    obtain ⟨n, hn1, hn5, rfl, hT, hbw⟩ := hrel
    have HT := Lib.hid hT
    clear hT
    by_cases hn4 : n ≤ 4
    ·by_cases hnl : n ≤ l.length
     ·have hrw := hr.below hbw
      obtain ⟨gd0, gd1⟩ := gs_bd l n
      obtain ⟨g, hg⟩ : ∃ g, gs l n = g := ⟨_, rfl⟩
      have HE : Hid (gs l n = g) := Lib.hid hg
      rw [hg] at gd0 gd1
      by_cases hlen : (putL g).length = n
      ·obtain ⟨T, hT⟩ : ∃ T, l.take n = T := ⟨_, rfl⟩
       obtain ⟨U, hU⟩ : ∃ U, putL g = U := ⟨_, rfl⟩
       rw [hU] at hlen
       have HP := Lib.hid hU
       have HU := Lib.hid hlen
       have HT2 := Lib.hid hT
       have HL := Lib.hid (show T.length = n by rw [← hT, List.length_take]; omega)
       have hrT : Rd wr (some ⟨b, o, none⟩) (bs T) := by rw [← hT]; exact hrw.take n
       have HCV := Lib.hid (show ∀ (W : World) (A' : Option Addr) (c' : Nat), Rd W A' (bs T) → (convert 27 9 (.slice A' n c')).run Tryz.prog W = .ok (.string ⟨T.toArray⟩) W from fun W A' c' h => conv_str Tryz.underlying27 Tryz.underlying5 HL.out h _ Tryz.underlying9)
       have HCW := Lib.hid (show ∀ (W : World) (A' : Option Addr) (c' : Nat), Rd W A' (bs U) → (convert 27 9 (.slice A' n c')).run Tryz.prog W = .ok (.string ⟨U.toArray⟩) W from fun W A' c' h => conv_str Tryz.underlying27 Tryz.underlying5 HU.out h _ Tryz.underlying9)
       clear hlen hT hU hg
       go_wp2_with fail
       refine (guess_any _ c l n _ hl hn1 hn4 hnl hrw).mono ?_
       rw [HE.out]
       rintro e w2 ⟨rfl, hb2⟩
       have hr2 := hrT.below hb2
       have hb2 : Below w.heap.size w w2 := hbw.trans (hb2.mono hbw.size)
       clear hrT hrw
       have n0 : (0 : Int) ≤ (n : Int) := by omega
       have n1 : (n : Int) ≤ (c : Int) := by omega
       go_wp2_with fail
       have hcv := HCV.out
       have hcw := HCW.out
       go_region_held (fun w' => Rd w' (some ⟨b, o, none⟩) (bs T) ∧ Below w.heap.size w w') (first | exact ⟨hr2, hb2.drew⟩ | assumption | exact ⟨Rd.below (And.left (by assumption)) hb3, Below.trans (And.right (by assumption)) (hb3.mono (Below.size (And.right (by assumption))))⟩) (first | (go_at_call 25; refine (rPut_at _ U n HP.out HU.out _).mono ?_; rintro e w3 ⟨A3, c3, rfl, hr3, hb3⟩))
       all_goals
        go_wp2
       ·have hUT : U = T := eq_of_beq (by assumption)
        go_ret2
        refine ⟨tk_is (n := n) (gs_hit' hn1 HE.out HP.out HU.out (HT2.out.trans hUT.symm)) rfl, And.right (by assumption)⟩
       ·have hUT : U ≠ T := ne_of_beq_bytes (by assumption)
        go_roundw
        case rel => exact ⟨n + 1, by omega, by omega, by go_num, gs_miss hn1 HE.out HP.out HU.out HT2.out hUT HT.out, And.right (by assumption)⟩
        case measure => simp [intOf]; omega
      ·have HP := Lib.hid (show putL g = putL g from rfl)
       have hne : (((putL g).length : Int) == (n : Int)) = false := beq_false_of_ne (by omega)
       clear hg
       go_wp2_with fail
       refine (guess_any _ c l n _ hl hn1 hn4 hnl hrw).mono ?_
       rw [HE.out]
       rintro e w2 ⟨rfl, hb2⟩
       have hb2 : Below w.heap.size w w2 := hbw.trans (hb2.mono hbw.size)
       have n0 : (0 : Int) ≤ (n : Int) := by omega
       have n1 : (n : Int) ≤ (c : Int) := by omega
       go_wp2_with fail
       have hb2 := hb2.drew
       refine wp_region_any (by kernel_rfl) ?_
       change wpAny _ _ _ _ _ _ _ (World.drew _)
       refine wpAny_take (i := 0) (oi := ⟨some 19, _, _, _, _, _⟩) (v := ?_) rfl (by kernel_rfl) (by kernel_rfl) (by kernel_rfl) (fun _ _ _ h => h) (Or.inl ⟨rfl, ?_⟩) ?_
       rotate_left 1
       ·intro W
        go_simp <;> with_reducible rfl
       try go_frame
       refine wpAny_take (i := 3) (oi := ⟨some 22, _, _, _, _, _⟩) (v := ?_) rfl (by kernel_rfl) (by kernel_rfl) (by kernel_rfl) (fun _ _ _ h => h) (Or.inl ⟨rfl, ?_⟩) ?_
       rotate_left 1
       ·intro W
        go_simp <;> with_reducible rfl
       try go_frame
       refine wpAny_ready (rs := [1]) (by kernel_rfl) (by simp) ?_
       refine AllReady.cons (o := ⟨some 20, _, _, _, _, _⟩) rfl (fun K hK => ?_) AllReady.nil
       go_simp
       go_at_call 25
       refine (rPut_any g _).mono ?_
       rintro e w3 ⟨A3, c3, rfl, hr3, hb3⟩
       have hb2 := hb2.trans (hb3.mono hb2.size)
       clear hb3 hr3
       refine hK _ _ ?_
       clear hK K
       refine wpAny_take (i := 2) (oi := ⟨some 21, _, _, _, _, _⟩) (v := ?_) rfl (by kernel_rfl) (by kernel_rfl) (by kernel_rfl) (fun _ _ _ h => h) (Or.inl ⟨rfl, ?_⟩) ?_
       rotate_left 1
       ·intro W
        go_simp <;> with_reducible rfl
       try go_frame
       refine wpAny_take (i := 4) (oi := ⟨some 23, _, _, _, _, _⟩) (v := ?_) rfl (by kernel_rfl) (by kernel_rfl) (by kernel_rfl) (fun _ _ _ h => h) (Or.inl ⟨rfl, ?_⟩) ?_
       rotate_left 1
       ·intro W
        go_simp <;> with_reducible rfl
       try go_frame
       refine wpAny_take (i := 5) (oi := ⟨some 24, _, _, _, _, _⟩) (v := ?_) rfl (by kernel_rfl) (by kernel_rfl) (by kernel_rfl) (fun _ _ _ h => h) (Or.inl ⟨rfl, ?_⟩) ?_
       rotate_left 1
       ·intro W
        go_simp <;> with_reducible rfl
       try go_frame
       refine wpAny_take (i := 6) (oi := ⟨some 25, _, _, _, _, _⟩) (v := undef) rfl (by kernel_rfl) (by kernel_rfl) (by kernel_rfl) (fun _ _ _ h => h) (Or.inr ⟨rfl, rfl⟩) ?_
       try go_frame
       refine wpAny_take (i := 7) (oi := ⟨some 26, _, _, _, _, _⟩) (v := undef) rfl (by kernel_rfl) (by kernel_rfl) (by kernel_rfl) (fun _ _ _ h => h) (Or.inr ⟨rfl, rfl⟩) ?_
       try go_frame
       refine wpAny_take (i := 8) (oi := ⟨some 27, _, _, _, _, _⟩) (v := undef) rfl (by kernel_rfl) (by kernel_rfl) (by kernel_rfl) (fun _ _ _ h => h) (Or.inr ⟨rfl, rfl⟩) ?_
       try go_frame
       refine wpAny_take (i := 9) (oi := ⟨some 28, _, _, _, _, _⟩) (v := undef) rfl (by kernel_rfl) (by kernel_rfl) (by kernel_rfl) (fun _ _ _ h => h) (Or.inr ⟨rfl, rfl⟩) ?_
       try go_frame
       refine wpAny_take (i := 10) (oi := ⟨some 29, _, _, _, _, _⟩) (v := undef) rfl (by kernel_rfl) (by kernel_rfl) (by kernel_rfl) (fun _ _ _ h => h) (Or.inr ⟨rfl, rfl⟩) ?_
       try go_frame
       refine wpAny_take (i := 11) (oi := ⟨some 30, _, _, _, _, _⟩) (v := undef) rfl (by kernel_rfl) (by kernel_rfl) (by kernel_rfl) (fun _ _ _ h => h) (Or.inr ⟨rfl, rfl⟩) ?_
       try go_frame
       refine wpAny_take (i := 12) (oi := ⟨some 31, _, _, _, _, _⟩) (v := undef) rfl (by kernel_rfl) (by kernel_rfl) (by kernel_rfl) (fun _ _ _ h => h) (Or.inr ⟨rfl, rfl⟩) ?_
       try go_frame
       refine wpAny_take (i := 13) (oi := ⟨some 32, _, _, _, _, _⟩) (v := undef) rfl (by kernel_rfl) (by kernel_rfl) (by kernel_rfl) (fun _ _ _ h => h) (Or.inr ⟨rfl, rfl⟩) ?_
       try go_frame
       refine wpAny_take (i := 14) (oi := ⟨some 33, _, _, _, _, _⟩) (v := ?_) rfl (by kernel_rfl) (by kernel_rfl) (by kernel_rfl) (fun _ _ _ h => h) (Or.inl ⟨rfl, ?_⟩) ?_
       rotate_left 1
       ·intro W
        go_simp <;> with_reducible rfl
       try go_frame
       refine wpAny_done (by kernel_rfl) ?_ _
       all_goals
        go_wp2
        go_roundw
        case rel => exact ⟨n + 1, by omega, by omega, by go_num, gs_long hn1 HE.out hlen HT.out, hb2⟩
        case measure => simp [intOf]; omega
     ·have E := Lib.hid (tk_zero (gs_end1 hn1 (Nat.lt_of_not_le hnl) HT.out))
      go_wp2
      go_ret2
      exact ⟨E.out, hbw⟩
    ·have E := Lib.hid (tk_zero (gs_end2 (n := n) (by omega) HT.out))
     go_wp2
     go_ret2
     exact ⟨E.out, hbw⟩
end Go.Proofs.YtdfojkbgdoiglaaGreatDoor
namespace Go.Proofs.YtdfojkbgdoiglaaGreatDoor
open Go.RowKit
set_option maxHeartbeats 1000000 in
theorem isPt_any (r : Int) (w : World) : Calls Tryz.prog 72 #[.int .i64 r] w fun e w' => e = .returned (.bool (isPt r)) ∧ w = w' := by
 by_cases h0 : 0 ≤ r
 ·by_cases h1 : r ≤ 1114111
  ·by_cases h2 : r < 55296
   ·go_enter Tryz.func72, Tryz.ntmps72
    go_wp2
    go_ret
    exact ⟨ret_b (((isPt_iff r).2 (by omega)).symm), rfl⟩
   ·by_cases h3 : 57343 < r
    ·go_enter Tryz.func72, Tryz.ntmps72
     go_wp2
     go_ret
     exact ⟨ret_b (((isPt_iff r).2 (by omega)).symm), rfl⟩
    ·go_enter Tryz.func72, Tryz.ntmps72
     go_wp2
     go_ret
     exact ⟨ret_b (((isPt_no r).2 (by omega)).symm), rfl⟩
  ·go_enter Tryz.func72, Tryz.ntmps72
   go_wp2
   go_ret
   exact ⟨ret_b (((isPt_no r).2 (by omega)).symm), rfl⟩
 ·go_enter Tryz.func72, Tryz.ntmps72
  go_wp2
  go_ret
  exact ⟨ret_b (((isPt_no r).2 (by omega)).symm), rfl⟩
def sizC : Array Value := #[.int .i64 1, .int .i64 0, .int .i64 0, .int .i64 2, .int .i64 128, .int .i64 192, .int .i64 3, .int .i64 2048, .int .i64 224, .int .i64 4, .int .i64 65536, .int .i64 240]
def Siz (w : World) : Prop := ∃ t fz, w.heap[1]? = some (.cells sizC t fz)
theorem Siz.below {w w' : World} {B : Nat} (h : Siz w) (hb : Below B w w') (hB : w.heap.size ≤ B) : Siz w' := by
 obtain ⟨t, fz, hh⟩ := h
 have := (Array.getElem?_eq_some_iff.1 hh).1
 exact ⟨t, fz, (hb.block _ (by omega)).trans hh⟩
theorem Siz.below' {w w' : World} (h : Siz w) (hb : Below w.heap.size w w') : Siz w' := h.below hb (Nat.le_refl _)
def szA : Nat → Array Value
 | 0 => #[.int .i64 1, .int .i64 0, .int .i64 0]
 | 1 => #[.int .i64 2, .int .i64 128, .int .i64 192]
 | 2 => #[.int .i64 3, .int .i64 2048, .int .i64 224]
 | _ => #[.int .i64 4, .int .i64 65536, .int .i64 240]
def ixP (r : Int) (k : Nat) : Nat := if 3 < k ∧ 65536 ≤ r then 3 else if 2 < k ∧ 2048 ≤ r then 2 else if 1 < k ∧ 128 ≤ r then 1 else 0
def ixF (r : Int) (k : Nat) : Nat := if 3 < k ∧ 240 ≤ r then 3 else if 2 < k ∧ 224 ≤ r then 2 else if 1 < k ∧ 192 ≤ r then 1 else 0
end Go.Proofs.YtdfojkbgdoiglaaGreatDoor
namespace Go.Proofs.YtdfojkbgdoiglaaGreatDoor
open Go.RowKit
set_option maxRecDepth 100000 in
set_option maxHeartbeats 4000000 in
theorem entry_any (F L K : Int) (s : ByteArray) (ns : List Int) (m : Nat) (hm : ns.length = m) (u : ByteArray) (B : Bool) (A : Option Addr) (cp a : Nat) (ha : a ≤ 100000) (_hF : 0 ≤ F) (_hF2 : F ≤ 60000) (_hs : s.size ≤ 100) (hm2 : m ≤ 100) (_hu : u.size ≤ 100) (w : World) (hr : Rd w A (is_ ns)) :
 Calls Tryz.prog 35 #[.agg #[.int .i64 F, .int .i64 L, .int .i64 K, .string s, .slice A m cp, .string u, .bool B], .int .i64 (F + (a : Int))] w fun e w' => e = .returned (.agg #[.int .i64 K, .int .u8 (sbK s a), .int .i64 (ns.getD a 0), .int .i64 (sbK u a), .bool B]) ∧ Below w.heap.size w w' := by
 have hB : ∀ x y z, Below w.heap.size w (((w.alloc x).alloc y).alloc z) := fun x y z => (below_two x y).alloc (by simp; omega) _
 go_enter Tryz.func35, Tryz.ntmps35
 have e0 : F + (a : Int) - F = (a : Int) := by omega
 have k0 : (0 : Int) ≤ (a : Int) := by omega
 obtain HM : Hid (ns.length = m) := Lib.hid hm
 clear hm
 by_cases h1 : a < m
 ·have q1 : (a : Int) < (m : Int) := by omega
  obtain ⟨b, o, rfl, hb, hc⟩ := hr.int_at (by rw [HM.out]; omega)
  have hx := hc a (by rw [HM.out]; exact h1)
  have N1 := Lib.hid (getD_yes (l := ns) (a := a) (by rw [HM.out]; exact h1))
  obtain ⟨x, hx2⟩ : ∃ x, ns[a]'(by rw [HM.out]; exact h1) = x := ⟨_, rfl⟩
  rw [hx2] at hx N1
  have hxW : ∀ o1 o2 o3, (((w.alloc o1).alloc o2).alloc o3).cell? ⟨b, o + a, none⟩ = some (.int .i64 x) := fun o1 o2 o3 => ((hB o1 o2 o3).cell (p := ⟨b, o + a, none⟩) hb).trans hx
  clear hc hx2
  by_cases h2 : a < s.size
  ·have q2 : (a : Int) < (s.size : Int) := by omega
   have N2 := Lib.hid (sbK_yes h2)
   by_cases h3 : a < u.size
   ·have q3 : (a : Int) < (u.size : Int) := by omega
    have N3 := Lib.hid (sbK_yes h3)
    have hd := (u[a]'h3).toNat_lt
    have wd : wrap64 ((u[a]'h3).toNat : Int) = ((u[a]'h3).toNat : Int) := by unfold wrap64; omega
    go_wp2
    refine bodyPost_ret (v := .agg #[.int .i64 K, .int .u8 (sbK s a), .int .i64 (ns.getD a 0), .int .i64 (sbK u a), .bool B]) (by rw [N2.out, N1.out, N3.out]; simp [results, Tryz.results35, go_sem]) rfl ⟨rfl, hB _ _ _⟩
   ·have q3 : (u.size : Int) ≤ (a : Int) := by omega
    have N3 := Lib.hid (sbK_no h3)
    go_wp2
    refine bodyPost_ret (v := .agg #[.int .i64 K, .int .u8 (sbK s a), .int .i64 (ns.getD a 0), .int .i64 (sbK u a), .bool B]) (by rw [N2.out, N1.out, N3.out]; simp [results, Tryz.results35, go_sem]) rfl ⟨rfl, hB _ _ _⟩
  ·have q2 : (s.size : Int) ≤ (a : Int) := by omega
   have N2 := Lib.hid (sbK_no h2)
   by_cases h3 : a < u.size
   ·have q3 : (a : Int) < (u.size : Int) := by omega
    have N3 := Lib.hid (sbK_yes h3)
    have hd := (u[a]'h3).toNat_lt
    have wd : wrap64 ((u[a]'h3).toNat : Int) = ((u[a]'h3).toNat : Int) := by unfold wrap64; omega
    go_wp2
    refine bodyPost_ret (v := .agg #[.int .i64 K, .int .u8 (sbK s a), .int .i64 (ns.getD a 0), .int .i64 (sbK u a), .bool B]) (by rw [N2.out, N1.out, N3.out]; simp [results, Tryz.results35, go_sem]) rfl ⟨rfl, hB _ _ _⟩
   ·have q3 : (u.size : Int) ≤ (a : Int) := by omega
    have N3 := Lib.hid (sbK_no h3)
    go_wp2
    refine bodyPost_ret (v := .agg #[.int .i64 K, .int .u8 (sbK s a), .int .i64 (ns.getD a 0), .int .i64 (sbK u a), .bool B]) (by rw [N2.out, N1.out, N3.out]; simp [results, Tryz.results35, go_sem]) rfl ⟨rfl, hB _ _ _⟩
 ·have q1 : (m : Int) ≤ (a : Int) := by omega
  have N1 := Lib.hid (getD_no (l := ns) (a := a) (by rw [HM.out]; exact h1))
  by_cases h2 : a < s.size
  ·have q2 : (a : Int) < (s.size : Int) := by omega
   have N2 := Lib.hid (sbK_yes h2)
   by_cases h3 : a < u.size
   ·have q3 : (a : Int) < (u.size : Int) := by omega
    have N3 := Lib.hid (sbK_yes h3)
    have hd := (u[a]'h3).toNat_lt
    have wd : wrap64 ((u[a]'h3).toNat : Int) = ((u[a]'h3).toNat : Int) := by unfold wrap64; omega
    go_wp2
    refine bodyPost_ret (v := .agg #[.int .i64 K, .int .u8 (sbK s a), .int .i64 (ns.getD a 0), .int .i64 (sbK u a), .bool B]) (by rw [N2.out, N1.out, N3.out]; simp [results, Tryz.results35, go_sem]) rfl ⟨rfl, hB _ _ _⟩
   ·have q3 : (u.size : Int) ≤ (a : Int) := by omega
    have N3 := Lib.hid (sbK_no h3)
    go_wp2
    refine bodyPost_ret (v := .agg #[.int .i64 K, .int .u8 (sbK s a), .int .i64 (ns.getD a 0), .int .i64 (sbK u a), .bool B]) (by rw [N2.out, N1.out, N3.out]; simp [results, Tryz.results35, go_sem]) rfl ⟨rfl, hB _ _ _⟩
  ·have q2 : (s.size : Int) ≤ (a : Int) := by omega
   have N2 := Lib.hid (sbK_no h2)
   by_cases h3 : a < u.size
   ·have q3 : (a : Int) < (u.size : Int) := by omega
    have N3 := Lib.hid (sbK_yes h3)
    have hd := (u[a]'h3).toNat_lt
    have wd : wrap64 ((u[a]'h3).toNat : Int) = ((u[a]'h3).toNat : Int) := by unfold wrap64; omega
    go_wp2
    refine bodyPost_ret (v := .agg #[.int .i64 K, .int .u8 (sbK s a), .int .i64 (ns.getD a 0), .int .i64 (sbK u a), .bool B]) (by rw [N2.out, N1.out, N3.out]; simp [results, Tryz.results35, go_sem]) rfl ⟨rfl, hB _ _ _⟩
   ·have q3 : (u.size : Int) ≤ (a : Int) := by omega
    have N3 := Lib.hid (sbK_no h3)
    go_wp2
    refine bodyPost_ret (v := .agg #[.int .i64 K, .int .u8 (sbK s a), .int .i64 (ns.getD a 0), .int .i64 (sbK u a), .bool B]) (by rw [N2.out, N1.out, N3.out]; simp [results, Tryz.results35, go_sem]) rfl ⟨rfl, hB _ _ _⟩
end Go.Proofs.YtdfojkbgdoiglaaGreatDoor
namespace Go.Proofs.YtdfojkbgdoiglaaGreatDoor
open Go.RowKit
set_option maxRecDepth 100000 in
theorem pparam_any (n : Int) (w : World) : Calls Tryz.prog 77 #[.int .i64 n] w fun e w' => e = .returned (.int .i64 (paramN n)) ∧ Below w.heap.size w w' := by
 cases hq : areN n with
 | true =>
   have hr : 0 ≤ n ∧ n ≤ 255 := by simpa [areN] using hq
   have hp : paramN n = n + 1 := by unfold paramN; rw [if_neg (by omega)]
   have hw : IntKind.i64.wrap (n + 1) = n + 1 := by rw [IntKind.wrap_i64]; omega
   have hcall := fun W => are_at hq W
   rw [hp]
   clear hp hr hq
   go_enter Tryz.func77, Tryz.ntmps77
   go_wp2_with fail
   refine (hcall _).mono ?_
   clear hcall
   rintro e w1 ⟨rfl, hb1⟩
   go_wp2_with fail
   go_ret
   exact ⟨rfl, hb1⟩
 | false =>
   have hr : ¬ (0 ≤ n ∧ n ≤ 255) := by simpa [areN] using hq
   have hp : paramN n = 1 := by unfold paramN; rw [if_pos (by omega)]
   have hcall := fun W => are_at hq W
   rw [hp]
   clear hp hr hq
   go_enter Tryz.func77, Tryz.ntmps77
   go_wp2_with fail
   refine (hcall _).mono ?_
   clear hcall
   rintro e w1 ⟨rfl, hb1⟩
   go_wp2_with fail
   go_ret
   exact ⟨rfl, hb1⟩
end Go.Proofs.YtdfojkbgdoiglaaGreatDoor
