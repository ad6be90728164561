/-
  Layer 2, walked: the document's Take. Layer 2, walked: the document's Take, its loop. Layer 3, walked: the program's join, and its parameters as a text. A drawn region that lays one new block and stores known cells into it, last; and whose calls answer what the run alone tells.
-/
import Derived.Test.YtceipblcdcgljaaGreatDoorG02
import Derived.Test.YtceipblcdcgljaaGreatDoorG04
import Derived.Test.YtceipblcdcgljaaGreatDoorG07
import Derived.Test.YtceipblcdcgljaaGreatDoorG10
import Derived.Test.YtceipblcdcgljaaGreatDoorG12
import Derived.Test.YtceipblcdcgljaaGreatDoorG13
import Derived.Deep.RegionHeld3
import Derived.Maps.RangeWalk
import Derived.Laws.OwnMore
namespace Go.Proofs.YtceipblcdcgljaaGreatDoor
open Go.RowKit
def gs (l : List UInt8) (n : Nat) : Int :=
 match n, l with
 | 1, a :: _ => a.toNat
 | 2, a :: b :: _ => ((a.toNat : Int) - 192) % 256 * 64 + ((b.toNat : Int) - 128) % 256
 | 3, a :: b :: c :: _ => ((a.toNat : Int) - 224) % 256 * 4096 + ((b.toNat : Int) - 128) % 256 * 64 + ((c.toNat : Int) - 128) % 256
 | 4, a :: b :: c :: d :: _ => ((a.toNat : Int) - 240) % 256 * 262144 + ((b.toNat : Int) - 128) % 256 * 4096 + ((c.toNat : Int) - 128) % 256 * 64 + ((d.toNat : Int) - 128) % 256
 | _, _ => 0
theorem gs_bd (l : List UInt8) (n : Nat) : 0 ≤ gs l n ∧ gs l n ≤ 68000000 := by
 unfold gs
 split
 ·rename_i a _
  have := a.toNat_lt
  omega
 all_goals omega
theorem gs_put {r : Int} (h : isPt r = true) (m : List UInt8) : gs (putL r ++ m) (cnt r) = r := by
 obtain ⟨h0, h1, _⟩ := (isPt_iff r).1 h
 have hc : cnt r = if r < 128 then 1 else if r < 2048 then 2 else if r < 65536 then 3 else 4 := rfl
 by_cases a1 : r < 128
 ·rw [putL_1 h a1, hc, if_pos a1]
  exact byt_nat r (by omega) (by omega)
 ·by_cases a2 : r < 2048
  ·rw [putL_2 h (by omega) a2, hc, if_neg a1, if_pos a2]
   have b0 := byt_nat (192 + r / 64) (by omega) (by omega)
   have b1 := byt_nat (128 + r % 64) (by omega) (by omega)
   simp only [List.cons_append, List.nil_append, gs]
   rw [b0, b1]; omega
  ·by_cases a3 : r < 65536
   ·rw [putL_3 h (by omega) a3, hc, if_neg a1, if_neg a2, if_pos a3]
    have b0 := byt_nat (224 + r / 4096) (by omega) (by omega)
    have b1 := byt_nat (128 + r / 64 % 64) (by omega) (by omega)
    have b2 := byt_nat (128 + r % 64) (by omega) (by omega)
    simp only [List.cons_append, List.nil_append, gs]
    rw [b0, b1, b2]; omega
   ·rw [putL_4 h (by omega), hc, if_neg a1, if_neg a2, if_neg a3]
    have b0 := byt_nat (240 + r / 262144) (by omega) (by omega)
    have b1 := byt_nat (128 + r / 4096 % 64) (by omega) (by omega)
    have b2 := byt_nat (128 + r / 64 % 64) (by omega) (by omega)
    have b3 := byt_nat (128 + r % 64) (by omega) (by omega)
    simp only [List.cons_append, List.nil_append, gs]
    rw [b0, b1, b2, b3]; omega
theorem gs_hit {l : List UInt8} {n : Nat} (hn : 1 ≤ n) (hl : (putL (gs l n)).length = n) (h : putL (gs l n) = l.take n) : takeL l = (gs l n, n) := by
 have hp : isPt (gs l n) = true := by
  cases hp : isPt (gs l n) with
  | true => rfl
  | false => rw [putL_no hp] at hl; simp at hl; omega
 have e : l = putL (gs l n) ++ l.drop n := by rw [h, List.take_append_drop]
 have := take_put hp (l.drop n)
 rw [← e] at this
 rw [this, ← putL_length hp, hl]
theorem gs_told {l : List UInt8} {n : Nat} (hn : 1 ≤ n) (h : (takeL l).2 = n) : gs l n = (takeL l).1 ∧ (putL (gs l n)).length = n ∧ putL (gs l n) = l.take n := by
 rcases take_is l with hz | ⟨r, m, hp, e, ht⟩
 ·rw [hz] at h; simp at h; omega
 ·rw [ht] at h ⊢
  have h : cnt r = n := h
  subst h
  have hg : gs l (cnt r) = r := by rw [e]; exact gs_put hp m
  refine ⟨hg, by rw [hg]; exact putL_length hp, ?_⟩
  rw [hg, e, ← putL_length hp, List.take_left]
set_option maxRecDepth 100000 in
set_option maxHeartbeats 4000000 in
theorem guess_any (A : Option Addr) (c : Nat) (l : List UInt8) (n : Nat) (w : World) (hl : l.length ≤ 4294967296) (hn1 : 1 ≤ n) (hn4 : n ≤ 4) (hnl : n ≤ l.length) (hr : Rd w A (bs l)) :
 Calls Tryz.prog 125 #[.slice A l.length c, .int .i64 n] w fun e w' => e = .returned (.int .i64 (gs l n)) ∧ Below w.heap.size w w' := by
 obtain rfl | rfl | rfl | rfl : n = 1 ∨ n = 2 ∨ n = 3 ∨ n = 4 := by omega
 ·match l, hnl, hr, hl with
  | a :: l, _, hr, hl =>
    obtain ⟨b, o, rfl, hb, hc⟩ := hr.at_ (by simp)
    have c0 := hc 0 (by simp)
    simp only [Nat.add_zero, List.getElem_cons_zero] at c0
    have ha := a.toNat_lt
    clear hc
    go_enter Tryz.func125, Tryz.ntmps125
    go_wp2
    go_ret
    exact ⟨rfl, Below.refl _ _⟩
 ·match l, hnl, hr, hl with
  | a :: a1 :: l, _, hr, hl =>
    obtain ⟨b, o, rfl, hb, hc⟩ := hr.at_ (by simp)
    have c0 := hc 0 (by simp)
    have c1 := hc 1 (by simp)
    simp only [Nat.add_zero, List.getElem_cons_zero, List.getElem_cons_succ] at c0 c1
    have ha := a.toNat_lt
    have e0 : IntKind.u8.wrap ((a.toNat : Int) - 192) = ((a.toNat : Int) - 192) % 256 := by rw [IntKind.wrap_u8]
    have ha1 := a1.toNat_lt
    have e1 : IntKind.u8.wrap ((a1.toNat : Int) - 128) = ((a1.toNat : Int) - 128) % 256 := by rw [IntKind.wrap_u8]
    clear hc
    go_enter Tryz.func125, Tryz.ntmps125
    go_wp2
    go_quiet (fail)
    go_wp2
    go_ret
    exact ⟨rfl, below_drewN (Below.refl _ _) _⟩
 ·match l, hnl, hr, hl with
  | a :: a1 :: a2 :: l, _, hr, hl =>
    obtain ⟨b, o, rfl, hb, hc⟩ := hr.at_ (by simp)
    have c0 := hc 0 (by simp)
    have c1 := hc 1 (by simp)
    have c2 := hc 2 (by simp)
    simp only [Nat.add_zero, List.getElem_cons_zero, List.getElem_cons_succ] at c0 c1 c2
    have ha := a.toNat_lt
    have e0 : IntKind.u8.wrap ((a.toNat : Int) - 224) = ((a.toNat : Int) - 224) % 256 := by rw [IntKind.wrap_u8]
    have ha1 := a1.toNat_lt
    have e1 : IntKind.u8.wrap ((a1.toNat : Int) - 128) = ((a1.toNat : Int) - 128) % 256 := by rw [IntKind.wrap_u8]
    have ha2 := a2.toNat_lt
    have e2 : IntKind.u8.wrap ((a2.toNat : Int) - 128) = ((a2.toNat : Int) - 128) % 256 := by rw [IntKind.wrap_u8]
    clear hc
    go_enter Tryz.func125, Tryz.ntmps125
    go_wp2
    go_quiet (fail)
    go_wp2
    go_ret
    exact ⟨rfl, below_drewN (Below.refl _ _) _⟩
 ·match l, hnl, hr, hl with
  | a :: a1 :: a2 :: a3 :: l, _, hr, hl =>
    obtain ⟨b, o, rfl, hb, hc⟩ := hr.at_ (by simp)
    have c0 := hc 0 (by simp)
    have c1 := hc 1 (by simp)
    have c2 := hc 2 (by simp)
    have c3 := hc 3 (by simp)
    simp only [Nat.add_zero, List.getElem_cons_zero, List.getElem_cons_succ] at c0 c1 c2 c3
    have ha := a.toNat_lt
    have e0 : IntKind.u8.wrap ((a.toNat : Int) - 240) = ((a.toNat : Int) - 240) % 256 := by rw [IntKind.wrap_u8]
    have ha1 := a1.toNat_lt
    have e1 : IntKind.u8.wrap ((a1.toNat : Int) - 128) = ((a1.toNat : Int) - 128) % 256 := by rw [IntKind.wrap_u8]
    have ha2 := a2.toNat_lt
    have e2 : IntKind.u8.wrap ((a2.toNat : Int) - 128) = ((a2.toNat : Int) - 128) % 256 := by rw [IntKind.wrap_u8]
    have ha3 := a3.toNat_lt
    have e3 : IntKind.u8.wrap ((a3.toNat : Int) - 128) = ((a3.toNat : Int) - 128) % 256 := by rw [IntKind.wrap_u8]
    clear hc
    go_enter Tryz.func125, Tryz.ntmps125
    go_wp2
    go_quiet (fail)
    go_wp2
    go_ret
    exact ⟨rfl, below_drewN (Below.refl _ _) _⟩
theorem Rd.take {w : World} {A : Option Addr} {l : List UInt8} (h : Rd w A (bs l)) (n : Nat) : Rd w A (bs (l.take n)) := fun hp => by
 rw [bs_length, List.length_take] at hp
 obtain ⟨b, o, rfl, hb, hc⟩ := h (by rw [bs_length]; omega)
 refine ⟨b, o, rfl, hb, fun k u hu => hc k u ?_⟩
 simp only [bs, List.map_take] at hu ⊢
 rw [List.getElem?_take] at hu
 split at hu
 ·exact hu
 ·cases hu
theorem rPut_at (r : Int) (m : List UInt8) (n : Nat) (h : putL r = m) (hn : m.length = n) (w : World) : Calls Tryz.prog 40 #[.int .i64 r] w fun e w' => ∃ A c, e = .returned (.slice A n c) ∧ Rd w' A (bs m) ∧ Below w.heap.size w w' := by
 subst h hn
 exact rPut_any r w
theorem gs_hit' {l : List UInt8} {n : Nat} {g : Int} {U : List UInt8} (hn : 1 ≤ n) (hg : gs l n = g) (hU : putL g = U) (hl : U.length = n) (h : l.take n = U) : takeL l = (g, n) := by
 subst hg hU
 exact gs_hit hn hl h.symm
theorem gs_miss {l : List UInt8} {n : Nat} {g : Int} {U T : List UInt8} (hn : 1 ≤ n) (hg : gs l n = g) (hU : putL g = U) (_hl : U.length = n) (hT : l.take n = T) (h : U ≠ T) (hh : (takeL l).2 = 0 ∨ n ≤ (takeL l).2) : (takeL l).2 = 0 ∨ n + 1 ≤ (takeL l).2 := by
 subst hg hU hT
 rcases hh with hz | hz
 ·exact .inl hz
 ·by_cases e : (takeL l).2 = n
  ·exact absurd (gs_told hn e).2.2 h
  ·right; omega
theorem gs_long {l : List UInt8} {n : Nat} {g : Int} (hn : 1 ≤ n) (hg : gs l n = g) (hl : ¬ (putL g).length = n) (hh : (takeL l).2 = 0 ∨ n ≤ (takeL l).2) : (takeL l).2 = 0 ∨ n + 1 ≤ (takeL l).2 := by
 subst hg
 rcases hh with hz | hz
 ·exact .inl hz
 ·by_cases e : (takeL l).2 = n
  ·exact absurd (gs_told hn e).2.1 hl
  ·right; omega
theorem gs_end1 {l : List UInt8} {n : Nat} (_hn : 1 ≤ n) (h : l.length < n) (hh : (takeL l).2 = 0 ∨ n ≤ (takeL l).2) : takeL l = (0, 0) := by
 have := (take_snd_le l).1
 exact take_zero (by omega)
theorem gs_end2 {l : List UInt8} {n : Nat} (h : 4 < n) (hh : (takeL l).2 = 0 ∨ n ≤ (takeL l).2) : takeL l = (0, 0) := by
 have := (take_snd_le l).2
 exact take_zero (by omega)
theorem ne_of_beq_bytes {a b : List UInt8} (h : (a == b) = false) : a ≠ b := by
 intro e
 rw [e, beq_self_eq_true] at h
 cases h
set_option maxRecDepth 100000 in
set_option maxHeartbeats 800000 in
theorem rtake_any (A : Option Addr) (c : Nat) (l : List UInt8) (w : World) (hl : l.length ≤ 4294967296) (hlc : l.length ≤ c) (hr : Rd w A (bs l)) :
 Calls Tryz.prog 89 #[.slice A l.length c] w fun e w' => e = Tk l ∧ Below w.heap.size w w' := by
 cases l with
 | nil =>
   go_enter Tryz.func89, Tryz.ntmps89
   go_wp2
   refine wp_loop_rounds 1 ?_
   rw [rounds_succ]
   go_wp2
   go_ret2
   exact ⟨tk_zero rfl, Below.refl _ _⟩
 | cons a0 l0 =>
   obtain ⟨l, hll⟩ : ∃ l, l = a0 :: l0 := ⟨_, rfl⟩
   rw [← hll] at hl hlc hr ⊢
   have hpos : 0 < l.length := by rw [hll]; simp
   clear hll a0 l0
   obtain ⟨b, o, rfl, hb, hcc⟩ := hr.at_ hpos
   clear hcc
   go_enter Tryz.func89, Tryz.ntmps89
   go_wp2
   go_loopw [4] (fun i wr => ∃ n : Nat, 1 ≤ n ∧ n ≤ 5 ∧ i = .int .i64 n ∧ ((takeL l).2 = 0 ∨ n ≤ (takeL l).2) ∧ Below w.heap.size w wr) (fun i _ => 5 - (intOf i).toNat)
   case atStart => exact ⟨1, Nat.le_refl _, by omega, rfl, by omega, Below.refl _ _⟩
   case round =>
    obtain ⟨n, hn1, hn5, rfl, hT, hbw⟩ := hrel
    have HT := Lib.hid hT
    clear hT
    by_cases hn4 : n ≤ 4
    ·by_cases hnl : n ≤ l.length
     ·have hrw := hr.below hbw
      obtain ⟨gd0, gd1⟩ := gs_bd l n
      obtain ⟨g, hg⟩ : ∃ g, gs l n = g := ⟨_, rfl⟩
      have HE : Hid (gs l n = g) := Lib.hid hg
      rw [hg] at gd0 gd1
      by_cases hlen : (putL g).length = n
      ·obtain ⟨T, hT⟩ : ∃ T, l.take n = T := ⟨_, rfl⟩
       obtain ⟨U, hU⟩ : ∃ U, putL g = U := ⟨_, rfl⟩
       rw [hU] at hlen
       have HP := Lib.hid hU
       have HU := Lib.hid hlen
       have HT2 := Lib.hid hT
       have HL := Lib.hid (show T.length = n by rw [← hT, List.length_take]; omega)
       have hrT : Rd wr (some ⟨b, o, none⟩) (bs T) := by rw [← hT]; exact hrw.take n
       have HCV := Lib.hid (show ∀ (W : World) (A' : Option Addr) (c' : Nat), Rd W A' (bs T) → (convert 27 9 (.slice A' n c')).run Tryz.prog W = .ok (.string ⟨T.toArray⟩) W from fun W A' c' h => conv_str Tryz.underlying27 Tryz.underlying5 HL.out h _ Tryz.underlying9)
       have HCW := Lib.hid (show ∀ (W : World) (A' : Option Addr) (c' : Nat), Rd W A' (bs U) → (convert 27 9 (.slice A' n c')).run Tryz.prog W = .ok (.string ⟨U.toArray⟩) W from fun W A' c' h => conv_str Tryz.underlying27 Tryz.underlying5 HU.out h _ Tryz.underlying9)
       clear hlen hT hU hg
       go_wp2_with fail
       refine (guess_any _ c l n _ hl hn1 hn4 hnl hrw).mono ?_
       rw [HE.out]
       rintro e w2 ⟨rfl, hb2⟩
       have hr2 := hrT.below hb2
       have hb2 : Below w.heap.size w w2 := hbw.trans (hb2.mono hbw.size)
       clear hrT hrw
       have n0 : (0 : Int) ≤ (n : Int) := by omega
       have n1 : (n : Int) ≤ (c : Int) := by omega
       go_wp2_with fail
       have hcv := HCV.out
       have hcw := HCW.out
       go_region_held (fun w' => Rd w' (some ⟨b, o, none⟩) (bs T) ∧ Below w.heap.size w w') (first | exact ⟨hr2, hb2.drew⟩ | assumption | exact ⟨Rd.below (And.left (by assumption)) hb3, Below.trans (And.right (by assumption)) (hb3.mono (Below.size (And.right (by assumption))))⟩) (first | (go_at_call 40; refine (rPut_at _ U n HP.out HU.out _).mono ?_; rintro e w3 ⟨A3, c3, rfl, hr3, hb3⟩))
       all_goals
        go_wp2
       ·have hUT : U = T := eq_of_beq (by assumption)
        go_ret2
        refine ⟨tk_is (n := n) (gs_hit' hn1 HE.out HP.out HU.out (HT2.out.trans hUT.symm)) rfl, And.right (by assumption)⟩
       ·have hUT : U ≠ T := ne_of_beq_bytes (by assumption)
        go_roundw
        case rel => exact ⟨n + 1, by omega, by omega, by go_num, gs_miss hn1 HE.out HP.out HU.out HT2.out hUT HT.out, And.right (by assumption)⟩
        case measure => simp [intOf]; omega
      ·have HP := Lib.hid (show putL g = putL g from rfl)
       have hne : (((putL g).length : Int) == (n : Int)) = false := beq_false_of_ne (by omega)
       clear hg
       go_wp2_with fail
       refine (guess_any _ c l n _ hl hn1 hn4 hnl hrw).mono ?_
       rw [HE.out]
       rintro e w2 ⟨rfl, hb2⟩
       have hb2 : Below w.heap.size w w2 := hbw.trans (hb2.mono hbw.size)
       have n0 : (0 : Int) ≤ (n : Int) := by omega
       have n1 : (n : Int) ≤ (c : Int) := by omega
       go_wp2_with fail
       have hb2 := hb2.drew
       refine wp_region_any (by kernel_rfl) ?_
       change wpAny _ _ _ _ _ _ _ (World.drew _)
       refine wpAny_take (i := 0) (oi := ⟨some 19, _, _, _, _, _⟩) (v := ?_) rfl (by kernel_rfl) (by kernel_rfl) (by kernel_rfl) (fun _ _ _ h => h) (Or.inl ⟨rfl, ?_⟩) ?_
       rotate_left 1
       ·intro W
        go_simp <;> with_reducible rfl
       try go_frame
       refine wpAny_take (i := 3) (oi := ⟨some 22, _, _, _, _, _⟩) (v := ?_) rfl (by kernel_rfl) (by kernel_rfl) (by kernel_rfl) (fun _ _ _ h => h) (Or.inl ⟨rfl, ?_⟩) ?_
       rotate_left 1
       ·intro W
        go_simp <;> with_reducible rfl
       try go_frame
       refine wpAny_ready (rs := [1]) (by kernel_rfl) (by simp) ?_
       refine AllReady.cons (o := ⟨some 20, _, _, _, _, _⟩) rfl (fun K hK => ?_) AllReady.nil
       go_simp
       go_at_call 40
       refine (rPut_any g _).mono ?_
       rintro e w3 ⟨A3, c3, rfl, hr3, hb3⟩
       have hb2 := hb2.trans (hb3.mono hb2.size)
       clear hb3 hr3
       refine hK _ _ ?_
       clear hK K
       refine wpAny_take (i := 2) (oi := ⟨some 21, _, _, _, _, _⟩) (v := ?_) rfl (by kernel_rfl) (by kernel_rfl) (by kernel_rfl) (fun _ _ _ h => h) (Or.inl ⟨rfl, ?_⟩) ?_
       rotate_left 1
       ·intro W
        go_simp <;> with_reducible rfl
       try go_frame
       refine wpAny_take (i := 4) (oi := ⟨some 23, _, _, _, _, _⟩) (v := ?_) rfl (by kernel_rfl) (by kernel_rfl) (by kernel_rfl) (fun _ _ _ h => h) (Or.inl ⟨rfl, ?_⟩) ?_
       rotate_left 1
       ·intro W
        go_simp <;> with_reducible rfl
       try go_frame
       refine wpAny_take (i := 5) (oi := ⟨some 24, _, _, _, _, _⟩) (v := ?_) rfl (by kernel_rfl) (by kernel_rfl) (by kernel_rfl) (fun _ _ _ h => h) (Or.inl ⟨rfl, ?_⟩) ?_
       rotate_left 1
       ·intro W
        go_simp <;> with_reducible rfl
       try go_frame
       refine wpAny_take (i := 6) (oi := ⟨some 25, _, _, _, _, _⟩) (v := undef) rfl (by kernel_rfl) (by kernel_rfl) (by kernel_rfl) (fun _ _ _ h => h) (Or.inr ⟨rfl, rfl⟩) ?_
       try go_frame
       refine wpAny_take (i := 7) (oi := ⟨some 26, _, _, _, _, _⟩) (v := undef) rfl (by kernel_rfl) (by kernel_rfl) (by kernel_rfl) (fun _ _ _ h => h) (Or.inr ⟨rfl, rfl⟩) ?_
       try go_frame
       refine wpAny_take (i := 8) (oi := ⟨some 27, _, _, _, _, _⟩) (v := undef) rfl (by kernel_rfl) (by kernel_rfl) (by kernel_rfl) (fun _ _ _ h => h) (Or.inr ⟨rfl, rfl⟩) ?_
       try go_frame
       refine wpAny_take (i := 9) (oi := ⟨some 28, _, _, _, _, _⟩) (v := undef) rfl (by kernel_rfl) (by kernel_rfl) (by kernel_rfl) (fun _ _ _ h => h) (Or.inr ⟨rfl, rfl⟩) ?_
       try go_frame
       refine wpAny_take (i := 10) (oi := ⟨some 29, _, _, _, _, _⟩) (v := undef) rfl (by kernel_rfl) (by kernel_rfl) (by kernel_rfl) (fun _ _ _ h => h) (Or.inr ⟨rfl, rfl⟩) ?_
       try go_frame
       refine wpAny_take (i := 11) (oi := ⟨some 30, _, _, _, _, _⟩) (v := undef) rfl (by kernel_rfl) (by kernel_rfl) (by kernel_rfl) (fun _ _ _ h => h) (Or.inr ⟨rfl, rfl⟩) ?_
       try go_frame
       refine wpAny_take (i := 12) (oi := ⟨some 31, _, _, _, _, _⟩) (v := undef) rfl (by kernel_rfl) (by kernel_rfl) (by kernel_rfl) (fun _ _ _ h => h) (Or.inr ⟨rfl, rfl⟩) ?_
       try go_frame
       refine wpAny_take (i := 13) (oi := ⟨some 32, _, _, _, _, _⟩) (v := undef) rfl (by kernel_rfl) (by kernel_rfl) (by kernel_rfl) (fun _ _ _ h => h) (Or.inr ⟨rfl, rfl⟩) ?_
       try go_frame
       refine wpAny_take (i := 14) (oi := ⟨some 33, _, _, _, _, _⟩) (v := ?_) rfl (by kernel_rfl) (by kernel_rfl) (by kernel_rfl) (fun _ _ _ h => h) (Or.inl ⟨rfl, ?_⟩) ?_
       rotate_left 1
       ·intro W
        go_simp <;> with_reducible rfl
       try go_frame
       refine wpAny_done (by kernel_rfl) ?_ _
       all_goals
        go_wp2
        go_roundw
        case rel => exact ⟨n + 1, by omega, by omega, by go_num, gs_long hn1 HE.out hlen HT.out, hb2⟩
        case measure => simp [intOf]; omega
     ·have E := Lib.hid (tk_zero (gs_end1 hn1 (Nat.lt_of_not_le hnl) HT.out))
      go_wp2
      go_ret2
      exact ⟨E.out, hbw⟩
    ·have E := Lib.hid (tk_zero (gs_end2 (n := n) (by omega) HT.out))
     go_wp2
     go_ret2
     exact ⟨E.out, hbw⟩
def ss_ (l : List (List UInt8)) : List Value := l.map fun t => .string ⟨t.toArray⟩
theorem join_cons2 (sep p q : List UInt8) (l : List (List UInt8)) : Lib.join (p :: q :: l) sep = p ++ sep ++ Lib.join (q :: l) sep := by
 simp [Lib.join, List.intercalate_cons_cons]
theorem join_part (p : List Int) : Lib.join (p.map textL) [58] = partL p := by
 match p with
 | [] => rfl
 | [n] => simp [Lib.join, partL]
 | n :: m :: p =>
   rw [List.map_cons, List.map_cons, join_cons2, ← List.map_cons, join_part (m :: p)]
   simp [partL]
theorem join_par (l : List (List Int)) : Lib.join (l.map partL) [59] = parL l := by
 match l with
 | [] => rfl
 | [n] => simp [Lib.join, parL]
 | n :: m :: p =>
   rw [List.map_cons, List.map_cons, join_cons2, ← List.map_cons, join_par (m :: p)]
   simp [parL]
set_option maxRecDepth 100000 in
set_option maxHeartbeats 4000000 in
theorem join_any (A : Option Addr) (n c : Nat) (l : List (List UInt8)) (sep T : List UInt8) (w : World) (hn : l.length = n) (hT : Lib.join l sep = T) (hl : n ≤ 4294967296) (hc : n ≤ c) (hlen : T.length ≤ 140737488355328) (hr : Rd w A (ss_ l)) :
 Calls Tryz.prog 111 #[.string ⟨sep.toArray⟩, .slice A n c] w fun e w' => e = .returned (.string ⟨T.toArray⟩) ∧ Below w.heap.size w w' := by
 have hm : (l.map fun t : List UInt8 => (⟨t.toArray⟩ : ByteArray)).map (·.data.toList) = l := by
  rw [List.map_map]
  calc l.map _ = l.map id := List.map_congr_left (fun x _ => by simp)
   _ = l := List.map_id l
 by_cases h0 : n = 0
 ·subst h0
  have e0 : l = [] := List.eq_nil_of_length_eq_zero hn
  subst e0
  obtain rfl : [] = T := hT
  go_enter Tryz.func111, Tryz.ntmps111
  go_wp2_with fail
  refine (Tryz.strings_Join_none A c _ _).mono ?_
  rintro e w1 ⟨rfl, rfl⟩
  go_wp2_with fail
  go_ret
  exact ⟨rfl, Below.refl _ _⟩
 ·obtain ⟨b, o, rfl, hb, hcc⟩ := hr (by simp [ss_]; omega)
  have HJ := Lib.hid (show Lib.join ((l.map fun t : List UInt8 => (⟨t.toArray⟩ : ByteArray)).map (·.data.toList)) (⟨sep.toArray⟩ : ByteArray).data.toList = T by rw [hm]; exact hT)
  have hcells : Hid (∀ (j : Nat) (x : ByteArray), (l.map fun t : List UInt8 => (⟨t.toArray⟩ : ByteArray))[j]? = some x → w.cell? ⟨b, o + j, none⟩ = some (.string x)) := Lib.hid fun j x hx => hcc j _ (by
   unfold ss_
   rw [List.getElem?_map] at hx ⊢
   cases hj : l[j]? with
   | none => rw [hj] at hx; cases hx
   | some t => rw [hj] at hx; simp at hx; subst hx; rfl)
  have HLn := Lib.hid (show (l.map fun t : List UInt8 => (⟨t.toArray⟩ : ByteArray)).length = n by rw [List.length_map]; exact hn)
  clear hm hcc hT hn
  have hJ := Tryz.strings_Join b o c (l.map fun t : List UInt8 => (⟨t.toArray⟩ : ByteArray)) ⟨sep.toArray⟩ w hcells.out hb (by rw [HLn.out]; omega) (by rw [HLn.out]; exact hc) (by rw [HJ.out]; exact hlen)
  rw [HJ.out, HLn.out] at hJ
  go_enter Tryz.func111, Tryz.ntmps111
  go_wp2_with fail
  refine hJ.mono ?_
  rintro e w1 ⟨rfl, hb1⟩
  go_wp2_with fail
  go_ret
  exact ⟨rfl, hb1⟩
section
section
variable {P : Program} {ops : Array Oper} {md : Region.Mode} {w1 : World} {K : List Fact} {ix iz : Nat} {R0 : (Tmp → Value) → World → World → Prop} {aF : (Tmp → Value) → Act} {i : Nat} {o : Oper}
def FNew (w1 : World) (ty : TypeId) (z : Array Value) (v : Value) (w : World) : Prop := ∃ b, v = .pointer (some ⟨b, 0, none⟩) ∧ w1.heap.size ≤ b ∧ Blk w b ty z
theorem fnew_ok (w1 : World) (i : Nat) (d : Tmp) (ty : TypeId) (z : Array Value) : (⟨i, d, FNew w1 ty z⟩ : Fact).ok := fun _ _ _ ⟨b, e, h1, h2⟩ hb => ⟨b, e, h1, h2.below hb h2.lt⟩
theorem goesK_new {d : Tmp} {ty : TypeId} {z : Array Value} (hst : ∀ f ∈ K, f.ok) (hah : Ahead md ops ix i) (hio : ops[i]? = some o) (hx : i ≠ ix) (hz : i ≠ iz) (p : Nat) (hat : K[p]? = some ⟨i, d, FNew w1 ty z⟩) (huq : ((List.range K.length).all fun q => q == p || ((K[q]?).map fun f => f.i != i && f.d != d).getD true) = true) (hw : ∀ g, Region.wanted o (yielded ops (aF g).tmps) = true) (h0 : o.dst = some d) (hd : ∀ g, (aF g).tmps[d]? = some (g d)) {R1 : (Tmp → Value) → World → World → Prop}
 (hr : ∀ g w, (execOp (aF g).eval o).run P w = .ok (.value (.pointer (some ⟨w.heap.size, 0, none⟩))) (w.alloc (.cells z ty))) : GoesM P md ops aF (SK md ops w1 K ix iz R0 R1) i o :=
 goesK_make hst hah hio hx hz p hat huq hw h0 hd (fun w => .pointer (some ⟨w.heap.size, 0, none⟩)) (fun w => w.alloc (.cells z ty)) hr fun w hb => ⟨⟨w.heap.size, rfl, hb.size, Blk.new w ty z⟩, (Below.refl _ w).alloc (Nat.le_refl _) _⟩
theorem goesP_put {ty : TypeId} {x y : Operand} {d : Tmp} {j : Nat} {z cs : Array Value} (hi : i = ix) (hxz : ix = iz) (hio : ops[i]? = some o) (hall : ∀ f ∈ K, f.i ≠ i ∧ ∃ js, pathB md ops ix js = true ∧ f.i ∈ js) (p : Nat) (hat : K[p]? = some ⟨j, d, FNew w1 ty z⟩) (hw : ∀ g, Region.wanted o (yielded ops (aF g).tmps) = true) (hop : o.op = .store ty x y) (ho : o.dst = none) (hx : ∀ g, (aF g).eval x = g d) (hy : ∀ g, (aF g).eval y = .agg cs) (hs : cs.size = z.size) (hin : (P.info? ty).map (·.size) = some z.size) (h1 : cs.toList.all (·.oneCell') = true) :
 GoesM P md ops aF (SK md ops w1 K ix iz R0 (fun g _ w => Below w1.heap.size w1 w ∧ FNew w1 ty cs (g d) w)) i o := fun l g w hsz hf hrd hS => by
 subst hxz hi
 rw [if_pos (hw g)]
 obtain ⟨b1, h2⟩ := hS.pre hf
 have hsh := hS.shut.step hio hrd
 have hlt : i < l.size := by rw [hsz]; exact (Array.getElem?_eq_some_iff.1 hio).1
 have hfs : ∀ f ∈ K, f.F (g f.d) w := fun f hf' => h2 f hf' (by
  obtain ⟨hne, js, hp, hm⟩ := hall f hf'
  have := hsh.path i js (getD_self hlt) hp f.i hm
  rwa [getD_set_ne false (fun e => hne e.symm)] at this)
 obtain ⟨b, g1, g2, g3⟩ : FNew w1 ty z (g d) w := hfs _ (List.mem_of_getElem? hat)
 have hrun := g3.run_set (P := P) cs hs hin h1
 refine .inl ⟨undef, w.setCells b 0 cs.toList, .inr ⟨?_, rfl⟩, g, .inl rfl, (fun d' h' => by rw [ho] at h'; cases h'), hsh, ?_, ?_, fun _ => ⟨w, b1, hfs, b1.grown (grown_setCells b _ 0 w) b1.size (fun k e => by cases e; exact g2), b, g1, g2, g3.setAll hs⟩, fun h => h⟩
 ·unfold execOp
  simp only [hop, hx, hy, g1, Sem.run_bind, hrun, Result.andThen_ok, Sem.run_pure]
 ·rw [getD_self hlt]; intro h; cases h
 ·rw [getD_self hlt]; intro _ h; cases h
end
end
end Go.Proofs.YtceipblcdcgljaaGreatDoor
