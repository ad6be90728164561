/-
  Layer 2, walked: the document's Take. Layer 2, walked: the document's Take, its loop. Layer 2's mathematics: how the program reckons the code point with which bytes begin.
-/
import Derived.Test.YtbjmfhcgkpjcfaaGreatDoorG03
import Derived.Test.YtbjmfhcgkpjcfaaGreatDoorG13
import Derived.Deep.RegionHeld3
import Derived.Maps.RangeWalk
namespace Go.Proofs.YtbjmfhcgkpjcfaaGreatDoor
open Go.RowKit

/-- What might be. -/
def gs (l : List UInt8) (n : Nat) : Int :=
  match n, l with
  | 1, a :: _ => a.toNat
  | 2, a :: b :: _ => ((a.toNat : Int) - 192) % 256 * 64 + ((b.toNat : Int) - 128) % 256
  | 3, a :: b :: c :: _ => ((a.toNat : Int) - 224) % 256 * 4096 + ((b.toNat : Int) - 128) % 256 * 64 + ((c.toNat : Int) - 128) % 256
  | 4, a :: b :: c :: d :: _ => ((a.toNat : Int) - 240) % 256 * 262144 + ((b.toNat : Int) - 128) % 256 * 4096 + ((c.toNat : Int) - 128) % 256 * 64 + ((d.toNat : Int) - 128) % 256
  | _, _ => 0
theorem gs_bd (l : List UInt8) (n : Nat) : 0 ≤ gs l n ∧ gs l n ≤ 68000000 := by
  unfold gs
  split
  · rename_i a _
    have := a.toNat_lt
    omega
  all_goals omega
theorem gs_put {r : Int} (h : isPt r = true) (m : List UInt8) : gs (putL r ++ m) (cnt r) = r := by
  obtain ⟨h0, h1, _⟩ := (isPt_iff r).1 h
  have hc : cnt r = if r < 128 then 1 else if r < 2048 then 2 else if r < 65536 then 3 else 4 := rfl
  by_cases a1 : r < 128
  · rw [putL_1 h a1, hc, if_pos a1]
    exact byt_nat r (by omega) (by omega)
  · by_cases a2 : r < 2048
    · rw [putL_2 h (by omega) a2, hc, if_neg a1, if_pos a2]
      have b0 := byt_nat (192 + r / 64) (by omega) (by omega)
      have b1 := byt_nat (128 + r % 64) (by omega) (by omega)
      simp only [List.cons_append, List.nil_append, gs]
      rw [b0, b1]; omega
    · by_cases a3 : r < 65536
      · rw [putL_3 h (by omega) a3, hc, if_neg a1, if_neg a2, if_pos a3]
        have b0 := byt_nat (224 + r / 4096) (by omega) (by omega)
        have b1 := byt_nat (128 + r / 64 % 64) (by omega) (by omega)
        have b2 := byt_nat (128 + r % 64) (by omega) (by omega)
        simp only [List.cons_append, List.nil_append, gs]
        rw [b0, b1, b2]; omega
      · rw [putL_4 h (by omega), hc, if_neg a1, if_neg a2, if_neg a3]
        have b0 := byt_nat (240 + r / 262144) (by omega) (by omega)
        have b1 := byt_nat (128 + r / 4096 % 64) (by omega) (by omega)
        have b2 := byt_nat (128 + r / 64 % 64) (by omega) (by omega)
        have b3 := byt_nat (128 + r % 64) (by omega) (by omega)
        simp only [List.cons_append, List.nil_append, gs]
        rw [b0, b1, b2, b3]; omega
/-- Where what might be has just these bytes, it is what is told; and what is told might be. -/
theorem gs_hit {l : List UInt8} {n : Nat} (hn : 1 ≤ n) (hl : (putL (gs l n)).length = n) (h : putL (gs l n) = l.take n) : takeL l = (gs l n, n) := by
  have hp : isPt (gs l n) = true := by
    cases hp : isPt (gs l n) with
    | true => rfl
    | false => rw [putL_no hp] at hl; simp at hl; omega
  have e : l = putL (gs l n) ++ l.drop n := by rw [h, List.take_append_drop]
  have := take_put hp (l.drop n)
  rw [← e] at this
  rw [this, ← putL_length hp, hl]
theorem gs_told {l : List UInt8} {n : Nat} (hn : 1 ≤ n) (h : (takeL l).2 = n) : gs l n = (takeL l).1 ∧ (putL (gs l n)).length = n ∧ putL (gs l n) = l.take n := by
  rcases take_is l with hz | ⟨r, m, hp, e, ht⟩
  · rw [hz] at h; simp at h; omega
  · rw [ht] at h ⊢
    have h : cnt r = n := h
    subst h
    have hg : gs l (cnt r) = r := by rw [e]; exact gs_put hp m
    refine ⟨hg, by rw [hg]; exact putL_length hp, ?_⟩
    rw [hg, e, ← putL_length hp, List.take_left]

set_option maxRecDepth 100000 in
set_option maxHeartbeats 4000000 in
theorem guess_any (A : Option Addr) (c : Nat) (l : List UInt8) (n : Nat) (w : World) (hl : l.length ≤ 4294967296) (hn1 : 1 ≤ n) (hn4 : n ≤ 4) (hnl : n ≤ l.length) (hr : Rd w A (bs l)) :
    Calls Tryz.prog 78 #[.slice A l.length c, .int .i64 n] w fun e w' => e = .returned (.int .i64 (gs l n)) ∧ Below w.heap.size w w' := by
  obtain rfl | rfl | rfl | rfl : n = 1 ∨ n = 2 ∨ n = 3 ∨ n = 4 := by omega
  · match l, hnl, hr, hl with
    | a :: l, _, hr, hl =>
      obtain ⟨b, o, rfl, hb, hc⟩ := hr.at_ (by simp)
      have c0 := hc 0 (by simp)
      simp only [Nat.add_zero, List.getElem_cons_zero] at c0
      have ha := a.toNat_lt
      clear hc
      go_enter Tryz.func78, Tryz.ntmps78
      go_wp2
      go_ret
      exact ⟨rfl, Below.refl _ _⟩
  · match l, hnl, hr, hl with
    | a :: a1 :: l, _, hr, hl =>
      obtain ⟨b, o, rfl, hb, hc⟩ := hr.at_ (by simp)
      have c0 := hc 0 (by simp)
      have c1 := hc 1 (by simp)
      simp only [Nat.add_zero, List.getElem_cons_zero, List.getElem_cons_succ] at c0 c1
      have ha := a.toNat_lt
      have e0 : IntKind.u8.wrap ((a.toNat : Int) - 192) = ((a.toNat : Int) - 192) % 256 := by rw [IntKind.wrap_u8]
      have ha1 := a1.toNat_lt
      have e1 : IntKind.u8.wrap ((a1.toNat : Int) - 128) = ((a1.toNat : Int) - 128) % 256 := by rw [IntKind.wrap_u8]
      clear hc
      go_enter Tryz.func78, Tryz.ntmps78
      go_wp2
      go_quiet (fail)
      go_wp2
      go_ret
      exact ⟨rfl, below_drewN (Below.refl _ _) _⟩
  · match l, hnl, hr, hl with
    | a :: a1 :: a2 :: l, _, hr, hl =>
      obtain ⟨b, o, rfl, hb, hc⟩ := hr.at_ (by simp)
      have c0 := hc 0 (by simp)
      have c1 := hc 1 (by simp)
      have c2 := hc 2 (by simp)
      simp only [Nat.add_zero, List.getElem_cons_zero, List.getElem_cons_succ] at c0 c1 c2
      have ha := a.toNat_lt
      have e0 : IntKind.u8.wrap ((a.toNat : Int) - 224) = ((a.toNat : Int) - 224) % 256 := by rw [IntKind.wrap_u8]
      have ha1 := a1.toNat_lt
      have e1 : IntKind.u8.wrap ((a1.toNat : Int) - 128) = ((a1.toNat : Int) - 128) % 256 := by rw [IntKind.wrap_u8]
      have ha2 := a2.toNat_lt
      have e2 : IntKind.u8.wrap ((a2.toNat : Int) - 128) = ((a2.toNat : Int) - 128) % 256 := by rw [IntKind.wrap_u8]
      clear hc
      go_enter Tryz.func78, Tryz.ntmps78
      go_wp2
      go_quiet (fail)
      go_wp2
      go_ret
      exact ⟨rfl, below_drewN (Below.refl _ _) _⟩
  · match l, hnl, hr, hl with
    | a :: a1 :: a2 :: a3 :: l, _, hr, hl =>
      obtain ⟨b, o, rfl, hb, hc⟩ := hr.at_ (by simp)
      have c0 := hc 0 (by simp)
      have c1 := hc 1 (by simp)
      have c2 := hc 2 (by simp)
      have c3 := hc 3 (by simp)
      simp only [Nat.add_zero, List.getElem_cons_zero, List.getElem_cons_succ] at c0 c1 c2 c3
      have ha := a.toNat_lt
      have e0 : IntKind.u8.wrap ((a.toNat : Int) - 240) = ((a.toNat : Int) - 240) % 256 := by rw [IntKind.wrap_u8]
      have ha1 := a1.toNat_lt
      have e1 : IntKind.u8.wrap ((a1.toNat : Int) - 128) = ((a1.toNat : Int) - 128) % 256 := by rw [IntKind.wrap_u8]
      have ha2 := a2.toNat_lt
      have e2 : IntKind.u8.wrap ((a2.toNat : Int) - 128) = ((a2.toNat : Int) - 128) % 256 := by rw [IntKind.wrap_u8]
      have ha3 := a3.toNat_lt
      have e3 : IntKind.u8.wrap ((a3.toNat : Int) - 128) = ((a3.toNat : Int) - 128) % 256 := by rw [IntKind.wrap_u8]
      clear hc
      go_enter Tryz.func78, Tryz.ntmps78
      go_wp2
      go_quiet (fail)
      go_wp2
      go_ret
      exact ⟨rfl, below_drewN (Below.refl _ _) _⟩
end Go.Proofs.YtbjmfhcgkpjcfaaGreatDoor
namespace Go.Proofs.YtbjmfhcgkpjcfaaGreatDoor
open Go.RowKit

theorem Rd.take {w : World} {A : Option Addr} {l : List UInt8} (h : Rd w A (bs l)) (n : Nat) : Rd w A (bs (l.take n)) := fun hp => by
  rw [bs_length, List.length_take] at hp
  obtain ⟨b, o, rfl, hb, hc⟩ := h (by rw [bs_length]; omega)
  refine ⟨b, o, rfl, hb, fun k u hu => hc k u ?_⟩
  simp only [bs, List.map_take] at hu ⊢
  rw [List.getElem?_take] at hu
  split at hu
  · exact hu
  · cases hu

theorem rPut_at (r : Int) (m : List UInt8) (n : Nat) (h : putL r = m) (hn : m.length = n) (w : World) : Calls Tryz.prog 43 #[.int .i64 r] w fun e w' => ∃ A c, e = .returned (.slice A n c) ∧ Rd w' A (bs m) ∧ Below w.heap.size w w' := by
  subst h hn
  exact rPut_any r w

theorem gs_hit' {l : List UInt8} {n : Nat} {g : Int} {U : List UInt8} (hn : 1 ≤ n) (hg : gs l n = g) (hU : putL g = U) (hl : U.length = n) (h : l.take n = U) : takeL l = (g, n) := by
  subst hg hU
  exact gs_hit hn hl h.symm
theorem gs_miss {l : List UInt8} {n : Nat} {g : Int} {U T : List UInt8} (hn : 1 ≤ n) (hg : gs l n = g) (hU : putL g = U) (_hl : U.length = n) (hT : l.take n = T) (h : U ≠ T) (hh : (takeL l).2 = 0 ∨ n ≤ (takeL l).2) : (takeL l).2 = 0 ∨ n + 1 ≤ (takeL l).2 := by
  subst hg hU hT
  rcases hh with hz | hz
  · exact .inl hz
  · by_cases e : (takeL l).2 = n
    · exact absurd (gs_told hn e).2.2 h
    · right; omega
theorem gs_long {l : List UInt8} {n : Nat} {g : Int} (hn : 1 ≤ n) (hg : gs l n = g) (hl : ¬ (putL g).length = n) (hh : (takeL l).2 = 0 ∨ n ≤ (takeL l).2) : (takeL l).2 = 0 ∨ n + 1 ≤ (takeL l).2 := by
  subst hg
  rcases hh with hz | hz
  · exact .inl hz
  · by_cases e : (takeL l).2 = n
    · exact absurd (gs_told hn e).2.1 hl
    · right; omega
theorem gs_end1 {l : List UInt8} {n : Nat} (_hn : 1 ≤ n) (h : l.length < n) (hh : (takeL l).2 = 0 ∨ n ≤ (takeL l).2) : takeL l = (0, 0) := by
  have := (take_snd_le l).1
  exact take_zero (by omega)
theorem gs_end2 {l : List UInt8} {n : Nat} (h : 4 < n) (hh : (takeL l).2 = 0 ∨ n ≤ (takeL l).2) : takeL l = (0, 0) := by
  have := (take_snd_le l).2
  exact take_zero (by omega)
theorem ne_of_beq_bytes {a b : List UInt8} (h : (a == b) = false) : a ≠ b := by
  intro e
  rw [e, beq_self_eq_true] at h
  cases h

set_option maxRecDepth 100000 in
set_option maxHeartbeats 800000 in
theorem rtake_any (A : Option Addr) (c : Nat) (l : List UInt8) (w : World) (hl : l.length ≤ 4294967296) (hlc : l.length ≤ c) (hr : Rd w A (bs l)) :
    Calls Tryz.prog 64 #[.slice A l.length c] w fun e w' => e = Tk l ∧ Below w.heap.size w w' := by
  cases l with
  | nil =>
    go_enter Tryz.func64, Tryz.ntmps64
    go_wp2
    refine wp_loop_rounds 1 ?_
    rw [rounds_succ]
    go_wp2
    go_ret2
    exact ⟨tk_zero rfl, Below.refl _ _⟩
  | cons a0 l0 =>
    obtain ⟨l, hll⟩ : ∃ l, l = a0 :: l0 := ⟨_, rfl⟩
    rw [← hll] at hl hlc hr ⊢
    have hpos : 0 < l.length := by rw [hll]; simp
    clear hll a0 l0
    obtain ⟨b, o, rfl, hb, hcc⟩ := hr.at_ hpos
    clear hcc
    go_enter Tryz.func64, Tryz.ntmps64
    go_wp2
    go_loopw [4] (fun i wr => ∃ n : Nat, 1 ≤ n ∧ n ≤ 5 ∧ i = .int .i64 n ∧ ((takeL l).2 = 0 ∨ n ≤ (takeL l).2) ∧ Below w.heap.size w wr) (fun i _ => 5 - (intOf i).toNat)
    case atStart => exact ⟨1, Nat.le_refl _, by omega, rfl, by omega, Below.refl _ _⟩
    case round =>
      obtain ⟨n, hn1, hn5, rfl, hT, hbw⟩ := hrel
      have HT := Lib.hid hT
      clear hT
      by_cases hn4 : n ≤ 4
      · by_cases hnl : n ≤ l.length
        · have hrw := hr.below hbw
          obtain ⟨gd0, gd1⟩ := gs_bd l n
          obtain ⟨g, hg⟩ : ∃ g, gs l n = g := ⟨_, rfl⟩
          have HE : Hid (gs l n = g) := Lib.hid hg
          rw [hg] at gd0 gd1
          by_cases hlen : (putL g).length = n
          · obtain ⟨T, hT⟩ : ∃ T, l.take n = T := ⟨_, rfl⟩
            obtain ⟨U, hU⟩ : ∃ U, putL g = U := ⟨_, rfl⟩
            rw [hU] at hlen
            have HP := Lib.hid hU
            have HU := Lib.hid hlen
            have HT2 := Lib.hid hT
            have HL := Lib.hid (show T.length = n by rw [← hT, List.length_take]; omega)
            have hrT : Rd wr (some ⟨b, o, none⟩) (bs T) := by rw [← hT]; exact hrw.take n
            have HCV := Lib.hid (show ∀ (W : World) (A' : Option Addr) (c' : Nat), Rd W A' (bs T) → (convert 27 9 (.slice A' n c')).run Tryz.prog W = .ok (.string ⟨T.toArray⟩) W from fun W A' c' h => conv_str Tryz.underlying27 Tryz.underlying5 HL.out h _ Tryz.underlying9)
            have HCW := Lib.hid (show ∀ (W : World) (A' : Option Addr) (c' : Nat), Rd W A' (bs U) → (convert 27 9 (.slice A' n c')).run Tryz.prog W = .ok (.string ⟨U.toArray⟩) W from fun W A' c' h => conv_str Tryz.underlying27 Tryz.underlying5 HU.out h _ Tryz.underlying9)
            clear hlen hT hU hg
            go_wp2_with fail
            refine (guess_any _ c l n _ hl hn1 hn4 hnl hrw).mono ?_
            rw [HE.out]
            rintro e w2 ⟨rfl, hb2⟩
            have hr2 := hrT.below hb2
            have hb2 : Below w.heap.size w w2 := hbw.trans (hb2.mono hbw.size)
            clear hrT hrw
            have n0 : (0 : Int) ≤ (n : Int) := by omega
            have n1 : (n : Int) ≤ (c : Int) := by omega
            go_wp2_with fail
            have hcv := HCV.out
            have hcw := HCW.out
            go_region_held (fun w' => Rd w' (some ⟨b, o, none⟩) (bs T) ∧ Below w.heap.size w w') (first | exact ⟨hr2, hb2.drew⟩ | assumption | exact ⟨Rd.below (And.left (by assumption)) hb3, Below.trans (And.right (by assumption)) (hb3.mono (Below.size (And.right (by assumption))))⟩) (first | (go_at_call 43; refine (rPut_at _ U n HP.out HU.out _).mono ?_; rintro e w3 ⟨A3, c3, rfl, hr3, hb3⟩))
            all_goals
              go_wp2
            · have hUT : U = T := eq_of_beq (by assumption)
              go_ret2
              refine ⟨tk_is (n := n) (gs_hit' hn1 HE.out HP.out HU.out (HT2.out.trans hUT.symm)) rfl, And.right (by assumption)⟩
            · have hUT : U ≠ T := ne_of_beq_bytes (by assumption)
              go_roundw
              case rel => exact ⟨n + 1, by omega, by omega, by go_num, gs_miss hn1 HE.out HP.out HU.out HT2.out hUT HT.out, And.right (by assumption)⟩
              case measure => simp [intOf]; omega
          · have HP := Lib.hid (show putL g = putL g from rfl)
            have hne : (((putL g).length : Int) == (n : Int)) = false := beq_false_of_ne (by omega)
            clear hg
            go_wp2_with fail
            refine (guess_any _ c l n _ hl hn1 hn4 hnl hrw).mono ?_
            rw [HE.out]
            rintro e w2 ⟨rfl, hb2⟩
            have hb2 : Below w.heap.size w w2 := hbw.trans (hb2.mono hbw.size)
            have n0 : (0 : Int) ≤ (n : Int) := by omega
            have n1 : (n : Int) ≤ (c : Int) := by omega
            go_wp2_with fail
            have hb2 := hb2.drew
            refine wp_region_any (by kernel_rfl) ?_
            change wpAny _ _ _ _ _ _ _ (World.drew _)
            refine wpAny_take (i := 0) (oi := ⟨some 19, _, _, _, _, _⟩) (v := ?_) rfl (by kernel_rfl) (by kernel_rfl) (by kernel_rfl) (fun _ _ _ h => h) (Or.inl ⟨rfl, ?_⟩) ?_
            rotate_left 1
            · intro W
              go_simp <;> with_reducible rfl
            try go_frame
            refine wpAny_take (i := 3) (oi := ⟨some 22, _, _, _, _, _⟩) (v := ?_) rfl (by kernel_rfl) (by kernel_rfl) (by kernel_rfl) (fun _ _ _ h => h) (Or.inl ⟨rfl, ?_⟩) ?_
            rotate_left 1
            · intro W
              go_simp <;> with_reducible rfl
            try go_frame
            refine wpAny_ready (rs := [1]) (by kernel_rfl) (by simp) ?_
            refine AllReady.cons (o := ⟨some 20, _, _, _, _, _⟩) rfl (fun K hK => ?_) AllReady.nil
            go_simp
            go_at_call 43
            refine (rPut_any g _).mono ?_
            rintro e w3 ⟨A3, c3, rfl, hr3, hb3⟩
            have hb2 := hb2.trans (hb3.mono hb2.size)
            clear hb3 hr3
            refine hK _ _ ?_
            clear hK K
            refine wpAny_take (i := 2) (oi := ⟨some 21, _, _, _, _, _⟩) (v := ?_) rfl (by kernel_rfl) (by kernel_rfl) (by kernel_rfl) (fun _ _ _ h => h) (Or.inl ⟨rfl, ?_⟩) ?_
            rotate_left 1
            · intro W
              go_simp <;> with_reducible rfl
            try go_frame
            refine wpAny_take (i := 4) (oi := ⟨some 23, _, _, _, _, _⟩) (v := ?_) rfl (by kernel_rfl) (by kernel_rfl) (by kernel_rfl) (fun _ _ _ h => h) (Or.inl ⟨rfl, ?_⟩) ?_
            rotate_left 1
            · intro W
              go_simp <;> with_reducible rfl
            try go_frame
            refine wpAny_take (i := 5) (oi := ⟨some 24, _, _, _, _, _⟩) (v := ?_) rfl (by kernel_rfl) (by kernel_rfl) (by kernel_rfl) (fun _ _ _ h => h) (Or.inl ⟨rfl, ?_⟩) ?_
            rotate_left 1
            · intro W
              go_simp <;> with_reducible rfl
            try go_frame
            refine wpAny_take (i := 6) (oi := ⟨some 25, _, _, _, _, _⟩) (v := undef) rfl (by kernel_rfl) (by kernel_rfl) (by kernel_rfl) (fun _ _ _ h => h) (Or.inr ⟨rfl, rfl⟩) ?_
            try go_frame
            refine wpAny_take (i := 7) (oi := ⟨some 26, _, _, _, _, _⟩) (v := undef) rfl (by kernel_rfl) (by kernel_rfl) (by kernel_rfl) (fun _ _ _ h => h) (Or.inr ⟨rfl, rfl⟩) ?_
            try go_frame
            refine wpAny_take (i := 8) (oi := ⟨some 27, _, _, _, _, _⟩) (v := undef) rfl (by kernel_rfl) (by kernel_rfl) (by kernel_rfl) (fun _ _ _ h => h) (Or.inr ⟨rfl, rfl⟩) ?_
            try go_frame
            refine wpAny_take (i := 9) (oi := ⟨some 28, _, _, _, _, _⟩) (v := undef) rfl (by kernel_rfl) (by kernel_rfl) (by kernel_rfl) (fun _ _ _ h => h) (Or.inr ⟨rfl, rfl⟩) ?_
            try go_frame
            refine wpAny_take (i := 10) (oi := ⟨some 29, _, _, _, _, _⟩) (v := undef) rfl (by kernel_rfl) (by kernel_rfl) (by kernel_rfl) (fun _ _ _ h => h) (Or.inr ⟨rfl, rfl⟩) ?_
            try go_frame
            refine wpAny_take (i := 11) (oi := ⟨some 30, _, _, _, _, _⟩) (v := undef) rfl (by kernel_rfl) (by kernel_rfl) (by kernel_rfl) (fun _ _ _ h => h) (Or.inr ⟨rfl, rfl⟩) ?_
            try go_frame
            refine wpAny_take (i := 12) (oi := ⟨some 31, _, _, _, _, _⟩) (v := undef) rfl (by kernel_rfl) (by kernel_rfl) (by kernel_rfl) (fun _ _ _ h => h) (Or.inr ⟨rfl, rfl⟩) ?_
            try go_frame
            refine wpAny_take (i := 13) (oi := ⟨some 32, _, _, _, _, _⟩) (v := undef) rfl (by kernel_rfl) (by kernel_rfl) (by kernel_rfl) (fun _ _ _ h => h) (Or.inr ⟨rfl, rfl⟩) ?_
            try go_frame
            refine wpAny_take (i := 14) (oi := ⟨some 33, _, _, _, _, _⟩) (v := ?_) rfl (by kernel_rfl) (by kernel_rfl) (by kernel_rfl) (fun _ _ _ h => h) (Or.inl ⟨rfl, ?_⟩) ?_
            rotate_left 1
            · intro W
              go_simp <;> with_reducible rfl
            try go_frame
            refine wpAny_done (by kernel_rfl) ?_ _
            all_goals
              go_wp2
              go_roundw
              case rel => exact ⟨n + 1, by omega, by omega, by go_num, gs_long hn1 HE.out hlen HT.out, hb2⟩
              case measure => simp [intOf]; omega
        · have E := Lib.hid (tk_zero (gs_end1 hn1 (Nat.lt_of_not_le hnl) HT.out))
          go_wp2
          go_ret2
          exact ⟨E.out, hbw⟩
      · have E := Lib.hid (tk_zero (gs_end2 (n := n) (by omega) HT.out))
        go_wp2
        go_ret2
        exact ⟨E.out, hbw⟩
end Go.Proofs.YtbjmfhcgkpjcfaaGreatDoor
namespace Go.Proofs.YtbjmfhcgkpjcfaaGreatDoor

/-- What the program reckons is what is told. -/
structure Fst (a : UInt8) (j : Nat) (lead : Int) : Prop where
  short : ∀ l : List UInt8, l.length < j → takeL (a :: l) = (0, 0)
  none_ : ∀ l : List UInt8, j ≤ l.length → accL ((a.toNat : Int) - lead) (l.take j) = none → takeL (a :: l) = (0, 0)
  no : ∀ (l : List UInt8) (x : Int), j ≤ l.length → accL ((a.toNat : Int) - lead) (l.take j) = some x → ¬ (isPt x = true ∧ ixP x 4 = j) → takeL (a :: l) = (0, 0)
  yes : ∀ (l : List UInt8) (x : Int), j ≤ l.length → accL ((a.toNat : Int) - lead) (l.take j) = some x → isPt x = true → ixP x 4 = j → takeL (a :: l) = (x, j + 1)

theorem ix0 (x : Int) : ixP x 4 = 0 ↔ x < 128 := by unfold ixP; (repeat' split) <;> omega
theorem ix1 (x : Int) : ixP x 4 = 1 ↔ 128 ≤ x ∧ x < 2048 := by unfold ixP; (repeat' split) <;> omega
theorem ix2 (x : Int) : ixP x 4 = 2 ↔ 2048 ≤ x ∧ x < 65536 := by unfold ixP; (repeat' split) <;> omega
theorem ix3 (x : Int) : ixP x 4 = 3 ↔ 65536 ≤ x := by unfold ixP; (repeat' split) <;> omega

theorem fst_split (a : UInt8) : ∃ (j : Nat) (least lead : Int), j ≤ 3 ∧ ixF a.toNat 4 = j ∧ szA (ixF a.toNat 4) = #[.int .i64 ((j : Int) + 1), .int .i64 least, .int .i64 lead] ∧ 0 ≤ lead ∧ lead ≤ a.toNat ∧ Fst a j lead := by
  have ha := a.toNat_lt
  by_cases a1 : a.toNat < 192
  · have e : ixF a.toNat 4 = 0 := by unfold ixF; (repeat' split) <;> omega
    refine ⟨0, 0, 0, by omega, e, by rw [e]; rfl, by omega, by omega, ⟨fun l h => absurd h (by omega), fun l _ h => ?_, fun l x _ h hn => ?_, fun l x _ h hp hi => ?_⟩⟩
    · cases h
    · obtain rfl : (a.toNat : Int) = x := by have := Option.some.inj h; omega
      simp only [takeL]
      rw [if_pos a1]
      by_cases a2 : a.toNat < 128
      · exact absurd ⟨(isPt_iff _).2 (by omega), (ix0 _).2 (by omega)⟩ hn
      · rw [if_neg a2]
    · obtain rfl : (a.toNat : Int) = x := by have := Option.some.inj h; omega
      have := (ix0 _).1 hi
      simp only [takeL]
      rw [if_pos a1, if_pos (by omega)]
      rfl
  · by_cases a2 : a.toNat < 224
    · have e : ixF a.toNat 4 = 1 := by unfold ixF; (repeat' split) <;> omega
      refine ⟨1, 128, 192, by omega, e, by rw [e]; rfl, by omega, by omega, ⟨fun l h => ?_, fun l hl h => ?_, fun l x hl h hn => ?_, fun l x hl h hp hi => ?_⟩⟩
      · match l, h with
        | [], _ => simp only [takeL]; rw [if_neg a1, if_pos a2]
      · match l, hl with
        | b :: l, _ =>
          simp only [takeL]; rw [if_neg a1, if_pos a2]
          by_cases f1 : fol b = true
          · simp [accL, f1] at h
          · rw [if_neg (fun hh => f1 hh.1)]
      · match l, hl with
        | b :: l, _ =>
          simp only [takeL]; rw [if_neg a1, if_pos a2]
          by_cases f1 : fol b = true
          · have hx : num2 a b = x := by simpa [accL, f1, num2] using h
            have e0 : num2 a b = ((a.toNat : Int) - 192) * 64 + ((b.toNat : Int) - 128) := rfl
            have := (fol_iff b).1 f1
            rw [hx]
            rw [if_neg (fun hh => hn ⟨hh.2.1, (ix1 x).2 (by omega)⟩)]
          · rw [if_neg (fun hh => f1 hh.1)]
      · match l, hl with
        | b :: l, _ =>
          simp only [takeL]; rw [if_neg a1, if_pos a2]
          by_cases f1 : fol b = true
          · have hx : num2 a b = x := by simpa [accL, f1, num2] using h
            rw [hx, if_pos ⟨f1, hp, ((ix1 x).1 hi).1⟩]
          · simp [accL, f1] at h
    · by_cases a3 : a.toNat < 240
      · have e : ixF a.toNat 4 = 2 := by unfold ixF; (repeat' split) <;> omega
        refine ⟨2, 2048, 224, by omega, e, by rw [e]; rfl, by omega, by omega, ⟨fun l h => ?_, fun l hl h => ?_, fun l x hl h hn => ?_, fun l x hl h hp hi => ?_⟩⟩
        · match l, h with
          | [], _ => simp only [takeL]; rw [if_neg a1, if_neg a2, if_pos a3]
          | [_], _ => simp only [takeL]; rw [if_neg a1, if_neg a2, if_pos a3]
        · match l, hl with
          | b :: c :: l, _ =>
            simp only [takeL]; rw [if_neg a1, if_neg a2, if_pos a3]
            by_cases f1 : fol b = true
            · by_cases f2 : fol c = true
              · simp [accL, f1, f2] at h
              · rw [if_neg (fun hh => f2 hh.2.1)]
            · rw [if_neg (fun hh => f1 hh.1)]
        · match l, hl with
          | b :: c :: l, _ =>
            simp only [takeL]; rw [if_neg a1, if_neg a2, if_pos a3]
            by_cases f1 : fol b = true
            · by_cases f2 : fol c = true
              · have hx : num3 a b c = x := by simpa [accL, f1, f2, num3] using h
                have e0 : num3 a b c = (((a.toNat : Int) - 224) * 64 + ((b.toNat : Int) - 128)) * 64 + ((c.toNat : Int) - 128) := rfl
                have := (fol_iff b).1 f1
                have := (fol_iff c).1 f2
                rw [hx]
                rw [if_neg (fun hh => hn ⟨hh.2.2.1, (ix2 x).2 (by omega)⟩)]
              · rw [if_neg (fun hh => f2 hh.2.1)]
            · rw [if_neg (fun hh => f1 hh.1)]
        · match l, hl with
          | b :: c :: l, _ =>
            simp only [takeL]; rw [if_neg a1, if_neg a2, if_pos a3]
            by_cases f1 : fol b = true
            · by_cases f2 : fol c = true
              · have hx : num3 a b c = x := by simpa [accL, f1, f2, num3] using h
                rw [hx, if_pos ⟨f1, f2, hp, ((ix2 x).1 hi).1⟩]
              · simp [accL, f1, f2] at h
            · simp [accL, f1] at h
      · have e : ixF a.toNat 4 = 3 := by unfold ixF; (repeat' split) <;> omega
        refine ⟨3, 65536, 240, by omega, e, by rw [e]; rfl, by omega, by omega, ⟨fun l h => ?_, fun l hl h => ?_, fun l x hl h hn => ?_, fun l x hl h hp hi => ?_⟩⟩
        · match l, h with
          | [], _ => simp only [takeL]; rw [if_neg a1, if_neg a2, if_neg a3]
          | [_], _ => simp only [takeL]; rw [if_neg a1, if_neg a2, if_neg a3]
          | [_, _], _ => simp only [takeL]; rw [if_neg a1, if_neg a2, if_neg a3]
        · match l, hl with
          | b :: c :: d :: l, _ =>
            simp only [takeL]; rw [if_neg a1, if_neg a2, if_neg a3]
            by_cases f1 : fol b = true
            · by_cases f2 : fol c = true
              · by_cases f3 : fol d = true
                · simp [accL, f1, f2, f3] at h
                · rw [if_neg (fun hh => f3 hh.2.2.1)]
              · rw [if_neg (fun hh => f2 hh.2.1)]
            · rw [if_neg (fun hh => f1 hh.1)]
        · match l, hl with
          | b :: c :: d :: l, _ =>
            simp only [takeL]; rw [if_neg a1, if_neg a2, if_neg a3]
            by_cases f1 : fol b = true
            · by_cases f2 : fol c = true
              · by_cases f3 : fol d = true
                · have hx : num4 a b c d = x := by simpa [accL, f1, f2, f3, num4] using h
                  rw [hx]
                  rw [if_neg (fun hh => hn ⟨hh.2.2.2.1, (ix3 x).2 hh.2.2.2.2⟩)]
                · rw [if_neg (fun hh => f3 hh.2.2.1)]
              · rw [if_neg (fun hh => f2 hh.2.1)]
            · rw [if_neg (fun hh => f1 hh.1)]
        · match l, hl with
          | b :: c :: d :: l, _ =>
            simp only [takeL]; rw [if_neg a1, if_neg a2, if_neg a3]
            by_cases f1 : fol b = true
            · by_cases f2 : fol c = true
              · by_cases f3 : fol d = true
                · have hx : num4 a b c d = x := by simpa [accL, f1, f2, f3, num4] using h
                  rw [hx, if_pos ⟨f1, f2, f3, hp, ((ix3 x).1 hi)⟩]
                · simp [accL, f1, f2, f3] at h
              · simp [accL, f1, f2] at h
            · simp [accL, f1] at h
end Go.Proofs.YtbjmfhcgkpjcfaaGreatDoor
