/-
  Layer 2, walked: the document's Take. Layer 2, walked: the document's Take, its loop. A sequence of numbers, as a value, and the document's Put of it.
  Cut out of SqnW. Layer 3's mathematics: a sequence's body, a parameter at a time; its length. Cut out of WirF: what names no function of any dump. 'There is an input that fits', where a listed variable is a slice: the shape of the world by the elder law's second form.
-/
import Derived.Test.YtbjmfhcgkpjcfaaDoorG04
import Derived.Test.YtbjmfhcgkpjcfaaDoorG06
import Derived.Test.YtbjmfhcgkpjcfaaDoorG07
import Derived.Test.YtbjmfhcgkpjcfaaDoorG08
import Derived.Deep.RegionHeld3
import Derived.Maps.RangeWalk
import Derived.Deep.DeepWitnessRef
import Derived.Deep.DeepHandedRow
namespace Go.Proofs.YtbjmfhcgkpjcfaaDoor
open Go.RowKit

/-- What might be. -/
def gs (l : List UInt8) (n : Nat) : Int :=
  match n, l with
  | 1, a :: _ => a.toNat
  | 2, a :: b :: _ => ((a.toNat : Int) - 192) % 256 * 64 + ((b.toNat : Int) - 128) % 256
  | 3, a :: b :: c :: _ => ((a.toNat : Int) - 224) % 256 * 4096 + ((b.toNat : Int) - 128) % 256 * 64 + ((c.toNat : Int) - 128) % 256
  | 4, a :: b :: c :: d :: _ => ((a.toNat : Int) - 240) % 256 * 262144 + ((b.toNat : Int) - 128) % 256 * 4096 + ((c.toNat : Int) - 128) % 256 * 64 + ((d.toNat : Int) - 128) % 256
  | _, _ => 0
theorem gs_bd (l : List UInt8) (n : Nat) : 0 ≤ gs l n ∧ gs l n ≤ 68000000 := by
  unfold gs
  split
  · rename_i a _
    have := a.toNat_lt
    omega
  all_goals omega
theorem gs_put {r : Int} (h : isPt r = true) (m : List UInt8) : gs (putL r ++ m) (cnt r) = r := by
  obtain ⟨h0, h1, _⟩ := (isPt_iff r).1 h
  have hc : cnt r = if r < 128 then 1 else if r < 2048 then 2 else if r < 65536 then 3 else 4 := rfl
  by_cases a1 : r < 128
  · rw [putL_1 h a1, hc, if_pos a1]
    exact byt_nat r (by omega) (by omega)
  · by_cases a2 : r < 2048
    · rw [putL_2 h (by omega) a2, hc, if_neg a1, if_pos a2]
      have b0 := byt_nat (192 + r / 64) (by omega) (by omega)
      have b1 := byt_nat (128 + r % 64) (by omega) (by omega)
      simp only [List.cons_append, List.nil_append, gs]
      rw [b0, b1]; omega
    · by_cases a3 : r < 65536
      · rw [putL_3 h (by omega) a3, hc, if_neg a1, if_neg a2, if_pos a3]
        have b0 := byt_nat (224 + r / 4096) (by omega) (by omega)
        have b1 := byt_nat (128 + r / 64 % 64) (by omega) (by omega)
        have b2 := byt_nat (128 + r % 64) (by omega) (by omega)
        simp only [List.cons_append, List.nil_append, gs]
        rw [b0, b1, b2]; omega
      · rw [putL_4 h (by omega), hc, if_neg a1, if_neg a2, if_neg a3]
        have b0 := byt_nat (240 + r / 262144) (by omega) (by omega)
        have b1 := byt_nat (128 + r / 4096 % 64) (by omega) (by omega)
        have b2 := byt_nat (128 + r / 64 % 64) (by omega) (by omega)
        have b3 := byt_nat (128 + r % 64) (by omega) (by omega)
        simp only [List.cons_append, List.nil_append, gs]
        rw [b0, b1, b2, b3]; omega
/-- Where what might be has just these bytes, it is what is told; and what is told might be. -/
theorem gs_hit {l : List UInt8} {n : Nat} (hn : 1 ≤ n) (hl : (putL (gs l n)).length = n) (h : putL (gs l n) = l.take n) : takeL l = (gs l n, n) := by
  have hp : isPt (gs l n) = true := by
    cases hp : isPt (gs l n) with
    | true => rfl
    | false => rw [putL_no hp] at hl; simp at hl; omega
  have e : l = putL (gs l n) ++ l.drop n := by rw [h, List.take_append_drop]
  have := take_put hp (l.drop n)
  rw [← e] at this
  rw [this, ← putL_length hp, hl]
theorem gs_told {l : List UInt8} {n : Nat} (hn : 1 ≤ n) (h : (takeL l).2 = n) : gs l n = (takeL l).1 ∧ (putL (gs l n)).length = n ∧ putL (gs l n) = l.take n := by
  rcases take_is l with hz | ⟨r, m, hp, e, ht⟩
  · rw [hz] at h; simp at h; omega
  · rw [ht] at h ⊢
    have h : cnt r = n := h
    subst h
    have hg : gs l (cnt r) = r := by rw [e]; exact gs_put hp m
    refine ⟨hg, by rw [hg]; exact putL_length hp, ?_⟩
    rw [hg, e, ← putL_length hp, List.take_left]

set_option maxRecDepth 100000 in
set_option maxHeartbeats 4000000 in
theorem guess_any (A : Option Addr) (c : Nat) (l : List UInt8) (n : Nat) (w : World) (hl : l.length ≤ 4294967296) (hn1 : 1 ≤ n) (hn4 : n ≤ 4) (hnl : n ≤ l.length) (hr : Rd w A (bs l)) :
    Calls Tryd.prog 72 #[.slice A l.length c, .int .i64 n] w fun e w' => e = .returned (.int .i64 (gs l n)) ∧ Below w.heap.size w w' := by
  obtain rfl | rfl | rfl | rfl : n = 1 ∨ n = 2 ∨ n = 3 ∨ n = 4 := by omega
  · match l, hnl, hr, hl with
    | a :: l, _, hr, hl =>
      obtain ⟨b, o, rfl, hb, hc⟩ := hr.at_ (by simp)
      have c0 := hc 0 (by simp)
      simp only [Nat.add_zero, List.getElem_cons_zero] at c0
      have ha := a.toNat_lt
      clear hc
      go_enter Tryd.func72, Tryd.ntmps72
      go_wp2
      go_ret
      exact ⟨rfl, Below.refl _ _⟩
  · match l, hnl, hr, hl with
    | a :: a1 :: l, _, hr, hl =>
      obtain ⟨b, o, rfl, hb, hc⟩ := hr.at_ (by simp)
      have c0 := hc 0 (by simp)
      have c1 := hc 1 (by simp)
      simp only [Nat.add_zero, List.getElem_cons_zero, List.getElem_cons_succ] at c0 c1
      have ha := a.toNat_lt
      have e0 : IntKind.u8.wrap ((a.toNat : Int) - 192) = ((a.toNat : Int) - 192) % 256 := by rw [IntKind.wrap_u8]
      have ha1 := a1.toNat_lt
      have e1 : IntKind.u8.wrap ((a1.toNat : Int) - 128) = ((a1.toNat : Int) - 128) % 256 := by rw [IntKind.wrap_u8]
      clear hc
      go_enter Tryd.func72, Tryd.ntmps72
      go_wp2
      go_quiet (fail)
      go_wp2
      go_ret
      exact ⟨rfl, below_drewN (Below.refl _ _) _⟩
  · match l, hnl, hr, hl with
    | a :: a1 :: a2 :: l, _, hr, hl =>
      obtain ⟨b, o, rfl, hb, hc⟩ := hr.at_ (by simp)
      have c0 := hc 0 (by simp)
      have c1 := hc 1 (by simp)
      have c2 := hc 2 (by simp)
      simp only [Nat.add_zero, List.getElem_cons_zero, List.getElem_cons_succ] at c0 c1 c2
      have ha := a.toNat_lt
      have e0 : IntKind.u8.wrap ((a.toNat : Int) - 224) = ((a.toNat : Int) - 224) % 256 := by rw [IntKind.wrap_u8]
      have ha1 := a1.toNat_lt
      have e1 : IntKind.u8.wrap ((a1.toNat : Int) - 128) = ((a1.toNat : Int) - 128) % 256 := by rw [IntKind.wrap_u8]
      have ha2 := a2.toNat_lt
      have e2 : IntKind.u8.wrap ((a2.toNat : Int) - 128) = ((a2.toNat : Int) - 128) % 256 := by rw [IntKind.wrap_u8]
      clear hc
      go_enter Tryd.func72, Tryd.ntmps72
      go_wp2
      go_quiet (fail)
      go_wp2
      go_ret
      exact ⟨rfl, below_drewN (Below.refl _ _) _⟩
  · match l, hnl, hr, hl with
    | a :: a1 :: a2 :: a3 :: l, _, hr, hl =>
      obtain ⟨b, o, rfl, hb, hc⟩ := hr.at_ (by simp)
      have c0 := hc 0 (by simp)
      have c1 := hc 1 (by simp)
      have c2 := hc 2 (by simp)
      have c3 := hc 3 (by simp)
      simp only [Nat.add_zero, List.getElem_cons_zero, List.getElem_cons_succ] at c0 c1 c2 c3
      have ha := a.toNat_lt
      have e0 : IntKind.u8.wrap ((a.toNat : Int) - 240) = ((a.toNat : Int) - 240) % 256 := by rw [IntKind.wrap_u8]
      have ha1 := a1.toNat_lt
      have e1 : IntKind.u8.wrap ((a1.toNat : Int) - 128) = ((a1.toNat : Int) - 128) % 256 := by rw [IntKind.wrap_u8]
      have ha2 := a2.toNat_lt
      have e2 : IntKind.u8.wrap ((a2.toNat : Int) - 128) = ((a2.toNat : Int) - 128) % 256 := by rw [IntKind.wrap_u8]
      have ha3 := a3.toNat_lt
      have e3 : IntKind.u8.wrap ((a3.toNat : Int) - 128) = ((a3.toNat : Int) - 128) % 256 := by rw [IntKind.wrap_u8]
      clear hc
      go_enter Tryd.func72, Tryd.ntmps72
      go_wp2
      go_quiet (fail)
      go_wp2
      go_ret
      exact ⟨rfl, below_drewN (Below.refl _ _) _⟩
end Go.Proofs.YtbjmfhcgkpjcfaaDoor
namespace Go.Proofs.YtbjmfhcgkpjcfaaDoor
open Go.RowKit

theorem Rd.take {w : World} {A : Option Addr} {l : List UInt8} (h : Rd w A (bs l)) (n : Nat) : Rd w A (bs (l.take n)) := fun hp => by
  rw [bs_length, List.length_take] at hp
  obtain ⟨b, o, rfl, hb, hc⟩ := h (by rw [bs_length]; omega)
  refine ⟨b, o, rfl, hb, fun k u hu => hc k u ?_⟩
  simp only [bs, List.map_take] at hu ⊢
  rw [List.getElem?_take] at hu
  split at hu
  · exact hu
  · cases hu

theorem rPut_at (r : Int) (m : List UInt8) (n : Nat) (h : putL r = m) (hn : m.length = n) (w : World) : Calls Tryd.prog 73 #[.int .i64 r] w fun e w' => ∃ A c, e = .returned (.slice A n c) ∧ Rd w' A (bs m) ∧ Below w.heap.size w w' := by
  subst h hn
  exact rPut_any r w

theorem gs_hit' {l : List UInt8} {n : Nat} {g : Int} {U : List UInt8} (hn : 1 ≤ n) (hg : gs l n = g) (hU : putL g = U) (hl : U.length = n) (h : l.take n = U) : takeL l = (g, n) := by
  subst hg hU
  exact gs_hit hn hl h.symm
theorem gs_miss {l : List UInt8} {n : Nat} {g : Int} {U T : List UInt8} (hn : 1 ≤ n) (hg : gs l n = g) (hU : putL g = U) (_hl : U.length = n) (hT : l.take n = T) (h : U ≠ T) (hh : (takeL l).2 = 0 ∨ n ≤ (takeL l).2) : (takeL l).2 = 0 ∨ n + 1 ≤ (takeL l).2 := by
  subst hg hU hT
  rcases hh with hz | hz
  · exact .inl hz
  · by_cases e : (takeL l).2 = n
    · exact absurd (gs_told hn e).2.2 h
    · right; omega
theorem gs_long {l : List UInt8} {n : Nat} {g : Int} (hn : 1 ≤ n) (hg : gs l n = g) (hl : ¬ (putL g).length = n) (hh : (takeL l).2 = 0 ∨ n ≤ (takeL l).2) : (takeL l).2 = 0 ∨ n + 1 ≤ (takeL l).2 := by
  subst hg
  rcases hh with hz | hz
  · exact .inl hz
  · by_cases e : (takeL l).2 = n
    · exact absurd (gs_told hn e).2.1 hl
    · right; omega
theorem gs_end1 {l : List UInt8} {n : Nat} (_hn : 1 ≤ n) (h : l.length < n) (hh : (takeL l).2 = 0 ∨ n ≤ (takeL l).2) : takeL l = (0, 0) := by
  have := (take_snd_le l).1
  exact take_zero (by omega)
theorem gs_end2 {l : List UInt8} {n : Nat} (h : 4 < n) (hh : (takeL l).2 = 0 ∨ n ≤ (takeL l).2) : takeL l = (0, 0) := by
  have := (take_snd_le l).2
  exact take_zero (by omega)
theorem ne_of_beq_bytes {a b : List UInt8} (h : (a == b) = false) : a ≠ b := by
  intro e
  rw [e, beq_self_eq_true] at h
  cases h

set_option maxRecDepth 100000 in
set_option maxHeartbeats 800000 in
theorem rtake_any (A : Option Addr) (c : Nat) (l : List UInt8) (w : World) (hl : l.length ≤ 4294967296) (hlc : l.length ≤ c) (hr : Rd w A (bs l)) :
    Calls Tryd.prog 54 #[.slice A l.length c] w fun e w' => e = Tk l ∧ Below w.heap.size w w' := by
  cases l with
  | nil =>
    go_enter Tryd.func54, Tryd.ntmps54
    go_wp2
    refine wp_loop_rounds 1 ?_
    rw [rounds_succ]
    go_wp2
    go_ret2
    exact ⟨tk_zero rfl, Below.refl _ _⟩
  | cons a0 l0 =>
    obtain ⟨l, hll⟩ : ∃ l, l = a0 :: l0 := ⟨_, rfl⟩
    rw [← hll] at hl hlc hr ⊢
    have hpos : 0 < l.length := by rw [hll]; simp
    clear hll a0 l0
    obtain ⟨b, o, rfl, hb, hcc⟩ := hr.at_ hpos
    clear hcc
    go_enter Tryd.func54, Tryd.ntmps54
    go_wp2
    go_loopw [4] (fun i wr => ∃ n : Nat, 1 ≤ n ∧ n ≤ 5 ∧ i = .int .i64 n ∧ ((takeL l).2 = 0 ∨ n ≤ (takeL l).2) ∧ Below w.heap.size w wr) (fun i _ => 5 - (intOf i).toNat)
    case atStart => exact ⟨1, Nat.le_refl _, by omega, rfl, by omega, Below.refl _ _⟩
    case round =>
      obtain ⟨n, hn1, hn5, rfl, hT, hbw⟩ := hrel
      have HT := Lib.hid hT
      clear hT
      by_cases hn4 : n ≤ 4
      · by_cases hnl : n ≤ l.length
        · have hrw := hr.below hbw
          obtain ⟨gd0, gd1⟩ := gs_bd l n
          obtain ⟨g, hg⟩ : ∃ g, gs l n = g := ⟨_, rfl⟩
          have HE : Hid (gs l n = g) := Lib.hid hg
          rw [hg] at gd0 gd1
          by_cases hlen : (putL g).length = n
          · obtain ⟨T, hT⟩ : ∃ T, l.take n = T := ⟨_, rfl⟩
            obtain ⟨U, hU⟩ : ∃ U, putL g = U := ⟨_, rfl⟩
            rw [hU] at hlen
            have HP := Lib.hid hU
            have HU := Lib.hid hlen
            have HT2 := Lib.hid hT
            have HL := Lib.hid (show T.length = n by rw [← hT, List.length_take]; omega)
            have hrT : Rd wr (some ⟨b, o, none⟩) (bs T) := by rw [← hT]; exact hrw.take n
            have HCV := Lib.hid (show ∀ (W : World) (A' : Option Addr) (c' : Nat), Rd W A' (bs T) → (convert 28 9 (.slice A' n c')).run Tryd.prog W = .ok (.string ⟨T.toArray⟩) W from fun W A' c' h => conv_str Tryd.underlying28 Tryd.underlying5 HL.out h _ Tryd.underlying9)
            have HCW := Lib.hid (show ∀ (W : World) (A' : Option Addr) (c' : Nat), Rd W A' (bs U) → (convert 28 9 (.slice A' n c')).run Tryd.prog W = .ok (.string ⟨U.toArray⟩) W from fun W A' c' h => conv_str Tryd.underlying28 Tryd.underlying5 HU.out h _ Tryd.underlying9)
            clear hlen hT hU hg
            go_wp2_with fail
            refine (guess_any _ c l n _ hl hn1 hn4 hnl hrw).mono ?_
            rw [HE.out]
            rintro e w2 ⟨rfl, hb2⟩
            have hr2 := hrT.below hb2
            have hb2 : Below w.heap.size w w2 := hbw.trans (hb2.mono hbw.size)
            clear hrT hrw
            have n0 : (0 : Int) ≤ (n : Int) := by omega
            have n1 : (n : Int) ≤ (c : Int) := by omega
            go_wp2_with fail
            have hcv := HCV.out
            have hcw := HCW.out
            go_region_held (fun w' => Rd w' (some ⟨b, o, none⟩) (bs T) ∧ Below w.heap.size w w') (first | exact ⟨hr2, hb2.drew⟩ | assumption | exact ⟨Rd.below (And.left (by assumption)) hb3, Below.trans (And.right (by assumption)) (hb3.mono (Below.size (And.right (by assumption))))⟩) (first | (go_at_call 73; refine (rPut_at _ U n HP.out HU.out _).mono ?_; rintro e w3 ⟨A3, c3, rfl, hr3, hb3⟩))
            all_goals
              go_wp2
            · have hUT : U = T := eq_of_beq (by assumption)
              go_ret2
              refine ⟨tk_is (n := n) (gs_hit' hn1 HE.out HP.out HU.out (HT2.out.trans hUT.symm)) rfl, And.right (by assumption)⟩
            · have hUT : U ≠ T := ne_of_beq_bytes (by assumption)
              go_roundw
              case rel => exact ⟨n + 1, by omega, by omega, by go_num, gs_miss hn1 HE.out HP.out HU.out HT2.out hUT HT.out, And.right (by assumption)⟩
              case measure => simp [intOf]; omega
          · have HP := Lib.hid (show putL g = putL g from rfl)
            have hne : (((putL g).length : Int) == (n : Int)) = false := beq_false_of_ne (by omega)
            clear hg
            go_wp2_with fail
            refine (guess_any _ c l n _ hl hn1 hn4 hnl hrw).mono ?_
            rw [HE.out]
            rintro e w2 ⟨rfl, hb2⟩
            have hb2 : Below w.heap.size w w2 := hbw.trans (hb2.mono hbw.size)
            have n0 : (0 : Int) ≤ (n : Int) := by omega
            have n1 : (n : Int) ≤ (c : Int) := by omega
            go_wp2_with fail
            have hb2 := hb2.drew
            refine wp_region_any (by kernel_rfl) ?_
            change wpAny _ _ _ _ _ _ _ (World.drew _)
            refine wpAny_take (i := 0) (oi := ⟨some 19, _, _, _, _, _⟩) (v := ?_) rfl (by kernel_rfl) (by kernel_rfl) (by kernel_rfl) (fun _ _ _ h => h) (Or.inl ⟨rfl, ?_⟩) ?_
            rotate_left 1
            · intro W
              go_simp <;> with_reducible rfl
            try go_frame
            refine wpAny_take (i := 3) (oi := ⟨some 22, _, _, _, _, _⟩) (v := ?_) rfl (by kernel_rfl) (by kernel_rfl) (by kernel_rfl) (fun _ _ _ h => h) (Or.inl ⟨rfl, ?_⟩) ?_
            rotate_left 1
            · intro W
              go_simp <;> with_reducible rfl
            try go_frame
            refine wpAny_ready (rs := [1]) (by kernel_rfl) (by simp) ?_
            refine AllReady.cons (o := ⟨some 20, _, _, _, _, _⟩) rfl (fun K hK => ?_) AllReady.nil
            go_simp
            go_at_call 73
            refine (rPut_any g _).mono ?_
            rintro e w3 ⟨A3, c3, rfl, hr3, hb3⟩
            have hb2 := hb2.trans (hb3.mono hb2.size)
            clear hb3 hr3
            refine hK _ _ ?_
            clear hK K
            refine wpAny_take (i := 2) (oi := ⟨some 21, _, _, _, _, _⟩) (v := ?_) rfl (by kernel_rfl) (by kernel_rfl) (by kernel_rfl) (fun _ _ _ h => h) (Or.inl ⟨rfl, ?_⟩) ?_
            rotate_left 1
            · intro W
              go_simp <;> with_reducible rfl
            try go_frame
            refine wpAny_take (i := 4) (oi := ⟨some 23, _, _, _, _, _⟩) (v := ?_) rfl (by kernel_rfl) (by kernel_rfl) (by kernel_rfl) (fun _ _ _ h => h) (Or.inl ⟨rfl, ?_⟩) ?_
            rotate_left 1
            · intro W
              go_simp <;> with_reducible rfl
            try go_frame
            refine wpAny_take (i := 5) (oi := ⟨some 24, _, _, _, _, _⟩) (v := ?_) rfl (by kernel_rfl) (by kernel_rfl) (by kernel_rfl) (fun _ _ _ h => h) (Or.inl ⟨rfl, ?_⟩) ?_
            rotate_left 1
            · intro W
              go_simp <;> with_reducible rfl
            try go_frame
            refine wpAny_take (i := 6) (oi := ⟨some 25, _, _, _, _, _⟩) (v := undef) rfl (by kernel_rfl) (by kernel_rfl) (by kernel_rfl) (fun _ _ _ h => h) (Or.inr ⟨rfl, rfl⟩) ?_
            try go_frame
            refine wpAny_take (i := 7) (oi := ⟨some 26, _, _, _, _, _⟩) (v := undef) rfl (by kernel_rfl) (by kernel_rfl) (by kernel_rfl) (fun _ _ _ h => h) (Or.inr ⟨rfl, rfl⟩) ?_
            try go_frame
            refine wpAny_take (i := 8) (oi := ⟨some 27, _, _, _, _, _⟩) (v := undef) rfl (by kernel_rfl) (by kernel_rfl) (by kernel_rfl) (fun _ _ _ h => h) (Or.inr ⟨rfl, rfl⟩) ?_
            try go_frame
            refine wpAny_take (i := 9) (oi := ⟨some 28, _, _, _, _, _⟩) (v := undef) rfl (by kernel_rfl) (by kernel_rfl) (by kernel_rfl) (fun _ _ _ h => h) (Or.inr ⟨rfl, rfl⟩) ?_
            try go_frame
            refine wpAny_take (i := 10) (oi := ⟨some 29, _, _, _, _, _⟩) (v := undef) rfl (by kernel_rfl) (by kernel_rfl) (by kernel_rfl) (fun _ _ _ h => h) (Or.inr ⟨rfl, rfl⟩) ?_
            try go_frame
            refine wpAny_take (i := 11) (oi := ⟨some 30, _, _, _, _, _⟩) (v := undef) rfl (by kernel_rfl) (by kernel_rfl) (by kernel_rfl) (fun _ _ _ h => h) (Or.inr ⟨rfl, rfl⟩) ?_
            try go_frame
            refine wpAny_take (i := 12) (oi := ⟨some 31, _, _, _, _, _⟩) (v := undef) rfl (by kernel_rfl) (by kernel_rfl) (by kernel_rfl) (fun _ _ _ h => h) (Or.inr ⟨rfl, rfl⟩) ?_
            try go_frame
            refine wpAny_take (i := 13) (oi := ⟨some 32, _, _, _, _, _⟩) (v := undef) rfl (by kernel_rfl) (by kernel_rfl) (by kernel_rfl) (fun _ _ _ h => h) (Or.inr ⟨rfl, rfl⟩) ?_
            try go_frame
            refine wpAny_take (i := 14) (oi := ⟨some 33, _, _, _, _, _⟩) (v := ?_) rfl (by kernel_rfl) (by kernel_rfl) (by kernel_rfl) (fun _ _ _ h => h) (Or.inl ⟨rfl, ?_⟩) ?_
            rotate_left 1
            · intro W
              go_simp <;> with_reducible rfl
            try go_frame
            refine wpAny_done (by kernel_rfl) ?_ _
            all_goals
              go_wp2
              go_roundw
              case rel => exact ⟨n + 1, by omega, by omega, by go_num, gs_long hn1 HE.out hlen HT.out, hb2⟩
              case measure => simp [intOf]; omega
        · have E := Lib.hid (tk_zero (gs_end1 hn1 (Nat.lt_of_not_le hnl) HT.out))
          go_wp2
          go_ret2
          exact ⟨E.out, hbw⟩
      · have E := Lib.hid (tk_zero (gs_end2 (n := n) (by omega) HT.out))
        go_wp2
        go_ret2
        exact ⟨E.out, hbw⟩
end Go.Proofs.YtbjmfhcgkpjcfaaDoor
namespace Go.Proofs.YtbjmfhcgkpjcfaaDoor
open Go.RowKit

theorem sqn_v {kind f : Int} {l : List Int} {n : Nat} (hn : l.length = n) (f0 : 0 ≤ f) (f1 : f < 256) (A : Option Addr) (c : Nat) : sqV (sqN kind f l) A c = .agg #[.int .i64 kind, .int .u8 0, .slice A n c, .string ⟨#[]⟩, .int .u8 f, .string ⟨#[]⟩] := by
  have h : (sqN kind f l).params.length = n := by show (l.map fun n => [n]).length = n; rw [List.length_map]; exact hn
  unfold sqV
  rw [h]
  show Value.agg #[.int .i64 kind, .int .u8 0, .slice A n c, .string ⟨#[]⟩, .int .u8 ((byt f).toNat : Int), .string ⟨#[]⟩] = _
  rw [byt_nat f f0 f1]
end Go.Proofs.YtbjmfhcgkpjcfaaDoor
namespace Go.Proofs.YtbjmfhcgkpjcfaaDoor
open Go.RowKit

theorem str_cat (a b c : List UInt8) (h : a ++ b = c) : (⟨a.toArray⟩ : ByteArray) ++ (⟨b.toArray⟩ : ByteArray) = ⟨c.toArray⟩ := by
  subst h
  apply ByteArray.ext
  simp [ByteArray.data_append]
theorem partL_snoc (p : List Int) (n : Int) : partL (p ++ [n]) = partL p ++ (if p = [] then [] else [58]) ++ textL n := by
  match p with
  | [] => simp [partL]
  | [m] => simp [partL]
  | m :: k :: p =>
    have ih := partL_snoc (k :: p) n
    show textL m ++ (58 :: partL (k :: p ++ [n])) = _
    rw [ih]
    simp [partL]
theorem parL_snoc (l : List (List Int)) (p : List Int) : parL (l ++ [p]) = parL l ++ (if l = [] then [] else [59]) ++ partL p := by
  match l with
  | [] => simp [parL]
  | [m] => simp [parL]
  | m :: k :: l =>
    have ih := parL_snoc (k :: l) p
    show partL m ++ (59 :: parL (k :: l ++ [p])) = _
    rw [ih]
    simp [parL]
theorem partL_len : ∀ (p : List Int), partOk p → (partL p).length ≤ 22 * p.length := by
  intro p ho
  match p with
  | [] => simp [partL]
  | [n] =>
    have := textL_length n (by have := ho n (List.mem_cons_self ..); omega)
    simp only [partL, List.length_cons, List.length_nil]; omega
  | n :: m :: p =>
    have h1 := textL_length n (by have := ho n (List.mem_cons_self ..); omega)
    have h2 := partL_len (m :: p) (fun x hx => ho x (List.mem_cons_of_mem _ hx))
    show (textL n ++ (58 :: partL (m :: p))).length ≤ _
    rw [List.length_append, List.length_cons]
    simp only [List.length_cons] at *
    omega
theorem partL_take {p : List Int} {k : Nat} (h : k < p.length) : partL (p.take (k + 1)) = partL (p.take k) ++ (if k = 0 then [] else [58]) ++ textL p[k] := by
  rw [List.take_succ_eq_append_getElem h, partL_snoc]
  congr 2
  by_cases hk : k = 0
  · subst hk; simp
  · rw [if_neg hk, if_neg]
    intro e
    have := congrArg List.length e
    rw [List.length_take, List.length_nil] at this
    omega
theorem parL_take {l : List (List Int)} {k : Nat} (h : k < l.length) : parL (l.take (k + 1)) = parL (l.take k) ++ (if k = 0 then [] else [59]) ++ partL l[k] := by
  rw [List.take_succ_eq_append_getElem h, parL_snoc]
  congr 2
  by_cases hk : k = 0
  · subst hk; simp
  · rw [if_neg hk, if_neg]
    intro e
    have := congrArg List.length e
    rw [List.length_take, List.length_nil] at this
    omega
theorem parL_len : ∀ (l : List (List Int)), (∀ p ∈ l, p.length ≤ 8 ∧ partOk p) → (parL l).length ≤ 177 * l.length := by
  intro l ho
  match l with
  | [] => simp [parL]
  | [p] =>
    have h := ho p (List.mem_cons_self ..)
    have := partL_len p h.2
    simp only [parL, List.length_cons, List.length_nil]; omega
  | p :: q :: l =>
    have h := ho p (List.mem_cons_self ..)
    have h1 := partL_len p h.2
    have h2 := parL_len (q :: l) (fun x hx => ho x (List.mem_cons_of_mem _ hx))
    show (partL p ++ (59 :: parL (q :: l))).length ≤ _
    rw [List.length_append, List.length_cons]
    simp only [List.length_cons] at *
    omega
theorem parOk_lens {l : List (List Int)} (h : parOk l = true) : l.length ≤ 16 ∧ ∀ p ∈ l, p.length ≤ 8 ∧ partOk p := by
  simp only [parOk, Bool.and_eq_true, decide_eq_true_eq, List.all_eq_true] at h
  refine ⟨h.1.1, fun p hp => ?_⟩
  obtain ⟨⟨_, h1⟩, h2⟩ := h.2 p hp
  exact ⟨h1, fun n hn => h2 n hn⟩
end Go.Proofs.YtbjmfhcgkpjcfaaDoor
namespace Go.Proofs.YtbjmfhcgkpjcfaaDoor
open Go.RowKit

/-- Bytes and no error; no bytes and an error. -/
def WYes (T : List UInt8) (w : World) (e : Ending) (w' : World) : Prop := (∃ A c, e = .returned (.tuple #[.slice A T.length c, .int .i64 0]) ∧ T.length ≤ c ∧ Rd w' A (bs T)) ∧ Below w.heap.size w w'
def WNo (m : Int) (w : World) (e : Ending) (w' : World) : Prop := e = .returned (.tuple #[.slice none 0 0, .int .i64 m]) ∧ Below w.heap.size w w'
theorem body_len {s : Sq} (hp : parOk s.params = true) (hi : s.inter.length ≤ 2) : (bodyL s).length ≤ 3000 := by
  obtain ⟨h1, h2⟩ := parOk_lens hp
  have h3 := parL_len s.params h2
  have h4 : (privL s.priv).length ≤ 1 := by unfold privL; split <;> simp
  unfold bodyL
  rw [List.length_append, List.length_append]
  omega
end Go.Proofs.YtbjmfhcgkpjcfaaDoor
namespace Go.Proofs.YtbjmfhcgkpjcfaaDoor
section
variable {H : Type} {enc : TypeId × Value → H}
theorem witness_row_ref {C : Checked} {os : Os} {f : FuncId} {fn : Func} {s : OpenSpec} {conds : List PathCond} {apart : Bool} {laid : List (String × DataW Unit)} (modest : Bool) (w0 : World) (args : Array Value) (hos : w0.os = os)
    (hv : (w0.forCall (fun _ _ => 0) ⟨#[], args, []⟩).variablesRefB C.prog = true)
    (hr : ((w0.forCall (fun _ _ => 0) ⟨#[], args, []⟩).heap.toList.drop C.prog.globals.size).take ((begin C.prog (fun _ _ => 0) default).world.heap.size - C.prog.globals.size) =
      (begin C.prog (fun _ _ => 0) default).world.heap.toList.drop C.prog.globals.size)
    (hok : Input.okWideB C.prog (w0.forCall (fun _ _ => 0) ⟨#[], args, []⟩) f ⟨#[], args, []⟩ = true)
    (hrow : s.preRow enc C.prog fn conds apart laid (w0.forCall (fun _ _ => 0) ⟨#[], args, []⟩).memory args) :
    ∃ (w : World) (tape : Tape) (i : Input), w.os = os ∧ (w.forCall tape i).Shaped C.prog ∧ i.vars = [] ∧ Input.okWide C.prog (w.forCall tape i) .any w.heap.size f i ∧
      s.preRow enc C.prog fn conds apart laid (w.forCall tape i).memory i.args ∧ ({ modest := modest } : Assume).holds C.prog (lone (Frame.enter C.prog f i.args .normal) [] (w.forCall tape i)) := by
  obtain ⟨w, tape, i, h1, h2, h3, h4, h5, h6, _⟩ := OpenSpec.witness_stopped_atRef (enc := enc) (C := C) (fn := fn) (s := s) (conds := conds) (apart := apart) (laid := laid) modest w0 args hos hv hr hok hrow (fun _ _ _ => 0)
  exact ⟨w, tape, i, h1, h2, h3, h4, h5, h6⟩
end
end Go.Proofs.YtbjmfhcgkpjcfaaDoor
