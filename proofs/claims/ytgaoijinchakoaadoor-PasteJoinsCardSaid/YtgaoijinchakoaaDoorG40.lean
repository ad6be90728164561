/-
  Stage 17, the document's paste, walked: Send, Take, Focus, Looked.
-/
import Derived.Test.YtgaoijinchakoaaDoorG21
namespace Go.Proofs.YtgaoijinchakoaaDoor
open Go.RowKit
section
attribute [local go_sem] Oper.semAt_some
def TakD (l : List UInt8) (w : World) (e : Ending) (w' : World) : Prop := ∃ A c, e = .returned (.tuple #[.slice A (takeP l).1.length c, .int .i64 ((takeP l).2.1 : Nat), .bool (takeP l).2.2]) ∧ (takeP l).1.length ≤ c ∧ Rd w' A (bs (takeP l).1) ∧ Below w.heap.size w w'
theorem TakD.no {l : List UInt8} {w w' : World} (h : takeP l = ([], 0, false)) (hb : Below w.heap.size w w') : TakD l w (.returned (.tuple #[.slice none 0 0, .int .i64 0, .bool false])) w' := by
 unfold TakD
 rw [h]
 exact ⟨none, 0, rfl, Nat.le_refl _, Rd.nil _ _, hb⟩
theorem TakD.yes {l L : List UInt8} {k m : Nat} {x : Int} {w w' : World} {A : Option Addr} {c : Nat} (h : takeP l = (L, k, true)) (hm : L.length = m) (hx : (k : Int) = x) (hc : m ≤ c) (ho : Rd w' A (bs L)) (hb : Below w.heap.size w w') : TakD l w (.returned (.tuple #[.slice A m c, .int .i64 x, .bool true])) w' := by
 unfold TakD
 subst hm hx
 rw [h]
 exact ⟨A, c, rfl, hc, ho, hb⟩
set_option maxRecDepth 100000 in
set_option maxHeartbeats 16000000 in
theorem rtake17_any (A : Option Addr) (n c : Nat) (l : List UInt8) (hn : l.length = n) (w : World) (hl : n ≤ 4000000) (hc : n ≤ c) (hr : Rd w A (bs l)) :
 Calls Tryd.prog 17 #[.slice A n c] w (TakD l w) := by
 obtain ⟨q, hq⟩ : ∃ q, begB l openB = q := ⟨_, rfl⟩
 have H1 : Hid (∀ W, Below w.heap.size w W → Calls Tryd.prog 32 #[.slice A n c, .string ⟨#[27, 91, 50, 48, 48, 126]⟩] W fun e w' => e = .returned (.bool q) ∧ Below W.heap.size W w') := Lib.hid fun W hW => rbegins_any A n c l openB 6 q hn rfl hq hc (by decide) W (hr.below hW)
 have HN := Lib.hid hn
 have HQ := Lib.hid hq
 clear hq hn
 cases q with
 | false =>
   have hno : takeP l = ([], 0, false) := by unfold takeP; rw [HQ.out, if_neg (by simp)]
   go_enter Tryd.func17, Tryd.ntmps17
   go_wp2_with fail
   refine (H1.out _ (Below.refl _ _)).mono ?_
   rintro e w1 ⟨rfl, hb⟩
   go_wp2_with fail
   refine bodyPost_ret (v := .tuple #[.slice none 0 0, .int .i64 0, .bool false]) (by simp [results, Tryd.results17, go_sem]) rfl ?_
   exact TakD.no hno hb
 | true =>
   have h6 : 6 ≤ n := by
    obtain ⟨r0, hr0⟩ := beg_iff.1 HQ.out
    rw [← HN.out, hr0, List.length_append]; simp [openB]
   have hso : ∀ w, (sizeOf 5).run Tryd.prog w = .ok 1 w := fun w => by kernel_rfl
   go_enter Tryd.func17, Tryd.ntmps17
   go_wp2_with fail
   refine (H1.out _ (Below.refl _ _)).mono ?_
   rintro e w1 ⟨rfl, hb1⟩
   go_wp2_with fail
   clear H1
   go_loopw [5] (fun i wr => ∃ k : Nat, 6 ≤ k ∧ k ≤ n ∧ i = .int .i64 k ∧ Hid (runL (l.drop 6) = (k - 6) + runL (l.drop k)) ∧ Below w.heap.size w wr) (fun i _ => n - (intOf i).toNat)
   case atStart => exact ⟨6, by decide, h6, rfl, Lib.hid (by simp), hb1⟩
   case round =>
    obtain ⟨k, hk6, hk, rfl, HK, hbw⟩ := hrel
    clear hb1
    by_cases hlt : k < n
    ·have hkl : k < l.length := by rw [HN.out]; exact hlt
     have hrw := hr.below hbw
     obtain ⟨b, o, rfl, hb, hcc⟩ := hrw.at_ (by omega)
     have hdr := (RdIn.of hrw).drop k hkl
     clear hcc
     obtain ⟨⟨r, m⟩, htk⟩ : ∃ x, takeL (l.drop k) = x := ⟨_, rfl⟩
     have hm : m ≤ n - k := by have := (take_snd_le (l.drop k)).1; rw [htk, List.length_drop, HN.out] at this; exact this
     obtain ⟨p, hp⟩ : ∃ p, clnP r = p := ⟨_, rfl⟩
     have HST : Hid (runL (l.drop k) = if m = 0 ∨ p = false then 0 else m + runL (l.drop (k + m))) := Lib.hid (by
      have h := run_step17 (l := l.drop k) (by intro e; have := congrArg List.length e; simp at this; omega)
      rw [htk] at h
      simp only [hp, List.drop_drop] at h
      exact h)
     have HTK : Hid (∀ c W, n - k ≤ c → Rd W (some ⟨b, o + k, none⟩) (bs (l.drop k)) → Calls Tryd.prog 23 #[.slice (some ⟨b, o + k, none⟩) (n - k) c] W fun e w' => e = .returned (.tuple #[.int .i64 r, .int .i64 m]) ∧ Below W.heap.size W w') := Lib.hid fun c W hc hR => rtake_tup _ (n - k) c (l.drop k) r m W (by rw [List.length_drop, HN.out]) htk (by rw [List.length_drop, HN.out]; omega) hc hR
     have HCL : Hid (∀ W, Calls Tryd.prog 24 #[.int .i64 r] W fun e w' => e = .returned (.bool p) ∧ Below W.heap.size W w') := Lib.hid fun W => rclean17_any r p hp W
     clear htk hp
     go_wp2_with fail
     refine (HTK.out _ _ (by omega) hdr).mono ?_
     rintro e w2 ⟨rfl, hb2⟩
     have hbw2 := hbw.trans (hb2.mono hbw.size)
     clear HTK hdr hb2 hbw hrw hb
     by_cases hm0 : m = 0
     ·subst hm0
      have h0 := HST.out
      rw [if_pos (Or.inl rfl)] at h0
      have hK0 := HK.out
      rw [h0] at hK0
      have HBR := hbw2
      obtain ⟨WR, hWR⟩ : ∃ WR, w2 = WR := ⟨_, rfl⟩
      rw [hWR] at HBR ⊢
      clear hWR hbw2 HST HK HCL h0
      obtain ⟨A5, hcut5, hcr5⟩ := cut_run (P := Tryd.prog) (T := 24) rfl Tryd.underlying24 hso (some ⟨b, o, none⟩) n c k hk hc
      have hr5 : Rd WR A5 (bs (l.drop k)) := (hcr5 WR.heap.size WR l HN.out (RdIn.of (hr.below HBR))).rd (Nat.le_refl _)
      have HBG : Hid (∀ q2, begB (l.drop k) closeB = q2 → Calls Tryd.prog 32 #[.slice A5 (n - k) (c - k), .string ⟨#[27, 91, 50, 48, 49, 126]⟩] WR fun e w' => e = .returned (.bool q2) ∧ Below WR.heap.size WR w') := Lib.hid fun q2 hq2 => rbegins_any A5 (n - k) (c - k) (l.drop k) closeB 6 q2 (by rw [List.length_drop, HN.out]) rfl hq2 (by omega) (by decide) WR hr5
      have hKe : runL (l.drop 6) = k - 6 := by omega
      obtain ⟨q2, hq2⟩ : ∃ q2, begB (l.drop k) closeB = q2 := ⟨_, rfl⟩
      have HTK : Hid (takeP l = if q2 = true then ((l.drop 6).take (k - 6), k + 6, true) else ([], 0, false)) := Lib.hid (by
       unfold takeP
       rw [HQ.out, hKe, show 6 + (k - 6) = k by omega, hq2]
       cases q2 <;> simp)
      have HB5 := Lib.hid (HBG.out q2 hq2)
      clear hcr5 hr5 HBG hq2 hKe hK0
      cases q2 with
      | false =>
        have HTF := Lib.hid HTK.out
        clear HTK
        go_wp2_with fail
        refine HB5.out.mono ?_
        rintro e w7 ⟨rfl, hb7⟩
        go_wp2_with fail
        refine bodyPost_ret (v := .tuple #[.slice none 0 0, .int .i64 0, .bool false]) (by simp [results, Tryd.results17, go_sem]) rfl ?_
        exact TakD.no (HTF.out.trans (if_neg (by decide))) (HBR.trans (hb7.mono HBR.size))
      | true =>
        go_wp2_with fail
        refine HB5.out.mono ?_
        rintro e w7 ⟨rfl, hb7⟩
        have hB7 := HBR.trans (hb7.mono HBR.size)
        have hr7 : Rd w7 (some ⟨b, o + 6, none⟩) (bs ((l.drop 6).take (k - 6))) := rd_upto17 _ ((RdIn.of (hr.below hB7)).drop 6 (by rw [HN.out]; omega))
        go_wp2_with fail
        refine bodyPost_ret (v := .tuple #[.slice (some ⟨b, o + 6, none⟩) (k - 6) (c - 6), .int .i64 ((k : Int) + 6), .bool true]) (by simp [results, Tryd.results17, go_sem]) rfl ?_
        exact TakD.yes (HTK.out.trans (if_pos trivial)) (by rw [List.length_take, List.length_drop, HN.out]; omega) (by omega) (by omega) hr7 hB7
     ·have hm1 : 0 < m := by omega
      cases p with
      | false =>
        have h0 := HST.out
        rw [if_pos (Or.inr rfl)] at h0
        have hK0 := HK.out
        rw [h0] at hK0
        clear HST HK h0
        go_wp2_with fail
        refine (HCL.out _).mono ?_
        rintro e w3 ⟨rfl, hb3⟩
        have HBR := hbw2.trans (hb3.mono hbw2.size)
        obtain ⟨WR, hWR⟩ : ∃ WR, w3 = WR := ⟨_, rfl⟩
        rw [hWR] at HBR ⊢
        clear hWR hbw2 HCL hb3
        obtain ⟨A5, hcut5, hcr5⟩ := cut_run (P := Tryd.prog) (T := 24) rfl Tryd.underlying24 hso (some ⟨b, o, none⟩) n c k hk hc
        have hr5 : Rd WR A5 (bs (l.drop k)) := (hcr5 WR.heap.size WR l HN.out (RdIn.of (hr.below HBR))).rd (Nat.le_refl _)
        have HBG : Hid (∀ q2, begB (l.drop k) closeB = q2 → Calls Tryd.prog 32 #[.slice A5 (n - k) (c - k), .string ⟨#[27, 91, 50, 48, 49, 126]⟩] WR fun e w' => e = .returned (.bool q2) ∧ Below WR.heap.size WR w') := Lib.hid fun q2 hq2 => rbegins_any A5 (n - k) (c - k) (l.drop k) closeB 6 q2 (by rw [List.length_drop, HN.out]) rfl hq2 (by omega) (by decide) WR hr5
        have hKe : runL (l.drop 6) = k - 6 := by omega
        obtain ⟨q2, hq2⟩ : ∃ q2, begB (l.drop k) closeB = q2 := ⟨_, rfl⟩
        have HTK : Hid (takeP l = if q2 = true then ((l.drop 6).take (k - 6), k + 6, true) else ([], 0, false)) := Lib.hid (by
         unfold takeP
         rw [HQ.out, hKe, show 6 + (k - 6) = k by omega, hq2]
         cases q2 <;> simp)
        have HB5 := Lib.hid (HBG.out q2 hq2)
        clear hcr5 hr5 HBG hq2 hKe hK0
        cases q2 with
        | false =>
          have HTF := Lib.hid HTK.out
          clear HTK
          go_wp2_with fail
          refine HB5.out.mono ?_
          rintro e w7 ⟨rfl, hb7⟩
          go_wp2_with fail
          refine bodyPost_ret (v := .tuple #[.slice none 0 0, .int .i64 0, .bool false]) (by simp [results, Tryd.results17, go_sem]) rfl ?_
          exact TakD.no (HTF.out.trans (if_neg (by decide))) (HBR.trans (hb7.mono HBR.size))
        | true =>
          go_wp2_with fail
          refine HB5.out.mono ?_
          rintro e w7 ⟨rfl, hb7⟩
          have hB7 := HBR.trans (hb7.mono HBR.size)
          have hr7 : Rd w7 (some ⟨b, o + 6, none⟩) (bs ((l.drop 6).take (k - 6))) := rd_upto17 _ ((RdIn.of (hr.below hB7)).drop 6 (by rw [HN.out]; omega))
          go_wp2_with fail
          refine bodyPost_ret (v := .tuple #[.slice (some ⟨b, o + 6, none⟩) (k - 6) (c - 6), .int .i64 ((k : Int) + 6), .bool true]) (by simp [results, Tryd.results17, go_sem]) rfl ?_
          exact TakD.yes (HTK.out.trans (if_pos trivial)) (by rw [List.length_take, List.length_drop, HN.out]; omega) (by omega) (by omega) hr7 hB7
      | true =>
        have h0 := HST.out
        rw [if_neg (by simp; omega)] at h0
        have HK2 := Lib.hid (show runL (l.drop 6) = (k + m - 6) + runL (l.drop (k + m)) by rw [HK.out, h0]; omega)
        clear HST HK h0
        go_wp2_with fail
        refine (HCL.out _).mono ?_
        rintro e w3 ⟨rfl, hb3⟩
        have hbw3 := hbw2.trans (hb3.mono hbw2.size)
        clear HCL hbw2 hb3
        go_wp2_with fail
        go_roundw
        case rel => exact ⟨k + m, by omega, by omega, by go_num, HK2, hbw3⟩
        case measure => simp [intOf]; omega
    ·obtain rfl : k = n := by omega
     have hK0 : runL (l.drop 6) = k - 6 + 0 := by
      rw [HK.out, List.drop_eq_nil_of_le (by rw [HN.out]; omega)]; simp [runL, runN]
     have HBR := hbw
     obtain ⟨WR, hWR⟩ : ∃ WR, wr = WR := ⟨_, rfl⟩
     rw [hWR] at HBR ⊢
     clear hWR hbw HK
     have hdn : l.drop k = [] := List.drop_eq_nil_of_le (by rw [HN.out]; exact Nat.le_refl _)
     have hKe : runL (l.drop 6) = k - 6 := by omega
     have HTF : Hid (takeP l = ([], 0, false)) := Lib.hid (by
      unfold takeP
      rw [HQ.out, hKe, show 6 + (k - 6) = k by omega, hdn]
      exact if_neg (fun h => absurd h.2 (by decide)))
     clear hKe hK0 hdn
     go_wp2_with fail
     all_goals
      refine Calls.mono (rbegins_any _ _ _ [] closeB 6 false rfl rfl (by decide) (Nat.zero_le _) (by decide) WR (Rd.nil _ _)) ?_
      rintro e w7 ⟨rfl, hb7⟩
      go_wp2_with fail
      refine bodyPost_ret (v := .tuple #[.slice none 0 0, .int .i64 0, .bool false]) (by simp [results, Tryd.results17, go_sem]) rfl ?_
      exact TakD.no HTF.out (HBR.trans (hb7.mono HBR.size))
end
end Go.Proofs.YtgaoijinchakoaaDoor
