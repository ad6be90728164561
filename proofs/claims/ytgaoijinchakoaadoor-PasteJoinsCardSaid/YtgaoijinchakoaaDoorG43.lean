/-
  Stage 17's laws, walked: PasteBack.
-/
import Derived.Test.YtgaoijinchakoaaDoorG41
namespace Go.Proofs.YtgaoijinchakoaaDoor
open Go.RowKit
theorem send_pos (l : List UInt8) : 0 < (sendP true l).length := by
 unfold sendP
 rw [if_pos rfl]
 exact Nat.lt_of_lt_of_le (by decide : 0 < openB.length) (by rw [List.length_append]; omega)
theorem send_le (l : List UInt8) : (sendP true l).length ≤ 12 + l.length := by
 unfold sendP
 rw [if_pos rfl, List.length_append, List.length_append, show openB.length = 6 from rfl, show closeB.length = 6 from rfl]
 have := clnL_le l
 omega
theorem cut_rem {u : Int} (h0 : 0 ≤ u) {k : Nat} (hk : 0 < k) : ∃ r : Nat, r < k ∧ u.tmod (k : Int) = (r : Int) := by
 obtain ⟨a, rfl⟩ := Int.eq_ofNat_of_zero_le h0
 exact ⟨a % k, Nat.mod_lt _ hk, rfl⟩
set_option maxRecDepth 100000 in
set_option maxHeartbeats 16000000 in
theorem pasteBack_walk (A : Option Addr) (l : List UInt8) (c : Nat) (hlc : l.length ≤ c) (B : Option Addr) (m : List UInt8) (d : Nat) (_hmd : m.length ≤ d) (u : Int) (u0 : 0 ≤ u) (u1 : u ≤ 65535) (w : World) (hr : Rd w A (bs l)) (hs : Rd w B (bs m)) (hi : Siz w ∧ Tab w) : Calls Tryd.prog 6 #[.slice A l.length c, .slice B m.length d, .int .u16 u] w fun e w' => e = .returned (.bool true) ∧ Below w.heap.size w w' := by
 obtain ⟨n, hn⟩ : ∃ n, l.length = n := ⟨_, rfl⟩
 obtain ⟨e, he⟩ : ∃ n, m.length = n := ⟨_, rfl⟩
 rw [hn] at hlc ⊢
 rw [he]
 obtain ⟨i0, hi0, hz0, hz1, hz2⟩ : ∃ i, Tryd.prog.info? 5 = some i ∧ i.zero = some (.int .u8 0) ∧ i.size = 1 ∧ i.bytes = 1 := ⟨_, rfl, rfl, rfl, rfl⟩
 have HT : Hid (∀ W, Below w.heap.size w W → Tab W) := Lib.hid fun W hW => hi.2.below hW
 have HS : Hid (∀ W, Below w.heap.size w W → Siz W) := Lib.hid fun W hW => hi.1.below' hW
 by_cases h : 200 < n
 ·have h2 : (200 : Int) < (n : Int) := by omega
  go_enter Tryd.func6, Tryd.ntmps6
  go_wp2_with fail
  refine (pasAwake _ hi.2 hi.1).mono ?_
  rintro e w1 ⟨rfl, hb1⟩
  go_wp2_with fail
  go_ret
  exact ⟨rfl, hb1⟩
 have h2 : ¬ ((200 : Int) < (n : Int)) := by omega
 by_cases g : 100 < e
 ·have g2 : (100 : Int) < (e : Int) := by omega
  go_enter Tryd.func6, Tryd.ntmps6
  go_wp2_with fail
  refine (pasAwake _ hi.2 hi.1).mono ?_
  rintro e w1 ⟨rfl, hb1⟩
  go_wp2_with fail
  go_ret
  exact ⟨rfl, hb1⟩
 have g2 : ¬ ((100 : Int) < (e : Int)) := by omega
 obtain ⟨L, hL⟩ : ∃ L, clnL l = L := ⟨_, rfl⟩
 obtain ⟨S, hS⟩ : ∃ S, sendP true l = S := ⟨_, rfl⟩
 have hp := send_pos l
 have hz : sendP false l = L := hL
 have hback := paste_back l m
 have hpart := fun n => @paste_part l n
 have hsl : (sendP true l).length ≤ 12 + n := by
  unfold sendP
  rw [if_pos rfl, List.length_append, List.length_append, show openB.length = 6 from rfl, show closeB.length = 6 from rfl]
  have := clnL_le l
  omega
 rw [hS] at hp hback hpart hsl
 rw [hL] at hback
 obtain ⟨k, hk⟩ : ∃ k, S.length = k := ⟨_, rfl⟩
 obtain ⟨x, hx⟩ : ∃ k, L.length = k := ⟨_, rfl⟩
 rw [hk] at hp hback hpart hsl
 obtain ⟨r, hrk, hrm⟩ := cut_rem u0 hp
 obtain ⟨⟨t0, p8, p9⟩, htk⟩ : ∃ y, takeP (S.take r) = y := ⟨_, rfl⟩
 obtain rfl : p9 = false := by have := hpart r hrk; rw [htk] at this; exact this
 obtain ⟨p, hpl⟩ : ∃ k, t0.length = k := ⟨_, rfl⟩
 have HS1 : Hid (∀ W, Below w.heap.size w W → Calls Tryd.prog 12 #[.agg #[.bool false, .bool false, .bool false, .bool false, .bool true, .bool false, .bool false, .int .i64 0, .int .i64 0, .int .i64 0], .slice A n c] W (OutP S k W)) := Lib.hid fun W hW => passend_any ⟨false, false, false, false, true, false, false, 0, 0, 0⟩ A n c l hn W (HS.out W hW) (HT.out W hW) (by omega) hlc (hr.below hW) S k hS hk
 have HZ : Hid (∀ W, Below w.heap.size w W → Calls Tryd.prog 12 #[.agg #[.bool false, .bool false, .bool false, .bool false, .bool false, .bool false, .bool false, .int .i64 0, .int .i64 0, .int .i64 0], .slice A n c] W (OutP L L.length W)) := Lib.hid fun W hW => passend_any ⟨false, false, false, false, false, false, false, 0, 0, 0⟩ A n c l hn W (HS.out W hW) (HT.out W hW) (by omega) hlc (hr.below hW) L _ hz rfl
 have HC : Hid (∀ W, Below w.heap.size w W → Calls Tryd.prog 10 #[.slice A n c] W (OutP L L.length W)) := Lib.hid fun W hW => by rw [← hL]; exact pclean_any A n c l hn W (HS.out W hW) (by omega) hlc (hr.below hW)
 have HT1 : Hid (∀ (C : Option Addr) (f : Nat) (W : World), Below w.heap.size w W → k + e ≤ f → Rd W C (bs (S ++ m)) → Calls Tryd.prog 16 #[.slice C (0 + k + e) f] W fun y w' => ∃ D f', y = .returned (.tuple #[.slice D x f', .int .i64 (k : Nat), .bool true]) ∧ Rd w' D (bs L) ∧ Below W.heap.size W w') := Lib.hid fun C f W hW hf hr => by
  refine (pastake_any C (0 + k + e) f (S ++ m) (by rw [List.length_append]; omega) W (HS.out W hW) (HT.out W hW) (by omega) (by omega) hr).mono ?_
  rintro y w' ⟨D, f', rfl, ho, hb⟩
  rw [hback] at ho ⊢
  simp only [hx] at ho ⊢
  exact ⟨D, f', rfl, ho.rd, hb⟩
 have HT2 : Hid (∀ (C : Option Addr) (f : Nat) (W : World), Below w.heap.size w W → k ≤ f → Rd W C (bs S) → Calls Tryd.prog 16 #[.slice C r f] W fun y w' => ∃ D f', y = .returned (.tuple #[.slice D p f', .int .i64 (p8 : Nat), .bool false]) ∧ Below W.heap.size W w') := Lib.hid fun C f W hW hf hr => by
  refine (pastake_any C r f (S.take r) (by rw [List.length_take]; omega) W (HS.out W hW) (HT.out W hW) (by omega) (by omega) (rd_upto r hr)).mono ?_
  rintro y w' ⟨D, f', rfl, ho, hb⟩
  rw [htk] at ho ⊢
  simp only [hpl] at ho ⊢
  exact ⟨D, f', rfl, hb⟩
 have HN := Lib.hid he
 have HK := Lib.hid hk
 have HX := Lib.hid hx
 have hk0 : ((k : Int) == 0) = false := by rw [beq_eq_false_iff_ne]; omega
 have hkz : ¬ ((k : Int) = 0) := by omega
 have uw : IntKind.i64.wrap u = u := by rw [IntKind.wrap_i64]; omega
 have rw_ : IntKind.i64.wrap (r : Int) = (r : Int) := by rw [IntKind.wrap_i64]; omega
 clear hL hS hback hpart hz hn he hk hx htk hpl h g
 go_enter Tryd.func6, Tryd.ntmps6
 go_wp2_with fail
 refine (pasAwake _ hi.2 hi.1).mono ?_
 rintro e w1 ⟨rfl, hb1⟩
 go_wp2_with fail
 refine (HS1.out _ hb1).mono ?_
 rintro y w2 ⟨A2, c2, rfl, ho2, hb2⟩
 have hB2 := hb1.trans (hb2.mono hb1.size)
 have rd2 := ho2.rd
 have hc2 := ho2.cap.1
 have hA2 := ho2.head
 have rl2 := hs.below hB2
 clear ho2 hb2
 have hmk : Own (w2.alloc (.cells #[] 5)) w2.heap.size 5 1 (.slice (some ⟨w2.heap.size, 0, none⟩) 0 0) 0 [] := Own.of (World.ownsRow_made w2 #[] 0 (Nat.le_refl _) (by decide) rfl)
 have hr1k := Rd.alloc (rd2) (.cells #[] 5)
 have qk : Below w2.heap.size w2 (w2.alloc (.cells #[] 5)) := (Below.refl _ _).alloc (Nat.le_refl _) _
 have szk := qk.size
 go_wp2_with (first
  | (at_builtin; refine list_app _ rfl (.tmp 32) (.tmp 33) 24 rfl w2.heap.size 5 i0 _ 1 1 Tryd.underlying24 hi0 hz0 hz1 hz2 rfl Nat.one_pos (.slice (some ⟨w2.heap.size, 0, none⟩) 0 0) 0 [] rfl hmk A2 k c2 (bs S) rfl (by simp [bs, HK.out]) hr1k (bs_one _) (by simp only [maxLen]; omega) (by omega) szk ?_; intro v5 w5 ho5 hg5
     have q5 := qk.grown hg5 szk (fun g hg => (hmk.lt g hg).1)
     have hr2k := Rd.below (rl2) q5
     have sz5 := q5.size)
  | (at_builtin; refine list_app _ rfl (.tmp 34) (.tmp 35) 24 rfl w2.heap.size 5 i0 _ 1 1 Tryd.underlying24 hi0 hz0 hz1 hz2 rfl Nat.one_pos v5 _ _ rfl ho5 B e d (bs m) rfl (by simp [bs, HN.out]) hr2k (bs_one _) (by simp only [maxLen]; omega) (by omega) sz5 ?_; intro v6 w6 ho6 hg6))
 have q6 := q5.grown hg6 sz5 (fun g hg => (ho5.lt g hg).1)
 obtain ⟨A6, c6, rfl, hr6⟩ := ho6.form
 have hc6 := ho6.cap.1
 have hr6 : Rd w6 A6 (bs (S ++ m)) := by rw [bs_append]; simpa using hr6
 have hB6 : Below w.heap.size w w6 := hB2.trans (q6.mono hB2.size)
 have rd6 := rd2.below q6
 clear ho5 ho6 hg5 hg6 hmk hr1k hr2k rd2 rl2
 go_wp2_with fail
 refine (HT1.out A6 c6 _ hB6 (by omega) hr6).mono ?_
 rintro y w7 ⟨A7, c7, rfl, r7, hb7⟩
 have hB7 : Below w.heap.size w w7 := hB6.trans (hb7.mono hB6.size)
 have rd7 := rd6.below hb7
 clear HT1 hB6 hb7 q5 q6 qk hr6 rd6
 have hcut := cuth_run (P := Tryd.prog) (T := 24) (e := 5) rfl Tryd.underlying24 (fun w => rfl) hA2 k c2 r (by omega)
 go_wp2_with fail
 refine (HT2.out A2 c2 _ hB7 hc2 rd7).mono ?_
 rintro y w8 ⟨A8, d8, rfl, hb8⟩
 have hB8 : Below w.heap.size w w8 := hB7.trans (hb8.mono hB7.size)
 replace r7 := r7.below hb8
 clear hcut rd7 hB7 hb8 HT2 HT HS
 have hst : ∀ f ∈ ([⟨14, 67, FB L⟩, ⟨25, 78, FB L⟩] : List Fact), f.ok := List.forall_mem_cons.2 ⟨fb_ok _ _ _, List.forall_mem_cons.2 ⟨fb_ok _ _ _, fun _ h => by cases h⟩⟩
 go_upto_region 9 with (fail)
 refine wp_region_told (w1 := w8) (K := [⟨14, 67, FB L⟩, ⟨25, 78, FB L⟩]) (ix := 1000) (R0 := fun _ _ _ => True) (R1 := fun _ _ _ => True) [67, 78] (⟨#[.slice A n c, .slice B e d, .int .u16 u, undef, undef, undef, .bool true, .bool true, .slice A2 k c2, .slice A7 x c7, .int .i64 (k : Int), .bool true, .slice A8 p d8, .int .i64 p8, .bool false, .bool true, .slice A n c, .int .i64 (n : Int), .bool (decide ((200 : Int) < (n : Int))), .bool (decide ((200 : Int) < (n : Int))), .slice B e d, .int .i64 (e : Int), .bool (decide ((100 : Int) < (e : Int))), .bool (decide ((200 : Int) < (n : Int)) || decide ((100 : Int) < (e : Int))), undef, .agg #[.bool false, .bool false, .bool false, .bool false, .bool true, .bool false, .bool false, .int .i64 0, .int .i64 0, .int .i64 0], .slice A n c, .slice A2 k c2, .slice A2 k c2, .int .i64 (k : Int), .bool false, .tuple #[.slice A7 x c7, .int .i64 (k : Int), .bool true], .slice (some ⟨w2.heap.size, 0, none⟩) 0 0, .slice A2 k c2, v5, .slice B e d, .slice A6 (k + e) c6, .tuple #[.slice A7 x c7, .int .i64 (k : Int), .bool true], .slice A7 x c7, .int .i64 (k : Int), .bool true, .tuple #[.slice A8 p d8, .int .i64 p8, .bool false], .slice A2 k c2, .int .u16 u, .int .i64 u, .slice A2 k c2, .int .i64 (k : Int), .int .i64 (r : Int), .slice A2 r c2, .tuple #[.slice A8 p d8, .int .i64 p8, .bool false], .slice A8 p d8, .int .i64 p8, .bool false, .bool true, .bool true, .bool true, .bool true, .bool true, .int .i64 (k : Int), .slice A2 k c2, .int .i64 (k : Int), .bool true, .bool true, .bool true, .slice A7 x c7, .string ⟨L.toArray⟩, .slice A n c, undef, .string ⟨L.toArray⟩, .bool true, .bool true, .bool true, .bool false, .bool true, .bool true, .bool true, .agg #[.bool false, .bool false, .bool false, .bool false, .bool false, .bool false, .bool false, .int .i64 0, .int .i64 0, .int .i64 0], .slice A n c, undef, .string ⟨L.toArray⟩, .slice A7 x c7, .string ⟨L.toArray⟩, .bool true, .bool true], []⟩) (fun g => ⟨#[.slice A n c, .slice B e d, .int .u16 u, undef, undef, undef, .bool true, .bool true, .slice A2 k c2, .slice A7 x c7, .int .i64 (k : Int), .bool true, .slice A8 p d8, .int .i64 p8, .bool false, .bool true, .slice A n c, .int .i64 (n : Int), .bool (decide ((200 : Int) < (n : Int))), .bool (decide ((200 : Int) < (n : Int))), .slice B e d, .int .i64 (e : Int), .bool (decide ((100 : Int) < (e : Int))), .bool (decide ((200 : Int) < (n : Int)) || decide ((100 : Int) < (e : Int))), undef, .agg #[.bool false, .bool false, .bool false, .bool false, .bool true, .bool false, .bool false, .int .i64 0, .int .i64 0, .int .i64 0], .slice A n c, .slice A2 k c2, .slice A2 k c2, .int .i64 (k : Int), .bool false, .tuple #[.slice A7 x c7, .int .i64 (k : Int), .bool true], .slice (some ⟨w2.heap.size, 0, none⟩) 0 0, .slice A2 k c2, v5, .slice B e d, .slice A6 (k + e) c6, .tuple #[.slice A7 x c7, .int .i64 (k : Int), .bool true], .slice A7 x c7, .int .i64 (k : Int), .bool true, .tuple #[.slice A8 p d8, .int .i64 p8, .bool false], .slice A2 k c2, .int .u16 u, .int .i64 u, .slice A2 k c2, .int .i64 (k : Int), .int .i64 (r : Int), .slice A2 r c2, .tuple #[.slice A8 p d8, .int .i64 p8, .bool false], .slice A8 p d8, .int .i64 p8, .bool false, .bool true, .bool true, .bool true, .bool true, .bool true, .int .i64 (k : Int), .slice A2 k c2, .int .i64 (k : Int), .bool true, .bool true, .bool true, .slice A7 x c7, .string ⟨L.toArray⟩, .slice A n c, (g 67), .string ⟨L.toArray⟩, .bool true, .bool true, .bool true, .bool false, .bool true, .bool true, .bool true, .agg #[.bool false, .bool false, .bool false, .bool false, .bool false, .bool false, .bool false, .int .i64 0, .int .i64 0, .int .i64 0], .slice A n c, (g 78), .string ⟨L.toArray⟩, .slice A7 x c7, .string ⟨L.toArray⟩, .bool true, .bool true], []⟩) [.bool true, .bool true, .bool true, .bool true, .bool true, .int .i64 (k : Int), .slice A2 k c2, .int .i64 (k : Int), .bool true, .bool true, .bool true, .slice A7 x c7, .string ⟨L.toArray⟩, .slice A n c, undef, .string ⟨L.toArray⟩, .bool true, .bool true, .bool true, .bool false, .bool true, .bool true, .bool true, .agg #[.bool false, .bool false, .bool false, .bool false, .bool false, .bool false, .bool false, .int .i64 0, .int .i64 0, .int .i64 0], .slice A n c, undef, .string ⟨L.toArray⟩, .slice A7 x c7, .string ⟨L.toArray⟩, .bool true, .bool true, .bool true] (by kernel_rfl) (by kernel_rfl) (by kernel_rfl) (fun g => by kernel_rfl) (by kernel_rfl) (Below.refl _ _).drew (by decide) (by kernel_rfl)
  (goes_cons (gkP (fun _ => .bool true))
  (goes_cons (gkP (fun _ => .bool true))
  (goes_cons (gkP (fun _ => .bool true))
  (goes_cons (gkP (fun _ => .bool true))
  (goes_cons (gkP (fun _ => .bool true))
  (goes_cons (gkP (fun _ => .int .i64 (k : Int)))
  (goes_cons (gkP (fun _ => .slice A2 k c2))
  (goes_cons (gkP (fun _ => .int .i64 (k : Int)))
  (goes_cons (goesK_bin (v := .bool true) (xv := .int .i64 (k : Int)) (yv := .int .i64 (k : Int)) rfl (by decide) (by decide) (by kernel_rfl) (fun g => by kernel_rfl) rfl (fun g => by kernel_rfl) rfl (fun g => by kernel_rfl) (fun g => by kernel_rfl) (fun w => by go_simp))
  (goes_cons (gkP (fun _ => .bool true))
  (goes_cons (gkP (fun _ => .bool true))
  (goes_cons (gkP (fun _ => .slice A7 x c7))
  (goes_cons (goesK_conv (c := c7) HX.out (fun W hW => r7.below hW) Tryd.underlying24 Tryd.underlying5 Tryd.underlying9 hst (ahead_none (by decide)) rfl (by decide) (by decide) (by kernel_rfl) (fun g => by kernel_rfl) rfl (fun g => by kernel_rfl) rfl (fun g => by kernel_rfl))
  (goes_cons (gkP (fun _ => .slice A n c))
  (goes_cons (gkG (fun g => #[.slice A n c]) hst 0 (fun g W hW hin => outP_b17 (HC.out W (hB8.trans (hW.mono hB8.size)))))
  (goes_cons (goesK_str 0 rfl (by kernel_rfl) Tryd.underlying24 Tryd.underlying5 Tryd.underlying9 hst (ahead_none (by decide)) rfl (by decide) (by decide) (by kernel_rfl) (fun g => by kernel_rfl) rfl (fun g => by kernel_rfl) rfl (fun g => by kernel_rfl))
  (goes_cons (goesK_bin (v := .bool true) (xv := .string ⟨L.toArray⟩) (yv := .string ⟨L.toArray⟩) rfl (by decide) (by decide) (by kernel_rfl) (fun g => by kernel_rfl) rfl (fun g => by kernel_rfl) rfl (fun g => by kernel_rfl) (fun g => by kernel_rfl) (fun w => by go_simp))
  (goes_cons (gkP (fun _ => .bool true))
  (goes_cons (gkP (fun _ => .bool true))
  (goes_cons (gkP (fun _ => .bool false))
  (goes_cons (gkP (fun _ => .bool true))
  (goes_cons (gkP (fun _ => .bool true))
  (goes_cons (gkP (fun _ => .bool true))
  (goes_cons (gkP (fun _ => .agg #[.bool false, .bool false, .bool false, .bool false, .bool false, .bool false, .bool false, .int .i64 0, .int .i64 0, .int .i64 0]))
  (goes_cons (gkP (fun _ => .slice A n c))
  (goes_cons (gkG (fun g => #[.agg #[.bool false, .bool false, .bool false, .bool false, .bool false, .bool false, .bool false, .int .i64 0, .int .i64 0, .int .i64 0], .slice A n c]) hst 1 (fun g W hW hin => outP_b17 (HZ.out W (hB8.trans (hW.mono hB8.size)))))
  (goes_cons (goesK_str 1 rfl (by kernel_rfl) Tryd.underlying24 Tryd.underlying5 Tryd.underlying9 hst (ahead_none (by decide)) rfl (by decide) (by decide) (by kernel_rfl) (fun g => by kernel_rfl) rfl (fun g => by kernel_rfl) rfl (fun g => by kernel_rfl))
  (goes_cons (gkP (fun _ => .slice A7 x c7))
  (goes_cons (goesK_conv (c := c7) HX.out (fun W hW => r7.below hW) Tryd.underlying24 Tryd.underlying5 Tryd.underlying9 hst (ahead_none (by decide)) rfl (by decide) (by decide) (by kernel_rfl) (fun g => by kernel_rfl) rfl (fun g => by kernel_rfl) rfl (fun g => by kernel_rfl))
  (goes_cons (goesK_bin (v := .bool true) (xv := .string ⟨L.toArray⟩) (yv := .string ⟨L.toArray⟩) rfl (by decide) (by decide) (by kernel_rfl) (fun g => by kernel_rfl) rfl (fun g => by kernel_rfl) rfl (fun g => by kernel_rfl) (fun g => by kernel_rfl) (fun w => by go_simp))
  (goes_cons (gkP (fun _ => .bool true))
  (goes_cons (gkP (fun _ => .bool true)) goes_nil)))))))))))))))))))))))))))))))) ?_
 intro g W hW _
 have hB9 := hB8.trans (hW.mono hB8.size)
 generalize g 67 = v67
 generalize g 78 = v78
 clear hst
 go_wp2_with fail
 go_ret
 exact ⟨rfl, hB9⟩
end Go.Proofs.YtgaoijinchakoaaDoor
