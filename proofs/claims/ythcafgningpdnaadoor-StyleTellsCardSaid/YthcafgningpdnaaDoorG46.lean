/-
  Stage 18's laws, walked: StyleTells.
-/
import Derived.Test.YthcafgningpdnaaDoorG28
import Derived.Test.YthcafgningpdnaaDoorG37
import Derived.Test.YthcafgningpdnaaDoorG40
import Derived.Test.YthcafgningpdnaaDoorG43
import Derived.Test.YthcafgningpdnaaDoorG45
namespace Go.Proofs.YthcafgningpdnaaDoor
open Go.RowKit
set_option maxRecDepth 100000 in
set_option maxHeartbeats 16000000 in
theorem same18_any (ps : List (List Int)) (n : Nat) (hn : ps.length = n) (hl : n ≤ 16) (hp : ∀ p ∈ ps, p.length ≤ 4294967296) (A B : Option Addr) (c d : Nat) (w : World) (hA : LsIn w A ps) (hB : LsIn w B ps) : Calls Tryd.prog 14 #[.slice A n c, .slice B n d] w fun e w' => e = .returned (.bool true) ∧ Below w.heap.size w w' := by
 have hs := rsame_any ⟨0, 0, ps, [], 0, []⟩ ⟨0, 0, ps, [], 0, []⟩ A B c d true w ((sameB_iff _ _).2 rfl) (by show ps.length ≤ _; omega) (by show ps.length ≤ _; omega) hp hp hA.rd.rdp hB.rd.rdp
 unfold sqV at hs
 simp only [hn] at hs
 have HS := Lib.hid hs
 clear hs
 go_enter Tryd.func14, Tryd.ntmps14
 go_wp2_with fail
 refine HS.out.mono ?_
 rintro e w1 ⟨rfl, hb1⟩
 go_wp2_with fail
 go_ret
 exact ⟨rfl, hb1⟩
set_option maxRecDepth 100000 in
set_option maxHeartbeats 16000000 in
theorem styleTells_walk (s : Sy) (hs : okSy s) (w : World) (ht : Tab w) : Calls Tryd.prog 3 #[syV s] w fun e w' => e = .returned (.bool true) ∧ Below w.heap.size w w' := by
 obtain ⟨q, hq⟩ : ∃ q, mayY s = q := ⟨_, rfl⟩
 obtain ⟨n, hn⟩ : ∃ n, (parY s).length = n := ⟨_, rfl⟩
 obtain ⟨ps, hps⟩ : ∃ ps, parY s = ps := ⟨_, rfl⟩
 obtain ⟨TX, hTX⟩ : ∃ r, parL ps = r := ⟨_, rfl⟩
 obtain ⟨l1, l2, l3⟩ := par_lens s
 have hp8 : ∀ p ∈ parY s, p.length ≤ 100 := fun p hp => by
  by_cases h : mayY s = true
  ·have := ((pok_of (spar_ok h).1).2 p hp).1.2; omega
  ·rw [show parY s = [] from if_neg h] at hp; cases hp
 have HM1 : Hid (∀ W, Calls Tryd.prog 12 #[syV s] W fun e w' => e = .returned (.bool q) ∧ Below W.heap.size W w') := Lib.hid fun W => smay_any s q hq W
 have HM2 : Hid (∀ W, Calls Tryd.prog 13 #[syV s] W fun e w' => e = .returned (.bool q) ∧ Below W.heap.size W w') := Lib.hid fun W => rmay18_any s q hq W
 have HP1 : Hid (∀ W, Calls Tryd.prog 10 #[syV s] W fun e w' => ∃ A c, e = .returned (.slice A n c) ∧ LsIn w' A ps ∧ Below W.heap.size W w') := Lib.hid fun W => by
  refine (sParams_f s hs W).mono ?_
  rintro e w' ⟨v, rfl, ⟨A, c, rfl, hl⟩, hb⟩
  rw [hps] at hl
  exact ⟨A, c, by rw [hn], hl, hb⟩
 have HP2 : Hid (∀ W, Calls Tryd.prog 11 #[syV s] W fun e w' => ∃ A c, e = .returned (.slice A n c) ∧ LsIn w' A ps ∧ Below W.heap.size W w') := Lib.hid fun W => by
  refine (rParams18_any s W).mono ?_
  rintro e w' ⟨v, m, rfl, h, hb⟩
  have hl := h.len
  obtain ⟨A, c, rfl, _, hls⟩ := h.ls par_in
  rw [hps] at hls
  exact ⟨A, c, by rw [← hl, hn], hls, hb⟩
 rw [hps] at l1 l2 l3 hp8 hn
 have HT1 : Hid (∀ (W : World) (A : Option Addr) (c : Nat), Below w.heap.size w W → LsIn W A ps → Calls Tryd.prog 15 #[.slice A n c] W fun e w' => e = .returned (.string ⟨TX.toArray⟩) ∧ Below W.heap.size W w') := Lib.hid fun W A c hW hl => by
  rw [← hTX]
  exact sText_any A ps n c hn (by omega) l2 l3 W (ht.below hW) hl
 have HT2 : Hid (∀ (W : World) (A : Option Addr) (c : Nat), LsIn W A ps → Calls Tryd.prog 16 #[.slice A n c] W fun e w' => e = .returned (.string ⟨TX.toArray⟩) ∧ Below W.heap.size W w') := Lib.hid fun W A c hl => by
  rw [← hTX]
  exact rText18_any A ps n c hn (by omega) hp8 W hl
 have HSM : Hid (∀ (W : World) (A B : Option Addr) (c d : Nat), LsIn W A ps → LsIn W B ps → Calls Tryd.prog 14 #[.slice A n c, .slice B n d] W fun e w' => e = .returned (.bool true) ∧ Below W.heap.size W w') := Lib.hid fun W A B c d h1 h2 => same18_any ps n hn (by omega) (fun p hp => (l2 p hp).1) A B c d W h1 h2
 have hsimpZ := safe_bool18
 clear hq hn hps hTX l1 l2 l3 hp8 hs
 obtain ⟨s0, s1, s2, s3, s4, s5, s6, s7, s8, s9⟩ := s
 unfold syV at HM1 HM2 HP1 HP2 ⊢
 simp only at HM1 HM2 HP1 HP2 ⊢
 have k0 := Blk.new w 23 #[.bool s0, .bool s1, .bool s2, .bool s3, .bool s4, .bool s5, .bool s6, .int .i64 s7, .int .i64 s8, .int .i64 s9]
 have hB0 : Below w.heap.size w (w.alloc (.cells #[.bool s0, .bool s1, .bool s2, .bool s3, .bool s4, .bool s5, .bool s6, .int .i64 s7, .int .i64 s8, .int .i64 s9] 23)) := (Below.refl _ w).alloc (Nat.le_refl _) _
 go_enter Tryd.func3, Tryd.ntmps3
 go_wp2_with fail
 refine (styAwake _ (ht.below hB0)).mono ?_
 rintro e w1 ⟨rfl, hb1⟩
 have hB1 := hB0.trans (hb1.mono hB0.size)
 have k1 := k0.below hb1 k0.lt
 clear hb1 hB0 k0
 obtain ⟨a0, a1, a2, a3, a4, a5, a6, a7, a8, a9⟩ := Blk.cells10y (s := ⟨s0, s1, s2, s3, s4, s5, s6, s7, s8, s9⟩) k1
 go_wp2_with fail
 refine (HP1.out _).mono ?_
 rintro e w2 ⟨A2, c2, rfl, ls2, hb2⟩
 have hB2 := hB1.trans (hb2.mono hB1.size)
 have k2 := k1.below hb2 k1.lt
 clear hb2 hB1 k1
 clear a0 a1 a2 a3 a4 a5 a6 a7 a8 a9
 obtain ⟨a0, a1, a2, a3, a4, a5, a6, a7, a8, a9⟩ := Blk.cells10y (s := ⟨s0, s1, s2, s3, s4, s5, s6, s7, s8, s9⟩) k2
 go_wp2_with fail
 refine (HP2.out _).mono ?_
 rintro e w3 ⟨A3, c3, rfl, ls3, hb3⟩
 have hB3 := hB2.trans (hb3.mono hB2.size)
 have kS := k2.below hb3 k2.lt
 replace ls2 := ls2.below hb3
 clear hb3 hB2 k2
 clear a0 a1 a2 a3 a4 a5 a6 a7 a8 a9
 have hst : ∀ f ∈ ([] : List Fact), f.ok := fun _ h => by cases h
 go_upto_region 4 with (fail)
 refine wp_region_told (w1 := w3) (K := []) (ix := 1000) (R0 := fun _ _ _ => True) (R1 := fun _ _ _ => True) [] (⟨#[.agg #[.bool s0, .bool s1, .bool s2, .bool s3, .bool s4, .bool s5, .bool s6, .int .i64 s7, .int .i64 s8, .int .i64 s9], .pointer (some ⟨w.heap.size, 0, none⟩), .bool true, .bool true, .slice A2 n c2, .slice A3 n c3, .bool true, .agg #[.bool s0, .bool s1, .bool s2, .bool s3, .bool s4, .bool s5, .bool s6, .int .i64 s7, .int .i64 s8, .int .i64 s9], .slice A2 n c2, .agg #[.bool s0, .bool s1, .bool s2, .bool s3, .bool s4, .bool s5, .bool s6, .int .i64 s7, .int .i64 s8, .int .i64 s9], .slice A3 n c3, .bool true, .bool true, .agg #[.bool s0, .bool s1, .bool s2, .bool s3, .bool s4, .bool s5, .bool s6, .int .i64 s7, .int .i64 s8, .int .i64 s9], .bool q, .agg #[.bool s0, .bool s1, .bool s2, .bool s3, .bool s4, .bool s5, .bool s6, .int .i64 s7, .int .i64 s8, .int .i64 s9], .bool q, .bool true, .bool true, .bool true, .slice A2 n c2, .slice A3 n c3, .bool true, .bool true, .bool true, .slice A2 n c2, .string ⟨TX.toArray⟩, .slice A3 n c3, .string ⟨TX.toArray⟩, .bool true, .bool true], []⟩) (fun g => ⟨#[.agg #[.bool s0, .bool s1, .bool s2, .bool s3, .bool s4, .bool s5, .bool s6, .int .i64 s7, .int .i64 s8, .int .i64 s9], .pointer (some ⟨w.heap.size, 0, none⟩), .bool true, .bool true, .slice A2 n c2, .slice A3 n c3, .bool true, .agg #[.bool s0, .bool s1, .bool s2, .bool s3, .bool s4, .bool s5, .bool s6, .int .i64 s7, .int .i64 s8, .int .i64 s9], .slice A2 n c2, .agg #[.bool s0, .bool s1, .bool s2, .bool s3, .bool s4, .bool s5, .bool s6, .int .i64 s7, .int .i64 s8, .int .i64 s9], .slice A3 n c3, .bool true, .bool true, .agg #[.bool s0, .bool s1, .bool s2, .bool s3, .bool s4, .bool s5, .bool s6, .int .i64 s7, .int .i64 s8, .int .i64 s9], .bool q, .agg #[.bool s0, .bool s1, .bool s2, .bool s3, .bool s4, .bool s5, .bool s6, .int .i64 s7, .int .i64 s8, .int .i64 s9], .bool q, .bool true, .bool true, .bool true, .slice A2 n c2, .slice A3 n c3, .bool true, .bool true, .bool true, .slice A2 n c2, .string ⟨TX.toArray⟩, .slice A3 n c3, .string ⟨TX.toArray⟩, .bool true, .bool true], []⟩) [.bool true, .bool true, .agg #[.bool s0, .bool s1, .bool s2, .bool s3, .bool s4, .bool s5, .bool s6, .int .i64 s7, .int .i64 s8, .int .i64 s9], .bool q, .agg #[.bool s0, .bool s1, .bool s2, .bool s3, .bool s4, .bool s5, .bool s6, .int .i64 s7, .int .i64 s8, .int .i64 s9], .bool q, .bool true, .bool true, .bool true, .slice A2 n c2, .slice A3 n c3, .bool true, .bool true, .bool true, .slice A2 n c2, .string ⟨TX.toArray⟩, .slice A3 n c3, .string ⟨TX.toArray⟩, .bool true, .bool true, .bool true] (by kernel_rfl) (by kernel_rfl) (by kernel_rfl) (fun g => by kernel_rfl) (by kernel_rfl) (Below.refl _ _).drew (by decide) (by kernel_rfl)
  (goes_cons (gkP (fun _ => .bool true))
  (goes_cons (gkP (fun _ => .bool true))
  (goes_cons (gkL hst (fun W hW => kS.below hW kS.lt) Tryd.underlying23)
  (goes_cons (gkK (fun g => #[.agg #[.bool s0, .bool s1, .bool s2, .bool s3, .bool s4, .bool s5, .bool s6, .int .i64 s7, .int .i64 s8, .int .i64 s9]]) hst (fun g W hW hin => HM1.out W))
  (goes_cons (gkL hst (fun W hW => kS.below hW kS.lt) Tryd.underlying23)
  (goes_cons (gkK (fun g => #[.agg #[.bool s0, .bool s1, .bool s2, .bool s3, .bool s4, .bool s5, .bool s6, .int .i64 s7, .int .i64 s8, .int .i64 s9]]) hst (fun g W hW hin => HM2.out W))
  (goes_cons (goesK_bin (v := .bool true) (xv := .bool q) (yv := .bool q) rfl (by decide) (by decide) (by kernel_rfl) (fun g => by kernel_rfl) rfl (fun g => by kernel_rfl) rfl (fun g => by kernel_rfl) (fun g => by kernel_rfl) (hsimpZ q))
  (goes_cons (gkP (fun _ => .bool true))
  (goes_cons (gkP (fun _ => .bool true))
  (goes_cons (gkP (fun _ => .slice A2 n c2))
  (goes_cons (gkP (fun _ => .slice A3 n c3))
  (goes_cons (gkK (fun g => #[.slice A2 n c2, .slice A3 n c3]) hst (fun g W hW hin => HSM.out W A2 A3 c2 c3 (ls2.below hW) (ls3.below hW)))
  (goes_cons (gkP (fun _ => .bool true))
  (goes_cons (gkP (fun _ => .bool true))
  (goes_cons (gkP (fun _ => .slice A2 n c2))
  (goes_cons (gkK (fun g => #[.slice A2 n c2]) hst (fun g W hW hin => HT1.out W A2 c2 (hB3.trans (hW.mono hB3.size)) (ls2.below hW)))
  (goes_cons (gkP (fun _ => .slice A3 n c3))
  (goes_cons (gkK (fun g => #[.slice A3 n c3]) hst (fun g W hW hin => HT2.out W A3 c3 (ls3.below hW)))
  (goes_cons (goesK_bin (v := .bool true) (xv := .string ⟨TX.toArray⟩) (yv := .string ⟨TX.toArray⟩) rfl (by decide) (by decide) (by kernel_rfl) (fun g => by kernel_rfl) rfl (fun g => by kernel_rfl) rfl (fun g => by kernel_rfl) (fun g => by kernel_rfl) (fun w => by go_simp))
  (goes_cons (gkP (fun _ => .bool true))
  (goes_cons (gkP (fun _ => .bool true)) goes_nil))))))))))))))))))))) ?_
 intro g W hW _
 have hB9 := hB3.trans (hW.mono hB3.size)
 clear hst
 go_wp2_with fail
 go_ret
 exact ⟨rfl, hB9⟩
end Go.Proofs.YthcafgningpdnaaDoor
