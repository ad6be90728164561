/-
  Stage 19, the document's, walked: fact, two, said, Setting, Version. Stage 19, the document's, walked: a sequence of numbers (its rows' kinds are told, too).
-/
import Derived.Test.YtfifeofmfpjgfaaDoorG14
import Derived.Test.YtfifeofmfpjgfaaDoorG17
import Derived.Test.YtfifeofmfpjgfaaDoorG18
import Derived.Test.YtfifeofmfpjgfaaDoorG27
import Derived.Test.YtfifeofmfpjgfaaDoorG29
import Derived.Test.YtfifeofmfpjgfaaDoorG31
import Derived.Test.YtfifeofmfpjgfaaDoorG32
import Derived.Deep.Cut
import Derived.Deep.RegionLaw
namespace Go.Proofs.YtfifeofmfpjgfaaDoor
open Go.RowKit
theorem rfact19_any (n f : Int) (hf : factR n = f) (w : World) : Calls Tryd.prog 32 #[.int .i64 n] w fun e w' => e = .returned (.int .i64 f) ∧ Below w.heap.size w w' := by
 obtain ⟨N, hN⟩ : ∃ N, max n 0 = N := ⟨_, rfl⟩
 have hmax := max_run n N hN (P := Tryd.prog)
 have hmin := min_run N f (by rw [← hN, ← hf]; rfl) (P := Tryd.prog)
 clear hf hN
 go_enter Tryd.func32, Tryd.ntmps32
 go_wp2_with fail
 go_ret
 exact ⟨rfl, Below.refl _ _⟩
theorem rftext19 (n f : Int) (T : List UInt8) (hf : factR n = f) (hT : textL (factR n) = T) (w : World) : Calls Tryd.prog 58 #[.int .i64 f] w (TelE T w) := by
 have := fact_rng n
 rw [← hT, hf]
 rw [hf] at this
 exact rtext_any (f.toNat + 1) f w (by omega) (by omega) (by omega)
set_option maxRecDepth 100000 in
set_option maxHeartbeats 16000000 in
theorem rtwo19_any (a b : Int) (w : World) : Calls Tryd.prog 57 #[.int .i64 a, .int .i64 b] w (TelE (twoR a b) w) := by
 obtain ⟨f1, h1⟩ : ∃ f, factR a = f := ⟨_, rfl⟩
 obtain ⟨f2, h2⟩ : ∃ f, factR b = f := ⟨_, rfl⟩
 obtain ⟨T1, g1⟩ : ∃ f, textL (factR a) = f := ⟨_, rfl⟩
 obtain ⟨T2, g2⟩ : ∃ f, textL (factR b) = f := ⟨_, rfl⟩
 have HF1 := Lib.hid (rfact19_any a f1 h1)
 have HF2 := Lib.hid (rfact19_any b f2 h2)
 have HT1 := Lib.hid (rftext19 a f1 T1 h1 g1)
 have HT2 := Lib.hid (rftext19 b f2 T2 h2 g2)
 have l1 : T1.length ≤ 21 := by rw [← g1]; exact fact_text a
 have l2 : T2.length ≤ 21 := by rw [← g2]; exact fact_text b
 rw [show twoR a b = T1 ++ 59 :: T2 by unfold twoR; rw [g1, g2]]
 have c1 := cat19 (L := T1) (M := [59]) (by simp; omega)
 have c2 := cat19 (L := T1 ++ [59]) (M := T2) (by simp; omega)
 clear h1 h2 g1 g2 l1 l2
 go_enter Tryd.func57, Tryd.ntmps57
 go_wp2_with fail
 refine (HF1.out _).mono ?_
 rintro e w1 ⟨rfl, hb1⟩
 go_wp2_with fail
 refine (HT1.out _).mono ?_
 rintro e w2 ⟨rfl, hb2⟩
 have hB2 := hb1.trans (hb2.mono hb1.size)
 go_wp2_with fail
 refine (HF2.out _).mono ?_
 rintro e w3 ⟨rfl, hb3⟩
 have hB3 := hB2.trans (hb3.mono hB2.size)
 go_wp2_with fail
 refine (HT2.out _).mono ?_
 rintro e w4 ⟨rfl, hb4⟩
 have hB4 := hB3.trans (hb4.mono hB3.size)
 clear hb1 hb2 hb3 hb4 hB2 hB3
 go_wp2_with fail
 go_ret
 exact ⟨rfl, hB4⟩
set_option maxRecDepth 100000 in
set_option maxHeartbeats 16000000 in
theorem rsaid19_any (s : Sc) (ask : List UInt8) (w : World) : Calls Tryd.prog 35 #[scV s, .string ⟨ask.toArray⟩] w (TelE (saidR s ask) w) := by
 obtain ⟨q, hq⟩ : ∃ q, mayY s.style = q := ⟨_, rfl⟩
 have HM : Hid (∀ W, Calls Tryd.prog 26 #[syV s.style] W fun e w' => e = .returned (.bool q) ∧ Below W.heap.size W w') := Lib.hid fun W => rmay18_any s.style q hq W
 obtain ⟨TX, hTX⟩ : ∃ r, parL (parY s.style) = r := ⟨_, rfl⟩
 have hTl : TX.length ≤ 140737488355328 := by rw [← hTX]; exact (par_lens s.style).2.2
 have HP : Hid (∀ W, Calls Tryd.prog 56 #[syV s.style] W fun e w' => ∃ A n c, e = .returned (.slice A n c) ∧ (parY s.style).length = n ∧ LsIn w' A (parY s.style) ∧ Below W.heap.size W w') := Lib.hid fun W => by
  refine (rParams18_any s.style W).mono ?_
  rintro e w' ⟨v, m, rfl, h, hb⟩
  have hl := h.len
  obtain ⟨A, c, rfl, _, hls⟩ := h.ls par_in
  exact ⟨A, m, c, rfl, hl, hls, hb⟩
 have HT : Hid (∀ (W : World) (A : Option Addr) (n c : Nat), (parY s.style).length = n → LsIn W A (parY s.style) → Calls Tryd.prog 55 #[.slice A n c] W fun e w' => e = .returned (.string ⟨TX.toArray⟩) ∧ Below W.heap.size W w') := Lib.hid fun W A n c hn hl => by
  rw [← hTX]
  have h16 := (par_lens s.style).1
  exact rText18_any A (parY s.style) n c hn (by omega) (fun p hp => by
   by_cases h : mayY s.style = true
   ·have := ((pok_of (spar_ok h).1).2 p hp).1.2; omega
   ·rw [show parY s.style = [] from if_neg h] at hp; cases hp) W hl
 have HTW := Lib.hid (rtwo19_any s.top s.bottom)
 have HTV := Lib.hid (rtwo19_any s.left s.right)
 have hL1 := two_len s.top s.bottom
 have hL2 := two_len s.left s.right
 have hL3 := fact_text s.shape
 obtain ⟨f, hf⟩ : ∃ f, factR s.shape = f := ⟨_, rfl⟩
 have HFA := Lib.hid (rfact19_any s.shape f hf)
 have HFT := Lib.hid (rftext19 s.shape f _ hf rfl)
 rw [hf] at HFT hL3
 obtain ⟨T1, hT1⟩ : ∃ r, twoR s.top s.bottom = r := ⟨_, rfl⟩
 obtain ⟨T2, hT2⟩ : ∃ r, twoR s.left s.right = r := ⟨_, rfl⟩
 obtain ⟨T3, hT3⟩ : ∃ r, textL f = r := ⟨_, rfl⟩
 have HE : Hid (saidR s ask = if ask = [109] then (if q = true then TX ++ [109] else []) else if ask = [114] then T1 ++ [114] else if ask = [115] then T2 ++ [115] else if ask = [32, 113] then T3 ++ [32, 113] else if ask = [34, 112] then [54, 50, 59, 49, 34, 112] else []) := Lib.hid (by unfold saidR; rw [hq, hTX, hT1, hT2, hf, hT3])
 rw [hT1] at HTW hL1
 rw [hT2] at HTV hL2
 rw [hT3] at HFT hL3
 obtain ⟨R, hR⟩ : ∃ R, saidR s ask = R := ⟨_, rfl⟩
 rw [hR] at HE ⊢
 have c1 := cat19 (L := TX) (M := [109]) (by simp; omega)
 have c2 := cat19 (L := T1) (M := [114]) (by simp; omega)
 have c3 := cat19 (L := T2) (M := [115]) (by simp; omega)
 have c4 := cat19 (L := T3) (M := [32, 113]) (by simp; omega)
 clear hR hq hTX hT1 hT2 hT3 hf hL1 hL2 hL3 hTl
 obtain ⟨PL, hPL⟩ : ∃ x, parY s.style = x := ⟨_, rfl⟩
 rw [hPL] at HP HT
 clear hPL
 obtain ⟨s0, s1, s2, s3, s4, s5, s6, s7, s8, ⟨s9, s10, s11, s12, s13, s14, s15, s16, s17, s18⟩⟩ := s
 unfold scV
 unfold syV at HM HP
 simp only at HM HP HTW HTV HFA ⊢
 have kb := Blk.new w 25 #[.int .i64 s0, .int .i64 s1, .int .i64 s2, .int .i64 s3, .int .i64 s4, .int .i64 s5, .int .i64 s6, .int .i64 s7, .int .i64 s8, .bool s9, .bool s10, .bool s11, .bool s12, .bool s13, .bool s14, .bool s15, .int .i64 s16, .int .i64 s17, .int .i64 s18]
 have hB0 := (Below.refl w.heap.size w).alloc (Nat.le_refl _) (.cells #[.int .i64 s0, .int .i64 s1, .int .i64 s2, .int .i64 s3, .int .i64 s4, .int .i64 s5, .int .i64 s6, .int .i64 s7, .int .i64 s8, .bool s9, .bool s10, .bool s11, .bool s12, .bool s13, .bool s14, .bool s15, .int .i64 s16, .int .i64 s17, .int .i64 s18] 25)
 go_enter Tryd.func35, Tryd.ntmps35
 go_upto_region 1 with (fail)
 obtain ⟨W1, hW1⟩ : ∃ x, w.alloc (.cells #[.int .i64 s0, .int .i64 s1, .int .i64 s2, .int .i64 s3, .int .i64 s4, .int .i64 s5, .int .i64 s6, .int .i64 s7, .int .i64 s8, .bool s9, .bool s10, .bool s11, .bool s12, .bool s13, .bool s14, .bool s15, .int .i64 s16, .int .i64 s17, .int .i64 s18] 25) = x := ⟨_, rfl⟩
 rw [hW1] at kb hB0 ⊢
 clear hW1
 by_cases h0 : ask = [109]
 ·subst h0
  have HR : Hid (R = if q = true then TX ++ [109] else []) := Lib.hid HE.out
  clear HE HTW HTV HFA HFT c2 c3 c4
  have c19 := kb.cell 9
  have c20 := kb.cell 10
  have c21 := kb.cell 11
  have c22 := kb.cell 12
  have c23 := kb.cell 13
  have c24 := kb.cell 14
  have c25 := kb.cell 15
  have c26 := kb.cell 16
  have c27 := kb.cell 17
  have c28 := kb.cell 18
  go_wp2_with fail
  refine (HM.out _).mono ?_
  rintro e w2 ⟨rfl, hb2⟩
  have hB2 := hB0.trans (hb2.mono hB0.size)
  have k2 := kb.below hb2 kb.lt
  clear c19 c20 c21 c22 c23 c24 c25 c26 c27 c28 kb hB0 hb2
  cases q with
  | false =>
    go_wp2_with fail
    go_ret
    exact ⟨by rw [HR.out]; rfl, hB2⟩
  | true =>
    have c19 := k2.cell 9
    have c20 := k2.cell 10
    have c21 := k2.cell 11
    have c22 := k2.cell 12
    have c23 := k2.cell 13
    have c24 := k2.cell 14
    have c25 := k2.cell 15
    have c26 := k2.cell 16
    have c27 := k2.cell 17
    have c28 := k2.cell 18
    go_wp2_with fail
    refine (HP.out _).mono ?_
    rintro e w3 ⟨A, n, c, rfl, hn, hls, hb3⟩
    have hB3 := hB2.trans (hb3.mono hB2.size)
    clear c19 c20 c21 c22 c23 c24 c25 c26 c27 c28 k2 hB2 hb3
    go_wp2_with fail
    refine (HT.out _ A n c hn hls).mono ?_
    rintro e w4 ⟨rfl, hb4⟩
    have hB4 := hB3.trans (hb4.mono hB3.size)
    clear hls hB3 hb4 hn
    go_wp2_with fail
    go_ret
    exact ⟨by rw [HR.out]; rfl, hB4⟩
 clear HM HP HT c1
 by_cases h1 : ask = [114]
 ·subst h1
  have HR := Lib.hid (show R = T1 ++ [114] from HE.out)
  clear HE
  have x4 := kb.cell 4
  have x5 := kb.cell 5
  go_wp2_with fail
  refine (HTW.out _).mono ?_
  rintro e w2 ⟨rfl, hb2⟩
  have hB2 := hB0.trans (hb2.mono hB0.size)
  clear x4 x5 kb hB0 hb2
  go_wp2_with fail
  go_ret
  exact ⟨by rw [HR.out]; rfl, hB2⟩
 by_cases h2 : ask = [115]
 ·subst h2
  have HR := Lib.hid (show R = T2 ++ [115] from HE.out)
  clear HE
  have x6 := kb.cell 6
  have x7 := kb.cell 7
  go_wp2_with fail
  refine (HTV.out _).mono ?_
  rintro e w2 ⟨rfl, hb2⟩
  have hB2 := hB0.trans (hb2.mono hB0.size)
  clear x6 x7 kb hB0 hb2
  go_wp2_with fail
  go_ret
  exact ⟨by rw [HR.out]; rfl, hB2⟩
 by_cases h3 : ask = [32, 113]
 ·subst h3
  have HR := Lib.hid (show R = T3 ++ [32, 113] from HE.out)
  clear HE
  have x8 := kb.cell 8
  go_wp2_with fail
  refine (HFA.out _).mono ?_
  rintro e w2 ⟨rfl, hb2⟩
  have hB2 := hB0.trans (hb2.mono hB0.size)
  clear x8 kb hB0 hb2
  go_wp2_with fail
  refine (HFT.out _).mono ?_
  rintro e w3 ⟨rfl, hb3⟩
  have hB3 := hB2.trans (hb3.mono hB2.size)
  clear hB2 hb3
  go_wp2_with fail
  go_ret
  exact ⟨by rw [HR.out]; rfl, hB3⟩
 by_cases h4 : ask = [34, 112]
 ·subst h4
  have HR := Lib.hid (show R = [54, 50, 59, 49, 34, 112] from HE.out)
  clear HE
  go_wp2_with fail
  go_ret
  exact ⟨by rw [HR.out]; rfl, hB0⟩
 ·have HR := Lib.hid (show R = [] by rw [HE.out, if_neg h0, if_neg h1, if_neg h2, if_neg h3, if_neg h4])
  clear HE
  have n0 : (ask == [109]) = false := beq_eq_false_iff_ne.2 h0
  have n1 : (ask == [114]) = false := beq_eq_false_iff_ne.2 h1
  have n2 : (ask == [115]) = false := beq_eq_false_iff_ne.2 h2
  have n3 : (ask == [32, 113]) = false := beq_eq_false_iff_ne.2 h3
  have n4 : (ask == [34, 112]) = false := beq_eq_false_iff_ne.2 h4
  clear h0 h1 h2 h3 h4
  go_wp2_with fail
  go_ret
  exact ⟨by rw [HR.out]; rfl, hB0⟩
theorem rversion19_any (w : World) : Calls Tryd.prog 24 #[] w fun e w' => e = .returned (.agg #[.int .i64 3, .int .u8 62, .slice none 0 0, .string ⟨#[]⟩, .int .u8 124, .string ⟨#[99, 108, 97, 118, 105, 101, 114, 40, 49, 41]⟩]) ∧ Below w.heap.size w w' := by
 have hB := (Below.refl w.heap.size w).alloc (Nat.le_refl _) (.cells #[.int .i64 3, .int .u8 62, .slice none 0 0, .string ⟨#[]⟩, .int .u8 124, .string ⟨#[99, 108, 97, 118, 105, 101, 114, 40, 49, 41]⟩] 30)
 go_enter Tryd.func24, Tryd.ntmps24
 go_wp2_with fail
 refine bodyPost_ret (v := .agg #[.int .i64 3, .int .u8 62, .slice none 0 0, .string ⟨#[]⟩, .int .u8 124, .string ⟨#[99, 108, 97, 118, 105, 101, 114, 40, 49, 41]⟩]) (by simp [results, Tryd.results24, go_sem]) rfl ⟨rfl, hB⟩
set_option maxRecDepth 100000 in
set_option maxHeartbeats 16000000 in
theorem rnums19_any (a f : UInt8) (B : Option Addr) (l : List Int) (n d : Nat) (hn : l.length = n) (hl : n ≤ 30) (w : World) (hr : Rd w B (is_ l)) :
 Calls Tryd.prog 31 #[.int .u8 (a.toNat : Int), .int .u8 (f.toNat : Int), .slice B n d] w (NumR (a.toNat : Int) (f.toNat : Int) l n w) := by
 obtain ⟨j0, hj, hy0, hy1, hy2⟩ : ∃ i, Tryd.prog.info? 52 = some i ∧ i.zero = some (.slice none 0 0) ∧ i.size = 1 ∧ i.bytes = 24 := ⟨_, rfl, rfl, rfl, rfl⟩
 have HN := Lib.hid hn
 clear hn
 have hz0 := (Blk.new w 30 #[.int .i64 0, .int .u8 0, .slice none 0 0, .string ⟨#[]⟩, .int .u8 0, .string ⟨#[]⟩]).alloc (.cells #[.int .i64 1, .int .u8 (a.toNat : Int), .slice none 0 0, .string ⟨#[]⟩, .int .u8 (f.toNat : Int), .string ⟨#[]⟩] 30)
 have hs0 := Blk.new (w.alloc (.cells #[.int .i64 0, .int .u8 0, .slice none 0 0, .string ⟨#[]⟩, .int .u8 0, .string ⟨#[]⟩] 30)) 30 #[.int .i64 1, .int .u8 (a.toNat : Int), .slice none 0 0, .string ⟨#[]⟩, .int .u8 (f.toNat : Int), .string ⟨#[]⟩]
 rw [World.size_alloc] at hs0
 have hb0 := ((Below.refl w.heap.size w).alloc (Nat.le_refl _) (.cells #[.int .i64 0, .int .u8 0, .slice none 0 0, .string ⟨#[]⟩, .int .u8 0, .string ⟨#[]⟩] 30)).alloc (by simp) (.cells #[.int .i64 1, .int .u8 (a.toNat : Int), .slice none 0 0, .string ⟨#[]⟩, .int .u8 (f.toNat : Int), .string ⟨#[]⟩] 30)
 go_enter Tryd.func31, Tryd.ntmps31
 go_wp2_with fail
 have hlt34 : w.heap.size + 1 < ((w.alloc (.cells #[.int .i64 0, .int .u8 0, .slice none 0 0, .string ⟨#[]⟩, .int .u8 0, .string ⟨#[]⟩] 30)).alloc (.cells #[.int .i64 1, .int .u8 (a.toNat : Int), .slice none 0 0, .string ⟨#[]⟩, .int .u8 (f.toNat : Int), .string ⟨#[]⟩] 30)).heap.size := hs0.lt
 generalize (w.alloc (.cells #[.int .i64 0, .int .u8 0, .slice none 0 0, .string ⟨#[]⟩, .int .u8 0, .string ⟨#[]⟩] 30)).alloc (.cells #[.int .i64 1, .int .u8 (a.toNat : Int), .slice none 0 0, .string ⟨#[]⟩, .int .u8 (f.toNat : Int), .string ⟨#[]⟩] 30) = W0 at *
 go_loopw [8] (fun i wr => ∃ (k : Nat) (v : Value) (xs : List Value), k ≤ n ∧ i = .int .i64 k ∧ Own wr W0.heap.size 52 1 v k xs ∧ (∃ B2, B2 ≤ wr.heap.size ∧ Rows wr B2 3 xs ((l.take k).map fun n => [n])) ∧ Blk wr (w.heap.size + 1) 30 #[.int .i64 1, .int .u8 (a.toNat : Int), v, .string ⟨#[]⟩, .int .u8 (f.toNat : Int), .string ⟨#[]⟩] ∧ Blk wr w.heap.size 30 #[.int .i64 0, .int .u8 0, .slice none 0 0, .string ⟨#[]⟩, .int .u8 0, .string ⟨#[]⟩] ∧ Below w.heap.size w wr ∧ W0.heap.size ≤ wr.heap.size) (fun i _ => n - (intOf i).toNat)
 case atStart => exact ⟨0, _, [], Nat.zero_le _, rfl, Own.nil_ _ _ _ _, ⟨0, Nat.zero_le _, by rfl, fun k hk => absurd hk (by simp)⟩, hs0, hz0, hb0, Nat.le_refl _⟩
 case round =>
  obtain ⟨k, v, xs, hk, rfl, ho, ⟨B2, hB2, hrs⟩, hs, hz, hbw, hW⟩ := hrel
  clear hs0 hb0 hz0
  obtain ⟨d0, d1, d2, d3, d4, d5⟩ := Blk.cells6 hs
  by_cases hlt : k < n
  ·have hkl : k < l.length := by rw [HN.out]; exact hlt
   obtain ⟨bb, oo, rfl, hbb, hcc⟩ := (hr.below hbw).int_at (by rw [HN.out]; omega)
   have hck := hcc k hkl
   obtain ⟨u, hu⟩ : ∃ u, l[k]'hkl = u := ⟨_, rfl⟩
   rw [hu] at hck
   have HX := Lib.hid (show l.take (k + 1) = l.take k ++ [u] by rw [List.take_succ_eq_append_getElem hkl, hu])
   clear hu hcc
   obtain ⟨Av, cv, rfl, _⟩ := ho.form
   have hown1 := (ho.alloc (.cells #[.int .i64 u] 3)).alloc (.cells #[.slice (some ⟨wr.heap.size, 0, none⟩) 1 1] 52)
   have hrd1 : Rd ((wr.alloc (.cells #[.int .i64 u] 3)).alloc (.cells #[.slice (some ⟨wr.heap.size, 0, none⟩) 1 1] 52)) (some ⟨wr.heap.size + 1, 0, none⟩) [.slice (some ⟨wr.heap.size, 0, none⟩) 1 1] := by
    have := Rd.block (xs := [.slice (some ⟨wr.heap.size, 0, none⟩) 1 1]) (heap_alloc_new (wr.alloc (.cells #[.int .i64 u] 3)) (.cells #[.slice (some ⟨wr.heap.size, 0, none⟩) 1 1] 52)) (by simp)
    rwa [World.size_alloc] at this
   have hin : RowI (wr.alloc (.cells #[.int .i64 u] 3)) (wr.heap.size + 1) 3 (some ⟨wr.heap.size, 0, none⟩) [u] := by
    obtain ⟨_, A', c', h1, h2⟩ := own_row (p := [u]) (own_lit (wr.alloc (.cells #[.int .i64 u] 3)) 0 3 wr.heap.size (.int .i64 u) (Nat.zero_le _) (heap_alloc_new wr _))
    cases h1
    rwa [World.size_alloc] at h2
   have hrs1 := ((hrs.keep (Nat.le_refl B2) (fun q hq _ => Below.heap_alloc wr (.cells #[.int .i64 u] 3) q (by omega))).keep (B' := wr.heap.size + 1) (by omega) (fun _ _ _ => rfl)).snoc2 (n := 1) rfl (c := 1) hin
   have hrs2 := hrs1.keep (Nat.le_refl _) (fun q hq _ => Below.heap_alloc (wr.alloc (.cells #[.int .i64 u] 3)) (.cells #[.slice (some ⟨wr.heap.size, 0, none⟩) 1 1] 52) q (by simp; omega))
   have hs2 := (hs.alloc (.cells #[.int .i64 u] 3)).alloc (.cells #[.slice (some ⟨wr.heap.size, 0, none⟩) 1 1] 52)
   have hz2 := (hz.alloc (.cells #[.int .i64 u] 3)).alloc (.cells #[.slice (some ⟨wr.heap.size, 0, none⟩) 1 1] 52)
   have hb2 : Below w.heap.size w ((wr.alloc (.cells #[.int .i64 u] 3)).alloc (.cells #[.slice (some ⟨wr.heap.size, 0, none⟩) 1 1] 52)) := (hbw.alloc hbw.size _).alloc (Nat.le_trans hbw.size (by simp)) _
   have h63 : k + 1 ≤ maxLen := by simp only [maxLen]; omega
   have hlim : (k + 1) * 24 ≤ 140737488355328 := by omega
   have hbs : W0.heap.size ≤ ((wr.alloc (.cells #[.int .i64 u] 3)).alloc (.cells #[.slice (some ⟨wr.heap.size, 0, none⟩) 1 1] 52)).heap.size := by simp; omega
   have hsz2 : wr.heap.size + 1 ≤ ((wr.alloc (.cells #[.int .i64 u] 3)).alloc (.cells #[.slice (some ⟨wr.heap.size, 0, none⟩) 1 1] 52)).heap.size := by simp
   clear hrs hrs1 hin ho
   have hown1 := hown1.drew
   have i2a : (wr.alloc (.cells #[.int .i64 u] 3)).drew.cell? ⟨w.heap.size + 1, 2, none⟩ = some (.slice Av k cv) := (hs.alloc (.cells #[.int .i64 u] 3)).cell 2
   have i2b : ((wr.alloc (.cells #[.int .i64 u] 3)).alloc (.cells #[.slice (some ⟨wr.heap.size, 0, none⟩) 1 1] 52)).drew.cell? ⟨w.heap.size + 1, 2, none⟩ = some (.slice Av k cv) := hs2.cell 2
   have hrd1 : Rd ((wr.alloc (.cells #[.int .i64 u] 3)).alloc (.cells #[.slice (some ⟨wr.heap.size, 0, none⟩) 1 1] 52)).drew (some ⟨wr.heap.size + 1, 0, none⟩) [.slice (some ⟨wr.heap.size, 0, none⟩) 1 1] := hrd1
   have hs2 : Blk ((wr.alloc (.cells #[.int .i64 u] 3)).alloc (.cells #[.slice (some ⟨wr.heap.size, 0, none⟩) 1 1] 52)).drew (w.heap.size + 1) 30 #[.int .i64 1, .int .u8 (a.toNat : Int), .slice Av k cv, .string ⟨#[]⟩, .int .u8 (f.toNat : Int), .string ⟨#[]⟩] := hs2
   have hz2 : Blk ((wr.alloc (.cells #[.int .i64 u] 3)).alloc (.cells #[.slice (some ⟨wr.heap.size, 0, none⟩) 1 1] 52)).drew w.heap.size 30 #[.int .i64 0, .int .u8 0, .slice none 0 0, .string ⟨#[]⟩, .int .u8 0, .string ⟨#[]⟩] := hz2
   have hrs2 : Rows ((wr.alloc (.cells #[.int .i64 u] 3)).alloc (.cells #[.slice (some ⟨wr.heap.size, 0, none⟩) 1 1] 52)).drew (wr.heap.size + 1) 3 (xs ++ [.slice (some ⟨wr.heap.size, 0, none⟩) 1 1]) ((l.take k).map (fun n => [n]) ++ [[u]]) := hrs2
   have hb2 : Below w.heap.size w ((wr.alloc (.cells #[.int .i64 u] 3)).alloc (.cells #[.slice (some ⟨wr.heap.size, 0, none⟩) 1 1] 52)).drew := hb2.drew
   have hbs : W0.heap.size ≤ ((wr.alloc (.cells #[.int .i64 u] 3)).alloc (.cells #[.slice (some ⟨wr.heap.size, 0, none⟩) 1 1] 52)).drew.heap.size := hbs
   have hsz2 : wr.heap.size + 1 ≤ ((wr.alloc (.cells #[.int .i64 u] 3)).alloc (.cells #[.slice (some ⟨wr.heap.size, 0, none⟩) 1 1] 52)).drew.heap.size := hsz2
   go_wp2_with fail
   go_region_law (refine step_app _ rfl (.tmp 19) (.tmp 25) 28 rfl W0.heap.size 52 j0 _ 1 24 Tryd.underlying28 hj hy0 hy1 hy2 rfl Nat.one_pos (.slice Av k cv) k xs (by simp [Act.eval]) hown1 (some ⟨wr.heap.size + 1, 0, none⟩) 1 1 [.slice (some ⟨wr.heap.size, 0, none⟩) 1 1] (by simp [Act.eval]) rfl hrd1 (sl_one _ _ _) h63 hlim hbs ?_; intro v5 w5 hown5 hg5; obtain ⟨A5, c5, rfl, hf5⟩ := hown5.form; clear hf5; have hs5 := hs2.grown hg5 (hown1.no_cells hs2 (by decide)); have fz5 := hs5.frozen 2; obtain ⟨e0, e1, e2, e3, e4, e5⟩ := Blk.cells6 hs5)
   all_goals
    have hrs5 := hrs2.keep (B' := wr.heap.size + 1) (Nat.le_refl _) (keep_out hown1 (by decide) hg5)
    have hz5 := hz2.grown hg5 (hown1.no_cells hz2 (by decide))
    have hb5 : Below w.heap.size w w5 := hb2.grown hg5 (Nat.le_trans hbw.size (Nat.le_trans (Nat.le_succ _) hsz2)) (fun g hg => by have := (hown1.lt g hg).1; omega)
    have hsz5 : wr.heap.size + 1 ≤ w5.heap.size := Nat.le_trans hsz2 hg5.size
    have hgs := grown_setCell (w.heap.size + 1) 2 (.slice A5 (k + 1) c5) w5
    clear hg5 hown1 hrd1 hs2 hz2 hb2 h63 hlim hbs hsz2 hrs2 i2a i2b
    go_wp2_with fail
    go_roundw
    case rel =>
     refine ⟨k + 1, _, xs ++ [.slice (some ⟨wr.heap.size, 0, none⟩) 1 1], by omega, by go_num, hown5.kept hgs (.inr (hown5.no_cells hs5 (by decide))), ⟨wr.heap.size + 1, by simp; exact hsz5, ?_⟩, hs5.set 2 _, hz5.grown hgs (by intro h; injection h with h; omega), hb5.setCell (p := ⟨w.heap.size + 1, 2, none⟩) (Nat.le_succ _) _, Nat.le_trans hW (Nat.le_trans (Nat.le_succ _) (by simpa using hsz5))⟩
     rw [HX.out, List.map_append]
     exact hrs5.keep (Nat.le_refl _) (fun q _ ⟨cur, fz, hh⟩ => hgs.block q (Array.getElem?_eq_some_iff.1 hh).1 (fun e => tag_ne hs5 hh (by decide) (by injection e)))
    case measure => simp [intOf]; omega
  ·obtain rfl : k = n := by omega
   have HT := Lib.hid (show l.take k = l from List.take_of_length_le (by rw [HN.out]; omega))
   obtain ⟨A3, c3, rfl, hrow⟩ := hrs.rdpn ho hs (by decide) (by decide)
   rw [HT.out] at hrow
   have hr6 := hrow.other hz (by decide) (by decide) (grown_set6 wr w.heap.size (.int .i64 1) (.int .u8 (a.toNat : Int)) (.slice A3 k c3) (.string ⟨#[]⟩) (.int .u8 (f.toNat : Int)) (.string ⟨#[]⟩))
   have hB6 := below_set6 hbw (b := w.heap.size) (Nat.le_refl _) (.int .i64 1) (.int .u8 (a.toNat : Int)) (.slice A3 k c3) (.string ⟨#[]⟩) (.int .u8 (f.toNat : Int)) (.string ⟨#[]⟩)
   obtain ⟨z0, z1, z2, z3, z4, z5⟩ := Blk.cells6 hz
   have y0 := hz.frozen 0
   have y1 := hz.frozen 1
   have y2 := hz.frozen 2
   have y3 := hz.frozen 3
   have y4 := hz.frozen 4
   have y5 := hz.frozen 5
   clear ho hrs hW hB2 HT hr hrow
   go_wp2_with fail
   refine bodyPost_ret (v := .agg #[.int .i64 1, .int .u8 (a.toNat : Int), .slice A3 k c3, .string ⟨#[]⟩, .int .u8 (f.toNat : Int), .string ⟨#[]⟩]) (by simp [results, Tryd.results31, go_sem, z0, z1, z2, z3, z4, z5]) rfl ⟨_, _, _, rfl, hr6, hB6⟩
end Go.Proofs.YtfifeofmfpjgfaaDoor
