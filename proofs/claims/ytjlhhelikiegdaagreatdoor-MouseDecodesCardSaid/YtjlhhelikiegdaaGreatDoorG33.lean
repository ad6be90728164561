/-
  Layer 3, walked: the program's reader: one, part. Layer 16, walked: the document's Code, lost.
-/
import Derived.Test.YtjlhhelikiegdaaGreatDoorG11
import Derived.Test.YtjlhhelikiegdaaGreatDoorG27
import Derived.Test.YtjlhhelikiegdaaGreatDoorG31
import Derived.Deep.Cut
namespace Go.Proofs.YtjlhhelikiegdaaGreatDoor
open Go.RowKit
def TabIn (n₁ : Nat) (w : World) : Prop := Lib.TabBelow Tryz.prog n₁ w "internal/strconv.uint64pow10" .u64 Lib.pow10Tab
theorem TabIn.tab {n₁ : Nat} {w : World} (h : TabIn n₁ w) : Tab w := h.here
theorem TabIn.below {n₁ : Nat} {w w' : World} (h : TabIn n₁ w) (hb : Below n₁ w w') : TabIn n₁ w' := h.on hb
theorem TabIn.grown {n₁ : Nat} {w w' : World} (h : TabIn n₁ w) (hg : w.grownBy w' (some n₁)) (hn : n₁ < w.heap.size) : TabIn n₁ w' := h.on (below_grown hg (Nat.le_refl _) hn)
theorem Rdr.lt {w : World} {g : Nat} {A : Option Addr} {c : Nat} {l r : List UInt8} {x0 x1 x2 x3 x4 x5 : Value} (h : Rdr w g A c l x0 x1 x2 x3 x4 x5 r) : g < w.heap.size := by
 obtain ⟨_, _, _, _, hb⟩ := h
 exact hb.lt
theorem Rdr.below {B : Nat} {w w' : World} {g : Nat} {A : Option Addr} {c : Nat} {l r : List UInt8} {x0 x1 x2 x3 x4 x5 : Value} (h : Rdr w g A c l x0 x1 x2 x3 x4 x5 r) (hb : Below B w w') (hB : g < B) : Rdr w' g A c l x0 x1 x2 x3 x4 x5 r := by
 obtain ⟨p, h1, h2, h3, h4⟩ := h
 exact ⟨p, h1, h2, h3.below (hb.mono (Nat.le_of_lt hB)), h4.below hb hB⟩
theorem Rdr.drewN {w : World} {g : Nat} {A : Option Addr} {c : Nat} {l r : List UInt8} {x0 x1 x2 x3 x4 x5 : Value} (h : Rdr w g A c l x0 x1 x2 x3 x4 x5 r) (n : Nat) : Rdr (w.drewN n) g A c l x0 x1 x2 x3 x4 x5 r := h
theorem skip_yes (g : Nat) (A : Option Addr) (c : Nat) (l t r : List UInt8) (x0 x1 x2 x3 x4 x5 : Value) (w : World) (hq : skipB t r = true) (hlc : l.length ≤ c) (hl : l.length ≤ 4294967296) (ht : t.length ≤ 4294967296) (h : Rdr w g A c l x0 x1 x2 x3 x4 x5 r) :
 Calls Tryz.prog 48 #[.pointer (some ⟨g, 0, none⟩), .string ⟨t.toArray⟩] w fun e w' => e = .returned (.bool true) ∧ Rdr w' g A c l x0 x1 x2 x3 x4 x5 (r.drop t.length) ∧ w.grownBy w' (some g) :=
 skip_any g A c l t r x0 x1 x2 x3 x4 x5 true w hq hlc hl ht h
theorem skip_no (g : Nat) (A : Option Addr) (c : Nat) (l t r : List UInt8) (x0 x1 x2 x3 x4 x5 : Value) (w : World) (hq : skipB t r = false) (hlc : l.length ≤ c) (hl : l.length ≤ 4294967296) (ht : t.length ≤ 4294967296) (h : Rdr w g A c l x0 x1 x2 x3 x4 x5 r) :
 Calls Tryz.prog 48 #[.pointer (some ⟨g, 0, none⟩), .string ⟨t.toArray⟩] w fun e w' => e = .returned (.bool false) ∧ Rdr w' g A c l x0 x1 x2 x3 x4 x5 r ∧ w.grownBy w' (some g) :=
 skip_any g A c l t r x0 x1 x2 x3 x4 x5 false w hq hlc hl ht h
set_option maxRecDepth 100000 in
set_option maxHeartbeats 4000000 in
theorem one_any (g : Nat) (A : Option Addr) (c a b : Nat) (l r : List UInt8) (x : UInt8) (x0 x1 x2 x3 x4 x5 : Value) (w : World) (hx : oneF a b r = x) (ha : 1 ≤ a) (hlc : l.length ≤ c) (hl : l.length ≤ 4294967296) (h : Rdr w g A c l x0 x1 x2 x3 x4 x5 r) :
 Calls Tryz.prog 61 #[.pointer (some ⟨g, 0, none⟩), .int .u8 a, .int .u8 b] w fun e w' => e = .returned (.int .u8 (x.toNat : Int)) ∧ Rdr w' g A c l x0 x1 x2 x3 x4 x5 (r.drop (runF a b 1 r).length) ∧ w.grownBy w' (some g) := by
 have hone := one_run a b r ha
 rw [hx] at hone
 by_cases h0 : x = 0
 ·subst h0
  have HU := Lib.hid (show runF a b 1 r = [] from hone)
  clear hone hx
  go_enter Tryz.func61, Tryz.ntmps61
  go_wp2_with fail
  refine (run2_any g A c a b 1 l r [] x0 x1 x2 x3 x4 x5 _ HU.out hlc hl (by omega) h).mono ?_
  rintro e w1 ⟨rfl, h1, hg1⟩
  go_wp2_with fail
  go_ret
  rw [HU.out]
  exact ⟨rfl, h1, hg1⟩
 ·have HU := Lib.hid (show runF a b 1 r = [x] by rw [hone]; exact if_neg h0)
  clear hone hx h0
  go_enter Tryz.func61, Tryz.ntmps61
  go_wp2_with fail
  refine (run2_any g A c a b 1 l r [x] x0 x1 x2 x3 x4 x5 _ HU.out hlc hl (by omega) h).mono ?_
  rintro e w1 ⟨rfl, h1, hg1⟩
  go_wp2_with fail
  go_ret
  rw [HU.out]
  exact ⟨rfl, h1, hg1⟩
set_option maxRecDepth 100000 in
set_option maxHeartbeats 4000000 in
theorem part2_any (g : Nat) (A : Option Addr) (c : Nat) (l r r' : List UInt8) (n : Int) (x0 x1 x2 x3 x4 x5 : Value) (w : World) (hn : partF r = (n, r')) (hlc : l.length ≤ c) (hl : l.length ≤ 4294967296) (ht : TabIn g w) (h : Rdr w g A c l x0 x1 x2 x3 x4 x5 r) :
 Calls Tryz.prog 86 #[.pointer (some ⟨g, 0, none⟩)] w fun e w' => e = .returned (.int .i64 n) ∧ Rdr w' g A c l x0 x1 x2 x3 x4 x5 r' ∧ w.grownBy w' (some g) := by
 have hh := h
 obtain ⟨at_, hat, hr, hrd, hblk⟩ := h
 have hlt := hblk.lt
 obtain ⟨A', hcut, hrd2⟩ := cut_run (P := Tryz.prog) (T := 25) (e := 5) (by kernel_rfl) Tryz.underlying25 Tryz.sizeOf5 A l.length c at_ hat hlc
 have hrd3 := hrd2 g w l rfl hrd
 rw [hr] at hrd3
 have c0 : w.cell? ⟨g, 0, none⟩ = some (.slice A l.length c) := hblk.cell 0
 have c1 : w.cell? ⟨g, 1, none⟩ = some (.int .i64 (at_ : Int)) := hblk.cell 1
 have HL := Lib.hid (show r.length = l.length - at_ by rw [← hr, List.length_drop])
 have n0 : (0 : Int) ≤ (at_ : Int) := by omega
 have n1 : (at_ : Int) ≤ (l.length : Int) := by omega
 have hrl : r.length ≤ 4294967296 := by have := HL.out; omega
 have HS : Hid (∀ W, Below w.heap.size w W → W.cell? ⟨g, 0, none⟩ = some (.slice A l.length c) ∧ W.cell? ⟨g, 1, none⟩ = some (.int .i64 (at_ : Int)) ∧ Below w.heap.size w W) := Lib.hid fun W hb => ⟨(hb.cell (p := ⟨g, 0, none⟩) hlt).trans c0, (hb.cell (p := ⟨g, 1, none⟩) hlt).trans c1, hb⟩
 have HR3 : Hid (∀ W, Below w.heap.size w W → Rd W A' (bs r)) := Lib.hid fun W hb => ((hrd3.rd (Nat.le_of_lt hlt))).below hb
 obtain ⟨v, hv⟩ : ∃ v, satv r = v := ⟨_, rfl⟩
 have hvle := satv_le r
 rw [hv] at hvle
 have HV := Lib.hid hv
 have HN := Lib.hid hn
 obtain ⟨d, hd⟩ : ∃ d, digs r = d := ⟨_, rfl⟩
 have HD := Lib.hid hd
 clear hr hv hrd2 hrd3 hn hd
 go_enter Tryz.func86, Tryz.ntmps86
 go_wp2_with fail
 go_region_held (fun w' => w'.cell? ⟨g, 0, none⟩ = some (.slice A l.length c) ∧ w'.cell? ⟨g, 1, none⟩ = some (.int .i64 (at_ : Int)) ∧ Below w.heap.size w w') (first | exact HS.out _ (Below.refl _ _).drew | exact HS.out _ ((Below.refl _ _).drew.trans hb2)) (first | (go_at_call 92; refine (take_at A' _ r _ _ HL.out hrl (HR3.out _ (Below.refl _ _).drew)).mono ?_; rw [HV.out, HD.out]; rintro e w2 ⟨rfl, hb2⟩))
 have hb2w : Below w.heap.size w w2 := (Below.refl _ _).drew.trans hb2
 have h2 := hh.below hb2w hlt
 have ht2 := ht.below (hb2w.mono (Nat.le_of_lt hlt))
 have hg2 := grown_below (some g) hb2w
 clear hb2
 obtain ⟨T, hT⟩ : ∃ T, textL (v : Int) = T := ⟨_, rfl⟩
 have HT := Lib.hid hT
 have hTl := textL_length (v : Int) (by omega)
 rw [hT] at hTl
 clear hT HS HR3 hcut c0 c1 hrd hblk hh
 have key : skipB T r = true ∧ n = (v : Int) ∧ r' = r.drop T.length ∨ skipB T r = false ∧ n = -1 ∧ r' = r := by
  have := HN.out
  unfold partF at this
  rw [HV.out, HT.out] at this
  cases hs : skipB T r with
  | true => rw [hs, if_pos rfl] at this; injection this with e1 e2; exact .inl ⟨rfl, e1.symm, e2.symm⟩
  | false => rw [hs, if_neg (by simp)] at this; injection this with e1 e2; exact .inr ⟨rfl, e1.symm, e2.symm⟩
 clear HN
 rcases key with ⟨hs, rfl, rfl⟩ | ⟨hs, rfl, rfl⟩
 ·have HSK := Lib.hid hs
  clear hs
  go_wp2_with fail
  refine (text_any (v : Int) _ (by omega) (by omega) ht2.tab).mono ?_
  rw [HT.out]
  rintro e w3 ⟨rfl, hb3⟩
  go_wp2_with fail
  refine (skip_any g A c l T r x0 x1 x2 x3 x4 x5 true _ HSK.out hlc hl (by omega) (h2.below hb3 h2.lt)).mono ?_
  rintro e w4 ⟨rfl, h4, hg4⟩
  go_wp2_with fail
  go_ret
  exact ⟨rfl, h4, grown_trans hg2 (grown_trans (grown_below _ hb3) hg4)⟩
 ·have HSK := Lib.hid hs
  clear hs
  go_wp2_with fail
  refine (text_any (v : Int) _ (by omega) (by omega) ht2.tab).mono ?_
  rw [HT.out]
  rintro e w3 ⟨rfl, hb3⟩
  go_wp2_with fail
  refine (skip_any g A c l T r' x0 x1 x2 x3 x4 x5 false _ HSK.out hlc hl (by omega) (h2.below hb3 h2.lt)).mono ?_
  rintro e w4 ⟨rfl, h4, hg4⟩
  go_wp2_with fail
  go_ret
  exact ⟨rfl, h4, grown_trans hg2 (grown_trans (grown_below _ hb3) hg4)⟩
theorem add_run {ev : Operand → Value} {o : Oper} {j k : Operand} {x y z : Int} (ho : o.op = .binOp .add 3 j k 3) (hx : ev j = .int .i64 x) (hy : ev k = .int .i64 y) (h : IntKind.i64.wrap (x + y) = z) (w : World) : (execOp ev o).run Tryz.prog w = .ok (.value (.int .i64 z)) w := by
 unfold execOp
 simp only [ho, hx, hy]
 rw [← h]
 kernel_rfl
set_option maxRecDepth 100000 in
set_option maxHeartbeats 16000000 in
theorem rcode16_any (mode btn typ x y mods C : Int) (hC : codeM mode ⟨btn, typ, x, y, mods⟩ = C) (w : World) : Calls Tryz.prog 9 #[.int .i64 mode, .agg #[.int .i64 btn, .int .i64 typ, .int .i64 x, .int .i64 y, .int .i64 mods]] w fun e w' => e = .returned (.int .i64 C) ∧ Below w.heap.size w w' := by
 obtain ⟨p, hp⟩ : ∃ p, mayT ⟨btn, typ, x, y, mods⟩ = p := ⟨_, rfl⟩
 have HM : Hid (∀ W, Calls Tryz.prog 14 #[.agg #[.int .i64 btn, .int .i64 typ, .int .i64 x, .int .i64 y, .int .i64 mods]] W fun e w' => e = .returned (.bool p) ∧ Below W.heap.size W w') := Lib.hid fun W => by
  have := rmay15_any ⟨btn, typ, x, y, mods⟩ W
  rw [hp] at this
  exact this
 have k0 := Blk.new w 23 #[.int .i64 btn, .int .i64 typ, .int .i64 x, .int .i64 y, .int .i64 mods]
 have hB : Below w.heap.size w (w.alloc (.cells #[.int .i64 btn, .int .i64 typ, .int .i64 x, .int .i64 y, .int .i64 mods] 23)) := (Below.refl _ w).alloc (Nat.le_refl _) _
 obtain ⟨a0, a1, a2, a3, a4⟩ := Blk.cells5 k0
 cases p with
 | false =>
   have HF := Lib.hid (show 0 = C by rw [← hC]; unfold codeM; rw [if_neg (by rw [hp]; decide)])
   clear hp hC
   go_enter Tryz.func9, Tryz.ntmps9
   go_wp2_with fail
   refine (HM.out _).mono ?_
   rintro e w1 ⟨rfl, hb1⟩
   go_wp2_with fail
   go_ret
   exact ⟨ret_i HF.out, hB.trans (hb1.mono hB.size)⟩
 | true =>
   obtain ⟨⟨b0, b1⟩, ⟨m0, m1⟩, _⟩ := may_rng hp
   have hr := mcode_rng (mode := mode) hp
   obtain ⟨nb, hnb⟩ : ∃ n, numbM btn = n := ⟨_, rfl⟩
   obtain ⟨mk, hmk⟩ : ∃ n, marksM mode ⟨btn, typ, x, y, mods⟩ = n := ⟨_, rfl⟩
   have hce := code_eq (mode := mode) hp
   rw [hC] at hr hce
   simp only at hce
   rw [hnb, hmk] at hce
   have hw : IntKind.i64.wrap (nb + mk) = C := by rw [IntKind.wrap_i64]; omega
   have HN : Hid (∀ W, Calls Tryz.prog 21 #[.int .i64 btn] W fun e w' => e = .returned (.int .i64 nb) ∧ Below W.heap.size W w') := Lib.hid fun W => rnumber16_any btn nb b0 b1 hnb W
   have HK : Hid (∀ W, Calls Tryz.prog 22 #[.int .i64 mode, .agg #[.int .i64 btn, .int .i64 typ, .int .i64 x, .int .i64 y, .int .i64 mods]] W fun e w' => e = .returned (.int .i64 mk) ∧ Below W.heap.size W w') := Lib.hid fun W => rmarks16_any mode btn typ x y mods mk m0 m1 hmk W
   clear hp hC hr hnb hmk hce b0 b1 m0 m1
   go_enter Tryz.func9, Tryz.ntmps9
   go_wp2_with fail
   refine (HM.out _).mono ?_
   rintro e w2 ⟨rfl, hb2⟩
   have hB2 := hB.trans (hb2.mono hB.size)
   have k2 := k0.below hb2 k0.lt
   clear hb2 hB k0 HM a0 a1 a2 a3 a4
   have le : ∀ W, Below w2.heap.size w2 W → Blk W w.heap.size 23 #[.int .i64 btn, .int .i64 typ, .int .i64 x, .int .i64 y, .int .i64 mods] := fun W hW => k2.below hW k2.lt
   have hst : ∀ f ∈ ([] : List Fact), f.ok := fun _ h => by cases h
   go_upto_region 3 with (fail)
   refine wp_region_told (w1 := w2) (K := []) (ix := 1000) (R0 := fun _ _ _ => True) (R1 := fun _ _ _ => True) [] (⟨#[.int .i64 mode, .agg #[.int .i64 btn, .int .i64 typ, .int .i64 x, .int .i64 y, .int .i64 mods], undef, .pointer (some ⟨w.heap.size, 0, none⟩), .int .i64 C, .agg #[.int .i64 btn, .int .i64 typ, .int .i64 x, .int .i64 y, .int .i64 mods], .bool true, .bool false, .pointer (some ⟨w.heap.size, 0, none⟩), .int .i64 btn, .int .i64 nb, .int .i64 mode, .agg #[.int .i64 btn, .int .i64 typ, .int .i64 x, .int .i64 y, .int .i64 mods], .int .i64 mk, .int .i64 C], []⟩) (fun g => ⟨#[.int .i64 mode, .agg #[.int .i64 btn, .int .i64 typ, .int .i64 x, .int .i64 y, .int .i64 mods], undef, .pointer (some ⟨w.heap.size, 0, none⟩), .int .i64 C, .agg #[.int .i64 btn, .int .i64 typ, .int .i64 x, .int .i64 y, .int .i64 mods], .bool true, .bool false, .pointer (some ⟨w.heap.size, 0, none⟩), .int .i64 btn, .int .i64 nb, .int .i64 mode, .agg #[.int .i64 btn, .int .i64 typ, .int .i64 x, .int .i64 y, .int .i64 mods], .int .i64 mk, .int .i64 C], []⟩) [.pointer (some ⟨w.heap.size, 0, none⟩), .int .i64 btn, .int .i64 nb, .int .i64 mode, .agg #[.int .i64 btn, .int .i64 typ, .int .i64 x, .int .i64 y, .int .i64 mods], .int .i64 mk, .int .i64 C, .int .i64 C] (by kernel_rfl) (by kernel_rfl) (by kernel_rfl) (fun g => by kernel_rfl) (by kernel_rfl) (Below.refl _ _).drew (by decide) (by kernel_rfl)
    (goes_cons (gkP (fun _ => .pointer (some ⟨w.heap.size, 0, none⟩)))
    (goes_cons (gkC hst (fun W hW => (le W hW).cell 0))
    (goes_cons (gkK (fun g => #[.int .i64 btn]) hst (fun g W hW hin => HN.out W))
    (goes_cons (gkP (fun _ => .int .i64 mode))
    (goes_cons (gkL hst (fun W hW => le W hW) Tryz.underlying23)
    (goes_cons (gkK (fun g => #[.int .i64 mode, .agg #[.int .i64 btn, .int .i64 typ, .int .i64 x, .int .i64 y, .int .i64 mods]]) hst (fun g W hW hin => HK.out W))
    (goes_cons (gkP (fun _ => .int .i64 C) (h := (fun g w => add_run rfl rfl rfl hw w)))
    (goes_cons (gkP (fun _ => .int .i64 C)) goes_nil)))))))) ?_
   intro g W hW _
   have hB3 := hB2.trans (hW.mono hB2.size)
   clear le hst
   go_wp2_with fail
   go_ret
   exact ⟨rfl, hB3⟩
set_option maxRecDepth 100000 in
set_option maxHeartbeats 16000000 in
theorem rlost16_any (mode btn typ x y mods C : Int) (hp : mayT ⟨btn, typ, x, y, mods⟩ = true) (hC : lostM mode ⟨btn, typ, x, y, mods⟩ = C) (w : World) : Calls Tryz.prog 16 #[.int .i64 mode, .agg #[.int .i64 btn, .int .i64 typ, .int .i64 x, .int .i64 y, .int .i64 mods]] w fun e w' => e = .returned (.int .i64 C) ∧ Below w.heap.size w w' := by
 obtain ⟨⟨b0, b1⟩, ⟨m0, m1⟩, _⟩ := may_rng hp
 have hr := lost_rng (mode := mode) hp
 rw [hC] at hr
 unfold lostM at hC
 have k0 := Blk.new w 23 #[.int .i64 btn, .int .i64 typ, .int .i64 x, .int .i64 y, .int .i64 mods]
 have hB : Below w.heap.size w (w.alloc (.cells #[.int .i64 btn, .int .i64 typ, .int .i64 x, .int .i64 y, .int .i64 mods] 23)) := (Below.refl _ w).alloc (Nat.le_refl _) _
 obtain ⟨a0, a1, a2, a3, a4⟩ := Blk.cells5 k0
 simp only at hC
 by_cases h3 : typ = 3
 ·rw [if_pos h3] at hC
  obtain ⟨mk, hmk⟩ : ∃ n, marksM mode ⟨btn, typ, x, y, mods⟩ = n := ⟨_, rfl⟩
  rw [hmk] at hC
  have HK : Hid (∀ W, Calls Tryz.prog 22 #[.int .i64 mode, .agg #[.int .i64 btn, .int .i64 typ, .int .i64 x, .int .i64 y, .int .i64 mods]] W fun e w' => e = .returned (.int .i64 mk) ∧ Below W.heap.size W w') := Lib.hid fun W => rmarks16_any mode btn typ x y mods mk m0 m1 hmk W
  have hw : IntKind.i64.wrap (3 + mk) = 3 + mk := by rw [IntKind.wrap_i64]; omega
  have t3 : (typ == 3) = true := by rw [h3]; rfl
  have HF := Lib.hid hC
  clear hp hr hmk hC h3
  go_enter Tryz.func16, Tryz.ntmps16
  go_wp2_with fail
  refine (HK.out _).mono ?_
  rintro e w2 ⟨rfl, hb2⟩
  go_wp2_with fail
  go_ret
  exact ⟨ret_i HF.out, hB.trans (hb2.mono hB.size)⟩
 ·rw [if_neg h3] at hC
  have HC : Hid (∀ W, Calls Tryz.prog 9 #[.int .i64 mode, .agg #[.int .i64 btn, .int .i64 typ, .int .i64 x, .int .i64 y, .int .i64 mods]] W fun e w' => e = .returned (.int .i64 C) ∧ Below W.heap.size W w') := Lib.hid fun W => rcode16_any mode btn typ x y mods C hC W
  have t3 : (typ == 3) = false := beq_false_of_ne h3
  clear hp hr hC h3
  go_enter Tryz.func16, Tryz.ntmps16
  go_wp2_with fail
  refine (HC.out _).mono ?_
  rintro e w2 ⟨rfl, hb2⟩
  go_wp2_with fail
  go_ret
  exact ⟨rfl, hB.trans (hb2.mono hB.size)⟩
end Go.Proofs.YtjlhhelikiegdaaGreatDoor
