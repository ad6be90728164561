/-
  Layer 14, the laws' walks over the bundle: BoardWhole. Layer 3, walked: the program's reader: one, part. Layer 3, walked: the program's taker: parts, params. Layer 3, walked: the program's taker: params.
-/
import Derived.Test.YtceipblcdcgljaaGreatDoorG02
import Derived.Test.YtceipblcdcgljaaGreatDoorG07
import Derived.Test.YtceipblcdcgljaaGreatDoorG09
import Derived.Test.YtceipblcdcgljaaGreatDoorG10
import Derived.Test.YtceipblcdcgljaaGreatDoorG11
import Derived.Test.YtceipblcdcgljaaGreatDoorG12
import Derived.Test.YtceipblcdcgljaaGreatDoorG15
import Derived.Test.YtceipblcdcgljaaGreatDoorG28
import Derived.Test.YtceipblcdcgljaaGreatDoorG41
import Derived.Deep.Cut
namespace Go.Proofs.YtceipblcdcgljaaGreatDoor
open Go.RowKit
section
variable {Inv : World → Prop}
structure BrdO (Inv : World → Prop) : Prop extends BrdC Inv where
 room : ∀ (m : Mo) (f : Int) (k : Ky) (w : World), Inv w → in10 f → okK k → k.text.size ≤ 4294967296 → (lookE k.code).kind ≠ 1 → (lookE k.code).kind ≠ 2 → (lookE k.code).kind ≠ 5 → Calls Tryz.prog 10 #[moV m, .int .i64 f, kyV k] w (OutC (brdL m f k) w)
 look : ∀ (c : Int) (w : World), Inv w → in10 c → Calls Tryz.prog 15 #[.int .i64 c] w fun e w' => e = .returned (enV (lookE c)) ∧ Below w.heap.size w w'
 take : ∀ (A : Option Addr) (n c : Nat) (l : List UInt8) (s : Sq) (m : Nat) (w : World), Inv w → takeS l = some (s, m) → l.length = n → n ≤ c → n ≤ 4294967296 → Rd w A (bs l) → Calls Tryz.prog 16 #[.slice A n c] w fun e w' => (∃ A c, e = .returned (.tuple #[sqV s A c, .int .i64 (m : Int), .int .i64 0]) ∧ RdP w' A s.params) ∧ Below w.heap.size w w'
set_option maxRecDepth 100000 in
set_option maxHeartbeats 16000000 in
theorem boardWhole_walk (H : BrdO Inv) (m : Mo) (_ : okM m) (flags : Int) (l0 : 0 ≤ flags) (l1 : flags ≤ 255) (k : Ky) (hk : okK k) (hs : k.text.size ≤ maxLen) (w : World) (hv : Inv w) : Calls Tryz.prog 6 #[moV m, .int .u8 flags, kyV k] w fun e w' => e = .returned (.bool true) ∧ Below w.heap.size w w' := by
 obtain ⟨L, hL⟩ : ∃ L, brdL m flags k = L := ⟨_, rfl⟩
 obtain ⟨n, hn⟩ : ∃ n, L.length = n := ⟨_, rfl⟩
 obtain ⟨⟨K, E1, E2, E3, E4⟩, hE⟩ : ∃ E, lookE k.code = E := ⟨_, rfl⟩
 have HLK : Hid (∀ W, Inv W → Calls Tryz.prog 15 #[.int .i64 k.code] W fun e w' => e = .returned (.agg #[.int .i64 K, .int .u8 E1, .int .i64 E2, .int .i64 E3, .bool E4]) ∧ Below W.heap.size W w') := Lib.hid fun W hW => by have := H.look k.code W hW hk.code; rw [hE] at this; exact this
 have wf_ : IntKind.i64.wrap flags = flags := by rw [IntKind.wrap_i64]; omega
 by_cases hK : K = 1 ∨ K = 2 ∨ K = 5
 ·have t5 : ((K == 1) || (K == 2) || (K == 5)) = true := by rcases hK with e | e | e <;> rw [e] <;> rfl
  obtain ⟨x1, y1⟩ : ∃ x, (K == 1) = x := ⟨_, rfl⟩
  obtain ⟨x2, y2⟩ : ∃ x, (K == 2) = x := ⟨_, rfl⟩
  obtain ⟨x5, y5⟩ : ∃ x, (K == 5) = x := ⟨_, rfl⟩
  rw [y1, y2, y5] at t5
  have HT := Lib.hid t5
  have HKA0 : Hid (k.text.size ≤ 4294967296 → ∀ W, Inv W → Calls Tryz.prog 10 #[moV m, .int .i64 flags, kyV k] W (OutN L n W)) := Lib.hid fun h W hW => H.toBrdC.key_at m flags k hL hn ⟨by omega, by omega⟩ hk h W hW
  clear hK hE hL hn t5 l0 l1 hk
  simp only [moV, kyV] at HKA0 HLK hs ⊢
  obtain ⟨code, mods, typ, shift, base, text⟩ := k
  obtain ⟨m0, m1, m2, m3, m4, m5, m6, m7, m8, m9⟩ := m
  have hB : Below w.heap.size w ((w.alloc (.cells #[.bool m0, .bool m1, .bool m2, .bool m3, .bool m4, .bool m5, .bool m6, .int .i64 m7, .int .i64 m8, .int .i64 m9] 23)).alloc (.cells #[.int .i64 code, .int .i64 mods, .int .i64 typ, .int .i64 shift, .int .i64 base, .string text] 25)) := ((Below.refl _ w).alloc (Nat.le_refl _) _).alloc (by simp) _
  have a0 := (Blk.new w 23 #[.bool m0, .bool m1, .bool m2, .bool m3, .bool m4, .bool m5, .bool m6, .int .i64 m7, .int .i64 m8, .int .i64 m9]).alloc (.cells #[.int .i64 code, .int .i64 mods, .int .i64 typ, .int .i64 shift, .int .i64 base, .string text] 25)
  have b0 := Blk.new (w.alloc (.cells #[.bool m0, .bool m1, .bool m2, .bool m3, .bool m4, .bool m5, .bool m6, .int .i64 m7, .int .i64 m8, .int .i64 m9] 23)) 25 #[.int .i64 code, .int .i64 mods, .int .i64 typ, .int .i64 shift, .int .i64 base, .string text]
  rw [World.size_alloc] at b0
  have hv0 := H.invB hv hB
  simp only at HKA0 HLK hs
  have HSZ := Lib.hid hs
  clear hs
  go_enter Tryz.func6, Tryz.ntmps6
  go_wp2_with fail
  refine (brdAwake H.toBrdC _ hv0).mono ?_
  rintro e w1 ⟨rfl, hb1⟩
  have a1 := a0.below hb1 a0.lt
  have b1 := b0.below hb1 b0.lt
  have hB1 := hB.trans (hb1.mono hB.size)
  have hv1 := H.invB hv hB1
  clear hv0 a0 b0 hB hb1
  have c5 := b1.cell 5
  have hsz : (text.size : Int) ≤ 9223372036854775807 := by
   have := HSZ.out
   simp only [maxLen] at this
   omega
  by_cases h : 100 < text.size
  ·have t1 : decide (100 < (text.size : Int)) = true := decide_eq_true (by omega)
   clear h
   go_wp2_with fail
   go_ret
   exact ⟨rfl, hB1⟩
  have t1 : decide (100 < (text.size : Int)) = false := decide_eq_false (by omega)
  have hsm : text.size ≤ 4294967296 := by omega
  clear h
  have c0 := b1.cell 0
  have HKA := Lib.hid (HKA0.out hsm)
  clear HKA0
  go_wp2_with fail
  refine (HLK.out _ hv1).mono ?_
  rintro e w2 ⟨rfl, hb2⟩
  have a2 := (a1.below hb2 a1.lt).alloc (.cells #[.int .i64 K, .int .u8 E1, .int .i64 E2, .int .i64 E3, .bool E4] 36)
  have b2 := (b1.below hb2 b1.lt).alloc (.cells #[.int .i64 K, .int .u8 E1, .int .i64 E2, .int .i64 E3, .bool E4] 36)
  have e2 := Blk.new w2 36 #[.int .i64 K, .int .u8 E1, .int .i64 E2, .int .i64 E3, .bool E4]
  have hB2' := hB1.trans (hb2.mono hB1.size)
  have hB2 := hB2'.alloc hB2'.size (.cells #[.int .i64 K, .int .u8 E1, .int .i64 E2, .int .i64 E3, .bool E4] 36)
  clear hv1 a1 b1 hB1 hb2 hB2' c5 c0
  go_upto_region 5 with (fail)
  obtain ⟨E, hE⟩ : ∃ E, w2.heap.size = E := ⟨_, rfl⟩
  rw [hE] at e2
  generalize hW2 : (w2.alloc (.cells #[.int .i64 K, .int .u8 E1, .int .i64 E2, .int .i64 E3, .bool E4] 36)) = W2 at *
  clear hW2
  have hv2 := H.invB hv hB2
  obtain ⟨c0, c1, c2, c3, c4, c5⟩ := Blk.cells6 b2
  obtain ⟨d0, d1, d2, d3, d4, d5, d6, d7, d8, d9⟩ := Blk.cells10 a2
  go_wp2_with fail
  refine (HKA.out _ hv2).mono ?_
  rintro e w3 ⟨A3, x3, rfl, _, hb3⟩
  have hB3 := hB2.trans (hb3.mono hB2.size)
  have e3 := e2.below hb3 e2.lt
  clear c0 c1 c2 c3 c4 c5 d0 d1 d2 d3 d4 d5 d6 d7 d8 d9
  clear a2 b2 hB2 hb3 hv2 e2
  have e0_ := e3.cell 0
  cases x1 with
  | true =>
    go_wp2_with fail
    go_ret
    exact ⟨rfl, hB3⟩
  | false =>
    cases x2 with
    | true =>
      go_wp2_with fail
      go_ret
      exact ⟨rfl, hB3⟩
    | false =>
      cases x5 with
      | true =>
        go_wp2_with fail
        go_ret
        exact ⟨rfl, hB3⟩
      | false => exact absurd HT.out (by decide)
 have hK1 : K ≠ 1 := fun e => hK (.inl e)
 have hK2 : K ≠ 2 := fun e => hK (.inr (.inl e))
 have hK5 : K ≠ 5 := fun e => hK (.inr (.inr e))
 have y1 : (K == 1) = false := beq_false_of_ne hK1
 have y2 : (K == 2) = false := beq_false_of_ne hK2
 have y5 : (K == 5) = false := beq_false_of_ne hK5
 have hwh := brd_whole m flags (k := k) (by rw [hE]; exact hK1) (by rw [hE]; exact hK2) (by rw [hE]; exact hK5)
 rw [hL] at hwh
 have HKA0 : Hid (k.text.size ≤ 4294967296 → ∀ W, Inv W → Calls Tryz.prog 10 #[moV m, .int .i64 flags, kyV k] W fun e w' => ∃ A c, e = .returned (.slice A n c) ∧ n ≤ c ∧ Rd w' A (bs L) ∧ Below W.heap.size W w') := Lib.hid fun h W hW => by have := H.room m flags k W hW ⟨by omega, by omega⟩ hk h (by rw [hE]; exact hK1) (by rw [hE]; exact hK2) (by rw [hE]; exact hK5); rw [hL] at this; unfold OutC at this; rw [hn] at this; exact this
 have HN := Lib.hid hn
 have HWH := Lib.hid hwh
 have HLE : Hid (n ≤ 4294967296) := Lib.hid (by have := brd_le m flags k; rw [hL, hn] at this; omega)
 clear hK hK1 hK2 hK5 hE hL hn l0 l1 hk hwh
 simp only [moV, kyV] at HKA0 HLK hs ⊢
 obtain ⟨code, mods, typ, shift, base, text⟩ := k
 obtain ⟨m0, m1, m2, m3, m4, m5, m6, m7, m8, m9⟩ := m
 have hB : Below w.heap.size w ((w.alloc (.cells #[.bool m0, .bool m1, .bool m2, .bool m3, .bool m4, .bool m5, .bool m6, .int .i64 m7, .int .i64 m8, .int .i64 m9] 23)).alloc (.cells #[.int .i64 code, .int .i64 mods, .int .i64 typ, .int .i64 shift, .int .i64 base, .string text] 25)) := ((Below.refl _ w).alloc (Nat.le_refl _) _).alloc (by simp) _
 have a0 := (Blk.new w 23 #[.bool m0, .bool m1, .bool m2, .bool m3, .bool m4, .bool m5, .bool m6, .int .i64 m7, .int .i64 m8, .int .i64 m9]).alloc (.cells #[.int .i64 code, .int .i64 mods, .int .i64 typ, .int .i64 shift, .int .i64 base, .string text] 25)
 have b0 := Blk.new (w.alloc (.cells #[.bool m0, .bool m1, .bool m2, .bool m3, .bool m4, .bool m5, .bool m6, .int .i64 m7, .int .i64 m8, .int .i64 m9] 23)) 25 #[.int .i64 code, .int .i64 mods, .int .i64 typ, .int .i64 shift, .int .i64 base, .string text]
 rw [World.size_alloc] at b0
 have hv0 := H.invB hv hB
 simp only at HKA0 HLK hs
 have HSZ := Lib.hid hs
 clear hs
 go_enter Tryz.func6, Tryz.ntmps6
 go_wp2_with fail
 refine (brdAwake H.toBrdC _ hv0).mono ?_
 rintro e w1 ⟨rfl, hb1⟩
 have a1 := a0.below hb1 a0.lt
 have b1 := b0.below hb1 b0.lt
 have hB1 := hB.trans (hb1.mono hB.size)
 have hv1 := H.invB hv hB1
 clear hv0 a0 b0 hB hb1
 have c5 := b1.cell 5
 have hsz : (text.size : Int) ≤ 9223372036854775807 := by
  have := HSZ.out
  simp only [maxLen] at this
  omega
 by_cases h : 100 < text.size
 ·have t1 : decide (100 < (text.size : Int)) = true := decide_eq_true (by omega)
  clear h
  go_wp2_with fail
  go_ret
  exact ⟨rfl, hB1⟩
 have t1 : decide (100 < (text.size : Int)) = false := decide_eq_false (by omega)
 have hsm : text.size ≤ 4294967296 := by omega
 clear h
 have c0 := b1.cell 0
 have HKA := Lib.hid (HKA0.out hsm)
 clear HKA0
 go_wp2_with fail
 refine (HLK.out _ hv1).mono ?_
 rintro e w2 ⟨rfl, hb2⟩
 have a2 := (a1.below hb2 a1.lt).alloc (.cells #[.int .i64 K, .int .u8 E1, .int .i64 E2, .int .i64 E3, .bool E4] 36)
 have b2 := (b1.below hb2 b1.lt).alloc (.cells #[.int .i64 K, .int .u8 E1, .int .i64 E2, .int .i64 E3, .bool E4] 36)
 have e2 := Blk.new w2 36 #[.int .i64 K, .int .u8 E1, .int .i64 E2, .int .i64 E3, .bool E4]
 have hB2' := hB1.trans (hb2.mono hB1.size)
 have hB2 := hB2'.alloc hB2'.size (.cells #[.int .i64 K, .int .u8 E1, .int .i64 E2, .int .i64 E3, .bool E4] 36)
 clear hv1 a1 b1 hB1 hb2 hB2' c5 c0
 go_upto_region 5 with (fail)
 obtain ⟨E, hE⟩ : ∃ E, w2.heap.size = E := ⟨_, rfl⟩
 rw [hE] at e2
 generalize hW2 : (w2.alloc (.cells #[.int .i64 K, .int .u8 E1, .int .i64 E2, .int .i64 E3, .bool E4] 36)) = W2 at *
 clear hW2
 have hv2 := H.invB hv hB2
 obtain ⟨c0, c1, c2, c3, c4, c5⟩ := Blk.cells6 b2
 obtain ⟨d0, d1, d2, d3, d4, d5, d6, d7, d8, d9⟩ := Blk.cells10 a2
 go_wp2_with fail
 refine (HKA.out _ hv2).mono ?_
 rintro e w3 ⟨A3, x3, rfl, hx3, hr3, hb3⟩
 have hB3 := hB2.trans (hb3.mono hB2.size)
 have hv3 := H.invB hv hB3
 have e3 := e2.below hb3 e2.lt
 clear c0 c1 c2 c3 c4 c5 d0 d1 d2 d3 d4 d5 d6 d7 d8 d9
 clear a2 b2 hB2 hb3 hv2 e2
 have e0_ := e3.cell 0
 by_cases hn0 : n = 0
 ·subst hn0
  go_wp2_with fail
  go_ret
  exact ⟨rfl, hB3⟩
 have tn : ((n : Int) == 0) = false := beq_false_of_ne (by omega)
 obtain ⟨s, hs⟩ := HWH.out (fun e => hn0 (by rw [← HN.out, e]; rfl))
 have hnl : n ≤ 4294967296 := HLE.out
 have HTK := Lib.hid (H.take A3 n x3 L s n w3 hv3 (by rw [hs, HN.out]) HN.out hx3 hnl hr3)
 clear hs HWH hr3 hn0 hnl
 go_wp2_with fail
 refine HTK.out.mono ?_
 clear HTK
 rintro e w4 ⟨⟨A4, x4, rfl, _⟩, hb4⟩
 have hB4 := hB3.trans (hb4.mono hB3.size)
 have hsq : ∃ cs, sqV s A4 x4 = .agg cs ∧ cs.size = 6 := ⟨_, rfl, rfl⟩
 unfold sqV
 go_wp2_with fail
 go_ret
 exact ⟨rfl, hB4.alloc hB4.size _⟩
end
def TabIn (n₁ : Nat) (w : World) : Prop := Lib.TabBelow Tryz.prog n₁ w "internal/strconv.uint64pow10" .u64 Lib.pow10Tab
theorem TabIn.tab {n₁ : Nat} {w : World} (h : TabIn n₁ w) : Tab w := h.here
theorem TabIn.below {n₁ : Nat} {w w' : World} (h : TabIn n₁ w) (hb : Below n₁ w w') : TabIn n₁ w' := h.on hb
theorem TabIn.grown {n₁ : Nat} {w w' : World} (h : TabIn n₁ w) (hg : w.grownBy w' (some n₁)) (hn : n₁ < w.heap.size) : TabIn n₁ w' := h.on (below_grown hg (Nat.le_refl _) hn)
theorem Rdr.lt {w : World} {g : Nat} {A : Option Addr} {c : Nat} {l r : List UInt8} {x0 x1 x2 x3 x4 x5 : Value} (h : Rdr w g A c l x0 x1 x2 x3 x4 x5 r) : g < w.heap.size := by
 obtain ⟨_, _, _, _, hb⟩ := h
 exact hb.lt
theorem Rdr.below {B : Nat} {w w' : World} {g : Nat} {A : Option Addr} {c : Nat} {l r : List UInt8} {x0 x1 x2 x3 x4 x5 : Value} (h : Rdr w g A c l x0 x1 x2 x3 x4 x5 r) (hb : Below B w w') (hB : g < B) : Rdr w' g A c l x0 x1 x2 x3 x4 x5 r := by
 obtain ⟨p, h1, h2, h3, h4⟩ := h
 exact ⟨p, h1, h2, h3.below (hb.mono (Nat.le_of_lt hB)), h4.below hb hB⟩
theorem Rdr.drewN {w : World} {g : Nat} {A : Option Addr} {c : Nat} {l r : List UInt8} {x0 x1 x2 x3 x4 x5 : Value} (h : Rdr w g A c l x0 x1 x2 x3 x4 x5 r) (n : Nat) : Rdr (w.drewN n) g A c l x0 x1 x2 x3 x4 x5 r := h
theorem skip_yes (g : Nat) (A : Option Addr) (c : Nat) (l t r : List UInt8) (x0 x1 x2 x3 x4 x5 : Value) (w : World) (hq : skipB t r = true) (hlc : l.length ≤ c) (hl : l.length ≤ 4294967296) (ht : t.length ≤ 4294967296) (h : Rdr w g A c l x0 x1 x2 x3 x4 x5 r) :
 Calls Tryz.prog 28 #[.pointer (some ⟨g, 0, none⟩), .string ⟨t.toArray⟩] w fun e w' => e = .returned (.bool true) ∧ Rdr w' g A c l x0 x1 x2 x3 x4 x5 (r.drop t.length) ∧ w.grownBy w' (some g) :=
 skip_any g A c l t r x0 x1 x2 x3 x4 x5 true w hq hlc hl ht h
theorem skip_no (g : Nat) (A : Option Addr) (c : Nat) (l t r : List UInt8) (x0 x1 x2 x3 x4 x5 : Value) (w : World) (hq : skipB t r = false) (hlc : l.length ≤ c) (hl : l.length ≤ 4294967296) (ht : t.length ≤ 4294967296) (h : Rdr w g A c l x0 x1 x2 x3 x4 x5 r) :
 Calls Tryz.prog 28 #[.pointer (some ⟨g, 0, none⟩), .string ⟨t.toArray⟩] w fun e w' => e = .returned (.bool false) ∧ Rdr w' g A c l x0 x1 x2 x3 x4 x5 r ∧ w.grownBy w' (some g) :=
 skip_any g A c l t r x0 x1 x2 x3 x4 x5 false w hq hlc hl ht h
set_option maxRecDepth 100000 in
set_option maxHeartbeats 4000000 in
theorem one_any (g : Nat) (A : Option Addr) (c a b : Nat) (l r : List UInt8) (x : UInt8) (x0 x1 x2 x3 x4 x5 : Value) (w : World) (hx : oneF a b r = x) (ha : 1 ≤ a) (hlc : l.length ≤ c) (hl : l.length ≤ 4294967296) (h : Rdr w g A c l x0 x1 x2 x3 x4 x5 r) :
 Calls Tryz.prog 59 #[.pointer (some ⟨g, 0, none⟩), .int .u8 a, .int .u8 b] w fun e w' => e = .returned (.int .u8 (x.toNat : Int)) ∧ Rdr w' g A c l x0 x1 x2 x3 x4 x5 (r.drop (runF a b 1 r).length) ∧ w.grownBy w' (some g) := by
 have hone := one_run a b r ha
 rw [hx] at hone
 by_cases h0 : x = 0
 ·subst h0
  have HU := Lib.hid (show runF a b 1 r = [] from hone)
  clear hone hx
  go_enter Tryz.func59, Tryz.ntmps59
  go_wp2_with fail
  refine (run2_any g A c a b 1 l r [] x0 x1 x2 x3 x4 x5 _ HU.out hlc hl (by omega) h).mono ?_
  rintro e w1 ⟨rfl, h1, hg1⟩
  go_wp2_with fail
  go_ret
  rw [HU.out]
  exact ⟨rfl, h1, hg1⟩
 ·have HU := Lib.hid (show runF a b 1 r = [x] by rw [hone]; exact if_neg h0)
  clear hone hx h0
  go_enter Tryz.func59, Tryz.ntmps59
  go_wp2_with fail
  refine (run2_any g A c a b 1 l r [x] x0 x1 x2 x3 x4 x5 _ HU.out hlc hl (by omega) h).mono ?_
  rintro e w1 ⟨rfl, h1, hg1⟩
  go_wp2_with fail
  go_ret
  rw [HU.out]
  exact ⟨rfl, h1, hg1⟩
set_option maxRecDepth 100000 in
set_option maxHeartbeats 4000000 in
theorem part2_any (g : Nat) (A : Option Addr) (c : Nat) (l r r' : List UInt8) (n : Int) (x0 x1 x2 x3 x4 x5 : Value) (w : World) (hn : partF r = (n, r')) (hlc : l.length ≤ c) (hl : l.length ≤ 4294967296) (ht : TabIn g w) (h : Rdr w g A c l x0 x1 x2 x3 x4 x5 r) :
 Calls Tryz.prog 127 #[.pointer (some ⟨g, 0, none⟩)] w fun e w' => e = .returned (.int .i64 n) ∧ Rdr w' g A c l x0 x1 x2 x3 x4 x5 r' ∧ w.grownBy w' (some g) := by
 have hh := h
 obtain ⟨at_, hat, hr, hrd, hblk⟩ := h
 have hlt := hblk.lt
 obtain ⟨A', hcut, hrd2⟩ := cut_run (P := Tryz.prog) (T := 27) (e := 5) (by kernel_rfl) Tryz.underlying27 Tryz.sizeOf5 A l.length c at_ hat hlc
 have hrd3 := hrd2 g w l rfl hrd
 rw [hr] at hrd3
 have c0 : w.cell? ⟨g, 0, none⟩ = some (.slice A l.length c) := hblk.cell 0
 have c1 : w.cell? ⟨g, 1, none⟩ = some (.int .i64 (at_ : Int)) := hblk.cell 1
 have HL := Lib.hid (show r.length = l.length - at_ by rw [← hr, List.length_drop])
 have n0 : (0 : Int) ≤ (at_ : Int) := by omega
 have n1 : (at_ : Int) ≤ (l.length : Int) := by omega
 have hrl : r.length ≤ 4294967296 := by have := HL.out; omega
 have HS : Hid (∀ W, Below w.heap.size w W → W.cell? ⟨g, 0, none⟩ = some (.slice A l.length c) ∧ W.cell? ⟨g, 1, none⟩ = some (.int .i64 (at_ : Int)) ∧ Below w.heap.size w W) := Lib.hid fun W hb => ⟨(hb.cell (p := ⟨g, 0, none⟩) hlt).trans c0, (hb.cell (p := ⟨g, 1, none⟩) hlt).trans c1, hb⟩
 have HR3 : Hid (∀ W, Below w.heap.size w W → Rd W A' (bs r)) := Lib.hid fun W hb => ((hrd3.rd (Nat.le_of_lt hlt))).below hb
 obtain ⟨v, hv⟩ : ∃ v, satv r = v := ⟨_, rfl⟩
 have hvle := satv_le r
 rw [hv] at hvle
 have HV := Lib.hid hv
 have HN := Lib.hid hn
 obtain ⟨d, hd⟩ : ∃ d, digs r = d := ⟨_, rfl⟩
 have HD := Lib.hid hd
 clear hr hv hrd2 hrd3 hn hd
 go_enter Tryz.func127, Tryz.ntmps127
 go_wp2_with fail
 go_region_held (fun w' => w'.cell? ⟨g, 0, none⟩ = some (.slice A l.length c) ∧ w'.cell? ⟨g, 1, none⟩ = some (.int .i64 (at_ : Int)) ∧ Below w.heap.size w w') (first | exact HS.out _ (Below.refl _ _).drew | exact HS.out _ ((Below.refl _ _).drew.trans hb2)) (first | (go_at_call 141; refine (take_at A' _ r _ _ HL.out hrl (HR3.out _ (Below.refl _ _).drew)).mono ?_; rw [HV.out, HD.out]; rintro e w2 ⟨rfl, hb2⟩))
 have hb2w : Below w.heap.size w w2 := (Below.refl _ _).drew.trans hb2
 have h2 := hh.below hb2w hlt
 have ht2 := ht.below (hb2w.mono (Nat.le_of_lt hlt))
 have hg2 := grown_below (some g) hb2w
 clear hb2
 obtain ⟨T, hT⟩ : ∃ T, textL (v : Int) = T := ⟨_, rfl⟩
 have HT := Lib.hid hT
 have hTl := textL_length (v : Int) (by omega)
 rw [hT] at hTl
 clear hT HS HR3 hcut c0 c1 hrd hblk hh
 have key : skipB T r = true ∧ n = (v : Int) ∧ r' = r.drop T.length ∨ skipB T r = false ∧ n = -1 ∧ r' = r := by
  have := HN.out
  unfold partF at this
  rw [HV.out, HT.out] at this
  cases hs : skipB T r with
  | true => rw [hs, if_pos rfl] at this; injection this with e1 e2; exact .inl ⟨rfl, e1.symm, e2.symm⟩
  | false => rw [hs, if_neg (by simp)] at this; injection this with e1 e2; exact .inr ⟨rfl, e1.symm, e2.symm⟩
 clear HN
 rcases key with ⟨hs, rfl, rfl⟩ | ⟨hs, rfl, rfl⟩
 ·have HSK := Lib.hid hs
  clear hs
  go_wp2_with fail
  refine (text_any (v : Int) _ (by omega) (by omega) ht2.tab).mono ?_
  rw [HT.out]
  rintro e w3 ⟨rfl, hb3⟩
  go_wp2_with fail
  refine (skip_any g A c l T r x0 x1 x2 x3 x4 x5 true _ HSK.out hlc hl (by omega) (h2.below hb3 h2.lt)).mono ?_
  rintro e w4 ⟨rfl, h4, hg4⟩
  go_wp2_with fail
  go_ret
  exact ⟨rfl, h4, grown_trans hg2 (grown_trans (grown_below _ hb3) hg4)⟩
 ·have HSK := Lib.hid hs
  clear hs
  go_wp2_with fail
  refine (text_any (v : Int) _ (by omega) (by omega) ht2.tab).mono ?_
  rw [HT.out]
  rintro e w3 ⟨rfl, hb3⟩
  go_wp2_with fail
  refine (skip_any g A c l T r' x0 x1 x2 x3 x4 x5 false _ HSK.out hlc hl (by omega) (h2.below hb3 h2.lt)).mono ?_
  rintro e w4 ⟨rfl, h4, hg4⟩
  go_wp2_with fail
  go_ret
  exact ⟨rfl, h4, grown_trans hg2 (grown_trans (grown_below _ hb3) hg4)⟩
theorem rdr_apart {w : World} {g : Nat} {A : Option Addr} {c : Nat} {l r : List UInt8} {x0 x1 x2 x3 x4 x5 : Value} (h : Rdr w g A c l x0 x1 x2 x3 x4 x5 r) {base n : Nat} {e : TypeId} {v : Value} {xs : List Value} (ho : Own w base e 1 v n xs) (hne : e ≠ 63) : v.ownBlock ≠ some g := by
 obtain ⟨_, _, _, _, hb⟩ := h
 exact ho.no_cells hb hne
theorem Rdr.app {w w' : World} {g : Nat} {A : Option Addr} {c : Nat} {l r : List UInt8} {x0 x1 x2 x3 x4 x5 : Value} (h : Rdr w g A c l x0 x1 x2 x3 x4 x5 r) {base n : Nat} {e : TypeId} {v : Value} {xs : List Value} (ho : Own w base e 1 v n xs) (hb : g < base) (hne : e ≠ 63) (hg : w.grownBy w' v.ownBlock) : Rdr w' g A c l x0 x1 x2 x3 x4 x5 r := by
 have hap := rdr_apart h ho hne
 obtain ⟨p, h1, h2, h3, h4⟩ := h
 refine ⟨p, h1, h2, fun hp => ?_, h4.grown hg hap⟩
 obtain ⟨b, o, rfl, hlt, hc⟩ := h3 hp
 exact ⟨b, o, rfl, hlt, fun k u hu => (World.cell?_of_block (w := w) (a := ⟨b, o + k, none⟩) (hg.block b (by have := h4.lt; omega) (fun e => by have := (ho.lt b e.symm).1; omega))).trans (hc k u hu)⟩
theorem TabIn.app {g : Nat} {w w' : World} (h : TabIn g w) {base n : Nat} {e : TypeId} {v : Value} {xs : List Value} (ho : Own w base e 1 v n xs) (hb : g ≤ base) (hw : g ≤ w.heap.size) (hg : w.grownBy w' v.ownBlock) : TabIn g w' :=
 h.below ((Below.refl g w).grown hg hw (fun k hk => Nat.le_trans hb (ho.lt k hk).1))
theorem grown_own {w w1 w2 : World} {g B n : Nat} {e : TypeId} {v : Value} {xs : List Value} (h : w.grownBy w1 (some g)) (ho : Own w1 B e 1 v n xs) (hB : w.heap.size ≤ B) (hg : w1.grownBy w2 v.ownBlock) : w.grownBy w2 (some g) :=
 ⟨hg.os.trans h.os, hg.tape.trans h.tape, hg.output.trans h.output, Nat.le_trans h.size hg.size, fun k hk hr => (hg.block k (Nat.lt_of_lt_of_le hk h.size) (fun e => by have := (ho.lt k e.symm).1; omega)).trans (h.block k hk hr)⟩
def PartsPost (g : Nat) (A : Option Addr) (c : Nat) (l r' : List UInt8) (p : List Int) (x0 x1 x2 x3 x4 x5 : Value) (w : World) (e : Ending) (w' : World) : Prop :=
 (∃ A' c', e = .returned (.slice A' p.length c') ∧ RowI w' w'.heap.size 3 A' p) ∧ Rdr w' g A c l x0 x1 x2 x3 x4 x5 r' ∧ w.grownBy w' (some g)
theorem parts_post {g : Nat} {A : Option Addr} {c n c2 : Nat} {l r' : List UInt8} {p : List Int} {x0 x1 x2 x3 x4 x5 : Value} {w w' : World} {A2 : Option Addr} (hn : p.length = n) (h1 : RowI w' w'.heap.size 3 A2 p) (h2 : Rdr w' g A c l x0 x1 x2 x3 x4 x5 r') (h3 : w.grownBy w' (some g)) :
 PartsPost g A c l r' p x0 x1 x2 x3 x4 x5 w (.returned (.slice A2 n c2)) w' := ⟨⟨A2, c2, by rw [hn], h1⟩, h2, h3⟩
set_option maxRecDepth 100000 in
set_option maxHeartbeats 8000000 in
theorem parts2_any (g : Nat) (A : Option Addr) (c : Nat) (l r r' : List UInt8) (p : List Int) (x0 x1 x2 x3 x4 x5 : Value) (w : World) (hn : partsF r = (p, r')) (hlc : l.length ≤ c) (hl : l.length ≤ 4294967296) (ht : TabIn g w) (h : Rdr w g A c l x0 x1 x2 x3 x4 x5 r) :
 Calls Tryz.prog 93 #[.pointer (some ⟨g, 0, none⟩)] w (PartsPost g A c l r' p x0 x1 x2 x3 x4 x5 w) := by
 obtain ⟨i0, hi, hz0, hz1, hz2⟩ : ∃ i, Tryz.prog.info? 3 = some i ∧ i.zero = some (.int .i64 0) ∧ i.size = 1 ∧ i.bytes = 8 := ⟨_, rfl, rfl, rfl, rfl⟩
 have hlt := h.lt
 obtain ⟨n1, hn1⟩ : ∃ n1, (partF r).1 = n1 := ⟨_, rfl⟩
 obtain ⟨r1, hr1⟩ : ∃ r1, (partF r).2 = r1 := ⟨_, rfl⟩
 have HF := Lib.hid (show partF r = (n1, r1) by rw [← hn1, ← hr1])
 have HP := Lib.hid (show partsGo 7 [n1] r1 = (p, r') by rw [← hn, ← hn1, ← hr1]; rfl)
 clear hn hn1 hr1
 go_enter Tryz.func93, Tryz.ntmps93
 go_wp2_with fail
 refine (part2_any g A c l r r1 n1 x0 x1 x2 x3 x4 x5 _ HF.out hlc hl ht h).mono ?_
 rintro e w1 ⟨rfl, h1, hg1⟩
 have ht1 := ht.grown hg1 hlt
 clear h ht
 go_wp2_with fail
 have ho1 := own_lit (w1.alloc (.cells #[.int .i64 n1] 3)) w1.heap.size 3 w1.heap.size (.int .i64 n1) (Nat.le_refl _) (heap_alloc_new w1 _)
 have h1' := h1.below ((Below.refl _ w1).alloc (Nat.le_refl _) (.cells #[.int .i64 n1] 3)) h1.lt
 have hg1' : w.grownBy (w1.alloc (.cells #[.int .i64 n1] 3)) (some g) := grown_trans hg1 (World.grownBy_alloc w1 _ _)
 have ht1' := ht1.below (((Below.refl g w1).alloc (Nat.le_of_lt h1.lt) (.cells #[.int .i64 n1] 3)))
 have hws : w.heap.size ≤ w1.heap.size := hg1.size
 clear h1 hg1 ht1
 go_loopw [3] (fun v wr => ∃ (acc : List Int) (rr : List UInt8) (f B : Nat), acc.length + f = 8 ∧ Own wr B 3 1 v acc.length (is_ acc) ∧ Rdr wr g A c l x0 x1 x2 x3 x4 x5 rr ∧ TabIn g wr ∧ w.grownBy wr (some g) ∧ (w.heap.size ≤ B ∧ B ≤ wr.heap.size) ∧ Hid (partsGo f acc rr = (p, r'))) (fun v _ => match v with | .slice _ n _ => 8 - n | _ => 0)
 case atStart => exact ⟨[n1], r1, 7, w1.heap.size, rfl, ho1, h1', ht1', hg1', ⟨hws, by simp⟩, HP⟩
 case round =>
  obtain ⟨acc, rr, f, B, hf, ho, hR, hT, hG, ⟨hB, hB2⟩, HE⟩ := hrel
  clear ho1 h1' hg1' ht1' HP
  obtain ⟨n, hn⟩ : ∃ n, acc.length = n := ⟨_, rfl⟩
  rw [hn] at ho hf
  have HN := Lib.hid hn
  clear hn
  obtain ⟨A2, c2, rfl, _⟩ := ho.form
  by_cases h8 : n < 8
  ·obtain ⟨f', rfl⟩ : ∃ f', f = f' + 1 := ⟨f - 1, by omega⟩
   cases hs : skipB [58] rr with
   | true =>
     have HS := Lib.hid hs
     clear hs
     obtain ⟨n2, hn2⟩ : ∃ n2, (partF (rr.drop 1)).1 = n2 := ⟨_, rfl⟩
     obtain ⟨r2, hr2⟩ : ∃ r2, (partF (rr.drop 1)).2 = r2 := ⟨_, rfl⟩
     have HF2 := Lib.hid (show partF (rr.drop 1) = (n2, r2) by rw [← hn2, ← hr2])
     have HE2 := Lib.hid (show partsGo f' (acc ++ [n2]) r2 = (p, r') by
      have := HE.out
      unfold partsGo at this
      rw [if_pos HS.out, hn2, hr2] at this
      exact this)
     clear hn2 hr2 HE
     go_wp2_with fail
     refine (skip_yes g A c l [58] rr x0 x1 x2 x3 x4 x5 _ HS.out hlc hl (by simp) hR).mono ?_
     rintro e w2 ⟨rfl, hR2, hG2⟩
     have hT2 := hT.grown hG2 hR.lt
     have ho2 := ho.kept hG2 (.inr (rdr_apart hR ho (by decide)))
     have hG2' := grown_trans hG hG2
     have hs2 := Nat.le_trans hB2 hG2.size
     clear hR hT ho hG2 hG
     go_wp2_with fail
     refine (part2_any g A c l (rr.drop 1) r2 n2 x0 x1 x2 x3 x4 x5 _ HF2.out hlc hl hT2 hR2).mono ?_
     rintro e w3 ⟨rfl, hR3, hG3⟩
     have hT3 := hT2.grown hG3 hR2.lt
     have ho3 := ho2.kept hG3 (.inr (rdr_apart hR2 ho2 (by decide)))
     have hG3' := grown_trans hG2' hG3
     have hs3 := Nat.le_trans hs2 hG3.size
     clear hR2 hT2 ho2 hG3 hG2'
     have hown4 := ho3.alloc (.cells #[.int .i64 n2] 3)
     have hR4 := hR3.below ((Below.refl _ w3).alloc (Nat.le_refl _) (.cells #[.int .i64 n2] 3)) hR3.lt
     have hT4 := hT3.below (((Below.refl g w3).alloc (Nat.le_of_lt hR3.lt) (.cells #[.int .i64 n2] 3)))
     have hG4 : w.grownBy (w3.alloc (.cells #[.int .i64 n2] 3)) (some g) := grown_trans hG3' (World.grownBy_alloc w3 _ _)
     have hrd4 : Rd (w3.alloc (.cells #[.int .i64 n2] 3)) (some ⟨w3.heap.size, 0, none⟩) [.int .i64 n2] := Rd.block (heap_alloc_new w3 _) (by simp)
     have h63 : n + 1 ≤ maxLen := by simp only [maxLen]; omega
     have hlim : (n + 1) * 8 ≤ 140737488355328 := by omega
     have hbs4 : B ≤ (w3.alloc (.cells #[.int .i64 n2] 3)).heap.size := by simp; omega
     have hone4 : ∀ u ∈ [Value.int IntKind.i64 n2], u.oneCell' = true := fun u hu => by rw [List.mem_singleton] at hu; subst hu; rfl
     clear hR3 hT3 ho3 hG3'
     go_wp2_with (first | (at_builtin; refine list_app _ rfl (.tmp 18) (.tmp 23) 57 rfl B 3 i0 _ 1 8 Tryz.underlying57 hi hz0 hz1 hz2 rfl Nat.one_pos _ _ _ rfl hown4 _ 1 1 [.int .i64 n2] rfl rfl hrd4 hone4 h63 hlim hbs4 ?_; intro v5 w5 hown5 hg5))
     have hR5 := hR4.app hown4 (by omega) (by decide) hg5
     have hT5 := hT4.app hown4 (by omega) (Nat.le_of_lt hR4.lt) hg5
     have hG5 := grown_own hG4 hown4 hB hg5
     rw [← is_snoc] at hown5
     have hnn := HN.out
     obtain ⟨A5, c5, rfl, _⟩ := hown5.form
     have HL5 := Lib.hid (show (acc ++ [n2]).length = n + 1 by rw [List.length_append, hnn]; rfl)
     have hs5 : B ≤ w5.heap.size := Nat.le_trans hbs4 hg5.size
     clear hnn hg5 hown4 hR4 hT4 hG4 hrd4
     go_wp2_with fail
     go_roundw
     case rel => exact ⟨acc ++ [n2], r2, f', B, by rw [HL5.out]; omega, by rw [HL5.out]; exact hown5, hR5, hT5, hG5, ⟨hB, hs5⟩, HE2⟩
     case measure => simp; omega
   | false =>
     have HS := Lib.hid hs
     clear hs
     have hE := HE.out
     unfold partsGo at hE
     rw [if_neg (by rw [HS.out]; simp)] at hE
     injection hE with e1 e2
     subst e1
     subst e2
     clear HE
     go_wp2_with fail
     refine (skip_no g A c l [58] rr x0 x1 x2 x3 x4 x5 _ HS.out hlc hl (by simp) hR).mono ?_
     rintro e w2 ⟨rfl, hR2, hG2⟩
     have ho2 := ho.kept hG2 (.inr (rdr_apart hR ho (by decide)))
     obtain ⟨hnn, A3, c3, h3, hrow⟩ := own_row ho2
     cases h3
     clear hnn
     go_wp2_with fail
     go_ret
     exact parts_post HN.out hrow hR2 (grown_trans hG hG2)
  ·have h8' : 8 ≤ n := by omega
   obtain rfl : f = 0 := by omega
   have hE := HE.out
   unfold partsGo at hE
   injection hE with e1 e2
   subst e1
   subst e2
   clear HE h8
   obtain ⟨hnn, A3, c3, h3, hrow⟩ := own_row ho
   cases h3
   clear hnn
   go_wp2_with fail
   go_ret
   exact parts_post HN.out hrow hR hG
theorem Rows.box {w w' : World} {B g : Nat} {A : Option Addr} {c : Nat} {l r : List UInt8} {x0 x1 x2 x3 x4 x5 : Value} {e : TypeId} {xs : List Value} {ps : List (List Int)} (h : Rows w B e xs ps) (hR : Rdr w g A c l x0 x1 x2 x3 x4 x5 r) (hne : e ≠ 63) (hg : w.grownBy w' (some g)) : Rows w' B e xs ps := by
 obtain ⟨_, _, _, _, hb⟩ := hR
 exact h.keep (Nat.le_refl _) fun k _ ⟨cur, fz, hh⟩ => hg.block k (Array.getElem?_eq_some_iff.1 hh).1 (fun e => tag_ne hb hh hne (by injection e))
def ParamsPost (g : Nat) (A : Option Addr) (c : Nat) (l r' : List UInt8) (ps : List (List Int)) (x0 x1 x2 x3 x4 x5 : Value) (w : World) (e : Ending) (w' : World) : Prop :=
 (∃ A' c', e = .returned (.slice A' ps.length c') ∧ RdPN g w' A' ps) ∧ Rdr w' g A c l x0 x1 x2 x3 x4 x5 r' ∧ w.grownBy w' (some g)
theorem params_post {g : Nat} {A : Option Addr} {c n c2 : Nat} {l r' : List UInt8} {p : List (List Int)} {x0 x1 x2 x3 x4 x5 : Value} {w w' : World} {A2 : Option Addr} (hn : p.length = n) (h1 : RdPN g w' A2 p) (h2 : Rdr w' g A c l x0 x1 x2 x3 x4 x5 r') (h3 : w.grownBy w' (some g)) :
 ParamsPost g A c l r' p x0 x1 x2 x3 x4 x5 w (.returned (.slice A2 n c2)) w' := ⟨⟨A2, c2, by rw [hn], h1⟩, h2, h3⟩
set_option maxRecDepth 100000 in
set_option maxHeartbeats 8000000 in
theorem params2_any (g : Nat) (A : Option Addr) (c : Nat) (l r r' : List UInt8) (ps : List (List Int)) (x0 x1 x2 x3 x4 x5 : Value) (w : World) (hn : paramsF r = (ps, r')) (hlc : l.length ≤ c) (hl : l.length ≤ 4294967296) (ht : TabIn g w) (h : Rdr w g A c l x0 x1 x2 x3 x4 x5 r) :
 Calls Tryz.prog 60 #[.pointer (some ⟨g, 0, none⟩)] w (ParamsPost g A c l r' ps x0 x1 x2 x3 x4 x5 w) := by
 obtain ⟨j0, hj, hy0, hy1, hy2⟩ : ∃ i, Tryz.prog.info? 57 = some i ∧ i.zero = some (.slice none 0 0) ∧ i.size = 1 ∧ i.bytes = 24 := ⟨_, rfl, rfl, rfl, rfl⟩
 have hlt := h.lt
 obtain ⟨p1, hp1⟩ : ∃ p1, (partsF r).1 = p1 := ⟨_, rfl⟩
 obtain ⟨r1, hr1⟩ : ∃ r1, (partsF r).2 = r1 := ⟨_, rfl⟩
 have HF := Lib.hid (show partsF r = (p1, r1) by rw [← hp1, ← hr1])
 obtain ⟨qs, hqs⟩ : ∃ qs, (paramsGo 15 [p1] r1).1 = qs := ⟨_, rfl⟩
 have HP := Lib.hid (show paramsGo 15 [p1] r1 = (qs, r') by
  have : (paramsF r).2 = r' := by rw [hn]
  rw [← this, ← hqs, ← hp1, ← hr1]; rfl)
 have HQ := Lib.hid (show noneL qs = ps by
  have : (paramsF r).1 = ps := by rw [hn]
  rw [← this, ← hqs, ← hp1, ← hr1]; rfl)
 clear hn hp1 hr1 hqs
 go_enter Tryz.func60, Tryz.ntmps60
 go_wp2_with fail
 refine (parts2_any g A c l r r1 p1 x0 x1 x2 x3 x4 x5 _ HF.out hlc hl ht h).mono ?_
 rintro e w1 ⟨⟨A1, c1, rfl, hri1⟩, h1, hg1⟩
 have ht1 := ht.grown hg1 hlt
 obtain ⟨n1, hn1⟩ : ∃ n1, p1.length = n1 := ⟨_, rfl⟩
 have HN1 := Lib.hid hn1
 rw [hn1]
 clear h ht hn1
 go_wp2_with fail
 have ho1 := own_lit (w1.alloc (.cells #[.slice A1 n1 c1] 57)) w1.heap.size 57 w1.heap.size (.slice A1 n1 c1) (Nat.le_refl _) (heap_alloc_new w1 _)
 have h1' := h1.below ((Below.refl _ w1).alloc (Nat.le_refl _) (.cells #[.slice A1 n1 c1] 57)) h1.lt
 have hg1' : w.grownBy (w1.alloc (.cells #[.slice A1 n1 c1] 57)) (some g) := grown_trans hg1 (World.grownBy_alloc w1 _ _)
 have ht1' := ht1.below (((Below.refl g w1).alloc (Nat.le_of_lt h1.lt) (.cells #[.slice A1 n1 c1] 57)))
 have hws : w.heap.size ≤ w1.heap.size := hg1.size
 have hrs1 : Rows (w1.alloc (.cells #[.slice A1 n1 c1] 57)) w1.heap.size 3 ([] ++ [.slice A1 n1 c1]) ([] ++ [p1]) :=
  Rows.snoc2 ⟨rfl, fun k hk => absurd hk (by simp)⟩ HN1.out.symm (hri1.keep (Nat.le_refl _) (fun q hq _ => Below.heap_alloc w1 _ q hq))
 rw [List.nil_append, List.nil_append] at hrs1
 clear h1 hg1 ht1 hri1 HN1
 go_loopw [3] (fun v wr => ∃ (acc : List (List Int)) (rr : List UInt8) (f B : Nat) (xs : List Value), acc.length + f = 16 ∧ Own wr B 57 1 v acc.length xs ∧ (∃ B2, B2 ≤ wr.heap.size ∧ Rows wr B2 3 xs acc) ∧ Rdr wr g A c l x0 x1 x2 x3 x4 x5 rr ∧ TabIn g wr ∧ w.grownBy wr (some g) ∧ (w.heap.size ≤ B ∧ B ≤ wr.heap.size) ∧ Hid (paramsGo f acc rr = (qs, r'))) (fun v _ => match v with | .slice _ n _ => 16 - n | _ => 0)
 case atStart => exact ⟨[p1], r1, 15, w1.heap.size, _, rfl, ho1, ⟨w1.heap.size, by simp, hrs1⟩, h1', ht1', hg1', ⟨hws, by simp⟩, HP⟩
 case round =>
  obtain ⟨acc, rr, f, B, xs, hf, ho, ⟨B2, hB3, hrs⟩, hR, hT, hG, ⟨hB, hB2⟩, HE⟩ := hrel
  clear ho1 h1' hg1' ht1' HP hrs1
  obtain ⟨n, hn⟩ : ∃ n, acc.length = n := ⟨_, rfl⟩
  rw [hn] at ho hf
  have HN := Lib.hid hn
  clear hn
  obtain ⟨A2, c2, rfl, _⟩ := ho.form
  by_cases h8 : n < 16
  ·obtain ⟨f', rfl⟩ : ∃ f', f = f' + 1 := ⟨f - 1, by omega⟩
   cases hs : skipB [59] rr with
   | true =>
     have HS := Lib.hid hs
     clear hs
     obtain ⟨p2, hp2⟩ : ∃ p2, (partsF (rr.drop 1)).1 = p2 := ⟨_, rfl⟩
     obtain ⟨r2, hr2⟩ : ∃ r2, (partsF (rr.drop 1)).2 = r2 := ⟨_, rfl⟩
     have HF2 := Lib.hid (show partsF (rr.drop 1) = (p2, r2) by rw [← hp2, ← hr2])
     have HE2 := Lib.hid (show paramsGo f' (acc ++ [p2]) r2 = (qs, r') by
      have := HE.out
      unfold paramsGo at this
      rw [if_pos HS.out, hp2, hr2] at this
      exact this)
     clear hp2 hr2 HE
     go_wp2_with fail
     refine (skip_yes g A c l [59] rr x0 x1 x2 x3 x4 x5 _ HS.out hlc hl (by simp) hR).mono ?_
     rintro e w2 ⟨rfl, hR2, hG2⟩
     have hT2 := hT.grown hG2 hR.lt
     have ho2 := ho.kept hG2 (.inr (rdr_apart hR ho (by decide)))
     have hrs2 := hrs.box hR (by decide) hG2
     have hG2' := grown_trans hG hG2
     have hs2 := Nat.le_trans hB2 hG2.size
     have hb2s := Nat.le_trans hB3 hG2.size
     clear hR hT ho hG2 hG hrs
     go_wp2_with fail
     refine (parts2_any g A c l (rr.drop 1) r2 p2 x0 x1 x2 x3 x4 x5 _ HF2.out hlc hl hT2 hR2).mono ?_
     rintro e w3 ⟨⟨A3, c3, rfl, hri3⟩, hR3, hG3⟩
     obtain ⟨n3, hn3⟩ : ∃ n3, p2.length = n3 := ⟨_, rfl⟩
     have HN3 := Lib.hid hn3
     rw [hn3]
     clear hn3
     have hT3 := hT2.grown hG3 hR2.lt
     have ho3 := ho2.kept hG3 (.inr (rdr_apart hR2 ho2 (by decide)))
     have hrs3 := hrs2.box hR2 (by decide) hG3
     have hG3' := grown_trans hG2' hG3
     have hs3 := Nat.le_trans hs2 hG3.size
     have hb3s := Nat.le_trans hb2s hG3.size
     clear hR2 hT2 ho2 hG3 hG2' hrs2
     have hown4 := ho3.alloc (.cells #[.slice A3 n3 c3] 57)
     have hR4 := hR3.below ((Below.refl _ w3).alloc (Nat.le_refl _) (.cells #[.slice A3 n3 c3] 57)) hR3.lt
     have hT4 := hT3.below (((Below.refl g w3).alloc (Nat.le_of_lt hR3.lt) (.cells #[.slice A3 n3 c3] 57)))
     have hG4 : w.grownBy (w3.alloc (.cells #[.slice A3 n3 c3] 57)) (some g) := grown_trans hG3' (World.grownBy_alloc w3 _ _)
     have hrd4 : Rd (w3.alloc (.cells #[.slice A3 n3 c3] 57)) (some ⟨w3.heap.size, 0, none⟩) [.slice A3 n3 c3] := Rd.block (heap_alloc_new w3 _) (by simp)
     have hrs4 := ((hrs3.keep (Nat.le_refl B2) (fun q hq _ => Below.heap_alloc w3 (.cells #[.slice A3 n3 c3] 57) q (by omega))).keep (B' := w3.heap.size) hb3s (fun _ _ _ => rfl)).snoc2 HN3.out.symm (c := c3) (hri3.keep (Nat.le_refl _) (fun q hq _ => Below.heap_alloc w3 (.cells #[.slice A3 n3 c3] 57) q hq))
     have h63 : n + 1 ≤ maxLen := by simp only [maxLen]; omega
     have hlim : (n + 1) * 24 ≤ 140737488355328 := by omega
     have hbs4 : B ≤ (w3.alloc (.cells #[.slice A3 n3 c3] 57)).heap.size := by simp; omega
     have hws3 : w3.heap.size ≤ (w3.alloc (.cells #[.slice A3 n3 c3] 57)).heap.size := by simp
     clear hR3 hT3 ho3 hG3' hrs3 hri3
     go_wp2_with (first | (at_builtin; refine list_app _ rfl (.tmp 16) (.tmp 19) 38 rfl B 57 j0 _ 1 24 Tryz.underlying38 hj hy0 hy1 hy2 rfl Nat.one_pos _ _ _ rfl hown4 _ 1 1 [.slice A3 n3 c3] rfl rfl hrd4 (sl_one _ _ _) h63 hlim hbs4 ?_; intro v5 w5 hown5 hg5))
     have hR5 := hR4.app hown4 (by omega) (by decide) hg5
     have hT5 := hT4.app hown4 (by omega) (Nat.le_of_lt hR4.lt) hg5
     have hG5 := grown_own hG4 hown4 hB hg5
     have hrs5 := hrs4.keep (B' := w3.heap.size) (Nat.le_refl _) (keep_out hown4 (by decide) hg5)
     have hnn := HN.out
     obtain ⟨A5, c5, rfl, _⟩ := hown5.form
     have HL5 := Lib.hid (show (acc ++ [p2]).length = n + 1 by rw [List.length_append, hnn]; rfl)
     have hs5 : B ≤ w5.heap.size := Nat.le_trans hbs4 hg5.size
     have hs6 : w3.heap.size ≤ w5.heap.size := Nat.le_trans hws3 hg5.size
     clear hnn hg5 hown4 hR4 hT4 hG4 hrd4 hrs4
     go_wp2_with fail
     go_roundw
     case rel => exact ⟨acc ++ [p2], r2, f', B, _, by rw [HL5.out]; omega, by rw [HL5.out]; exact hown5, ⟨w3.heap.size, hs6, hrs5⟩, hR5, hT5, hG5, ⟨hB, hs5⟩, HE2⟩
     case measure => simp; omega
   | false =>
     have HS := Lib.hid hs
     clear hs
     have hE := HE.out
     unfold paramsGo at hE
     rw [if_neg (by rw [HS.out]; simp)] at hE
     injection hE with e1 e2
     subst e1
     subst e2
     clear HE
     go_wp2_with fail
     refine (skip_no g A c l [59] rr x0 x1 x2 x3 x4 x5 _ HS.out hlc hl (by simp) hR).mono ?_
     rintro e w2 ⟨rfl, hR2, hG2⟩
     have ho2 := ho.kept hG2 (.inr (rdr_apart hR ho (by decide)))
     have hrs2 := hrs.box hR (by decide) hG2
     have hG2' := grown_trans hG hG2
     have hR2b := hR2
     obtain ⟨_, _, _, _, hblk2⟩ := hR2b
     obtain ⟨A3, c3, h3, hrow⟩ := hrs2.rdpn ho2 hblk2 (by decide) (by decide)
     cases h3
     clear hblk2
     cases hq : decide (acc = [[-1]]) with
     | true =>
       have HQQ := Lib.hid hq
       have hps := HQ.out
       unfold noneL at hps
       rw [if_pos (of_decide_eq_true hq)] at hps
       subst hps
       clear hq
       go_wp2_with fail
       refine (isNone_any A2 n c2 acc true _ HN.out HQQ.out (by omega) hrow.rdp).mono ?_
       rintro e w3 ⟨rfl, rfl⟩
       go_wp2_with fail
       go_ret
       exact params_post rfl (RdPN.nil _ _ _) hR2 hG2'
     | false =>
       have HQQ := Lib.hid hq
       have hps := HQ.out
       unfold noneL at hps
       rw [if_neg (of_decide_eq_false hq)] at hps
       subst hps
       clear hq
       go_wp2_with fail
       refine (isNone_any A2 n c2 acc false _ HN.out HQQ.out (by omega) hrow.rdp).mono ?_
       rintro e w3 ⟨rfl, rfl⟩
       go_wp2_with fail
       go_ret
       exact params_post HN.out hrow hR2 hG2'
  ·have h8' : 16 ≤ n := by omega
   obtain rfl : f = 0 := by omega
   have hE := HE.out
   unfold paramsGo at hE
   injection hE with e1 e2
   subst e1
   subst e2
   clear HE h8
   have hR2b := hR
   obtain ⟨_, _, _, _, hblk2⟩ := hR2b
   obtain ⟨A3, c3, h3, hrow⟩ := hrs.rdpn ho hblk2 (by decide) (by decide)
   cases h3
   clear hblk2
   cases hq : decide (acc = [[-1]]) with
   | true =>
     exfalso
     have := congrArg List.length (of_decide_eq_true hq)
     rw [HN.out] at this
     simp at this
     omega
   | false =>
     have HQQ := Lib.hid hq
     have hps := HQ.out
     unfold noneL at hps
     rw [if_neg (of_decide_eq_false hq)] at hps
     subst hps
     clear hq
     go_wp2_with fail
     refine (isNone_any A2 n c2 acc false _ HN.out HQQ.out (by omega) hrow.rdp).mono ?_
     rintro e w3 ⟨rfl, rfl⟩
     go_wp2_with fail
     go_ret
     exact params_post HN.out hrow hR hG
end Go.Proofs.YtceipblcdcgljaaGreatDoor
