/-
  Layer 11, walked: the document's Key.
-/
import Derived.Test.YtceipblcdcgljaaGreatDoorG12
import Derived.Test.YtceipblcdcgljaaGreatDoorG32
import Derived.Test.YtceipblcdcgljaaGreatDoorG35
import Derived.Deep.Cut
namespace Go.Proofs.YtceipblcdcgljaaGreatDoor
open Go.RowKit
theorem Blk.set5 {w : World} {g : Nat} {t : TypeId} {p0 p1 p2 p3 p4 : Value} (h : Blk w g t #[p0, p1, p2, p3, p4]) (x0 x1 x2 x3 x4 : Value) : Blk (((((w.setCell ⟨g, 0, none⟩ x0).setCell ⟨g, 1, none⟩ x1).setCell ⟨g, 2, none⟩ x2).setCell ⟨g, 3, none⟩ x3).setCell ⟨g, 4, none⟩ x4) g t #[x0, x1, x2, x3, x4] := by
 have h0 : Blk _ g t #[x0, p1, p2, p3, p4] := h.set 0 x0
 have h1 : Blk _ g t #[x0, x1, p2, p3, p4] := h0.set 1 x1
 have h2 : Blk _ g t #[x0, x1, x2, p3, p4] := h1.set 2 x2
 have h3 : Blk _ g t #[x0, x1, x2, x3, p4] := h2.set 3 x3
 exact h3.set 4 x4
theorem Blk.far5 {w : World} {g b : Nat} {t : TypeId} {cs : Array Value} (h : Blk w g t cs) (hb : g ≠ b) (x0 x1 x2 x3 x4 : Value) : Blk (((((w.setCell ⟨b, 0, none⟩ x0).setCell ⟨b, 1, none⟩ x1).setCell ⟨b, 2, none⟩ x2).setCell ⟨b, 3, none⟩ x3).setCell ⟨b, 4, none⟩ x4) g t cs :=
 ((((h.far (a := ⟨b, 0, none⟩) hb x0).far (a := ⟨b, 1, none⟩) hb x1).far (a := ⟨b, 2, none⟩) hb x2).far (a := ⟨b, 3, none⟩) hb x3).far (a := ⟨b, 4, none⟩) hb x4
theorem below_set5b {B : Nat} {a w : World} (h : Below B a w) {b : Nat} (hb : B ≤ b) (x y z u v : Value) : Below B a (((((w.setCell ⟨b, 0, none⟩ x).setCell ⟨b, 1, none⟩ y).setCell ⟨b, 2, none⟩ z).setCell ⟨b, 3, none⟩ u).setCell ⟨b, 4, none⟩ v) :=
 ((((h.setCell (p := ⟨b, 0, none⟩) hb x).setCell (p := ⟨b, 1, none⟩) hb y).setCell (p := ⟨b, 2, none⟩) hb z).setCell (p := ⟨b, 3, none⟩) hb u).setCell (p := ⟨b, 4, none⟩) hb v
theorem nil_out {w w' : World} (hb : Below w.heap.size w w') : Out [] w (.returned (.slice none 0 0)) w' := ⟨none, 0, rfl, Rd.nil _ _, hb⟩
theorem calls_text {k : Ky} (hk : okK k) (hs : k.text.size ≤ 4294967296) : (∀ W, Calls Tryz.prog 49 #[kyV k] W (Out (shownG k.code k.shift (hasN k.mods 1) (hasN k.mods 4) k.text.data.toList) W)) ∧ (∀ (A : Option Addr) (c : Nat) (W : World), Rd W A (bs (shownG k.code k.shift (hasN k.mods 1) (hasN k.mods 4) k.text.data.toList)) → Calls Tryz.prog 48 #[kyV k, .slice A (shownG k.code k.shift (hasN k.mods 1) (hasN k.mods 4) k.text.data.toList).length c] W (Out (aheadG (hasN k.mods 2) (shownG k.code k.shift (hasN k.mods 1) (hasN k.mods 4) k.text.data.toList)) W)) :=
 ⟨fun W => rshown11_any k hk hs W, fun A c W hr => rahead_any k hk _ _ rfl (by
   have := shownG_len k.code k.shift (hasN k.mods 1) (hasN k.mods 4) k.text.data.toList
   have e : k.text.data.toList.length = k.text.size := Array.length_toList
   omega) A c W hr⟩
theorem calls_plain {m : Mo} {k : Ky} (hk : okK k) : (∀ W, Calls Tryz.prog 50 #[moV m, kyV k] W (Out (plainG m k.code (hasN k.mods 1) (hasN k.mods 4)) W)) ∧ (∀ (A : Option Addr) (c : Nat) (W : World), Rd W A (bs (plainG m k.code (hasN k.mods 1) (hasN k.mods 4))) → Calls Tryz.prog 48 #[kyV k, .slice A (plainG m k.code (hasN k.mods 1) (hasN k.mods 4)).length c] W (Out (aheadG (hasN k.mods 2) (plainG m k.code (hasN k.mods 1) (hasN k.mods 4))) W)) :=
 ⟨fun W => rplain11_any m k hk W, fun A c W hr => rahead_any k hk _ _ rfl (by
   have := plainG_len m k.code (hasN k.mods 1) (hasN k.mods 4)
   omega) A c W hr⟩
set_option maxRecDepth 100000 in
set_option maxHeartbeats 16000000 in
theorem rkey11_m_text (m : Mo) (k : Ky) (hk : okK k) (hs : k.text.size ≤ 4294967296) (hm : mayK k = true) (h3 : k.typ ≠ 3) (h5 : (lookE k.code).kind ≠ 5) (hK : (lookE k.code).kind = 1) (w : World) :
 Calls Tryz.prog 21 #[moV m, kyV k] w (Out (legL m k) w) := by
 obtain ⟨R, hR⟩ : ∃ R, legL m k = R := ⟨_, rfl⟩
 have HM : Hid (∀ W, Calls Tryz.prog 14 #[kyV k] W fun e w' => e = .returned (.bool true) ∧ Below W.heap.size W w') := Lib.hid fun W => by rw [← hm]; exact rmay10_any k hs W
 have HO : Hid (∀ W, Calls Tryz.prog 44 #[.int .i64 k.mods] W fun e w' => e = .returned (.int .i64 (oldN k.mods)) ∧ Below W.heap.size W w') := Lib.hid fun W => rold_any k.mods W
 have HL : Hid (∀ W, Calls Tryz.prog 22 #[.int .i64 k.code] W fun e w' => e = .returned (enV (lookE k.code)) ∧ Below W.heap.size W w') := Lib.hid fun W => rlook_any k.code W
 have t3 : (k.typ == 3) = false := beq_false_of_ne h3
 have ho : 0 ≤ oldN k.mods ∧ oldN k.mods < 8 := by unfold oldN; omega
 rw [leg_yes hm h3] at hR
 unfold legG at hR
 obtain ⟨hch, hfn⟩ := char_e k.code
 rw [if_neg h5] at hR
 unfold legE at hR
 rw [if_pos hK] at hR
 have E := Lib.hid hR.symm
 have hR0 : legL m k = R := by rw [leg_yes hm h3]; unfold legG; rw [if_neg h5]; unfold legE; rw [if_pos hK]; exact hR
 rw [hR0]
 clear hR hR0 hm h3
 have HT := Lib.hid (calls_text (k := k) hk hs)
 obtain ⟨⟨K, F, N, C, B⟩, hE⟩ : ∃ E, lookE k.code = E := ⟨_, rfl⟩
 simp only [hE] at HL h5 hK E HT
 clear hE hch hfn
 obtain ⟨ov, hov⟩ : ∃ v, oldN k.mods = v := ⟨_, rfl⟩
 simp only [hov] at ho HO
 clear hov
 have t5 : (K == 5) = false := beq_false_of_ne h5
 subst hK
 obtain ⟨code, mods, typ, shift, base, text⟩ := k
 obtain ⟨m0, m1, m2, m3, m4, m5, m6, m7, m8, m9⟩ := m
 simp only [enV, kyV] at HM HO HL t3 HT E
 rw [kyV, moV]
 have k2 := (Blk.new w 23 #[.bool m0, .bool m1, .bool m2, .bool m3, .bool m4, .bool m5, .bool m6, .int .i64 m7, .int .i64 m8, .int .i64 m9]).alloc (.cells #[.int .i64 code, .int .i64 mods, .int .i64 typ, .int .i64 shift, .int .i64 base, .string text] 25)
 have k3 := Blk.new (w.alloc (.cells #[.bool m0, .bool m1, .bool m2, .bool m3, .bool m4, .bool m5, .bool m6, .int .i64 m7, .int .i64 m8, .int .i64 m9] 23)) 25 #[.int .i64 code, .int .i64 mods, .int .i64 typ, .int .i64 shift, .int .i64 base, .string text]
 rw [World.size_alloc] at k3
 have hB0 : Below w.heap.size w ((w.alloc (.cells #[.bool m0, .bool m1, .bool m2, .bool m3, .bool m4, .bool m5, .bool m6, .int .i64 m7, .int .i64 m8, .int .i64 m9] 23)).alloc (.cells #[.int .i64 code, .int .i64 mods, .int .i64 typ, .int .i64 shift, .int .i64 base, .string text] 25)) := ((Below.refl _ w).alloc (Nat.le_refl _) _).alloc (by simp) _
 obtain ⟨a0, a1, a2, a3, a4, a5⟩ := Blk.cells6 k3
 go_enter Tryz.func21, Tryz.ntmps21
 go_wp2_with fail
 refine (HM.out _).mono ?_
 rintro e w1 ⟨rfl, hb1⟩
 have m1_ := k2.below hb1 k2.lt
 have k1_ := k3.below hb1 k3.lt
 have hB1 := hB0.trans (hb1.mono hB0.size)
 clear k2 k3 hB0 hb1 a0 a1 a2 a3 a4 a5
 obtain ⟨a0, a1, a2, a3, a4, a5⟩ := Blk.cells6 k1_
 go_wp2_with fail
 refine (HL.out _).mono ?_
 rintro e w2 ⟨rfl, hb2⟩
 have m2_ := m1_.below hb2 m1_.lt
 have k2_ := k1_.below hb2 k1_.lt
 have hB2 := hB1.trans (hb2.mono hB1.size)
 clear m1_ k1_ hB1 hb2 a0 a1 a2 a3 a4 a5
 have m2a := m2_.alloc (.cells #[.int .i64 1, .int .u8 F, .int .i64 N, .int .i64 C, .bool B] 53)
 have k2a := k2_.alloc (.cells #[.int .i64 1, .int .u8 F, .int .i64 N, .int .i64 C, .bool B] 53)
 have e2a := Blk.new w2 53 #[.int .i64 1, .int .u8 F, .int .i64 N, .int .i64 C, .bool B]
 have hB2a := hB2.alloc hB2.size (.cells #[.int .i64 1, .int .u8 F, .int .i64 N, .int .i64 C, .bool B] 53)
 have hlk := k2_.lt
 obtain ⟨a0, a1, a2, a3, a4, a5⟩ := Blk.cells6 k2a
 go_wp2_with fail
 refine (HO.out _).mono ?_
 rintro e w3 ⟨rfl, hb3⟩
 have mB := m2a.below hb3 m2a.lt
 have kB := k2a.below hb3 k2a.lt
 have eB := e2a.below hb3 e2a.lt
 have hB3 := hB2a.trans (hb3.mono hB2a.size)
 clear m2_ k2_ m2a k2a e2a hB2a hb3 a0 a1 a2 a3 a4 a5
 have hlw := hB2.size
 obtain ⟨a0, a1, a2, a3, a4, a5⟩ := Blk.cells6 kB
 obtain ⟨e0, e1, e2, e3, e4⟩ := Blk.cells5 eB
 obtain ⟨c0, c1, c2, c3, c4, c5, c6, c7, c8, c9⟩ := Blk.cells10 mB
 go_wp2_with fail
 go_region_with (first
  | (go_at_call 49; refine (HT.out.1 _).mono ?_; rintro e w6 ⟨A6, c6_, rfl, hr6, hb6⟩; obtain ⟨y0, y1, y2, y3, y4, y5⟩ := Blk.cells6 (kB.drew.below hb6 kB.lt))
  | (go_at_call 48; refine (HT.out.2 A6 c6_ _ hr6).mono ?_; rintro e w7 ⟨A7, c7_, rfl, hr7, hb7⟩))
 all_goals
  go_wp2_with fail
  go_ret
  exact out_is E.out ⟨A7, c7_, rfl, hr7, hB3.drew.trans ((hb6.trans (hb7.mono hb6.size)).mono hB3.size)⟩
set_option maxRecDepth 100000 in
set_option maxHeartbeats 16000000 in
theorem rkey11_m_plain (m : Mo) (k : Ky) (hk : okK k) (hs : k.text.size ≤ 4294967296) (hm : mayK k = true) (h3 : k.typ ≠ 3) (h5 : (lookE k.code).kind ≠ 5) (hK : (lookE k.code).kind = 2) (w : World) :
 Calls Tryz.prog 21 #[moV m, kyV k] w (Out (legL m k) w) := by
 obtain ⟨R, hR⟩ : ∃ R, legL m k = R := ⟨_, rfl⟩
 have HM : Hid (∀ W, Calls Tryz.prog 14 #[kyV k] W fun e w' => e = .returned (.bool true) ∧ Below W.heap.size W w') := Lib.hid fun W => by rw [← hm]; exact rmay10_any k hs W
 have HO : Hid (∀ W, Calls Tryz.prog 44 #[.int .i64 k.mods] W fun e w' => e = .returned (.int .i64 (oldN k.mods)) ∧ Below W.heap.size W w') := Lib.hid fun W => rold_any k.mods W
 have HL : Hid (∀ W, Calls Tryz.prog 22 #[.int .i64 k.code] W fun e w' => e = .returned (enV (lookE k.code)) ∧ Below W.heap.size W w') := Lib.hid fun W => rlook_any k.code W
 have t3 : (k.typ == 3) = false := beq_false_of_ne h3
 have ho : 0 ≤ oldN k.mods ∧ oldN k.mods < 8 := by unfold oldN; omega
 rw [leg_yes hm h3] at hR
 unfold legG at hR
 obtain ⟨hch, hfn⟩ := char_e k.code
 rw [if_neg h5] at hR
 unfold legE at hR
 rw [if_neg (by rw [hK]; decide), if_pos hK] at hR
 have E := Lib.hid hR.symm
 have hR0 : legL m k = R := by rw [leg_yes hm h3]; unfold legG; rw [if_neg h5]; unfold legE; rw [if_neg (by rw [hK]; decide), if_pos hK]; exact hR
 rw [hR0]
 clear hR hR0 hm h3
 have HT := Lib.hid (calls_plain (m := m) (k := k) hk)
 obtain ⟨⟨K, F, N, C, B⟩, hE⟩ : ∃ E, lookE k.code = E := ⟨_, rfl⟩
 simp only [hE] at HL h5 hK E HT
 clear hE hch hfn
 obtain ⟨ov, hov⟩ : ∃ v, oldN k.mods = v := ⟨_, rfl⟩
 simp only [hov] at ho HO
 clear hov
 have t5 : (K == 5) = false := beq_false_of_ne h5
 subst hK
 obtain ⟨code, mods, typ, shift, base, text⟩ := k
 obtain ⟨m0, m1, m2, m3, m4, m5, m6, m7, m8, m9⟩ := m
 simp only [enV, kyV, moV] at HM HO HL t3 HT E
 rw [kyV, moV]
 have k2 := (Blk.new w 23 #[.bool m0, .bool m1, .bool m2, .bool m3, .bool m4, .bool m5, .bool m6, .int .i64 m7, .int .i64 m8, .int .i64 m9]).alloc (.cells #[.int .i64 code, .int .i64 mods, .int .i64 typ, .int .i64 shift, .int .i64 base, .string text] 25)
 have k3 := Blk.new (w.alloc (.cells #[.bool m0, .bool m1, .bool m2, .bool m3, .bool m4, .bool m5, .bool m6, .int .i64 m7, .int .i64 m8, .int .i64 m9] 23)) 25 #[.int .i64 code, .int .i64 mods, .int .i64 typ, .int .i64 shift, .int .i64 base, .string text]
 rw [World.size_alloc] at k3
 have hB0 : Below w.heap.size w ((w.alloc (.cells #[.bool m0, .bool m1, .bool m2, .bool m3, .bool m4, .bool m5, .bool m6, .int .i64 m7, .int .i64 m8, .int .i64 m9] 23)).alloc (.cells #[.int .i64 code, .int .i64 mods, .int .i64 typ, .int .i64 shift, .int .i64 base, .string text] 25)) := ((Below.refl _ w).alloc (Nat.le_refl _) _).alloc (by simp) _
 obtain ⟨a0, a1, a2, a3, a4, a5⟩ := Blk.cells6 k3
 go_enter Tryz.func21, Tryz.ntmps21
 go_wp2_with fail
 refine (HM.out _).mono ?_
 rintro e w1 ⟨rfl, hb1⟩
 have m1_ := k2.below hb1 k2.lt
 have k1_ := k3.below hb1 k3.lt
 have hB1 := hB0.trans (hb1.mono hB0.size)
 clear k2 k3 hB0 hb1 a0 a1 a2 a3 a4 a5
 obtain ⟨a0, a1, a2, a3, a4, a5⟩ := Blk.cells6 k1_
 go_wp2_with fail
 refine (HL.out _).mono ?_
 rintro e w2 ⟨rfl, hb2⟩
 have m2_ := m1_.below hb2 m1_.lt
 have k2_ := k1_.below hb2 k1_.lt
 have hB2 := hB1.trans (hb2.mono hB1.size)
 clear m1_ k1_ hB1 hb2 a0 a1 a2 a3 a4 a5
 have m2a := m2_.alloc (.cells #[.int .i64 2, .int .u8 F, .int .i64 N, .int .i64 C, .bool B] 53)
 have k2a := k2_.alloc (.cells #[.int .i64 2, .int .u8 F, .int .i64 N, .int .i64 C, .bool B] 53)
 have e2a := Blk.new w2 53 #[.int .i64 2, .int .u8 F, .int .i64 N, .int .i64 C, .bool B]
 have hB2a := hB2.alloc hB2.size (.cells #[.int .i64 2, .int .u8 F, .int .i64 N, .int .i64 C, .bool B] 53)
 have hlk := k2_.lt
 obtain ⟨a0, a1, a2, a3, a4, a5⟩ := Blk.cells6 k2a
 go_wp2_with fail
 refine (HO.out _).mono ?_
 rintro e w3 ⟨rfl, hb3⟩
 have mB := m2a.below hb3 m2a.lt
 have kB := k2a.below hb3 k2a.lt
 have eB := e2a.below hb3 e2a.lt
 have hB3 := hB2a.trans (hb3.mono hB2a.size)
 clear m2_ k2_ m2a k2a e2a hB2a hb3 a0 a1 a2 a3 a4 a5
 have hlw := hB2.size
 obtain ⟨a0, a1, a2, a3, a4, a5⟩ := Blk.cells6 kB
 obtain ⟨e0, e1, e2, e3, e4⟩ := Blk.cells5 eB
 obtain ⟨c0, c1, c2, c3, c4, c5, c6, c7, c8, c9⟩ := Blk.cells10 mB
 go_wp2_with fail
 go_region_with (first
  | (go_at_call 50; refine (HT.out.1 _).mono ?_; rintro e w6 ⟨A6, c6_, rfl, hr6, hb6⟩; obtain ⟨y0, y1, y2, y3, y4, y5⟩ := Blk.cells6 (kB.drew.below hb6 kB.lt))
  | (go_at_call 48; refine (HT.out.2 A6 c6_ _ hr6).mono ?_; rintro e w7 ⟨A7, c7_, rfl, hr7, hb7⟩))
 all_goals
  go_wp2_with fail
  go_ret
  exact out_is E.out ⟨A7, c7_, rfl, hr7, hB3.drew.trans ((hb6.trans (hb7.mono hb6.size)).mono hB3.size)⟩
set_option maxRecDepth 100000 in
set_option maxHeartbeats 16000000 in
theorem rkey11_m_func (m : Mo) (k : Ky) (hk : okK k) (hs : k.text.size ≤ 4294967296) (hm : mayK k = true) (h3 : k.typ ≠ 3) (h5 : (lookE k.code).kind ≠ 5) (hK : (lookE k.code).kind = 3 ∨ (lookE k.code).kind = 4) (w : World) :
 Calls Tryz.prog 21 #[moV m, kyV k] w (Out (legL m k) w) := by
 obtain ⟨R, hR⟩ : ∃ R, legL m k = R := ⟨_, rfl⟩
 have HM : Hid (∀ W, Calls Tryz.prog 14 #[kyV k] W fun e w' => e = .returned (.bool true) ∧ Below W.heap.size W w') := Lib.hid fun W => by rw [← hm]; exact rmay10_any k hs W
 have HO : Hid (∀ W, Calls Tryz.prog 44 #[.int .i64 k.mods] W fun e w' => e = .returned (.int .i64 (oldN k.mods)) ∧ Below W.heap.size W w') := Lib.hid fun W => rold_any k.mods W
 have HL : Hid (∀ W, Calls Tryz.prog 22 #[.int .i64 k.code] W fun e w' => e = .returned (enV (lookE k.code)) ∧ Below W.heap.size W w') := Lib.hid fun W => rlook_any k.code W
 have t3 : (k.typ == 3) = false := beq_false_of_ne h3
 have ho : 0 ≤ oldN k.mods ∧ oldN k.mods < 8 := by unfold oldN; omega
 rw [leg_yes hm h3] at hR
 unfold legG at hR
 obtain ⟨hch, hfn⟩ := char_e k.code
 rw [if_neg h5] at hR
 unfold legE at hR
 rw [if_neg (by omega), if_neg (by omega), if_pos hK] at hR
 have E := Lib.hid hR.symm
 have hR0 : legL m k = R := by rw [leg_yes hm h3]; unfold legG; rw [if_neg h5]; unfold legE; rw [if_neg (by omega), if_neg (by omega), if_pos hK]; exact hR
 rw [hR0]
 clear hR hR0 hm h3
 have HT : Hid (∀ W, Calls Tryz.prog 51 #[moV m, enV (lookE k.code), .int .i64 (oldN k.mods)] W (Out (funcG m (lookE k.code) (oldN k.mods)) W)) := Lib.hid fun W => rfunc_any m _ _ (char_e _).2.1 (by have := (char_e k.code).2.2; omega) ho.1 ho.2 W
 obtain ⟨⟨K, F, N, C, B⟩, hE⟩ : ∃ E, lookE k.code = E := ⟨_, rfl⟩
 simp only [hE] at HL h5 hK E HT
 clear hE hch hfn
 obtain ⟨ov, hov⟩ : ∃ v, oldN k.mods = v := ⟨_, rfl⟩
 simp only [hov] at ho HO E HT
 clear hov
 have t5 : (K == 5) = false := beq_false_of_ne h5
 obtain ⟨code, mods, typ, shift, base, text⟩ := k
 obtain ⟨m0, m1, m2, m3, m4, m5, m6, m7, m8, m9⟩ := m
 simp only [enV, kyV, moV] at HM HO HL t3 HT E
 rcases hK with hK | hK
 ·subst hK
  rw [kyV, moV]
  have k2 := (Blk.new w 23 #[.bool m0, .bool m1, .bool m2, .bool m3, .bool m4, .bool m5, .bool m6, .int .i64 m7, .int .i64 m8, .int .i64 m9]).alloc (.cells #[.int .i64 code, .int .i64 mods, .int .i64 typ, .int .i64 shift, .int .i64 base, .string text] 25)
  have k3 := Blk.new (w.alloc (.cells #[.bool m0, .bool m1, .bool m2, .bool m3, .bool m4, .bool m5, .bool m6, .int .i64 m7, .int .i64 m8, .int .i64 m9] 23)) 25 #[.int .i64 code, .int .i64 mods, .int .i64 typ, .int .i64 shift, .int .i64 base, .string text]
  rw [World.size_alloc] at k3
  have hB0 : Below w.heap.size w ((w.alloc (.cells #[.bool m0, .bool m1, .bool m2, .bool m3, .bool m4, .bool m5, .bool m6, .int .i64 m7, .int .i64 m8, .int .i64 m9] 23)).alloc (.cells #[.int .i64 code, .int .i64 mods, .int .i64 typ, .int .i64 shift, .int .i64 base, .string text] 25)) := ((Below.refl _ w).alloc (Nat.le_refl _) _).alloc (by simp) _
  obtain ⟨a0, a1, a2, a3, a4, a5⟩ := Blk.cells6 k3
  go_enter Tryz.func21, Tryz.ntmps21
  go_wp2_with fail
  refine (HM.out _).mono ?_
  rintro e w1 ⟨rfl, hb1⟩
  have m1_ := k2.below hb1 k2.lt
  have k1_ := k3.below hb1 k3.lt
  have hB1 := hB0.trans (hb1.mono hB0.size)
  clear k2 k3 hB0 hb1 a0 a1 a2 a3 a4 a5
  obtain ⟨a0, a1, a2, a3, a4, a5⟩ := Blk.cells6 k1_
  go_wp2_with fail
  refine (HL.out _).mono ?_
  rintro e w2 ⟨rfl, hb2⟩
  have m2_ := m1_.below hb2 m1_.lt
  have k2_ := k1_.below hb2 k1_.lt
  have hB2 := hB1.trans (hb2.mono hB1.size)
  clear m1_ k1_ hB1 hb2 a0 a1 a2 a3 a4 a5
  have m2a := m2_.alloc (.cells #[.int .i64 3, .int .u8 F, .int .i64 N, .int .i64 C, .bool B] 53)
  have k2a := k2_.alloc (.cells #[.int .i64 3, .int .u8 F, .int .i64 N, .int .i64 C, .bool B] 53)
  have e2a := Blk.new w2 53 #[.int .i64 3, .int .u8 F, .int .i64 N, .int .i64 C, .bool B]
  have hB2a := hB2.alloc hB2.size (.cells #[.int .i64 3, .int .u8 F, .int .i64 N, .int .i64 C, .bool B] 53)
  have hlk := k2_.lt
  obtain ⟨a0, a1, a2, a3, a4, a5⟩ := Blk.cells6 k2a
  go_wp2_with fail
  refine (HO.out _).mono ?_
  rintro e w3 ⟨rfl, hb3⟩
  have mB := m2a.below hb3 m2a.lt
  have kB := k2a.below hb3 k2a.lt
  have eB := e2a.below hb3 e2a.lt
  have hB3 := hB2a.trans (hb3.mono hB2a.size)
  clear m2_ k2_ m2a k2a e2a hB2a hb3 a0 a1 a2 a3 a4 a5
  have hlw := hB2.size
  obtain ⟨a0, a1, a2, a3, a4, a5⟩ := Blk.cells6 kB
  obtain ⟨e0, e1, e2, e3, e4⟩ := Blk.cells5 eB
  obtain ⟨c0, c1, c2, c3, c4, c5, c6, c7, c8, c9⟩ := Blk.cells10 mB
  go_wp2_with fail
  refine (HT.out _).mono ?_
  rintro e w6 ⟨A6, c6_, rfl, hr6, hb6⟩
  go_wp2_with fail
  go_ret
  exact out_is E.out ⟨A6, c6_, rfl, hr6, hB3.trans (hb6.mono hB3.size)⟩
 ·subst hK
  rw [kyV, moV]
  have k2 := (Blk.new w 23 #[.bool m0, .bool m1, .bool m2, .bool m3, .bool m4, .bool m5, .bool m6, .int .i64 m7, .int .i64 m8, .int .i64 m9]).alloc (.cells #[.int .i64 code, .int .i64 mods, .int .i64 typ, .int .i64 shift, .int .i64 base, .string text] 25)
  have k3 := Blk.new (w.alloc (.cells #[.bool m0, .bool m1, .bool m2, .bool m3, .bool m4, .bool m5, .bool m6, .int .i64 m7, .int .i64 m8, .int .i64 m9] 23)) 25 #[.int .i64 code, .int .i64 mods, .int .i64 typ, .int .i64 shift, .int .i64 base, .string text]
  rw [World.size_alloc] at k3
  have hB0 : Below w.heap.size w ((w.alloc (.cells #[.bool m0, .bool m1, .bool m2, .bool m3, .bool m4, .bool m5, .bool m6, .int .i64 m7, .int .i64 m8, .int .i64 m9] 23)).alloc (.cells #[.int .i64 code, .int .i64 mods, .int .i64 typ, .int .i64 shift, .int .i64 base, .string text] 25)) := ((Below.refl _ w).alloc (Nat.le_refl _) _).alloc (by simp) _
  obtain ⟨a0, a1, a2, a3, a4, a5⟩ := Blk.cells6 k3
  go_enter Tryz.func21, Tryz.ntmps21
  go_wp2_with fail
  refine (HM.out _).mono ?_
  rintro e w1 ⟨rfl, hb1⟩
  have m1_ := k2.below hb1 k2.lt
  have k1_ := k3.below hb1 k3.lt
  have hB1 := hB0.trans (hb1.mono hB0.size)
  clear k2 k3 hB0 hb1 a0 a1 a2 a3 a4 a5
  obtain ⟨a0, a1, a2, a3, a4, a5⟩ := Blk.cells6 k1_
  go_wp2_with fail
  refine (HL.out _).mono ?_
  rintro e w2 ⟨rfl, hb2⟩
  have m2_ := m1_.below hb2 m1_.lt
  have k2_ := k1_.below hb2 k1_.lt
  have hB2 := hB1.trans (hb2.mono hB1.size)
  clear m1_ k1_ hB1 hb2 a0 a1 a2 a3 a4 a5
  have m2a := m2_.alloc (.cells #[.int .i64 4, .int .u8 F, .int .i64 N, .int .i64 C, .bool B] 53)
  have k2a := k2_.alloc (.cells #[.int .i64 4, .int .u8 F, .int .i64 N, .int .i64 C, .bool B] 53)
  have e2a := Blk.new w2 53 #[.int .i64 4, .int .u8 F, .int .i64 N, .int .i64 C, .bool B]
  have hB2a := hB2.alloc hB2.size (.cells #[.int .i64 4, .int .u8 F, .int .i64 N, .int .i64 C, .bool B] 53)
  have hlk := k2_.lt
  obtain ⟨a0, a1, a2, a3, a4, a5⟩ := Blk.cells6 k2a
  go_wp2_with fail
  refine (HO.out _).mono ?_
  rintro e w3 ⟨rfl, hb3⟩
  have mB := m2a.below hb3 m2a.lt
  have kB := k2a.below hb3 k2a.lt
  have eB := e2a.below hb3 e2a.lt
  have hB3 := hB2a.trans (hb3.mono hB2a.size)
  clear m2_ k2_ m2a k2a e2a hB2a hb3 a0 a1 a2 a3 a4 a5
  have hlw := hB2.size
  obtain ⟨a0, a1, a2, a3, a4, a5⟩ := Blk.cells6 kB
  obtain ⟨e0, e1, e2, e3, e4⟩ := Blk.cells5 eB
  obtain ⟨c0, c1, c2, c3, c4, c5, c6, c7, c8, c9⟩ := Blk.cells10 mB
  go_wp2_with fail
  refine (HT.out _).mono ?_
  rintro e w6 ⟨A6, c6_, rfl, hr6, hb6⟩
  go_wp2_with fail
  go_ret
  exact out_is E.out ⟨A6, c6_, rfl, hr6, hB3.trans (hb6.mono hB3.size)⟩
set_option maxRecDepth 100000 in
set_option maxHeartbeats 16000000 in
theorem rkey11_m_none (m : Mo) (k : Ky) (hk : okK k) (hs : k.text.size ≤ 4294967296) (hm : mayK k = true) (h3 : k.typ ≠ 3) (h5 : (lookE k.code).kind ≠ 5) (hK : (lookE k.code).kind ≠ 1 ∧ (lookE k.code).kind ≠ 2 ∧ (lookE k.code).kind ≠ 3 ∧ (lookE k.code).kind ≠ 4) (w : World) :
 Calls Tryz.prog 21 #[moV m, kyV k] w (Out (legL m k) w) := by
 obtain ⟨R, hR⟩ : ∃ R, legL m k = R := ⟨_, rfl⟩
 have HM : Hid (∀ W, Calls Tryz.prog 14 #[kyV k] W fun e w' => e = .returned (.bool true) ∧ Below W.heap.size W w') := Lib.hid fun W => by rw [← hm]; exact rmay10_any k hs W
 have HO : Hid (∀ W, Calls Tryz.prog 44 #[.int .i64 k.mods] W fun e w' => e = .returned (.int .i64 (oldN k.mods)) ∧ Below W.heap.size W w') := Lib.hid fun W => rold_any k.mods W
 have HL : Hid (∀ W, Calls Tryz.prog 22 #[.int .i64 k.code] W fun e w' => e = .returned (enV (lookE k.code)) ∧ Below W.heap.size W w') := Lib.hid fun W => rlook_any k.code W
 have t3 : (k.typ == 3) = false := beq_false_of_ne h3
 have ho : 0 ≤ oldN k.mods ∧ oldN k.mods < 8 := by unfold oldN; omega
 rw [leg_yes hm h3] at hR
 unfold legG at hR
 obtain ⟨hch, hfn⟩ := char_e k.code
 rw [if_neg h5] at hR
 unfold legE at hR
 rw [if_neg hK.1, if_neg hK.2.1, if_neg (by omega)] at hR
 have E := Lib.hid hR.symm
 have hR0 : legL m k = R := by rw [leg_yes hm h3]; unfold legG; rw [if_neg h5]; unfold legE; rw [if_neg hK.1, if_neg hK.2.1, if_neg (by omega)]; exact hR
 rw [hR0]
 clear hR hR0 hm h3
 obtain ⟨⟨K, F, N, C, B⟩, hE⟩ : ∃ E, lookE k.code = E := ⟨_, rfl⟩
 simp only [hE] at HL h5 hK E
 clear hE hch hfn
 obtain ⟨ov, hov⟩ : ∃ v, oldN k.mods = v := ⟨_, rfl⟩
 simp only [hov] at ho HO
 clear hov
 have t5 : (K == 5) = false := beq_false_of_ne h5
 obtain ⟨q1, q2, q3, q4⟩ := hK
 have u1 : (K == 1) = false := beq_false_of_ne q1
 have u2 : (K == 2) = false := beq_false_of_ne q2
 have u3 : (K == 3) = false := beq_false_of_ne q3
 have u4 : (K == 4) = false := beq_false_of_ne q4
 obtain ⟨code, mods, typ, shift, base, text⟩ := k
 obtain ⟨m0, m1, m2, m3, m4, m5, m6, m7, m8, m9⟩ := m
 simp only [enV, kyV] at HM HO HL t3 E
 rw [kyV, moV]
 have k2 := (Blk.new w 23 #[.bool m0, .bool m1, .bool m2, .bool m3, .bool m4, .bool m5, .bool m6, .int .i64 m7, .int .i64 m8, .int .i64 m9]).alloc (.cells #[.int .i64 code, .int .i64 mods, .int .i64 typ, .int .i64 shift, .int .i64 base, .string text] 25)
 have k3 := Blk.new (w.alloc (.cells #[.bool m0, .bool m1, .bool m2, .bool m3, .bool m4, .bool m5, .bool m6, .int .i64 m7, .int .i64 m8, .int .i64 m9] 23)) 25 #[.int .i64 code, .int .i64 mods, .int .i64 typ, .int .i64 shift, .int .i64 base, .string text]
 rw [World.size_alloc] at k3
 have hB0 : Below w.heap.size w ((w.alloc (.cells #[.bool m0, .bool m1, .bool m2, .bool m3, .bool m4, .bool m5, .bool m6, .int .i64 m7, .int .i64 m8, .int .i64 m9] 23)).alloc (.cells #[.int .i64 code, .int .i64 mods, .int .i64 typ, .int .i64 shift, .int .i64 base, .string text] 25)) := ((Below.refl _ w).alloc (Nat.le_refl _) _).alloc (by simp) _
 obtain ⟨a0, a1, a2, a3, a4, a5⟩ := Blk.cells6 k3
 go_enter Tryz.func21, Tryz.ntmps21
 go_wp2_with fail
 refine (HM.out _).mono ?_
 rintro e w1 ⟨rfl, hb1⟩
 have m1_ := k2.below hb1 k2.lt
 have k1_ := k3.below hb1 k3.lt
 have hB1 := hB0.trans (hb1.mono hB0.size)
 clear k2 k3 hB0 hb1 a0 a1 a2 a3 a4 a5
 obtain ⟨a0, a1, a2, a3, a4, a5⟩ := Blk.cells6 k1_
 go_wp2_with fail
 refine (HL.out _).mono ?_
 rintro e w2 ⟨rfl, hb2⟩
 have m2_ := m1_.below hb2 m1_.lt
 have k2_ := k1_.below hb2 k1_.lt
 have hB2 := hB1.trans (hb2.mono hB1.size)
 clear m1_ k1_ hB1 hb2 a0 a1 a2 a3 a4 a5
 have m2a := m2_.alloc (.cells #[.int .i64 K, .int .u8 F, .int .i64 N, .int .i64 C, .bool B] 53)
 have k2a := k2_.alloc (.cells #[.int .i64 K, .int .u8 F, .int .i64 N, .int .i64 C, .bool B] 53)
 have e2a := Blk.new w2 53 #[.int .i64 K, .int .u8 F, .int .i64 N, .int .i64 C, .bool B]
 have hB2a := hB2.alloc hB2.size (.cells #[.int .i64 K, .int .u8 F, .int .i64 N, .int .i64 C, .bool B] 53)
 have hlk := k2_.lt
 obtain ⟨a0, a1, a2, a3, a4, a5⟩ := Blk.cells6 k2a
 go_wp2_with fail
 refine (HO.out _).mono ?_
 rintro e w3 ⟨rfl, hb3⟩
 have mB := m2a.below hb3 m2a.lt
 have kB := k2a.below hb3 k2a.lt
 have eB := e2a.below hb3 e2a.lt
 have hB3 := hB2a.trans (hb3.mono hB2a.size)
 clear m2_ k2_ m2a k2a e2a hB2a hb3 a0 a1 a2 a3 a4 a5
 have hlw := hB2.size
 obtain ⟨a0, a1, a2, a3, a4, a5⟩ := Blk.cells6 kB
 obtain ⟨e0, e1, e2, e3, e4⟩ := Blk.cells5 eB
 obtain ⟨c0, c1, c2, c3, c4, c5, c6, c7, c8, c9⟩ := Blk.cells10 mB
 go_wp2_with fail
 go_ret
 exact out_is E.out (nil_out hB3)
end Go.Proofs.YtceipblcdcgljaaGreatDoor
