/-
  Layer 14, the laws' walks over the bundle: BoardApart.
-/
import Derived.Test.YtceipblcdcgljaaGreatDoorG07
import Derived.Test.YtceipblcdcgljaaGreatDoorG15
import Derived.Test.YtceipblcdcgljaaGreatDoorG28
import Derived.Test.YtceipblcdcgljaaGreatDoorG44
import Derived.Deep.Cut
namespace Go.Proofs.YtceipblcdcgljaaGreatDoor
open Go.RowKit
section
variable {Inv : World → Prop}
set_option maxRecDepth 100000 in
set_option maxHeartbeats 16000000 in
theorem boardApart_in (H : BrdC Inv) (m n : Mo) (fa fb : Int) (a0_ : 0 ≤ fa) (_a1 : fa ≤ 255) (b0_ : 0 ≤ fb) (_b1 : fb ≤ 255) (k : Ky) (hk : okK k) (hs : k.text.size ≤ maxLen) (w : World) (hv : Inv w) : Calls Tryz.prog 4 #[.agg ((moC m).toList ++ (moC n).toList).toArray, .agg #[.int .u8 fa, .int .u8 fb], kyV k] w fun e w' => e = .returned (.bool true) ∧ Below w.heap.size w w' := by
 obtain ⟨A, hA⟩ : ∃ A, fa % 32 = A := ⟨_, rfl⟩
 obtain ⟨B, hB_⟩ : ∃ B, fb % 32 = B := ⟨_, rfl⟩
 have inA : in10 A := ⟨by omega, by omega⟩
 have inB : in10 B := ⟨by omega, by omega⟩
 obtain ⟨q1, hq1⟩ : ∃ q, clearsK A = q := ⟨_, rfl⟩
 obtain ⟨q2, hq2⟩ : ∃ q, clearsK B = q := ⟨_, rfl⟩
 obtain ⟨L, hL⟩ : ∃ L, brdL { m with lock := false } A k = L := ⟨_, rfl⟩
 have hap := brd_apart (m := { m with lock := false }) (n := { n with lock := false }) rfl rfl A B k
 rw [hq1, hq2, hL] at hap
 have HKA0 : Hid (k.text.size ≤ 4294967296 → ∀ W, Inv W → Calls Tryz.prog 10 #[moV { m with lock := false }, .int .i64 A, kyV k] W (Out L W)) := Lib.hid fun h W hW => by rw [← hL]; exact H.key _ A k W hW inA hk h
 have HKB0 : Hid (q1 = true → k.text.size ≤ 4294967296 → ∀ W, Inv W → Calls Tryz.prog 10 #[moV { n with lock := false }, .int .i64 A, kyV k] W (Out L W)) := Lib.hid fun hh h W hW => by rw [hap.1 hh]; exact H.key _ A k W hW inA hk h
 have HKC0 : Hid (q1 = false → q2 = false → k.text.size ≤ 4294967296 → ∀ W, Inv W → Calls Tryz.prog 10 #[moV { m with lock := false }, .int .i64 B, kyV k] W (Out L W)) := Lib.hid fun hh h2 h W hW => by rw [hap.2 hh h2]; exact H.key _ B k W hW inB hk h
 have HC1 : Hid (∀ W, Inv W → Calls Tryz.prog 12 #[.int .i64 A] W fun e w' => e = .returned (.bool q1) ∧ Below W.heap.size W w') := Lib.hid fun W hW => by rw [← hq1]; exact H.clears A W hW inA
 have HC2 : Hid (∀ W, Inv W → Calls Tryz.prog 12 #[.int .i64 B] W fun e w' => e = .returned (.bool q2) ∧ Below W.heap.size W w') := Lib.hid fun W hW => by rw [← hq2]; exact H.clears B W hW inB
 have ta : Int.tmod fa 32 = A := by rw [← hA]; exact Int.tmod_eq_emod_of_nonneg a0_
 have tb : Int.tmod fb 32 = B := by rw [← hB_]; exact Int.tmod_eq_emod_of_nonneg b0_
 have wa : IntKind.u8.wrap A = A := by rw [IntKind.wrap_u8]; omega
 have wb : IntKind.u8.wrap B = B := by rw [IntKind.wrap_u8]; omega
 have va : IntKind.i64.wrap A = A := by rw [IntKind.wrap_i64]; omega
 have vb : IntKind.i64.wrap B = B := by rw [IntKind.wrap_i64]; omega
 clear hL hk hq1 hq2 hap hA hB_ inA inB a0_ _a1 b0_ _b1
 simp only [moV, kyV] at HKA0 HKB0 HKC0
 obtain ⟨m0, m1, m2, m3, m4, m5, m6, m7, m8, m9⟩ := m
 obtain ⟨n0, n1, n2, n3, n4, n5, n6, n7, n8, n9⟩ := n
 obtain ⟨code, mods, typ, shift, base, text⟩ := k
 simp only at HKA0 HKB0 HKC0 hs
 show Calls Tryz.prog 4 #[.agg #[.bool m0, .bool m1, .bool m2, .bool m3, .bool m4, .bool m5, .bool m6, .int .i64 m7, .int .i64 m8, .int .i64 m9, .bool n0, .bool n1, .bool n2, .bool n3, .bool n4, .bool n5, .bool n6, .int .i64 n7, .int .i64 n8, .int .i64 n9], .agg #[.int .u8 fa, .int .u8 fb], .agg #[.int .i64 code, .int .i64 mods, .int .i64 typ, .int .i64 shift, .int .i64 base, .string text]] w _
 have hB : Below w.heap.size w (((w.alloc (.cells #[.bool m0, .bool m1, .bool m2, .bool m3, .bool m4, .bool m5, .bool m6, .int .i64 m7, .int .i64 m8, .int .i64 m9, .bool n0, .bool n1, .bool n2, .bool n3, .bool n4, .bool n5, .bool n6, .int .i64 n7, .int .i64 n8, .int .i64 n9] 31)).alloc (.cells #[.int .u8 fa, .int .u8 fb] 32)).alloc (.cells #[.int .i64 code, .int .i64 mods, .int .i64 typ, .int .i64 shift, .int .i64 base, .string text] 25)) := (((Below.refl _ w).alloc (Nat.le_refl _) _).alloc (by simp) _).alloc (by simp; omega) _
 have a0 := ((Blk.new w 31 #[.bool m0, .bool m1, .bool m2, .bool m3, .bool m4, .bool m5, .bool m6, .int .i64 m7, .int .i64 m8, .int .i64 m9, .bool n0, .bool n1, .bool n2, .bool n3, .bool n4, .bool n5, .bool n6, .int .i64 n7, .int .i64 n8, .int .i64 n9]).alloc (.cells #[.int .u8 fa, .int .u8 fb] 32)).alloc (.cells #[.int .i64 code, .int .i64 mods, .int .i64 typ, .int .i64 shift, .int .i64 base, .string text] 25)
 have f0 := (Blk.new (w.alloc (.cells #[.bool m0, .bool m1, .bool m2, .bool m3, .bool m4, .bool m5, .bool m6, .int .i64 m7, .int .i64 m8, .int .i64 m9, .bool n0, .bool n1, .bool n2, .bool n3, .bool n4, .bool n5, .bool n6, .int .i64 n7, .int .i64 n8, .int .i64 n9] 31)) 32 #[.int .u8 fa, .int .u8 fb]).alloc (.cells #[.int .i64 code, .int .i64 mods, .int .i64 typ, .int .i64 shift, .int .i64 base, .string text] 25)
 have b0 := Blk.new ((w.alloc (.cells #[.bool m0, .bool m1, .bool m2, .bool m3, .bool m4, .bool m5, .bool m6, .int .i64 m7, .int .i64 m8, .int .i64 m9, .bool n0, .bool n1, .bool n2, .bool n3, .bool n4, .bool n5, .bool n6, .int .i64 n7, .int .i64 n8, .int .i64 n9] 31)).alloc (.cells #[.int .u8 fa, .int .u8 fb] 32)) 25 #[.int .i64 code, .int .i64 mods, .int .i64 typ, .int .i64 shift, .int .i64 base, .string text]
 rw [World.size_alloc] at f0
 rw [World.size_alloc, World.size_alloc] at b0
 have hv0 := H.invB hv hB
 have HSZ := Lib.hid hs
 clear hs
 go_enter Tryz.func4, Tryz.ntmps4
 go_wp2_with fail
 refine (brdAwake H _ hv0).mono ?_
 rintro e w1 ⟨rfl, hb1⟩
 have a1 := a0.below hb1 a0.lt
 have f1 := f0.below hb1 f0.lt
 have b1 := b0.below hb1 b0.lt
 have hB1 := hB.trans (hb1.mono hB.size)
 have hv1 := H.invB hv hB1
 clear hv0 a0 f0 b0 hB hb1
 have c5 := b1.cell 5
 have hsz : (text.size : Int) ≤ 9223372036854775807 := by
  have := HSZ.out
  simp only [maxLen] at this
  omega
 by_cases h : 100 < text.size
 ·have t1 : decide (100 < (text.size : Int)) = true := decide_eq_true (by omega)
  clear h
  go_wp2_with fail
  go_ret
  exact ⟨rfl, hB1⟩
 have t1 : decide (100 < (text.size : Int)) = false := decide_eq_false (by omega)
 have hsm : text.size ≤ 4294967296 := by omega
 clear h
 have z5 := a1.frozen 5
 have d5 := a1.cell 5
 have a2 := a1.set 5 (.bool false)
 have z15 := a2.frozen 15
 have d15 := a2.cell 15
 have a3 : Blk ((w1.setCell ⟨w.heap.size, 5, none⟩ (.bool false)).setCell ⟨w.heap.size, 15, none⟩ (.bool false)) w.heap.size 31 #[.bool m0, .bool m1, .bool m2, .bool m3, .bool m4, .bool false, .bool m6, .int .i64 m7, .int .i64 m8, .int .i64 m9, .bool n0, .bool n1, .bool n2, .bool n3, .bool n4, .bool false, .bool n6, .int .i64 n7, .int .i64 n8, .int .i64 n9] := a2.set 15 (.bool false)
 have f2 := (f1.far (a := ⟨w.heap.size, 5, none⟩) (by show w.heap.size + 1 ≠ w.heap.size; omega) (.bool false)).far (a := ⟨w.heap.size, 15, none⟩) (by show w.heap.size + 1 ≠ w.heap.size; omega) (.bool false)
 have b2 := (b1.far (a := ⟨w.heap.size, 5, none⟩) (by show w.heap.size + 1 + 1 ≠ w.heap.size; omega) (.bool false)).far (a := ⟨w.heap.size, 15, none⟩) (by show w.heap.size + 1 + 1 ≠ w.heap.size; omega) (.bool false)
 have hB2 := (hB1.setCell (p := ⟨w.heap.size, 5, none⟩) (Nat.le_refl w.heap.size) (.bool false)).setCell (p := ⟨w.heap.size, 15, none⟩) (Nat.le_refl w.heap.size) (.bool false)
 go_upto_region 6 with (fail)
 generalize hW2 : ((w1.setCell ⟨w.heap.size, 5, none⟩ (.bool false)).setCell ⟨w.heap.size, 15, none⟩ (.bool false)) = w2 at *
 clear hW2
 have hv2 := H.invB hv hB2
 clear a1 a2 f1 b1 hB1 hv1 z5 d5 z15 d15 c5
 obtain ⟨g0, g1⟩ := And.intro (f2.cell 0) (f2.cell 1)
 go_wp2_with fail
 refine (HC1.out _ hv2).mono ?_
 rintro e w3 ⟨rfl, hb3⟩
 have a4 := a3.below hb3 a3.lt
 have b3 := b2.below hb3 b2.lt
 have hB3 := hB2.trans (hb3.mono hB2.size)
 have hv3 := H.invB hv hB3
 clear a3 f2 b2 hB2 hb3 hv2 g0 g1 HC1
 have HV : Hid (∀ W, Below w3.heap.size w3 W → Inv W) := Lib.hid fun W hW => H.invB hv3 hW
 have lm : ∀ W, Below w3.heap.size w3 W → Blk W w.heap.size 31 #[.bool m0, .bool m1, .bool m2, .bool m3, .bool m4, .bool false, .bool m6, .int .i64 m7, .int .i64 m8, .int .i64 m9, .bool n0, .bool n1, .bool n2, .bool n3, .bool n4, .bool false, .bool n6, .int .i64 n7, .int .i64 n8, .int .i64 n9] := fun W hW => a4.below hW a4.lt
 have lb : ∀ W, Below w3.heap.size w3 W → Blk W (w.heap.size + 1 + 1) 25 #[.int .i64 code, .int .i64 mods, .int .i64 typ, .int .i64 shift, .int .i64 base, .string text] := fun W hW => b3.below hW b3.lt
 have HKA := Lib.hid (HKA0.out hsm)
 cases q1 with
 | true =>
   have HKB := Lib.hid (HKB0.out rfl hsm)
   clear HKA0 HKB0 HKC0
   have hst : ∀ f ∈ ([⟨6, 36, FB L⟩, ⟨12, 42, FB L⟩] : List Fact), f.ok := List.forall_mem_cons.2 ⟨fb_ok _ _ _, List.forall_mem_cons.2 ⟨fb_ok _ _ _, fun _ h => by cases h⟩⟩
   go_wp2_with fail
   refine wp_region_told (w1 := w3) (K := [⟨6, 36, FB L⟩, ⟨12, 42, FB L⟩]) (ix := 1000) (R0 := fun _ _ _ => True) (R1 := fun _ _ _ => True) [36, 42] (⟨#[.agg #[.bool m0, .bool m1, .bool m2, .bool m3, .bool m4, .bool m5, .bool m6, .int .i64 m7, .int .i64 m8, .int .i64 m9, .bool n0, .bool n1, .bool n2, .bool n3, .bool n4, .bool n5, .bool n6, .int .i64 n7, .int .i64 n8, .int .i64 n9], .agg #[.int .u8 fa, .int .u8 fb], .agg #[.int .i64 code, .int .i64 mods, .int .i64 typ, .int .i64 shift, .int .i64 base, .string text], .pointer (some ⟨w.heap.size, 0, none⟩), .pointer (some ⟨w.heap.size + 1, 0, none⟩), .pointer (some ⟨w.heap.size + 1 + 1, 0, none⟩), .bool true, .bool true, .int .i64 A, .int .i64 B, .bool true, .pointer (some ⟨w.heap.size + 1 + 1, 5, none⟩), .string text, .int .i64 (text.size : Int), .bool false, undef, .pointer (some ⟨w.heap.size, 0, none⟩), .pointer (some ⟨w.heap.size, 5, none⟩), .pointer (some ⟨w.heap.size, 10, none⟩), .pointer (some ⟨w.heap.size, 15, none⟩), .pointer (some ⟨w.heap.size + 1, 0, none⟩), .int .u8 fa, .int .u8 A, .int .i64 A, .pointer (some ⟨w.heap.size + 1, 1, none⟩), .int .u8 fb, .int .u8 B, .int .i64 B, .int .i64 A, .bool true, .bool true, .bool true, .pointer (some ⟨w.heap.size, 0, none⟩), .agg #[.bool m0, .bool m1, .bool m2, .bool m3, .bool m4, .bool false, .bool m6, .int .i64 m7, .int .i64 m8, .int .i64 m9], .int .i64 A, .agg #[.int .i64 code, .int .i64 mods, .int .i64 typ, .int .i64 shift, .int .i64 base, .string text], undef, .string ⟨L.toArray⟩, .pointer (some ⟨w.heap.size, 10, none⟩), .agg #[.bool n0, .bool n1, .bool n2, .bool n3, .bool n4, .bool false, .bool n6, .int .i64 n7, .int .i64 n8, .int .i64 n9], .int .i64 A, .agg #[.int .i64 code, .int .i64 mods, .int .i64 typ, .int .i64 shift, .int .i64 base, .string text], undef, .string ⟨L.toArray⟩, .bool true, .bool true, undef, undef, undef, undef, undef, undef, undef, undef, undef, undef, undef, undef, undef, undef, undef, undef, undef, undef, undef, undef], []⟩) (fun g => ⟨#[.agg #[.bool m0, .bool m1, .bool m2, .bool m3, .bool m4, .bool m5, .bool m6, .int .i64 m7, .int .i64 m8, .int .i64 m9, .bool n0, .bool n1, .bool n2, .bool n3, .bool n4, .bool n5, .bool n6, .int .i64 n7, .int .i64 n8, .int .i64 n9], .agg #[.int .u8 fa, .int .u8 fb], .agg #[.int .i64 code, .int .i64 mods, .int .i64 typ, .int .i64 shift, .int .i64 base, .string text], .pointer (some ⟨w.heap.size, 0, none⟩), .pointer (some ⟨w.heap.size + 1, 0, none⟩), .pointer (some ⟨w.heap.size + 1 + 1, 0, none⟩), .bool true, .bool true, .int .i64 A, .int .i64 B, .bool true, .pointer (some ⟨w.heap.size + 1 + 1, 5, none⟩), .string text, .int .i64 (text.size : Int), .bool false, undef, .pointer (some ⟨w.heap.size, 0, none⟩), .pointer (some ⟨w.heap.size, 5, none⟩), .pointer (some ⟨w.heap.size, 10, none⟩), .pointer (some ⟨w.heap.size, 15, none⟩), .pointer (some ⟨w.heap.size + 1, 0, none⟩), .int .u8 fa, .int .u8 A, .int .i64 A, .pointer (some ⟨w.heap.size + 1, 1, none⟩), .int .u8 fb, .int .u8 B, .int .i64 B, .int .i64 A, .bool true, .bool true, .bool true, .pointer (some ⟨w.heap.size, 0, none⟩), .agg #[.bool m0, .bool m1, .bool m2, .bool m3, .bool m4, .bool false, .bool m6, .int .i64 m7, .int .i64 m8, .int .i64 m9], .int .i64 A, .agg #[.int .i64 code, .int .i64 mods, .int .i64 typ, .int .i64 shift, .int .i64 base, .string text], (g 36), .string ⟨L.toArray⟩, .pointer (some ⟨w.heap.size, 10, none⟩), .agg #[.bool n0, .bool n1, .bool n2, .bool n3, .bool n4, .bool false, .bool n6, .int .i64 n7, .int .i64 n8, .int .i64 n9], .int .i64 A, .agg #[.int .i64 code, .int .i64 mods, .int .i64 typ, .int .i64 shift, .int .i64 base, .string text], (g 42), .string ⟨L.toArray⟩, .bool true, .bool true, undef, undef, undef, undef, undef, undef, undef, undef, undef, undef, undef, undef, undef, undef, undef, undef, undef, undef, undef, undef], []⟩) [.bool true, .bool true, .pointer (some ⟨w.heap.size, 0, none⟩), .agg #[.bool m0, .bool m1, .bool m2, .bool m3, .bool m4, .bool false, .bool m6, .int .i64 m7, .int .i64 m8, .int .i64 m9], .int .i64 A, .agg #[.int .i64 code, .int .i64 mods, .int .i64 typ, .int .i64 shift, .int .i64 base, .string text], undef, .string ⟨L.toArray⟩, .pointer (some ⟨w.heap.size, 10, none⟩), .agg #[.bool n0, .bool n1, .bool n2, .bool n3, .bool n4, .bool false, .bool n6, .int .i64 n7, .int .i64 n8, .int .i64 n9], .int .i64 A, .agg #[.int .i64 code, .int .i64 mods, .int .i64 typ, .int .i64 shift, .int .i64 base, .string text], undef, .string ⟨L.toArray⟩, .bool true, .bool true, .bool true] (by kernel_rfl) (by kernel_rfl) (by kernel_rfl) (fun g => by kernel_rfl) (by kernel_rfl) (Below.refl _ _).drew (by decide) (by kernel_rfl)
    (goes_cons (gkP (fun _ => .bool true))
    (goes_cons (gkP (fun _ => .bool true))
    (goes_cons (gkP (fun _ => .pointer (some ⟨w.heap.size, 0, none⟩)))
    (goes_cons (goesK_mid hst (ahead_none (by decide)) rfl (by decide) (by decide) (by kernel_rfl) (fun g => by kernel_rfl) rfl (fun g => by kernel_rfl) rfl (fun g => by kernel_rfl) (fun W hW => (lm W hW).midAt 0 (#[.bool m0, .bool m1, .bool m2, .bool m3, .bool m4, .bool false, .bool m6, .int .i64 m7, .int .i64 m8, .int .i64 m9]) rfl) Tryz.underlying23 rfl (by kernel_rfl))
    (goes_cons (gkP (fun _ => .int .i64 A))
    (goes_cons (gkL hst lb Tryz.underlying25)
    (goes_cons (gkG (fun g => #[.agg #[.bool m0, .bool m1, .bool m2, .bool m3, .bool m4, .bool false, .bool m6, .int .i64 m7, .int .i64 m8, .int .i64 m9], .int .i64 A, .agg #[.int .i64 code, .int .i64 mods, .int .i64 typ, .int .i64 shift, .int .i64 base, .string text]]) hst 0 (fun g W hW hin => fb_out (HKA.out W (HV.out W hW))))
    (goes_cons (goesK_str 0 rfl (by kernel_rfl) Tryz.underlying27 Tryz.underlying5 Tryz.underlying9 hst (ahead_none (by decide)) rfl (by decide) (by decide) (by kernel_rfl) (fun g => by kernel_rfl) rfl (fun g => by kernel_rfl) rfl (fun g => by kernel_rfl))
    (goes_cons (gkP (fun _ => .pointer (some ⟨w.heap.size, 10, none⟩)))
    (goes_cons (goesK_mid hst (ahead_none (by decide)) rfl (by decide) (by decide) (by kernel_rfl) (fun g => by kernel_rfl) rfl (fun g => by kernel_rfl) rfl (fun g => by kernel_rfl) (fun W hW => (lm W hW).midAt 10 (#[.bool n0, .bool n1, .bool n2, .bool n3, .bool n4, .bool false, .bool n6, .int .i64 n7, .int .i64 n8, .int .i64 n9]) rfl) Tryz.underlying23 rfl (by kernel_rfl))
    (goes_cons (gkP (fun _ => .int .i64 A))
    (goes_cons (gkL hst lb Tryz.underlying25)
    (goes_cons (gkG (fun g => #[.agg #[.bool n0, .bool n1, .bool n2, .bool n3, .bool n4, .bool false, .bool n6, .int .i64 n7, .int .i64 n8, .int .i64 n9], .int .i64 A, .agg #[.int .i64 code, .int .i64 mods, .int .i64 typ, .int .i64 shift, .int .i64 base, .string text]]) hst 1 (fun g W hW hin => fb_out (HKB.out W (HV.out W hW))))
    (goes_cons (goesK_str 1 rfl (by kernel_rfl) Tryz.underlying27 Tryz.underlying5 Tryz.underlying9 hst (ahead_none (by decide)) rfl (by decide) (by decide) (by kernel_rfl) (fun g => by kernel_rfl) rfl (fun g => by kernel_rfl) rfl (fun g => by kernel_rfl))
    (goes_cons (goesK_bin (v := .bool true) (xv := .string ⟨L.toArray⟩) (yv := .string ⟨L.toArray⟩) rfl (by decide) (by decide) (by kernel_rfl) (fun g => by kernel_rfl) rfl (fun g => by kernel_rfl) rfl (fun g => by kernel_rfl) (fun g => by kernel_rfl) (fun w => by go_simp))
    (goes_cons (gkP (fun _ => .bool true))
    (goes_cons (gkP (fun _ => .bool true)) goes_nil))))))))))))))))) ?_
   intro g W hW _
   go_wp2_with fail
   go_ret
   exact ⟨rfl, hB3.trans (hW.mono hB3.size)⟩
 | false =>
   cases q2 with
   | true =>
     clear HKA0 HKB0 HKC0
     have hst : ∀ f ∈ ([] : List Fact), f.ok := fun _ h => by cases h
     go_wp2_with fail
     refine wp_region_told (w1 := w3) (K := []) (ix := 1000) (R0 := fun _ _ _ => True) (R1 := fun _ _ _ => True) [] (⟨#[.agg #[.bool m0, .bool m1, .bool m2, .bool m3, .bool m4, .bool m5, .bool m6, .int .i64 m7, .int .i64 m8, .int .i64 m9, .bool n0, .bool n1, .bool n2, .bool n3, .bool n4, .bool n5, .bool n6, .int .i64 n7, .int .i64 n8, .int .i64 n9], .agg #[.int .u8 fa, .int .u8 fb], .agg #[.int .i64 code, .int .i64 mods, .int .i64 typ, .int .i64 shift, .int .i64 base, .string text], .pointer (some ⟨w.heap.size, 0, none⟩), .pointer (some ⟨w.heap.size + 1, 0, none⟩), .pointer (some ⟨w.heap.size + 1 + 1, 0, none⟩), .bool true, .bool true, .int .i64 A, .int .i64 B, .bool true, .pointer (some ⟨w.heap.size + 1 + 1, 5, none⟩), .string text, .int .i64 (text.size : Int), .bool false, undef, .pointer (some ⟨w.heap.size, 0, none⟩), .pointer (some ⟨w.heap.size, 5, none⟩), .pointer (some ⟨w.heap.size, 10, none⟩), .pointer (some ⟨w.heap.size, 15, none⟩), .pointer (some ⟨w.heap.size + 1, 0, none⟩), .int .u8 fa, .int .u8 A, .int .i64 A, .pointer (some ⟨w.heap.size + 1, 1, none⟩), .int .u8 fb, .int .u8 B, .int .i64 B, .int .i64 A, .bool false, undef, undef, undef, undef, undef, undef, undef, undef, undef, undef, undef, undef, undef, undef, undef, undef, .bool true, .bool true, .int .i64 B, .bool true, .bool true, undef, undef, undef, undef, undef, undef, undef, undef, undef, undef, undef, undef, undef, .bool true, .bool true], []⟩) (fun g => ⟨#[.agg #[.bool m0, .bool m1, .bool m2, .bool m3, .bool m4, .bool m5, .bool m6, .int .i64 m7, .int .i64 m8, .int .i64 m9, .bool n0, .bool n1, .bool n2, .bool n3, .bool n4, .bool n5, .bool n6, .int .i64 n7, .int .i64 n8, .int .i64 n9], .agg #[.int .u8 fa, .int .u8 fb], .agg #[.int .i64 code, .int .i64 mods, .int .i64 typ, .int .i64 shift, .int .i64 base, .string text], .pointer (some ⟨w.heap.size, 0, none⟩), .pointer (some ⟨w.heap.size + 1, 0, none⟩), .pointer (some ⟨w.heap.size + 1 + 1, 0, none⟩), .bool true, .bool true, .int .i64 A, .int .i64 B, .bool true, .pointer (some ⟨w.heap.size + 1 + 1, 5, none⟩), .string text, .int .i64 (text.size : Int), .bool false, undef, .pointer (some ⟨w.heap.size, 0, none⟩), .pointer (some ⟨w.heap.size, 5, none⟩), .pointer (some ⟨w.heap.size, 10, none⟩), .pointer (some ⟨w.heap.size, 15, none⟩), .pointer (some ⟨w.heap.size + 1, 0, none⟩), .int .u8 fa, .int .u8 A, .int .i64 A, .pointer (some ⟨w.heap.size + 1, 1, none⟩), .int .u8 fb, .int .u8 B, .int .i64 B, .int .i64 A, .bool false, undef, undef, undef, undef, undef, undef, undef, undef, undef, undef, undef, undef, undef, undef, undef, undef, .bool true, .bool true, .int .i64 B, .bool true, .bool true, undef, undef, undef, undef, undef, undef, undef, undef, undef, undef, undef, undef, undef, .bool true, .bool true], []⟩) [.bool true, .bool true, .int .i64 B, .bool true, .bool true, undef, undef, undef, undef, undef, undef, undef, undef, undef, undef, undef, undef, undef, .bool true, .bool true, .bool true] (by kernel_rfl) (by kernel_rfl) (by kernel_rfl) (fun g => by kernel_rfl) (by kernel_rfl) (Below.refl _ _).drew (by decide) (by kernel_rfl)
      (goes_cons (gkP (fun _ => .bool true))
      (goes_cons (gkP (fun _ => .bool true))
      (goes_cons (gkP (fun _ => .int .i64 B))
      (goes_cons (gkK (fun g => #[.int .i64 B]) hst (fun g W hW hin => HC2.out W (HV.out W hW)))
      (goes_cons (gkP (fun _ => .bool true))
      (goes_cons gkO
      (goes_cons gkO
      (goes_cons gkO
      (goes_cons gkO
      (goes_cons gkO
      (goes_cons gkO
      (goes_cons gkO
      (goes_cons gkO
      (goes_cons gkO
      (goes_cons gkO
      (goes_cons gkO
      (goes_cons gkO
      (goes_cons gkO
      (goes_cons (gkP (fun _ => .bool true))
      (goes_cons (gkP (fun _ => .bool true))
      (goes_cons (gkP (fun _ => .bool true)) goes_nil))))))))))))))))))))) ?_
     intro g W hW _
     go_wp2_with fail
     go_ret
     exact ⟨rfl, hB3.trans (hW.mono hB3.size)⟩
   | false =>
     have HKC := Lib.hid (HKC0.out rfl rfl hsm)
     clear HKA0 HKB0 HKC0
     have hst : ∀ f ∈ ([⟨9, 55, FB L⟩, ⟨15, 61, FB L⟩] : List Fact), f.ok := List.forall_mem_cons.2 ⟨fb_ok _ _ _, List.forall_mem_cons.2 ⟨fb_ok _ _ _, fun _ h => by cases h⟩⟩
     go_wp2_with fail
     refine wp_region_told (w1 := w3) (K := [⟨9, 55, FB L⟩, ⟨15, 61, FB L⟩]) (ix := 1000) (R0 := fun _ _ _ => True) (R1 := fun _ _ _ => True) [55, 61] (⟨#[.agg #[.bool m0, .bool m1, .bool m2, .bool m3, .bool m4, .bool m5, .bool m6, .int .i64 m7, .int .i64 m8, .int .i64 m9, .bool n0, .bool n1, .bool n2, .bool n3, .bool n4, .bool n5, .bool n6, .int .i64 n7, .int .i64 n8, .int .i64 n9], .agg #[.int .u8 fa, .int .u8 fb], .agg #[.int .i64 code, .int .i64 mods, .int .i64 typ, .int .i64 shift, .int .i64 base, .string text], .pointer (some ⟨w.heap.size, 0, none⟩), .pointer (some ⟨w.heap.size + 1, 0, none⟩), .pointer (some ⟨w.heap.size + 1 + 1, 0, none⟩), .bool true, .bool true, .int .i64 A, .int .i64 B, .bool true, .pointer (some ⟨w.heap.size + 1 + 1, 5, none⟩), .string text, .int .i64 (text.size : Int), .bool false, undef, .pointer (some ⟨w.heap.size, 0, none⟩), .pointer (some ⟨w.heap.size, 5, none⟩), .pointer (some ⟨w.heap.size, 10, none⟩), .pointer (some ⟨w.heap.size, 15, none⟩), .pointer (some ⟨w.heap.size + 1, 0, none⟩), .int .u8 fa, .int .u8 A, .int .i64 A, .pointer (some ⟨w.heap.size + 1, 1, none⟩), .int .u8 fb, .int .u8 B, .int .i64 B, .int .i64 A, .bool false, undef, undef, undef, undef, undef, undef, undef, undef, undef, undef, undef, undef, undef, undef, undef, undef, .bool true, .bool true, .int .i64 B, .bool false, .bool false, .pointer (some ⟨w.heap.size, 0, none⟩), .agg #[.bool m0, .bool m1, .bool m2, .bool m3, .bool m4, .bool false, .bool m6, .int .i64 m7, .int .i64 m8, .int .i64 m9], .int .i64 A, .agg #[.int .i64 code, .int .i64 mods, .int .i64 typ, .int .i64 shift, .int .i64 base, .string text], undef, .string ⟨L.toArray⟩, .pointer (some ⟨w.heap.size, 0, none⟩), .agg #[.bool m0, .bool m1, .bool m2, .bool m3, .bool m4, .bool false, .bool m6, .int .i64 m7, .int .i64 m8, .int .i64 m9], .int .i64 B, .agg #[.int .i64 code, .int .i64 mods, .int .i64 typ, .int .i64 shift, .int .i64 base, .string text], undef, .string ⟨L.toArray⟩, .bool true, .bool true, .bool true], []⟩) (fun g => ⟨#[.agg #[.bool m0, .bool m1, .bool m2, .bool m3, .bool m4, .bool m5, .bool m6, .int .i64 m7, .int .i64 m8, .int .i64 m9, .bool n0, .bool n1, .bool n2, .bool n3, .bool n4, .bool n5, .bool n6, .int .i64 n7, .int .i64 n8, .int .i64 n9], .agg #[.int .u8 fa, .int .u8 fb], .agg #[.int .i64 code, .int .i64 mods, .int .i64 typ, .int .i64 shift, .int .i64 base, .string text], .pointer (some ⟨w.heap.size, 0, none⟩), .pointer (some ⟨w.heap.size + 1, 0, none⟩), .pointer (some ⟨w.heap.size + 1 + 1, 0, none⟩), .bool true, .bool true, .int .i64 A, .int .i64 B, .bool true, .pointer (some ⟨w.heap.size + 1 + 1, 5, none⟩), .string text, .int .i64 (text.size : Int), .bool false, undef, .pointer (some ⟨w.heap.size, 0, none⟩), .pointer (some ⟨w.heap.size, 5, none⟩), .pointer (some ⟨w.heap.size, 10, none⟩), .pointer (some ⟨w.heap.size, 15, none⟩), .pointer (some ⟨w.heap.size + 1, 0, none⟩), .int .u8 fa, .int .u8 A, .int .i64 A, .pointer (some ⟨w.heap.size + 1, 1, none⟩), .int .u8 fb, .int .u8 B, .int .i64 B, .int .i64 A, .bool false, undef, undef, undef, undef, undef, undef, undef, undef, undef, undef, undef, undef, undef, undef, undef, undef, .bool true, .bool true, .int .i64 B, .bool false, .bool false, .pointer (some ⟨w.heap.size, 0, none⟩), .agg #[.bool m0, .bool m1, .bool m2, .bool m3, .bool m4, .bool false, .bool m6, .int .i64 m7, .int .i64 m8, .int .i64 m9], .int .i64 A, .agg #[.int .i64 code, .int .i64 mods, .int .i64 typ, .int .i64 shift, .int .i64 base, .string text], (g 55), .string ⟨L.toArray⟩, .pointer (some ⟨w.heap.size, 0, none⟩), .agg #[.bool m0, .bool m1, .bool m2, .bool m3, .bool m4, .bool false, .bool m6, .int .i64 m7, .int .i64 m8, .int .i64 m9], .int .i64 B, .agg #[.int .i64 code, .int .i64 mods, .int .i64 typ, .int .i64 shift, .int .i64 base, .string text], (g 61), .string ⟨L.toArray⟩, .bool true, .bool true, .bool true], []⟩) [.bool true, .bool true, .int .i64 B, .bool false, .bool false, .pointer (some ⟨w.heap.size, 0, none⟩), .agg #[.bool m0, .bool m1, .bool m2, .bool m3, .bool m4, .bool false, .bool m6, .int .i64 m7, .int .i64 m8, .int .i64 m9], .int .i64 A, .agg #[.int .i64 code, .int .i64 mods, .int .i64 typ, .int .i64 shift, .int .i64 base, .string text], undef, .string ⟨L.toArray⟩, .pointer (some ⟨w.heap.size, 0, none⟩), .agg #[.bool m0, .bool m1, .bool m2, .bool m3, .bool m4, .bool false, .bool m6, .int .i64 m7, .int .i64 m8, .int .i64 m9], .int .i64 B, .agg #[.int .i64 code, .int .i64 mods, .int .i64 typ, .int .i64 shift, .int .i64 base, .string text], undef, .string ⟨L.toArray⟩, .bool true, .bool true, .bool true, .bool true] (by kernel_rfl) (by kernel_rfl) (by kernel_rfl) (fun g => by kernel_rfl) (by kernel_rfl) (Below.refl _ _).drew (by decide) (by kernel_rfl)
      (goes_cons (gkP (fun _ => .bool true))
      (goes_cons (gkP (fun _ => .bool true))
      (goes_cons (gkP (fun _ => .int .i64 B))
      (goes_cons (gkK (fun g => #[.int .i64 B]) hst (fun g W hW hin => HC2.out W (HV.out W hW)))
      (goes_cons (gkP (fun _ => .bool false))
      (goes_cons (gkP (fun _ => .pointer (some ⟨w.heap.size, 0, none⟩)))
      (goes_cons (goesK_mid hst (ahead_none (by decide)) rfl (by decide) (by decide) (by kernel_rfl) (fun g => by kernel_rfl) rfl (fun g => by kernel_rfl) rfl (fun g => by kernel_rfl) (fun W hW => (lm W hW).midAt 0 (#[.bool m0, .bool m1, .bool m2, .bool m3, .bool m4, .bool false, .bool m6, .int .i64 m7, .int .i64 m8, .int .i64 m9]) rfl) Tryz.underlying23 rfl (by kernel_rfl))
      (goes_cons (gkP (fun _ => .int .i64 A))
      (goes_cons (gkL hst lb Tryz.underlying25)
      (goes_cons (gkG (fun g => #[.agg #[.bool m0, .bool m1, .bool m2, .bool m3, .bool m4, .bool false, .bool m6, .int .i64 m7, .int .i64 m8, .int .i64 m9], .int .i64 A, .agg #[.int .i64 code, .int .i64 mods, .int .i64 typ, .int .i64 shift, .int .i64 base, .string text]]) hst 0 (fun g W hW hin => fb_out (HKA.out W (HV.out W hW))))
      (goes_cons (goesK_str 0 rfl (by kernel_rfl) Tryz.underlying27 Tryz.underlying5 Tryz.underlying9 hst (ahead_none (by decide)) rfl (by decide) (by decide) (by kernel_rfl) (fun g => by kernel_rfl) rfl (fun g => by kernel_rfl) rfl (fun g => by kernel_rfl))
      (goes_cons (gkP (fun _ => .pointer (some ⟨w.heap.size, 0, none⟩)))
      (goes_cons (goesK_mid hst (ahead_none (by decide)) rfl (by decide) (by decide) (by kernel_rfl) (fun g => by kernel_rfl) rfl (fun g => by kernel_rfl) rfl (fun g => by kernel_rfl) (fun W hW => (lm W hW).midAt 0 (#[.bool m0, .bool m1, .bool m2, .bool m3, .bool m4, .bool false, .bool m6, .int .i64 m7, .int .i64 m8, .int .i64 m9]) rfl) Tryz.underlying23 rfl (by kernel_rfl))
      (goes_cons (gkP (fun _ => .int .i64 B))
      (goes_cons (gkL hst lb Tryz.underlying25)
      (goes_cons (gkG (fun g => #[.agg #[.bool m0, .bool m1, .bool m2, .bool m3, .bool m4, .bool false, .bool m6, .int .i64 m7, .int .i64 m8, .int .i64 m9], .int .i64 B, .agg #[.int .i64 code, .int .i64 mods, .int .i64 typ, .int .i64 shift, .int .i64 base, .string text]]) hst 1 (fun g W hW hin => fb_out (HKC.out W (HV.out W hW))))
      (goes_cons (goesK_str 1 rfl (by kernel_rfl) Tryz.underlying27 Tryz.underlying5 Tryz.underlying9 hst (ahead_none (by decide)) rfl (by decide) (by decide) (by kernel_rfl) (fun g => by kernel_rfl) rfl (fun g => by kernel_rfl) rfl (fun g => by kernel_rfl))
      (goes_cons (goesK_bin (v := .bool true) (xv := .string ⟨L.toArray⟩) (yv := .string ⟨L.toArray⟩) rfl (by decide) (by decide) (by kernel_rfl) (fun g => by kernel_rfl) rfl (fun g => by kernel_rfl) rfl (fun g => by kernel_rfl) (fun g => by kernel_rfl) (fun w => by go_simp))
      (goes_cons (gkP (fun _ => .bool true))
      (goes_cons (gkP (fun _ => .bool true))
      (goes_cons (gkP (fun _ => .bool true)) goes_nil))))))))))))))))))))) ?_
     intro g W hW _
     go_wp2_with fail
     go_ret
     exact ⟨rfl, hB3.trans (hW.mono hB3.size)⟩
theorem boardApart_walk (H : BrdC Inv) (m : Mo) (_ : okM m) (n : Mo) (_ : okM n) (x y : UInt8) (k : Ky) (hk : okK k) (hs : k.text.size ≤ maxLen) (w : World) (hv : Inv w) : Calls Tryz.prog 4 #[.agg ((moC m).toList ++ (moC n).toList).toArray, .agg #[.int .u8 (x.toNat : Int), .int .u8 (y.toNat : Int)], kyV k] w fun e w' => e = .returned (.bool true) ∧ Below w.heap.size w w' := by
 have hx := x.toNat_lt
 have hy := y.toNat_lt
 exact boardApart_in H m n _ _ (by omega) (by omega) (by omega) (by omega) k hk hs w hv
end
end Go.Proofs.YtceipblcdcgljaaGreatDoor
