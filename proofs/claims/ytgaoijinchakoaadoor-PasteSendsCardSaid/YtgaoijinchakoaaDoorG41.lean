/-
  Stage 17, the document's paste, walked: Send, Take, Focus, Looked. Stage 17's laws, walked: PasteTakes. Stage 17: what calls tell, as a drawn region's facts. Stage 17, the document's paste, walked: Send, Take, Focus, Looked.
-/
import Derived.Test.YtgaoijinchakoaaDoorG21
import Derived.Test.YtgaoijinchakoaaDoorG25
import Derived.Test.YtgaoijinchakoaaDoorG32
import Derived.Test.YtgaoijinchakoaaDoorG39
import Derived.Test.YtgaoijinchakoaaDoorG40
namespace Go.Proofs.YtgaoijinchakoaaDoor
open Go.RowKit
section
attribute [local go_sem] Oper.semAt_some
set_option maxRecDepth 100000 in
set_option maxHeartbeats 16000000 in
theorem rlooked17_any (A : Option Addr) (n c : Nat) (l : List UInt8) (hn : l.length = n) (w : World) (hc : n ≤ c) (hr : Rd w A (bs l)) :
 Calls Tryd.prog 19 #[.slice A n c] w fun e w' => e = .returned (.tuple #[.bool (begB l inD), .bool (begB l inD || begB l outDB)]) ∧ Below w.heap.size w w' := by
 obtain ⟨p, hp⟩ : ∃ p, begB l inD = p := ⟨_, rfl⟩
 obtain ⟨q, hq⟩ : ∃ q, begB l outDB = q := ⟨_, rfl⟩
 have H1 : Hid (∀ W, Below w.heap.size w W → Calls Tryd.prog 32 #[.slice A n c, .string ⟨#[27, 91, 73]⟩] W fun e w' => e = .returned (.bool p) ∧ Below W.heap.size W w') := Lib.hid fun W hW => rbegins_any A n c l inD 3 p hn rfl hp hc (by decide) W (hr.below hW)
 have H2 : Hid (∀ W, Below w.heap.size w W → Calls Tryd.prog 32 #[.slice A n c, .string ⟨#[27, 91, 79]⟩] W fun e w' => e = .returned (.bool q) ∧ Below W.heap.size W w') := Lib.hid fun W hW => rbegins_any A n c l outDB 3 q hn rfl hq hc (by decide) W (hr.below hW)
 rw [hp, hq]
 clear hp hq hr hn
 cases p with
 | true =>
   go_enter Tryd.func19, Tryd.ntmps19
   go_wp2_with fail
   refine (H1.out _ (Below.refl _ _)).mono ?_
   rintro e w1 ⟨rfl, hb1⟩
   go_wp2_with fail
   refine (H1.out _ hb1).mono ?_
   rintro e w2 ⟨rfl, hb2⟩
   have hB2 := hb1.trans (hb2.mono hb1.size)
   go_wp2_with fail
   refine bodyPost_ret (v := .tuple #[.bool true, .bool true]) (by simp [results, Tryd.results19, go_sem]) rfl ⟨rfl, hB2⟩
 | false =>
   go_enter Tryd.func19, Tryd.ntmps19
   go_wp2_with fail
   refine (H1.out _ (Below.refl _ _)).mono ?_
   rintro e w1 ⟨rfl, hb1⟩
   go_wp2_with fail
   refine (H1.out _ hb1).mono ?_
   rintro e w2 ⟨rfl, hb2⟩
   have hB2 := hb1.trans (hb2.mono hb1.size)
   go_wp2_with fail
   refine (H2.out _ hB2).mono ?_
   rintro e w3 ⟨rfl, hb3⟩
   go_wp2_with fail
   refine bodyPost_ret (v := .tuple #[.bool false, .bool q]) (by simp [results, Tryd.results19, go_sem]) rfl ⟨by simp, hB2.trans (hb3.mono hB2.size)⟩
end
set_option maxRecDepth 100000 in
set_option maxHeartbeats 16000000 in
theorem pasteTakes_walk (A : Option Addr) (l : List UInt8) (c : Nat) (hlc : l.length ≤ c) (w : World) (hr : Rd w A (bs l)) (hi : Siz w ∧ Tab w) : Calls Tryd.prog 4 #[.slice A l.length c] w fun e w' => e = .returned (.bool true) ∧ Below w.heap.size w w' := by
 obtain ⟨n, hn⟩ : ∃ n, l.length = n := ⟨_, rfl⟩
 rw [hn] at hlc ⊢
 have HT : Hid (∀ W, Below w.heap.size w W → Tab W) := Lib.hid fun W hW => hi.2.below hW
 have HS : Hid (∀ W, Below w.heap.size w W → Siz W) := Lib.hid fun W hW => hi.1.below' hW
 by_cases h : 300 < n
 ·have h2 : (300 : Int) < (n : Int) := by omega
  go_enter Tryd.func4, Tryd.ntmps4
  go_wp2_with fail
  refine (pasAwake _ hi.2 hi.1).mono ?_
  rintro e w1 ⟨rfl, hb1⟩
  go_wp2_with fail
  go_ret
  exact ⟨rfl, hb1⟩
 have h2 : ¬ ((300 : Int) < (n : Int)) := by omega
 obtain ⟨⟨T, k, q⟩, hd⟩ : ∃ x, takeP l = x := ⟨_, rfl⟩
 obtain ⟨m, hm⟩ : ∃ m, T.length = m := ⟨_, rfl⟩
 obtain ⟨p1, hp1⟩ : ∃ p, begB l inB = p := ⟨_, rfl⟩
 obtain ⟨p2, hp2⟩ : ∃ p, (begB l inB || begB l outB) = p := ⟨_, rfl⟩
 have H1 : Hid (∀ W, Below w.heap.size w W → Calls Tryd.prog 16 #[.slice A n c] W fun e w' => ∃ B d, e = .returned (.tuple #[.slice B m d, .int .i64 (k : Nat), .bool q]) ∧ Rd w' B (bs T) ∧ Below W.heap.size W w') := Lib.hid fun W hW => by
  refine (pastake_any A n c l hn W (HS.out W hW) (HT.out W hW) (by omega) hlc (hr.below hW)).mono ?_
  rintro e w' ⟨B, d, rfl, ho, hb⟩
  rw [hd] at ho ⊢
  simp only [hm] at ho ⊢
  exact ⟨B, d, rfl, ho.rd, hb⟩
 have H2 : Hid (∀ W, Below w.heap.size w W → Calls Tryd.prog 17 #[.slice A n c] W fun e w' => ∃ B d, e = .returned (.tuple #[.slice B m d, .int .i64 (k : Nat), .bool q]) ∧ Rd w' B (bs T) ∧ Below W.heap.size W w') := Lib.hid fun W hW => by
  refine (rtake17_any A n c l hn W (by omega) hlc (hr.below hW)).mono ?_
  rintro e w' ⟨B, d, rfl, _, ho, hb⟩
  rw [hd] at ho ⊢
  simp only [hm] at ho ⊢
  exact ⟨B, d, rfl, ho, hb⟩
 have H3 : Hid (∀ W, Below w.heap.size w W → Calls Tryd.prog 18 #[.slice A n c] W fun e w' => e = .returned (.tuple #[.bool p1, .bool p2]) ∧ Below W.heap.size W w') := Lib.hid fun W hW => by
  have := paslooked_any A n c l hn W (HT.out W hW) hlc (hr.below hW)
  rw [hp2, hp1] at this
  exact this
 have H4 : Hid (∀ W, Below w.heap.size w W → Calls Tryd.prog 19 #[.slice A n c] W fun e w' => e = .returned (.tuple #[.bool p1, .bool p2]) ∧ Below W.heap.size W w') := Lib.hid fun W hW => by
  have := rlooked17_any A n c l hn W hlc (hr.below hW)
  rw [show (begB l inD || begB l outDB) = p2 from hp2, show begB l inD = p1 from hp1] at this
  exact this
 have HM := Lib.hid hm
 clear hd hp1 hp2 hm hn hr h
 go_enter Tryd.func4, Tryd.ntmps4
 go_wp2_with fail
 refine (pasAwake _ hi.2 hi.1).mono ?_
 rintro e w1 ⟨rfl, hb1⟩
 clear hi
 go_wp2_with fail
 refine (H1.out _ hb1).mono ?_
 rintro e w2 ⟨B2, d2, rfl, r2, hb2⟩
 have hB2 := hb1.trans (hb2.mono hb1.size)
 go_wp2_with fail
 refine (H2.out _ hB2).mono ?_
 rintro e w3 ⟨B3, d3, rfl, r3, hb3⟩
 have hB3 := hB2.trans (hb3.mono hB2.size)
 replace r2 := r2.below hb3
 go_wp2_with fail
 refine (H3.out _ hB3).mono ?_
 rintro e w4 ⟨rfl, hb4⟩
 have hB4 := hB3.trans (hb4.mono hB3.size)
 replace r2 := r2.below hb4
 replace r3 := r3.below hb4
 go_wp2_with fail
 refine (H4.out _ hB4).mono ?_
 rintro e w5 ⟨rfl, hb5⟩
 have hB5 := hB4.trans (hb5.mono hB4.size)
 have s2 := conv17w (n := m) (c := d2) HM.out (r2.below hb5)
 have s3 := conv17w (n := m) (c := d3) HM.out (r3.below hb5)
 clear H1 H2 H3 H4 hb1 hb2 hb3 hb4 hb5 hB2 hB3 hB4 r2 r3 HT HS
 go_wp2_with fail
 go_ret
 exact ⟨by first | rfl | simp, hB5⟩
theorem outP_b17 {L : List UInt8} {w : World} {f : FuncId} {args : Array Value} (h : Calls Tryd.prog f args w (OutP L L.length w)) : Calls Tryd.prog f args w fun e w' => ∃ v, e = .returned v ∧ FB L v w' ∧ Below w.heap.size w w' :=
 h.mono fun _ _ ⟨A, c, he, ho, hb⟩ => ⟨_, he, ⟨A, c, rfl, ho.rd⟩, hb⟩
theorem outD_b17 {L : List UInt8} {w : World} {f : FuncId} {args : Array Value} (h : Calls Tryd.prog f args w (OutD L L.length w)) : Calls Tryd.prog f args w fun e w' => ∃ v, e = .returned v ∧ FB L v w' ∧ Below w.heap.size w w' :=
 h.mono fun _ _ ⟨A, c, he, ho, hb⟩ => ⟨_, he, ⟨A, c, rfl, ho.rd⟩, hb⟩
section
attribute [local go_sem] Oper.semAt_some
set_option maxRecDepth 100000 in
set_option maxHeartbeats 16000000 in
theorem rfocus17_any (m : Mo) (q : Bool) (w : World) (T : List UInt8) (k : Nat) (hT : focD m.focus q = T) (hk : T.length = k) :
 Calls Tryd.prog 15 #[moV m, .bool q] w (OutD T k w) := by
 subst hk
 obtain ⟨b0, b1, b2, b3, b4, b5, b6, i7, i8, i9⟩ := m
 simp only [moV]
 simp only at hT
 have hB : Below w.heap.size w (w.alloc (.cells #[.bool b0, .bool b1, .bool b2, .bool b3, .bool b4, .bool b5, .bool b6, .int .i64 i7, .int .i64 i8, .int .i64 i9] 23)) := (Below.refl _ _).alloc (Nat.le_refl _) _
 have k0 := Blk.new w 23 #[.bool b0, .bool b1, .bool b2, .bool b3, .bool b4, .bool b5, .bool b6, .int .i64 i7, .int .i64 i8, .int .i64 i9]
 cases b3 with
 | false =>
   subst hT
   obtain ⟨a0, a1, a2, a3, a4, a5, a6, a7, a8, a9⟩ := Blk.cells10 k0
   go_enter Tryd.func15, Tryd.ntmps15
   go_wp2_with fail
   go_ret
   exact ⟨none, 0, rfl, Own.nil_ _ _ _ _, hB⟩
 | true =>
   cases q with
   | true =>
     subst hT
     obtain ⟨w0, hw0⟩ : ∃ w0, w.alloc (.cells #[.bool b0, .bool b1, .bool b2, .bool true, .bool b4, .bool b5, .bool b6, .int .i64 i7, .int .i64 i8, .int .i64 i9] 23) = w0 := ⟨_, rfl⟩
     rw [hw0] at hB k0
     have hs1 := hB.size
     have own2 : Own (w0.alloc (.cells #[.int .u8 27, .int .u8 91, .int .u8 73] 5 (3, 4))) w.heap.size 5 1 (.slice (some ⟨w0.heap.size, 0, none⟩) 3 3) 3 (bs inD) := own_mark17 w0 _ _ 3 #[.int .u8 27, .int .u8 91, .int .u8 73] hs1 rfl (by simp [maxLen])
     have hB2 := hB.alloc hs1 (.cells #[.int .u8 27, .int .u8 91, .int .u8 73] 5 (3, 4))
     obtain ⟨a0, a1, a2, a3, a4, a5, a6, a7, a8, a9⟩ := Blk.cells10 k0
     have hcv := Joins.run_convert_bytes_const_at (P := Tryd.prog) w0 24 5 #[.int .u8 27, .int .u8 91, .int .u8 73] 3 3 w0.heap.size (by simp) Tryd.underlying24 Tryd.underlying5
     go_enter Tryd.func15, Tryd.ntmps15
     go_wp2_with fail
     go_ret
     exact ⟨_, _, rfl, own2, hB2⟩
   | false =>
     subst hT
     obtain ⟨w0, hw0⟩ : ∃ w0, w.alloc (.cells #[.bool b0, .bool b1, .bool b2, .bool true, .bool b4, .bool b5, .bool b6, .int .i64 i7, .int .i64 i8, .int .i64 i9] 23) = w0 := ⟨_, rfl⟩
     rw [hw0] at hB k0
     have hs1 := hB.size
     have own2 : Own (w0.alloc (.cells #[.int .u8 27, .int .u8 91, .int .u8 79] 5 (3, 4))) w.heap.size 5 1 (.slice (some ⟨w0.heap.size, 0, none⟩) 3 3) 3 (bs outDB) := own_mark17 w0 _ _ 3 #[.int .u8 27, .int .u8 91, .int .u8 79] hs1 rfl (by simp [maxLen])
     have hB2 := hB.alloc hs1 (.cells #[.int .u8 27, .int .u8 91, .int .u8 79] 5 (3, 4))
     obtain ⟨a0, a1, a2, a3, a4, a5, a6, a7, a8, a9⟩ := Blk.cells10 k0
     have hcv := Joins.run_convert_bytes_const_at (P := Tryd.prog) w0 24 5 #[.int .u8 27, .int .u8 91, .int .u8 79] 3 3 w0.heap.size (by simp) Tryd.underlying24 Tryd.underlying5
     go_enter Tryd.func15, Tryd.ntmps15
     go_wp2_with fail
     go_ret
     exact ⟨_, _, rfl, own2, hB2⟩
end
end Go.Proofs.YtgaoijinchakoaaDoor
