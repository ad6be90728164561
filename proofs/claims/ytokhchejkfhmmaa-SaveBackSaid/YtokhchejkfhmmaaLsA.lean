/-
  Layer 7: what a law needs of the program's saving (Save, Restore); the example that each of the layer's statements asks, out of that.
-/
import Derived.Test.YtokhchejkfhmmaaSavR
import Derived.Test.YtokhchejkfhmmaaArE
namespace Go.Proofs.Ytokhchejkfhmmaa
open Go.RowKit

structure SavC (Inv : World → Prop) : Prop where
  invB : ∀ {w w' : World}, Inv w → Below w.heap.size w w' → Inv w'
  save : ∀ (s : List UInt8) (_ : s.length = 12) (m : Mo) (A : Option Addr) (l : List Int) (c n : Nat) (w : World), Inv w → l.length = n → n ≤ 4294967296 → (∀ z ∈ l, inI z) → okM m → Rd w A (is_ l) → Calls Try.prog 10 #[savV s, moV m, .slice A n c] w (SavE (saveS s m l) w)
  rest : ∀ (s : List UInt8) (_ : s.length = 12) (m : Mo) (A : Option Addr) (l : List Int) (c n : Nat) (w : World), Inv w → l.length = n → n ≤ 4294967296 → (∀ z ∈ l, inI z) → okM m → Rd w A (is_ l) → Calls Try.prog 12 #[savV s, moV m, .slice A n c] w (MoW (restS s m l) w)
section
variable {Inv : World → Prop}
theorem SavC.save_at (H : SavC Inv) {s s' : List UInt8} {m : Mo} {A : Option Addr} {l : List Int} {c n : Nat} {u v x : Value} (w : World) (hi : Inv w) (hs : s.length = 12) (hn : l.length = n) (hnl : n ≤ 4294967296) (hl : ∀ z ∈ l, inI z) (hm : okM m) (hr : Rd w A (is_ l)) (h : saveS s m l = s') (hu : savV s = u) (hv : moV m = v) (hx : savV s' = x) :
    Calls Try.prog 10 #[u, v, .slice A n c] w fun e w' => e = .returned x ∧ Below w.heap.size w w' := by
  subst h hu hv hx
  exact H.save s hs m A l c n w hi hn hnl hl hm hr
theorem SavC.rest_at (H : SavC Inv) {s : List UInt8} {m m' : Mo} {A : Option Addr} {l : List Int} {c n : Nat} {u v x : Value} (w : World) (hi : Inv w) (hs : s.length = 12) (hn : l.length = n) (hnl : n ≤ 4294967296) (hl : ∀ z ∈ l, inI z) (hm : okM m) (hr : Rd w A (is_ l)) (h : restS s m l = m') (hu : savV s = u) (hv : moV m = v) (hx : moV m' = x) :
    Calls Try.prog 12 #[u, v, .slice A n c] w fun e w' => e = .returned x ∧ Below w.heap.size w w' := by
  subst h hu hv hx
  exact H.rest s hs m A l c n w hi hn hnl hl hm hr
theorem eqlP (a b : List UInt8) (ha : a.length = 12) (hb : b.length = 12) (w : World) : (binOp .eql 28 (savV a) (savV b)).run Try.prog w = .ok (.bool (decide (a = b))) w :=
  run_eql_bytes Try.underlying28 Try.underlying5 (fun w => by kernel_rfl) (part_byte (fun w => by kernel_rfl)) a b ha hb w
theorem eqlR (a b : List UInt8) (ha : a.length = 12) (hb : b.length = 12) (w : World) : (binOp .eql 23 (savV a) (savV b)).run Try.prog w = .ok (.bool (decide (a = b))) w :=
  run_eql_bytes Try.underlying23 Try.underlying5 (fun w => by kernel_rfl) (part_byte (fun w => by kernel_rfl)) a b ha hb w
theorem eqlM (a : Mo) (w : World) : (binOp .eql 25 (moV a) (moV a)).run Try.prog w = .ok (.bool true) w := by
  rw [moV]
  go_simp
def moP : Mo := ⟨false, false, false, false, true, false, false, 0, 0, 0⟩
def savP : List UInt8 := [0, 0, 0, 0, 0, 0, 0, 0, 0, 0, 0, 1]
theorem ok0 : okM mo0 := ⟨inI_zero, inI_zero⟩
theorem okP : okM moP := ⟨inI_zero, inI_zero⟩
theorem sav_P : saveS sav0 moP [2004] = savP := by decide
theorem rest_P : restS savP mo0 [1, 2004] = moP := by rfl
set_option maxRecDepth 100000 in
set_option maxHeartbeats 8000000 in
theorem saveAwake (H : SavC Inv) (w : World) (hv : Inv w) : Calls Try.prog 9 #[] w (ValE (.bool true) w) := by
  have i1 : ∀ z ∈ ([2004] : List Int), inI z := by intro z hz; simp at hz; subst hz; exact ⟨by decide, by decide⟩
  have i2 : ∀ z ∈ ([1, 2004] : List Int), inI z := by intro z hz; simp at hz; rcases hz with rfl | rfl <;> exact ⟨by decide, by decide⟩
  have I1 := Lib.hid i1
  have I2 := Lib.hid i2
  clear i1 i2
  have k1 := Blk.new w 25 #[.bool false, .bool false, .bool false, .bool false, .bool true, .bool false, .bool false, .int .i64 0, .int .i64 0, .int .i64 0]
  have b1 : Below w.heap.size w (w.alloc (.cells #[.bool false, .bool false, .bool false, .bool false, .bool true, .bool false, .bool false, .int .i64 0, .int .i64 0, .int .i64 0] 25)) := (Below.refl _ w).alloc (Nat.le_refl _) _
  have k1' := k1.alloc (.cells #[.int .i64 2004] 3)
  have b2 := b1.alloc b1.size (.cells #[.int .i64 2004] 3)
  have r2 : Rd _ _ (is_ [2004]) := Rd.block (heap_alloc_new (w.alloc (.cells #[.bool false, .bool false, .bool false, .bool false, .bool true, .bool false, .bool false, .int .i64 0, .int .i64 0, .int .i64 0] 25)) (.cells #[.int .i64 2004] 3)) rfl
  simp only [World.size_alloc] at r2
  have hi2 := H.invB hv b2
  go_enter Try.func9, Try.ntmps9
  go_wp2_with fail
  refine (H.save_at (s := sav0) (m := moP) (l := [2004]) _ hi2 rfl rfl (by decide) I1.out okP r2 sav_P (u := .agg #[.int .u8 0, .int .u8 0, .int .u8 0, .int .u8 0, .int .u8 0, .int .u8 0, .int .u8 0, .int .u8 0, .int .u8 0, .int .u8 0, .int .u8 0, .int .u8 0]) rfl (v := .agg #[.bool false, .bool false, .bool false, .bool false, .bool true, .bool false, .bool false, .int .i64 0, .int .i64 0, .int .i64 0]) rfl (x := .agg #[.int .u8 0, .int .u8 0, .int .u8 0, .int .u8 0, .int .u8 0, .int .u8 0, .int .u8 0, .int .u8 0, .int .u8 0, .int .u8 0, .int .u8 0, .int .u8 1]) rfl).mono ?_
  rintro e w2 ⟨rfl, hb2⟩
  have k2 := (k1'.below hb2 k1'.lt).alloc (.cells #[.int .u8 0, .int .u8 0, .int .u8 0, .int .u8 0, .int .u8 0, .int .u8 0, .int .u8 0, .int .u8 0, .int .u8 0, .int .u8 0, .int .u8 0, .int .u8 1] 28)
  have s2 := Blk.new w2 28 #[.int .u8 0, .int .u8 0, .int .u8 0, .int .u8 0, .int .u8 0, .int .u8 0, .int .u8 0, .int .u8 0, .int .u8 0, .int .u8 0, .int .u8 0, .int .u8 1]
  have b3 := below_step b2 hb2 b2.size
  have b4 := b3.alloc b3.size (.cells #[.int .u8 0, .int .u8 0, .int .u8 0, .int .u8 0, .int .u8 0, .int .u8 0, .int .u8 0, .int .u8 0, .int .u8 0, .int .u8 0, .int .u8 0, .int .u8 1] 28)
  have k3 := k2.alloc (.cells #[.int .i64 1, .int .i64 2004] 3)
  have s3 := s2.alloc (.cells #[.int .i64 1, .int .i64 2004] 3)
  have b5 := b4.alloc b4.size (.cells #[.int .i64 1, .int .i64 2004] 3)
  have r3 : Rd _ _ (is_ [1, 2004]) := Rd.block (heap_alloc_new (w2.alloc (.cells #[.int .u8 0, .int .u8 0, .int .u8 0, .int .u8 0, .int .u8 0, .int .u8 0, .int .u8 0, .int .u8 0, .int .u8 0, .int .u8 0, .int .u8 0, .int .u8 1] 28)) (.cells #[.int .i64 1, .int .i64 2004] 3)) rfl
  simp only [World.size_alloc] at r3
  have hi5 := H.invB hv b5
  clear k1 b1 k1' b2 r2 hi2 hb2 b3
  obtain ⟨d0, d1, d2, d3, d4, d5, d6, d7, d8, d9, d10, d11⟩ := Blk.cells12 s2
  go_wp2_with fail
  refine (H.rest_at (s := savP) (m := mo0) (l := [1, 2004]) _ hi5 rfl rfl (by decide) I2.out ok0 r3 rest_P (u := .agg #[.int .u8 0, .int .u8 0, .int .u8 0, .int .u8 0, .int .u8 0, .int .u8 0, .int .u8 0, .int .u8 0, .int .u8 0, .int .u8 0, .int .u8 0, .int .u8 1]) rfl (v := .agg #[.bool false, .bool false, .bool false, .bool false, .bool false, .bool false, .bool false, .int .i64 0, .int .i64 0, .int .i64 0]) rfl (x := .agg #[.bool false, .bool false, .bool false, .bool false, .bool true, .bool false, .bool false, .int .i64 0, .int .i64 0, .int .i64 0]) rfl).mono ?_
  rintro e w3 ⟨rfl, hb3⟩
  have s4 := (s3.below hb3 s3.lt).alloc (.cells #[.bool false, .bool false, .bool false, .bool false, .bool true, .bool false, .bool false, .int .i64 0, .int .i64 0, .int .i64 0] 25)
  have k4 := (k3.below hb3 k3.lt).alloc (.cells #[.bool false, .bool false, .bool false, .bool false, .bool true, .bool false, .bool false, .int .i64 0, .int .i64 0, .int .i64 0] 25)
  have n4 := Blk.new w3 25 #[.bool false, .bool false, .bool false, .bool false, .bool true, .bool false, .bool false, .int .i64 0, .int .i64 0, .int .i64 0]
  have b6 := below_step b5 hb3 b5.size
  have b7 := b6.alloc b6.size (.cells #[.bool false, .bool false, .bool false, .bool false, .bool true, .bool false, .bool false, .int .i64 0, .int .i64 0, .int .i64 0] 25)
  clear d0 d1 d2 d3 d4 d5 d6 d7 d8 d9 d10 d11 k2 k3 s2 s3 b4 b5 r3 hi5 hb3 b6
  obtain ⟨d0, d1, d2, d3, d4, d5, d6, d7, d8, d9, d10, d11⟩ := Blk.cells12 s4
  obtain ⟨c0, c1, c2, c3, c4, c5, c6, c7, c8, c9⟩ := Blk.cells10 k4
  obtain ⟨a0, a1, a2, a3, a4, a5, a6, a7, a8, a9⟩ := Blk.cells10 n4
  have hq : ∀ W : World, (binOp .eql 28 (.agg #[.int .u8 0, .int .u8 0, .int .u8 0, .int .u8 0, .int .u8 0, .int .u8 0, .int .u8 0, .int .u8 0, .int .u8 0, .int .u8 0, .int .u8 0, .int .u8 1]) (.agg #[.int .u8 0, .int .u8 0, .int .u8 0, .int .u8 0, .int .u8 0, .int .u8 0, .int .u8 0, .int .u8 0, .int .u8 0, .int .u8 0, .int .u8 0, .int .u8 1])).run Try.prog W = .ok (.bool true) W := fun W => eqlP savP savP rfl rfl W
  go_wp2_with fail
  go_ret
  exact ⟨rfl, b7⟩
end
end Go.Proofs.Ytokhchejkfhmmaa
