/-
  Layer 7: the walk of SaveNone.
-/
import Derived.Test.YtokhchejkfhmmaaLsK
namespace Go.Proofs.Ytokhchejkfhmmaa
open Go.RowKit

section
variable {Inv : World → Prop}
set_option maxRecDepth 100000 in
set_option maxHeartbeats 16000000 in
theorem none_many (H : SavC Inv) (m : Mo) (A : Option Addr) (c j : Nat) (n : Int) (w : World) (h30 : 30 < j) (hv : Inv w) :
    Calls Try.prog 6 #[moV m, .slice A j c, .int .i64 n] w fun e w' => e = .returned (.bool true) ∧ Below w.heap.size w w' := by
  rw [moV]
  have hbe : Below w.heap.size w (w.alloc (.cells #[.bool m.cursor, .bool m.keypad, .bool m.back, .bool m.focus, .bool m.paste, .bool m.lock, .bool m.line, .int .i64 m.mouse, .int .i64 m.coding, .int .i64 m.other] 25)) := (Below.refl _ w).alloc (Nat.le_refl _) _
  have hi := H.invB hv hbe
  go_enter Try.func6, Try.ntmps6
  go_wp2_with fail
  refine (saveAwake H _ hi).mono ?_
  rintro e w1 ⟨rfl, hb1⟩
  have hbe1 := below_step hbe hb1 hbe.size
  go_wp2_with fail
  go_ret
  exact ⟨rfl, hbe1⟩
set_option maxRecDepth 100000 in
set_option maxHeartbeats 16000000 in
theorem none_few (H : SavC Inv) (m : Mo) (hm : okM m) (A : Option Addr) (l : List Int) (c j : Nat) (hj : l.length = j) (n : Int) (hnn : inI n) (w : World) (hr : Rd w A (is_ l)) (hli : ∀ z ∈ l, inI z) (h30 : j ≤ 30) (hv : Inv w) :
    Calls Try.prog 6 #[moV m, .slice A j c, .int .i64 n] w fun e w' => e = .returned (.bool true) ∧ Below w.heap.size w w' := by
  obtain ⟨s', hs'⟩ : ∃ s', saveS sav0 m [n] = s' := ⟨_, rfl⟩
  have hl' : s'.length = 12 := by rw [← hs', saveS_len]; rfl
  obtain ⟨d0, d1, d2, d3, d4, d5, d6, d7, d8, d9, d10, d11, hd⟩ := of12 hl'
  have hdv : savV s' = .agg #[.int .u8 (d0.toNat : Int), .int .u8 (d1.toNat : Int), .int .u8 (d2.toNat : Int), .int .u8 (d3.toNat : Int), .int .u8 (d4.toNat : Int), .int .u8 (d5.toNat : Int), .int .u8 (d6.toNat : Int), .int .u8 (d7.toNat : Int), .int .u8 (d8.toNat : Int), .int .u8 (d9.toNat : Int), .int .u8 (d10.toNat : Int), .int .u8 (d11.toNat : Int)] := by rw [hd]; rfl
  obtain ⟨mn, q, hset⟩ : ∃ m' q, setM m true n true = (m', q) := ⟨_, _, rfl⟩
  have hqc : q = canM true n := by have := set_can m true n true; rw [hset] at this; exact this
  have hq : ∀ W : World, (binOp .eql 28 (.agg #[.int .u8 (d0.toNat : Int), .int .u8 (d1.toNat : Int), .int .u8 (d2.toNat : Int), .int .u8 (d3.toNat : Int), .int .u8 (d4.toNat : Int), .int .u8 (d5.toNat : Int), .int .u8 (d6.toNat : Int), .int .u8 (d7.toNat : Int), .int .u8 (d8.toNat : Int), .int .u8 (d9.toNat : Int), .int .u8 (d10.toNat : Int), .int .u8 (d11.toNat : Int)]) (.agg #[.int .u8 0, .int .u8 0, .int .u8 0, .int .u8 0, .int .u8 0, .int .u8 0, .int .u8 0, .int .u8 0, .int .u8 0, .int .u8 0, .int .u8 0, .int .u8 0])).run Try.prog W = .ok (.bool (!q)) W := fun W => by
    have := eqlP s' sav0 hl' rfl W
    rw [hdv, show savV sav0 = .agg #[.int .u8 0, .int .u8 0, .int .u8 0, .int .u8 0, .int .u8 0, .int .u8 0, .int .u8 0, .int .u8 0, .int .u8 0, .int .u8 0, .int .u8 0, .int .u8 0] from rfl, ← hs', save_none, ← hqc] at this
    exact this
  have HN1 := Lib.hid (show ∀ z ∈ [n], inI z by intro z hz; simp at hz; subst hz; exact hnn)
  have HC1 : Hid (∀ W, Inv W → Rd W A (is_ l) → Calls Try.prog 12 #[.agg #[.int .u8 0, .int .u8 0, .int .u8 0, .int .u8 0, .int .u8 0, .int .u8 0, .int .u8 0, .int .u8 0, .int .u8 0, .int .u8 0, .int .u8 0, .int .u8 0], .agg #[.bool m.cursor, .bool m.keypad, .bool m.back, .bool m.focus, .bool m.paste, .bool m.lock, .bool m.line, .int .i64 m.mouse, .int .i64 m.coding, .int .i64 m.other], .slice A j c] W fun e w' => e = .returned (.agg #[.bool m.cursor, .bool m.keypad, .bool m.back, .bool m.focus, .bool m.paste, .bool m.lock, .bool m.line, .int .i64 m.mouse, .int .i64 m.coding, .int .i64 m.other]) ∧ Below W.heap.size W w') := Lib.hid fun W hW hR => H.rest_at W hW (s := sav0) rfl hj (by omega) hli hm hR (rest_none m l) rfl rfl rfl
  have HC2 : Hid (∀ W A c, Inv W → Rd W A (is_ [n]) → Calls Try.prog 10 #[.agg #[.int .u8 0, .int .u8 0, .int .u8 0, .int .u8 0, .int .u8 0, .int .u8 0, .int .u8 0, .int .u8 0, .int .u8 0, .int .u8 0, .int .u8 0, .int .u8 0], .agg #[.bool m.cursor, .bool m.keypad, .bool m.back, .bool m.focus, .bool m.paste, .bool m.lock, .bool m.line, .int .i64 m.mouse, .int .i64 m.coding, .int .i64 m.other], .slice A 1 c] W fun e w' => e = .returned (.agg #[.int .u8 (d0.toNat : Int), .int .u8 (d1.toNat : Int), .int .u8 (d2.toNat : Int), .int .u8 (d3.toNat : Int), .int .u8 (d4.toNat : Int), .int .u8 (d5.toNat : Int), .int .u8 (d6.toNat : Int), .int .u8 (d7.toNat : Int), .int .u8 (d8.toNat : Int), .int .u8 (d9.toNat : Int), .int .u8 (d10.toNat : Int), .int .u8 (d11.toNat : Int)]) ∧ Below W.heap.size W w') := Lib.hid fun W A c hW hR => H.save_at W hW (s := sav0) rfl rfl (by decide) HN1.out hm hR hs' rfl rfl hdv
  have HS := Lib.hid hset
  have HNN := Lib.hid hnn
  clear hd hdv hl' hs' hj hli hnn hm hset hqc
  rw [moV]
  have k0 := Blk.new w 25 #[.bool m.cursor, .bool m.keypad, .bool m.back, .bool m.focus, .bool m.paste, .bool m.lock, .bool m.line, .int .i64 m.mouse, .int .i64 m.coding, .int .i64 m.other]
  have hbe : Below w.heap.size w (w.alloc (.cells #[.bool m.cursor, .bool m.keypad, .bool m.back, .bool m.focus, .bool m.paste, .bool m.lock, .bool m.line, .int .i64 m.mouse, .int .i64 m.coding, .int .i64 m.other] 25)) := (Below.refl _ w).alloc (Nat.le_refl _) _
  have hi := H.invB hv hbe
  go_enter Try.func6, Try.ntmps6
  go_wp2_with fail
  refine (saveAwake H _ hi).mono ?_
  rintro e w1 ⟨rfl, hb1⟩
  have hbe1 := below_step hbe hb1 hbe.size
  have k1 := k0.below hb1 k0.lt
  clear k0 hbe hb1 hi
  have HI : Hid (∀ W, Below w1.heap.size w1 W → Below w.heap.size w W) := Lib.hid fun W hb => below_step hbe1 hb hbe1.size
  have HV : Hid (∀ W, Below w1.heap.size w1 W → Inv W) := Lib.hid fun W hb => H.invB hv (HI.out W hb)
  have HR : Hid (∀ W, Below w1.heap.size w1 W → Rd W A (is_ l)) := Lib.hid fun W hb => hr.below (HI.out W hb)
  have st : ∀ w w' : World, Below w1.heap.size w1 w → Below w.heap.size w w' → Below w1.heap.size w1 w' := fun w w' h1 h2 => below_step h1 h2 h1.size
  have l3 : ∀ W, Below w1.heap.size w1 W → Blk W w.heap.size 25 #[.bool m.cursor, .bool m.keypad, .bool m.back, .bool m.focus, .bool m.paste, .bool m.lock, .bool m.line, .int .i64 m.mouse, .int .i64 m.coding, .int .i64 m.other] := fun W h => k1.below h k1.lt
  clear k1 hbe1
  go_wp2_with fail
  refine wp_region_goes (S := fun W => Below w1.heap.size w1 W) (by kernel_rfl) (by kernel_rfl) (by kernel_rfl) ⟨#[.agg #[.bool m.cursor, .bool m.keypad, .bool m.back, .bool m.focus, .bool m.paste, .bool m.lock, .bool m.line, .int .i64 m.mouse, .int .i64 m.coding, .int .i64 m.other], .slice A j c, .int .i64 n, .pointer (some ⟨w.heap.size, 0, none⟩), undef, undef, .bool false, .bool true, .bool true, undef, undef, undef, .bool true, .slice A j c, .int .i64 (j : Int), .bool (decide (30 < (j : Int))), undef, .agg #[.int .u8 0, .int .u8 0, .int .u8 0, .int .u8 0, .int .u8 0, .int .u8 0, .int .u8 0, .int .u8 0, .int .u8 0, .int .u8 0, .int .u8 0, .int .u8 0], .agg #[.bool m.cursor, .bool m.keypad, .bool m.back, .bool m.focus, .bool m.paste, .bool m.lock, .bool m.line, .int .i64 m.mouse, .int .i64 m.coding, .int .i64 m.other], .slice A j c, .agg #[.bool m.cursor, .bool m.keypad, .bool m.back, .bool m.focus, .bool m.paste, .bool m.lock, .bool m.line, .int .i64 m.mouse, .int .i64 m.coding, .int .i64 m.other], .agg #[.bool m.cursor, .bool m.keypad, .bool m.back, .bool m.focus, .bool m.paste, .bool m.lock, .bool m.line, .int .i64 m.mouse, .int .i64 m.coding, .int .i64 m.other], .bool true, undef, undef, undef, undef, undef, undef, undef, undef, undef, undef, undef, undef, undef, undef, undef, undef, undef, undef, undef, undef, undef, undef, undef], []⟩ (near_of [.agg #[.int .u8 0, .int .u8 0, .int .u8 0, .int .u8 0, .int .u8 0, .int .u8 0, .int .u8 0, .int .u8 0, .int .u8 0, .int .u8 0, .int .u8 0, .int .u8 0], .agg #[.bool m.cursor, .bool m.keypad, .bool m.back, .bool m.focus, .bool m.paste, .bool m.lock, .bool m.line, .int .i64 m.mouse, .int .i64 m.coding, .int .i64 m.other], .slice A j c, .agg #[.bool m.cursor, .bool m.keypad, .bool m.back, .bool m.focus, .bool m.paste, .bool m.lock, .bool m.line, .int .i64 m.mouse, .int .i64 m.coding, .int .i64 m.other], .agg #[.bool m.cursor, .bool m.keypad, .bool m.back, .bool m.focus, .bool m.paste, .bool m.lock, .bool m.line, .int .i64 m.mouse, .int .i64 m.coding, .int .i64 m.other], .bool true, .bool true] (by kernel_rfl)) (Below.refl _ _).drew (goesAll_of
    (all_cons (goes_at (.agg #[.int .u8 0, .int .u8 0, .int .u8 0, .int .u8 0, .int .u8 0, .int .u8 0, .int .u8 0, .int .u8 0, .int .u8 0, .int .u8 0, .int .u8 0, .int .u8 0]) rfl (by kernel_rfl) (by kernel_rfl) (goes_val fun w _ => by kernel_rfl)) 
    (all_cons (goes_at (.agg #[.bool m.cursor, .bool m.keypad, .bool m.back, .bool m.focus, .bool m.paste, .bool m.lock, .bool m.line, .int .i64 m.mouse, .int .i64 m.coding, .int .i64 m.other]) rfl (by kernel_rfl) (by kernel_rfl) (goes_load rfl (by kernel_rfl) l3 Try.underlying25 rfl (by kernel_rfl))) 
    (all_cons (goes_at (.slice A j c) rfl (by kernel_rfl) (by kernel_rfl) (goes_val fun w _ => by kernel_rfl)) 
    (all_cons (goes_at (.agg #[.bool m.cursor, .bool m.keypad, .bool m.back, .bool m.focus, .bool m.paste, .bool m.lock, .bool m.line, .int .i64 m.mouse, .int .i64 m.coding, .int .i64 m.other]) rfl (by kernel_rfl) (by kernel_rfl) (goes_call (fun w => by kernel_rfl) (fun W hW => HC1.out W (HV.out W hW) (HR.out W hW)) st)) 
    (all_cons (goes_at (.agg #[.bool m.cursor, .bool m.keypad, .bool m.back, .bool m.focus, .bool m.paste, .bool m.lock, .bool m.line, .int .i64 m.mouse, .int .i64 m.coding, .int .i64 m.other]) rfl (by kernel_rfl) (by kernel_rfl) (goes_load rfl (by kernel_rfl) l3 Try.underlying25 rfl (by kernel_rfl))) 
    (all_cons (goes_at (.bool true) rfl (by kernel_rfl) (by kernel_rfl) (goes_eql rfl (by kernel_rfl) (by kernel_rfl) (by kernel_rfl) (fun W => eqlM m W))) 
    (all_cons (goes_at (.bool true) rfl (by kernel_rfl) (by kernel_rfl) (goes_val fun w _ => by kernel_rfl)) all_nil)))))))) ?_
  intro w2 hw2
  have k2 := l3 w2 hw2
  have hbe2 := HI.out _ hw2
  clear l3 st hw2 HC1 HR
  obtain ⟨a0, a1, a2, a3, a4, a5, a6, a7, a8, a9⟩ := Blk.cells10 k2
  go_wp2_with fail
  refine (pset_at (m := m) (m' := mn) _ HNN.out HS.out).mono ?_
  rintro e w3 ⟨rfl, hb3⟩
  have k3 := (k2.below hb3 k2.lt).alloc (.cells #[.bool mn.cursor, .bool mn.keypad, .bool mn.back, .bool mn.focus, .bool mn.paste, .bool mn.lock, .bool mn.line, .int .i64 mn.mouse, .int .i64 mn.coding, .int .i64 mn.other] 25)
  have hbe3 := (below_step hbe2 hb3 hbe2.size).alloc (below_step hbe2 hb3 hbe2.size).size (.cells #[.bool mn.cursor, .bool mn.keypad, .bool mn.back, .bool mn.focus, .bool mn.paste, .bool mn.lock, .bool mn.line, .int .i64 mn.mouse, .int .i64 mn.coding, .int .i64 mn.other] 25)
  have k3' := k3.alloc (.cells #[.int .i64 n] 3)
  have hbe4 := hbe3.alloc hbe3.size (.cells #[.int .i64 n] 3)
  have r2 : Rd _ _ (is_ [n]) := Rd.block (heap_alloc_new (w3.alloc (.cells #[.bool mn.cursor, .bool mn.keypad, .bool mn.back, .bool mn.focus, .bool mn.paste, .bool mn.lock, .bool mn.line, .int .i64 mn.mouse, .int .i64 mn.coding, .int .i64 mn.other] 25)) (.cells #[.int .i64 n] 3)) rfl
  have hi2 := H.invB hv hbe4
  simp only [World.size_alloc] at r2
  clear a0 a1 a2 a3 a4 a5 a6 a7 a8 a9 k2 hb3 hbe2 hbe3
  obtain ⟨a0, a1, a2, a3, a4, a5, a6, a7, a8, a9⟩ := Blk.cells10 k3
  rw [moV]
  go_wp2_with fail
  refine (HC2.out _ _ _ hi2 r2).mono ?_
  rintro e w4 ⟨rfl, hb4⟩
  have hbe5 := below_step hbe4 hb4 hbe4.size
  have hbe6 := hbe5.alloc hbe5.size (.cells #[.int .u8 (d0.toNat : Int), .int .u8 (d1.toNat : Int), .int .u8 (d2.toNat : Int), .int .u8 (d3.toNat : Int), .int .u8 (d4.toNat : Int), .int .u8 (d5.toNat : Int), .int .u8 (d6.toNat : Int), .int .u8 (d7.toNat : Int), .int .u8 (d8.toNat : Int), .int .u8 (d9.toNat : Int), .int .u8 (d10.toNat : Int), .int .u8 (d11.toNat : Int)] 28)
  have q11 := Blk.new w4 28 #[.int .u8 (d0.toNat : Int), .int .u8 (d1.toNat : Int), .int .u8 (d2.toNat : Int), .int .u8 (d3.toNat : Int), .int .u8 (d4.toNat : Int), .int .u8 (d5.toNat : Int), .int .u8 (d6.toNat : Int), .int .u8 (d7.toNat : Int), .int .u8 (d8.toNat : Int), .int .u8 (d9.toNat : Int), .int .u8 (d10.toNat : Int), .int .u8 (d11.toNat : Int)]
  clear a0 a1 a2 a3 a4 a5 a6 a7 a8 a9 k3 k3' hi2 r2 hbe4 hb4 hbe5
  obtain ⟨e0, e1, e2, e3, e4, e5, e6, e7, e8, e9, e10, e11⟩ := Blk.cells12 q11
  cases q with
  | true =>
    rw [Bool.not_true] at hq
    go_wp2_with fail
    go_ret
    exact ⟨rfl, hbe6⟩
  | false =>
    rw [Bool.not_false] at hq
    go_wp2_with fail
    go_ret
    exact ⟨rfl, hbe6⟩
theorem saveNone_walk (H : SavC Inv) (m : Mo) (hm : okM m) (A : Option Addr) (l : List Int) (c : Nat) (_hk : l.length ≤ c) (n : Int) (lo : -9223372036854775808 ≤ n) (hi : n ≤ 9223372036854775807) (w : World) (hr : Rd w A (is_ l)) (hli : ∀ z ∈ l, (Lit.int .i64 z).wf = true) (hv : Inv w) :
    Calls Try.prog 6 #[moV m, .slice A l.length c, .int .i64 n] w fun e w' => e = .returned (.bool true) ∧ Below w.heap.size w w' := by
  by_cases h : 30 < l.length
  · exact none_many H m A c _ n w h hv
  · exact none_few H m hm A l c _ rfl n ⟨by omega, by omega⟩ w hr (fun z hz => by
      have := bounds_i64 (hli z hz)
      exact ⟨by omega, by omega⟩) (by omega) hv
end
end Go.Proofs.Ytokhchejkfhmmaa
