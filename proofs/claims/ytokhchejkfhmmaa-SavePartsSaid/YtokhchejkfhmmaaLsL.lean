/-
  Layer 7: the walk of SaveAll.
-/
import Derived.Test.YtokhchejkfhmmaaLsA
import Derived.Test.YtokhchejkfhmmaaRegN
import Derived.Test.YtokhchejkfhmmaaModS
import Derived.Test.YtokhchejkfhmmaaModJ
namespace Go.Proofs.Ytokhchejkfhmmaa
open Go.RowKit

section
variable {Inv : World → Prop}
theorem own_in : ∀ z ∈ ownM, inI z := fun z hz => by
  simp only [ownM, List.mem_cons, List.mem_nil_iff, or_false] at hz
  constructor <;> omega
set_option maxRecDepth 100000 in
set_option maxHeartbeats 16000000 in
theorem all_no (H : SavC Inv) (m k : Mo) (w : World) (hv : Inv w) (hno : mayM m = false ∨ mayM k = false) :
    Calls Try.prog 5 #[moV m, moV k] w fun e w' => e = .returned (.bool true) ∧ Below w.heap.size w w' := by
  obtain ⟨mm, hmm⟩ : ∃ mm, mayM m = mm := ⟨_, rfl⟩
  obtain ⟨mk, hmk⟩ : ∃ mk, mayM k = mk := ⟨_, rfl⟩
  rw [hmm, hmk] at hno
  have HMM := Lib.hid hmm
  have HMK := Lib.hid hmk
  clear hmm hmk
  have hbe : Below w.heap.size w ((w.alloc (.cells #[.bool m.cursor, .bool m.keypad, .bool m.back, .bool m.focus, .bool m.paste, .bool m.lock, .bool m.line, .int .i64 m.mouse, .int .i64 m.coding, .int .i64 m.other] 25)).alloc (.cells #[.bool k.cursor, .bool k.keypad, .bool k.back, .bool k.focus, .bool k.paste, .bool k.lock, .bool k.line, .int .i64 k.mouse, .int .i64 k.coding, .int .i64 k.other] 25)) := ((Below.refl _ w).alloc (Nat.le_refl _) _).alloc (by simp) _
  have L2 := ((Bl.nil w).add 25 #[.bool m.cursor, .bool m.keypad, .bool m.back, .bool m.focus, .bool m.paste, .bool m.lock, .bool m.line, .int .i64 m.mouse, .int .i64 m.coding, .int .i64 m.other]).add 25 #[.bool k.cursor, .bool k.keypad, .bool k.back, .bool k.focus, .bool k.paste, .bool k.lock, .bool k.line, .int .i64 k.mouse, .int .i64 k.coding, .int .i64 k.other]
  simp only [World.size_alloc] at L2
  have hi := H.invB hv hbe
  rw [moV, moV]
  go_enter Try.func5, Try.ntmps5
  go_wp2_with fail
  refine (saveAwake H _ hi).mono ?_
  rintro e w1 ⟨rfl, hb1⟩
  have L3 := L2.below hb1
  have hbe1 := below_step hbe hb1 hbe.size
  have k2 : Blk w1 w.heap.size 25 #[.bool m.cursor, .bool m.keypad, .bool m.back, .bool m.focus, .bool m.paste, .bool m.lock, .bool m.line, .int .i64 m.mouse, .int .i64 m.coding, .int .i64 m.other] := L3.tail.head
  have k3 : Blk w1 (w.heap.size + 1) 25 #[.bool k.cursor, .bool k.keypad, .bool k.back, .bool k.focus, .bool k.paste, .bool k.lock, .bool k.line, .int .i64 k.mouse, .int .i64 k.coding, .int .i64 k.other] := L3.head
  obtain ⟨a0, a1, a2, a3, a4, a5, a6, a7, a8, a9⟩ := Blk.cells10 k2
  clear L2 L3 hbe hb1 hi
  have hc1 := rmay_any m w1
  rw [HMM.out] at hc1
  go_wp2_with fail
  refine hc1.mono ?_
  rintro e w2 ⟨rfl, hb2⟩
  have q3 := k3.below hb2 k3.lt
  have hbe2 := below_step hbe1 hb2 hbe1.size
  clear a0 a1 a2 a3 a4 a5 a6 a7 a8 a9 hc1 k2 k3 hb2 hbe1
  obtain ⟨c0, c1, c2, c3, c4, c5, c6, c7, c8, c9⟩ := Blk.cells10 q3
  have hc2 := rmay_any k w2
  rw [HMK.out] at hc2
  cases mm with
  | false =>
    go_wp2_with fail
    go_ret
    exact ⟨rfl, hbe2⟩
  | true =>
    obtain rfl : mk = false := by simpa using hno
    clear hno
    go_wp2_with fail
    refine hc2.mono ?_
    rintro e w3 ⟨rfl, hb3⟩
    have hbe3 := below_step hbe2 hb3 hbe2.size
    clear c0 c1 c2 c3 c4 c5 c6 c7 c8 c9 q3 hb3 hc2 hbe2
    go_wp2_with fail
    go_ret
    exact ⟨rfl, hbe3⟩
set_option maxRecDepth 100000 in
set_option maxHeartbeats 16000000 in
theorem all_yes (H : SavC Inv) (m k : Mo) (hm : okM m) (hk : okM k) (w : World) (hv : Inv w) (hmm : mayM m = true) (hmk : mayM k = true) :
    Calls Try.prog 5 #[moV m, moV k] w fun e w' => e = .returned (.bool true) ∧ Below w.heap.size w w' := by
  have HMM := Lib.hid hmm
  have HMK := Lib.hid hmk
  obtain ⟨s', hs'⟩ : ∃ s', saveS sav0 m ownM = s' := ⟨_, rfl⟩
  have hl' : s'.length = 12 := by rw [← hs', saveS_len]; rfl
  have hrs := save_all hmm hmk
  rw [hs'] at hrs
  obtain ⟨d0, d1, d2, d3, d4, d5, d6, d7, d8, d9, d10, d11, hd⟩ := of12 hl'
  have hdv : savV s' = .agg #[.int .u8 (d0.toNat : Int), .int .u8 (d1.toNat : Int), .int .u8 (d2.toNat : Int), .int .u8 (d3.toNat : Int), .int .u8 (d4.toNat : Int), .int .u8 (d5.toNat : Int), .int .u8 (d6.toNat : Int), .int .u8 (d7.toNat : Int), .int .u8 (d8.toNat : Int), .int .u8 (d9.toNat : Int), .int .u8 (d10.toNat : Int), .int .u8 (d11.toNat : Int)] := by rw [hd]; rfl
  have HC1 : Hid (∀ W A c, Inv W → Rd W A (is_ ownM) → Calls Try.prog 10 #[.agg #[.int .u8 0, .int .u8 0, .int .u8 0, .int .u8 0, .int .u8 0, .int .u8 0, .int .u8 0, .int .u8 0, .int .u8 0, .int .u8 0, .int .u8 0, .int .u8 0], .agg #[.bool m.cursor, .bool m.keypad, .bool m.back, .bool m.focus, .bool m.paste, .bool m.lock, .bool m.line, .int .i64 m.mouse, .int .i64 m.coding, .int .i64 m.other], .slice A 12 c] W fun e w' => e = .returned (.agg #[.int .u8 (d0.toNat : Int), .int .u8 (d1.toNat : Int), .int .u8 (d2.toNat : Int), .int .u8 (d3.toNat : Int), .int .u8 (d4.toNat : Int), .int .u8 (d5.toNat : Int), .int .u8 (d6.toNat : Int), .int .u8 (d7.toNat : Int), .int .u8 (d8.toNat : Int), .int .u8 (d9.toNat : Int), .int .u8 (d10.toNat : Int), .int .u8 (d11.toNat : Int)]) ∧ Below W.heap.size W w') := Lib.hid fun W A c hW hR => H.save_at W hW (s := sav0) rfl rfl (by decide) own_in hm hR hs' rfl rfl hdv
  have HC2 : Hid (∀ W A c, Inv W → Rd W A (is_ ownM) → Calls Try.prog 12 #[.agg #[.int .u8 (d0.toNat : Int), .int .u8 (d1.toNat : Int), .int .u8 (d2.toNat : Int), .int .u8 (d3.toNat : Int), .int .u8 (d4.toNat : Int), .int .u8 (d5.toNat : Int), .int .u8 (d6.toNat : Int), .int .u8 (d7.toNat : Int), .int .u8 (d8.toNat : Int), .int .u8 (d9.toNat : Int), .int .u8 (d10.toNat : Int), .int .u8 (d11.toNat : Int)], .agg #[.bool k.cursor, .bool k.keypad, .bool k.back, .bool k.focus, .bool k.paste, .bool k.lock, .bool k.line, .int .i64 k.mouse, .int .i64 k.coding, .int .i64 k.other], .slice A 12 c] W fun e w' => e = .returned (.agg #[.bool m.cursor, .bool m.keypad, .bool m.back, .bool m.focus, .bool m.paste, .bool k.lock, .bool k.line, .int .i64 m.mouse, .int .i64 m.coding, .int .i64 k.other]) ∧ Below W.heap.size W w') := Lib.hid fun W A c hW hR => H.rest_at W hW hl' rfl (by decide) own_in hk hR hrs hdv rfl rfl
  clear hd hdv hrs hl' hs' hmm hmk hm hk
  have hbe : Below w.heap.size w ((w.alloc (.cells #[.bool m.cursor, .bool m.keypad, .bool m.back, .bool m.focus, .bool m.paste, .bool m.lock, .bool m.line, .int .i64 m.mouse, .int .i64 m.coding, .int .i64 m.other] 25)).alloc (.cells #[.bool k.cursor, .bool k.keypad, .bool k.back, .bool k.focus, .bool k.paste, .bool k.lock, .bool k.line, .int .i64 k.mouse, .int .i64 k.coding, .int .i64 k.other] 25)) := ((Below.refl _ w).alloc (Nat.le_refl _) _).alloc (by simp) _
  have L2 := ((Bl.nil w).add 25 #[.bool m.cursor, .bool m.keypad, .bool m.back, .bool m.focus, .bool m.paste, .bool m.lock, .bool m.line, .int .i64 m.mouse, .int .i64 m.coding, .int .i64 m.other]).add 25 #[.bool k.cursor, .bool k.keypad, .bool k.back, .bool k.focus, .bool k.paste, .bool k.lock, .bool k.line, .int .i64 k.mouse, .int .i64 k.coding, .int .i64 k.other]
  simp only [World.size_alloc] at L2
  have hi := H.invB hv hbe
  rw [moV, moV]
  go_enter Try.func5, Try.ntmps5
  go_wp2_with fail
  refine (saveAwake H _ hi).mono ?_
  rintro e w1 ⟨rfl, hb1⟩
  have L3 := L2.below hb1
  have hbe1 := below_step hbe hb1 hbe.size
  have k2 : Blk w1 w.heap.size 25 #[.bool m.cursor, .bool m.keypad, .bool m.back, .bool m.focus, .bool m.paste, .bool m.lock, .bool m.line, .int .i64 m.mouse, .int .i64 m.coding, .int .i64 m.other] := L3.tail.head
  have k3 : Blk w1 (w.heap.size + 1) 25 #[.bool k.cursor, .bool k.keypad, .bool k.back, .bool k.focus, .bool k.paste, .bool k.lock, .bool k.line, .int .i64 k.mouse, .int .i64 k.coding, .int .i64 k.other] := L3.head
  obtain ⟨a0, a1, a2, a3, a4, a5, a6, a7, a8, a9⟩ := Blk.cells10 k2
  clear L2 L3 hbe hb1 hi
  have hc1 := rmay_any m w1
  rw [HMM.out] at hc1
  go_wp2_with fail
  refine hc1.mono ?_
  rintro e w2 ⟨rfl, hb2⟩
  have q2 := k2.below hb2 k2.lt
  have q3 := k3.below hb2 k3.lt
  have hbe2 := below_step hbe1 hb2 hbe1.size
  clear a0 a1 a2 a3 a4 a5 a6 a7 a8 a9 hc1 k2 k3 hb2 hbe1
  obtain ⟨c0, c1, c2, c3, c4, c5, c6, c7, c8, c9⟩ := Blk.cells10 q3
  have hc2 := rmay_any k w2
  rw [HMK.out] at hc2
  go_wp2_with fail
  refine hc2.mono ?_
  rintro e w3 ⟨rfl, hb3⟩
  have p2 := q2.below hb3 q2.lt
  have p3 := q3.below hb3 q3.lt
  have hbe3 := below_step hbe2 hb3 hbe2.size
  clear c0 c1 c2 c3 c4 c5 c6 c7 c8 c9 q2 q3 hb3 hc2 hbe2
  have HI : Hid (∀ W, Below w3.heap.size w3 W → Below w.heap.size w W) := Lib.hid fun W hb => below_step hbe3 hb hbe3.size
  have HV : Hid (∀ W, Below w3.heap.size w3 W → Inv W) := Lib.hid fun W hb => H.invB hv (HI.out W hb)
  have l2 : ∀ W, Below w3.heap.size w3 W → Blk W w.heap.size 25 #[.bool m.cursor, .bool m.keypad, .bool m.back, .bool m.focus, .bool m.paste, .bool m.lock, .bool m.line, .int .i64 m.mouse, .int .i64 m.coding, .int .i64 m.other] := fun W h => p2.below h p2.lt
  have hge3 : w.heap.size + 1 < w3.heap.size := p3.lt
  clear hbe3
  go_wp2_with fail
  refine wp_region_one (w1 := w3) (ia := 4) (iz := 5) (d := 6) (ty := 28) (z := #[.int .u8 0, .int .u8 0, .int .u8 0, .int .u8 0, .int .u8 0, .int .u8 0, .int .u8 0, .int .u8 0, .int .u8 0, .int .u8 0, .int .u8 0, .int .u8 0]) (cs := #[.int .u8 (d0.toNat : Int), .int .u8 (d1.toNat : Int), .int .u8 (d2.toNat : Int), .int .u8 (d3.toNat : Int), .int .u8 (d4.toNat : Int), .int .u8 (d5.toNat : Int), .int .u8 (d6.toNat : Int), .int .u8 (d7.toNat : Int), .int .u8 (d8.toNat : Int), .int .u8 (d9.toNat : Int), .int .u8 (d10.toNat : Int), .int .u8 (d11.toNat : Int)]) (ih := 2) (ic := 3) (dh := 20) (n := 12) (xs := (is_ ownM)) [6, 20] (fun p v => ⟨#[.agg #[.bool m.cursor, .bool m.keypad, .bool m.back, .bool m.focus, .bool m.paste, .bool m.lock, .bool m.line, .int .i64 m.mouse, .int .i64 m.coding, .int .i64 m.other], .agg #[.bool k.cursor, .bool k.keypad, .bool k.back, .bool k.focus, .bool k.paste, .bool k.lock, .bool k.line, .int .i64 k.mouse, .int .i64 k.coding, .int .i64 k.other], .pointer (some ⟨w.heap.size, 0, none⟩), .pointer (some ⟨w.heap.size + 1, 0, none⟩), .bool false, .bool true, p, undef, .bool true, .agg #[.bool m.cursor, .bool m.keypad, .bool m.back, .bool m.focus, .bool m.paste, .bool m.lock, .bool m.line, .int .i64 m.mouse, .int .i64 m.coding, .int .i64 m.other], .bool true, .bool false, .bool false, .agg #[.bool k.cursor, .bool k.keypad, .bool k.back, .bool k.focus, .bool k.paste, .bool k.lock, .bool k.line, .int .i64 k.mouse, .int .i64 k.coding, .int .i64 k.other], .bool true, .bool false, .bool false, undef, .agg #[.int .u8 0, .int .u8 0, .int .u8 0, .int .u8 0, .int .u8 0, .int .u8 0, .int .u8 0, .int .u8 0, .int .u8 0, .int .u8 0, .int .u8 0, .int .u8 0], .agg #[.bool m.cursor, .bool m.keypad, .bool m.back, .bool m.focus, .bool m.paste, .bool m.lock, .bool m.line, .int .i64 m.mouse, .int .i64 m.coding, .int .i64 m.other], v, .agg #[.int .u8 (d0.toNat : Int), .int .u8 (d1.toNat : Int), .int .u8 (d2.toNat : Int), .int .u8 (d3.toNat : Int), .int .u8 (d4.toNat : Int), .int .u8 (d5.toNat : Int), .int .u8 (d6.toNat : Int), .int .u8 (d7.toNat : Int), .int .u8 (d8.toNat : Int), .int .u8 (d9.toNat : Int), .int .u8 (d10.toNat : Int), .int .u8 (d11.toNat : Int)], undef, undef, undef, undef, undef, undef, undef, undef, undef, undef, undef, undef, undef, undef, undef, undef, undef, undef, undef], []⟩) [.agg #[.int .u8 0, .int .u8 0, .int .u8 0, .int .u8 0, .int .u8 0, .int .u8 0, .int .u8 0, .int .u8 0, .int .u8 0, .int .u8 0, .int .u8 0, .int .u8 0], .agg #[.bool m.cursor, .bool m.keypad, .bool m.back, .bool m.focus, .bool m.paste, .bool m.lock, .bool m.line, .int .i64 m.mouse, .int .i64 m.coding, .int .i64 m.other], undef, .agg #[.int .u8 (d0.toNat : Int), .int .u8 (d1.toNat : Int), .int .u8 (d2.toNat : Int), .int .u8 (d3.toNat : Int), .int .u8 (d4.toNat : Int), .int .u8 (d5.toNat : Int), .int .u8 (d6.toNat : Int), .int .u8 (d7.toNat : Int), .int .u8 (d8.toNat : Int), .int .u8 (d9.toNat : Int), .int .u8 (d10.toNat : Int), .int .u8 (d11.toNat : Int)], undef, undef] (by kernel_rfl) (by kernel_rfl) (by kernel_rfl) (fun g => by kernel_rfl) (by kernel_rfl) (Below.refl _ _).drew (by decide) (by decide)
    (goes_cons (goesM_val (fun _ => .agg #[.int .u8 0, .int .u8 0, .int .u8 0, .int .u8 0, .int .u8 0, .int .u8 0, .int .u8 0, .int .u8 0, .int .u8 0, .int .u8 0, .int .u8 0, .int .u8 0]) (by decide) (by decide) (by decide) (fun g => by kernel_rfl) rfl (fun g => by kernel_rfl) (fun g w _ => by kernel_rfl)) 
    (goes_cons (goesM_load (by decide) (by decide) (by decide) (fun g => by kernel_rfl) rfl (fun g => by kernel_rfl) rfl (fun g => by kernel_rfl) l2 Try.underlying25 rfl (by kernel_rfl)) 
    (goes_cons (goesM_hand rfl (by decide) (by decide) (by decide) (fun g => by kernel_rfl) rfl (fun g => by kernel_rfl) (fun g w => by kernel_rfl) (fun g W hW => (pown_any W).mono fun _ _ ⟨A, c, he, _, hR, hb⟩ => ⟨A, c, he, hR, hb⟩)) 
    (goes_cons (goesM_call (by decide) (by decide) (by decide) (fun g => by kernel_rfl) rfl (fun g => by kernel_rfl) (fun g w => by kernel_rfl) (args := fun g => #[.agg #[.int .u8 0, .int .u8 0, .int .u8 0, .int .u8 0, .int .u8 0, .int .u8 0, .int .u8 0, .int .u8 0, .int .u8 0, .int .u8 0, .int .u8 0, .int .u8 0], .agg #[.bool m.cursor, .bool m.keypad, .bool m.back, .bool m.focus, .bool m.paste, .bool m.lock, .bool m.line, .int .i64 m.mouse, .int .i64 m.coding, .int .i64 m.other], g 20]) (fun l g W hsz hf hr h => by obtain ⟨A, c, e, hR⟩ := h.hand (hr ⟨2, .data⟩ (by simp) rfl) hf; rw [e]; exact HC1.out W A c (HV.out W h.below) hR)) 
    (goes_cons (goesM_alloc rfl (by decide) (by decide) (by decide) (fun g => by kernel_rfl) rfl (fun g => by kernel_rfl) (fun g w => by kernel_rfl)) 
    (goes_cons (goesM_store rfl rfl (by decide) (by decide) (fun g => by kernel_rfl) rfl rfl (fun g => by kernel_rfl) (fun g => by kernel_rfl) rfl (by kernel_rfl) rfl (fun l hsz hr => ⟨hr ⟨4, .data⟩ (by simp) rfl, (fun _ => hr ⟨3, .data⟩ (by simp) rfl)⟩)) goes_nil)))))) ?_
  intro b4 v4 w4 hg4 hb4 kb4
  have o2 := p2.below hb4 p2.lt
  have o3 := p3.below hb4 p3.lt
  have HI4 : Hid (∀ W, Below w4.heap.size w4 W → Below w.heap.size w W) := Lib.hid fun W hb => HI.out W (below_step hb4 hb hb4.size)
  have HV4 : Hid (∀ W, Below w4.heap.size w4 W → Inv W) := Lib.hid fun W hb => HV.out W (below_step hb4 hb hb4.size)
  have l3 : ∀ W, Below w4.heap.size w4 W → Blk W (w.heap.size + 1) 25 #[.bool k.cursor, .bool k.keypad, .bool k.back, .bool k.focus, .bool k.paste, .bool k.lock, .bool k.line, .int .i64 k.mouse, .int .i64 k.coding, .int .i64 k.other] := fun W h => o3.below h o3.lt
  have l6 : ∀ W, Below w4.heap.size w4 W → Blk W b4 28 #[.int .u8 (d0.toNat : Int), .int .u8 (d1.toNat : Int), .int .u8 (d2.toNat : Int), .int .u8 (d3.toNat : Int), .int .u8 (d4.toNat : Int), .int .u8 (d5.toNat : Int), .int .u8 (d6.toNat : Int), .int .u8 (d7.toNat : Int), .int .u8 (d8.toNat : Int), .int .u8 (d9.toNat : Int), .int .u8 (d10.toNat : Int), .int .u8 (d11.toNat : Int)] := fun W h => kb4.below h kb4.lt
  have hge4 : w3.heap.size ≤ w4.heap.size := hb4.size
  clear l2 p2 p3 hb4
  go_wp2_with fail
  refine wp_region_one (w1 := w4) (ia := 4) (iz := 5) (d := 7) (ty := 25) (z := #[.bool false, .bool false, .bool false, .bool false, .bool false, .bool false, .bool false, .int .i64 0, .int .i64 0, .int .i64 0]) (cs := #[.bool m.cursor, .bool m.keypad, .bool m.back, .bool m.focus, .bool m.paste, .bool k.lock, .bool k.line, .int .i64 m.mouse, .int .i64 m.coding, .int .i64 k.other]) (ih := 2) (ic := 3) (dh := 24) (n := 12) (xs := (is_ ownM)) [7, 24] (fun p v => ⟨#[.agg #[.bool m.cursor, .bool m.keypad, .bool m.back, .bool m.focus, .bool m.paste, .bool m.lock, .bool m.line, .int .i64 m.mouse, .int .i64 m.coding, .int .i64 m.other], .agg #[.bool k.cursor, .bool k.keypad, .bool k.back, .bool k.focus, .bool k.paste, .bool k.lock, .bool k.line, .int .i64 k.mouse, .int .i64 k.coding, .int .i64 k.other], .pointer (some ⟨w.heap.size, 0, none⟩), .pointer (some ⟨w.heap.size + 1, 0, none⟩), .bool false, .bool true, .pointer (some ⟨b4, 0, none⟩), p, .bool true, .agg #[.bool m.cursor, .bool m.keypad, .bool m.back, .bool m.focus, .bool m.paste, .bool m.lock, .bool m.line, .int .i64 m.mouse, .int .i64 m.coding, .int .i64 m.other], .bool true, .bool false, .bool false, .agg #[.bool k.cursor, .bool k.keypad, .bool k.back, .bool k.focus, .bool k.paste, .bool k.lock, .bool k.line, .int .i64 k.mouse, .int .i64 k.coding, .int .i64 k.other], .bool true, .bool false, .bool false, undef, .agg #[.int .u8 0, .int .u8 0, .int .u8 0, .int .u8 0, .int .u8 0, .int .u8 0, .int .u8 0, .int .u8 0, .int .u8 0, .int .u8 0, .int .u8 0, .int .u8 0], .agg #[.bool m.cursor, .bool m.keypad, .bool m.back, .bool m.focus, .bool m.paste, .bool m.lock, .bool m.line, .int .i64 m.mouse, .int .i64 m.coding, .int .i64 m.other], v4, .agg #[.int .u8 (d0.toNat : Int), .int .u8 (d1.toNat : Int), .int .u8 (d2.toNat : Int), .int .u8 (d3.toNat : Int), .int .u8 (d4.toNat : Int), .int .u8 (d5.toNat : Int), .int .u8 (d6.toNat : Int), .int .u8 (d7.toNat : Int), .int .u8 (d8.toNat : Int), .int .u8 (d9.toNat : Int), .int .u8 (d10.toNat : Int), .int .u8 (d11.toNat : Int)], .agg #[.int .u8 (d0.toNat : Int), .int .u8 (d1.toNat : Int), .int .u8 (d2.toNat : Int), .int .u8 (d3.toNat : Int), .int .u8 (d4.toNat : Int), .int .u8 (d5.toNat : Int), .int .u8 (d6.toNat : Int), .int .u8 (d7.toNat : Int), .int .u8 (d8.toNat : Int), .int .u8 (d9.toNat : Int), .int .u8 (d10.toNat : Int), .int .u8 (d11.toNat : Int)], .agg #[.bool k.cursor, .bool k.keypad, .bool k.back, .bool k.focus, .bool k.paste, .bool k.lock, .bool k.line, .int .i64 k.mouse, .int .i64 k.coding, .int .i64 k.other], v, .agg #[.bool m.cursor, .bool m.keypad, .bool m.back, .bool m.focus, .bool m.paste, .bool k.lock, .bool k.line, .int .i64 m.mouse, .int .i64 m.coding, .int .i64 k.other], undef, undef, undef, undef, undef, undef, undef, undef, undef, undef, undef, undef, undef, undef, undef], []⟩) [.agg #[.int .u8 (d0.toNat : Int), .int .u8 (d1.toNat : Int), .int .u8 (d2.toNat : Int), .int .u8 (d3.toNat : Int), .int .u8 (d4.toNat : Int), .int .u8 (d5.toNat : Int), .int .u8 (d6.toNat : Int), .int .u8 (d7.toNat : Int), .int .u8 (d8.toNat : Int), .int .u8 (d9.toNat : Int), .int .u8 (d10.toNat : Int), .int .u8 (d11.toNat : Int)], .agg #[.bool k.cursor, .bool k.keypad, .bool k.back, .bool k.focus, .bool k.paste, .bool k.lock, .bool k.line, .int .i64 k.mouse, .int .i64 k.coding, .int .i64 k.other], undef, .agg #[.bool m.cursor, .bool m.keypad, .bool m.back, .bool m.focus, .bool m.paste, .bool k.lock, .bool k.line, .int .i64 m.mouse, .int .i64 m.coding, .int .i64 k.other], undef, undef] (by kernel_rfl) (by kernel_rfl) (by kernel_rfl) (fun g => by kernel_rfl) (by kernel_rfl) (Below.refl _ _).drew (by decide) (by decide)
    (goes_cons (goesM_load (by decide) (by decide) (by decide) (fun g => by kernel_rfl) rfl (fun g => by kernel_rfl) rfl (fun g => by kernel_rfl) l6 Try.underlying28 rfl (by kernel_rfl)) 
    (goes_cons (goesM_load (by decide) (by decide) (by decide) (fun g => by kernel_rfl) rfl (fun g => by kernel_rfl) rfl (fun g => by kernel_rfl) l3 Try.underlying25 rfl (by kernel_rfl)) 
    (goes_cons (goesM_hand rfl (by decide) (by decide) (by decide) (fun g => by kernel_rfl) rfl (fun g => by kernel_rfl) (fun g w => by kernel_rfl) (fun g W hW => (pown_any W).mono fun _ _ ⟨A, c, he, _, hR, hb⟩ => ⟨A, c, he, hR, hb⟩)) 
    (goes_cons (goesM_call (by decide) (by decide) (by decide) (fun g => by kernel_rfl) rfl (fun g => by kernel_rfl) (fun g w => by kernel_rfl) (args := fun g => #[.agg #[.int .u8 (d0.toNat : Int), .int .u8 (d1.toNat : Int), .int .u8 (d2.toNat : Int), .int .u8 (d3.toNat : Int), .int .u8 (d4.toNat : Int), .int .u8 (d5.toNat : Int), .int .u8 (d6.toNat : Int), .int .u8 (d7.toNat : Int), .int .u8 (d8.toNat : Int), .int .u8 (d9.toNat : Int), .int .u8 (d10.toNat : Int), .int .u8 (d11.toNat : Int)], .agg #[.bool k.cursor, .bool k.keypad, .bool k.back, .bool k.focus, .bool k.paste, .bool k.lock, .bool k.line, .int .i64 k.mouse, .int .i64 k.coding, .int .i64 k.other], g 24]) (fun l g W hsz hf hr h => by obtain ⟨A, c, e, hR⟩ := h.hand (hr ⟨2, .data⟩ (by simp) rfl) hf; rw [e]; exact HC2.out W A c (HV4.out W h.below) hR)) 
    (goes_cons (goesM_alloc rfl (by decide) (by decide) (by decide) (fun g => by kernel_rfl) rfl (fun g => by kernel_rfl) (fun g w => by kernel_rfl)) 
    (goes_cons (goesM_store rfl rfl (by decide) (by decide) (fun g => by kernel_rfl) rfl rfl (fun g => by kernel_rfl) (fun g => by kernel_rfl) rfl (by kernel_rfl) rfl (fun l hsz hr => ⟨hr ⟨4, .data⟩ (by simp) rfl, (fun _ => hr ⟨3, .data⟩ (by simp) rfl)⟩)) goes_nil)))))) ?_
  intro b5 v5 w5 hg5 hb5 kb5
  have n2 := o2.below hb5 o2.lt
  have n3 := o3.below hb5 o3.lt
  have hB := HI4.out _ hb5
  clear l3 l6 o2 o3 hb5 kb4 HC1 HC2
  obtain ⟨a0, a1, a2, a3, a4, a5, a6, a7, a8, a9⟩ := Blk.cells10 n2
  obtain ⟨c0, c1, c2, c3, c4, c5, c6, c7, c8, c9⟩ := Blk.cells10 n3
  have z5 := n2.frozen 5
  have z6 := n2.frozen 6
  have z9 := n2.frozen 9
  have ne5 : b5 ≠ w.heap.size := by omega
  have kE := ((kb5.far (a := ⟨w.heap.size, 5, none⟩) ne5 (.bool k.lock)).far (a := ⟨w.heap.size, 6, none⟩) ne5 (.bool k.line)).far (a := ⟨w.heap.size, 9, none⟩) ne5 (.int .i64 k.other)
  have mE : Blk (((w5.setCell ⟨w.heap.size, 5, none⟩ (.bool k.lock)).setCell ⟨w.heap.size, 6, none⟩ (.bool k.line)).setCell ⟨w.heap.size, 9, none⟩ (.int .i64 k.other)) w.heap.size 25 #[.bool m.cursor, .bool m.keypad, .bool m.back, .bool m.focus, .bool m.paste, .bool k.lock, .bool k.line, .int .i64 m.mouse, .int .i64 m.coding, .int .i64 k.other] := ((n2.set 5 (.bool k.lock)).set 6 (.bool k.line)).set 9 (.int .i64 k.other)
  have hBE := ((hB.setCell (p := ⟨w.heap.size, 5, none⟩) (Nat.le_refl _) (.bool k.lock)).setCell (p := ⟨w.heap.size, 6, none⟩) (Nat.le_refl _) (.bool k.line)).setCell (p := ⟨w.heap.size, 9, none⟩) (Nat.le_refl _) (.int .i64 k.other)
  obtain ⟨d0, d1, d2, d3, d4, d5, d6, d7, d8, d9⟩ := Blk.cells10 kE
  obtain ⟨q0, q1, q2, q3, q4, q5, q6, q7, q8, q9⟩ := Blk.cells10 mE
  go_wp2_with fail
  go_ret
  exact ⟨rfl, hBE⟩
theorem saveAll_walk (H : SavC Inv) (m : Mo) (hm : okM m) (k : Mo) (hk : okM k) (w : World) (hv : Inv w) :
    Calls Try.prog 5 #[moV m, moV k] w fun e w' => e = .returned (.bool true) ∧ Below w.heap.size w w' := by
  by_cases h1 : mayM m = true
  · by_cases h2 : mayM k = true
    · exact all_yes H m k hm hk w hv h1 h2
    · exact all_no H m k w hv (.inr (by simpa using h2))
  · exact all_no H m k w hv (.inl (by simpa using h1))
end
end Go.Proofs.Ytokhchejkfhmmaa
