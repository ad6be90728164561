/-
  Stage 12, the landed other: its event, and which levels tell it.
-/
import Derived.Test.YtceipblcdcgljaaGreatDoorG04
import Derived.Test.YtceipblcdcgljaaGreatDoorG07
import Derived.Test.YtceipblcdcgljaaGreatDoorG08
import Derived.Test.YtceipblcdcgljaaGreatDoorG10
import Derived.Test.YtceipblcdcgljaaGreatDoorG13
import Derived.Test.YtceipblcdcgljaaGreatDoorG15
import Derived.Test.YtceipblcdcgljaaGreatDoorG18
import Derived.Laws.EntriesVeiled
namespace Go.Proofs.YtceipblcdcgljaaGreatDoor
open Go.RowKit
def evB (k : Ky) : Bool := mayK k && (k.typ != 3) && (if (lookE k.code).kind = 1 then oldN k.mods != 0 && oldN k.mods != 1 else if (lookE k.code).kind = 2 then oldN k.mods != 0 else false)
def unB (c : Int) (t : Bool) (o : Int) : Bool := (o / 4 % 2 == 1) && if t = true then o % 2 == 1 || !(foldN c).2 else c == 9 || c == 13
def toldB (l c : Int) (t : Bool) (o : Int) : Bool := if l = 1 then unB c t o else l == 2
theorem has_old (n : Int) : hasN n 4 = (oldN n / 4 % 2 == 1) ∧ hasN n 1 = (oldN n % 2 == 1) := by
 unfold hasN oldN
 generalize max n 0 = x
 refine ⟨?_, ?_⟩
 ·rw [show x % 8 / 4 % 2 = x / 4 % 2 by omega]
 ·rw [show x % 8 % 2 = x / 1 % 2 by omega]
theorem less_un (k : Ky) (hk : (lookE k.code).kind = 1 ∨ (lookE k.code).kind = 2) : lessK k = unB (charK k) ((lookE k.code).kind == 1) (oldN k.mods) := by
 obtain ⟨h4, h1⟩ := has_old k.mods
 unfold lessK unB charK
 rw [h4, h1]
 rcases hk with hk | hk
 ·rw [if_neg (by omega), if_pos hk, hk]; rfl
 ·rw [if_pos hk, if_neg (show ¬ ((lookE k.code).kind = 1) by omega), hk]; rfl
theorem isO_told (o : Int) (k : Ky) : isO o k = (evB k && toldB o (charK k) ((lookE k.code).kind == 1) (oldN k.mods)) := by
 by_cases hk : (lookE k.code).kind = 1 ∨ (lookE k.code).kind = 2
 ·have hl := less_un k hk
  unfold isO evB toldB
  rw [hl]
  generalize unB _ _ _ = U
  generalize oldN k.mods = O
  generalize mayK k = M
  generalize k.typ = Y
  have q1 : o ≠ 1 → (o == 1) = false := fun h => beq_false_of_ne h
  have q2 : o ≠ 2 → (o == 2) = false := fun h => beq_false_of_ne h
  rcases hk with hk | hk
  ·rw [hk]
   by_cases o1 : o = 1
   ·subst o1
    cases M <;> cases U <;> cases hy : (Y == 3) <;> cases h0 : (O == 0) <;> cases h1 : (O == 1) <;> simp [bne, hy, h0, h1]
   ·by_cases o2 : o = 2
    ·subst o2
     cases M <;> cases hy : (Y == 3) <;> cases h0 : (O == 0) <;> cases h1 : (O == 1) <;> simp [bne, hy, h0, h1]
    ·simp [bne, q1 o1, q2 o2, o1]
  ·rw [hk]
   by_cases o1 : o = 1
   ·subst o1
    cases M <;> cases U <;> cases hy : (Y == 3) <;> cases h0 : (O == 0) <;> simp [bne, hy, h0]
   ·by_cases o2 : o = 2
    ·subst o2
     cases M <;> cases hy : (Y == 3) <;> cases h0 : (O == 0) <;> simp [bne, hy, h0]
    ·simp [bne, q1 o1, q2 o2, o1]
 ·have h1 : (lookE k.code).kind ≠ 1 := fun h => hk (.inl h)
  have h2 : (lookE k.code).kind ≠ 2 := fun h => hk (.inr h)
  unfold isO evB
  simp [h1, h2]
def evO (c : Int) (t : Bool) (o : Int) : Value := .agg #[.int .i64 c, .bool t, .int .i64 o]
theorem obits {o : Int} (h0 : 0 ≤ o) (h1 : o < 8) : (bits .and .i64 o 4 == 0) = !(o / 4 % 2 == 1) ∧ (bits .and .i64 o 1 != 0) = (o % 2 == 1) := by
 obtain ⟨n, rfl⟩ := Int.eq_ofNat_of_zero_le h0
 have : ∀ n : Fin 8, (bits .and .i64 ((n.1 : Nat) : Int) 4 == 0) = !(((n.1 : Nat) : Int) / 4 % 2 == 1) ∧ (bits .and .i64 ((n.1 : Nat) : Int) 1 != 0) = (((n.1 : Nat) : Int) % 2 == 1) := by decide +kernel
 exact this ⟨n, by omega⟩
theorem oret_b {x y : Bool} (h : x = y) : Ending.returned (.bool x) = .returned (.bool y) := by rw [h]
set_option maxRecDepth 100000 in
set_option maxHeartbeats 8000000 in
theorem unusual_any (c : Int) (t : Bool) (o : Int) (hc : in10 c) (o0 : 0 ≤ o) (o1 : o < 8) (w : World) : Calls Tryz.prog 134 #[evO c t o] w fun e w' => e = .returned (.bool (unB c t o)) ∧ Below w.heap.size w w' := by
 have k0 := Blk.new w 98 #[.int .i64 c, .bool t, .int .i64 o]
 have hB : Below w.heap.size w (w.alloc (.cells #[.int .i64 c, .bool t, .int .i64 o] 98)) := (Below.refl _ _).alloc (Nat.le_refl _) _
 have b4 := (obits o0 o1).1
 have b1 := (obits o0 o1).2
 obtain ⟨x4, h4⟩ : ∃ x, (o / 4 % 2 == 1) = x := ⟨_, rfl⟩
 obtain ⟨x1, h1⟩ : ∃ x, (o % 2 == 1) = x := ⟨_, rfl⟩
 obtain ⟨G, hG⟩ : ∃ G, foldN c = G := ⟨_, rfl⟩
 obtain ⟨gn, gb⟩ := G
 obtain ⟨t9, h9⟩ : ∃ x, (c == 9) = x := ⟨_, rfl⟩
 obtain ⟨t13, h13⟩ : ∃ x, (c == 13) = x := ⟨_, rfl⟩
 have HC := Lib.hid (show unB c t o = (x4 && if t = true then x1 || !gb else t9 || t13) by unfold unB; rw [h4, h1, hG, h9, h13])
 have HF : Hid (∀ W, Calls Tryz.prog 138 #[.int .i64 c] W fun e w' => e = .returned (.tuple #[.int .i64 gn, .bool gb]) ∧ Below W.heap.size W w') := Lib.hid fun W => by
  have := pfold_any c W hc
  rwa [hG] at this
 obtain ⟨R, hR⟩ : ∃ R, unB c t o = R := ⟨_, rfl⟩
 rw [hR] at HC ⊢
 rw [h4] at b4
 rw [h1] at b1
 clear h4 h1 hG hR o0 o1 hc
 obtain ⟨a0, a1, a2⟩ := And.intro (k0.cell 0) (And.intro (k0.cell 1) (k0.cell 2))
 unfold evO
 cases x4 with
 | false =>
   have HR := Lib.hid (show R = false from HC.out)
   have b4' : (bits .and .i64 o 4 == 0) = true := b4
   clear HC b4 b1
   go_enter Tryz.func134, Tryz.ntmps134
   go_wp2_with fail
   go_ret
   exact ⟨oret_b HR.out.symm, hB⟩
 | true =>
   have b4' : (bits .and .i64 o 4 == 0) = false := b4
   clear b4
   cases t with
   | false =>
     have HR := Lib.hid (show R = (t9 || t13) from HC.out)
     clear HC b1
     cases t9 with
     | true =>
       go_enter Tryz.func134, Tryz.ntmps134
       go_wp2_with fail
       go_ret
       exact ⟨oret_b HR.out.symm, hB⟩
     | false =>
       go_enter Tryz.func134, Tryz.ntmps134
       go_wp2_with fail
       go_ret
       exact ⟨oret_b HR.out.symm, hB⟩
   | true =>
     have HR := Lib.hid (show R = (x1 || !gb) from HC.out)
     clear HC
     go_enter Tryz.func134, Tryz.ntmps134
     go_wp2_with fail
     refine (HF.out _).mono ?_
     rintro e w1 ⟨rfl, hb1⟩
     have k1 := k0.below hb1 k0.lt
     have hB1 := hB.trans (hb1.mono hB.size)
     clear k0 hB hb1 a0 a1 a2 HF
     have a2 := k1.cell 2
     cases x1 with
     | true =>
       go_wp2_with fail
       go_ret
       exact ⟨oret_b HR.out.symm, hB1⟩
     | false =>
       go_wp2_with fail
       go_ret
       exact ⟨oret_b HR.out.symm, hB1⟩
set_option maxRecDepth 100000 in
set_option maxHeartbeats 8000000 in
theorem lev_false (c : Int) (t : Bool) (o : Int) (w : World) : Calls Tryz.prog 133 #[evO c t o] w fun e w' => e = .returned (.bool false) ∧ Below w.heap.size w w' := by
 have hB : Below w.heap.size w (w.alloc (.cells #[.int .i64 c, .bool t, .int .i64 o] 98)) := (Below.refl _ _).alloc (Nat.le_refl _) _
 unfold evO
 go_enter Tryz.func133, Tryz.ntmps133
 go_wp2_with fail
 go_ret
 exact ⟨rfl, hB⟩
set_option maxRecDepth 100000 in
set_option maxHeartbeats 8000000 in
theorem lev_true (c : Int) (t : Bool) (o : Int) (w : World) : Calls Tryz.prog 135 #[evO c t o] w fun e w' => e = .returned (.bool true) ∧ Below w.heap.size w w' := by
 have hB : Below w.heap.size w (w.alloc (.cells #[.int .i64 c, .bool t, .int .i64 o] 98)) := (Below.refl _ _).alloc (Nat.le_refl _) _
 unfold evO
 go_enter Tryz.func135, Tryz.ntmps135
 go_wp2_with fail
 go_ret
 exact ⟨rfl, hB⟩
set_option maxRecDepth 100000 in
set_option maxHeartbeats 8000000 in
theorem levels_any (w : World) : Calls Tryz.prog 110 #[] w fun e w' => e = .returned (.agg #[.func (.func 133) #[] #[], .func (.func 134) #[] #[], .func (.func 135) #[] #[]]) ∧ Below w.heap.size w w' := by
 have hB : ∀ o, Below w.heap.size w (w.alloc o) := fun o => (Below.refl _ _).alloc (Nat.le_refl _) _
 go_enter Tryz.func110, Tryz.ntmps110
 go_wp2_with fail
 refine bodyPost_ret (v := .agg #[.func (.func 133) #[] #[], .func (.func 134) #[] #[], .func (.func 135) #[] #[]]) (by simp [results, Tryz.results110, go_sem]) rfl ?_
 exact ⟨rfl, hB _⟩
set_option maxRecDepth 100000 in
set_option maxHeartbeats 8000000 in
theorem told_0 (c : Int) (t : Bool) (o : Int) (w : World) : Calls Tryz.prog 73 #[.int .i64 0, evO c t o] w fun e w' => e = .returned (.bool false) ∧ Below w.heap.size w w' := by
 have k0 := Blk.new w 98 #[.int .i64 c, .bool t, .int .i64 o]
 have hB : Below w.heap.size w (w.alloc (.cells #[.int .i64 c, .bool t, .int .i64 o] 98)) := (Below.refl _ _).alloc (Nat.le_refl _) _
 unfold evO
 go_enter Tryz.func73, Tryz.ntmps73
 go_wp2_with fail
 refine (levels_any _).mono ?_
 rintro e w1 ⟨rfl, hb1⟩
 have k1 := (k0.below hb1 k0.lt).alloc (.cells #[.func (.func 133) #[] #[], .func (.func 134) #[] #[], .func (.func 135) #[] #[]] 128)
 have f1 := Blk.new w1 128 #[.func (.func 133) #[] #[], .func (.func 134) #[] #[], .func (.func 135) #[] #[]]
 have hB1 := hB.trans (hb1.mono hB.size)
 have hB2 := hB1.alloc hB1.size (.cells #[.func (.func 133) #[] #[], .func (.func 134) #[] #[], .func (.func 135) #[] #[]] 128)
 clear k0 hB hb1
 go_wp2_with fail
 have lk : ∀ W, Below (w1.alloc (.cells #[.func (.func 133) #[] #[], .func (.func 134) #[] #[], .func (.func 135) #[] #[]] 128)).heap.size (w1.alloc (.cells #[.func (.func 133) #[] #[], .func (.func 134) #[] #[], .func (.func 135) #[] #[]] 128)) W → Blk W w.heap.size 98 #[.int .i64 c, .bool t, .int .i64 o] := fun W hW => k1.below hW k1.lt
 have lf : ∀ W, Below (w1.alloc (.cells #[.func (.func 133) #[] #[], .func (.func 134) #[] #[], .func (.func 135) #[] #[]] 128)).heap.size (w1.alloc (.cells #[.func (.func 133) #[] #[], .func (.func 134) #[] #[], .func (.func 135) #[] #[]] 128)) W → Blk W w1.heap.size 128 #[.func (.func 133) #[] #[], .func (.func 134) #[] #[], .func (.func 135) #[] #[]] := fun W hW => f1.below hW f1.lt
 have hst : ∀ f ∈ ([] : List Fact), f.ok := fun _ h => by cases h
 refine wp_region_told (w1 := (w1.alloc (.cells #[.func (.func 133) #[] #[], .func (.func 134) #[] #[], .func (.func 135) #[] #[]] 128))) (K := []) (ix := 1000) (R0 := fun _ _ _ => True) (R1 := fun _ _ _ => True) [] (⟨#[.int .i64 0, .agg #[.int .i64 c, .bool t, .int .i64 o], undef, .pointer (some ⟨w.heap.size, 0, none⟩), .bool false, .pointer (some ⟨w1.heap.size, 0, none⟩), .agg #[.func (.func 133) #[] #[], .func (.func 134) #[] #[], .func (.func 135) #[] #[]], .int .i64 0, .bool true, .bool true, .int .i64 0, .bool true, .bool true, .bool true, .int .i64 0, .pointer (some ⟨w1.heap.size, 0, none⟩), .func (.func 133) #[] #[], .agg #[.int .i64 c, .bool t, .int .i64 o], .bool false, .bool false], []⟩) (fun g => ⟨#[.int .i64 0, .agg #[.int .i64 c, .bool t, .int .i64 o], undef, .pointer (some ⟨w.heap.size, 0, none⟩), .bool false, .pointer (some ⟨w1.heap.size, 0, none⟩), .agg #[.func (.func 133) #[] #[], .func (.func 134) #[] #[], .func (.func 135) #[] #[]], .int .i64 0, .bool true, .bool true, .int .i64 0, .bool true, .bool true, .bool true, .int .i64 0, .pointer (some ⟨w1.heap.size, 0, none⟩), .func (.func 133) #[] #[], .agg #[.int .i64 c, .bool t, .int .i64 o], .bool false, .bool false], []⟩) [.int .i64 0, .bool true, .bool true, .int .i64 0, .bool true, .bool true, .bool true, .int .i64 0, .pointer (some ⟨w1.heap.size, 0, none⟩), .func (.func 133) #[] #[], .agg #[.int .i64 c, .bool t, .int .i64 o], .bool false, .bool false, .bool false] (by kernel_rfl) (by kernel_rfl) (by kernel_rfl) (fun g => by kernel_rfl) (by kernel_rfl) (Below.refl _ _).drew (by decide) (by kernel_rfl)
  (goes_cons (gkP (fun _ => .int .i64 0))
  (goes_cons (gkP (fun _ => .bool true))
  (goes_cons (gkP (fun _ => .bool true))
  (goes_cons (gkP (fun _ => .int .i64 0))
  (goes_cons (gkP (fun _ => .bool true))
  (goes_cons (gkP (fun _ => .bool true))
  (goes_cons (gkP (fun _ => .bool true))
  (goes_cons (gkP (fun _ => .int .i64 0))
  (goes_cons (gkP (fun _ => .pointer (some ⟨w1.heap.size, 0, none⟩)))
  (goes_cons (gkC hst (fun W hW => (lf W hW).cell 0))
  (goes_cons (gkL hst lk Tryz.underlying98)
  (goes_cons (gkK (fun g => #[.agg #[.int .i64 c, .bool t, .int .i64 o]]) hst (fun g W hW hin => lev_false c t o W))
  (goes_cons (gkP (fun _ => .bool false))
  (goes_cons (gkP (fun _ => .bool false)) goes_nil)))))))))))))) ?_
 intro g W hW _
 go_wp2_with fail
 go_ret
 exact ⟨rfl, hB2.trans (hW.mono hB2.size)⟩
set_option maxRecDepth 100000 in
set_option maxHeartbeats 8000000 in
theorem told_1 (c : Int) (t : Bool) (o : Int) (hc : in10 c) (o0 : 0 ≤ o) (o1 : o < 8) (w : World) : Calls Tryz.prog 73 #[.int .i64 1, evO c t o] w fun e w' => e = .returned (.bool (unB c t o)) ∧ Below w.heap.size w w' := by
 have k0 := Blk.new w 98 #[.int .i64 c, .bool t, .int .i64 o]
 have hB : Below w.heap.size w (w.alloc (.cells #[.int .i64 c, .bool t, .int .i64 o] 98)) := (Below.refl _ _).alloc (Nat.le_refl _) _
 unfold evO
 go_enter Tryz.func73, Tryz.ntmps73
 go_wp2_with fail
 refine (levels_any _).mono ?_
 rintro e w1 ⟨rfl, hb1⟩
 have k1 := (k0.below hb1 k0.lt).alloc (.cells #[.func (.func 133) #[] #[], .func (.func 134) #[] #[], .func (.func 135) #[] #[]] 128)
 have f1 := Blk.new w1 128 #[.func (.func 133) #[] #[], .func (.func 134) #[] #[], .func (.func 135) #[] #[]]
 have hB1 := hB.trans (hb1.mono hB.size)
 have hB2 := hB1.alloc hB1.size (.cells #[.func (.func 133) #[] #[], .func (.func 134) #[] #[], .func (.func 135) #[] #[]] 128)
 clear k0 hB hb1
 go_wp2_with fail
 have lk : ∀ W, Below (w1.alloc (.cells #[.func (.func 133) #[] #[], .func (.func 134) #[] #[], .func (.func 135) #[] #[]] 128)).heap.size (w1.alloc (.cells #[.func (.func 133) #[] #[], .func (.func 134) #[] #[], .func (.func 135) #[] #[]] 128)) W → Blk W w.heap.size 98 #[.int .i64 c, .bool t, .int .i64 o] := fun W hW => k1.below hW k1.lt
 have lf : ∀ W, Below (w1.alloc (.cells #[.func (.func 133) #[] #[], .func (.func 134) #[] #[], .func (.func 135) #[] #[]] 128)).heap.size (w1.alloc (.cells #[.func (.func 133) #[] #[], .func (.func 134) #[] #[], .func (.func 135) #[] #[]] 128)) W → Blk W w1.heap.size 128 #[.func (.func 133) #[] #[], .func (.func 134) #[] #[], .func (.func 135) #[] #[]] := fun W hW => f1.below hW f1.lt
 have hst : ∀ f ∈ ([] : List Fact), f.ok := fun _ h => by cases h
 refine wp_region_told (w1 := (w1.alloc (.cells #[.func (.func 133) #[] #[], .func (.func 134) #[] #[], .func (.func 135) #[] #[]] 128))) (K := []) (ix := 1000) (R0 := fun _ _ _ => True) (R1 := fun _ _ _ => True) [] (⟨#[.int .i64 1, .agg #[.int .i64 c, .bool t, .int .i64 o], undef, .pointer (some ⟨w.heap.size, 0, none⟩), .bool (unB c t o), .pointer (some ⟨w1.heap.size, 0, none⟩), .agg #[.func (.func 133) #[] #[], .func (.func 134) #[] #[], .func (.func 135) #[] #[]], .int .i64 1, .bool true, .bool true, .int .i64 1, .bool true, .bool true, .bool true, .int .i64 1, .pointer (some ⟨w1.heap.size, 1, none⟩), .func (.func 134) #[] #[], .agg #[.int .i64 c, .bool t, .int .i64 o], .bool (unB c t o), .bool (unB c t o)], []⟩) (fun g => ⟨#[.int .i64 1, .agg #[.int .i64 c, .bool t, .int .i64 o], undef, .pointer (some ⟨w.heap.size, 0, none⟩), .bool (unB c t o), .pointer (some ⟨w1.heap.size, 0, none⟩), .agg #[.func (.func 133) #[] #[], .func (.func 134) #[] #[], .func (.func 135) #[] #[]], .int .i64 1, .bool true, .bool true, .int .i64 1, .bool true, .bool true, .bool true, .int .i64 1, .pointer (some ⟨w1.heap.size, 1, none⟩), .func (.func 134) #[] #[], .agg #[.int .i64 c, .bool t, .int .i64 o], .bool (unB c t o), .bool (unB c t o)], []⟩) [.int .i64 1, .bool true, .bool true, .int .i64 1, .bool true, .bool true, .bool true, .int .i64 1, .pointer (some ⟨w1.heap.size, 1, none⟩), .func (.func 134) #[] #[], .agg #[.int .i64 c, .bool t, .int .i64 o], .bool (unB c t o), .bool (unB c t o), .bool (unB c t o)] (by kernel_rfl) (by kernel_rfl) (by kernel_rfl) (fun g => by kernel_rfl) (by kernel_rfl) (Below.refl _ _).drew (by decide) (by kernel_rfl)
  (goes_cons (gkP (fun _ => .int .i64 1))
  (goes_cons (gkP (fun _ => .bool true))
  (goes_cons (gkP (fun _ => .bool true))
  (goes_cons (gkP (fun _ => .int .i64 1))
  (goes_cons (gkP (fun _ => .bool true))
  (goes_cons (gkP (fun _ => .bool true))
  (goes_cons (gkP (fun _ => .bool true))
  (goes_cons (gkP (fun _ => .int .i64 1))
  (goes_cons (gkP (fun _ => .pointer (some ⟨w1.heap.size, 1, none⟩)))
  (goes_cons (gkC hst (fun W hW => (lf W hW).cell 1))
  (goes_cons (gkL hst lk Tryz.underlying98)
  (goes_cons (gkK (fun g => #[.agg #[.int .i64 c, .bool t, .int .i64 o]]) hst (fun g W hW hin => unusual_any c t o hc o0 o1 W))
  (goes_cons (gkP (fun _ => .bool (unB c t o)))
  (goes_cons (gkP (fun _ => .bool (unB c t o))) goes_nil)))))))))))))) ?_
 intro g W hW _
 go_wp2_with fail
 go_ret
 exact ⟨rfl, hB2.trans (hW.mono hB2.size)⟩
set_option maxRecDepth 100000 in
set_option maxHeartbeats 8000000 in
theorem told_2 (c : Int) (t : Bool) (o : Int) (w : World) : Calls Tryz.prog 73 #[.int .i64 2, evO c t o] w fun e w' => e = .returned (.bool true) ∧ Below w.heap.size w w' := by
 have k0 := Blk.new w 98 #[.int .i64 c, .bool t, .int .i64 o]
 have hB : Below w.heap.size w (w.alloc (.cells #[.int .i64 c, .bool t, .int .i64 o] 98)) := (Below.refl _ _).alloc (Nat.le_refl _) _
 unfold evO
 go_enter Tryz.func73, Tryz.ntmps73
 go_wp2_with fail
 refine (levels_any _).mono ?_
 rintro e w1 ⟨rfl, hb1⟩
 have k1 := (k0.below hb1 k0.lt).alloc (.cells #[.func (.func 133) #[] #[], .func (.func 134) #[] #[], .func (.func 135) #[] #[]] 128)
 have f1 := Blk.new w1 128 #[.func (.func 133) #[] #[], .func (.func 134) #[] #[], .func (.func 135) #[] #[]]
 have hB1 := hB.trans (hb1.mono hB.size)
 have hB2 := hB1.alloc hB1.size (.cells #[.func (.func 133) #[] #[], .func (.func 134) #[] #[], .func (.func 135) #[] #[]] 128)
 clear k0 hB hb1
 go_wp2_with fail
 have lk : ∀ W, Below (w1.alloc (.cells #[.func (.func 133) #[] #[], .func (.func 134) #[] #[], .func (.func 135) #[] #[]] 128)).heap.size (w1.alloc (.cells #[.func (.func 133) #[] #[], .func (.func 134) #[] #[], .func (.func 135) #[] #[]] 128)) W → Blk W w.heap.size 98 #[.int .i64 c, .bool t, .int .i64 o] := fun W hW => k1.below hW k1.lt
 have lf : ∀ W, Below (w1.alloc (.cells #[.func (.func 133) #[] #[], .func (.func 134) #[] #[], .func (.func 135) #[] #[]] 128)).heap.size (w1.alloc (.cells #[.func (.func 133) #[] #[], .func (.func 134) #[] #[], .func (.func 135) #[] #[]] 128)) W → Blk W w1.heap.size 128 #[.func (.func 133) #[] #[], .func (.func 134) #[] #[], .func (.func 135) #[] #[]] := fun W hW => f1.below hW f1.lt
 have hst : ∀ f ∈ ([] : List Fact), f.ok := fun _ h => by cases h
 refine wp_region_told (w1 := (w1.alloc (.cells #[.func (.func 133) #[] #[], .func (.func 134) #[] #[], .func (.func 135) #[] #[]] 128))) (K := []) (ix := 1000) (R0 := fun _ _ _ => True) (R1 := fun _ _ _ => True) [] (⟨#[.int .i64 2, .agg #[.int .i64 c, .bool t, .int .i64 o], undef, .pointer (some ⟨w.heap.size, 0, none⟩), .bool true, .pointer (some ⟨w1.heap.size, 0, none⟩), .agg #[.func (.func 133) #[] #[], .func (.func 134) #[] #[], .func (.func 135) #[] #[]], .int .i64 2, .bool true, .bool true, .int .i64 2, .bool true, .bool true, .bool true, .int .i64 2, .pointer (some ⟨w1.heap.size, 2, none⟩), .func (.func 135) #[] #[], .agg #[.int .i64 c, .bool t, .int .i64 o], .bool true, .bool true], []⟩) (fun g => ⟨#[.int .i64 2, .agg #[.int .i64 c, .bool t, .int .i64 o], undef, .pointer (some ⟨w.heap.size, 0, none⟩), .bool true, .pointer (some ⟨w1.heap.size, 0, none⟩), .agg #[.func (.func 133) #[] #[], .func (.func 134) #[] #[], .func (.func 135) #[] #[]], .int .i64 2, .bool true, .bool true, .int .i64 2, .bool true, .bool true, .bool true, .int .i64 2, .pointer (some ⟨w1.heap.size, 2, none⟩), .func (.func 135) #[] #[], .agg #[.int .i64 c, .bool t, .int .i64 o], .bool true, .bool true], []⟩) [.int .i64 2, .bool true, .bool true, .int .i64 2, .bool true, .bool true, .bool true, .int .i64 2, .pointer (some ⟨w1.heap.size, 2, none⟩), .func (.func 135) #[] #[], .agg #[.int .i64 c, .bool t, .int .i64 o], .bool true, .bool true, .bool true] (by kernel_rfl) (by kernel_rfl) (by kernel_rfl) (fun g => by kernel_rfl) (by kernel_rfl) (Below.refl _ _).drew (by decide) (by kernel_rfl)
  (goes_cons (gkP (fun _ => .int .i64 2))
  (goes_cons (gkP (fun _ => .bool true))
  (goes_cons (gkP (fun _ => .bool true))
  (goes_cons (gkP (fun _ => .int .i64 2))
  (goes_cons (gkP (fun _ => .bool true))
  (goes_cons (gkP (fun _ => .bool true))
  (goes_cons (gkP (fun _ => .bool true))
  (goes_cons (gkP (fun _ => .int .i64 2))
  (goes_cons (gkP (fun _ => .pointer (some ⟨w1.heap.size, 2, none⟩)))
  (goes_cons (gkC hst (fun W hW => (lf W hW).cell 2))
  (goes_cons (gkL hst lk Tryz.underlying98)
  (goes_cons (gkK (fun g => #[.agg #[.int .i64 c, .bool t, .int .i64 o]]) hst (fun g W hW hin => lev_true c t o W))
  (goes_cons (gkP (fun _ => .bool true))
  (goes_cons (gkP (fun _ => .bool true)) goes_nil)))))))))))))) ?_
 intro g W hW _
 go_wp2_with fail
 go_ret
 exact ⟨rfl, hB2.trans (hW.mono hB2.size)⟩
set_option maxRecDepth 100000 in
set_option maxHeartbeats 8000000 in
theorem told_low (c : Int) (t : Bool) (o : Int) (l : Int) (hl : l < 0) (w : World) : Calls Tryz.prog 73 #[.int .i64 l, evO c t o] w fun e w' => e = .returned (.bool false) ∧ Below w.heap.size w w' := by
 have hB : Below w.heap.size w (w.alloc (.cells #[.int .i64 c, .bool t, .int .i64 o] 98)) := (Below.refl _ _).alloc (Nat.le_refl _) _
 have HL := Lib.hid hl
 clear hl
 unfold evO
 go_enter Tryz.func73, Tryz.ntmps73
 go_wp2_with fail
 refine (levels_any _).mono ?_
 rintro e w1 ⟨rfl, hb1⟩
 have hB1 := hB.trans (hb1.mono hB.size)
 have hB2 := hB1.alloc hB1.size (.cells #[.func (.func 133) #[] #[], .func (.func 134) #[] #[], .func (.func 135) #[] #[]] 128)
 clear hB hb1
 go_wp2_with fail
 have hl := HL.out
 have hst : ∀ f ∈ ([] : List Fact), f.ok := fun _ h => by cases h
 refine wp_region_told (w1 := (w1.alloc (.cells #[.func (.func 133) #[] #[], .func (.func 134) #[] #[], .func (.func 135) #[] #[]] 128))) (K := []) (ix := 1000) (R0 := fun _ _ _ => True) (R1 := fun _ _ _ => True) [] (⟨#[.int .i64 l, .agg #[.int .i64 c, .bool t, .int .i64 o], undef, .pointer (some ⟨w.heap.size, 0, none⟩), .bool false, .pointer (some ⟨w1.heap.size, 0, none⟩), .agg #[.func (.func 133) #[] #[], .func (.func 134) #[] #[], .func (.func 135) #[] #[]], .int .i64 l, .bool false, .bool false, undef, undef, .bool false, .bool false, undef, undef, undef, undef, undef, .bool false], []⟩) (fun g => ⟨#[.int .i64 l, .agg #[.int .i64 c, .bool t, .int .i64 o], undef, .pointer (some ⟨w.heap.size, 0, none⟩), .bool false, .pointer (some ⟨w1.heap.size, 0, none⟩), .agg #[.func (.func 133) #[] #[], .func (.func 134) #[] #[], .func (.func 135) #[] #[]], .int .i64 l, .bool false, .bool false, undef, undef, .bool false, .bool false, undef, undef, undef, undef, undef, .bool false], []⟩) [.int .i64 l, .bool false, .bool false, undef, undef, .bool false, .bool false, undef, undef, undef, undef, undef, .bool false, .bool false] (by kernel_rfl) (by kernel_rfl) (by kernel_rfl) (fun g => by kernel_rfl) (by kernel_rfl) (Below.refl _ _).drew (by decide) (by kernel_rfl)
  (goes_cons (gkP (fun _ => .int .i64 l))
  (goes_cons (goesK_bin (v := .bool false) (xv := .int .i64 0) (yv := .int .i64 l) rfl (by decide) (by decide) (by kernel_rfl) (fun g => by kernel_rfl) rfl (fun g => by kernel_rfl) rfl (fun g => by kernel_rfl) (fun g => by kernel_rfl) (fun w => by simp only [go_sem]; rw [show decide (0 ≤ l) = false by simp; omega]; rfl))
  (goes_cons (gkP (fun _ => .bool false))
  (goes_cons gkO
  (goes_cons gkO
  (goes_cons (gkP (fun _ => .bool false))
  (goes_cons (gkP (fun _ => .bool false))
  (goes_cons gkO
  (goes_cons gkO
  (goes_cons gkO
  (goes_cons gkO
  (goes_cons gkO
  (goes_cons (gkP (fun _ => .bool false))
  (goes_cons (gkP (fun _ => .bool false)) goes_nil)))))))))))))) ?_
 intro g W hW _
 go_wp2_with fail
 go_ret
 exact ⟨rfl, hB2.trans (hW.mono hB2.size)⟩
set_option maxRecDepth 100000 in
set_option maxHeartbeats 8000000 in
theorem told_high (c : Int) (t : Bool) (o : Int) (l : Int) (hl : 3 ≤ l) (w : World) : Calls Tryz.prog 73 #[.int .i64 l, evO c t o] w fun e w' => e = .returned (.bool false) ∧ Below w.heap.size w w' := by
 have hB : Below w.heap.size w (w.alloc (.cells #[.int .i64 c, .bool t, .int .i64 o] 98)) := (Below.refl _ _).alloc (Nat.le_refl _) _
 have HL := Lib.hid hl
 clear hl
 unfold evO
 go_enter Tryz.func73, Tryz.ntmps73
 go_wp2_with fail
 refine (levels_any _).mono ?_
 rintro e w1 ⟨rfl, hb1⟩
 have hB1 := hB.trans (hb1.mono hB.size)
 have hB2 := hB1.alloc hB1.size (.cells #[.func (.func 133) #[] #[], .func (.func 134) #[] #[], .func (.func 135) #[] #[]] 128)
 clear hB hb1
 go_wp2_with fail
 have hl := HL.out
 have hst : ∀ f ∈ ([] : List Fact), f.ok := fun _ h => by cases h
 refine wp_region_told (w1 := (w1.alloc (.cells #[.func (.func 133) #[] #[], .func (.func 134) #[] #[], .func (.func 135) #[] #[]] 128))) (K := []) (ix := 1000) (R0 := fun _ _ _ => True) (R1 := fun _ _ _ => True) [] (⟨#[.int .i64 l, .agg #[.int .i64 c, .bool t, .int .i64 o], undef, .pointer (some ⟨w.heap.size, 0, none⟩), .bool false, .pointer (some ⟨w1.heap.size, 0, none⟩), .agg #[.func (.func 133) #[] #[], .func (.func 134) #[] #[], .func (.func 135) #[] #[]], .int .i64 l, .bool true, .bool true, .int .i64 l, .bool false, .bool false, .bool false, undef, undef, undef, undef, undef, .bool false], []⟩) (fun g => ⟨#[.int .i64 l, .agg #[.int .i64 c, .bool t, .int .i64 o], undef, .pointer (some ⟨w.heap.size, 0, none⟩), .bool false, .pointer (some ⟨w1.heap.size, 0, none⟩), .agg #[.func (.func 133) #[] #[], .func (.func 134) #[] #[], .func (.func 135) #[] #[]], .int .i64 l, .bool true, .bool true, .int .i64 l, .bool false, .bool false, .bool false, undef, undef, undef, undef, undef, .bool false], []⟩) [.int .i64 l, .bool true, .bool true, .int .i64 l, .bool false, .bool false, .bool false, undef, undef, undef, undef, undef, .bool false, .bool false] (by kernel_rfl) (by kernel_rfl) (by kernel_rfl) (fun g => by kernel_rfl) (by kernel_rfl) (Below.refl _ _).drew (by decide) (by kernel_rfl)
  (goes_cons (gkP (fun _ => .int .i64 l))
  (goes_cons (goesK_bin (v := .bool true) (xv := .int .i64 0) (yv := .int .i64 l) rfl (by decide) (by decide) (by kernel_rfl) (fun g => by kernel_rfl) rfl (fun g => by kernel_rfl) rfl (fun g => by kernel_rfl) (fun g => by kernel_rfl) (fun w => by simp only [go_sem]; rw [show decide (0 ≤ l) = true by simp; omega]; rfl))
  (goes_cons (gkP (fun _ => .bool true))
  (goes_cons (gkP (fun _ => .int .i64 l))
  (goes_cons (goesK_bin (v := .bool false) (xv := .int .i64 l) (yv := .int .i64 3) rfl (by decide) (by decide) (by kernel_rfl) (fun g => by kernel_rfl) rfl (fun g => by kernel_rfl) rfl (fun g => by kernel_rfl) (fun g => by kernel_rfl) (fun w => by simp only [go_sem]; rw [show decide (l < 3) = false by simp; omega]; rfl))
  (goes_cons (gkP (fun _ => .bool false))
  (goes_cons (gkP (fun _ => .bool false))
  (goes_cons gkO
  (goes_cons gkO
  (goes_cons gkO
  (goes_cons gkO
  (goes_cons gkO
  (goes_cons (gkP (fun _ => .bool false))
  (goes_cons (gkP (fun _ => .bool false)) goes_nil)))))))))))))) ?_
 intro g W hW _
 go_wp2_with fail
 go_ret
 exact ⟨rfl, hB2.trans (hW.mono hB2.size)⟩
theorem told_any (l c : Int) (t : Bool) (o : Int) (hc : in10 c) (o0 : 0 ≤ o) (o1 : o < 8) (w : World) : Calls Tryz.prog 73 #[.int .i64 l, evO c t o] w fun e w' => e = .returned (.bool (toldB l c t o)) ∧ Below w.heap.size w w' := by
 unfold toldB
 by_cases h1 : l = 1
 ·subst h1; exact told_1 c t o hc o0 o1 w
 ·rw [if_neg h1]
  by_cases h2 : l = 2
  ·subst h2; exact told_2 c t o w
  ·rw [beq_false_of_ne h2]
   by_cases h0 : l = 0
   ·subst h0; exact told_0 c t o w
   ·by_cases hl : l < 0
    ·exact told_low c t o l hl w
    ·exact told_high c t o l (by omega) w
end Go.Proofs.YtceipblcdcgljaaGreatDoor
