/-
  Layer 9: the document's own answers: the pad, and Look. What All answers. Layer 10, the landed mods: Old and Shown. Layer 2: what the callers of the iterator share.
-/
import Derived.Test.YtdfojkbgdoiglaaGreatDoorG02
import Derived.Test.YtdfojkbgdoiglaaGreatDoorG03
import Derived.Test.YtdfojkbgdoiglaaGreatDoorG08
import Derived.Test.YtdfojkbgdoiglaaGreatDoorG09
import Derived.Test.YtdfojkbgdoiglaaGreatDoorG11
import Derived.Test.YtdfojkbgdoiglaaGreatDoorG16
import Derived.Laws.BitsLemmas
namespace Go.Proofs.YtdfojkbgdoiglaaGreatDoor
open Go.RowKit
set_option maxRecDepth 100000 in
set_option maxHeartbeats 16000000 in
theorem rpad_0 (w : World) : Calls Tryz.prog 39 #[.int .i64 57399] w fun e w' => e = .returned (enV (padE 57399)) ∧ Below w.heap.size w w' := by
 go_enter Tryz.func39, Tryz.ntmps39
 go_wp2_with fail
 refine bodyPost_ret (v := enV (padE 57399)) (by simp [results, Tryz.results39, go_sem, enV, padE] <;> (constructor <;> decide +kernel)) rfl ⟨rfl, below_two _ _⟩
set_option maxRecDepth 100000 in
set_option maxHeartbeats 16000000 in
theorem rpad_1 (w : World) : Calls Tryz.prog 39 #[.int .i64 57400] w fun e w' => e = .returned (enV (padE 57400)) ∧ Below w.heap.size w w' := by
 go_enter Tryz.func39, Tryz.ntmps39
 go_wp2_with fail
 refine bodyPost_ret (v := enV (padE 57400)) (by simp [results, Tryz.results39, go_sem, enV, padE] <;> (constructor <;> decide +kernel)) rfl ⟨rfl, below_two _ _⟩
set_option maxRecDepth 100000 in
set_option maxHeartbeats 16000000 in
theorem rpad_2 (w : World) : Calls Tryz.prog 39 #[.int .i64 57401] w fun e w' => e = .returned (enV (padE 57401)) ∧ Below w.heap.size w w' := by
 go_enter Tryz.func39, Tryz.ntmps39
 go_wp2_with fail
 refine bodyPost_ret (v := enV (padE 57401)) (by simp [results, Tryz.results39, go_sem, enV, padE] <;> (constructor <;> decide +kernel)) rfl ⟨rfl, below_two _ _⟩
set_option maxRecDepth 100000 in
set_option maxHeartbeats 16000000 in
theorem rpad_3 (w : World) : Calls Tryz.prog 39 #[.int .i64 57402] w fun e w' => e = .returned (enV (padE 57402)) ∧ Below w.heap.size w w' := by
 go_enter Tryz.func39, Tryz.ntmps39
 go_wp2_with fail
 refine bodyPost_ret (v := enV (padE 57402)) (by simp [results, Tryz.results39, go_sem, enV, padE] <;> (constructor <;> decide +kernel)) rfl ⟨rfl, below_two _ _⟩
set_option maxRecDepth 100000 in
set_option maxHeartbeats 16000000 in
theorem rpad_4 (w : World) : Calls Tryz.prog 39 #[.int .i64 57403] w fun e w' => e = .returned (enV (padE 57403)) ∧ Below w.heap.size w w' := by
 go_enter Tryz.func39, Tryz.ntmps39
 go_wp2_with fail
 refine bodyPost_ret (v := enV (padE 57403)) (by simp [results, Tryz.results39, go_sem, enV, padE] <;> (constructor <;> decide +kernel)) rfl ⟨rfl, below_two _ _⟩
set_option maxRecDepth 100000 in
set_option maxHeartbeats 16000000 in
theorem rpad_5 (w : World) : Calls Tryz.prog 39 #[.int .i64 57404] w fun e w' => e = .returned (enV (padE 57404)) ∧ Below w.heap.size w w' := by
 go_enter Tryz.func39, Tryz.ntmps39
 go_wp2_with fail
 refine bodyPost_ret (v := enV (padE 57404)) (by simp [results, Tryz.results39, go_sem, enV, padE] <;> (constructor <;> decide +kernel)) rfl ⟨rfl, below_two _ _⟩
set_option maxRecDepth 100000 in
set_option maxHeartbeats 16000000 in
theorem rpad_6 (w : World) : Calls Tryz.prog 39 #[.int .i64 57405] w fun e w' => e = .returned (enV (padE 57405)) ∧ Below w.heap.size w w' := by
 go_enter Tryz.func39, Tryz.ntmps39
 go_wp2_with fail
 refine bodyPost_ret (v := enV (padE 57405)) (by simp [results, Tryz.results39, go_sem, enV, padE] <;> (constructor <;> decide +kernel)) rfl ⟨rfl, below_two _ _⟩
set_option maxRecDepth 100000 in
set_option maxHeartbeats 16000000 in
theorem rpad_7 (w : World) : Calls Tryz.prog 39 #[.int .i64 57406] w fun e w' => e = .returned (enV (padE 57406)) ∧ Below w.heap.size w w' := by
 go_enter Tryz.func39, Tryz.ntmps39
 go_wp2_with fail
 refine bodyPost_ret (v := enV (padE 57406)) (by simp [results, Tryz.results39, go_sem, enV, padE] <;> (constructor <;> decide +kernel)) rfl ⟨rfl, below_two _ _⟩
set_option maxRecDepth 100000 in
set_option maxHeartbeats 16000000 in
theorem rpad_8 (w : World) : Calls Tryz.prog 39 #[.int .i64 57407] w fun e w' => e = .returned (enV (padE 57407)) ∧ Below w.heap.size w w' := by
 go_enter Tryz.func39, Tryz.ntmps39
 go_wp2_with fail
 refine bodyPost_ret (v := enV (padE 57407)) (by simp [results, Tryz.results39, go_sem, enV, padE] <;> (constructor <;> decide +kernel)) rfl ⟨rfl, below_two _ _⟩
set_option maxRecDepth 100000 in
set_option maxHeartbeats 16000000 in
theorem rpad_9 (w : World) : Calls Tryz.prog 39 #[.int .i64 57408] w fun e w' => e = .returned (enV (padE 57408)) ∧ Below w.heap.size w w' := by
 go_enter Tryz.func39, Tryz.ntmps39
 go_wp2_with fail
 refine bodyPost_ret (v := enV (padE 57408)) (by simp [results, Tryz.results39, go_sem, enV, padE] <;> (constructor <;> decide +kernel)) rfl ⟨rfl, below_two _ _⟩
set_option maxRecDepth 100000 in
set_option maxHeartbeats 16000000 in
theorem rpad_10 (w : World) : Calls Tryz.prog 39 #[.int .i64 57409] w fun e w' => e = .returned (enV (padE 57409)) ∧ Below w.heap.size w w' := by
 go_enter Tryz.func39, Tryz.ntmps39
 go_wp2_with fail
 refine bodyPost_ret (v := enV (padE 57409)) (by simp [results, Tryz.results39, go_sem, enV, padE] <;> (constructor <;> decide +kernel)) rfl ⟨rfl, below_two _ _⟩
set_option maxRecDepth 100000 in
set_option maxHeartbeats 16000000 in
theorem rpad_11 (w : World) : Calls Tryz.prog 39 #[.int .i64 57410] w fun e w' => e = .returned (enV (padE 57410)) ∧ Below w.heap.size w w' := by
 go_enter Tryz.func39, Tryz.ntmps39
 go_wp2_with fail
 refine bodyPost_ret (v := enV (padE 57410)) (by simp [results, Tryz.results39, go_sem, enV, padE] <;> (constructor <;> decide +kernel)) rfl ⟨rfl, below_two _ _⟩
set_option maxRecDepth 100000 in
set_option maxHeartbeats 16000000 in
theorem rpad_12 (w : World) : Calls Tryz.prog 39 #[.int .i64 57411] w fun e w' => e = .returned (enV (padE 57411)) ∧ Below w.heap.size w w' := by
 go_enter Tryz.func39, Tryz.ntmps39
 go_wp2_with fail
 refine bodyPost_ret (v := enV (padE 57411)) (by simp [results, Tryz.results39, go_sem, enV, padE] <;> (constructor <;> decide +kernel)) rfl ⟨rfl, below_two _ _⟩
set_option maxRecDepth 100000 in
set_option maxHeartbeats 16000000 in
theorem rpad_13 (w : World) : Calls Tryz.prog 39 #[.int .i64 57412] w fun e w' => e = .returned (enV (padE 57412)) ∧ Below w.heap.size w w' := by
 go_enter Tryz.func39, Tryz.ntmps39
 go_wp2_with fail
 refine bodyPost_ret (v := enV (padE 57412)) (by simp [results, Tryz.results39, go_sem, enV, padE] <;> (constructor <;> decide +kernel)) rfl ⟨rfl, below_two _ _⟩
set_option maxRecDepth 100000 in
set_option maxHeartbeats 16000000 in
theorem rpad_14 (w : World) : Calls Tryz.prog 39 #[.int .i64 57413] w fun e w' => e = .returned (enV (padE 57413)) ∧ Below w.heap.size w w' := by
 go_enter Tryz.func39, Tryz.ntmps39
 go_wp2_with fail
 refine bodyPost_ret (v := enV (padE 57413)) (by simp [results, Tryz.results39, go_sem, enV, padE] <;> (constructor <;> decide +kernel)) rfl ⟨rfl, below_two _ _⟩
set_option maxRecDepth 100000 in
set_option maxHeartbeats 16000000 in
theorem rpad_15 (w : World) : Calls Tryz.prog 39 #[.int .i64 57414] w fun e w' => e = .returned (enV (padE 57414)) ∧ Below w.heap.size w w' := by
 go_enter Tryz.func39, Tryz.ntmps39
 go_wp2_with fail
 refine bodyPost_ret (v := enV (padE 57414)) (by simp [results, Tryz.results39, go_sem, enV, padE] <;> (constructor <;> decide +kernel)) rfl ⟨rfl, below_two _ _⟩
set_option maxRecDepth 100000 in
set_option maxHeartbeats 16000000 in
theorem rpad_16 (w : World) : Calls Tryz.prog 39 #[.int .i64 57415] w fun e w' => e = .returned (enV (padE 57415)) ∧ Below w.heap.size w w' := by
 go_enter Tryz.func39, Tryz.ntmps39
 go_wp2_with fail
 refine bodyPost_ret (v := enV (padE 57415)) (by simp [results, Tryz.results39, go_sem, enV, padE] <;> (constructor <;> decide +kernel)) rfl ⟨rfl, below_two _ _⟩
set_option maxRecDepth 100000 in
set_option maxHeartbeats 16000000 in
theorem rpad_17 (w : World) : Calls Tryz.prog 39 #[.int .i64 57416] w fun e w' => e = .returned (enV (padE 57416)) ∧ Below w.heap.size w w' := by
 go_enter Tryz.func39, Tryz.ntmps39
 go_wp2_with fail
 refine bodyPost_ret (v := enV (padE 57416)) (by simp [results, Tryz.results39, go_sem, enV, padE] <;> (constructor <;> decide +kernel)) rfl ⟨rfl, below_two _ _⟩
theorem rpad_any (c : Int) (h1 : 57399 ≤ c) (h2 : c ≤ 57416) (w : World) : Calls Tryz.prog 39 #[.int .i64 c] w fun e w' => e = .returned (enV (padE c)) ∧ Below w.heap.size w w' := by
 have hc : c = 57399 ∨ c = 57400 ∨ c = 57401 ∨ c = 57402 ∨ c = 57403 ∨ c = 57404 ∨ c = 57405 ∨ c = 57406 ∨ c = 57407 ∨ c = 57408 ∨ c = 57409 ∨ c = 57410 ∨ c = 57411 ∨ c = 57412 ∨ c = 57413 ∨ c = 57414 ∨ c = 57415 ∨ c = 57416 := by omega
 rcases hc with rfl | rfl | rfl | rfl | rfl | rfl | rfl | rfl | rfl | rfl | rfl | rfl | rfl | rfl | rfl | rfl | rfl | rfl
 ·exact rpad_0 w
 ·exact rpad_1 w
 ·exact rpad_2 w
 ·exact rpad_3 w
 ·exact rpad_4 w
 ·exact rpad_5 w
 ·exact rpad_6 w
 ·exact rpad_7 w
 ·exact rpad_8 w
 ·exact rpad_9 w
 ·exact rpad_10 w
 ·exact rpad_11 w
 ·exact rpad_12 w
 ·exact rpad_13 w
 ·exact rpad_14 w
 ·exact rpad_15 w
 ·exact rpad_16 w
 ·exact rpad_17 w
end Go.Proofs.YtdfojkbgdoiglaaGreatDoor
namespace Go.Proofs.YtdfojkbgdoiglaaGreatDoor
open Go.RowKit
theorem Tryz.intinfo : (Tryz.prog.info? 3).map (fun i => (i.zero, i.size, i.bytes)) = some (some (.int .i64 0), 1, 8) := by kernel_rfl
def Al (o : Option (List Int)) (w : World) (e : Ending) (w' : World) : Prop :=
 match o with
 | some k => ∃ A c, e = .returned (.tuple #[.slice A k.length c, .bool true]) ∧ Rd w' A (is_ k) ∧ Below w.heap.size w w'
 | none => e = .returned (.tuple #[.slice none 0 0, .bool false]) ∧ Below w.heap.size w w'
theorem Al.yes {o : Option (List Int)} {k : List Int} {n : Nat} (h : o = some k) (hn : k.length = n) {w w' : World} {A : Option Addr} {c : Nat} (hr : Rd w' A (is_ k)) (hb : Below w.heap.size w w') : Al o w (.returned (.tuple #[.slice A n c, .bool true])) w' := by
 subst h hn
 exact ⟨A, c, rfl, hr, hb⟩
theorem Al.no {o : Option (List Int)} (h : o = none) {w w' : World} (hb : Below w.heap.size w w') : Al o w (.returned (.tuple #[.slice none 0 0, .bool false])) w' := by
 subst h
 exact ⟨rfl, hb⟩
def AlO (o : Option (List Int)) (w : World) (e : Ending) (w' : World) : Prop :=
 match o with
 | some k => ∃ v, e = .returned (.tuple #[v, .bool true]) ∧ Own w' w.heap.size 3 1 v k.length (is_ k) ∧ Below w.heap.size w w'
 | none => e = .returned (.tuple #[.slice none 0 0, .bool false]) ∧ Below w.heap.size w w'
theorem AlO.yes {o : Option (List Int)} {k : List Int} (h : o = some k) {w w' : World} {v : Value} (hr : Own w' w.heap.size 3 1 v k.length (is_ k)) (hb : Below w.heap.size w w') : AlO o w (.returned (.tuple #[v, .bool true])) w' := by
 subst h
 exact ⟨v, rfl, hr, hb⟩
theorem AlO.no {o : Option (List Int)} (h : o = none) {w w' : World} (hb : Below w.heap.size w w') : AlO o w (.returned (.tuple #[.slice none 0 0, .bool false])) w' := by
 subst h
 exact ⟨rfl, hb⟩
theorem AlO.al {o : Option (List Int)} {w w' : World} {e : Ending} (h : AlO o w e w') : Al o w e w' := by
 cases o with
 | none => exact h
 | some k =>
   obtain ⟨v, rfl, ho, hb⟩ := h
   obtain ⟨A, c, rfl, hr⟩ := ho.form
   exact ⟨A, c, rfl, hr, hb⟩
end Go.Proofs.YtdfojkbgdoiglaaGreatDoor
namespace Go.Proofs.YtdfojkbgdoiglaaGreatDoor
open Go.RowKit
theorem mask7 {x : Int} (h0 : 0 ≤ x) (h1 : x ≤ 9223372036854775807) : bits .and .i64 x 7 = x % 8 :=
 bits_mask .i64 63 (by decide) (fun n a b => by rw [IntKind.wrap_i64]; omega) 3 (by decide) x h0 (by omega)
theorem mask1 {x : Int} (h0 : 0 ≤ x) (h1 : x ≤ 9223372036854775807) : bits .and .i64 x 1 = x % 2 :=
 bits_mask .i64 63 (by decide) (fun n a b => by rw [IntKind.wrap_i64]; omega) 1 (by decide) x h0 (by omega)
set_option maxRecDepth 100000 in
theorem pold_any (n : Int) (w : World) (hn : in10 n) : Calls Tryz.prog 74 #[.int .i64 n] w fun e w' => e = .returned (.int .i64 (oldN n)) ∧ Below w.heap.size w w' := by
 obtain ⟨N, hN⟩ : ∃ N, max n 0 = N := ⟨_, rfl⟩
 have hmax := max0 n N hN (P := Tryz.prog)
 obtain ⟨F, hF⟩ : ∃ F, oldN n = F := ⟨_, rfl⟩
 have hm : bits .and .i64 N 7 = F := by
  have h2 := hn.2
  rw [mask7 (by omega) (by omega), ← hF, ← hN]
  rfl
 rw [hF]
 clear hF hN hn
 go_enter Tryz.func74, Tryz.ntmps74
 go_wp2
 go_ret
 exact ⟨rfl, by first | exact Below.refl _ _ | exact below_drewN (Below.refl _ _) _⟩
set_option maxRecDepth 100000 in
set_option maxHeartbeats 4000000 in
theorem pshown_any (k : Ky) (hk : okK k) (w : World) : Calls Tryz.prog 48 #[kyV k] w fun e w' => e = .returned (.int .i64 (shownK k)) ∧ Below w.heap.size w w' := by
 have hB := ky_box w k
 have hold := pold_any k.mods (w.alloc (.cells (kyC k) 23)) hk.mods
 have k0 := Blk.new w 23 (kyC k)
 have hsh : shownK k = if hasN k.mods 1 = false then k.code else if k.shift ≠ 0 then k.shift else if 97 ≤ k.code ∧ k.code ≤ 122 then k.code - 32 else k.code := rfl
 obtain ⟨F, hF⟩ : ∃ F, oldN k.mods = F := ⟨_, rfl⟩
 have hr : 0 ≤ F ∧ F < 8 := by rw [← hF]; unfold oldN; omega
 obtain ⟨N, hN⟩ : ∃ N, bits .and .i64 F 1 = N := ⟨_, rfl⟩
 have hN2 : N = F % 2 := by rw [← hN]; exact mask1 hr.1 (by omega)
 obtain ⟨p, hp⟩ : ∃ p, hasN k.mods 1 = p := ⟨_, rfl⟩
 have hz : (N == 0) = !p := by
  rw [← hp]
  unfold hasN
  rw [Int.ediv_one, hN2, ← hF]
  unfold oldN
  have e : max k.mods 0 % 8 % 2 = max k.mods 0 % 2 := by omega
  rw [e]
  rcases Int.emod_two_eq (max k.mods 0) with h | h <;> rw [h] <;> rfl
 have hc := hk.code
 rw [hF] at hold
 rw [hp] at hsh
 clear hk hp hF hr hN2
 rw [kyV]
 rw [kyC] at hB hold k0
 obtain ⟨code, mods, typ, shift, base, text⟩ := k
 simp only at hB hold k0 hsh hc ⊢
 go_enter Tryz.func48, Tryz.ntmps48
 have a0 := k0.cell 0
 have a1 := k0.cell 1
 have a3 := k0.cell 3
 have HSH := Lib.hid hsh
 clear hsh
 go_wp2_with fail
 refine hold.mono ?_
 clear hold
 rintro e w1 ⟨rfl, hb1⟩
 have k1 := k0.below hb1 k0.lt
 have hB1 := hB.trans (hb1.mono hB.size)
 clear k0 hB hb1 a0 a1 a3
 have a0 := k1.cell 0
 have a3 := k1.cell 3
 cases p with
 | false =>
   have hz2 : (N == 0) = true := hz
   clear hz
   go_wp2_with fail
   go_ret
   exact ⟨ret_i (by rw [HSH.out]; rfl), hB1⟩
 | true =>
   have hz2 : (N == 0) = false := hz
   clear hz
   by_cases h3 : shift = 0
   ·subst h3
    by_cases h4 : 97 ≤ code
    ·by_cases h5 : code ≤ 122
     ·have e1 : IntKind.i64.wrap (code - 97) = code - 97 := by rw [IntKind.wrap_i64]; omega
      have e2 : IntKind.i64.wrap (code - 97 + 65) = code - 32 := by rw [IntKind.wrap_i64]; omega
      go_wp2_with fail
      go_ret
      exact ⟨ret_i (by rw [HSH.out, if_neg (by decide), if_neg (fun h => h rfl), if_pos ⟨h4, h5⟩]), hB1⟩
     ·have h6 : 122 < code := by omega
      go_wp2_with fail
      go_ret
      exact ⟨ret_i (by rw [HSH.out, if_neg (by decide), if_neg (fun h => h rfl), if_neg (by omega)]), hB1⟩
    ·have h6 : code < 97 := by omega
     go_wp2_with fail
     go_ret
     exact ⟨ret_i (by rw [HSH.out, if_neg (by decide), if_neg (fun h => h rfl), if_neg (by omega)]), hB1⟩
   ·have h5 : (shift == 0) = false := beq_false_of_ne h3
    have h6 : (shift != 0) = true := by simp [bne, h5]
    have H3 := Lib.hid h3
    clear h3
    go_wp2_with fail
    go_ret
    exact ⟨ret_i (by rw [HSH.out, if_neg (by decide), if_pos H3.out]), hB1⟩
end Go.Proofs.YtdfojkbgdoiglaaGreatDoor
namespace Go.Proofs.YtdfojkbgdoiglaaGreatDoor
open Go.RowKit Go.Shelf
attribute [local go_sem] Oper.semAt_some
theorem kp2_t {n₁ B : Nat} {X Y Z : World} (h : Kp2 n₁ B X Y) (k : Kp2 n₁ B Y Z) : Kp2 n₁ B X Z := ⟨h.1.trans k.1, k.2.trans h.2⟩
theorem kp2_b {n₁ B : Nat} {w : World} (hn : n₁ ≤ w.heap.size) (hB : B < w.heap.size) (W : World) (l : Nat) (o o' : Obj) (hl : w.heap.size ≤ l) (h : W.heap[l]? = some o) (hc : o.isCells = false) (hw : o.isWalk = false) : Kp2 n₁ B W (W.putObj l o') :=
 ⟨belowK_b hn W l o o' hl h hc hw, World.putObj_heap_other (by omega)⟩
theorem pts_stops (n : Nat) (hn : 1 ≤ n) (Bs n₁ c : Nat) (A : Option Addr) (t : List UInt8) (ht : t.length ≤ 4294967296) (htc : t.length ≤ c) (hg0 : 1 < n₁) (w : World) (hn₁ : n₁ ≤ w.heap.size)
 (hbox : Blk w Bs 27 #[.slice A t.length c]) (hs : Siz w) (hr : RdIn n₁ w A (bs t)) :
 SeqStopsK Fence.wide n Tryz.prog 99 #[.pointer (some ⟨Bs, 0, none⟩)] (fun x : Int × Bool => #[.int .i64 x.1, .bool x.2]) (Kp2 n₁ Bs) (fun ys => ys = ptsL t) (fun pre => pre <+: ptsL t) (ptsL t).length w := fun l J Jx W hW hJ _ hY h0 =>
 pts1_in n hn l Bs n₁ W.heap.size c A t ht htc hg0 J Jx hJ hY W (hbox.below hW hbox.lt) (hs.below' hW) (hr.below (hW.mono hn₁)) (Nat.le_trans hn₁ hW.size) h0
theorem all_false {p q : List (Int × Bool)} (h : p <+: q) {y : Int × Bool} (hy : y ∈ p) (h2 : y.2 = false) : q.all (·.2) = false := by
 rw [List.all_eq_false]
 exact ⟨y, h.subset hy, by simp [h2]⟩
theorem allL_none {t : List UInt8} (h : (ptsL t).all (·.2) = false) : allL t = none := by unfold allL allOf; rw [h]; rfl
theorem allL_some {t : List UInt8} (h : ∀ y ∈ ptsL t, y.2 = true) : allL t = some ((ptsL t).map (·.1)) := by
 unfold allL allOf
 rw [if_pos (List.all_eq_true.2 h)]
end Go.Proofs.YtdfojkbgdoiglaaGreatDoor
