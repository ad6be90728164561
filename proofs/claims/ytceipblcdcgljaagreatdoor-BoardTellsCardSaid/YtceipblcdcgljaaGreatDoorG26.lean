/-
  Stage 13, the landed kitty: the sequence of its parameters, but those at the end that tell nothing.
-/
import Derived.Test.YtceipblcdcgljaaGreatDoorG10
import Derived.Test.YtceipblcdcgljaaGreatDoorG11
import Derived.Test.YtceipblcdcgljaaGreatDoorG15
import Derived.Test.YtceipblcdcgljaaGreatDoorG24
namespace Go.Proofs.YtceipblcdcgljaaGreatDoor
open Go.RowKit
def sq13 (R : List (List Int)) (ff : Int) : Sq := ⟨1, 0, R, [], byt ff, []⟩
theorem sq13_v {R : List (List Int)} {n : Nat} (hn : R.length = n) {ff : Int} (f0 : 0 ≤ ff) (f1 : ff < 256) (A : Option Addr) (c : Nat) : sqV (sq13 R ff) A c = .agg #[.int .i64 1, .int .u8 0, .slice A n c, .string ⟨#[]⟩, .int .u8 ff, .string ⟨#[]⟩] := by
 have h : (sq13 R ff).params.length = n := hn
 unfold sqV
 rw [h]
 show Value.agg #[.int .i64 1, .int .u8 0, .slice A n c, .string ⟨#[]⟩, .int .u8 ((byt ff).toNat : Int), .string ⟨#[]⟩] = _
 rw [byt_nat ff f0 f1]
theorem rdp_kip {w : World} {b na nb np c1 c2 c3 : Nat} {A1 A2 A3 : Option Addr} {A B P : List Int} {t : TypeId} (hb : Blk w b t #[.slice A1 na c1, .slice A2 nb c2, .slice A3 np c3]) (ha : A.length = na) (hbn : B.length = nb) (hp : P.length = np) (r1 : Rd w A1 (is_ A)) (r2 : Rd w A2 (is_ B)) (r3 : Rd w A3 (is_ P)) : RdP w (some ⟨b, 0, none⟩) [A, B, P] := fun _ => by
 subst ha hbn hp
 refine ⟨b, 0, rfl, hb.lt, fun k hk => ?_⟩
 have h : k < 3 := hk
 match k, h with
 | 0, _ => exact ⟨A1, c1, hb.cell 0, r1⟩
 | 1, _ => exact ⟨A2, c2, hb.cell 1, r2⟩
 | 2, _ => exact ⟨A3, c3, hb.cell 2, r3⟩
theorem RdP.take {w : World} {A : Option Addr} {ps : List (List Int)} (h : RdP w A ps) (n : Nat) : RdP w A (ps.take n) := fun hp => by
 obtain ⟨b, o, rfl, hlt, hc⟩ := h (by rw [List.length_take] at hp; omega)
 refine ⟨b, o, rfl, hlt, fun k hk => ?_⟩
 have hk2 : k < ps.length := by rw [List.length_take] at hk; omega
 obtain ⟨A', c', h1, h2⟩ := hc k hk2
 rw [List.getElem_take]
 exact ⟨A', c', h1, h2⟩
theorem OutC.of {L : List UInt8} {n : Nat} (hn : L.length = n) {w w' : World} {A : Option Addr} {c : Nat} (hc : n ≤ c) (hr : Rd w' A (bs L)) (hb : Below w.heap.size w w') : OutC L w (.returned (.slice A n c)) w' := by
 subst hn
 exact ⟨A, c, rfl, hc, hr, hb⟩
set_option maxRecDepth 100000 in
set_option maxHeartbeats 8000000 in
theorem kput_any (ff : Int) (f0 : 0 ≤ ff) (f1 : ff < 256) (A B P : List Int) (na nb np : Nat) (hna : A.length = na) (hnb : B.length = nb) (hnp : P.length = np) (la : na ≤ 4294967296) (lb : nb ≤ 4294967296) (lp : np ≤ 4294967296) (R : List (List Int)) (hR : trimK A B P = R) (L : List UInt8) (hL : putS (sq13 R ff) = L) (n : Nat) (hn : L.length = n) (hm : mayS (sq13 R ff) = 0) (xb : Nat) (A1 A2 A3 : Option Addr) (c1 c2 c3 : Nat) (w : World) (ht : Tab w) (hx : Blk w xb 57 #[.slice A1 na c1, .slice A2 nb c2, .slice A3 np c3]) (r1 : Rd w A1 (is_ A)) (r2 : Rd w A2 (is_ B)) (r3 : Rd w A3 (is_ P)) : Calls Tryz.prog 107 #[.int .u8 ff, .slice (some ⟨xb, 0, none⟩) 3 3] w (OutC L w) := by
 have HP : Hid (∀ k W, Below w.heap.size w W → R = [A, B, P].take k → R.length = k → Calls Tryz.prog 74 #[.agg #[.int .i64 1, .int .u8 0, .slice (some ⟨xb, 0, none⟩) k 3, .string ⟨#[]⟩, .int .u8 ff, .string ⟨#[]⟩]] W fun e w' => (∃ A c, e = .returned (.tuple #[.slice A n c, .int .i64 0]) ∧ n ≤ c ∧ Rd w' A (bs L)) ∧ Below W.heap.size W w') := Lib.hid fun k W hW hk hl => by
  have h := pput_yes (sq13 R ff) (some ⟨xb, 0, none⟩) 3 W hm (ht.below hW) (by
   show RdP W _ R
   rw [hk]
   exact ((rdp_kip hx hna hnb hnp r1 r2 r3).below hW).take k)
  rw [sq13_v hl f0 f1, hL] at h
  subst hn
  exact h
 have HN := Lib.hid hn
 have HE3 := Lib.hid (show P ≠ [] → R = [A, B, P].take 3 ∧ R.length = 3 from fun h => by rw [← hR]; unfold trimK; rw [if_pos h]; exact ⟨rfl, rfl⟩)
 have HE2 := Lib.hid (show P = [] → B ≠ [-1] → R = [A, B, P].take 2 ∧ R.length = 2 from fun h h2 => by rw [← hR]; unfold trimK; rw [if_neg (fun e => e h), if_pos h2]; exact ⟨rfl, rfl⟩)
 have HE1 := Lib.hid (show P = [] → B = [-1] → A ≠ [1] → R = [A, B, P].take 1 ∧ R.length = 1 from fun h h2 h3 => by rw [← hR]; unfold trimK; rw [if_neg (fun e => e h), if_neg (fun e => e h2), if_pos h3]; exact ⟨rfl, rfl⟩)
 have HE0 := Lib.hid (show P = [] → B = [-1] → A = [1] → R = [A, B, P].take 0 ∧ R.length = 0 from fun h h2 h3 => by rw [← hR]; unfold trimK; rw [if_neg (fun e => e h), if_neg (fun e => e h2), if_neg (fun e => e h3)]; exact ⟨rfl, rfl⟩)
 clear hR hL hn hm ht f0 f1
 go_enter Tryz.func107, Tryz.ntmps107
 go_wp2_with fail
 go_loopw [1, 6] (fun v i wr => ∃ k : Nat, k ≤ 3 ∧ i = .int .i64 k ∧ v = .slice (some ⟨xb, 0, none⟩) k 3 ∧ Below w.heap.size w wr ∧ Blk wr (w.heap.size + 3) 141 #[.slice (some ⟨w.heap.size, 0, none⟩) 1 1, .slice (some ⟨w.heap.size + 1, 0, none⟩) 1 1, .slice (some ⟨w.heap.size + 2, 0, none⟩) 0 0] ∧ Rd wr (some ⟨w.heap.size, 0, none⟩) (is_ [1]) ∧ Rd wr (some ⟨w.heap.size + 1, 0, none⟩) (is_ [-1]) ∧ Hid ((k ≤ 2 → P = []) ∧ (k ≤ 1 → B = [-1]) ∧ (k ≤ 0 → A = [1]))) (fun _ i _ => (intOf i).toNat)
 case atStart =>
  have s1 : (w.alloc (.cells #[.int .i64 1] 3)).heap.size = w.heap.size + 1 := World.size_alloc ..
  have b1 := (Below.refl w.heap.size w).alloc (Nat.le_refl _) (.cells #[.int .i64 1] 3)
  have b2 := b1.alloc b1.size (.cells #[.int .i64 (-1)] 3)
  have b3 := b2.alloc b2.size (.cells #[] 3)
  have b4 := b3.alloc b3.size (.cells #[.slice (some ⟨w.heap.size, 0, none⟩) 1 1, .slice (some ⟨w.heap.size + 1, 0, none⟩) 1 1, .slice (some ⟨w.heap.size + 2, 0, none⟩) 0 0] 141)
  have e1 := ((Blk.new w 3 #[.int .i64 1]).alloc (.cells #[.int .i64 (-1)] 3)).alloc (.cells #[] 3) |>.alloc (.cells #[.slice (some ⟨w.heap.size, 0, none⟩) 1 1, .slice (some ⟨w.heap.size + 1, 0, none⟩) 1 1, .slice (some ⟨w.heap.size + 2, 0, none⟩) 0 0] 141)
  have e2 := ((Blk.new (w.alloc (.cells #[.int .i64 1] 3)) 3 #[.int .i64 (-1)]).alloc (.cells #[] 3)).alloc (.cells #[.slice (some ⟨w.heap.size, 0, none⟩) 1 1, .slice (some ⟨w.heap.size + 1, 0, none⟩) 1 1, .slice (some ⟨w.heap.size + 2, 0, none⟩) 0 0] 141)
  have e4 := Blk.new (((w.alloc (.cells #[.int .i64 1] 3)).alloc (.cells #[.int .i64 (-1)] 3)).alloc (.cells #[] 3)) 141 #[.slice (some ⟨w.heap.size, 0, none⟩) 1 1, .slice (some ⟨w.heap.size + 1, 0, none⟩) 1 1, .slice (some ⟨w.heap.size + 2, 0, none⟩) 0 0]
  rw [World.size_alloc, World.size_alloc, World.size_alloc] at e4
  rw [World.size_alloc] at e2
  exact ⟨3, Nat.le_refl _, rfl, rfl, b4, e4, Rd.block (xs := [.int .i64 1]) e1 rfl, Rd.block (xs := [.int .i64 (-1)]) e2 rfl, Lib.hid ⟨fun h => by omega, fun h => by omega, fun h => by omega⟩⟩
 case round =>
  obtain ⟨k, hk, rfl, rfl, hbw, hu, q1, q2, hinv⟩ := hrel
  have xr := hx.below hbw hx.lt
  have d1 := r1.below hbw
  have d2 := r2.below hbw
  have d3 := r3.below hbw
  clear r1 r2 r3 hx
  have lx : ∀ W, Below wr.heap.size wr W → Blk W xb 57 #[.slice A1 na c1, .slice A2 nb c2, .slice A3 np c3] := fun W hW => xr.below hW xr.lt
  have lu : ∀ W, Below wr.heap.size wr W → Blk W (w.heap.size + 3) 141 #[.slice (some ⟨w.heap.size, 0, none⟩) 1 1, .slice (some ⟨w.heap.size + 1, 0, none⟩) 1 1, .slice (some ⟨w.heap.size + 2, 0, none⟩) 0 0] := fun W hW => hu.below hW hu.lt
  have hst : ∀ f ∈ ([] : List Fact), f.ok := fun _ h => by cases h
  have hk4 : k = 0 ∨ k = 1 ∨ k = 2 ∨ k = 3 := by omega
  clear hk
  rcases hk4 with rfl | rfl | rfl | rfl
  ·have HE := Lib.hid (HE0.out (hinv.out.1 (by omega)) (hinv.out.2.1 (by omega)) (hinv.out.2.2 (by omega)))
   clear HE1 HE2 HE3 HE0
   go_wp2_with fail
   refine wp_region_told (w1 := wr) (K := []) (ix := 1000) (R0 := fun _ _ _ => True) (R1 := fun _ _ _ => True) [] (⟨#[.int .u8 ff, .slice (some ⟨xb, 0, none⟩) 0 3, undef, undef, .slice none 0 0, .pointer (some ⟨w.heap.size + 3, 0, none⟩), .int .i64 0, undef, undef, .slice (some ⟨w.heap.size, 0, none⟩) 1 1, .slice (some ⟨w.heap.size + 1, 0, none⟩) 1 1, .slice (some ⟨w.heap.size + 2, 0, none⟩) 0 0, .agg #[.slice (some ⟨w.heap.size, 0, none⟩) 1 1, .slice (some ⟨w.heap.size + 1, 0, none⟩) 1 1, .slice (some ⟨w.heap.size + 2, 0, none⟩) 0 0], .slice (some ⟨xb, 0, none⟩) 3 3, .int .i64 3, .int .i64 0, .bool false, .bool false, undef, undef, undef, undef, undef, undef, undef, undef, undef, undef, .bool false, u29, u30, u31, u32, u33, u34, undef, undef, undef, undef, undef, undef, undef, undef], []⟩) (fun g => ⟨#[.int .u8 ff, .slice (some ⟨xb, 0, none⟩) 0 3, undef, undef, .slice none 0 0, .pointer (some ⟨w.heap.size + 3, 0, none⟩), .int .i64 0, undef, undef, .slice (some ⟨w.heap.size, 0, none⟩) 1 1, .slice (some ⟨w.heap.size + 1, 0, none⟩) 1 1, .slice (some ⟨w.heap.size + 2, 0, none⟩) 0 0, .agg #[.slice (some ⟨w.heap.size, 0, none⟩) 1 1, .slice (some ⟨w.heap.size + 1, 0, none⟩) 1 1, .slice (some ⟨w.heap.size + 2, 0, none⟩) 0 0], .slice (some ⟨xb, 0, none⟩) 3 3, .int .i64 3, .int .i64 0, .bool false, .bool false, undef, undef, undef, undef, undef, undef, undef, undef, undef, undef, .bool false, u29, u30, u31, u32, u33, u34, undef, undef, undef, undef, undef, undef, undef, undef], []⟩) [.int .i64 0, .bool false, .bool false, undef, undef, undef, undef, undef, undef, undef, undef, undef, undef, .bool false] (by kernel_rfl) (by kernel_rfl) (by kernel_rfl) (fun g => by kernel_rfl) (by kernel_rfl) (Below.refl _ _).drew (by decide) (by kernel_rfl)
    (goes_cons (gkP (fun _ => .int .i64 0))
    (goes_cons (gkP (fun _ => .bool false))
    (goes_cons (gkP (fun _ => .bool false))
    (goes_cons gkO
    (goes_cons gkO
    (goes_cons gkO
    (goes_cons gkO
    (goes_cons gkO
    (goes_cons gkO
    (goes_cons gkO
    (goes_cons gkO
    (goes_cons gkO
    (goes_cons gkO
    (goes_cons (gkP (fun _ => .bool false)) goes_nil)))))))))))))) ?_
   intro g W hW _
   have hB7 := hbw.trans (hW.mono hbw.size)
   clear lx lu hst xr hu d1 d2 d3 q1 q2
   go_wp2_with fail
   refine (HP.out 0 _ hB7 HE.out.1 HE.out.2).mono ?_
   rintro e w8 ⟨⟨B8, d8, rfl, hd8, hr8⟩, hb8⟩
   have hB8 := hB7.trans (hb8.mono hB7.size)
   go_wp2_with fail
   go_ret
   exact OutC.of HN.out hd8 hr8 hB8
  ·by_cases he : A = [1]
   ·have hq : decide (A = [1]) = true := decide_eq_true he
    have HI := Lib.hid (show (0 ≤ 2 → P = []) ∧ (0 ≤ 1 → B = [-1]) ∧ (0 ≤ 0 → A = [1]) from ⟨fun _ => hinv.out.1 (by omega), fun _ => hinv.out.2.1 (by omega), fun _ => he⟩)
    clear HE0 HE1 HE2 HE3 HP HN
    go_wp2_with fail
    refine wp_region_told (w1 := wr) (K := []) (ix := 1000) (R0 := fun _ _ _ => True) (R1 := fun _ _ _ => True) [] (⟨#[.int .u8 ff, .slice (some ⟨xb, 0, none⟩) 1 3, undef, undef, .slice none 0 0, .pointer (some ⟨w.heap.size + 3, 0, none⟩), .int .i64 1, undef, undef, .slice (some ⟨w.heap.size, 0, none⟩) 1 1, .slice (some ⟨w.heap.size + 1, 0, none⟩) 1 1, .slice (some ⟨w.heap.size + 2, 0, none⟩) 0 0, .agg #[.slice (some ⟨w.heap.size, 0, none⟩) 1 1, .slice (some ⟨w.heap.size + 1, 0, none⟩) 1 1, .slice (some ⟨w.heap.size + 2, 0, none⟩) 0 0], .slice (some ⟨xb, 0, none⟩) 3 3, .int .i64 3, .int .i64 1, .bool true, .bool true, .slice (some ⟨xb, 0, none⟩) 1 3, .int .i64 1, .int .i64 0, .pointer (some ⟨xb, 0, none⟩), .slice A1 na c1, .int .i64 1, .int .i64 0, .pointer (some ⟨w.heap.size + 3, 0, none⟩), .slice (some ⟨w.heap.size, 0, none⟩) 1 1, .bool true, .bool true, u29, u30, u31, u32, u33, u34, undef, undef, undef, undef, undef, undef, undef, undef], []⟩) (fun g => ⟨#[.int .u8 ff, .slice (some ⟨xb, 0, none⟩) 1 3, undef, undef, .slice none 0 0, .pointer (some ⟨w.heap.size + 3, 0, none⟩), .int .i64 1, undef, undef, .slice (some ⟨w.heap.size, 0, none⟩) 1 1, .slice (some ⟨w.heap.size + 1, 0, none⟩) 1 1, .slice (some ⟨w.heap.size + 2, 0, none⟩) 0 0, .agg #[.slice (some ⟨w.heap.size, 0, none⟩) 1 1, .slice (some ⟨w.heap.size + 1, 0, none⟩) 1 1, .slice (some ⟨w.heap.size + 2, 0, none⟩) 0 0], .slice (some ⟨xb, 0, none⟩) 3 3, .int .i64 3, .int .i64 1, .bool true, .bool true, .slice (some ⟨xb, 0, none⟩) 1 3, .int .i64 1, .int .i64 0, .pointer (some ⟨xb, 0, none⟩), .slice A1 na c1, .int .i64 1, .int .i64 0, .pointer (some ⟨w.heap.size + 3, 0, none⟩), .slice (some ⟨w.heap.size, 0, none⟩) 1 1, .bool true, .bool true, u29, u30, u31, u32, u33, u34, undef, undef, undef, undef, undef, undef, undef, undef], []⟩) [.int .i64 1, .bool true, .bool true, .slice (some ⟨xb, 0, none⟩) 1 3, .int .i64 1, .int .i64 0, .pointer (some ⟨xb, 0, none⟩), .slice A1 na c1, .int .i64 1, .int .i64 0, .pointer (some ⟨w.heap.size + 3, 0, none⟩), .slice (some ⟨w.heap.size, 0, none⟩) 1 1, .bool true, .bool true] (by kernel_rfl) (by kernel_rfl) (by kernel_rfl) (fun g => by kernel_rfl) (by kernel_rfl) (Below.refl _ _).drew (by decide) (by kernel_rfl)
     (goes_cons (gkP (fun _ => .int .i64 1))
     (goes_cons (gkP (fun _ => .bool true))
     (goes_cons (gkP (fun _ => .bool true))
     (goes_cons (gkP (fun _ => .slice (some ⟨xb, 0, none⟩) 1 3))
     (goes_cons (gkP (fun _ => .int .i64 1))
     (goes_cons (gkP (fun _ => .int .i64 0))
     (goes_cons (gkP (fun _ => .pointer (some ⟨xb, 0, none⟩)))
     (goes_cons (gkC hst (fun W hW => (lx W hW).cell 0))
     (goes_cons (gkP (fun _ => .int .i64 1))
     (goes_cons (gkP (fun _ => .int .i64 0))
     (goes_cons (gkP (fun _ => .pointer (some ⟨w.heap.size + 3, 0, none⟩)))
     (goes_cons (gkC hst (fun W hW => (lu W hW).cell 0))
     (goes_cons (gkK (fun g => #[.slice A1 na c1, .slice (some ⟨w.heap.size, 0, none⟩) 1 1]) hst (fun g W hW hin => eq_at A1 (some ⟨w.heap.size, 0, none⟩) na 1 c1 1 A [1] true W hna rfl hq la (by decide) (d1.below hW) (q1.below hW)))
     (goes_cons (gkP (fun _ => .bool true)) goes_nil)))))))))))))) ?_
    intro g W hW _
    have hB7 := hbw.trans (hW.mono hbw.size)
    have hu7 := hu.below hW hu.lt
    have q17 := q1.below hW
    have q27 := q2.below hW
    clear lx lu hst xr hu d1 d2 d3 q1 q2 hq he hbw hinv
    go_wp2_with fail
    go_roundw
    case rel => exact ⟨_, _, _, _, _, _, _, _, _, _, _, _, _, _, _, _, _, _, _, _, _, _, ⟨0, by omega, rfl, rfl, hB7, hu7, q17, q27, HI⟩, rfl⟩
    case measure => simp [intOf]
   ·have hq : decide (A = [1]) = false := decide_eq_false he
    have HE := Lib.hid (HE1.out (hinv.out.1 (by omega)) (hinv.out.2.1 (by omega)) he)
    clear HE0 HE1 HE2 HE3
    go_wp2_with fail
    refine wp_region_told (w1 := wr) (K := []) (ix := 1000) (R0 := fun _ _ _ => True) (R1 := fun _ _ _ => True) [] (⟨#[.int .u8 ff, .slice (some ⟨xb, 0, none⟩) 1 3, undef, undef, .slice none 0 0, .pointer (some ⟨w.heap.size + 3, 0, none⟩), .int .i64 1, undef, undef, .slice (some ⟨w.heap.size, 0, none⟩) 1 1, .slice (some ⟨w.heap.size + 1, 0, none⟩) 1 1, .slice (some ⟨w.heap.size + 2, 0, none⟩) 0 0, .agg #[.slice (some ⟨w.heap.size, 0, none⟩) 1 1, .slice (some ⟨w.heap.size + 1, 0, none⟩) 1 1, .slice (some ⟨w.heap.size + 2, 0, none⟩) 0 0], .slice (some ⟨xb, 0, none⟩) 3 3, .int .i64 3, .int .i64 1, .bool true, .bool true, .slice (some ⟨xb, 0, none⟩) 1 3, .int .i64 1, .int .i64 0, .pointer (some ⟨xb, 0, none⟩), .slice A1 na c1, .int .i64 1, .int .i64 0, .pointer (some ⟨w.heap.size + 3, 0, none⟩), .slice (some ⟨w.heap.size, 0, none⟩) 1 1, .bool false, .bool false, u29, u30, u31, u32, u33, u34, undef, undef, undef, undef, undef, undef, undef, undef], []⟩) (fun g => ⟨#[.int .u8 ff, .slice (some ⟨xb, 0, none⟩) 1 3, undef, undef, .slice none 0 0, .pointer (some ⟨w.heap.size + 3, 0, none⟩), .int .i64 1, undef, undef, .slice (some ⟨w.heap.size, 0, none⟩) 1 1, .slice (some ⟨w.heap.size + 1, 0, none⟩) 1 1, .slice (some ⟨w.heap.size + 2, 0, none⟩) 0 0, .agg #[.slice (some ⟨w.heap.size, 0, none⟩) 1 1, .slice (some ⟨w.heap.size + 1, 0, none⟩) 1 1, .slice (some ⟨w.heap.size + 2, 0, none⟩) 0 0], .slice (some ⟨xb, 0, none⟩) 3 3, .int .i64 3, .int .i64 1, .bool true, .bool true, .slice (some ⟨xb, 0, none⟩) 1 3, .int .i64 1, .int .i64 0, .pointer (some ⟨xb, 0, none⟩), .slice A1 na c1, .int .i64 1, .int .i64 0, .pointer (some ⟨w.heap.size + 3, 0, none⟩), .slice (some ⟨w.heap.size, 0, none⟩) 1 1, .bool false, .bool false, u29, u30, u31, u32, u33, u34, undef, undef, undef, undef, undef, undef, undef, undef], []⟩) [.int .i64 1, .bool true, .bool true, .slice (some ⟨xb, 0, none⟩) 1 3, .int .i64 1, .int .i64 0, .pointer (some ⟨xb, 0, none⟩), .slice A1 na c1, .int .i64 1, .int .i64 0, .pointer (some ⟨w.heap.size + 3, 0, none⟩), .slice (some ⟨w.heap.size, 0, none⟩) 1 1, .bool false, .bool false] (by kernel_rfl) (by kernel_rfl) (by kernel_rfl) (fun g => by kernel_rfl) (by kernel_rfl) (Below.refl _ _).drew (by decide) (by kernel_rfl)
     (goes_cons (gkP (fun _ => .int .i64 1))
     (goes_cons (gkP (fun _ => .bool true))
     (goes_cons (gkP (fun _ => .bool true))
     (goes_cons (gkP (fun _ => .slice (some ⟨xb, 0, none⟩) 1 3))
     (goes_cons (gkP (fun _ => .int .i64 1))
     (goes_cons (gkP (fun _ => .int .i64 0))
     (goes_cons (gkP (fun _ => .pointer (some ⟨xb, 0, none⟩)))
     (goes_cons (gkC hst (fun W hW => (lx W hW).cell 0))
     (goes_cons (gkP (fun _ => .int .i64 1))
     (goes_cons (gkP (fun _ => .int .i64 0))
     (goes_cons (gkP (fun _ => .pointer (some ⟨w.heap.size + 3, 0, none⟩)))
     (goes_cons (gkC hst (fun W hW => (lu W hW).cell 0))
     (goes_cons (gkK (fun g => #[.slice A1 na c1, .slice (some ⟨w.heap.size, 0, none⟩) 1 1]) hst (fun g W hW hin => eq_at A1 (some ⟨w.heap.size, 0, none⟩) na 1 c1 1 A [1] false W hna rfl hq la (by decide) (d1.below hW) (q1.below hW)))
     (goes_cons (gkP (fun _ => .bool false)) goes_nil)))))))))))))) ?_
    intro g W hW _
    have hB7 := hbw.trans (hW.mono hbw.size)
    clear lx lu hst xr hu d1 d2 d3 q1 q2 hq he
    go_wp2_with fail
    refine (HP.out 1 _ hB7 HE.out.1 HE.out.2).mono ?_
    rintro e w8 ⟨⟨B8, d8, rfl, hd8, hr8⟩, hb8⟩
    have hB8 := hB7.trans (hb8.mono hB7.size)
    go_wp2_with fail
    go_ret
    exact OutC.of HN.out hd8 hr8 hB8
  ·by_cases he : B = [-1]
   ·have hq : decide (B = [-1]) = true := decide_eq_true he
    have HI := Lib.hid (show (1 ≤ 2 → P = []) ∧ (1 ≤ 1 → B = [-1]) ∧ (1 ≤ 0 → A = [1]) from ⟨fun _ => hinv.out.1 (by omega), fun _ => he, fun h => absurd h (by omega)⟩)
    clear HE0 HE1 HE2 HE3 HP HN
    go_wp2_with fail
    refine wp_region_told (w1 := wr) (K := []) (ix := 1000) (R0 := fun _ _ _ => True) (R1 := fun _ _ _ => True) [] (⟨#[.int .u8 ff, .slice (some ⟨xb, 0, none⟩) 2 3, undef, undef, .slice none 0 0, .pointer (some ⟨w.heap.size + 3, 0, none⟩), .int .i64 2, undef, undef, .slice (some ⟨w.heap.size, 0, none⟩) 1 1, .slice (some ⟨w.heap.size + 1, 0, none⟩) 1 1, .slice (some ⟨w.heap.size + 2, 0, none⟩) 0 0, .agg #[.slice (some ⟨w.heap.size, 0, none⟩) 1 1, .slice (some ⟨w.heap.size + 1, 0, none⟩) 1 1, .slice (some ⟨w.heap.size + 2, 0, none⟩) 0 0], .slice (some ⟨xb, 0, none⟩) 3 3, .int .i64 3, .int .i64 2, .bool true, .bool true, .slice (some ⟨xb, 0, none⟩) 2 3, .int .i64 2, .int .i64 1, .pointer (some ⟨xb, 1, none⟩), .slice A2 nb c2, .int .i64 2, .int .i64 1, .pointer (some ⟨w.heap.size + 3, 1, none⟩), .slice (some ⟨w.heap.size + 1, 0, none⟩) 1 1, .bool true, .bool true, u29, u30, u31, u32, u33, u34, undef, undef, undef, undef, undef, undef, undef, undef], []⟩) (fun g => ⟨#[.int .u8 ff, .slice (some ⟨xb, 0, none⟩) 2 3, undef, undef, .slice none 0 0, .pointer (some ⟨w.heap.size + 3, 0, none⟩), .int .i64 2, undef, undef, .slice (some ⟨w.heap.size, 0, none⟩) 1 1, .slice (some ⟨w.heap.size + 1, 0, none⟩) 1 1, .slice (some ⟨w.heap.size + 2, 0, none⟩) 0 0, .agg #[.slice (some ⟨w.heap.size, 0, none⟩) 1 1, .slice (some ⟨w.heap.size + 1, 0, none⟩) 1 1, .slice (some ⟨w.heap.size + 2, 0, none⟩) 0 0], .slice (some ⟨xb, 0, none⟩) 3 3, .int .i64 3, .int .i64 2, .bool true, .bool true, .slice (some ⟨xb, 0, none⟩) 2 3, .int .i64 2, .int .i64 1, .pointer (some ⟨xb, 1, none⟩), .slice A2 nb c2, .int .i64 2, .int .i64 1, .pointer (some ⟨w.heap.size + 3, 1, none⟩), .slice (some ⟨w.heap.size + 1, 0, none⟩) 1 1, .bool true, .bool true, u29, u30, u31, u32, u33, u34, undef, undef, undef, undef, undef, undef, undef, undef], []⟩) [.int .i64 2, .bool true, .bool true, .slice (some ⟨xb, 0, none⟩) 2 3, .int .i64 2, .int .i64 1, .pointer (some ⟨xb, 1, none⟩), .slice A2 nb c2, .int .i64 2, .int .i64 1, .pointer (some ⟨w.heap.size + 3, 1, none⟩), .slice (some ⟨w.heap.size + 1, 0, none⟩) 1 1, .bool true, .bool true] (by kernel_rfl) (by kernel_rfl) (by kernel_rfl) (fun g => by kernel_rfl) (by kernel_rfl) (Below.refl _ _).drew (by decide) (by kernel_rfl)
     (goes_cons (gkP (fun _ => .int .i64 2))
     (goes_cons (gkP (fun _ => .bool true))
     (goes_cons (gkP (fun _ => .bool true))
     (goes_cons (gkP (fun _ => .slice (some ⟨xb, 0, none⟩) 2 3))
     (goes_cons (gkP (fun _ => .int .i64 2))
     (goes_cons (gkP (fun _ => .int .i64 1))
     (goes_cons (gkP (fun _ => .pointer (some ⟨xb, 1, none⟩)))
     (goes_cons (gkC hst (fun W hW => (lx W hW).cell 1))
     (goes_cons (gkP (fun _ => .int .i64 2))
     (goes_cons (gkP (fun _ => .int .i64 1))
     (goes_cons (gkP (fun _ => .pointer (some ⟨w.heap.size + 3, 1, none⟩)))
     (goes_cons (gkC hst (fun W hW => (lu W hW).cell 1))
     (goes_cons (gkK (fun g => #[.slice A2 nb c2, .slice (some ⟨w.heap.size + 1, 0, none⟩) 1 1]) hst (fun g W hW hin => eq_at A2 (some ⟨w.heap.size + 1, 0, none⟩) nb 1 c2 1 B [-1] true W hnb rfl hq lb (by decide) (d2.below hW) (q2.below hW)))
     (goes_cons (gkP (fun _ => .bool true)) goes_nil)))))))))))))) ?_
    intro g W hW _
    have hB7 := hbw.trans (hW.mono hbw.size)
    have hu7 := hu.below hW hu.lt
    have q17 := q1.below hW
    have q27 := q2.below hW
    clear lx lu hst xr hu d1 d2 d3 q1 q2 hq he hbw hinv
    go_wp2_with fail
    go_roundw
    case rel => exact ⟨_, _, _, _, _, _, _, _, _, _, _, _, _, _, _, _, _, _, _, _, _, _, ⟨1, by omega, rfl, rfl, hB7, hu7, q17, q27, HI⟩, rfl⟩
    case measure => simp [intOf]
   ·have hq : decide (B = [-1]) = false := decide_eq_false he
    have HE := Lib.hid (HE2.out (hinv.out.1 (by omega)) he)
    clear HE0 HE1 HE2 HE3
    go_wp2_with fail
    refine wp_region_told (w1 := wr) (K := []) (ix := 1000) (R0 := fun _ _ _ => True) (R1 := fun _ _ _ => True) [] (⟨#[.int .u8 ff, .slice (some ⟨xb, 0, none⟩) 2 3, undef, undef, .slice none 0 0, .pointer (some ⟨w.heap.size + 3, 0, none⟩), .int .i64 2, undef, undef, .slice (some ⟨w.heap.size, 0, none⟩) 1 1, .slice (some ⟨w.heap.size + 1, 0, none⟩) 1 1, .slice (some ⟨w.heap.size + 2, 0, none⟩) 0 0, .agg #[.slice (some ⟨w.heap.size, 0, none⟩) 1 1, .slice (some ⟨w.heap.size + 1, 0, none⟩) 1 1, .slice (some ⟨w.heap.size + 2, 0, none⟩) 0 0], .slice (some ⟨xb, 0, none⟩) 3 3, .int .i64 3, .int .i64 2, .bool true, .bool true, .slice (some ⟨xb, 0, none⟩) 2 3, .int .i64 2, .int .i64 1, .pointer (some ⟨xb, 1, none⟩), .slice A2 nb c2, .int .i64 2, .int .i64 1, .pointer (some ⟨w.heap.size + 3, 1, none⟩), .slice (some ⟨w.heap.size + 1, 0, none⟩) 1 1, .bool false, .bool false, u29, u30, u31, u32, u33, u34, undef, undef, undef, undef, undef, undef, undef, undef], []⟩) (fun g => ⟨#[.int .u8 ff, .slice (some ⟨xb, 0, none⟩) 2 3, undef, undef, .slice none 0 0, .pointer (some ⟨w.heap.size + 3, 0, none⟩), .int .i64 2, undef, undef, .slice (some ⟨w.heap.size, 0, none⟩) 1 1, .slice (some ⟨w.heap.size + 1, 0, none⟩) 1 1, .slice (some ⟨w.heap.size + 2, 0, none⟩) 0 0, .agg #[.slice (some ⟨w.heap.size, 0, none⟩) 1 1, .slice (some ⟨w.heap.size + 1, 0, none⟩) 1 1, .slice (some ⟨w.heap.size + 2, 0, none⟩) 0 0], .slice (some ⟨xb, 0, none⟩) 3 3, .int .i64 3, .int .i64 2, .bool true, .bool true, .slice (some ⟨xb, 0, none⟩) 2 3, .int .i64 2, .int .i64 1, .pointer (some ⟨xb, 1, none⟩), .slice A2 nb c2, .int .i64 2, .int .i64 1, .pointer (some ⟨w.heap.size + 3, 1, none⟩), .slice (some ⟨w.heap.size + 1, 0, none⟩) 1 1, .bool false, .bool false, u29, u30, u31, u32, u33, u34, undef, undef, undef, undef, undef, undef, undef, undef], []⟩) [.int .i64 2, .bool true, .bool true, .slice (some ⟨xb, 0, none⟩) 2 3, .int .i64 2, .int .i64 1, .pointer (some ⟨xb, 1, none⟩), .slice A2 nb c2, .int .i64 2, .int .i64 1, .pointer (some ⟨w.heap.size + 3, 1, none⟩), .slice (some ⟨w.heap.size + 1, 0, none⟩) 1 1, .bool false, .bool false] (by kernel_rfl) (by kernel_rfl) (by kernel_rfl) (fun g => by kernel_rfl) (by kernel_rfl) (Below.refl _ _).drew (by decide) (by kernel_rfl)
     (goes_cons (gkP (fun _ => .int .i64 2))
     (goes_cons (gkP (fun _ => .bool true))
     (goes_cons (gkP (fun _ => .bool true))
     (goes_cons (gkP (fun _ => .slice (some ⟨xb, 0, none⟩) 2 3))
     (goes_cons (gkP (fun _ => .int .i64 2))
     (goes_cons (gkP (fun _ => .int .i64 1))
     (goes_cons (gkP (fun _ => .pointer (some ⟨xb, 1, none⟩)))
     (goes_cons (gkC hst (fun W hW => (lx W hW).cell 1))
     (goes_cons (gkP (fun _ => .int .i64 2))
     (goes_cons (gkP (fun _ => .int .i64 1))
     (goes_cons (gkP (fun _ => .pointer (some ⟨w.heap.size + 3, 1, none⟩)))
     (goes_cons (gkC hst (fun W hW => (lu W hW).cell 1))
     (goes_cons (gkK (fun g => #[.slice A2 nb c2, .slice (some ⟨w.heap.size + 1, 0, none⟩) 1 1]) hst (fun g W hW hin => eq_at A2 (some ⟨w.heap.size + 1, 0, none⟩) nb 1 c2 1 B [-1] false W hnb rfl hq lb (by decide) (d2.below hW) (q2.below hW)))
     (goes_cons (gkP (fun _ => .bool false)) goes_nil)))))))))))))) ?_
    intro g W hW _
    have hB7 := hbw.trans (hW.mono hbw.size)
    clear lx lu hst xr hu d1 d2 d3 q1 q2 hq he
    go_wp2_with fail
    refine (HP.out 2 _ hB7 HE.out.1 HE.out.2).mono ?_
    rintro e w8 ⟨⟨B8, d8, rfl, hd8, hr8⟩, hb8⟩
    have hB8 := hB7.trans (hb8.mono hB7.size)
    go_wp2_with fail
    go_ret
    exact OutC.of HN.out hd8 hr8 hB8
  ·by_cases he : P = []
   ·have hq : decide (P = []) = true := decide_eq_true he
    have HI := Lib.hid (show (2 ≤ 2 → P = []) ∧ (2 ≤ 1 → B = [-1]) ∧ (2 ≤ 0 → A = [1]) from ⟨fun _ => he, fun h => absurd h (by omega), fun h => absurd h (by omega)⟩)
    clear HE0 HE1 HE2 HE3 HP HN
    go_wp2_with fail
    refine wp_region_told (w1 := wr) (K := []) (ix := 1000) (R0 := fun _ _ _ => True) (R1 := fun _ _ _ => True) [] (⟨#[.int .u8 ff, .slice (some ⟨xb, 0, none⟩) 3 3, undef, undef, .slice none 0 0, .pointer (some ⟨w.heap.size + 3, 0, none⟩), .int .i64 3, undef, undef, .slice (some ⟨w.heap.size, 0, none⟩) 1 1, .slice (some ⟨w.heap.size + 1, 0, none⟩) 1 1, .slice (some ⟨w.heap.size + 2, 0, none⟩) 0 0, .agg #[.slice (some ⟨w.heap.size, 0, none⟩) 1 1, .slice (some ⟨w.heap.size + 1, 0, none⟩) 1 1, .slice (some ⟨w.heap.size + 2, 0, none⟩) 0 0], .slice (some ⟨xb, 0, none⟩) 3 3, .int .i64 3, .int .i64 3, .bool true, .bool true, .slice (some ⟨xb, 0, none⟩) 3 3, .int .i64 3, .int .i64 2, .pointer (some ⟨xb, 2, none⟩), .slice A3 np c3, .int .i64 3, .int .i64 2, .pointer (some ⟨w.heap.size + 3, 2, none⟩), .slice (some ⟨w.heap.size + 2, 0, none⟩) 0 0, .bool true, .bool true, u29, u30, u31, u32, u33, u34, undef, undef, undef, undef, undef, undef, undef, undef], []⟩) (fun g => ⟨#[.int .u8 ff, .slice (some ⟨xb, 0, none⟩) 3 3, undef, undef, .slice none 0 0, .pointer (some ⟨w.heap.size + 3, 0, none⟩), .int .i64 3, undef, undef, .slice (some ⟨w.heap.size, 0, none⟩) 1 1, .slice (some ⟨w.heap.size + 1, 0, none⟩) 1 1, .slice (some ⟨w.heap.size + 2, 0, none⟩) 0 0, .agg #[.slice (some ⟨w.heap.size, 0, none⟩) 1 1, .slice (some ⟨w.heap.size + 1, 0, none⟩) 1 1, .slice (some ⟨w.heap.size + 2, 0, none⟩) 0 0], .slice (some ⟨xb, 0, none⟩) 3 3, .int .i64 3, .int .i64 3, .bool true, .bool true, .slice (some ⟨xb, 0, none⟩) 3 3, .int .i64 3, .int .i64 2, .pointer (some ⟨xb, 2, none⟩), .slice A3 np c3, .int .i64 3, .int .i64 2, .pointer (some ⟨w.heap.size + 3, 2, none⟩), .slice (some ⟨w.heap.size + 2, 0, none⟩) 0 0, .bool true, .bool true, u29, u30, u31, u32, u33, u34, undef, undef, undef, undef, undef, undef, undef, undef], []⟩) [.int .i64 3, .bool true, .bool true, .slice (some ⟨xb, 0, none⟩) 3 3, .int .i64 3, .int .i64 2, .pointer (some ⟨xb, 2, none⟩), .slice A3 np c3, .int .i64 3, .int .i64 2, .pointer (some ⟨w.heap.size + 3, 2, none⟩), .slice (some ⟨w.heap.size + 2, 0, none⟩) 0 0, .bool true, .bool true] (by kernel_rfl) (by kernel_rfl) (by kernel_rfl) (fun g => by kernel_rfl) (by kernel_rfl) (Below.refl _ _).drew (by decide) (by kernel_rfl)
     (goes_cons (gkP (fun _ => .int .i64 3))
     (goes_cons (gkP (fun _ => .bool true))
     (goes_cons (gkP (fun _ => .bool true))
     (goes_cons (gkP (fun _ => .slice (some ⟨xb, 0, none⟩) 3 3))
     (goes_cons (gkP (fun _ => .int .i64 3))
     (goes_cons (gkP (fun _ => .int .i64 2))
     (goes_cons (gkP (fun _ => .pointer (some ⟨xb, 2, none⟩)))
     (goes_cons (gkC hst (fun W hW => (lx W hW).cell 2))
     (goes_cons (gkP (fun _ => .int .i64 3))
     (goes_cons (gkP (fun _ => .int .i64 2))
     (goes_cons (gkP (fun _ => .pointer (some ⟨w.heap.size + 3, 2, none⟩)))
     (goes_cons (gkC hst (fun W hW => (lu W hW).cell 2))
     (goes_cons (gkK (fun g => #[.slice A3 np c3, .slice (some ⟨w.heap.size + 2, 0, none⟩) 0 0]) hst (fun g W hW hin => eq_at A3 (some ⟨w.heap.size + 2, 0, none⟩) np 0 c3 0 P [] true W hnp rfl hq lp (by decide) (d3.below hW) (Rd.nil _ _)))
     (goes_cons (gkP (fun _ => .bool true)) goes_nil)))))))))))))) ?_
    intro g W hW _
    have hB7 := hbw.trans (hW.mono hbw.size)
    have hu7 := hu.below hW hu.lt
    have q17 := q1.below hW
    have q27 := q2.below hW
    clear lx lu hst xr hu d1 d2 d3 q1 q2 hq he hbw hinv
    go_wp2_with fail
    go_roundw
    case rel => exact ⟨_, _, _, _, _, _, _, _, _, _, _, _, _, _, _, _, _, _, _, _, _, _, ⟨2, by omega, rfl, rfl, hB7, hu7, q17, q27, HI⟩, rfl⟩
    case measure => simp [intOf]
   ·have hq : decide (P = []) = false := decide_eq_false he
    have HE := Lib.hid (HE3.out  he)
    clear HE0 HE1 HE2 HE3
    go_wp2_with fail
    refine wp_region_told (w1 := wr) (K := []) (ix := 1000) (R0 := fun _ _ _ => True) (R1 := fun _ _ _ => True) [] (⟨#[.int .u8 ff, .slice (some ⟨xb, 0, none⟩) 3 3, undef, undef, .slice none 0 0, .pointer (some ⟨w.heap.size + 3, 0, none⟩), .int .i64 3, undef, undef, .slice (some ⟨w.heap.size, 0, none⟩) 1 1, .slice (some ⟨w.heap.size + 1, 0, none⟩) 1 1, .slice (some ⟨w.heap.size + 2, 0, none⟩) 0 0, .agg #[.slice (some ⟨w.heap.size, 0, none⟩) 1 1, .slice (some ⟨w.heap.size + 1, 0, none⟩) 1 1, .slice (some ⟨w.heap.size + 2, 0, none⟩) 0 0], .slice (some ⟨xb, 0, none⟩) 3 3, .int .i64 3, .int .i64 3, .bool true, .bool true, .slice (some ⟨xb, 0, none⟩) 3 3, .int .i64 3, .int .i64 2, .pointer (some ⟨xb, 2, none⟩), .slice A3 np c3, .int .i64 3, .int .i64 2, .pointer (some ⟨w.heap.size + 3, 2, none⟩), .slice (some ⟨w.heap.size + 2, 0, none⟩) 0 0, .bool false, .bool false, u29, u30, u31, u32, u33, u34, undef, undef, undef, undef, undef, undef, undef, undef], []⟩) (fun g => ⟨#[.int .u8 ff, .slice (some ⟨xb, 0, none⟩) 3 3, undef, undef, .slice none 0 0, .pointer (some ⟨w.heap.size + 3, 0, none⟩), .int .i64 3, undef, undef, .slice (some ⟨w.heap.size, 0, none⟩) 1 1, .slice (some ⟨w.heap.size + 1, 0, none⟩) 1 1, .slice (some ⟨w.heap.size + 2, 0, none⟩) 0 0, .agg #[.slice (some ⟨w.heap.size, 0, none⟩) 1 1, .slice (some ⟨w.heap.size + 1, 0, none⟩) 1 1, .slice (some ⟨w.heap.size + 2, 0, none⟩) 0 0], .slice (some ⟨xb, 0, none⟩) 3 3, .int .i64 3, .int .i64 3, .bool true, .bool true, .slice (some ⟨xb, 0, none⟩) 3 3, .int .i64 3, .int .i64 2, .pointer (some ⟨xb, 2, none⟩), .slice A3 np c3, .int .i64 3, .int .i64 2, .pointer (some ⟨w.heap.size + 3, 2, none⟩), .slice (some ⟨w.heap.size + 2, 0, none⟩) 0 0, .bool false, .bool false, u29, u30, u31, u32, u33, u34, undef, undef, undef, undef, undef, undef, undef, undef], []⟩) [.int .i64 3, .bool true, .bool true, .slice (some ⟨xb, 0, none⟩) 3 3, .int .i64 3, .int .i64 2, .pointer (some ⟨xb, 2, none⟩), .slice A3 np c3, .int .i64 3, .int .i64 2, .pointer (some ⟨w.heap.size + 3, 2, none⟩), .slice (some ⟨w.heap.size + 2, 0, none⟩) 0 0, .bool false, .bool false] (by kernel_rfl) (by kernel_rfl) (by kernel_rfl) (fun g => by kernel_rfl) (by kernel_rfl) (Below.refl _ _).drew (by decide) (by kernel_rfl)
     (goes_cons (gkP (fun _ => .int .i64 3))
     (goes_cons (gkP (fun _ => .bool true))
     (goes_cons (gkP (fun _ => .bool true))
     (goes_cons (gkP (fun _ => .slice (some ⟨xb, 0, none⟩) 3 3))
     (goes_cons (gkP (fun _ => .int .i64 3))
     (goes_cons (gkP (fun _ => .int .i64 2))
     (goes_cons (gkP (fun _ => .pointer (some ⟨xb, 2, none⟩)))
     (goes_cons (gkC hst (fun W hW => (lx W hW).cell 2))
     (goes_cons (gkP (fun _ => .int .i64 3))
     (goes_cons (gkP (fun _ => .int .i64 2))
     (goes_cons (gkP (fun _ => .pointer (some ⟨w.heap.size + 3, 2, none⟩)))
     (goes_cons (gkC hst (fun W hW => (lu W hW).cell 2))
     (goes_cons (gkK (fun g => #[.slice A3 np c3, .slice (some ⟨w.heap.size + 2, 0, none⟩) 0 0]) hst (fun g W hW hin => eq_at A3 (some ⟨w.heap.size + 2, 0, none⟩) np 0 c3 0 P [] false W hnp rfl hq lp (by decide) (d3.below hW) (Rd.nil _ _)))
     (goes_cons (gkP (fun _ => .bool false)) goes_nil)))))))))))))) ?_
    intro g W hW _
    have hB7 := hbw.trans (hW.mono hbw.size)
    clear lx lu hst xr hu d1 d2 d3 q1 q2 hq he
    go_wp2_with fail
    refine (HP.out 3 _ hB7 HE.out.1 HE.out.2).mono ?_
    rintro e w8 ⟨⟨B8, d8, rfl, hd8, hr8⟩, hb8⟩
    have hB8 := hB7.trans (hb8.mono hB7.size)
    go_wp2_with fail
    go_ret
    exact OutC.of HN.out hd8 hr8 hB8
end Go.Proofs.YtceipblcdcgljaaGreatDoor
