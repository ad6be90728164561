/-
  Layer 13: words for what its calls leave. Cut out of KeyT: what names no function of any dump. Cut out of LegA: what names no function of any dump. Layer 2, walked: Put, the program's and the document's. Layer 9, the landed keys: mathematics: its rows, the codes of all rows one after the other, and what is found among them. Layer 2, walked: the size of what begins with a byte. Layer 2, walked: Take. A region that draws its order, with an append onto a row of one's own (and a store behind it).
-/
import Derived.Test.YtceipblcdcgljaaGreatDoorG02
import Derived.Test.YtceipblcdcgljaaGreatDoorG06
import Derived.Test.YtceipblcdcgljaaGreatDoorG07
import Derived.Test.YtceipblcdcgljaaGreatDoorG08
import Derived.Deep.RegionHeld3
namespace Go.Proofs.YtceipblcdcgljaaGreatDoor
open Go.RowKit
def frmV (x : Int × Int) : Value := .tuple #[.int .i64 x.1, .int .u8 x.2]
def OutN (L : List UInt8) (n : Nat) (w : World) (e : Ending) (w' : World) : Prop := ∃ A c, e = .returned (.slice A n c) ∧ Rd w' A (bs L) ∧ Below w.heap.size w w'
theorem outN {L : List UInt8} {n : Nat} (hn : L.length = n) {w w' : World} {e : Ending} (h : Out L w e w') : OutN L n w e w' := by subst hn; exact h
theorem str_bs13 {w : World} {A : Option Addr} {L : List UInt8} {n c : Nat} (hn : L.length = n) (h : Rd w A (bs L)) : (convert 27 9 (.slice A n c)).run Tryz.prog w = .ok (.string ⟨L.toArray⟩) w :=
 conv_str (P := Tryz.prog) Tryz.underlying27 Tryz.underlying5 hn h _ Tryz.underlying9
def enV (e : En) : Value := .agg #[.int .i64 e.kind, .int .u8 e.fin, .int .i64 e.num, .int .i64 e.char, .bool e.keys]
theorem below_two {w : World} (x y : Obj) : Below w.heap.size w ((w.alloc x).alloc y) := ((Below.refl _ w).alloc (Nat.le_refl _) _).alloc (by simp) _
theorem out_is {L L' : List UInt8} {w w' : World} {e : Ending} (h : L = L') (ho : Out L' w e w') : Out L w e w' := h ▸ ho
theorem out_same {L : List UInt8} {w w' : World} {A : Option Addr} {n c : Nat} (hn : L.length = n) (hr : Rd w' A (bs L)) (hb : Below w.heap.size w w') : Out L w (.returned (.slice A n c)) w' := by
 subst hn
 exact ⟨A, c, rfl, hr, hb⟩
theorem out_one {w w1 : World} {t : TypeId} (x : Int) (h0 : 0 ≤ x) (h1 : x < 256) (hb : Below w.heap.size w w1) : Out [byt x] w (.returned (.slice (some ⟨w1.heap.size, 0, none⟩) 1 1)) (w1.alloc (.cells #[.int .u8 x] t)) :=
 ⟨_, _, rfl, Rd.block (heap_alloc_new w1 _) (by rw [bs1 x h0 h1]; rfl), hb.alloc hb.size _⟩
theorem text_full {s : ByteArray} (h : s.data.toList ≠ []) : s.toList.isEmpty = false := by
 rw [ByteArray.toList_eq]
 cases e : s.data.toList with
 | nil => exact absurd e h
 | cons => rfl
set_option maxHeartbeats 1000000 in
theorem Put_any (r : Int) (w : World) (hs : Siz w) : Calls Tryz.prog 57 #[.int .i64 r] w (Out (putL r) w) := by
 cases h : isPt r with
 | false =>
   rw [putL_no h]
   go_enter Tryz.func57, Tryz.ntmps57
   go_wp2_with fail
   refine (isPt_any r _).mono ?_
   rintro e w1 ⟨rfl, rfl⟩
   go_wp2_with fail
   go_ret
   exact ⟨none, 0, rfl, Rd.nil _ _, Below.refl _ _⟩
 | true =>
   have H := Lib.hid h
   go_enter Tryz.func57, Tryz.ntmps57
   go_wp2_with fail
   refine (isPt_any r _).mono ?_
   rintro e w1 ⟨rfl, rfl⟩
   go_wp2_with fail
   refine (put_any r H.out w.heap.size (.slice none 0 0) 0 [] w hs (Own.nil_ _ _ _ _) (Nat.le_refl _) (by omega)).mono ?_
   rintro e w2 ⟨v, rfl, ho, hb⟩
   go_wp2_with fail
   go_ret
   exact out_own ho hb
end Go.Proofs.YtceipblcdcgljaaGreatDoor
namespace Go.Proofs.YtceipblcdcgljaaGreatDoor
structure Ro where
 first : Int
 last : Int
 kind : Int
 finals : List UInt8
 nums : List Int
 chars : List UInt8
 keys : Bool
deriving DecidableEq
def roL : List Ro := [
 ⟨9, 9, 2, [], [], [], false⟩, ⟨13, 13, 2, [], [], [], false⟩, ⟨27, 27, 2, [], [], [], false⟩, ⟨127, 127, 2, [], [], [], false⟩,
 ⟨57350, 57353, 3, [68, 67, 65, 66], [], [], false⟩, ⟨57356, 57357, 3, [72, 70], [], [], false⟩, ⟨57364, 57367, 3, [80, 81, 82, 83], [], [], false⟩,
 ⟨57348, 57349, 4, [], [2, 3], [], false⟩, ⟨57354, 57355, 4, [], [5, 6], [], false⟩, ⟨57368, 57375, 4, [], [15, 17, 18, 19, 20, 21, 23, 24], [], false⟩, ⟨57363, 57363, 4, [], [29], [], false⟩,
 ⟨57399, 57408, 5, [112, 113, 114, 115, 116, 117, 118, 119, 120, 121], [], [48, 49, 50, 51, 52, 53, 54, 55, 56, 57], true⟩,
 ⟨57409, 57416, 5, [110, 111, 106, 109, 107, 77, 88, 108], [], [46, 47, 42, 45, 43, 13, 61, 44], true⟩,
 ⟨57417, 57420, 3, [68, 67, 65, 66], [], [], true⟩, ⟨57423, 57424, 3, [72, 70], [], [], true⟩, ⟨57427, 57427, 3, [69], [], [], true⟩,
 ⟨57421, 57422, 4, [], [5, 6], [], true⟩, ⟨57425, 57426, 4, [], [2, 3], [], true⟩,
 ⟨57358, 57362, 6, [], [], [], false⟩, ⟨57376, 57398, 6, [], [], [], false⟩, ⟨57428, 57440, 6, [], [], [], false⟩, ⟨57441, 57454, 7, [], [], [], false⟩]
def byL (l : List UInt8) (a : Nat) : Int := ((l.getD a 0).toNat : Int)
def entK (r : Ro) (a : Nat) : En := ⟨r.kind, byL r.finals a, r.nums.getD a 0, byL r.chars a, r.keys⟩
def inRo (c : Int) (r : Ro) : Bool := decide (r.first ≤ c) && decide (c ≤ r.last)
theorem inRo_iff (c : Int) (r : Ro) : inRo c r = true ↔ r.first ≤ c ∧ c ≤ r.last := by simp [inRo]
theorem inRo_no {c : Int} {r : Ro} (h : ¬ (r.first ≤ c ∧ c ≤ r.last)) : inRo c r = false := by
 cases e : inRo c r with
 | false => rfl
 | true => exact absurd ((inRo_iff c r).1 e) h
def txK (c : Int) : Bool := !(decide (c < 32) || decide (127 ≤ c) && decide (c ≤ 159)) && !(decide (57344 ≤ c) && decide (c ≤ 63743)) && isPtK c
def lookP (c : Int) : En := match roL.find? (inRo c) with
 | some r => entK r (c - r.first).toNat
 | none => if txK c then ⟨1, 0, 0, 0, false⟩ else ⟨0, 0, 0, 0, false⟩
theorem ro_all : ∀ r ∈ roL, (r.first = r.last ∧ (r.first = 9 ∨ r.first = 13 ∨ r.first = 27 ∨ r.first = 127)) ∨ (57344 ≤ r.first ∧ r.last < 57455) := by decide +kernel
theorem ro_bd : ∀ r ∈ roL, (0 ≤ r.first ∧ r.first ≤ r.last ∧ r.last ≤ 60000) ∧ (r.finals.length ≤ 100 ∧ r.nums.length ≤ 100 ∧ r.chars.length ≤ 100) := by decide +kernel
theorem look_in : ∀ k : Fin 111, lookP (57344 + k.1) = lookE (57344 + k.1) := by decide +kernel
theorem look_nil {c : Int} (h : c < 57344 ∨ 57455 ≤ c) (h9 : c ≠ 9) (h13 : c ≠ 13) (h27 : c ≠ 27) (h127 : c ≠ 127) : roL.find? (inRo c) = none := by
 rw [List.find?_eq_none]
 intro r hr hi
 have h1 := (inRo_iff c r).1 hi
 rcases ro_all r hr with ⟨e, e2⟩ | ⟨e, e2⟩ <;> omega
theorem txK_rest {c : Int} (h : c < 57344 ∨ 57455 ≤ c) (h9 : c ≠ 9) (h13 : c ≠ 13) (h27 : c ≠ 27) (h127 : c ≠ 127) : restN c = if txK c then 1 else 0 := by
 unfold restN txK
 rw [if_neg (by omega), if_neg (by omega), if_neg (by omega)]
 cases e : isPtK c with
 | false => simp
 | true =>
   by_cases h1 : c < 32 ∨ 127 ≤ c ∧ c ≤ 159 ∨ 57344 ≤ c ∧ c ≤ 63743
   ·rw [if_pos (.inr h1), if_neg]
    simp
    omega
   ·rw [if_neg (by simp; omega), if_pos]
    simp
    omega
theorem lookP_eq (c : Int) : lookP c = lookE c := by
 by_cases h : c < 57344 ∨ 57455 ≤ c
 ·by_cases h9 : c = 9
  ·subst h9; decide +kernel
  by_cases h13 : c = 13
  ·subst h13; decide +kernel
  by_cases h27 : c = 27
  ·subst h27; decide +kernel
  by_cases h127 : c = 127
  ·subst h127; decide +kernel
  unfold lookP
  rw [look_nil h h9 h13 h27 h127, look_out h, txK_rest h h9 h13 h27 h127]
  cases txK c <;> rfl
 ·obtain ⟨k, rfl⟩ : ∃ k : Fin 111, c = 57344 + k.1 := ⟨⟨(c - 57344).toNat, by omega⟩, by simp; omega⟩
  exact look_in k
end Go.Proofs.YtceipblcdcgljaaGreatDoor
namespace Go.Proofs.YtceipblcdcgljaaGreatDoor
open Go.RowKit
set_option maxRecDepth 100000 in
set_option maxHeartbeats 4000000 in
theorem sizeByFirst_any (r : Int) (w : World) (hs : Siz w) : Calls Tryz.prog 157 #[.int .i64 r] w fun e w' => e = .returned (.agg (szA (ixF r 4))) ∧ Below w.heap.size w w' := by
 obtain ⟨t, fz, hh⟩ := hs
 have hlt := (Array.getElem?_eq_some_iff.1 hh).1
 have hlt0 : 0 < w.heap.size := Nat.zero_lt_of_lt hlt
 have c0 : w.cell? ⟨1, 0, none⟩ = some (.int .i64 1) := siz_cell hh 0
 have c1 : w.cell? ⟨1, 1, none⟩ = some (.int .i64 0) := siz_cell hh 1
 have c2 : w.cell? ⟨1, 2, none⟩ = some (.int .i64 0) := siz_cell hh 2
 have c3 : w.cell? ⟨1, 3, none⟩ = some (.int .i64 2) := siz_cell hh 3
 have c4 : w.cell? ⟨1, 4, none⟩ = some (.int .i64 128) := siz_cell hh 4
 have c5 : w.cell? ⟨1, 5, none⟩ = some (.int .i64 192) := siz_cell hh 5
 have c6 : w.cell? ⟨1, 6, none⟩ = some (.int .i64 3) := siz_cell hh 6
 have c7 : w.cell? ⟨1, 7, none⟩ = some (.int .i64 2048) := siz_cell hh 7
 have c8 : w.cell? ⟨1, 8, none⟩ = some (.int .i64 224) := siz_cell hh 8
 have c9 : w.cell? ⟨1, 9, none⟩ = some (.int .i64 4) := siz_cell hh 9
 have c10 : w.cell? ⟨1, 10, none⟩ = some (.int .i64 65536) := siz_cell hh 10
 have c11 : w.cell? ⟨1, 11, none⟩ = some (.int .i64 240) := siz_cell hh 11
 go_enter Tryz.func157, Tryz.ntmps157
 go_wp2
 have b0 := Blk.new w 137 #[.int .i64 0, .int .i64 0, .int .i64 0]
 have b1 := Blk.new (w.alloc (.cells #[.int .i64 0, .int .i64 0, .int .i64 0] 137)) 137 #[.int .i64 1, .int .i64 0, .int .i64 0]
 rw [World.size_alloc] at b1
 have hb0 : Below w.heap.size w ((w.alloc (.cells #[.int .i64 0, .int .i64 0, .int .i64 0] 137)).alloc (.cells #[.int .i64 1, .int .i64 0, .int .i64 0] 137)) := ((Below.refl _ w).alloc (Nat.le_refl _) _).alloc (by simp) _
 go_loopw [9] (fun i wr => ∃ k : Nat, k ≤ 4 ∧ i = .int .i64 k ∧ Blk wr w.heap.size 137 #[.int .i64 0, .int .i64 0, .int .i64 0] ∧ Blk wr (w.heap.size + 1) 137 (szA (ixF r k)) ∧ Below w.heap.size w wr) (fun i _ => 4 - (intOf i).toNat)
 case atStart => exact ⟨0, by omega, rfl, b0.alloc _, b1, hb0⟩
 case round =>
  obtain ⟨k, hk, rfl, p0, p1, hbw⟩ := hrel
  clear b0 b1 hb0 c0 c1 c2 c3 c4 c5 c6 c7 c8 c9 c10 c11
  have hz := p1.lt
  have q0 := p1.frozen 0
  have q1 := p1.frozen 1
  have q2 := p1.frozen 2
  obtain rfl | rfl | rfl | rfl | rfl : k = 0 ∨ k = 1 ∨ k = 2 ∨ k = 3 ∨ k = 4 := by omega
  ·have i0 : ∀ w : World, (Instr.index 147 (.agg #[.int .i64 1, .int .i64 0, .int .i64 0, .int .i64 2, .int .i64 128, .int .i64 192, .int .i64 3, .int .i64 2048, .int .i64 224, .int .i64 4, .int .i64 65536, .int .i64 240]) (.int .i64 0)).run Tryz.prog w = .ok (.agg #[.int .i64 1, .int .i64 0, .int .i64 0]) w := fun _ => by kernel_rfl
   by_cases hr : 0 ≤ r
   ·have f0 := Lib.hid (show szA (ixF r (0 + 1)) = szA 0 by rw [show ixF r (0 + 1) = 0 by unfold ixF; (repeat' split) <;> omega])
    obtain ⟨u0, u1, u2, hu⟩ := szA_form (ixF r 0)
    rw [hu] at p1
    have g0 := p1.cell 0
    have g1 := p1.cell 1
    have g2 := p1.cell 2
    go_wp2
    go_roundw
    case rel => exact ⟨0 + 1, by omega, by go_num, (p0.far3 (Nat.ne_of_lt (Nat.lt_succ_self _)) _ _ _).alloc _, by rw [f0.out]; exact (p1.set3 _ _ _).alloc _, (below_set3 hbw (Nat.le_succ _) _ _ _).alloc (by rw [set3_size]; exact hbw.size) _⟩
    case measure => simp [intOf]
   ·have f0 := Lib.hid (show szA (ixF r (0 + 1)) = szA (ixF r 0) by rw [show ixF r (0 + 1) = ixF r 0 by unfold ixF; (repeat' split) <;> omega])
    go_wp2
    go_roundw
    case rel => exact ⟨0 + 1, by omega, by go_num, p0.alloc _, by rw [f0.out]; exact p1.alloc _, hbw.alloc hbw.size _⟩
    case measure => simp [intOf]
  ·have i0 : ∀ w : World, (Instr.index 147 (.agg #[.int .i64 1, .int .i64 0, .int .i64 0, .int .i64 2, .int .i64 128, .int .i64 192, .int .i64 3, .int .i64 2048, .int .i64 224, .int .i64 4, .int .i64 65536, .int .i64 240]) (.int .i64 1)).run Tryz.prog w = .ok (.agg #[.int .i64 2, .int .i64 128, .int .i64 192]) w := fun _ => by kernel_rfl
   by_cases hr : 192 ≤ r
   ·have f0 := Lib.hid (show szA (ixF r (1 + 1)) = szA 1 by rw [show ixF r (1 + 1) = 1 by unfold ixF; (repeat' split) <;> omega])
    obtain ⟨u0, u1, u2, hu⟩ := szA_form (ixF r 1)
    rw [hu] at p1
    have g0 := p1.cell 0
    have g1 := p1.cell 1
    have g2 := p1.cell 2
    go_wp2
    go_roundw
    case rel => exact ⟨1 + 1, by omega, by go_num, (p0.far3 (Nat.ne_of_lt (Nat.lt_succ_self _)) _ _ _).alloc _, by rw [f0.out]; exact (p1.set3 _ _ _).alloc _, (below_set3 hbw (Nat.le_succ _) _ _ _).alloc (by rw [set3_size]; exact hbw.size) _⟩
    case measure => simp [intOf]
   ·have f0 := Lib.hid (show szA (ixF r (1 + 1)) = szA (ixF r 1) by rw [show ixF r (1 + 1) = ixF r 1 by unfold ixF; (repeat' split) <;> omega])
    go_wp2
    go_roundw
    case rel => exact ⟨1 + 1, by omega, by go_num, p0.alloc _, by rw [f0.out]; exact p1.alloc _, hbw.alloc hbw.size _⟩
    case measure => simp [intOf]
  ·have i0 : ∀ w : World, (Instr.index 147 (.agg #[.int .i64 1, .int .i64 0, .int .i64 0, .int .i64 2, .int .i64 128, .int .i64 192, .int .i64 3, .int .i64 2048, .int .i64 224, .int .i64 4, .int .i64 65536, .int .i64 240]) (.int .i64 2)).run Tryz.prog w = .ok (.agg #[.int .i64 3, .int .i64 2048, .int .i64 224]) w := fun _ => by kernel_rfl
   by_cases hr : 224 ≤ r
   ·have f0 := Lib.hid (show szA (ixF r (2 + 1)) = szA 2 by rw [show ixF r (2 + 1) = 2 by unfold ixF; (repeat' split) <;> omega])
    obtain ⟨u0, u1, u2, hu⟩ := szA_form (ixF r 2)
    rw [hu] at p1
    have g0 := p1.cell 0
    have g1 := p1.cell 1
    have g2 := p1.cell 2
    go_wp2
    go_roundw
    case rel => exact ⟨2 + 1, by omega, by go_num, (p0.far3 (Nat.ne_of_lt (Nat.lt_succ_self _)) _ _ _).alloc _, by rw [f0.out]; exact (p1.set3 _ _ _).alloc _, (below_set3 hbw (Nat.le_succ _) _ _ _).alloc (by rw [set3_size]; exact hbw.size) _⟩
    case measure => simp [intOf]
   ·have f0 := Lib.hid (show szA (ixF r (2 + 1)) = szA (ixF r 2) by rw [show ixF r (2 + 1) = ixF r 2 by unfold ixF; (repeat' split) <;> omega])
    go_wp2
    go_roundw
    case rel => exact ⟨2 + 1, by omega, by go_num, p0.alloc _, by rw [f0.out]; exact p1.alloc _, hbw.alloc hbw.size _⟩
    case measure => simp [intOf]
  ·have i0 : ∀ w : World, (Instr.index 147 (.agg #[.int .i64 1, .int .i64 0, .int .i64 0, .int .i64 2, .int .i64 128, .int .i64 192, .int .i64 3, .int .i64 2048, .int .i64 224, .int .i64 4, .int .i64 65536, .int .i64 240]) (.int .i64 3)).run Tryz.prog w = .ok (.agg #[.int .i64 4, .int .i64 65536, .int .i64 240]) w := fun _ => by kernel_rfl
   by_cases hr : 240 ≤ r
   ·have f0 := Lib.hid (show szA (ixF r (3 + 1)) = szA 3 by rw [show ixF r (3 + 1) = 3 by unfold ixF; (repeat' split) <;> omega])
    obtain ⟨u0, u1, u2, hu⟩ := szA_form (ixF r 3)
    rw [hu] at p1
    have g0 := p1.cell 0
    have g1 := p1.cell 1
    have g2 := p1.cell 2
    go_wp2
    go_roundw
    case rel => exact ⟨3 + 1, by omega, by go_num, (p0.far3 (Nat.ne_of_lt (Nat.lt_succ_self _)) _ _ _).alloc _, by rw [f0.out]; exact (p1.set3 _ _ _).alloc _, (below_set3 hbw (Nat.le_succ _) _ _ _).alloc (by rw [set3_size]; exact hbw.size) _⟩
    case measure => simp [intOf]
   ·have f0 := Lib.hid (show szA (ixF r (3 + 1)) = szA (ixF r 3) by rw [show ixF r (3 + 1) = ixF r 3 by unfold ixF; (repeat' split) <;> omega])
    go_wp2
    go_roundw
    case rel => exact ⟨3 + 1, by omega, by go_num, p0.alloc _, by rw [f0.out]; exact p1.alloc _, hbw.alloc hbw.size _⟩
    case measure => simp [intOf]
  ·obtain ⟨u0, u1, u2, hu⟩ := szA_form (ixF r 4)
   rw [hu] at p1
   have g0 := p1.cell 0
   have g1 := p1.cell 1
   have g2 := p1.cell 2
   have y0 := p0.cell 0
   have y1 := p0.cell 1
   have y2 := p0.cell 2
   have x0 := p0.frozen 0
   have x1 := p0.frozen 1
   have x2 := p0.frozen 2
   have hlt2 := p0.lt
   go_wp2
   exact bodyPost_ret (v := .agg #[.int .i64 u0, .int .i64 u1, .int .i64 u2]) (by simp [results, Tryz.results157, go_sem, y0, y1, y2]) rfl ⟨by rw [hu], below_set3 hbw (Nat.le_refl _) _ _ _⟩
theorem quiet_more {P : Program} {f : FuncId} {args : Array Value} {w : World} {a n : Nat} {v : Value} (h : Calls P f args (w.drewN (a + n)) fun e w' => e = .returned v ∧ w' = w.drewN (a + n)) : Calls P f args (w.drewN (a + n)) fun e w' => e = .returned v ∧ ∃ m, w' = w.drewN (a + m) :=
 h.mono fun _ _ h => ⟨h.1, n, h.2⟩
theorem isPt_at (r : Int) (p : Bool) (h : isPt r = p) (w : World) : Calls Tryz.prog 90 #[.int .i64 r] w fun e w' => e = .returned (.bool p) ∧ w = w' := by
 subst h
 exact isPt_any r w
theorem isPt_same (r : Int) (p : Bool) (h : isPt r = p) (w : World) : Calls Tryz.prog 90 #[.int .i64 r] w fun e w' => e = .returned (.bool p) ∧ w' = w := (isPt_at r p h w).mono fun _ _ ⟨a, b⟩ => ⟨a, b.symm⟩
theorem sizeOf_at (r : Int) (u : Array Value) (h : szA (ixP r 4) = u) (w : World) (hs : Siz w) : Calls Tryz.prog 126 #[.int .i64 r] w fun e w' => e = .returned (.agg u) ∧ Below w.heap.size w w' := by
 subst h
 exact sizeOf_any r w hs
theorem szA_cnt (i : Nat) (h : i ≤ 3) : ∃ p q : Int, szA i = #[.int .i64 ((i : Int) + 1), .int .i64 p, .int .i64 q] := by
 obtain rfl | rfl | rfl | rfl : i = 0 ∨ i = 1 ∨ i = 2 ∨ i = 3 := by omega
 all_goals exact ⟨_, _, rfl⟩
theorem ixP_le (r : Int) : ixP r 4 ≤ 3 := by unfold ixP; (repeat' split) <;> omega
set_option maxRecDepth 100000 in
set_option maxHeartbeats 4000000 in
theorem take_any (A : Option Addr) (c : Nat) (l : List UInt8) (w : World) (hs : Siz w) (hl : l.length ≤ 4294967296) (hlc : l.length ≤ c) (hr : Rd w A (bs l)) :
 Calls Tryz.prog 152 #[.slice A l.length c] w fun e w' => e = Tk l ∧ Below w.heap.size w w' := by
 cases l with
 | nil =>
   go_enter Tryz.func152, Tryz.ntmps152
   go_wp2_with fail
   go_ret2
   exact ⟨tk_zero rfl, Below.refl _ _⟩
 | cons a l =>
   obtain ⟨b, o, rfl, hb, hc⟩ := hr.at_ (by simp)
   have hc0 := hc 0 (by simp)
   have ha := a.toNat_lt
   simp only [Nat.add_zero, List.getElem_cons_zero] at hc0
   simp only [List.length_cons] at hl hlc
   obtain ⟨j, least, lead, hj, hix, hz, l0, l1, F⟩ := fst_split a
   have HZ := Lib.hid hz
   have HI := Lib.hid hix
   clear hix hz
   by_cases hlt : l.length < j
   ·have E := Lib.hid (tk_zero (F.short l hlt))
    clear F hc
    go_enter Tryz.func152, Tryz.ntmps152
    go_wp2_with fail
    refine (sizeByFirst_any _ _ hs).mono ?_
    rw [HZ.out]
    rintro e w1 ⟨rfl, hb1⟩
    have p1 := Blk.new w1 137 #[.int .i64 ((j : Int) + 1), .int .i64 least, .int .i64 lead]
    have g0 := p1.cell 0
    go_wp2
    go_ret2
    exact ⟨E.out, hb1.alloc hb1.size _⟩
   ·have hlj : j ≤ l.length := by omega
    go_enter Tryz.func152, Tryz.ntmps152
    go_wp2_with fail
    refine (sizeByFirst_any _ _ hs).mono ?_
    rw [HZ.out]
    rintro e w1 ⟨rfl, hb1⟩
    have hc1 := (hb1.cell (p := ⟨b, o, none⟩) hb).trans hc0
    have p1 := Blk.new w1 137 #[.int .i64 ((j : Int) + 1), .int .i64 least, .int .i64 lead]
    have g0 := p1.cell 0
    have g2 := p1.cell 2
    have hb2 := Nat.lt_of_lt_of_le hb hb1.size
    go_wp2
    go_quiet (fail)
    have hcs : ∀ k (hk : k < l.length), w.cell? ⟨b, o + 1 + k, none⟩ = some (.int .u8 ((l[k]'hk).toNat : Int)) := fun k hk => by
     have := hc (k + 1) (by simpa using hk)
     rw [show o + 1 + k = o + (k + 1) by omega]
     simpa using this
    have hbM : ∀ m, Below w.heap.size w ((w1.alloc (.cells #[.int .i64 ((j : Int) + 1), .int .i64 least, .int .i64 lead] 137)).drewN m) := fun m => below_drewN (hb1.alloc hb1.size _) m
    by_cases h1c : c = 1
    ·subst h1c
     go_wp2
     go_loop [5, 34] (fun x i => ∃ (k : Nat) (y : Int), k ≤ j ∧ i = .int .i64 k ∧ x = .int .i64 y ∧ accL ((a.toNat : Int) - lead) (l.take k) = some y) (fun _ i => j - (intOf i).toNat)
     case atStart => exact ⟨0, _, Nat.zero_le _, rfl, rfl, rfl⟩
     case round =>
      obtain ⟨k, y, hk, rfl, rfl, hy⟩ := hrel
      have HY := Lib.hid hy
      clear hy
      obtain ⟨y0, y1⟩ := accL_up _ l k (by omega) (by omega) (by omega) y HY.out
      by_cases hkj : k < j
      ·exfalso; omega
      ·obtain rfl : k = j := by omega
       have hs1 : Siz (w1.alloc (.cells #[.int .i64 ((k : Int) + 1), .int .i64 least, .int .i64 lead] 137)) := hs.below' (hb1.alloc hb1.size _)
       cases hp : isPt y with
       | false =>
         have E := Lib.hid (tk_zero (F.no l y hlj HY.out (fun hh => by rw [hp] at hh; cases hh.1)))
         have HP := Lib.hid hp
         clear hp
         go_wp2
         go_quiet ((go_at_call 90; exact quiet_more (isPt_same _ _ HP.out _)))
         go_wp2
         go_ret2
         exact ⟨E.out, below_drewN (hbM _) _⟩
       | true =>
         have HP := Lib.hid hp
         clear hp
         have hsM : ∀ m, Siz ((w1.alloc (.cells #[.int .i64 ((k : Int) + 1), .int .i64 least, .int .i64 lead] 137)).drewN m) := fun _ => hs1
         have q0 := p1.cell 0
         have q1 := p1.cell 1
         have q2 := p1.cell 2
         by_cases hi : ixP y 4 = k
         ·have E := Lib.hid (tk_is (m := (k : Int) + 1) (F.yes l y hlj HY.out HP.out hi) rfl)
          have HX := Lib.hid (show szA (ixP y 4) = #[.int .i64 ((k : Int) + 1), .int .i64 least, .int .i64 lead] by rw [show ixP y 4 = ixF a.toNat 4 from hi.trans HI.out.symm]; exact HZ.out)
          clear hi
          go_wp2
          go_region_held3 (fun w' => w'.cell? ⟨w1.heap.size, 0, none⟩ = some (.int .i64 ((k : Int) + 1)) ∧ w'.cell? ⟨w1.heap.size, 1, none⟩ = some (.int .i64 least) ∧ w'.cell? ⟨w1.heap.size, 2, none⟩ = some (.int .i64 lead)) (first | exact ⟨q0, q1, q2⟩ | exact ⟨(hb3.cell (p := ⟨w1.heap.size, 0, none⟩) (by simp)).trans q0, (hb3.cell (p := ⟨w1.heap.size, 1, none⟩) (by simp)).trans q1, (hb3.cell (p := ⟨w1.heap.size, 2, none⟩) (by simp)).trans q2⟩) (first | (go_at_call 90; refine (isPt_at _ _ HP.out _).mono ?_; rintro e w' ⟨rfl, rfl⟩) | (go_at_call 126; refine (sizeOf_at _ _ HX.out _ (hsM _)).mono ?_; rintro e w3 ⟨rfl, hb3⟩))
          all_goals
           have r0 := (hb3.cell (p := ⟨w1.heap.size, 0, none⟩) (by simp)).trans q0
           have hb4 : Below w.heap.size w w3 := (hbM _).trans (hb3.mono (hbM _).size)
           clear hb3
           go_wp2
           go_quiet (fail)
           go_wp2
           go_ret2
           exact ⟨E.out, below_drewN hb4 _⟩
         ·have E := Lib.hid (tk_zero (F.no l y hlj HY.out (fun hh => hi hh.2)))
          obtain ⟨i, hi'⟩ : ∃ i, ixP y 4 = i := ⟨_, rfl⟩
          obtain ⟨p, q, hpq⟩ := szA_cnt (ixP y 4) (ixP_le y)
          rw [hi'] at hpq hi
          have HX := Lib.hid (show szA (ixP y 4) = #[.int .i64 ((i : Int) + 1), .int .i64 p, .int .i64 q] by rw [hi']; exact hpq)
          have t1 : (((i : Int) + 1) == ((k : Int) + 1)) = false := beq_false_of_ne (by omega)
          clear hi hi' hpq
          go_wp2
          go_region_held3 (fun w' => w'.cell? ⟨w1.heap.size, 0, none⟩ = some (.int .i64 ((k : Int) + 1)) ∧ w'.cell? ⟨w1.heap.size, 1, none⟩ = some (.int .i64 least) ∧ w'.cell? ⟨w1.heap.size, 2, none⟩ = some (.int .i64 lead)) (first | exact ⟨q0, q1, q2⟩ | exact ⟨(hb3.cell (p := ⟨w1.heap.size, 0, none⟩) (by simp)).trans q0, (hb3.cell (p := ⟨w1.heap.size, 1, none⟩) (by simp)).trans q1, (hb3.cell (p := ⟨w1.heap.size, 2, none⟩) (by simp)).trans q2⟩) (first | (go_at_call 90; refine (isPt_at _ _ HP.out _).mono ?_; rintro e w' ⟨rfl, rfl⟩) | (go_at_call 126; refine (sizeOf_at _ _ HX.out _ (hsM _)).mono ?_; rintro e w3 ⟨rfl, hb3⟩))
          all_goals
           have hb4 : Below w.heap.size w w3 := (hbM _).trans (hb3.mono (hbM _).size)
           clear hb3
           go_wp2
           go_ret2
           exact ⟨E.out, hb4⟩
    ·go_wp2
     go_loop [5, 34] (fun x i => ∃ (k : Nat) (y : Int), k ≤ j ∧ i = .int .i64 k ∧ x = .int .i64 y ∧ accL ((a.toNat : Int) - lead) (l.take k) = some y) (fun _ i => j - (intOf i).toNat)
     case atStart => exact ⟨0, _, Nat.zero_le _, rfl, rfl, rfl⟩
     case round =>
      obtain ⟨k, y, hk, rfl, rfl, hy⟩ := hrel
      have HY := Lib.hid hy
      clear hy
      obtain ⟨y0, y1⟩ := accL_up _ l k (by omega) (by omega) (by omega) y HY.out
      by_cases hkj : k < j
      ·have hck := (hb1.cell (p := ⟨b, o + 1 + k, none⟩) hb).trans (hcs k (by omega))
       have hd := (l[k]'(by omega)).toNat_lt
       have HS := Lib.hid (accL_step _ l k (by omega) y HY.out)
       by_cases hf : fol (l[k]'(by omega)) = true
       ·have HF := Lib.hid hf
        obtain ⟨f0, f1⟩ := (fol_iff _).1 hf
        clear hf
        go_wp2
        go_round
        case rel => exact ⟨k + 1, _, by omega, by go_num, rfl, by rw [HS.out, if_pos HF.out]⟩
        case measure => simp [intOf]; omega
       ·have E := Lib.hid (tk_zero (F.none_ l hlj (accL_none _ l (k + 1) j (by omega) (by rw [HS.out, if_neg hf]))))
        have hf2 : ¬ (128 ≤ (l[k]'(by omega)).toNat ∧ (l[k]'(by omega)).toNat < 192) := fun h => hf ((fol_iff _).2 h)
        by_cases f0 : (l[k]'(by omega)).toNat < 128
        ·clear hf hf2
         go_wp2
         go_ret2
         exact ⟨E.out, hbM _⟩
        ·have f1 : 192 ≤ (l[k]'(by omega)).toNat := by omega
         clear hf hf2
         go_wp2
         go_ret2
         exact ⟨E.out, hbM _⟩
      ·obtain rfl : k = j := by omega
       have hs1 : Siz (w1.alloc (.cells #[.int .i64 ((k : Int) + 1), .int .i64 least, .int .i64 lead] 137)) := hs.below' (hb1.alloc hb1.size _)
       cases hp : isPt y with
       | false =>
         have E := Lib.hid (tk_zero (F.no l y hlj HY.out (fun hh => by rw [hp] at hh; cases hh.1)))
         have HP := Lib.hid hp
         clear hp
         go_wp2
         go_quiet ((go_at_call 90; exact quiet_more (isPt_same _ _ HP.out _)))
         go_wp2
         go_ret2
         exact ⟨E.out, below_drewN (hbM _) _⟩
       | true =>
         have HP := Lib.hid hp
         clear hp
         have hsM : ∀ m, Siz ((w1.alloc (.cells #[.int .i64 ((k : Int) + 1), .int .i64 least, .int .i64 lead] 137)).drewN m) := fun _ => hs1
         have q0 := p1.cell 0
         have q1 := p1.cell 1
         have q2 := p1.cell 2
         by_cases hi : ixP y 4 = k
         ·have E := Lib.hid (tk_is (m := (k : Int) + 1) (F.yes l y hlj HY.out HP.out hi) rfl)
          have HX := Lib.hid (show szA (ixP y 4) = #[.int .i64 ((k : Int) + 1), .int .i64 least, .int .i64 lead] by rw [show ixP y 4 = ixF a.toNat 4 from hi.trans HI.out.symm]; exact HZ.out)
          clear hi
          go_wp2
          go_region_held3 (fun w' => w'.cell? ⟨w1.heap.size, 0, none⟩ = some (.int .i64 ((k : Int) + 1)) ∧ w'.cell? ⟨w1.heap.size, 1, none⟩ = some (.int .i64 least) ∧ w'.cell? ⟨w1.heap.size, 2, none⟩ = some (.int .i64 lead)) (first | exact ⟨q0, q1, q2⟩ | exact ⟨(hb3.cell (p := ⟨w1.heap.size, 0, none⟩) (by simp)).trans q0, (hb3.cell (p := ⟨w1.heap.size, 1, none⟩) (by simp)).trans q1, (hb3.cell (p := ⟨w1.heap.size, 2, none⟩) (by simp)).trans q2⟩) (first | (go_at_call 90; refine (isPt_at _ _ HP.out _).mono ?_; rintro e w' ⟨rfl, rfl⟩) | (go_at_call 126; refine (sizeOf_at _ _ HX.out _ (hsM _)).mono ?_; rintro e w3 ⟨rfl, hb3⟩))
          all_goals
           have r0 := (hb3.cell (p := ⟨w1.heap.size, 0, none⟩) (by simp)).trans q0
           have hb4 : Below w.heap.size w w3 := (hbM _).trans (hb3.mono (hbM _).size)
           clear hb3
           go_wp2
           go_quiet (fail)
           go_wp2
           go_ret2
           exact ⟨E.out, below_drewN hb4 _⟩
         ·have E := Lib.hid (tk_zero (F.no l y hlj HY.out (fun hh => hi hh.2)))
          obtain ⟨i, hi'⟩ : ∃ i, ixP y 4 = i := ⟨_, rfl⟩
          obtain ⟨p, q, hpq⟩ := szA_cnt (ixP y 4) (ixP_le y)
          rw [hi'] at hpq hi
          have HX := Lib.hid (show szA (ixP y 4) = #[.int .i64 ((i : Int) + 1), .int .i64 p, .int .i64 q] by rw [hi']; exact hpq)
          have t1 : (((i : Int) + 1) == ((k : Int) + 1)) = false := beq_false_of_ne (by omega)
          clear hi hi' hpq
          go_wp2
          go_region_held3 (fun w' => w'.cell? ⟨w1.heap.size, 0, none⟩ = some (.int .i64 ((k : Int) + 1)) ∧ w'.cell? ⟨w1.heap.size, 1, none⟩ = some (.int .i64 least) ∧ w'.cell? ⟨w1.heap.size, 2, none⟩ = some (.int .i64 lead)) (first | exact ⟨q0, q1, q2⟩ | exact ⟨(hb3.cell (p := ⟨w1.heap.size, 0, none⟩) (by simp)).trans q0, (hb3.cell (p := ⟨w1.heap.size, 1, none⟩) (by simp)).trans q1, (hb3.cell (p := ⟨w1.heap.size, 2, none⟩) (by simp)).trans q2⟩) (first | (go_at_call 90; refine (isPt_at _ _ HP.out _).mono ?_; rintro e w' ⟨rfl, rfl⟩) | (go_at_call 126; refine (sizeOf_at _ _ HX.out _ (hsM _)).mono ?_; rintro e w3 ⟨rfl, hb3⟩))
          all_goals
           have hb4 : Below w.heap.size w w3 := (hbM _).trans (hb3.mono (hbM _).size)
           clear hb3
           go_wp2
           go_ret2
           exact ⟨E.out, hb4⟩
section
section
variable {P : Program} {ops : Array Oper} {md : Region.Mode} {w1 : World} {K : List Fact} {ix iz : Nat} {R1 : (Tmp → Value) → World → World → Prop} {aF : (Tmp → Value) → Act} {i : Nat} {o : Oper}
end
end
end Go.Proofs.YtceipblcdcgljaaGreatDoor
