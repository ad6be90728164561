/-
  Words for memory: a block that is known whole; a slice that lies below a block; a slice cut at a place; a reader's box. slices.Grow of nothing, and slices.Concat, of rows of bytes.
-/
import Derived.Test.YtjlhhelikiegdaaGreatDoorG02
import Derived.Laws.Rows
import Derived.Lib.AppendZeros
import Derived.LaidMore
namespace Go.Proofs.YtjlhhelikiegdaaGreatDoor
open Go.RowKit
section
def Blk (w : World) (g : Nat) (t : TypeId) (cs : Array Value) : Prop := w.heap[g]? = some (.cells cs t (0, 0))
section
variable {w w' : World} {g : Nat} {t : TypeId} {cs : Array Value}
theorem Blk.lt (h : Blk w g t cs) : g < w.heap.size := (Array.getElem?_eq_some_iff.1 h).1
theorem Blk.cell (h : Blk w g t cs) (i : Nat) : w.cell? ⟨g, i, none⟩ = cs[i]? := cell_of_row w g i cs t (0, 0) h
theorem Blk.frozen (h : Blk w g t cs) (i : Nat) : w.frozen? ⟨g, i, none⟩ = false := frozen_of_row w g i cs t h
theorem Blk.new (w : World) (t : TypeId) (cs : Array Value) : Blk (w.alloc (.cells cs t)) w.heap.size t cs := heap_alloc_new w _
theorem Blk.drewN (h : Blk w g t cs) (n : Nat) : Blk (w.drewN n) g t cs := h
theorem Blk.alloc (h : Blk w g t cs) (o : Obj) : Blk (w.alloc o) g t cs := (Below.heap_alloc w o g h.lt).trans h
theorem Blk.set (h : Blk w g t cs) (i : Nat) (u : Value) : Blk (w.setCell ⟨g, i, none⟩ u) g t (cs.setIfInBounds i u) := by
 have := heap_setCell_same w g i cs t u h
 simpa [Blk] using this
theorem Blk.far (h : Blk w g t cs) {a : Addr} (ha : g ≠ a.block) (u : Value) : Blk (w.setCell a u) g t cs := (heap_setCell_other w a g u ha).trans h
theorem Blk.far3 (h : Blk w g t cs) {b : Nat} (hb : g ≠ b) (x y z : Value) : Blk (((w.setCell ⟨b, 0, none⟩ x).setCell ⟨b, 1, none⟩ y).setCell ⟨b, 2, none⟩ z) g t cs :=
 ((h.far (a := ⟨b, 0, none⟩) hb x).far (a := ⟨b, 1, none⟩) hb y).far (a := ⟨b, 2, none⟩) hb z
theorem Blk.set3 {p q r : Value} (h : Blk w g t #[p, q, r]) (x y z : Value) : Blk (((w.setCell ⟨g, 0, none⟩ x).setCell ⟨g, 1, none⟩ y).setCell ⟨g, 2, none⟩ z) g t #[x, y, z] := by
 have h1 : Blk (w.setCell ⟨g, 0, none⟩ x) g t #[x, q, r] := h.set 0 x
 have h2 : Blk ((w.setCell ⟨g, 0, none⟩ x).setCell ⟨g, 1, none⟩ y) g t #[x, y, r] := h1.set 1 y
 exact h2.set 2 z
theorem set3_size (w : World) (b : Nat) (x y z : Value) : (((w.setCell ⟨b, 0, none⟩ x).setCell ⟨b, 1, none⟩ y).setCell ⟨b, 2, none⟩ z).heap.size = w.heap.size := by simp
theorem below_set3 {B : Nat} {a : World} (h : Below B a w) {b : Nat} (hb : B ≤ b) (x y z : Value) : Below B a (((w.setCell ⟨b, 0, none⟩ x).setCell ⟨b, 1, none⟩ y).setCell ⟨b, 2, none⟩ z) :=
 ((h.setCell (p := ⟨b, 0, none⟩) hb x).setCell (p := ⟨b, 1, none⟩) hb y).setCell (p := ⟨b, 2, none⟩) hb z
theorem Blk.below {B : Nat} (h : Blk w g t cs) (hb : Below B w w') (hg : g < B) : Blk w' g t cs := (hb.block g hg).trans h
end
def RdIn (n₁ : Nat) (w : World) (A : Option Addr) (xs : List Value) : Prop :=
 0 < xs.length → ∃ b o, A = some ⟨b, o, none⟩ ∧ b < n₁ ∧ ∀ k u, xs[k]? = some u → w.cell? ⟨b, o + k, none⟩ = some u
theorem RdIn.of {w : World} {A : Option Addr} {xs : List Value} (h : Rd w A xs) : RdIn w.heap.size w A xs := h
theorem RdIn.below {n₁ : Nat} {w w' : World} {A : Option Addr} {xs : List Value} (h : RdIn n₁ w A xs) (hb : Below n₁ w w') : RdIn n₁ w' A xs := fun hp => by
 obtain ⟨b, o, rfl, hlt, hc⟩ := h hp
 exact ⟨b, o, rfl, hlt, fun k u hu => (hb.cell (p := ⟨b, o + k, none⟩) hlt).trans (hc k u hu)⟩
theorem RdIn.drop {n₁ : Nat} {w : World} {b o : Nat} {t : List UInt8} (h : RdIn n₁ w (some ⟨b, o, none⟩) (bs t)) (k : Nat) (hk : k < t.length) : Rd w (some ⟨b, o + k, none⟩) (bs (t.drop k)) := fun _ => by
 obtain ⟨b', o', hA, _, hc⟩ := h (by rw [bs_length]; omega)
 simp only [Option.some.injEq, Addr.mk.injEq, and_true] at hA
 obtain ⟨rfl, rfl⟩ := hA
 have h0 := hc k _ (bs_get t k hk)
 refine ⟨b, o + k, rfl, World.block_lt_of_cell? w _ h0, fun i u hu => ?_⟩
 rw [Nat.add_assoc]
 apply hc
 simp only [bs, List.map_drop, List.getElem?_drop] at hu
 exact hu
theorem Blk.grown {w w' : World} {g : Nat} {t : TypeId} {cs : Array Value} {row : Option Nat} (h : Blk w g t cs) (hb : w.grownBy w' row) (hg : row ≠ some g) : Blk w' g t cs := (hb.block g h.lt (fun e => hg e.symm)).trans h
theorem RdIn.rd {n₁ : Nat} {w : World} {A : Option Addr} {xs : List Value} (h : RdIn n₁ w A xs) (hn : n₁ ≤ w.heap.size) : Rd w A xs := fun hp => by
 obtain ⟨b, o, rfl, hlt, hc⟩ := h hp
 exact ⟨b, o, rfl, by omega, hc⟩
theorem RdIn.grown {n₁ : Nat} {w w' : World} {A : Option Addr} {xs : List Value} (h : RdIn n₁ w A xs) (hg : w.grownBy w' (some n₁)) (hn : n₁ < w.heap.size) : RdIn n₁ w' A xs := fun hp => by
 obtain ⟨b, o, rfl, hlt, hc⟩ := h hp
 exact ⟨b, o, rfl, hlt, fun k u hu => (World.cell?_of_block (w := w) (a := ⟨b, o + k, none⟩) (hg.block b (by omega) (fun e => by injection e with e; omega))).trans (hc k u hu)⟩
theorem grown_trans {w w' w'' : World} {row : Option Nat} (h : w.grownBy w' row) (h' : w'.grownBy w'' row) : w.grownBy w'' row :=
 ⟨h'.os.trans h.os, h'.tape.trans h.tape, h'.output.trans h.output, Nat.le_trans h.size h'.size, fun k hk hr => (h'.block k (Nat.lt_of_lt_of_le hk h.size) hr).trans (h.block k hk hr)⟩
theorem grown_below {w w' : World} (row : Option Nat) (h : Below w.heap.size w w') : w.grownBy w' row := ⟨h.os, h.tape, h.output, h.size, fun k hk _ => h.block k hk⟩
theorem below_grown {B g : Nat} {w w' : World} (h : w.grownBy w' (some g)) (hB : B ≤ g) (hg : g < w.heap.size) : Below B w w' := ⟨h.os, h.tape, h.output, h.size, fun k hk => h.block k (by omega) (fun e => by injection e with e; omega)⟩
theorem cut_run {P : Program} {T e : TypeId} (he : P.elem T = e) (hT : P.underlying T = some (.slice e)) (hs : ∀ w, (sizeOf e).run P w = .ok 1 w) (A : Option Addr) (n c k : Nat) (hk : k ≤ n) (hn : n ≤ c) :
 ∃ A', (∀ w : World, (Instr.slice T (.slice A n c) (some (.int .i64 (k : Int))) none none).run P w = .ok (.slice A' (n - k) (c - k)) w) ∧
   ∀ (n₁ : Nat) (w : World) (l : List UInt8), l.length = n → RdIn n₁ w A (bs l) → RdIn n₁ w A' (bs (l.drop k)) := by
 subst he
 refine ⟨if c = k then A else A.map (·.add (k * 1)), fun w => ?_, fun n₁ w l hl hr => ?_⟩
 ·rw [run_slice_l w T A n c hT .i64 (k : Int) (by omega) (by omega), hs]
  simp [Result.andThen, sliced]
 ·intro hp
  rw [bs_length, List.length_drop] at hp
  obtain ⟨b, o, rfl, hb, hc⟩ := hr (by rw [bs_length]; omega)
  rw [if_neg (by omega)]
  refine ⟨b, o + k, ?_, hb, fun i u hu => ?_⟩
  ·rw [Option.map_some, addr_add_at, Nat.mul_one]
  ·rw [Nat.add_assoc]
   apply hc
   simp only [bs, List.map_drop, List.getElem?_drop] at hu
   exact hu
theorem cut2_run {P : Program} {T e : TypeId} (he : P.elem T = e) (hT : P.underlying T = some (.slice e)) (hs : ∀ w, (sizeOf e).run P w = .ok 1 w) (A : Option Addr) (n c lo hi : Nat) (hk : lo ≤ hi) (hh : hi ≤ n) (hn : n ≤ c) :
 ∃ A', (∀ w : World, (Instr.slice T (.slice A n c) (some (.int .i64 (lo : Int))) (some (.int .i64 (hi : Int))) none).run P w = .ok (.slice A' (hi - lo) (c - lo)) w) ∧
   ∀ (n₁ : Nat) (w : World) (l : List UInt8), l.length = n → RdIn n₁ w A (bs l) → RdIn n₁ w A' (bs ((l.drop lo).take (hi - lo))) := by
 subst he
 refine ⟨if c = lo then A else A.map (·.add (lo * 1)), fun w => ?_, fun n₁ w l hl hr => ?_⟩
 ·rw [run_slice_lh w T A n c hT .i64 .i64 (lo : Int) (hi : Int) (by omega) (by omega) (by omega), hs]
  simp [Result.andThen, sliced]
 ·intro hp
  rw [bs_length, List.length_take, List.length_drop] at hp
  obtain ⟨b, o, rfl, hb, hc⟩ := hr (by rw [bs_length]; omega)
  rw [if_neg (by omega)]
  refine ⟨b, o + lo, ?_, hb, fun i u hu => ?_⟩
  ·rw [Option.map_some, addr_add_at, Nat.mul_one]
  ·rw [Nat.add_assoc]
   apply hc
   have hi : i < hi - lo := by
    have := (List.getElem?_eq_some_iff.1 hu).1
    rw [bs_length, List.length_take] at this
    omega
   simp only [bs, List.map_take, List.map_drop, List.getElem?_take, if_pos hi, List.getElem?_drop] at hu
   exact hu
end
def RdBs (w : World) (A : Option Addr) (ls : List (List UInt8)) : Prop :=
 0 < ls.length → ∃ b o, A = some ⟨b, o, none⟩ ∧ b < w.heap.size ∧ ∀ k (hk : k < ls.length), ∃ A' c', w.cell? ⟨b, o + k, none⟩ = some (.slice A' (ls[k]).length c') ∧ Rd w A' (bs ls[k])
theorem RdBs.below {w w' : World} {A : Option Addr} {ls : List (List UInt8)} (h : RdBs w A ls) (hb : Below w.heap.size w w') : RdBs w' A ls := fun hp => by
 obtain ⟨b, o, rfl, hlt, hc⟩ := h hp
 refine ⟨b, o, rfl, Nat.lt_of_lt_of_le hlt hb.size, fun k hk => ?_⟩
 obtain ⟨A', c', h1, h2⟩ := hc k hk
 exact ⟨A', c', (hb.cell (p := ⟨b, o + k, none⟩) hlt).trans h1, h2.below hb⟩
theorem flat_step {α : Type} (ls : List (List α)) {k : Nat} (h : k < ls.length) : (ls.take (k + 1)).flatten = (ls.take k).flatten ++ ls[k] := by
 rw [List.take_succ_eq_append_getElem h, List.flatten_append]; simp
theorem flat_le {α : Type} (ls : List (List α)) (k : Nat) : (ls.take k).flatten.length ≤ ls.flatten.length := by
 have : ls.flatten = (ls.take k).flatten ++ (ls.drop k).flatten := by rw [← List.flatten_append, List.take_append_drop]
 rw [this, List.length_append]; omega
set_option maxRecDepth 100000 in
set_option maxHeartbeats 4000000 in
theorem grow_any (n : Nat) (hn : n ≤ 4294967296) (w : World) : Calls Tryz.prog 55 #[.slice none 0 0, .int .i64 n] w fun e w' => ∃ A c, e = .returned (.slice A 0 c) ∧ Own w' w.heap.size 5 1 (.slice A 0 c) 0 [] ∧ Below w.heap.size w w' := by
 obtain ⟨i0, hi0, hz0, hz1, hz2⟩ : ∃ i, Tryz.prog.info? 5 = some i ∧ i.zero = some (.int .u8 0) ∧ i.size = 1 ∧ i.bytes = 1 := ⟨_, rfl, rfl, rfl, rfl⟩
 have n0 : ¬ ((n : Int) < 0) := by omega
 by_cases h0 : n = 0
 ·subst h0
  go_enter Tryz.func55, Tryz.ntmps55
  go_wp2_with fail
  go_ret
  exact ⟨none, 0, rfl, Own.nil_ _ _ _ _, Below.refl _ _⟩
 ·have n1 : (0 : Int) < (n : Int) := by omega
  have hw1 : IntKind.i64.wrap (n : Int) = n := by rw [IntKind.wrap_i64]; omega
  have hw2 : IntKind.i64.wrap ((n : Int) - 0) = n := by rw [IntKind.wrap_i64]; omega
  have happ := Lib.run_append_nil_zeros (P := Tryz.prog) w 25 3 25 5 i0 (.int .u8 0) .i64 .i64 Tryz.underlying25 Tryz.underlying3 hi0 hz0 n (by omega) (by omega) (by omega) (by rw [hz2]; omega)
  generalize hcap : grownCap w n 0 5 = cap2 at happ
  have hcapge : n ≤ cap2 := by rw [← hcap]; exact grownCap_ge w _ 0 5
  have hcaple : cap2 ≤ maxLen := by rw [← hcap]; exact grownCap_le_maxLen w _ 0 5 (by unfold maxLen; omega)
  generalize hZ : (Builtin.zeroCells (Value.int .u8 0).cells n ++ Builtin.zeroCells (Value.int .u8 0).cells (cap2 - n)) = Z at happ
  have hZs : Z.size = cap2 := by rw [← hZ]; simp [size_zeroCells, Value.cells]; omega
  clear hcap hZ
  have hown : Own (w.drew.alloc (.cells Z 5)) w.heap.size 5 1 (.slice (some ⟨w.heap.size, 0, none⟩) 0 cap2) 0 [] := by
   refine ⟨by simp, .inr ⟨w.heap.size, cap2, rfl, Nat.le_refl _, ⟨Z, (0, 0), heap_alloc_new w.drew _⟩, Nat.zero_le _, hcaple, fun j u hu => by simp at hu, fun j hj => ?_⟩⟩
   have hd : w.heap.size = w.drew.heap.size := rfl
   rw [hd, cell_of_row _ _ j _ _ _ (heap_alloc_new w.drew _)]
   exact ⟨by simpa using (by omega : j < Z.size), frozen_of_row _ _ j _ _ (heap_alloc_new w.drew _)⟩
  have hB : Below w.heap.size w (w.drew.alloc (.cells Z 5)) := below_drewN ((Below.refl _ w).alloc (Nat.le_refl _) (.cells Z 5)) 1
  go_enter Tryz.func55, Tryz.ntmps55
  go_wp2_with (at_builtin; refine Lib.wpList_append_run _ rfl _ _ _ _ rfl _ _ rfl rfl _ _ happ ?_)
  go_ret
  exact ⟨_, _, rfl, hown, hB⟩
set_option maxRecDepth 100000 in
set_option maxHeartbeats 8000000 in
theorem concat_any (A : Option Addr) (c : Nat) (ls : List (List UInt8)) (L : List UInt8) (m n : Nat) (hls : ls.length = m) (hm : m ≤ 1000) (hL : ls.flatten = L) (hn : L.length = n) (hl : n ≤ 4294967296) (w : World) (hr : RdBs w A ls) :
 Calls Tryz.prog 39 #[.slice A m c] w fun e w' => ∃ B d, e = .returned (.slice B n d) ∧ Own w' w.heap.size 5 1 (.slice B n d) n (bs L) ∧ Below w.heap.size w w' := by
 obtain ⟨i0, hi0, hz0, hz1, hz2⟩ : ∃ i, Tryz.prog.info? 5 = some i ∧ i.zero = some (.int .u8 0) ∧ i.size = 1 ∧ i.bytes = 1 := ⟨_, rfl, rfl, rfl, rfl⟩
 have HM := Lib.hid hls
 have HN := Lib.hid hn
 have HL := Lib.hid hL
 clear hls hn hL
 go_enter Tryz.func39, Tryz.ntmps39
 go_wp2_with fail
 go_loopw [3, 11] (fun sm i wr => ∃ (k p : Nat), k ≤ m ∧ p ≤ n ∧ i = .int .i64 k ∧ sm = .int .i64 p ∧ Hid ((ls.take k).flatten.length = p) ∧ Below w.heap.size w wr) (fun _ i _ => m - (intOf i).toNat)
 case atStart => exact ⟨0, 0, Nat.zero_le _, Nat.zero_le _, rfl, rfl, Lib.hid (by simp), Below.refl _ _⟩
 case round =>
  obtain ⟨k, p, hk, hp, rfl, rfl, HP, hbw⟩ := hrel
  by_cases hlt : k < m
  ·have hkl : k < ls.length := by rw [HM.out]; exact hlt
   obtain ⟨b, o, hA, hb, hc⟩ := hr (by omega)
   subst hA
   obtain ⟨A', c', hck, _⟩ := hc k hkl
   have hck := (hbw.cell (p := ⟨b, o + k, none⟩) hb).trans hck
   obtain ⟨x, hx⟩ : ∃ x, ls[k]'hkl = x := ⟨_, rfl⟩
   rw [hx] at hck
   obtain ⟨q, hq⟩ : ∃ q, x.length = q := ⟨_, rfl⟩
   rw [hq] at hck
   have hle := flat_le ls (k + 1)
   have hst := flat_step ls hkl
   rw [hst, List.length_append, HP.out, hx, hq, HL.out, HN.out] at hle
   have HP2 : Hid ((ls.take (k + 1)).flatten.length = p + q) := Lib.hid (by rw [hst, List.length_append, HP.out, hx, hq])
   have hw : IntKind.i64.wrap ((p : Int) + (q : Int)) = ((p + q : Nat) : Int) := by rw [IntKind.wrap_i64]; omega
   have hneg : ¬ (((p + q : Nat) : Int) < 0) := by omega
   have g0 : (0 : Int) ≤ (k : Int) := by omega
   have g1 : (k : Int) < (m : Int) := by omega
   clear hc hx hst
   go_wp2_with fail
   go_roundw
   case rel => exact ⟨k + 1, p + q, by omega, hle, by go_num, rfl, HP2, hbw⟩
   case measure => simp [intOf]; omega
  ·obtain rfl : k = m := by omega
   have hpn : p = n := by rw [← HP.out, List.take_of_length_le (by rw [HM.out]; exact Nat.le_refl _), HL.out, HN.out]
   subst hpn
   go_wp2_with fail
   refine (grow_any p hl _).mono ?_
   rintro e w1 ⟨B0, d0, rfl, own0, hb1⟩
   have hB1 := hbw.trans (hb1.mono hbw.size)
   have own1 := own0.mono hbw.size
   clear own0 hb1 hbw
   go_wp2_with fail
   go_loopw [6, 27] (fun v i w2 => ∃ (j q : Nat) (u : Value), j ≤ k ∧ q ≤ p ∧ i = .int .i64 j ∧ u = v ∧ Own w2 w.heap.size 5 1 u q (bs (ls.take j).flatten) ∧ Hid ((ls.take j).flatten.length = q) ∧ Below w.heap.size w w2) (fun _ i _ => k - (intOf i).toNat)
   case atStart => exact ⟨0, 0, _, Nat.zero_le _, Nat.zero_le _, rfl, rfl, own1, Lib.hid (by simp), hB1⟩
   case round =>
    obtain ⟨j, q, u, hj, hq, rfl, rfl, own2, HQ, hb2⟩ := hrel
    clear own1 hB1
    by_cases hlt2 : j < k
    ·have hkl : j < ls.length := by rw [HM.out]; exact hlt2
     obtain ⟨b, o, hA, hb, hc⟩ := (hr.below (hb2.mono (Nat.le_refl _))) (by omega)
     subst hA
     obtain ⟨A', c', hck, hrd⟩ := hc j hkl
     obtain ⟨x, hx⟩ : ∃ x, ls[j]'hkl = x := ⟨_, rfl⟩
     rw [hx] at hck hrd
     obtain ⟨t, ht⟩ : ∃ t, x.length = t := ⟨_, rfl⟩
     rw [ht] at hck
     have hle := flat_le ls (j + 1)
     have hst := flat_step ls hkl
     rw [hst, List.length_append, HQ.out, hx, ht, HL.out, HN.out] at hle
     have HQ2 : Hid ((ls.take (j + 1)).flatten.length = q + t) := Lib.hid (by rw [hst, List.length_append, HQ.out, hx, ht])
     have HS := Lib.hid (show bs (ls.take j).flatten ++ bs x = bs (ls.take (j + 1)).flatten by rw [hst, bs_append, hx])
     have g0 : (0 : Int) ≤ (j : Int) := by omega
     have g1 : (j : Int) < (k : Int) := by omega
     have hxl : (bs x).length = t * 1 := by rw [bs_length, ht]; omega
     have h63 : q + t ≤ maxLen := by simp only [maxLen]; omega
     have hlim : (q + t) * 1 ≤ 140737488355328 := by omega
     have hs2 := hb2.size
     clear hc hx hst
     go_wp2_with (at_builtin; refine list_app _ rfl (.tmp 31) (.tmp 32) 25 rfl w.heap.size 5 i0 _ 1 1 Tryz.underlying25 hi0 hz0 hz1 hz2 rfl Nat.one_pos u q _ rfl own2 A' t c' (bs x) rfl hxl hrd (bs_one _) h63 hlim hs2 ?_; intro v2 w3 own3 hg3)
     have hb3 := hb2.grown hg3 hs2 (fun g hg => (own2.lt g hg).1)
     rw [HS.out] at own3
     go_wp2_with fail
     go_roundw
     case rel => exact ⟨j + 1, q + t, _, by omega, hle, by go_num, rfl, own3, HQ2, hb3⟩
     case measure => simp [intOf]; omega
    ·obtain rfl : j = k := by omega
     have hfl : (ls.take j).flatten = L := by rw [List.take_of_length_le (by rw [HM.out]; exact Nat.le_refl _), HL.out]
     rw [hfl] at own2 HQ
     have hqp : q = p := by rw [← HQ.out, HN.out]
     subst hqp
     obtain ⟨B, d, rfl, _⟩ := own2.form
     go_wp2_with fail
     go_ret
     exact ⟨B, d, rfl, own2, hb2⟩
end Go.Proofs.YtjlhhelikiegdaaGreatDoor
