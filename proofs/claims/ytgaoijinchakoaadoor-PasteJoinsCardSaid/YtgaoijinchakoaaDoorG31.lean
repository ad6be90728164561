/-
  Layer 3, walked: the program's Num.
-/
import Derived.Test.YtgaoijinchakoaaDoorG27
import Derived.Test.YtgaoijinchakoaaDoorG30
import Derived.Deep.Cut
namespace Go.Proofs.YtgaoijinchakoaaDoor
open Go.RowKit
def numS (a b : UInt8) (l : List Int) : Sq := ⟨1, a, l.map fun n => [n], [], b, []⟩
def NumP (a b : UInt8) (l : List Int) (w : World) (e : Ending) (w' : World) : Prop :=
 (∃ A c, e = .returned (sqV (numS a b l) A c) ∧ RdP w' A (numS a b l).params) ∧ Below w.heap.size w w'
def NumPN (a b : UInt8) (l : List Int) (w : World) (e : Ending) (w' : World) : Prop :=
 (∃ A c g, e = .returned (sqV (numS a b l) A c) ∧ RdPN g w' A (numS a b l).params) ∧ Below w.heap.size w w'
set_option maxRecDepth 100000 in
set_option maxHeartbeats 8000000 in
theorem num_anyN (a b : UInt8) (A : Option Addr) (n c : Nat) (l : List Int) (w : World) (hn : l.length = n) (hl : n ≤ 4294967296) (hr : Rd w A (is_ l)) :
 Calls Tryd.prog 39 #[.int .u8 (a.toNat : Int), .int .u8 (b.toNat : Int), .slice A n c] w (NumPN a b l w) := by
 obtain ⟨j0, hj, hy0, hy1, hy2⟩ : ∃ i, Tryd.prog.info? 35 = some i ∧ i.zero = some (.slice none 0 0) ∧ i.size = 1 ∧ i.bytes = 24 := ⟨_, rfl, rfl, rfl, rfl⟩
 have HN := Lib.hid hn
 clear hn
 go_enter Tryd.func39, Tryd.ntmps39
 go_wp2_with fail
 have hb0 : Below w.heap.size w ((w.alloc (.cells #[.int .i64 0, .int .u8 0, .slice none 0 0, .string ⟨#[]⟩, .int .u8 0, .string ⟨#[]⟩] 53)).alloc (.cells #[.int .i64 1, .int .u8 (a.toNat : Int), .slice none 0 0, .string ⟨#[]⟩, .int .u8 (b.toNat : Int), .string ⟨#[]⟩] 53)) := ((Below.refl _ w).alloc (Nat.le_refl _) _).alloc (by simp) _
 have hz0 : Blk ((w.alloc (.cells #[.int .i64 0, .int .u8 0, .slice none 0 0, .string ⟨#[]⟩, .int .u8 0, .string ⟨#[]⟩] 53)).alloc (.cells #[.int .i64 1, .int .u8 (a.toNat : Int), .slice none 0 0, .string ⟨#[]⟩, .int .u8 (b.toNat : Int), .string ⟨#[]⟩] 53)) w.heap.size 53 #[.int .i64 0, .int .u8 0, .slice none 0 0, .string ⟨#[]⟩, .int .u8 0, .string ⟨#[]⟩] := (Blk.new w _ _).alloc _
 have hs0 := Blk.new (w.alloc (.cells #[.int .i64 0, .int .u8 0, .slice none 0 0, .string ⟨#[]⟩, .int .u8 0, .string ⟨#[]⟩] 53)) 53 #[.int .i64 1, .int .u8 (a.toNat : Int), .slice none 0 0, .string ⟨#[]⟩, .int .u8 (b.toNat : Int), .string ⟨#[]⟩]
 rw [World.size_alloc] at hs0
 have hsz : ((w.alloc (.cells #[.int .i64 0, .int .u8 0, .slice none 0 0, .string ⟨#[]⟩, .int .u8 0, .string ⟨#[]⟩] 53)).alloc (.cells #[.int .i64 1, .int .u8 (a.toNat : Int), .slice none 0 0, .string ⟨#[]⟩, .int .u8 (b.toNat : Int), .string ⟨#[]⟩] 53)).heap.size = w.heap.size + 2 := by simp
 have HSZ := Lib.hid hsz
 clear hsz
 generalize ((w.alloc (.cells #[.int .i64 0, .int .u8 0, .slice none 0 0, .string ⟨#[]⟩, .int .u8 0, .string ⟨#[]⟩] 53)).alloc (.cells #[.int .i64 1, .int .u8 (a.toNat : Int), .slice none 0 0, .string ⟨#[]⟩, .int .u8 (b.toNat : Int), .string ⟨#[]⟩] 53)) = W0 at *
 have hg1 : w.heap.size < w.heap.size + 1 := Nat.lt_succ_self _
 have hg2 : w.heap.size + 1 < W0.heap.size := hs0.lt
 generalize w.heap.size + 1 = g at *
 go_loopw [15] (fun i wr => ∃ (k : Nat) (v : Value) (xs : List Value), k ≤ n ∧ i = .int .i64 k ∧ Own wr W0.heap.size 35 1 v k xs ∧ (∃ B2, B2 ≤ wr.heap.size ∧ Rows wr B2 3 xs ((l.take k).map fun n => [n])) ∧ Blk wr w.heap.size 53 #[.int .i64 0, .int .u8 0, .slice none 0 0, .string ⟨#[]⟩, .int .u8 0, .string ⟨#[]⟩] ∧ Blk wr g 53 #[.int .i64 1, .int .u8 (a.toNat : Int), v, .string ⟨#[]⟩, .int .u8 (b.toNat : Int), .string ⟨#[]⟩] ∧ Below w.heap.size w wr ∧ W0.heap.size ≤ wr.heap.size) (fun i _ => n - (intOf i).toNat)
 case atStart => exact ⟨0, _, [], Nat.zero_le _, rfl, Own.nil_ _ _ _ _, ⟨0, Nat.zero_le _, by rfl, fun k hk => absurd hk (by simp)⟩, hz0, hs0, hb0, Nat.le_refl _⟩
 case round =>
  obtain ⟨k, v, xs, hk, rfl, ho, ⟨B2, hB2, hrs⟩, hz, hs, hbw, hW⟩ := hrel
  clear hz0 hs0 hb0
  obtain ⟨c0, c1, c2, c3, c4, c5⟩ := Blk.cells6 hs
  have fz2 := hs.frozen 2
  by_cases hlt : k < n
  ·have hkl : k < l.length := by rw [HN.out]; exact hlt
   obtain ⟨bb, oo, hA, hbb, hcc⟩ := (hr.below hbw).int_at (by rw [HN.out]; omega)
   cases hA
   have hck := hcc k hkl
   obtain ⟨x, hx⟩ : ∃ x, l[k]'hkl = x := ⟨_, rfl⟩
   rw [hx] at hck
   have HX := Lib.hid (show l.take (k + 1) = l.take k ++ [x] by rw [List.take_succ_eq_append_getElem hkl, hx])
   clear hx hcc
   obtain ⟨Av, cv, rfl, _⟩ := ho.form
   have hown1 := (ho.alloc (.cells #[.int .i64 x] 3)).alloc (.cells #[.slice (some ⟨wr.heap.size, 0, none⟩) 1 1] 35)
   have hrd1 : Rd ((wr.alloc (.cells #[.int .i64 x] 3)).alloc (.cells #[.slice (some ⟨wr.heap.size, 0, none⟩) 1 1] 35)) (some ⟨wr.heap.size + 1, 0, none⟩) [.slice (some ⟨wr.heap.size, 0, none⟩) 1 1] := by
    have := Rd.block (xs := [.slice (some ⟨wr.heap.size, 0, none⟩) 1 1]) (heap_alloc_new (wr.alloc (.cells #[.int .i64 x] 3)) (.cells #[.slice (some ⟨wr.heap.size, 0, none⟩) 1 1] 35)) (by simp)
    rwa [World.size_alloc] at this
   have hin : RowI (wr.alloc (.cells #[.int .i64 x] 3)) (wr.heap.size + 1) 3 (some ⟨wr.heap.size, 0, none⟩) [x] := by
    obtain ⟨_, A', c', h1, h2⟩ := own_row (p := [x]) (own_lit (wr.alloc (.cells #[.int .i64 x] 3)) 0 3 wr.heap.size (.int .i64 x) (Nat.zero_le _) (heap_alloc_new wr _))
    cases h1
    rwa [World.size_alloc] at h2
   have hrs1 := ((hrs.keep (Nat.le_refl B2) (fun q hq _ => Below.heap_alloc wr (.cells #[.int .i64 x] 3) q (by omega))).keep (B' := wr.heap.size + 1) (by omega) (fun _ _ _ => rfl)).snoc2 (n := 1) rfl (c := 1) hin
   have hrs2 := hrs1.keep (Nat.le_refl _) (fun q hq _ => Below.heap_alloc (wr.alloc (.cells #[.int .i64 x] 3)) (.cells #[.slice (some ⟨wr.heap.size, 0, none⟩) 1 1] 35) q (by simp; omega))
   have hz2 := (hz.alloc (.cells #[.int .i64 x] 3)).alloc (.cells #[.slice (some ⟨wr.heap.size, 0, none⟩) 1 1] 35)
   have hs2 := (hs.alloc (.cells #[.int .i64 x] 3)).alloc (.cells #[.slice (some ⟨wr.heap.size, 0, none⟩) 1 1] 35)
   have hb2 : Below w.heap.size w ((wr.alloc (.cells #[.int .i64 x] 3)).alloc (.cells #[.slice (some ⟨wr.heap.size, 0, none⟩) 1 1] 35)) := (hbw.alloc hbw.size _).alloc (Nat.le_trans hbw.size (by simp)) _
   have h63 : k + 1 ≤ maxLen := by simp only [maxLen]; omega
   have hlim : (k + 1) * 24 ≤ 140737488355328 := by omega
   have hbs : W0.heap.size ≤ ((wr.alloc (.cells #[.int .i64 x] 3)).alloc (.cells #[.slice (some ⟨wr.heap.size, 0, none⟩) 1 1] 35)).heap.size := by simp; omega
   have hsz2 : wr.heap.size + 1 ≤ ((wr.alloc (.cells #[.int .i64 x] 3)).alloc (.cells #[.slice (some ⟨wr.heap.size, 0, none⟩) 1 1] 35)).heap.size := by simp
   clear hrs hrs1 hin ho
   go_wp2_with (first | (at_builtin; refine list_app _ rfl (.tmp 20) (.tmp 23) 51 rfl W0.heap.size 35 j0 _ 1 24 Tryd.underlying51 hj hy0 hy1 hy2 rfl Nat.one_pos _ _ _ rfl hown1 _ 1 1 [.slice (some ⟨wr.heap.size, 0, none⟩) 1 1] rfl rfl hrd1 (sl_one _ _ _) h63 hlim hbs ?_; intro v5 w5 hown5 hg5; obtain ⟨A5, c5, rfl, hf5⟩ := hown5.form; clear hf5; have hs5 := hs2.grown hg5 (hown1.no_cells hs2 (by decide)); have fz5 := hs5.frozen 2; obtain ⟨e0, e1, e2, e3, e4, e5⟩ := Blk.cells6 hs5))
   have hz5 := hz2.grown hg5 (hown1.no_cells hz2 (by decide))
   have hrs5 := hrs2.keep (B' := wr.heap.size + 1) (Nat.le_refl _) (keep_out hown1 (by decide) hg5)
   have hb5 : Below w.heap.size w w5 := hb2.grown hg5 (Nat.le_trans hbw.size (by simp; omega)) (fun g hg => by have := (hown1.lt g hg).1; have := HSZ.out; omega)
   have hsz5 : wr.heap.size + 1 ≤ w5.heap.size := Nat.le_trans hsz2 hg5.size
   have hgs := grown_setCell g 2 (.slice A5 (k + 1) c5) w5
   clear hg5 hown1 hrd1 hz2 hs2 hb2 h63 hlim hbs hsz2 hrs2
   go_wp2_with fail
   go_roundw
   case rel =>
    refine ⟨k + 1, _, xs ++ [.slice (some ⟨wr.heap.size, 0, none⟩) 1 1], by omega, by go_num, hown5.kept hgs (.inr (hown5.no_cells hs5 (by decide))), ⟨wr.heap.size + 1, by simp; exact hsz5, ?_⟩, hz5.far (by show w.heap.size ≠ g; omega) _, hs5.set 2 _, hb5.setCell (p := ⟨g, 2, none⟩) (Nat.le_of_lt hg1) _, Nat.le_trans hW (Nat.le_trans (Nat.le_succ _) (by simpa using hsz5))⟩
    rw [HX.out, List.map_append]
    exact hrs5.keep (Nat.le_refl _) (fun q _ ⟨cur, fz, hh⟩ => hgs.block q (Array.getElem?_eq_some_iff.1 hh).1 (fun e => tag_ne hs5 hh (by decide) (by injection e)))
   case measure => simp [intOf]; omega
  ·obtain rfl : k = n := by omega
   have HT := Lib.hid (show l.take k = l from List.take_of_length_le (by rw [HN.out]; omega))
   obtain ⟨A3, c3, rfl, hrow⟩ := hrs.rdpn ho hs (by decide) (by decide)
   rw [HT.out] at hrow
   have hrow2 := hrow.other hz (by decide) (by decide) (grown_set6 wr w.heap.size (.int .i64 1) (.int .u8 (a.toNat : Int)) (.slice A3 k c3) (.string ⟨#[]⟩) (.int .u8 (b.toNat : Int)) (.string ⟨#[]⟩))
   have hb6 := below_set6 hbw (Nat.le_refl w.heap.size) (.int .i64 1) (.int .u8 (a.toNat : Int)) (.slice A3 k c3) (.string ⟨#[]⟩) (.int .u8 (b.toNat : Int)) (.string ⟨#[]⟩)
   obtain ⟨d0, d1, d2, d3, d4, d5⟩ := Blk.cells6 hz
   have z0 := hz.frozen 0
   have z1 := hz.frozen 1
   have z2 := hz.frozen 2
   have z3 := hz.frozen 3
   have z4 := hz.frozen 4
   have z5 := hz.frozen 5
   have HNL := Lib.hid (show (l.map fun n => [n]).length = k by rw [List.length_map]; exact HN.out)
   clear hrow hz ho hrs hs
   go_wp2_with fail
   refine bodyPost_ret (v := .agg #[.int .i64 1, .int .u8 (a.toNat : Int), .slice A3 k c3, .string ⟨#[]⟩, .int .u8 (b.toNat : Int), .string ⟨#[]⟩]) (by simp [results, Tryd.results39, go_sem, d0, d1, d2, d3, d4, d5]) rfl ⟨⟨A3, c3, g, ?_, hrow2⟩, hb6⟩
   unfold sqV numS
   dsimp only
   rw [HNL.out]
theorem num_any (a b : UInt8) (A : Option Addr) (n c : Nat) (l : List Int) (w : World) (hn : l.length = n) (hl : n ≤ 4294967296) (hr : Rd w A (is_ l)) :
 Calls Tryd.prog 39 #[.int .u8 (a.toNat : Int), .int .u8 (b.toNat : Int), .slice A n c] w (NumP a b l w) :=
 (num_anyN a b A n c l w hn hl hr).mono fun _ _ ⟨⟨B, d, _, h1, h2⟩, hb⟩ => ⟨⟨B, d, h1, h2.rdp⟩, hb⟩
end Go.Proofs.YtgaoijinchakoaaDoor
