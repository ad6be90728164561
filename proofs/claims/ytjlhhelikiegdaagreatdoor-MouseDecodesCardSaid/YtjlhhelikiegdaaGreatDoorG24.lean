/-
  From a walk to a law's row, for all laws: arguments read behind the call as they read before, out of the frame alone; a slice of bytes is opened as a list. Layer 15's mathematics: which of a mouse's events are told. Layer 15: a mouse's event, and a cell, as values. A region that draws its order, with an append onto a row of one's own (and a store behind it). A sequence of numbers, as a value, and the document's Put of it.
  Cut out of SqnW. Layer 3, walked: the program's Num. A sequence of numbers, as the program's Num tells it. Cut out of LegPw. Layer 2, walked: Put, the program's and the document's. A drawn region that lays one new block of one cell and stores a value into it last (RegP's, for a cell alone).
-/
import Derived.Test.YtjlhhelikiegdaaGreatDoorG01
import Derived.Test.YtjlhhelikiegdaaGreatDoorG06
import Derived.Test.YtjlhhelikiegdaaGreatDoorG11
import Derived.Test.YtjlhhelikiegdaaGreatDoorG15
import Derived.Test.YtjlhhelikiegdaaGreatDoorG18
import Derived.Test.YtjlhhelikiegdaaGreatDoorG19
import Derived.Test.YtjlhhelikiegdaaGreatDoorG20
import Derived.Test.YtjlhhelikiegdaaGreatDoorG22
import Derived.Test.YtjlhhelikiegdaaGreatDoorG23
import Derived.Deep.DeepHandedRow
import Derived.Lib.LaidTab
import Derived.SizedLaws
import Derived.Deep.Cut
namespace Go.Proofs.YtjlhhelikiegdaaGreatDoor
open Go.RowKit Go.WideShapes Go.ChangeShapes Go.ChangeAt Go.ChangeMaps
section
section
variable {H : Type} {enc : TypeId × Value → H} {P : Program}
theorem trodAll_below (hl : laidOutB P = true) {W W' : World} (hb : Below W.heap.size W W') : ∀ {ts : List TypeId} {vs : List Value} {ds : List (DataW H)} {ps : List MemPlace},
 (ts.all fun t => P.readableRec t && decide (t < P.types.size)) = true → (∀ x ∈ ps, x.block < W.heap.size) → DataW.TrodAll enc P W 0 (fun _ => true) true ts vs ds ps →
 DataW.TrodAll enc P W' 0 (fun b => decide (b < W.heap.size)) true ts vs ds ps
 | [], [], [], _, _, _, h => h
 | t :: ts, v :: vs, d :: ds, ps, hr, hlt, h => by
   obtain ⟨p, q, h1, h2, rfl⟩ := h
   simp only [List.all_cons, Bool.and_eq_true, decide_eq_true_eq] at hr
   exact ⟨p, q, Below.trod hl hr.1.1 hr.1.2 h1 hb (fun x hx => hlt x (List.mem_append_left _ hx)), trodAll_below hl hb hr.2 (fun x hx => hlt x (List.mem_append_right _ hx)) h2, rfl⟩
theorem law_end (hl : laidOutB P = true) {f : Func} {s : ChangeSpec} {W W' : World} {args : Array Value} {ds : List (DataW H)} {before : List MemPlace} {T : TypeId} (hT : P.underlying T = some .bool)
 (hv : s.vars = []) (hrt : f.resultTypes = #[T]) (hread : (f.params.toList.all fun t => P.readableRec t && decide (t < P.types.size)) = true)
 (hW : DataW.Whole enc P f.params.toList s.vars false W args.toList ds [] before) (hA : DataW.TrodAll enc P W 0 (fun _ => true) true f.params.toList args.toList ds before)
 (hs : s.fn H (ds ++ []) = { results := [.lit (.bool true)], args := ds }) (hb : Below W.heap.size W W') :
 s.post enc P f false true false false W args (.bool true) W' := by
 have hlt : ∀ p ∈ before, p.block < W.heap.size := fun p hp => hW.lt p hp
 refine ⟨ds, [], before, [], before, [], hW, ?_, ?_, ?_, World.keptBut_mono (fun p hp => ⟨hp, .inr (.inl hp)⟩) (hb.frame (· ∈ before)), fun hd => absurd hd (by simp)⟩
 ·rw [hs, hrt]; exact trodAll_mk1 (shut_bool hT _)
 ·rw [hs]; exact trodAll_below hl hb hread hlt hA
 ·rw [hs, hv]; exact rfl
end
end
end Go.Proofs.YtjlhhelikiegdaaGreatDoor
namespace Go.Proofs.YtjlhhelikiegdaaGreatDoor
structure Ms where
 btn : Int
 typ : Int
 x : Int
 y : Int
 mods : Int
def heldT (n : Int) : Bool := decide (1 ≤ n ∧ n ≤ 3) || decide (8 ≤ n ∧ n ≤ 11)
def mayT (e : Ms) : Bool :=
 if e.x < 1 ∨ 65535 < e.x ∨ e.y < 1 ∨ 65535 < e.y ∨ e.mods < 0 ∨ 255 < e.mods then false
 else if e.typ = 1 then decide (1 ≤ e.btn ∧ e.btn ≤ 11) else if e.typ = 3 then heldT e.btn else decide (e.typ = 4) && (decide (e.btn = 0) || heldT e.btn)
theorem may_typ15 {e : Ms} (h : mayT e = true) : e.typ = 1 ∨ e.typ = 3 ∨ e.typ = 4 := by
 unfold mayT at h
 split at h
 ·cases h
 ·split at h
  ·exact .inl ‹_›
  ·split at h
   ·exact .inr (.inl ‹_›)
   ·simp only [Bool.and_eq_true, decide_eq_true_eq] at h
    exact .inr (.inr h.1)
theorem may_cell {e : Ms} (h : mayT e = true) : (1 ≤ e.x ∧ e.x ≤ 65535) ∧ (1 ≤ e.y ∧ e.y ≤ 65535) := by
 unfold mayT at h
 split at h
 ·cases h
 ·rename_i hr
  omega
end Go.Proofs.YtjlhhelikiegdaaGreatDoor
namespace Go.Proofs.YtjlhhelikiegdaaGreatDoor
open Go.RowKit
def msC (e : Ms) : Array Value := #[.int .i64 e.btn, .int .i64 e.typ, .int .i64 e.x, .int .i64 e.y, .int .i64 e.mods]
def msV (e : Ms) : Value := .agg #[.int .i64 e.btn, .int .i64 e.typ, .int .i64 e.x, .int .i64 e.y, .int .i64 e.mods]
theorem ret_bl {x y : Bool} (h : x = y) : Ending.returned (.bool x) = .returned (.bool y) := by rw [h]
section
section
variable {P : Program} {ops : Array Oper} {md : Region.Mode} {w1 : World} {K : List Fact} {ix iz : Nat} {R1 : (Tmp → Value) → World → World → Prop} {aF : (Tmp → Value) → Act} {i : Nat} {o : Oper}
theorem run_storeAt_one {t : TypeId} {a : Addr} {v u : Value} {w : World} (hs : ∀ w, (sizeOf t).run P w = .ok 1 w) (hv : v.cells = #[v]) (h1 : v.oneCell' = true) (hc : w.cell? a = some u) (hf : w.frozen? a = false) :
 (Instr.storeAt t (.pointer (some a)) v).run P w = .ok () (w.setCell a v) := by
 have hst : (store a v).run P w = .ok () (w.setCell a v) := by
  rw [run_store P w a v _ h1, hc]
  simp [hf]
 have ha : a.add 0 = a := by unfold Addr.add; split <;> simp_all
 simp [Instr.storeAt, Instr.sureAddr, storeVar, hv, hs, storeCells, ha, hst, Result.andThen]
end
end
def numS (a b : UInt8) (l : List Int) : Sq := ⟨1, a, l.map fun n => [n], [], b, []⟩
def NumP (a b : UInt8) (l : List Int) (w : World) (e : Ending) (w' : World) : Prop :=
 (∃ A c, e = .returned (sqV (numS a b l) A c) ∧ RdP w' A (numS a b l).params) ∧ Below w.heap.size w w'
def NumPN (a b : UInt8) (l : List Int) (w : World) (e : Ending) (w' : World) : Prop :=
 (∃ A c g, e = .returned (sqV (numS a b l) A c) ∧ RdPN g w' A (numS a b l).params) ∧ Below w.heap.size w w'
set_option maxRecDepth 100000 in
set_option maxHeartbeats 8000000 in
theorem num_anyN (a b : UInt8) (A : Option Addr) (n c : Nat) (l : List Int) (w : World) (hn : l.length = n) (hl : n ≤ 4294967296) (hr : Rd w A (is_ l)) :
 Calls Tryz.prog 54 #[.int .u8 (a.toNat : Int), .int .u8 (b.toNat : Int), .slice A n c] w (NumPN a b l w) := by
 obtain ⟨j0, hj, hy0, hy1, hy2⟩ : ∃ i, Tryz.prog.info? 38 = some i ∧ i.zero = some (.slice none 0 0) ∧ i.size = 1 ∧ i.bytes = 24 := ⟨_, rfl, rfl, rfl, rfl⟩
 have HN := Lib.hid hn
 clear hn
 go_enter Tryz.func54, Tryz.ntmps54
 go_wp2_with fail
 have hb0 : Below w.heap.size w ((w.alloc (.cells #[.int .i64 0, .int .u8 0, .slice none 0 0, .string ⟨#[]⟩, .int .u8 0, .string ⟨#[]⟩] 44)).alloc (.cells #[.int .i64 1, .int .u8 (a.toNat : Int), .slice none 0 0, .string ⟨#[]⟩, .int .u8 (b.toNat : Int), .string ⟨#[]⟩] 44)) := ((Below.refl _ w).alloc (Nat.le_refl _) _).alloc (by simp) _
 have hz0 : Blk ((w.alloc (.cells #[.int .i64 0, .int .u8 0, .slice none 0 0, .string ⟨#[]⟩, .int .u8 0, .string ⟨#[]⟩] 44)).alloc (.cells #[.int .i64 1, .int .u8 (a.toNat : Int), .slice none 0 0, .string ⟨#[]⟩, .int .u8 (b.toNat : Int), .string ⟨#[]⟩] 44)) w.heap.size 44 #[.int .i64 0, .int .u8 0, .slice none 0 0, .string ⟨#[]⟩, .int .u8 0, .string ⟨#[]⟩] := (Blk.new w _ _).alloc _
 have hs0 := Blk.new (w.alloc (.cells #[.int .i64 0, .int .u8 0, .slice none 0 0, .string ⟨#[]⟩, .int .u8 0, .string ⟨#[]⟩] 44)) 44 #[.int .i64 1, .int .u8 (a.toNat : Int), .slice none 0 0, .string ⟨#[]⟩, .int .u8 (b.toNat : Int), .string ⟨#[]⟩]
 rw [World.size_alloc] at hs0
 have hsz : ((w.alloc (.cells #[.int .i64 0, .int .u8 0, .slice none 0 0, .string ⟨#[]⟩, .int .u8 0, .string ⟨#[]⟩] 44)).alloc (.cells #[.int .i64 1, .int .u8 (a.toNat : Int), .slice none 0 0, .string ⟨#[]⟩, .int .u8 (b.toNat : Int), .string ⟨#[]⟩] 44)).heap.size = w.heap.size + 2 := by simp
 have HSZ := Lib.hid hsz
 clear hsz
 generalize ((w.alloc (.cells #[.int .i64 0, .int .u8 0, .slice none 0 0, .string ⟨#[]⟩, .int .u8 0, .string ⟨#[]⟩] 44)).alloc (.cells #[.int .i64 1, .int .u8 (a.toNat : Int), .slice none 0 0, .string ⟨#[]⟩, .int .u8 (b.toNat : Int), .string ⟨#[]⟩] 44)) = W0 at *
 have hg1 : w.heap.size < w.heap.size + 1 := Nat.lt_succ_self _
 have hg2 : w.heap.size + 1 < W0.heap.size := hs0.lt
 generalize w.heap.size + 1 = g at *
 go_loopw [15] (fun i wr => ∃ (k : Nat) (v : Value) (xs : List Value), k ≤ n ∧ i = .int .i64 k ∧ Own wr W0.heap.size 38 1 v k xs ∧ (∃ B2, B2 ≤ wr.heap.size ∧ Rows wr B2 3 xs ((l.take k).map fun n => [n])) ∧ Blk wr w.heap.size 44 #[.int .i64 0, .int .u8 0, .slice none 0 0, .string ⟨#[]⟩, .int .u8 0, .string ⟨#[]⟩] ∧ Blk wr g 44 #[.int .i64 1, .int .u8 (a.toNat : Int), v, .string ⟨#[]⟩, .int .u8 (b.toNat : Int), .string ⟨#[]⟩] ∧ Below w.heap.size w wr ∧ W0.heap.size ≤ wr.heap.size) (fun i _ => n - (intOf i).toNat)
 case atStart => exact ⟨0, _, [], Nat.zero_le _, rfl, Own.nil_ _ _ _ _, ⟨0, Nat.zero_le _, by rfl, fun k hk => absurd hk (by simp)⟩, hz0, hs0, hb0, Nat.le_refl _⟩
 case round =>
  obtain ⟨k, v, xs, hk, rfl, ho, ⟨B2, hB2, hrs⟩, hz, hs, hbw, hW⟩ := hrel
  clear hz0 hs0 hb0
  obtain ⟨c0, c1, c2, c3, c4, c5⟩ := Blk.cells6 hs
  have fz2 := hs.frozen 2
  by_cases hlt : k < n
  ·have hkl : k < l.length := by rw [HN.out]; exact hlt
   obtain ⟨bb, oo, hA, hbb, hcc⟩ := (hr.below hbw).int_at (by rw [HN.out]; omega)
   cases hA
   have hck := hcc k hkl
   obtain ⟨x, hx⟩ : ∃ x, l[k]'hkl = x := ⟨_, rfl⟩
   rw [hx] at hck
   have HX := Lib.hid (show l.take (k + 1) = l.take k ++ [x] by rw [List.take_succ_eq_append_getElem hkl, hx])
   clear hx hcc
   obtain ⟨Av, cv, rfl, _⟩ := ho.form
   have hown1 := (ho.alloc (.cells #[.int .i64 x] 3)).alloc (.cells #[.slice (some ⟨wr.heap.size, 0, none⟩) 1 1] 38)
   have hrd1 : Rd ((wr.alloc (.cells #[.int .i64 x] 3)).alloc (.cells #[.slice (some ⟨wr.heap.size, 0, none⟩) 1 1] 38)) (some ⟨wr.heap.size + 1, 0, none⟩) [.slice (some ⟨wr.heap.size, 0, none⟩) 1 1] := by
    have := Rd.block (xs := [.slice (some ⟨wr.heap.size, 0, none⟩) 1 1]) (heap_alloc_new (wr.alloc (.cells #[.int .i64 x] 3)) (.cells #[.slice (some ⟨wr.heap.size, 0, none⟩) 1 1] 38)) (by simp)
    rwa [World.size_alloc] at this
   have hin : RowI (wr.alloc (.cells #[.int .i64 x] 3)) (wr.heap.size + 1) 3 (some ⟨wr.heap.size, 0, none⟩) [x] := by
    obtain ⟨_, A', c', h1, h2⟩ := own_row (p := [x]) (own_lit (wr.alloc (.cells #[.int .i64 x] 3)) 0 3 wr.heap.size (.int .i64 x) (Nat.zero_le _) (heap_alloc_new wr _))
    cases h1
    rwa [World.size_alloc] at h2
   have hrs1 := ((hrs.keep (Nat.le_refl B2) (fun q hq _ => Below.heap_alloc wr (.cells #[.int .i64 x] 3) q (by omega))).keep (B' := wr.heap.size + 1) (by omega) (fun _ _ _ => rfl)).snoc2 (n := 1) rfl (c := 1) hin
   have hrs2 := hrs1.keep (Nat.le_refl _) (fun q hq _ => Below.heap_alloc (wr.alloc (.cells #[.int .i64 x] 3)) (.cells #[.slice (some ⟨wr.heap.size, 0, none⟩) 1 1] 38) q (by simp; omega))
   have hz2 := (hz.alloc (.cells #[.int .i64 x] 3)).alloc (.cells #[.slice (some ⟨wr.heap.size, 0, none⟩) 1 1] 38)
   have hs2 := (hs.alloc (.cells #[.int .i64 x] 3)).alloc (.cells #[.slice (some ⟨wr.heap.size, 0, none⟩) 1 1] 38)
   have hb2 : Below w.heap.size w ((wr.alloc (.cells #[.int .i64 x] 3)).alloc (.cells #[.slice (some ⟨wr.heap.size, 0, none⟩) 1 1] 38)) := (hbw.alloc hbw.size _).alloc (Nat.le_trans hbw.size (by simp)) _
   have h63 : k + 1 ≤ maxLen := by simp only [maxLen]; omega
   have hlim : (k + 1) * 24 ≤ 140737488355328 := by omega
   have hbs : W0.heap.size ≤ ((wr.alloc (.cells #[.int .i64 x] 3)).alloc (.cells #[.slice (some ⟨wr.heap.size, 0, none⟩) 1 1] 38)).heap.size := by simp; omega
   have hsz2 : wr.heap.size + 1 ≤ ((wr.alloc (.cells #[.int .i64 x] 3)).alloc (.cells #[.slice (some ⟨wr.heap.size, 0, none⟩) 1 1] 38)).heap.size := by simp
   clear hrs hrs1 hin ho
   go_wp2_with (first | (at_builtin; refine list_app _ rfl (.tmp 20) (.tmp 23) 42 rfl W0.heap.size 38 j0 _ 1 24 Tryz.underlying42 hj hy0 hy1 hy2 rfl Nat.one_pos _ _ _ rfl hown1 _ 1 1 [.slice (some ⟨wr.heap.size, 0, none⟩) 1 1] rfl rfl hrd1 (sl_one _ _ _) h63 hlim hbs ?_; intro v5 w5 hown5 hg5; obtain ⟨A5, c5, rfl, hf5⟩ := hown5.form; clear hf5; have hs5 := hs2.grown hg5 (hown1.no_cells hs2 (by decide)); have fz5 := hs5.frozen 2; obtain ⟨e0, e1, e2, e3, e4, e5⟩ := Blk.cells6 hs5))
   have hz5 := hz2.grown hg5 (hown1.no_cells hz2 (by decide))
   have hrs5 := hrs2.keep (B' := wr.heap.size + 1) (Nat.le_refl _) (keep_out hown1 (by decide) hg5)
   have hb5 : Below w.heap.size w w5 := hb2.grown hg5 (Nat.le_trans hbw.size (by simp; omega)) (fun g hg => by have := (hown1.lt g hg).1; have := HSZ.out; omega)
   have hsz5 : wr.heap.size + 1 ≤ w5.heap.size := Nat.le_trans hsz2 hg5.size
   have hgs := grown_setCell g 2 (.slice A5 (k + 1) c5) w5
   clear hg5 hown1 hrd1 hz2 hs2 hb2 h63 hlim hbs hsz2 hrs2
   go_wp2_with fail
   go_roundw
   case rel =>
    refine ⟨k + 1, _, xs ++ [.slice (some ⟨wr.heap.size, 0, none⟩) 1 1], by omega, by go_num, hown5.kept hgs (.inr (hown5.no_cells hs5 (by decide))), ⟨wr.heap.size + 1, by simp; exact hsz5, ?_⟩, hz5.far (by show w.heap.size ≠ g; omega) _, hs5.set 2 _, hb5.setCell (p := ⟨g, 2, none⟩) (Nat.le_of_lt hg1) _, Nat.le_trans hW (Nat.le_trans (Nat.le_succ _) (by simpa using hsz5))⟩
    rw [HX.out, List.map_append]
    exact hrs5.keep (Nat.le_refl _) (fun q _ ⟨cur, fz, hh⟩ => hgs.block q (Array.getElem?_eq_some_iff.1 hh).1 (fun e => tag_ne hs5 hh (by decide) (by injection e)))
   case measure => simp [intOf]; omega
  ·obtain rfl : k = n := by omega
   have HT := Lib.hid (show l.take k = l from List.take_of_length_le (by rw [HN.out]; omega))
   obtain ⟨A3, c3, rfl, hrow⟩ := hrs.rdpn ho hs (by decide) (by decide)
   rw [HT.out] at hrow
   have hrow2 := hrow.other hz (by decide) (by decide) (grown_set6 wr w.heap.size (.int .i64 1) (.int .u8 (a.toNat : Int)) (.slice A3 k c3) (.string ⟨#[]⟩) (.int .u8 (b.toNat : Int)) (.string ⟨#[]⟩))
   have hb6 := below_set6 hbw (Nat.le_refl w.heap.size) (.int .i64 1) (.int .u8 (a.toNat : Int)) (.slice A3 k c3) (.string ⟨#[]⟩) (.int .u8 (b.toNat : Int)) (.string ⟨#[]⟩)
   obtain ⟨d0, d1, d2, d3, d4, d5⟩ := Blk.cells6 hz
   have z0 := hz.frozen 0
   have z1 := hz.frozen 1
   have z2 := hz.frozen 2
   have z3 := hz.frozen 3
   have z4 := hz.frozen 4
   have z5 := hz.frozen 5
   have HNL := Lib.hid (show (l.map fun n => [n]).length = k by rw [List.length_map]; exact HN.out)
   clear hrow hz ho hrs hs
   go_wp2_with fail
   refine bodyPost_ret (v := .agg #[.int .i64 1, .int .u8 (a.toNat : Int), .slice A3 k c3, .string ⟨#[]⟩, .int .u8 (b.toNat : Int), .string ⟨#[]⟩]) (by simp [results, Tryz.results54, go_sem, d0, d1, d2, d3, d4, d5]) rfl ⟨⟨A3, c3, g, ?_, hrow2⟩, hb6⟩
   unfold sqV numS
   dsimp only
   rw [HNL.out]
theorem num_any (a b : UInt8) (A : Option Addr) (n c : Nat) (l : List Int) (w : World) (hn : l.length = n) (hl : n ≤ 4294967296) (hr : Rd w A (is_ l)) :
 Calls Tryz.prog 54 #[.int .u8 (a.toNat : Int), .int .u8 (b.toNat : Int), .slice A n c] w (NumP a b l w) :=
 (num_anyN a b A n c l w hn hl hr).mono fun _ _ ⟨⟨B, d, _, h1, h2⟩, hb⟩ => ⟨⟨B, d, h1, h2.rdp⟩, hb⟩
set_option maxHeartbeats 1000000 in
theorem Put_any (r : Int) (w : World) (hs : Siz w) : Calls Tryz.prog 40 #[.int .i64 r] w (Out (putL r) w) := by
 cases h : isPt r with
 | false =>
   rw [putL_no h]
   go_enter Tryz.func40, Tryz.ntmps40
   go_wp2_with fail
   refine (isPt_any r _).mono ?_
   rintro e w1 ⟨rfl, rfl⟩
   go_wp2_with fail
   go_ret
   exact ⟨none, 0, rfl, Rd.nil _ _, Below.refl _ _⟩
 | true =>
   have H := Lib.hid h
   go_enter Tryz.func40, Tryz.ntmps40
   go_wp2_with fail
   refine (isPt_any r _).mono ?_
   rintro e w1 ⟨rfl, rfl⟩
   go_wp2_with fail
   refine (put_any r H.out w.heap.size (.slice none 0 0) 0 [] w hs (Own.nil_ _ _ _ _) (Nat.le_refl _) (by omega)).mono ?_
   rintro e w2 ⟨v, rfl, ho, hb⟩
   go_wp2_with fail
   go_ret
   exact out_own ho hb
section
section
variable {P : Program} {md : Region.Mode} {ops : Array Oper} {w1 : World} {K : List Fact} {ix iz : Nat} {R0 : (Tmp → Value) → World → World → Prop} {aF : (Tmp → Value) → Act} {i : Nat} {o : Oper}
theorem goesP_put1 {ty : TypeId} {x y : Operand} {d : Tmp} {j : Nat} {z v : Value} (hi : i = ix) (hxz : ix = iz) (hio : ops[i]? = some o) (hall : ∀ f ∈ K, f.i ≠ i ∧ ∃ js, pathB md ops ix js = true ∧ f.i ∈ js) (p : Nat) (hat : K[p]? = some ⟨j, d, FNew w1 ty #[z]⟩) (hw : ∀ g, Region.wanted o (yielded ops (aF g).tmps) = true) (hop : o.op = .store ty x y) (ho : o.dst = none) (hx : ∀ g, (aF g).eval x = g d) (hy : ∀ g, (aF g).eval y = v) (hin : ∀ w, (sizeOf ty).run P w = .ok 1 w) (hv : v.cells = #[v]) (h1 : v.oneCell' = true) :
 GoesM P md ops aF (SK md ops w1 K ix iz R0 (fun g _ w => Below w1.heap.size w1 w ∧ FNew w1 ty #[v] (g d) w)) i o := fun l g w hsz hf hrd hS => by
 subst hxz hi
 rw [if_pos (hw g)]
 obtain ⟨b1, h2⟩ := hS.pre hf
 have hsh := hS.shut.step hio hrd
 have hlt : i < l.size := by rw [hsz]; exact (Array.getElem?_eq_some_iff.1 hio).1
 have hfs : ∀ f ∈ K, f.F (g f.d) w := fun f hf' => h2 f hf' (by
  obtain ⟨hne, js, hp, hm⟩ := hall f hf'
  have := hsh.path i js (getD_self hlt) hp f.i hm
  rwa [getD_set_ne false (fun e => hne e.symm)] at this)
 obtain ⟨b, g1, g2, g3⟩ : FNew w1 ty #[z] (g d) w := hfs _ (List.mem_of_getElem? hat)
 have hrun := run_storeAt_one (P := P) (w := w) hin hv h1 (g3.cell 0) (g3.frozen 0)
 refine .inl ⟨undef, w.setCell ⟨b, 0, none⟩ v, .inr ⟨?_, rfl⟩, g, .inl rfl, (fun d' h' => by rw [ho] at h'; cases h'), hsh, ?_, ?_, fun _ => ⟨w, b1, hfs, b1.grown (grown_setCell b 0 v w) b1.size (fun k e => by cases e; exact g2), b, g1, g2, g3.set 0 v⟩, fun h => h⟩
 ·unfold execOp
  simp only [hop, hx, hy, g1, Sem.run_bind, hrun, Result.andThen_ok, Sem.run_pure]
 ·rw [getD_self hlt]; intro h; cases h
 ·rw [getD_self hlt]; intro _ h; cases h
end
end
end Go.Proofs.YtjlhhelikiegdaaGreatDoor
