/-
  Layer 9: what keys are: mathematics. Layer 2: what takes and puts answer. (No function of any dump.) Cut out of WirY: what names no function of any dump. Layer 2, walked: what a code point is; the sizes, in their array. Cut out of Same: what names no function of any dump. Layer 3, walked: the program's reader: skip, run, one, part.
-/
import Derived.Test.YtjlhhelikiegdaaDoorG01
import Derived.Test.YtjlhhelikiegdaaDoorG02
import Derived.Test.YtjlhhelikiegdaaDoorG03
import Derived.Test.YtjlhhelikiegdaaDoorG04
import Derived.Test.YtjlhhelikiegdaaDoorG08
import Derived.Test.YtjlhhelikiegdaaDoorG11
import Derived.Test.YtjlhhelikiegdaaDoorG12
import Derived.Test.YtjlhhelikiegdaaDoorG15
import Derived.BigQuiet
import Derived.Deep.QuietTactic
import Derived.Deep.RegionHeld
import Derived.Deep.RegionHeld3
namespace Go.Proofs.YtjlhhelikiegdaaDoor
structure En where
 kind : Int
 fin : Int
 num : Int
 char : Int
 keys : Bool
deriving DecidableEq
end Go.Proofs.YtjlhhelikiegdaaDoor
namespace Go.Proofs.YtjlhhelikiegdaaDoor
open Go.RowKit
theorem byt_val (k : Int) (h : 0 ≤ k) (h1 : k < 256) : [Value.int .u8 k] = bs [byt k] := by
 show _ = [Value.int .u8 ((byt k).toNat : Int)]
 rw [byt_nat k h h1]
def Out (l : List UInt8) (w : World) (e : Ending) (w' : World) : Prop := ∃ A c, e = .returned (.slice A l.length c) ∧ Rd w' A (bs l) ∧ Below w.heap.size w w'
theorem out_own {base : Nat} {t : TypeId} {v : Value} {n : Nat} {l : List UInt8} {w w' : World} (ho : Own w' base t 1 v n (bs l)) (hb : Below w.heap.size w w') : Out l w (.returned v) w' := by
 obtain ⟨A, c, rfl, hr⟩ := ho.form
 have := ho.1
 rw [bs_length] at this
 exact ⟨A, c, by rw [show n = l.length by omega], hr, hb⟩
theorem rd_lit (w : World) (x : Value) (t : TypeId) : Rd (w.alloc (.cells #[x] t)) (some ⟨w.heap.size, 0, none⟩) [x] := Rd.block (heap_alloc_new w _) rfl
theorem may_1 {s : Sq} (h : s.data.length ≤ 4096) (h1 : okS s = false) : mayS s = 1 := by
 unfold mayS; rw [if_neg (by omega), if_neg (by rw [h1]; decide)]
theorem may_0 {s : Sq} (h : s.data.length ≤ 4096) (h1 : okS s = true) : mayS s = 0 := by
 unfold mayS; rw [if_neg (by omega), if_pos h1]
theorem may_4 {s : Sq} (h : 4096 < s.data.length) : mayS s = 4 := by unfold mayS; rw [if_pos h]
set_option maxHeartbeats 1000000 in
theorem isPt_any (r : Int) (w : World) : Calls Tryd.prog 44 #[.int .i64 r] w fun e w' => e = .returned (.bool (isPt r)) ∧ w = w' := by
 by_cases h0 : 0 ≤ r
 ·by_cases h1 : r ≤ 1114111
  ·by_cases h2 : r < 55296
   ·go_enter Tryd.func44, Tryd.ntmps44
    go_wp2
    go_ret
    exact ⟨ret_b (((isPt_iff r).2 (by omega)).symm), rfl⟩
   ·by_cases h3 : 57343 < r
    ·go_enter Tryd.func44, Tryd.ntmps44
     go_wp2
     go_ret
     exact ⟨ret_b (((isPt_iff r).2 (by omega)).symm), rfl⟩
    ·go_enter Tryd.func44, Tryd.ntmps44
     go_wp2
     go_ret
     exact ⟨ret_b (((isPt_no r).2 (by omega)).symm), rfl⟩
  ·go_enter Tryd.func44, Tryd.ntmps44
   go_wp2
   go_ret
   exact ⟨ret_b (((isPt_no r).2 (by omega)).symm), rfl⟩
 ·go_enter Tryd.func44, Tryd.ntmps44
  go_wp2
  go_ret
  exact ⟨ret_b (((isPt_no r).2 (by omega)).symm), rfl⟩
def sizC : Array Value := #[.int .i64 1, .int .i64 0, .int .i64 0, .int .i64 2, .int .i64 128, .int .i64 192, .int .i64 3, .int .i64 2048, .int .i64 224, .int .i64 4, .int .i64 65536, .int .i64 240]
def Siz (w : World) : Prop := ∃ t fz, w.heap[0]? = some (.cells sizC t fz)
theorem Siz.below {w w' : World} {B : Nat} (h : Siz w) (hb : Below B w w') (hB : w.heap.size ≤ B) : Siz w' := by
 obtain ⟨t, fz, hh⟩ := h
 have := (Array.getElem?_eq_some_iff.1 hh).1
 exact ⟨t, fz, (hb.block _ (by omega)).trans hh⟩
theorem Siz.below' {w w' : World} (h : Siz w) (hb : Below w.heap.size w w') : Siz w' := h.below hb (Nat.le_refl _)
def szA : Nat → Array Value
 | 0 => #[.int .i64 1, .int .i64 0, .int .i64 0]
 | 1 => #[.int .i64 2, .int .i64 128, .int .i64 192]
 | 2 => #[.int .i64 3, .int .i64 2048, .int .i64 224]
 | _ => #[.int .i64 4, .int .i64 65536, .int .i64 240]
def ixP (r : Int) (k : Nat) : Nat := if 3 < k ∧ 65536 ≤ r then 3 else if 2 < k ∧ 2048 ≤ r then 2 else if 1 < k ∧ 128 ≤ r then 1 else 0
theorem str_ne {a b : List UInt8} (h : a ≠ b) : (⟨a.toArray⟩ : ByteArray) ≠ ⟨b.toArray⟩ := fun e => h (by injection e with e; simpa using e)
def tkC (A : Option Addr) (n c at_ : Nat) (x0 x1 x2 x3 x4 x5 : Value) : Array Value := #[.slice A n c, .int .i64 (at_ : Int), x0, x1, x2, x3, x4, x5]
def Rdr (w : World) (g : Nat) (A : Option Addr) (c : Nat) (l : List UInt8) (x0 x1 x2 x3 x4 x5 : Value) (r : List UInt8) : Prop :=
 ∃ at_ : Nat, at_ ≤ l.length ∧ l.drop at_ = r ∧ RdIn g w A (bs l) ∧ Blk w g 59 (tkC A l.length c at_ x0 x1 x2 x3 x4 x5)
theorem bytesIn_of {w : World} {A : Option Addr} {l : List UInt8} (h : Rd w A (bs l)) : Lib.BytesIn w A l.length (l.map fun x => (x.toNat : Int)) := fun hn => by
 obtain ⟨b, o, rfl, _, hc⟩ := h.at_ hn
 refine ⟨b, o, rfl, fun i hi => ?_⟩
 rw [hc i hi]
 simp [List.getD, List.getElem?_eq_getElem hi]
theorem hasp_any (A1 A2 : Option Addr) (n c m d : Nat) (l t : List UInt8) (q : Bool) (w : World) (hl : l.length = n) (ht : t.length = m) (hc : n ≤ c) (hq : skipB t l = q) (h1 : Rd w A1 (bs l)) (h2 : Rd w A2 (bs t)) :
 Calls Tryd.prog 46 #[.slice A1 n c, .slice A2 m d] w fun e w' => e = .returned (.bool q) ∧ w = w' := by
 subst hl
 subst ht
 refine (Tryd.bytes_HasPrefix_all A1 A2 _ c _ d (l.map fun x => (x.toNat : Int)) (t.map fun x => (x.toNat : Int)) w (by simp) (by simp) hc (bytesIn_of h1) (bytesIn_of h2)).mono ?_
 rintro e w' ⟨rfl, rfl⟩
 refine ⟨?_, rfl⟩
 have e : ∀ k : List UInt8, Lib.bytesOf (k.map fun x => (x.toNat : Int)) = k := fun k => by
  unfold Lib.bytesOf
  rw [List.map_map]
  calc k.map ((fun n : Int => UInt8.ofNat n.toNat) ∘ fun x : UInt8 => (x.toNat : Int)) = k.map id := List.map_congr_left (fun x _ => by simp)
   _ = k := List.map_id k
 rw [e, e, ← hq]
 rfl
set_option maxRecDepth 100000 in
set_option maxHeartbeats 4000000 in
theorem skip_any (g : Nat) (A : Option Addr) (c : Nat) (l t r : List UInt8) (x0 x1 x2 x3 x4 x5 : Value) (q : Bool) (w : World) (hq : skipB t r = q) (hlc : l.length ≤ c) (hl : l.length ≤ 4294967296) (ht : t.length ≤ 4294967296) (h : Rdr w g A c l x0 x1 x2 x3 x4 x5 r) :
 Calls Tryd.prog 35 #[.pointer (some ⟨g, 0, none⟩), .string ⟨t.toArray⟩] w fun e w' => e = .returned (.bool q) ∧ Rdr w' g A c l x0 x1 x2 x3 x4 x5 (if q = true then r.drop t.length else r) ∧ w.grownBy w' (some g) := by
 obtain ⟨at_, hat, hr, hrd, hblk⟩ := h
 have hlt := hblk.lt
 obtain ⟨A', hcut, hrd2⟩ := cut_run (P := Tryd.prog) (T := 26) (e := 5) (by kernel_rfl) Tryd.underlying26 Tryd.sizeOf5 A l.length c at_ hat hlc
 have hrd3 := hrd2 g w l rfl hrd
 obtain ⟨C, X, hX⟩ := conv_all Tryd.prog 9 26 5 t Tryd.underlying9 Tryd.underlying26 Tryd.underlying5 (by simp only [maxLen]; omega)
 have hV := fun W => (hX W).1
 have HX := Lib.hid (fun W => (hX W).2.2)
 have c0 : w.cell? ⟨g, 0, none⟩ = some (.slice A l.length c) := hblk.cell 0
 have c1 : w.cell? ⟨g, 1, none⟩ = some (.int .i64 (at_ : Int)) := hblk.cell 1
 have fz := hblk.frozen 1
 have HQ := Lib.hid hq
 have HR := Lib.hid hr
 clear hq hr hX
 have n0 : (0 : Int) ≤ (at_ : Int) := by omega
 have n1 : (at_ : Int) ≤ (l.length : Int) := by omega
 go_enter Tryd.func35, Tryd.ntmps35
 go_wp2_with fail
 have HB : Hid (∀ W, Below w.heap.size w W → Below w.heap.size w (X W)) := Lib.hid fun W hb => hb.trans ((HX.out W).2.mono hb.size)
 have HS : Hid (∀ W, Below w.heap.size w W → W.cell? ⟨g, 0, none⟩ = some (.slice A l.length c) ∧ W.cell? ⟨g, 1, none⟩ = some (.int .i64 (at_ : Int)) ∧ Below w.heap.size w W) := Lib.hid fun W hb => ⟨(hb.cell (p := ⟨g, 0, none⟩) hlt).trans c0, (hb.cell (p := ⟨g, 1, none⟩) hlt).trans c1, hb⟩
 have HR3 : Hid (∀ W, Below w.heap.size w W → Rd W A' (bs (l.drop at_))) := Lib.hid fun W hb => ((hrd3.rd (Nat.le_of_lt hlt))).below hb
 have HL := Lib.hid (show (l.drop at_).length = l.length - at_ from List.length_drop)
 have HQ2 := Lib.hid (show skipB t (l.drop at_) = q by rw [HR.out]; exact HQ.out)
 have hlc2 : l.length - at_ ≤ c - at_ := by omega
 have hat2 := hat
 clear hrd2 hrd3
 go_region_held (fun w' => w'.cell? ⟨g, 0, none⟩ = some (.slice A l.length c) ∧ w'.cell? ⟨g, 1, none⟩ = some (.int .i64 (at_ : Int)) ∧ Below w.heap.size w w') (first | exact HS.out _ (Below.refl _ _).drew | exact HS.out _ (HB.out _ (Below.refl _ _).drew)) (first | (go_at_call 46; refine (hasp_any A' _ _ _ _ _ (l.drop at_) t q _ HL.out rfl hlc2 HQ2.out (HR3.out _ (HB.out _ (Below.refl _ _).drew)) (HX.out _).1).mono ?_; rintro e w2 ⟨rfl, rfl⟩))
 have hbX := HB.out _ (Below.refl w.heap.size w).drew
 clear hcut hV HX HS HB HR3 HL hlc2 HQ2
 generalize X w.drew = W1 at *
 clear X
 have hblk1 := hblk.below hbX hlt
 have hrd1 := hrd.below (hbX.mono (Nat.le_of_lt hlt))
 have d1 : W1.cell? ⟨g, 1, none⟩ = some (.int .i64 (at_ : Int)) := hblk1.cell 1
 have fz1 := hblk1.frozen 1
 have hg1 := grown_below (some g) hbX
 clear c0 c1 fz
 cases q with
 | false =>
   go_wp2_with fail
   go_ret
   exact ⟨rfl, ⟨at_, hat, HR.out, hrd1, hblk1⟩, hg1⟩
 | true =>
   have hp := skipB_some HQ.out
   have hlen := congrArg List.length hp
   rw [List.length_append, ← HR.out, List.length_drop] at hlen
   have hle : at_ + t.length ≤ l.length := by omega
   have HP := Lib.hid (show l.drop (at_ + t.length) = r.drop t.length by rw [← HR.out, List.drop_drop])
   clear hp hlen
   go_wp2_with fail
   go_ret
   refine ⟨rfl, ⟨at_ + t.length, hle, HP.out, ?_, ?_⟩, ?_⟩
   ·exact RdIn.grown hrd1 (grown_setCell g 1 _ W1) hblk1.lt
   ·have := hblk1.set 1 (.int .i64 ((at_ + t.length : Nat) : Int))
    rw [Int.natCast_add] at this
    exact this
   ·exact grown_trans hg1 (grown_setCell g 1 _ W1)
end Go.Proofs.YtjlhhelikiegdaaDoor
