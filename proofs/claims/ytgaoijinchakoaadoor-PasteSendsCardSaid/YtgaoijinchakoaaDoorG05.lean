/-
  Layer 2: what takes and puts answer. (No function of any dump.) Lists of numbers, read in memory; the document's comparison of two of them. (For layers that don't load layer 2's own texts.) Layer 2, the document's Is and Put, walked. (Nothing of the program's.)
-/
import Derived.Test.YtgaoijinchakoaaDoorG01
import Derived.Test.YtgaoijinchakoaaDoorG03
import Derived.Test.YtgaoijinchakoaaDoorG04
import Derived.BigQuiet
import Derived.Deep.QuietTactic
namespace Go.Proofs.YtgaoijinchakoaaDoor
open Go.RowKit
theorem byt_val (k : Int) (h : 0 ≤ k) (h1 : k < 256) : [Value.int .u8 k] = bs [byt k] := by
 show _ = [Value.int .u8 ((byt k).toNat : Int)]
 rw [byt_nat k h h1]
def Out (l : List UInt8) (w : World) (e : Ending) (w' : World) : Prop := ∃ A c, e = .returned (.slice A l.length c) ∧ Rd w' A (bs l) ∧ Below w.heap.size w w'
theorem out_lit (w : World) (t : TypeId) {l : List UInt8} {L : List Value} {n : Nat} (hE : bs l = L) (hL : l.length = n) : Out l w (.returned (.slice (some ⟨w.heap.size, 0, none⟩) n n)) (w.alloc (.cells L.toArray t)) := by
 subst hL hE
 exact ⟨_, _, rfl, Rd.block (heap_alloc_new w _) (by simp), (Below.refl _ _).alloc (Nat.le_refl _) _⟩
theorem bs1 (a : Int) (ha : 0 ≤ a) (ha' : a < 256) : bs [byt a] = [.int .u8 a] := (byt_val a ha ha').symm
theorem bs_cons (a : Int) (ha : 0 ≤ a) (ha' : a < 256) (l : List UInt8) : bs (byt a :: l) = .int .u8 a :: bs l := by
 show _ :: _ = _
 rw [show B8 (byt a) = .int .u8 a by unfold B8; rw [byt_nat a ha ha']]
 rfl
theorem rd_lit (w : World) (x : Value) (t : TypeId) : Rd (w.alloc (.cells #[x] t)) (some ⟨w.heap.size, 0, none⟩) [x] := Rd.block (heap_alloc_new w _) rfl
def Tk (l : List UInt8) : Ending := .returned (.tuple #[.int .i64 (takeL l).1, .int .i64 ((takeL l).2 : Nat)])
theorem tk_zero {l : List UInt8} (h : takeL l = (0, 0)) : Ending.returned (.tuple #[.int .i64 0, .int .i64 0]) = Tk l := by unfold Tk; rw [h]; rfl
theorem tk_is {l : List UInt8} {x : Int} {n : Nat} {m : Int} (h : takeL l = (x, n)) (hm : m = n) : Ending.returned (.tuple #[.int .i64 x, .int .i64 m]) = Tk l := by unfold Tk; rw [h, hm]
def is_ (l : List Int) : List Value := l.map (Value.int .i64)
theorem is_length (l : List Int) : (is_ l).length = l.length := by simp [is_]
theorem Rd.int_at {w : World} {A : Option Addr} {l : List Int} (h : Rd w A (is_ l)) (hp : 0 < l.length) :
 ∃ b o, A = some ⟨b, o, none⟩ ∧ b < w.heap.size ∧ ∀ k (hk : k < l.length), w.cell? ⟨b, o + k, none⟩ = some (.int .i64 l[k]) := by
 obtain ⟨b, o, rfl, hb, hc⟩ := h (by rw [is_length]; exact hp)
 exact ⟨b, o, rfl, hb, fun k hk => hc k _ (by simp [is_, hk])⟩
def RdP (w : World) (A : Option Addr) (ps : List (List Int)) : Prop :=
 0 < ps.length → ∃ b o, A = some ⟨b, o, none⟩ ∧ b < w.heap.size ∧ ∀ k (hk : k < ps.length), ∃ A' c', w.cell? ⟨b, o + k, none⟩ = some (.slice A' (ps[k]).length c') ∧ Rd w A' (is_ ps[k])
theorem RdP.nil (w : World) (A : Option Addr) : RdP w A [] := fun h => absurd h (by simp)
theorem RdP.below {w w' : World} {A : Option Addr} {ps : List (List Int)} (h : RdP w A ps) (hb : Below w.heap.size w w') : RdP w' A ps := fun hp => by
 obtain ⟨b, o, rfl, hlt, hc⟩ := h hp
 refine ⟨b, o, rfl, Nat.lt_of_lt_of_le hlt hb.size, fun k hk => ?_⟩
 obtain ⟨A', c', h1, h2⟩ := hc k hk
 exact ⟨A', c', (hb.cell (p := ⟨b, o + k, none⟩) hlt).trans h1, h2.below hb⟩
theorem RdP.drewN {w : World} {A : Option Addr} {ps : List (List Int)} (h : RdP w A ps) (n : Nat) : RdP (w.drewN n) A ps := h
theorem RdP.alloc {w : World} {A : Option Addr} {ps : List (List Int)} (h : RdP w A ps) (o : Obj) : RdP (w.alloc o) A ps := h.below ((Below.refl _ _).alloc (Nat.le_refl _) o)
set_option maxHeartbeats 1000000 in
theorem risPt_any (r : Int) (w : World) : Calls Tryd.prog 46 #[.int .i64 r] w fun e w' => e = .returned (.bool (isPt r)) ∧ w = w' := by
 by_cases h0 : 0 ≤ r
 ·by_cases h1 : r ≤ 1114111
  ·by_cases h2 : r < 55296
   ·go_enter Tryd.func46, Tryd.ntmps46
    go_wp2
    go_ret
    exact ⟨ret_b (((isPt_iff r).2 (by omega)).symm), rfl⟩
   ·by_cases h3 : 57343 < r
    ·go_enter Tryd.func46, Tryd.ntmps46
     go_wp2
     go_ret
     exact ⟨ret_b (((isPt_iff r).2 (by omega)).symm), rfl⟩
    ·go_enter Tryd.func46, Tryd.ntmps46
     go_wp2
     go_ret
     exact ⟨ret_b (((isPt_no r).2 (by omega)).symm), rfl⟩
  ·go_enter Tryd.func46, Tryd.ntmps46
   go_wp2
   go_ret
   exact ⟨ret_b (((isPt_no r).2 (by omega)).symm), rfl⟩
 ·go_enter Tryd.func46, Tryd.ntmps46
  go_wp2
  go_ret
  exact ⟨ret_b (((isPt_no r).2 (by omega)).symm), rfl⟩
set_option maxHeartbeats 2000000 in
theorem rPut_any (r : Int) (w : World) : Calls Tryd.prog 37 #[.int .i64 r] w (Out (putL r) w) := by
 cases h : isPt r with
 | false =>
   rw [putL_no h]
   go_enter Tryd.func37, Tryd.ntmps37
   go_wp2_with fail
   refine (risPt_any r _).mono ?_
   rintro e w1 ⟨rfl, rfl⟩
   go_wp2_with fail
   go_ret
   exact ⟨none, 0, rfl, Rd.nil _ _, Below.refl _ _⟩
 | true =>
   obtain ⟨h0, h1, h2⟩ := (isPt_iff r).1 h
   clear h2
   by_cases a1 : r < 128
   ·have e := putL_1 h a1
    have E := Lib.hid (show bs (putL r) = [.int .u8 r] by rw [e, bs1 r (by omega) (by omega)])
    have L := Lib.hid (show (putL r).length = 1 by rw [e]; rfl)
    clear e
    go_enter Tryd.func37, Tryd.ntmps37
    go_wp2_with fail
    refine (risPt_any r _).mono ?_
    rintro e w1 ⟨rfl, rfl⟩
    go_wp2_with fail
    go_ret
    exact out_lit w 5 E.out L.out
   ·by_cases a2 : r < 2048
    ·have e := putL_2 h (by omega) a2
     have E := Lib.hid (show bs (putL r) = [.int .u8 (192 + r / 64), .int .u8 (128 + r % 64)] by rw [e, bs_cons _ (by omega) (by omega), bs1 _ (by omega) (by omega)])
     have L := Lib.hid (show (putL r).length = 2 by rw [e]; rfl)
     clear e
     go_enter Tryd.func37, Tryd.ntmps37
     go_wp2_with fail
     refine (risPt_any r _).mono ?_
     rintro e w1 ⟨rfl, rfl⟩
     go_wp2_with fail
     go_ret
     exact out_lit w 5 E.out L.out
    ·by_cases a3 : r < 65536
     ·have e := putL_3 h (by omega) a3
      have E := Lib.hid (show bs (putL r) = [.int .u8 (224 + r / 4096), .int .u8 (128 + r / 64 % 64), .int .u8 (128 + r % 64)] by rw [e, bs_cons _ (by omega) (by omega), bs_cons _ (by omega) (by omega), bs1 _ (by omega) (by omega)])
      have L := Lib.hid (show (putL r).length = 3 by rw [e]; rfl)
      clear e
      go_enter Tryd.func37, Tryd.ntmps37
      go_wp2_with fail
      refine (risPt_any r _).mono ?_
      rintro e w1 ⟨rfl, rfl⟩
      go_wp2_with fail
      go_ret
      exact out_lit w 5 E.out L.out
     ·have e := putL_4 h (by omega)
      have E := Lib.hid (show bs (putL r) = [.int .u8 (240 + r / 262144), .int .u8 (128 + r / 4096 % 64), .int .u8 (128 + r / 64 % 64), .int .u8 (128 + r % 64)] by rw [e, bs_cons _ (by omega) (by omega), bs_cons _ (by omega) (by omega), bs_cons _ (by omega) (by omega), bs1 _ (by omega) (by omega)])
      have L := Lib.hid (show (putL r).length = 4 by rw [e]; rfl)
      clear e
      go_enter Tryd.func37, Tryd.ntmps37
      go_wp2_with fail
      refine (risPt_any r _).mono ?_
      rintro e w1 ⟨rfl, rfl⟩
      go_wp2_with fail
      go_ret
      exact out_lit w 5 E.out L.out
end Go.Proofs.YtgaoijinchakoaaDoor
