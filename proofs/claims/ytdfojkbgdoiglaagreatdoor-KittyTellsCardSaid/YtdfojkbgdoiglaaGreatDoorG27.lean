/-
  Layer 13, walked: the document's second parameter. Layer 3, walked: the program's holds and ends. Layer 3, walked: the program's reader: skip, run, one, part.
-/
import Derived.Test.YtdfojkbgdoiglaaGreatDoorG03
import Derived.Test.YtdfojkbgdoiglaaGreatDoorG15
import Derived.Test.YtdfojkbgdoiglaaGreatDoorG18
import Derived.Test.YtdfojkbgdoiglaaGreatDoorG21
import Derived.Test.YtdfojkbgdoiglaaGreatDoorG25
import Derived.Test.YtdfojkbgdoiglaaGreatDoorShelf
import Derived.Deep.RegionHeld
import Derived.Deep.RegionHeld3
namespace Go.Proofs.YtdfojkbgdoiglaaGreatDoor
open Go.RowKit
def OutI (L : List Int) (n : Nat) (w : World) (e : Ending) (w' : World) : Prop := ∃ A c, e = .returned (.slice A n c) ∧ RowI w' w'.heap.size 3 A L ∧ Below w.heap.size w w'
theorem rd_row (w : World) (l : List Int) (L : Array Value) (h : is_ l = L.toList) : RowI (w.alloc (.cells L 3)) (w.alloc (.cells L 3)).heap.size 3 (some ⟨w.heap.size, 0, none⟩) l := fun _ =>
 ⟨w.heap.size, rfl, by simp, ⟨L, (0, 0), heap_alloc_new w _⟩, fun k u hu => by rw [(Blk.new w 3 L).cell k, ← Array.getElem?_toList, ← h]; exact hu⟩
theorem Own.row {w : World} {B n c : Nat} {e : TypeId} {A : Option Addr} {p : List Int} (h : Own w B e 1 (.slice A n c) n (is_ p)) : RowI w w.heap.size e A p := by
 obtain ⟨_, A', c', hv, hr⟩ := RowI.own h
 injection hv with h1 _ _
 subst h1
 exact hr
theorem OutI.of {L M : List Int} {n : Nat} {w w' : World} {A : Option Addr} {c : Nat} (h : L = M) (hn : n = M.length) (hr : RowI w' w'.heap.size 3 A M) (hb : Below w.heap.size w w') : OutI L L.length w (.returned (.slice A n c)) w' := by
 subst h hn
 exact ⟨A, c, rfl, hr, hb⟩
set_option maxRecDepth 100000 in
set_option maxHeartbeats 4000000 in
theorem rsecond_any (f : Int) (k : Ky) (h0 : 0 ≤ k.mods) (h1 : k.mods ≤ 255) (w : World) : Calls Tryz.prog 59 #[.int .i64 f, kyV k] w (OutI (secondK f k) (secondK f k).length w) := by
 obtain ⟨f2, hf2⟩ : ∃ b, flagK f 2 = b := ⟨_, rfl⟩
 have HF2 : Hid (∀ W, Calls Tryz.prog 22 #[.int .i64 f, .int .i64 2] W fun e w' => e = .returned (.bool f2) ∧ Below W.heap.size W w') := Lib.hid fun W => by rw [← hf2]; exact rflag_any f 2 (by decide) (by decide) W
 have HC := Lib.hid (show secondK f k = if f2 = true ∧ k.typ ≠ 1 then [1 + k.mods, k.typ] else if k.mods ≠ 0 then [1 + k.mods] else [-1] by unfold secondK; rw [hf2])
 obtain ⟨R, hR⟩ : ∃ R, secondK f k = R := ⟨_, rfl⟩
 rw [hR] at HC ⊢
 have hw : IntKind.i64.wrap (1 + k.mods) = 1 + k.mods := by rw [IntKind.wrap_i64]; omega
 clear hf2 hR h0 h1
 obtain ⟨code, mods, typ, shift, base, text⟩ := k
 simp only [kyV] at HC hw ⊢
 have k0 := Blk.new w 23 #[.int .i64 code, .int .i64 mods, .int .i64 typ, .int .i64 shift, .int .i64 base, .string text]
 have hB : Below w.heap.size w (w.alloc (.cells #[.int .i64 code, .int .i64 mods, .int .i64 typ, .int .i64 shift, .int .i64 base, .string text] 23)) := (Below.refl _ w).alloc (Nat.le_refl _) _
 go_enter Tryz.func59, Tryz.ntmps59
 go_wp2_with fail
 refine (HF2.out _).mono ?_
 rintro e w1 ⟨rfl, hb1⟩
 have k1 := k0.below hb1 k0.lt
 have hB1 := hB.trans (hb1.mono hB.size)
 clear k0 hB hb1 HF2
 have a1 := k1.cell 1
 have a2 := k1.cell 2
 have tail : ∀ x, (typ == 1) = x → (f2 = true → x = true) → (R = if mods ≠ 0 then [1 + mods] else [-1]) := fun x hx hh => by
  rw [HC.out, if_neg]
  rintro ⟨e1, e2⟩
  rw [hh e1] at hx
  exact e2 (eq_of_beq hx)
 cases f2 with
 | true =>
   by_cases ht : typ = 1
   ·have HT := Lib.hid (tail true (by simp [ht]) (fun _ => rfl))
    clear tail HC
    subst ht
    by_cases hm : mods = 0
    ·subst hm
     have HR := Lib.hid (show R = [-1] by rw [HT.out]; rfl)
     clear HT
     go_wp2_with fail
     go_ret
     exact OutI.of HR.out rfl (rd_row w1 [-1] _ rfl) (hB1.alloc hB1.size _)
    ·have t0 : (mods == 0) = false := beq_false_of_ne hm
     have t1 : (mods != 0) = true := by simp [bne, t0]
     have HR := Lib.hid (show R = [1 + mods] by rw [HT.out, if_pos hm])
     clear hm HT
     go_wp2_with fail
     go_ret
     exact OutI.of HR.out rfl (rd_row w1 [1 + mods] _ rfl) (hB1.alloc hB1.size _)
   ·have t0 : (typ == 1) = false := beq_false_of_ne ht
    have t1 : (typ != 1) = true := by simp [bne, t0]
    have HR := Lib.hid (show R = [1 + mods, typ] by rw [HC.out, if_pos ⟨rfl, ht⟩])
    clear tail HC ht
    go_wp2_with fail
    go_ret
    exact OutI.of HR.out rfl (rd_row w1 [1 + mods, typ] _ rfl) (hB1.alloc hB1.size _)
 | false =>
   have HT := Lib.hid (show R = if mods ≠ 0 then [1 + mods] else [-1] by rw [HC.out]; simp)
   clear tail HC
   by_cases hm : mods = 0
   ·subst hm
    have HR := Lib.hid (show R = [-1] by rw [HT.out]; rfl)
    clear HT
    go_wp2_with fail
    go_ret
    exact OutI.of HR.out rfl (rd_row w1 [-1] _ rfl) (hB1.alloc hB1.size _)
   ·have t0 : (mods == 0) = false := beq_false_of_ne hm
    have t1 : (mods != 0) = true := by simp [bne, t0]
    have HR := Lib.hid (show R = [1 + mods] by rw [HT.out, if_pos hm])
    clear hm HT
    go_wp2_with fail
    go_ret
    exact OutI.of HR.out rfl (rd_row w1 [1 + mods] _ rfl) (hB1.alloc hB1.size _)
end Go.Proofs.YtdfojkbgdoiglaaGreatDoor
namespace Go.Proofs.YtdfojkbgdoiglaaGreatDoor
open Go.RowKit
theorem fm1 : fmV (formF 1) = .agg #[.string ⟨#[91]⟩, .bool true, .bool true, .int .u8 64, .string ⟨#[]⟩] := rfl
theorem fm2 : fmV (formF 2) = .agg #[.string ⟨#[79]⟩, .bool false, .bool false, .int .u8 64, .string ⟨#[]⟩] := rfl
theorem fm3 : fmV (formF 3) = .agg #[.string ⟨#[80]⟩, .bool true, .bool true, .int .u8 64, .string ⟨#[27, 92]⟩] := rfl
theorem fm4 : fmV (formF 4) = .agg #[.string ⟨#[93]⟩, .bool false, .bool false, .int .u8 0, .string ⟨#[27, 92]⟩] := rfl
theorem fm5 : fmV (formF 5) = .agg #[.string ⟨#[]⟩, .bool false, .bool true, .int .u8 48, .string ⟨#[]⟩] := rfl
theorem priv_ne {c : UInt8} (h : c ≠ 0) : ((c.toNat : Int) == 0) = false := beq_false_of_ne (fun e => h (UInt8.toNat_inj.1 (by show c.toNat = 0; omega)))
set_option maxRecDepth 100000 in
set_option maxHeartbeats 4000000 in
theorem holds_any (s : Sq) (A : Option Addr) (c : Nat) (q : Bool) (w : World) (hk : s.kind = 1 ∨ s.kind = 2 ∨ s.kind = 3 ∨ s.kind = 4 ∨ s.kind = 5) (hq : bareOk s = q) :
 Calls Tryz.prog 65 #[fmV (formF s.kind), sqV s A c] w fun e w' => e = .returned (.bool q) ∧ Below w.heap.size w w' := by
 obtain ⟨k, pv, ps, it, f, d⟩ := s
 have hB : ∀ (x y : Obj), Below w.heap.size w ((w.alloc x).alloc y) := fun x y => ((Below.refl _ w).alloc (Nat.le_refl _) _).alloc (by simp) _
 dsimp only at hk ⊢
 unfold sqV
 dsimp only
 rcases hk with rfl | rfl | rfl | rfl | rfl
 ·rw [fm1]
  cases d with
  | nil =>
    obtain rfl : true = q := by rw [← hq]; simp [bareOk]
    clear hq
    go_enter Tryz.func65, Tryz.ntmps65
    go_wp2
    go_ret
    exact ⟨rfl, hB _ _⟩
  | cons x d =>
    obtain rfl : false = q := by rw [← hq]; simp [bareOk]
    clear hq
    go_enter Tryz.func65, Tryz.ntmps65
    go_wp2
    go_ret
    exact ⟨rfl, hB _ _⟩
 ·rw [fm2]
  by_cases h1 : pv = 0
  ·subst h1
   cases ps with
   | nil =>
     cases it with
     | nil =>
       cases d with
       | nil =>
         obtain rfl : true = q := by rw [← hq]; simp [bareOk]
         clear hq
         go_enter Tryz.func65, Tryz.ntmps65
         go_wp2
         go_ret
         exact ⟨rfl, hB _ _⟩
       | cons x d =>
         obtain rfl : false = q := by rw [← hq]; simp [bareOk]
         clear hq
         go_enter Tryz.func65, Tryz.ntmps65
         go_wp2
         go_ret
         exact ⟨rfl, hB _ _⟩
     | cons x it =>
       obtain rfl : false = q := by rw [← hq]; simp [bareOk]
       clear hq
       go_enter Tryz.func65, Tryz.ntmps65
       go_wp2
       go_ret
       exact ⟨rfl, hB _ _⟩
   | cons x ps =>
     obtain rfl : false = q := by rw [← hq]; simp [bareOk]
     clear hq
     obtain ⟨n, hn⟩ : ∃ n, (x :: ps).length = n := ⟨_, rfl⟩
     have hn2 : 0 < n := by rw [← hn]; simp
     have t1 : ((n : Int) == 0) = false := beq_false_of_ne (by omega)
     rw [hn]
     clear hn
     go_enter Tryz.func65, Tryz.ntmps65
     go_wp2
     go_ret
     exact ⟨rfl, hB _ _⟩
  ·obtain rfl : false = q := by rw [← hq]; simp [bareOk, h1]
   have t1 := priv_ne h1
   clear hq h1
   go_enter Tryz.func65, Tryz.ntmps65
   go_wp2
   go_ret
   exact ⟨rfl, hB _ _⟩
 ·rw [fm3]
  obtain rfl : true = q := by rw [← hq]; simp [bareOk]
  clear hq
  go_enter Tryz.func65, Tryz.ntmps65
  go_wp2
  go_ret
  exact ⟨rfl, hB _ _⟩
 ·rw [fm4]
  by_cases h1 : pv = 0
  ·subst h1
   cases ps with
   | nil =>
     cases it with
     | nil =>
       obtain rfl : true = q := by rw [← hq]; simp [bareOk]
       clear hq
       go_enter Tryz.func65, Tryz.ntmps65
       go_wp2
       go_ret
       exact ⟨rfl, hB _ _⟩
     | cons x it =>
       obtain rfl : false = q := by rw [← hq]; simp [bareOk]
       clear hq
       go_enter Tryz.func65, Tryz.ntmps65
       go_wp2
       go_ret
       exact ⟨rfl, hB _ _⟩
   | cons x ps =>
     obtain rfl : false = q := by rw [← hq]; simp [bareOk]
     clear hq
     obtain ⟨n, hn⟩ : ∃ n, (x :: ps).length = n := ⟨_, rfl⟩
     have hn2 : 0 < n := by rw [← hn]; simp
     have t1 : ((n : Int) == 0) = false := beq_false_of_ne (by omega)
     rw [hn]
     clear hn
     go_enter Tryz.func65, Tryz.ntmps65
     go_wp2
     go_ret
     exact ⟨rfl, hB _ _⟩
  ·obtain rfl : false = q := by rw [← hq]; simp [bareOk, h1]
   have t1 := priv_ne h1
   clear hq h1
   go_enter Tryz.func65, Tryz.ntmps65
   go_wp2
   go_ret
   exact ⟨rfl, hB _ _⟩
 ·rw [fm5]
  by_cases h1 : pv = 0
  ·subst h1
   cases ps with
   | nil =>
     cases d with
     | nil =>
       obtain rfl : true = q := by rw [← hq]; simp [bareOk]
       clear hq
       go_enter Tryz.func65, Tryz.ntmps65
       go_wp2
       go_ret
       exact ⟨rfl, hB _ _⟩
     | cons x d =>
       obtain rfl : false = q := by rw [← hq]; simp [bareOk]
       clear hq
       go_enter Tryz.func65, Tryz.ntmps65
       go_wp2
       go_ret
       exact ⟨rfl, hB _ _⟩
   | cons x ps =>
     obtain rfl : false = q := by rw [← hq]; simp [bareOk]
     clear hq
     obtain ⟨n, hn⟩ : ∃ n, (x :: ps).length = n := ⟨_, rfl⟩
     have hn2 : 0 < n := by rw [← hn]; simp
     have t1 : ((n : Int) == 0) = false := beq_false_of_ne (by omega)
     rw [hn]
     clear hn
     go_enter Tryz.func65, Tryz.ntmps65
     go_wp2
     go_ret
     exact ⟨rfl, hB _ _⟩
  ·obtain rfl : false = q := by rw [← hq]; simp [bareOk, h1]
   have t1 := priv_ne h1
   clear hq h1
   go_enter Tryz.func65, Tryz.ntmps65
   go_wp2
   go_ret
   exact ⟨rfl, hB _ _⟩
theorem idx_mem (l : List UInt8) (c : UInt8) : (0 ≤ Lib.indexByte l c) ↔ c ∈ l := by
 induction l with
 | nil => simp [Lib.indexByte]
 | cons b l ih =>
   have := Lib.indexByte_ge l c
   unfold Lib.indexByte
   by_cases h : b = c
   ·subst h; simp
   ·have h2 : ¬ c = b := fun e => h e.symm
    rw [if_neg (by simpa using h)]
    simp only [List.mem_cons, h2, false_or, ← ih]
    by_cases h3 : Lib.indexByte l c = -1
    ·rw [if_pos (by simpa using h3)]; omega
    ·rw [if_neg (by simpa using h3)]; omega
theorem idx_in (c : UInt8) : (0 ≤ Lib.indexByte [79, 80, 88, 91, 93, 92, 94, 95] c) ↔ ([79, 80, 88, 91, 93, 92, 94, 95] : List UInt8).contains c = true := by
 rw [idx_mem, List.contains_iff_mem]
set_option maxRecDepth 100000 in
set_option maxHeartbeats 4000000 in
theorem ends_any (s : Sq) (A : Option Addr) (c : Nat) (q : Bool) (w : World) (hk : s.kind = 1 ∨ s.kind = 2 ∨ s.kind = 3 ∨ s.kind = 4 ∨ s.kind = 5) (hq : lastOk s = q) :
 Calls Tryz.prog 66 #[fmV (formF s.kind), sqV s A c] w fun e w' => e = .returned (.bool q) ∧ Below w.heap.size w w' := by
 have hB : ∀ (x y : Obj), Below w.heap.size w ((w.alloc x).alloc y) := fun x y => ((Below.refl _ w).alloc (Nat.le_refl _) _).alloc (by simp) _
 obtain ⟨q1, q5, q4, q0⟩ := last_q hq
 obtain ⟨k, pv, ps, it, f, d⟩ := s
 dsimp only at hk q1 q5 q4 ⊢
 have hf := f.toNat_lt
 unfold sqV
 dsimp only
 have key : (k = 1 ∨ k = 2 ∨ k = 3) ∨ k = 4 ∨ k = 5 := by omega
 clear hk q0
 rcases key with h | rfl | rfl
 ·have E := Lib.hid (q1 h)
  clear q1 q5 q4 hq
  obtain ⟨n, hn⟩ : ∃ n, f.toNat = n := ⟨_, rfl⟩
  rw [hn] at E hf ⊢
  clear hn
  rcases h with rfl | rfl | rfl
  ·rw [fm1]
   go_enter Tryz.func66, Tryz.ntmps66
   go_wp2
   all_goals
    go_ret
    refine ⟨ret_b ?_, hB _ _⟩
    rw [E.out, Bool.eq_iff_iff]
    simp
    omega
  ·rw [fm2]
   go_enter Tryz.func66, Tryz.ntmps66
   go_wp2
   all_goals
    go_ret
    refine ⟨ret_b ?_, hB _ _⟩
    rw [E.out, Bool.eq_iff_iff]
    simp
    omega
  ·rw [fm3]
   go_enter Tryz.func66, Tryz.ntmps66
   go_wp2
   all_goals
    go_ret
    refine ⟨ret_b ?_, hB _ _⟩
    rw [E.out, Bool.eq_iff_iff]
    simp
    omega
 ·have E := Lib.hid (q4 rfl)
  clear q1 q5 q4 hq
  obtain ⟨n, hn⟩ : ∃ n, f.toNat = n := ⟨_, rfl⟩
  rw [hn] at E hf ⊢
  clear hn
  rw [fm4]
  go_enter Tryz.func66, Tryz.ntmps66
  go_wp2
  all_goals
   go_ret
   refine ⟨ret_b ?_, hB _ _⟩
   rw [E.out, Bool.eq_iff_iff]
   simp
 ·obtain ⟨e1, e2⟩ := q5 rfl
  clear q1 q5 q4
  rw [fm5]
  cases it with
  | cons x it =>
    have E := Lib.hid (show q = (decide (48 ≤ f.toNat) && decide (f.toNat ≤ 126)) by
     by_cases h1 : 48 ≤ f.toNat
     ·by_cases h2 : f.toNat ≤ 126
      ·rw [(e2 h1 h2).1 (by simp)]; simp [h1, h2]
      ·rw [e1 (by omega)]; simp [h2]
     ·rw [e1 (by omega)]; simp [h1])
    clear e1 e2 hq
    obtain ⟨n, hn⟩ : ∃ n, f.toNat = n := ⟨_, rfl⟩
    rw [hn] at E hf ⊢
    clear hn
    go_enter Tryz.func66, Tryz.ntmps66
    go_wp2
    all_goals
     go_ret
     refine ⟨ret_b ?_, hB _ _⟩
     rw [E.out, Bool.eq_iff_iff]
     simp
     omega
  | nil =>
    clear e1 e2
    obtain ⟨x, hx⟩ : ∃ x, Lib.indexByte [79, 80, 88, 91, 93, 92, 94, 95] f = x := ⟨_, rfl⟩
    have hi := idx_in f
    rw [hx] at hi
    have HX := Lib.hid (show Lib.indexByte (⟨#[79, 80, 88, 91, 93, 92, 94, 95]⟩ : ByteArray).data.toList ((f.toNat : Int)).toNat.toUInt8 = x by rw [← hx]; congr 1; rw [Int.toNat_natCast]; simp)
    clear hx
    have HF := Lib.hid (show lastOk ⟨5, pv, ps, [], f, d⟩ = (btw 48 126 f && !([79, 80, 88, 91, 93, 92, 94, 95] : List UInt8).contains f) by simp [lastOk])
    by_cases h0 : 0 ≤ x
    ·have E := Lib.hid (show q = false by rw [← hq, HF.out, hi.1 h0]; simp)
     clear hq hi HF
     go_enter Tryz.func66, Tryz.ntmps66
     go_wp2_with fail
     refine (Tryz.strings_IndexByte _ _ _).mono ?_
     rw [HX.out]
     rintro e w1 ⟨rfl, rfl⟩
     go_wp2_with fail
     go_ret
     exact ⟨ret_b E.out.symm, hB _ _⟩
    ·have hc : ([79, 80, 88, 91, 93, 92, 94, 95] : List UInt8).contains f = false := by
      cases hh : ([79, 80, 88, 91, 93, 92, 94, 95] : List UInt8).contains f with
      | false => rfl
      | true => exact absurd (hi.2 hh) h0
     have E := Lib.hid (show q = (decide (48 ≤ f.toNat) && decide (f.toNat ≤ 126)) by rw [← hq, HF.out, hc]; simp [btw])
     clear hq hi HF hc
     obtain ⟨n, hn⟩ : ∃ n, f.toNat = n := ⟨_, rfl⟩
     rw [hn] at E hf HX ⊢
     clear hn
     go_enter Tryz.func66, Tryz.ntmps66
     go_wp2_with fail
     refine (Tryz.strings_IndexByte _ _ _).mono ?_
     rw [HX.out]
     rintro e w1 ⟨rfl, rfl⟩
     go_wp2_with fail
     all_goals
      go_ret
      refine ⟨ret_b ?_, hB _ _⟩
      rw [E.out, Bool.eq_iff_iff]
      simp
      omega
end Go.Proofs.YtdfojkbgdoiglaaGreatDoor
namespace Go.Proofs.YtdfojkbgdoiglaaGreatDoor
open Go.RowKit
def tkC (A : Option Addr) (n c at_ : Nat) (x0 x1 x2 x3 x4 x5 : Value) : Array Value := #[.slice A n c, .int .i64 (at_ : Int), x0, x1, x2, x3, x4, x5]
def Rdr (w : World) (g : Nat) (A : Option Addr) (c : Nat) (l : List UInt8) (x0 x1 x2 x3 x4 x5 : Value) (r : List UInt8) : Prop :=
 ∃ at_ : Nat, at_ ≤ l.length ∧ l.drop at_ = r ∧ RdIn g w A (bs l) ∧ Blk w g 61 (tkC A l.length c at_ x0 x1 x2 x3 x4 x5)
theorem bytesIn_of {w : World} {A : Option Addr} {l : List UInt8} (h : Rd w A (bs l)) : Lib.BytesIn w A l.length (l.map fun x => (x.toNat : Int)) := fun hn => by
 obtain ⟨b, o, rfl, _, hc⟩ := h.at_ hn
 refine ⟨b, o, rfl, fun i hi => ?_⟩
 rw [hc i hi]
 simp [List.getD, List.getElem?_eq_getElem hi]
theorem hasp_any (A1 A2 : Option Addr) (n c m d : Nat) (l t : List UInt8) (q : Bool) (w : World) (hl : l.length = n) (ht : t.length = m) (hc : n ≤ c) (hq : skipB t l = q) (h1 : Rd w A1 (bs l)) (h2 : Rd w A2 (bs t)) :
 Calls Tryz.prog 61 #[.slice A1 n c, .slice A2 m d] w fun e w' => e = .returned (.bool q) ∧ w = w' := by
 subst hl
 subst ht
 refine (Tryz.bytes_HasPrefix_all A1 A2 _ c _ d (l.map fun x => (x.toNat : Int)) (t.map fun x => (x.toNat : Int)) w (by simp) (by simp) hc (bytesIn_of h1) (bytesIn_of h2)).mono ?_
 rintro e w' ⟨rfl, rfl⟩
 refine ⟨?_, rfl⟩
 have e : ∀ k : List UInt8, Lib.bytesOf (k.map fun x => (x.toNat : Int)) = k := fun k => by
  unfold Lib.bytesOf
  rw [List.map_map]
  calc k.map ((fun n : Int => UInt8.ofNat n.toNat) ∘ fun x : UInt8 => (x.toNat : Int)) = k.map id := List.map_congr_left (fun x _ => by simp)
   _ = k := List.map_id k
 rw [e, e, ← hq]
 rfl
set_option maxRecDepth 100000 in
set_option maxHeartbeats 4000000 in
theorem skip_any (g : Nat) (A : Option Addr) (c : Nat) (l t r : List UInt8) (x0 x1 x2 x3 x4 x5 : Value) (q : Bool) (w : World) (hq : skipB t r = q) (hlc : l.length ≤ c) (hl : l.length ≤ 4294967296) (ht : t.length ≤ 4294967296) (h : Rdr w g A c l x0 x1 x2 x3 x4 x5 r) :
 Calls Tryz.prog 32 #[.pointer (some ⟨g, 0, none⟩), .string ⟨t.toArray⟩] w fun e w' => e = .returned (.bool q) ∧ Rdr w' g A c l x0 x1 x2 x3 x4 x5 (if q = true then r.drop t.length else r) ∧ w.grownBy w' (some g) := by
 obtain ⟨at_, hat, hr, hrd, hblk⟩ := h
 have hlt := hblk.lt
 obtain ⟨A', hcut, hrd2⟩ := cut_run (P := Tryz.prog) (T := 27) (e := 5) (by kernel_rfl) Tryz.underlying27 Tryz.sizeOf5 A l.length c at_ hat hlc
 have hrd3 := hrd2 g w l rfl hrd
 obtain ⟨C, X, hX⟩ := conv_all Tryz.prog 9 27 5 t Tryz.underlying9 Tryz.underlying27 Tryz.underlying5 (by simp only [maxLen]; omega)
 have hV := fun W => (hX W).1
 have HX := Lib.hid (fun W => (hX W).2.2)
 have c0 : w.cell? ⟨g, 0, none⟩ = some (.slice A l.length c) := hblk.cell 0
 have c1 : w.cell? ⟨g, 1, none⟩ = some (.int .i64 (at_ : Int)) := hblk.cell 1
 have fz := hblk.frozen 1
 have HQ := Lib.hid hq
 have HR := Lib.hid hr
 clear hq hr hX
 have n0 : (0 : Int) ≤ (at_ : Int) := by omega
 have n1 : (at_ : Int) ≤ (l.length : Int) := by omega
 go_enter Tryz.func32, Tryz.ntmps32
 go_wp2_with fail
 have HB : Hid (∀ W, Below w.heap.size w W → Below w.heap.size w (X W)) := Lib.hid fun W hb => hb.trans ((HX.out W).2.mono hb.size)
 have HS : Hid (∀ W, Below w.heap.size w W → W.cell? ⟨g, 0, none⟩ = some (.slice A l.length c) ∧ W.cell? ⟨g, 1, none⟩ = some (.int .i64 (at_ : Int)) ∧ Below w.heap.size w W) := Lib.hid fun W hb => ⟨(hb.cell (p := ⟨g, 0, none⟩) hlt).trans c0, (hb.cell (p := ⟨g, 1, none⟩) hlt).trans c1, hb⟩
 have HR3 : Hid (∀ W, Below w.heap.size w W → Rd W A' (bs (l.drop at_))) := Lib.hid fun W hb => ((hrd3.rd (Nat.le_of_lt hlt))).below hb
 have HL := Lib.hid (show (l.drop at_).length = l.length - at_ from List.length_drop)
 have HQ2 := Lib.hid (show skipB t (l.drop at_) = q by rw [HR.out]; exact HQ.out)
 have hlc2 : l.length - at_ ≤ c - at_ := by omega
 have hat2 := hat
 clear hrd2 hrd3
 go_region_held (fun w' => w'.cell? ⟨g, 0, none⟩ = some (.slice A l.length c) ∧ w'.cell? ⟨g, 1, none⟩ = some (.int .i64 (at_ : Int)) ∧ Below w.heap.size w w') (first | exact HS.out _ (Below.refl _ _).drew | exact HS.out _ (HB.out _ (Below.refl _ _).drew)) (first | (go_at_call 61; refine (hasp_any A' _ _ _ _ _ (l.drop at_) t q _ HL.out rfl hlc2 HQ2.out (HR3.out _ (HB.out _ (Below.refl _ _).drew)) (HX.out _).1).mono ?_; rintro e w2 ⟨rfl, rfl⟩))
 have hbX := HB.out _ (Below.refl w.heap.size w).drew
 clear hcut hV HX HS HB HR3 HL hlc2 HQ2
 generalize X w.drew = W1 at *
 clear X
 have hblk1 := hblk.below hbX hlt
 have hrd1 := hrd.below (hbX.mono (Nat.le_of_lt hlt))
 have d1 : W1.cell? ⟨g, 1, none⟩ = some (.int .i64 (at_ : Int)) := hblk1.cell 1
 have fz1 := hblk1.frozen 1
 have hg1 := grown_below (some g) hbX
 clear c0 c1 fz
 cases q with
 | false =>
   go_wp2_with fail
   go_ret
   exact ⟨rfl, ⟨at_, hat, HR.out, hrd1, hblk1⟩, hg1⟩
 | true =>
   have hp := skipB_some HQ.out
   have hlen := congrArg List.length hp
   rw [List.length_append, ← HR.out, List.length_drop] at hlen
   have hle : at_ + t.length ≤ l.length := by omega
   have HP := Lib.hid (show l.drop (at_ + t.length) = r.drop t.length by rw [← HR.out, List.drop_drop])
   clear hp hlen
   go_wp2_with fail
   go_ret
   refine ⟨rfl, ⟨at_ + t.length, hle, HP.out, ?_, ?_⟩, ?_⟩
   ·exact RdIn.grown hrd1 (grown_setCell g 1 _ W1) hblk1.lt
   ·have := hblk1.set 1 (.int .i64 ((at_ + t.length : Nat) : Int))
    rw [Int.natCast_add] at this
    exact this
   ·exact grown_trans hg1 (grown_setCell g 1 _ W1)
end Go.Proofs.YtdfojkbgdoiglaaGreatDoor
