/-
  Layer 3, walked: the program's holds and ends. Layer 3, walked: the program's May.
-/
import Derived.Test.YtjlhhelikiegdaaGreatDoorG06
import Derived.Test.YtjlhhelikiegdaaGreatDoorG09
import Derived.Test.YtjlhhelikiegdaaGreatDoorG14
import Derived.Test.YtjlhhelikiegdaaGreatDoorG15
import Derived.Test.YtjlhhelikiegdaaGreatDoorG19
import Derived.Test.YtjlhhelikiegdaaGreatDoorShelf
import Derived.Deep.Cut
namespace Go.Proofs.YtjlhhelikiegdaaGreatDoor
open Go.RowKit
theorem fm1 : fmV (formF 1) = .agg #[.string ⟨#[91]⟩, .bool true, .bool true, .int .u8 64, .string ⟨#[]⟩] := rfl
theorem fm2 : fmV (formF 2) = .agg #[.string ⟨#[79]⟩, .bool false, .bool false, .int .u8 64, .string ⟨#[]⟩] := rfl
theorem fm3 : fmV (formF 3) = .agg #[.string ⟨#[80]⟩, .bool true, .bool true, .int .u8 64, .string ⟨#[27, 92]⟩] := rfl
theorem fm4 : fmV (formF 4) = .agg #[.string ⟨#[93]⟩, .bool false, .bool false, .int .u8 0, .string ⟨#[27, 92]⟩] := rfl
theorem fm5 : fmV (formF 5) = .agg #[.string ⟨#[]⟩, .bool false, .bool true, .int .u8 48, .string ⟨#[]⟩] := rfl
theorem priv_ne {c : UInt8} (h : c ≠ 0) : ((c.toNat : Int) == 0) = false := beq_false_of_ne (fun e => h (UInt8.toNat_inj.1 (by show c.toNat = 0; omega)))
set_option maxRecDepth 100000 in
set_option maxHeartbeats 4000000 in
theorem holds_any (s : Sq) (A : Option Addr) (c : Nat) (q : Bool) (w : World) (hk : s.kind = 1 ∨ s.kind = 2 ∨ s.kind = 3 ∨ s.kind = 4 ∨ s.kind = 5) (hq : bareOk s = q) :
 Calls Tryz.prog 64 #[fmV (formF s.kind), sqV s A c] w fun e w' => e = .returned (.bool q) ∧ Below w.heap.size w w' := by
 obtain ⟨k, pv, ps, it, f, d⟩ := s
 have hB : ∀ (x y : Obj), Below w.heap.size w ((w.alloc x).alloc y) := fun x y => ((Below.refl _ w).alloc (Nat.le_refl _) _).alloc (by simp) _
 dsimp only at hk ⊢
 unfold sqV
 dsimp only
 rcases hk with rfl | rfl | rfl | rfl | rfl
 ·rw [fm1]
  cases d with
  | nil =>
    obtain rfl : true = q := by rw [← hq]; simp [bareOk]
    clear hq
    go_enter Tryz.func64, Tryz.ntmps64
    go_wp2
    go_ret
    exact ⟨rfl, hB _ _⟩
  | cons x d =>
    obtain rfl : false = q := by rw [← hq]; simp [bareOk]
    clear hq
    go_enter Tryz.func64, Tryz.ntmps64
    go_wp2
    go_ret
    exact ⟨rfl, hB _ _⟩
 ·rw [fm2]
  by_cases h1 : pv = 0
  ·subst h1
   cases ps with
   | nil =>
     cases it with
     | nil =>
       cases d with
       | nil =>
         obtain rfl : true = q := by rw [← hq]; simp [bareOk]
         clear hq
         go_enter Tryz.func64, Tryz.ntmps64
         go_wp2
         go_ret
         exact ⟨rfl, hB _ _⟩
       | cons x d =>
         obtain rfl : false = q := by rw [← hq]; simp [bareOk]
         clear hq
         go_enter Tryz.func64, Tryz.ntmps64
         go_wp2
         go_ret
         exact ⟨rfl, hB _ _⟩
     | cons x it =>
       obtain rfl : false = q := by rw [← hq]; simp [bareOk]
       clear hq
       go_enter Tryz.func64, Tryz.ntmps64
       go_wp2
       go_ret
       exact ⟨rfl, hB _ _⟩
   | cons x ps =>
     obtain rfl : false = q := by rw [← hq]; simp [bareOk]
     clear hq
     obtain ⟨n, hn⟩ : ∃ n, (x :: ps).length = n := ⟨_, rfl⟩
     have hn2 : 0 < n := by rw [← hn]; simp
     have t1 : ((n : Int) == 0) = false := beq_false_of_ne (by omega)
     rw [hn]
     clear hn
     go_enter Tryz.func64, Tryz.ntmps64
     go_wp2
     go_ret
     exact ⟨rfl, hB _ _⟩
  ·obtain rfl : false = q := by rw [← hq]; simp [bareOk, h1]
   have t1 := priv_ne h1
   clear hq h1
   go_enter Tryz.func64, Tryz.ntmps64
   go_wp2
   go_ret
   exact ⟨rfl, hB _ _⟩
 ·rw [fm3]
  obtain rfl : true = q := by rw [← hq]; simp [bareOk]
  clear hq
  go_enter Tryz.func64, Tryz.ntmps64
  go_wp2
  go_ret
  exact ⟨rfl, hB _ _⟩
 ·rw [fm4]
  by_cases h1 : pv = 0
  ·subst h1
   cases ps with
   | nil =>
     cases it with
     | nil =>
       obtain rfl : true = q := by rw [← hq]; simp [bareOk]
       clear hq
       go_enter Tryz.func64, Tryz.ntmps64
       go_wp2
       go_ret
       exact ⟨rfl, hB _ _⟩
     | cons x it =>
       obtain rfl : false = q := by rw [← hq]; simp [bareOk]
       clear hq
       go_enter Tryz.func64, Tryz.ntmps64
       go_wp2
       go_ret
       exact ⟨rfl, hB _ _⟩
   | cons x ps =>
     obtain rfl : false = q := by rw [← hq]; simp [bareOk]
     clear hq
     obtain ⟨n, hn⟩ : ∃ n, (x :: ps).length = n := ⟨_, rfl⟩
     have hn2 : 0 < n := by rw [← hn]; simp
     have t1 : ((n : Int) == 0) = false := beq_false_of_ne (by omega)
     rw [hn]
     clear hn
     go_enter Tryz.func64, Tryz.ntmps64
     go_wp2
     go_ret
     exact ⟨rfl, hB _ _⟩
  ·obtain rfl : false = q := by rw [← hq]; simp [bareOk, h1]
   have t1 := priv_ne h1
   clear hq h1
   go_enter Tryz.func64, Tryz.ntmps64
   go_wp2
   go_ret
   exact ⟨rfl, hB _ _⟩
 ·rw [fm5]
  by_cases h1 : pv = 0
  ·subst h1
   cases ps with
   | nil =>
     cases d with
     | nil =>
       obtain rfl : true = q := by rw [← hq]; simp [bareOk]
       clear hq
       go_enter Tryz.func64, Tryz.ntmps64
       go_wp2
       go_ret
       exact ⟨rfl, hB _ _⟩
     | cons x d =>
       obtain rfl : false = q := by rw [← hq]; simp [bareOk]
       clear hq
       go_enter Tryz.func64, Tryz.ntmps64
       go_wp2
       go_ret
       exact ⟨rfl, hB _ _⟩
   | cons x ps =>
     obtain rfl : false = q := by rw [← hq]; simp [bareOk]
     clear hq
     obtain ⟨n, hn⟩ : ∃ n, (x :: ps).length = n := ⟨_, rfl⟩
     have hn2 : 0 < n := by rw [← hn]; simp
     have t1 : ((n : Int) == 0) = false := beq_false_of_ne (by omega)
     rw [hn]
     clear hn
     go_enter Tryz.func64, Tryz.ntmps64
     go_wp2
     go_ret
     exact ⟨rfl, hB _ _⟩
  ·obtain rfl : false = q := by rw [← hq]; simp [bareOk, h1]
   have t1 := priv_ne h1
   clear hq h1
   go_enter Tryz.func64, Tryz.ntmps64
   go_wp2
   go_ret
   exact ⟨rfl, hB _ _⟩
theorem idx_mem (l : List UInt8) (c : UInt8) : (0 ≤ Lib.indexByte l c) ↔ c ∈ l := by
 induction l with
 | nil => simp [Lib.indexByte]
 | cons b l ih =>
   have := Lib.indexByte_ge l c
   unfold Lib.indexByte
   by_cases h : b = c
   ·subst h; simp
   ·have h2 : ¬ c = b := fun e => h e.symm
    rw [if_neg (by simpa using h)]
    simp only [List.mem_cons, h2, false_or, ← ih]
    by_cases h3 : Lib.indexByte l c = -1
    ·rw [if_pos (by simpa using h3)]; omega
    ·rw [if_neg (by simpa using h3)]; omega
theorem idx_in (c : UInt8) : (0 ≤ Lib.indexByte [79, 80, 88, 91, 93, 92, 94, 95] c) ↔ ([79, 80, 88, 91, 93, 92, 94, 95] : List UInt8).contains c = true := by
 rw [idx_mem, List.contains_iff_mem]
set_option maxRecDepth 100000 in
set_option maxHeartbeats 4000000 in
theorem ends_any (s : Sq) (A : Option Addr) (c : Nat) (q : Bool) (w : World) (hk : s.kind = 1 ∨ s.kind = 2 ∨ s.kind = 3 ∨ s.kind = 4 ∨ s.kind = 5) (hq : lastOk s = q) :
 Calls Tryz.prog 65 #[fmV (formF s.kind), sqV s A c] w fun e w' => e = .returned (.bool q) ∧ Below w.heap.size w w' := by
 have hB : ∀ (x y : Obj), Below w.heap.size w ((w.alloc x).alloc y) := fun x y => ((Below.refl _ w).alloc (Nat.le_refl _) _).alloc (by simp) _
 obtain ⟨q1, q5, q4, q0⟩ := last_q hq
 obtain ⟨k, pv, ps, it, f, d⟩ := s
 dsimp only at hk q1 q5 q4 ⊢
 have hf := f.toNat_lt
 unfold sqV
 dsimp only
 have key : (k = 1 ∨ k = 2 ∨ k = 3) ∨ k = 4 ∨ k = 5 := by omega
 clear hk q0
 rcases key with h | rfl | rfl
 ·have E := Lib.hid (q1 h)
  clear q1 q5 q4 hq
  obtain ⟨n, hn⟩ : ∃ n, f.toNat = n := ⟨_, rfl⟩
  rw [hn] at E hf ⊢
  clear hn
  rcases h with rfl | rfl | rfl
  ·rw [fm1]
   go_enter Tryz.func65, Tryz.ntmps65
   go_wp2
   all_goals
    go_ret
    refine ⟨ret_b ?_, hB _ _⟩
    rw [E.out, Bool.eq_iff_iff]
    simp
    omega
  ·rw [fm2]
   go_enter Tryz.func65, Tryz.ntmps65
   go_wp2
   all_goals
    go_ret
    refine ⟨ret_b ?_, hB _ _⟩
    rw [E.out, Bool.eq_iff_iff]
    simp
    omega
  ·rw [fm3]
   go_enter Tryz.func65, Tryz.ntmps65
   go_wp2
   all_goals
    go_ret
    refine ⟨ret_b ?_, hB _ _⟩
    rw [E.out, Bool.eq_iff_iff]
    simp
    omega
 ·have E := Lib.hid (q4 rfl)
  clear q1 q5 q4 hq
  obtain ⟨n, hn⟩ : ∃ n, f.toNat = n := ⟨_, rfl⟩
  rw [hn] at E hf ⊢
  clear hn
  rw [fm4]
  go_enter Tryz.func65, Tryz.ntmps65
  go_wp2
  all_goals
   go_ret
   refine ⟨ret_b ?_, hB _ _⟩
   rw [E.out, Bool.eq_iff_iff]
   simp
 ·obtain ⟨e1, e2⟩ := q5 rfl
  clear q1 q5 q4
  rw [fm5]
  cases it with
  | cons x it =>
    have E := Lib.hid (show q = (decide (48 ≤ f.toNat) && decide (f.toNat ≤ 126)) by
     by_cases h1 : 48 ≤ f.toNat
     ·by_cases h2 : f.toNat ≤ 126
      ·rw [(e2 h1 h2).1 (by simp)]; simp [h1, h2]
      ·rw [e1 (by omega)]; simp [h2]
     ·rw [e1 (by omega)]; simp [h1])
    clear e1 e2 hq
    obtain ⟨n, hn⟩ : ∃ n, f.toNat = n := ⟨_, rfl⟩
    rw [hn] at E hf ⊢
    clear hn
    go_enter Tryz.func65, Tryz.ntmps65
    go_wp2
    all_goals
     go_ret
     refine ⟨ret_b ?_, hB _ _⟩
     rw [E.out, Bool.eq_iff_iff]
     simp
     omega
  | nil =>
    clear e1 e2
    obtain ⟨x, hx⟩ : ∃ x, Lib.indexByte [79, 80, 88, 91, 93, 92, 94, 95] f = x := ⟨_, rfl⟩
    have hi := idx_in f
    rw [hx] at hi
    have HX := Lib.hid (show Lib.indexByte (⟨#[79, 80, 88, 91, 93, 92, 94, 95]⟩ : ByteArray).data.toList ((f.toNat : Int)).toNat.toUInt8 = x by rw [← hx]; congr 1; rw [Int.toNat_natCast]; simp)
    clear hx
    have HF := Lib.hid (show lastOk ⟨5, pv, ps, [], f, d⟩ = (btw 48 126 f && !([79, 80, 88, 91, 93, 92, 94, 95] : List UInt8).contains f) by simp [lastOk])
    by_cases h0 : 0 ≤ x
    ·have E := Lib.hid (show q = false by rw [← hq, HF.out, hi.1 h0]; simp)
     clear hq hi HF
     go_enter Tryz.func65, Tryz.ntmps65
     go_wp2_with fail
     refine (Tryz.strings_IndexByte _ _ _).mono ?_
     rw [HX.out]
     rintro e w1 ⟨rfl, rfl⟩
     go_wp2_with fail
     go_ret
     exact ⟨ret_b E.out.symm, hB _ _⟩
    ·have hc : ([79, 80, 88, 91, 93, 92, 94, 95] : List UInt8).contains f = false := by
      cases hh : ([79, 80, 88, 91, 93, 92, 94, 95] : List UInt8).contains f with
      | false => rfl
      | true => exact absurd (hi.2 hh) h0
     have E := Lib.hid (show q = (decide (48 ≤ f.toNat) && decide (f.toNat ≤ 126)) by rw [← hq, HF.out, hc]; simp [btw])
     clear hq hi HF hc
     obtain ⟨n, hn⟩ : ∃ n, f.toNat = n := ⟨_, rfl⟩
     rw [hn] at E hf HX ⊢
     clear hn
     go_enter Tryz.func65, Tryz.ntmps65
     go_wp2_with fail
     refine (Tryz.strings_IndexByte _ _ _).mono ?_
     rw [HX.out]
     rintro e w1 ⟨rfl, rfl⟩
     go_wp2_with fail
     all_goals
      go_ret
      refine ⟨ret_b ?_, hB _ _⟩
      rw [E.out, Bool.eq_iff_iff]
      simp
      omega
theorem last_kind {s : Sq} (h : ¬ (s.kind = 1 ∨ s.kind = 2 ∨ s.kind = 3 ∨ s.kind = 4 ∨ s.kind = 5)) : lastOk s = false := by
 unfold lastOk
 rw [if_neg (by omega), if_neg (by omega), decide_eq_false (by omega)]
 rfl
def frmC (f : Fm) : Array Value := #[.string ⟨f.letter.toArray⟩, .bool f.body, .bool f.inter, .int .u8 (f.first.toNat : Int), .string ⟨f.en.toArray⟩]
structure Two (w W : World) (s : Sq) (A : Option Addr) (c : Nat) (f : Fm) (g : Nat) : Prop where
 sq : Blk W w.heap.size 44 (seqC s A c)
 fm : Blk W g 66 (frmC f)
 be : Below w.heap.size w W
 lt : w.heap.size < g
theorem Two.next {w W W' : World} {s : Sq} {A : Option Addr} {c : Nat} {f : Fm} {g : Nat} (h : Two w W s A c f g) (hb : Below W.heap.size W W') : Two w W' s A c f g :=
 ⟨h.sq.below hb h.sq.lt, h.fm.below hb h.fm.lt, h.be.trans (hb.mono h.be.size), h.lt⟩
theorem Two.new {w w1 : World} {s : Sq} {A : Option Addr} {c : Nat} (f : Fm) (hb : Below (w.alloc (.cells (seqC s A c) 44)).heap.size (w.alloc (.cells (seqC s A c) 44)) w1) :
 Two w (w1.alloc (.cells (frmC f) 66)) s A c f w1.heap.size := by
 have h0 : Blk (w.alloc (.cells (seqC s A c) 44)) w.heap.size 44 (seqC s A c) := Blk.new w _ _
 have h1 := h0.below hb h0.lt
 have hb1 : Below w.heap.size w w1 := ((Below.refl _ w).alloc (Nat.le_refl _) _).trans (hb.mono (by simp))
 exact ⟨h1.alloc _, Blk.new _ _ _, hb1.alloc hb1.size _, h1.lt⟩
theorem Two.cells {w W : World} {s : Sq} {A : Option Addr} {c : Nat} {f : Fm} {g : Nat} (h : Two w W s A c f g) :
 (W.cell? ⟨w.heap.size, 0, none⟩ = some (.int .i64 s.kind) ∧ W.cell? ⟨w.heap.size, 1, none⟩ = some (.int .u8 (s.priv.toNat : Int)) ∧ W.cell? ⟨w.heap.size, 2, none⟩ = some (.slice A s.params.length c) ∧ W.cell? ⟨w.heap.size, 3, none⟩ = some (.string ⟨s.inter.toArray⟩) ∧ W.cell? ⟨w.heap.size, 4, none⟩ = some (.int .u8 (s.final.toNat : Int)) ∧ W.cell? ⟨w.heap.size, 5, none⟩ = some (.string ⟨s.data.toArray⟩)) ∧
 (W.cell? ⟨g, 0, none⟩ = some (.string ⟨f.letter.toArray⟩) ∧ W.cell? ⟨g, 1, none⟩ = some (.bool f.body) ∧ W.cell? ⟨g, 2, none⟩ = some (.bool f.inter) ∧ W.cell? ⟨g, 3, none⟩ = some (.int .u8 (f.first.toNat : Int)) ∧ W.cell? ⟨g, 4, none⟩ = some (.string ⟨f.en.toArray⟩)) :=
 ⟨Blk.cells6 h.sq, Blk.cells5 h.fm⟩
set_option maxRecDepth 100000 in
set_option maxHeartbeats 8000000 in
theorem pmay_any (s : Sq) (A : Option Addr) (c : Nat) (m : Int) (w : World) (hm : mayS s = m) (hp : s.params.length ≤ 4294967296) (hpp : ∀ p ∈ s.params, p.length ≤ 4294967296) (hi : s.inter.length ≤ 4294967296) (hr : RdP w A s.params) :
 Calls Tryz.prog 50 #[sqV s A c] w fun e w' => e = .returned (.int .i64 m) ∧ Below w.heap.size w w' := by
 by_cases hd : 4096 < s.data.length
 ·obtain rfl : 4 = m := (may_4 hd).symm.trans hm
  clear hm
  unfold sqV
  go_enter Tryz.func50, Tryz.ntmps50
  go_wp2_with fail
  go_ret
  exact ⟨rfl, (Below.refl _ _).alloc (Nat.le_refl _) _⟩
 ·have hd4 : s.data.length ≤ 4096 := by omega
  clear hd
  have hB : Below w.heap.size w (w.alloc (.cells #[.int .i64 s.kind, .int .u8 (s.priv.toNat : Int), .slice A s.params.length c, .string ⟨s.inter.toArray⟩, .int .u8 (s.final.toNat : Int), .string ⟨s.data.toArray⟩] 44)) := (Below.refl _ _).alloc (Nat.le_refl _) _
  by_cases hk : s.kind = 1 ∨ s.kind = 2 ∨ s.kind = 3 ∨ s.kind = 4 ∨ s.kind = 5
  ·have HK := Lib.hid hk
   have HKB := Lib.hid (show kindB s.kind = true from decide_eq_true hk)
   clear hk
   unfold sqV
   go_enter Tryz.func50, Tryz.ntmps50
   go_wp2_with fail
   refine (formOf_any s.kind _).mono ?_
   rw [HKB.out]
   rintro e w1 ⟨rfl, hb1⟩
   obtain ⟨f, hf⟩ : ∃ f, formF s.kind = f := ⟨_, rfl⟩
   have HF := Lib.hid hf
   rw [hf]
   clear hf
   have T1 : Two w (w1.alloc (.cells #[.string ⟨f.letter.toArray⟩, .bool f.body, .bool f.inter, .int .u8 (f.first.toNat : Int), .string ⟨f.en.toArray⟩] 66)) s A c f w1.heap.size := Two.new f hb1
   unfold fmV
   go_upto_region 4 with (fail)
   obtain ⟨⟨c0, c1, c2, c3, c4, c5⟩, f0, f1, f2, f3, f4⟩ := T1.cells
   generalize w1.alloc (.cells #[.string ⟨f.letter.toArray⟩, .bool f.body, .bool f.inter, .int .u8 (f.first.toNat : Int), .string ⟨f.en.toArray⟩] 66) = W1 at *
   have T := T1
   clear T1
   cases h1 : bareOk s with
   | false =>
     have V1 := Lib.hid h1
     clear h1
     obtain rfl : 1 = m := (may_1 hd4 (by simp [okS, V1.out])).symm.trans hm
     clear hm
     go_wp2_with fail
     rw [← HF.out]
     refine (holds_any s A c false _ HK.out V1.out).mono ?_
     rintro e w2 ⟨rfl, hb2⟩
     have T2 := T.next hb2
     go_wp2_with fail
     go_ret
     exact ⟨rfl, T2.be⟩
   | true =>
     have V1 := Lib.hid h1
     clear h1
     go_wp2_with fail
     rw [← HF.out]
     refine (holds_any s A c true _ HK.out V1.out).mono ?_
     rw [HF.out]
     rintro e w2 ⟨rfl, hb2⟩
     have T2 := T.next hb2
     clear T c0 c1 c2 c3 c4 c5 f0 f1 f2 f3 f4
     obtain ⟨⟨c0, c1, c2, c3, c4, c5⟩, f0, f1, f2, f3, f4⟩ := T2.cells
     cases h2 : lastOk s with
     | false =>
       have V2 := Lib.hid h2
       clear h2
       obtain rfl : 1 = m := (may_1 hd4 (by simp [okS, V1.out, V2.out])).symm.trans hm
       clear hm
       go_wp2_with fail
       rw [← HF.out]
       refine (ends_any s A c false _ HK.out V2.out).mono ?_
       rintro e w3 ⟨rfl, hb3⟩
       have T3 := T2.next hb3
       go_wp2_with fail
       go_ret
       exact ⟨rfl, T3.be⟩
     | true =>
       have V2 := Lib.hid h2
       clear h2
       go_wp2_with fail
       rw [← HF.out]
       refine (ends_any s A c true _ HK.out V2.out).mono ?_
       rw [HF.out]
       rintro e w3 ⟨rfl, hb3⟩
       have T3 := T2.next hb3
       clear T2 c0 c1 c2 c3 c4 c5 f0 f1 f2 f3 f4
       obtain ⟨⟨c0, c1, c2, c3, c4, c5⟩, f0, f1, f2, f3, f4⟩ := T3.cells
       cases h3 : parOk s.params with
       | false =>
         have V3 := Lib.hid h3
         clear h3
         obtain rfl : 1 = m := (may_1 hd4 (by simp [okS, V3.out])).symm.trans hm
         clear hm
         go_wp2_with fail
         refine (pparams_any A c s.params false _ V3.out hp hpp (hr.below T3.be)).mono ?_
         rintro e w4 ⟨rfl, rfl⟩
         go_wp2_with fail
         go_ret
         exact ⟨rfl, T3.be⟩
       | true =>
         have V3 := Lib.hid h3
         clear h3
         go_wp2_with fail
         refine (pparams_any A c s.params true _ V3.out hp hpp (hr.below T3.be)).mono ?_
         rintro e w4 ⟨rfl, rfl⟩
         cases h4 : privOk s.priv with
         | false =>
           obtain rfl : 1 = m := (may_1 hd4 (by simp [okS, h4])).symm.trans hm
           clear hm
           simp only [privOk, Bool.or_eq_false_iff, decide_eq_false_iff_not] at h4
           obtain ⟨p0, p1⟩ := h4
           have p2 := (btw_no _ _ _).1 p1
           have t1 := priv_ne p0
           have t2 : ((s.priv.toNat : Int) != 0) = true := by simp [bne, t1]
           clear p0 p1
           by_cases p3 : s.priv.toNat < 60
           all_goals
            go_wp2_with fail
            go_ret
            exact ⟨rfl, T3.be⟩
         | true =>
           have V4 := Lib.hid h4
           have key : ((s.priv.toNat : Int) == 0) = true ∧ ((s.priv.toNat : Int) != 0) = false ∨ ((s.priv.toNat : Int) == 0) = false ∧ ((s.priv.toNat : Int) != 0) = true ∧ 60 ≤ s.priv.toNat ∧ s.priv.toNat ≤ 63 := by
            simp only [privOk, Bool.or_eq_true, decide_eq_true_eq] at h4
            rcases h4 with h4 | h4
            ·left; rw [h4]; exact ⟨rfl, rfl⟩
            ·right
             have := (btw_iff _ _ _).1 h4
             have t1 : ((s.priv.toNat : Int) == 0) = false := beq_false_of_ne (by omega)
             exact ⟨t1, by simp [bne, t1], this⟩
           clear h4
           rcases key with ⟨t1, t2⟩ | ⟨t1, t2, p1, p2⟩
           all_goals
            by_cases h5 : 2 < s.inter.length
            ·obtain rfl : 1 = m := (may_1 hd4 (by
              have : ¬ s.inter.length ≤ 2 := by omega
              simp [okS, this])).symm.trans hm
             clear hm
             go_wp2_with fail
             go_ret
             exact ⟨rfl, T3.be⟩
            ·have h5 : s.inter.length ≤ 2 := by omega
             have V5 := Lib.hid h5
             cases h6 : s.inter.all (btw 32 47) with
             | false =>
               have V6 := Lib.hid h6
               clear h6
               obtain rfl : 1 = m := (may_1 hd4 (by simp [okS, V6.out])).symm.trans hm
               clear hm
               go_wp2_with fail
               refine (pwithin_any s.inter 32 47 false _ (by omega) V6.out).mono ?_
               rintro e w5 ⟨rfl, rfl⟩
               go_wp2_with fail
               go_ret
               exact ⟨rfl, T3.be⟩
             | true =>
               have V6 := Lib.hid h6
               clear h6
               cases h7 : s.data.all (btw 32 126) with
               | false =>
                 have V7 := Lib.hid h7
                 clear h7
                 obtain rfl : 1 = m := (may_1 hd4 (by simp [okS, V7.out])).symm.trans hm
                 clear hm
                 go_wp2_with fail
                 refine (pwithin_any s.inter 32 47 true _ (by omega) V6.out).mono ?_
                 rintro e w5 ⟨rfl, rfl⟩
                 go_wp2_with fail
                 refine (pwithin_any s.data 32 126 false _ (by omega) V7.out).mono ?_
                 rintro e w6 ⟨rfl, rfl⟩
                 go_wp2_with fail
                 go_ret
                 exact ⟨rfl, T3.be⟩
               | true =>
                 have V7 := Lib.hid h7
                 clear h7
                 obtain rfl : 0 = m := (may_0 hd4 (by simp [okS, V1.out, V2.out, V3.out, V4.out, V5.out, V6.out, V7.out])).symm.trans hm
                 clear hm
                 go_wp2_with fail
                 refine (pwithin_any s.inter 32 47 true _ (by omega) V6.out).mono ?_
                 rintro e w5 ⟨rfl, rfl⟩
                 go_wp2_with fail
                 refine (pwithin_any s.data 32 126 true _ (by omega) V7.out).mono ?_
                 rintro e w6 ⟨rfl, rfl⟩
                 go_wp2_with fail
                 go_ret
                 exact ⟨rfl, T3.be⟩
  ·obtain rfl : 1 = m := (may_1 hd4 (by simp [okS, last_kind hk])).symm.trans hm
   have HKB := Lib.hid (show kindB s.kind = false from decide_eq_false hk)
   clear hk hm
   unfold sqV
   go_enter Tryz.func50, Tryz.ntmps50
   go_wp2_with fail
   refine (formOf_any s.kind _).mono ?_
   rw [HKB.out]
   rintro e w1 ⟨rfl, hb1⟩
   unfold fmV
   go_wp2_with fail
   go_ret
   exact ⟨rfl, (hB.trans (hb1.mono (by simp))).alloc (Nat.le_trans (by simp) hb1.size) _⟩
end Go.Proofs.YtjlhhelikiegdaaGreatDoor
