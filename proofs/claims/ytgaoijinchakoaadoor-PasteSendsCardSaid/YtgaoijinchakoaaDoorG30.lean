/-
  Layer 3, walked: the program's May.
-/
import Derived.Test.YtgaoijinchakoaaDoorG08
import Derived.Test.YtgaoijinchakoaaDoorG25
import Derived.Test.YtgaoijinchakoaaDoorG28
import Derived.Test.YtgaoijinchakoaaDoorG29
import Derived.Deep.Cut
namespace Go.Proofs.YtgaoijinchakoaaDoor
open Go.RowKit
theorem last_kind {s : Sq} (h : ¬ (s.kind = 1 ∨ s.kind = 2 ∨ s.kind = 3 ∨ s.kind = 4 ∨ s.kind = 5)) : lastOk s = false := by
 unfold lastOk
 rw [if_neg (by omega), if_neg (by omega), decide_eq_false (by omega)]
 rfl
def frmC (f : Fm) : Array Value := #[.string ⟨f.letter.toArray⟩, .bool f.body, .bool f.inter, .int .u8 (f.first.toNat : Int), .string ⟨f.en.toArray⟩]
structure Two (w W : World) (s : Sq) (A : Option Addr) (c : Nat) (f : Fm) (g : Nat) : Prop where
 sq : Blk W w.heap.size 53 (seqC s A c)
 fm : Blk W g 75 (frmC f)
 be : Below w.heap.size w W
 lt : w.heap.size < g
theorem Two.next {w W W' : World} {s : Sq} {A : Option Addr} {c : Nat} {f : Fm} {g : Nat} (h : Two w W s A c f g) (hb : Below W.heap.size W W') : Two w W' s A c f g :=
 ⟨h.sq.below hb h.sq.lt, h.fm.below hb h.fm.lt, h.be.trans (hb.mono h.be.size), h.lt⟩
theorem Two.new {w w1 : World} {s : Sq} {A : Option Addr} {c : Nat} (f : Fm) (hb : Below (w.alloc (.cells (seqC s A c) 53)).heap.size (w.alloc (.cells (seqC s A c) 53)) w1) :
 Two w (w1.alloc (.cells (frmC f) 75)) s A c f w1.heap.size := by
 have h0 : Blk (w.alloc (.cells (seqC s A c) 53)) w.heap.size 53 (seqC s A c) := Blk.new w _ _
 have h1 := h0.below hb h0.lt
 have hb1 : Below w.heap.size w w1 := ((Below.refl _ w).alloc (Nat.le_refl _) _).trans (hb.mono (by simp))
 exact ⟨h1.alloc _, Blk.new _ _ _, hb1.alloc hb1.size _, h1.lt⟩
theorem Two.cells {w W : World} {s : Sq} {A : Option Addr} {c : Nat} {f : Fm} {g : Nat} (h : Two w W s A c f g) :
 (W.cell? ⟨w.heap.size, 0, none⟩ = some (.int .i64 s.kind) ∧ W.cell? ⟨w.heap.size, 1, none⟩ = some (.int .u8 (s.priv.toNat : Int)) ∧ W.cell? ⟨w.heap.size, 2, none⟩ = some (.slice A s.params.length c) ∧ W.cell? ⟨w.heap.size, 3, none⟩ = some (.string ⟨s.inter.toArray⟩) ∧ W.cell? ⟨w.heap.size, 4, none⟩ = some (.int .u8 (s.final.toNat : Int)) ∧ W.cell? ⟨w.heap.size, 5, none⟩ = some (.string ⟨s.data.toArray⟩)) ∧
 (W.cell? ⟨g, 0, none⟩ = some (.string ⟨f.letter.toArray⟩) ∧ W.cell? ⟨g, 1, none⟩ = some (.bool f.body) ∧ W.cell? ⟨g, 2, none⟩ = some (.bool f.inter) ∧ W.cell? ⟨g, 3, none⟩ = some (.int .u8 (f.first.toNat : Int)) ∧ W.cell? ⟨g, 4, none⟩ = some (.string ⟨f.en.toArray⟩)) :=
 ⟨Blk.cells6 h.sq, Blk.cells5 h.fm⟩
set_option maxRecDepth 100000 in
set_option maxHeartbeats 8000000 in
theorem pmay_any (s : Sq) (A : Option Addr) (c : Nat) (m : Int) (w : World) (hm : mayS s = m) (hp : s.params.length ≤ 4294967296) (hpp : ∀ p ∈ s.params, p.length ≤ 4294967296) (hi : s.inter.length ≤ 4294967296) (hr : RdP w A s.params) :
 Calls Tryd.prog 47 #[sqV s A c] w fun e w' => e = .returned (.int .i64 m) ∧ Below w.heap.size w w' := by
 by_cases hd : 4096 < s.data.length
 ·obtain rfl : 4 = m := (may_4 hd).symm.trans hm
  clear hm
  unfold sqV
  go_enter Tryd.func47, Tryd.ntmps47
  go_wp2_with fail
  go_ret
  exact ⟨rfl, (Below.refl _ _).alloc (Nat.le_refl _) _⟩
 ·have hd4 : s.data.length ≤ 4096 := by omega
  clear hd
  have hB : Below w.heap.size w (w.alloc (.cells #[.int .i64 s.kind, .int .u8 (s.priv.toNat : Int), .slice A s.params.length c, .string ⟨s.inter.toArray⟩, .int .u8 (s.final.toNat : Int), .string ⟨s.data.toArray⟩] 53)) := (Below.refl _ _).alloc (Nat.le_refl _) _
  by_cases hk : s.kind = 1 ∨ s.kind = 2 ∨ s.kind = 3 ∨ s.kind = 4 ∨ s.kind = 5
  ·have HK := Lib.hid hk
   have HKB := Lib.hid (show kindB s.kind = true from decide_eq_true hk)
   clear hk
   unfold sqV
   go_enter Tryd.func47, Tryd.ntmps47
   go_wp2_with fail
   refine (formOf_any s.kind _).mono ?_
   rw [HKB.out]
   rintro e w1 ⟨rfl, hb1⟩
   obtain ⟨f, hf⟩ : ∃ f, formF s.kind = f := ⟨_, rfl⟩
   have HF := Lib.hid hf
   rw [hf]
   clear hf
   have T1 : Two w (w1.alloc (.cells #[.string ⟨f.letter.toArray⟩, .bool f.body, .bool f.inter, .int .u8 (f.first.toNat : Int), .string ⟨f.en.toArray⟩] 75)) s A c f w1.heap.size := Two.new f hb1
   unfold fmV
   go_upto_region 4 with (fail)
   obtain ⟨⟨c0, c1, c2, c3, c4, c5⟩, f0, f1, f2, f3, f4⟩ := T1.cells
   generalize w1.alloc (.cells #[.string ⟨f.letter.toArray⟩, .bool f.body, .bool f.inter, .int .u8 (f.first.toNat : Int), .string ⟨f.en.toArray⟩] 75) = W1 at *
   have T := T1
   clear T1
   cases h1 : bareOk s with
   | false =>
     have V1 := Lib.hid h1
     clear h1
     obtain rfl : 1 = m := (may_1 hd4 (by simp [okS, V1.out])).symm.trans hm
     clear hm
     go_wp2_with fail
     rw [← HF.out]
     refine (holds_any s A c false _ HK.out V1.out).mono ?_
     rintro e w2 ⟨rfl, hb2⟩
     have T2 := T.next hb2
     go_wp2_with fail
     go_ret
     exact ⟨rfl, T2.be⟩
   | true =>
     have V1 := Lib.hid h1
     clear h1
     go_wp2_with fail
     rw [← HF.out]
     refine (holds_any s A c true _ HK.out V1.out).mono ?_
     rw [HF.out]
     rintro e w2 ⟨rfl, hb2⟩
     have T2 := T.next hb2
     clear T c0 c1 c2 c3 c4 c5 f0 f1 f2 f3 f4
     obtain ⟨⟨c0, c1, c2, c3, c4, c5⟩, f0, f1, f2, f3, f4⟩ := T2.cells
     cases h2 : lastOk s with
     | false =>
       have V2 := Lib.hid h2
       clear h2
       obtain rfl : 1 = m := (may_1 hd4 (by simp [okS, V1.out, V2.out])).symm.trans hm
       clear hm
       go_wp2_with fail
       rw [← HF.out]
       refine (ends_any s A c false _ HK.out V2.out).mono ?_
       rintro e w3 ⟨rfl, hb3⟩
       have T3 := T2.next hb3
       go_wp2_with fail
       go_ret
       exact ⟨rfl, T3.be⟩
     | true =>
       have V2 := Lib.hid h2
       clear h2
       go_wp2_with fail
       rw [← HF.out]
       refine (ends_any s A c true _ HK.out V2.out).mono ?_
       rw [HF.out]
       rintro e w3 ⟨rfl, hb3⟩
       have T3 := T2.next hb3
       clear T2 c0 c1 c2 c3 c4 c5 f0 f1 f2 f3 f4
       obtain ⟨⟨c0, c1, c2, c3, c4, c5⟩, f0, f1, f2, f3, f4⟩ := T3.cells
       cases h3 : parOk s.params with
       | false =>
         have V3 := Lib.hid h3
         clear h3
         obtain rfl : 1 = m := (may_1 hd4 (by simp [okS, V3.out])).symm.trans hm
         clear hm
         go_wp2_with fail
         refine (pparams_any A c s.params false _ V3.out hp hpp (hr.below T3.be)).mono ?_
         rintro e w4 ⟨rfl, rfl⟩
         go_wp2_with fail
         go_ret
         exact ⟨rfl, T3.be⟩
       | true =>
         have V3 := Lib.hid h3
         clear h3
         go_wp2_with fail
         refine (pparams_any A c s.params true _ V3.out hp hpp (hr.below T3.be)).mono ?_
         rintro e w4 ⟨rfl, rfl⟩
         cases h4 : privOk s.priv with
         | false =>
           obtain rfl : 1 = m := (may_1 hd4 (by simp [okS, h4])).symm.trans hm
           clear hm
           simp only [privOk, Bool.or_eq_false_iff, decide_eq_false_iff_not] at h4
           obtain ⟨p0, p1⟩ := h4
           have p2 := (btw_no _ _ _).1 p1
           have t1 := priv_ne p0
           have t2 : ((s.priv.toNat : Int) != 0) = true := by simp [bne, t1]
           clear p0 p1
           by_cases p3 : s.priv.toNat < 60
           all_goals
            go_wp2_with fail
            go_ret
            exact ⟨rfl, T3.be⟩
         | true =>
           have V4 := Lib.hid h4
           have key : ((s.priv.toNat : Int) == 0) = true ∧ ((s.priv.toNat : Int) != 0) = false ∨ ((s.priv.toNat : Int) == 0) = false ∧ ((s.priv.toNat : Int) != 0) = true ∧ 60 ≤ s.priv.toNat ∧ s.priv.toNat ≤ 63 := by
            simp only [privOk, Bool.or_eq_true, decide_eq_true_eq] at h4
            rcases h4 with h4 | h4
            ·left; rw [h4]; exact ⟨rfl, rfl⟩
            ·right
             have := (btw_iff _ _ _).1 h4
             have t1 : ((s.priv.toNat : Int) == 0) = false := beq_false_of_ne (by omega)
             exact ⟨t1, by simp [bne, t1], this⟩
           clear h4
           rcases key with ⟨t1, t2⟩ | ⟨t1, t2, p1, p2⟩
           all_goals
            by_cases h5 : 2 < s.inter.length
            ·obtain rfl : 1 = m := (may_1 hd4 (by
              have : ¬ s.inter.length ≤ 2 := by omega
              simp [okS, this])).symm.trans hm
             clear hm
             go_wp2_with fail
             go_ret
             exact ⟨rfl, T3.be⟩
            ·have h5 : s.inter.length ≤ 2 := by omega
             have V5 := Lib.hid h5
             cases h6 : s.inter.all (btw 32 47) with
             | false =>
               have V6 := Lib.hid h6
               clear h6
               obtain rfl : 1 = m := (may_1 hd4 (by simp [okS, V6.out])).symm.trans hm
               clear hm
               go_wp2_with fail
               refine (pwithin_any s.inter 32 47 false _ (by omega) V6.out).mono ?_
               rintro e w5 ⟨rfl, rfl⟩
               go_wp2_with fail
               go_ret
               exact ⟨rfl, T3.be⟩
             | true =>
               have V6 := Lib.hid h6
               clear h6
               cases h7 : s.data.all (btw 32 126) with
               | false =>
                 have V7 := Lib.hid h7
                 clear h7
                 obtain rfl : 1 = m := (may_1 hd4 (by simp [okS, V7.out])).symm.trans hm
                 clear hm
                 go_wp2_with fail
                 refine (pwithin_any s.inter 32 47 true _ (by omega) V6.out).mono ?_
                 rintro e w5 ⟨rfl, rfl⟩
                 go_wp2_with fail
                 refine (pwithin_any s.data 32 126 false _ (by omega) V7.out).mono ?_
                 rintro e w6 ⟨rfl, rfl⟩
                 go_wp2_with fail
                 go_ret
                 exact ⟨rfl, T3.be⟩
               | true =>
                 have V7 := Lib.hid h7
                 clear h7
                 obtain rfl : 0 = m := (may_0 hd4 (by simp [okS, V1.out, V2.out, V3.out, V4.out, V5.out, V6.out, V7.out])).symm.trans hm
                 clear hm
                 go_wp2_with fail
                 refine (pwithin_any s.inter 32 47 true _ (by omega) V6.out).mono ?_
                 rintro e w5 ⟨rfl, rfl⟩
                 go_wp2_with fail
                 refine (pwithin_any s.data 32 126 true _ (by omega) V7.out).mono ?_
                 rintro e w6 ⟨rfl, rfl⟩
                 go_wp2_with fail
                 go_ret
                 exact ⟨rfl, T3.be⟩
  ·obtain rfl : 1 = m := (may_1 hd4 (by simp [okS, last_kind hk])).symm.trans hm
   have HKB := Lib.hid (show kindB s.kind = false from decide_eq_false hk)
   clear hk hm
   unfold sqV
   go_enter Tryd.func47, Tryd.ntmps47
   go_wp2_with fail
   refine (formOf_any s.kind _).mono ?_
   rw [HKB.out]
   rintro e w1 ⟨rfl, hb1⟩
   unfold fmV
   go_wp2_with fail
   go_ret
   exact ⟨rfl, (hB.trans (hb1.mono (by simp))).alloc (Nat.le_trans (by simp) hb1.size) _⟩
end Go.Proofs.YtgaoijinchakoaaDoor
