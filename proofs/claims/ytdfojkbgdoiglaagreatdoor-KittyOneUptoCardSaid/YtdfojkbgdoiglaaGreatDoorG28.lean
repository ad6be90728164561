/-
  Layer 3, walked: the program's May. Layer 3, walked: the program's reader: run.
-/
import Derived.Test.YtdfojkbgdoiglaaGreatDoorG13
import Derived.Test.YtdfojkbgdoiglaaGreatDoorG14
import Derived.Test.YtdfojkbgdoiglaaGreatDoorG20
import Derived.Test.YtdfojkbgdoiglaaGreatDoorG24
import Derived.Test.YtdfojkbgdoiglaaGreatDoorG27
import Derived.Deep.Cut
namespace Go.Proofs.YtdfojkbgdoiglaaGreatDoor
open Go.RowKit
theorem last_kind {s : Sq} (h : ¬ (s.kind = 1 ∨ s.kind = 2 ∨ s.kind = 3 ∨ s.kind = 4 ∨ s.kind = 5)) : lastOk s = false := by
 unfold lastOk
 rw [if_neg (by omega), if_neg (by omega), decide_eq_false (by omega)]
 rfl
def frmC (f : Fm) : Array Value := #[.string ⟨f.letter.toArray⟩, .bool f.body, .bool f.inter, .int .u8 (f.first.toNat : Int), .string ⟨f.en.toArray⟩]
structure Two (w W : World) (s : Sq) (A : Option Addr) (c : Nat) (f : Fm) (g : Nat) : Prop where
 sq : Blk W w.heap.size 35 (seqC s A c)
 fm : Blk W g 63 (frmC f)
 be : Below w.heap.size w W
 lt : w.heap.size < g
theorem Two.next {w W W' : World} {s : Sq} {A : Option Addr} {c : Nat} {f : Fm} {g : Nat} (h : Two w W s A c f g) (hb : Below W.heap.size W W') : Two w W' s A c f g :=
 ⟨h.sq.below hb h.sq.lt, h.fm.below hb h.fm.lt, h.be.trans (hb.mono h.be.size), h.lt⟩
theorem Two.new {w w1 : World} {s : Sq} {A : Option Addr} {c : Nat} (f : Fm) (hb : Below (w.alloc (.cells (seqC s A c) 35)).heap.size (w.alloc (.cells (seqC s A c) 35)) w1) :
 Two w (w1.alloc (.cells (frmC f) 63)) s A c f w1.heap.size := by
 have h0 : Blk (w.alloc (.cells (seqC s A c) 35)) w.heap.size 35 (seqC s A c) := Blk.new w _ _
 have h1 := h0.below hb h0.lt
 have hb1 : Below w.heap.size w w1 := ((Below.refl _ w).alloc (Nat.le_refl _) _).trans (hb.mono (by simp))
 exact ⟨h1.alloc _, Blk.new _ _ _, hb1.alloc hb1.size _, h1.lt⟩
theorem Two.cells {w W : World} {s : Sq} {A : Option Addr} {c : Nat} {f : Fm} {g : Nat} (h : Two w W s A c f g) :
 (W.cell? ⟨w.heap.size, 0, none⟩ = some (.int .i64 s.kind) ∧ W.cell? ⟨w.heap.size, 1, none⟩ = some (.int .u8 (s.priv.toNat : Int)) ∧ W.cell? ⟨w.heap.size, 2, none⟩ = some (.slice A s.params.length c) ∧ W.cell? ⟨w.heap.size, 3, none⟩ = some (.string ⟨s.inter.toArray⟩) ∧ W.cell? ⟨w.heap.size, 4, none⟩ = some (.int .u8 (s.final.toNat : Int)) ∧ W.cell? ⟨w.heap.size, 5, none⟩ = some (.string ⟨s.data.toArray⟩)) ∧
 (W.cell? ⟨g, 0, none⟩ = some (.string ⟨f.letter.toArray⟩) ∧ W.cell? ⟨g, 1, none⟩ = some (.bool f.body) ∧ W.cell? ⟨g, 2, none⟩ = some (.bool f.inter) ∧ W.cell? ⟨g, 3, none⟩ = some (.int .u8 (f.first.toNat : Int)) ∧ W.cell? ⟨g, 4, none⟩ = some (.string ⟨f.en.toArray⟩)) :=
 ⟨Blk.cells6 h.sq, Blk.cells5 h.fm⟩
set_option maxRecDepth 100000 in
set_option maxHeartbeats 8000000 in
theorem pmay_any (s : Sq) (A : Option Addr) (c : Nat) (m : Int) (w : World) (hm : mayS s = m) (hp : s.params.length ≤ 4294967296) (hpp : ∀ p ∈ s.params, p.length ≤ 4294967296) (hi : s.inter.length ≤ 4294967296) (hr : RdP w A s.params) :
 Calls Tryz.prog 34 #[sqV s A c] w fun e w' => e = .returned (.int .i64 m) ∧ Below w.heap.size w w' := by
 by_cases hd : 4096 < s.data.length
 ·obtain rfl : 4 = m := (may_4 hd).symm.trans hm
  clear hm
  unfold sqV
  go_enter Tryz.func34, Tryz.ntmps34
  go_wp2_with fail
  go_ret
  exact ⟨rfl, (Below.refl _ _).alloc (Nat.le_refl _) _⟩
 ·have hd4 : s.data.length ≤ 4096 := by omega
  clear hd
  have hB : Below w.heap.size w (w.alloc (.cells #[.int .i64 s.kind, .int .u8 (s.priv.toNat : Int), .slice A s.params.length c, .string ⟨s.inter.toArray⟩, .int .u8 (s.final.toNat : Int), .string ⟨s.data.toArray⟩] 35)) := (Below.refl _ _).alloc (Nat.le_refl _) _
  by_cases hk : s.kind = 1 ∨ s.kind = 2 ∨ s.kind = 3 ∨ s.kind = 4 ∨ s.kind = 5
  ·have HK := Lib.hid hk
   have HKB := Lib.hid (show kindB s.kind = true from decide_eq_true hk)
   clear hk
   unfold sqV
   go_enter Tryz.func34, Tryz.ntmps34
   go_wp2_with fail
   refine (formOf_any s.kind _).mono ?_
   rw [HKB.out]
   rintro e w1 ⟨rfl, hb1⟩
   obtain ⟨f, hf⟩ : ∃ f, formF s.kind = f := ⟨_, rfl⟩
   have HF := Lib.hid hf
   rw [hf]
   clear hf
   have T1 : Two w (w1.alloc (.cells #[.string ⟨f.letter.toArray⟩, .bool f.body, .bool f.inter, .int .u8 (f.first.toNat : Int), .string ⟨f.en.toArray⟩] 63)) s A c f w1.heap.size := Two.new f hb1
   unfold fmV
   go_upto_region 4 with (fail)
   obtain ⟨⟨c0, c1, c2, c3, c4, c5⟩, f0, f1, f2, f3, f4⟩ := T1.cells
   generalize w1.alloc (.cells #[.string ⟨f.letter.toArray⟩, .bool f.body, .bool f.inter, .int .u8 (f.first.toNat : Int), .string ⟨f.en.toArray⟩] 63) = W1 at *
   have T := T1
   clear T1
   cases h1 : bareOk s with
   | false =>
     have V1 := Lib.hid h1
     clear h1
     obtain rfl : 1 = m := (may_1 hd4 (by simp [okS, V1.out])).symm.trans hm
     clear hm
     go_wp2_with fail
     rw [← HF.out]
     refine (holds_any s A c false _ HK.out V1.out).mono ?_
     rintro e w2 ⟨rfl, hb2⟩
     have T2 := T.next hb2
     go_wp2_with fail
     go_ret
     exact ⟨rfl, T2.be⟩
   | true =>
     have V1 := Lib.hid h1
     clear h1
     go_wp2_with fail
     rw [← HF.out]
     refine (holds_any s A c true _ HK.out V1.out).mono ?_
     rw [HF.out]
     rintro e w2 ⟨rfl, hb2⟩
     have T2 := T.next hb2
     clear T c0 c1 c2 c3 c4 c5 f0 f1 f2 f3 f4
     obtain ⟨⟨c0, c1, c2, c3, c4, c5⟩, f0, f1, f2, f3, f4⟩ := T2.cells
     cases h2 : lastOk s with
     | false =>
       have V2 := Lib.hid h2
       clear h2
       obtain rfl : 1 = m := (may_1 hd4 (by simp [okS, V1.out, V2.out])).symm.trans hm
       clear hm
       go_wp2_with fail
       rw [← HF.out]
       refine (ends_any s A c false _ HK.out V2.out).mono ?_
       rintro e w3 ⟨rfl, hb3⟩
       have T3 := T2.next hb3
       go_wp2_with fail
       go_ret
       exact ⟨rfl, T3.be⟩
     | true =>
       have V2 := Lib.hid h2
       clear h2
       go_wp2_with fail
       rw [← HF.out]
       refine (ends_any s A c true _ HK.out V2.out).mono ?_
       rw [HF.out]
       rintro e w3 ⟨rfl, hb3⟩
       have T3 := T2.next hb3
       clear T2 c0 c1 c2 c3 c4 c5 f0 f1 f2 f3 f4
       obtain ⟨⟨c0, c1, c2, c3, c4, c5⟩, f0, f1, f2, f3, f4⟩ := T3.cells
       cases h3 : parOk s.params with
       | false =>
         have V3 := Lib.hid h3
         clear h3
         obtain rfl : 1 = m := (may_1 hd4 (by simp [okS, V3.out])).symm.trans hm
         clear hm
         go_wp2_with fail
         refine (pparams_any A c s.params false _ V3.out hp hpp (hr.below T3.be)).mono ?_
         rintro e w4 ⟨rfl, rfl⟩
         go_wp2_with fail
         go_ret
         exact ⟨rfl, T3.be⟩
       | true =>
         have V3 := Lib.hid h3
         clear h3
         go_wp2_with fail
         refine (pparams_any A c s.params true _ V3.out hp hpp (hr.below T3.be)).mono ?_
         rintro e w4 ⟨rfl, rfl⟩
         cases h4 : privOk s.priv with
         | false =>
           obtain rfl : 1 = m := (may_1 hd4 (by simp [okS, h4])).symm.trans hm
           clear hm
           simp only [privOk, Bool.or_eq_false_iff, decide_eq_false_iff_not] at h4
           obtain ⟨p0, p1⟩ := h4
           have p2 := (btw_no _ _ _).1 p1
           have t1 := priv_ne p0
           have t2 : ((s.priv.toNat : Int) != 0) = true := by simp [bne, t1]
           clear p0 p1
           by_cases p3 : s.priv.toNat < 60
           all_goals
            go_wp2_with fail
            go_ret
            exact ⟨rfl, T3.be⟩
         | true =>
           have V4 := Lib.hid h4
           have key : ((s.priv.toNat : Int) == 0) = true ∧ ((s.priv.toNat : Int) != 0) = false ∨ ((s.priv.toNat : Int) == 0) = false ∧ ((s.priv.toNat : Int) != 0) = true ∧ 60 ≤ s.priv.toNat ∧ s.priv.toNat ≤ 63 := by
            simp only [privOk, Bool.or_eq_true, decide_eq_true_eq] at h4
            rcases h4 with h4 | h4
            ·left; rw [h4]; exact ⟨rfl, rfl⟩
            ·right
             have := (btw_iff _ _ _).1 h4
             have t1 : ((s.priv.toNat : Int) == 0) = false := beq_false_of_ne (by omega)
             exact ⟨t1, by simp [bne, t1], this⟩
           clear h4
           rcases key with ⟨t1, t2⟩ | ⟨t1, t2, p1, p2⟩
           all_goals
            by_cases h5 : 2 < s.inter.length
            ·obtain rfl : 1 = m := (may_1 hd4 (by
              have : ¬ s.inter.length ≤ 2 := by omega
              simp [okS, this])).symm.trans hm
             clear hm
             go_wp2_with fail
             go_ret
             exact ⟨rfl, T3.be⟩
            ·have h5 : s.inter.length ≤ 2 := by omega
             have V5 := Lib.hid h5
             cases h6 : s.inter.all (btw 32 47) with
             | false =>
               have V6 := Lib.hid h6
               clear h6
               obtain rfl : 1 = m := (may_1 hd4 (by simp [okS, V6.out])).symm.trans hm
               clear hm
               go_wp2_with fail
               refine (pwithin_any s.inter 32 47 false _ (by omega) V6.out).mono ?_
               rintro e w5 ⟨rfl, rfl⟩
               go_wp2_with fail
               go_ret
               exact ⟨rfl, T3.be⟩
             | true =>
               have V6 := Lib.hid h6
               clear h6
               cases h7 : s.data.all (btw 32 126) with
               | false =>
                 have V7 := Lib.hid h7
                 clear h7
                 obtain rfl : 1 = m := (may_1 hd4 (by simp [okS, V7.out])).symm.trans hm
                 clear hm
                 go_wp2_with fail
                 refine (pwithin_any s.inter 32 47 true _ (by omega) V6.out).mono ?_
                 rintro e w5 ⟨rfl, rfl⟩
                 go_wp2_with fail
                 refine (pwithin_any s.data 32 126 false _ (by omega) V7.out).mono ?_
                 rintro e w6 ⟨rfl, rfl⟩
                 go_wp2_with fail
                 go_ret
                 exact ⟨rfl, T3.be⟩
               | true =>
                 have V7 := Lib.hid h7
                 clear h7
                 obtain rfl : 0 = m := (may_0 hd4 (by simp [okS, V1.out, V2.out, V3.out, V4.out, V5.out, V6.out, V7.out])).symm.trans hm
                 clear hm
                 go_wp2_with fail
                 refine (pwithin_any s.inter 32 47 true _ (by omega) V6.out).mono ?_
                 rintro e w5 ⟨rfl, rfl⟩
                 go_wp2_with fail
                 refine (pwithin_any s.data 32 126 true _ (by omega) V7.out).mono ?_
                 rintro e w6 ⟨rfl, rfl⟩
                 go_wp2_with fail
                 go_ret
                 exact ⟨rfl, T3.be⟩
  ·obtain rfl : 1 = m := (may_1 hd4 (by simp [okS, last_kind hk])).symm.trans hm
   have HKB := Lib.hid (show kindB s.kind = false from decide_eq_false hk)
   clear hk hm
   unfold sqV
   go_enter Tryz.func34, Tryz.ntmps34
   go_wp2_with fail
   refine (formOf_any s.kind _).mono ?_
   rw [HKB.out]
   rintro e w1 ⟨rfl, hb1⟩
   unfold fmV
   go_wp2_with fail
   go_ret
   exact ⟨rfl, (hB.trans (hb1.mono (by simp))).alloc (Nat.le_trans (by simp) hb1.size) _⟩
end Go.Proofs.YtdfojkbgdoiglaaGreatDoor
namespace Go.Proofs.YtdfojkbgdoiglaaGreatDoor
open Go.RowKit
def atOf (w : World) (g : Nat) : Nat := match w.cell? ⟨g, 1, none⟩ with | some (.int _ i) => i.toNat | _ => 0
theorem atOf_blk {w : World} {g : Nat} {t : TypeId} {A : Option Addr} {n c k : Nat} {x0 x1 x2 x3 x4 x5 : Value} (h : Blk w g t (tkC A n c k x0 x1 x2 x3 x4 x5)) : atOf w g = k := by
 unfold atOf
 rw [show w.cell? ⟨g, 1, none⟩ = some (.int .i64 (k : Int)) from h.cell 1]
 simp
set_option maxRecDepth 100000 in
set_option maxHeartbeats 8000000 in
theorem run2_any (g : Nat) (A : Option Addr) (c a b m : Nat) (l r u : List UInt8) (x0 x1 x2 x3 x4 x5 : Value) (w : World) (hu : runF a b m r = u) (hlc : l.length ≤ c) (hl : l.length ≤ 4294967296) (hm : m ≤ 4294967296) (h : Rdr w g A c l x0 x1 x2 x3 x4 x5 r) :
 Calls Tryz.prog 64 #[.pointer (some ⟨g, 0, none⟩), .int .u8 a, .int .u8 b, .int .i64 m] w fun e w' => e = .returned (.string ⟨u.toArray⟩) ∧ Rdr w' g A c l x0 x1 x2 x3 x4 x5 (r.drop u.length) ∧ w.grownBy w' (some g) := by
 obtain ⟨at_, hat, hr, hrd, hblk⟩ := h
 have hlt := hblk.lt
 have c0 : w.cell? ⟨g, 0, none⟩ = some (.slice A l.length c) := hblk.cell 0
 have c1 : w.cell? ⟨g, 1, none⟩ = some (.int .i64 (at_ : Int)) := hblk.cell 1
 have HU := Lib.hid hu
 have HR := Lib.hid hr
 clear hu hr
 go_enter Tryz.func64, Tryz.ntmps64
 go_wp2_with fail
 go_loopw [] (fun wr => ∃ k : Nat, k ≤ m ∧ at_ + k ≤ l.length ∧ (r.take k).all (btw a b) = true ∧ RdIn g wr A (bs l) ∧ Blk wr g 61 (tkC A l.length c (at_ + k) x0 x1 x2 x3 x4 x5) ∧ w.grownBy wr (some g)) (fun wr => l.length - atOf wr g)
 case atStart => exact ⟨0, Nat.zero_le _, hat, rfl, hrd, hblk, World.grownBy.refl _ _⟩
 case round =>
  obtain ⟨k, hkm, hkl, hall, hrd1, hblk1, hg1⟩ := hrel
  have hlt1 := hblk1.lt
  obtain ⟨p, hp⟩ : ∃ p, at_ + k = p := ⟨_, rfl⟩
  have HP := Lib.hid hp
  rw [hp] at hkl hblk1
  clear hp
  have d0 : wr.cell? ⟨g, 0, none⟩ = some (.slice A l.length c) := hblk1.cell 0
  have d1 : wr.cell? ⟨g, 1, none⟩ = some (.int .i64 (p : Int)) := hblk1.cell 1
  have fz1 := hblk1.frozen 1
  have HA := Lib.hid hall
  clear hall c0 c1
  have hrl := Lib.hid (show r.length = l.length - at_ by rw [← HR.out, List.length_drop])
  have hke : k ≤ r.length := by rw [hrl.out]; have := HP.out; omega
  by_cases h1 : p < l.length
  ·have k1 : (p : Int) < (l.length : Int) := by omega
   have ew : IntKind.i64.wrap ((p : Int) - (at_ : Int)) = (k : Int) := by rw [IntWalk.i64_in _ (by have := HP.out; omega)]; have := HP.out; omega
   have ew0 : (p : Int) - (at_ : Int) = (k : Int) := by have := HP.out; omega
   obtain ⟨b2, o2, hA, hb2, hcc⟩ := hrd1 (by rw [bs_length]; omega)
   cases hA
   have hcp := hcc p _ (bs_get l p h1)
   have hB8 : B8 (l[p]'h1) = .int .u8 ((l[p]'h1).toNat : Int) := rfl
   rw [hB8] at hcp
   obtain ⟨x, hx⟩ : ∃ x, l[p]'h1 = x := ⟨_, rfl⟩
   rw [hx] at hcp
   have hxl := x.toNat_lt
   have hkr : k < r.length := by rw [hrl.out]; have := HP.out; omega
   have HX := Lib.hid (show r[k]'hkr = x by
    rw [← hx]
    have : ∀ (t : List UInt8) (h : k < t.length) (h2 : t = l.drop at_), t[k]'h = l[p]'h1 := fun t h h2 => by subst h2; rw [List.getElem_drop]; simp only [HP.out]
    exact this r hkr HR.out.symm)
   clear hx hcc hB8
   by_cases h2 : k < m
   ·have k2 : (k : Int) < (m : Int) := by omega
    by_cases h3 : a ≤ x.toNat
    ·by_cases h4 : x.toNat ≤ b
     ·have HN := Lib.hid (show (r.take (k + 1)).all (btw a b) = true by
       rw [List.take_succ_eq_append_getElem hkr, List.all_append, HA.out, HX.out]; simp [(btw_iff a b x).2 ⟨h3, h4⟩])
      go_wp2_with fail
      go_quiet (fail)
      go_wp2_with fail
      have hgs := grown_setCell g 1 (Value.int IntKind.i64 ((p : Int) + 1)) (wr.drewN nq)
      have hgd : wr.grownBy (wr.drewN nq) (some g) := ⟨rfl, rfl, rfl, Nat.le_refl _, fun _ _ _ => rfl⟩
      have hb3 : Blk ((wr.drewN nq).setCell ⟨g, 1, none⟩ (Value.int IntKind.i64 ((p : Int) + 1))) g 61 (tkC (some ⟨b2, o2, none⟩) l.length c (p + 1) x0 x1 x2 x3 x4 x5) := by
       have := (hblk1.drewN nq).set 1 (.int .i64 ((p : Int) + 1))
       exact this
      refine ⟨⟨k + 1, h2, by have := HP.out; omega, HN.out, RdIn.grown hrd1 (grown_trans hgd hgs) hlt1, ?_, grown_trans hg1 (grown_trans hgd hgs)⟩, ?_⟩
      ·rw [show at_ + (k + 1) = p + 1 by have := HP.out; omega]; exact hb3
      ·rw [atOf_blk hb3, atOf_blk hblk1]; omega
     ·have h4 : b < x.toNat := by omega
      have HE := Lib.hid (show u = r.take k from HU.out.symm.trans (runF_end (by omega) hkm HA.out (.inr (.inr ⟨hkr, by rw [HX.out, btw_no]; omega⟩))))
      go_wp2_with fail
      go_quiet (fail)
      obtain ⟨A', hcut, hrd2⟩ := cut2_run (P := Tryz.prog) (T := 27) (e := 5) (by kernel_rfl) Tryz.underlying27 Tryz.sizeOf5 (some ⟨b2, o2, none⟩) l.length c at_ p (by omega) hkl hlc
      have hpk : p - at_ = k := by have := HP.out; omega
      rw [hpk] at hcut hrd2
      have hcv : ∀ a n, (convert 27 9 (.slice A' k (c - at_))).run Tryz.prog ((wr.drewN a).drewN n) = .ok (.string ⟨u.toArray⟩) ((wr.drewN a).drewN n) := fun a n => by
       have h2 := (hrd2 g wr l rfl hrd1).rd (Nat.le_of_lt hlt1)
       have e2 : (l.drop at_).take k = u := by rw [HR.out]; exact HE.out.symm
       rw [e2] at h2
       exact conv_str (w := (wr.drewN a).drewN n) Tryz.underlying27 Tryz.underlying5 (by rw [HE.out, List.length_take]; omega) h2 9 Tryz.underlying9
      clear hrd2 hpk
      go_wp2_with fail
      have hblk2 := hblk1.drewN nq
      have hrdW : RdIn g (wr.drewN nq) (some ⟨b2, o2, none⟩) (bs l) := hrd1
      have hgW : w.grownBy (wr.drewN nq) (some g) := ⟨hg1.os, hg1.tape, hg1.output, hg1.size, hg1.block⟩
      have hcv2 : ∀ n, (convert 27 9 (.slice A' k (c - at_))).run Tryz.prog ((wr.drewN nq).drewN n) = .ok (.string ⟨u.toArray⟩) ((wr.drewN nq).drewN n) := fun n => hcv nq n
      have hcv0 : (convert 27 9 (.slice A' k (c - at_))).run Tryz.prog (wr.drewN nq) = .ok (.string ⟨u.toArray⟩) (wr.drewN nq) := hcv nq 0
      clear hcv d0 d1 fz1 hg1 hrd1 hblk1
      generalize wr.drewN nq = W at *
      have e0 : W.cell? ⟨g, 0, none⟩ = some (.slice (some ⟨b2, o2, none⟩) l.length c) := hblk2.cell 0
      have e1 : W.cell? ⟨g, 1, none⟩ = some (.int .i64 (p : Int)) := hblk2.cell 1
      go_quiet (fail)
      go_wp2_with fail
      go_ret
      refine ⟨rfl, ⟨p, hkl, ?_, hrdW, hblk2.drewN _⟩, ⟨hgW.os, hgW.tape, hgW.output, hgW.size, hgW.block⟩⟩
      rw [HE.out, List.length_take, Nat.min_eq_left hke, ← HR.out, List.drop_drop, HP.out]
    ·have h3 : x.toNat < a := by omega
     have HE := Lib.hid (show u = r.take k from HU.out.symm.trans (runF_end (by omega) hkm HA.out (.inr (.inr ⟨hkr, by rw [HX.out, btw_no]; omega⟩))))
     go_wp2_with fail
     go_quiet (fail)
     obtain ⟨A', hcut, hrd2⟩ := cut2_run (P := Tryz.prog) (T := 27) (e := 5) (by kernel_rfl) Tryz.underlying27 Tryz.sizeOf5 (some ⟨b2, o2, none⟩) l.length c at_ p (by omega) hkl hlc
     have hpk : p - at_ = k := by have := HP.out; omega
     rw [hpk] at hcut hrd2
     have hcv : ∀ a n, (convert 27 9 (.slice A' k (c - at_))).run Tryz.prog ((wr.drewN a).drewN n) = .ok (.string ⟨u.toArray⟩) ((wr.drewN a).drewN n) := fun a n => by
      have h2 := (hrd2 g wr l rfl hrd1).rd (Nat.le_of_lt hlt1)
      have e2 : (l.drop at_).take k = u := by rw [HR.out]; exact HE.out.symm
      rw [e2] at h2
      exact conv_str (w := (wr.drewN a).drewN n) Tryz.underlying27 Tryz.underlying5 (by rw [HE.out, List.length_take]; omega) h2 9 Tryz.underlying9
     clear hrd2 hpk
     go_wp2_with fail
     have hblk2 := hblk1.drewN nq
     have hrdW : RdIn g (wr.drewN nq) (some ⟨b2, o2, none⟩) (bs l) := hrd1
     have hgW : w.grownBy (wr.drewN nq) (some g) := ⟨hg1.os, hg1.tape, hg1.output, hg1.size, hg1.block⟩
     have hcv2 : ∀ n, (convert 27 9 (.slice A' k (c - at_))).run Tryz.prog ((wr.drewN nq).drewN n) = .ok (.string ⟨u.toArray⟩) ((wr.drewN nq).drewN n) := fun n => hcv nq n
     have hcv0 : (convert 27 9 (.slice A' k (c - at_))).run Tryz.prog (wr.drewN nq) = .ok (.string ⟨u.toArray⟩) (wr.drewN nq) := hcv nq 0
     clear hcv d0 d1 fz1 hg1 hrd1 hblk1
     generalize wr.drewN nq = W at *
     have e0 : W.cell? ⟨g, 0, none⟩ = some (.slice (some ⟨b2, o2, none⟩) l.length c) := hblk2.cell 0
     have e1 : W.cell? ⟨g, 1, none⟩ = some (.int .i64 (p : Int)) := hblk2.cell 1
     go_quiet (fail)
     go_wp2_with fail
     go_ret
     refine ⟨rfl, ⟨p, hkl, ?_, hrdW, hblk2.drewN _⟩, ⟨hgW.os, hgW.tape, hgW.output, hgW.size, hgW.block⟩⟩
     rw [HE.out, List.length_take, Nat.min_eq_left hke, ← HR.out, List.drop_drop, HP.out]
   ·have k2 : (m : Int) ≤ (k : Int) := by omega
    have HE := Lib.hid (show u = r.take k from HU.out.symm.trans (runF_end (by omega) hkm HA.out (.inl (by omega))))
    go_wp2_with fail
    go_quiet (fail)
    obtain ⟨A', hcut, hrd2⟩ := cut2_run (P := Tryz.prog) (T := 27) (e := 5) (by kernel_rfl) Tryz.underlying27 Tryz.sizeOf5 (some ⟨b2, o2, none⟩) l.length c at_ p (by omega) hkl hlc
    have hpk : p - at_ = k := by have := HP.out; omega
    rw [hpk] at hcut hrd2
    have hcv : ∀ a n, (convert 27 9 (.slice A' k (c - at_))).run Tryz.prog ((wr.drewN a).drewN n) = .ok (.string ⟨u.toArray⟩) ((wr.drewN a).drewN n) := fun a n => by
     have h2 := (hrd2 g wr l rfl hrd1).rd (Nat.le_of_lt hlt1)
     have e2 : (l.drop at_).take k = u := by rw [HR.out]; exact HE.out.symm
     rw [e2] at h2
     exact conv_str (w := (wr.drewN a).drewN n) Tryz.underlying27 Tryz.underlying5 (by rw [HE.out, List.length_take]; omega) h2 9 Tryz.underlying9
    clear hrd2 hpk
    go_wp2_with fail
    have hblk2 := hblk1.drewN nq
    have hrdW : RdIn g (wr.drewN nq) (some ⟨b2, o2, none⟩) (bs l) := hrd1
    have hgW : w.grownBy (wr.drewN nq) (some g) := ⟨hg1.os, hg1.tape, hg1.output, hg1.size, hg1.block⟩
    have hcv2 : ∀ n, (convert 27 9 (.slice A' k (c - at_))).run Tryz.prog ((wr.drewN nq).drewN n) = .ok (.string ⟨u.toArray⟩) ((wr.drewN nq).drewN n) := fun n => hcv nq n
    have hcv0 : (convert 27 9 (.slice A' k (c - at_))).run Tryz.prog (wr.drewN nq) = .ok (.string ⟨u.toArray⟩) (wr.drewN nq) := hcv nq 0
    clear hcv d0 d1 fz1 hg1 hrd1 hblk1
    generalize wr.drewN nq = W at *
    have e0 : W.cell? ⟨g, 0, none⟩ = some (.slice (some ⟨b2, o2, none⟩) l.length c) := hblk2.cell 0
    have e1 : W.cell? ⟨g, 1, none⟩ = some (.int .i64 (p : Int)) := hblk2.cell 1
    go_quiet (fail)
    go_wp2_with fail
    go_ret
    refine ⟨rfl, ⟨p, hkl, ?_, hrdW, hblk2.drewN _⟩, ⟨hgW.os, hgW.tape, hgW.output, hgW.size, hgW.block⟩⟩
    rw [HE.out, List.length_take, Nat.min_eq_left hke, ← HR.out, List.drop_drop, HP.out]
  ·have k1 : (l.length : Int) ≤ (p : Int) := by omega
   have hrl2 := hrl.out
   have hpp := HP.out
   have HE := Lib.hid (show u = r.take k from HU.out.symm.trans (runF_end (by omega) hkm HA.out (.inr (.inl (by omega)))))
   clear hrl2 hpp
   go_wp2_with fail
   go_quiet (fail)
   obtain ⟨A', hcut, hrd2⟩ := cut2_run (P := Tryz.prog) (T := 27) (e := 5) (by kernel_rfl) Tryz.underlying27 Tryz.sizeOf5 A l.length c at_ p (by omega) hkl hlc
   have hpk : p - at_ = k := by have := HP.out; omega
   rw [hpk] at hcut hrd2
   have hcv : ∀ a n, (convert 27 9 (.slice A' k (c - at_))).run Tryz.prog ((wr.drewN a).drewN n) = .ok (.string ⟨u.toArray⟩) ((wr.drewN a).drewN n) := fun a n => by
    have h2 := (hrd2 g wr l rfl hrd1).rd (Nat.le_of_lt hlt1)
    have e2 : (l.drop at_).take k = u := by rw [HR.out]; exact HE.out.symm
    rw [e2] at h2
    exact conv_str (w := (wr.drewN a).drewN n) Tryz.underlying27 Tryz.underlying5 (by rw [HE.out, List.length_take]; omega) h2 9 Tryz.underlying9
   clear hrd2 hpk
   go_wp2_with fail
   have hblk2 := hblk1.drewN nq
   have hrdW : RdIn g (wr.drewN nq) A (bs l) := hrd1
   have hgW : w.grownBy (wr.drewN nq) (some g) := ⟨hg1.os, hg1.tape, hg1.output, hg1.size, hg1.block⟩
   have hcv2 : ∀ n, (convert 27 9 (.slice A' k (c - at_))).run Tryz.prog ((wr.drewN nq).drewN n) = .ok (.string ⟨u.toArray⟩) ((wr.drewN nq).drewN n) := fun n => hcv nq n
   have hcv0 : (convert 27 9 (.slice A' k (c - at_))).run Tryz.prog (wr.drewN nq) = .ok (.string ⟨u.toArray⟩) (wr.drewN nq) := hcv nq 0
   clear hcv d0 d1 fz1 hg1 hrd1 hblk1
   generalize wr.drewN nq = W at *
   have e0 : W.cell? ⟨g, 0, none⟩ = some (.slice A l.length c) := hblk2.cell 0
   have e1 : W.cell? ⟨g, 1, none⟩ = some (.int .i64 (p : Int)) := hblk2.cell 1
   go_quiet (fail)
   go_wp2_with fail
   go_ret
   refine ⟨rfl, ⟨p, hkl, ?_, hrdW, hblk2.drewN _⟩, ⟨hgW.os, hgW.tape, hgW.output, hgW.size, hgW.block⟩⟩
   rw [HE.out, List.length_take, Nat.min_eq_left hke, ← HR.out, List.drop_drop, HP.out]
end Go.Proofs.YtdfojkbgdoiglaaGreatDoor
