/-
  Layer 3, walked: the program's taker: take.
-/
import Derived.Test.YtjlhhelikiegdaaGreatDoorG20
import Derived.Test.YtjlhhelikiegdaaGreatDoorG35
namespace Go.Proofs.YtjlhhelikiegdaaGreatDoor
open Go.RowKit
section
section
variable {w : World} {g : Nat} {A : Option Addr} {c : Nat} {l r : List UInt8} {x0 x1 x2 x3 x4 x5 : Value}
theorem Rdr.cells (h : Rdr w g A c l x0 x1 x2 x3 x4 x5 r) : (w.cell? ⟨g, 2, none⟩ = some x0 ∧ w.cell? ⟨g, 3, none⟩ = some x1 ∧ w.cell? ⟨g, 4, none⟩ = some x2 ∧ w.cell? ⟨g, 5, none⟩ = some x3 ∧ w.cell? ⟨g, 6, none⟩ = some x4 ∧ w.cell? ⟨g, 7, none⟩ = some x5) ∧
 (w.frozen? ⟨g, 2, none⟩ = false ∧ w.frozen? ⟨g, 3, none⟩ = false ∧ w.frozen? ⟨g, 4, none⟩ = false ∧ w.frozen? ⟨g, 5, none⟩ = false ∧ w.frozen? ⟨g, 6, none⟩ = false ∧ w.frozen? ⟨g, 7, none⟩ = false) := by
 obtain ⟨p, _, _, _, hb⟩ := h
 exact ⟨⟨hb.cell 2, hb.cell 3, hb.cell 4, hb.cell 5, hb.cell 6, hb.cell 7⟩, hb.frozen 2, hb.frozen 3, hb.frozen 4, hb.frozen 5, hb.frozen 6, hb.frozen 7⟩
theorem Rdr.set0 (h : Rdr w g A c l x0 x1 x2 x3 x4 x5 r) (v : Value) : Rdr (w.setCell ⟨g, 2, none⟩ v) g A c l v x1 x2 x3 x4 x5 r := by
 obtain ⟨p, h1, h2, h3, h4⟩ := h
 exact ⟨p, h1, h2, h3.grown (grown_setCell g 2 v w) h4.lt, h4.set 2 v⟩
theorem Rdr.set1 (h : Rdr w g A c l x0 x1 x2 x3 x4 x5 r) (v : Value) : Rdr (w.setCell ⟨g, 3, none⟩ v) g A c l x0 v x2 x3 x4 x5 r := by
 obtain ⟨p, h1, h2, h3, h4⟩ := h
 exact ⟨p, h1, h2, h3.grown (grown_setCell g 3 v w) h4.lt, h4.set 3 v⟩
theorem Rdr.set2 (h : Rdr w g A c l x0 x1 x2 x3 x4 x5 r) (v : Value) : Rdr (w.setCell ⟨g, 4, none⟩ v) g A c l x0 x1 v x3 x4 x5 r := by
 obtain ⟨p, h1, h2, h3, h4⟩ := h
 exact ⟨p, h1, h2, h3.grown (grown_setCell g 4 v w) h4.lt, h4.set 4 v⟩
theorem Rdr.set3 (h : Rdr w g A c l x0 x1 x2 x3 x4 x5 r) (v : Value) : Rdr (w.setCell ⟨g, 5, none⟩ v) g A c l x0 x1 x2 v x4 x5 r := by
 obtain ⟨p, h1, h2, h3, h4⟩ := h
 exact ⟨p, h1, h2, h3.grown (grown_setCell g 5 v w) h4.lt, h4.set 5 v⟩
theorem Rdr.set4 (h : Rdr w g A c l x0 x1 x2 x3 x4 x5 r) (v : Value) : Rdr (w.setCell ⟨g, 6, none⟩ v) g A c l x0 x1 x2 x3 v x5 r := by
 obtain ⟨p, h1, h2, h3, h4⟩ := h
 exact ⟨p, h1, h2, h3.grown (grown_setCell g 6 v w) h4.lt, h4.set 6 v⟩
theorem Rdr.set5 (h : Rdr w g A c l x0 x1 x2 x3 x4 x5 r) (v : Value) : Rdr (w.setCell ⟨g, 7, none⟩ v) g A c l x0 x1 x2 x3 x4 v r := by
 obtain ⟨p, h1, h2, h3, h4⟩ := h
 exact ⟨p, h1, h2, h3.grown (grown_setCell g 7 v w) h4.lt, h4.set 7 v⟩
end
structure Tkn (w W : World) (g : Nat) (A : Option Addr) (c : Nat) (l : List UInt8) (f : Fm) (x0 x1 x2 x3 x4 x5 : Value) (r : List UInt8) : Prop where
 rd : Rdr W g A c l x0 x1 x2 x3 x4 x5 r
 fm : Blk W w.heap.size 66 (frmC f)
 gr : w.grownBy W (some g)
 tb : TabIn g W
section
variable {w W W' : World} {g : Nat} {A : Option Addr} {c : Nat} {l r r' : List UInt8} {f : Fm} {x0 x1 x2 x3 x4 x5 y0 y1 y2 y3 y4 y5 : Value}
theorem Tkn.next (h : Tkn w W g A c l f x0 x1 x2 x3 x4 x5 r) (hlt : g < w.heap.size) (hr : Rdr W' g A c l y0 y1 y2 y3 y4 y5 r') (hg : W.grownBy W' (some g)) : Tkn w W' g A c l f y0 y1 y2 y3 y4 y5 r' :=
 ⟨hr, h.fm.grown hg (fun e => by injection e; omega), grown_trans h.gr hg, h.tb.grown hg h.rd.lt⟩
theorem Tkn.new (f : Fm) (h : Rdr w g A c l x0 x1 x2 x3 x4 x5 r) (ht : TabIn g w) : Tkn w (w.alloc (.cells (frmC f) 66)) g A c l f x0 x1 x2 x3 x4 x5 r :=
 ⟨h.below ((Below.refl _ w).alloc (Nat.le_refl _) _) h.lt, Blk.new _ _ _, World.grownBy_alloc w _ _, ht.below ((Below.refl g w).alloc (Nat.le_of_lt h.lt) _)⟩
theorem Tkn.set0 (h : Tkn w W g A c l f x0 x1 x2 x3 x4 x5 r) (hlt : g < w.heap.size) (v : Value) : Tkn w (W.setCell ⟨g, 2, none⟩ v) g A c l f v x1 x2 x3 x4 x5 r := h.next hlt (h.rd.set0 v) (grown_setCell g 2 v W)
theorem Tkn.set1 (h : Tkn w W g A c l f x0 x1 x2 x3 x4 x5 r) (hlt : g < w.heap.size) (v : Value) : Tkn w (W.setCell ⟨g, 3, none⟩ v) g A c l f x0 v x2 x3 x4 x5 r := h.next hlt (h.rd.set1 v) (grown_setCell g 3 v W)
theorem Tkn.set2 (h : Tkn w W g A c l f x0 x1 x2 x3 x4 x5 r) (hlt : g < w.heap.size) (v : Value) : Tkn w (W.setCell ⟨g, 4, none⟩ v) g A c l f x0 x1 v x3 x4 x5 r := h.next hlt (h.rd.set2 v) (grown_setCell g 4 v W)
theorem Tkn.set3 (h : Tkn w W g A c l f x0 x1 x2 x3 x4 x5 r) (hlt : g < w.heap.size) (v : Value) : Tkn w (W.setCell ⟨g, 5, none⟩ v) g A c l f x0 x1 x2 v x4 x5 r := h.next hlt (h.rd.set3 v) (grown_setCell g 5 v W)
theorem Tkn.set4 (h : Tkn w W g A c l f x0 x1 x2 x3 x4 x5 r) (hlt : g < w.heap.size) (v : Value) : Tkn w (W.setCell ⟨g, 6, none⟩ v) g A c l f x0 x1 x2 x3 v x5 r := h.next hlt (h.rd.set4 v) (grown_setCell g 6 v W)
theorem Tkn.set5 (h : Tkn w W g A c l f x0 x1 x2 x3 x4 x5 r) (hlt : g < w.heap.size) (v : Value) : Tkn w (W.setCell ⟨g, 7, none⟩ v) g A c l f x0 x1 x2 x3 x4 v r := h.next hlt (h.rd.set5 v) (grown_setCell g 7 v W)
end
def TakePost (k : Int) (g : Nat) (A : Option Addr) (c : Nat) (l r : List UInt8) (w : World) (e : Ending) (w' : World) : Prop :=
 (∃ Ap cp, RdPN g w' Ap (readF k r).1.params ∧ Rdr w' g A c l (.int .i64 k) (.int .u8 ((readF k r).1.priv.toNat : Int)) (.slice Ap (readF k r).1.params.length cp) (.string ⟨(readF k r).1.inter.toArray⟩) (.int .u8 ((readF k r).1.final.toNat : Int)) (.string ⟨(readF k r).1.data.toArray⟩)
     (if skipB (formF k).en (readF k r).2 = true then (readF k r).2.drop (formF k).en.length else (readF k r).2)) ∧
   e = .returned (.bool (skipB (formF k).en (readF k r).2)) ∧ w.grownBy w' (some g)
theorem take_post {k : Int} {g : Nat} {A : Option Addr} {c : Nat} {l r t : List UInt8} {w w' : World} {s : Sq} {Ap : Option Addr} {np cp : Nat} {q : Bool} {v1 v3 v4 v5 : Value} {rr : List UInt8} (hs : readF k r = (s, t)) (hq : skipB (formF k).en t = q) (hn : s.params.length = np) (h1 : RdPN g w' Ap s.params)
 (e1 : v1 = .int .u8 (s.priv.toNat : Int)) (e3 : v3 = .string ⟨s.inter.toArray⟩) (e4 : v4 = .int .u8 (s.final.toNat : Int)) (e5 : v5 = .string ⟨s.data.toArray⟩) (er : rr = if q = true then t.drop (formF k).en.length else t)
 (h2 : Rdr w' g A c l (.int .i64 k) v1 (.slice Ap np cp) v3 v4 v5 rr) (h3 : w.grownBy w' (some g)) : TakePost k g A c l r w (.returned (.bool q)) w' := by
 unfold TakePost
 rw [hs]
 dsimp only
 rw [hq, hn]
 subst e1 e3 e4 e5 er
 exact ⟨⟨Ap, cp, h1, h2⟩, rfl, h3⟩
theorem grown_drew {w w' : World} {row : Option Nat} (h : w.drew.grownBy w' row) : w.grownBy w' row := ⟨h.os, h.tape, h.output, h.size, h.block⟩
theorem Tkn.drew {w W : World} {g : Nat} {A : Option Addr} {c : Nat} {l r : List UInt8} {f : Fm} {x0 x1 x2 x3 x4 x5 : Value} (h : Tkn w W g A c l f x0 x1 x2 x3 x4 x5 r) : Tkn w W.drew g A c l f x0 x1 x2 x3 x4 x5 r :=
 ⟨h.rd, h.fm, ⟨h.gr.os, h.gr.tape, h.gr.output, h.gr.size, h.gr.block⟩, h.tb.below ((Below.refl _ _).drew)⟩
theorem run2_any' (g : Nat) (A : Option Addr) (c a b m : Nat) (l r u : List UInt8) (x0 x1 x2 x3 x4 x5 : Value) (w : World) (hu : runF a b m r = u) (hm : m ≤ 4294967296) (hlc : l.length ≤ c) (hl : l.length ≤ 4294967296) (h : Rdr w g A c l x0 x1 x2 x3 x4 x5 r) :
 Calls Tryz.prog 63 #[.pointer (some ⟨g, 0, none⟩), .int .u8 a, .int .u8 b, .int .i64 m] w fun e w' => e = .returned (.string ⟨u.toArray⟩) ∧ Rdr w' g A c l x0 x1 x2 x3 x4 x5 (r.drop u.length) ∧ w.grownBy w' (some g) :=
 run2_any g A c a b m l r u x0 x1 x2 x3 x4 x5 w hu hlc hl hm h
theorem skip_any' (g : Nat) (A : Option Addr) (c : Nat) (l t r : List UInt8) (x0 x1 x2 x3 x4 x5 : Value) (q : Bool) (w : World) (hq : skipB t r = q) (ht : t.length ≤ 4294967296) (hlc : l.length ≤ c) (hl : l.length ≤ 4294967296) (h : Rdr w g A c l x0 x1 x2 x3 x4 x5 r) :
 Calls Tryz.prog 48 #[.pointer (some ⟨g, 0, none⟩), .string ⟨t.toArray⟩] w fun e w' => e = .returned (.bool q) ∧ Rdr w' g A c l x0 x1 x2 x3 x4 x5 (if q = true then r.drop t.length else r) ∧ w.grownBy w' (some g) :=
 skip_any g A c l t r x0 x1 x2 x3 x4 x5 q w hq hlc hl ht h
set_option maxRecDepth 100000 in
set_option maxHeartbeats 8000000 in
theorem take1_any (g : Nat) (A : Option Addr) (c : Nat) (l r : List UInt8) (w : World) (hlc : l.length ≤ c) (hl : l.length ≤ 4294967296) (ht : TabIn g w) (h : Rdr w g A c l (.int .i64 1) (.int .u8 0) (.slice none 0 0) (.string ⟨#[]⟩) (.int .u8 0) (.string ⟨#[]⟩) r) :
 Calls Tryz.prog 49 #[.pointer (some ⟨g, 0, none⟩), fmV (formF 1)] w (TakePost 1 g A c l r w) := by
 obtain ⟨pv, hpv⟩ : ∃ pv, oneF 60 63 r = pv := ⟨_, rfl⟩
 have HPV := Lib.hid hpv
 obtain ⟨r1, hr1⟩ : ∃ r1, r.drop (runF 60 63 1 r).length = r1 := ⟨_, rfl⟩
 have HR1 := Lib.hid hr1
 obtain ⟨ps, hps⟩ : ∃ ps, (paramsF r1).1 = ps := ⟨_, rfl⟩
 obtain ⟨r2, hr2⟩ : ∃ r2, (paramsF r1).2 = r2 := ⟨_, rfl⟩
 have HP := Lib.hid (show paramsF r1 = (ps, r2) by rw [← hps, ← hr2])
 clear hpv hr1 hps hr2
 obtain ⟨it, hit⟩ : ∃ it, runF 32 47 2 r2 = it := ⟨_, rfl⟩
 have HIT := Lib.hid hit
 obtain ⟨r3, hr3⟩ : ∃ r3, r2.drop it.length = r3 := ⟨_, rfl⟩
 have HR3 := Lib.hid hr3
 clear hit hr3
 obtain ⟨fi, hfi⟩ : ∃ fi, oneF 64 126 r3 = fi := ⟨_, rfl⟩
 have HFI := Lib.hid hfi
 obtain ⟨r4, hr4⟩ : ∃ r4, r3.drop (runF 64 126 1 r3).length = r4 := ⟨_, rfl⟩
 have HR4 := Lib.hid hr4
 clear hfi hr4
 have HS := Lib.hid (show readF 1 r = (⟨1, pv, ps, it, fi, []⟩, r4) by
  unfold readF
  dsimp only
  rw [show rd1 (formF 1) r = (pv, r1) by rw [← HPV.out, ← HR1.out]; rfl]
  dsimp only
  rw [show rd2 (formF 1) r1 = (ps, r2) by rw [← HP.out]; rfl]
  dsimp only
  rw [show rd3 (formF 1) r2 = (it, r3) by rw [← HR3.out, ← HIT.out]; rfl]
  dsimp only
  rw [show rd4 (formF 1) r3 = (fi, r4) by rw [← HR4.out, ← HFI.out]; rfl]
  dsimp only
  rw [show rd5 (formF 1) r4 = ([], r4) from rfl])
 have hlt := h.lt
 obtain ⟨q, hq⟩ : ∃ q, skipB [] r4 = q := ⟨_, rfl⟩
 have HSK := Lib.hid hq
 clear hq
 rw [fm1]
 go_enter Tryz.func49, Tryz.ntmps49
 have T0 : Tkn w (w.alloc (.cells #[.string ⟨#[91]⟩, .bool true, .bool true, .int .u8 64, .string ⟨#[]⟩] 66)) g A c l (formF 1) (.int .i64 1) (.int .u8 0) (.slice none 0 0) (.string ⟨#[]⟩) (.int .u8 0) (.string ⟨#[]⟩) r := Tkn.new (formF 1) h ht
 clear h ht
 go_wp2_with fail
 refine (one_any g A c 60 63 l r pv (.int .i64 1) (.int .u8 0) (.slice none 0 0) (.string ⟨#[]⟩) (.int .u8 0) (.string ⟨#[]⟩) _ HPV.out (by omega) hlc hl T0.rd).mono ?_
 rw [HR1.out]
 rintro e w1 ⟨rfl, h1, hg1⟩
 have S1 := T0.next hlt h1 hg1
 clear T0 h1 hg1
 have T1 := S1.set1 hlt (.int .u8 (pv.toNat : Int))
 obtain ⟨⟨c2, c3, c4, c5, c6, c7⟩, z2, z3, z4, z5, z6, z7⟩ := S1.rd.cells
 have hF : Blk _ w.heap.size 66 #[.string ⟨#[91]⟩, .bool true, .bool true, .int .u8 64, .string ⟨#[]⟩] := T1.fm
 have hG : Blk _ w.heap.size 66 #[.string ⟨#[91]⟩, .bool true, .bool true, .int .u8 64, .string ⟨#[]⟩] := S1.fm
 obtain ⟨f0, f1, f2, f3, f4⟩ := Blk.cells5 hF
 obtain ⟨e0, e1, e2, e3, e4⟩ := Blk.cells5 hG
 clear S1 hF hG
 go_wp2_with fail
 clear c2 c3 c4 c5 c6 c7 z2 z3 z4 z5 z6 z7 f0 f1 f2 f3 f4 e0 e1 e2 e3 e4
 refine (params2_any g A c l r1 r2 ps (.int .i64 1) (.int .u8 (pv.toNat : Int)) (.slice none 0 0) (.string ⟨#[]⟩) (.int .u8 0) (.string ⟨#[]⟩) _ HP.out hlc hl T1.tb T1.rd).mono ?_
 rintro e w2 ⟨⟨Ap, cp, rfl, hP0⟩, h2, hg2⟩
 obtain ⟨np, hnp⟩ : ∃ np, ps.length = np := ⟨_, rfl⟩
 have HNP := Lib.hid hnp
 rw [hnp]
 clear hnp
 have S2 := T1.next hlt h2 hg2
 clear T1 h2 hg2
 have T2 := S2.set2 hlt (.slice Ap np cp)
 obtain ⟨⟨c2, c3, c4, c5, c6, c7⟩, z2, z3, z4, z5, z6, z7⟩ := S2.rd.cells
 have hF : Blk _ w.heap.size 66 #[.string ⟨#[91]⟩, .bool true, .bool true, .int .u8 64, .string ⟨#[]⟩] := T2.fm
 have hG : Blk _ w.heap.size 66 #[.string ⟨#[91]⟩, .bool true, .bool true, .int .u8 64, .string ⟨#[]⟩] := S2.fm
 obtain ⟨f0, f1, f2, f3, f4⟩ := Blk.cells5 hF
 obtain ⟨e0, e1, e2, e3, e4⟩ := Blk.cells5 hG
 clear S2 hF hG
 have P2 := hP0.grown (grown_setCell g 4 (.slice Ap np cp) w2)
 clear hP0
 go_wp2_with fail
 clear c2 c3 c4 c5 c6 c7 z2 z3 z4 z5 z6 z7 f0 f1 f2 f3 f4 e0 e1 e2 e3 e4
 refine (run2_any' g A c 32 47 2 l r2 it (.int .i64 1) (.int .u8 (pv.toNat : Int)) (.slice Ap np cp) (.string ⟨#[]⟩) (.int .u8 0) (.string ⟨#[]⟩) _ HIT.out (by omega) hlc hl T2.rd).mono ?_
 rw [HR3.out]
 rintro e w3 ⟨rfl, h3, hg3⟩
 have S3 := T2.next hlt h3 hg3
 have P3 := P2.grown hg3
 clear T2 h3 hg3
 have T3 := S3.set3 hlt (.string ⟨it.toArray⟩)
 have Q3 := P3.grown (grown_setCell g 5 (.string ⟨it.toArray⟩) w3)
 obtain ⟨⟨c2, c3, c4, c5, c6, c7⟩, z2, z3, z4, z5, z6, z7⟩ := S3.rd.cells
 have hF : Blk _ w.heap.size 66 #[.string ⟨#[91]⟩, .bool true, .bool true, .int .u8 64, .string ⟨#[]⟩] := T3.fm
 have hG : Blk _ w.heap.size 66 #[.string ⟨#[91]⟩, .bool true, .bool true, .int .u8 64, .string ⟨#[]⟩] := S3.fm
 obtain ⟨f0, f1, f2, f3, f4⟩ := Blk.cells5 hF
 obtain ⟨e0, e1, e2, e3, e4⟩ := Blk.cells5 hG
 clear S3 hF hG
 have D3 := T3.drew
 clear T3
 go_wp2_with fail
 go_region_with (go_at_call 61; refine (one_any g A c 64 126 l r3 fi (.int .i64 1) (.int .u8 (pv.toNat : Int)) (.slice Ap np cp) (.string ⟨it.toArray⟩) (.int .u8 0) (.string ⟨#[]⟩) _ HFI.out (by omega) hlc hl D3.rd).mono ?_; rw [HR4.out]; rintro e w4 ⟨rfl, h4, hg4⟩; obtain ⟨⟨k2, k3, k4, k5, k6, k7⟩, y2, y3, y4, y5, y6, y7⟩ := h4.cells)
 clear c2 c3 c4 c5 c6 c7 z2 z3 z4 z5 z6 z7 f0 f1 f2 f3 f4 e0 e1 e2 e3 e4
 clear k2 k3 k4 k5 k6 k7 y2 y3 y4 y5 y6 y7
 have S4 := D3.next hlt h4 hg4
 have P4 := Q3.grown (grown_drew hg4)
 clear D3 h4 hg4
 have T4 := S4.set4 hlt (.int .u8 (fi.toNat : Int))
 have Q4 := P4.grown (grown_setCell g 6 (.int .u8 (fi.toNat : Int)) w4)
 obtain ⟨⟨c2, c3, c4, c5, c6, c7⟩, z2, z3, z4, z5, z6, z7⟩ := S4.rd.cells
 have hF : Blk _ w.heap.size 66 #[.string ⟨#[91]⟩, .bool true, .bool true, .int .u8 64, .string ⟨#[]⟩] := T4.fm
 have hG : Blk _ w.heap.size 66 #[.string ⟨#[91]⟩, .bool true, .bool true, .int .u8 64, .string ⟨#[]⟩] := S4.fm
 obtain ⟨f0, f1, f2, f3, f4⟩ := Blk.cells5 hF
 obtain ⟨e0, e1, e2, e3, e4⟩ := Blk.cells5 hG
 clear S4 hF hG
 have D4 := T4.drew
 clear T4
 go_wp2_with fail
 go_region_with (go_at_call 48; refine (skip_any' g A c l [] r4 (.int .i64 1) (.int .u8 (pv.toNat : Int)) (.slice Ap np cp) (.string ⟨it.toArray⟩) (.int .u8 (fi.toNat : Int)) (.string ⟨#[]⟩) q _ HSK.out (by simp) hlc hl D4.rd).mono ?_; rintro e w5 ⟨rfl, h5, hg5⟩)
 clear c2 c3 c4 c5 c6 c7 z2 z3 z4 z5 z6 z7 f0 f1 f2 f3 f4 e0 e1 e2 e3 e4
 have S5 := D4.next hlt h5 hg5
 have P5 := Q4.grown (grown_drew hg5)
 clear D4 h5 hg5
 go_wp2_with fail
 go_ret
 exact take_post HS.out HSK.out HNP.out P5 rfl rfl rfl rfl rfl S5.rd S5.gr
set_option maxRecDepth 100000 in
set_option maxHeartbeats 8000000 in
theorem take2_any (g : Nat) (A : Option Addr) (c : Nat) (l r : List UInt8) (w : World) (hlc : l.length ≤ c) (hl : l.length ≤ 4294967296) (ht : TabIn g w) (h : Rdr w g A c l (.int .i64 2) (.int .u8 0) (.slice none 0 0) (.string ⟨#[]⟩) (.int .u8 0) (.string ⟨#[]⟩) r) :
 Calls Tryz.prog 49 #[.pointer (some ⟨g, 0, none⟩), fmV (formF 2)] w (TakePost 2 g A c l r w) := by
 obtain ⟨fi, hfi⟩ : ∃ fi, oneF 64 126 r = fi := ⟨_, rfl⟩
 have HFI := Lib.hid hfi
 obtain ⟨r4, hr4⟩ : ∃ r4, r.drop (runF 64 126 1 r).length = r4 := ⟨_, rfl⟩
 have HR4 := Lib.hid hr4
 clear hfi hr4
 have HS := Lib.hid (show readF 2 r = (⟨2, 0, [], [], fi, []⟩, r4) by
  unfold readF
  dsimp only
  rw [show rd1 (formF 2) r = (0, r) from rfl]
  dsimp only
  rw [show rd2 (formF 2) r = ([], r) from rfl]
  dsimp only
  rw [show rd3 (formF 2) r = ([], r) from rfl]
  dsimp only
  rw [show rd4 (formF 2) r = (fi, r4) by rw [← HR4.out, ← HFI.out]; rfl]
  dsimp only
  rw [show rd5 (formF 2) r4 = ([], r4) from rfl])
 have hlt := h.lt
 obtain ⟨q, hq⟩ : ∃ q, skipB [] r4 = q := ⟨_, rfl⟩
 have HSK := Lib.hid hq
 clear hq
 rw [fm2]
 go_enter Tryz.func49, Tryz.ntmps49
 have T0 : Tkn w (w.alloc (.cells #[.string ⟨#[79]⟩, .bool false, .bool false, .int .u8 64, .string ⟨#[]⟩] 66)) g A c l (formF 2) (.int .i64 2) (.int .u8 0) (.slice none 0 0) (.string ⟨#[]⟩) (.int .u8 0) (.string ⟨#[]⟩) r := Tkn.new (formF 2) h ht
 clear h ht
 have D0 := T0.drew
 clear T0
 go_wp2_with fail
 go_region_with (go_at_call 61; refine (one_any g A c 64 126 l r fi (.int .i64 2) (.int .u8 0) (.slice none 0 0) (.string ⟨#[]⟩) (.int .u8 0) (.string ⟨#[]⟩) _ HFI.out (by omega) hlc hl D0.rd).mono ?_; rw [HR4.out]; rintro e w1 ⟨rfl, h1, hg1⟩; obtain ⟨⟨k2, k3, k4, k5, k6, k7⟩, y2, y3, y4, y5, y6, y7⟩ := h1.cells)
 clear k2 k3 k4 k5 k6 k7 y2 y3 y4 y5 y6 y7
 have S1 := D0.next hlt h1 hg1
 clear D0 h1 hg1
 have T1 := S1.set4 hlt (.int .u8 (fi.toNat : Int))
 obtain ⟨⟨c2, c3, c4, c5, c6, c7⟩, z2, z3, z4, z5, z6, z7⟩ := S1.rd.cells
 have hF : Blk _ w.heap.size 66 #[.string ⟨#[79]⟩, .bool false, .bool false, .int .u8 64, .string ⟨#[]⟩] := T1.fm
 have hG : Blk _ w.heap.size 66 #[.string ⟨#[79]⟩, .bool false, .bool false, .int .u8 64, .string ⟨#[]⟩] := S1.fm
 obtain ⟨f0, f1, f2, f3, f4⟩ := Blk.cells5 hF
 obtain ⟨e0, e1, e2, e3, e4⟩ := Blk.cells5 hG
 clear S1 hF hG
 have D1 := T1.drew
 clear T1
 go_wp2_with fail
 go_region_with (go_at_call 48; refine (skip_any' g A c l [] r4 (.int .i64 2) (.int .u8 0) (.slice none 0 0) (.string ⟨#[]⟩) (.int .u8 (fi.toNat : Int)) (.string ⟨#[]⟩) q _ HSK.out (by simp) hlc hl D1.rd).mono ?_; rintro e w2 ⟨rfl, h2, hg2⟩)
 clear c2 c3 c4 c5 c6 c7 z2 z3 z4 z5 z6 z7 f0 f1 f2 f3 f4 e0 e1 e2 e3 e4
 have S2 := D1.next hlt h2 hg2
 clear D1 h2 hg2
 go_wp2_with fail
 go_ret
 exact take_post HS.out HSK.out rfl (RdPN.nil _ _ _) rfl rfl rfl rfl rfl S2.rd S2.gr
set_option maxRecDepth 100000 in
set_option maxHeartbeats 8000000 in
theorem take3_any (g : Nat) (A : Option Addr) (c : Nat) (l r : List UInt8) (w : World) (hlc : l.length ≤ c) (hl : l.length ≤ 4294967296) (ht : TabIn g w) (h : Rdr w g A c l (.int .i64 3) (.int .u8 0) (.slice none 0 0) (.string ⟨#[]⟩) (.int .u8 0) (.string ⟨#[]⟩) r) :
 Calls Tryz.prog 49 #[.pointer (some ⟨g, 0, none⟩), fmV (formF 3)] w (TakePost 3 g A c l r w) := by
 obtain ⟨pv, hpv⟩ : ∃ pv, oneF 60 63 r = pv := ⟨_, rfl⟩
 have HPV := Lib.hid hpv
 obtain ⟨r1, hr1⟩ : ∃ r1, r.drop (runF 60 63 1 r).length = r1 := ⟨_, rfl⟩
 have HR1 := Lib.hid hr1
 obtain ⟨ps, hps⟩ : ∃ ps, (paramsF r1).1 = ps := ⟨_, rfl⟩
 obtain ⟨r2, hr2⟩ : ∃ r2, (paramsF r1).2 = r2 := ⟨_, rfl⟩
 have HP := Lib.hid (show paramsF r1 = (ps, r2) by rw [← hps, ← hr2])
 clear hpv hr1 hps hr2
 obtain ⟨it, hit⟩ : ∃ it, runF 32 47 2 r2 = it := ⟨_, rfl⟩
 have HIT := Lib.hid hit
 obtain ⟨r3, hr3⟩ : ∃ r3, r2.drop it.length = r3 := ⟨_, rfl⟩
 have HR3 := Lib.hid hr3
 clear hit hr3
 obtain ⟨fi, hfi⟩ : ∃ fi, oneF 64 126 r3 = fi := ⟨_, rfl⟩
 have HFI := Lib.hid hfi
 obtain ⟨r4, hr4⟩ : ∃ r4, r3.drop (runF 64 126 1 r3).length = r4 := ⟨_, rfl⟩
 have HR4 := Lib.hid hr4
 clear hfi hr4
 obtain ⟨d, hd⟩ : ∃ d, runF 32 126 4096 r4 = d := ⟨_, rfl⟩
 have HD := Lib.hid hd
 obtain ⟨r5, hr5⟩ : ∃ r5, r4.drop d.length = r5 := ⟨_, rfl⟩
 have HR5 := Lib.hid hr5
 clear hd hr5
 have HS := Lib.hid (show readF 3 r = (⟨3, pv, ps, it, fi, d⟩, r5) by
  unfold readF
  dsimp only
  rw [show rd1 (formF 3) r = (pv, r1) by rw [← HPV.out, ← HR1.out]; rfl]
  dsimp only
  rw [show rd2 (formF 3) r1 = (ps, r2) by rw [← HP.out]; rfl]
  dsimp only
  rw [show rd3 (formF 3) r2 = (it, r3) by rw [← HR3.out, ← HIT.out]; rfl]
  dsimp only
  rw [show rd4 (formF 3) r3 = (fi, r4) by rw [← HR4.out, ← HFI.out]; rfl]
  dsimp only
  rw [show rd5 (formF 3) r4 = (d, r5) by rw [← HR5.out, ← HD.out]; rfl])
 have hlt := h.lt
 obtain ⟨q, hq⟩ : ∃ q, skipB [27, 92] r5 = q := ⟨_, rfl⟩
 have HSK := Lib.hid hq
 clear hq
 rw [fm3]
 go_enter Tryz.func49, Tryz.ntmps49
 have T0 : Tkn w (w.alloc (.cells #[.string ⟨#[80]⟩, .bool true, .bool true, .int .u8 64, .string ⟨#[27, 92]⟩] 66)) g A c l (formF 3) (.int .i64 3) (.int .u8 0) (.slice none 0 0) (.string ⟨#[]⟩) (.int .u8 0) (.string ⟨#[]⟩) r := Tkn.new (formF 3) h ht
 clear h ht
 go_wp2_with fail
 refine (one_any g A c 60 63 l r pv (.int .i64 3) (.int .u8 0) (.slice none 0 0) (.string ⟨#[]⟩) (.int .u8 0) (.string ⟨#[]⟩) _ HPV.out (by omega) hlc hl T0.rd).mono ?_
 rw [HR1.out]
 rintro e w1 ⟨rfl, h1, hg1⟩
 have S1 := T0.next hlt h1 hg1
 clear T0 h1 hg1
 have T1 := S1.set1 hlt (.int .u8 (pv.toNat : Int))
 obtain ⟨⟨c2, c3, c4, c5, c6, c7⟩, z2, z3, z4, z5, z6, z7⟩ := S1.rd.cells
 have hF : Blk _ w.heap.size 66 #[.string ⟨#[80]⟩, .bool true, .bool true, .int .u8 64, .string ⟨#[27, 92]⟩] := T1.fm
 have hG : Blk _ w.heap.size 66 #[.string ⟨#[80]⟩, .bool true, .bool true, .int .u8 64, .string ⟨#[27, 92]⟩] := S1.fm
 obtain ⟨f0, f1, f2, f3, f4⟩ := Blk.cells5 hF
 obtain ⟨e0, e1, e2, e3, e4⟩ := Blk.cells5 hG
 clear S1 hF hG
 go_wp2_with fail
 clear c2 c3 c4 c5 c6 c7 z2 z3 z4 z5 z6 z7 f0 f1 f2 f3 f4 e0 e1 e2 e3 e4
 refine (params2_any g A c l r1 r2 ps (.int .i64 3) (.int .u8 (pv.toNat : Int)) (.slice none 0 0) (.string ⟨#[]⟩) (.int .u8 0) (.string ⟨#[]⟩) _ HP.out hlc hl T1.tb T1.rd).mono ?_
 rintro e w2 ⟨⟨Ap, cp, rfl, hP0⟩, h2, hg2⟩
 obtain ⟨np, hnp⟩ : ∃ np, ps.length = np := ⟨_, rfl⟩
 have HNP := Lib.hid hnp
 rw [hnp]
 clear hnp
 have S2 := T1.next hlt h2 hg2
 clear T1 h2 hg2
 have T2 := S2.set2 hlt (.slice Ap np cp)
 obtain ⟨⟨c2, c3, c4, c5, c6, c7⟩, z2, z3, z4, z5, z6, z7⟩ := S2.rd.cells
 have hF : Blk _ w.heap.size 66 #[.string ⟨#[80]⟩, .bool true, .bool true, .int .u8 64, .string ⟨#[27, 92]⟩] := T2.fm
 have hG : Blk _ w.heap.size 66 #[.string ⟨#[80]⟩, .bool true, .bool true, .int .u8 64, .string ⟨#[27, 92]⟩] := S2.fm
 obtain ⟨f0, f1, f2, f3, f4⟩ := Blk.cells5 hF
 obtain ⟨e0, e1, e2, e3, e4⟩ := Blk.cells5 hG
 clear S2 hF hG
 have P2 := hP0.grown (grown_setCell g 4 (.slice Ap np cp) w2)
 clear hP0
 go_wp2_with fail
 clear c2 c3 c4 c5 c6 c7 z2 z3 z4 z5 z6 z7 f0 f1 f2 f3 f4 e0 e1 e2 e3 e4
 refine (run2_any' g A c 32 47 2 l r2 it (.int .i64 3) (.int .u8 (pv.toNat : Int)) (.slice Ap np cp) (.string ⟨#[]⟩) (.int .u8 0) (.string ⟨#[]⟩) _ HIT.out (by omega) hlc hl T2.rd).mono ?_
 rw [HR3.out]
 rintro e w3 ⟨rfl, h3, hg3⟩
 have S3 := T2.next hlt h3 hg3
 have P3 := P2.grown hg3
 clear T2 h3 hg3
 have T3 := S3.set3 hlt (.string ⟨it.toArray⟩)
 have Q3 := P3.grown (grown_setCell g 5 (.string ⟨it.toArray⟩) w3)
 obtain ⟨⟨c2, c3, c4, c5, c6, c7⟩, z2, z3, z4, z5, z6, z7⟩ := S3.rd.cells
 have hF : Blk _ w.heap.size 66 #[.string ⟨#[80]⟩, .bool true, .bool true, .int .u8 64, .string ⟨#[27, 92]⟩] := T3.fm
 have hG : Blk _ w.heap.size 66 #[.string ⟨#[80]⟩, .bool true, .bool true, .int .u8 64, .string ⟨#[27, 92]⟩] := S3.fm
 obtain ⟨f0, f1, f2, f3, f4⟩ := Blk.cells5 hF
 obtain ⟨e0, e1, e2, e3, e4⟩ := Blk.cells5 hG
 clear S3 hF hG
 have D3 := T3.drew
 clear T3
 go_wp2_with fail
 go_region_with (go_at_call 61; refine (one_any g A c 64 126 l r3 fi (.int .i64 3) (.int .u8 (pv.toNat : Int)) (.slice Ap np cp) (.string ⟨it.toArray⟩) (.int .u8 0) (.string ⟨#[]⟩) _ HFI.out (by omega) hlc hl D3.rd).mono ?_; rw [HR4.out]; rintro e w4 ⟨rfl, h4, hg4⟩; obtain ⟨⟨k2, k3, k4, k5, k6, k7⟩, y2, y3, y4, y5, y6, y7⟩ := h4.cells)
 clear c2 c3 c4 c5 c6 c7 z2 z3 z4 z5 z6 z7 f0 f1 f2 f3 f4 e0 e1 e2 e3 e4
 clear k2 k3 k4 k5 k6 k7 y2 y3 y4 y5 y6 y7
 have S4 := D3.next hlt h4 hg4
 have P4 := Q3.grown (grown_drew hg4)
 clear D3 h4 hg4
 have T4 := S4.set4 hlt (.int .u8 (fi.toNat : Int))
 have Q4 := P4.grown (grown_setCell g 6 (.int .u8 (fi.toNat : Int)) w4)
 obtain ⟨⟨c2, c3, c4, c5, c6, c7⟩, z2, z3, z4, z5, z6, z7⟩ := S4.rd.cells
 have hF : Blk _ w.heap.size 66 #[.string ⟨#[80]⟩, .bool true, .bool true, .int .u8 64, .string ⟨#[27, 92]⟩] := T4.fm
 have hG : Blk _ w.heap.size 66 #[.string ⟨#[80]⟩, .bool true, .bool true, .int .u8 64, .string ⟨#[27, 92]⟩] := S4.fm
 obtain ⟨f0, f1, f2, f3, f4⟩ := Blk.cells5 hF
 obtain ⟨e0, e1, e2, e3, e4⟩ := Blk.cells5 hG
 clear S4 hF hG
 go_wp2_with fail
 clear c2 c3 c4 c5 c6 c7 z2 z3 z4 z5 z6 z7 f0 f1 f2 f3 f4 e0 e1 e2 e3 e4
 refine (run2_any' g A c 32 126 4096 l r4 d (.int .i64 3) (.int .u8 (pv.toNat : Int)) (.slice Ap np cp) (.string ⟨it.toArray⟩) (.int .u8 (fi.toNat : Int)) (.string ⟨#[]⟩) _ HD.out (by omega) hlc hl T4.rd).mono ?_
 rw [HR5.out]
 rintro e w5 ⟨rfl, h5, hg5⟩
 have S5 := T4.next hlt h5 hg5
 have P5 := Q4.grown hg5
 clear T4 h5 hg5
 have T5 := S5.set5 hlt (.string ⟨d.toArray⟩)
 have Q5 := P5.grown (grown_setCell g 7 (.string ⟨d.toArray⟩) w5)
 obtain ⟨⟨c2, c3, c4, c5, c6, c7⟩, z2, z3, z4, z5, z6, z7⟩ := S5.rd.cells
 have hF : Blk _ w.heap.size 66 #[.string ⟨#[80]⟩, .bool true, .bool true, .int .u8 64, .string ⟨#[27, 92]⟩] := T5.fm
 have hG : Blk _ w.heap.size 66 #[.string ⟨#[80]⟩, .bool true, .bool true, .int .u8 64, .string ⟨#[27, 92]⟩] := S5.fm
 obtain ⟨f0, f1, f2, f3, f4⟩ := Blk.cells5 hF
 obtain ⟨e0, e1, e2, e3, e4⟩ := Blk.cells5 hG
 clear S5 hF hG
 have D5 := T5.drew
 clear T5
 go_wp2_with fail
 go_region_with (go_at_call 48; refine (skip_any' g A c l [27, 92] r5 (.int .i64 3) (.int .u8 (pv.toNat : Int)) (.slice Ap np cp) (.string ⟨it.toArray⟩) (.int .u8 (fi.toNat : Int)) (.string ⟨d.toArray⟩) q _ HSK.out (by simp) hlc hl D5.rd).mono ?_; rintro e w6 ⟨rfl, h6, hg6⟩)
 clear c2 c3 c4 c5 c6 c7 z2 z3 z4 z5 z6 z7 f0 f1 f2 f3 f4 e0 e1 e2 e3 e4
 have S6 := D5.next hlt h6 hg6
 have P6 := Q5.grown (grown_drew hg6)
 clear D5 h6 hg6
 go_wp2_with fail
 go_ret
 exact take_post HS.out HSK.out HNP.out P6 rfl rfl rfl rfl rfl S6.rd S6.gr
set_option maxRecDepth 100000 in
set_option maxHeartbeats 8000000 in
theorem take4_any (g : Nat) (A : Option Addr) (c : Nat) (l r : List UInt8) (w : World) (hlc : l.length ≤ c) (hl : l.length ≤ 4294967296) (ht : TabIn g w) (h : Rdr w g A c l (.int .i64 4) (.int .u8 0) (.slice none 0 0) (.string ⟨#[]⟩) (.int .u8 0) (.string ⟨#[]⟩) r) :
 Calls Tryz.prog 49 #[.pointer (some ⟨g, 0, none⟩), fmV (formF 4)] w (TakePost 4 g A c l r w) := by
 obtain ⟨d, hd⟩ : ∃ d, runF 32 126 4096 r = d := ⟨_, rfl⟩
 have HD := Lib.hid hd
 obtain ⟨r5, hr5⟩ : ∃ r5, r.drop d.length = r5 := ⟨_, rfl⟩
 have HR5 := Lib.hid hr5
 clear hd hr5
 have HS := Lib.hid (show readF 4 r = (⟨4, 0, [], [], 0, d⟩, r5) by
  unfold readF
  dsimp only
  rw [show rd1 (formF 4) r = (0, r) from rfl]
  dsimp only
  rw [show rd2 (formF 4) r = ([], r) from rfl]
  dsimp only
  rw [show rd3 (formF 4) r = ([], r) from rfl]
  dsimp only
  rw [show rd4 (formF 4) r = (0, r) from rfl]
  dsimp only
  rw [show rd5 (formF 4) r = (d, r5) by rw [← HR5.out, ← HD.out]; rfl])
 have hlt := h.lt
 obtain ⟨q, hq⟩ : ∃ q, skipB [27, 92] r5 = q := ⟨_, rfl⟩
 have HSK := Lib.hid hq
 clear hq
 rw [fm4]
 go_enter Tryz.func49, Tryz.ntmps49
 have T0 : Tkn w (w.alloc (.cells #[.string ⟨#[93]⟩, .bool false, .bool false, .int .u8 0, .string ⟨#[27, 92]⟩] 66)) g A c l (formF 4) (.int .i64 4) (.int .u8 0) (.slice none 0 0) (.string ⟨#[]⟩) (.int .u8 0) (.string ⟨#[]⟩) r := Tkn.new (formF 4) h ht
 clear h ht
 go_wp2_with fail
 refine (run2_any' g A c 32 126 4096 l r d (.int .i64 4) (.int .u8 0) (.slice none 0 0) (.string ⟨#[]⟩) (.int .u8 0) (.string ⟨#[]⟩) _ HD.out (by omega) hlc hl T0.rd).mono ?_
 rw [HR5.out]
 rintro e w1 ⟨rfl, h1, hg1⟩
 have S1 := T0.next hlt h1 hg1
 clear T0 h1 hg1
 have T1 := S1.set5 hlt (.string ⟨d.toArray⟩)
 obtain ⟨⟨c2, c3, c4, c5, c6, c7⟩, z2, z3, z4, z5, z6, z7⟩ := S1.rd.cells
 have hF : Blk _ w.heap.size 66 #[.string ⟨#[93]⟩, .bool false, .bool false, .int .u8 0, .string ⟨#[27, 92]⟩] := T1.fm
 have hG : Blk _ w.heap.size 66 #[.string ⟨#[93]⟩, .bool false, .bool false, .int .u8 0, .string ⟨#[27, 92]⟩] := S1.fm
 obtain ⟨f0, f1, f2, f3, f4⟩ := Blk.cells5 hF
 obtain ⟨e0, e1, e2, e3, e4⟩ := Blk.cells5 hG
 clear S1 hF hG
 have D1 := T1.drew
 clear T1
 go_wp2_with fail
 go_region_with (go_at_call 48; refine (skip_any' g A c l [27, 92] r5 (.int .i64 4) (.int .u8 0) (.slice none 0 0) (.string ⟨#[]⟩) (.int .u8 0) (.string ⟨d.toArray⟩) q _ HSK.out (by simp) hlc hl D1.rd).mono ?_; rintro e w2 ⟨rfl, h2, hg2⟩)
 clear c2 c3 c4 c5 c6 c7 z2 z3 z4 z5 z6 z7 f0 f1 f2 f3 f4 e0 e1 e2 e3 e4
 have S2 := D1.next hlt h2 hg2
 clear D1 h2 hg2
 go_wp2_with fail
 go_ret
 exact take_post HS.out HSK.out rfl (RdPN.nil _ _ _) rfl rfl rfl rfl rfl S2.rd S2.gr
set_option maxRecDepth 100000 in
set_option maxHeartbeats 8000000 in
theorem take5_any (g : Nat) (A : Option Addr) (c : Nat) (l r : List UInt8) (w : World) (hlc : l.length ≤ c) (hl : l.length ≤ 4294967296) (ht : TabIn g w) (h : Rdr w g A c l (.int .i64 5) (.int .u8 0) (.slice none 0 0) (.string ⟨#[]⟩) (.int .u8 0) (.string ⟨#[]⟩) r) :
 Calls Tryz.prog 49 #[.pointer (some ⟨g, 0, none⟩), fmV (formF 5)] w (TakePost 5 g A c l r w) := by
 obtain ⟨it, hit⟩ : ∃ it, runF 32 47 2 r = it := ⟨_, rfl⟩
 have HIT := Lib.hid hit
 obtain ⟨r3, hr3⟩ : ∃ r3, r.drop it.length = r3 := ⟨_, rfl⟩
 have HR3 := Lib.hid hr3
 clear hit hr3
 obtain ⟨fi, hfi⟩ : ∃ fi, oneF 48 126 r3 = fi := ⟨_, rfl⟩
 have HFI := Lib.hid hfi
 obtain ⟨r4, hr4⟩ : ∃ r4, r3.drop (runF 48 126 1 r3).length = r4 := ⟨_, rfl⟩
 have HR4 := Lib.hid hr4
 clear hfi hr4
 have HS := Lib.hid (show readF 5 r = (⟨5, 0, [], it, fi, []⟩, r4) by
  unfold readF
  dsimp only
  rw [show rd1 (formF 5) r = (0, r) from rfl]
  dsimp only
  rw [show rd2 (formF 5) r = ([], r) from rfl]
  dsimp only
  rw [show rd3 (formF 5) r = (it, r3) by rw [← HR3.out, ← HIT.out]; rfl]
  dsimp only
  rw [show rd4 (formF 5) r3 = (fi, r4) by rw [← HR4.out, ← HFI.out]; rfl]
  dsimp only
  rw [show rd5 (formF 5) r4 = ([], r4) from rfl])
 have hlt := h.lt
 obtain ⟨q, hq⟩ : ∃ q, skipB [] r4 = q := ⟨_, rfl⟩
 have HSK := Lib.hid hq
 clear hq
 rw [fm5]
 go_enter Tryz.func49, Tryz.ntmps49
 have T0 : Tkn w (w.alloc (.cells #[.string ⟨#[]⟩, .bool false, .bool true, .int .u8 48, .string ⟨#[]⟩] 66)) g A c l (formF 5) (.int .i64 5) (.int .u8 0) (.slice none 0 0) (.string ⟨#[]⟩) (.int .u8 0) (.string ⟨#[]⟩) r := Tkn.new (formF 5) h ht
 clear h ht
 go_wp2_with fail
 refine (run2_any' g A c 32 47 2 l r it (.int .i64 5) (.int .u8 0) (.slice none 0 0) (.string ⟨#[]⟩) (.int .u8 0) (.string ⟨#[]⟩) _ HIT.out (by omega) hlc hl T0.rd).mono ?_
 rw [HR3.out]
 rintro e w1 ⟨rfl, h1, hg1⟩
 have S1 := T0.next hlt h1 hg1
 clear T0 h1 hg1
 have T1 := S1.set3 hlt (.string ⟨it.toArray⟩)
 obtain ⟨⟨c2, c3, c4, c5, c6, c7⟩, z2, z3, z4, z5, z6, z7⟩ := S1.rd.cells
 have hF : Blk _ w.heap.size 66 #[.string ⟨#[]⟩, .bool false, .bool true, .int .u8 48, .string ⟨#[]⟩] := T1.fm
 have hG : Blk _ w.heap.size 66 #[.string ⟨#[]⟩, .bool false, .bool true, .int .u8 48, .string ⟨#[]⟩] := S1.fm
 obtain ⟨f0, f1, f2, f3, f4⟩ := Blk.cells5 hF
 obtain ⟨e0, e1, e2, e3, e4⟩ := Blk.cells5 hG
 clear S1 hF hG
 have D1 := T1.drew
 clear T1
 go_wp2_with fail
 go_region_with (go_at_call 61; refine (one_any g A c 48 126 l r3 fi (.int .i64 5) (.int .u8 0) (.slice none 0 0) (.string ⟨it.toArray⟩) (.int .u8 0) (.string ⟨#[]⟩) _ HFI.out (by omega) hlc hl D1.rd).mono ?_; rw [HR4.out]; rintro e w2 ⟨rfl, h2, hg2⟩; obtain ⟨⟨k2, k3, k4, k5, k6, k7⟩, y2, y3, y4, y5, y6, y7⟩ := h2.cells)
 clear c2 c3 c4 c5 c6 c7 z2 z3 z4 z5 z6 z7 f0 f1 f2 f3 f4 e0 e1 e2 e3 e4
 clear k2 k3 k4 k5 k6 k7 y2 y3 y4 y5 y6 y7
 have S2 := D1.next hlt h2 hg2
 clear D1 h2 hg2
 have T2 := S2.set4 hlt (.int .u8 (fi.toNat : Int))
 obtain ⟨⟨c2, c3, c4, c5, c6, c7⟩, z2, z3, z4, z5, z6, z7⟩ := S2.rd.cells
 have hF : Blk _ w.heap.size 66 #[.string ⟨#[]⟩, .bool false, .bool true, .int .u8 48, .string ⟨#[]⟩] := T2.fm
 have hG : Blk _ w.heap.size 66 #[.string ⟨#[]⟩, .bool false, .bool true, .int .u8 48, .string ⟨#[]⟩] := S2.fm
 obtain ⟨f0, f1, f2, f3, f4⟩ := Blk.cells5 hF
 obtain ⟨e0, e1, e2, e3, e4⟩ := Blk.cells5 hG
 clear S2 hF hG
 have D2 := T2.drew
 clear T2
 go_wp2_with fail
 go_region_with (go_at_call 48; refine (skip_any' g A c l [] r4 (.int .i64 5) (.int .u8 0) (.slice none 0 0) (.string ⟨it.toArray⟩) (.int .u8 (fi.toNat : Int)) (.string ⟨#[]⟩) q _ HSK.out (by simp) hlc hl D2.rd).mono ?_; rintro e w3 ⟨rfl, h3, hg3⟩)
 clear c2 c3 c4 c5 c6 c7 z2 z3 z4 z5 z6 z7 f0 f1 f2 f3 f4 e0 e1 e2 e3 e4
 have S3 := D2.next hlt h3 hg3
 clear D2 h3 hg3
 go_wp2_with fail
 go_ret
 exact take_post HS.out HSK.out rfl (RdPN.nil _ _ _) rfl rfl rfl rfl rfl S3.rd S3.gr
end
end Go.Proofs.YtjlhhelikiegdaaGreatDoor
