/-
  Layer 13, walked: the document's Seq.
-/
import Derived.Test.YtceipblcdcgljaaGreatDoorG02
import Derived.Test.YtceipblcdcgljaaGreatDoorG15
import Derived.Test.YtceipblcdcgljaaGreatDoorG33
import Derived.Deep.Cut
namespace Go.Proofs.YtceipblcdcgljaaGreatDoor
open Go.RowKit
def SeqO (ps : List (List Int)) (n : Nat) (ff : Int) (w : World) (e : Ending) (w' : World) : Prop := ∃ A c, e = .returned (.agg #[.int .i64 1, .int .u8 0, .slice A n c, .string ⟨#[]⟩, .int .u8 ff, .string ⟨#[]⟩]) ∧ RdP w' A ps ∧ Below w.heap.size w w'
theorem SeqO.of {ps qs : List (List Int)} {n : Nat} {ff : Int} {w w' : World} {A : Option Addr} {c : Nat} (h : ps = qs) (hn : n = qs.length) (hr : RdP w' A qs) (hb : Below w.heap.size w w') : SeqO ps ps.length ff w (.returned (.agg #[.int .i64 1, .int .u8 0, .slice A n c, .string ⟨#[]⟩, .int .u8 ff, .string ⟨#[]⟩])) w' := by
 subst h hn
 exact ⟨A, c, rfl, hr, hb⟩
theorem rdpn_of {W : World} {g h : Nat} {t : TypeId} {cs : Array Value} {xs : List Value} {ps : List (List Int)} (hb : Blk W h 57 xs.toArray) (hx : Rows W W.heap.size 3 xs ps) (hg : Blk W g t cs) (h1 : 3 ≠ t) (h2 : 57 ≠ t) : RdPN g W (some ⟨h, 0, none⟩) ps := fun _ =>
 ⟨h, 0, rfl, tag_ne hg hb h2, ⟨_, _, hb⟩, fun k hk => by
   obtain ⟨A', c', h3, h4⟩ := hx.2 k hk
   refine ⟨A', c', by rw [Nat.zero_add, hb.cell k]; simpa using h3, fun hp2 => ?_⟩
   obtain ⟨b', rfl, _, ⟨cur', fz', hh'⟩, hc'⟩ := h4 hp2
   exact ⟨b', 0, rfl, tag_ne hg hh' h1, ⟨cur', fz', hh'⟩, fun j u hu => by rw [Nat.zero_add]; exact hc' j u hu⟩⟩
theorem RowI.below {w w' : World} {e : TypeId} {A : Option Addr} {p : List Int} (h : RowI w w.heap.size e A p) (hb : Below w.heap.size w w') : RowI w' w'.heap.size e A p := h.keep hb.size fun k hk _ => hb.block k hk
theorem second_head (f : Int) {k : Ky} (h : 0 ≤ k.mods) : ∃ s0 st, secondK f k = s0 :: st ∧ (secondK f k = [-1] ↔ s0 = -1) := by
 unfold secondK
 split
 ·exact ⟨_, _, rfl, by simp; omega⟩
 ·split
  ·exact ⟨_, _, rfl, by simp⟩
  ·exact ⟨_, _, rfl, by simp⟩
set_option maxRecDepth 100000 in
set_option maxHeartbeats 16000000 in
theorem rseq13_any (f : Int) (k : Ky) (hm : mayK k = true) (hs : k.text.size ≤ 4294967296) (w : World) : Calls Tryz.prog 43 #[.int .i64 f, kyV k] w (SeqO (paramsK f k) (paramsK f k).length (frmK k.code).2 w) := by
 obtain ⟨⟨_, m0, m1, _, _⟩, _, _, hcl⟩ := (may_parts k).1 hm
 obtain ⟨ks, hks, _, _, _⟩ := clean_pts hcl
 obtain ⟨s0, st, hse, hs1⟩ := second_head f m0
 obtain ⟨f16, hf16⟩ : ∃ b, flagK f 16 = b := ⟨_, rfl⟩
 obtain ⟨te, hte⟩ : ∃ b, decide (k.text.data.toList = []) = b := ⟨_, rfl⟩
 obtain ⟨Sl, hSl⟩ : ∃ x, secondK f k = x := ⟨_, rfl⟩
 obtain ⟨n2, hn2⟩ : ∃ x, Sl.length = x := ⟨_, rfl⟩
 obtain ⟨⟨fn, ff⟩, hfr⟩ : ∃ x, frmK k.code = x := ⟨_, rfl⟩
 obtain ⟨ft, hft⟩ : ∃ ft, firstK f k = fn :: ft := ⟨_, by unfold firstK; rw [hfr]⟩
 obtain ⟨Fl, hFl⟩ : ∃ x, firstK f k = x := ⟨_, rfl⟩
 obtain ⟨n1, hn1⟩ : ∃ x, Fl.length = x := ⟨_, rfl⟩
 have HFR : Hid (∀ W, Calls Tryz.prog 85 #[.int .i64 k.code] W fun e w' => e = .returned (.tuple #[.int .i64 fn, .int .u8 ff]) ∧ Below W.heap.size W w') := Lib.hid fun W => by
  have := rfrm_any k.code W
  rw [hfr] at this
  exact this
 have HFI : Hid (∀ W, Calls Tryz.prog 86 #[.int .i64 f, kyV k] W (OutI Fl n1 W)) := Lib.hid fun W => by
  have := rfirst_any f k (by omega) W
  rw [hFl, hn1] at this
  exact this
 have HSE : Hid (∀ W, Calls Tryz.prog 87 #[.int .i64 f, kyV k] W (OutI Sl n2 W)) := Lib.hid fun W => by
  have := rsecond_any f k m0 m1 W
  rw [hSl, hn2] at this
  exact this
 have HF16 : Hid (∀ W, Calls Tryz.prog 37 #[.int .i64 f, .int .i64 16] W fun e w' => e = .returned (.bool f16) ∧ Below W.heap.size W w') := Lib.hid fun W => by rw [← hf16]; exact rflag_any f 16 (by decide) (by decide) W
 have tl : k.text.toList.isEmpty = te := by
  rw [ByteArray.toList_eq, ← hte]
  cases k.text.data.toList <;> simp
 have HC := Lib.hid (show paramsK f k = if f16 = true ∧ k.typ ≠ 3 ∧ te = false then [Fl, Sl, ks] else if Sl ≠ [-1] then [Fl, Sl] else if Fl ≠ [1] then [Fl] else [] by
  have key : toldK f k ↔ (f16 = true ∧ k.typ ≠ 3 ∧ te = false) := by
   unfold toldK
   rw [hf16, ← hte]
   simp only [decide_eq_false_iff_not, ne_eq]
  unfold paramsK
  rw [hFl, hSl, pts_is hks]
  by_cases t : toldK f k
  ·rw [if_pos t, if_pos (key.1 t)]
  ·rw [if_neg t, if_neg (fun e => t (key.2 e))])
 rw [hSl] at hse hs1
 rw [hFl] at hft
 have HSL := Lib.hid hse
 have HS1 := Lib.hid hs1
 have HFT := Lib.hid hft
 have HN1 := Lib.hid hn1
 have HN2 := Lib.hid hn2
 have HKS := Lib.hid hks
 have HTS := Lib.hid hs
 obtain ⟨R, hR⟩ : ∃ R, paramsK f k = R := ⟨_, rfl⟩
 rw [hR] at HC ⊢
 rw [hfr]
 show Calls _ _ _ _ (SeqO R R.length ff w)
 clear hm m0 m1 hcl hks hse hs1 hf16 hte hSl hn2 hfr hft hFl hn1 hs hR
 obtain ⟨code, mods, typ, shift, base, text⟩ := k
 simp only [kyV] at HFR HFI HSE HC HKS HTS tl ⊢
 have k0 := (Blk.new w 25 #[.int .i64 code, .int .i64 mods, .int .i64 typ, .int .i64 shift, .int .i64 base, .string text]).alloc (.cells #[.int .i64 0, .int .u8 0, .slice none 0 0, .string ⟨#[]⟩, .int .u8 0, .string ⟨#[]⟩] 40)
 have q0 := Blk.new (w.alloc (.cells #[.int .i64 code, .int .i64 mods, .int .i64 typ, .int .i64 shift, .int .i64 base, .string text] 25)) 40 #[.int .i64 0, .int .u8 0, .slice none 0 0, .string ⟨#[]⟩, .int .u8 0, .string ⟨#[]⟩]
 rw [World.size_alloc] at q0
 have hB : Below w.heap.size w ((w.alloc (.cells #[.int .i64 code, .int .i64 mods, .int .i64 typ, .int .i64 shift, .int .i64 base, .string text] 25)).alloc (.cells #[.int .i64 0, .int .u8 0, .slice none 0 0, .string ⟨#[]⟩, .int .u8 0, .string ⟨#[]⟩] 40)) := ((Below.refl _ w).alloc (Nat.le_refl _) _).alloc (by simp) _
 have a0 := k0.cell 0
 go_enter Tryz.func43, Tryz.ntmps43
 go_wp2_with fail
 refine (HFR.out _).mono ?_
 rintro e w1 ⟨rfl, hb1⟩
 have k1 := k0.below hb1 k0.lt
 have q1 := q0.below hb1 q0.lt
 have hB1 := hB.trans (hb1.mono hB.size)
 clear k0 q0 hB hb1 a0 HFR
 obtain ⟨a0, a1, a2, a3, a4, a5⟩ := Blk.cells6 k1
 go_wp2_with fail
 refine (HFI.out _).mono ?_
 rintro e w2 ⟨A1, c1, rfl, r1, hb2⟩
 have k2 := k1.below hb2 k1.lt
 have q2 := q1.below hb2 q1.lt
 have hB2 := hB1.trans (hb2.mono hB1.size)
 clear k1 q1 hB1 hb2 a0 a1 a2 a3 a4 a5 HFI
 obtain ⟨a0, a1, a2, a3, a4, a5⟩ := Blk.cells6 k2
 go_wp2_with fail
 refine (HSE.out _).mono ?_
 rintro e w3 ⟨A2, c2, rfl, r2, hb3⟩
 have r1b := r1.below hb3
 have k3 := k2.below hb3 k2.lt
 have q3 := q2.below hb3 q2.lt
 have hB3 := hB2.trans (hb3.mono hB2.size)
 clear k2 q2 hB2 hb3 r1 a0 a1 a2 a3 a4 a5 HSE
 have k4 := k3.alloc (.cells #[.int .i64 1, .int .u8 0, .slice none 0 0, .string ⟨#[]⟩, .int .u8 ff, .string ⟨#[]⟩] 40)
 have q4 := q3.alloc (.cells #[.int .i64 1, .int .u8 0, .slice none 0 0, .string ⟨#[]⟩, .int .u8 ff, .string ⟨#[]⟩] 40)
 have s4 := Blk.new w3 40 #[.int .i64 1, .int .u8 0, .slice none 0 0, .string ⟨#[]⟩, .int .u8 ff, .string ⟨#[]⟩]
 have r1c := r1b.below ((Below.refl _ w3).alloc (Nat.le_refl _) (.cells #[.int .i64 1, .int .u8 0, .slice none 0 0, .string ⟨#[]⟩, .int .u8 ff, .string ⟨#[]⟩] 40))
 have r2c := r2.below ((Below.refl _ w3).alloc (Nat.le_refl _) (.cells #[.int .i64 1, .int .u8 0, .slice none 0 0, .string ⟨#[]⟩, .int .u8 ff, .string ⟨#[]⟩] 40))
 have hB4 := hB3.alloc hB3.size (.cells #[.int .i64 1, .int .u8 0, .slice none 0 0, .string ⟨#[]⟩, .int .u8 ff, .string ⟨#[]⟩] 40)
 have hgz : w.heap.size + 1 < w3.heap.size := q3.lt
 go_upto_region 5 with (fail)
 generalize hW : w3.alloc (.cells #[.int .i64 1, .int .u8 0, .slice none 0 0, .string ⟨#[]⟩, .int .u8 ff, .string ⟨#[]⟩] 40) = W4 at *
 clear hW
 generalize w3.heap.size = gs at *
 clear k3 q3 r1b r2 hB3
 go_wp2_with fail
 refine (HF16.out _).mono ?_
 rintro e w5 ⟨rfl, hb5⟩
 have k5 := k4.below hb5 k4.lt
 have q5 := q4.below hb5 q4.lt
 have s5 := s4.below hb5 s4.lt
 have r1 := r1c.below hb5
 have r2 := r2c.below hb5
 have hB5 := hB4.trans (hb5.mono hB4.size)
 clear k4 q4 s4 r1c r2c hB4 hb5 HF16
 have a2 := k5.cell 2
 have a5 := k5.cell 5
 cases f16 with
 | false =>
   have HC2 := Lib.hid (show R = if Sl ≠ [-1] then [Fl, Sl] else if Fl ≠ [1] then [Fl] else [] by rw [HC.out]; simp)
   clear HC
   obtain ⟨b2, rfl, _, _, hx2⟩ := r2 (by rw [HSL.out]; simp)
   have v2 := hx2 0 (.int .i64 s0) (by rw [HSL.out]; rfl)
   have g2 : (0 : Int) < (n2 : Int) := by
    have := HN2.out
    rw [HSL.out] at this
    simp at this
    omega
   obtain ⟨b1, rfl, _, _, hx1⟩ := r1 (by rw [HFT.out]; simp)
   have v1 := hx1 0 (.int .i64 fn) (by rw [HFT.out]; rfl)
   have g1 : (0 : Int) < (n1 : Int) := by
    have := HN1.out
    rw [HFT.out] at this
    simp at this
    omega
   by_cases hs0 : s0 = -1
   rotate_left
   ·have t0 : (s0 == -1) = false := beq_false_of_ne hs0
    have t1 : (s0 != -1) = true := by simp [bne, t0]
    have HR := Lib.hid (show R = [Fl, Sl] by rw [HC2.out, if_pos (fun e => hs0 (HS1.out.1 e))])
    clear hs0 HC2 hx1 hx2
    have bq := q5.alloc (.cells #[.slice (some ⟨b1, 0, none⟩) n1 c1, .slice (some ⟨b2, 0, none⟩) n2 c2] 57)
    have bs_ := s5.alloc (.cells #[.slice (some ⟨b1, 0, none⟩) n1 c1, .slice (some ⟨b2, 0, none⟩) n2 c2] 57)
    have bh := Blk.new w5 57 #[.slice (some ⟨b1, 0, none⟩) n1 c1, .slice (some ⟨b2, 0, none⟩) n2 c2]
    have hb := hB5.alloc hB5.size (.cells #[.slice (some ⟨b1, 0, none⟩) n1 c1, .slice (some ⟨b2, 0, none⟩) n2 c2] 57)
    have rr0 := r1.below ((Below.refl _ w5).alloc (Nat.le_refl _) (.cells #[.slice (some ⟨b1, 0, none⟩) n1 c1, .slice (some ⟨b2, 0, none⟩) n2 c2] 57))
    have rr1 := r2.below ((Below.refl _ w5).alloc (Nat.le_refl _) (.cells #[.slice (some ⟨b1, 0, none⟩) n1 c1, .slice (some ⟨b2, 0, none⟩) n2 c2] 57))
    have hrows : Rows (w5.alloc (.cells #[.slice (some ⟨b1, 0, none⟩) n1 c1, .slice (some ⟨b2, 0, none⟩) n2 c2] 57)) (w5.alloc (.cells #[.slice (some ⟨b1, 0, none⟩) n1 c1, .slice (some ⟨b2, 0, none⟩) n2 c2] 57)).heap.size 3 [.slice (some ⟨b1, 0, none⟩) n1 c1, .slice (some ⟨b2, 0, none⟩) n2 c2] [Fl, Sl] := ⟨rfl, fun k hk => by
     match k, hk with
     | 0, _ => exact ⟨_, _, by show some (Value.slice (some ⟨b1, 0, none⟩) n1 c1) = some (.slice _ Fl.length _); rw [HN1.out], rr0⟩
     | 1, _ => exact ⟨_, _, by show some (Value.slice (some ⟨b2, 0, none⟩) n2 c2) = some (.slice _ Sl.length _); rw [HN2.out], rr1⟩⟩
    have hp := rdpn_of (g := w.heap.size + 1) bh hrows bq (by decide) (by decide)
    have hp2 := hp.other bs_ (by decide) (by decide) (grown_setCell gs 2 (.slice (some ⟨w5.heap.size, 0, none⟩) 2 2) (w5.alloc (.cells #[.slice (some ⟨b1, 0, none⟩) n1 c1, .slice (some ⟨b2, 0, none⟩) n2 c2] 57)))
    have bq2 := bq.far (a := ⟨gs, 2, none⟩) (by show w.heap.size + 1 ≠ gs; omega) (.slice (some ⟨w5.heap.size, 0, none⟩) 2 2)
    have bs2 : Blk ((w5.alloc (.cells #[.slice (some ⟨b1, 0, none⟩) n1 c1, .slice (some ⟨b2, 0, none⟩) n2 c2] 57)).setCell ⟨gs, 2, none⟩ (.slice (some ⟨w5.heap.size, 0, none⟩) 2 2)) gs 40 #[.int .i64 1, .int .u8 0, .slice (some ⟨w5.heap.size, 0, none⟩) 2 2, .string ⟨#[]⟩, .int .u8 ff, .string ⟨#[]⟩] := bs_.set 2 (.slice (some ⟨w5.heap.size, 0, none⟩) 2 2)
    have hb2 := hb.setCell (p := ⟨gs, 2, none⟩) (by show _ ≤ gs; omega) (.slice (some ⟨w5.heap.size, 0, none⟩) 2 2)
    have zs2 := bs_.frozen 2
    have ys2 := bs_.cell 2
    clear hp hrows bh bq hb
    go_upto_region 11 with (fail)
    generalize hWX : (w5.alloc (.cells #[.slice (some ⟨b1, 0, none⟩) n1 c1, .slice (some ⟨b2, 0, none⟩) n2 c2] 57)).setCell ⟨gs, 2, none⟩ (.slice (some ⟨w5.heap.size, 0, none⟩) 2 2) = WX at *
    clear hWX zs2 ys2 bs_
    obtain ⟨d0, d1, d2, d3, d4, d5⟩ := Blk.cells6 bs2
    obtain ⟨e0, e1, e2, e3, e4, e5⟩ := Blk.cells6 bq2
    have z0 := bq2.frozen 0
    have z1 := bq2.frozen 1
    have z2 := bq2.frozen 2
    have z3 := bq2.frozen 3
    have z4 := bq2.frozen 4
    have z5 := bq2.frozen 5
    go_wp2_with fail
    refine bodyPost_ret (v := .agg #[.int .i64 1, .int .u8 0, .slice (some ⟨w5.heap.size, 0, none⟩) 2 2, .string ⟨#[]⟩, .int .u8 ff, .string ⟨#[]⟩]) (by simp [results, Tryz.results43, go_sem, e0, e1, e2, e3, e4, e5]) rfl (SeqO.of HR.out rfl ((hp2.grown (grown_set6 _ _ _ _ _ _ _ _)).rdp) (below_set6 hb2 (Nat.le_succ _) _ _ _ _ _ _))
   have t0 : (s0 == -1) = true := by simp [hs0]
   have t1 : (s0 != -1) = false := by simp [bne, t0]
   have HC3 := Lib.hid (show R = if Fl ≠ [1] then [Fl] else [] by rw [HC2.out, if_neg (fun e => e (HS1.out.2 hs0))])
   clear hs0 HC2 hx1 hx2
   by_cases hl1 : 1 < n1
   ·have t2 : decide (1 < (n1 : Int)) = true := decide_eq_true (by omega)
    have HR := Lib.hid (show R = [Fl] by rw [HC3.out, if_pos (fun e => by have := HN1.out; rw [e] at this; simp at this; omega)])
    clear hl1 HC3
    have bq := q5.alloc (.cells #[.slice (some ⟨b1, 0, none⟩) n1 c1] 57)
    have bs_ := s5.alloc (.cells #[.slice (some ⟨b1, 0, none⟩) n1 c1] 57)
    have bh := Blk.new w5 57 #[.slice (some ⟨b1, 0, none⟩) n1 c1]
    have hb := hB5.alloc hB5.size (.cells #[.slice (some ⟨b1, 0, none⟩) n1 c1] 57)
    have rr0 := r1.below ((Below.refl _ w5).alloc (Nat.le_refl _) (.cells #[.slice (some ⟨b1, 0, none⟩) n1 c1] 57))
    have hrows : Rows (w5.alloc (.cells #[.slice (some ⟨b1, 0, none⟩) n1 c1] 57)) (w5.alloc (.cells #[.slice (some ⟨b1, 0, none⟩) n1 c1] 57)).heap.size 3 [.slice (some ⟨b1, 0, none⟩) n1 c1] [Fl] := ⟨rfl, fun k hk => by
     match k, hk with
     | 0, _ => exact ⟨_, _, by show some (Value.slice (some ⟨b1, 0, none⟩) n1 c1) = some (.slice _ Fl.length _); rw [HN1.out], rr0⟩⟩
    have hp := rdpn_of (g := w.heap.size + 1) bh hrows bq (by decide) (by decide)
    have hp2 := hp.other bs_ (by decide) (by decide) (grown_setCell gs 2 (.slice (some ⟨w5.heap.size, 0, none⟩) 1 1) (w5.alloc (.cells #[.slice (some ⟨b1, 0, none⟩) n1 c1] 57)))
    have bq2 := bq.far (a := ⟨gs, 2, none⟩) (by show w.heap.size + 1 ≠ gs; omega) (.slice (some ⟨w5.heap.size, 0, none⟩) 1 1)
    have bs2 : Blk ((w5.alloc (.cells #[.slice (some ⟨b1, 0, none⟩) n1 c1] 57)).setCell ⟨gs, 2, none⟩ (.slice (some ⟨w5.heap.size, 0, none⟩) 1 1)) gs 40 #[.int .i64 1, .int .u8 0, .slice (some ⟨w5.heap.size, 0, none⟩) 1 1, .string ⟨#[]⟩, .int .u8 ff, .string ⟨#[]⟩] := bs_.set 2 (.slice (some ⟨w5.heap.size, 0, none⟩) 1 1)
    have hb2 := hb.setCell (p := ⟨gs, 2, none⟩) (by show _ ≤ gs; omega) (.slice (some ⟨w5.heap.size, 0, none⟩) 1 1)
    have zs2 := bs_.frozen 2
    have ys2 := bs_.cell 2
    clear hp hrows bh bq hb
    go_upto_region 14 with (fail)
    generalize hWX : (w5.alloc (.cells #[.slice (some ⟨b1, 0, none⟩) n1 c1] 57)).setCell ⟨gs, 2, none⟩ (.slice (some ⟨w5.heap.size, 0, none⟩) 1 1) = WX at *
    clear hWX zs2 ys2 bs_
    obtain ⟨d0, d1, d2, d3, d4, d5⟩ := Blk.cells6 bs2
    obtain ⟨e0, e1, e2, e3, e4, e5⟩ := Blk.cells6 bq2
    have z0 := bq2.frozen 0
    have z1 := bq2.frozen 1
    have z2 := bq2.frozen 2
    have z3 := bq2.frozen 3
    have z4 := bq2.frozen 4
    have z5 := bq2.frozen 5
    go_wp2_with fail
    refine bodyPost_ret (v := .agg #[.int .i64 1, .int .u8 0, .slice (some ⟨w5.heap.size, 0, none⟩) 1 1, .string ⟨#[]⟩, .int .u8 ff, .string ⟨#[]⟩]) (by simp [results, Tryz.results43, go_sem, e0, e1, e2, e3, e4, e5]) rfl (SeqO.of HR.out rfl ((hp2.grown (grown_set6 _ _ _ _ _ _ _ _)).rdp) (below_set6 hb2 (Nat.le_succ _) _ _ _ _ _ _))
   have t2 : decide (1 < (n1 : Int)) = false := decide_eq_false (by omega)
   have HFE := Lib.hid (show Fl = [fn] by
    have h1 := HN1.out
    rw [HFT.out] at h1 ⊢
    cases ft with
    | nil => rfl
    | cons x y => simp at h1; omega)
   clear hl1
   by_cases hf1 : fn = 1
   ·have HR := Lib.hid (show R = [] by rw [HC3.out, if_neg (fun e => e (by rw [HFE.out, hf1]))])
    have t3 : (fn == 1) = true := by simp [hf1]
    have t4 : (fn != 1) = false := by simp [bne, t3]
    clear hf1 HC3
    obtain ⟨d0, d1, d2, d3, d4, d5⟩ := Blk.cells6 s5
    obtain ⟨e0, e1, e2, e3, e4, e5⟩ := Blk.cells6 q5
    have z0 := q5.frozen 0
    have z1 := q5.frozen 1
    have z2 := q5.frozen 2
    have z3 := q5.frozen 3
    have z4 := q5.frozen 4
    have z5 := q5.frozen 5
    go_wp2_with fail
    refine bodyPost_ret (v := .agg #[.int .i64 1, .int .u8 0, .slice none 0 0, .string ⟨#[]⟩, .int .u8 ff, .string ⟨#[]⟩]) (by simp [results, Tryz.results43, go_sem, e0, e1, e2, e3, e4, e5]) rfl (SeqO.of HR.out rfl (RdP.nil _ _) (below_set6 hB5 (Nat.le_succ _) _ _ _ _ _ _))
   have t3 : (fn == 1) = false := beq_false_of_ne hf1
   have t4 : (fn != 1) = true := by simp [bne, t3]
   have HR := Lib.hid (show R = [Fl] by rw [HC3.out, if_pos (fun e => by rw [HFE.out] at e; exact hf1 (List.cons.inj e).1)])
   clear hf1 HC3
   have bq := q5.alloc (.cells #[.slice (some ⟨b1, 0, none⟩) n1 c1] 57)
   have bs_ := s5.alloc (.cells #[.slice (some ⟨b1, 0, none⟩) n1 c1] 57)
   have bh := Blk.new w5 57 #[.slice (some ⟨b1, 0, none⟩) n1 c1]
   have hb := hB5.alloc hB5.size (.cells #[.slice (some ⟨b1, 0, none⟩) n1 c1] 57)
   have rr0 := r1.below ((Below.refl _ w5).alloc (Nat.le_refl _) (.cells #[.slice (some ⟨b1, 0, none⟩) n1 c1] 57))
   have hrows : Rows (w5.alloc (.cells #[.slice (some ⟨b1, 0, none⟩) n1 c1] 57)) (w5.alloc (.cells #[.slice (some ⟨b1, 0, none⟩) n1 c1] 57)).heap.size 3 [.slice (some ⟨b1, 0, none⟩) n1 c1] [Fl] := ⟨rfl, fun k hk => by
    match k, hk with
    | 0, _ => exact ⟨_, _, by show some (Value.slice (some ⟨b1, 0, none⟩) n1 c1) = some (.slice _ Fl.length _); rw [HN1.out], rr0⟩⟩
   have hp := rdpn_of (g := w.heap.size + 1) bh hrows bq (by decide) (by decide)
   have hp2 := hp.other bs_ (by decide) (by decide) (grown_setCell gs 2 (.slice (some ⟨w5.heap.size, 0, none⟩) 1 1) (w5.alloc (.cells #[.slice (some ⟨b1, 0, none⟩) n1 c1] 57)))
   have bq2 := bq.far (a := ⟨gs, 2, none⟩) (by show w.heap.size + 1 ≠ gs; omega) (.slice (some ⟨w5.heap.size, 0, none⟩) 1 1)
   have bs2 : Blk ((w5.alloc (.cells #[.slice (some ⟨b1, 0, none⟩) n1 c1] 57)).setCell ⟨gs, 2, none⟩ (.slice (some ⟨w5.heap.size, 0, none⟩) 1 1)) gs 40 #[.int .i64 1, .int .u8 0, .slice (some ⟨w5.heap.size, 0, none⟩) 1 1, .string ⟨#[]⟩, .int .u8 ff, .string ⟨#[]⟩] := bs_.set 2 (.slice (some ⟨w5.heap.size, 0, none⟩) 1 1)
   have hb2 := hb.setCell (p := ⟨gs, 2, none⟩) (by show _ ≤ gs; omega) (.slice (some ⟨w5.heap.size, 0, none⟩) 1 1)
   have zs2 := bs_.frozen 2
   have ys2 := bs_.cell 2
   clear hp hrows bh bq hb
   go_upto_region 14 with (fail)
   generalize hWX : (w5.alloc (.cells #[.slice (some ⟨b1, 0, none⟩) n1 c1] 57)).setCell ⟨gs, 2, none⟩ (.slice (some ⟨w5.heap.size, 0, none⟩) 1 1) = WX at *
   clear hWX zs2 ys2 bs_
   obtain ⟨d0, d1, d2, d3, d4, d5⟩ := Blk.cells6 bs2
   obtain ⟨e0, e1, e2, e3, e4, e5⟩ := Blk.cells6 bq2
   have z0 := bq2.frozen 0
   have z1 := bq2.frozen 1
   have z2 := bq2.frozen 2
   have z3 := bq2.frozen 3
   have z4 := bq2.frozen 4
   have z5 := bq2.frozen 5
   go_wp2_with fail
   refine bodyPost_ret (v := .agg #[.int .i64 1, .int .u8 0, .slice (some ⟨w5.heap.size, 0, none⟩) 1 1, .string ⟨#[]⟩, .int .u8 ff, .string ⟨#[]⟩]) (by simp [results, Tryz.results43, go_sem, e0, e1, e2, e3, e4, e5]) rfl (SeqO.of HR.out rfl ((hp2.grown (grown_set6 _ _ _ _ _ _ _ _)).rdp) (below_set6 hb2 (Nat.le_succ _) _ _ _ _ _ _))
 | true =>
 by_cases ht3 : typ = 3
 ·subst ht3
  have HC2 := Lib.hid (show R = if Sl ≠ [-1] then [Fl, Sl] else if Fl ≠ [1] then [Fl] else [] by rw [HC.out]; simp)
  clear HC
  obtain ⟨b2, rfl, _, _, hx2⟩ := r2 (by rw [HSL.out]; simp)
  have v2 := hx2 0 (.int .i64 s0) (by rw [HSL.out]; rfl)
  have g2 : (0 : Int) < (n2 : Int) := by
   have := HN2.out
   rw [HSL.out] at this
   simp at this
   omega
  obtain ⟨b1, rfl, _, _, hx1⟩ := r1 (by rw [HFT.out]; simp)
  have v1 := hx1 0 (.int .i64 fn) (by rw [HFT.out]; rfl)
  have g1 : (0 : Int) < (n1 : Int) := by
   have := HN1.out
   rw [HFT.out] at this
   simp at this
   omega
  by_cases hs0 : s0 = -1
  rotate_left
  ·have t0 : (s0 == -1) = false := beq_false_of_ne hs0
   have t1 : (s0 != -1) = true := by simp [bne, t0]
   have HR := Lib.hid (show R = [Fl, Sl] by rw [HC2.out, if_pos (fun e => hs0 (HS1.out.1 e))])
   clear hs0 HC2 hx1 hx2
   have bq := q5.alloc (.cells #[.slice (some ⟨b1, 0, none⟩) n1 c1, .slice (some ⟨b2, 0, none⟩) n2 c2] 57)
   have bs_ := s5.alloc (.cells #[.slice (some ⟨b1, 0, none⟩) n1 c1, .slice (some ⟨b2, 0, none⟩) n2 c2] 57)
   have bh := Blk.new w5 57 #[.slice (some ⟨b1, 0, none⟩) n1 c1, .slice (some ⟨b2, 0, none⟩) n2 c2]
   have hb := hB5.alloc hB5.size (.cells #[.slice (some ⟨b1, 0, none⟩) n1 c1, .slice (some ⟨b2, 0, none⟩) n2 c2] 57)
   have rr0 := r1.below ((Below.refl _ w5).alloc (Nat.le_refl _) (.cells #[.slice (some ⟨b1, 0, none⟩) n1 c1, .slice (some ⟨b2, 0, none⟩) n2 c2] 57))
   have rr1 := r2.below ((Below.refl _ w5).alloc (Nat.le_refl _) (.cells #[.slice (some ⟨b1, 0, none⟩) n1 c1, .slice (some ⟨b2, 0, none⟩) n2 c2] 57))
   have hrows : Rows (w5.alloc (.cells #[.slice (some ⟨b1, 0, none⟩) n1 c1, .slice (some ⟨b2, 0, none⟩) n2 c2] 57)) (w5.alloc (.cells #[.slice (some ⟨b1, 0, none⟩) n1 c1, .slice (some ⟨b2, 0, none⟩) n2 c2] 57)).heap.size 3 [.slice (some ⟨b1, 0, none⟩) n1 c1, .slice (some ⟨b2, 0, none⟩) n2 c2] [Fl, Sl] := ⟨rfl, fun k hk => by
    match k, hk with
    | 0, _ => exact ⟨_, _, by show some (Value.slice (some ⟨b1, 0, none⟩) n1 c1) = some (.slice _ Fl.length _); rw [HN1.out], rr0⟩
    | 1, _ => exact ⟨_, _, by show some (Value.slice (some ⟨b2, 0, none⟩) n2 c2) = some (.slice _ Sl.length _); rw [HN2.out], rr1⟩⟩
   have hp := rdpn_of (g := w.heap.size + 1) bh hrows bq (by decide) (by decide)
   have hp2 := hp.other bs_ (by decide) (by decide) (grown_setCell gs 2 (.slice (some ⟨w5.heap.size, 0, none⟩) 2 2) (w5.alloc (.cells #[.slice (some ⟨b1, 0, none⟩) n1 c1, .slice (some ⟨b2, 0, none⟩) n2 c2] 57)))
   have bq2 := bq.far (a := ⟨gs, 2, none⟩) (by show w.heap.size + 1 ≠ gs; omega) (.slice (some ⟨w5.heap.size, 0, none⟩) 2 2)
   have bs2 : Blk ((w5.alloc (.cells #[.slice (some ⟨b1, 0, none⟩) n1 c1, .slice (some ⟨b2, 0, none⟩) n2 c2] 57)).setCell ⟨gs, 2, none⟩ (.slice (some ⟨w5.heap.size, 0, none⟩) 2 2)) gs 40 #[.int .i64 1, .int .u8 0, .slice (some ⟨w5.heap.size, 0, none⟩) 2 2, .string ⟨#[]⟩, .int .u8 ff, .string ⟨#[]⟩] := bs_.set 2 (.slice (some ⟨w5.heap.size, 0, none⟩) 2 2)
   have hb2 := hb.setCell (p := ⟨gs, 2, none⟩) (by show _ ≤ gs; omega) (.slice (some ⟨w5.heap.size, 0, none⟩) 2 2)
   have zs2 := bs_.frozen 2
   have ys2 := bs_.cell 2
   clear hp hrows bh bq hb
   go_upto_region 11 with (fail)
   generalize hWX : (w5.alloc (.cells #[.slice (some ⟨b1, 0, none⟩) n1 c1, .slice (some ⟨b2, 0, none⟩) n2 c2] 57)).setCell ⟨gs, 2, none⟩ (.slice (some ⟨w5.heap.size, 0, none⟩) 2 2) = WX at *
   clear hWX zs2 ys2 bs_
   obtain ⟨d0, d1, d2, d3, d4, d5⟩ := Blk.cells6 bs2
   obtain ⟨e0, e1, e2, e3, e4, e5⟩ := Blk.cells6 bq2
   have z0 := bq2.frozen 0
   have z1 := bq2.frozen 1
   have z2 := bq2.frozen 2
   have z3 := bq2.frozen 3
   have z4 := bq2.frozen 4
   have z5 := bq2.frozen 5
   go_wp2_with fail
   refine bodyPost_ret (v := .agg #[.int .i64 1, .int .u8 0, .slice (some ⟨w5.heap.size, 0, none⟩) 2 2, .string ⟨#[]⟩, .int .u8 ff, .string ⟨#[]⟩]) (by simp [results, Tryz.results43, go_sem, e0, e1, e2, e3, e4, e5]) rfl (SeqO.of HR.out rfl ((hp2.grown (grown_set6 _ _ _ _ _ _ _ _)).rdp) (below_set6 hb2 (Nat.le_succ _) _ _ _ _ _ _))
  have t0 : (s0 == -1) = true := by simp [hs0]
  have t1 : (s0 != -1) = false := by simp [bne, t0]
  have HC3 := Lib.hid (show R = if Fl ≠ [1] then [Fl] else [] by rw [HC2.out, if_neg (fun e => e (HS1.out.2 hs0))])
  clear hs0 HC2 hx1 hx2
  by_cases hl1 : 1 < n1
  ·have t2 : decide (1 < (n1 : Int)) = true := decide_eq_true (by omega)
   have HR := Lib.hid (show R = [Fl] by rw [HC3.out, if_pos (fun e => by have := HN1.out; rw [e] at this; simp at this; omega)])
   clear hl1 HC3
   have bq := q5.alloc (.cells #[.slice (some ⟨b1, 0, none⟩) n1 c1] 57)
   have bs_ := s5.alloc (.cells #[.slice (some ⟨b1, 0, none⟩) n1 c1] 57)
   have bh := Blk.new w5 57 #[.slice (some ⟨b1, 0, none⟩) n1 c1]
   have hb := hB5.alloc hB5.size (.cells #[.slice (some ⟨b1, 0, none⟩) n1 c1] 57)
   have rr0 := r1.below ((Below.refl _ w5).alloc (Nat.le_refl _) (.cells #[.slice (some ⟨b1, 0, none⟩) n1 c1] 57))
   have hrows : Rows (w5.alloc (.cells #[.slice (some ⟨b1, 0, none⟩) n1 c1] 57)) (w5.alloc (.cells #[.slice (some ⟨b1, 0, none⟩) n1 c1] 57)).heap.size 3 [.slice (some ⟨b1, 0, none⟩) n1 c1] [Fl] := ⟨rfl, fun k hk => by
    match k, hk with
    | 0, _ => exact ⟨_, _, by show some (Value.slice (some ⟨b1, 0, none⟩) n1 c1) = some (.slice _ Fl.length _); rw [HN1.out], rr0⟩⟩
   have hp := rdpn_of (g := w.heap.size + 1) bh hrows bq (by decide) (by decide)
   have hp2 := hp.other bs_ (by decide) (by decide) (grown_setCell gs 2 (.slice (some ⟨w5.heap.size, 0, none⟩) 1 1) (w5.alloc (.cells #[.slice (some ⟨b1, 0, none⟩) n1 c1] 57)))
   have bq2 := bq.far (a := ⟨gs, 2, none⟩) (by show w.heap.size + 1 ≠ gs; omega) (.slice (some ⟨w5.heap.size, 0, none⟩) 1 1)
   have bs2 : Blk ((w5.alloc (.cells #[.slice (some ⟨b1, 0, none⟩) n1 c1] 57)).setCell ⟨gs, 2, none⟩ (.slice (some ⟨w5.heap.size, 0, none⟩) 1 1)) gs 40 #[.int .i64 1, .int .u8 0, .slice (some ⟨w5.heap.size, 0, none⟩) 1 1, .string ⟨#[]⟩, .int .u8 ff, .string ⟨#[]⟩] := bs_.set 2 (.slice (some ⟨w5.heap.size, 0, none⟩) 1 1)
   have hb2 := hb.setCell (p := ⟨gs, 2, none⟩) (by show _ ≤ gs; omega) (.slice (some ⟨w5.heap.size, 0, none⟩) 1 1)
   have zs2 := bs_.frozen 2
   have ys2 := bs_.cell 2
   clear hp hrows bh bq hb
   go_upto_region 14 with (fail)
   generalize hWX : (w5.alloc (.cells #[.slice (some ⟨b1, 0, none⟩) n1 c1] 57)).setCell ⟨gs, 2, none⟩ (.slice (some ⟨w5.heap.size, 0, none⟩) 1 1) = WX at *
   clear hWX zs2 ys2 bs_
   obtain ⟨d0, d1, d2, d3, d4, d5⟩ := Blk.cells6 bs2
   obtain ⟨e0, e1, e2, e3, e4, e5⟩ := Blk.cells6 bq2
   have z0 := bq2.frozen 0
   have z1 := bq2.frozen 1
   have z2 := bq2.frozen 2
   have z3 := bq2.frozen 3
   have z4 := bq2.frozen 4
   have z5 := bq2.frozen 5
   go_wp2_with fail
   refine bodyPost_ret (v := .agg #[.int .i64 1, .int .u8 0, .slice (some ⟨w5.heap.size, 0, none⟩) 1 1, .string ⟨#[]⟩, .int .u8 ff, .string ⟨#[]⟩]) (by simp [results, Tryz.results43, go_sem, e0, e1, e2, e3, e4, e5]) rfl (SeqO.of HR.out rfl ((hp2.grown (grown_set6 _ _ _ _ _ _ _ _)).rdp) (below_set6 hb2 (Nat.le_succ _) _ _ _ _ _ _))
  have t2 : decide (1 < (n1 : Int)) = false := decide_eq_false (by omega)
  have HFE := Lib.hid (show Fl = [fn] by
   have h1 := HN1.out
   rw [HFT.out] at h1 ⊢
   cases ft with
   | nil => rfl
   | cons x y => simp at h1; omega)
  clear hl1
  by_cases hf1 : fn = 1
  ·have HR := Lib.hid (show R = [] by rw [HC3.out, if_neg (fun e => e (by rw [HFE.out, hf1]))])
   have t3 : (fn == 1) = true := by simp [hf1]
   have t4 : (fn != 1) = false := by simp [bne, t3]
   clear hf1 HC3
   obtain ⟨d0, d1, d2, d3, d4, d5⟩ := Blk.cells6 s5
   obtain ⟨e0, e1, e2, e3, e4, e5⟩ := Blk.cells6 q5
   have z0 := q5.frozen 0
   have z1 := q5.frozen 1
   have z2 := q5.frozen 2
   have z3 := q5.frozen 3
   have z4 := q5.frozen 4
   have z5 := q5.frozen 5
   go_wp2_with fail
   refine bodyPost_ret (v := .agg #[.int .i64 1, .int .u8 0, .slice none 0 0, .string ⟨#[]⟩, .int .u8 ff, .string ⟨#[]⟩]) (by simp [results, Tryz.results43, go_sem, e0, e1, e2, e3, e4, e5]) rfl (SeqO.of HR.out rfl (RdP.nil _ _) (below_set6 hB5 (Nat.le_succ _) _ _ _ _ _ _))
  have t3 : (fn == 1) = false := beq_false_of_ne hf1
  have t4 : (fn != 1) = true := by simp [bne, t3]
  have HR := Lib.hid (show R = [Fl] by rw [HC3.out, if_pos (fun e => by rw [HFE.out] at e; exact hf1 (List.cons.inj e).1)])
  clear hf1 HC3
  have bq := q5.alloc (.cells #[.slice (some ⟨b1, 0, none⟩) n1 c1] 57)
  have bs_ := s5.alloc (.cells #[.slice (some ⟨b1, 0, none⟩) n1 c1] 57)
  have bh := Blk.new w5 57 #[.slice (some ⟨b1, 0, none⟩) n1 c1]
  have hb := hB5.alloc hB5.size (.cells #[.slice (some ⟨b1, 0, none⟩) n1 c1] 57)
  have rr0 := r1.below ((Below.refl _ w5).alloc (Nat.le_refl _) (.cells #[.slice (some ⟨b1, 0, none⟩) n1 c1] 57))
  have hrows : Rows (w5.alloc (.cells #[.slice (some ⟨b1, 0, none⟩) n1 c1] 57)) (w5.alloc (.cells #[.slice (some ⟨b1, 0, none⟩) n1 c1] 57)).heap.size 3 [.slice (some ⟨b1, 0, none⟩) n1 c1] [Fl] := ⟨rfl, fun k hk => by
   match k, hk with
   | 0, _ => exact ⟨_, _, by show some (Value.slice (some ⟨b1, 0, none⟩) n1 c1) = some (.slice _ Fl.length _); rw [HN1.out], rr0⟩⟩
  have hp := rdpn_of (g := w.heap.size + 1) bh hrows bq (by decide) (by decide)
  have hp2 := hp.other bs_ (by decide) (by decide) (grown_setCell gs 2 (.slice (some ⟨w5.heap.size, 0, none⟩) 1 1) (w5.alloc (.cells #[.slice (some ⟨b1, 0, none⟩) n1 c1] 57)))
  have bq2 := bq.far (a := ⟨gs, 2, none⟩) (by show w.heap.size + 1 ≠ gs; omega) (.slice (some ⟨w5.heap.size, 0, none⟩) 1 1)
  have bs2 : Blk ((w5.alloc (.cells #[.slice (some ⟨b1, 0, none⟩) n1 c1] 57)).setCell ⟨gs, 2, none⟩ (.slice (some ⟨w5.heap.size, 0, none⟩) 1 1)) gs 40 #[.int .i64 1, .int .u8 0, .slice (some ⟨w5.heap.size, 0, none⟩) 1 1, .string ⟨#[]⟩, .int .u8 ff, .string ⟨#[]⟩] := bs_.set 2 (.slice (some ⟨w5.heap.size, 0, none⟩) 1 1)
  have hb2 := hb.setCell (p := ⟨gs, 2, none⟩) (by show _ ≤ gs; omega) (.slice (some ⟨w5.heap.size, 0, none⟩) 1 1)
  have zs2 := bs_.frozen 2
  have ys2 := bs_.cell 2
  clear hp hrows bh bq hb
  go_upto_region 14 with (fail)
  generalize hWX : (w5.alloc (.cells #[.slice (some ⟨b1, 0, none⟩) n1 c1] 57)).setCell ⟨gs, 2, none⟩ (.slice (some ⟨w5.heap.size, 0, none⟩) 1 1) = WX at *
  clear hWX zs2 ys2 bs_
  obtain ⟨d0, d1, d2, d3, d4, d5⟩ := Blk.cells6 bs2
  obtain ⟨e0, e1, e2, e3, e4, e5⟩ := Blk.cells6 bq2
  have z0 := bq2.frozen 0
  have z1 := bq2.frozen 1
  have z2 := bq2.frozen 2
  have z3 := bq2.frozen 3
  have z4 := bq2.frozen 4
  have z5 := bq2.frozen 5
  go_wp2_with fail
  refine bodyPost_ret (v := .agg #[.int .i64 1, .int .u8 0, .slice (some ⟨w5.heap.size, 0, none⟩) 1 1, .string ⟨#[]⟩, .int .u8 ff, .string ⟨#[]⟩]) (by simp [results, Tryz.results43, go_sem, e0, e1, e2, e3, e4, e5]) rfl (SeqO.of HR.out rfl ((hp2.grown (grown_set6 _ _ _ _ _ _ _ _)).rdp) (below_set6 hb2 (Nat.le_succ _) _ _ _ _ _ _))
 have y0 : (typ == 3) = false := beq_false_of_ne ht3
 have y1 : (typ != 3) = true := by simp [bne, y0]
 cases te with
 | true =>
   have HC2 := Lib.hid (show R = if Sl ≠ [-1] then [Fl, Sl] else if Fl ≠ [1] then [Fl] else [] by rw [HC.out]; simp)
   clear HC
   obtain ⟨b2, rfl, _, _, hx2⟩ := r2 (by rw [HSL.out]; simp)
   have v2 := hx2 0 (.int .i64 s0) (by rw [HSL.out]; rfl)
   have g2 : (0 : Int) < (n2 : Int) := by
    have := HN2.out
    rw [HSL.out] at this
    simp at this
    omega
   obtain ⟨b1, rfl, _, _, hx1⟩ := r1 (by rw [HFT.out]; simp)
   have v1 := hx1 0 (.int .i64 fn) (by rw [HFT.out]; rfl)
   have g1 : (0 : Int) < (n1 : Int) := by
    have := HN1.out
    rw [HFT.out] at this
    simp at this
    omega
   by_cases hs0 : s0 = -1
   rotate_left
   ·have t0 : (s0 == -1) = false := beq_false_of_ne hs0
    have t1 : (s0 != -1) = true := by simp [bne, t0]
    have HR := Lib.hid (show R = [Fl, Sl] by rw [HC2.out, if_pos (fun e => hs0 (HS1.out.1 e))])
    clear hs0 HC2 hx1 hx2
    have bq := q5.alloc (.cells #[.slice (some ⟨b1, 0, none⟩) n1 c1, .slice (some ⟨b2, 0, none⟩) n2 c2] 57)
    have bs_ := s5.alloc (.cells #[.slice (some ⟨b1, 0, none⟩) n1 c1, .slice (some ⟨b2, 0, none⟩) n2 c2] 57)
    have bh := Blk.new w5 57 #[.slice (some ⟨b1, 0, none⟩) n1 c1, .slice (some ⟨b2, 0, none⟩) n2 c2]
    have hb := hB5.alloc hB5.size (.cells #[.slice (some ⟨b1, 0, none⟩) n1 c1, .slice (some ⟨b2, 0, none⟩) n2 c2] 57)
    have rr0 := r1.below ((Below.refl _ w5).alloc (Nat.le_refl _) (.cells #[.slice (some ⟨b1, 0, none⟩) n1 c1, .slice (some ⟨b2, 0, none⟩) n2 c2] 57))
    have rr1 := r2.below ((Below.refl _ w5).alloc (Nat.le_refl _) (.cells #[.slice (some ⟨b1, 0, none⟩) n1 c1, .slice (some ⟨b2, 0, none⟩) n2 c2] 57))
    have hrows : Rows (w5.alloc (.cells #[.slice (some ⟨b1, 0, none⟩) n1 c1, .slice (some ⟨b2, 0, none⟩) n2 c2] 57)) (w5.alloc (.cells #[.slice (some ⟨b1, 0, none⟩) n1 c1, .slice (some ⟨b2, 0, none⟩) n2 c2] 57)).heap.size 3 [.slice (some ⟨b1, 0, none⟩) n1 c1, .slice (some ⟨b2, 0, none⟩) n2 c2] [Fl, Sl] := ⟨rfl, fun k hk => by
     match k, hk with
     | 0, _ => exact ⟨_, _, by show some (Value.slice (some ⟨b1, 0, none⟩) n1 c1) = some (.slice _ Fl.length _); rw [HN1.out], rr0⟩
     | 1, _ => exact ⟨_, _, by show some (Value.slice (some ⟨b2, 0, none⟩) n2 c2) = some (.slice _ Sl.length _); rw [HN2.out], rr1⟩⟩
    have hp := rdpn_of (g := w.heap.size + 1) bh hrows bq (by decide) (by decide)
    have hp2 := hp.other bs_ (by decide) (by decide) (grown_setCell gs 2 (.slice (some ⟨w5.heap.size, 0, none⟩) 2 2) (w5.alloc (.cells #[.slice (some ⟨b1, 0, none⟩) n1 c1, .slice (some ⟨b2, 0, none⟩) n2 c2] 57)))
    have bq2 := bq.far (a := ⟨gs, 2, none⟩) (by show w.heap.size + 1 ≠ gs; omega) (.slice (some ⟨w5.heap.size, 0, none⟩) 2 2)
    have bs2 : Blk ((w5.alloc (.cells #[.slice (some ⟨b1, 0, none⟩) n1 c1, .slice (some ⟨b2, 0, none⟩) n2 c2] 57)).setCell ⟨gs, 2, none⟩ (.slice (some ⟨w5.heap.size, 0, none⟩) 2 2)) gs 40 #[.int .i64 1, .int .u8 0, .slice (some ⟨w5.heap.size, 0, none⟩) 2 2, .string ⟨#[]⟩, .int .u8 ff, .string ⟨#[]⟩] := bs_.set 2 (.slice (some ⟨w5.heap.size, 0, none⟩) 2 2)
    have hb2 := hb.setCell (p := ⟨gs, 2, none⟩) (by show _ ≤ gs; omega) (.slice (some ⟨w5.heap.size, 0, none⟩) 2 2)
    have zs2 := bs_.frozen 2
    have ys2 := bs_.cell 2
    clear hp hrows bh bq hb
    go_upto_region 11 with (fail)
    generalize hWX : (w5.alloc (.cells #[.slice (some ⟨b1, 0, none⟩) n1 c1, .slice (some ⟨b2, 0, none⟩) n2 c2] 57)).setCell ⟨gs, 2, none⟩ (.slice (some ⟨w5.heap.size, 0, none⟩) 2 2) = WX at *
    clear hWX zs2 ys2 bs_
    obtain ⟨d0, d1, d2, d3, d4, d5⟩ := Blk.cells6 bs2
    obtain ⟨e0, e1, e2, e3, e4, e5⟩ := Blk.cells6 bq2
    have z0 := bq2.frozen 0
    have z1 := bq2.frozen 1
    have z2 := bq2.frozen 2
    have z3 := bq2.frozen 3
    have z4 := bq2.frozen 4
    have z5 := bq2.frozen 5
    go_wp2_with fail
    refine bodyPost_ret (v := .agg #[.int .i64 1, .int .u8 0, .slice (some ⟨w5.heap.size, 0, none⟩) 2 2, .string ⟨#[]⟩, .int .u8 ff, .string ⟨#[]⟩]) (by simp [results, Tryz.results43, go_sem, e0, e1, e2, e3, e4, e5]) rfl (SeqO.of HR.out rfl ((hp2.grown (grown_set6 _ _ _ _ _ _ _ _)).rdp) (below_set6 hb2 (Nat.le_succ _) _ _ _ _ _ _))
   have t0 : (s0 == -1) = true := by simp [hs0]
   have t1 : (s0 != -1) = false := by simp [bne, t0]
   have HC3 := Lib.hid (show R = if Fl ≠ [1] then [Fl] else [] by rw [HC2.out, if_neg (fun e => e (HS1.out.2 hs0))])
   clear hs0 HC2 hx1 hx2
   by_cases hl1 : 1 < n1
   ·have t2 : decide (1 < (n1 : Int)) = true := decide_eq_true (by omega)
    have HR := Lib.hid (show R = [Fl] by rw [HC3.out, if_pos (fun e => by have := HN1.out; rw [e] at this; simp at this; omega)])
    clear hl1 HC3
    have bq := q5.alloc (.cells #[.slice (some ⟨b1, 0, none⟩) n1 c1] 57)
    have bs_ := s5.alloc (.cells #[.slice (some ⟨b1, 0, none⟩) n1 c1] 57)
    have bh := Blk.new w5 57 #[.slice (some ⟨b1, 0, none⟩) n1 c1]
    have hb := hB5.alloc hB5.size (.cells #[.slice (some ⟨b1, 0, none⟩) n1 c1] 57)
    have rr0 := r1.below ((Below.refl _ w5).alloc (Nat.le_refl _) (.cells #[.slice (some ⟨b1, 0, none⟩) n1 c1] 57))
    have hrows : Rows (w5.alloc (.cells #[.slice (some ⟨b1, 0, none⟩) n1 c1] 57)) (w5.alloc (.cells #[.slice (some ⟨b1, 0, none⟩) n1 c1] 57)).heap.size 3 [.slice (some ⟨b1, 0, none⟩) n1 c1] [Fl] := ⟨rfl, fun k hk => by
     match k, hk with
     | 0, _ => exact ⟨_, _, by show some (Value.slice (some ⟨b1, 0, none⟩) n1 c1) = some (.slice _ Fl.length _); rw [HN1.out], rr0⟩⟩
    have hp := rdpn_of (g := w.heap.size + 1) bh hrows bq (by decide) (by decide)
    have hp2 := hp.other bs_ (by decide) (by decide) (grown_setCell gs 2 (.slice (some ⟨w5.heap.size, 0, none⟩) 1 1) (w5.alloc (.cells #[.slice (some ⟨b1, 0, none⟩) n1 c1] 57)))
    have bq2 := bq.far (a := ⟨gs, 2, none⟩) (by show w.heap.size + 1 ≠ gs; omega) (.slice (some ⟨w5.heap.size, 0, none⟩) 1 1)
    have bs2 : Blk ((w5.alloc (.cells #[.slice (some ⟨b1, 0, none⟩) n1 c1] 57)).setCell ⟨gs, 2, none⟩ (.slice (some ⟨w5.heap.size, 0, none⟩) 1 1)) gs 40 #[.int .i64 1, .int .u8 0, .slice (some ⟨w5.heap.size, 0, none⟩) 1 1, .string ⟨#[]⟩, .int .u8 ff, .string ⟨#[]⟩] := bs_.set 2 (.slice (some ⟨w5.heap.size, 0, none⟩) 1 1)
    have hb2 := hb.setCell (p := ⟨gs, 2, none⟩) (by show _ ≤ gs; omega) (.slice (some ⟨w5.heap.size, 0, none⟩) 1 1)
    have zs2 := bs_.frozen 2
    have ys2 := bs_.cell 2
    clear hp hrows bh bq hb
    go_upto_region 14 with (fail)
    generalize hWX : (w5.alloc (.cells #[.slice (some ⟨b1, 0, none⟩) n1 c1] 57)).setCell ⟨gs, 2, none⟩ (.slice (some ⟨w5.heap.size, 0, none⟩) 1 1) = WX at *
    clear hWX zs2 ys2 bs_
    obtain ⟨d0, d1, d2, d3, d4, d5⟩ := Blk.cells6 bs2
    obtain ⟨e0, e1, e2, e3, e4, e5⟩ := Blk.cells6 bq2
    have z0 := bq2.frozen 0
    have z1 := bq2.frozen 1
    have z2 := bq2.frozen 2
    have z3 := bq2.frozen 3
    have z4 := bq2.frozen 4
    have z5 := bq2.frozen 5
    go_wp2_with fail
    refine bodyPost_ret (v := .agg #[.int .i64 1, .int .u8 0, .slice (some ⟨w5.heap.size, 0, none⟩) 1 1, .string ⟨#[]⟩, .int .u8 ff, .string ⟨#[]⟩]) (by simp [results, Tryz.results43, go_sem, e0, e1, e2, e3, e4, e5]) rfl (SeqO.of HR.out rfl ((hp2.grown (grown_set6 _ _ _ _ _ _ _ _)).rdp) (below_set6 hb2 (Nat.le_succ _) _ _ _ _ _ _))
   have t2 : decide (1 < (n1 : Int)) = false := decide_eq_false (by omega)
   have HFE := Lib.hid (show Fl = [fn] by
    have h1 := HN1.out
    rw [HFT.out] at h1 ⊢
    cases ft with
    | nil => rfl
    | cons x y => simp at h1; omega)
   clear hl1
   by_cases hf1 : fn = 1
   ·have HR := Lib.hid (show R = [] by rw [HC3.out, if_neg (fun e => e (by rw [HFE.out, hf1]))])
    have t3 : (fn == 1) = true := by simp [hf1]
    have t4 : (fn != 1) = false := by simp [bne, t3]
    clear hf1 HC3
    obtain ⟨d0, d1, d2, d3, d4, d5⟩ := Blk.cells6 s5
    obtain ⟨e0, e1, e2, e3, e4, e5⟩ := Blk.cells6 q5
    have z0 := q5.frozen 0
    have z1 := q5.frozen 1
    have z2 := q5.frozen 2
    have z3 := q5.frozen 3
    have z4 := q5.frozen 4
    have z5 := q5.frozen 5
    go_wp2_with fail
    refine bodyPost_ret (v := .agg #[.int .i64 1, .int .u8 0, .slice none 0 0, .string ⟨#[]⟩, .int .u8 ff, .string ⟨#[]⟩]) (by simp [results, Tryz.results43, go_sem, e0, e1, e2, e3, e4, e5]) rfl (SeqO.of HR.out rfl (RdP.nil _ _) (below_set6 hB5 (Nat.le_succ _) _ _ _ _ _ _))
   have t3 : (fn == 1) = false := beq_false_of_ne hf1
   have t4 : (fn != 1) = true := by simp [bne, t3]
   have HR := Lib.hid (show R = [Fl] by rw [HC3.out, if_pos (fun e => by rw [HFE.out] at e; exact hf1 (List.cons.inj e).1)])
   clear hf1 HC3
   have bq := q5.alloc (.cells #[.slice (some ⟨b1, 0, none⟩) n1 c1] 57)
   have bs_ := s5.alloc (.cells #[.slice (some ⟨b1, 0, none⟩) n1 c1] 57)
   have bh := Blk.new w5 57 #[.slice (some ⟨b1, 0, none⟩) n1 c1]
   have hb := hB5.alloc hB5.size (.cells #[.slice (some ⟨b1, 0, none⟩) n1 c1] 57)
   have rr0 := r1.below ((Below.refl _ w5).alloc (Nat.le_refl _) (.cells #[.slice (some ⟨b1, 0, none⟩) n1 c1] 57))
   have hrows : Rows (w5.alloc (.cells #[.slice (some ⟨b1, 0, none⟩) n1 c1] 57)) (w5.alloc (.cells #[.slice (some ⟨b1, 0, none⟩) n1 c1] 57)).heap.size 3 [.slice (some ⟨b1, 0, none⟩) n1 c1] [Fl] := ⟨rfl, fun k hk => by
    match k, hk with
    | 0, _ => exact ⟨_, _, by show some (Value.slice (some ⟨b1, 0, none⟩) n1 c1) = some (.slice _ Fl.length _); rw [HN1.out], rr0⟩⟩
   have hp := rdpn_of (g := w.heap.size + 1) bh hrows bq (by decide) (by decide)
   have hp2 := hp.other bs_ (by decide) (by decide) (grown_setCell gs 2 (.slice (some ⟨w5.heap.size, 0, none⟩) 1 1) (w5.alloc (.cells #[.slice (some ⟨b1, 0, none⟩) n1 c1] 57)))
   have bq2 := bq.far (a := ⟨gs, 2, none⟩) (by show w.heap.size + 1 ≠ gs; omega) (.slice (some ⟨w5.heap.size, 0, none⟩) 1 1)
   have bs2 : Blk ((w5.alloc (.cells #[.slice (some ⟨b1, 0, none⟩) n1 c1] 57)).setCell ⟨gs, 2, none⟩ (.slice (some ⟨w5.heap.size, 0, none⟩) 1 1)) gs 40 #[.int .i64 1, .int .u8 0, .slice (some ⟨w5.heap.size, 0, none⟩) 1 1, .string ⟨#[]⟩, .int .u8 ff, .string ⟨#[]⟩] := bs_.set 2 (.slice (some ⟨w5.heap.size, 0, none⟩) 1 1)
   have hb2 := hb.setCell (p := ⟨gs, 2, none⟩) (by show _ ≤ gs; omega) (.slice (some ⟨w5.heap.size, 0, none⟩) 1 1)
   have zs2 := bs_.frozen 2
   have ys2 := bs_.cell 2
   clear hp hrows bh bq hb
   go_upto_region 14 with (fail)
   generalize hWX : (w5.alloc (.cells #[.slice (some ⟨b1, 0, none⟩) n1 c1] 57)).setCell ⟨gs, 2, none⟩ (.slice (some ⟨w5.heap.size, 0, none⟩) 1 1) = WX at *
   clear hWX zs2 ys2 bs_
   obtain ⟨d0, d1, d2, d3, d4, d5⟩ := Blk.cells6 bs2
   obtain ⟨e0, e1, e2, e3, e4, e5⟩ := Blk.cells6 bq2
   have z0 := bq2.frozen 0
   have z1 := bq2.frozen 1
   have z2 := bq2.frozen 2
   have z3 := bq2.frozen 3
   have z4 := bq2.frozen 4
   have z5 := bq2.frozen 5
   go_wp2_with fail
   refine bodyPost_ret (v := .agg #[.int .i64 1, .int .u8 0, .slice (some ⟨w5.heap.size, 0, none⟩) 1 1, .string ⟨#[]⟩, .int .u8 ff, .string ⟨#[]⟩]) (by simp [results, Tryz.results43, go_sem, e0, e1, e2, e3, e4, e5]) rfl (SeqO.of HR.out rfl ((hp2.grown (grown_set6 _ _ _ _ _ _ _ _)).rdp) (below_set6 hb2 (Nat.le_succ _) _ _ _ _ _ _))
 | false =>
   have HR := Lib.hid (show R = [Fl, Sl, ks] by rw [HC.out, if_pos ⟨rfl, ht3, rfl⟩])
   clear HC ht3
   have hms : text.size ≤ maxLen := by have := HTS.out; simp only [maxLen]; omega
   obtain ⟨l, hl⟩ : ∃ l, text.data.toList = l := ⟨_, rfl⟩
   have HLL := Lib.hid hl
   have HLN := Lib.hid (show l.length = text.size by rw [← hl]; exact Array.length_toList)
   have HKS2 := Lib.hid (show allL l = some ks by rw [← hl]; exact HKS.out)
   clear hl HKS
   go_wp2_with (first
    | ((with_reducible refine list_conv _ rfl (.tmp 40) 9 27 rfl w5.heap.size 5 text ?_ Tryz.underlying9 Tryz.underlying27 Tryz.underlying5 hms (Nat.le_refl _) ?_); rfl; intro v6 w6 own6 hg6; obtain ⟨A6, c6, rfl, hr6⟩ := own6.form; have hc6 := own6.capT; have hB6 := below_none hg6; clear hg6))
   rw [HLL.out] at hr6
   have hall := rall_own A6 c6 l w6 (by rw [HLN.out]; exact HTS.out) (by rw [HLN.out]; exact hc6) hr6
   rw [HLN.out, HKS2.out] at hall
   refine hall.mono ?_
   clear hall hr6 own6
   rintro e w7 ⟨v7, rfl, ho7, hb7⟩
   obtain ⟨A7, c7, rfl, _⟩ := ho7.form
   have r7 := Own.row ho7
   have hB57 := hB6.trans (hb7.mono hB6.size)
   have r1' := r1.below hB57
   have r2' := r2.below hB57
   have q5' := q5.below hB57 q5.lt
   have s5' := s5.below hB57 s5.lt
   have hB5' := hB5.trans (hB57.mono hB5.size)
   clear r1 r2 q5 s5 k5 hB5 hB57 hB6 hb7 ho7 a2 a5
   have r1 := r1'
   have r2 := r2'
   have q5 := q5'
   have s5 := s5'
   have hB5 := hB5'
   clear r1' r2' q5' s5' hB5'
   have bq := q5.alloc (.cells #[.slice A1 n1 c1, .slice A2 n2 c2, .slice A7 ks.length c7] 57)
   have bs_ := s5.alloc (.cells #[.slice A1 n1 c1, .slice A2 n2 c2, .slice A7 ks.length c7] 57)
   have bh := Blk.new w7 57 #[.slice A1 n1 c1, .slice A2 n2 c2, .slice A7 ks.length c7]
   have hb := hB5.alloc hB5.size (.cells #[.slice A1 n1 c1, .slice A2 n2 c2, .slice A7 ks.length c7] 57)
   have rr0 := r1.below ((Below.refl _ w7).alloc (Nat.le_refl _) (.cells #[.slice A1 n1 c1, .slice A2 n2 c2, .slice A7 ks.length c7] 57))
   have rr1 := r2.below ((Below.refl _ w7).alloc (Nat.le_refl _) (.cells #[.slice A1 n1 c1, .slice A2 n2 c2, .slice A7 ks.length c7] 57))
   have rr2 := r7.below ((Below.refl _ w7).alloc (Nat.le_refl _) (.cells #[.slice A1 n1 c1, .slice A2 n2 c2, .slice A7 ks.length c7] 57))
   have hrows : Rows (w7.alloc (.cells #[.slice A1 n1 c1, .slice A2 n2 c2, .slice A7 ks.length c7] 57)) (w7.alloc (.cells #[.slice A1 n1 c1, .slice A2 n2 c2, .slice A7 ks.length c7] 57)).heap.size 3 [.slice A1 n1 c1, .slice A2 n2 c2, .slice A7 ks.length c7] [Fl, Sl, ks] := ⟨rfl, fun k hk => by
    match k, hk with
    | 0, _ => exact ⟨_, _, by show some (Value.slice A1 n1 c1) = some (.slice _ Fl.length _); rw [HN1.out], rr0⟩
    | 1, _ => exact ⟨_, _, by show some (Value.slice A2 n2 c2) = some (.slice _ Sl.length _); rw [HN2.out], rr1⟩
    | 2, _ => exact ⟨_, _, by show some (Value.slice A7 ks.length c7) = some (.slice _ ks.length _); rfl, rr2⟩⟩
   have hp := rdpn_of (g := w.heap.size + 1) bh hrows bq (by decide) (by decide)
   have hp2 := hp.other bs_ (by decide) (by decide) (grown_setCell gs 2 (.slice (some ⟨w7.heap.size, 0, none⟩) 3 3) (w7.alloc (.cells #[.slice A1 n1 c1, .slice A2 n2 c2, .slice A7 ks.length c7] 57)))
   have bq2 := bq.far (a := ⟨gs, 2, none⟩) (by show w.heap.size + 1 ≠ gs; omega) (.slice (some ⟨w7.heap.size, 0, none⟩) 3 3)
   have bs2 : Blk ((w7.alloc (.cells #[.slice A1 n1 c1, .slice A2 n2 c2, .slice A7 ks.length c7] 57)).setCell ⟨gs, 2, none⟩ (.slice (some ⟨w7.heap.size, 0, none⟩) 3 3)) gs 40 #[.int .i64 1, .int .u8 0, .slice (some ⟨w7.heap.size, 0, none⟩) 3 3, .string ⟨#[]⟩, .int .u8 ff, .string ⟨#[]⟩] := bs_.set 2 (.slice (some ⟨w7.heap.size, 0, none⟩) 3 3)
   have hb2 := hb.setCell (p := ⟨gs, 2, none⟩) (by show _ ≤ gs; omega) (.slice (some ⟨w7.heap.size, 0, none⟩) 3 3)
   have zs2 := bs_.frozen 2
   have ys2 := bs_.cell 2
   clear hp hrows bh bq hb
   go_upto_region 8 with (fail)
   generalize hWX : (w7.alloc (.cells #[.slice A1 n1 c1, .slice A2 n2 c2, .slice A7 ks.length c7] 57)).setCell ⟨gs, 2, none⟩ (.slice (some ⟨w7.heap.size, 0, none⟩) 3 3) = WX at *
   clear hWX zs2 ys2 bs_
   obtain ⟨d0, d1, d2, d3, d4, d5⟩ := Blk.cells6 bs2
   obtain ⟨e0, e1, e2, e3, e4, e5⟩ := Blk.cells6 bq2
   have z0 := bq2.frozen 0
   have z1 := bq2.frozen 1
   have z2 := bq2.frozen 2
   have z3 := bq2.frozen 3
   have z4 := bq2.frozen 4
   have z5 := bq2.frozen 5
   go_wp2_with fail
   refine bodyPost_ret (v := .agg #[.int .i64 1, .int .u8 0, .slice (some ⟨w7.heap.size, 0, none⟩) 3 3, .string ⟨#[]⟩, .int .u8 ff, .string ⟨#[]⟩]) (by simp [results, Tryz.results43, go_sem, e0, e1, e2, e3, e4, e5]) rfl (SeqO.of HR.out rfl ((hp2.grown (grown_set6 _ _ _ _ _ _ _ _)).rdp) (below_set6 hb2 (Nat.le_succ _) _ _ _ _ _ _))
end Go.Proofs.YtceipblcdcgljaaGreatDoor
