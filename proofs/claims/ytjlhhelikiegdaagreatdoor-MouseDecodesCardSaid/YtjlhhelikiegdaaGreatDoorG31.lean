/-
  Stage 16, the landed mouse, walked: Code. Layer 3, walked: the program's reader: skip, run, one, part. Layer 3, walked: the program's reader: run.
-/
import Derived.Test.YtjlhhelikiegdaaGreatDoorG03
import Derived.Test.YtjlhhelikiegdaaGreatDoorG11
import Derived.Test.YtjlhhelikiegdaaGreatDoorG13
import Derived.Test.YtjlhhelikiegdaaGreatDoorG15
import Derived.Test.YtjlhhelikiegdaaGreatDoorG19
import Derived.Test.YtjlhhelikiegdaaGreatDoorG30
import Derived.Deep.RegionHeld
import Derived.Deep.RegionHeld3
namespace Go.Proofs.YtjlhhelikiegdaaGreatDoor
open Go.RowKit
set_option maxRecDepth 100000 in
set_option maxHeartbeats 16000000 in
theorem mcode_any (mode btn typ x y mods C : Int) (hC : codeM mode ⟨btn, typ, x, y, mods⟩ = C) (w : World) : Calls Tryz.prog 8 #[.int .i64 mode, .agg #[.int .i64 btn, .int .i64 typ, .int .i64 x, .int .i64 y, .int .i64 mods]] w (NumE C w) := by
 obtain ⟨q, hq⟩ : ∃ q, mayT ⟨btn, typ, x, y, mods⟩ = q := ⟨_, rfl⟩
 obtain ⟨nb, hnb⟩ : ∃ n, numW btn = n := ⟨_, rfl⟩
 obtain ⟨mk, hmk⟩ : ∃ n, mkW mode typ mods = n := ⟨_, rfl⟩
 have hz : wh q (IntKind.i64.wrap (nb + mk)) = C := by
  rw [← hC]
  cases q with
  | false => rw [code_no hq]; rfl
  | true =>
    rw [← codeW_eq mode hq, ← hnb, ← hmk]
    show IntKind.i64.wrap (numW btn + mkW mode typ mods) = wrap64 (numW btn + mkW mode typ mods)
    simp only [IntKind.wrap_i64, wrap64]
 have HM : Hid (∀ W, Calls Tryz.prog 12 #[.agg #[.int .i64 btn, .int .i64 typ, .int .i64 x, .int .i64 y, .int .i64 mods]] W fun e w' => e = .returned (.bool q) ∧ Below W.heap.size W w') := Lib.hid fun W => by
  have := tmay_any ⟨btn, typ, x, y, mods⟩ W
  rw [hq] at this
  exact this
 have HN : Hid (∀ W, Calls Tryz.prog 19 #[.int .i64 btn] W (NumE nb W)) := Lib.hid fun W => mnumber_any btn nb hnb W
 have HK : Hid (∀ W, Calls Tryz.prog 20 #[.int .i64 mode, .agg #[.int .i64 btn, .int .i64 typ, .int .i64 x, .int .i64 y, .int .i64 mods]] W (NumE mk W)) := Lib.hid fun W => mmarks_any mode btn typ x y mods mk hmk W
 have HW : Hid (∀ W, Calls Tryz.prog 18 #[.bool q, .int .i64 (IntKind.i64.wrap (nb + mk))] W (NumE C W)) := Lib.hid fun W => mwhen_any q _ C hz W
 clear hz hq hnb hmk hC
 have k0 := Blk.new w 23 #[.int .i64 btn, .int .i64 typ, .int .i64 x, .int .i64 y, .int .i64 mods]
 have hB : Below w.heap.size w (w.alloc (.cells #[.int .i64 btn, .int .i64 typ, .int .i64 x, .int .i64 y, .int .i64 mods] 23)) := (Below.refl _ w).alloc (Nat.le_refl _) _
 obtain ⟨w1, hw1⟩ : ∃ W, w.alloc (.cells #[.int .i64 btn, .int .i64 typ, .int .i64 x, .int .i64 y, .int .i64 mods] 23) = W := ⟨_, rfl⟩
 rw [hw1] at k0 hB
 have le : ∀ W, Below w1.heap.size w1 W → Blk W w.heap.size 23 #[.int .i64 btn, .int .i64 typ, .int .i64 x, .int .i64 y, .int .i64 mods] := fun W hW => k0.below hW k0.lt
 have hst : ∀ f ∈ ([] : List Fact), f.ok := fun _ h => by cases h
 go_enter Tryz.func8, Tryz.ntmps8
 go_upto_region 1 with (fail)
 try rw [hw1]
 clear hw1
 refine wp_region_told (w1 := w1) (K := []) (ix := 1000) (R0 := fun _ _ _ => True) (R1 := fun _ _ _ => True) [] (⟨#[.int .i64 mode, .agg #[.int .i64 btn, .int .i64 typ, .int .i64 x, .int .i64 y, .int .i64 mods], undef, .pointer (some ⟨w.heap.size, 0, none⟩), .int .i64 C, .agg #[.int .i64 btn, .int .i64 typ, .int .i64 x, .int .i64 y, .int .i64 mods], .bool q, .pointer (some ⟨w.heap.size, 0, none⟩), .int .i64 btn, .int .i64 nb, .int .i64 mode, .agg #[.int .i64 btn, .int .i64 typ, .int .i64 x, .int .i64 y, .int .i64 mods], .int .i64 mk, .int .i64 (IntKind.i64.wrap (nb + mk)), .int .i64 C], []⟩) (fun g => ⟨#[.int .i64 mode, .agg #[.int .i64 btn, .int .i64 typ, .int .i64 x, .int .i64 y, .int .i64 mods], undef, .pointer (some ⟨w.heap.size, 0, none⟩), .int .i64 C, .agg #[.int .i64 btn, .int .i64 typ, .int .i64 x, .int .i64 y, .int .i64 mods], .bool q, .pointer (some ⟨w.heap.size, 0, none⟩), .int .i64 btn, .int .i64 nb, .int .i64 mode, .agg #[.int .i64 btn, .int .i64 typ, .int .i64 x, .int .i64 y, .int .i64 mods], .int .i64 mk, .int .i64 (IntKind.i64.wrap (nb + mk)), .int .i64 C], []⟩) [.agg #[.int .i64 btn, .int .i64 typ, .int .i64 x, .int .i64 y, .int .i64 mods], .bool q, .pointer (some ⟨w.heap.size, 0, none⟩), .int .i64 btn, .int .i64 nb, .int .i64 mode, .agg #[.int .i64 btn, .int .i64 typ, .int .i64 x, .int .i64 y, .int .i64 mods], .int .i64 mk, .int .i64 (IntKind.i64.wrap (nb + mk)), .int .i64 C, .int .i64 C] (by kernel_rfl) (by kernel_rfl) (by kernel_rfl) (fun g => by kernel_rfl) (by kernel_rfl) (Below.refl _ _).drew (by decide) (by kernel_rfl)
  (goes_cons (gkL hst (fun W hW => le W hW) Tryz.underlying23)
  (goes_cons (gkK (fun g => #[.agg #[.int .i64 btn, .int .i64 typ, .int .i64 x, .int .i64 y, .int .i64 mods]]) hst (fun g W hW hin => HM.out W))
  (goes_cons (gkP (fun _ => .pointer (some ⟨w.heap.size, 0, none⟩)))
  (goes_cons (gkC hst (fun W hW => (le W hW).cell 0))
  (goes_cons (gkK (fun g => #[.int .i64 btn]) hst (fun g W hW hin => HN.out W))
  (goes_cons (gkP (fun _ => .int .i64 mode))
  (goes_cons (gkL hst (fun W hW => le W hW) Tryz.underlying23)
  (goes_cons (gkK (fun g => #[.int .i64 mode, .agg #[.int .i64 btn, .int .i64 typ, .int .i64 x, .int .i64 y, .int .i64 mods]]) hst (fun g W hW hin => HK.out W))
  (goes_cons (gkP (fun _ => .int .i64 (IntKind.i64.wrap (nb + mk))))
  (goes_cons (gkK (fun g => #[.bool q, .int .i64 (IntKind.i64.wrap (nb + mk))]) hst (fun g W hW hin => HW.out W))
  (goes_cons (gkP (fun _ => .int .i64 C)) goes_nil))))))))))) ?_
 intro g W hW _
 have hB2 := hB.trans (hW.mono hB.size)
 clear le hst
 go_wp2_with fail
 go_ret
 exact ⟨rfl, hB2⟩
def tkC (A : Option Addr) (n c at_ : Nat) (x0 x1 x2 x3 x4 x5 : Value) : Array Value := #[.slice A n c, .int .i64 (at_ : Int), x0, x1, x2, x3, x4, x5]
def Rdr (w : World) (g : Nat) (A : Option Addr) (c : Nat) (l : List UInt8) (x0 x1 x2 x3 x4 x5 : Value) (r : List UInt8) : Prop :=
 ∃ at_ : Nat, at_ ≤ l.length ∧ l.drop at_ = r ∧ RdIn g w A (bs l) ∧ Blk w g 64 (tkC A l.length c at_ x0 x1 x2 x3 x4 x5)
theorem bytesIn_of {w : World} {A : Option Addr} {l : List UInt8} (h : Rd w A (bs l)) : Lib.BytesIn w A l.length (l.map fun x => (x.toNat : Int)) := fun hn => by
 obtain ⟨b, o, rfl, _, hc⟩ := h.at_ hn
 refine ⟨b, o, rfl, fun i hi => ?_⟩
 rw [hc i hi]
 simp [List.getD, List.getElem?_eq_getElem hi]
theorem hasp_any (A1 A2 : Option Addr) (n c m d : Nat) (l t : List UInt8) (q : Bool) (w : World) (hl : l.length = n) (ht : t.length = m) (hc : n ≤ c) (hq : skipB t l = q) (h1 : Rd w A1 (bs l)) (h2 : Rd w A2 (bs t)) :
 Calls Tryz.prog 60 #[.slice A1 n c, .slice A2 m d] w fun e w' => e = .returned (.bool q) ∧ w = w' := by
 subst hl
 subst ht
 refine (Tryz.bytes_HasPrefix_all A1 A2 _ c _ d (l.map fun x => (x.toNat : Int)) (t.map fun x => (x.toNat : Int)) w (by simp) (by simp) hc (bytesIn_of h1) (bytesIn_of h2)).mono ?_
 rintro e w' ⟨rfl, rfl⟩
 refine ⟨?_, rfl⟩
 have e : ∀ k : List UInt8, Lib.bytesOf (k.map fun x => (x.toNat : Int)) = k := fun k => by
  unfold Lib.bytesOf
  rw [List.map_map]
  calc k.map ((fun n : Int => UInt8.ofNat n.toNat) ∘ fun x : UInt8 => (x.toNat : Int)) = k.map id := List.map_congr_left (fun x _ => by simp)
   _ = k := List.map_id k
 rw [e, e, ← hq]
 rfl
set_option maxRecDepth 100000 in
set_option maxHeartbeats 4000000 in
theorem skip_any (g : Nat) (A : Option Addr) (c : Nat) (l t r : List UInt8) (x0 x1 x2 x3 x4 x5 : Value) (q : Bool) (w : World) (hq : skipB t r = q) (hlc : l.length ≤ c) (hl : l.length ≤ 4294967296) (ht : t.length ≤ 4294967296) (h : Rdr w g A c l x0 x1 x2 x3 x4 x5 r) :
 Calls Tryz.prog 48 #[.pointer (some ⟨g, 0, none⟩), .string ⟨t.toArray⟩] w fun e w' => e = .returned (.bool q) ∧ Rdr w' g A c l x0 x1 x2 x3 x4 x5 (if q = true then r.drop t.length else r) ∧ w.grownBy w' (some g) := by
 obtain ⟨at_, hat, hr, hrd, hblk⟩ := h
 have hlt := hblk.lt
 obtain ⟨A', hcut, hrd2⟩ := cut_run (P := Tryz.prog) (T := 25) (e := 5) (by kernel_rfl) Tryz.underlying25 Tryz.sizeOf5 A l.length c at_ hat hlc
 have hrd3 := hrd2 g w l rfl hrd
 obtain ⟨C, X, hX⟩ := conv_all Tryz.prog 9 25 5 t Tryz.underlying9 Tryz.underlying25 Tryz.underlying5 (by simp only [maxLen]; omega)
 have hV := fun W => (hX W).1
 have HX := Lib.hid (fun W => (hX W).2.2)
 have c0 : w.cell? ⟨g, 0, none⟩ = some (.slice A l.length c) := hblk.cell 0
 have c1 : w.cell? ⟨g, 1, none⟩ = some (.int .i64 (at_ : Int)) := hblk.cell 1
 have fz := hblk.frozen 1
 have HQ := Lib.hid hq
 have HR := Lib.hid hr
 clear hq hr hX
 have n0 : (0 : Int) ≤ (at_ : Int) := by omega
 have n1 : (at_ : Int) ≤ (l.length : Int) := by omega
 go_enter Tryz.func48, Tryz.ntmps48
 go_wp2_with fail
 have HB : Hid (∀ W, Below w.heap.size w W → Below w.heap.size w (X W)) := Lib.hid fun W hb => hb.trans ((HX.out W).2.mono hb.size)
 have HS : Hid (∀ W, Below w.heap.size w W → W.cell? ⟨g, 0, none⟩ = some (.slice A l.length c) ∧ W.cell? ⟨g, 1, none⟩ = some (.int .i64 (at_ : Int)) ∧ Below w.heap.size w W) := Lib.hid fun W hb => ⟨(hb.cell (p := ⟨g, 0, none⟩) hlt).trans c0, (hb.cell (p := ⟨g, 1, none⟩) hlt).trans c1, hb⟩
 have HR3 : Hid (∀ W, Below w.heap.size w W → Rd W A' (bs (l.drop at_))) := Lib.hid fun W hb => ((hrd3.rd (Nat.le_of_lt hlt))).below hb
 have HL := Lib.hid (show (l.drop at_).length = l.length - at_ from List.length_drop)
 have HQ2 := Lib.hid (show skipB t (l.drop at_) = q by rw [HR.out]; exact HQ.out)
 have hlc2 : l.length - at_ ≤ c - at_ := by omega
 have hat2 := hat
 clear hrd2 hrd3
 go_region_held (fun w' => w'.cell? ⟨g, 0, none⟩ = some (.slice A l.length c) ∧ w'.cell? ⟨g, 1, none⟩ = some (.int .i64 (at_ : Int)) ∧ Below w.heap.size w w') (first | exact HS.out _ (Below.refl _ _).drew | exact HS.out _ (HB.out _ (Below.refl _ _).drew)) (first | (go_at_call 60; refine (hasp_any A' _ _ _ _ _ (l.drop at_) t q _ HL.out rfl hlc2 HQ2.out (HR3.out _ (HB.out _ (Below.refl _ _).drew)) (HX.out _).1).mono ?_; rintro e w2 ⟨rfl, rfl⟩))
 have hbX := HB.out _ (Below.refl w.heap.size w).drew
 clear hcut hV HX HS HB HR3 HL hlc2 HQ2
 generalize X w.drew = W1 at *
 clear X
 have hblk1 := hblk.below hbX hlt
 have hrd1 := hrd.below (hbX.mono (Nat.le_of_lt hlt))
 have d1 : W1.cell? ⟨g, 1, none⟩ = some (.int .i64 (at_ : Int)) := hblk1.cell 1
 have fz1 := hblk1.frozen 1
 have hg1 := grown_below (some g) hbX
 clear c0 c1 fz
 cases q with
 | false =>
   go_wp2_with fail
   go_ret
   exact ⟨rfl, ⟨at_, hat, HR.out, hrd1, hblk1⟩, hg1⟩
 | true =>
   have hp := skipB_some HQ.out
   have hlen := congrArg List.length hp
   rw [List.length_append, ← HR.out, List.length_drop] at hlen
   have hle : at_ + t.length ≤ l.length := by omega
   have HP := Lib.hid (show l.drop (at_ + t.length) = r.drop t.length by rw [← HR.out, List.drop_drop])
   clear hp hlen
   go_wp2_with fail
   go_ret
   refine ⟨rfl, ⟨at_ + t.length, hle, HP.out, ?_, ?_⟩, ?_⟩
   ·exact RdIn.grown hrd1 (grown_setCell g 1 _ W1) hblk1.lt
   ·have := hblk1.set 1 (.int .i64 ((at_ + t.length : Nat) : Int))
    rw [Int.natCast_add] at this
    exact this
   ·exact grown_trans hg1 (grown_setCell g 1 _ W1)
def atOf (w : World) (g : Nat) : Nat := match w.cell? ⟨g, 1, none⟩ with | some (.int _ i) => i.toNat | _ => 0
theorem atOf_blk {w : World} {g : Nat} {t : TypeId} {A : Option Addr} {n c k : Nat} {x0 x1 x2 x3 x4 x5 : Value} (h : Blk w g t (tkC A n c k x0 x1 x2 x3 x4 x5)) : atOf w g = k := by
 unfold atOf
 rw [show w.cell? ⟨g, 1, none⟩ = some (.int .i64 (k : Int)) from h.cell 1]
 simp
set_option maxRecDepth 100000 in
set_option maxHeartbeats 8000000 in
theorem run2_any (g : Nat) (A : Option Addr) (c a b m : Nat) (l r u : List UInt8) (x0 x1 x2 x3 x4 x5 : Value) (w : World) (hu : runF a b m r = u) (hlc : l.length ≤ c) (hl : l.length ≤ 4294967296) (hm : m ≤ 4294967296) (h : Rdr w g A c l x0 x1 x2 x3 x4 x5 r) :
 Calls Tryz.prog 63 #[.pointer (some ⟨g, 0, none⟩), .int .u8 a, .int .u8 b, .int .i64 m] w fun e w' => e = .returned (.string ⟨u.toArray⟩) ∧ Rdr w' g A c l x0 x1 x2 x3 x4 x5 (r.drop u.length) ∧ w.grownBy w' (some g) := by
 obtain ⟨at_, hat, hr, hrd, hblk⟩ := h
 have hlt := hblk.lt
 have c0 : w.cell? ⟨g, 0, none⟩ = some (.slice A l.length c) := hblk.cell 0
 have c1 : w.cell? ⟨g, 1, none⟩ = some (.int .i64 (at_ : Int)) := hblk.cell 1
 have HU := Lib.hid hu
 have HR := Lib.hid hr
 clear hu hr
 go_enter Tryz.func63, Tryz.ntmps63
 go_wp2_with fail
 go_loopw [] (fun wr => ∃ k : Nat, k ≤ m ∧ at_ + k ≤ l.length ∧ (r.take k).all (btw a b) = true ∧ RdIn g wr A (bs l) ∧ Blk wr g 64 (tkC A l.length c (at_ + k) x0 x1 x2 x3 x4 x5) ∧ w.grownBy wr (some g)) (fun wr => l.length - atOf wr g)
 case atStart => exact ⟨0, Nat.zero_le _, hat, rfl, hrd, hblk, World.grownBy.refl _ _⟩
 case round =>
  obtain ⟨k, hkm, hkl, hall, hrd1, hblk1, hg1⟩ := hrel
  have hlt1 := hblk1.lt
  obtain ⟨p, hp⟩ : ∃ p, at_ + k = p := ⟨_, rfl⟩
  have HP := Lib.hid hp
  rw [hp] at hkl hblk1
  clear hp
  have d0 : wr.cell? ⟨g, 0, none⟩ = some (.slice A l.length c) := hblk1.cell 0
  have d1 : wr.cell? ⟨g, 1, none⟩ = some (.int .i64 (p : Int)) := hblk1.cell 1
  have fz1 := hblk1.frozen 1
  have HA := Lib.hid hall
  clear hall c0 c1
  have hrl := Lib.hid (show r.length = l.length - at_ by rw [← HR.out, List.length_drop])
  have hke : k ≤ r.length := by rw [hrl.out]; have := HP.out; omega
  by_cases h1 : p < l.length
  ·have k1 : (p : Int) < (l.length : Int) := by omega
   have ew : IntKind.i64.wrap ((p : Int) - (at_ : Int)) = (k : Int) := by rw [IntWalk.i64_in _ (by have := HP.out; omega)]; have := HP.out; omega
   have ew0 : (p : Int) - (at_ : Int) = (k : Int) := by have := HP.out; omega
   obtain ⟨b2, o2, hA, hb2, hcc⟩ := hrd1 (by rw [bs_length]; omega)
   cases hA
   have hcp := hcc p _ (bs_get l p h1)
   have hB8 : B8 (l[p]'h1) = .int .u8 ((l[p]'h1).toNat : Int) := rfl
   rw [hB8] at hcp
   obtain ⟨x, hx⟩ : ∃ x, l[p]'h1 = x := ⟨_, rfl⟩
   rw [hx] at hcp
   have hxl := x.toNat_lt
   have hkr : k < r.length := by rw [hrl.out]; have := HP.out; omega
   have HX := Lib.hid (show r[k]'hkr = x by
    rw [← hx]
    have : ∀ (t : List UInt8) (h : k < t.length) (h2 : t = l.drop at_), t[k]'h = l[p]'h1 := fun t h h2 => by subst h2; rw [List.getElem_drop]; simp only [HP.out]
    exact this r hkr HR.out.symm)
   clear hx hcc hB8
   by_cases h2 : k < m
   ·have k2 : (k : Int) < (m : Int) := by omega
    by_cases h3 : a ≤ x.toNat
    ·by_cases h4 : x.toNat ≤ b
     ·have HN := Lib.hid (show (r.take (k + 1)).all (btw a b) = true by
       rw [List.take_succ_eq_append_getElem hkr, List.all_append, HA.out, HX.out]; simp [(btw_iff a b x).2 ⟨h3, h4⟩])
      go_wp2_with fail
      go_quiet (fail)
      go_wp2_with fail
      have hgs := grown_setCell g 1 (Value.int IntKind.i64 ((p : Int) + 1)) (wr.drewN nq)
      have hgd : wr.grownBy (wr.drewN nq) (some g) := ⟨rfl, rfl, rfl, Nat.le_refl _, fun _ _ _ => rfl⟩
      have hb3 : Blk ((wr.drewN nq).setCell ⟨g, 1, none⟩ (Value.int IntKind.i64 ((p : Int) + 1))) g 64 (tkC (some ⟨b2, o2, none⟩) l.length c (p + 1) x0 x1 x2 x3 x4 x5) := by
       have := (hblk1.drewN nq).set 1 (.int .i64 ((p : Int) + 1))
       exact this
      refine ⟨⟨k + 1, h2, by have := HP.out; omega, HN.out, RdIn.grown hrd1 (grown_trans hgd hgs) hlt1, ?_, grown_trans hg1 (grown_trans hgd hgs)⟩, ?_⟩
      ·rw [show at_ + (k + 1) = p + 1 by have := HP.out; omega]; exact hb3
      ·rw [atOf_blk hb3, atOf_blk hblk1]; omega
     ·have h4 : b < x.toNat := by omega
      have HE := Lib.hid (show u = r.take k from HU.out.symm.trans (runF_end (by omega) hkm HA.out (.inr (.inr ⟨hkr, by rw [HX.out, btw_no]; omega⟩))))
      go_wp2_with fail
      go_quiet (fail)
      obtain ⟨A', hcut, hrd2⟩ := cut2_run (P := Tryz.prog) (T := 25) (e := 5) (by kernel_rfl) Tryz.underlying25 Tryz.sizeOf5 (some ⟨b2, o2, none⟩) l.length c at_ p (by omega) hkl hlc
      have hpk : p - at_ = k := by have := HP.out; omega
      rw [hpk] at hcut hrd2
      have hcv : ∀ a n, (convert 25 9 (.slice A' k (c - at_))).run Tryz.prog ((wr.drewN a).drewN n) = .ok (.string ⟨u.toArray⟩) ((wr.drewN a).drewN n) := fun a n => by
       have h2 := (hrd2 g wr l rfl hrd1).rd (Nat.le_of_lt hlt1)
       have e2 : (l.drop at_).take k = u := by rw [HR.out]; exact HE.out.symm
       rw [e2] at h2
       exact conv_str (w := (wr.drewN a).drewN n) Tryz.underlying25 Tryz.underlying5 (by rw [HE.out, List.length_take]; omega) h2 9 Tryz.underlying9
      clear hrd2 hpk
      go_wp2_with fail
      have hblk2 := hblk1.drewN nq
      have hrdW : RdIn g (wr.drewN nq) (some ⟨b2, o2, none⟩) (bs l) := hrd1
      have hgW : w.grownBy (wr.drewN nq) (some g) := ⟨hg1.os, hg1.tape, hg1.output, hg1.size, hg1.block⟩
      have hcv2 : ∀ n, (convert 25 9 (.slice A' k (c - at_))).run Tryz.prog ((wr.drewN nq).drewN n) = .ok (.string ⟨u.toArray⟩) ((wr.drewN nq).drewN n) := fun n => hcv nq n
      have hcv0 : (convert 25 9 (.slice A' k (c - at_))).run Tryz.prog (wr.drewN nq) = .ok (.string ⟨u.toArray⟩) (wr.drewN nq) := hcv nq 0
      clear hcv d0 d1 fz1 hg1 hrd1 hblk1
      generalize wr.drewN nq = W at *
      have e0 : W.cell? ⟨g, 0, none⟩ = some (.slice (some ⟨b2, o2, none⟩) l.length c) := hblk2.cell 0
      have e1 : W.cell? ⟨g, 1, none⟩ = some (.int .i64 (p : Int)) := hblk2.cell 1
      go_quiet (fail)
      go_wp2_with fail
      go_ret
      refine ⟨rfl, ⟨p, hkl, ?_, hrdW, hblk2.drewN _⟩, ⟨hgW.os, hgW.tape, hgW.output, hgW.size, hgW.block⟩⟩
      rw [HE.out, List.length_take, Nat.min_eq_left hke, ← HR.out, List.drop_drop, HP.out]
    ·have h3 : x.toNat < a := by omega
     have HE := Lib.hid (show u = r.take k from HU.out.symm.trans (runF_end (by omega) hkm HA.out (.inr (.inr ⟨hkr, by rw [HX.out, btw_no]; omega⟩))))
     go_wp2_with fail
     go_quiet (fail)
     obtain ⟨A', hcut, hrd2⟩ := cut2_run (P := Tryz.prog) (T := 25) (e := 5) (by kernel_rfl) Tryz.underlying25 Tryz.sizeOf5 (some ⟨b2, o2, none⟩) l.length c at_ p (by omega) hkl hlc
     have hpk : p - at_ = k := by have := HP.out; omega
     rw [hpk] at hcut hrd2
     have hcv : ∀ a n, (convert 25 9 (.slice A' k (c - at_))).run Tryz.prog ((wr.drewN a).drewN n) = .ok (.string ⟨u.toArray⟩) ((wr.drewN a).drewN n) := fun a n => by
      have h2 := (hrd2 g wr l rfl hrd1).rd (Nat.le_of_lt hlt1)
      have e2 : (l.drop at_).take k = u := by rw [HR.out]; exact HE.out.symm
      rw [e2] at h2
      exact conv_str (w := (wr.drewN a).drewN n) Tryz.underlying25 Tryz.underlying5 (by rw [HE.out, List.length_take]; omega) h2 9 Tryz.underlying9
     clear hrd2 hpk
     go_wp2_with fail
     have hblk2 := hblk1.drewN nq
     have hrdW : RdIn g (wr.drewN nq) (some ⟨b2, o2, none⟩) (bs l) := hrd1
     have hgW : w.grownBy (wr.drewN nq) (some g) := ⟨hg1.os, hg1.tape, hg1.output, hg1.size, hg1.block⟩
     have hcv2 : ∀ n, (convert 25 9 (.slice A' k (c - at_))).run Tryz.prog ((wr.drewN nq).drewN n) = .ok (.string ⟨u.toArray⟩) ((wr.drewN nq).drewN n) := fun n => hcv nq n
     have hcv0 : (convert 25 9 (.slice A' k (c - at_))).run Tryz.prog (wr.drewN nq) = .ok (.string ⟨u.toArray⟩) (wr.drewN nq) := hcv nq 0
     clear hcv d0 d1 fz1 hg1 hrd1 hblk1
     generalize wr.drewN nq = W at *
     have e0 : W.cell? ⟨g, 0, none⟩ = some (.slice (some ⟨b2, o2, none⟩) l.length c) := hblk2.cell 0
     have e1 : W.cell? ⟨g, 1, none⟩ = some (.int .i64 (p : Int)) := hblk2.cell 1
     go_quiet (fail)
     go_wp2_with fail
     go_ret
     refine ⟨rfl, ⟨p, hkl, ?_, hrdW, hblk2.drewN _⟩, ⟨hgW.os, hgW.tape, hgW.output, hgW.size, hgW.block⟩⟩
     rw [HE.out, List.length_take, Nat.min_eq_left hke, ← HR.out, List.drop_drop, HP.out]
   ·have k2 : (m : Int) ≤ (k : Int) := by omega
    have HE := Lib.hid (show u = r.take k from HU.out.symm.trans (runF_end (by omega) hkm HA.out (.inl (by omega))))
    go_wp2_with fail
    go_quiet (fail)
    obtain ⟨A', hcut, hrd2⟩ := cut2_run (P := Tryz.prog) (T := 25) (e := 5) (by kernel_rfl) Tryz.underlying25 Tryz.sizeOf5 (some ⟨b2, o2, none⟩) l.length c at_ p (by omega) hkl hlc
    have hpk : p - at_ = k := by have := HP.out; omega
    rw [hpk] at hcut hrd2
    have hcv : ∀ a n, (convert 25 9 (.slice A' k (c - at_))).run Tryz.prog ((wr.drewN a).drewN n) = .ok (.string ⟨u.toArray⟩) ((wr.drewN a).drewN n) := fun a n => by
     have h2 := (hrd2 g wr l rfl hrd1).rd (Nat.le_of_lt hlt1)
     have e2 : (l.drop at_).take k = u := by rw [HR.out]; exact HE.out.symm
     rw [e2] at h2
     exact conv_str (w := (wr.drewN a).drewN n) Tryz.underlying25 Tryz.underlying5 (by rw [HE.out, List.length_take]; omega) h2 9 Tryz.underlying9
    clear hrd2 hpk
    go_wp2_with fail
    have hblk2 := hblk1.drewN nq
    have hrdW : RdIn g (wr.drewN nq) (some ⟨b2, o2, none⟩) (bs l) := hrd1
    have hgW : w.grownBy (wr.drewN nq) (some g) := ⟨hg1.os, hg1.tape, hg1.output, hg1.size, hg1.block⟩
    have hcv2 : ∀ n, (convert 25 9 (.slice A' k (c - at_))).run Tryz.prog ((wr.drewN nq).drewN n) = .ok (.string ⟨u.toArray⟩) ((wr.drewN nq).drewN n) := fun n => hcv nq n
    have hcv0 : (convert 25 9 (.slice A' k (c - at_))).run Tryz.prog (wr.drewN nq) = .ok (.string ⟨u.toArray⟩) (wr.drewN nq) := hcv nq 0
    clear hcv d0 d1 fz1 hg1 hrd1 hblk1
    generalize wr.drewN nq = W at *
    have e0 : W.cell? ⟨g, 0, none⟩ = some (.slice (some ⟨b2, o2, none⟩) l.length c) := hblk2.cell 0
    have e1 : W.cell? ⟨g, 1, none⟩ = some (.int .i64 (p : Int)) := hblk2.cell 1
    go_quiet (fail)
    go_wp2_with fail
    go_ret
    refine ⟨rfl, ⟨p, hkl, ?_, hrdW, hblk2.drewN _⟩, ⟨hgW.os, hgW.tape, hgW.output, hgW.size, hgW.block⟩⟩
    rw [HE.out, List.length_take, Nat.min_eq_left hke, ← HR.out, List.drop_drop, HP.out]
  ·have k1 : (l.length : Int) ≤ (p : Int) := by omega
   have hrl2 := hrl.out
   have hpp := HP.out
   have HE := Lib.hid (show u = r.take k from HU.out.symm.trans (runF_end (by omega) hkm HA.out (.inr (.inl (by omega)))))
   clear hrl2 hpp
   go_wp2_with fail
   go_quiet (fail)
   obtain ⟨A', hcut, hrd2⟩ := cut2_run (P := Tryz.prog) (T := 25) (e := 5) (by kernel_rfl) Tryz.underlying25 Tryz.sizeOf5 A l.length c at_ p (by omega) hkl hlc
   have hpk : p - at_ = k := by have := HP.out; omega
   rw [hpk] at hcut hrd2
   have hcv : ∀ a n, (convert 25 9 (.slice A' k (c - at_))).run Tryz.prog ((wr.drewN a).drewN n) = .ok (.string ⟨u.toArray⟩) ((wr.drewN a).drewN n) := fun a n => by
    have h2 := (hrd2 g wr l rfl hrd1).rd (Nat.le_of_lt hlt1)
    have e2 : (l.drop at_).take k = u := by rw [HR.out]; exact HE.out.symm
    rw [e2] at h2
    exact conv_str (w := (wr.drewN a).drewN n) Tryz.underlying25 Tryz.underlying5 (by rw [HE.out, List.length_take]; omega) h2 9 Tryz.underlying9
   clear hrd2 hpk
   go_wp2_with fail
   have hblk2 := hblk1.drewN nq
   have hrdW : RdIn g (wr.drewN nq) A (bs l) := hrd1
   have hgW : w.grownBy (wr.drewN nq) (some g) := ⟨hg1.os, hg1.tape, hg1.output, hg1.size, hg1.block⟩
   have hcv2 : ∀ n, (convert 25 9 (.slice A' k (c - at_))).run Tryz.prog ((wr.drewN nq).drewN n) = .ok (.string ⟨u.toArray⟩) ((wr.drewN nq).drewN n) := fun n => hcv nq n
   have hcv0 : (convert 25 9 (.slice A' k (c - at_))).run Tryz.prog (wr.drewN nq) = .ok (.string ⟨u.toArray⟩) (wr.drewN nq) := hcv nq 0
   clear hcv d0 d1 fz1 hg1 hrd1 hblk1
   generalize wr.drewN nq = W at *
   have e0 : W.cell? ⟨g, 0, none⟩ = some (.slice A l.length c) := hblk2.cell 0
   have e1 : W.cell? ⟨g, 1, none⟩ = some (.int .i64 (p : Int)) := hblk2.cell 1
   go_quiet (fail)
   go_wp2_with fail
   go_ret
   refine ⟨rfl, ⟨p, hkl, ?_, hrdW, hblk2.drewN _⟩, ⟨hgW.os, hgW.tape, hgW.output, hgW.size, hgW.block⟩⟩
   rw [HE.out, List.length_take, Nat.min_eq_left hke, ← HR.out, List.drop_drop, HP.out]
end Go.Proofs.YtjlhhelikiegdaaGreatDoor
