/-
  Layer 3, walked: the program's reader: run.
-/
import Derived.Test.YtjlhhelikiegdaaDoorG16
namespace Go.Proofs.YtjlhhelikiegdaaDoor
open Go.RowKit
def atOf (w : World) (g : Nat) : Nat := match w.cell? ⟨g, 1, none⟩ with | some (.int _ i) => i.toNat | _ => 0
theorem atOf_blk {w : World} {g : Nat} {t : TypeId} {A : Option Addr} {n c k : Nat} {x0 x1 x2 x3 x4 x5 : Value} (h : Blk w g t (tkC A n c k x0 x1 x2 x3 x4 x5)) : atOf w g = k := by
 unfold atOf
 rw [show w.cell? ⟨g, 1, none⟩ = some (.int .i64 (k : Int)) from h.cell 1]
 simp
set_option maxRecDepth 100000 in
set_option maxHeartbeats 8000000 in
theorem run2_any (g : Nat) (A : Option Addr) (c a b m : Nat) (l r u : List UInt8) (x0 x1 x2 x3 x4 x5 : Value) (w : World) (hu : runF a b m r = u) (hlc : l.length ≤ c) (hl : l.length ≤ 4294967296) (hm : m ≤ 4294967296) (h : Rdr w g A c l x0 x1 x2 x3 x4 x5 r) :
 Calls Tryd.prog 49 #[.pointer (some ⟨g, 0, none⟩), .int .u8 a, .int .u8 b, .int .i64 m] w fun e w' => e = .returned (.string ⟨u.toArray⟩) ∧ Rdr w' g A c l x0 x1 x2 x3 x4 x5 (r.drop u.length) ∧ w.grownBy w' (some g) := by
 obtain ⟨at_, hat, hr, hrd, hblk⟩ := h
 have hlt := hblk.lt
 have c0 : w.cell? ⟨g, 0, none⟩ = some (.slice A l.length c) := hblk.cell 0
 have c1 : w.cell? ⟨g, 1, none⟩ = some (.int .i64 (at_ : Int)) := hblk.cell 1
 have HU := Lib.hid hu
 have HR := Lib.hid hr
 clear hu hr
 go_enter Tryd.func49, Tryd.ntmps49
 go_wp2_with fail
 go_loopw [] (fun wr => ∃ k : Nat, k ≤ m ∧ at_ + k ≤ l.length ∧ (r.take k).all (btw a b) = true ∧ RdIn g wr A (bs l) ∧ Blk wr g 59 (tkC A l.length c (at_ + k) x0 x1 x2 x3 x4 x5) ∧ w.grownBy wr (some g)) (fun wr => l.length - atOf wr g)
 case atStart => exact ⟨0, Nat.zero_le _, hat, rfl, hrd, hblk, World.grownBy.refl _ _⟩
 case round =>
  obtain ⟨k, hkm, hkl, hall, hrd1, hblk1, hg1⟩ := hrel
  have hlt1 := hblk1.lt
  obtain ⟨p, hp⟩ : ∃ p, at_ + k = p := ⟨_, rfl⟩
  have HP := Lib.hid hp
  rw [hp] at hkl hblk1
  clear hp
  have d0 : wr.cell? ⟨g, 0, none⟩ = some (.slice A l.length c) := hblk1.cell 0
  have d1 : wr.cell? ⟨g, 1, none⟩ = some (.int .i64 (p : Int)) := hblk1.cell 1
  have fz1 := hblk1.frozen 1
  have HA := Lib.hid hall
  clear hall c0 c1
  have hrl := Lib.hid (show r.length = l.length - at_ by rw [← HR.out, List.length_drop])
  have hke : k ≤ r.length := by rw [hrl.out]; have := HP.out; omega
  by_cases h1 : p < l.length
  ·have k1 : (p : Int) < (l.length : Int) := by omega
   have ew : IntKind.i64.wrap ((p : Int) - (at_ : Int)) = (k : Int) := by rw [IntWalk.i64_in _ (by have := HP.out; omega)]; have := HP.out; omega
   have ew0 : (p : Int) - (at_ : Int) = (k : Int) := by have := HP.out; omega
   obtain ⟨b2, o2, hA, hb2, hcc⟩ := hrd1 (by rw [bs_length]; omega)
   cases hA
   have hcp := hcc p _ (bs_get l p h1)
   have hB8 : B8 (l[p]'h1) = .int .u8 ((l[p]'h1).toNat : Int) := rfl
   rw [hB8] at hcp
   obtain ⟨x, hx⟩ : ∃ x, l[p]'h1 = x := ⟨_, rfl⟩
   rw [hx] at hcp
   have hxl := x.toNat_lt
   have hkr : k < r.length := by rw [hrl.out]; have := HP.out; omega
   have HX := Lib.hid (show r[k]'hkr = x by
    rw [← hx]
    have : ∀ (t : List UInt8) (h : k < t.length) (h2 : t = l.drop at_), t[k]'h = l[p]'h1 := fun t h h2 => by subst h2; rw [List.getElem_drop]; simp only [HP.out]
    exact this r hkr HR.out.symm)
   clear hx hcc hB8
   by_cases h2 : k < m
   ·have k2 : (k : Int) < (m : Int) := by omega
    by_cases h3 : a ≤ x.toNat
    ·by_cases h4 : x.toNat ≤ b
     ·have HN := Lib.hid (show (r.take (k + 1)).all (btw a b) = true by
       rw [List.take_succ_eq_append_getElem hkr, List.all_append, HA.out, HX.out]; simp [(btw_iff a b x).2 ⟨h3, h4⟩])
      go_wp2_with fail
      go_quiet (fail)
      go_wp2_with fail
      have hgs := grown_setCell g 1 (Value.int IntKind.i64 ((p : Int) + 1)) (wr.drewN nq)
      have hgd : wr.grownBy (wr.drewN nq) (some g) := ⟨rfl, rfl, rfl, Nat.le_refl _, fun _ _ _ => rfl⟩
      have hb3 : Blk ((wr.drewN nq).setCell ⟨g, 1, none⟩ (Value.int IntKind.i64 ((p : Int) + 1))) g 59 (tkC (some ⟨b2, o2, none⟩) l.length c (p + 1) x0 x1 x2 x3 x4 x5) := by
       have := (hblk1.drewN nq).set 1 (.int .i64 ((p : Int) + 1))
       exact this
      refine ⟨⟨k + 1, h2, by have := HP.out; omega, HN.out, RdIn.grown hrd1 (grown_trans hgd hgs) hlt1, ?_, grown_trans hg1 (grown_trans hgd hgs)⟩, ?_⟩
      ·rw [show at_ + (k + 1) = p + 1 by have := HP.out; omega]; exact hb3
      ·rw [atOf_blk hb3, atOf_blk hblk1]; omega
     ·have h4 : b < x.toNat := by omega
      have HE := Lib.hid (show u = r.take k from HU.out.symm.trans (runF_end (by omega) hkm HA.out (.inr (.inr ⟨hkr, by rw [HX.out, btw_no]; omega⟩))))
      go_wp2_with fail
      go_quiet (fail)
      obtain ⟨A', hcut, hrd2⟩ := cut2_run (P := Tryd.prog) (T := 26) (e := 5) (by kernel_rfl) Tryd.underlying26 Tryd.sizeOf5 (some ⟨b2, o2, none⟩) l.length c at_ p (by omega) hkl hlc
      have hpk : p - at_ = k := by have := HP.out; omega
      rw [hpk] at hcut hrd2
      have hcv : ∀ a n, (convert 26 9 (.slice A' k (c - at_))).run Tryd.prog ((wr.drewN a).drewN n) = .ok (.string ⟨u.toArray⟩) ((wr.drewN a).drewN n) := fun a n => by
       have h2 := (hrd2 g wr l rfl hrd1).rd (Nat.le_of_lt hlt1)
       have e2 : (l.drop at_).take k = u := by rw [HR.out]; exact HE.out.symm
       rw [e2] at h2
       exact conv_str (w := (wr.drewN a).drewN n) Tryd.underlying26 Tryd.underlying5 (by rw [HE.out, List.length_take]; omega) h2 9 Tryd.underlying9
      clear hrd2 hpk
      go_wp2_with fail
      have hblk2 := hblk1.drewN nq
      have hrdW : RdIn g (wr.drewN nq) (some ⟨b2, o2, none⟩) (bs l) := hrd1
      have hgW : w.grownBy (wr.drewN nq) (some g) := ⟨hg1.os, hg1.tape, hg1.output, hg1.size, hg1.block⟩
      have hcv2 : ∀ n, (convert 26 9 (.slice A' k (c - at_))).run Tryd.prog ((wr.drewN nq).drewN n) = .ok (.string ⟨u.toArray⟩) ((wr.drewN nq).drewN n) := fun n => hcv nq n
      have hcv0 : (convert 26 9 (.slice A' k (c - at_))).run Tryd.prog (wr.drewN nq) = .ok (.string ⟨u.toArray⟩) (wr.drewN nq) := hcv nq 0
      clear hcv d0 d1 fz1 hg1 hrd1 hblk1
      generalize wr.drewN nq = W at *
      have e0 : W.cell? ⟨g, 0, none⟩ = some (.slice (some ⟨b2, o2, none⟩) l.length c) := hblk2.cell 0
      have e1 : W.cell? ⟨g, 1, none⟩ = some (.int .i64 (p : Int)) := hblk2.cell 1
      go_quiet (fail)
      go_wp2_with fail
      go_ret
      refine ⟨rfl, ⟨p, hkl, ?_, hrdW, hblk2.drewN _⟩, ⟨hgW.os, hgW.tape, hgW.output, hgW.size, hgW.block⟩⟩
      rw [HE.out, List.length_take, Nat.min_eq_left hke, ← HR.out, List.drop_drop, HP.out]
    ·have h3 : x.toNat < a := by omega
     have HE := Lib.hid (show u = r.take k from HU.out.symm.trans (runF_end (by omega) hkm HA.out (.inr (.inr ⟨hkr, by rw [HX.out, btw_no]; omega⟩))))
     go_wp2_with fail
     go_quiet (fail)
     obtain ⟨A', hcut, hrd2⟩ := cut2_run (P := Tryd.prog) (T := 26) (e := 5) (by kernel_rfl) Tryd.underlying26 Tryd.sizeOf5 (some ⟨b2, o2, none⟩) l.length c at_ p (by omega) hkl hlc
     have hpk : p - at_ = k := by have := HP.out; omega
     rw [hpk] at hcut hrd2
     have hcv : ∀ a n, (convert 26 9 (.slice A' k (c - at_))).run Tryd.prog ((wr.drewN a).drewN n) = .ok (.string ⟨u.toArray⟩) ((wr.drewN a).drewN n) := fun a n => by
      have h2 := (hrd2 g wr l rfl hrd1).rd (Nat.le_of_lt hlt1)
      have e2 : (l.drop at_).take k = u := by rw [HR.out]; exact HE.out.symm
      rw [e2] at h2
      exact conv_str (w := (wr.drewN a).drewN n) Tryd.underlying26 Tryd.underlying5 (by rw [HE.out, List.length_take]; omega) h2 9 Tryd.underlying9
     clear hrd2 hpk
     go_wp2_with fail
     have hblk2 := hblk1.drewN nq
     have hrdW : RdIn g (wr.drewN nq) (some ⟨b2, o2, none⟩) (bs l) := hrd1
     have hgW : w.grownBy (wr.drewN nq) (some g) := ⟨hg1.os, hg1.tape, hg1.output, hg1.size, hg1.block⟩
     have hcv2 : ∀ n, (convert 26 9 (.slice A' k (c - at_))).run Tryd.prog ((wr.drewN nq).drewN n) = .ok (.string ⟨u.toArray⟩) ((wr.drewN nq).drewN n) := fun n => hcv nq n
     have hcv0 : (convert 26 9 (.slice A' k (c - at_))).run Tryd.prog (wr.drewN nq) = .ok (.string ⟨u.toArray⟩) (wr.drewN nq) := hcv nq 0
     clear hcv d0 d1 fz1 hg1 hrd1 hblk1
     generalize wr.drewN nq = W at *
     have e0 : W.cell? ⟨g, 0, none⟩ = some (.slice (some ⟨b2, o2, none⟩) l.length c) := hblk2.cell 0
     have e1 : W.cell? ⟨g, 1, none⟩ = some (.int .i64 (p : Int)) := hblk2.cell 1
     go_quiet (fail)
     go_wp2_with fail
     go_ret
     refine ⟨rfl, ⟨p, hkl, ?_, hrdW, hblk2.drewN _⟩, ⟨hgW.os, hgW.tape, hgW.output, hgW.size, hgW.block⟩⟩
     rw [HE.out, List.length_take, Nat.min_eq_left hke, ← HR.out, List.drop_drop, HP.out]
   ·have k2 : (m : Int) ≤ (k : Int) := by omega
    have HE := Lib.hid (show u = r.take k from HU.out.symm.trans (runF_end (by omega) hkm HA.out (.inl (by omega))))
    go_wp2_with fail
    go_quiet (fail)
    obtain ⟨A', hcut, hrd2⟩ := cut2_run (P := Tryd.prog) (T := 26) (e := 5) (by kernel_rfl) Tryd.underlying26 Tryd.sizeOf5 (some ⟨b2, o2, none⟩) l.length c at_ p (by omega) hkl hlc
    have hpk : p - at_ = k := by have := HP.out; omega
    rw [hpk] at hcut hrd2
    have hcv : ∀ a n, (convert 26 9 (.slice A' k (c - at_))).run Tryd.prog ((wr.drewN a).drewN n) = .ok (.string ⟨u.toArray⟩) ((wr.drewN a).drewN n) := fun a n => by
     have h2 := (hrd2 g wr l rfl hrd1).rd (Nat.le_of_lt hlt1)
     have e2 : (l.drop at_).take k = u := by rw [HR.out]; exact HE.out.symm
     rw [e2] at h2
     exact conv_str (w := (wr.drewN a).drewN n) Tryd.underlying26 Tryd.underlying5 (by rw [HE.out, List.length_take]; omega) h2 9 Tryd.underlying9
    clear hrd2 hpk
    go_wp2_with fail
    have hblk2 := hblk1.drewN nq
    have hrdW : RdIn g (wr.drewN nq) (some ⟨b2, o2, none⟩) (bs l) := hrd1
    have hgW : w.grownBy (wr.drewN nq) (some g) := ⟨hg1.os, hg1.tape, hg1.output, hg1.size, hg1.block⟩
    have hcv2 : ∀ n, (convert 26 9 (.slice A' k (c - at_))).run Tryd.prog ((wr.drewN nq).drewN n) = .ok (.string ⟨u.toArray⟩) ((wr.drewN nq).drewN n) := fun n => hcv nq n
    have hcv0 : (convert 26 9 (.slice A' k (c - at_))).run Tryd.prog (wr.drewN nq) = .ok (.string ⟨u.toArray⟩) (wr.drewN nq) := hcv nq 0
    clear hcv d0 d1 fz1 hg1 hrd1 hblk1
    generalize wr.drewN nq = W at *
    have e0 : W.cell? ⟨g, 0, none⟩ = some (.slice (some ⟨b2, o2, none⟩) l.length c) := hblk2.cell 0
    have e1 : W.cell? ⟨g, 1, none⟩ = some (.int .i64 (p : Int)) := hblk2.cell 1
    go_quiet (fail)
    go_wp2_with fail
    go_ret
    refine ⟨rfl, ⟨p, hkl, ?_, hrdW, hblk2.drewN _⟩, ⟨hgW.os, hgW.tape, hgW.output, hgW.size, hgW.block⟩⟩
    rw [HE.out, List.length_take, Nat.min_eq_left hke, ← HR.out, List.drop_drop, HP.out]
  ·have k1 : (l.length : Int) ≤ (p : Int) := by omega
   have hrl2 := hrl.out
   have hpp := HP.out
   have HE := Lib.hid (show u = r.take k from HU.out.symm.trans (runF_end (by omega) hkm HA.out (.inr (.inl (by omega)))))
   clear hrl2 hpp
   go_wp2_with fail
   go_quiet (fail)
   obtain ⟨A', hcut, hrd2⟩ := cut2_run (P := Tryd.prog) (T := 26) (e := 5) (by kernel_rfl) Tryd.underlying26 Tryd.sizeOf5 A l.length c at_ p (by omega) hkl hlc
   have hpk : p - at_ = k := by have := HP.out; omega
   rw [hpk] at hcut hrd2
   have hcv : ∀ a n, (convert 26 9 (.slice A' k (c - at_))).run Tryd.prog ((wr.drewN a).drewN n) = .ok (.string ⟨u.toArray⟩) ((wr.drewN a).drewN n) := fun a n => by
    have h2 := (hrd2 g wr l rfl hrd1).rd (Nat.le_of_lt hlt1)
    have e2 : (l.drop at_).take k = u := by rw [HR.out]; exact HE.out.symm
    rw [e2] at h2
    exact conv_str (w := (wr.drewN a).drewN n) Tryd.underlying26 Tryd.underlying5 (by rw [HE.out, List.length_take]; omega) h2 9 Tryd.underlying9
   clear hrd2 hpk
   go_wp2_with fail
   have hblk2 := hblk1.drewN nq
   have hrdW : RdIn g (wr.drewN nq) A (bs l) := hrd1
   have hgW : w.grownBy (wr.drewN nq) (some g) := ⟨hg1.os, hg1.tape, hg1.output, hg1.size, hg1.block⟩
   have hcv2 : ∀ n, (convert 26 9 (.slice A' k (c - at_))).run Tryd.prog ((wr.drewN nq).drewN n) = .ok (.string ⟨u.toArray⟩) ((wr.drewN nq).drewN n) := fun n => hcv nq n
   have hcv0 : (convert 26 9 (.slice A' k (c - at_))).run Tryd.prog (wr.drewN nq) = .ok (.string ⟨u.toArray⟩) (wr.drewN nq) := hcv nq 0
   clear hcv d0 d1 fz1 hg1 hrd1 hblk1
   generalize wr.drewN nq = W at *
   have e0 : W.cell? ⟨g, 0, none⟩ = some (.slice A l.length c) := hblk2.cell 0
   have e1 : W.cell? ⟨g, 1, none⟩ = some (.int .i64 (p : Int)) := hblk2.cell 1
   go_quiet (fail)
   go_wp2_with fail
   go_ret
   refine ⟨rfl, ⟨p, hkl, ?_, hrdW, hblk2.drewN _⟩, ⟨hgW.os, hgW.tape, hgW.output, hgW.size, hgW.block⟩⟩
   rw [HE.out, List.length_take, Nat.min_eq_left hke, ← HR.out, List.drop_drop, HP.out]
end Go.Proofs.YtjlhhelikiegdaaDoor
