/-
  Stage 18, the landed style, walked: Apply. A region that draws its order, with one new block that is stored into (and one slice that is handed to a call): what each operation keeps.
-/
import Derived.Test.YthcafgningpdnaaDoorG14
import Derived.Test.YthcafgningpdnaaDoorG18
import Derived.Test.YthcafgningpdnaaDoorG20
namespace Go.Proofs.YthcafgningpdnaaDoor
open Go.RowKit
def zeroY : Sy := ⟨false, false, false, false, false, false, false, 0, 0, 0⟩
theorem apply_snoc {l : List (List Int)} {i : Nat} (s : Sy) (h : i < l.length) : applyY s (l.take (i + 1)) = setY (applyY s (l.take i)) l[i] := by
 rw [List.take_add_one, List.getElem?_eq_getElem h, apply_app]
 rfl
set_option maxRecDepth 100000 in
set_option maxHeartbeats 8000000 in
theorem sApply_any (s : Sy) (A : Option Addr) (l : List (List Int)) (n c : Nat) (hn : l.length = n) (hln : n ≤ 4294967296) (w : World) (hl : LsIn w A l) :
 Calls Tryd.prog 18 #[syV s, .slice A n c] w fun e w' => e = .returned (syV (applyY s l)) ∧ Below w.heap.size w w' := by
 obtain ⟨g, hg⟩ : ∃ g, w.heap.size = g := ⟨_, rfl⟩
 have kB := Blk.new w 23 (syC s)
 have HB := (Below.refl w.heap.size w).alloc (Nat.le_refl _) (.cells (syC s) 23)
 have kB2 := kB.alloc (.cells (syC zeroY) 23)
 have kR := Blk.new (w.alloc (.cells (syC s) 23)) 23 (syC zeroY)
 have HB2 := HB.alloc HB.size (.cells (syC zeroY) 23)
 have hgs : (w.alloc (.cells (syC s) 23)).heap.size = g + 1 := by rw [← hg]; simp
 rw [hgs] at kR
 rw [hg] at kB2
 have HG := Lib.hid hg
 have HN := Lib.hid hn
 clear hn HB kB hgs
 go_enter Tryd.func18, Tryd.ntmps18
 go_upto_region 1 with (fail)
 clear hg
 obtain ⟨w2, hw2⟩ : ∃ w2, (w.alloc (.cells (syC s) 23)).alloc (.cells (syC zeroY) 23) = w2 := ⟨_, rfl⟩
 rw [hw2] at kB2 kR HB2
 refine Eq.mp (congrArg (fun W => Code.wp Tryd.prog _ _ _ W) hw2.symm) ?_
 clear hw2
 go_wp2_with fail
 go_loopw [9] (fun z wr => ∃ i : Nat, i ≤ n ∧ z = .int .i64 i ∧ Blk wr g 23 (syC (applyY s (l.take i))) ∧ Blk wr (g + 1) 23 (syC zeroY) ∧ Below w.heap.size w wr) (fun z _ => n - (intOf z).toNat)
 case atStart => exact ⟨0, Nat.zero_le _, rfl, kB2, kR, HB2⟩
 case round =>
  obtain ⟨i, hi, rfl, k1, k2, hbw⟩ := hrel
  clear kB2 kR HB2
  by_cases hlt : i < n
  ·have t1 : (i : Int) < (n : Int) := by omega
   have t0 : (0 : Int) ≤ (i : Int) := by omega
   have t2 : IntKind.i64.wrap ((i : Int) + 1) = (i : Int) + 1 := by rw [IntKind.wrap_i64]; omega
   have hii : i < l.length := by have := HN.out; omega
   obtain ⟨b, o, rfl, hbb, hc⟩ := hl.rd (by omega)
   obtain ⟨A', c', hc', hcell, hr'⟩ := hc i hii
   have hcell' := (hbw.cell (p := ⟨b, o + i, none⟩) hbb).trans hcell
   have HS := Lib.hid (apply_snoc s hii)
   have HNR : Hid (∀ n ∈ l[i], in18 n) := Lib.hid fun n hn => hl.nr _ (List.getElem_mem hii) n hn
   obtain ⟨p, hp⟩ : ∃ p, l[i] = p := ⟨_, rfl⟩
   rw [hp] at HS HNR hc' hcell' hr'
   have hro : RdOff wr (· = g) A' (is_ p) := RdOff.of_rdIn ((RdIn.of hr').below hbw) hbw.size (fun k hk => by rw [hk]; exact Nat.le_of_eq HG.out)
   obtain ⟨k, hk⟩ : ∃ k, p.length = k := ⟨_, rfl⟩
   rw [hk] at hc' hcell'
   have HK := Lib.hid hk
   clear hc hcell hr' hp hk
   go_wp2_with fail
   refine (sapply_any g _ A' p k c' HK.out hc' HNR.out wr k1 hro).mono ?_
   rintro e w4 ⟨rfl, k4, f4⟩
   have k5 := k2.fr f4 (by omega)
   have hB4 := hbw.trans (f4.below (B := w.heap.size) hbw.size (fun k hk => by rw [hk]; exact Nat.le_of_eq HG.out))
   rw [← HS.out] at k4
   clear k1 k2 hro hcell' hbw f4
   go_wp2_with fail
   go_roundw
   case rel => exact ⟨i + 1, by omega, by go_num, k4, k5, hB4⟩
   case measure => simp [intOf]; omega
  ·have t1 : ¬ ((i : Int) < (n : Int)) := by omega
   have hX : applyY s (l.take i) = applyY s l := by rw [List.take_of_length_le (by have := HN.out; omega)]
   rw [hX] at k1
   clear hX
   obtain ⟨s', hs'⟩ : ∃ s', applyY s l = s' := ⟨_, rfl⟩
   have HX := Lib.hid hs'
   rw [hs'] at k1
   clear hs'
   obtain ⟨a0, a1, a2, a3, a4, a5, a6, a7, a8, a9⟩ := Blk.cells10y k1
   go_wp2_with ((refine k2.wp_set (syC s') rfl rfl rfl rfl _ _ rfl rfl rfl ?_; intro w5 k5 hg5))
   have hB5 := hbw.trans (Fr.below (Fr.of_grown hg5) hbw.size (fun k hk => by injection hk with hk; have := HG.out; omega))
   clear a0 a1 a2 a3 a4 a5 a6 a7 a8 a9
   obtain ⟨a0, a1, a2, a3, a4, a5, a6, a7, a8, a9⟩ := Blk.cells10y k5
   refine bodyPost_ret (v := syV s') (by unfold syV; simp [results, Tryd.results18, go_sem, a0, a1, a2, a3, a4, a5, a6, a7, a8, a9]) rfl ?_
   exact ⟨by rw [HX.out], hB5⟩
section
section
variable {P : Program} {ops : Array Oper} {md : Region.Mode}
theorem getD_up {l : Array Bool} {i j : Nat} (h : l.getD j false = true) : (l.setIfInBounds i true).getD j false = true := by
 by_cases hij : i = j
 ·subst hij
  have hlt : i < l.size := by
   rcases Nat.lt_or_ge i l.size with h1 | h1
   ·exact h1
   ·rw [Array.getD_eq_getD_getElem?, Array.getElem?_eq_none h1] at h
    cases h
  rw [Array.getD_eq_getD_getElem?, Array.getElem?_setIfInBounds_self_of_lt hlt]
  rfl
 ·rw [getD_set_ne false hij]
  exact h
theorem getD_dn {l : Array Bool} {i j : Nat} (h : (l.setIfInBounds i true).getD j false = false) : l.getD j false = false := by
 cases hh : l.getD j false with
 | false => rfl
 | true =>
   rw [getD_up hh] at h
   cases h
structure SM (w1 : World) (ia iz : Nat) (d : Tmp) (ty : TypeId) (z cs : Array Value) (ih ic : Nat) (dh : Tmp) (n : Nat) (xs : List Value) (l : Array Bool) (g : Tmp → Value) (w : World) : Prop where
 below : Below w1.heap.size w1 w
 made : l.getD ia false = true → ∃ b, g d = .pointer (some ⟨b, 0, none⟩) ∧ w1.heap.size ≤ b ∧ Blk w b ty (if l.getD iz false = true then cs else z)
 hand : l.getD ih false = true → l.getD ic false = false → ∃ A c, g dh = .slice A n c ∧ Rd w A xs
 turn : l.getD iz false = true → l.getD ia false = true
variable {w1 : World} {ia iz : Nat} {d : Tmp} {ty : TypeId} {z cs : Array Value} {ih ic : Nat} {dh : Tmp} {n : Nat} {xs : List Value} {l : Array Bool} {g : Tmp → Value} {w w' : World} {aF : (Tmp → Value) → Act} {i : Nat} {o : Oper}
theorem SM.quiet (h : SM w1 ia iz d ty z cs ih ic dh n xs l g w) (hb : Below w.heap.size w w') (hia : i ≠ ia) (hiz : i ≠ iz) (hih : i ≠ ih) : SM w1 ia iz d ty z cs ih ic dh n xs (l.setIfInBounds i true) g w' := by
 refine ⟨h.below.trans (hb.mono h.below.size), fun ha => ?_, fun ha hc => ?_, fun hz => ?_⟩
 ·rw [getD_set_ne false hia] at ha
  obtain ⟨b, h1, h2, h3⟩ := h.made ha
  refine ⟨b, h1, h2, ?_⟩
  rw [getD_set_ne false hiz]
  exact h3.below hb h3.lt
 ·rw [getD_set_ne false hih] at ha
  obtain ⟨A, c, h1, h2⟩ := h.hand ha (getD_dn hc)
  exact ⟨A, c, h1, h2.below hb⟩
 ·rw [getD_set_ne false hiz] at hz
  exact getD_up (h.turn hz)
theorem no_laid (k j : Nat) : (Array.replicate k false).getD j false = false := by
 rw [Array.getD_eq_getD_getElem?, Array.getElem?_replicate]
 split <;> rfl
theorem SM.zero (w1 : World) (hb : Below w1.heap.size w1 w) (k : Nat) : SM w1 ia iz d ty z cs ih ic dh n xs (Array.replicate k false) g w :=
 ⟨hb, (fun h => by rw [no_laid] at h; cases h), (fun h => by rw [no_laid] at h; cases h), (fun h => by rw [no_laid] at h; cases h)⟩
def GoesL (P : Program) (md : Region.Mode) (ops : Array Oper) (aF : (Tmp → Value) → Act) (S : Array Bool → (Tmp → Value) → World → Prop) : Nat → List Oper → Prop
 | _, [] => True
 | i, o :: os => GoesM P md ops aF S i o ∧ GoesL P md ops aF S (i + 1) os
theorem goes_cons {S : Array Bool → (Tmp → Value) → World → Prop} {os : List Oper} (h : GoesM P md ops aF S i o) (hs : GoesL P md ops aF S (i + 1) os) : GoesL P md ops aF S i (o :: os) := ⟨h, hs⟩
theorem goes_nil {S : Array Bool → (Tmp → Value) → World → Prop} : GoesL P md ops aF S i [] := trivial
theorem goesL_get {S : Array Bool → (Tmp → Value) → World → Prop} : ∀ (os : List Oper) (k : Nat), GoesL P md ops aF S k os → ∀ (j : Nat) (o : Oper), os[j]? = some o → GoesM P md ops aF S (k + j) o
 | [], _, _, _, _, h => by simp at h
 | x :: os, k, h, 0, o, ho => by
   simp at ho
   subst ho
   exact h.1
 | x :: os, k, h, j + 1, o, ho => by
   have := goesL_get os (k + 1) h.2 j o (by simpa using ho)
   rwa [show k + 1 + j = k + (j + 1) by omega] at this
theorem goesAllM_of_list {S : Array Bool → (Tmp → Value) → World → Prop} (h : GoesL P md ops aF S 0 ops.toList) : GoesAllM P md ops aF S := fun i o ho => by
 have := goesL_get ops.toList 0 h i o (by rw [← ho, Array.getElem?_toList])
 rwa [Nat.zero_add] at this
end
end
end Go.Proofs.YthcafgningpdnaaDoor
