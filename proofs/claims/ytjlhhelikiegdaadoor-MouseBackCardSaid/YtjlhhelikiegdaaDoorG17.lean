/-
  Layer 10's mathematics: events of keys, and their modifiers. Layer 6's mathematics: modes, set, reset and told, as the document has them. Layer 11's mathematics: a key's event in its old form. Cut out of RegH: what names no function of any dump. In a drawn region whose calls answer what the run alone tells: a value that is known by these answers; bytes that such an answer is, made a string. Words for what Put and Take tell, the document's and the program's. Layer 3, walked: the program's parameters as a text.
-/
import Derived.Test.YtjlhhelikiegdaaDoorG01
import Derived.Test.YtjlhhelikiegdaaDoorG02
import Derived.Test.YtjlhhelikiegdaaDoorG07
import Derived.Test.YtjlhhelikiegdaaDoorG08
import Derived.Test.YtjlhhelikiegdaaDoorG14
import Derived.Test.YtjlhhelikiegdaaDoorG15
import Derived.Test.YtjlhhelikiegdaaDoorG16
import Derived.Deep.Cut
namespace Go.Proofs.YtjlhhelikiegdaaDoor
end Go.Proofs.YtjlhhelikiegdaaDoor
namespace Go.Proofs.YtjlhhelikiegdaaDoor
open Go.RowKit
section
section
variable {P : Program} {ops : Array Oper} {md : Region.Mode} {w1 : World} {K : List Fact} {ix iz : Nat} {R0 R1 : (Tmp → Value) → World → World → Prop} {aF : (Tmp → Value) → Act} {i : Nat} {o : Oper}
theorem goesK_know (v : Value) (hst : ∀ f ∈ K, f.ok) (hah : Ahead md ops ix i) (hio : ops[i]? = some o) (hx : i ≠ ix) (hz : i ≠ iz) (hni : (K.all fun f => f.i != i) = true) (hw : ∀ g, Region.wanted o (yielded ops (aF g).tmps) = true) {d0 : Tmp} (h0 : o.dst = some d0) (hd : ∀ g, (aF g).tmps[d0]? = some v)
 (h : ∀ g w, Below w1.heap.size w1 w → (∀ (q : Nat) (f : Fact), K[q]? = some f → edgeB md ops i f.i = true → f.F (g f.d) w) → (execOp (aF g).eval o).run P w = .ok (.value v) w) :
 GoesM P md ops aF (SK md ops w1 K ix iz R0 R1) i o := fun l g w hsz hf hrd hS => by
 rw [if_pos (hw g)]
 have hfx := hah l hsz hS.shut hf
 obtain ⟨h1, h2⟩ := hS.pre hfx
 refine .inl ⟨v, w, .inl (h g w h1 fun q f' hf' he => h2 f' (List.mem_of_getElem? hf') ?_), g, .inl rfl, (fun d' h' => by rw [h0] at h'; cases h'; exact hd g), hS.quiet hst (hS.shut.step hio hrd) (Below.refl _ _) hx hz hni hfx⟩
 unfold edgeB at he
 rw [hio] at he
 obtain ⟨e, he, hb⟩ := Array.any_eq_true'.1 he
 simp only [Bool.and_eq_true, beq_iff_eq] at hb
 rw [← hb.2]
 exact hrd e he hb.1
end
end
section
section
variable {P : Program} {ops : Array Oper} {md : Region.Mode} {w1 : World} {K : List Fact} {ix iz : Nat} {R0 R1 : (Tmp → Value) → World → World → Prop} {aF : (Tmp → Value) → Act} {i : Nat} {o : Oper}
def FB (L : List UInt8) (v : Value) (w : World) : Prop := ∃ A c, v = .slice A L.length c ∧ Rd w A (bs L)
theorem fb_ok (i : Nat) (d : Tmp) (L : List UInt8) : (⟨i, d, FB L⟩ : Fact).ok := fun _ _ _ ⟨A, c, e, h⟩ hb => ⟨A, c, e, h.below hb⟩
theorem fb_out {L : List UInt8} {w : World} {f : FuncId} {args : Array Value} (h : Calls P f args w (Out L w)) : Calls P f args w fun e w' => ∃ v, e = .returned v ∧ FB L v w' ∧ Below w.heap.size w w' :=
 h.mono fun _ _ ⟨A, c, he, hr, hb⟩ => ⟨_, he, ⟨A, c, rfl, hr⟩, hb⟩
theorem goesK_str {L : List UInt8} {src dst e : TypeId} {x : Operand} {j : Nat} {d : Tmp} (p : Nat) (hat : K[p]? = some ⟨j, d, FB L⟩) (hed : edgeB md ops i j = true) (hsrc : P.underlying src = some (.slice e)) (he : P.underlying e = some (.int .u8)) (hdst : P.underlying dst = some .string)
 (hst : ∀ f ∈ K, f.ok) (hah : Ahead md ops ix i) (hio : ops[i]? = some o) (hx : i ≠ ix) (hz : i ≠ iz) (hni : (K.all fun f => f.i != i) = true) (hw : ∀ g, Region.wanted o (yielded ops (aF g).tmps) = true) {d0 : Tmp} (h0 : o.dst = some d0) (hd : ∀ g, (aF g).tmps[d0]? = some (.string ⟨L.toArray⟩))
 (ho : o.op = .convert src dst x) (hxv : ∀ g, (aF g).eval x = g d) : GoesM P md ops aF (SK md ops w1 K ix iz R0 R1) i o :=
 goesK_know _ hst hah hio hx hz hni hw h0 hd fun g w _ hin => by
  obtain ⟨A, c, hv, hr⟩ := hin p _ hat hed
  simp only at hv
  unfold execOp
  simp only [ho, hxv, hv, Sem.run_bind, Sem.run_pure, conv_str hsrc he rfl hr dst hdst, Result.andThen_ok]
theorem goesK_conv {L : List UInt8} {n c : Nat} {A : Option Addr} {src dst e : TypeId} {x : Operand} (hn : L.length = n) (hrd : ∀ W, Below w1.heap.size w1 W → Rd W A (bs L)) (hsrc : P.underlying src = some (.slice e)) (he : P.underlying e = some (.int .u8)) (hdst : P.underlying dst = some .string)
 (hst : ∀ f ∈ K, f.ok) (hah : Ahead md ops ix i) (hio : ops[i]? = some o) (hx : i ≠ ix) (hz : i ≠ iz) (hni : (K.all fun f => f.i != i) = true) (hw : ∀ g, Region.wanted o (yielded ops (aF g).tmps) = true) {d0 : Tmp} (h0 : o.dst = some d0) (hd : ∀ g, (aF g).tmps[d0]? = some (.string ⟨L.toArray⟩))
 (ho : o.op = .convert src dst x) (hxv : ∀ g, (aF g).eval x = .slice A n c) : GoesM P md ops aF (SK md ops w1 K ix iz R0 R1) i o :=
 goesK_know _ hst hah hio hx hz hni hw h0 hd fun g w hb _ => by
  unfold execOp
  simp only [ho, hxv, Sem.run_bind, Sem.run_pure, conv_str hsrc he hn (hrd w hb) dst hdst, Result.andThen_ok]
end
end
def seqC (s : Sq) (A : Option Addr) (c : Nat) : Array Value := #[.int .i64 s.kind, .int .u8 (s.priv.toNat : Int), .slice A s.params.length c, .string ⟨s.inter.toArray⟩, .int .u8 (s.final.toNat : Int), .string ⟨s.data.toArray⟩]
def zeroS : Value := .agg #[.int .i64 0, .int .u8 0, .slice none 0 0, .string ⟨#[]⟩, .int .u8 0, .string ⟨#[]⟩]
theorem rdp_drew {w : World} {A : Option Addr} {ps : List (List Int)} (h : RdP w A ps) : RdP w.drew A ps := h
theorem own_full {w : World} {base : Nat} {e : TypeId} {g n : Nat} {xs : List Value} {l : List Value} (h : Own w base e 1 (.slice (some ⟨g, 0, none⟩) n n) n xs) (hl : l.length = n) (hx : ∀ j, j < n → xs[j]? = l[j]?) : Rd w (some ⟨g, 0, none⟩) l := by
 have h1 := h.1
 have : xs = l := List.ext_getElem? fun j => by
  by_cases hj : j < n
  ·exact hx j hj
  ·rw [List.getElem?_eq_none (by omega), List.getElem?_eq_none (by omega)]
 subst this
 exact h.rd
set_option maxRecDepth 100000 in
set_option maxHeartbeats 8000000 in
theorem ptext_any (A : Option Addr) (c : Nat) (ps : List (List Int)) (w : World) (hp : parOk ps = true) (ht : Tab w) (hr : RdP w A ps) :
 Calls Tryd.prog 56 #[.slice A ps.length c] w fun e w' => e = .returned (.string ⟨(parL ps).toArray⟩) ∧ Below w.heap.size w w' := by
 obtain ⟨i0, hi, hz0, hz1, hz2⟩ : ∃ i, Tryd.prog.info? 9 = some i ∧ i.zero = some (.string ⟨#[]⟩) ∧ i.size = 1 ∧ i.bytes = 16 := ⟨_, rfl, rfl, rfl, rfl⟩
 obtain ⟨hl16, hp8⟩ := parOk_lens hp
 have HP8 := Lib.hid hp8
 obtain ⟨n, hn⟩ : ∃ n, ps.length = n := ⟨_, rfl⟩
 rw [hn] at hl16 ⊢
 have HN := Lib.hid hn
 have HP := Lib.hid hp
 clear hp hp8 hn
 go_enter Tryd.func56, Tryd.ntmps56
 go_wp2_with (first | (at_make; refine wpList_make_full _ rfl _ _ 90 rfl w.heap.size 9 i0 _ 1 Tryd.underlying90 hi hz0 hz1 _ _ _ _ n rfl rfl ?d0 ?d1 ?d2 ?d3 ?d4 ?_))
 case d0 => omega
 case d1 => omega
 case d2 => rw [hz2]; omega
 case d3 => simp only [maxLen]; omega
 case d4 => exact Nat.le_refl _
 intro w2 hown2 hg2
 have hb2 : Below w.heap.size w w2 := (Below.refl _ _).grown hg2 (Nat.le_refl _) (by simp)
 have ho2 := Own.of hown2
 have hlt2 : w.heap.size < w2.heap.size := (ho2.lt w.heap.size rfl).2
 clear hown2 hg2
 go_wp2_with fail
 go_loopw [14] (fun i wr => ∃ (k : Nat) (xs : List Value), k ≤ n ∧ i = .int .i64 k ∧ Own wr w.heap.size 9 1 (.slice (some ⟨w.heap.size, 0, none⟩) n n) n xs ∧ Below w.heap.size w wr ∧ Hid (∀ j, j < k → xs[j]? = (ss_ (ps.map partL))[j]?)) (fun i _ => n - (intOf i).toNat)
 case atStart => exact ⟨0, _, Nat.zero_le _, rfl, ho2, hb2, Lib.hid fun j h => absurd h (by omega)⟩
 case round =>
  obtain ⟨k, xs, hk, rfl, ho, hb, hdone⟩ := hrel
  clear ho2 hb2 hlt2
  have hltr : w.heap.size < wr.heap.size := (ho.lt w.heap.size rfl).2
  obtain ⟨wo, rfl⟩ : ∃ wo : World, wo = wr := ⟨_, rfl⟩
  by_cases hlt : k < n
  ·have hkn : k < ps.length := by rw [HN.out]; exact hlt
   obtain ⟨b, o, hA, hbA, hcc⟩ := (hr.below hb) (by omega)
   cases hA
   obtain ⟨A', c', hck, hrk⟩ := hcc k hkn
   obtain ⟨p, hp'⟩ : ∃ p, (ps[k]'hkn) = p := ⟨_, rfl⟩
   have hpl := HP8.out _ (List.getElem_mem hkn)
   rw [hp'] at hck hrk hpl
   have HPP := Lib.hid hp'
   clear hp' hcc
   obtain ⟨m, hm⟩ : ∃ m, p.length = m := ⟨_, rfl⟩
   rw [hm] at hck hpl
   have HM := Lib.hid hm
   obtain ⟨hm8, hpo⟩ := hpl
   have HPO := Lib.hid hpo
   clear hm hpo
   go_wp2_with (first | (at_make; refine wpList_make_full _ rfl _ _ 90 rfl wo.heap.size 9 i0 _ 1 Tryd.underlying90 hi hz0 hz1 _ _ _ _ m rfl rfl ?d0 ?d1 ?d2 ?d3 ?d4 ?_))
   case d0 => omega
   case d1 => omega
   case d2 => rw [hz2]; omega
   case d3 => simp only [maxLen]; omega
   case d4 => exact Nat.le_refl _
   intro w3 hown3 hg3
   have hb3 : Below wo.heap.size wo w3 := (Below.refl _ _).grown hg3 (Nat.le_refl _) (by simp)
   have ho3 := Own.of hown3
   clear hown3 hg3
   go_wp2_with fail
   go_loopw [24] (fun i wr => ∃ (j : Nat) (ys : List Value), j ≤ m ∧ i = .int .i64 j ∧ Own wr wo.heap.size 9 1 (.slice (some ⟨wo.heap.size, 0, none⟩) m m) m ys ∧ Below wo.heap.size wo wr ∧ Hid (∀ t, t < j → ys[t]? = (ss_ (p.map textL))[t]?)) (fun i _ => m - (intOf i).toNat)
   case atStart => exact ⟨0, _, Nat.zero_le _, rfl, ho3, hb3, Lib.hid fun j h => absurd h (by omega)⟩
   case round =>
    obtain ⟨j, ys, hj, rfl, hoi, hbi, hdi⟩ := hrel
    clear ho3 hb3
    have hlti : wo.heap.size < wr.heap.size := (hoi.lt wo.heap.size rfl).2
    by_cases hjm : j < m
    ·have hjp : j < p.length := by rw [HM.out]; exact hjm
     obtain ⟨b4, o4, hA4, hb4, hc4⟩ := (hrk.below hbi).int_at (by omega)
     cases hA4
     have hcj := hc4 j hjp
     obtain ⟨x, hx⟩ : ∃ x, p[j]'hjp = x := ⟨_, rfl⟩
     have hxr := HPO.out _ (List.getElem_mem hjp)
     rw [hx] at hcj hxr
     have HX := Lib.hid hx
     clear hx hc4
     obtain ⟨x0, x1⟩ := hxr
     go_wp2_with fail
     refine (text_any x _ (by omega) (by omega) (ht.below (hb.trans (hbi.mono hb.size)))).mono ?_
     rintro e w5 ⟨rfl, hb5⟩
     have ho5 := hoi.behind hb5
     have hyl : j < ys.length := by have := hoi.1; omega
     have hd1 := ho5.cellAt j hyl
     have hd2 := ho5.frozenAt j hyl
     have hbi5 : Below wo.heap.size wo w5 := hbi.trans (hb5.mono hbi.size)
     clear hb5 hcj
     go_wp2_with fail
     go_roundw
     case rel =>
      refine ⟨j + 1, _, by omega, by go_num, ho5.stored j _, hbi5.setCell (p := ⟨wo.heap.size, j, none⟩) (Nat.le_refl _) _, Lib.hid fun t ht => ?_⟩
      by_cases e : t = j
      ·subst e
       rw [List.getElem?_set_self hyl]
       simp [ss_, List.getElem?_eq_getElem hjp, HX.out]
      ·rw [List.getElem?_set_ne (fun h => e h.symm)]
       exact hdi.out t (by omega)
     case measure => simp [intOf]; omega
    ·have hrow := own_full hoi (l := ss_ (p.map textL)) (by simp [ss_, HM.out]) (fun t ht => hdi.out t (by omega))
     have hJ := Lib.hid (join_part p)
     have hlen := partL_len p HPO.out
     rw [HM.out] at hlen
     have hml := Lib.hid (show (p.map textL).length = m by rw [List.length_map]; exact HM.out)
     go_wp2_with fail
     refine (join_any (some ⟨wo.heap.size, 0, none⟩) m m (p.map textL) [58] (partL p) _ hml.out hJ.out (by omega) (Nat.le_refl _) (by omega) hrow).mono ?_
     rintro e w5 ⟨rfl, hb5⟩
     have hbi5 : Below wo.heap.size wo w5 := hbi.trans (hb5.mono hbi.size)
     have ho5 := ho.behind hbi5
     have hxl : k < xs.length := by have := ho.1; omega
     have hd1 := ho5.cellAt k hxl
     have hd2 := ho5.frozenAt k hxl
     have hb5' : Below w.heap.size w w5 := hb.trans (hbi5.mono hb.size)
     clear hb5 hrow
     go_wp2_with fail
     go_roundw
     case rel =>
      refine ⟨k + 1, _, by omega, by go_num, ho5.stored k _, hb5'.setCell (p := ⟨w.heap.size, k, none⟩) (Nat.le_refl _) _, Lib.hid fun t ht => ?_⟩
      by_cases e : t = k
      ·subst e
       rw [List.getElem?_set_self hxl]
       simp [ss_, List.getElem?_eq_getElem hkn, HPP.out]
      ·rw [List.getElem?_set_ne (fun h => e h.symm)]
       exact hdone.out t (by omega)
     case measure => simp [intOf]; omega
  ·have hrow := own_full ho (l := ss_ (ps.map partL)) (by simp [ss_, HN.out]) (fun t ht => hdone.out t (by omega))
   have hJ := Lib.hid (join_par ps)
   have hlen := parL_len ps HP8.out
   rw [HN.out] at hlen
   have hml := Lib.hid (show (ps.map partL).length = n by rw [List.length_map]; exact HN.out)
   go_wp2_with fail
   refine (join_any (some ⟨w.heap.size, 0, none⟩) n n (ps.map partL) [59] (parL ps) _ hml.out hJ.out (by omega) (Nat.le_refl _) (by omega) hrow).mono ?_
   rintro e w5 ⟨rfl, hb5⟩
   go_wp2_with fail
   go_ret
   exact ⟨rfl, hb.trans (hb5.mono hb.size)⟩
end Go.Proofs.YtjlhhelikiegdaaDoor
