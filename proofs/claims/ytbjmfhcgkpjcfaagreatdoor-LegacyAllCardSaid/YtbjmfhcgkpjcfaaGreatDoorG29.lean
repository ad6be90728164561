/-
  From walks to a law's row: slices of integers and of bytes that came in, with their room; arrays of two; slices of steps (layer 4). In a drawn region whose calls answer what the run alone tells: a value that is known by these answers; bytes that such an answer is, made a string. Layer 3, walked: the program's Put.
-/
import Derived.Test.YtbjmfhcgkpjcfaaGreatDoorG03
import Derived.Test.YtbjmfhcgkpjcfaaGreatDoorG09
import Derived.Test.YtbjmfhcgkpjcfaaGreatDoorG13
import Derived.Test.YtbjmfhcgkpjcfaaGreatDoorG15
import Derived.Test.YtbjmfhcgkpjcfaaGreatDoorG17
import Derived.Test.YtbjmfhcgkpjcfaaGreatDoorG21
import Derived.Test.YtbjmfhcgkpjcfaaGreatDoorG28
import Derived.Test.YtbjmfhcgkpjcfaaGreatDoorRows
import Derived.Deep.Matrix
import Derived.Deep.Slices
import Derived.OpenShut
import Derived.Deep.RegionHeld
namespace Go.Proofs.YtbjmfhcgkpjcfaaGreatDoor
open Go.RowKit Go.WideShapes Go.ChangeShapes Go.ChangeAt Go.ChangeMaps Go.Deep

set_option maxRecDepth 100000 in
theorem byte_of {z : Int} (h : (Lit.int .u8 z).wf = true) : ∃ c : UInt8, z = (c.toNat : Int) := by
  have hb := bounds_u8 h
  exact ⟨UInt8.ofNat z.toNat, by rw [UInt8.toNat_ofNat_of_lt' (by show z.toNat < 256; omega)]; omega⟩
section
variable {H : Type} {enc : TypeId × Value → H} {P : Program}
/-- A slice of integers that came in. -/
theorem open_nums {t e : TypeId} {k : IntKind} (ht : P.underlying t = some (.slice e)) (he : P.underlying e = some (.int k)) (hc : P.cellsOf e = 1) {r : Reach} {b0 : Nat} {W : World} {v : Value} {d : DataW H} {ps : List MemPlace}
    (hval : Value.okWide P W r b0 t v) (h : DataW.Trod enc P W 0 (fun _ => true) true t v d ps) :
    ∃ A l c, v = .slice A (l : List Int).length c ∧ l.length ≤ c ∧ Rd W A (l.map (Value.int k)) ∧ (∀ z ∈ l, (Lit.int k z).wf = true) ∧ (l = [] ∨ ∃ elems spare, d = .slice elems spare ∧ l.length ≤ elems.length + spare.length) := by
  obtain ⟨a0, len, cap, rfl⟩ := okWide_slice ht hval
  obtain ⟨fuel, hf⟩ := h
  rcases open_ints ht he hc hf with ⟨hcs, _⟩ | ⟨a, len', cap', zs, hcs, _, hl, _, hz, hx, hcell, hwf⟩
  · simp [Value.cells] at hcs
    obtain ⟨rfl, rfl, rfl⟩ := hcs
    exact ⟨none, [], 0, rfl, Nat.le_refl _, Rd.nil _ _, by simp, .inl rfl⟩
  · simp [Value.cells] at hcs
    obtain ⟨rfl, rfl, rfl⟩ := hcs
    simp only [if_true] at hz
    simp only [Prod.mk.injEq] at hx
    have hlen : (zs.take len).length = len := by rw [List.length_take]; omega
    refine ⟨some a, zs.take len, cap, by rw [hlen], by omega, fun hp => ?_, fun z hz' => hwf z (List.mem_of_mem_take hz'), .inr ⟨_, _, hx.1, ?_⟩⟩
    · rw [List.length_map, hlen] at hp
      obtain ⟨b, off, rfl, hc2⟩ := ints_at hcell (by omega)
      have h0 := hc2 0 (by omega)
      refine ⟨b, off, rfl, World.block_lt_of_cell? W _ h0, fun i u hu => ?_⟩
      have hi : i < len := by
        have := (List.getElem?_eq_some_iff.1 hu).1
        rw [List.length_map, hlen] at this
        exact this
      rw [hc2 i (by omega), ← hu]
      simp [hi, List.getD, List.getElem?_eq_getElem (show i < zs.length by omega)]
    · rw [hlen]
      simp only [lits, List.length_map, List.length_take, List.length_drop]
      omega
theorem bs_of_nums (l : List Int) (h : ∀ z ∈ l, (Lit.int .u8 z).wf = true) : bs (l.map fun z => UInt8.ofNat z.toNat) = l.map (Value.int .u8) := by
  simp only [bs, List.map_map]
  apply List.map_congr_left
  intro z hz
  have hb := bounds_u8 (h z hz)
  show Value.int .u8 ((UInt8.ofNat z.toNat).toNat : Int) = _
  rw [UInt8.toNat_ofNat_of_lt' (by show z.toNat < 256; omega)]
  congr 1
  omega
/-- A slice of bytes that came in, its room, and how many places it takes as data. -/
theorem open_bytes_room {t e : TypeId} (ht : P.underlying t = some (.slice e)) (he : P.underlying e = some (.int .u8)) (hc : P.cellsOf e = 1) {r : Reach} {b0 : Nat} {W : World} {v : Value} {d : DataW H} {ps : List MemPlace}
    (hval : Value.okWide P W r b0 t v) (h : DataW.Trod enc P W 0 (fun _ => true) true t v d ps) :
    ∃ A l c, v = .slice A (l : List UInt8).length c ∧ l.length ≤ c ∧ Rd W A (bs l) ∧ (l = [] ∨ ∃ elems spare, d = .slice elems spare ∧ l.length ≤ elems.length + spare.length) := by
  obtain ⟨A, l, c, rfl, hlc, hr, hw, hd⟩ := open_nums ht he hc hval h
  refine ⟨A, l.map fun z => UInt8.ofNat z.toNat, c, by rw [List.length_map], by rw [List.length_map]; exact hlc, by rw [bs_of_nums l hw]; exact hr, ?_⟩
  rcases hd with rfl | hd
  · exact .inl rfl
  · exact .inr (by rw [List.length_map]; exact hd)

end
section
variable {H : Type} {enc : TypeId × Value → H}
theorem okWide_two {P : Program} {t e : TypeId} {n : Nat} {W : World} {r : Reach} {b0 : Nat} {v : Value} (ht : P.underlying t = some (.array n e)) (h : Value.okWide P W r b0 t v) : ∃ cs, v = .agg cs ∧ cs.size = P.cellsOf t := by
  simp only [Value.okWide, ht] at h
  obtain ⟨cs, h1, h2, _⟩ := h
  exact ⟨cs, h1, h2⟩
set_option maxRecDepth 100000 in
theorem open_two {P : Program} {t e : TypeId} {k : IntKind} {W : World} {r : Reach} {b0 : Nat} {v : Value} {d : DataW H} {ps : List MemPlace} (ht : P.underlying t = some (.array 2 e)) (he : P.underlying e = some (.int k)) (ct : P.cellsOf t = 2) (ce : P.cellsOf e = 1)
    (hval : Value.okWide P W r b0 t v) (h : DataW.Trod enc P W 0 (fun _ => true) true t v d ps) : ∃ a b : Int, v = .agg #[.int k a, .int k b] ∧ (Lit.int k a).wf = true ∧ (Lit.int k b).wf = true := by
  obtain ⟨cs, rfl, hsz⟩ := okWide_two ht hval
  obtain ⟨fuel, hf⟩ := h
  obtain ⟨xs, m, _, hx, hlen, hxl, hel⟩ := DataW.trod_array ht hf
  rw [ct] at hsz
  obtain ⟨l⟩ := cs
  match l, hsz with
  | [u0, u1], _ =>
    match xs, hxl with
    | [y0, y1], _ =>
      have g0 := hel 0 (by omega)
      have g1 := hel 1 (by omega)
      rw [ce] at g0 g1
      obtain ⟨z0, k0, _, w0⟩ := DataW.trod_int he (show DataW.trod enc P W 0 (fun _ => true) true m e [u0] = some y0 by simpa [Value.cells] using g0)
      obtain ⟨z1, k1, _, w1⟩ := DataW.trod_int he (show DataW.trod enc P W 0 (fun _ => true) true m e [u1] = some y1 by simpa [Value.cells] using g1)
      simp at k0 k1
      subst k0 k1
      exact ⟨z0, z1, rfl, w0, w1⟩
end
end Go.Proofs.YtbjmfhcgkpjcfaaGreatDoor
namespace Go.Proofs.YtbjmfhcgkpjcfaaGreatDoor
open Go.RowKit

section
variable {P : Program} {ops : Array Oper} {md : Region.Mode} {w1 : World} {K : List Fact} {ix iz : Nat} {R0 R1 : (Tmp → Value) → World → World → Prop} {aF : (Tmp → Value) → Act} {i : Nat} {o : Oper}
theorem goesK_know (v : Value) (hst : ∀ f ∈ K, f.ok) (hah : Ahead md ops ix i) (hio : ops[i]? = some o) (hx : i ≠ ix) (hz : i ≠ iz) (hni : (K.all fun f => f.i != i) = true) (hw : ∀ g, Region.wanted o (yielded ops (aF g).tmps) = true) {d0 : Tmp} (h0 : o.dst = some d0) (hd : ∀ g, (aF g).tmps[d0]? = some v)
    (h : ∀ g w, Below w1.heap.size w1 w → (∀ (q : Nat) (f : Fact), K[q]? = some f → edgeB md ops i f.i = true → f.F (g f.d) w) → (execOp (aF g).eval o).run P w = .ok (.value v) w) :
    GoesM P md ops aF (SK md ops w1 K ix iz R0 R1) i o := fun l g w hsz hf hrd hS => by
  rw [if_pos (hw g)]
  have hfx := hah l hsz hS.shut hf
  obtain ⟨h1, h2⟩ := hS.pre hfx
  refine .inl ⟨v, w, .inl (h g w h1 fun q f' hf' he => h2 f' (List.mem_of_getElem? hf') ?_), g, .inl rfl, (fun d' h' => by rw [h0] at h'; cases h'; exact hd g), hS.quiet hst (hS.shut.step hio hrd) (Below.refl _ _) hx hz hni hfx⟩
  unfold edgeB at he
  rw [hio] at he
  obtain ⟨e, he, hb⟩ := Array.any_eq_true'.1 he
  simp only [Bool.and_eq_true, beq_iff_eq] at hb
  rw [← hb.2]
  exact hrd e he hb.1
/-- What a call that tells bytes answers. -/
def FB (L : List UInt8) (v : Value) (w : World) : Prop := ∃ A c, v = .slice A L.length c ∧ Rd w A (bs L)
theorem fb_ok (i : Nat) (d : Tmp) (L : List UInt8) : (⟨i, d, FB L⟩ : Fact).ok := fun _ _ _ ⟨A, c, e, h⟩ hb => ⟨A, c, e, h.below hb⟩
theorem fb_out {L : List UInt8} {w : World} {f : FuncId} {args : Array Value} (h : Calls P f args w (Out L w)) : Calls P f args w fun e w' => ∃ v, e = .returned v ∧ FB L v w' ∧ Below w.heap.size w w' :=
  h.mono fun _ _ ⟨A, c, he, hr, hb⟩ => ⟨_, he, ⟨A, c, rfl, hr⟩, hb⟩
theorem goesK_str {L : List UInt8} {src dst e : TypeId} {x : Operand} {j : Nat} {d : Tmp} (p : Nat) (hat : K[p]? = some ⟨j, d, FB L⟩) (hed : edgeB md ops i j = true) (hsrc : P.underlying src = some (.slice e)) (he : P.underlying e = some (.int .u8)) (hdst : P.underlying dst = some .string)
    (hst : ∀ f ∈ K, f.ok) (hah : Ahead md ops ix i) (hio : ops[i]? = some o) (hx : i ≠ ix) (hz : i ≠ iz) (hni : (K.all fun f => f.i != i) = true) (hw : ∀ g, Region.wanted o (yielded ops (aF g).tmps) = true) {d0 : Tmp} (h0 : o.dst = some d0) (hd : ∀ g, (aF g).tmps[d0]? = some (.string ⟨L.toArray⟩))
    (ho : o.op = .convert src dst x) (hxv : ∀ g, (aF g).eval x = g d) : GoesM P md ops aF (SK md ops w1 K ix iz R0 R1) i o :=
  goesK_know _ hst hah hio hx hz hni hw h0 hd fun g w _ hin => by
    obtain ⟨A, c, hv, hr⟩ := hin p _ hat hed
    simp only at hv
    unfold execOp
    simp only [ho, hxv, hv, Sem.run_bind, Sem.run_pure, conv_str hsrc he rfl hr dst hdst, Result.andThen_ok]
/-- Bytes that are known, made a string. -/
theorem goesK_conv {L : List UInt8} {n c : Nat} {A : Option Addr} {src dst e : TypeId} {x : Operand} (hn : L.length = n) (hrd : ∀ W, Below w1.heap.size w1 W → Rd W A (bs L)) (hsrc : P.underlying src = some (.slice e)) (he : P.underlying e = some (.int .u8)) (hdst : P.underlying dst = some .string)
    (hst : ∀ f ∈ K, f.ok) (hah : Ahead md ops ix i) (hio : ops[i]? = some o) (hx : i ≠ ix) (hz : i ≠ iz) (hni : (K.all fun f => f.i != i) = true) (hw : ∀ g, Region.wanted o (yielded ops (aF g).tmps) = true) {d0 : Tmp} (h0 : o.dst = some d0) (hd : ∀ g, (aF g).tmps[d0]? = some (.string ⟨L.toArray⟩))
    (ho : o.op = .convert src dst x) (hxv : ∀ g, (aF g).eval x = .slice A n c) : GoesM P md ops aF (SK md ops w1 K ix iz R0 R1) i o :=
  goesK_know _ hst hah hio hx hz hni hw h0 hd fun g w hb _ => by
    unfold execOp
    simp only [ho, hxv, Sem.run_bind, Sem.run_pure, conv_str hsrc he hn (hrd w hb) dst hdst, Result.andThen_ok]
/-- How many bytes such an answer has. -/
theorem goesK_len {L : List UInt8} {j : Nat} {d : Tmp} (p : Nat) (hat : K[p]? = some ⟨j, d, FB L⟩) (hed : edgeB md ops i j = true)
    (hst : ∀ f ∈ K, f.ok) (hah : Ahead md ops ix i) (hio : ops[i]? = some o) (hx : i ≠ ix) (hz : i ≠ iz) (hni : (K.all fun f => f.i != i) = true) (hw : ∀ g, Region.wanted o (yielded ops (aF g).tmps) = true) {d0 : Tmp} (h0 : o.dst = some d0) (hd : ∀ g, (aF g).tmps[d0]? = some (.int .i64 (L.length : Int)))
    (hr : ∀ (g : Tmp → Value) (A : Option Addr) (c : Nat) (w : World), g d = .slice A L.length c → (execOp (aF g).eval o).run P w = .ok (.value (.int .i64 (L.length : Int))) w) : GoesM P md ops aF (SK md ops w1 K ix iz R0 R1) i o :=
  goesK_know _ hst hah hio hx hz hni hw h0 hd fun g w _ hin => by
    obtain ⟨A, c, hv, _⟩ := hin p _ hat hed
    exact hr g A c w hv
end
end Go.Proofs.YtbjmfhcgkpjcfaaGreatDoor
namespace Go.Proofs.YtbjmfhcgkpjcfaaGreatDoor
open Go.RowKit

/-- A sequence's bytes, piece by piece. -/
def pcsL (s : Sq) : List (List UInt8) := [[27], (formF s.kind).letter, privL s.priv, parL s.params, s.inter, privL s.final, s.data, (formF s.kind).en]
theorem pcs_put {s : Sq} (h : mayS s = 0) : Lib.join (pcsL s) [] = putS s := by
  obtain ⟨_, hv, hp, _, hi, hd, hl, hb⟩ := ok_parts h
  obtain ⟨k, pv, ps, it, f, d⟩ := s
  have hne : ∀ n : Nat, 1 ≤ n → btw n 126 f = true → privL f = [f] := fun n hn h => by
    unfold privL
    rw [if_neg]
    intro e
    rw [e, btw_iff] at h
    simp at h
    omega
  have hk : k = 1 ∨ k = 2 ∨ k = 3 ∨ k = 4 ∨ k = 5 := by
    unfold lastOk at hl
    dsimp only at hl
    split at hl
    · omega
    · split at hl
      · omega
      · simp only [Bool.and_eq_true, decide_eq_true_eq] at hl; omega
  have hj : ∀ l : List (List UInt8), Lib.join l [] = l.flatten := by
    intro l
    match l with
    | [] => rfl
    | [p] => simp [Lib.join]
    | p :: q :: l =>
      rw [join_cons2]
      have : ∀ l : List (List UInt8), Lib.join l [] = l.flatten := by
        intro l
        induction l with
        | nil => rfl
        | cons a l ih =>
          cases l with
          | nil => simp [Lib.join]
          | cons b l => rw [join_cons2, ih]; simp
      rw [this]
      simp
  rw [hj]
  unfold pcsL
  dsimp only at hv hp hi hd ⊢
  rcases hk with rfl | rfl | rfl | rfl | rfl
  · have hf : btw 64 126 f = true := by simpa [lastOk] using hl
    have hd0 : d = [] := by simpa [bareOk] using hb
    subst hd0
    rw [hne 64 (by omega) hf]
    simp [formF, putS, bodyL]
  · have h1 : pv = 0 ∧ ps = [] ∧ it = [] ∧ d = [] := by
      simp [bareOk] at hb
      obtain ⟨⟨⟨a, b⟩, c⟩, e⟩ := hb
      exact ⟨a, b, c, e⟩
    obtain ⟨rfl, rfl, rfl, rfl⟩ := h1
    have hf : btw 64 126 f = true := by simpa [lastOk] using hl
    rw [hne 64 (by omega) hf]
    simp [formF, putS, privL, parL]
  · have hf : btw 64 126 f = true := by simpa [lastOk] using hl
    rw [hne 64 (by omega) hf]
    simp [formF, putS, bodyL]
  · have h1 : pv = 0 ∧ ps = [] ∧ it = [] := by
      simp [bareOk] at hb
      exact ⟨hb.1.1, hb.1.2, hb.2⟩
    have hf : f = 0 := by simpa [lastOk] using hl
    obtain ⟨rfl, rfl, rfl⟩ := h1
    subst hf
    simp [formF, putS, privL, parL]
  · have h1 : pv = 0 ∧ ps = [] ∧ d = [] := by
      simp [bareOk] at hb
      exact ⟨hb.1.1, hb.1.2, hb.2⟩
    obtain ⟨rfl, rfl, rfl⟩ := h1
    have hf : btw 48 126 f = true := by simp [lastOk] at hl; exact hl.1
    rw [hne 48 (by omega) hf]
    simp [formF, putS, privL, parL]
set_option maxRecDepth 100000 in
set_option maxHeartbeats 8000000 in
theorem pput_no (s : Sq) (A : Option Addr) (c : Nat) (m : Int) (w : World) (hm : mayS s = m) (h0 : m ≠ 0) (hp : s.params.length ≤ 4294967296) (hpp : ∀ p ∈ s.params, p.length ≤ 4294967296) (hi : s.inter.length ≤ 4294967296) (hr : RdP w A s.params) :
    Calls Tryz.prog 63 #[sqV s A c] w (WNo m w) := by
  have HM := Lib.hid hm
  have t1 : (m == 0) = false := beq_false_of_ne h0
  have t2 : (m != 0) = true := by simp [bne, t1]
  have hB : Below w.heap.size w (w.alloc (.cells (seqC s A c) 60)) := (Below.refl _ _).alloc (Nat.le_refl _) _
  clear hm h0
  unfold sqV
  go_enter Tryz.func63, Tryz.ntmps63
  go_wp2_with fail
  refine (pmay_any s A c m _ HM.out hp hpp hi (hr.below hB)).mono ?_
  rintro e w1 ⟨rfl, hb1⟩
  go_wp2_with fail
  go_ret2
  exact ⟨rfl, hB.trans (hb1.mono (by simp [seqC]))⟩

set_option maxRecDepth 100000 in
set_option maxHeartbeats 8000000 in
theorem pput_yes (s : Sq) (A : Option Addr) (c : Nat) (w : World) (hm : mayS s = 0) (ht : Tab w) (hr : RdP w A s.params) :
    Calls Tryz.prog 63 #[sqV s A c] w (WYes (putS s) w) := by
  obtain ⟨hdl, hv, hp, hil, hin, hd, hl, hbr⟩ := ok_parts hm
  obtain ⟨s1, s2, s3, s4⟩ := may_small hm
  obtain ⟨l16, l8⟩ := parOk_lens hp
  have hpp : Hid (∀ p ∈ s.params, p.length ≤ 4294967296) := Lib.hid fun p hp => by have := (l8 p hp).1; omega
  have HM := Lib.hid hm
  have HPO := Lib.hid hp
  have HJ := Lib.hid (pcs_put hm)
  have HKB := Lib.hid (show kindB s.kind = true from decide_eq_true s4)
  have hB : Below w.heap.size w (w.alloc (.cells (seqC s A c) 60)) := (Below.refl _ _).alloc (Nat.le_refl _) _
  clear hm hv hp hin hd hl hbr l8 s4
  unfold sqV
  go_enter Tryz.func63, Tryz.ntmps63
  go_wp2_with fail
  refine (pmay_any s A c 0 _ HM.out (by omega) hpp.out (by omega) (hr.below hB)).mono ?_
  rintro e w1 ⟨rfl, hb1⟩
  have hb1w : Below w.heap.size w w1 := hB.trans (hb1.mono (by simp [seqC]))
  have hq1 : Blk w1 w.heap.size 60 (seqC s A c) := (Blk.new w 60 (seqC s A c)).below hb1 (by simp [seqC])
  obtain ⟨c0, c1, c2, c3, c4, c5⟩ := Blk.cells6 hq1
  clear hb1 hB
  go_wp2_with fail
  refine (formOf_any s.kind _).mono ?_
  rw [HKB.out]
  rintro e w2 ⟨rfl, hb2⟩
  obtain ⟨f, hf⟩ : ∃ f, formF s.kind = f := ⟨_, rfl⟩
  have HF := Lib.hid hf
  rw [hf]
  clear hf
  have T1 : Two w (w2.alloc (.cells #[.string ⟨f.letter.toArray⟩, .bool f.body, .bool f.inter, .int .u8 (f.first.toNat : Int), .string ⟨f.en.toArray⟩] 98)) s A c f w2.heap.size :=
    ⟨(hq1.below hb2 hq1.lt).alloc _, Blk.new _ _ _, (hb1w.trans (hb2.mono hb1w.size)).alloc (Nat.le_trans hb1w.size hb2.size) _, Nat.lt_of_lt_of_le hq1.lt hb2.size⟩
  clear hb2 hq1 c0 c1 c2 c3 c4 c5 hb1w
  unfold fmV
  go_upto_region 5 with (fail)
  obtain ⟨⟨c0, c1, c2, c3, c4, c5⟩, f0, f1, f2, f3, f4⟩ := T1.cells
  generalize w2.alloc (.cells #[.string ⟨f.letter.toArray⟩, .bool f.body, .bool f.inter, .int .u8 (f.first.toNat : Int), .string ⟨f.en.toArray⟩] 98) = W1 at *
  have hltW : w2.heap.size < W1.heap.size := T1.fm.lt
  have hwW : w.heap.size ≤ W1.heap.size := T1.be.size
  obtain ⟨T, hT⟩ : ∃ T, putS s = T := ⟨_, rfl⟩
  have HTT := Lib.hid hT
  rw [hT] at s3 HJ
  clear hT
  obtain ⟨C, X, hX⟩ := conv_all Tryz.prog 9 27 5 T Tryz.underlying9 Tryz.underlying27 Tryz.underlying5 (by simp only [maxLen]; omega)
  have hV := fun W => (hX W).1
  have HX := Lib.hid (fun W => (hX W).2.2)
  have HC := Lib.hid (fun W => (hX W).2.1)
  have HS : Hid (∀ W, Below W1.heap.size W1 W → Below W1.heap.size W1 W ∧ W.cell? ⟨w.heap.size, 0, none⟩ = some (.int .i64 s.kind) ∧ W.cell? ⟨w.heap.size, 1, none⟩ = some (.int .u8 (s.priv.toNat : Int)) ∧ W.cell? ⟨w.heap.size, 2, none⟩ = some (.slice A s.params.length c) ∧ W.cell? ⟨w.heap.size, 3, none⟩ = some (.string ⟨s.inter.toArray⟩) ∧ W.cell? ⟨w.heap.size, 4, none⟩ = some (.int .u8 (s.final.toNat : Int)) ∧ W.cell? ⟨w.heap.size, 5, none⟩ = some (.string ⟨s.data.toArray⟩) ∧ W.cell? ⟨w2.heap.size, 0, none⟩ = some (.string ⟨f.letter.toArray⟩) ∧ W.cell? ⟨w2.heap.size, 4, none⟩ = some (.string ⟨f.en.toArray⟩)) := Lib.hid fun W hb =>
    ⟨hb, (hb.cell (p := ⟨w.heap.size, 0, none⟩) T1.sq.lt).trans c0, (hb.cell (p := ⟨w.heap.size, 1, none⟩) T1.sq.lt).trans c1, (hb.cell (p := ⟨w.heap.size, 2, none⟩) T1.sq.lt).trans c2, (hb.cell (p := ⟨w.heap.size, 3, none⟩) T1.sq.lt).trans c3, (hb.cell (p := ⟨w.heap.size, 4, none⟩) T1.sq.lt).trans c4, (hb.cell (p := ⟨w.heap.size, 5, none⟩) T1.sq.lt).trans c5, (hb.cell (p := ⟨w2.heap.size, 0, none⟩) hltW).trans f0, (hb.cell (p := ⟨w2.heap.size, 4, none⟩) hltW).trans f4⟩
  have HTab : Hid (∀ W, Below W1.heap.size W1 W → Tab W) := Lib.hid fun W hb => ht.below (T1.be.trans (hb.mono hwW))
  have HRd : Hid (∀ W, Below W1.heap.size W1 W → RdP W A s.params) := Lib.hid fun W hb => hr.below (T1.be.trans (hb.mono hwW))
  have HJ2 := Lib.hid (show Lib.join [[27], f.letter, privL s.priv, parL s.params, s.inter, privL s.final, s.data, f.en] [] = T by rw [← HJ.out]; unfold pcsL; rw [HF.out])
  clear hX c0 c1 c2 c3 c4 c5 f0 f1 f2 f3 f4
  go_region_held (fun w' => Below W1.heap.size W1 w' ∧ w'.cell? ⟨w.heap.size, 0, none⟩ = some (.int .i64 s.kind) ∧ w'.cell? ⟨w.heap.size, 1, none⟩ = some (.int .u8 (s.priv.toNat : Int)) ∧ w'.cell? ⟨w.heap.size, 2, none⟩ = some (.slice A s.params.length c) ∧ w'.cell? ⟨w.heap.size, 3, none⟩ = some (.string ⟨s.inter.toArray⟩) ∧ w'.cell? ⟨w.heap.size, 4, none⟩ = some (.int .u8 (s.final.toNat : Int)) ∧ w'.cell? ⟨w.heap.size, 5, none⟩ = some (.string ⟨s.data.toArray⟩) ∧ w'.cell? ⟨w2.heap.size, 0, none⟩ = some (.string ⟨f.letter.toArray⟩) ∧ w'.cell? ⟨w2.heap.size, 4, none⟩ = some (.string ⟨f.en.toArray⟩))
    (first | exact HS.out _ (Below.refl _ _).drew | exact HS.out _ ((Below.refl _ _).drew.trans hb3) | exact HS.out _ (((Below.refl _ _).drew.trans hb3).alloc hb3.size _) | exact HS.out _ ((((Below.refl _ _).drew.trans hb3).alloc hb3.size _).trans (hb4.mono (Nat.le_trans (show W1.heap.size ≤ w3.heap.size from hb3.size) (by simp)))) | exact HS.out _ (((((Below.refl _ _).drew.trans hb3).alloc hb3.size _).trans (hb4.mono (Nat.le_trans (show W1.heap.size ≤ w3.heap.size from hb3.size) (by simp)))).trans ((HX.out _).2.mono (Nat.le_trans (show W1.heap.size ≤ w3.heap.size from hb3.size) (Nat.le_trans (by simp) hb4.size)))))
    (first
      | (go_at_call 76; refine (char_any s.priv _ s1).mono ?_; rintro e wc ⟨rfl, rfl⟩)
      | (go_at_call 76; refine (char_any s.final _ s2).mono ?_; rintro e wc ⟨rfl, rfl⟩)
      | (go_at_call 77; refine (ptext_any A c s.params _ HPO.out (HTab.out _ (Below.refl _ _).drew) (HRd.out _ (Below.refl _ _).drew)).mono ?_; rintro e w3 ⟨rfl, hb3⟩)
      | (go_at_call 75; refine (join_any _ 8 8 [[27], f.letter, privL s.priv, parL s.params, s.inter, privL s.final, s.data, f.en] [] T _ rfl HJ2.out (by omega) (Nat.le_refl _) (by omega) (Rd.block (heap_alloc_new _ _) rfl)).mono ?_; rintro e w4 ⟨rfl, hb4⟩))
  have hbX : Below W1.heap.size W1 (X w4) := ((((Below.refl _ _).drew.trans hb3).alloc hb3.size _).trans (hb4.mono (Nat.le_trans (show W1.heap.size ≤ w3.heap.size from hb3.size) (by simp)))).trans ((HX.out _).2.mono (Nat.le_trans (show W1.heap.size ≤ w3.heap.size from hb3.size) (Nat.le_trans (by simp) hb4.size)))
  have hrX := (HX.out w4).1
  have hcX := HC.out w4
  clear hV HX HS HTab HRd hb3 hb4
  generalize X w4 = W5 at *
  go_wp2_with fail
  go_ret2
  rw [HTT.out]
  exact ⟨⟨_, _, rfl, hcX, hrX⟩, T1.be.trans (hbX.mono hwW)⟩
end Go.Proofs.YtbjmfhcgkpjcfaaGreatDoor
