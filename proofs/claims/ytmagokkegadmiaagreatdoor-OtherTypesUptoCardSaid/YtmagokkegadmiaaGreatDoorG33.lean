/-
  Layer 3, walked: the program's Put. Regions that draw their order (RegK's state), whose operations make what the run alone tells out of what it told ahead: an append onto a slice without room, a struct built, a name given. Layer 3, walked: the program's Take.
-/
import Derived.Test.YtmagokkegadmiaaGreatDoorG09
import Derived.Test.YtmagokkegadmiaaGreatDoorG12
import Derived.Test.YtmagokkegadmiaaGreatDoorG13
import Derived.Test.YtmagokkegadmiaaGreatDoorG15
import Derived.Test.YtmagokkegadmiaaGreatDoorG27
import Derived.Test.YtmagokkegadmiaaGreatDoorG30
import Derived.Test.YtmagokkegadmiaaGreatDoorG32
import Derived.Deep.RegionHeld
import Derived.Laws.Slices
namespace Go.Proofs.YtmagokkegadmiaaGreatDoor
open Go.RowKit

/-- A sequence's bytes, piece by piece. -/
def pcsL (s : Sq) : List (List UInt8) := [[27], (formF s.kind).letter, privL s.priv, parL s.params, s.inter, privL s.final, s.data, (formF s.kind).en]
theorem pcs_put {s : Sq} (h : mayS s = 0) : Lib.join (pcsL s) [] = putS s := by
  obtain ⟨_, hv, hp, _, hi, hd, hl, hb⟩ := ok_parts h
  obtain ⟨k, pv, ps, it, f, d⟩ := s
  have hne : ∀ n : Nat, 1 ≤ n → btw n 126 f = true → privL f = [f] := fun n hn h => by
    unfold privL
    rw [if_neg]
    intro e
    rw [e, btw_iff] at h
    simp at h
    omega
  have hk : k = 1 ∨ k = 2 ∨ k = 3 ∨ k = 4 ∨ k = 5 := by
    unfold lastOk at hl
    dsimp only at hl
    split at hl
    · omega
    · split at hl
      · omega
      · simp only [Bool.and_eq_true, decide_eq_true_eq] at hl; omega
  have hj : ∀ l : List (List UInt8), Lib.join l [] = l.flatten := by
    intro l
    match l with
    | [] => rfl
    | [p] => simp [Lib.join]
    | p :: q :: l =>
      rw [join_cons2]
      have : ∀ l : List (List UInt8), Lib.join l [] = l.flatten := by
        intro l
        induction l with
        | nil => rfl
        | cons a l ih =>
          cases l with
          | nil => simp [Lib.join]
          | cons b l => rw [join_cons2, ih]; simp
      rw [this]
      simp
  rw [hj]
  unfold pcsL
  dsimp only at hv hp hi hd ⊢
  rcases hk with rfl | rfl | rfl | rfl | rfl
  · have hf : btw 64 126 f = true := by simpa [lastOk] using hl
    have hd0 : d = [] := by simpa [bareOk] using hb
    subst hd0
    rw [hne 64 (by omega) hf]
    simp [formF, putS, bodyL]
  · have h1 : pv = 0 ∧ ps = [] ∧ it = [] ∧ d = [] := by
      simp [bareOk] at hb
      obtain ⟨⟨⟨a, b⟩, c⟩, e⟩ := hb
      exact ⟨a, b, c, e⟩
    obtain ⟨rfl, rfl, rfl, rfl⟩ := h1
    have hf : btw 64 126 f = true := by simpa [lastOk] using hl
    rw [hne 64 (by omega) hf]
    simp [formF, putS, privL, parL]
  · have hf : btw 64 126 f = true := by simpa [lastOk] using hl
    rw [hne 64 (by omega) hf]
    simp [formF, putS, bodyL]
  · have h1 : pv = 0 ∧ ps = [] ∧ it = [] := by
      simp [bareOk] at hb
      exact ⟨hb.1.1, hb.1.2, hb.2⟩
    have hf : f = 0 := by simpa [lastOk] using hl
    obtain ⟨rfl, rfl, rfl⟩ := h1
    subst hf
    simp [formF, putS, privL, parL]
  · have h1 : pv = 0 ∧ ps = [] ∧ d = [] := by
      simp [bareOk] at hb
      exact ⟨hb.1.1, hb.1.2, hb.2⟩
    obtain ⟨rfl, rfl, rfl⟩ := h1
    have hf : btw 48 126 f = true := by simp [lastOk] at hl; exact hl.1
    rw [hne 48 (by omega) hf]
    simp [formF, putS, privL, parL]
set_option maxRecDepth 100000 in
set_option maxHeartbeats 8000000 in
theorem pput_no (s : Sq) (A : Option Addr) (c : Nat) (m : Int) (w : World) (hm : mayS s = m) (h0 : m ≠ 0) (hp : s.params.length ≤ 4294967296) (hpp : ∀ p ∈ s.params, p.length ≤ 4294967296) (hi : s.inter.length ≤ 4294967296) (hr : RdP w A s.params) :
    Calls Tryz.prog 19 #[sqV s A c] w (WNo m w) := by
  have HM := Lib.hid hm
  have t1 : (m == 0) = false := beq_false_of_ne h0
  have t2 : (m != 0) = true := by simp [bne, t1]
  have hB : Below w.heap.size w (w.alloc (.cells (seqC s A c) 52)) := (Below.refl _ _).alloc (Nat.le_refl _) _
  clear hm h0
  unfold sqV
  go_enter Tryz.func19, Tryz.ntmps19
  go_wp2_with fail
  refine (pmay_any s A c m _ HM.out hp hpp hi (hr.below hB)).mono ?_
  rintro e w1 ⟨rfl, hb1⟩
  go_wp2_with fail
  go_ret2
  exact ⟨rfl, hB.trans (hb1.mono (by simp [seqC]))⟩

set_option maxRecDepth 100000 in
set_option maxHeartbeats 8000000 in
theorem pput_yes (s : Sq) (A : Option Addr) (c : Nat) (w : World) (hm : mayS s = 0) (ht : Tab w) (hr : RdP w A s.params) :
    Calls Tryz.prog 19 #[sqV s A c] w (WYes (putS s) w) := by
  obtain ⟨hdl, hv, hp, hil, hin, hd, hl, hbr⟩ := ok_parts hm
  obtain ⟨s1, s2, s3, s4⟩ := may_small hm
  obtain ⟨l16, l8⟩ := parOk_lens hp
  have hpp : Hid (∀ p ∈ s.params, p.length ≤ 4294967296) := Lib.hid fun p hp => by have := (l8 p hp).1; omega
  have HM := Lib.hid hm
  have HPO := Lib.hid hp
  have HJ := Lib.hid (pcs_put hm)
  have HKB := Lib.hid (show kindB s.kind = true from decide_eq_true s4)
  have hB : Below w.heap.size w (w.alloc (.cells (seqC s A c) 52)) := (Below.refl _ _).alloc (Nat.le_refl _) _
  clear hm hv hp hin hd hl hbr l8 s4
  unfold sqV
  go_enter Tryz.func19, Tryz.ntmps19
  go_wp2_with fail
  refine (pmay_any s A c 0 _ HM.out (by omega) hpp.out (by omega) (hr.below hB)).mono ?_
  rintro e w1 ⟨rfl, hb1⟩
  have hb1w : Below w.heap.size w w1 := hB.trans (hb1.mono (by simp [seqC]))
  have hq1 : Blk w1 w.heap.size 52 (seqC s A c) := (Blk.new w 52 (seqC s A c)).below hb1 (by simp [seqC])
  obtain ⟨c0, c1, c2, c3, c4, c5⟩ := Blk.cells6 hq1
  clear hb1 hB
  go_wp2_with fail
  refine (formOf_any s.kind _).mono ?_
  rw [HKB.out]
  rintro e w2 ⟨rfl, hb2⟩
  obtain ⟨f, hf⟩ : ∃ f, formF s.kind = f := ⟨_, rfl⟩
  have HF := Lib.hid hf
  rw [hf]
  clear hf
  have T1 : Two w (w2.alloc (.cells #[.string ⟨f.letter.toArray⟩, .bool f.body, .bool f.inter, .int .u8 (f.first.toNat : Int), .string ⟨f.en.toArray⟩] 78)) s A c f w2.heap.size :=
    ⟨(hq1.below hb2 hq1.lt).alloc _, Blk.new _ _ _, (hb1w.trans (hb2.mono hb1w.size)).alloc (Nat.le_trans hb1w.size hb2.size) _, Nat.lt_of_lt_of_le hq1.lt hb2.size⟩
  clear hb2 hq1 c0 c1 c2 c3 c4 c5 hb1w
  unfold fmV
  go_upto_region 5 with (fail)
  obtain ⟨⟨c0, c1, c2, c3, c4, c5⟩, f0, f1, f2, f3, f4⟩ := T1.cells
  generalize w2.alloc (.cells #[.string ⟨f.letter.toArray⟩, .bool f.body, .bool f.inter, .int .u8 (f.first.toNat : Int), .string ⟨f.en.toArray⟩] 78) = W1 at *
  have hltW : w2.heap.size < W1.heap.size := T1.fm.lt
  have hwW : w.heap.size ≤ W1.heap.size := T1.be.size
  obtain ⟨T, hT⟩ : ∃ T, putS s = T := ⟨_, rfl⟩
  have HTT := Lib.hid hT
  rw [hT] at s3 HJ
  clear hT
  obtain ⟨C, X, hX⟩ := conv_all Tryz.prog 9 27 5 T Tryz.underlying9 Tryz.underlying27 Tryz.underlying5 (by simp only [maxLen]; omega)
  have hV := fun W => (hX W).1
  have HX := Lib.hid (fun W => (hX W).2.2)
  have HC := Lib.hid (fun W => (hX W).2.1)
  have HS : Hid (∀ W, Below W1.heap.size W1 W → Below W1.heap.size W1 W ∧ W.cell? ⟨w.heap.size, 0, none⟩ = some (.int .i64 s.kind) ∧ W.cell? ⟨w.heap.size, 1, none⟩ = some (.int .u8 (s.priv.toNat : Int)) ∧ W.cell? ⟨w.heap.size, 2, none⟩ = some (.slice A s.params.length c) ∧ W.cell? ⟨w.heap.size, 3, none⟩ = some (.string ⟨s.inter.toArray⟩) ∧ W.cell? ⟨w.heap.size, 4, none⟩ = some (.int .u8 (s.final.toNat : Int)) ∧ W.cell? ⟨w.heap.size, 5, none⟩ = some (.string ⟨s.data.toArray⟩) ∧ W.cell? ⟨w2.heap.size, 0, none⟩ = some (.string ⟨f.letter.toArray⟩) ∧ W.cell? ⟨w2.heap.size, 4, none⟩ = some (.string ⟨f.en.toArray⟩)) := Lib.hid fun W hb =>
    ⟨hb, (hb.cell (p := ⟨w.heap.size, 0, none⟩) T1.sq.lt).trans c0, (hb.cell (p := ⟨w.heap.size, 1, none⟩) T1.sq.lt).trans c1, (hb.cell (p := ⟨w.heap.size, 2, none⟩) T1.sq.lt).trans c2, (hb.cell (p := ⟨w.heap.size, 3, none⟩) T1.sq.lt).trans c3, (hb.cell (p := ⟨w.heap.size, 4, none⟩) T1.sq.lt).trans c4, (hb.cell (p := ⟨w.heap.size, 5, none⟩) T1.sq.lt).trans c5, (hb.cell (p := ⟨w2.heap.size, 0, none⟩) hltW).trans f0, (hb.cell (p := ⟨w2.heap.size, 4, none⟩) hltW).trans f4⟩
  have HTab : Hid (∀ W, Below W1.heap.size W1 W → Tab W) := Lib.hid fun W hb => ht.below (T1.be.trans (hb.mono hwW))
  have HRd : Hid (∀ W, Below W1.heap.size W1 W → RdP W A s.params) := Lib.hid fun W hb => hr.below (T1.be.trans (hb.mono hwW))
  have HJ2 := Lib.hid (show Lib.join [[27], f.letter, privL s.priv, parL s.params, s.inter, privL s.final, s.data, f.en] [] = T by rw [← HJ.out]; unfold pcsL; rw [HF.out])
  clear hX c0 c1 c2 c3 c4 c5 f0 f1 f2 f3 f4
  go_region_held (fun w' => Below W1.heap.size W1 w' ∧ w'.cell? ⟨w.heap.size, 0, none⟩ = some (.int .i64 s.kind) ∧ w'.cell? ⟨w.heap.size, 1, none⟩ = some (.int .u8 (s.priv.toNat : Int)) ∧ w'.cell? ⟨w.heap.size, 2, none⟩ = some (.slice A s.params.length c) ∧ w'.cell? ⟨w.heap.size, 3, none⟩ = some (.string ⟨s.inter.toArray⟩) ∧ w'.cell? ⟨w.heap.size, 4, none⟩ = some (.int .u8 (s.final.toNat : Int)) ∧ w'.cell? ⟨w.heap.size, 5, none⟩ = some (.string ⟨s.data.toArray⟩) ∧ w'.cell? ⟨w2.heap.size, 0, none⟩ = some (.string ⟨f.letter.toArray⟩) ∧ w'.cell? ⟨w2.heap.size, 4, none⟩ = some (.string ⟨f.en.toArray⟩))
    (first | exact HS.out _ (Below.refl _ _).drew | exact HS.out _ ((Below.refl _ _).drew.trans hb3) | exact HS.out _ (((Below.refl _ _).drew.trans hb3).alloc hb3.size _) | exact HS.out _ ((((Below.refl _ _).drew.trans hb3).alloc hb3.size _).trans (hb4.mono (Nat.le_trans (show W1.heap.size ≤ w3.heap.size from hb3.size) (by simp)))) | exact HS.out _ (((((Below.refl _ _).drew.trans hb3).alloc hb3.size _).trans (hb4.mono (Nat.le_trans (show W1.heap.size ≤ w3.heap.size from hb3.size) (by simp)))).trans ((HX.out _).2.mono (Nat.le_trans (show W1.heap.size ≤ w3.heap.size from hb3.size) (Nat.le_trans (by simp) hb4.size)))))
    (first
      | (go_at_call 43; refine (char_any s.priv _ s1).mono ?_; rintro e wc ⟨rfl, rfl⟩)
      | (go_at_call 43; refine (char_any s.final _ s2).mono ?_; rintro e wc ⟨rfl, rfl⟩)
      | (go_at_call 44; refine (ptext_any A c s.params _ HPO.out (HTab.out _ (Below.refl _ _).drew) (HRd.out _ (Below.refl _ _).drew)).mono ?_; rintro e w3 ⟨rfl, hb3⟩)
      | (go_at_call 42; refine (join_any _ 8 8 [[27], f.letter, privL s.priv, parL s.params, s.inter, privL s.final, s.data, f.en] [] T _ rfl HJ2.out (by omega) (Nat.le_refl _) (by omega) (Rd.block (heap_alloc_new _ _) rfl)).mono ?_; rintro e w4 ⟨rfl, hb4⟩))
  have hbX : Below W1.heap.size W1 (X w4) := ((((Below.refl _ _).drew.trans hb3).alloc hb3.size _).trans (hb4.mono (Nat.le_trans (show W1.heap.size ≤ w3.heap.size from hb3.size) (by simp)))).trans ((HX.out _).2.mono (Nat.le_trans (show W1.heap.size ≤ w3.heap.size from hb3.size) (Nat.le_trans (by simp) hb4.size)))
  have hrX := (HX.out w4).1
  have hcX := HC.out w4
  clear hV HX HS HTab HRd hb3 hb4
  generalize X w4 = W5 at *
  go_wp2_with fail
  go_ret2
  rw [HTT.out]
  exact ⟨⟨_, _, rfl, hcX, hrX⟩, T1.be.trans (hbX.mono hwW)⟩
end Go.Proofs.YtmagokkegadmiaaGreatDoor
namespace Go.Proofs.YtmagokkegadmiaaGreatDoor
open Go.RowKit

section
variable {P : Program} {ops : Array Oper} {md : Region.Mode} {w1 : World} {K : List Fact} {ix iz : Nat} {R0 R1 : (Tmp → Value) → World → World → Prop} {aF : (Tmp → Value) → Act} {i : Nat} {o : Oper}
/-- Whatever the run tells, of what it told ahead. -/
theorem goesK_any {d : Tmp} (hst : ∀ f ∈ K, f.ok) (hah : Ahead md ops ix i) (hio : ops[i]? = some o) (hx : i ≠ ix) (hz : i ≠ iz) {F : Value → World → Prop} (p : Nat) (hat : K[p]? = some ⟨i, d, F⟩) (huq : ((List.range K.length).all fun q => q == p || ((K[q]?).map fun f => f.i != i && f.d != d).getD true) = true) (hw : ∀ g, Region.wanted o (yielded ops (aF g).tmps) = true) (h0 : o.dst = some d) (hd : ∀ g, (aF g).tmps[d]? = some (g d))
    (hr : ∀ g w, Below w1.heap.size w1 w → (∀ (q : Nat) (f : Fact), K[q]? = some f → edgeB md ops i f.i = true → f.F (g f.d) w) → ∃ v w', (execOp (aF g).eval o).run P w = .ok (.value v) w' ∧ F v w' ∧ Below w.heap.size w w') :
    GoesM P md ops aF (SK md ops w1 K ix iz R0 R1) i o := fun l g w hsz hf hrd hS => by
  rw [if_pos (hw g)]
  have hfx := hah l hsz hS.shut hf
  obtain ⟨h1, h2⟩ := hS.pre hfx
  obtain ⟨v, w', hrun, hme, hb⟩ := hr g w h1 fun q f' hf' he => h2 f' (List.mem_of_getElem? hf') (by
    unfold edgeB at he
    rw [hio] at he
    obtain ⟨e, he, hb⟩ := Array.any_eq_true'.1 he
    simp only [Bool.and_eq_true, beq_iff_eq] at hb
    rw [← hb.2]
    exact hrd e he hb.1)
  exact .inl ⟨v, w', .inl hrun, upd g d v, .inr ⟨d, _, h0, rfl⟩, (fun d' h' => by rw [h0] at h'; cases h'; rw [hd, upd_at]), hS.ghost hst (hS.shut.step hio hrd) hb hx hz hfx (only_me hat huq hme) (only_ot hat huq)⟩
/-- A slice cut, as the run of the cut says. -/
theorem goesK_cut {t : TypeId} {x : Operand} {lo hi mx : Option Operand} {A A' : Option Addr} {n c n' c' : Nat} {lv hv mv : Option Value} (hio : ops[i]? = some o) (hx : i ≠ ix) (hz : i ≠ iz) (hni : (K.all fun f => f.i != i) = true) (hw : ∀ g, Region.wanted o (yielded ops (aF g).tmps) = true) {d0 : Tmp} (h0 : o.dst = some d0) (hd : ∀ g, (aF g).tmps[d0]? = some (.slice A' n' c')) (ho : o.op = .slice t x lo hi mx) (hxv : ∀ g, (aF g).eval x = .slice A n c)
    (hl : ∀ g, lo.map (aF g).eval = lv) (hh : ∀ g, hi.map (aF g).eval = hv) (hm : ∀ g, mx.map (aF g).eval = mv) (ht : P.underlying t = some (.slice (P.elem t))) (hr : ∀ w, (Instr.slice t (.slice A n c) lv hv mv).run P w = .ok (.slice A' n' c') w) :
    GoesM P md ops aF (SK md ops w1 K ix iz R0 R1) i o :=
  goesK_pure (fun _ => .slice A' n' c') hio hx hz hni hw h0 hd fun g w => by
    unfold execOp
    simp only [ho, hxv, hl, hh, hm, Sem.run_bind, run_sliceAt_slice w t _ _ _ _ ht, hr, Result.andThen_ok, Sem.run_pure]
/-- append onto a slice without room: it always makes a row of its own. -/
theorem run_app_full {t e ty : TypeId} {ti : TypeInfo} {z : Value} {bytes : Nat} (w : World) (ht : P.underlying t = some (.slice e)) (hi : P.info? e = some ti) (hz : ti.zero = some z) (hsize : ti.size = 1) (hby : ti.bytes = bytes) (hzs : z.cells.size = 1)
    {A : Option Addr} {n : Nat} {xs : List Value} (hn : xs.length = n) (hr : Rd w A xs) (hA : A = none → n = 0) {a : Addr} {m c : Nat} {news : List Value} (hl : news.length = m) (hm : 0 < m) (hr2 : Rd w (some a) news) (h1 : ∀ u ∈ news, u.oneCell' = true) (h63 : n + m ≤ maxLen) (hlim : (n + m) * bytes ≤ 140737488355328) :
    ∃ v' w', (Builtin.append_ #[t, t] ty #[.slice A n n, .slice (some a) m c]).run P w = .ok v' w' ∧ Own w' w.heap.size e 1 v' (n + m) (xs ++ news) ∧ Below w.heap.size w w' := by
  obtain ⟨b, o, hab, hb, hc⟩ := hr2 (by omega)
  obtain rfl := Option.some.inj hab
  have hnews : ∀ j u, news[j]? = some u → w.cell? ((⟨b, o, none⟩ : Addr).add j) = some u := fun j u hu => by rw [addr_add_at]; exact hc j u hu
  cases A with
  | none =>
    obtain rfl := hA rfl
    obtain ⟨v', w', r1, r2, r3, _⟩ := run_append_own (P := P) w w.heap.size t ty e ti z 1 bytes ht hi hz hsize hby hzs Nat.one_pos (.slice none 0 0) 0 xs ⟨by rw [hn, Nat.zero_mul], .inl ⟨rfl, rfl⟩⟩ ⟨b, o, none⟩ m c news (by rw [hl, Nat.mul_one]) hnews h1 h63 hlim (Nat.le_refl _)
    exact ⟨v', w', r1, Own.of r2, ⟨r3.os, r3.tape, r3.output, r3.size, fun k hk => r3.block k hk (by simp [Value.ownBlock])⟩⟩
  | some d =>
    obtain ⟨v', w', r1, r2, r3⟩ := run_append_arg_grows (P := P) w t ty e ti z 1 bytes ht hi hz hsize hby hzs Nat.one_pos d n n xs (by rw [hn, Nat.mul_one]) (fun j u hu => by
      have hj := (List.getElem?_eq_some_iff.1 hu).1
      obtain ⟨b2, o2, e2, _, hc2⟩ := hr (by omega)
      obtain rfl := Option.some.inj e2
      rw [addr_add_at]
      exact hc2 j u hu) ⟨b, o, none⟩ m c news (by rw [hl, Nat.mul_one]) hnews (by omega) h63 hlim
    exact ⟨v', w', r1, Own.of r2, ⟨r3.os, r3.tape, r3.output, r3.size, fun k hk => r3.block k hk (by simp)⟩⟩
theorem goesK_full {t te : TypeId} {s x : Operand} {ti : TypeInfo} {z : Value} {bytes n m : Nat} {A : Option Addr} {xs news : List Value} {d : Tmp} (hst : ∀ f ∈ K, f.ok) (hah : Ahead md ops ix i) (hio : ops[i]? = some o) (hx : i ≠ ix) (hz : i ≠ iz) {F : Value → World → Prop} (p : Nat) (hat : K[p]? = some ⟨i, d, F⟩) (huq : ((List.range K.length).all fun q => q == p || ((K[q]?).map fun f => f.i != i && f.d != d).getD true) = true) (hw : ∀ g, Region.wanted o (yielded ops (aF g).tmps) = true) (h0 : o.dst = some d) (hd : ∀ g, (aF g).tmps[d]? = some (g d))
    (hop : o.op = .call { callee := .builtin .append, args := #[s, x], argTypes := #[t, t] }) (ht : P.underlying t = some (.slice te)) (hti : P.info? te = some ti) (hzv : ti.zero = some z) (hsize : ti.size = 1) (hby : ti.bytes = bytes) (hzs : z.cells.size = 1)
    (he : ∀ g, (aF g).eval s = .slice A n n) (hn : xs.length = n) (hA : A = none → n = 0) (hl : news.length = m) (hm : 0 < m) (h1 : ∀ u ∈ news, u.oneCell' = true) (h63 : n + m ≤ maxLen) (hlim : (n + m) * bytes ≤ 140737488355328)
    (hr : ∀ w, Below w1.heap.size w1 w → Rd w A xs) (hxr : ∀ g w, Below w1.heap.size w1 w → (∀ (q : Nat) (f : Fact), K[q]? = some f → edgeB md ops i f.i = true → f.F (g f.d) w) → ∃ b c, (aF g).eval x = .slice (some b) m c ∧ Rd w (some b) news)
    (hF : ∀ v w w', Below w1.heap.size w1 w → Own w' w.heap.size te 1 v (n + m) (xs ++ news) → F v w') :
    GoesM P md ops aF (SK md ops w1 K ix iz R0 R1) i o :=
  goesK_any hst hah hio hx hz p hat huq hw h0 hd fun g w hb hK => by
    obtain ⟨b, c, e, hR⟩ := hxr g w hb hK
    obtain ⟨v', w', hrun, h2, h3⟩ := run_app_full (P := P) (ty := o.type) w ht hti hzv hsize hby hzs hn (hr w hb) hA (a := b) (c := c) hl hm hR h1 h63 hlim
    refine ⟨v', w', ?_, hF v' w w' hb h2, h3⟩
    unfold execOp
    simp only [hop, resolve, invoke, builtin, Sem.run_bind, Sem.run_pure, Result.andThen_ok, List.map_toArray, List.map_cons, List.map_nil, he, e, hrun]
/-- A slice cut at a place, without room behind its end. -/
theorem cutf_run {T e : TypeId} (he : P.elem T = e) (hT : P.underlying T = some (.slice e)) (hs : ∀ w, (sizeOf e).run P w = .ok 1 w) (A : Option Addr) (n c k : Nat) (hk : k ≤ n) (hn : n ≤ c) :
    ∃ A', (∀ w : World, (Instr.slice T (.slice A n c) (some (.int .i64 (k : Int))) (some (.int .i64 (n : Int))) (some (.int .i64 (n : Int)))).run P w = .ok (.slice A' (n - k) (n - k)) w) ∧ (A' = none → A = none) ∧
      ∀ (S : Nat → Prop) (w : World) (l : List Value), l.length = n → RdOff w S A l → RdOff w S A' (l.drop k) := by
  subst he
  refine ⟨if n = k then A else A.map (·.add (k * 1)), fun w => ?_, fun h => ?_, fun S w l hl hr => ?_⟩
  · rw [run_slice_lhm w T A n c hT .i64 .i64 .i64 (k : Int) (n : Int) (n : Int) (by omega) (by omega) (by omega) (by omega), hs]
    simp [Result.andThen, sliced]
  · split at h
    · exact h
    · simpa using h
  · intro hp
    rw [List.length_drop] at hp
    obtain ⟨b, o, rfl, hb, hn, hc⟩ := hr (by omega)
    rw [if_neg (by omega)]
    refine ⟨b, o + k, ?_, hb, hn, fun i u hu => ?_⟩
    · rw [Option.map_some, addr_add_at, Nat.mul_one]
    · rw [Nat.add_assoc]
      apply hc
      simp only [List.getElem?_drop] at hu
      exact hu
/-- A name given to what the run told ahead. -/
theorem goesK_name {d d' : Tmp} {i' p' : Nat} (hst : ∀ f ∈ K, f.ok) (hah : Ahead md ops ix i) (hio : ops[i]? = some o) (hx : i ≠ ix) (hz : i ≠ iz) {F : Value → World → Prop} (p : Nat) (hat : K[p]? = some ⟨i, d, F⟩) (hat' : K[p']? = some ⟨i', d', F⟩) (hed : edgeB md ops i i' = true) (huq : ((List.range K.length).all fun q => q == p || ((K[q]?).map fun f => f.i != i && f.d != d).getD true) = true) (hw : ∀ g, Region.wanted o (yielded ops (aF g).tmps) = true) (h0 : o.dst = some d) (hd : ∀ g, (aF g).tmps[d]? = some (g d))
    (hr : ∀ g w, (execOp (aF g).eval o).run P w = .ok (.value (g d')) w) :
    GoesM P md ops aF (SK md ops w1 K ix iz R0 R1) i o :=
  goesK_any hst hah hio hx hz p hat huq hw h0 hd fun g w _ hK => ⟨g d', w, hr g w, hK p' _ hat' hed, Below.refl _ _⟩
/-- A struct of two fields built, the second as the run told it. -/
theorem goesK_build2 {t : TypeId} {x y : Operand} {xv : Value} {d d' : Tmp} {i' p' : Nat} {F' : Value → World → Prop} (hst : ∀ f ∈ K, f.ok) (hah : Ahead md ops ix i) (hio : ops[i]? = some o) (hx : i ≠ ix) (hz : i ≠ iz) {F : Value → World → Prop} (p : Nat) (hat : K[p]? = some ⟨i, d, F⟩) (hat' : K[p']? = some ⟨i', d', F'⟩) (hed : edgeB md ops i i' = true) (huq : ((List.range K.length).all fun q => q == p || ((K[q]?).map fun f => f.i != i && f.d != d).getD true) = true) (hw : ∀ g, Region.wanted o (yielded ops (aF g).tmps) = true) (h0 : o.dst = some d) (hd : ∀ g, (aF g).tmps[d]? = some (g d))
    (hop : o.op = .build t #[(0, x), (1, y)]) (hxv : ∀ g, (aF g).eval x = xv) (hyv : ∀ g, (aF g).eval y = g d') (hr : ∀ v w, F' v w → (Instr.build t #[(0, xv), (1, v)]).run P w = .ok (.agg #[xv, v]) w ∧ F (.agg #[xv, v]) w) :
    GoesM P md ops aF (SK md ops w1 K ix iz R0 R1) i o :=
  goesK_any hst hah hio hx hz p hat huq hw h0 hd fun g w _ hK => by
    obtain ⟨h1, h2⟩ := hr (g d') w (hK p' _ hat' hed)
    refine ⟨_, w, ?_, h2, Below.refl _ _⟩
    unfold execOp
    simp only [hop, List.map_toArray, List.map_cons, List.map_nil, hxv, hyv, Sem.run_bind, h1, Result.andThen_ok, Sem.run_pure]
end
end Go.Proofs.YtmagokkegadmiaaGreatDoor
namespace Go.Proofs.YtmagokkegadmiaaGreatDoor
open Go.RowKit

theorem take_gen (k : Int) (hk : k = 1 ∨ k = 2 ∨ k = 3 ∨ k = 4 ∨ k = 5) (g : Nat) (A : Option Addr) (c : Nat) (l r : List UInt8) (w : World) (hlc : l.length ≤ c) (hl : l.length ≤ 4294967296) (ht : TabIn g w) (h : Rdr w g A c l (.int .i64 k) (.int .u8 0) (.slice none 0 0) (.string ⟨#[]⟩) (.int .u8 0) (.string ⟨#[]⟩) r) :
    Calls Tryz.prog 55 #[.pointer (some ⟨g, 0, none⟩), fmV (formF k)] w (TakePost k g A c l r w) := by
  rcases hk with rfl | rfl | rfl | rfl | rfl
  · exact take1_any g A c l r w hlc hl ht h
  · exact take2_any g A c l r w hlc hl ht h
  · exact take3_any g A c l r w hlc hl ht h
  · exact take4_any g A c l r w hlc hl ht h
  · exact take5_any g A c l r w hlc hl ht h
theorem read_bounds (k : Int) (r : List UInt8) : (readF k r).1.kind = k ∧ parOk (readF k r).1.params = true ∧ (readF k r).1.inter.length ≤ 2 := by
  refine ⟨rfl, ?_, ?_⟩
  · unfold readF rd2
    dsimp only
    split
    · exact (paramsF_app _).2
    · rfl
  · unfold readF rd3
    dsimp only
    split
    · exact runF_len _ _ _ _
    · simp
theorem kind_step {l : List UInt8} {k : Int} (hk : k = 1 ∨ k = 2 ∨ k = 3 ∨ k = 4 ∨ k = 5) (h : ∀ j : Int, 1 ≤ j → j < k → skipB (headF j) l = false) (hs : skipB (headF k) l = true) : kindF l = k := by
  have e1 : headF 1 = [27, 91] := rfl
  have e2 : headF 2 = [27, 79] := rfl
  have e3 : headF 3 = [27, 80] := rfl
  have e4 : headF 4 = [27, 93] := rfl
  have e5 : headF 5 = [27] := rfl
  unfold kindF
  rcases hk with rfl | rfl | rfl | rfl | rfl
  · rw [e1] at hs; rw [if_pos hs]
  · have h1 := h 1 (by omega) (by omega)
    rw [e1] at h1; rw [e2] at hs
    rw [h1, hs]; rfl
  · have h1 := h 1 (by omega) (by omega)
    have h2 := h 2 (by omega) (by omega)
    rw [e1] at h1; rw [e2] at h2; rw [e3] at hs
    rw [h1, h2, hs]; rfl
  · have h1 := h 1 (by omega) (by omega)
    have h2 := h 2 (by omega) (by omega)
    have h3 := h 3 (by omega) (by omega)
    rw [e1] at h1; rw [e2] at h2; rw [e3] at h3; rw [e4] at hs
    rw [h1, h2, h3, hs]; rfl
  · have h1 := h 1 (by omega) (by omega)
    have h2 := h 2 (by omega) (by omega)
    have h3 := h 3 (by omega) (by omega)
    have h4 := h 4 (by omega) (by omega)
    rw [e1] at h1; rw [e2] at h2; rw [e3] at h3; rw [e4] at h4; rw [e5] at hs
    rw [h1, h2, h3, h4, hs]; rfl
theorem kind_none {l : List UInt8} (h : ∀ j : Int, 1 ≤ j → j < 6 → skipB (headF j) l = false) : kindF l = 0 := by
  have h1 : skipB [27, 91] l = false := h 1 (by omega) (by omega)
  have h2 : skipB [27, 79] l = false := h 2 (by omega) (by omega)
  have h3 : skipB [27, 80] l = false := h 3 (by omega) (by omega)
  have h4 : skipB [27, 93] l = false := h 4 (by omega) (by omega)
  have h5 : skipB [27] l = false := h 5 (by omega) (by omega)
  unfold kindF
  rw [h1, h2, h3, h4, h5]; rfl

/-- What Take tells. -/
def TkP (l : List UInt8) (w : World) (e : Ending) (w' : World) : Prop :=
  (∀ s t, progF l = some (s, t) → ∃ A c, e = .returned (.tuple #[sqV s A c, .int .i64 ((l.length - t.length : Nat) : Int), .int .i64 0]) ∧ RdP w' A s.params) ∧
  (progF l = none → e = .returned (.tuple #[zeroS, .int .i64 0, .int .i64 2])) ∧ Below w.heap.size w w'

theorem tk_none {l : List UInt8} {w w' : World} (h : progF l = none) (hb : Below w.heap.size w w') : TkP l w (.returned (.tuple #[zeroS, .int .i64 0, .int .i64 2])) w' :=
  ⟨fun s t e => (by rw [h] at e; cases e), fun _ => rfl, hb⟩
theorem tk_some {l t : List UInt8} {s : Sq} {w w' : World} {A : Option Addr} {np c n : Nat} (h : progF l = some (s, t)) (hp : s.params.length = np) (hn : l.length - t.length = n) (hr : RdP w' A s.params) (hb : Below w.heap.size w w') :
    TkP l w (.returned (.tuple #[.agg #[.int .i64 s.kind, .int .u8 (s.priv.toNat : Int), .slice A np c, .string ⟨s.inter.toArray⟩, .int .u8 (s.final.toNat : Int), .string ⟨s.data.toArray⟩], .int .i64 (n : Int), .int .i64 0])) w' := by
  subst hp
  subst hn
  refine ⟨fun s' t' e => ?_, fun e => (by rw [h] at e; cases e), hb⟩
  rw [h] at e
  simp only [Option.some.injEq, Prod.mk.injEq] at e
  obtain ⟨rfl, rfl⟩ := e
  exact ⟨A, c, rfl, hr⟩
theorem letter_len (k : Int) : (formF k).letter.length ≤ 1 ∧ (formF k).en.length ≤ 2 := by
  unfold formF
  (repeat' split) <;> simp

set_option maxRecDepth 100000 in
set_option maxHeartbeats 8000000 in
theorem ptake_any (A : Option Addr) (c : Nat) (l : List UInt8) (w : World) (hlc : l.length ≤ c) (hl : l.length ≤ 4294967296) (ht : Tab w) (hr : Rd w A (bs l)) :
    Calls Tryz.prog 26 #[.slice A l.length c] w (TkP l w) := by
  go_enter Tryz.func26, Tryz.ntmps26
  go_wp2_with fail
  have hb0 : Below w.heap.size w ((w.alloc (.cells #[.int .i64 0, .int .u8 0, .slice none 0 0, .string ⟨#[]⟩, .int .u8 0, .string ⟨#[]⟩] 52)).alloc (.cells #[.slice A l.length c, .int .i64 0, .int .i64 0, .int .u8 0, .slice none 0 0, .string ⟨#[]⟩, .int .u8 0, .string ⟨#[]⟩] 91)) := ((Below.refl _ w).alloc (Nat.le_refl _) _).alloc (by simp) _
  have hq0 : Blk ((w.alloc (.cells #[.int .i64 0, .int .u8 0, .slice none 0 0, .string ⟨#[]⟩, .int .u8 0, .string ⟨#[]⟩] 52)).alloc (.cells #[.slice A l.length c, .int .i64 0, .int .i64 0, .int .u8 0, .slice none 0 0, .string ⟨#[]⟩, .int .u8 0, .string ⟨#[]⟩] 91)) w.heap.size 52 #[.int .i64 0, .int .u8 0, .slice none 0 0, .string ⟨#[]⟩, .int .u8 0, .string ⟨#[]⟩] := (Blk.new w _ _).alloc _
  have hk0 := Blk.new (w.alloc (.cells #[.int .i64 0, .int .u8 0, .slice none 0 0, .string ⟨#[]⟩, .int .u8 0, .string ⟨#[]⟩] 52)) 91 #[.slice A l.length c, .int .i64 0, .int .i64 0, .int .u8 0, .slice none 0 0, .string ⟨#[]⟩, .int .u8 0, .string ⟨#[]⟩]
  rw [World.size_alloc] at hk0
  have hb1 : Below w.heap.size w (w.alloc (.cells #[.int .i64 0, .int .u8 0, .slice none 0 0, .string ⟨#[]⟩, .int .u8 0, .string ⟨#[]⟩] 52)) := (Below.refl _ w).alloc (Nat.le_refl _) _
  have ht0 : TabIn (w.heap.size + 1) ((w.alloc (.cells #[.int .i64 0, .int .u8 0, .slice none 0 0, .string ⟨#[]⟩, .int .u8 0, .string ⟨#[]⟩] 52)).alloc (.cells #[.slice A l.length c, .int .i64 0, .int .i64 0, .int .u8 0, .slice none 0 0, .string ⟨#[]⟩, .int .u8 0, .string ⟨#[]⟩] 91)) := by
    have h1 : TabIn (w.alloc (.cells #[.int .i64 0, .int .u8 0, .slice none 0 0, .string ⟨#[]⟩, .int .u8 0, .string ⟨#[]⟩] 52)).heap.size (w.alloc (.cells #[.int .i64 0, .int .u8 0, .slice none 0 0, .string ⟨#[]⟩, .int .u8 0, .string ⟨#[]⟩] 52)) := Lib.tabBelow_of_tabIs (ht.below hb1)
    rw [World.size_alloc] at h1
    exact h1.below ((Below.refl _ _).alloc (by simp) _)
  have hrd0 : RdIn (w.heap.size + 1) ((w.alloc (.cells #[.int .i64 0, .int .u8 0, .slice none 0 0, .string ⟨#[]⟩, .int .u8 0, .string ⟨#[]⟩] 52)).alloc (.cells #[.slice A l.length c, .int .i64 0, .int .i64 0, .int .u8 0, .slice none 0 0, .string ⟨#[]⟩, .int .u8 0, .string ⟨#[]⟩] 91)) A (bs l) := fun hp => by
    obtain ⟨b, o, rfl, hb, hc⟩ := hr hp
    exact ⟨b, o, rfl, by omega, fun k u hu => (hb0.cell (p := ⟨b, o + k, none⟩) hb).trans (hc k u hu)⟩
  have hR0 : Rdr ((w.alloc (.cells #[.int .i64 0, .int .u8 0, .slice none 0 0, .string ⟨#[]⟩, .int .u8 0, .string ⟨#[]⟩] 52)).alloc (.cells #[.slice A l.length c, .int .i64 0, .int .i64 0, .int .u8 0, .slice none 0 0, .string ⟨#[]⟩, .int .u8 0, .string ⟨#[]⟩] 91)) (w.heap.size + 1) A c l (.int .i64 0) (.int .u8 0) (.slice none 0 0) (.string ⟨#[]⟩) (.int .u8 0) (.string ⟨#[]⟩) l := ⟨0, Nat.zero_le _, rfl, hrd0, hk0⟩
  clear hk0 hrd0 hb1 hr ht
  have hgw : w.heap.size < w.heap.size + 1 := Nat.lt_succ_self _
  generalize w.heap.size + 1 = g at *
  generalize (w.alloc (.cells #[.int .i64 0, .int .u8 0, .slice none 0 0, .string ⟨#[]⟩, .int .u8 0, .string ⟨#[]⟩] 52)).alloc (.cells #[.slice A l.length c, .int .i64 0, .int .i64 0, .int .u8 0, .slice none 0 0, .string ⟨#[]⟩, .int .u8 0, .string ⟨#[]⟩] 91) = W0 at *
  have hg0 := World.grownBy.refl W0 (some g)
  have hb0lt : g < W0.heap.size := hR0.lt
  go_loopw [6] (fun i wr => ∃ k : Nat, 1 ≤ k ∧ k ≤ 6 ∧ i = .int .i64 k ∧ Rdr wr g A c l (.int .i64 0) (.int .u8 0) (.slice none 0 0) (.string ⟨#[]⟩) (.int .u8 0) (.string ⟨#[]⟩) l ∧ TabIn g wr ∧ W0.grownBy wr (some g) ∧ Blk wr w.heap.size 52 #[.int .i64 0, .int .u8 0, .slice none 0 0, .string ⟨#[]⟩, .int .u8 0, .string ⟨#[]⟩] ∧ Hid (∀ j : Int, 1 ≤ j → j < (k : Int) → skipB (headF j) l = false)) (fun i _ => 6 - (intOf i).toNat)
  case atStart => exact ⟨1, by omega, by omega, rfl, hR0, ht0, hg0, hq0, Lib.hid fun j h1 h2 => absurd h2 (by omega)⟩
  case round =>
    obtain ⟨k, hk1, hk6, rfl, hR, hT, hG, hq, HK⟩ := hrel
    clear hR0 ht0 hg0 hq0
    by_cases h6 : k = 6
    · subst h6
      have HN := Lib.hid (show progF l = none by unfold progF; rw [kind_none HK.out]; rfl)
      obtain ⟨c0, c1, c2, c3, c4, c5⟩ := Blk.cells6 hq
      have z0 := hq.frozen 0
      have z1 := hq.frozen 1
      have z2 := hq.frozen 2
      have z3 := hq.frozen 3
      have z4 := hq.frozen 4
      have z5 := hq.frozen 5
      have hbw : Below w.heap.size w wr := hb0.trans (below_grown hG (Nat.le_of_lt hgw) hb0lt)
      go_wp2_with fail
      refine bodyPost_ret (v := .tuple #[zeroS, .int .i64 0, .int .i64 2]) (by simp [results, Tryz.results26, go_sem, zeroS, c0, c1, c2, c3, c4, c5]) rfl (tk_none HN.out ?_)
      exact below_set6 hbw (Nat.le_refl _) _ _ _ _ _ _
    · have hkk : (k : Int) = 1 ∨ (k : Int) = 2 ∨ (k : Int) = 3 ∨ (k : Int) = 4 ∨ (k : Int) = 5 := by omega
      have HKK := Lib.hid hkk
      have k5 : (k : Int) ≤ 5 := by omega
      have hlf := (letter_len (k : Int)).1
      have hle := (letter_len (k : Int)).2
      have HKB := Lib.hid (show kindB (k : Int) = true from decide_eq_true hkk)
      clear hkk h6
      go_wp2_with fail
      refine (formOf_any (k : Int) _).mono ?_
      rw [HKB.out]
      rintro e w1 ⟨rfl, hbf⟩
      have hR1 := hR.below hbf hR.lt
      have hT1 := hT.below (hbf.mono (Nat.le_of_lt hR.lt))
      have hG1 := grown_trans hG (grown_below (some g) hbf)
      have hq1 := hq.below hbf hq.lt
      clear hR hT hG hq hbf
      obtain ⟨f, hf⟩ : ∃ f, formF (k : Int) = f := ⟨_, rfl⟩
      have HF := Lib.hid hf
      rw [hf] at hlf hle ⊢
      clear hf
      have hFM := Blk.new w1 78 (frmC f)
      have hR2 := hR1.below ((Below.refl _ w1).alloc (Nat.le_refl _) (.cells (frmC f) 78)) hR1.lt
      have hT2 := hT1.below ((Below.refl g w1).alloc (Nat.le_of_lt hR1.lt) (.cells (frmC f) 78))
      have hG2 : W0.grownBy (w1.alloc (.cells (frmC f) 78)) (some g) := grown_trans hG1 (World.grownBy_alloc w1 _ _)
      have hq2 := hq1.alloc (.cells (frmC f) 78)
      have hgf : g < w1.heap.size := hR1.lt
      have hqf : w.heap.size < w1.heap.size := hq1.lt
      clear hR1 hT1 hG1 hq1
      unfold fmV
      go_upto_region 6 with (fail)
      unfold frmC at hR2 hT2 hG2 hq2 hFM
      generalize w1.alloc (.cells #[.string ⟨f.letter.toArray⟩, .bool f.body, .bool f.inter, .int .u8 (f.first.toNat : Int), .string ⟨f.en.toArray⟩] 78) = W2 at *
      obtain ⟨f0, f1, f2, f3, f4⟩ := Blk.cells5 hFM
      have hcat : (⟨#[27]⟩ : ByteArray) ++ (⟨f.letter.toArray⟩ : ByteArray) = ⟨(headF (k : Int)).toArray⟩ := by
        rw [show headF (k : Int) = 27 :: f.letter by unfold headF; rw [HF.out]]
        exact str_cat [27] f.letter _ rfl
      cases hs : skipB (headF (k : Int)) l with
      | false =>
        have HS := Lib.hid hs
        clear hs
        go_wp2_with fail
        refine (skip_no g A c l (headF (k : Int)) l _ _ _ _ _ _ _ HS.out hlc hl (by rw [show headF (k : Int) = 27 :: f.letter by unfold headF; rw [HF.out]]; simp; omega) hR2).mono ?_
        rintro e w3 ⟨rfl, hR3, hg3⟩
        have hT3 := hT2.grown hg3 hR2.lt
        have hG3 := grown_trans hG2 hg3
        have hq3 := hq2.grown hg3 (fun e => by injection e; omega)
        clear hR2 hT2 hG2 hq2 hg3
        go_wp2_with fail
        go_roundw
        case rel =>
          refine ⟨k + 1, by omega, by omega, by go_num, hR3, hT3, hG3, hq3, Lib.hid fun j h1 h2 => ?_⟩
          by_cases e : j = (k : Int)
          · rw [e]; exact HS.out
          · exact HK.out j h1 (by omega)
        case measure => simp [intOf]; omega
      | true =>
        have HS := Lib.hid hs
        have HKF := Lib.hid (kind_step HKK.out HK.out hs)
        clear hs HK
        obtain ⟨r, hr⟩ : ∃ r, l.drop (headF (k : Int)).length = r := ⟨_, rfl⟩
        have HRR := Lib.hid hr
        have HPR := Lib.hid (show progF l = endF (k : Int) (readF (k : Int) r) by unfold progF; rw [HKF.out, if_neg (by omega), hr])
        clear hr
        go_wp2_with fail
        refine (skip_yes g A c l (headF (k : Int)) l _ _ _ _ _ _ _ HS.out hlc hl (by rw [show headF (k : Int) = 27 :: f.letter by unfold headF; rw [HF.out]]; simp; omega) hR2).mono ?_
        rw [HRR.out]
        rintro e w3 ⟨rfl, hR3, hg3⟩
        have hT3 := hT2.grown hg3 hR2.lt
        have hG3 := grown_trans hG2 hg3
        have hq3 := hq2.grown hg3 (fun e => by injection e; omega)
        have hF3 := hFM.grown hg3 (fun e => by injection e; omega)
        clear hR2 hT2 hG2 hq2 hg3 hFM f0 f1 f2 f3 f4
        have hs4 := grown_setCell g 2 (Value.int IntKind.i64 (k : Int)) w3
        have hR4 := hR3.set0 (.int .i64 (k : Int))
        have hT4 := hT3.grown hs4 hR3.lt
        have hG4 := grown_trans hG3 hs4
        have hq4 := hq3.grown hs4 (fun e => by injection e; omega)
        have hF4 := hF3.grown hs4 (fun e => by injection e; omega)
        obtain ⟨⟨c2, c3, c4, c5, c6, c7⟩, z2, z3, z4, z5, z6, z7⟩ := hR3.cells
        obtain ⟨f0, f1, f2, f3, f4⟩ := Blk.cells5 hF4
        clear hR3 hT3 hG3 hq3 hF3 hs4
        go_wp2_with fail
        clear c2 c3 c4 c5 c6 c7 z2 z3 z4 z5 z6 z7 f0 f1 f2 f3 f4 hF4
        generalize w3.setCell ⟨g, 2, none⟩ (Value.int IntKind.i64 (k : Int)) = W4 at *
        rw [← show fmV f = .agg #[.string ⟨f.letter.toArray⟩, .bool f.body, .bool f.inter, .int .u8 (f.first.toNat : Int), .string ⟨f.en.toArray⟩] from rfl, ← HF.out]
        refine (take_gen (k : Int) HKK.out g A c l r _ hlc hl hT4 hR4).mono ?_
        rintro e w5 ⟨⟨Ap, cp, hP5, hR5⟩, rfl, hg5⟩
        have hT5 := hT4.grown hg5 hR4.lt
        have hG5 := grown_trans hG4 hg5
        have hq5 := hq4.grown hg5 (fun e => by injection e; omega)
        clear hR4 hT4 hG4 hq4 hg5
        obtain ⟨b1, b2, b3⟩ := read_bounds (k : Int) r
        obtain ⟨s, hs⟩ : ∃ s, (readF (k : Int) r).1 = s := ⟨_, rfl⟩
        obtain ⟨t, htt⟩ : ∃ t, (readF (k : Int) r).2 = t := ⟨_, rfl⟩
        have HPE := Lib.hid (show progF l = endF (k : Int) (s, t) by rw [HPR.out, ← hs, ← htt])
        rw [hs, htt] at hR5
        rw [hs] at hP5 b1 b2 b3
        rw [htt, HF.out]
        rw [HF.out] at hR5
        clear HPR hs htt
        have HB1 := Lib.hid b1
        have HB2 := Lib.hid b2
        clear b1 b2
        cases hsk : skipB f.en t with
        | false =>
          have HN := Lib.hid (show progF l = none by rw [HPE.out]; unfold endF; rw [if_neg]; rw [HF.out, hsk]; simp)
          clear hsk
          have hbw : Below w.heap.size w w5 := hb0.trans (below_grown hG5 (Nat.le_of_lt hgw) hb0lt)
          obtain ⟨c0, c1, c2, c3, c4, c5⟩ := Blk.cells6 hq5
          have z0 := hq5.frozen 0
          have z1 := hq5.frozen 1
          have z2 := hq5.frozen 2
          have z3 := hq5.frozen 3
          have z4 := hq5.frozen 4
          have z5 := hq5.frozen 5
          go_wp2_with fail
          refine bodyPost_ret (v := .tuple #[zeroS, .int .i64 0, .int .i64 2]) (by simp [results, Tryz.results26, go_sem, zeroS, c0, c1, c2, c3, c4, c5]) rfl (tk_none HN.out ?_)
          exact below_set6 hbw (Nat.le_refl _) _ _ _ _ _ _
        | true =>
          rw [hsk, if_pos rfl] at hR5
          have HSK := Lib.hid hsk
          clear hsk
          rw [← HB1.out] at hR5
          obtain ⟨np, hnp⟩ : ∃ np, s.params.length = np := ⟨_, rfl⟩
          have HNP := Lib.hid hnp
          obtain ⟨l16, l8⟩ := parOk_lens HB2.out
          obtain ⟨⟨c2, c3, c4, c5, c6, c7⟩, z2, z3, z4, z5, z6, z7⟩ := hR5.cells
          obtain ⟨m, hm⟩ : ∃ m, mayS s = m := ⟨_, rfl⟩
          have HM := Lib.hid hm
          have hL8 : Hid (∀ p ∈ s.params, p.length ≤ 4294967296) := Lib.hid fun p hp => by have := (l8 p hp).1; omega
          clear hnp hm l8
          go_wp2_with fail
          clear c2 c3 c4 c5 c6 c7 z2 z3 z4 z5 z6 z7
          refine (pmay_any s Ap cp m _ HM.out (by omega) hL8.out (by omega) hP5.rdp).mono ?_
          rintro e w6 ⟨rfl, hb6⟩
          have hR6 := hR5.below hb6 hR5.lt
          have hG6 := grown_trans hG5 (grown_below (some g) hb6)
          have hq6 := hq5.below hb6 hq5.lt
          have hP6 := hP5.grown (grown_below (some g) hb6)
          clear hR5 hG5 hq5 hP5 hT5 hb6
          by_cases h0 : m = 0
          · subst h0
            have HY := Lib.hid (show progF l = some (s, t.drop f.en.length) by rw [HPE.out]; unfold endF; rw [if_pos ⟨by rw [HF.out]; exact HSK.out, HM.out⟩, HF.out])
            have hbw : Below w.heap.size w w6 := hb0.trans (below_grown hG6 (Nat.le_of_lt hgw) hb0lt)
            obtain ⟨⟨c2, c3, c4, c5, c6, c7⟩, z2, z3, z4, z5, z6, z7⟩ := hR6.cells
            have hR7 := hR6
            obtain ⟨at_, hat, hdr, hrd6, hblk6⟩ := hR7
            have c1 : w6.cell? ⟨g, 1, none⟩ = some (.int .i64 (at_ : Int)) := hblk6.cell 1
            obtain ⟨d0, d1, d2, d3, d4, d5⟩ := Blk.cells6 hq6
            have y0 := hq6.frozen 0
            have y1 := hq6.frozen 1
            have y2 := hq6.frozen 2
            have y3 := hq6.frozen 3
            have y4 := hq6.frozen 4
            have y5 := hq6.frozen 5
            have HLN := Lib.hid (show l.length - (t.drop f.en.length).length = at_ by
              rw [← hdr, List.length_drop]; omega)
            have hLt : at_ = l.length - (t.drop f.en.length).length := HLN.out.symm
            have HLT := Lib.hid hLt
            clear hdr hat hrd6 hblk6 hLt
            go_wp2_with fail
            go_region
            go_wp2_with fail
            refine bodyPost_ret (v := .tuple #[.agg #[.int .i64 s.kind, .int .u8 (s.priv.toNat : Int), .slice Ap s.params.length cp, .string ⟨s.inter.toArray⟩, .int .u8 (s.final.toNat : Int), .string ⟨s.data.toArray⟩], .int .i64 (at_ : Int), .int .i64 0]) (by simp [results, Tryz.results26, go_sem, d0, d1, d2, d3, d4, d5]) rfl (tk_some HY.out rfl HLN.out ?_ ?_)
            · have g1 := grown_set6 w6 w.heap.size (.int .i64 s.kind) (.int .u8 (s.priv.toNat : Int)) (.slice Ap s.params.length cp) (.string ⟨s.inter.toArray⟩) (.int .u8 (s.final.toNat : Int)) (.string ⟨s.data.toArray⟩)
              have h7 := (hP6.other hq6 (by decide) (by decide) g1).rdp
              exact rdp_drew h7
            · have h8 := below_set6 hbw (Nat.le_refl _) (.int .i64 s.kind) (.int .u8 (s.priv.toNat : Int)) (.slice Ap s.params.length cp) (.string ⟨s.inter.toArray⟩) (.int .u8 (s.final.toNat : Int)) (.string ⟨s.data.toArray⟩)
              exact h8.drew
          · have t1 : (m == 0) = false := beq_false_of_ne h0
            have t2 : (m != 0) = true := by simp [bne, t1]
            have HN := Lib.hid (show progF l = none by rw [HPE.out]; unfold endF; rw [if_neg]; exact fun h => h0 (HM.out.symm.trans h.2))
            clear h0
            have hbw : Below w.heap.size w w6 := hb0.trans (below_grown hG6 (Nat.le_of_lt hgw) hb0lt)
            obtain ⟨c0, c1, c2, c3, c4, c5⟩ := Blk.cells6 hq6
            have z0 := hq6.frozen 0
            have z1 := hq6.frozen 1
            have z2 := hq6.frozen 2
            have z3 := hq6.frozen 3
            have z4 := hq6.frozen 4
            have z5 := hq6.frozen 5
            go_wp2_with fail
            refine bodyPost_ret (v := .tuple #[zeroS, .int .i64 0, .int .i64 2]) (by simp [results, Tryz.results26, go_sem, zeroS, c0, c1, c2, c3, c4, c5]) rfl (tk_none HN.out ?_)
            exact below_set6 hbw (Nat.le_refl _) _ _ _ _ _ _
/-- Take, where there is a sequence, and where there is none. -/
def TkYes (s : Sq) (m : Nat) (w : World) (e : Ending) (w' : World) : Prop := (∃ A c, e = .returned (.tuple #[sqV s A c, .int .i64 (m : Int), .int .i64 0]) ∧ RdP w' A s.params) ∧ Below w.heap.size w w'
theorem ptake_yes (A : Option Addr) (n c : Nat) (l : List UInt8) (s : Sq) (m : Nat) (w : World) (hs : takeS l = some (s, m)) (hn : l.length = n) (hlc : n ≤ c) (hl : n ≤ 4294967296) (ht : Tab w) (hr : Rd w A (bs l)) :
    Calls Tryz.prog 26 #[.slice A n c] w (TkYes s m w) := by
  subst hn
  obtain ⟨h1, h2⟩ := prog_some hs
  refine (ptake_any A c l w hlc hl ht hr).mono ?_
  rintro e w' ⟨hp, _, hb⟩
  obtain ⟨A', c', rfl, hr'⟩ := hp s _ h1
  refine ⟨⟨A', c', ?_, hr'⟩, hb⟩
  rw [List.length_drop, show l.length - (l.length - m) = m by omega]
theorem ptake_no (A : Option Addr) (n c : Nat) (l : List UInt8) (w : World) (hs : takeS l = none) (hn : l.length = n) (hlc : n ≤ c) (hl : n ≤ 4294967296) (ht : Tab w) (hr : Rd w A (bs l)) :
    Calls Tryz.prog 26 #[.slice A n c] w fun e w' => e = .returned (.tuple #[zeroS, .int .i64 0, .int .i64 2]) ∧ Below w.heap.size w w' := by
  subst hn
  refine (ptake_any A c l w hlc hl ht hr).mono ?_
  rintro e w' ⟨_, hp, hb⟩
  exact ⟨hp (prog_none hs), hb⟩
end Go.Proofs.YtmagokkegadmiaaGreatDoor
