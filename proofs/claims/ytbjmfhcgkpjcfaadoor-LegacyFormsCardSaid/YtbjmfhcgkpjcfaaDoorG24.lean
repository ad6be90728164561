/-
  A region that draws its order, in which memory is made: what an operation yields may hang on what the run alone tells (where a new block lies): one look at each operation serves whatever order is picked. Layer 3, walked: the program's Put.
-/
import Derived.Test.YtbjmfhcgkpjcfaaDoorG06
import Derived.Test.YtbjmfhcgkpjcfaaDoorG14
import Derived.Test.YtbjmfhcgkpjcfaaDoorG15
import Derived.Test.YtbjmfhcgkpjcfaaDoorG18
import Derived.Test.YtbjmfhcgkpjcfaaDoorG20
import Derived.Test.YtbjmfhcgkpjcfaaDoorG23
import Derived.Laws.NewFold
import Derived.Deep.RegionHeld
namespace Go.Proofs.YtbjmfhcgkpjcfaaDoor
open Go.RowKit

section
variable {P : Program} {ops : Array Oper} {Q : Exit → Act → World → Prop} {md : Region.Mode}

/-- What the run alone tells of some slots, with one of them told anew. -/
def upd (g : Tmp → Value) (d : Tmp) (v : Value) : Tmp → Value := fun t => if t = d then v else g t
theorem upd_at (g : Tmp → Value) (d : Tmp) (v : Value) : upd g d v d = v := if_pos rfl
theorem upd_ne (g : Tmp → Value) {d t : Tmp} (v : Value) (h : t ≠ d) : upd g d v t = g t := if_neg h
/-- The frame, with the slots ds as g tells. -/
def fillT (g : Tmp → Value) : List Tmp → Array Value → Array Value
  | [], t => t
  | d :: ds, t => fillT g ds (t.setIfInBounds d (g d))
def fillA (a : Act) (ds : List Tmp) (g : Tmp → Value) : Act := ⟨fillT g ds a.tmps, a.defers⟩
theorem fillT_size (g : Tmp → Value) : ∀ (ds : List Tmp) (t : Array Value), (fillT g ds t).size = t.size
  | [], _ => rfl
  | d :: ds, t => by
    show (fillT g ds _).size = _
    rw [fillT_size g ds, Array.size_setIfInBounds]
theorem fillT_other (g : Tmp → Value) (d : Tmp) (v : Value) {t : Tmp} (ht : t ≠ d) : ∀ (ds : List Tmp) (s s' : Array Value), s.size = s'.size → s[t]? = s'[t]? → (fillT (upd g d v) ds s)[t]? = (fillT g ds s')[t]?
  | [], _, _, _, h => h
  | x :: ds, s, s', hz, h => by
    refine fillT_other g d v ht ds _ _ (by simp [hz]) ?_
    by_cases hx : x = t
    · subst hx
      rw [upd_ne g v ht]
      by_cases hl : x < s.size
      · rw [Array.getElem?_setIfInBounds_self_of_lt hl, Array.getElem?_setIfInBounds_self_of_lt (hz ▸ hl)]
      · rw [Array.getElem?_eq_none (by rw [Array.size_setIfInBounds]; exact Nat.le_of_not_lt hl), Array.getElem?_eq_none (by rw [Array.size_setIfInBounds, ← hz]; exact Nat.le_of_not_lt hl)]
    · rw [Array.getElem?_setIfInBounds_ne hx, Array.getElem?_setIfInBounds_ne hx, h]
/-- What an operation yields, and leaves: the run may tell one slot anew, the operation's own. -/
def After (aF : (Tmp → Value) → Act) (S : Array Bool → (Tmp → Value) → World → Prop) (i : Nat) (o : Oper) (l : Array Bool) (g : Tmp → Value) (v : Value) (w : World) : Prop :=
  ∃ g', (g' = g ∨ ∃ d u, o.dst = some d ∧ g' = upd g d u) ∧ (∀ d, o.dst = some d → (aF g').tmps[d]? = some v) ∧ S (l.setIfInBounds i true) g' w
/-- What an operation does in every state that meets S. -/
def GoesM (P : Program) (md : Region.Mode) (ops : Array Oper) (aF : (Tmp → Value) → Act) (S : Array Bool → (Tmp → Value) → World → Prop) (i : Nat) (o : Oper) : Prop :=
  ∀ l g w, l.size = ops.size → l.getD i false = false → (∀ e ∈ o.after, Region.binds md e = true → l.getD e.on false = true) → S l g w →
    if Region.wanted o (yielded ops (aF g).tmps) = true then
      (∃ v w', ((execOp (aF g).eval o).run P w = .ok (.value v) w' ∨ ((execOp (aF g).eval o).run P w = .ok .skip w' ∧ v = undef)) ∧ After aF S i o l g v w') ∨
      (∃ f args w1, (execOp (aF g).eval o).run P w = .ok (.enter f args) w1 ∧ Calls P f args w1 fun e w' => ∃ v, e = .returned v ∧ After aF S i o l g v w')
    else After aF S i o l g undef w
def GoesAllM (P : Program) (md : Region.Mode) (ops : Array Oper) (aF : (Tmp → Value) → Act) (S : Array Bool → (Tmp → Value) → World → Prop) : Prop :=
  ∀ (i : Nat) (o : Oper), ops[i]? = some o → GoesM P md ops aF S i o
theorem Near.turn {aF : (Tmp → Value) → Act} (hF : ∀ g d v, (∀ t, t ≠ d → (aF (upd g d v)).tmps[t]? = (aF g).tmps[t]?) ∧ (aF (upd g d v)).defers = (aF g).defers ∧ (aF (upd g d v)).tmps.size = (aF g).tmps.size)
    {g g' : Tmp → Value} {l : Array Bool} {a : Act} {i : Nat} {o : Oper} (ho : ops[i]? = some o) (hl : l.getD i false = false) (hg : g' = g ∨ ∃ d u, o.dst = some d ∧ g' = upd g d u) (h : Near ops (aF g) l a) : Near ops (aF g') l a := by
  rcases hg with rfl | ⟨d, u, hd, rfl⟩
  · exact h
  · obtain ⟨h1, h2, h3⟩ := hF g d u
    refine ⟨h.defers.trans h2.symm, h.size.trans h3.symm, fun t ht => ?_⟩
    have hne : t ≠ d := fun e => by
      have := ht i o ho (by rw [hd, e])
      rw [hl] at this
      cases this
    rw [h1 t hne]
    exact h.at_ t ht
theorem wpAny_made (hc : regCheck md ops = true) (hs : Region.noSelect ops = true) {aF : (Tmp → Value) → Act} {S : Array Bool → (Tmp → Value) → World → Prop}
    (hF : ∀ g d v, (∀ t, t ≠ d → (aF (upd g d v)).tmps[t]? = (aF g).tmps[t]?) ∧ (aF (upd g d v)).defers = (aF g).defers ∧ (aF (upd g d v)).tmps.size = (aF g).tmps.size)
    (hg : GoesAllM P md ops aF S) (hQ : ∀ l g w, (∀ j, j < ops.size → l.getD j false = true) → S l g w → Q .normal (aF g) w) :
    ∀ (fuel : Nat) (l : Array Bool) (a : Act) (w : World), l.size = ops.size → l.toList.countP (fun b => !b) ≤ fuel → (∃ g, Near ops (aF g) l a ∧ S l g w) → wpAny P md ops Q fuel l a w := by
  have fin : ∀ (l : Array Bool) (a : Act) (w : World), l.size = ops.size → Region.ready md ops l = [] → (∃ g, Near ops (aF g) l a ∧ S l g w) → Q .normal a w := fun l a w hsz hr ⟨g, hn, hS⟩ => by
    have all : ∀ j, j < ops.size → l.getD j false = true := by
      intro j
      induction j using Nat.strongRecOn with
      | _ j ih =>
        intro hj
        have ho : ops[j]? = some ops[j] := Array.getElem?_eq_getElem hj
        cases hh : l.getD j false with
        | true => rfl
        | false =>
          exfalso
          have hm : j ∈ Region.ready md ops l := mem_ready.2 ⟨by
            rw [Array.getD_eq_getD_getElem?] at hh ⊢
            rw [Array.getElem?_eq_getElem (by omega)] at hh ⊢
            exact hh, ops[j], ho, fun e he hb => by
            have h1 := List.all_eq_true.1 hc j (List.mem_range.2 hj)
            simp only [ho, Bool.and_eq_true] at h1
            have h2 := Array.all_eq_true_iff_forall_mem.1 h1.2 e he
            simp only [hb, Bool.not_true, Bool.false_or, decide_eq_true_eq] at h2
            exact ih e.on h2 (by omega)⟩
          rw [hr] at hm
          cases hm
    rw [hn.eq all]
    exact hQ l g w all hS
  intro fuel
  induction fuel with
  | zero =>
    intro l a w hsz hcnt hn
    have h0 := unl_none l.toList (by omega)
    have hr : Region.ready md ops l = [] := by
      rw [List.eq_nil_iff_forall_not_mem]
      intro j hj
      obtain ⟨h1, o, ho, _⟩ := mem_ready.1 hj
      have hlt : j < l.size := by rw [hsz]; exact (Array.getElem?_eq_some_iff.1 ho).1
      have h2 := h0 j (by simpa using hlt)
      rw [Array.getElem?_toList] at h2
      rw [Array.getD_eq_getD_getElem?, h2] at h1
      cases h1
    exact ⟨hr, fin l a w hsz hr hn⟩
  | succ fuel ih =>
    intro l a w hsz hcnt hnn
    refine ⟨fun hr => fin l a w hsz hr hnn, fun i hi => ?_⟩
    obtain ⟨g, hn, hS⟩ := hnn
    obtain ⟨h1, o, ho, hall⟩ := mem_ready.1 hi
    have hlt : i < l.size := by rw [hsz]; exact (Array.getElem?_eq_some_iff.1 ho).1
    have hli : l.toList[i]? = some false := by
      rw [Array.getElem?_toList, Array.getElem?_eq_getElem hlt]
      rw [Array.getD_eq_getD_getElem?, Array.getElem?_eq_getElem hlt] at h1
      exact congrArg some h1
    have h1f : l.getD i false = false := by
      rw [Array.getD_eq_getD_getElem?, ← Array.getElem?_toList, hli]
      rfl
    have hstep : ∀ (v : Value) (w' : World), After aF S i o l g v w' → wpAny P md ops Q fuel (l.setIfInBounds i true) (a.put o.dst v) w' := fun v w' ⟨g', hg', hv, hS'⟩ =>
      ih _ _ w' (by simpa using hsz) (by
        have := unl_set l.toList i hli
        rw [Array.toList_setIfInBounds]
        omega) ⟨g', (hn.turn hF ho h1f hg').put ho hv, hS'⟩
    have hw := hg i o ho l g w hsz h1f hall hS
    have he : execOp a.eval o = execOp (aF g).eval o := execOp_congr o (fun cs b => Region.noSelect_spec hs i o cs b ho) fun x hx => hn.eval x fun t ht => waits hc ho hall (by
      subst ht
      exact List.mem_append_left _ (List.mem_filterMap.2 ⟨.tmp t, by simpa using hx, rfl⟩))
    have hwt : Region.wanted o (yielded ops a.tmps) = Region.wanted o (yielded ops (aF g).tmps) := by
      unfold Region.wanted
      cases hgd : o.guard with
      | none => rfl
      | some gw =>
        obtain ⟨gg, want⟩ := gw
        have hy : yielded ops a.tmps gg = yielded ops (aF g).tmps gg := by
          unfold yielded
          cases ht : (ops[gg]?).bind (·.dst) with
          | none => rfl
          | some t =>
            have := hn.at_ t (waits hc ho hall (by simp [Oper.looksAt, hgd, ht]))
            show (match (some t).bind (a.tmps[·]?) with | some (.bool b) => some b | _ => none) = (match (some t).bind ((aF g).tmps[·]?) with | some (.bool b) => some b | _ => none)
            simp only [Option.bind_some, this]
        simp only [hy]
    unfold wpOp
    simp only [ho]
    rw [hwt]
    by_cases hq : Region.wanted o (yielded ops (aF g).tmps) = true
    · rw [if_pos hq] at hw ⊢
      refine .inl ?_
      unfold Oper.wp
      rw [he]
      rcases hw with ⟨v, w', hrun | ⟨hrun, rfl⟩, hA⟩ | ⟨f, args, w1, hrun, hcall⟩
      · rw [hrun, Oper.upon_value]
        exact hstep v w' hA
      · rw [hrun, Oper.upon_skip]
        exact hstep undef w' hA
      · rw [hrun, Oper.upon_enter]
        refine hcall.mono ?_
        rintro e w' ⟨v, rfl, hA⟩
        exact hstep v w' hA
    · rw [if_neg hq] at hw ⊢
      exact hstep undef w hw
theorem fill_turn (a0 : Act) (ds : List Tmp) (g : Tmp → Value) (d : Tmp) (v : Value) : (∀ t, t ≠ d → (fillA a0 ds (upd g d v)).tmps[t]? = (fillA a0 ds g).tmps[t]?) ∧ (fillA a0 ds (upd g d v)).defers = (fillA a0 ds g).defers ∧ (fillA a0 ds (upd g d v)).tmps.size = (fillA a0 ds g).tmps.size :=
  ⟨fun _ ht => fillT_other g d v ht ds _ _ rfl rfl, rfl, by simp [fillA, fillT_size]⟩
/-- The region, whatever order is picked: memory may be made in it. -/
theorem wp_region_made {id : Nat} {a a0 : Act} {w : World} {S : Array Bool → (Tmp → Value) → World → Prop} (ds : List Tmp) (hm : P.follows .mixedOrders = true) (hc : regCheck .any ops = true) (hs : Region.noSelect ops = true)
    (g0 : Tmp → Value) (hn : Near ops (fillA a0 ds g0) (Array.replicate ops.size false) a) (hS : S (Array.replicate ops.size false) g0 w.drew) (hg : GoesAllM P .any ops (fillA a0 ds) S)
    (hQ : ∀ l g w, (∀ j, j < ops.size → l.getD j false = true) → S l g w → Q .normal (fillA a0 ds g) w) :
    (Code.region id ops true).wp P Q a w :=
  wp_region_any hm (wpAny_made hc hs (fill_turn a0 ds) hg hQ ops.size _ a _ (by simp) (by
    refine Nat.le_trans List.countP_le_length ?_
    simp) ⟨g0, hn, hS⟩)
theorem goesAllM_of {aF : (Tmp → Value) → Act} {S : Array Bool → (Tmp → Value) → World → Prop} (h : ∀ p ∈ ops.toList.zipIdx 0, GoesM P md ops aF S p.2 p.1) : GoesAllM P md ops aF S := fun i o ho => h (o, i) (by
  rw [List.mem_zipIdx_iff_getElem?]
  simpa using ho)
end
end Go.Proofs.YtbjmfhcgkpjcfaaDoor
namespace Go.Proofs.YtbjmfhcgkpjcfaaDoor
open Go.RowKit

/-- A sequence's bytes, piece by piece. -/
def pcsL (s : Sq) : List (List UInt8) := [[27], (formF s.kind).letter, privL s.priv, parL s.params, s.inter, privL s.final, s.data, (formF s.kind).en]
theorem pcs_put {s : Sq} (h : mayS s = 0) : Lib.join (pcsL s) [] = putS s := by
  obtain ⟨_, hv, hp, _, hi, hd, hl, hb⟩ := ok_parts h
  obtain ⟨k, pv, ps, it, f, d⟩ := s
  have hne : ∀ n : Nat, 1 ≤ n → btw n 126 f = true → privL f = [f] := fun n hn h => by
    unfold privL
    rw [if_neg]
    intro e
    rw [e, btw_iff] at h
    simp at h
    omega
  have hk : k = 1 ∨ k = 2 ∨ k = 3 ∨ k = 4 ∨ k = 5 := by
    unfold lastOk at hl
    dsimp only at hl
    split at hl
    · omega
    · split at hl
      · omega
      · simp only [Bool.and_eq_true, decide_eq_true_eq] at hl; omega
  have hj : ∀ l : List (List UInt8), Lib.join l [] = l.flatten := by
    intro l
    match l with
    | [] => rfl
    | [p] => simp [Lib.join]
    | p :: q :: l =>
      rw [join_cons2]
      have : ∀ l : List (List UInt8), Lib.join l [] = l.flatten := by
        intro l
        induction l with
        | nil => rfl
        | cons a l ih =>
          cases l with
          | nil => simp [Lib.join]
          | cons b l => rw [join_cons2, ih]; simp
      rw [this]
      simp
  rw [hj]
  unfold pcsL
  dsimp only at hv hp hi hd ⊢
  rcases hk with rfl | rfl | rfl | rfl | rfl
  · have hf : btw 64 126 f = true := by simpa [lastOk] using hl
    have hd0 : d = [] := by simpa [bareOk] using hb
    subst hd0
    rw [hne 64 (by omega) hf]
    simp [formF, putS, bodyL]
  · have h1 : pv = 0 ∧ ps = [] ∧ it = [] ∧ d = [] := by
      simp [bareOk] at hb
      obtain ⟨⟨⟨a, b⟩, c⟩, e⟩ := hb
      exact ⟨a, b, c, e⟩
    obtain ⟨rfl, rfl, rfl, rfl⟩ := h1
    have hf : btw 64 126 f = true := by simpa [lastOk] using hl
    rw [hne 64 (by omega) hf]
    simp [formF, putS, privL, parL]
  · have hf : btw 64 126 f = true := by simpa [lastOk] using hl
    rw [hne 64 (by omega) hf]
    simp [formF, putS, bodyL]
  · have h1 : pv = 0 ∧ ps = [] ∧ it = [] := by
      simp [bareOk] at hb
      exact ⟨hb.1.1, hb.1.2, hb.2⟩
    have hf : f = 0 := by simpa [lastOk] using hl
    obtain ⟨rfl, rfl, rfl⟩ := h1
    subst hf
    simp [formF, putS, privL, parL]
  · have h1 : pv = 0 ∧ ps = [] ∧ d = [] := by
      simp [bareOk] at hb
      exact ⟨hb.1.1, hb.1.2, hb.2⟩
    obtain ⟨rfl, rfl, rfl⟩ := h1
    have hf : btw 48 126 f = true := by simp [lastOk] at hl; exact hl.1
    rw [hne 48 (by omega) hf]
    simp [formF, putS, privL, parL]
set_option maxRecDepth 100000 in
set_option maxHeartbeats 8000000 in
theorem pput_no (s : Sq) (A : Option Addr) (c : Nat) (m : Int) (w : World) (hm : mayS s = m) (h0 : m ≠ 0) (hp : s.params.length ≤ 4294967296) (hpp : ∀ p ∈ s.params, p.length ≤ 4294967296) (hi : s.inter.length ≤ 4294967296) (hr : RdP w A s.params) :
    Calls Tryd.prog 77 #[sqV s A c] w (WNo m w) := by
  have HM := Lib.hid hm
  have t1 : (m == 0) = false := beq_false_of_ne h0
  have t2 : (m != 0) = true := by simp [bne, t1]
  have hB : Below w.heap.size w (w.alloc (.cells (seqC s A c) 36)) := (Below.refl _ _).alloc (Nat.le_refl _) _
  clear hm h0
  unfold sqV
  go_enter Tryd.func77, Tryd.ntmps77
  go_wp2_with fail
  refine (pmay_any s A c m _ HM.out hp hpp hi (hr.below hB)).mono ?_
  rintro e w1 ⟨rfl, hb1⟩
  go_wp2_with fail
  go_ret2
  exact ⟨rfl, hB.trans (hb1.mono (by simp [seqC]))⟩

set_option maxRecDepth 100000 in
set_option maxHeartbeats 8000000 in
theorem pput_yes (s : Sq) (A : Option Addr) (c : Nat) (w : World) (hm : mayS s = 0) (ht : Tab w) (hr : RdP w A s.params) :
    Calls Tryd.prog 77 #[sqV s A c] w (WYes (putS s) w) := by
  obtain ⟨hdl, hv, hp, hil, hin, hd, hl, hbr⟩ := ok_parts hm
  obtain ⟨s1, s2, s3, s4⟩ := may_small hm
  obtain ⟨l16, l8⟩ := parOk_lens hp
  have hpp : Hid (∀ p ∈ s.params, p.length ≤ 4294967296) := Lib.hid fun p hp => by have := (l8 p hp).1; omega
  have HM := Lib.hid hm
  have HPO := Lib.hid hp
  have HJ := Lib.hid (pcs_put hm)
  have HKB := Lib.hid (show kindB s.kind = true from decide_eq_true s4)
  have hB : Below w.heap.size w (w.alloc (.cells (seqC s A c) 36)) := (Below.refl _ _).alloc (Nat.le_refl _) _
  clear hm hv hp hin hd hl hbr l8 s4
  unfold sqV
  go_enter Tryd.func77, Tryd.ntmps77
  go_wp2_with fail
  refine (pmay_any s A c 0 _ HM.out (by omega) hpp.out (by omega) (hr.below hB)).mono ?_
  rintro e w1 ⟨rfl, hb1⟩
  have hb1w : Below w.heap.size w w1 := hB.trans (hb1.mono (by simp [seqC]))
  have hq1 : Blk w1 w.heap.size 36 (seqC s A c) := (Blk.new w 36 (seqC s A c)).below hb1 (by simp [seqC])
  obtain ⟨c0, c1, c2, c3, c4, c5⟩ := Blk.cells6 hq1
  clear hb1 hB
  go_wp2_with fail
  refine (formOf_any s.kind _).mono ?_
  rw [HKB.out]
  rintro e w2 ⟨rfl, hb2⟩
  obtain ⟨f, hf⟩ : ∃ f, formF s.kind = f := ⟨_, rfl⟩
  have HF := Lib.hid hf
  rw [hf]
  clear hf
  have T1 : Two w (w2.alloc (.cells #[.string ⟨f.letter.toArray⟩, .bool f.body, .bool f.inter, .int .u8 (f.first.toNat : Int), .string ⟨f.en.toArray⟩] 68)) s A c f w2.heap.size :=
    ⟨(hq1.below hb2 hq1.lt).alloc _, Blk.new _ _ _, (hb1w.trans (hb2.mono hb1w.size)).alloc (Nat.le_trans hb1w.size hb2.size) _, Nat.lt_of_lt_of_le hq1.lt hb2.size⟩
  clear hb2 hq1 c0 c1 c2 c3 c4 c5 hb1w
  unfold fmV
  go_upto_region 5 with (fail)
  obtain ⟨⟨c0, c1, c2, c3, c4, c5⟩, f0, f1, f2, f3, f4⟩ := T1.cells
  generalize w2.alloc (.cells #[.string ⟨f.letter.toArray⟩, .bool f.body, .bool f.inter, .int .u8 (f.first.toNat : Int), .string ⟨f.en.toArray⟩] 68) = W1 at *
  have hltW : w2.heap.size < W1.heap.size := T1.fm.lt
  have hwW : w.heap.size ≤ W1.heap.size := T1.be.size
  obtain ⟨T, hT⟩ : ∃ T, putS s = T := ⟨_, rfl⟩
  have HTT := Lib.hid hT
  rw [hT] at s3 HJ
  clear hT
  obtain ⟨C, X, hX⟩ := conv_all Tryd.prog 9 28 5 T Tryd.underlying9 Tryd.underlying28 Tryd.underlying5 (by simp only [maxLen]; omega)
  have hV := fun W => (hX W).1
  have HX := Lib.hid (fun W => (hX W).2.2)
  have HC := Lib.hid (fun W => (hX W).2.1)
  have HS : Hid (∀ W, Below W1.heap.size W1 W → Below W1.heap.size W1 W ∧ W.cell? ⟨w.heap.size, 0, none⟩ = some (.int .i64 s.kind) ∧ W.cell? ⟨w.heap.size, 1, none⟩ = some (.int .u8 (s.priv.toNat : Int)) ∧ W.cell? ⟨w.heap.size, 2, none⟩ = some (.slice A s.params.length c) ∧ W.cell? ⟨w.heap.size, 3, none⟩ = some (.string ⟨s.inter.toArray⟩) ∧ W.cell? ⟨w.heap.size, 4, none⟩ = some (.int .u8 (s.final.toNat : Int)) ∧ W.cell? ⟨w.heap.size, 5, none⟩ = some (.string ⟨s.data.toArray⟩) ∧ W.cell? ⟨w2.heap.size, 0, none⟩ = some (.string ⟨f.letter.toArray⟩) ∧ W.cell? ⟨w2.heap.size, 4, none⟩ = some (.string ⟨f.en.toArray⟩)) := Lib.hid fun W hb =>
    ⟨hb, (hb.cell (p := ⟨w.heap.size, 0, none⟩) T1.sq.lt).trans c0, (hb.cell (p := ⟨w.heap.size, 1, none⟩) T1.sq.lt).trans c1, (hb.cell (p := ⟨w.heap.size, 2, none⟩) T1.sq.lt).trans c2, (hb.cell (p := ⟨w.heap.size, 3, none⟩) T1.sq.lt).trans c3, (hb.cell (p := ⟨w.heap.size, 4, none⟩) T1.sq.lt).trans c4, (hb.cell (p := ⟨w.heap.size, 5, none⟩) T1.sq.lt).trans c5, (hb.cell (p := ⟨w2.heap.size, 0, none⟩) hltW).trans f0, (hb.cell (p := ⟨w2.heap.size, 4, none⟩) hltW).trans f4⟩
  have HTab : Hid (∀ W, Below W1.heap.size W1 W → Tab W) := Lib.hid fun W hb => ht.below (T1.be.trans (hb.mono hwW))
  have HRd : Hid (∀ W, Below W1.heap.size W1 W → RdP W A s.params) := Lib.hid fun W hb => hr.below (T1.be.trans (hb.mono hwW))
  have HJ2 := Lib.hid (show Lib.join [[27], f.letter, privL s.priv, parL s.params, s.inter, privL s.final, s.data, f.en] [] = T by rw [← HJ.out]; unfold pcsL; rw [HF.out])
  clear hX c0 c1 c2 c3 c4 c5 f0 f1 f2 f3 f4
  go_region_held (fun w' => Below W1.heap.size W1 w' ∧ w'.cell? ⟨w.heap.size, 0, none⟩ = some (.int .i64 s.kind) ∧ w'.cell? ⟨w.heap.size, 1, none⟩ = some (.int .u8 (s.priv.toNat : Int)) ∧ w'.cell? ⟨w.heap.size, 2, none⟩ = some (.slice A s.params.length c) ∧ w'.cell? ⟨w.heap.size, 3, none⟩ = some (.string ⟨s.inter.toArray⟩) ∧ w'.cell? ⟨w.heap.size, 4, none⟩ = some (.int .u8 (s.final.toNat : Int)) ∧ w'.cell? ⟨w.heap.size, 5, none⟩ = some (.string ⟨s.data.toArray⟩) ∧ w'.cell? ⟨w2.heap.size, 0, none⟩ = some (.string ⟨f.letter.toArray⟩) ∧ w'.cell? ⟨w2.heap.size, 4, none⟩ = some (.string ⟨f.en.toArray⟩))
    (first | exact HS.out _ (Below.refl _ _).drew | exact HS.out _ ((Below.refl _ _).drew.trans hb3) | exact HS.out _ (((Below.refl _ _).drew.trans hb3).alloc hb3.size _) | exact HS.out _ ((((Below.refl _ _).drew.trans hb3).alloc hb3.size _).trans (hb4.mono (Nat.le_trans (show W1.heap.size ≤ w3.heap.size from hb3.size) (by simp)))) | exact HS.out _ (((((Below.refl _ _).drew.trans hb3).alloc hb3.size _).trans (hb4.mono (Nat.le_trans (show W1.heap.size ≤ w3.heap.size from hb3.size) (by simp)))).trans ((HX.out _).2.mono (Nat.le_trans (show W1.heap.size ≤ w3.heap.size from hb3.size) (Nat.le_trans (by simp) hb4.size)))))
    (first
      | (go_at_call 84; refine (char_any s.priv _ s1).mono ?_; rintro e wc ⟨rfl, rfl⟩)
      | (go_at_call 84; refine (char_any s.final _ s2).mono ?_; rintro e wc ⟨rfl, rfl⟩)
      | (go_at_call 85; refine (ptext_any A c s.params _ HPO.out (HTab.out _ (Below.refl _ _).drew) (HRd.out _ (Below.refl _ _).drew)).mono ?_; rintro e w3 ⟨rfl, hb3⟩)
      | (go_at_call 83; refine (join_any _ 8 8 [[27], f.letter, privL s.priv, parL s.params, s.inter, privL s.final, s.data, f.en] [] T _ rfl HJ2.out (by omega) (Nat.le_refl _) (by omega) (Rd.block (heap_alloc_new _ _) rfl)).mono ?_; rintro e w4 ⟨rfl, hb4⟩))
  have hbX : Below W1.heap.size W1 (X w4) := ((((Below.refl _ _).drew.trans hb3).alloc hb3.size _).trans (hb4.mono (Nat.le_trans (show W1.heap.size ≤ w3.heap.size from hb3.size) (by simp)))).trans ((HX.out _).2.mono (Nat.le_trans (show W1.heap.size ≤ w3.heap.size from hb3.size) (Nat.le_trans (by simp) hb4.size)))
  have hrX := (HX.out w4).1
  have hcX := HC.out w4
  clear hV HX HS HTab HRd hb3 hb4
  generalize X w4 = W5 at *
  go_wp2_with fail
  go_ret2
  rw [HTT.out]
  exact ⟨⟨_, _, rfl, hcX, hrX⟩, T1.be.trans (hbX.mono hwW)⟩
end Go.Proofs.YtbjmfhcgkpjcfaaDoor
