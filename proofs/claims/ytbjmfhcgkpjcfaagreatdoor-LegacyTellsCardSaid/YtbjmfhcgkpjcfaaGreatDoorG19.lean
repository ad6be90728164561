/-
  A region that draws its order, in which memory is made: what an operation yields may hang on what the run alone tells (where a new block lies): one look at each operation serves whatever order is picked. Layer 2, walked: a code point's bytes, laid behind others.
-/
import Derived.Test.YtbjmfhcgkpjcfaaGreatDoorG02
import Derived.Test.YtbjmfhcgkpjcfaaGreatDoorG18
import Derived.Laws.NewFold
import Derived.Deep.RegionLaw
import Derived.BigRegion
namespace Go.Proofs.YtbjmfhcgkpjcfaaGreatDoor
open Go.RowKit

section
variable {P : Program} {ops : Array Oper} {Q : Exit → Act → World → Prop} {md : Region.Mode}

/-- What the run alone tells of some slots, with one of them told anew. -/
def upd (g : Tmp → Value) (d : Tmp) (v : Value) : Tmp → Value := fun t => if t = d then v else g t
theorem upd_at (g : Tmp → Value) (d : Tmp) (v : Value) : upd g d v d = v := if_pos rfl
theorem upd_ne (g : Tmp → Value) {d t : Tmp} (v : Value) (h : t ≠ d) : upd g d v t = g t := if_neg h
/-- The frame, with the slots ds as g tells. -/
def fillT (g : Tmp → Value) : List Tmp → Array Value → Array Value
  | [], t => t
  | d :: ds, t => fillT g ds (t.setIfInBounds d (g d))
def fillA (a : Act) (ds : List Tmp) (g : Tmp → Value) : Act := ⟨fillT g ds a.tmps, a.defers⟩
theorem fillT_size (g : Tmp → Value) : ∀ (ds : List Tmp) (t : Array Value), (fillT g ds t).size = t.size
  | [], _ => rfl
  | d :: ds, t => by
    show (fillT g ds _).size = _
    rw [fillT_size g ds, Array.size_setIfInBounds]
theorem fillT_other (g : Tmp → Value) (d : Tmp) (v : Value) {t : Tmp} (ht : t ≠ d) : ∀ (ds : List Tmp) (s s' : Array Value), s.size = s'.size → s[t]? = s'[t]? → (fillT (upd g d v) ds s)[t]? = (fillT g ds s')[t]?
  | [], _, _, _, h => h
  | x :: ds, s, s', hz, h => by
    refine fillT_other g d v ht ds _ _ (by simp [hz]) ?_
    by_cases hx : x = t
    · subst hx
      rw [upd_ne g v ht]
      by_cases hl : x < s.size
      · rw [Array.getElem?_setIfInBounds_self_of_lt hl, Array.getElem?_setIfInBounds_self_of_lt (hz ▸ hl)]
      · rw [Array.getElem?_eq_none (by rw [Array.size_setIfInBounds]; exact Nat.le_of_not_lt hl), Array.getElem?_eq_none (by rw [Array.size_setIfInBounds, ← hz]; exact Nat.le_of_not_lt hl)]
    · rw [Array.getElem?_setIfInBounds_ne hx, Array.getElem?_setIfInBounds_ne hx, h]
/-- What an operation yields, and leaves: the run may tell one slot anew, the operation's own. -/
def After (aF : (Tmp → Value) → Act) (S : Array Bool → (Tmp → Value) → World → Prop) (i : Nat) (o : Oper) (l : Array Bool) (g : Tmp → Value) (v : Value) (w : World) : Prop :=
  ∃ g', (g' = g ∨ ∃ d u, o.dst = some d ∧ g' = upd g d u) ∧ (∀ d, o.dst = some d → (aF g').tmps[d]? = some v) ∧ S (l.setIfInBounds i true) g' w
/-- What an operation does in every state that meets S. -/
def GoesM (P : Program) (md : Region.Mode) (ops : Array Oper) (aF : (Tmp → Value) → Act) (S : Array Bool → (Tmp → Value) → World → Prop) (i : Nat) (o : Oper) : Prop :=
  ∀ l g w, l.size = ops.size → l.getD i false = false → (∀ e ∈ o.after, Region.binds md e = true → l.getD e.on false = true) → S l g w →
    if Region.wanted o (yielded ops (aF g).tmps) = true then
      (∃ v w', ((execOp (aF g).eval o).run P w = .ok (.value v) w' ∨ ((execOp (aF g).eval o).run P w = .ok .skip w' ∧ v = undef)) ∧ After aF S i o l g v w') ∨
      (∃ f args w1, (execOp (aF g).eval o).run P w = .ok (.enter f args) w1 ∧ Calls P f args w1 fun e w' => ∃ v, e = .returned v ∧ After aF S i o l g v w')
    else After aF S i o l g undef w
def GoesAllM (P : Program) (md : Region.Mode) (ops : Array Oper) (aF : (Tmp → Value) → Act) (S : Array Bool → (Tmp → Value) → World → Prop) : Prop :=
  ∀ (i : Nat) (o : Oper), ops[i]? = some o → GoesM P md ops aF S i o
theorem Near.turn {aF : (Tmp → Value) → Act} (hF : ∀ g d v, (∀ t, t ≠ d → (aF (upd g d v)).tmps[t]? = (aF g).tmps[t]?) ∧ (aF (upd g d v)).defers = (aF g).defers ∧ (aF (upd g d v)).tmps.size = (aF g).tmps.size)
    {g g' : Tmp → Value} {l : Array Bool} {a : Act} {i : Nat} {o : Oper} (ho : ops[i]? = some o) (hl : l.getD i false = false) (hg : g' = g ∨ ∃ d u, o.dst = some d ∧ g' = upd g d u) (h : Near ops (aF g) l a) : Near ops (aF g') l a := by
  rcases hg with rfl | ⟨d, u, hd, rfl⟩
  · exact h
  · obtain ⟨h1, h2, h3⟩ := hF g d u
    refine ⟨h.defers.trans h2.symm, h.size.trans h3.symm, fun t ht => ?_⟩
    have hne : t ≠ d := fun e => by
      have := ht i o ho (by rw [hd, e])
      rw [hl] at this
      cases this
    rw [h1 t hne]
    exact h.at_ t ht
theorem wpAny_made (hc : regCheck md ops = true) (hs : Region.noSelect ops = true) {aF : (Tmp → Value) → Act} {S : Array Bool → (Tmp → Value) → World → Prop}
    (hF : ∀ g d v, (∀ t, t ≠ d → (aF (upd g d v)).tmps[t]? = (aF g).tmps[t]?) ∧ (aF (upd g d v)).defers = (aF g).defers ∧ (aF (upd g d v)).tmps.size = (aF g).tmps.size)
    (hg : GoesAllM P md ops aF S) (hQ : ∀ l g w, (∀ j, j < ops.size → l.getD j false = true) → S l g w → Q .normal (aF g) w) :
    ∀ (fuel : Nat) (l : Array Bool) (a : Act) (w : World), l.size = ops.size → l.toList.countP (fun b => !b) ≤ fuel → (∃ g, Near ops (aF g) l a ∧ S l g w) → wpAny P md ops Q fuel l a w := by
  have fin : ∀ (l : Array Bool) (a : Act) (w : World), l.size = ops.size → Region.ready md ops l = [] → (∃ g, Near ops (aF g) l a ∧ S l g w) → Q .normal a w := fun l a w hsz hr ⟨g, hn, hS⟩ => by
    have all : ∀ j, j < ops.size → l.getD j false = true := by
      intro j
      induction j using Nat.strongRecOn with
      | _ j ih =>
        intro hj
        have ho : ops[j]? = some ops[j] := Array.getElem?_eq_getElem hj
        cases hh : l.getD j false with
        | true => rfl
        | false =>
          exfalso
          have hm : j ∈ Region.ready md ops l := mem_ready.2 ⟨by
            rw [Array.getD_eq_getD_getElem?] at hh ⊢
            rw [Array.getElem?_eq_getElem (by omega)] at hh ⊢
            exact hh, ops[j], ho, fun e he hb => by
            have h1 := List.all_eq_true.1 hc j (List.mem_range.2 hj)
            simp only [ho, Bool.and_eq_true] at h1
            have h2 := Array.all_eq_true_iff_forall_mem.1 h1.2 e he
            simp only [hb, Bool.not_true, Bool.false_or, decide_eq_true_eq] at h2
            exact ih e.on h2 (by omega)⟩
          rw [hr] at hm
          cases hm
    rw [hn.eq all]
    exact hQ l g w all hS
  intro fuel
  induction fuel with
  | zero =>
    intro l a w hsz hcnt hn
    have h0 := unl_none l.toList (by omega)
    have hr : Region.ready md ops l = [] := by
      rw [List.eq_nil_iff_forall_not_mem]
      intro j hj
      obtain ⟨h1, o, ho, _⟩ := mem_ready.1 hj
      have hlt : j < l.size := by rw [hsz]; exact (Array.getElem?_eq_some_iff.1 ho).1
      have h2 := h0 j (by simpa using hlt)
      rw [Array.getElem?_toList] at h2
      rw [Array.getD_eq_getD_getElem?, h2] at h1
      cases h1
    exact ⟨hr, fin l a w hsz hr hn⟩
  | succ fuel ih =>
    intro l a w hsz hcnt hnn
    refine ⟨fun hr => fin l a w hsz hr hnn, fun i hi => ?_⟩
    obtain ⟨g, hn, hS⟩ := hnn
    obtain ⟨h1, o, ho, hall⟩ := mem_ready.1 hi
    have hlt : i < l.size := by rw [hsz]; exact (Array.getElem?_eq_some_iff.1 ho).1
    have hli : l.toList[i]? = some false := by
      rw [Array.getElem?_toList, Array.getElem?_eq_getElem hlt]
      rw [Array.getD_eq_getD_getElem?, Array.getElem?_eq_getElem hlt] at h1
      exact congrArg some h1
    have h1f : l.getD i false = false := by
      rw [Array.getD_eq_getD_getElem?, ← Array.getElem?_toList, hli]
      rfl
    have hstep : ∀ (v : Value) (w' : World), After aF S i o l g v w' → wpAny P md ops Q fuel (l.setIfInBounds i true) (a.put o.dst v) w' := fun v w' ⟨g', hg', hv, hS'⟩ =>
      ih _ _ w' (by simpa using hsz) (by
        have := unl_set l.toList i hli
        rw [Array.toList_setIfInBounds]
        omega) ⟨g', (hn.turn hF ho h1f hg').put ho hv, hS'⟩
    have hw := hg i o ho l g w hsz h1f hall hS
    have he : execOp a.eval o = execOp (aF g).eval o := execOp_congr o (fun cs b => Region.noSelect_spec hs i o cs b ho) fun x hx => hn.eval x fun t ht => waits hc ho hall (by
      subst ht
      exact List.mem_append_left _ (List.mem_filterMap.2 ⟨.tmp t, by simpa using hx, rfl⟩))
    have hwt : Region.wanted o (yielded ops a.tmps) = Region.wanted o (yielded ops (aF g).tmps) := by
      unfold Region.wanted
      cases hgd : o.guard with
      | none => rfl
      | some gw =>
        obtain ⟨gg, want⟩ := gw
        have hy : yielded ops a.tmps gg = yielded ops (aF g).tmps gg := by
          unfold yielded
          cases ht : (ops[gg]?).bind (·.dst) with
          | none => rfl
          | some t =>
            have := hn.at_ t (waits hc ho hall (by simp [Oper.looksAt, hgd, ht]))
            show (match (some t).bind (a.tmps[·]?) with | some (.bool b) => some b | _ => none) = (match (some t).bind ((aF g).tmps[·]?) with | some (.bool b) => some b | _ => none)
            simp only [Option.bind_some, this]
        simp only [hy]
    unfold wpOp
    simp only [ho]
    rw [hwt]
    by_cases hq : Region.wanted o (yielded ops (aF g).tmps) = true
    · rw [if_pos hq] at hw ⊢
      refine .inl ?_
      unfold Oper.wp
      rw [he]
      rcases hw with ⟨v, w', hrun | ⟨hrun, rfl⟩, hA⟩ | ⟨f, args, w1, hrun, hcall⟩
      · rw [hrun, Oper.upon_value]
        exact hstep v w' hA
      · rw [hrun, Oper.upon_skip]
        exact hstep undef w' hA
      · rw [hrun, Oper.upon_enter]
        refine hcall.mono ?_
        rintro e w' ⟨v, rfl, hA⟩
        exact hstep v w' hA
    · rw [if_neg hq] at hw ⊢
      exact hstep undef w hw
theorem fill_turn (a0 : Act) (ds : List Tmp) (g : Tmp → Value) (d : Tmp) (v : Value) : (∀ t, t ≠ d → (fillA a0 ds (upd g d v)).tmps[t]? = (fillA a0 ds g).tmps[t]?) ∧ (fillA a0 ds (upd g d v)).defers = (fillA a0 ds g).defers ∧ (fillA a0 ds (upd g d v)).tmps.size = (fillA a0 ds g).tmps.size :=
  ⟨fun _ ht => fillT_other g d v ht ds _ _ rfl rfl, rfl, by simp [fillA, fillT_size]⟩
/-- The region, whatever order is picked: memory may be made in it. -/
theorem wp_region_made {id : Nat} {a a0 : Act} {w : World} {S : Array Bool → (Tmp → Value) → World → Prop} (ds : List Tmp) (hm : P.follows .mixedOrders = true) (hc : regCheck .any ops = true) (hs : Region.noSelect ops = true)
    (g0 : Tmp → Value) (hn : Near ops (fillA a0 ds g0) (Array.replicate ops.size false) a) (hS : S (Array.replicate ops.size false) g0 w.drew) (hg : GoesAllM P .any ops (fillA a0 ds) S)
    (hQ : ∀ l g w, (∀ j, j < ops.size → l.getD j false = true) → S l g w → Q .normal (fillA a0 ds g) w) :
    (Code.region id ops true).wp P Q a w :=
  wp_region_any hm (wpAny_made hc hs (fill_turn a0 ds) hg hQ ops.size _ a _ (by simp) (by
    refine Nat.le_trans List.countP_le_length ?_
    simp) ⟨g0, hn, hS⟩)
theorem goesAllM_of {aF : (Tmp → Value) → Act} {S : Array Bool → (Tmp → Value) → World → Prop} (h : ∀ p ∈ ops.toList.zipIdx 0, GoesM P md ops aF S p.2 p.1) : GoesAllM P md ops aF S := fun i o ho => h (o, i) (by
  rw [List.mem_zipIdx_iff_getElem?]
  simpa using ho)
end
end Go.Proofs.YtbjmfhcgkpjcfaaGreatDoor
namespace Go.Proofs.YtbjmfhcgkpjcfaaGreatDoor
open Go.RowKit

theorem Tryz.u8info : (Tryz.prog.info? 5).map (fun i => (i.zero, i.size, i.bytes)) = some (some (.int .u8 0), 1, 1) := by kernel_rfl

/-- 64, so many times by itself. -/
def wei : Nat → Int
  | 0 => 1
  | k + 1 => wei k * 64
theorem wei_pos (k : Nat) : 1 ≤ wei k := by
  induction k with
  | zero => exact Int.le_refl _
  | succ k ih => unfold wei; omega
theorem wei_le {k : Nat} (h : k ≤ 3) : wei k ≤ 262144 := by
  obtain rfl | rfl | rfl | rfl : k = 0 ∨ k = 1 ∨ k = 2 ∨ k = 3 := by omega
  all_goals simp [wei]
/-- The bytes behind the first one, k of them. -/
def tailL (r : Int) : Nat → List UInt8
  | 0 => []
  | k + 1 => byt (128 + r / wei k % 64) :: tailL r k
theorem tailL_length (r : Int) (k : Nat) : (tailL r k).length = k := by
  induction k with
  | zero => rfl
  | succ k ih => simp [tailL, ih]
/-- A code point's size and bytes, by how many follow. -/
theorem put_split {r : Int} (h : isPt r = true) : ∃ (j : Nat) (least lead : Int), j ≤ 3 ∧ cnt r = j + 1 ∧ szA (ixP r 4) = #[.int .i64 ((j : Int) + 1), .int .i64 least, .int .i64 lead] ∧ 0 ≤ lead ∧ 0 ≤ lead + r / wei j ∧ lead + r / wei j ≤ 255 ∧ 0 ≤ r / wei j ∧ r / wei j ≤ 255 ∧ lead ≤ 240 ∧
    putL r = byt (lead + r / wei j) :: tailL r j := by
  obtain ⟨h0, h1, _⟩ := (isPt_iff r).1 h
  have w0 : wei 0 = 1 := rfl
  have w1 : wei 1 = 64 := rfl
  have w2 : wei 2 = 4096 := rfl
  have w3 : wei 3 = 262144 := rfl
  by_cases a1 : r < 128
  · refine ⟨0, 0, 0, by omega, by simp [cnt, a1], ?_, by omega, ?_, ?_, ?_, ?_, by omega, ?_⟩
    · rw [show ixP r 4 = 0 by unfold ixP; (repeat' split) <;> omega]; rfl
    · rw [w0]; omega
    · rw [w0]; omega
    · rw [w0]; omega
    · rw [w0]; omega
    · rw [putL_1 h a1, w0, Int.ediv_one, Int.zero_add]; rfl
  · by_cases a2 : r < 2048
    · refine ⟨1, 128, 192, by omega, by simp [cnt, a1, a2], ?_, by omega, ?_, ?_, ?_, ?_, by omega, ?_⟩
      · rw [show ixP r 4 = 1 by unfold ixP; (repeat' split) <;> omega]; rfl
      · rw [w1]; omega
      · rw [w1]; omega
      · rw [w1]; omega
      · rw [w1]; omega
      · rw [putL_2 h (by omega) a2, w1]; simp only [tailL, w0, Int.ediv_one]
    · by_cases a3 : r < 65536
      · refine ⟨2, 2048, 224, by omega, by simp [cnt, a1, a2, a3], ?_, by omega, ?_, ?_, ?_, ?_, by omega, ?_⟩
        · rw [show ixP r 4 = 2 by unfold ixP; (repeat' split) <;> omega]; rfl
        · rw [w2]; omega
        · rw [w2]; omega
        · rw [w2]; omega
        · rw [w2]; omega
        · rw [putL_3 h (by omega) a3, w2]; simp only [tailL, w0, w1, Int.ediv_one]
      · refine ⟨3, 65536, 240, by omega, by simp [cnt, a1, a2, a3], ?_, by omega, ?_, ?_, ?_, ?_, by omega, ?_⟩
        · rw [show ixP r 4 = 3 by unfold ixP; (repeat' split) <;> omega]; rfl
        · rw [w3]; omega
        · rw [w3]; omega
        · rw [w3]; omega
        · rw [w3]; omega
        · rw [putL_4 h (by omega), w3]; simp only [tailL, w0, w1, w2, Int.ediv_one]

theorem tail_step (ys : List Value) (r Y : Int) (j : Nat) (h : Y = wei j) : ys ++ bs [byt (128 + r / Y % 64)] ++ bs (tailL r j) = ys ++ bs (tailL r (j + 1)) := by
  subst h
  rw [List.append_assoc]
  rfl

set_option maxRecDepth 100000 in
set_option maxHeartbeats 4000000 in
theorem put_any (r : Int) (h : isPt r = true) (base : Nat) (v : Value) (n : Nat) (xs : List Value) (w : World) (hs : Siz w) (hown : Own w base 5 1 v n xs) (hbase : base ≤ w.heap.size) (hn : n ≤ 4294967296) :
    Calls Tryz.prog 61 #[v, .int .i64 r] w fun e w' => ∃ v', e = .returned v' ∧ Own w' base 5 1 v' (n + cnt r) (xs ++ bs (putL r)) ∧ Below base w w' := by
  obtain ⟨i0, hi, hz0, hz1, hz2⟩ := info_parts Tryz.u8info
  obtain ⟨j, least, lead, hj, hc, hz, l0, l1, l2, l3, l4, l5, hp⟩ := put_split h
  obtain ⟨h0, h1, _⟩ := (isPt_iff r).1 h
  have HF := byt_val (lead + r / wei j) l1 (by omega)
  obtain ⟨f, hf⟩ : ∃ f, byt (lead + r / wei j) = f := ⟨_, rfl⟩
  rw [hf] at hp HF
  rw [hc, hp]
  have HG := Lib.hid HF
  clear hf hp hc HF
  go_enter Tryz.func61, Tryz.ntmps61
  go_wp2_with fail
  refine (sizeOf_any r _ hs).mono ?_
  rw [hz]
  rintro e w1 ⟨rfl, hb1⟩
  go_wp2_with fail
  have hown1 : Own w1 base 5 1 v n xs := hown.behind hb1
  have hB1 : Below base w w1 := hb1.mono hbase
  have hs1 := hb1.size
  have p1 := Blk.new w1 94 #[.int .i64 ((j : Int) + 1), .int .i64 least, .int .i64 lead]
  have g2 := p1.cell 2
  clear hb1 hz
  go_loop [6, 12] (fun a i => ∃ k : Nat, k ≤ j ∧ a = .int .i64 (wei k) ∧ i = .int .i64 k) (fun _ i => j - (intOf i).toNat)
  case atStart => exact ⟨0, Nat.zero_le _, rfl, rfl⟩
  case round =>
    obtain ⟨k, hk, rfl, rfl⟩ := hrel
    by_cases hlt : k < j
    · have b1 := wei_pos k
      have b2 := wei_le (k := k) (by omega)
      have e1 : wei (k + 1) = wei k * 64 := rfl
      have E1 := Lib.hid e1
      clear e1
      go_wp2
      go_round
      case rel => exact ⟨k + 1, by omega, by rw [E1.out], by go_num⟩
      case measure => simp [intOf]; omega
    · obtain rfl : k = j := by omega
      have b1 := wei_pos k
      have b2 := wei_le (k := k) (by omega)
      have e1 : r.tdiv (wei k) = r / wei k := Int.tdiv_eq_ediv_of_nonneg h0
      have e2 : IntKind.i64.wrap (r / wei k) = r / wei k := IntWalk.i64_in _ (by omega)
      have e3 : IntKind.i64.wrap (lead + r / wei k) = lead + r / wei k := IntWalk.i64_in _ (by omega)
      have e4 : IntKind.u8.wrap (lead + r / wei k) = lead + r / wei k := by rw [IntKind.wrap_u8]; omega
      have hB2 : Below base w (w1.alloc (.cells #[.int .i64 ((k : Int) + 1), .int .i64 least, .int .i64 lead] 94)) := hB1.alloc (Nat.le_trans hbase hs1) _
      have hownA : ∀ o, Own ((w1.alloc (.cells #[.int .i64 ((k : Int) + 1), .int .i64 least, .int .i64 lead] 94)).alloc o).drew base 5 1 v n xs := fun o => ((hown1.alloc _).alloc o).drew
      have hBA : ∀ o, Below base w ((w1.alloc (.cells #[.int .i64 ((k : Int) + 1), .int .i64 least, .int .i64 lead] 94)).alloc o).drew := fun o => (hB2.alloc (Nat.le_trans hbase hB2.size) o).drew
      have hrA : ∀ x, Rd ((w1.alloc (.cells #[.int .i64 ((k : Int) + 1), .int .i64 least, .int .i64 lead] 94)).alloc (.cells #[x] 5)).drew (some ⟨w1.heap.size + 1, 0, none⟩) [x] := fun x => by
        have := rd_lit (w1.alloc (.cells #[.int .i64 ((k : Int) + 1), .int .i64 least, .int .i64 lead] 94)) x 5
        rw [World.size_alloc] at this
        exact this
      have hw0 : ¬ wei k = 0 := by omega
      have h63 : n + 1 ≤ maxLen := by simp only [maxLen]; omega
      have hlim : (n + 1) * 1 ≤ 140737488355328 := by omega
      have one1 : ∀ x : Int, ∀ u ∈ [Value.int .u8 x], u.oneCell' = true := fun x => ints_one [x]
      go_wp2
      go_region_law (refine step_app _ rfl (.tmp 17) (.tmp 25) 27 rfl base 5 i0 _ 1 1 Tryz.underlying27 hi hz0 hz1 hz2 rfl Nat.one_pos v n xs (by simp [Act.eval]) (hownA _) (some ⟨w1.heap.size + 1, 0, none⟩) 1 1 _ (by simp [Act.eval]) rfl (hrA _) (one1 _) h63 hlim (Nat.le_trans hbase (hBA _).size) ?_; intro v' w' hown' hg')
      all_goals
        have hB3 : Below base w w' := (hBA _).grown hg' (Nat.le_trans hbase (hBA _).size) (fun g hg => (hown1.lt g hg).1)
        rw [HG.out] at hown'
        clear hg' hBA hownA hrA hB2 one1 h63 hlim e1 e2 e3 e4 hw0 p1 g2 hown1 hB1 hs1
        clear l1 l2 l3 l4 HG
        go_wp2
        simp only [Act.put, List.getElem_toArray, List.getElem_cons_succ, List.getElem_cons_zero, List.setIfInBounds_toArray, List.set_cons_zero]
        go_loopw [0, 6] (fun a wt wr => ∃ (j m : Nat) (ys : List Value), j ≤ k ∧ wt = .int .i64 (wei j) ∧ Own wr base 5 1 a m ys ∧ m + j = n + (k + 1) ∧ ys ++ bs (tailL r j) = xs ++ bs (f :: tailL r k) ∧ Below base w wr) (fun _ wt _ => (intOf wt).toNat)
        case atStart => exact ⟨k, n + 1, _, Nat.le_refl _, rfl, hown', by omega, by simp [bs], hB3⟩
        case round =>
          clear hown' hB3
          obtain ⟨j, m, ys, hjk, rfl, hown, hm, hy, hbw⟩ := hrel
          have HY := Lib.hid hy
          have HM := Lib.hid hm
          have hml : m ≤ 4294967300 := by omega
          clear hy hm
          cases j with
          | zero =>
            have e0 : wei 0 = 1 := rfl
            go_wp2
            go_ret
            refine ⟨_, rfl, ?_, hbw⟩
            have h1 := HY.out
            simp only [tailL, bs, List.map_nil, List.append_nil] at h1
            rw [show n + (k + 1) = m from HM.out.symm]
            simp only [bs] at *
            rw [← h1]; exact hown
          | succ j =>
            have b1 := wei_pos j
            have b2 := wei_le (k := j) (by omega)
            obtain ⟨X, hX⟩ : ∃ X, wei (j + 1) = X := ⟨_, rfl⟩
            have hX2 : X = wei j * 64 := hX.symm
            have hXd := Lib.hid (show X / 64 = wei j by omega)
            have x1 : 64 ≤ X := by omega
            have x2 : X ≤ 16777216 := by omega
            have x3 : ¬ X / 64 = 0 := by omega
            have x4 : 1 ≤ X / 64 := by omega
            have x5 : 0 ≤ r / (X / 64) := Int.ediv_nonneg h0 (by omega)
            have x6 : r / (X / 64) ≤ 1114111 := Int.le_trans (Int.ediv_le_self _ h0) h1
            have x7 : 0 ≤ r / (X / 64) % 64 := by omega
            have x8 : r / (X / 64) % 64 < 64 := by omega
            have hXX := Lib.hid hX
            have hbv := Lib.hid (byt_val (128 + r / (X / 64) % 64) (by omega) (by omega))
            rw [hX]
            clear hX hX2 b1 b2
            have h63 : m + 1 ≤ maxLen := by simp only [maxLen]; omega
            have hlim : (m + 1) * 1 ≤ 140737488355328 := by omega
            have one1 : ∀ x : Int, ∀ u ∈ [Value.int .u8 x], u.oneCell' = true := fun x => ints_one [x]
            have hbs := Nat.le_trans hbase hbw.size
            go_wp2_with (at_builtin; refine list_app _ rfl (.tmp 31) (.tmp 38) 27 rfl base 5 i0 _ 1 1 Tryz.underlying27 hi hz0 hz1 hz2 rfl Nat.one_pos _ _ _ rfl (hown.alloc _) (some ⟨wr.heap.size, 0, none⟩) 1 1 _ rfl rfl (rd_lit wr _ _) (one1 _) h63 hlim (by simp; omega) ?_; intro v4 w4 hown4 hg4)
            have hb4 : Below base w w4 := (hbw.alloc hbs _).grown hg4 (by simp; omega) (fun g hg => (hown.lt g hg).1)
            rw [hbv.out] at hown4
            clear hg4
            go_wp2
            go_roundw
            case rel =>
              refine ⟨j, m + 1, _, by omega, by rw [hXd.out], hown4, by have := HM.out; omega, ?_, hb4⟩
              rw [← HY.out]
              exact tail_step _ _ _ _ hXd.out
            case measure => simp [intOf]; omega
end Go.Proofs.YtbjmfhcgkpjcfaaGreatDoor
