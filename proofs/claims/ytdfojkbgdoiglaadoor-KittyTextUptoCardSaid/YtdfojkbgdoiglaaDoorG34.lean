/-
  From a walk to a law's row, for all laws: arguments read behind the call as they read before, out of the frame alone; a slice of bytes is opened as a list. Stage 13, the landed kitty: what the laws need of it. Layer 2, walked: the document's All. Cut out of LegV: what names no function of any dump. A region that draws its order (RegK's state), whose last operation waits for all others and puts what they look at: they look at the slot as it was.
-/
import Derived.Test.YtdfojkbgdoiglaaDoorG01
import Derived.Test.YtdfojkbgdoiglaaDoorG03
import Derived.Test.YtdfojkbgdoiglaaDoorG05
import Derived.Test.YtdfojkbgdoiglaaDoorG08
import Derived.Test.YtdfojkbgdoiglaaDoorG19
import Derived.Test.YtdfojkbgdoiglaaDoorG26
import Derived.Test.YtdfojkbgdoiglaaDoorG27
import Derived.Test.YtdfojkbgdoiglaaDoorG33
import Derived.Deep.DeepHandedRow
import Derived.Lib.LaidTab
import Derived.SizedLaws
namespace Go.Proofs.YtdfojkbgdoiglaaDoor
open Go.RowKit Go.WideShapes Go.ChangeShapes Go.ChangeAt Go.ChangeMaps
section
variable {H : Type} {enc : TypeId × Value → H} {P : Program}
theorem trodAll_below (hl : laidOutB P = true) {W W' : World} (hb : Below W.heap.size W W') : ∀ {ts : List TypeId} {vs : List Value} {ds : List (DataW H)} {ps : List MemPlace},
 (ts.all fun t => P.readableRec t && decide (t < P.types.size)) = true → (∀ x ∈ ps, x.block < W.heap.size) → DataW.TrodAll enc P W 0 (fun _ => true) true ts vs ds ps →
 DataW.TrodAll enc P W' 0 (fun b => decide (b < W.heap.size)) true ts vs ds ps
 | [], [], [], _, _, _, h => h
 | t :: ts, v :: vs, d :: ds, ps, hr, hlt, h => by
   obtain ⟨p, q, h1, h2, rfl⟩ := h
   simp only [List.all_cons, Bool.and_eq_true, decide_eq_true_eq] at hr
   exact ⟨p, q, Below.trod hl hr.1.1 hr.1.2 h1 hb (fun x hx => hlt x (List.mem_append_left _ hx)), trodAll_below hl hb hr.2 (fun x hx => hlt x (List.mem_append_right _ hx)) h2, rfl⟩
theorem law_end (hl : laidOutB P = true) {f : Func} {s : ChangeSpec} {W W' : World} {args : Array Value} {ds : List (DataW H)} {before : List MemPlace} {T : TypeId} (hT : P.underlying T = some .bool)
 (hv : s.vars = []) (hrt : f.resultTypes = #[T]) (hread : (f.params.toList.all fun t => P.readableRec t && decide (t < P.types.size)) = true)
 (hW : DataW.Whole enc P f.params.toList s.vars false W args.toList ds [] before) (hA : DataW.TrodAll enc P W 0 (fun _ => true) true f.params.toList args.toList ds before)
 (hs : s.fn H (ds ++ []) = { results := [.lit (.bool true)], args := ds }) (hb : Below W.heap.size W W') :
 s.post enc P f false true false false W args (.bool true) W' := by
 have hlt : ∀ p ∈ before, p.block < W.heap.size := fun p hp => hW.lt p hp
 refine ⟨ds, [], before, [], before, [], hW, ?_, ?_, ?_, World.keptBut_mono (fun p hp => ⟨hp, .inr (.inl hp)⟩) (hb.frame (· ∈ before)), fun hd => absurd hd (by simp)⟩
 ·rw [hs, hrt]; exact trodAll_mk1 (shut_bool hT _)
 ·rw [hs]; exact trodAll_below hl hb hread hlt hA
 ·rw [hs, hv]; exact rfl
end
end Go.Proofs.YtdfojkbgdoiglaaDoor
namespace Go.Proofs.YtdfojkbgdoiglaaDoor
open Go.RowKit
def Inv13 (w : World) : Prop := Siz w ∧ Rws w ∧ Tab w
theorem Inv13.below {w w' : World} (h : Inv13 w) (hb : Below w.heap.size w w') : Inv13 w' := ⟨h.1.below' hb, h.2.1.below hb, h.2.2.below hb⟩
theorem outT_out {rm : Bool} {L : List UInt8} {w w' : World} {e : Ending} (h : OutT rm L w e w') : Out L w e w' := by
 obtain ⟨A, n, c, he, hn, _, hr, hb⟩ := h
 subst hn
 exact ⟨A, c, he, hr, hb⟩
theorem kitC : KitC Inv13 where
 invB := fun h hb => h.below hb
 key := fun f k w hv hf hk hs => (kkey_any f k hf hk hs w hv.1 hv.2.1 hv.2.2).mono fun _ _ h => outT_out h
 form := fun c w hv _ => kform_any c w hv.1 hv.2.1
end Go.Proofs.YtdfojkbgdoiglaaDoor
namespace Go.Proofs.YtdfojkbgdoiglaaDoor
open Go.RowKit
theorem rtake_tup (A : Option Addr) (n c : Nat) (l : List UInt8) (r : Int) (m : Nat) (w : World) (hn : l.length = n) (h : takeL l = (r, m)) (hl : l.length ≤ 4294967296) (hlc : n ≤ c) (hr : Rd w A (bs l)) :
 Calls Tryd.prog 45 #[.slice A n c] w fun e w' => e = .returned (.tuple #[.int .i64 r, .int .i64 m]) ∧ Below w.heap.size w w' := by
 subst hn
 refine (rtake_any A c l w hl hlc hr).mono ?_
 rintro e w' ⟨rfl, hb⟩
 exact ⟨by unfold Tk; rw [h], hb⟩
theorem all_pre {t : List UInt8} {pre : List Int} {k m : Nat} {r : Int} (h : allL t = (allL (t.drop k)).map (pre ++ ·)) (ht : takeL (t.drop k) = (r, m)) (hm : m ≠ 0) : allL t = (allL (t.drop (k + m))).map ((pre ++ [r]) ++ ·) := by
 rw [h, allL_yes (by rw [ht]; exact hm), ht, List.drop_drop]
 cases allL (t.drop (k + m)) with
 | none => rfl
 | some x => simp
set_option maxRecDepth 100000 in
set_option maxHeartbeats 2000000 in
theorem rall_own (A : Option Addr) (c : Nat) (t : List UInt8) (w : World) (ht : t.length ≤ 4294967296) (htc : t.length ≤ c) (hr : Rd w A (bs t)) :
 Calls Tryd.prog 31 #[.slice A t.length c] w (AlO (allL t) w) := by
 obtain ⟨i0, hi, hz0, hz1, hz2⟩ := info_parts Tryd.intinfo
 go_enter Tryd.func31, Tryd.ntmps31
 go_wp2
 go_loopw [4, 5] (fun v i wr => ∃ (k : Nat) (pre : List Int), k ≤ t.length ∧ i = .int .i64 k ∧ pre.length ≤ k ∧ allL t = (allL (t.drop k)).map (pre ++ ·) ∧ Own wr w.heap.size 3 1 v pre.length (is_ pre) ∧ Below w.heap.size w wr) (fun _ i _ => t.length - (intOf i).toNat)
 case atStart => exact ⟨0, [], Nat.zero_le _, rfl, Nat.le_refl _, by rw [List.drop_zero]; cases allL t <;> rfl, Own.nil_ _ _ _ _, Below.refl _ _⟩
 case round =>
  obtain ⟨k, pre, hk, rfl, hpk, hpre, hown, hbw⟩ := hrel
  have HP := Lib.hid hpre
  clear hpre
  by_cases hlt : k < t.length
  ·have hrw := hr.below hbw
   obtain ⟨b, o, rfl, hb, hcc⟩ := hrw.at_ (by omega)
   have hdr := (RdIn.of hrw).drop k hlt
   clear hcc
   have k0 : (0 : Int) ≤ (k : Int) := by omega
   have k1 : (k : Int) ≤ (t.length : Int) := by omega
   have hlen := Lib.hid (show (t.drop k).length = t.length - k from List.length_drop)
   have hld : (t.drop k).length ≤ 4294967296 := by rw [List.length_drop]; omega
   by_cases hz : (takeL (t.drop k)).2 = 0
   ·have E := Lib.hid (take_zero hz)
    have EN := Lib.hid (show allL t = none by rw [HP.out, allL_no (by rw [List.length_drop]; omega) hz]; rfl)
    clear hz
    go_wp2_with fail
    refine (rtake_tup _ _ _ (t.drop k) 0 0 _ hlen.out E.out hld (by omega) hdr).mono ?_
    rintro e w2 ⟨rfl, hb2⟩
    have hb2 : Below w.heap.size w w2 := hbw.trans (hb2.mono hbw.size)
    go_wp2_with fail
    go_ret2
    exact AlO.no EN.out hb2
   ·have hle := (take_snd_le (t.drop k)).1
    obtain ⟨r, hr1⟩ : ∃ r, (takeL (t.drop k)).1 = r := ⟨_, rfl⟩
    obtain ⟨m, hm1⟩ : ∃ m, (takeL (t.drop k)).2 = m := ⟨_, rfl⟩
    have E := Lib.hid (show takeL (t.drop k) = (r, m) by rw [← hr1, ← hm1])
    rw [hm1, List.length_drop] at hle
    rw [hm1] at hz
    have m1 : ((m : Int) == 0) = false := beq_false_of_ne (by omega)
    have PE := Lib.hid (all_pre HP.out E.out hz)
    clear hr1 hm1
    have h63 : pre.length + 1 ≤ maxLen := by simp only [maxLen]; omega
    have hlim : (pre.length + 1) * 8 ≤ 140737488355328 := by omega
    have one1 : ∀ x : Int, ∀ u ∈ [Value.int .i64 x], u.oneCell' = true := fun x => ints_one [x]
    go_wp2_with fail
    refine (rtake_tup _ _ _ (t.drop k) r m _ hlen.out E.out hld (by omega) hdr).mono ?_
    rintro e w2 ⟨rfl, hb2⟩
    have hown2 := hown.behind hb2
    have hb2 : Below w.heap.size w w2 := hbw.trans (hb2.mono hbw.size)
    have hs2 := hb2.size
    go_wp2_with (at_builtin; refine list_app _ rfl (.tmp 21) (.tmp 23) 51 rfl w.heap.size 3 i0 _ 1 8 Tryd.underlying51 hi hz0 hz1 hz2 rfl Nat.one_pos _ _ _ rfl (hown2.alloc _) (some ⟨w2.heap.size, 0, none⟩) 1 1 _ rfl rfl (rd_lit w2 _ _) (one1 _) h63 hlim (by simp; omega) ?_; intro v4 w4 hown4 hg4)
    have hb4 : Below w.heap.size w w4 := (hb2.alloc hs2 _).grown hg4 (by simp; omega) (fun g hg => (hown2.lt g hg).1)
    have ho : Own w4 w.heap.size 3 1 v4 (pre ++ [r]).length (is_ (pre ++ [r])) := by
     rw [List.length_append, show is_ (pre ++ [r]) = is_ pre ++ [.int .i64 r] by simp [is_]]
     exact hown4
    clear hown4 hg4
    go_wp2
    go_roundw
    case rel => exact ⟨k + m, pre ++ [r], by omega, by go_num, by rw [List.length_append]; show pre.length + 1 ≤ _; omega, PE.out, ho, hb4⟩
    case measure => simp [intOf]; omega
  ·have E := Lib.hid (show allL t = some pre by
    rw [HP.out, List.drop_of_length_le (by omega)]
    show some (pre ++ []) = _
    rw [List.append_nil])
   go_wp2
   go_ret2
   exact AlO.yes E.out hown hbw
theorem rall_any (A : Option Addr) (c : Nat) (t : List UInt8) (w : World) (ht : t.length ≤ 4294967296) (htc : t.length ≤ c) (hr : Rd w A (bs t)) :
 Calls Tryd.prog 31 #[.slice A t.length c] w (Al (allL t) w) :=
 (rall_own A c t w ht htc hr).mono fun _ _ h => h.al
end Go.Proofs.YtdfojkbgdoiglaaDoor
namespace Go.Proofs.YtdfojkbgdoiglaaDoor
open Go.RowKit
def notU8 : Value → Bool
 | .int .u8 _ => false
 | _ => true
theorem Rd.off_key {w : World} {A : Option Addr} {L : List UInt8} {g : Nat} {t : TypeId} {cs : Array Value} (h : Rd w A (bs L)) (hk : Blk w g t cs) (hc : cs.toList.all notU8 = true) : RdOff w (fun k => k = g) A (bs L) := fun hp => by
 obtain ⟨b, o, rfl, hb, hx⟩ := h hp
 refine ⟨b, o, rfl, hb, fun e => ?_, hx⟩
 subst e
 have h0 := hx 0 _ (List.getElem?_eq_getElem hp)
 rw [Nat.add_zero, hk.cell o] at h0
 obtain ⟨c, _, hcv⟩ := List.mem_map.1 (List.getElem_mem (l := bs L) hp)
 rw [← hcv] at h0
 have := List.all_eq_true.1 hc _ (Array.mem_def.1 (Array.mem_of_getElem? h0))
 cases this
end Go.Proofs.YtdfojkbgdoiglaaDoor
namespace Go.Proofs.YtdfojkbgdoiglaaDoor
open Go.RowKit
section
variable {P : Program} {ops : Array Oper} {oz : Oper} {Q Q2 : Exit → Act → World → Prop} {md : Region.Mode}
def popB (md : Region.Mode) (ops : Array Oper) (oz : Oper) : Bool :=
 (List.range ops.size).all (fun j => oz.after.any fun e => Region.binds md e && e.on == j) && oz.after.all (fun e => !Region.binds md e || decide (e.on < ops.size)) && ops.toList.all fun o => (o.guard.map fun g => decide (g.1 < ops.size)).getD true
theorem pop_both {l : Array Bool} {i : Nat} (h : l.getD i true = false) : l.getD i false = false := by
 rcases Nat.lt_or_ge i l.size with h' | h'
 ·simp [h'] at h ⊢; exact h
 ·simp [Array.getElem?_eq_none h'] at h
theorem pop_in {l : Array Bool} {i : Nat} (hi : i < l.size) (h : l.getD i false = false) : l.getD i true = false := by
 simp [hi] at h ⊢; exact h
theorem getD_pushF (l : Array Bool) (k : Nat) : (l.push false).getD k false = l.getD k false := by
 rw [Array.getD_eq_getD_getElem?, Array.getD_eq_getD_getElem?, Array.getElem?_push]
 split
 ·rename_i h
  rw [h, Array.getElem?_eq_none (Nat.le_refl _)]
  rfl
 ·rfl
theorem getD_pushT (l : Array Bool) {k : Nat} (h : k < l.size) : (l.push false).getD k true = l.getD k true := by
 rw [Array.getD_eq_getD_getElem?, Array.getD_eq_getD_getElem?, Array.getElem?_push, if_neg (by omega)]
theorem set_push (l : Array Bool) {k : Nat} (h : k < l.size) : (l.push false).setIfInBounds k true = (l.setIfInBounds k true).push false := by
 apply Array.ext_getElem?
 intro i
 simp only [Array.getElem?_push, Array.getElem?_setIfInBounds, Array.size_setIfInBounds, Array.size_push]
 by_cases h1 : k = i
 ·subst h1
  simp [h, Nat.ne_of_lt h, Nat.lt_succ_of_lt h]
 ·simp [h1]
theorem wp_monoQ {o : Oper} {a : Act} {w : World} {K K' : Act → World → Prop} (h : ∀ a w, K a w → K' a w) (hQ : ∀ e a w, e ≠ .normal → Q2 e a w → Q e a w) (hh : o.wp P a w K Q2) : o.wp P a w K' Q := by
 have ho : LetsOut Q2 → LetsOut Q := fun ⟨a, w, h⟩ => ⟨a, w, hQ _ _ _ (by simp) h⟩
 unfold Oper.wp at *
 generalize (execOp a.eval o).run P w = r at *
 cases r with
 | ok n w' =>
   cases n <;> simp only [Oper.upon] at hh ⊢ <;>
    first
     | exact h _ _ hh
     | exact Calls.mono hh (fun e w'' he => by cases e <;> first | exact h _ _ he | exact ho he | exact hQ _ _ _ (by simp) he)
     | exact Rows.mono hh (fun _ _ he => h _ _ he)
 | halt x w' => cases x <;> simp only [Oper.upon] at hh ⊢ <;> first | exact hh | exact hQ _ _ _ (by simp) hh
theorem wpOp_push {i : Nat} {a : Act} {w : World} {K K' : Act → World → Prop} (hb : popB md ops oz = true) (hi : i < ops.size) (h : ∀ a w, K a w → K' a w) (hQ : ∀ e a w, e ≠ .normal → Q2 e a w → Q e a w) (hh : wpOp P ops Q2 i K a w) : wpOp P (ops.push oz) Q i K' a w := by
 have ho : LetsOut Q2 → LetsOut Q := fun ⟨a, w, h⟩ => ⟨a, w, hQ _ _ _ (by simp) h⟩
 have he : (ops.push oz)[i]? = ops[i]? := by rw [Array.getElem?_push, if_neg (Nat.ne_of_lt hi)]
 unfold wpOp at hh ⊢
 rw [he]
 have hoi : ops[i]? = some ops[i] := Array.getElem?_eq_getElem hi
 simp only [hoi] at hh ⊢
 have hw : Region.wanted ops[i] (yielded (ops.push oz) a.tmps) = Region.wanted ops[i] (yielded ops a.tmps) := by
  unfold Region.wanted
  cases hg : ops[i].guard with
  | none => rfl
  | some gw =>
    obtain ⟨gg, want⟩ := gw
    have hlt : gg < ops.size := by
     unfold popB at hb
     simp only [Bool.and_eq_true] at hb
     have := List.all_eq_true.1 hb.2 ops[i] (by simp)
     simpa [hg] using this
    have : yielded (ops.push oz) a.tmps gg = yielded ops a.tmps gg := by
     unfold yielded
     rw [Array.getElem?_push, if_neg (Nat.ne_of_lt hlt)]
    simp only [this]
 rw [hw]
 split
 ·rename_i hq
  rw [if_pos hq] at hh
  exact hh.imp (wp_monoQ h hQ) fun ⟨h1, h2⟩ => ⟨h1, ho h2⟩
 ·rename_i hq
  rw [if_neg hq] at hh
  exact h _ _ hh
theorem wpAny_push (hb : popB md ops oz = true) (hc : regCheck md ops = true) (hQ : ∀ e a w, e ≠ .normal → Q2 e a w → Q e a w) (hN : ∀ a w, Q2 .normal a w → wpOp P (ops.push oz) Q ops.size (fun a w => Q .normal a w) a w) :
 ∀ (fuel : Nat) (l : Array Bool) (a : Act) (w : World), l.size = ops.size → wpAny P md ops Q2 fuel l a w → wpAny P md (ops.push oz) Q (fuel + 1) (l.push false) a w := by
 have hb' := hb
 unfold popB at hb'
 simp only [Bool.and_eq_true] at hb'
 obtain ⟨⟨hb1, hb2⟩, _⟩ := hb'
 have hoz : (ops.push oz)[ops.size]? = some oz := by rw [Array.getElem?_push, if_pos rfl]
 have fin : ∀ (fuel : Nat) (l : Array Bool) (a : Act) (w : World), l.size = ops.size → Region.ready md ops l = [] → Q2 .normal a w → wpAny P md (ops.push oz) Q (fuel + 1) (l.push false) a w := fun fuel l a w hsz hr hq => by
  have all : ∀ j, j < ops.size → l.getD j false = true := by
   intro j
   induction j using Nat.strongRecOn with
   | _ j ih =>
     intro hj
     have ho : ops[j]? = some ops[j] := Array.getElem?_eq_getElem hj
     cases hh : l.getD j false with
     | true => rfl
     | false =>
       exfalso
       have hm : j ∈ Region.ready md ops l := mem_ready.2 ⟨pop_in (by omega) hh, ops[j], ho, fun e he hbe => by
        have h1 := List.all_eq_true.1 hc j (List.mem_range.2 hj)
        simp only [ho, Bool.and_eq_true] at h1
        have h2 := Array.all_eq_true_iff_forall_mem.1 h1.2 e he
        simp only [hbe, Bool.not_true, Bool.false_or, decide_eq_true_eq] at h2
        exact ih e.on h2 (by omega)⟩
       rw [hr] at hm
       cases hm
  have hz : ops.size ∈ Region.ready md (ops.push oz) (l.push false) := mem_ready.2 ⟨by
   rw [Array.getD_eq_getD_getElem?, Array.getElem?_push, if_pos hsz.symm]
   rfl, oz, hoz, fun e he hbe => by
   have h2 := Array.all_eq_true_iff_forall_mem.1 hb2 e he
   simp only [hbe, Bool.not_true, Bool.false_or, decide_eq_true_eq] at h2
   rw [getD_pushF]
   exact all _ h2⟩
  refine ⟨fun h => (by rw [h] at hz; cases hz), fun i hi => ?_⟩
  obtain ⟨h1, o, ho, _hx⟩ := mem_ready.1 hi
  have hi1 : i < ops.size + 1 := by simpa using (Array.getElem?_eq_some_iff.1 ho).1
  have hie : i = ops.size := by
   rcases Nat.lt_or_ge i ops.size with h | h
   ·exfalso
    rw [getD_pushT l (by omega)] at h1
    have := pop_both h1
    rw [all i h] at this
    cases this
   ·omega
  subst hie
  refine wpOp_mono (fun a w hq => ?_) (hN a w hq)
  have hr' : Region.ready md (ops.push oz) ((l.push false).setIfInBounds ops.size true) = [] := by
   rw [List.eq_nil_iff_forall_not_mem]
   intro j hj
   obtain ⟨h1, o, ho, _⟩ := mem_ready.1 hj
   have hj1 : j < ops.size + 1 := by simpa using (Array.getElem?_eq_some_iff.1 ho).1
   by_cases hje : ops.size = j
   ·subst hje
    have := pop_both h1
    rw [Array.getD_eq_getD_getElem?, Array.getElem?_setIfInBounds_self_of_lt (by rw [Array.size_push]; omega)] at this
    cases this
   ·rw [getD_set_ne true hje, getD_pushT l (by omega)] at h1
    have := pop_both h1
    rw [all j (by omega)] at this
    cases this
  cases fuel with
  | zero => exact ⟨hr', hq⟩
  | succ n => exact ⟨fun _ => hq, fun i hi => by rw [hr'] at hi; cases hi⟩
 intro fuel
 induction fuel with
 | zero => exact fun l a w hsz h => fin 0 l a w hsz h.1 h.2
 | succ fuel ih =>
   intro l a w hsz h
   by_cases hr : Region.ready md ops l = []
   ·exact fin _ l a w hsz hr (h.1 hr)
   ·obtain ⟨i0, hi0⟩ := List.exists_mem_of_ne_nil _ hr
    obtain ⟨h0, o0, ho0, hw0⟩ := mem_ready.1 hi0
    have hlt0 : i0 < ops.size := (Array.getElem?_eq_some_iff.1 ho0).1
    refine ⟨fun he => ?_, fun i hi => ?_⟩
    ·have : i0 ∈ Region.ready md (ops.push oz) (l.push false) := mem_ready.2 ⟨by rw [getD_pushT l (by omega)]; exact h0, o0, by rw [Array.getElem?_push, if_neg (Nat.ne_of_lt hlt0)]; exact ho0, fun e he hb => by rw [getD_pushF]; exact hw0 e he hb⟩
     rw [he] at this
     cases this
    ·obtain ⟨h1, o, ho, hw⟩ := mem_ready.1 hi
     have hi1 : i < ops.size + 1 := by simpa using (Array.getElem?_eq_some_iff.1 ho).1
     by_cases hie : i = ops.size
     ·exfalso
      subst hie
      rw [hoz] at ho
      obtain rfl := Option.some.inj ho
      have h2 := List.all_eq_true.1 hb1 i0 (List.mem_range.2 hlt0)
      obtain ⟨e, he, hbe⟩ := Array.any_eq_true'.1 h2
      simp only [Bool.and_eq_true, beq_iff_eq] at hbe
      have h3 := hw e he hbe.1
      rw [getD_pushF, hbe.2, pop_both h0] at h3
      cases h3
     ·have hil : i < ops.size := by omega
      have hm : i ∈ Region.ready md ops l := mem_ready.2 ⟨by rw [getD_pushT l (by omega)] at h1; exact h1, o, by rw [Array.getElem?_push, if_neg hie] at ho; exact ho, fun e he hb => by rw [← getD_pushF]; exact hw e he hb⟩
      refine wpOp_push hb hil (fun a w hk => ?_) hQ (h.2 i hm)
      rw [set_push l (by omega)]
      exact ih _ a w (by simpa using hsz) hk
end
section
variable {P : Program} {ops : Array Oper} {oz : Oper} {Q : Exit → Act → World → Prop} {w1 : World} {K : List Fact} {ix : Nat} {R0 R1 : (Tmp → Value) → World → World → Prop}
theorem wp_region_put0 {id : Nat} {a : Act} {w0 : World} {opz : Array Oper} (ops : Array Oper) (oz : Oper) (hpush : ops.push oz = opz) (ds : List Tmp) (a0 : Act) (aL aP : (Tmp → Value) → Act) (vz : (Tmp → Value) → Value) (vals : List Value) (hm : P.follows .mixedOrders = true) (hc : regCheck .any ops = true) (hs : Region.noSelect ops = true) (hb : popB .any ops oz = true)
 (hL : ∀ g, fillA a0 ds g = aL g) (hn : goF a ops.toList vals = aL fun _ => undef) (hS : Below w1.heap.size w1 w0.drew) (hix : ops.size ≤ ix) (hin : (K.all fun f => decide (f.i < ops.size)) = true)
 (hg : GoesL P .any ops aL (SK .any ops w1 K ix ix R0 R1) 0 ops.toList)
 (hwz : ∀ g, Region.wanted oz (yielded (ops.push oz) (aL g).tmps) = true) (hrz : ∀ g w, (execOp (aL g).eval oz).run P w = .ok (.value (vz g)) w) (hP : ∀ g, (aL g).put oz.dst (vz g) = aP g)
 (hQ : ∀ g w, Below w1.heap.size w1 w → (∀ (q : Nat) (f : Fact), K[q]? = some f → f.F (g f.d) w) → Q .normal (aP g) w) :
 (Code.region id opz true).wp P Q a w0 := by
 subst hpush
 refine wp_region_any hm ?_
 have hz : (Array.replicate (ops.push oz).size false) = (Array.replicate ops.size false).push false := by rw [Array.size_push, Array.replicate_succ]
 rw [hz, Array.size_push]
 have hfn : fillA a0 ds = aL := funext hL
 refine wpAny_push (Q2 := fun e a w => match e with | .normal => wpOp P (ops.push oz) Q ops.size (fun a w => Q .normal a w) a w | e => Q e a w) hb hc (fun e a w hne h => by cases e <;> first | exact absurd rfl hne | exact h) (fun a w h => h) _ _ a _ (by simp) ?_
 refine wpAny_made (S := fun l g w => l.size = ops.size ∧ SK .any ops w1 K ix ix R0 R1 l g w) hc hs (fill_turn a0 ds) (fun i o ho l g w hsz hf hr hS => ?_) (fun l g w hall h => ?_) ops.size _ a _ (by simp) (by
  refine Nat.le_trans List.countP_le_length ?_
  simp) ⟨fun _ => undef, by rw [hL]; exact near_of vals hn, by simp, SK.zero hS _⟩
 ·rw [hfn]
  have h := goesAllM_of_list hg i o ho l g w hsz hf hr hS.2
  have up : ∀ v w', After aL (SK .any ops w1 K ix ix R0 R1) i o l g v w' → After aL (fun l g w => l.size = ops.size ∧ SK .any ops w1 K ix ix R0 R1 l g w) i o l g v w' := fun v w' ⟨g', h1, h2, h3⟩ => ⟨g', h1, h2, by simpa using hsz, h3⟩
  split
  ·rename_i hq
   rw [if_pos hq] at h
   rcases h with ⟨v, w', h1, h2⟩ | ⟨f, args, w2, h1, h2⟩
   ·exact .inl ⟨v, w', h1, up v w' h2⟩
   ·exact .inr ⟨f, args, w2, h1, h2.mono fun e w' ⟨v, he, ha⟩ => ⟨v, he, up v w' ha⟩⟩
  ·rename_i hq
   rw [if_neg hq] at h
   exact up _ _ h
 ·rw [hL]
  have hf : l.getD ix false = false := by
   rw [Array.getD_eq_getD_getElem?, Array.getElem?_eq_none (by rw [h.1]; exact hix)]
   rfl
  obtain ⟨h1, h2⟩ := h.2.pre hf
  show wpOp P (ops.push oz) Q ops.size (fun a w => Q .normal a w) (aL g) w
  unfold wpOp
  rw [show (ops.push oz)[ops.size]? = some oz by rw [Array.getElem?_push, if_pos rfl]]
  simp only [hwz g, if_true]
  refine .inl ?_
  unfold Oper.wp
  rw [hrz g w, Oper.upon_value, hP]
  exact hQ g w h1 fun q f hf' => h2 f (List.mem_of_getElem? hf') (hall _ (by have := List.all_eq_true.1 hin f (List.mem_of_getElem? hf'); simpa using this))
theorem wp_region_put {id : Nat} {a : Act} {w0 : World} {opz : Array Oper} {oz : Oper} (_hoz : opz[opz.size - 1]? = some oz) (hpush : opz.pop.push oz = opz) (ds : List Tmp) (a0 : Act) (aL aP : (Tmp → Value) → Act) (vz : (Tmp → Value) → Value) (vals : List Value) (hm : P.follows .mixedOrders = true) (hc : regCheck .any opz.pop = true) (hs : Region.noSelect opz.pop = true) (hb : popB .any opz.pop oz = true)
 (hL : ∀ g, fillA a0 ds g = aL g) (hn : goF a opz.pop.toList vals = aL fun _ => undef) (hS : Below w1.heap.size w1 w0.drew) (hix : opz.pop.size ≤ ix) (hin : (K.all fun f => decide (f.i < opz.pop.size)) = true)
 (hg : GoesL P .any opz.pop aL (SK .any opz.pop w1 K ix ix R0 R1) 0 opz.pop.toList)
 (hwz : ∀ g, Region.wanted oz (yielded opz (aL g).tmps) = true) (hrz : ∀ g w, (execOp (aL g).eval oz).run P w = .ok (.value (vz g)) w) (hP : ∀ g, (aL g).put oz.dst (vz g) = aP g)
 (hQ : ∀ g w, Below w1.heap.size w1 w → (∀ (q : Nat) (f : Fact), K[q]? = some f → f.F (g f.d) w) → Q .normal (aP g) w) :
 (Code.region id opz true).wp P Q a w0 :=
 wp_region_put0 opz.pop oz hpush ds a0 aL aP vz vals hm hc hs hb hL hn hS hix hin hg (by rw [hpush]; exact hwz) hrz hP hQ
end
end Go.Proofs.YtdfojkbgdoiglaaDoor
