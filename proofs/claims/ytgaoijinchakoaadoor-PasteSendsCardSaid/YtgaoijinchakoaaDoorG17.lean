/-
  From a walk to a law's row, for all laws: arguments read behind the call as they read before, out of the frame alone; a slice of bytes is opened as a list. Cut out of RegH: what names no function of any dump. Bytes as the library's contracts read them; bytes.HasPrefix. Cut out of RdA. Layer 2, walked: the document's All.
-/
import Derived.Test.YtgaoijinchakoaaDoorG03
import Derived.Test.YtgaoijinchakoaaDoorG07
import Derived.Test.YtgaoijinchakoaaDoorG12
import Derived.Test.YtgaoijinchakoaaDoorG14
import Derived.Test.YtgaoijinchakoaaDoorG15
import Derived.Test.YtgaoijinchakoaaDoorG16
import Derived.Deep.DeepHandedRow
import Derived.Lib.LaidTab
import Derived.SizedLaws
import Derived.Test.YtgaoijinchakoaaDoorShelf
namespace Go.Proofs.YtgaoijinchakoaaDoor
open Go.RowKit Go.WideShapes Go.ChangeShapes Go.ChangeAt Go.ChangeMaps
section
section
variable {H : Type} {enc : TypeId × Value → H} {P : Program}
theorem trodAll_below (hl : laidOutB P = true) {W W' : World} (hb : Below W.heap.size W W') : ∀ {ts : List TypeId} {vs : List Value} {ds : List (DataW H)} {ps : List MemPlace},
 (ts.all fun t => P.readableRec t && decide (t < P.types.size)) = true → (∀ x ∈ ps, x.block < W.heap.size) → DataW.TrodAll enc P W 0 (fun _ => true) true ts vs ds ps →
 DataW.TrodAll enc P W' 0 (fun b => decide (b < W.heap.size)) true ts vs ds ps
 | [], [], [], _, _, _, h => h
 | t :: ts, v :: vs, d :: ds, ps, hr, hlt, h => by
   obtain ⟨p, q, h1, h2, rfl⟩ := h
   simp only [List.all_cons, Bool.and_eq_true, decide_eq_true_eq] at hr
   exact ⟨p, q, Below.trod hl hr.1.1 hr.1.2 h1 hb (fun x hx => hlt x (List.mem_append_left _ hx)), trodAll_below hl hb hr.2 (fun x hx => hlt x (List.mem_append_right _ hx)) h2, rfl⟩
theorem law_end (hl : laidOutB P = true) {f : Func} {s : ChangeSpec} {W W' : World} {args : Array Value} {ds : List (DataW H)} {before : List MemPlace} {T : TypeId} (hT : P.underlying T = some .bool)
 (hv : s.vars = []) (hrt : f.resultTypes = #[T]) (hread : (f.params.toList.all fun t => P.readableRec t && decide (t < P.types.size)) = true)
 (hW : DataW.Whole enc P f.params.toList s.vars false W args.toList ds [] before) (hA : DataW.TrodAll enc P W 0 (fun _ => true) true f.params.toList args.toList ds before)
 (hs : s.fn H (ds ++ []) = { results := [.lit (.bool true)], args := ds }) (hb : Below W.heap.size W W') :
 s.post enc P f false true false false W args (.bool true) W' := by
 have hlt : ∀ p ∈ before, p.block < W.heap.size := fun p hp => hW.lt p hp
 refine ⟨ds, [], before, [], before, [], hW, ?_, ?_, ?_, World.keptBut_mono (fun p hp => ⟨hp, .inr (.inl hp)⟩) (hb.frame (· ∈ before)), fun hd => absurd hd (by simp)⟩
 ·rw [hs, hrt]; exact trodAll_mk1 (shut_bool hT _)
 ·rw [hs]; exact trodAll_below hl hb hread hlt hA
 ·rw [hs, hv]; exact rfl
theorem bytes_reach {ts : List TypeId} {ds : List (DataW H)} (hR : (DataW.weightsEach P ts ds).all (· ≤ reachBytes) = true) {j : Nat} {t e : TypeId} {d : DataW H} {l : List UInt8} (ht : ts[j]? = some t) (hd : ds[j]? = some d) (hu : P.underlying t = some (.slice e)) (hb : P.bytesOf e = 1)
 (h : l = [] ∨ ∃ elems spare, d = .slice elems spare ∧ l.length ≤ elems.length + spare.length) : l.length ≤ 140737488351232 := by
 rcases h with rfl | ⟨elems, spare, rfl, hl⟩
 ·simp
 ·have := sized_slice hR ht hd hu
  rw [hb] at this
  have hr : reachBytes = 140737488351232 := by decide
  omega
end
end
end Go.Proofs.YtgaoijinchakoaaDoor
namespace Go.Proofs.YtgaoijinchakoaaDoor
open Go.RowKit
section
section
variable {P : Program} {ops : Array Oper} {md : Region.Mode} {w1 : World} {K : List Fact} {ix iz : Nat} {R0 R1 : (Tmp → Value) → World → World → Prop} {aF : (Tmp → Value) → Act} {i : Nat} {o : Oper}
theorem goesK_know (v : Value) (hst : ∀ f ∈ K, f.ok) (hah : Ahead md ops ix i) (hio : ops[i]? = some o) (hx : i ≠ ix) (hz : i ≠ iz) (hni : (K.all fun f => f.i != i) = true) (hw : ∀ g, Region.wanted o (yielded ops (aF g).tmps) = true) {d0 : Tmp} (h0 : o.dst = some d0) (hd : ∀ g, (aF g).tmps[d0]? = some v)
 (h : ∀ g w, Below w1.heap.size w1 w → (∀ (q : Nat) (f : Fact), K[q]? = some f → edgeB md ops i f.i = true → f.F (g f.d) w) → (execOp (aF g).eval o).run P w = .ok (.value v) w) :
 GoesM P md ops aF (SK md ops w1 K ix iz R0 R1) i o := fun l g w hsz hf hrd hS => by
 rw [if_pos (hw g)]
 have hfx := hah l hsz hS.shut hf
 obtain ⟨h1, h2⟩ := hS.pre hfx
 refine .inl ⟨v, w, .inl (h g w h1 fun q f' hf' he => h2 f' (List.mem_of_getElem? hf') ?_), g, .inl rfl, (fun d' h' => by rw [h0] at h'; cases h'; exact hd g), hS.quiet hst (hS.shut.step hio hrd) (Below.refl _ _) hx hz hni hfx⟩
 unfold edgeB at he
 rw [hio] at he
 obtain ⟨e, he, hb⟩ := Array.any_eq_true'.1 he
 simp only [Bool.and_eq_true, beq_iff_eq] at hb
 rw [← hb.2]
 exact hrd e he hb.1
end
end
theorem bytesIn_of {w : World} {A : Option Addr} {l : List UInt8} (h : Rd w A (bs l)) : Lib.BytesIn w A l.length (l.map fun x => (x.toNat : Int)) := fun hn => by
 obtain ⟨b, o, rfl, _, hc⟩ := h.at_ hn
 refine ⟨b, o, rfl, fun i hi => ?_⟩
 rw [hc i hi]
 simp [List.getD, List.getElem?_eq_getElem hi]
theorem hasp_any (A1 A2 : Option Addr) (n c m d : Nat) (l t : List UInt8) (q : Bool) (w : World) (hl : l.length = n) (ht : t.length = m) (hc : n ≤ c) (hq : skipB t l = q) (h1 : Rd w A1 (bs l)) (h2 : Rd w A2 (bs t)) :
 Calls Tryd.prog 33 #[.slice A1 n c, .slice A2 m d] w fun e w' => e = .returned (.bool q) ∧ w = w' := by
 subst hl
 subst ht
 refine (Tryd.bytes_HasPrefix_all A1 A2 _ c _ d (l.map fun x => (x.toNat : Int)) (t.map fun x => (x.toNat : Int)) w (by simp) (by simp) hc (bytesIn_of h1) (bytesIn_of h2)).mono ?_
 rintro e w' ⟨rfl, rfl⟩
 refine ⟨?_, rfl⟩
 have e : ∀ k : List UInt8, Lib.bytesOf (k.map fun x => (x.toNat : Int)) = k := fun k => by
  unfold Lib.bytesOf
  rw [List.map_map]
  calc k.map ((fun n : Int => UInt8.ofNat n.toNat) ∘ fun x : UInt8 => (x.toNat : Int)) = k.map id := List.map_congr_left (fun x _ => by simp)
   _ = k := List.map_id k
 rw [e, e, ← hq]
 rfl
theorem rtake_tup (A : Option Addr) (n c : Nat) (l : List UInt8) (r : Int) (m : Nat) (w : World) (hn : l.length = n) (h : takeL l = (r, m)) (hl : l.length ≤ 4294967296) (hlc : n ≤ c) (hr : Rd w A (bs l)) :
 Calls Tryd.prog 23 #[.slice A n c] w fun e w' => e = .returned (.tuple #[.int .i64 r, .int .i64 m]) ∧ Below w.heap.size w w' := by
 subst hn
 refine (rtake_any A c l w hl hlc hr).mono ?_
 rintro e w' ⟨rfl, hb⟩
 exact ⟨by unfold Tk; rw [h], hb⟩
theorem all_pre {t : List UInt8} {pre : List Int} {k m : Nat} {r : Int} (h : allL t = (allL (t.drop k)).map (pre ++ ·)) (ht : takeL (t.drop k) = (r, m)) (hm : m ≠ 0) : allL t = (allL (t.drop (k + m))).map ((pre ++ [r]) ++ ·) := by
 rw [h, allL_yes (by rw [ht]; exact hm), ht, List.drop_drop]
 cases allL (t.drop (k + m)) with
 | none => rfl
 | some x => simp
set_option maxRecDepth 100000 in
set_option maxHeartbeats 2000000 in
theorem rall_own (A : Option Addr) (c : Nat) (t : List UInt8) (w : World) (ht : t.length ≤ 4294967296) (htc : t.length ≤ c) (hr : Rd w A (bs t)) :
 Calls Tryd.prog 20 #[.slice A t.length c] w (AlO (allL t) w) := by
 obtain ⟨i0, hi, hz0, hz1, hz2⟩ := info_parts Tryd.intinfo
 go_enter Tryd.func20, Tryd.ntmps20
 go_wp2
 go_loopw [4, 5] (fun v i wr => ∃ (k : Nat) (pre : List Int), k ≤ t.length ∧ i = .int .i64 k ∧ pre.length ≤ k ∧ allL t = (allL (t.drop k)).map (pre ++ ·) ∧ Own wr w.heap.size 3 1 v pre.length (is_ pre) ∧ Below w.heap.size w wr) (fun _ i _ => t.length - (intOf i).toNat)
 case atStart => exact ⟨0, [], Nat.zero_le _, rfl, Nat.le_refl _, by rw [List.drop_zero]; cases allL t <;> rfl, Own.nil_ _ _ _ _, Below.refl _ _⟩
 case round =>
  obtain ⟨k, pre, hk, rfl, hpk, hpre, hown, hbw⟩ := hrel
  have HP := Lib.hid hpre
  clear hpre
  by_cases hlt : k < t.length
  ·have hrw := hr.below hbw
   obtain ⟨b, o, rfl, hb, hcc⟩ := hrw.at_ (by omega)
   have hdr := (RdIn.of hrw).drop k hlt
   clear hcc
   have k0 : (0 : Int) ≤ (k : Int) := by omega
   have k1 : (k : Int) ≤ (t.length : Int) := by omega
   have hlen := Lib.hid (show (t.drop k).length = t.length - k from List.length_drop)
   have hld : (t.drop k).length ≤ 4294967296 := by rw [List.length_drop]; omega
   by_cases hz : (takeL (t.drop k)).2 = 0
   ·have E := Lib.hid (take_zero hz)
    have EN := Lib.hid (show allL t = none by rw [HP.out, allL_no (by rw [List.length_drop]; omega) hz]; rfl)
    clear hz
    go_wp2_with fail
    refine (rtake_tup _ _ _ (t.drop k) 0 0 _ hlen.out E.out hld (by omega) hdr).mono ?_
    rintro e w2 ⟨rfl, hb2⟩
    have hb2 : Below w.heap.size w w2 := hbw.trans (hb2.mono hbw.size)
    go_wp2_with fail
    go_ret2
    exact AlO.no EN.out hb2
   ·have hle := (take_snd_le (t.drop k)).1
    obtain ⟨r, hr1⟩ : ∃ r, (takeL (t.drop k)).1 = r := ⟨_, rfl⟩
    obtain ⟨m, hm1⟩ : ∃ m, (takeL (t.drop k)).2 = m := ⟨_, rfl⟩
    have E := Lib.hid (show takeL (t.drop k) = (r, m) by rw [← hr1, ← hm1])
    rw [hm1, List.length_drop] at hle
    rw [hm1] at hz
    have m1 : ((m : Int) == 0) = false := beq_false_of_ne (by omega)
    have PE := Lib.hid (all_pre HP.out E.out hz)
    clear hr1 hm1
    have h63 : pre.length + 1 ≤ maxLen := by simp only [maxLen]; omega
    have hlim : (pre.length + 1) * 8 ≤ 140737488355328 := by omega
    have one1 : ∀ x : Int, ∀ u ∈ [Value.int .i64 x], u.oneCell' = true := fun x => ints_one [x]
    go_wp2_with fail
    refine (rtake_tup _ _ _ (t.drop k) r m _ hlen.out E.out hld (by omega) hdr).mono ?_
    rintro e w2 ⟨rfl, hb2⟩
    have hown2 := hown.behind hb2
    have hb2 : Below w.heap.size w w2 := hbw.trans (hb2.mono hbw.size)
    have hs2 := hb2.size
    go_wp2_with (at_builtin; refine list_app _ rfl (.tmp 21) (.tmp 23) 35 rfl w.heap.size 3 i0 _ 1 8 Tryd.underlying35 hi hz0 hz1 hz2 rfl Nat.one_pos _ _ _ rfl (hown2.alloc _) (some ⟨w2.heap.size, 0, none⟩) 1 1 _ rfl rfl (rd_lit w2 _ _) (one1 _) h63 hlim (by simp; omega) ?_; intro v4 w4 hown4 hg4)
    have hb4 : Below w.heap.size w w4 := (hb2.alloc hs2 _).grown hg4 (by simp; omega) (fun g hg => (hown2.lt g hg).1)
    have ho : Own w4 w.heap.size 3 1 v4 (pre ++ [r]).length (is_ (pre ++ [r])) := by
     rw [List.length_append, show is_ (pre ++ [r]) = is_ pre ++ [.int .i64 r] by simp [is_]]
     exact hown4
    clear hown4 hg4
    go_wp2
    go_roundw
    case rel => exact ⟨k + m, pre ++ [r], by omega, by go_num, by rw [List.length_append]; show pre.length + 1 ≤ _; omega, PE.out, ho, hb4⟩
    case measure => simp [intOf]; omega
  ·have E := Lib.hid (show allL t = some pre by
    rw [HP.out, List.drop_of_length_le (by omega)]
    show some (pre ++ []) = _
    rw [List.append_nil])
   go_wp2
   go_ret2
   exact AlO.yes E.out hown hbw
end Go.Proofs.YtgaoijinchakoaaDoor
