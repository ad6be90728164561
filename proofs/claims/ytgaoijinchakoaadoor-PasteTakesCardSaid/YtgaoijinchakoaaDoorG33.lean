/-
  Stage 17, the landed paste, walked: which code points are clean; Clean; with how many clean bytes a text begins.
-/
import Derived.Test.YtgaoijinchakoaaDoorG04
import Derived.Test.YtgaoijinchakoaaDoorG26
import Derived.Test.YtgaoijinchakoaaDoorG32
namespace Go.Proofs.YtgaoijinchakoaaDoor
open Go.RowKit Go.Shelf
section
attribute [local go_sem] Oper.semAt_some
theorem ret_bp {x y : Bool} (h : x = y) : Ending.returned (.bool x) = .returned (.bool y) := by rw [h]
set_option maxRecDepth 100000 in
set_option maxHeartbeats 4000000 in
theorem pisClean_any (r : Int) (q : Bool) (hq : clnP r = q) (w : World) : Calls Tryd.prog 22 #[.int .i64 r] w fun e w' => e = .returned (.bool q) ∧ Below w.heap.size w w' := by
 unfold clnP at hq
 by_cases h9 : r = 9
 ·subst h9
  have HF := Lib.hid (show true = q by rw [← hq]; rfl)
  clear hq
  go_enter Tryd.func22, Tryd.ntmps22
  go_wp2_with fail
  go_ret
  exact ⟨ret_bp HF.out, Below.refl _ _⟩
 by_cases h10 : r = 10
 ·subst h10
  have HF := Lib.hid (show true = q by rw [← hq]; rfl)
  clear hq h9
  go_enter Tryd.func22, Tryd.ntmps22
  go_wp2_with fail
  go_ret
  exact ⟨ret_bp HF.out, Below.refl _ _⟩
 by_cases h13 : r = 13
 ·subst h13
  have HF := Lib.hid (show true = q by rw [← hq]; rfl)
  clear hq h9 h10
  go_enter Tryd.func22, Tryd.ntmps22
  go_wp2_with fail
  go_ret
  exact ⟨ret_bp HF.out, Below.refl _ _⟩
 rw [decide_eq_false h9, decide_eq_false h10, decide_eq_false h13] at hq
 have t9 : (r == 9) = false := beq_false_of_ne h9
 have t10 : (r == 10) = false := beq_false_of_ne h10
 have t13 : (r == 13) = false := beq_false_of_ne h13
 clear h9 h10 h13
 by_cases h32 : 32 ≤ r
 ·by_cases h127 : r < 127
  ·have HF := Lib.hid (show true = q by rw [← hq, decide_eq_true h32, decide_eq_true h127]; rfl)
   clear hq
   go_enter Tryd.func22, Tryd.ntmps22
   go_wp2_with fail
   go_ret
   exact ⟨ret_bp HF.out, Below.refl _ _⟩
  ·by_cases h159 : 159 < r
   ·have HF := Lib.hid (show true = q by rw [← hq, decide_eq_true h32, decide_eq_false h127, decide_eq_true h159]; rfl)
    clear hq
    go_enter Tryd.func22, Tryd.ntmps22
    go_wp2_with fail
    go_ret
    exact ⟨ret_bp HF.out, Below.refl _ _⟩
   ·have HF := Lib.hid (show false = q by rw [← hq, decide_eq_true h32, decide_eq_false h127, decide_eq_false h159]; rfl)
    clear hq
    go_enter Tryd.func22, Tryd.ntmps22
    go_wp2_with fail
    go_ret
    exact ⟨ret_bp HF.out, Below.refl _ _⟩
 ·have HF := Lib.hid (show false = q by rw [← hq, decide_eq_false h32]; rfl)
  clear hq
  go_enter Tryd.func22, Tryd.ntmps22
  go_wp2_with fail
  go_ret
  exact ⟨ret_bp HF.out, Below.refl _ _⟩
theorem piece_at {t : List UInt8} {b o : Nat} {w : World} {A : Option Addr} (hA : 0 < t.length → A = some ⟨b, o, none⟩) (hr : Rd w A (bs t)) (x : PcT t) : ∀ j u, (bs ((t.drop x.v.2.1).take x.v.2.2))[j]? = some u → w.cell? ((⟨b, o + x.v.2.1, none⟩ : Addr).add j) = some u := fun j u hu => by
 obtain ⟨h1, h2⟩ := pcA_mem t t.length 0 (by omega) x.v x.h
 obtain ⟨b', o', e, hb, hc⟩ := hr (by rw [bs_length]; omega)
 rw [hA (by omega)] at e
 injection e with e
 injection e with e1 e2
 subst e1 e2
 rw [addr_add_at]
 have hj := (List.getElem?_eq_some_iff.1 hu).1
 rw [bs_length, List.length_take, List.length_drop] at hj
 have := hc (x.v.2.1 + j) u (by
  rw [← hu]
  unfold bs
  rw [List.getElem?_map, List.getElem?_map, List.getElem?_take, if_pos (by omega), List.getElem?_drop])
 rw [Nat.add_assoc]
 exact this
theorem piece_len {t : List UInt8} (x : PcT t) : ((t.drop x.v.2.1).take x.v.2.2).length = x.v.2.2 := by
 obtain ⟨h1, h2⟩ := pcA_mem t t.length 0 (by omega) x.v x.h
 rw [List.length_take, List.length_drop]
 omega
theorem appended0 {W w1 : World} {n₀ B : Nat} {t e : TypeId} {size : Nat} {v v' : Value} {k m : Nat} {xs ys : List Value}
 (hv : Boxed W B t v) (hte : t ≠ e) (hrow : W.ownsRow n₀ e size v k xs) (hn₀ : n₀ ≤ W.heap.size) (hB : n₀ ≤ B)
 (hown' : w1.ownsRow n₀ e size v' m ys) (hgrow : W.grownBy w1 v.ownBlock) :
 Boxed w1 B t v ∧ Boxed (w1.setCell ⟨B, 0, none⟩ v') B t v' ∧ (w1.setCell ⟨B, 0, none⟩ v').ownsRow n₀ e size v' m ys ∧ KeepsOthers W (w1.setCell ⟨B, 0, none⟩ v') ∧ Below n₀ W (w1.setCell ⟨B, 0, none⟩ v') := by
 have hv1 : Boxed w1 B t v := hv.kept hgrow (hv.not_row hte hrow)
 refine ⟨hv1, hv1.set v', hown'.kept (grownBy_setCell' w1 B v') (.inr (hv1.not_row hte hown').symm), ?_, ?_⟩
 ·refine (KeepsOthers.of_grownBy hgrow fun j o ej hj => ?_).trans (KeepsOthers.setCell _ _ _)
  rcases hrow.2 with ⟨rfl, _⟩ | ⟨g, cap, cur, rfl, _, hgb, _⟩
  ·simp [Value.ownBlock] at ej
  ·obtain rfl : g = j := by simpa [Value.ownBlock] using ej
   rw [hgb] at hj; cases hj; rfl
 ·refine ((Below.refl n₀ W).grown hgrow hn₀ fun j ej => ?_).setCell (p := ⟨B, 0, none⟩) hB v'
  rcases hrow.2 with ⟨rfl, _⟩ | ⟨g, cap, cur, rfl, hb, _, _⟩
  ·simp [Value.ownBlock] at ej
  ·obtain rfl : g = j := by simpa [Value.ownBlock] using ej
   exact hb
def OutP (L : List UInt8) (n : Nat) (w : World) (e : Ending) (w' : World) : Prop := ∃ A c, e = .returned (.slice A n c) ∧ Own w' w.heap.size 5 1 (.slice A n c) n (bs L) ∧ Below w.heap.size w w'
def clT (t : List UInt8) (pre : List (PcT t)) : List UInt8 := clO t (pre.map PcT.v)
theorem clT_snoc (t : List UInt8) (pre : List (PcT t)) (x : PcT t) : clT t (pre ++ [x]) = clT t pre ++ (if clnP x.v.1 = true then (t.drop x.v.2.1).take x.v.2.2 else []) := by
 unfold clT
 rw [List.map_append, List.map_cons, List.map_nil, clO_snoc]
theorem clT_len (t : List UInt8) (pre : List (PcT t)) : (clT t pre).length ≤ pre.length * t.length := by
 induction pre with
 | nil => simp [clT, clO]
 | cons x pre ih =>
   have e : clT t (x :: pre) = (if clnP x.v.1 = true then (t.drop x.v.2.1).take x.v.2.2 else []) ++ clT t pre := by simp [clT, clO]
   have h2 : (if clnP x.v.1 = true then (t.drop x.v.2.1).take x.v.2.2 else []).length ≤ t.length := by
    split
    ·rw [List.length_take, List.length_drop]; omega
    ·simp
   rw [e, List.length_append, List.length_cons, Nat.add_mul]
   omega
theorem lnT_len (t : List UInt8) (pre : List (PcT t)) : lnO (pre.map PcT.v) ≤ pre.length * t.length := by
 induction pre with
 | nil => simp [lnO]
 | cons x pre ih =>
   obtain ⟨h1, h2⟩ := pcA_mem t t.length 0 (by omega) x.v x.h
   have e : lnO ((x :: pre).map PcT.v) = x.v.2.2 + lnO (pre.map PcT.v) := by simp [lnO]
   rw [e, List.length_cons, Nat.add_mul]
   omega
theorem pcL_len (t : List UInt8) : (pcL t).length ≤ t.length := by
 have key : ∀ (l : List (Int × Nat × Nat)), (∀ x ∈ l, 1 ≤ x.2.2) → l.length ≤ lnO l := by
  intro l
  induction l with
  | nil => intro _; simp [lnO]
  | cons x l ih =>
    intro h
    have h1 := h x (List.mem_cons_self ..)
    have h2 := ih fun y hy => h y (List.mem_cons_of_mem _ hy)
    have e : lnO (x :: l) = x.2.2 + lnO l := by simp [lnO]
    rw [e, List.length_cons]
    omega
 exact Nat.le_trans (key _ fun x hx => (pcA_mem t t.length 0 (by omega) x hx).1) (lnO_pre t (List.prefix_refl _))
set_option maxRecDepth 100000 in
set_option maxHeartbeats 8000000 in
theorem pclean_any (A : Option Addr) (n c : Nat) (t : List UInt8) (hn : t.length = n) (w : World) (hs : Siz w) (ht : n ≤ 4000000) (htc : n ≤ c) (hr : Rd w A (bs t)) :
 Calls Tryd.prog 10 #[.slice A n c] w (OutP (clnL t) (clnL t).length w) := by
 subst hn
 obtain ⟨i0, hi0, hz0, hz1, hz2⟩ : ∃ i, Tryd.prog.info? 5 = some i ∧ i.zero = some (.int .u8 0) ∧ i.size = 1 ∧ i.bytes = 1 := ⟨_, rfl, rfl, rfl, rfl⟩
 have hg0 : 0 < w.heap.size := by obtain ⟨_, _, hh⟩ := hs; exact (Array.getElem?_eq_some_iff.1 hh).1
 obtain ⟨b, o, hA⟩ : ∃ b o, 0 < t.length → A = some ⟨b, o, none⟩ := by
  by_cases h : 0 < t.length
  ·obtain ⟨b, o, e, _⟩ := hr (by rw [bs_length]; exact h)
   exact ⟨b, o, fun _ => e⟩
  ·exact ⟨0, 0, fun h2 => absurd h2 h⟩
 refine (callsIn_wide (n := 3)).1 ?_
 refine callsIn_of_wp_marks Tryd.func10 rfl trivial ?_ rfl
 simp only [Tryd.ntmps10, List.size_toArray, List.length_cons, List.length_nil, Nat.reduceAdd, Nat.reduceSub, Array.replicate_succ, Array.replicate_zero, List.push_toArray, List.append_toArray, List.nil_append, List.cons_append]
 gi_wp2_with fail
 refine ⟨trivial, ?_⟩
 gi_at_call 21
 refine (callsIn_wide.2 (ppoints_any A t.length c _)).mono ?_
 rintro e w1 ⟨rfl, rfl⟩
 gi_wp2_with fail
 have r0 := Boxed.new w 24 (.slice none 0 0)
 have bx := Blk.new (w.alloc (.cells #[.slice none 0 0] 24)) 24 #[.slice A t.length c]
 simp only [World.size_alloc] at bx
 have hB0 : Below w.heap.size w ((w.alloc (.cells #[.slice none 0 0] 24)).alloc (.cells #[.slice A t.length c] 24)) := ((Below.refl _ w).alloc (Nat.le_refl _) _).alloc (by simp) _
 refine wpIn_rangeFunc_ownG rfl (by omega) (gf := 34) (lb := #[.pointer (some ⟨w.heap.size + 1, 0, none⟩)]) rfl trivial (enters_of Tryd.func34 (by kernel_rfl) rfl)
  (pcs_stops 2 (by omega) (w.heap.size + 1) w.heap.size c b o A t hA (by omega) htc hg0 _ (by simp; omega) bx (hs.below' hB0) ((RdIn.of hr).below hB0)) kp2_t (kp2_b (by simp; omega) (by simp)) (Below.refl _ _) (fun _ => rfl)
  (fun (pre : List (PcT t)) W => ((∃ v, Boxed W w.heap.size 24 v ∧ W.ownsRow w.heap.size 5 1 v (clT t pre).length (bs (clT t pre)) ∧ True) ∧ Boxed W (w.heap.size + 1) 24 (.slice A t.length c)) ∧ Below w.heap.size w W)
  (fun _ (pre : List (PcT t)) W => False ∧ Below w.heap.size w W)
  (OwnFrom.and (OwnFrom.and (Go.Own.from (holdsRow_own w.heap.size w.heap.size 24 5 1 (fun pre : List (PcT t) => (clT t pre).length) (fun pre => bs (clT t pre)) (fun _ _ => True)) _) (Go.Own.from (boxed_own (w.heap.size + 1) 24 fun _ => .slice A t.length c) _)) (ownFrom_below (Nat.le_refl _) (by simp; omega)))
  (fun j => OwnFrom.and (ownFrom_pure _ fun (pre : List (PcT t)) => False) (ownFrom_below (Nat.le_refl _) (by simp; omega)))
  ⟨⟨⟨_, r0.alloc _, World.ownsRow_nil _ _ _ _, trivial⟩, bx⟩, hB0⟩
  (fun x => { tmps := #[.slice A t.length c, undef, .slice none 0 0, .pointer (some ⟨w.heap.size, 0, none⟩), .int .i64 x.v.1, .slice (some ⟨b, o + x.v.2.1, none⟩) x.v.2.2 (c - x.v.2.1), .slice A t.length c, .func (.func 34) #[] #[.pointer (some ⟨w.heap.size + 1, 0, none⟩)], .int .i64 x.v.1, .slice (some ⟨b, o + x.v.2.1, none⟩) x.v.2.2 (c - x.v.2.1), undef, undef, undef, undef, undef, undef], defers := [] }) ?assign ?body ?done ?stop
 case assign =>
  intro l x W K hK
  simp only [pcV]
  gi_wp2
  exact hK
 case body =>
  rintro l pre x W ⟨⟨⟨v, hv, hrow, _⟩, b3⟩, hB⟩ hlt
  have hsn := clT_snoc t pre x
  have hpl := piece_len x
  have hl1 := clT_len t pre
  have hl2 := pcL_len t
  obtain ⟨hx1, hx2⟩ := pcA_mem t t.length 0 (by omega) x.v x.h
  have hbd : (clT t pre).length ≤ 4000000 * 4000000 := Nat.le_trans hl1 (Nat.mul_le_mul (by omega) ht)
  obtain ⟨q, hq⟩ : ∃ q, clnP x.v.1 = q := ⟨_, rfl⟩
  gi_wp2_with fail
  refine ⟨trivial, ?_⟩
  gi_at_call 22
  refine (CallsIn.inRound l (callsIn_wide.2 (pisClean_any x.v.1 q hq _))).mono ?_
  rintro e w2 ⟨rfl, hb⟩
  have hv2 : Boxed w2 w.heap.size 24 v := Blk.below (cs := #[v]) hv hb (Blk.lt (cs := #[v]) hv)
  have b32 : Boxed w2 (w.heap.size + 1) 24 (.slice A t.length c) := Blk.below (cs := #[.slice A t.length c]) b3 hb (Blk.lt (cs := #[.slice A t.length c]) b3)
  have hrow2 := hrow.kept (below_grown0 hb) (by by_cases h : v.ownBlock = none; exact .inl h; exact .inr h)
  have hB2 := hB.trans (hb.mono hB.size)
  have hbw := hb.mono hB.size
  have ko := keeps_below hb
  have hl3 := Blk.lt (cs := #[.slice A t.length c]) b3
  cases q with
  | false =>
    rw [hq, if_neg (by decide), List.append_nil] at hsn
    clear hpl hl1 hl2 hbd hq hv hrow b3 hB
    gi_wp2
    exact ⟨ko.from _, ⟨hbw, hb.block _ hl3⟩, ⟨⟨_, hv2, by rw [hsn]; exact hrow2, trivial⟩, b32⟩, hB2⟩
  | true =>
    rw [hq, if_pos rfl] at hsn
    have hlen : (clT t (pre ++ [x])).length = (clT t pre).length + x.v.2.2 := by rw [hsn, List.length_append, hpl]
    have hcells := piece_at hA (hr.below hB2) x
    have h63 : (clT t pre).length + x.v.2.2 ≤ maxLen := by simp only [maxLen]; omega
    have hlim : ((clT t pre).length + x.v.2.2) * 1 ≤ 140737488355328 := by omega
    have hpb : (bs ((t.drop x.v.2.1).take x.v.2.2)).length = x.v.2.2 * 1 := by rw [bs_length, hpl]; omega
    have hs2 := hB2.size
    have hc2 := hv2.cell
    have hl32 := Blk.lt (cs := #[.slice A t.length c]) b32
    clear hpl hl1 hl2 hq hv hrow hB
    gi_wp2_with (gi_at_builtin; refine wpListIn_append_own _ rfl _ _ 24 rfl w.heap.size 5 i0 (.int .u8 0) 1 1 Tryd.underlying24 hi0 hz0 hz1 hz2 rfl (by decide) _ _ _ rfl hrow2 ⟨b, o + x.v.2.1, none⟩ x.v.2.2 (c - x.v.2.1) (bs ((t.drop x.v.2.1).take x.v.2.2)) rfl hpb hcells (bs_one _) h63 hlim hs2 ?_; intro v' w3 hown' hgrow _; obtain ⟨g', cap', rfl, _⟩ := own_form hown'; obtain ⟨hv1, hv5, hr5, hk5, hb5⟩ := appended0 hv2 (by decide) hrow2 hs2 (Nat.le_refl _) hown' hgrow; have hc1 := hv1.cell; have hf1 := hv1.frozen)
    have d3 : Boxed (w3.setCell ⟨w.heap.size, 0, none⟩ (.slice g' ((clT t pre).length + x.v.2.2) cap')) (w.heap.size + 1) 24 (.slice A t.length c) := (b32.kept hgrow (b32.not_row (by decide) hrow2)).other (by omega) _
    refine ⟨(ko.trans hk5).from _, ⟨hbw.trans hb5, Eq.trans d3 (Eq.symm b3)⟩, ⟨⟨_, hv5, ?_, trivial⟩, d3⟩, hB2.trans hb5⟩
    rw [hlen, hsn, bs_append]
    exact hr5
 case done =>
  rintro D ys W hD hys ⟨⟨⟨v, hv, hrow, _⟩, b3⟩, hB⟩ hK
  have hE : clT t ys = clnL t := by unfold clT; rw [hys, pc_clean]
  rw [hE] at hrow
  obtain ⟨A2, c2, rfl, _⟩ := own_form hrow
  have hc := hv.cell
  gi_wp2
  refine ⟨by simp, .inl ⟨_, _, rfl, run_takeDeferred hK, ?_⟩⟩
  have hr3 := ownsRow_putObj hrow (.deferred none) hK rfl
  refine ⟨.slice A2 (clnL t).length c2, ?_, ⟨A2, c2, rfl, Own.of hr3, hB.trans (belowK_b (w := w) (Nat.le_refl _) W D _ _ (by simp at hD; omega) hK rfl rfl)⟩⟩
  simp [results, Tryd.f10, go_sem]
 case stop =>
  rintro D j pre W hD hpre ⟨h, _⟩ hK
  exact h.elim
set_option maxRecDepth 100000 in
set_option maxHeartbeats 8000000 in
theorem pcleanBytes_any (A : Option Addr) (n c : Nat) (t : List UInt8) (hn : t.length = n) (w : World) (hs : Siz w) (ht : n ≤ 4000000) (htc : n ≤ c) (hr : Rd w A (bs t)) :
 Calls Tryd.prog 30 #[.slice A n c] w fun e w' => e = .returned (.int .i64 (runL t : Nat)) ∧ Below w.heap.size w w' := by
 subst hn
 have hg0 : 0 < w.heap.size := by obtain ⟨_, _, hh⟩ := hs; exact (Array.getElem?_eq_some_iff.1 hh).1
 obtain ⟨b, o, hA⟩ : ∃ b o, 0 < t.length → A = some ⟨b, o, none⟩ := by
  by_cases h : 0 < t.length
  ·obtain ⟨b, o, e, _⟩ := hr (by rw [bs_length]; exact h)
   exact ⟨b, o, fun _ => e⟩
  ·exact ⟨0, 0, fun h2 => absurd h2 h⟩
 refine (callsIn_wide (n := 3)).1 ?_
 refine callsIn_of_wp_marks Tryd.func30 rfl trivial ?_ rfl
 simp only [Tryd.ntmps30, List.size_toArray, List.length_cons, List.length_nil, Nat.reduceAdd, Nat.reduceSub, Array.replicate_succ, Array.replicate_zero, List.push_toArray, List.append_toArray, List.nil_append, List.cons_append]
 gi_wp2_with fail
 refine ⟨trivial, ?_⟩
 gi_at_call 21
 refine (callsIn_wide.2 (ppoints_any A t.length c _)).mono ?_
 rintro e w1 ⟨rfl, rfl⟩
 gi_wp2_with fail
 have r0 := Boxed.new w 3 (.int .i64 0)
 have bx := Blk.new (w.alloc (.cells #[.int .i64 0] 3)) 24 #[.slice A t.length c]
 simp only [World.size_alloc] at bx
 have hB0 : Below w.heap.size w ((w.alloc (.cells #[.int .i64 0] 3)).alloc (.cells #[.slice A t.length c] 24)) := ((Below.refl _ w).alloc (Nat.le_refl _) _).alloc (by simp) _
 refine wpIn_rangeFunc_ownG rfl (by omega) (gf := 34) (lb := #[.pointer (some ⟨w.heap.size + 1, 0, none⟩)]) rfl trivial (enters_of Tryd.func34 (by kernel_rfl) rfl)
  (pcs_stops 2 (by omega) (w.heap.size + 1) w.heap.size c b o A t hA (by omega) htc hg0 _ (by simp; omega) bx (hs.below' hB0) ((RdIn.of hr).below hB0)) kp2_t (kp2_b (by simp; omega) (by simp)) (Below.refl _ _) (fun _ => rfl)
  (fun (pre : List (PcT t)) W => ((Boxed W w.heap.size 3 (.int .i64 (lnO (pre.map PcT.v) : Nat)) ∧ Boxed W (w.heap.size + 1) 24 (.slice A t.length c)) ∧ (∀ y ∈ pre, clnP y.v.1 = true)) ∧ Below w.heap.size w W)
  (fun j (pre : List (PcT t)) W => (Boxed W w.heap.size 3 (.int .i64 (lnO (pre.dropLast.map PcT.v) : Nat)) ∧ (j = .exit 0 ∧ ∃ p x, pre = p ++ [x] ∧ (∀ y ∈ p, clnP y.v.1 = true) ∧ clnP x.v.1 = false)) ∧ Below w.heap.size w W)
  (OwnFrom.and (OwnFrom.and (OwnFrom.and (Go.Own.from (boxed_own w.heap.size 3 fun pre : List (PcT t) => .int .i64 (lnO (pre.map PcT.v) : Nat)) _) (Go.Own.from (boxed_own (w.heap.size + 1) 24 fun _ => .slice A t.length c) _)) (ownFrom_pure _ fun (pre : List (PcT t)) => ∀ y ∈ pre, clnP y.v.1 = true)) (ownFrom_below (Nat.le_refl _) (by simp; omega)))
  (fun j => OwnFrom.and (OwnFrom.and (Go.Own.from (boxed_own w.heap.size 3 fun pre : List (PcT t) => .int .i64 (lnO (pre.dropLast.map PcT.v) : Nat)) _) (ownFrom_pure _ fun (pre : List (PcT t)) => j = .exit 0 ∧ ∃ p x, pre = p ++ [x] ∧ (∀ y ∈ p, clnP y.v.1 = true) ∧ clnP x.v.1 = false)) (ownFrom_below (Nat.le_refl _) (by simp; omega)))
  ⟨⟨⟨r0.alloc _, bx⟩, by simp⟩, hB0⟩
  (fun x => { tmps := #[.slice A t.length c, undef, .int .i64 0, .pointer (some ⟨w.heap.size, 0, none⟩), .int .i64 x.v.1, .slice (some ⟨b, o + x.v.2.1, none⟩) x.v.2.2 (c - x.v.2.1), .slice A t.length c, .func (.func 34) #[] #[.pointer (some ⟨w.heap.size + 1, 0, none⟩)], .int .i64 x.v.1, .slice (some ⟨b, o + x.v.2.1, none⟩) x.v.2.2 (c - x.v.2.1), undef, undef, undef, undef, undef, undef, undef, undef], defers := [] }) ?assign ?body ?done ?stop
 case assign =>
  intro l x W K hK
  simp only [pcV]
  gi_wp2
  exact hK
 case body =>
  rintro l pre x W ⟨⟨⟨hv, b3⟩, hall⟩, hB⟩ hlt
  obtain ⟨q, hq⟩ : ∃ q, clnP x.v.1 = q := ⟨_, rfl⟩
  have hsn : lnO ((pre ++ [x]).map PcT.v) = lnO (pre.map PcT.v) + x.v.2.2 := by rw [List.map_append, List.map_cons, List.map_nil, lnO_snoc]
  gi_wp2_with fail
  refine ⟨trivial, ?_⟩
  gi_at_call 22
  refine (CallsIn.inRound l (callsIn_wide.2 (pisClean_any x.v.1 q hq _))).mono ?_
  rintro e w2 ⟨rfl, hb⟩
  have hv2 : Boxed w2 w.heap.size 3 (.int .i64 (lnO (pre.map PcT.v) : Nat)) := Blk.below (cs := #[.int .i64 (lnO (pre.map PcT.v) : Nat)]) hv hb (Blk.lt (cs := #[.int .i64 (lnO (pre.map PcT.v) : Nat)]) hv)
  have hl3 := Blk.lt (cs := #[.slice A t.length c]) b3
  have b32 : Boxed w2 (w.heap.size + 1) 24 (.slice A t.length c) := Blk.below (cs := #[.slice A t.length c]) b3 hb hl3
  have hB2 := hB.trans (hb.mono hB.size)
  have hbw := hb.mono hB.size
  have ko := keeps_below hb
  cases q with
  | false =>
    gi_wp2
    exact ⟨ko.from _, ⟨by rw [List.dropLast_concat]; exact hv2, rfl, pre, x, rfl, hall, hq⟩, hB2⟩
  | true =>
    have hl1 := lnT_len t pre
    have hl2 := pcL_len t
    obtain ⟨hx1, hx2⟩ := pcA_mem t t.length 0 (by omega) x.v x.h
    have hbd : lnO (pre.map PcT.v) ≤ 4000000 * 4000000 := Nat.le_trans hl1 (Nat.mul_le_mul (by omega) ht)
    obtain ⟨u, hu⟩ : ∃ u : Nat, lnO (pre.map PcT.v) = u := ⟨_, rfl⟩
    rw [hu] at hv2 hsn hbd
    clear hl1 hl2
    have hc2 := hv2.cell
    have hf2 := hv2.frozen
    gi_wp2
    have hlt2 : w.heap.size ≠ w.heap.size + 1 := by omega
    have hv5 := hv2.set (.int .i64 ((u : Int) + (x.v.2.2 : Int)))
    have d3 : Boxed (w2.setCell ⟨w.heap.size, 0, none⟩ (.int .i64 ((u : Int) + (x.v.2.2 : Int)))) (w.heap.size + 1) 24 (.slice A t.length c) := b32.other (by omega) _
    have hb5 : Below w.heap.size W (w2.setCell ⟨w.heap.size, 0, none⟩ (.int .i64 ((u : Int) + (x.v.2.2 : Int)))) := hbw.setCell (p := ⟨w.heap.size, 0, none⟩) (Nat.le_refl _) _
    refine ⟨(ko.trans (KeepsOthers.setCell _ _ _)).from _, ⟨hb5, Eq.trans d3 (Eq.symm b3)⟩, ⟨⟨?_, d3⟩, ?_⟩, hB.trans hb5⟩
    ·rw [hsn, Int.natCast_add]; exact hv5
    ·intro y hy
     rcases List.mem_append.1 hy with h | h
     ·exact hall y h
     ·simp at h; rw [h]; exact hq
 case done =>
  rintro D ys W hD hys ⟨⟨⟨hv, b3⟩, hall⟩, hB⟩ hK
  have hE : lnO (ys.map PcT.v) = runL t := by
   rw [hys]
   refine (run_all t fun x hx => ?_).symm
   rw [← hys] at hx
   obtain ⟨y, hy, rfl⟩ := List.mem_map.1 hx
   exact hall y hy
  rw [hE] at hv
  have hc := hv.cell
  gi_wp2
  refine ⟨by simp, .inl ⟨_, _, rfl, run_takeDeferred hK, ?_⟩⟩
  refine ⟨.int .i64 (runL t : Nat), ?_, ⟨rfl, hB.trans (belowK_b (w := w) (Nat.le_refl _) W D _ _ (by simp at hD; omega) hK rfl rfl)⟩⟩
  simp [results, Tryd.f30, go_sem]
 case stop =>
  rintro D j pre W hD hpre ⟨⟨hv, rfl, p, x, rfl, hall, hx⟩, hB⟩ hK
  have hE : lnO (((p ++ [x]).dropLast).map PcT.v) = runL t := by
   rw [List.dropLast_concat]
   rw [List.map_append] at hpre
   refine (run_cut t hpre (fun y hy => ?_) hx).symm
   obtain ⟨z, hz, rfl⟩ := List.mem_map.1 hy
   exact hall z hz
  rw [hE] at hv
  have hc := hv.cell
  gi_wp2
  refine ⟨by simp, .inl ⟨_, _, rfl, run_takeDeferred hK, ?_⟩⟩
  refine ⟨.int .i64 (runL t : Nat), ?_, ⟨rfl, hB.trans (belowK_b (w := w) (Nat.le_refl _) W D _ _ (by simp at hD; omega) hK rfl rfl)⟩⟩
  simp [results, Tryd.f30, go_sem]
end
end Go.Proofs.YtgaoijinchakoaaDoor
