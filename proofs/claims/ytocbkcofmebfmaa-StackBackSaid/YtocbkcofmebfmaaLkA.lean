/-
  Layer 8: what a law needs of the program's stack (Push, Pop, Put, Same); the laws' own words (made, same), and the example that each statement asks.
-/
import Derived.Test.YtocbkcofmebfmaaStkU
namespace Go.Proofs.Ytocbkcofmebfmaa
open Go.RowKit

structure StackC (Inv : World → Prop) : Prop where
  invB : ∀ {w w' : World}, Inv w → Below w.heap.size w w' → Inv w'
  push : ∀ (S : Nat → Prop) (s : St) (A : Option Addr) (n c : Nat) (f : Int) (w : World), Inv w → (∀ k, S k → k < w.heap.size) → okS s → s.kept.length = n → n ≤ c → inK f → RdOff w S A (is_ s.kept) → Calls Try.prog 13 #[stV s.now A n c, .int .i64 f] w (StkE S (pushS s f) w)
  pop : ∀ (S : Nat → Prop) (s : St) (A : Option Addr) (n c : Nat) (f : Int) (w : World), Inv w → (∀ k, S k → k < w.heap.size) → okS s → s.kept.length = n → n ≤ c → inK f → RdOff w S A (is_ s.kept) → Calls Try.prog 15 #[stV s.now A n c, .int .i64 f] w (StkE S (popS s f) w)
  put : ∀ (S : Nat → Prop) (s : St) (A : Option Addr) (n c : Nat) (f how : Int) (w : World), Inv w → (∀ k, S k → k < w.heap.size) → okS s → s.kept.length = n → n ≤ c → inK f → inK how → RdOff w S A (is_ s.kept) → Calls Try.prog 17 #[stV s.now A n c, .int .i64 f, .int .i64 how] w (StkE S (putS s f how) w)
  same : ∀ (a b : St) (A B : Option Addr) (n m c d : Nat) (w : World), Inv w → a.kept.length = n → b.kept.length = m → n ≤ 65536 → m ≤ 65536 → Rd w A (is_ a.kept) → Rd w B (is_ b.kept) → Calls Try.prog 20 #[stV a.now A n c, stV b.now B m d] w fun e w' => e = .returned (.bool (sameS a b)) ∧ Below w.heap.size w w'
/-- The same, spelled out. -/
def StkA (S : Nat → Prop) (x : St) (xn : Int) (k : Nat) (w : World) (e : Ending) (w' : World) : Prop := ∃ A c, e = .returned (.agg #[.int .i64 xn, .slice A k c]) ∧ k ≤ c ∧ RdOff w' S A (is_ x.kept) ∧ Below w.heap.size w w'
theorem StkE.at_ {S : Nat → Prop} {x y : St} {xn : Int} {k : Nat} {w : World} (h : x = y) (hn : y.now = xn) (hk : y.kept.length = k) {e : Ending} {w' : World} (hE : StkE S x w e w') : StkA S y xn k w e w' := by
  subst h hn hk
  obtain ⟨A, k, c, rfl, ⟨hk, hc⟩, hr, hb⟩ := hE
  subst hk
  exact ⟨A, c, rfl, hc, hr, hb⟩
section
variable {Inv : World → Prop} {S : Nat → Prop} {s x : St} {sn xn : Int} {A : Option Addr} {n c k : Nat} {f how : Int}
theorem StackC.push_at (H : StackC Inv) (w : World) (hi : Inv w) (hS : ∀ k, S k → k < w.heap.size) (hok : okS s) (hn : s.kept.length = n) (hc : n ≤ c) (hf : inK f) (hr : RdOff w S A (is_ s.kept)) (hsn : s.now = sn) (h : pushS s f = x) (hx : x.now = xn) (hk : x.kept.length = k) :
    Calls Try.prog 13 #[.agg #[.int .i64 sn, .slice A n c], .int .i64 f] w (StkA S x xn k w) := by
  subst hsn
  exact (H.push S s A n c f w hi hS hok hn hc hf hr).mono fun _ _ => StkE.at_ h hx hk
theorem StackC.pop_at (H : StackC Inv) (w : World) (hi : Inv w) (hS : ∀ k, S k → k < w.heap.size) (hok : okS s) (hn : s.kept.length = n) (hc : n ≤ c) (hf : inK f) (hr : RdOff w S A (is_ s.kept)) (hsn : s.now = sn) (h : popS s f = x) (hx : x.now = xn) (hk : x.kept.length = k) :
    Calls Try.prog 15 #[.agg #[.int .i64 sn, .slice A n c], .int .i64 f] w (StkA S x xn k w) := by
  subst hsn
  exact (H.pop S s A n c f w hi hS hok hn hc hf hr).mono fun _ _ => StkE.at_ h hx hk
theorem StackC.put_at (H : StackC Inv) (w : World) (hi : Inv w) (hS : ∀ k, S k → k < w.heap.size) (hok : okS s) (hn : s.kept.length = n) (hc : n ≤ c) (hf : inK f) (hh : inK how) (hr : RdOff w S A (is_ s.kept)) (hsn : s.now = sn) (h : putS s f how = x) (hx : x.now = xn) (hk : x.kept.length = k) :
    Calls Try.prog 17 #[.agg #[.int .i64 sn, .slice A n c], .int .i64 f, .int .i64 how] w (StkA S x xn k w) := by
  subst hsn
  exact (H.put S s A n c f how w hi hS hok hn hc hf hh hr).mono fun _ _ => StkE.at_ h hx hk
theorem StackC.same_at (H : StackC Inv) {a b : St} {an bn : Int} {A B : Option Addr} {n m c d : Nat} {v : Bool} (w : World) (hi : Inv w) (hn : a.kept.length = n) (hm : b.kept.length = m) (hn2 : n ≤ 65536) (hm2 : m ≤ 65536) (hra : Rd w A (is_ a.kept)) (hrb : Rd w B (is_ b.kept)) (ha : a.now = an) (hb : b.now = bn) (h : sameS a b = v) :
    Calls Try.prog 20 #[.agg #[.int .i64 an, .slice A n c], .agg #[.int .i64 bn, .slice B m d]] w fun e w' => e = .returned (.bool v) ∧ Below w.heap.size w w' := by
  subst ha hb h
  exact H.same a b A B n m c d w hi hn hm hn2 hm2 hra hrb
end
set_option maxRecDepth 100000 in
set_option maxHeartbeats 2000000 in
theorem made_any (now : Int) (A : Option Addr) (n c : Nat) (w : World) : Calls Try.prog 11 #[.agg #[.int .i64 now, .slice A n c]] w fun e w' => e = .returned (.agg #[.int .i64 now, .slice A n c]) ∧ Below w.heap.size w w' := by
  have hB : Below w.heap.size w ((w.alloc (.cells #[.int .i64 now, .slice A n c] 24)).alloc (.cells #[.int .i64 now, .slice A n c] 27)) := ((Below.refl _ w).alloc (Nat.le_refl _) _).alloc (by simp) _
  go_enter Try.func11, Try.ntmps11
  go_wp2
  refine bodyPost_ret (v := .agg #[.int .i64 now, .slice A n c]) (by simp [results, Try.results11, go_sem]) rfl ⟨rfl, hB⟩
set_option maxRecDepth 100000 in
set_option maxHeartbeats 4000000 in
theorem lsame_any (a b : St) (an bn : Int) (A B : Option Addr) (n m c d : Nat) (v : Bool) (w : World) (hn : a.kept.length = n) (hm : b.kept.length = m) (hn2 : n ≤ 65536) (hm2 : m ≤ 65536) (hra : Rd w A (is_ a.kept)) (hrb : Rd w B (is_ b.kept)) (ha : a.now = an) (hb : b.now = bn) (h : sameS a b = v) :
    Calls Try.prog 12 #[.agg #[.int .i64 an, .slice A n c], .agg #[.int .i64 bn, .slice B m d]] w fun e w' => e = .returned (.bool v) ∧ Below w.heap.size w w' := by
  have hB : Below w.heap.size w ((w.alloc (.cells #[.int .i64 an, .slice A n c] 27)).alloc (.cells #[.int .i64 bn, .slice B m d] 24)) := ((Below.refl _ w).alloc (Nat.le_refl _) _).alloc (by simp) _
  have hc := rsame8_any a b A B n m c d hn hm hn2 hm2 _ (hra.below hB) (hrb.below hB)
  rw [ha, hb, h, stV, stV] at hc
  clear ha hb h hn hm
  go_enter Try.func12, Try.ntmps12
  go_wp2_with fail
  refine hc.mono ?_
  rintro e w2 ⟨rfl, hb2⟩
  go_wp2_with fail
  go_ret
  exact ⟨rfl, hB.trans (hb2.mono hB.size)⟩
theorem okS_lit (now : Int) (l : List Int) (h : (decide (0 ≤ now ∧ now < 32) && l.all (fun z => decide (0 ≤ z ∧ z < 32)) && decide (l.length ≤ 8)) = true) : okS ⟨now, l⟩ := by
  simp only [Bool.and_eq_true, decide_eq_true_eq, List.all_eq_true] at h
  exact ⟨h.1.1, h.1.2, h.2⟩
set_option maxRecDepth 100000 in
set_option maxHeartbeats 16000000 in
theorem stackAwake {Inv : World → Prop} (H : StackC Inv) (w : World) (hv : Inv w) : Calls Try.prog 9 #[] w fun e w' => e = .returned (.bool true) ∧ Below w.heap.size w w' := by
  have hS : ∀ w : World, ∀ k, (fun _ : Nat => False) k → k < w.heap.size := fun _ _ h => h.elim
  have kI : ∀ z : Int, 0 ≤ z → z ≤ 9 → inK z := fun z h1 h2 => ⟨by omega, by omega⟩
  have ok0 : okS ⟨0, []⟩ := okS_lit _ _ (by decide)
  have ok1 : okS ⟨1, [0]⟩ := okS_lit _ _ (by decide)
  have ok2 : okS ⟨5, [0, 1]⟩ := okS_lit _ _ (by decide)
  have hfd : ∀ (x : Int) (A : Option Addr) (n c : Nat) (W : World), (Instr.field 27 (.agg #[.int .i64 x, .slice A n c]) 0).run Try.prog W = .ok (.int .i64 x) W := fun x A n c W => by kernel_rfl
  have OK0 := Lib.hid ok0
  have OK1 := Lib.hid ok1
  have OK2 := Lib.hid ok2
  clear ok0 ok1 ok2
  go_enter Try.func9, Try.ntmps9
  go_wp2_with fail
  refine (H.push_at (S := fun _ => False) (s := ⟨0, []⟩) (x := ⟨1, [0]⟩) (xn := 1) (k := 1) _ hv (hS _) OK0.out rfl (Nat.le_refl _) (kI 1 (by decide) (by decide)) (RdOff.nil _ _ _) rfl (by rfl) rfl rfl).mono ?_
  rintro e w1 ⟨A1, c1, rfl, hc1, hr1, hb1⟩
  have hi1 := H.invB hv hb1
  go_wp2_with fail
  refine (H.push_at (S := fun _ => False) (s := ⟨1, [0]⟩) (x := ⟨5, [0, 1]⟩) (xn := 5) (k := 2) _ hi1 (hS _) OK1.out rfl hc1 (kI 5 (by decide) (by decide)) hr1 rfl (by rfl) rfl rfl).mono ?_
  rintro e w2 ⟨A2, c2, rfl, hc2, hr2, hb2⟩
  have hbe2 := below_step8 hb1 hb2 hb1.size
  have k1 := Blk.new w2 27 #[.int .i64 5, .slice A2 2 c2]
  have r2 := hr2.rd.alloc (.cells #[.int .i64 5, .slice A2 2 c2] 27)
  have hbe3 := hbe2.alloc hbe2.size (.cells #[.int .i64 5, .slice A2 2 c2] 27)
  have hi3 := H.invB hv hbe3
  have a0 := k1.cell 0
  have a1 := k1.cell 1
  have r2o : RdOff _ (fun _ => False) A2 (is_ [0, 1]) := RdOff.of_rdIn (RdIn.of r2) (Nat.le_refl _) (fun _ h => h.elim)
  clear hr1 hb1 hb2 hr2 hi1 hbe2
  go_wp2_with fail
  refine (H.pop_at (S := fun _ => False) (s := ⟨5, [0, 1]⟩) (x := ⟨1, [0]⟩) (xn := 1) (k := 1) _ hi3 (hS _) OK2.out rfl hc2 (kI 1 (by decide) (by decide)) r2o rfl (by rfl) rfl rfl).mono ?_
  rintro e w4 ⟨A4, c4, rfl, hc4, hr4, hb4⟩
  have k1b := (k1.below hb4 k1.lt).alloc (.cells #[.int .i64 1, .slice A4 1 c4] 27)
  have k2 := Blk.new w4 27 #[.int .i64 1, .slice A4 1 c4]
  have hbe4 := (below_step8 hbe3 hb4 hbe3.size).alloc (below_step8 hbe3 hb4 hbe3.size).size (.cells #[.int .i64 1, .slice A4 1 c4] 27)
  have r4 := (r2.below hb4).alloc (.cells #[.int .i64 1, .slice A4 1 c4] 27)
  have hi4 := H.invB hv hbe4
  have r4o : RdOff _ (fun _ => False) A2 (is_ [0, 1]) := RdOff.of_rdIn (RdIn.of r4) (Nat.le_refl _) (fun _ h => h.elim)
  clear a0 a1 k1 r2 r2o hi3 hbe3 hb4 hr4
  have a0 := k1b.cell 0
  have a1 := k1b.cell 1
  have b0 := k2.cell 0
  have b1 := k2.cell 1
  go_wp2_with fail
  refine (H.pop_at (S := fun _ => False) (s := ⟨5, [0, 1]⟩) (x := ⟨0, []⟩) (xn := 0) (k := 0) _ hi4 (hS _) OK2.out rfl hc2 (kI 2 (by decide) (by decide)) r4o rfl (by rfl) rfl rfl).mono ?_
  rintro e w5 ⟨A5, c5, rfl, hc5, hr5, hb5⟩
  have k1c := k1b.below hb5 k1b.lt
  have hbe5 := below_step8 hbe4 hb5 hbe4.size
  have r5 := r4.below hb5
  have hi5 := H.invB hv hbe5
  have r5o : RdOff _ (fun _ => False) A2 (is_ [0, 1]) := RdOff.of_rdIn (RdIn.of r5) (Nat.le_refl _) (fun _ h => h.elim)
  clear a0 a1 b0 b1 k1b k2 r4 r4o hi4 hbe4 hb5 hr5
  have a0 := k1c.cell 0
  have a1 := k1c.cell 1
  go_wp2_with fail
  refine (H.put_at (S := fun _ => False) (s := ⟨5, [0, 1]⟩) (x := ⟨7, [0, 1]⟩) (xn := 7) (k := 2) _ hi5 (hS _) OK2.out rfl hc2 (kI 3 (by decide) (by decide)) (kI 2 (by decide) (by decide)) r5o rfl (by rfl) rfl rfl).mono ?_
  rintro e w6 ⟨A6, c6, rfl, hc6, hr6, hb6⟩
  have k1d := k1c.below hb6 k1c.lt
  have hbe6 := below_step8 hbe5 hb6 hbe5.size
  have r6 := r5.below hb6
  have hi6 := H.invB hv hbe6
  have r6o : RdOff _ (fun _ => False) A2 (is_ [0, 1]) := RdOff.of_rdIn (RdIn.of r6) (Nat.le_refl _) (fun _ h => h.elim)
  clear a0 a1 k1c r5 r5o hi5 hbe5 hb6 hr6
  have a0 := k1d.cell 0
  have a1 := k1d.cell 1
  go_wp2_with fail
  refine (H.put_at (S := fun _ => False) (s := ⟨5, [0, 1]⟩) (x := ⟨4, [0, 1]⟩) (xn := 4) (k := 2) _ hi6 (hS _) OK2.out rfl hc2 (kI 1 (by decide) (by decide)) (kI 3 (by decide) (by decide)) r6o rfl (by rfl) rfl rfl).mono ?_
  rintro e w7 ⟨A7, c7, rfl, hc7, hr7, hb7⟩
  have k1e := k1d.below hb7 k1d.lt
  have hbe7 := below_step8 hbe6 hb7 hbe6.size
  have r7 := r6.below hb7
  have hi7 := H.invB hv hbe7
  have r7o : RdOff _ (fun _ => False) A2 (is_ [0, 1]) := RdOff.of_rdIn (RdIn.of r7) (Nat.le_refl _) (fun _ h => h.elim)
  clear a0 a1 k1d r6 r6o hi6 hbe6 hb7 hr7
  have a0 := k1e.cell 0
  have a1 := k1e.cell 1
  go_wp2_with fail
  refine (H.put_at (S := fun _ => False) (s := ⟨5, [0, 1]⟩) (x := ⟨9, [0, 1]⟩) (xn := 9) (k := 2) _ hi7 (hS _) OK2.out rfl hc2 (kI 9 (by decide) (by decide)) (kI 1 (by decide) (by decide)) r7o rfl (by rfl) rfl rfl).mono ?_
  rintro e w8 ⟨A8, c8, rfl, hc8, hr8, hb8⟩
  have hbe8 := below_step8 hbe7 hb8 hbe7.size
  go_wp2_with fail
  go_ret
  exact ⟨rfl, hbe8⟩
end Go.Proofs.Ytocbkcofmebfmaa
