/-
  Layer 8, the landed Put (ways in a map of closures), walked; and all that the laws need of the program.
-/
import Derived.Test.YtocbkcofmebfmaaStkG
import Derived.Test.YtocbkcofmebfmaaStkH
import Derived.Test.YtocbkcofmebfmaaLkA
import Derived.Test.YtocbkcofmebfmaaIns
namespace Go.Proofs.Ytocbkcofmebfmaa
open Go.RowKit Go.Maps

theorem ways_one : ∀ a b : Fin 32, putN (a.val : Int) (b.val : Int) 1 = (b.val : Int) := by decide +kernel
theorem ways_two : ∀ a b : Fin 32, bits .or .i64 (a.val : Int) (b.val : Int) = putN (a.val : Int) (b.val : Int) 2 := by decide +kernel
theorem ways_three : ∀ a b : Fin 32, bits .andNot .i64 (a.val : Int) (b.val : Int) = putN (a.val : Int) (b.val : Int) 3 := by decide +kernel
theorem kint8 : Keyed Try.prog 3 := int_keyed Try.underlying3
theorem key8 {n : Int} (h : inK n) : keyOf Try.prog 3 (.int .i64 n) = some (.int .i64 n) := keyOf_int_mk Try.underlying3 (WalkArith.wf_i64 (by have := h.1; have := h.2; omega))
theorem below_but8 {B b : Nat} {a w w' : World} (h : Below B a w) (hg : w.grownBy w' (some b)) (hB : B ≤ w.heap.size) (hb : B ≤ b) : Below B a w' :=
  ⟨hg.os.trans h.os, hg.tape.trans h.tape, hg.output.trans h.output, Nat.le_trans h.size hg.size, fun k hk => (hg.block k (Nat.lt_of_lt_of_le hk hB) (fun e => by injection e with e; omega)).trans (h.block k hk)⟩
theorem own_below8 {w w' : World} {K : TypeId} {b n : Nat} {D : DataW Value} (h : w.ownsMap Try.prog K hel b n D) (hb : Below w.heap.size w w') : w'.ownsMap Try.prog K hel b n D := by
  have hlt := h.lt
  obtain ⟨es, clock, h1, h2⟩ := h
  exact ⟨es, clock, (hb.block b hlt).trans h1, h2⟩
/-- A way, as a closure over the flags in block b. -/
def way1 (b : Nat) : Value := .func (.func 29) #[] #[.pointer (some ⟨b, 0, none⟩)]
def way2 (b : Nat) : Value := .func (.func 30) #[] #[.pointer (some ⟨b, 0, none⟩)]
def way3 (b : Nat) : Value := .func (.func 31) #[] #[.pointer (some ⟨b, 0, none⟩)]
def waysL (b : Nat) : List (Lit × DataW Value) := [(.int .i64 1, .held (way1 b)), (.int .i64 2, .held (way2 b)), (.int .i64 3, .held (way3 b))]
def WaysE (f : Int) (w : World) (e : Ending) (w' : World) : Prop := ∃ b m n, e = .returned (.map (some m)) ∧ Blk w' b 3 #[.int .i64 f] ∧ w'.ownsMap Try.prog 3 hel m n (.map (waysL b)) ∧ Below w.heap.size w w'
set_option maxRecDepth 100000 in
set_option maxHeartbeats 4000000 in
theorem ways_any (f : Int) (w : World) : Calls Try.prog 25 #[.int .i64 f] w (WaysE f w) := by
  have i1 : inK 1 := ⟨by decide, by decide⟩
  have i2 : inK 2 := ⟨by decide, by decide⟩
  have i3 : inK 3 := ⟨by decide, by decide⟩
  have k0 := Blk.new w 3 #[.int .i64 f]
  have hB0 : Below w.heap.size w (w.alloc (.cells #[.int .i64 f] 3)) := (Below.refl _ w).alloc (Nat.le_refl _) _
  have hB : Below w.heap.size w ((w.alloc (.cells #[.int .i64 f] 3)).alloc (.map #[] 0)) := hB0.alloc hB0.size _
  have hmm := @run_makeMap Try.prog
  have o0 := World.ownsMap_made (w.alloc (.cells #[.int .i64 f] 3)) Try.prog 3 hel
  rw [World.size_alloc] at o0
  have hms : w.heap.size ≤ w.heap.size + 1 := Nat.le_succ _
  have k1 := k0.alloc (.map #[] 0)
  obtain ⟨w1, r1, o1, t1⟩ := o0.store kint8 Try.underlying46 (by decide) (key8 i1) (show hel (way1 w.heap.size) = some (.held (way1 w.heap.size), []) from rfl)
  obtain ⟨w2, r2, o2, t2⟩ := o1.store kint8 Try.underlying46 (by decide) (key8 i2) (show hel (way2 w.heap.size) = some (.held (way2 w.heap.size), []) from rfl)
  obtain ⟨w3, r3, o3, t3⟩ := o2.store kint8 Try.underlying46 (by decide) (key8 i3) (show hel (way3 w.heap.size) = some (.held (way3 w.heap.size), []) from rfl)
  have hb1 := below_but8 hB t1.grown hB.size hms
  have hb2 := below_but8 hb1 t2.grown hb1.size hms
  have hb3 := below_but8 hb2 t3.grown hb2.size hms
  have hne : (some (w.heap.size + 1) : Option Nat) ≠ some w.heap.size := by simp
  have k3 := ((k1.grown t1.grown hne).grown t2.grown hne).grown t3.grown hne
  rw [way1] at r1
  rw [way2] at r2
  rw [way3] at r3
  clear o0 o1 o2 t1 t2 t3 hB hB0 k0 k1 i1 i2 i3 hb1 hb2 hms hne
  have O3 := Lib.hid o3
  have K3 := Lib.hid k3
  clear o3 k3
  go_enter Try.func25, Try.ntmps25
  go_wp2_with fail
  refine bodyPost_ret (v := .map (some (w.heap.size + 1))) (by simp [results, Try.results25, go_sem]) rfl ⟨w.heap.size, w.heap.size + 1, _, rfl, K3.out, O3.out, hb3⟩
theorem ways_look {w : World} {b m n : Nat} {how : Int} {v : Value} {q : Bool} (h : w.ownsMap Try.prog 3 hel m n (.map (waysL b))) (hh : inK how) (ha : (DataW.map (waysL b)).atKey (.int .i64 how) (.held .nilFunc) = .held v) (hq : Maps.has (DataW.map (waysL b)) (.int .i64 how) = q) :
    (Instr.lookup 46 (.map (some m)) (.int .i64 how) true).run Try.prog w = .ok (.tuple #[v, .bool q]) w := by
  obtain ⟨v1, p1, h1, e1⟩ := h.look_ok kint8 Try.underlying46 (show (zeroValue 35).run Try.prog w = .ok .nilFunc w by kernel_rfl) (show hel .nilFunc = some (.held .nilFunc, []) from rfl) (key8 hh)
  rw [ha] at e1
  have e1' : v1 = v := by simpa [hel] using congrArg (Option.map Prod.fst) e1
  rw [e1', hq] at h1
  exact h1
theorem ways_no (b : Nat) {how : Int} (h : ¬ (1 ≤ how ∧ how ≤ 3)) : (DataW.map (waysL b)).atKey (.int .i64 how) (.held .nilFunc) = .held .nilFunc ∧ Maps.has (DataW.map (waysL b)) (.int .i64 how) = false := by
  have key : ∀ q ∈ waysL b, q.1 ≠ Lit.int .i64 how := by
    intro q hq
    simp only [waysL, List.mem_cons, List.not_mem_nil, or_false] at hq
    rcases hq with rfl | rfl | rfl <;> (intro e; simp at e; omega)
  exact ⟨WideAt.atKey_none _ key, has_false_of_atKey fun z => WideAt.atKey_none z key⟩
set_option maxRecDepth 100000 in
theorem way1_any {b : Nat} {f now v : Int} {w : World} (hv : f = v) (hk : Blk w b 3 #[.int .i64 f]) : Calls Try.prog 29 #[.int .i64 now, .pointer (some ⟨b, 0, none⟩)] w fun e w' => e = .returned (.int .i64 v) ∧ Below w.heap.size w w' := by
  subst hv
  have c0 := hk.cell 0
  clear hk
  go_enter Try.func29, Try.ntmps29
  go_wp2_with fail
  go_ret
  exact ⟨rfl, by first | exact Below.refl _ _ | exact below_drewN (Below.refl _ _) _⟩
set_option maxRecDepth 100000 in
theorem way2_any {b : Nat} {f now v : Int} {w : World} (hv : bits .or .i64 now f = v) (hk : Blk w b 3 #[.int .i64 f]) : Calls Try.prog 30 #[.int .i64 now, .pointer (some ⟨b, 0, none⟩)] w fun e w' => e = .returned (.int .i64 v) ∧ Below w.heap.size w w' := by
  have c0 := hk.cell 0
  clear hk
  go_enter Try.func30, Try.ntmps30
  go_wp2_with fail
  go_ret
  exact ⟨rfl, by first | exact Below.refl _ _ | exact below_drewN (Below.refl _ _) _⟩
set_option maxRecDepth 100000 in
theorem way3_any {b : Nat} {f now v : Int} {w : World} (hv : bits .andNot .i64 now f = v) (hk : Blk w b 3 #[.int .i64 f]) : Calls Try.prog 31 #[.int .i64 now, .pointer (some ⟨b, 0, none⟩)] w fun e w' => e = .returned (.int .i64 v) ∧ Below w.heap.size w w' := by
  have c0 := hk.cell 0
  clear hk
  go_enter Try.func31, Try.ntmps31
  go_wp2_with fail
  go_ret
  exact ⟨rfl, by first | exact Below.refl _ _ | exact below_drewN (Below.refl _ _) _⟩
theorem fin32 {x : Int} (h : okF x) : ∃ a : Fin 32, (a.val : Int) = x := ⟨⟨x.toNat, by have := h.1; have := h.2; omega⟩, by have := h.1; show ((x.toNat : Nat) : Int) = x; omega⟩
section
variable {S : Nat → Prop}
set_option maxRecDepth 100000 in
set_option maxHeartbeats 16000000 in
theorem psput_one (s : St) (A : Option Addr) (n c : Nat) (m how : Int) (w : World) (hS : ∀ k, S k → k < w.heap.size) (hok : okF s.now) (hn : s.kept.length = n) (hn8 : n ≤ 8) (hr : Rd w A (is_ s.kept)) (hhow : how = 1) (hin : inK how) :
    Calls Try.prog 17 #[stV s.now A n c, .int .i64 m, .int .i64 how] w (StkE S (putS s m how) w) := by
  obtain ⟨now, l⟩ := s
  simp only at hn hr hok
  subst hhow
  obtain ⟨f, hf⟩ : ∃ f, flg m = f := ⟨_, rfl⟩
  have hff : okF f := by rw [← hf]; exact flg_rng m
  obtain ⟨v, hv⟩ : ∃ v, f = v := ⟨_, rfl⟩
  have HE := Lib.hid (show putS ⟨now, l⟩ m 1 = ⟨v, l⟩ by
    rw [← hv]
    simp only [putS, hf]
    obtain ⟨p, rfl⟩ := fin32 hok
    obtain ⟨q, rfl⟩ := fin32 hff
    rw [if_pos ⟨by decide, by decide⟩, ways_one])
  have hfl := pflags_any m (((w.alloc (.cells #[.int .i64 now, .slice A n c] 27)).alloc (.cells #[.int .i64 0, .slice none 0 0] 27)))
  rw [hf] at hfl
  have HN := Lib.hid hn
  have HS := Lib.hid hS
  have k0 : Blk ((w.alloc (.cells #[.int .i64 now, .slice A n c] 27)).alloc (.cells #[.int .i64 0, .slice none 0 0] 27)) w.heap.size 27 #[.int .i64 now, .slice A n c] := (Blk.new w _ _).alloc _
  have y0 : Blk ((w.alloc (.cells #[.int .i64 now, .slice A n c] 27)).alloc (.cells #[.int .i64 0, .slice none 0 0] 27)) (w.heap.size + 1) 27 #[.int .i64 0, .slice none 0 0] := by
    have := Blk.new (w.alloc (.cells #[.int .i64 now, .slice A n c] 27)) 27 #[.int .i64 0, .slice none 0 0]
    rwa [World.size_alloc] at this
  have hB0 : Below w.heap.size w ((w.alloc (.cells #[.int .i64 now, .slice A n c] 27)).alloc (.cells #[.int .i64 0, .slice none 0 0] 27)) := ((Below.refl _ w).alloc (Nat.le_refl _) _).alloc (by simp) _
  rw [stV]
  clear hS hf
  have HQ := Lib.hid hv
  have HOK := Lib.hid hok
  have HFF := Lib.hid hff
  have HIN := Lib.hid hin
  clear hn hv hok hff hin
  have a0 := k0.cell 0
  have a1 := k0.cell 1
  go_enter Try.func17, Try.ntmps17
  go_wp2_with fail
  refine hfl.mono ?_
  rintro e w1 ⟨rfl, hb1⟩
  have k1 := k0.below hb1 k0.lt
  have y1 := y0.below hb1 y0.lt
  have hB1 := below_step8 hB0 hb1 hB0.size
  clear hfl k0 y0 hB0 hb1 a0 a1
  go_wp2_with fail
  refine (ways_any f w1).mono ?_
  rintro e w3 ⟨b, mm, kk, rfl, hbk, hown, hb3⟩
  have k3 := k1.below hb3 k1.lt
  have y3 := y1.below hb3 y1.lt
  have hB3 := below_step8 hB1 hb3 hB1.size
  have hlook := ways_look hown HIN.out (v := way1 b) (q := true) (by kernel_rfl) (by kernel_rfl)
  rw [way1] at hlook
  clear k1 y1 hB1 hb3
  go_wp2_with fail
  have hcall := way1_any HQ.out (now := now) hbk
  have a0 := k3.cell 0
  refine hcall.mono ?_
  rintro e w4 ⟨rfl, hb4⟩
  have k4 := k3.below hb4 k3.lt
  have y4 := y3.below hb4 y3.lt
  have hB4 := below_step8 hB3 hb4 hB3.size
  clear hcall k3 y3 hB3 hb4 hbk hown hlook a0
  have a1 := k4.cell 1
  go_wp2_with fail
  have hr4 := hr.below hB4
  refine (clone_any (fun k => S k ∨ k = w.heap.size + 1) A n c (is_ l) _ (fun k hk => by
    rcases hk with hk | hk
    · have := HS.out k hk; have := hB4.size; omega
    · rw [hk]; exact y4.lt) (by rw [is_len]; exact HN.out) (by omega) hr4 (is_one _)).mono ?_
  rintro e w5 ⟨B, d, rfl, hd, hrB, hb5⟩
  have hy3 := y4.below hb5 y4.lt
  have hB5 := below_step8 hB4 hb5 hB4.size
  clear y4 k4 hB4 hb5 hr4 a1
  obtain ⟨q0, q1⟩ : w5.cell? ⟨w.heap.size + 1, 0, none⟩ = some (.int .i64 0) ∧ w5.cell? ⟨w.heap.size + 1, 1, none⟩ = some (.slice none 0 0) := ⟨hy3.cell 0, hy3.cell 1⟩
  have z0 := hy3.frozen 0
  have z1 := hy3.frozen 1
  have yE := (hy3.set 0 (.int .i64 v)).set 1 (.slice B n d)
  have p0 : (w5.setCell ⟨w.heap.size + 1, 0, none⟩ (.int .i64 v)).cell? ⟨w.heap.size + 1, 0, none⟩ = some (.int .i64 v) := (hy3.set 0 (.int .i64 v)).cell 0
  have p1 : ((w5.setCell ⟨w.heap.size + 1, 0, none⟩ (.int .i64 v)).setCell ⟨w.heap.size + 1, 1, none⟩ (.slice B n d)).cell? ⟨w.heap.size + 1, 1, none⟩ = some (.slice B n d) := yE.cell 1
  have hF : Fr w5 ((w5.setCell ⟨w.heap.size + 1, 0, none⟩ (.int .i64 v)).setCell ⟨w.heap.size + 1, 1, none⟩ (.slice B n d)) (fun k => k = w.heap.size + 1) := (Fr.setCell w5 _ _ _ (fun k => k = w.heap.size + 1) rfl).trans (Fr.setCell _ _ _ _ (fun k => k = w.heap.size + 1) rfl) (fun k hk => .inl hk)
  have hBE := hB5.trans (hF.below (B := w.heap.size) hB5.size (fun k hk => by omega))
  have rdE := (hrB.fr (hF.mono (fun k hk => Or.inr hk)) (Wid.refl _ _)).mono (S' := S) (fun k hk => .inl hk)
  clear hrB hF hy3
  go_wp2_with fail
  refine bodyPost_ret (v := stV v B n d) (by simp [results, Try.results17, go_sem, stV, p0, p1]) rfl ⟨B, n, d, by rw [HE.out], ⟨by rw [HE.out]; exact HN.out, hd⟩, by rw [HE.out]; exact rdE, hBE⟩
set_option maxRecDepth 100000 in
set_option maxHeartbeats 16000000 in
theorem psput_two (s : St) (A : Option Addr) (n c : Nat) (m how : Int) (w : World) (hS : ∀ k, S k → k < w.heap.size) (hok : okF s.now) (hn : s.kept.length = n) (hn8 : n ≤ 8) (hr : Rd w A (is_ s.kept)) (hhow : how = 2) (hin : inK how) :
    Calls Try.prog 17 #[stV s.now A n c, .int .i64 m, .int .i64 how] w (StkE S (putS s m how) w) := by
  obtain ⟨now, l⟩ := s
  simp only at hn hr hok
  subst hhow
  obtain ⟨f, hf⟩ : ∃ f, flg m = f := ⟨_, rfl⟩
  have hff : okF f := by rw [← hf]; exact flg_rng m
  obtain ⟨v, hv⟩ : ∃ v, bits .or .i64 now f = v := ⟨_, rfl⟩
  have HE := Lib.hid (show putS ⟨now, l⟩ m 2 = ⟨v, l⟩ by
    rw [← hv]
    simp only [putS, hf]
    obtain ⟨p, rfl⟩ := fin32 hok
    obtain ⟨q, rfl⟩ := fin32 hff
    rw [if_pos ⟨by decide, by decide⟩, ways_two])
  have hfl := pflags_any m (((w.alloc (.cells #[.int .i64 now, .slice A n c] 27)).alloc (.cells #[.int .i64 0, .slice none 0 0] 27)))
  rw [hf] at hfl
  have HN := Lib.hid hn
  have HS := Lib.hid hS
  have k0 : Blk ((w.alloc (.cells #[.int .i64 now, .slice A n c] 27)).alloc (.cells #[.int .i64 0, .slice none 0 0] 27)) w.heap.size 27 #[.int .i64 now, .slice A n c] := (Blk.new w _ _).alloc _
  have y0 : Blk ((w.alloc (.cells #[.int .i64 now, .slice A n c] 27)).alloc (.cells #[.int .i64 0, .slice none 0 0] 27)) (w.heap.size + 1) 27 #[.int .i64 0, .slice none 0 0] := by
    have := Blk.new (w.alloc (.cells #[.int .i64 now, .slice A n c] 27)) 27 #[.int .i64 0, .slice none 0 0]
    rwa [World.size_alloc] at this
  have hB0 : Below w.heap.size w ((w.alloc (.cells #[.int .i64 now, .slice A n c] 27)).alloc (.cells #[.int .i64 0, .slice none 0 0] 27)) := ((Below.refl _ w).alloc (Nat.le_refl _) _).alloc (by simp) _
  rw [stV]
  clear hS hf
  have HQ := Lib.hid hv
  have HOK := Lib.hid hok
  have HFF := Lib.hid hff
  have HIN := Lib.hid hin
  clear hn hv hok hff hin
  have a0 := k0.cell 0
  have a1 := k0.cell 1
  go_enter Try.func17, Try.ntmps17
  go_wp2_with fail
  refine hfl.mono ?_
  rintro e w1 ⟨rfl, hb1⟩
  have k1 := k0.below hb1 k0.lt
  have y1 := y0.below hb1 y0.lt
  have hB1 := below_step8 hB0 hb1 hB0.size
  clear hfl k0 y0 hB0 hb1 a0 a1
  go_wp2_with fail
  refine (ways_any f w1).mono ?_
  rintro e w3 ⟨b, mm, kk, rfl, hbk, hown, hb3⟩
  have k3 := k1.below hb3 k1.lt
  have y3 := y1.below hb3 y1.lt
  have hB3 := below_step8 hB1 hb3 hB1.size
  have hlook := ways_look hown HIN.out (v := way2 b) (q := true) (by kernel_rfl) (by kernel_rfl)
  rw [way2] at hlook
  clear k1 y1 hB1 hb3
  go_wp2_with fail
  have hcall := way2_any HQ.out (now := now) hbk
  have a0 := k3.cell 0
  refine hcall.mono ?_
  rintro e w4 ⟨rfl, hb4⟩
  have k4 := k3.below hb4 k3.lt
  have y4 := y3.below hb4 y3.lt
  have hB4 := below_step8 hB3 hb4 hB3.size
  clear hcall k3 y3 hB3 hb4 hbk hown hlook a0
  have a1 := k4.cell 1
  go_wp2_with fail
  have hr4 := hr.below hB4
  refine (clone_any (fun k => S k ∨ k = w.heap.size + 1) A n c (is_ l) _ (fun k hk => by
    rcases hk with hk | hk
    · have := HS.out k hk; have := hB4.size; omega
    · rw [hk]; exact y4.lt) (by rw [is_len]; exact HN.out) (by omega) hr4 (is_one _)).mono ?_
  rintro e w5 ⟨B, d, rfl, hd, hrB, hb5⟩
  have hy3 := y4.below hb5 y4.lt
  have hB5 := below_step8 hB4 hb5 hB4.size
  clear y4 k4 hB4 hb5 hr4 a1
  obtain ⟨q0, q1⟩ : w5.cell? ⟨w.heap.size + 1, 0, none⟩ = some (.int .i64 0) ∧ w5.cell? ⟨w.heap.size + 1, 1, none⟩ = some (.slice none 0 0) := ⟨hy3.cell 0, hy3.cell 1⟩
  have z0 := hy3.frozen 0
  have z1 := hy3.frozen 1
  have yE := (hy3.set 0 (.int .i64 v)).set 1 (.slice B n d)
  have p0 : (w5.setCell ⟨w.heap.size + 1, 0, none⟩ (.int .i64 v)).cell? ⟨w.heap.size + 1, 0, none⟩ = some (.int .i64 v) := (hy3.set 0 (.int .i64 v)).cell 0
  have p1 : ((w5.setCell ⟨w.heap.size + 1, 0, none⟩ (.int .i64 v)).setCell ⟨w.heap.size + 1, 1, none⟩ (.slice B n d)).cell? ⟨w.heap.size + 1, 1, none⟩ = some (.slice B n d) := yE.cell 1
  have hF : Fr w5 ((w5.setCell ⟨w.heap.size + 1, 0, none⟩ (.int .i64 v)).setCell ⟨w.heap.size + 1, 1, none⟩ (.slice B n d)) (fun k => k = w.heap.size + 1) := (Fr.setCell w5 _ _ _ (fun k => k = w.heap.size + 1) rfl).trans (Fr.setCell _ _ _ _ (fun k => k = w.heap.size + 1) rfl) (fun k hk => .inl hk)
  have hBE := hB5.trans (hF.below (B := w.heap.size) hB5.size (fun k hk => by omega))
  have rdE := (hrB.fr (hF.mono (fun k hk => Or.inr hk)) (Wid.refl _ _)).mono (S' := S) (fun k hk => .inl hk)
  clear hrB hF hy3
  go_wp2_with fail
  refine bodyPost_ret (v := stV v B n d) (by simp [results, Try.results17, go_sem, stV, p0, p1]) rfl ⟨B, n, d, by rw [HE.out], ⟨by rw [HE.out]; exact HN.out, hd⟩, by rw [HE.out]; exact rdE, hBE⟩
set_option maxRecDepth 100000 in
set_option maxHeartbeats 16000000 in
theorem psput_three (s : St) (A : Option Addr) (n c : Nat) (m how : Int) (w : World) (hS : ∀ k, S k → k < w.heap.size) (hok : okF s.now) (hn : s.kept.length = n) (hn8 : n ≤ 8) (hr : Rd w A (is_ s.kept)) (hhow : how = 3) (hin : inK how) :
    Calls Try.prog 17 #[stV s.now A n c, .int .i64 m, .int .i64 how] w (StkE S (putS s m how) w) := by
  obtain ⟨now, l⟩ := s
  simp only at hn hr hok
  subst hhow
  obtain ⟨f, hf⟩ : ∃ f, flg m = f := ⟨_, rfl⟩
  have hff : okF f := by rw [← hf]; exact flg_rng m
  obtain ⟨v, hv⟩ : ∃ v, bits .andNot .i64 now f = v := ⟨_, rfl⟩
  have HE := Lib.hid (show putS ⟨now, l⟩ m 3 = ⟨v, l⟩ by
    rw [← hv]
    simp only [putS, hf]
    obtain ⟨p, rfl⟩ := fin32 hok
    obtain ⟨q, rfl⟩ := fin32 hff
    rw [if_pos ⟨by decide, by decide⟩, ways_three])
  have hfl := pflags_any m (((w.alloc (.cells #[.int .i64 now, .slice A n c] 27)).alloc (.cells #[.int .i64 0, .slice none 0 0] 27)))
  rw [hf] at hfl
  have HN := Lib.hid hn
  have HS := Lib.hid hS
  have k0 : Blk ((w.alloc (.cells #[.int .i64 now, .slice A n c] 27)).alloc (.cells #[.int .i64 0, .slice none 0 0] 27)) w.heap.size 27 #[.int .i64 now, .slice A n c] := (Blk.new w _ _).alloc _
  have y0 : Blk ((w.alloc (.cells #[.int .i64 now, .slice A n c] 27)).alloc (.cells #[.int .i64 0, .slice none 0 0] 27)) (w.heap.size + 1) 27 #[.int .i64 0, .slice none 0 0] := by
    have := Blk.new (w.alloc (.cells #[.int .i64 now, .slice A n c] 27)) 27 #[.int .i64 0, .slice none 0 0]
    rwa [World.size_alloc] at this
  have hB0 : Below w.heap.size w ((w.alloc (.cells #[.int .i64 now, .slice A n c] 27)).alloc (.cells #[.int .i64 0, .slice none 0 0] 27)) := ((Below.refl _ w).alloc (Nat.le_refl _) _).alloc (by simp) _
  rw [stV]
  clear hS hf
  have HQ := Lib.hid hv
  have HOK := Lib.hid hok
  have HFF := Lib.hid hff
  have HIN := Lib.hid hin
  clear hn hv hok hff hin
  have a0 := k0.cell 0
  have a1 := k0.cell 1
  go_enter Try.func17, Try.ntmps17
  go_wp2_with fail
  refine hfl.mono ?_
  rintro e w1 ⟨rfl, hb1⟩
  have k1 := k0.below hb1 k0.lt
  have y1 := y0.below hb1 y0.lt
  have hB1 := below_step8 hB0 hb1 hB0.size
  clear hfl k0 y0 hB0 hb1 a0 a1
  go_wp2_with fail
  refine (ways_any f w1).mono ?_
  rintro e w3 ⟨b, mm, kk, rfl, hbk, hown, hb3⟩
  have k3 := k1.below hb3 k1.lt
  have y3 := y1.below hb3 y1.lt
  have hB3 := below_step8 hB1 hb3 hB1.size
  have hlook := ways_look hown HIN.out (v := way3 b) (q := true) (by kernel_rfl) (by kernel_rfl)
  rw [way3] at hlook
  clear k1 y1 hB1 hb3
  go_wp2_with fail
  have hcall := way3_any HQ.out (now := now) hbk
  have a0 := k3.cell 0
  refine hcall.mono ?_
  rintro e w4 ⟨rfl, hb4⟩
  have k4 := k3.below hb4 k3.lt
  have y4 := y3.below hb4 y3.lt
  have hB4 := below_step8 hB3 hb4 hB3.size
  clear hcall k3 y3 hB3 hb4 hbk hown hlook a0
  have a1 := k4.cell 1
  go_wp2_with fail
  have hr4 := hr.below hB4
  refine (clone_any (fun k => S k ∨ k = w.heap.size + 1) A n c (is_ l) _ (fun k hk => by
    rcases hk with hk | hk
    · have := HS.out k hk; have := hB4.size; omega
    · rw [hk]; exact y4.lt) (by rw [is_len]; exact HN.out) (by omega) hr4 (is_one _)).mono ?_
  rintro e w5 ⟨B, d, rfl, hd, hrB, hb5⟩
  have hy3 := y4.below hb5 y4.lt
  have hB5 := below_step8 hB4 hb5 hB4.size
  clear y4 k4 hB4 hb5 hr4 a1
  obtain ⟨q0, q1⟩ : w5.cell? ⟨w.heap.size + 1, 0, none⟩ = some (.int .i64 0) ∧ w5.cell? ⟨w.heap.size + 1, 1, none⟩ = some (.slice none 0 0) := ⟨hy3.cell 0, hy3.cell 1⟩
  have z0 := hy3.frozen 0
  have z1 := hy3.frozen 1
  have yE := (hy3.set 0 (.int .i64 v)).set 1 (.slice B n d)
  have p0 : (w5.setCell ⟨w.heap.size + 1, 0, none⟩ (.int .i64 v)).cell? ⟨w.heap.size + 1, 0, none⟩ = some (.int .i64 v) := (hy3.set 0 (.int .i64 v)).cell 0
  have p1 : ((w5.setCell ⟨w.heap.size + 1, 0, none⟩ (.int .i64 v)).setCell ⟨w.heap.size + 1, 1, none⟩ (.slice B n d)).cell? ⟨w.heap.size + 1, 1, none⟩ = some (.slice B n d) := yE.cell 1
  have hF : Fr w5 ((w5.setCell ⟨w.heap.size + 1, 0, none⟩ (.int .i64 v)).setCell ⟨w.heap.size + 1, 1, none⟩ (.slice B n d)) (fun k => k = w.heap.size + 1) := (Fr.setCell w5 _ _ _ (fun k => k = w.heap.size + 1) rfl).trans (Fr.setCell _ _ _ _ (fun k => k = w.heap.size + 1) rfl) (fun k hk => .inl hk)
  have hBE := hB5.trans (hF.below (B := w.heap.size) hB5.size (fun k hk => by omega))
  have rdE := (hrB.fr (hF.mono (fun k hk => Or.inr hk)) (Wid.refl _ _)).mono (S' := S) (fun k hk => .inl hk)
  clear hrB hF hy3
  go_wp2_with fail
  refine bodyPost_ret (v := stV v B n d) (by simp [results, Try.results17, go_sem, stV, p0, p1]) rfl ⟨B, n, d, by rw [HE.out], ⟨by rw [HE.out]; exact HN.out, hd⟩, by rw [HE.out]; exact rdE, hBE⟩
set_option maxRecDepth 100000 in
set_option maxHeartbeats 16000000 in
theorem psput_no (s : St) (A : Option Addr) (n c : Nat) (m how : Int) (w : World) (hS : ∀ k, S k → k < w.heap.size) (hok : okF s.now) (hn : s.kept.length = n) (hn8 : n ≤ 8) (hr : Rd w A (is_ s.kept)) (hhow : ¬ (1 ≤ how ∧ how ≤ 3)) (hin : inK how) :
    Calls Try.prog 17 #[stV s.now A n c, .int .i64 m, .int .i64 how] w (StkE S (putS s m how) w) := by
  obtain ⟨now, l⟩ := s
  simp only at hn hr hok
  obtain ⟨f, hf⟩ : ∃ f, flg m = f := ⟨_, rfl⟩
  have hff : okF f := by rw [← hf]; exact flg_rng m
  obtain ⟨v, hv⟩ : ∃ v, now = v := ⟨_, rfl⟩
  have HE := Lib.hid (show putS ⟨now, l⟩ m how = ⟨v, l⟩ by
    rw [← hv]
    simp only [putS, hf]
    rw [if_neg hhow])
  have hfl := pflags_any m (((w.alloc (.cells #[.int .i64 now, .slice A n c] 27)).alloc (.cells #[.int .i64 0, .slice none 0 0] 27)))
  rw [hf] at hfl
  have HN := Lib.hid hn
  have HS := Lib.hid hS
  have k0 : Blk ((w.alloc (.cells #[.int .i64 now, .slice A n c] 27)).alloc (.cells #[.int .i64 0, .slice none 0 0] 27)) w.heap.size 27 #[.int .i64 now, .slice A n c] := (Blk.new w _ _).alloc _
  have y0 : Blk ((w.alloc (.cells #[.int .i64 now, .slice A n c] 27)).alloc (.cells #[.int .i64 0, .slice none 0 0] 27)) (w.heap.size + 1) 27 #[.int .i64 0, .slice none 0 0] := by
    have := Blk.new (w.alloc (.cells #[.int .i64 now, .slice A n c] 27)) 27 #[.int .i64 0, .slice none 0 0]
    rwa [World.size_alloc] at this
  have hB0 : Below w.heap.size w ((w.alloc (.cells #[.int .i64 now, .slice A n c] 27)).alloc (.cells #[.int .i64 0, .slice none 0 0] 27)) := ((Below.refl _ w).alloc (Nat.le_refl _) _).alloc (by simp) _
  rw [stV]
  clear hS hf
  have HQ := Lib.hid hv
  have HOK := Lib.hid hok
  have HFF := Lib.hid hff
  have HHW := Lib.hid hhow
  have HIN := Lib.hid hin
  clear hn hv hok hff hhow hin
  have a0 := k0.cell 0
  have a1 := k0.cell 1
  go_enter Try.func17, Try.ntmps17
  go_wp2_with fail
  refine hfl.mono ?_
  rintro e w1 ⟨rfl, hb1⟩
  have k1 := k0.below hb1 k0.lt
  have y1 := y0.below hb1 y0.lt
  have hB1 := below_step8 hB0 hb1 hB0.size
  clear hfl k0 y0 hB0 hb1 a0 a1
  go_wp2_with fail
  refine (ways_any f w1).mono ?_
  rintro e w3 ⟨b, mm, kk, rfl, hbk, hown, hb3⟩
  have k3 := k1.below hb3 k1.lt
  have y3 := y1.below hb3 y1.lt
  have hB3 := below_step8 hB1 hb3 hB1.size
  have hlook := ways_look hown HIN.out (ways_no b HHW.out).1 (ways_no b HHW.out).2
  
  clear k1 y1 hB1 hb3
  have hnv := HQ.out.symm
  subst hnv
  have k4 := k3; have y4 := y3; have hB4 := hB3
  clear k3 y3 hB3 hbk hown
  have a1 := k4.cell 1
  go_wp2_with fail
  have hr4 := hr.below hB4
  refine (clone_any (fun k => S k ∨ k = w.heap.size + 1) A n c (is_ l) _ (fun k hk => by
    rcases hk with hk | hk
    · have := HS.out k hk; have := hB4.size; omega
    · rw [hk]; exact y4.lt) (by rw [is_len]; exact HN.out) (by omega) hr4 (is_one _)).mono ?_
  rintro e w5 ⟨B, d, rfl, hd, hrB, hb5⟩
  have hy3 := y4.below hb5 y4.lt
  have hB5 := below_step8 hB4 hb5 hB4.size
  clear y4 k4 hB4 hb5 hr4 a1
  obtain ⟨q0, q1⟩ : w5.cell? ⟨w.heap.size + 1, 0, none⟩ = some (.int .i64 0) ∧ w5.cell? ⟨w.heap.size + 1, 1, none⟩ = some (.slice none 0 0) := ⟨hy3.cell 0, hy3.cell 1⟩
  have z0 := hy3.frozen 0
  have z1 := hy3.frozen 1
  have yE := (hy3.set 0 (.int .i64 v)).set 1 (.slice B n d)
  have p0 : (w5.setCell ⟨w.heap.size + 1, 0, none⟩ (.int .i64 v)).cell? ⟨w.heap.size + 1, 0, none⟩ = some (.int .i64 v) := (hy3.set 0 (.int .i64 v)).cell 0
  have p1 : ((w5.setCell ⟨w.heap.size + 1, 0, none⟩ (.int .i64 v)).setCell ⟨w.heap.size + 1, 1, none⟩ (.slice B n d)).cell? ⟨w.heap.size + 1, 1, none⟩ = some (.slice B n d) := yE.cell 1
  have hF : Fr w5 ((w5.setCell ⟨w.heap.size + 1, 0, none⟩ (.int .i64 v)).setCell ⟨w.heap.size + 1, 1, none⟩ (.slice B n d)) (fun k => k = w.heap.size + 1) := (Fr.setCell w5 _ _ _ (fun k => k = w.heap.size + 1) rfl).trans (Fr.setCell _ _ _ _ (fun k => k = w.heap.size + 1) rfl) (fun k hk => .inl hk)
  have hBE := hB5.trans (hF.below (B := w.heap.size) hB5.size (fun k hk => by omega))
  have rdE := (hrB.fr (hF.mono (fun k hk => Or.inr hk)) (Wid.refl _ _)).mono (S' := S) (fun k hk => .inl hk)
  clear hrB hF hy3
  go_wp2_with fail
  refine bodyPost_ret (v := stV v B n d) (by simp [results, Try.results17, go_sem, stV, p0, p1]) rfl ⟨B, n, d, by rw [HE.out], ⟨by rw [HE.out]; exact HN.out, hd⟩, by rw [HE.out]; exact rdE, hBE⟩
theorem psput_any (s : St) (A : Option Addr) (n c : Nat) (m how : Int) (w : World) (hS : ∀ k, S k → k < w.heap.size) (hok : okF s.now) (hn : s.kept.length = n) (hn8 : n ≤ 8) (hr : Rd w A (is_ s.kept)) (hin : inK how) :
    Calls Try.prog 17 #[stV s.now A n c, .int .i64 m, .int .i64 how] w (StkE S (putS s m how) w) := by
  by_cases h : 1 ≤ how ∧ how ≤ 3
  · by_cases h1 : how = 1
    · exact psput_one s A n c m how w hS hok hn hn8 hr h1 hin
    · by_cases h2 : how = 2
      · exact psput_two s A n c m how w hS hok hn hn8 hr h2 hin
      · exact psput_three s A n c m how w hS hok hn hn8 hr (by omega) hin
  · exact psput_no s A n c m how w hS hok hn hn8 hr h hin
end
/-- All that the layer's laws, and later layers, need of the program's stack. -/
theorem stackC : StackC fun _ => True where
  invB := fun _ _ => trivial
  push := fun S s A n c f w _ hS hok hn hnc _ hr => pspush_any s A n c f w hS hn (by rw [← hn]; exact hok.2.2) hnc hr.rd
  pop := fun S s A n c f w _ hS hok hn hnc hf hr => pspop_any s A n c f w hS hf hn (by rw [← hn]; exact hok.2.2) hnc hr.rd
  put := fun S s A n c f how w _ hS hok hn _ _ hh hr => psput_any s A n c f how w hS hok.1 hn (by rw [← hn]; exact hok.2.2) hr.rd hh
  same := fun a b A B n m c d w _ hn hm hn2 hm2 hra hrb => psame8_any a b A B n m c d w hn hm hn2 hm2 hra hrb
end Go.Proofs.Ytocbkcofmebfmaa
