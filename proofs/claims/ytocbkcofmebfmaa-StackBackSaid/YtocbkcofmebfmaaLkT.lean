/-
  Layer 8: the walk of StackTells.
-/
import Derived.Test.YtocbkcofmebfmaaLkC
namespace Go.Proofs.Ytocbkcofmebfmaa
open Go.RowKit

/-- A stack that is told, in every later world. -/
def FS (x : St) (xn : Int) (k : Nat) (v : Value) (w : World) : Prop := ∃ A c, v = .agg #[.int .i64 xn, .slice A k c] ∧ k ≤ c ∧ Rd w A (is_ x.kept)
theorem FS.below {x : St} {xn : Int} {k : Nat} {v : Value} {w w' : World} (h : FS x xn k v w) (hb : Below w.heap.size w w') : FS x xn k v w' := by
  obtain ⟨A, c, h1, h2, h3⟩ := h
  exact ⟨A, c, h1, h2, h3.below hb⟩
theorem fs_of {S : Nat → Prop} {x : St} {xn : Int} {k : Nat} {w : World} {e : Ending} {w' : World} (h : StkA S x xn k w e w') : ∃ v, e = .returned v ∧ FS x xn k v w' ∧ Below w.heap.size w w' := by
  obtain ⟨A, c, rfl, h1, h2, h3⟩ := h
  exact ⟨_, rfl, ⟨A, c, rfl, h1, h2.rd⟩, h3⟩
theorem rd_off {w : World} {A : Option Addr} {xs : List Value} (h : Rd w A xs) : RdOff w (fun _ => False) A xs := RdOff.of_rdIn (RdIn.of h) (Nat.le_refl _) (fun _ h => h.elim)
theorem no_set (w : World) : ∀ k, (fun _ : Nat => False) k → k < w.heap.size := fun _ h => h.elim
theorem all_ok {K : List Fact} (h : ∀ (q : Nat) (f : Fact), K[q]? = some f → f.ok) : ∀ f ∈ K, f.ok := fun f hf => by
  obtain ⟨q, hq, rfl⟩ := List.getElem_of_mem hf
  exact h q _ (List.getElem?_eq_getElem hq)
section
variable {Inv : World → Prop}
set_option maxRecDepth 100000 in
set_option maxHeartbeats 32000000 in
theorem stackTells_go (H : StackC Inv) (now : Int) (A : Option Addr) (l : List Int) (n c : Nat) (hn : l.length = n) (m how : Int) (hm : inK m) (hh : inK how) (w : World) (hr : Rd w A (is_ l)) (hv : Inv w) :
    Calls Try.prog 3 #[.agg #[.int .i64 now, .slice A n c], .int .i64 m, .int .i64 how] w fun e w' => e = .returned (.bool true) ∧ Below w.heap.size w w' := by
  obtain ⟨s, hs⟩ : ∃ s, flagsS now l = s := ⟨_, rfl⟩
  have hok : okS s := by rw [← hs]; exact ok_flags now l
  obtain ⟨F, hF⟩ : ∃ F, s.now = F := ⟨_, rfl⟩
  obtain ⟨k, hk⟩ : ∃ k, s.kept.length = k := ⟨_, rfl⟩
  have hk8 : k ≤ 8 := by rw [← hk]; exact hok.2.2
  obtain ⟨x1, hx1⟩ : ∃ x, pushS s m = x := ⟨_, rfl⟩
  obtain ⟨n1, hn1⟩ : ∃ y, x1.now = y := ⟨_, rfl⟩
  obtain ⟨k1, hk1⟩ : ∃ y, x1.kept.length = y := ⟨_, rfl⟩
  have h81 : k1 ≤ 8 := by rw [← hk1, ← hx1]; exact (ok_push hok m).2.2
  obtain ⟨x2, hx2⟩ : ∃ x, popS s m = x := ⟨_, rfl⟩
  obtain ⟨n2, hn2⟩ : ∃ y, x2.now = y := ⟨_, rfl⟩
  obtain ⟨k2, hk2⟩ : ∃ y, x2.kept.length = y := ⟨_, rfl⟩
  have h82 : k2 ≤ 8 := by rw [← hk2, ← hx2]; exact (ok_pop hok m).2.2
  obtain ⟨x3, hx3⟩ : ∃ x, putS s m how = x := ⟨_, rfl⟩
  obtain ⟨n3, hn3⟩ : ∃ y, x3.now = y := ⟨_, rfl⟩
  obtain ⟨k3, hk3⟩ : ∃ y, x3.kept.length = y := ⟨_, rfl⟩
  have h83 : k3 ≤ 8 := by rw [← hk3, ← hx3]; exact (ok_put hok m how).2.2
  have HFL : Hid (∀ S W, (∀ k, S k → k < W.heap.size) → Rd W A (is_ l) → Calls Try.prog 10 #[.agg #[.int .i64 now, .slice A n c]] W (StkA S s F k W)) := Lib.hid fun S W hS hR => (flags_any now A l n c W hS hn hR).mono fun _ _ => StkE.at_ hs hF hk
  have HG : Hid (∀ B d, k ≤ d → (∀ W, Inv W → Rd W B (is_ s.kept) → Calls Try.prog 13 #[.agg #[.int .i64 F, .slice B k d], .int .i64 m] W fun e w' => ∃ v, e = .returned v ∧ FS x1 n1 k1 v w' ∧ Below W.heap.size W w') ∧
      (∀ W, Inv W → Rd W B (is_ s.kept) → Calls Try.prog 15 #[.agg #[.int .i64 F, .slice B k d], .int .i64 m] W fun e w' => ∃ v, e = .returned v ∧ FS x2 n2 k2 v w' ∧ Below W.heap.size W w') ∧
      (∀ W, Inv W → Rd W B (is_ s.kept) → Calls Try.prog 17 #[.agg #[.int .i64 F, .slice B k d], .int .i64 m, .int .i64 how] W fun e w' => ∃ v, e = .returned v ∧ FS x3 n3 k3 v w' ∧ Below W.heap.size W w') ∧
      (∀ W, Rd W B (is_ s.kept) → Calls Try.prog 14 #[.agg #[.int .i64 F, .slice B k d], .int .i64 m] W fun e w' => ∃ v, e = .returned v ∧ FS x1 n1 k1 v w' ∧ Below W.heap.size W w') ∧
      (∀ W, Rd W B (is_ s.kept) → Calls Try.prog 16 #[.agg #[.int .i64 F, .slice B k d], .int .i64 m] W fun e w' => ∃ v, e = .returned v ∧ FS x2 n2 k2 v w' ∧ Below W.heap.size W w') ∧
      (∀ W, Rd W B (is_ s.kept) → Calls Try.prog 18 #[.agg #[.int .i64 F, .slice B k d], .int .i64 m, .int .i64 how] W fun e w' => ∃ v, e = .returned v ∧ FS x3 n3 k3 v w' ∧ Below W.heap.size W w') ∧
      (∀ W, Rd W B (is_ s.kept) → Calls Try.prog 12 #[.agg #[.int .i64 F, .slice B k d], .agg #[.int .i64 F, .slice B k d]] W fun e w' => e = .returned (.bool true) ∧ Below W.heap.size W w')) := Lib.hid fun B d hd => by
    refine ⟨fun W hW hR => (H.push_at W hW (no_set W) hok hk hd hm (rd_off hR) hF hx1 hn1 hk1).mono fun _ _ => fs_of, fun W hW hR => (H.pop_at W hW (no_set W) hok hk hd hm (rd_off hR) hF hx2 hn2 hk2).mono fun _ _ => fs_of, fun W hW hR => (H.put_at W hW (no_set W) hok hk hd hm hh (rd_off hR) hF hx3 hn3 hk3).mono fun _ _ => fs_of, fun W hR => ?_, fun W hR => ?_, fun W hR => ?_, fun W hR => ?_⟩
    · have := rspush_any (S := fun _ => False) s B k d m W (no_set W) hk hk8 hR
      rw [stV, hF] at this
      exact this.mono fun _ _ h => fs_of (StkE.at_ hx1 hn1 hk1 h)
    · have := rspop_any (S := fun _ => False) s B k d m W (no_set W) hk hd hk8 (rd_off hR)
      rw [stV, hF] at this
      exact this.mono fun _ _ h => fs_of (StkE.at_ hx2 hn2 hk2 h)
    · have := rsput_any (S := fun _ => False) s B k d m how W hok.1 hk hd (rd_off hR)
      rw [stV, hF] at this
      exact this.mono fun _ _ h => fs_of (StkE.at_ hx3 hn3 hk3 h)
    · exact lsame_any s s F F B B k k d d true W hk hk (by omega) (by omega) hR hR hF hF (sameS_self s)
  have HSM : ∀ (x : St) (xn : Int) (j : Nat), x.now = xn → x.kept.length = j → j ≤ 8 → Hid (∀ W A1 A2 c1 c2, Rd W A1 (is_ x.kept) → Rd W A2 (is_ x.kept) → Calls Try.prog 12 #[.agg #[.int .i64 xn, .slice A1 j c1], .agg #[.int .i64 xn, .slice A2 j c2]] W fun e w' => e = .returned (.bool true) ∧ Below W.heap.size W w') := fun x xn j h1 h2 h3 => Lib.hid fun W A1 A2 c1 c2 r1 r2 => lsame_any x x xn xn A1 A2 j j c1 c2 true W h2 h2 (by omega) (by omega) r1 r2 h1 h1 (sameS_self x)
  have HS1 := HSM x1 n1 k1 hn1 hk1 h81
  have HS2 := HSM x2 n2 k2 hn2 hk2 h82
  have HS3 := HSM x3 n3 k3 hn3 hk3 h83
  clear HSM hs hok hF hk hk8 hx1 hn1 hk1 h81 hx2 hn2 hk2 h82 hx3 hn3 hk3 h83 hn hm hh
  have k0 := Blk.new w 24 #[.int .i64 now, .slice A n c]
  have hbe : Below w.heap.size w (w.alloc (.cells #[.int .i64 now, .slice A n c] 24)) := (Below.refl _ w).alloc (Nat.le_refl _) _
  have hi := H.invB hv hbe
  go_enter Try.func3, Try.ntmps3
  go_wp2_with fail
  refine (stackAwake H _ hi).mono ?_
  rintro e w1 ⟨rfl, hb1⟩
  have hbe1 := below_step8 hbe hb1 hbe.size
  have q0 := k0.below hb1 k0.lt
  have a0 := q0.cell 0
  have a1 := q0.cell 1
  have hr1 := hr.below hbe1
  clear k0 hbe hb1 hi
  go_wp2_with fail
  refine (HFL.out (fun j => j = w.heap.size) _ (fun j hj => by rw [hj]; exact q0.lt) hr1).mono ?_
  rintro e w2 ⟨B, d, rfl, hkd, hrB, hb2⟩
  obtain ⟨HC1, HC2, HC3, HD1, HD2, HD3, HS4⟩ := HG.out B d hkd
  replace HC1 := Lib.hid HC1
  replace HC2 := Lib.hid HC2
  replace HC3 := Lib.hid HC3
  replace HD1 := Lib.hid HD1
  replace HD2 := Lib.hid HD2
  replace HD3 := Lib.hid HD3
  replace HS4 := Lib.hid HS4
  have q2 := q0.below hb2 q0.lt
  have hbe2 := below_step8 hbe1 hb2 hbe1.size
  have z0 := q2.frozen 0
  have z1 := q2.frozen 1
  have y0 := q2.cell 0
  have y1 := q2.cell 1
  have q3 : Blk ((w2.setCell ⟨w.heap.size, 0, none⟩ (.int .i64 F)).setCell ⟨w.heap.size, 1, none⟩ (.slice B k d)) w.heap.size 24 #[.int .i64 F, .slice B k d] := (q2.set 0 (.int .i64 F)).set 1 (.slice B k d)
  have hbe3 := (hbe2.setCell (p := ⟨w.heap.size, 0, none⟩) (Nat.le_refl _) (.int .i64 F)).setCell (p := ⟨w.heap.size, 1, none⟩) (Nat.le_refl _) (.slice B k d)
  have hrB3 := ((hrB.set (g := w.heap.size) rfl 0 (.int .i64 F)).set (g := w.heap.size) rfl 1 (.slice B k d)).rd
  have b0' : (w2.setCell ⟨w.heap.size, 0, none⟩ (.int .i64 F)).cell? ⟨w.heap.size, 0, none⟩ = some (.int .i64 F) := (q2.set 0 (.int .i64 F)).cell 0
  clear HG HFL q0 a0 a1 hr1 hbe1 hb2 q2 hbe2 hrB
  have b0 := q3.cell 0
  have b1 := q3.cell 1
  go_wp2_with fail
  refine (made_any F B k d _).mono ?_
  rintro e w4 ⟨rfl, hb4⟩
  have q4 := (q3.below hb4 q3.lt).alloc (.cells #[.int .i64 F, .slice B k d] 27)
  have q8 := Blk.new w4 27 #[.int .i64 F, .slice B k d]
  have hbe4 := (below_step8 hbe3 hb4 hbe3.size).alloc (below_step8 hbe3 hb4 hbe3.size).size (.cells #[.int .i64 F, .slice B k d] 27)
  have hr4 := (hrB3.below hb4).alloc (.cells #[.int .i64 F, .slice B k d] 27)
  clear z0 z1 y0 y1 b0 b1 b0' q3 hbe3 hrB3 hb4
  go_wp2_with fail
  obtain ⟨g8, hg8⟩ : ∃ g, w4.heap.size = g := ⟨_, rfl⟩
  rw [hg8] at q8 ⊢
  obtain ⟨w5, hw5⟩ : ∃ w5, w4.alloc (.cells #[.int .i64 F, .slice B k d] 27) = w5 := ⟨_, rfl⟩
  rw [hw5] at q4 q8 hbe4 hr4 ⊢
  clear hw5 hg8
  have HV : Hid (∀ W, Below w5.heap.size w5 W → Inv W) := Lib.hid fun W hb => H.invB hv (below_step8 hbe4 hb hbe4.size)
  have HR : Hid (∀ W, Below w5.heap.size w5 W → Rd W B (is_ s.kept)) := Lib.hid fun W hb => hr4.below hb
  have l3 : ∀ W, Below w5.heap.size w5 W → Blk W w.heap.size 24 #[.int .i64 F, .slice B k d] := fun W h => q4.below h q4.lt
  have l8 : ∀ W, Below w5.heap.size w5 W → Blk W g8 27 #[.int .i64 F, .slice B k d] := fun W h => q8.below h q8.lt
  have hst : ∀ f ∈ ([⟨4, 18, FS x1 n1 k1⟩, ⟨7, 21, FS x1 n1 k1⟩, ⟨13, 27, FS x2 n2 k2⟩, ⟨16, 30, FS x2 n2 k2⟩, ⟨23, 37, FS x3 n3 k3⟩, ⟨27, 41, FS x3 n3 k3⟩] : List Fact), f.ok := all_ok fun q f hq => by
    match q, hq with
    | 0, hq => obtain rfl := Option.some.inj hq; exact fun _ _ _ h hb => h.below hb
    | 1, hq => obtain rfl := Option.some.inj hq; exact fun _ _ _ h hb => h.below hb
    | 2, hq => obtain rfl := Option.some.inj hq; exact fun _ _ _ h hb => h.below hb
    | 3, hq => obtain rfl := Option.some.inj hq; exact fun _ _ _ h hb => h.below hb
    | 4, hq => obtain rfl := Option.some.inj hq; exact fun _ _ _ h hb => h.below hb
    | 5, hq => obtain rfl := Option.some.inj hq; exact fun _ _ _ h hb => h.below hb
    | q + 6, hq => simp at hq
  clear q4 q8 hr4
  refine wp_region_told (w1 := w5) (K := [⟨4, 18, FS x1 n1 k1⟩, ⟨7, 21, FS x1 n1 k1⟩, ⟨13, 27, FS x2 n2 k2⟩, ⟨16, 30, FS x2 n2 k2⟩, ⟨23, 37, FS x3 n3 k3⟩, ⟨27, 41, FS x3 n3 k3⟩]) (ix := 1000) (R0 := fun _ _ _ => True) (R1 := fun _ _ _ => True) [18, 21, 27, 30, 37, 41] (⟨#[.agg #[.int .i64 now, .slice A n c], .int .i64 m, .int .i64 how, .pointer (some ⟨w.heap.size, 0, none⟩), undef, undef, .bool true, .bool true, .pointer (some ⟨g8, 0, none⟩), .bool true, .agg #[.int .i64 now, .slice A n c], .agg #[.int .i64 F, .slice B k d], .agg #[.int .i64 F, .slice B k d], .agg #[.int .i64 F, .slice B k d], .bool true, .bool true, .agg #[.int .i64 F, .slice B k d], .int .i64 m, undef, .agg #[.int .i64 F, .slice B k d], .int .i64 m, undef, .bool true, .bool true, .bool true, .agg #[.int .i64 F, .slice B k d], .int .i64 m, undef, .agg #[.int .i64 F, .slice B k d], .int .i64 m, undef, .bool true, .bool true, .bool true, .agg #[.int .i64 F, .slice B k d], .int .i64 m, .int .i64 how, undef, .agg #[.int .i64 F, .slice B k d], .int .i64 m, .int .i64 how, undef, .bool true, .bool true, .bool true, .agg #[.int .i64 F, .slice B k d], .agg #[.int .i64 F, .slice B k d], .bool true, .bool true], []⟩) (fun g => ⟨#[.agg #[.int .i64 now, .slice A n c], .int .i64 m, .int .i64 how, .pointer (some ⟨w.heap.size, 0, none⟩), undef, undef, .bool true, .bool true, .pointer (some ⟨g8, 0, none⟩), .bool true, .agg #[.int .i64 now, .slice A n c], .agg #[.int .i64 F, .slice B k d], .agg #[.int .i64 F, .slice B k d], .agg #[.int .i64 F, .slice B k d], .bool true, .bool true, .agg #[.int .i64 F, .slice B k d], .int .i64 m, (g 18), .agg #[.int .i64 F, .slice B k d], .int .i64 m, (g 21), .bool true, .bool true, .bool true, .agg #[.int .i64 F, .slice B k d], .int .i64 m, (g 27), .agg #[.int .i64 F, .slice B k d], .int .i64 m, (g 30), .bool true, .bool true, .bool true, .agg #[.int .i64 F, .slice B k d], .int .i64 m, .int .i64 how, (g 37), .agg #[.int .i64 F, .slice B k d], .int .i64 m, .int .i64 how, (g 41), .bool true, .bool true, .bool true, .agg #[.int .i64 F, .slice B k d], .agg #[.int .i64 F, .slice B k d], .bool true, .bool true], []⟩) [.bool true, .bool true, .agg #[.int .i64 F, .slice B k d], .int .i64 m, undef, .agg #[.int .i64 F, .slice B k d], .int .i64 m, undef, .bool true, .bool true, .bool true, .agg #[.int .i64 F, .slice B k d], .int .i64 m, undef, .agg #[.int .i64 F, .slice B k d], .int .i64 m, undef, .bool true, .bool true, .bool true, .agg #[.int .i64 F, .slice B k d], .int .i64 m, .int .i64 how, undef, .agg #[.int .i64 F, .slice B k d], .int .i64 m, .int .i64 how, undef, .bool true, .bool true, .bool true, .agg #[.int .i64 F, .slice B k d], .agg #[.int .i64 F, .slice B k d], .bool true, .bool true, .bool true] (by kernel_rfl) (by kernel_rfl) (by kernel_rfl) (fun g => by kernel_rfl) (by kernel_rfl) (Below.refl _ _).drew (by decide) (by kernel_rfl)
    (goes_cons (goesK_pure (fun _ => .bool true) rfl (by decide) (by decide) (by kernel_rfl) (fun g => by kernel_rfl) rfl (fun g => by kernel_rfl) (fun g w => by kernel_rfl)) 
    (goes_cons (goesK_pure (fun _ => .bool true) rfl (by decide) (by decide) (by kernel_rfl) (fun g => by kernel_rfl) rfl (fun g => by kernel_rfl) (fun g w => by kernel_rfl)) 
    (goes_cons (goesK_load hst (ahead_none (by decide)) rfl (by decide) (by decide) (by kernel_rfl) (fun g => by kernel_rfl) rfl (fun g => by kernel_rfl) rfl (fun g => by kernel_rfl) l8 Try.underlying27 rfl (by kernel_rfl)) 
    (goes_cons (goesK_pure (fun _ => .int .i64 m) rfl (by decide) (by decide) (by kernel_rfl) (fun g => by kernel_rfl) rfl (fun g => by kernel_rfl) (fun g w => by kernel_rfl)) 
    (goes_cons (goesK_ghost (args := fun g => #[.agg #[.int .i64 F, .slice B k d], .int .i64 m]) hst (ahead_none (by decide)) rfl (by decide) (by decide) 0 rfl (by kernel_rfl) (fun g => by kernel_rfl) rfl (fun g => by kernel_rfl) (fun g w => by kernel_rfl) (fun g W hW hin => HC1.out W (HV.out W hW) (HR.out W hW))) 
    (goes_cons (goesK_load hst (ahead_none (by decide)) rfl (by decide) (by decide) (by kernel_rfl) (fun g => by kernel_rfl) rfl (fun g => by kernel_rfl) rfl (fun g => by kernel_rfl) l3 Try.underlying24 rfl (by kernel_rfl)) 
    (goes_cons (goesK_pure (fun _ => .int .i64 m) rfl (by decide) (by decide) (by kernel_rfl) (fun g => by kernel_rfl) rfl (fun g => by kernel_rfl) (fun g w => by kernel_rfl)) 
    (goes_cons (goesK_ghost (args := fun g => #[.agg #[.int .i64 F, .slice B k d], .int .i64 m]) hst (ahead_none (by decide)) rfl (by decide) (by decide) 1 rfl (by kernel_rfl) (fun g => by kernel_rfl) rfl (fun g => by kernel_rfl) (fun g w => by kernel_rfl) (fun g W hW hin => HD1.out W (HR.out W hW))) 
    (goes_cons (goesK_call (args := fun g => #[g 18, g 21]) hst (ahead_none (by decide)) rfl (by decide) (by decide) (by kernel_rfl) (fun g => by kernel_rfl) rfl (fun g => by kernel_rfl) (fun g w => by kernel_rfl) (fun g W hW hin => by
        obtain ⟨A1, c1, e1, _, r1⟩ := hin 0 _ rfl (by kernel_rfl)
        obtain ⟨A2, c2, e2, _, r2⟩ := hin 1 _ rfl (by kernel_rfl)
        have e1' : g 18 = _ := e1
        have e2' : g 21 = _ := e2
        show Calls _ _ #[g 18, g 21] W _
        rw [e1', e2']
        exact HS1.out W A1 A2 c1 c2 r1 r2)) 
    (goes_cons (goesK_pure (fun _ => .bool true) rfl (by decide) (by decide) (by kernel_rfl) (fun g => by kernel_rfl) rfl (fun g => by kernel_rfl) (fun g w => by kernel_rfl)) 
    (goes_cons (goesK_pure (fun _ => .bool true) rfl (by decide) (by decide) (by kernel_rfl) (fun g => by kernel_rfl) rfl (fun g => by kernel_rfl) (fun g w => by kernel_rfl)) 
    (goes_cons (goesK_load hst (ahead_none (by decide)) rfl (by decide) (by decide) (by kernel_rfl) (fun g => by kernel_rfl) rfl (fun g => by kernel_rfl) rfl (fun g => by kernel_rfl) l8 Try.underlying27 rfl (by kernel_rfl)) 
    (goes_cons (goesK_pure (fun _ => .int .i64 m) rfl (by decide) (by decide) (by kernel_rfl) (fun g => by kernel_rfl) rfl (fun g => by kernel_rfl) (fun g w => by kernel_rfl)) 
    (goes_cons (goesK_ghost (args := fun g => #[.agg #[.int .i64 F, .slice B k d], .int .i64 m]) hst (ahead_none (by decide)) rfl (by decide) (by decide) 2 rfl (by kernel_rfl) (fun g => by kernel_rfl) rfl (fun g => by kernel_rfl) (fun g w => by kernel_rfl) (fun g W hW hin => HC2.out W (HV.out W hW) (HR.out W hW))) 
    (goes_cons (goesK_load hst (ahead_none (by decide)) rfl (by decide) (by decide) (by kernel_rfl) (fun g => by kernel_rfl) rfl (fun g => by kernel_rfl) rfl (fun g => by kernel_rfl) l3 Try.underlying24 rfl (by kernel_rfl)) 
    (goes_cons (goesK_pure (fun _ => .int .i64 m) rfl (by decide) (by decide) (by kernel_rfl) (fun g => by kernel_rfl) rfl (fun g => by kernel_rfl) (fun g w => by kernel_rfl)) 
    (goes_cons (goesK_ghost (args := fun g => #[.agg #[.int .i64 F, .slice B k d], .int .i64 m]) hst (ahead_none (by decide)) rfl (by decide) (by decide) 3 rfl (by kernel_rfl) (fun g => by kernel_rfl) rfl (fun g => by kernel_rfl) (fun g w => by kernel_rfl) (fun g W hW hin => HD2.out W (HR.out W hW))) 
    (goes_cons (goesK_call (args := fun g => #[g 27, g 30]) hst (ahead_none (by decide)) rfl (by decide) (by decide) (by kernel_rfl) (fun g => by kernel_rfl) rfl (fun g => by kernel_rfl) (fun g w => by kernel_rfl) (fun g W hW hin => by
        obtain ⟨A1, c1, e1, _, r1⟩ := hin 2 _ rfl (by kernel_rfl)
        obtain ⟨A2, c2, e2, _, r2⟩ := hin 3 _ rfl (by kernel_rfl)
        have e1' : g 27 = _ := e1
        have e2' : g 30 = _ := e2
        show Calls _ _ #[g 27, g 30] W _
        rw [e1', e2']
        exact HS2.out W A1 A2 c1 c2 r1 r2)) 
    (goes_cons (goesK_pure (fun _ => .bool true) rfl (by decide) (by decide) (by kernel_rfl) (fun g => by kernel_rfl) rfl (fun g => by kernel_rfl) (fun g w => by kernel_rfl)) 
    (goes_cons (goesK_pure (fun _ => .bool true) rfl (by decide) (by decide) (by kernel_rfl) (fun g => by kernel_rfl) rfl (fun g => by kernel_rfl) (fun g w => by kernel_rfl)) 
    (goes_cons (goesK_load hst (ahead_none (by decide)) rfl (by decide) (by decide) (by kernel_rfl) (fun g => by kernel_rfl) rfl (fun g => by kernel_rfl) rfl (fun g => by kernel_rfl) l8 Try.underlying27 rfl (by kernel_rfl)) 
    (goes_cons (goesK_pure (fun _ => .int .i64 m) rfl (by decide) (by decide) (by kernel_rfl) (fun g => by kernel_rfl) rfl (fun g => by kernel_rfl) (fun g w => by kernel_rfl)) 
    (goes_cons (goesK_pure (fun _ => .int .i64 how) rfl (by decide) (by decide) (by kernel_rfl) (fun g => by kernel_rfl) rfl (fun g => by kernel_rfl) (fun g w => by kernel_rfl)) 
    (goes_cons (goesK_ghost (args := fun g => #[.agg #[.int .i64 F, .slice B k d], .int .i64 m, .int .i64 how]) hst (ahead_none (by decide)) rfl (by decide) (by decide) 4 rfl (by kernel_rfl) (fun g => by kernel_rfl) rfl (fun g => by kernel_rfl) (fun g w => by kernel_rfl) (fun g W hW hin => HC3.out W (HV.out W hW) (HR.out W hW))) 
    (goes_cons (goesK_load hst (ahead_none (by decide)) rfl (by decide) (by decide) (by kernel_rfl) (fun g => by kernel_rfl) rfl (fun g => by kernel_rfl) rfl (fun g => by kernel_rfl) l3 Try.underlying24 rfl (by kernel_rfl)) 
    (goes_cons (goesK_pure (fun _ => .int .i64 m) rfl (by decide) (by decide) (by kernel_rfl) (fun g => by kernel_rfl) rfl (fun g => by kernel_rfl) (fun g w => by kernel_rfl)) 
    (goes_cons (goesK_pure (fun _ => .int .i64 how) rfl (by decide) (by decide) (by kernel_rfl) (fun g => by kernel_rfl) rfl (fun g => by kernel_rfl) (fun g w => by kernel_rfl)) 
    (goes_cons (goesK_ghost (args := fun g => #[.agg #[.int .i64 F, .slice B k d], .int .i64 m, .int .i64 how]) hst (ahead_none (by decide)) rfl (by decide) (by decide) 5 rfl (by kernel_rfl) (fun g => by kernel_rfl) rfl (fun g => by kernel_rfl) (fun g w => by kernel_rfl) (fun g W hW hin => HD3.out W (HR.out W hW))) 
    (goes_cons (goesK_call (args := fun g => #[g 37, g 41]) hst (ahead_none (by decide)) rfl (by decide) (by decide) (by kernel_rfl) (fun g => by kernel_rfl) rfl (fun g => by kernel_rfl) (fun g w => by kernel_rfl) (fun g W hW hin => by
        obtain ⟨A1, c1, e1, _, r1⟩ := hin 4 _ rfl (by kernel_rfl)
        obtain ⟨A2, c2, e2, _, r2⟩ := hin 5 _ rfl (by kernel_rfl)
        have e1' : g 37 = _ := e1
        have e2' : g 41 = _ := e2
        show Calls _ _ #[g 37, g 41] W _
        rw [e1', e2']
        exact HS3.out W A1 A2 c1 c2 r1 r2)) 
    (goes_cons (goesK_pure (fun _ => .bool true) rfl (by decide) (by decide) (by kernel_rfl) (fun g => by kernel_rfl) rfl (fun g => by kernel_rfl) (fun g w => by kernel_rfl)) 
    (goes_cons (goesK_pure (fun _ => .bool true) rfl (by decide) (by decide) (by kernel_rfl) (fun g => by kernel_rfl) rfl (fun g => by kernel_rfl) (fun g w => by kernel_rfl)) 
    (goes_cons (goesK_load hst (ahead_none (by decide)) rfl (by decide) (by decide) (by kernel_rfl) (fun g => by kernel_rfl) rfl (fun g => by kernel_rfl) rfl (fun g => by kernel_rfl) l8 Try.underlying27 rfl (by kernel_rfl)) 
    (goes_cons (goesK_load hst (ahead_none (by decide)) rfl (by decide) (by decide) (by kernel_rfl) (fun g => by kernel_rfl) rfl (fun g => by kernel_rfl) rfl (fun g => by kernel_rfl) l3 Try.underlying24 rfl (by kernel_rfl)) 
    (goes_cons (goesK_call (args := fun g => #[.agg #[.int .i64 F, .slice B k d], .agg #[.int .i64 F, .slice B k d]]) hst (ahead_none (by decide)) rfl (by decide) (by decide) (by kernel_rfl) (fun g => by kernel_rfl) rfl (fun g => by kernel_rfl) (fun g w => by kernel_rfl) (fun g W hW hin => HS4.out W (HR.out W hW))) 
    (goes_cons (goesK_pure (fun _ => .bool true) rfl (by decide) (by decide) (by kernel_rfl) (fun g => by kernel_rfl) rfl (fun g => by kernel_rfl) (fun g w => by kernel_rfl)) 
    (goes_cons (goesK_pure (fun _ => .bool true) rfl (by decide) (by decide) (by kernel_rfl) (fun g => by kernel_rfl) rfl (fun g => by kernel_rfl) (fun g w => by kernel_rfl)) goes_nil)))))))))))))))))))))))))))))))))))) ?_
  intro g W hW hK
  have hbE := below_step8 hbe4 hW hbe4.size
  clear hK hst
  go_wp2_with fail
  go_ret
  exact ⟨rfl, hbE⟩
theorem stackTells_walk (H : StackC Inv) (now : Int) (A : Option Addr) (l : List Int) (c : Nat) (m : Int) (lo : -9223372036854775808 ≤ m) (hi : m ≤ 9223372036854775807) (how : Int) (lo2 : -9223372036854775808 ≤ how) (hi2 : how ≤ 9223372036854775807) (w : World) (hr : Rd w A (is_ l)) (hv : Inv w) :
    Calls Try.prog 3 #[stV now A l.length c, .int .i64 m, .int .i64 how] w fun e w' => e = .returned (.bool true) ∧ Below w.heap.size w w' :=
  stackTells_go H now A l _ c rfl m how ⟨lo, hi⟩ ⟨lo2, hi2⟩ w hr hv
end
end Go.Proofs.Ytocbkcofmebfmaa
