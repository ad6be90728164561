/-
  Layer 4: the walk of QueuePlays.
-/
import Derived.Test.YthilpfgmbikhfaaQuW
import Derived.Test.YthilpfgmbikhfaaQuS
import Derived.Test.YthilpfgmbikhfaaLqR
import Derived.Deep.RegionHeld3
namespace Go.Proofs.Ythilpfgmbikhfaa
open Go.RowKit

theorem RdOff.go {w w' : World} {S S' T : Nat → Prop} {A : Option Addr} {xs : List Value} (h : RdOff w S A xs) (hf : Fr w w' T) (hT : ∀ k, T k → S k) (hw : ∀ k, S' k → S k ∨ w.heap.size ≤ k) : RdOff w' S' A xs := fun hp => by
  obtain ⟨b, o, rfl, hb, hn, hc⟩ := h hp
  refine ⟨b, o, rfl, Nat.lt_of_lt_of_le hb hf.size, fun hs => ?_, fun k u hu => (World.cell?_of_block (w := w) (a := ⟨b, o + k, none⟩) (hf.block b hb (fun ht => hn (hT b ht)))).trans (hc k u hu)⟩
  rcases hw b hs with h1 | h1
  · exact hn h1
  · omega
theorem fr_set3 (w : World) (b : Nat) (x y z : Value) : Fr w (((w.setCell ⟨b, 0, none⟩ x).setCell ⟨b, 1, none⟩ y).setCell ⟨b, 2, none⟩ z) (fun k => k = b) :=
  ((Fr.setCell w b 0 x (fun k => k = b) rfl).trans (Fr.setCell _ b 1 y (fun k => k = b) rfl) (fun _ h => .inl h)).trans (Fr.setCell _ b 2 z (fun k => k = b) rfl) (fun _ h => .inl h)
def RDrain2 (S : Nat → Prop) (room K : Nat) (l2 P : List UInt8) (d : Nat) (w : World) (e : Ending) (w' : World) : Prop :=
  (∃ A c B c', e = .returned (.tuple #[rqV room A l2.length c d, .slice B K c']) ∧ l2.length ≤ c ∧ RdOff w' S A (bs l2) ∧ RdOff w' S B (bs P)) ∧ Below w.heap.size w w'
theorem rdrain_at {S : Nat → Prop} {l : List UInt8} (room : Nat) (A : Option Addr) (c d : Nat) (n : Int) (K : Nat) (l2 P : List UInt8) (w : World) (hlc : l.length ≤ c) (hl : l.length ≤ 65536) (hn : n ≤ 9223372036854775807) (hr : RdOff w S A (bs l)) (hK : drainK n l = K) (h2 : l.drop K = l2) (hP : l.take K = P) :
    Calls Try.prog 16 #[rqV room A l.length c d, .int .i64 n] w (RDrain2 S room K l2 P d w) := by
  subst h2 hP
  refine (rdrain_any room A c d n K w hlc hl hn hr hK).mono fun e w' h => ?_
  unfold RDrainE at h
  unfold RDrain2
  rw [← List.length_drop] at h
  exact h
/-- The program's queue and the document's, with the same bytes. -/
structure Same2 (w : World) (g X R base : Nat) (l : List UInt8) (d : Nat) : Prop where
  all : ∃ S v A c, QB w S g R base v l d ∧ Blk w X 30 (rqC R A l.length c d) ∧ l.length ≤ c ∧ RdOff w (fun k => S k ∨ k = X) A (bs l) ∧ ¬ S X

set_option maxRecDepth 100000 in
set_option maxHeartbeats 16000000 in
theorem queuePlays_walk (rm : Int) (_lo : -9223372036854775808 ≤ rm) (_hi3 : rm ≤ 9223372036854775807) (A : Option Addr) (ls : List St) (c : Nat) (hl : ls.length ≤ maxLen) (w : World) (hq : RdSt w A ls) :
    Calls Try.prog 3 #[.int .i64 rm, .slice A ls.length c] w fun e w' => e = .returned (.bool true) ∧ Below w.heap.size w w' := by
  obtain ⟨n, hn⟩ : ∃ n, ls.length = n := ⟨_, rfl⟩
  rw [hn] at hl
  rw [hn]
  have HN := Lib.hid hn
  clear hn _lo _hi3
  obtain ⟨fb, hfb⟩ : ∃ fb, fewB ls = fb := ⟨_, rfl⟩
  have HFB := Lib.hid hfb
  clear hfb
  have hqi := hq.in_
  cases fb with
  | false =>
    go_enter Try.func3, Try.ntmps3
    go_wp2_with fail
    refine (awake_any w).mono ?_
    rintro e w1 ⟨rfl, hb1⟩
    go_wp2_with fail
    refine (few_any ls A n c false w1 HN.out hl HFB.out (hqi.below hb1)).mono ?_
    rintro e w1' ⟨rfl, rfl⟩
    go_wp2_with fail
    go_ret
    exact ⟨rfl, hb1⟩
  | true =>
    obtain ⟨h30, h200⟩ := few_parts HFB.out
    rw [HN.out] at h30
    have H200 := Lib.hid h200
    clear h200 hq
    obtain ⟨mb, hmb⟩ : ∃ mb, mayB rm = mb := ⟨_, rfl⟩
    have HMB := Lib.hid hmb
    clear hmb
    cases mb with
    | false =>
      have hno : rm < 64 ∨ 65536 < rm := by
        have : ¬ (64 ≤ rm ∧ rm ≤ 65536) := fun h => by have := HMB.out; rw [mayB_iff.2 h] at this; cases this
        omega
      have HNO := Lib.hid hno
      clear hno
      go_enter Try.func3, Try.ntmps3
      go_wp2_with fail
      refine (awake_any w).mono ?_
      rintro e w1 ⟨rfl, hb1⟩
      go_wp2_with fail
      refine (few_any ls A n c true w1 HN.out hl HFB.out (hqi.below hb1)).mono ?_
      rintro e w1' ⟨rfl, rfl⟩
      go_wp2_with fail
      refine (new_no rm w1 HNO.out).mono ?_
      rintro e w1' ⟨rfl, rfl⟩
      go_wp2_with fail
      refine (may_any rm false w1 HMB.out).mono ?_
      rintro e w1' ⟨rfl, rfl⟩
      go_wp2_with fail
      go_ret
      exact ⟨rfl, hb1⟩
    | true =>
      obtain ⟨hm1, hm2⟩ := mayB_iff.1 HMB.out
      obtain ⟨R, rfl⟩ := Int.eq_ofNat_of_zero_le (show 0 ≤ rm by omega)
      have hR1 : 64 ≤ R := by omega
      have hR2 : R ≤ 65536 := by omega
      clear hm1 hm2
      go_enter Try.func3, Try.ntmps3
      go_wp2_with fail
      refine (awake_any w).mono ?_
      rintro e w1 ⟨rfl, hb1⟩
      go_wp2_with fail
      refine (few_any ls A n c true w1 HN.out hl HFB.out (hqi.below hb1)).mono ?_
      rintro e w1' ⟨rfl, rfl⟩
      go_wp2_with fail
      refine (new_yes R w1 hR1 hR2).mono ?_
      rintro e w2 ⟨rfl, hw2⟩
      have q2 := QB.new w1 R w.heap.size hb1.size hR2
      have hF2 := Lib.hid (hb1.alloc hb1.size (.cells #[.int .i64 (R : Int), .slice none 0 0, .int .i64 0] 54))
      rw [hw2] at q2 hF2
      clear hw2
      obtain ⟨S2, hS2⟩ : ∃ S2, S2 = fun k => k = w1.heap.size := ⟨_, rfl⟩
      rw [← hS2] at q2
      clear hS2
      obtain ⟨g, hg⟩ : ∃ g, w1.heap.size = g := ⟨_, rfl⟩
      rw [hg] at q2
      rw [hg]
      clear hg hb1
      have HQI := Lib.hid hqi
      clear hqi
      go_wp2_with fail
      refine (may_any (R : Int) true w2 HMB.out).mono ?_
      rintro e w2' ⟨rfl, rfl⟩
      have q3 := q2.alloc (.cells #[.int .i64 (R : Int), .slice none 0 0, .int .i64 0] 30)
      have hF3 := Lib.hid (hF2.out.alloc hF2.out.size (.cells #[.int .i64 (R : Int), .slice none 0 0, .int .i64 0] 30))
      have hx3 : Blk (w2.alloc (.cells #[.int .i64 (R : Int), .slice none 0 0, .int .i64 0] 30)) w2.heap.size 30 (rqC R none ([] : List UInt8).length 0 0) := Blk.new w2 _ _
      have same : Same2 (w2.alloc (.cells #[.int .i64 (R : Int), .slice none 0 0, .int .i64 0] 30)) g w2.heap.size R w.heap.size [] 0 := ⟨⟨S2, _, none, 0, q3, hx3, Nat.le_refl _, RdOff.nil _ _ _, fun hs => by have := q2.hi _ hs; omega⟩⟩
      have HX0 := Lib.hid (show w.heap.size ≤ w2.heap.size from hF2.out.size)
      obtain ⟨X, hX⟩ : ∃ X, w2.heap.size = X := ⟨_, rfl⟩
      rw [hX] at same HX0
      go_wp2_with fail
      clear hX q2 q3 hx3 hF2
      go_loopw [8] (fun i wr => ∃ (k d : Nat) (l : List UInt8), k ≤ n ∧ d ≤ k ∧ i = .int .i64 k ∧ Same2 wr g X R w.heap.size l d ∧ Below w.heap.size w wr) (fun i _ => n - (intOf i).toNat)
      case atStart => exact ⟨0, 0, [], Nat.zero_le _, Nat.le_refl _, rfl, same, hF3.out⟩
      case round =>
        obtain ⟨k, d, l, hk, hdk, rfl, ⟨S, v, A1, c1, q, hx, hlc, hr, hsx⟩, hbw⟩ := hrel
        clear same hF3
        have hsx' := Lib.hid hsx
        clear hsx
        by_cases hlt : k < n
        · have hkp : k < ls.length := by rw [HN.out]; exact hlt
          obtain ⟨⟨x, nn⟩, hxn⟩ : ∃ s, ls[k]'hkp = s := ⟨_, rfl⟩
          obtain ⟨bk, o, A', c', hA, hb, hrx, hxx, hnn, hck, hcn⟩ := (HQI.out.below hbw).at_ k hkp x nn hxn
          cases hA
          obtain ⟨m, hm⟩ : ∃ m, x.length = m := ⟨_, rfl⟩
          have hm200 : m ≤ 200 := by rw [← hm]; exact H200.out (x, nn) (by rw [← hxn]; exact List.getElem_mem hkp)
          rw [hm] at hck
          have HM := Lib.hid hm
          have HLC := Lib.hid hlc
          have hp2 : w.heap.size ≤ wr.heap.size := hbw.size
          have hl65 : l.length ≤ 65536 := Nat.le_trans q.fit hR2
          have HL65 := Lib.hid hl65
          clear hm hxx hxn hlc hl65
          by_cases hm0 : 0 < m
          · obtain ⟨bb, hbb⟩ : ∃ bb, hasRoom R l x = bb := ⟨_, rfl⟩
            obtain ⟨l1, hl1⟩ : ∃ l1, pushL R l x = l1 := ⟨_, rfl⟩
            obtain ⟨d1, hd1⟩ : ∃ d1, pushD R l x d = d1 := ⟨_, rfl⟩
            have hd2 : d1 ≤ d + 1 := by rw [← hd1]; unfold pushD; split <;> omega
            have HBB := Lib.hid hbb
            have HL1 := Lib.hid hl1
            have HD1 := Lib.hid hd1
            clear hbb hl1 hd1
            go_wp2_with fail
            refine (push_any q A' m c' x bb l1 d1 HM.out (by omega) (by omega) (hrx.rd hp2) HBB.out HL1.out HD1.out).mono ?_
            rintro e w3 ⟨rfl, ⟨S3, v3, q3, hw3⟩, hf3⟩
            have hbx := hf3.below (B := w.heap.size) hbw.size q.lo
            have hbw3 := hbw.trans hbx
            have hck3 := (hbx.cell (p := ⟨bk, o + k * 2, none⟩) hb).trans hck
            have hrx3 := (hrx.below hbx).rd hbw3.size
            have hx3 := hx.fr hf3 hsx'.out
            have hr3 : RdOff w3 (fun k => S3 k ∨ k = X) A1 (bs l) := hr.go hf3 (fun j hj => .inl hj) (fun j hj => by
              rcases hj with hj | hj
              · rcases hw3 j hj with h1 | h1
                · exact .inl (.inl h1)
                · exact .inr h1
              · exact .inl (.inr hj))
            have hsx3 := Lib.hid (show ¬ S3 X from hw3.out hx.lt hsx'.out)
            clear hf3 hw3 q hx hck hcn hrx hr hbx hbw
            obtain ⟨x0, x1, x2⟩ : w3.cell? ⟨X, 0, none⟩ = some (.int .i64 (R : Int)) ∧ w3.cell? ⟨X, 1, none⟩ = some (.slice A1 l.length c1) ∧ w3.cell? ⟨X, 2, none⟩ = some (.int .i64 (d : Int)) := ⟨hx3.cell 0, hx3.cell 1, hx3.cell 2⟩
            have hXlt : X < w3.heap.size := hx3.lt
            have hblt : bk < w3.heap.size := Nat.lt_of_lt_of_le hb hbw3.size
            have HC := Lib.hid (show ∀ W, Below w3.heap.size w3 W → W.cell? ⟨X, 0, none⟩ = some (.int .i64 (R : Int)) ∧ W.cell? ⟨X, 1, none⟩ = some (.slice A1 l.length c1) ∧ W.cell? ⟨X, 2, none⟩ = some (.int .i64 (d : Int)) ∧ W.cell? ⟨bk, o + k * 2, none⟩ = some (.slice A' m c') from fun W hb' => ⟨(hb'.cell (p := ⟨X, 0, none⟩) hXlt).trans x0, (hb'.cell (p := ⟨X, 1, none⟩) hXlt).trans x1, (hb'.cell (p := ⟨X, 2, none⟩) hXlt).trans x2, (hb'.cell (p := ⟨bk, o + k * 2, none⟩) hblt).trans hck3⟩)
            clear x0 x1 x2 hck3
            go_wp2_with fail
            go_region_held3 (fun W => W.cell? ⟨X, 0, none⟩ = some (.int .i64 (R : Int)) ∧ W.cell? ⟨X, 1, none⟩ = some (.slice A1 l.length c1) ∧ W.cell? ⟨X, 2, none⟩ = some (.int .i64 (d : Int)) ∧ W.cell? ⟨bk, o + k * 2, none⟩ = some (.slice A' m c'))
              (first
                | exact HC.out _ (Below.refl _ _).drew
                | exact HC.out _ ((Below.refl _ _).drew.alloc (Nat.le_refl _) _)
                | exact HC.out _ hb4
                | exact HC.out _ (hb4.alloc hb4.size _)
                | exact HC.out _ (below_set3 hb4 (Nat.le_refl _) _ _ _))
              (first
                | (go_at_call 14; refine (rpush_any (S := fun k => (S3 k ∨ k = X) ∨ k = w3.heap.size) R A1 c1 d A' m c' x (w3.drew.alloc (.cells #[.int .i64 0, .slice none 0 0, .int .i64 0] 30)) bb l1 d1 (fun k hk => by
                     rw [World.size_alloc]
                     rcases hk with (hk | hk) | hk
                     · exact Nat.lt_succ_of_lt (q3.hi k hk)
                     · rw [hk]; exact Nat.lt_succ_of_lt hXlt
                     · rw [hk]; exact Nat.lt_succ_self _) HLC.out HL65.out hR2 HM.out (by omega) (by omega) (hr3.go (Fr.of_below ((Below.refl _ w3).drew.alloc (Nat.le_refl _) _) (fun _ => False)) (fun _ h => h.elim) (fun k hk => by
                     rcases hk with hk | hk
                     · exact .inl hk
                     · exact .inr (Nat.le_of_eq hk.symm))) (hrx3.drew.alloc _) HBB.out HL1.out HD1.out).mono ?_; rintro e w4 ⟨⟨A4, c4, rfl, hlc4, hr4⟩, hb4'⟩
                   have hb4 : Below w3.heap.size w3 w4 := ((Below.refl _ w3).drew.alloc (Nat.le_refl _) _).trans (hb4'.mono (by simp))
                   have hy4 : Blk w4 w3.heap.size 30 #[.int .i64 0, .slice none 0 0, .int .i64 0] := (Blk.new w3.drew 30 #[.int .i64 0, .slice none 0 0, .int .i64 0]).below hb4' (by simp)
                   have y0 := hy4.cell 0
                   have y1 := hy4.cell 1
                   have y2 := hy4.cell 2
                   have z0 := hy4.frozen 0
                   have z1 := hy4.frozen 1
                   have z2 := hy4.frozen 2)
                | (go_at_call 14; refine (rpush_any (S := fun k => S3 k ∨ k = X) R A1 c1 d A' m c' x w3.drew bb l1 d1 (fun k hk => by
                     rcases hk with hk | hk
                     · exact q3.hi k hk
                     · rw [hk]; exact hXlt) HLC.out HL65.out hR2 HM.out (by omega) (by omega) hr3 hrx3.drew HBB.out HL1.out HD1.out).mono ?_; rintro e w4 ⟨⟨A4, c4, rfl, hlc4, hr4⟩, hb4'⟩
                   have hb4 : Below w3.heap.size w3 w4 := ((Below.refl _ w3).drew).trans hb4'))
            all_goals first
              | (have hy5 : Blk (w4.alloc (.cells #[.int .i64 (R : Int), .slice A4 l1.length c4, .int .i64 (d1 : Int)] 30)) w4.heap.size 30 (rqC R A4 l1.length c4 d1) := Blk.new w4 _ _
                 have hB5 : Below w3.heap.size w3 (w4.alloc (.cells #[.int .i64 (R : Int), .slice A4 l1.length c4, .int .i64 (d1 : Int)] 30)) := hb4.alloc hb4.size _
                 have hr5 : RdOff (w4.alloc (.cells #[.int .i64 (R : Int), .slice A4 l1.length c4, .int .i64 (d1 : Int)] 30)) (fun k => S3 k ∨ k = X) A4 (bs l1) := hr4.go (Fr.of_below ((Below.refl _ w4).alloc (Nat.le_refl _) _) (fun _ => False)) (fun _ h => h.elim) (fun k hk => .inl hk)
                 have hYX : X ≠ w4.heap.size := by have := hb4.size; omega
                 obtain ⟨w5, hw5⟩ : ∃ w5, w4.alloc (.cells #[.int .i64 (R : Int), .slice A4 l1.length c4, .int .i64 (d1 : Int)] 30) = w5 := ⟨_, rfl⟩
                 obtain ⟨Y, hY⟩ : ∃ Y, w4.heap.size = Y := ⟨_, rfl⟩
                 rw [hw5] at hy5 hB5 hr5 ⊢
                 rw [hY] at hy5 hYX ⊢
                 clear hr4 hY hw5)
              | (have hy5 := hy4.set3 (.int .i64 (R : Int)) (.slice A4 l1.length c4) (.int .i64 (d1 : Int))
                 have hB5 : Below w3.heap.size w3 _ := below_set3 hb4 (Nat.le_refl w3.heap.size) (.int .i64 (R : Int)) (.slice A4 l1.length c4) (.int .i64 (d1 : Int))
                 have hr5 : RdOff _ (fun k => S3 k ∨ k = X) A4 (bs l1) := hr4.go (fr_set3 w4 w3.heap.size (.int .i64 (R : Int)) (.slice A4 l1.length c4) (.int .i64 (d1 : Int))) (fun k hk => .inr hk) (fun k hk => .inl (.inl hk))
                 have hYX : X ≠ w3.heap.size := by omega
                 obtain ⟨w5, hw5⟩ : ∃ w5, (((w4.setCell ⟨w3.heap.size, 0, none⟩ (.int .i64 (R : Int))).setCell ⟨w3.heap.size, 1, none⟩ (.slice A4 l1.length c4)).setCell ⟨w3.heap.size, 2, none⟩ (.int .i64 (d1 : Int))) = w5 := ⟨_, rfl⟩
                 obtain ⟨Y, hY⟩ : ∃ Y, w3.heap.size = Y := ⟨_, rfl⟩
                 rw [hw5] at hy5 hr5 hB5 ⊢
                 rw [hY] at hy5 hYX ⊢
                 clear hr4 hY hw5 y0 y1 y2 z0 z1 z2 hy4)
            all_goals
              have hx5 := hx3.below hB5 hXlt
              have q5 := q3.behind hB5
              have hbw5 := hbw3.trans (hB5.mono hbw3.size)
              have y0 := hy5.cell 0
              have y1 := hy5.cell 1
              have y2 := hy5.cell 2
              have x0 := hx5.cell 0
              have x1 := hx5.cell 1
              have x2 := hx5.cell 2
              have z0 := hx5.frozen 0
              have z1 := hx5.frozen 1
              have z2 := hx5.frozen 2
              have hx6 := hx5.set3 (.int .i64 (R : Int)) (.slice A4 l1.length c4) (.int .i64 (d1 : Int))
              have hf6 := fr_set3 w5 X (.int .i64 (R : Int)) (.slice A4 l1.length c4) (.int .i64 (d1 : Int))
              have q6 := q5.fr hf6 (fun j hj e => hsx3.out (by rw [← (show j = X from e)]; exact hj))
              have hr6 : RdOff _ (fun k => S3 k ∨ k = X) A4 (bs l1) := hr5.go hf6 (fun k hk => .inr hk) (fun k hk => .inl hk)
              have hbw6 := hbw5.trans (hf6.below (B := w.heap.size) hbw5.size (fun k hk => by rw [hk]; exact HX0.out))
              have HR6 := Lib.hid hr6
              have HF6 := Lib.hid hbw6
              clear hb4 hb4' hB5 hr3 hrx3 q3 hx3 hbw3 hx5 q5 hbw5 hy5 hr5 hf6 hr6 hbw6
              go_wp2_with fail
              clear y0 y1 y2 x0 x1 x2 z0 z1 z2
              generalize (((w5.setCell ⟨X, 0, none⟩ (.int .i64 (R : Int))).setCell ⟨X, 1, none⟩ (.slice A4 l1.length c4)).setCell ⟨X, 2, none⟩ (.int .i64 (d1 : Int))) = w6 at *
              have x1 : w6.cell? ⟨X, 1, none⟩ = some (.slice A4 l1.length c4) := hx6.cell 1
              have x2 : w6.cell? ⟨X, 2, none⟩ = some (.int .i64 (d1 : Int)) := hx6.cell 2
              go_quiet ((first
                | (go_at_call 17; exact Calls.quiet_of_same ((len_any (q6.drewN _)).mono fun _ _ ⟨a, b⟩ => ⟨a, b.symm⟩))
                | (go_at_call 18; exact Calls.quiet_of_same ((dropped_any (q6.drewN _)).mono fun _ _ ⟨a, b⟩ => ⟨a, b.symm⟩))))
              go_wp2_with fail
              go_roundw
              case rel => exact ⟨k + 1, d1, l1, by omega, by omega, by go_num, ⟨S3, v3, A4, c4, q6.drewN nq, hx6.drewN nq, hlc4, HR6.out, hsx3.out⟩, below_drewN HF6.out nq⟩
              case measure => simp [intOf]; omega
          · have hm00 : m = 0 := by omega
            subst hm00
            obtain ⟨K, hK⟩ : ∃ K, drainK nn l = K := ⟨_, rfl⟩
            obtain ⟨l1, hl1⟩ : ∃ l1, l.drop K = l1 := ⟨_, rfl⟩
            obtain ⟨P, hP⟩ : ∃ P, l.take K = P := ⟨_, rfl⟩
            have hKl : K ≤ l.length := by rw [← hK]; exact drainK_le _ _
            have HPK := Lib.hid (show P.length = K by rw [← hP, List.length_take]; omega)
            have HK := Lib.hid hK
            have HL1 := Lib.hid hl1
            have HP := Lib.hid hP
            clear hK hl1 hP hKl
            go_wp2_with fail
            refine (drain_any q nn K hnn.2 HK.out).mono ?_
            rintro e w3 ⟨⟨A3, c3, rfl, own3⟩, ⟨v3, q3⟩, hf3⟩
            rw [HL1.out] at q3
            rw [HP.out] at own3
            have hbx := hf3.below (B := w.heap.size) hbw.size q.lo
            have hbw3 := hbw.trans hbx
            have hcn3 := (hbx.cell (p := ⟨bk, o + k * 2 + 1, none⟩) hb).trans hcn
            have hx3 := hx.fr hf3 hsx'.out
            have hr3 : RdOff w3 (fun k => S k ∨ k = X) A1 (bs l) := hr.go hf3 (fun j hj => .inl hj) (fun j hj => .inl hj)
            have hd3 : RdOff w3 (fun k => k = X) A3 (bs P) := RdOff.of_own own3 (fun j hj e => by have := (own3.lt j hj).1; have h1 : j = X := e; have := hx.lt; omega)
            clear hf3 q hx hck hcn hrx hr hbx hbw own3
            go_wp2_with fail
            obtain ⟨x0, x1, x2⟩ : w3.cell? ⟨X, 0, none⟩ = some (.int .i64 (R : Int)) ∧ w3.cell? ⟨X, 1, none⟩ = some (.slice A1 l.length c1) ∧ w3.cell? ⟨X, 2, none⟩ = some (.int .i64 (d : Int)) := ⟨hx3.cell 0, hx3.cell 1, hx3.cell 2⟩
            have hXlt : X < w3.heap.size := hx3.lt
            have hblt : bk < w3.heap.size := Nat.lt_of_lt_of_le hb hbw3.size
            have HC := Lib.hid (show ∀ W, Below w3.heap.size w3 W → W.cell? ⟨X, 0, none⟩ = some (.int .i64 (R : Int)) ∧ W.cell? ⟨X, 1, none⟩ = some (.slice A1 l.length c1) ∧ W.cell? ⟨X, 2, none⟩ = some (.int .i64 (d : Int)) ∧ W.cell? ⟨bk, o + k * 2 + 1, none⟩ = some (.int .i64 nn) from fun W hb' => ⟨(hb'.cell (p := ⟨X, 0, none⟩) hXlt).trans x0, (hb'.cell (p := ⟨X, 1, none⟩) hXlt).trans x1, (hb'.cell (p := ⟨X, 2, none⟩) hXlt).trans x2, (hb'.cell (p := ⟨bk, o + k * 2 + 1, none⟩) hblt).trans hcn3⟩)
            clear x0 x1 x2 hcn3
            go_wp2_with fail
            go_region_held3 (fun W => W.cell? ⟨X, 0, none⟩ = some (.int .i64 (R : Int)) ∧ W.cell? ⟨X, 1, none⟩ = some (.slice A1 l.length c1) ∧ W.cell? ⟨X, 2, none⟩ = some (.int .i64 (d : Int)) ∧ W.cell? ⟨bk, o + k * 2 + 1, none⟩ = some (.int .i64 nn))
              (first
                | exact HC.out _ (Below.refl _ _).drew
                | exact HC.out _ ((Below.refl _ _).drew.alloc (Nat.le_refl _) _)
                | exact HC.out _ hb4
                | exact HC.out _ (hb4.alloc hb4.size _)
                | exact HC.out _ (below_set3 hb4 (Nat.le_refl _) _ _ _))
              (first
                | (go_at_call 16; refine (rdrain_at (S := fun k => (S k ∨ k = X) ∨ k = w3.heap.size) R A1 c1 d nn K l1 P (w3.drew.alloc (.cells #[.int .i64 0, .slice none 0 0, .int .i64 0] 30)) HLC.out HL65.out hnn.2 (hr3.go (Fr.of_below ((Below.refl _ w3).drew.alloc (Nat.le_refl _) _) (fun _ => False)) (fun _ h => h.elim) (fun k hk => by
                     rcases hk with hk | hk
                     · exact .inl hk
                     · exact .inr (Nat.le_of_eq hk.symm))) HK.out HL1.out HP.out).mono ?_; rintro e w4 ⟨⟨A4, c4, B4, e4, rfl, hlc4, hr4, hd4⟩, hb4'⟩
                   have hb4 : Below w3.heap.size w3 w4 := ((Below.refl _ w3).drew.alloc (Nat.le_refl _) _).trans (hb4'.mono (by simp))
                   have hy4 : Blk w4 w3.heap.size 30 #[.int .i64 0, .slice none 0 0, .int .i64 0] := (Blk.new w3.drew 30 #[.int .i64 0, .slice none 0 0, .int .i64 0]).below hb4' (by simp)
                   have y0 := hy4.cell 0
                   have y1 := hy4.cell 1
                   have y2 := hy4.cell 2
                   have z0 := hy4.frozen 0
                   have z1 := hy4.frozen 1
                   have z2 := hy4.frozen 2)
                | (go_at_call 16; refine (rdrain_at (S := fun k => S k ∨ k = X) R A1 c1 d nn K l1 P w3.drew HLC.out HL65.out hnn.2 hr3 HK.out HL1.out HP.out).mono ?_; rintro e w4 ⟨⟨A4, c4, B4, e4, rfl, hlc4, hr4, hd4⟩, hb4'⟩
                   have hb4 : Below w3.heap.size w3 w4 := ((Below.refl _ w3).drew).trans hb4'))
            all_goals first
              | (have hy5 : Blk (w4.alloc (.cells #[.int .i64 (R : Int), .slice A4 l1.length c4, .int .i64 (d : Int)] 30)) w4.heap.size 30 (rqC R A4 l1.length c4 d) := Blk.new w4 _ _
                 have hB5 : Below w3.heap.size w3 (w4.alloc (.cells #[.int .i64 (R : Int), .slice A4 l1.length c4, .int .i64 (d : Int)] 30)) := hb4.alloc hb4.size _
                 have hr5 : RdOff (w4.alloc (.cells #[.int .i64 (R : Int), .slice A4 l1.length c4, .int .i64 (d : Int)] 30)) (fun k => S k ∨ k = X) A4 (bs l1) := hr4.go (Fr.of_below ((Below.refl _ w4).alloc (Nat.le_refl _) _) (fun _ => False)) (fun _ h => h.elim) (fun k hk => .inl hk)
                 have hd5 : RdOff (w4.alloc (.cells #[.int .i64 (R : Int), .slice A4 l1.length c4, .int .i64 (d : Int)] 30)) (fun k => S k ∨ k = X) B4 (bs P) := hd4.go (Fr.of_below ((Below.refl _ w4).alloc (Nat.le_refl _) _) (fun _ => False)) (fun _ h => h.elim) (fun k hk => .inl hk)
                 have hYX : X ≠ w4.heap.size := by have := hb4.size; omega
                 obtain ⟨w5, hw5⟩ : ∃ w5, w4.alloc (.cells #[.int .i64 (R : Int), .slice A4 l1.length c4, .int .i64 (d : Int)] 30) = w5 := ⟨_, rfl⟩
                 obtain ⟨Y, hY⟩ : ∃ Y, w4.heap.size = Y := ⟨_, rfl⟩
                 rw [hw5] at hy5 hB5 hr5 hd5 ⊢
                 rw [hY] at hy5 hYX ⊢
                 clear hr4 hd4 hY hw5)
              | (have hy5 := hy4.set3 (.int .i64 (R : Int)) (.slice A4 l1.length c4) (.int .i64 (d : Int))
                 have hB5 : Below w3.heap.size w3 _ := below_set3 hb4 (Nat.le_refl w3.heap.size) (.int .i64 (R : Int)) (.slice A4 l1.length c4) (.int .i64 (d : Int))
                 have hr5 : RdOff _ (fun k => S k ∨ k = X) A4 (bs l1) := hr4.go (fr_set3 w4 w3.heap.size (.int .i64 (R : Int)) (.slice A4 l1.length c4) (.int .i64 (d : Int))) (fun k hk => .inr hk) (fun k hk => .inl (.inl hk))
                 have hd5 : RdOff _ (fun k => S k ∨ k = X) B4 (bs P) := hd4.go (fr_set3 w4 w3.heap.size (.int .i64 (R : Int)) (.slice A4 l1.length c4) (.int .i64 (d : Int))) (fun k hk => .inr hk) (fun k hk => .inl (.inl hk))
                 have hYX : X ≠ w3.heap.size := by omega
                 obtain ⟨w5, hw5⟩ : ∃ w5, (((w4.setCell ⟨w3.heap.size, 0, none⟩ (.int .i64 (R : Int))).setCell ⟨w3.heap.size, 1, none⟩ (.slice A4 l1.length c4)).setCell ⟨w3.heap.size, 2, none⟩ (.int .i64 (d : Int))) = w5 := ⟨_, rfl⟩
                 obtain ⟨Y, hY⟩ : ∃ Y, w3.heap.size = Y := ⟨_, rfl⟩
                 rw [hw5] at hy5 hr5 hB5 hd5 ⊢
                 rw [hY] at hy5 hYX ⊢
                 clear hr4 hd4 hY hw5 y0 y1 y2 z0 z1 z2 hy4)
            all_goals
              have hx5 := hx3.below hB5 hXlt
              have q5 := q3.behind hB5
              have hbw5 := hbw3.trans (hB5.mono hbw3.size)
              have y0 := hy5.cell 0
              have y1 := hy5.cell 1
              have y2 := hy5.cell 2
              have x0 := hx5.cell 0
              have x1 := hx5.cell 1
              have x2 := hx5.cell 2
              have z0 := hx5.frozen 0
              have z1 := hx5.frozen 1
              have z2 := hx5.frozen 2
              have hx6 := hx5.set3 (.int .i64 (R : Int)) (.slice A4 l1.length c4) (.int .i64 (d : Int))
              have hf6 := fr_set3 w5 X (.int .i64 (R : Int)) (.slice A4 l1.length c4) (.int .i64 (d : Int))
              have q6 := q5.fr hf6 (fun j hj e => hsx'.out (by rw [← (show j = X from e)]; exact hj))
              have hr6 : RdOff _ (fun k => S k ∨ k = X) A4 (bs l1) := hr5.go hf6 (fun k hk => .inr hk) (fun k hk => .inl hk)
              have hbw6 := hbw5.trans (hf6.below (B := w.heap.size) hbw5.size (fun k hk => by rw [hk]; exact HX0.out))
              have he6 : RdOff _ (fun k => S k ∨ k = X) B4 (bs P) := hd5.go hf6 (fun k hk => .inr hk) (fun k hk => .inl hk)
              have hd6 : RdOff _ (fun k => k = X) A3 (bs P) := (hd3.go (S' := fun k => k = X) (Fr.of_below hB5 (fun _ => False)) (fun _ h => h.elim) (fun k hk => .inl hk)).go hf6 (fun k hk => hk) (fun k hk => .inl hk)
              have hcv1 := conv_str (P := Try.prog) (c := c3) Try.underlying28 Try.underlying5 HPK.out hd6.rd 9 Try.underlying9
              have hcv2 := conv_str (P := Try.prog) (c := e4) Try.underlying28 Try.underlying5 HPK.out he6.rd 9 Try.underlying9
              have HR6 := Lib.hid hr6
              have HF6 := Lib.hid hbw6
              clear hb4 hb4' hB5 hr3 hd3 q3 hx3 hbw3 hx5 q5 hbw5 hy5 hr5 hf6 hr6 hbw6 hd5 hd6 he6
              go_wp2_with fail
              clear y0 y1 y2 x0 x1 x2 z0 z1 z2 hcv1 hcv2
              generalize (((w5.setCell ⟨X, 0, none⟩ (.int .i64 (R : Int))).setCell ⟨X, 1, none⟩ (.slice A4 l1.length c4)).setCell ⟨X, 2, none⟩ (.int .i64 (d : Int))) = w6 at *
              have x1 : w6.cell? ⟨X, 1, none⟩ = some (.slice A4 l1.length c4) := hx6.cell 1
              have x2 : w6.cell? ⟨X, 2, none⟩ = some (.int .i64 (d : Int)) := hx6.cell 2
              go_quiet ((first
                | (go_at_call 17; exact Calls.quiet_of_same ((len_any (q6.drewN _)).mono fun _ _ ⟨a, b⟩ => ⟨a, b.symm⟩))
                | (go_at_call 18; exact Calls.quiet_of_same ((dropped_any (q6.drewN _)).mono fun _ _ ⟨a, b⟩ => ⟨a, b.symm⟩))))
              go_wp2_with fail
              go_roundw
              case rel => exact ⟨k + 1, d, l1, by omega, by omega, by go_num, ⟨S, v3, A4, c4, q6.drewN nq, hx6.drewN nq, hlc4, HR6.out, hsx'.out⟩, below_drewN HF6.out nq⟩
              case measure => simp [intOf]; omega
        · have hkn : k = n := by omega
          subst hkn
          go_wp2_with fail
          go_ret
          exact ⟨rfl, hbw⟩
end Go.Proofs.Ythilpfgmbikhfaa
