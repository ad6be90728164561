/-
  Layer 15, the laws' walks over the bundle: TrackMay.
-/
import Derived.Test.YtbdpjhlfaelgpaaTrkC
namespace Go.Proofs.Ytbdpjhlfaelgpaa
open Go.RowKit

variable {Inv : World → Prop}
/-- What Tell and May answer of one event. -/
theorem TrkC.tell_hid (H : TrkC Inv) {mode : Int} {s : Ce} {e : Ms} {u v : Int} {b : Bool} (ht : tellT mode s e = (⟨u, v⟩, b)) (hm : inM mode := by first | exact ⟨by decide, by decide⟩ | exact ⟨by omega, by omega⟩) : Hid (∀ w, Inv w → Calls Try.prog 10 #[.int .i64 mode, .agg #[.int .i64 s.x, .int .i64 s.y], .agg #[.int .i64 e.btn, .int .i64 e.typ, .int .i64 e.x, .int .i64 e.y, .int .i64 e.mods]] w fun x w' => x = .returned (.tuple #[.agg #[.int .i64 u, .int .i64 v], .bool b]) ∧ Below w.heap.size w w') :=
  Lib.hid fun w hi => H.tell_at mode s e ht w hi hm
theorem TrkC.may_hid (H : TrkC Inv) {e : Ms} {b : Bool} (hm : mayT e = b) : Hid (∀ w, Inv w → Calls Try.prog 12 #[.agg #[.int .i64 e.btn, .int .i64 e.typ, .int .i64 e.x, .int .i64 e.y, .int .i64 e.mods]] w fun x w' => x = .returned (.bool b) ∧ Below w.heap.size w w') :=
  Lib.hid fun w hi => H.may_at e hm w hi
set_option maxRecDepth 100000 in
set_option maxHeartbeats 16000000 in
theorem trackMay_walk (H : TrkC Inv) (mode : Int) (_ : -9223372036854775808 ≤ mode) (_ : mode ≤ 9223372036854775807) (e : Ms) (w : World) (hv : Inv w) : Calls Try.prog 7 #[.int .i64 mode, msV e] w fun x w' => x = .returned (.bool true) ∧ Below w.heap.size w w' := by
  obtain ⟨⟨⟨u, v⟩, b⟩, ht⟩ : ∃ T, tellT mode ⟨0, 0⟩ e = T := ⟨_, rfl⟩
  obtain ⟨q, hq⟩ : ∃ q, mayT e = q := ⟨_, rfl⟩
  have HT := H.tell_hid ht
  have HM := H.may_hid hq
  have hw : q = true → ¬ (4 ≤ e.btn ∧ e.btn ≤ 7 ∧ e.typ ≠ 1) := fun hh h => by
    have := wheel_no h.1 h.2.1 h.2.2
    rw [this] at hq
    rw [hh] at hq
    cases hq
  have hn : q = false → (u = 0 ∧ v = 0) ∧ b = false := fun hh => by
    have hi : isT mode ⟨0, 0⟩ e = false := by
      cases hi : isT mode ⟨0, 0⟩ e with
      | false => rfl
      | true =>
        rw [is_may hi] at hq
        rw [hh] at hq
        cases hq
    rw [tell_no hi] at ht
    simp only [Prod.mk.injEq, Ce.mk.injEq] at ht
    exact ⟨⟨ht.1.1.symm, ht.1.2.symm⟩, ht.2.symm⟩
  clear ht hq
  obtain ⟨btn, typ, x, y, md⟩ := e
  simp only [msV] at HT HM hw ⊢
  have hB := (Below.refl w.heap.size w).alloc (Nat.le_refl _) (.cells #[.int .i64 btn, .int .i64 typ, .int .i64 x, .int .i64 y, .int .i64 md] 25)
  have k0 := Blk.new w 25 #[.int .i64 btn, .int .i64 typ, .int .i64 x, .int .i64 y, .int .i64 md]
  have hv0 := H.invB hv hB
  obtain ⟨b0, b1, b2, b3, b4⟩ := Blk.cells5 k0
  cases q with
  | true =>
    clear hn
    have hw := hw rfl
    by_cases a : 4 ≤ btn
    · by_cases d : btn ≤ 7
      · by_cases t1 : typ = 1
        · subst t1
          clear hw
          go_enter Try.func7, Try.ntmps7
          go_wp2_with fail
          refine (trkAwake H _ hv0).mono ?_
          rintro z w1 ⟨rfl, hb⟩
          have hB1 := hB.trans (hb.mono hB.size)
          replace k0 := k0.below hb k0.lt
          clear b0 b1 b2 b3 b4 hb
          obtain ⟨b0, b1, b2, b3, b4⟩ := Blk.cells5 k0
          go_wp2_with fail
          refine (HT.out _ (H.invB hv hB1)).mono ?_
          rintro z w2 ⟨rfl, hb⟩
          have hB2 := hB1.trans (hb.mono hB1.size)
          replace k0 := k0.below hb k0.lt
          clear b0 b1 b2 b3 b4 hb
          have hB3 := hB2.alloc hB2.size (.cells #[.int .i64 u, .int .i64 v] 27)
          have s0 := Blk.new w2 27 #[.int .i64 u, .int .i64 v]
          replace k0 := k0.alloc (.cells #[.int .i64 u, .int .i64 v] 27)
          obtain ⟨b0, b1, b2, b3, b4⟩ := Blk.cells5 k0
          obtain ⟨c0, c1⟩ := And.intro (s0.cell 0) (s0.cell 1)
          go_wp2_with fail
          refine (HM.out _ (H.invB hv hB3)).mono ?_
          rintro z w4 ⟨rfl, hb⟩
          have hB4 := hB3.trans (hb.mono hB3.size)
          replace k0 := k0.below hb k0.lt
          replace s0 := s0.below hb s0.lt
          clear b0 b1 b2 b3 b4 c0 c1 hb
          obtain ⟨b0, b1, b2, b3, b4⟩ := Blk.cells5 k0
          obtain ⟨c0, c1⟩ := And.intro (s0.cell 0) (s0.cell 1)
          go_wp2_with fail
          go_ret
          exact ⟨rfl, hB4⟩
        · exact absurd ⟨a, d, t1⟩ hw
      · clear hw
        go_enter Try.func7, Try.ntmps7
        go_wp2_with fail
        refine (trkAwake H _ hv0).mono ?_
        rintro z w1 ⟨rfl, hb⟩
        have hB1 := hB.trans (hb.mono hB.size)
        replace k0 := k0.below hb k0.lt
        clear b0 b1 b2 b3 b4 hb
        obtain ⟨b0, b1, b2, b3, b4⟩ := Blk.cells5 k0
        go_wp2_with fail
        refine (HT.out _ (H.invB hv hB1)).mono ?_
        rintro z w2 ⟨rfl, hb⟩
        have hB2 := hB1.trans (hb.mono hB1.size)
        replace k0 := k0.below hb k0.lt
        clear b0 b1 b2 b3 b4 hb
        have hB3 := hB2.alloc hB2.size (.cells #[.int .i64 u, .int .i64 v] 27)
        have s0 := Blk.new w2 27 #[.int .i64 u, .int .i64 v]
        replace k0 := k0.alloc (.cells #[.int .i64 u, .int .i64 v] 27)
        obtain ⟨b0, b1, b2, b3, b4⟩ := Blk.cells5 k0
        obtain ⟨c0, c1⟩ := And.intro (s0.cell 0) (s0.cell 1)
        go_wp2_with fail
        refine (HM.out _ (H.invB hv hB3)).mono ?_
        rintro z w4 ⟨rfl, hb⟩
        have hB4 := hB3.trans (hb.mono hB3.size)
        replace k0 := k0.below hb k0.lt
        replace s0 := s0.below hb s0.lt
        clear b0 b1 b2 b3 b4 c0 c1 hb
        obtain ⟨b0, b1, b2, b3, b4⟩ := Blk.cells5 k0
        obtain ⟨c0, c1⟩ := And.intro (s0.cell 0) (s0.cell 1)
        go_wp2_with fail
        go_ret
        exact ⟨rfl, hB4⟩
    · clear hw
      go_enter Try.func7, Try.ntmps7
      go_wp2_with fail
      refine (trkAwake H _ hv0).mono ?_
      rintro z w1 ⟨rfl, hb⟩
      have hB1 := hB.trans (hb.mono hB.size)
      replace k0 := k0.below hb k0.lt
      clear b0 b1 b2 b3 b4 hb
      obtain ⟨b0, b1, b2, b3, b4⟩ := Blk.cells5 k0
      go_wp2_with fail
      refine (HT.out _ (H.invB hv hB1)).mono ?_
      rintro z w2 ⟨rfl, hb⟩
      have hB2 := hB1.trans (hb.mono hB1.size)
      replace k0 := k0.below hb k0.lt
      clear b0 b1 b2 b3 b4 hb
      have hB3 := hB2.alloc hB2.size (.cells #[.int .i64 u, .int .i64 v] 27)
      have s0 := Blk.new w2 27 #[.int .i64 u, .int .i64 v]
      replace k0 := k0.alloc (.cells #[.int .i64 u, .int .i64 v] 27)
      obtain ⟨b0, b1, b2, b3, b4⟩ := Blk.cells5 k0
      obtain ⟨c0, c1⟩ := And.intro (s0.cell 0) (s0.cell 1)
      go_wp2_with fail
      refine (HM.out _ (H.invB hv hB3)).mono ?_
      rintro z w4 ⟨rfl, hb⟩
      have hB4 := hB3.trans (hb.mono hB3.size)
      replace k0 := k0.below hb k0.lt
      replace s0 := s0.below hb s0.lt
      clear b0 b1 b2 b3 b4 c0 c1 hb
      obtain ⟨b0, b1, b2, b3, b4⟩ := Blk.cells5 k0
      obtain ⟨c0, c1⟩ := And.intro (s0.cell 0) (s0.cell 1)
      go_wp2_with fail
      go_ret
      exact ⟨rfl, hB4⟩
  | false =>
    clear hw
    obtain ⟨⟨rfl, rfl⟩, rfl⟩ := hn rfl
    by_cases a : 4 ≤ btn
    · by_cases d : btn ≤ 7
      · by_cases t1 : typ = 1
        · subst t1
          go_enter Try.func7, Try.ntmps7
          go_wp2_with fail
          refine (trkAwake H _ hv0).mono ?_
          rintro z w1 ⟨rfl, hb⟩
          have hB1 := hB.trans (hb.mono hB.size)
          replace k0 := k0.below hb k0.lt
          clear b0 b1 b2 b3 b4 hb
          obtain ⟨b0, b1, b2, b3, b4⟩ := Blk.cells5 k0
          go_wp2_with fail
          refine (HT.out _ (H.invB hv hB1)).mono ?_
          rintro z w2 ⟨rfl, hb⟩
          have hB2 := hB1.trans (hb.mono hB1.size)
          replace k0 := k0.below hb k0.lt
          clear b0 b1 b2 b3 b4 hb
          have hB3 := hB2.alloc hB2.size (.cells #[.int .i64 0, .int .i64 0] 27)
          have s0 := Blk.new w2 27 #[.int .i64 0, .int .i64 0]
          replace k0 := k0.alloc (.cells #[.int .i64 0, .int .i64 0] 27)
          obtain ⟨b0, b1, b2, b3, b4⟩ := Blk.cells5 k0
          obtain ⟨c0, c1⟩ := And.intro (s0.cell 0) (s0.cell 1)
          go_wp2_with fail
          refine (HM.out _ (H.invB hv hB3)).mono ?_
          rintro z w4 ⟨rfl, hb⟩
          have hB4 := hB3.trans (hb.mono hB3.size)
          replace k0 := k0.below hb k0.lt
          replace s0 := s0.below hb s0.lt
          clear b0 b1 b2 b3 b4 c0 c1 hb
          obtain ⟨b0, b1, b2, b3, b4⟩ := Blk.cells5 k0
          obtain ⟨c0, c1⟩ := And.intro (s0.cell 0) (s0.cell 1)
          go_wp2_with fail
          go_ret
          exact ⟨rfl, hB4⟩
        · have u1 : (typ == 1) = false := beq_false_of_ne t1
          have v1 : (typ != 1) = true := by rw [bne, u1]; rfl
          clear t1
          go_enter Try.func7, Try.ntmps7
          go_wp2_with fail
          refine (trkAwake H _ hv0).mono ?_
          rintro z w1 ⟨rfl, hb⟩
          have hB1 := hB.trans (hb.mono hB.size)
          replace k0 := k0.below hb k0.lt
          clear b0 b1 b2 b3 b4 hb
          obtain ⟨b0, b1, b2, b3, b4⟩ := Blk.cells5 k0
          go_wp2_with fail
          refine (HT.out _ (H.invB hv hB1)).mono ?_
          rintro z w2 ⟨rfl, hb⟩
          have hB2 := hB1.trans (hb.mono hB1.size)
          replace k0 := k0.below hb k0.lt
          clear b0 b1 b2 b3 b4 hb
          have hB3 := hB2.alloc hB2.size (.cells #[.int .i64 0, .int .i64 0] 27)
          have s0 := Blk.new w2 27 #[.int .i64 0, .int .i64 0]
          replace k0 := k0.alloc (.cells #[.int .i64 0, .int .i64 0] 27)
          obtain ⟨b0, b1, b2, b3, b4⟩ := Blk.cells5 k0
          obtain ⟨c0, c1⟩ := And.intro (s0.cell 0) (s0.cell 1)
          go_wp2_with fail
          refine (HM.out _ (H.invB hv hB3)).mono ?_
          rintro z w4 ⟨rfl, hb⟩
          have hB4 := hB3.trans (hb.mono hB3.size)
          replace k0 := k0.below hb k0.lt
          replace s0 := s0.below hb s0.lt
          clear b0 b1 b2 b3 b4 c0 c1 hb
          obtain ⟨b0, b1, b2, b3, b4⟩ := Blk.cells5 k0
          obtain ⟨c0, c1⟩ := And.intro (s0.cell 0) (s0.cell 1)
          go_wp2_with fail
          refine (HM.out _ (H.invB hv hB4)).mono ?_
          rintro z w5 ⟨rfl, hb⟩
          have hB5 := hB4.trans (hb.mono hB4.size)
          replace k0 := k0.below hb k0.lt
          replace s0 := s0.below hb s0.lt
          clear b0 b1 b2 b3 b4 c0 c1 hb
          obtain ⟨b0, b1, b2, b3, b4⟩ := Blk.cells5 k0
          obtain ⟨c0, c1⟩ := And.intro (s0.cell 0) (s0.cell 1)
          go_wp2_with fail
          go_ret
          exact ⟨rfl, hB5⟩
      · go_enter Try.func7, Try.ntmps7
        go_wp2_with fail
        refine (trkAwake H _ hv0).mono ?_
        rintro z w1 ⟨rfl, hb⟩
        have hB1 := hB.trans (hb.mono hB.size)
        replace k0 := k0.below hb k0.lt
        clear b0 b1 b2 b3 b4 hb
        obtain ⟨b0, b1, b2, b3, b4⟩ := Blk.cells5 k0
        go_wp2_with fail
        refine (HT.out _ (H.invB hv hB1)).mono ?_
        rintro z w2 ⟨rfl, hb⟩
        have hB2 := hB1.trans (hb.mono hB1.size)
        replace k0 := k0.below hb k0.lt
        clear b0 b1 b2 b3 b4 hb
        have hB3 := hB2.alloc hB2.size (.cells #[.int .i64 0, .int .i64 0] 27)
        have s0 := Blk.new w2 27 #[.int .i64 0, .int .i64 0]
        replace k0 := k0.alloc (.cells #[.int .i64 0, .int .i64 0] 27)
        obtain ⟨b0, b1, b2, b3, b4⟩ := Blk.cells5 k0
        obtain ⟨c0, c1⟩ := And.intro (s0.cell 0) (s0.cell 1)
        go_wp2_with fail
        refine (HM.out _ (H.invB hv hB3)).mono ?_
        rintro z w4 ⟨rfl, hb⟩
        have hB4 := hB3.trans (hb.mono hB3.size)
        replace k0 := k0.below hb k0.lt
        replace s0 := s0.below hb s0.lt
        clear b0 b1 b2 b3 b4 c0 c1 hb
        obtain ⟨b0, b1, b2, b3, b4⟩ := Blk.cells5 k0
        obtain ⟨c0, c1⟩ := And.intro (s0.cell 0) (s0.cell 1)
        go_wp2_with fail
        go_ret
        exact ⟨rfl, hB4⟩
    · go_enter Try.func7, Try.ntmps7
      go_wp2_with fail
      refine (trkAwake H _ hv0).mono ?_
      rintro z w1 ⟨rfl, hb⟩
      have hB1 := hB.trans (hb.mono hB.size)
      replace k0 := k0.below hb k0.lt
      clear b0 b1 b2 b3 b4 hb
      obtain ⟨b0, b1, b2, b3, b4⟩ := Blk.cells5 k0
      go_wp2_with fail
      refine (HT.out _ (H.invB hv hB1)).mono ?_
      rintro z w2 ⟨rfl, hb⟩
      have hB2 := hB1.trans (hb.mono hB1.size)
      replace k0 := k0.below hb k0.lt
      clear b0 b1 b2 b3 b4 hb
      have hB3 := hB2.alloc hB2.size (.cells #[.int .i64 0, .int .i64 0] 27)
      have s0 := Blk.new w2 27 #[.int .i64 0, .int .i64 0]
      replace k0 := k0.alloc (.cells #[.int .i64 0, .int .i64 0] 27)
      obtain ⟨b0, b1, b2, b3, b4⟩ := Blk.cells5 k0
      obtain ⟨c0, c1⟩ := And.intro (s0.cell 0) (s0.cell 1)
      go_wp2_with fail
      refine (HM.out _ (H.invB hv hB3)).mono ?_
      rintro z w4 ⟨rfl, hb⟩
      have hB4 := hB3.trans (hb.mono hB3.size)
      replace k0 := k0.below hb k0.lt
      replace s0 := s0.below hb s0.lt
      clear b0 b1 b2 b3 b4 c0 c1 hb
      obtain ⟨b0, b1, b2, b3, b4⟩ := Blk.cells5 k0
      obtain ⟨c0, c1⟩ := And.intro (s0.cell 0) (s0.cell 1)
      go_wp2_with fail
      go_ret
      exact ⟨rfl, hB4⟩
end Go.Proofs.Ytbdpjhlfaelgpaa
