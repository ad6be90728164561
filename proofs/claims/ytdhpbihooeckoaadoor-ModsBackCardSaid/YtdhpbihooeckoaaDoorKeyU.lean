/-
  Layer 9: the document's own answers: Look.
-/
import Derived.Test.YtdhpbihooeckoaaDoorKeyT
namespace Go.Proofs.YtdhpbihooeckoaaDoor
open Go.RowKit

theorem below_step9 {n : Nat} {w a b : World} (h : Below n w a) (h2 : Below a.heap.size a b) (hn : n ≤ a.heap.size) : Below n w b := h.trans (h2.mono hn)
set_option maxRecDepth 100000 in
set_option maxHeartbeats 16000000 in
theorem rlook_any (c : Int) (w : World) : Calls Tryd.prog 27 #[.int .i64 c] w fun e w' => e = .returned (enV (lookE c)) ∧ Below w.heap.size w w' := by
  have hB : ∀ (x : Obj), Below w.heap.size w (w.alloc x) := fun x => (Below.refl _ w).alloc (Nat.le_refl _) _
  obtain ⟨L, hL⟩ : ∃ L, letterN c = L := ⟨_, rfl⟩
  obtain ⟨N, hN⟩ : ∃ N, numberN c = N := ⟨_, rfl⟩
  obtain ⟨k, hk⟩ : ∃ k, decide (57399 ≤ c) = k := ⟨_, rfl⟩
  have HL : Hid (∀ W, Calls Tryd.prog 37 #[.int .i64 c] W fun e w' => e = .returned (.int .u8 L) ∧ w' = W) := Lib.hid fun W => by rw [← hL]; exact rletter_any c W
  have HN : Hid (∀ W, Calls Tryd.prog 38 #[.int .i64 c] W fun e w' => e = .returned (.int .i64 N) ∧ w' = W) := Lib.hid fun W => by rw [← hN]; exact rnumber_any c W
  have HR := Lib.hid (rrest_any c)
  cases tL : (L == 0) with
  | false =>
    have hl : L ≠ 0 := ne_of_beq_false tL
    have E := Lib.hid (show lookE c = ⟨3, L, 0, 0, k⟩ by unfold lookE; rw [hL, if_pos hl, hk])
    clear hl hL hN
    go_enter Tryd.func27, Tryd.ntmps27
    go_wp2_with fail
    refine (HL.out _).mono ?_
    rintro e w1 ⟨rfl, rfl⟩
    go_wp2_with fail
    refine (HL.out _).mono ?_
    rintro e w1 ⟨rfl, rfl⟩
    go_wp2_with fail
    refine bodyPost_ret (v := enV ⟨3, L, 0, 0, k⟩) (by simp [results, Tryd.results27, go_sem, enV]) rfl ⟨by rw [E.out], hB _⟩
  | true =>
    have hl : L = 0 := eq_of_beq tL
    cases tN : (N == 0) with
    | false =>
      have hn : N ≠ 0 := ne_of_beq_false tN
      have E := Lib.hid (show lookE c = ⟨4, 0, N, 0, k⟩ by unfold lookE; rw [hL, if_neg (by rw [hl]; decide), hN, if_pos hn, hk])
      clear hl hn hL hN
      go_enter Tryd.func27, Tryd.ntmps27
      go_wp2_with fail
      refine (HL.out _).mono ?_
      rintro e w1 ⟨rfl, rfl⟩
      go_wp2_with fail
      refine (HN.out _).mono ?_
      rintro e w1 ⟨rfl, rfl⟩
      go_wp2_with fail
      refine (HN.out _).mono ?_
      rintro e w1 ⟨rfl, rfl⟩
      go_wp2_with fail
      refine bodyPost_ret (v := enV ⟨4, 0, N, 0, k⟩) (by simp [results, Tryd.results27, go_sem, enV]) rfl ⟨by rw [E.out], hB _⟩
    | true =>
      have hn : N = 0 := eq_of_beq tN
      by_cases hp : 57399 ≤ c ∧ c ≤ 57416
      · obtain ⟨P, hP⟩ : ∃ P, padE c = P := ⟨_, rfl⟩
        have E := Lib.hid (show lookE c = P by unfold lookE; rw [hL, if_neg (by rw [hl]; decide), hN, if_neg (by rw [hn]; decide), if_pos hp, hP])
        have HP := Lib.hid (rpad_any c hp.1 hp.2)
        rw [hP, enV] at HP
        have p1 := hp.1
        have p2 := hp.2
        clear hl hn hL hN hp hP hk
        have q0 := Blk.new w 37 #[.int .i64 0, .int .u8 0, .int .i64 0, .int .i64 0, .bool false]
        have hq := hB (.cells #[.int .i64 0, .int .u8 0, .int .i64 0, .int .i64 0, .bool false] 37)
        go_enter Tryd.func27, Tryd.ntmps27
        go_wp2_with fail
        refine (HL.out _).mono ?_
        rintro e w1 ⟨rfl, rfl⟩
        go_wp2_with fail
        refine (HN.out _).mono ?_
        rintro e w1 ⟨rfl, rfl⟩
        go_wp2_with fail
        refine (HP.out _).mono ?_
        rintro e w1 ⟨rfl, hb⟩
        have q1 := q0.below hb q0.lt
        have hbe := below_step9 hq hb hq.size
        have z0 := q1.frozen 0
        have z1 := q1.frozen 1
        have z2 := q1.frozen 2
        have z3 := q1.frozen 3
        have z4 := q1.frozen 4
        have y0 := q1.cell 0
        have y1 := q1.cell 1
        have y2 := q1.cell 2
        have y3 := q1.cell 3
        have y4 := q1.cell 4
        go_wp2_with fail
        refine bodyPost_ret (v := enV P) ?_ rfl ⟨by rw [E.out], ?_⟩
        · simp [results, Tryd.results27, go_sem, enV, *]
        · exact ((((hbe.setCell (p := ⟨w.heap.size, 0, none⟩) (Nat.le_refl _) _).setCell (p := ⟨w.heap.size, 1, none⟩) (Nat.le_refl _) _).setCell (p := ⟨w.heap.size, 2, none⟩) (Nat.le_refl _) _).setCell (p := ⟨w.heap.size, 3, none⟩) (Nat.le_refl _) _).setCell (p := ⟨w.heap.size, 4, none⟩) (Nat.le_refl _) _
      · obtain ⟨R, hR⟩ : ∃ R, restN c = R := ⟨_, rfl⟩
        have E := Lib.hid (show lookE c = ⟨R, 0, 0, 0, false⟩ by unfold lookE; rw [hL, if_neg (by rw [hl]; decide), hN, if_neg (by rw [hn]; decide), if_neg hp, hR])
        rw [hR] at HR
        have hp' : c < 57399 ∨ 57416 < c := by omega
        clear hl hn hL hN hp hR hk
        rcases hp' with p1 | p1
        all_goals
          try have p2 : 57399 ≤ c := by omega
          have q0 := Blk.new w 37 #[.int .i64 0, .int .u8 0, .int .i64 0, .int .i64 0, .bool false]
          have hq := hB (.cells #[.int .i64 0, .int .u8 0, .int .i64 0, .int .i64 0, .bool false] 37)
          go_enter Tryd.func27, Tryd.ntmps27
          go_wp2_with fail
          refine (HL.out _).mono ?_
          rintro e w1 ⟨rfl, rfl⟩
          go_wp2_with fail
          refine (HN.out _).mono ?_
          rintro e w1 ⟨rfl, rfl⟩
          go_wp2_with fail
          refine (HR.out _).mono ?_
          rintro e w1 ⟨rfl, hb⟩
          have q1 := q0.below hb q0.lt
          have hbe := below_step9 hq hb hq.size
          have z0 := q1.frozen 0
          have z1 := q1.frozen 1
          have z2 := q1.frozen 2
          have z3 := q1.frozen 3
          have z4 := q1.frozen 4
          have y0 := q1.cell 0
          have y1 := q1.cell 1
          have y2 := q1.cell 2
          have y3 := q1.cell 3
          have y4 := q1.cell 4
          go_wp2_with fail
          refine bodyPost_ret (v := enV ⟨R, 0, 0, 0, false⟩) ?_ rfl ⟨by rw [E.out], ?_⟩
          · simp [results, Tryd.results27, go_sem, enV, *]
          · exact ((((hbe.setCell (p := ⟨w.heap.size, 0, none⟩) (Nat.le_refl _) _).setCell (p := ⟨w.heap.size, 1, none⟩) (Nat.le_refl _) _).setCell (p := ⟨w.heap.size, 2, none⟩) (Nat.le_refl _) _).setCell (p := ⟨w.heap.size, 3, none⟩) (Nat.le_refl _) _).setCell (p := ⟨w.heap.size, 4, none⟩) (Nat.le_refl _) _
end Go.Proofs.YtdhpbihooeckoaaDoor
