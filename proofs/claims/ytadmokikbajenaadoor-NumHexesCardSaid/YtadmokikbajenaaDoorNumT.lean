/-
  Layer 1, walked: Take, the program's and the document's.
-/
import Derived.Test.YtadmokikbajenaaDoorNumA
import Derived.Test.YtadmokikbajenaaDoorNumL
namespace Go.Proofs.YtadmokikbajenaaDoor
open Go.RowKit

theorem fig_digit (c : UInt8) (h : isD c = true) : figB (c.toNat : Int) 10 = true ∧ figA (c.toNat : Int) 10 = (c.toNat : Int) - 48 := by
  have h' : 48 ≤ c.toNat ∧ c.toNat ≤ 57 := of_decide_eq_true h
  have hv : figV (c.toNat : Int) = (c.toNat : Int) - 48 := by unfold figV; rw [if_pos (by omega)]
  unfold figB figA
  rw [hv]
  exact ⟨decide_eq_true (by omega), if_pos (by omega)⟩
theorem fig_other (c : UInt8) (h : isD c = false) : figB (c.toNat : Int) 10 = false := by
  have h' : ¬ (48 ≤ c.toNat ∧ c.toNat ≤ 57) := of_decide_eq_false h
  unfold figB
  rw [decide_eq_false_iff_not]
  unfold figV
  rw [if_neg (by omega)]
  split
  · omega
  · split <;> omega

set_option maxHeartbeats 1000000 in
theorem take_any (A : Option Addr) (c : Nat) (l : List UInt8) (w : World) (hl : l.length ≤ 4294967296) (hr : Rd w A (bs l)) :
    Calls Tryd.prog 10 #[.slice A l.length c] w fun e w' => e = .returned (.tuple #[.int .i64 (satv l), .int .i64 (digs l)]) ∧ Below w.heap.size w w' := by
  have hr1 := hr.alloc (.cells #[.int .i64 10] 3)
  have hb1 : Below w.heap.size w (w.alloc (.cells #[.int .i64 10] 3)) := (Below.refl _ _).alloc (Nat.le_refl _) _
  have hbox : (w.alloc (.cells #[.int .i64 10] 3)).cell? ⟨w.heap.size, 0, none⟩ = some (.int .i64 10) := by
    rw [World.cell?_alloc_at _ _ _ _ rfl]; rfl
  go_enter Tryd.func10, Tryd.ntmps10
  go_wp2_with (go_at_call 18; refine (figures_any 10 _).mono ?_; rintro e w' ⟨rfl, rfl⟩)
  go_loop [5, 6, 14] (fun n u i => ∃ k : Nat, k ≤ l.length ∧ i = .int .i64 k ∧ u = .int .i64 k ∧ n = .int .i64 (satk l k) ∧ Hid (∀ j (h : j < l.length), j < k → isD l[j] = true)) (fun _ _ i => l.length - (intOf i).toNat)
  case atStart => exact ⟨0, Nat.zero_le _, rfl, rfl, rfl, fun j _ h => absurd h (by omega)⟩
  case round =>
    obtain ⟨k, hk, rfl, rfl, rfl, hall⟩ := hrel
    have hsk := satk_le l k
    by_cases hlt : k < l.length
    · obtain ⟨b, o, rfl, hb, hcell⟩ := hr1.at_ (by omega)
      have hck := hcell k hlt
      have hlo := (l[k]).toNat_lt
      clear hcell
      cases hd : isD l[k] with
      | true =>
        obtain ⟨f1, f2⟩ := fig_digit _ hd
        have H1 := Lib.hid f1
        have H2 := Lib.hid f2
        have HS := Lib.hid (satk_succ l k hlt)
        have HD := Lib.hid hd
        have h5 : 48 ≤ (l[k]).toNat ∧ (l[k]).toNat ≤ 57 := of_decide_eq_true hd
        clear f1 f2 hd
        go_wp2_with (go_at_call 22; refine (figure_any _ 10 _ _ (by omega) (by omega) (by omega) (by omega) hbox).mono ?_; rintro e w' ⟨rfl, rfl⟩; rw [H1.out, H2.out])
        go_round
        case rel =>
          refine ⟨k + 1, by omega, by go_num, by go_num, ?_, ?_⟩
          · rw [HS.out]
            unfold dstep
            congr 1
            split <;> omega
          · intro j h hj
            by_cases e : j = k
            · subst e; exact HD.out
            · exact hall.out j h (by omega)
        case measure => simp [intOf]; omega
      | false =>
        have H1 := Lib.hid (fig_other _ hd)
        have HE := Lib.hid (digs_at l k hk hall.out fun _ => hd)
        clear hd
        go_wp2_with (go_at_call 22; refine (figure_any _ 10 _ _ (by omega) (by omega) (by omega) (by omega) hbox).mono ?_; rintro e w' ⟨rfl, rfl⟩; rw [H1.out])
        go_ret2
        exact ⟨ret_ii (by rw [HE.out.2]) (by rw [HE.out.1]), hb1⟩
    · have HE := Lib.hid (digs_at l k hk hall.out fun h => absurd h hlt)
      go_wp2
      go_ret2
      exact ⟨ret_ii (by rw [HE.out.2]) (by rw [HE.out.1]), hb1⟩

set_option maxHeartbeats 1000000 in
theorem rtake_any (A : Option Addr) (c : Nat) (l : List UInt8) (w : World) (hl : l.length ≤ 4294967296) (hr : Rd w A (bs l)) :
    Calls Tryd.prog 11 #[.slice A l.length c] w fun e w' => e = .returned (.tuple #[.int .i64 (satv l), .int .i64 (digs l)]) ∧ w' = w := by
  go_enter Tryd.func11, Tryd.ntmps11
  go_wp2
  go_loop [4, 5] (fun n i => ∃ k : Nat, k ≤ l.length ∧ i = .int .i64 k ∧ n = .int .i64 (satk l k) ∧ Hid (∀ j (h : j < l.length), j < k → isD l[j] = true)) (fun _ i => l.length - (intOf i).toNat)
  case atStart => exact ⟨0, Nat.zero_le _, rfl, rfl, fun j _ h => absurd h (by omega)⟩
  case round =>
    obtain ⟨k, hk, rfl, rfl, hall⟩ := hrel
    have hsk := satk_le l k
    by_cases hlt : k < l.length
    · obtain ⟨b, o, rfl, hb, hcell⟩ := hr.at_ (by omega)
      have hck := hcell k hlt
      have hlo := (l[k]).toNat_lt
      clear hcell
      by_cases h5 : 48 ≤ (l[k]).toNat ∧ (l[k]).toNat ≤ 57
      · have HD := Lib.hid (show isD l[k] = true from decide_eq_true h5)
        have HS := Lib.hid (satk_succ l k hlt)
        go_wp2
        go_round
        case rel =>
          refine ⟨k + 1, by omega, by go_num, ?_, ?_⟩
          · rw [HS.out]
            unfold dstep
            congr 1
            split <;> omega
          · intro j h hj
            by_cases e : j = k
            · subst e; exact HD.out
            · exact hall.out j h (by omega)
        case measure => simp [intOf]; omega
      · have HE := Lib.hid (digs_at l k hk hall.out fun _ => decide_eq_false h5)
        by_cases h4 : 48 ≤ (l[k]).toNat
        · have h6 : 57 < (l[k]).toNat := by omega
          clear h5
          go_wp2
          go_ret2
          exact ⟨ret_ii (by rw [HE.out.2]) (by rw [HE.out.1]), rfl⟩
        · have h6 : (l[k]).toNat < 48 := by omega
          clear h5
          go_wp2
          go_ret2
          exact ⟨ret_ii (by rw [HE.out.2]) (by rw [HE.out.1]), rfl⟩
    · have HE := Lib.hid (digs_at l k hk hall.out fun h => absurd h hlt)
      go_wp2
      go_ret2
      exact ⟨ret_ii (by rw [HE.out.2]) (by rw [HE.out.1]), rfl⟩

theorem take_at (A : Option Addr) (c : Nat) (l : List UInt8) (n : Nat) (w : World) (hn : l.length = n) (hl : l.length ≤ 4294967296) (hr : Rd w A (bs l)) :
    Calls Tryd.prog 10 #[.slice A n c] w fun e w' => e = .returned (.tuple #[.int .i64 (satv l), .int .i64 (digs l)]) ∧ Below w.heap.size w w' := by
  subst hn
  exact take_any A c l w hl hr
end Go.Proofs.YtadmokikbajenaaDoor
