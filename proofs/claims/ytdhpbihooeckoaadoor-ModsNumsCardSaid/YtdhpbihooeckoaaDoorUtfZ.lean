/-
  Layer 2, walked: the document's All.
-/
import Derived.Test.YtdhpbihooeckoaaDoorUtfR
import Derived.Test.YtdhpbihooeckoaaDoorUtdL
import Derived.Test.YtdhpbihooeckoaaDoorBlk
namespace Go.Proofs.YtdhpbihooeckoaaDoor
open Go.RowKit

theorem rtake_tup (A : Option Addr) (n c : Nat) (l : List UInt8) (r : Int) (m : Nat) (w : World) (hn : l.length = n) (h : takeL l = (r, m)) (hl : l.length ≤ 4294967296) (hlc : n ≤ c) (hr : Rd w A (bs l)) :
    Calls Tryd.prog 46 #[.slice A n c] w fun e w' => e = .returned (.tuple #[.int .i64 r, .int .i64 m]) ∧ Below w.heap.size w w' := by
  subst hn
  refine (rtake_any A c l w hl hlc hr).mono ?_
  rintro e w' ⟨rfl, hb⟩
  exact ⟨by unfold Tk; rw [h], hb⟩
theorem all_pre {t : List UInt8} {pre : List Int} {k m : Nat} {r : Int} (h : allL t = (allL (t.drop k)).map (pre ++ ·)) (ht : takeL (t.drop k) = (r, m)) (hm : m ≠ 0) : allL t = (allL (t.drop (k + m))).map ((pre ++ [r]) ++ ·) := by
  rw [h, allL_yes (by rw [ht]; exact hm), ht, List.drop_drop]
  cases allL (t.drop (k + m)) with
  | none => rfl
  | some x => simp

set_option maxRecDepth 100000 in
set_option maxHeartbeats 2000000 in
theorem rall_any (A : Option Addr) (c : Nat) (t : List UInt8) (w : World) (ht : t.length ≤ 4294967296) (htc : t.length ≤ c) (hr : Rd w A (bs t)) :
    Calls Tryd.prog 41 #[.slice A t.length c] w (Al (allL t) w) := by
  obtain ⟨i0, hi, hz0, hz1, hz2⟩ := info_parts Tryd.intinfo
  go_enter Tryd.func41, Tryd.ntmps41
  go_wp2
  go_loopw [4, 5] (fun v i wr => ∃ (k : Nat) (pre : List Int), k ≤ t.length ∧ i = .int .i64 k ∧ pre.length ≤ k ∧ allL t = (allL (t.drop k)).map (pre ++ ·) ∧ Own wr w.heap.size 3 1 v pre.length (is_ pre) ∧ Below w.heap.size w wr) (fun _ i _ => t.length - (intOf i).toNat)
  case atStart => exact ⟨0, [], Nat.zero_le _, rfl, Nat.le_refl _, by rw [List.drop_zero]; cases allL t <;> rfl, Own.nil_ _ _ _ _, Below.refl _ _⟩
  case round =>
    obtain ⟨k, pre, hk, rfl, hpk, hpre, hown, hbw⟩ := hrel
    have HP := Lib.hid hpre
    clear hpre
    by_cases hlt : k < t.length
    · have hrw := hr.below hbw
      obtain ⟨b, o, rfl, hb, hcc⟩ := hrw.at_ (by omega)
      have hdr := (RdIn.of hrw).drop k hlt
      clear hcc
      have k0 : (0 : Int) ≤ (k : Int) := by omega
      have k1 : (k : Int) ≤ (t.length : Int) := by omega
      have hlen := Lib.hid (show (t.drop k).length = t.length - k from List.length_drop)
      have hld : (t.drop k).length ≤ 4294967296 := by rw [List.length_drop]; omega
      by_cases hz : (takeL (t.drop k)).2 = 0
      · have E := Lib.hid (take_zero hz)
        have EN := Lib.hid (show allL t = none by rw [HP.out, allL_no (by rw [List.length_drop]; omega) hz]; rfl)
        clear hz
        go_wp2_with fail
        refine (rtake_tup _ _ _ (t.drop k) 0 0 _ hlen.out E.out hld (by omega) hdr).mono ?_
        rintro e w2 ⟨rfl, hb2⟩
        have hb2 : Below w.heap.size w w2 := hbw.trans (hb2.mono hbw.size)
        go_wp2_with fail
        go_ret2
        exact Al.no EN.out hb2
      · have hle := (take_snd_le (t.drop k)).1
        obtain ⟨r, hr1⟩ : ∃ r, (takeL (t.drop k)).1 = r := ⟨_, rfl⟩
        obtain ⟨m, hm1⟩ : ∃ m, (takeL (t.drop k)).2 = m := ⟨_, rfl⟩
        have E := Lib.hid (show takeL (t.drop k) = (r, m) by rw [← hr1, ← hm1])
        rw [hm1, List.length_drop] at hle
        rw [hm1] at hz
        have m1 : ((m : Int) == 0) = false := beq_false_of_ne (by omega)
        have PE := Lib.hid (all_pre HP.out E.out hz)
        clear hr1 hm1
        have h63 : pre.length + 1 ≤ maxLen := by simp only [maxLen]; omega
        have hlim : (pre.length + 1) * 8 ≤ 140737488355328 := by omega
        have one1 : ∀ x : Int, ∀ u ∈ [Value.int .i64 x], u.oneCell' = true := fun x => ints_one [x]
        go_wp2_with fail
        refine (rtake_tup _ _ _ (t.drop k) r m _ hlen.out E.out hld (by omega) hdr).mono ?_
        rintro e w2 ⟨rfl, hb2⟩
        have hown2 := hown.behind hb2
        have hb2 : Below w.heap.size w w2 := hbw.trans (hb2.mono hbw.size)
        have hs2 := hb2.size
        go_wp2_with (at_builtin; refine list_app _ rfl (.tmp 21) (.tmp 23) 43 rfl w.heap.size 3 i0 _ 1 8 Tryd.underlying43 hi hz0 hz1 hz2 rfl Nat.one_pos _ _ _ rfl (hown2.alloc _) (some ⟨w2.heap.size, 0, none⟩) 1 1 _ rfl rfl (rd_lit w2 _ _) (one1 _) h63 hlim (by simp; omega) ?_; intro v4 w4 hown4 hg4)
        have hb4 : Below w.heap.size w w4 := (hb2.alloc hs2 _).grown hg4 (by simp; omega) (fun g hg => (hown2.lt g hg).1)
        have ho : Own w4 w.heap.size 3 1 v4 (pre ++ [r]).length (is_ (pre ++ [r])) := by
          rw [List.length_append, show is_ (pre ++ [r]) = is_ pre ++ [.int .i64 r] by simp [is_]]
          exact hown4
        clear hown4 hg4
        go_wp2
        go_roundw
        case rel => exact ⟨k + m, pre ++ [r], by omega, by go_num, by rw [List.length_append]; show pre.length + 1 ≤ _; omega, PE.out, ho, hb4⟩
        case measure => simp [intOf]; omega
    · have E := Lib.hid (show allL t = some pre by
        rw [HP.out, List.drop_of_length_le (by omega)]
        show some (pre ++ []) = _
        rw [List.append_nil])
      obtain ⟨A2, c2, rfl, hr2⟩ := hown.form
      go_wp2
      go_ret2
      exact Al.yes E.out rfl hr2 hbw
end Go.Proofs.YtdhpbihooeckoaaDoor
