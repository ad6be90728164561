/-
  Layer 4: the walk of QueueShares.
-/
import Derived.Test.YthilpfgmbikhfaaQuW
import Derived.Deep.RegionHeld
namespace Go.Proofs.Ythilpfgmbikhfaa
open Go.RowKit

/-- All are bytes. -/
def U8s (xs : List Value) : Prop := ∀ u ∈ xs, ∃ z : Int, u = .int .u8 z
theorem u8s_bs (l : List UInt8) : U8s (bs l) := fun u hu => by
  obtain ⟨c, _, rfl⟩ := List.mem_map.1 hu
  exact ⟨_, rfl⟩
theorem U8s.set {xs : List Value} (h : U8s xs) (k : Nat) (z : Int) : U8s (xs.set k (.int .u8 z)) := fun u hu => by
  rcases List.mem_or_eq_of_mem_set hu with h1 | rfl
  · exact h u h1
  · exact ⟨z, rfl⟩
theorem U8s.at_ {xs : List Value} (h : U8s xs) (k : Nat) (hk : k < xs.length) : ∃ z : Int, xs[k]'hk = .int .u8 z := h _ (List.getElem_mem hk)

set_option maxRecDepth 100000 in
set_option maxHeartbeats 16000000 in
theorem queueShares_walk (A : Option Addr) (l : List UInt8) (c : Nat) (_hk : l.length ≤ c) (B : Option Addr) (l2 : List UInt8) (c2 : Nat) (_hk2 : l2.length ≤ c2) (w : World) (hr : Rd w A (bs l)) (hr2 : Rd w B (bs l2)) :
    Calls Try.prog 6 #[.slice A l.length c, .slice B l2.length c2] w fun e w' => e = .returned (.bool true) ∧ Below w.heap.size w w' := by
  obtain ⟨i0, hi, hz0, hz1, hz2⟩ := u8_parts
  obtain ⟨m, hm⟩ : ∃ m, l.length = m := ⟨_, rfl⟩
  obtain ⟨m2, hm2⟩ : ∃ m, l2.length = m := ⟨_, rfl⟩
  rw [hm, hm2]
  have HM := Lib.hid hm
  have HM2 := Lib.hid hm2
  clear hm hm2 _hk _hk2
  by_cases h1 : m ≤ 100
  · by_cases h2 : m2 ≤ 100
    · have h11 : 0 + m ≤ maxLen := by simp only [maxLen]; omega
      have h12 : (0 + m) * 1 ≤ 140737488355328 := by omega
      have HR1 := Lib.hid (show hasRoom 300 [] l = true from hasRoom_iff.2 (by rw [HM.out]; simp; omega))
      have HR2 := Lib.hid (show hasRoom 300 l l2 = true from hasRoom_iff.2 (by rw [HM.out, HM2.out]; omega))
      obtain ⟨l3, hl3⟩ : ∃ l3, l ++ l2 = l3 := ⟨_, rfl⟩
      have HL3 := Lib.hid hl3
      have HM3 := Lib.hid (show l3.length = m + m2 by rw [← hl3, List.length_append, HM.out, HM2.out])
      have HT3 := Lib.hid (show l3.take m = l by rw [← hl3]; exact List.take_left' HM.out)
      have HD3 := Lib.hid (show l3.drop m = l2 by rw [← hl3]; exact List.drop_left' HM.out)
      clear hl3
      go_enter Try.func6, Try.ntmps6
      go_wp2_with fail
      refine (awake_any w).mono ?_
      rintro e w1 ⟨rfl, hb1⟩
      go_wp2_with fail
      refine (new_yes 300 w1 (by omega) (by omega)).mono ?_
      rintro e w2 ⟨rfl, hw2⟩
      have q2 := QB.new w1 300 w.heap.size hb1.size (by omega)
      have hF2 := Lib.hid (hb1.alloc hb1.size (.cells #[.int .i64 ((300 : Nat) : Int), .slice none 0 0, .int .i64 0] 54))
      rw [hw2] at q2 hF2
      clear hw2
      obtain ⟨S2, hS2⟩ : ∃ S2, S2 = fun k => k = w1.heap.size := ⟨_, rfl⟩
      rw [← hS2] at q2
      clear hS2
      obtain ⟨g, hg⟩ : ∃ g, w1.heap.size = g := ⟨_, rfl⟩
      rw [hg] at q2
      rw [hg]
      clear hg
      have hown2 : Own (w2.alloc (.cells #[] 5)) w2.heap.size 5 1 (.slice (some ⟨w2.heap.size, 0, none⟩) 0 0) 0 [] := Own.of (World.ownsRow_made w2 #[] 0 (Nat.le_refl _) (by decide) rfl)
      have q2a := q2.alloc (.cells #[] 5)
      have hF2a := Lib.hid (hF2.out.alloc hF2.out.size (.cells #[] 5))
      have hr2a := hr.below hF2a.out
      have hs2a : w2.heap.size ≤ (w2.alloc (.cells #[] 5)).heap.size := by simp
      go_wp2_with (at_builtin; refine list_app _ rfl (.tmp 23) (.tmp 24) 28 rfl w2.heap.size 5 i0 _ 1 1 Try.underlying28 hi hz0 hz1 hz2 rfl Nat.one_pos (.slice (some ⟨w2.heap.size, 0, none⟩) 0 0) 0 [] rfl hown2 A m c (bs l) rfl (by rw [bs_length, HM.out]; omega) hr2a (bs_one l) h11 h12 hs2a ?_; intro v3 w3 hown3 hg3)
      have q3 := q2a.grown hg3 (fun k hk hs => by have h1 : some w2.heap.size = some k := hk; injection h1 with h1; have := q2.hi k hs; omega)
      have hF3 := Lib.hid (hF2a.out.grown hg3 hF2a.out.size (fun k hk => by have h1 : some w2.heap.size = some k := hk; injection h1 with h1; rw [← h1]; exact hF2.out.size))
      have hn3 : ∀ k, v3.ownBlock = some k → ¬ S2 k := fun k hk hs => by have := (hown3.lt k hk).1; have := q2.hi k hs; omega
      have HN3 := Lib.hid hn3
      obtain ⟨A3, c3, rfl, hr3⟩ := hown3.form
      rw [Nat.zero_add, List.nil_append] at hown3
      rw [List.nil_append] at hr3
      clear hg3 q2 q2a hown2 hr2a hs2a h11 h12 hn3
      rw [Nat.zero_add] at HN3
      simp only [Nat.zero_add]
      go_wp2_with fail
      refine (push_any q3 A3 m c3 l true l 0 HM.out (by omega) (by omega) hr3 HR1.out (by unfold pushL; rw [HR1.out, if_pos rfl]; rfl) (by unfold pushD; rw [HR1.out]; rfl)).mono ?_
      rintro e w4 ⟨rfl, ⟨S4, v4, q4, hw4⟩, hf4⟩
      have hF4 := Lib.hid (hF3.out.trans (hf4.below hF3.out.size q3.lo))
      have hown4 := hown3.fr hf4 HN3.out
      have HN4 := Lib.hid (show ∀ k, (Value.slice A3 m c3).ownBlock = some k → ¬ S4 k from fun k hk => hw4.out (hown3.lt k hk).2 (HN3.out k hk))
      obtain ⟨B2, hB2⟩ : ∃ B2, w2.heap.size = B2 := ⟨_, rfl⟩
      have HB2 := Lib.hid (show w.heap.size ≤ B2 by rw [← hB2]; exact hF2.out.size)
      rw [hB2] at hown4
      rw [hB2]
      have hu4 := Lib.hid (u8s_bs l)
      clear hown3 hr3 hf4 hw4 q3 HN3 hB2
      go_wp2_with fail
      go_loopw [8] (fun i wr => ∃ (k : Nat) (xs : List Value), k ≤ m ∧ i = .int .i64 k ∧ Own wr B2 5 1 (.slice A3 m c3) m xs ∧ Hid (U8s xs) ∧ QB wr S4 g 300 w.heap.size v4 l 0 ∧ Below w.heap.size w wr) (fun i _ => m - (intOf i).toNat)
      case atStart => exact ⟨0, _, Nat.zero_le _, rfl, hown4, hu4, q4, hF4.out⟩
      case round =>
        obtain ⟨k, xs, hk, rfl, hown, hu, q, hbw⟩ := hrel
        clear hown4 q4 hu4 hF4
        have hxl : xs.length = m := by have := hown.1; omega
        by_cases hlt : k < m
        · obtain ⟨G, cc, hv, _⟩ := hown.some_ (by omega)
          injection hv with hA
          subst hA
          obtain ⟨z, hzz⟩ := hu.out.at_ k (by omega)
          have hc1 := hown.cellAt k (by omega)
          rw [hzz] at hc1
          have hc2 := hown.frozenAt k (by omega)
          have HXL := Lib.hid hxl
          have HGS := Lib.hid (HN4.out G rfl)
          have HGB := Lib.hid (Nat.le_trans HB2.out (hown.lt G rfl).1)
          clear hzz hxl
          go_wp2_with fail
          go_roundw
          case rel => exact ⟨k + 1, _, by omega, by go_num, hown.stored k _, Lib.hid (hu.out.set k _), q.fr (Fr.setCell wr G k _ (fun j => j = G) rfl) (fun j hj e => HGS.out (by rw [← (show j = G from e)]; exact hj)), hbw.setCell (p := ⟨G, k, none⟩) HGB.out _⟩
          case measure => simp [intOf]; omega
        · have hkm : k = m := by omega
          subst hkm
          have hr5 := hr2.below hbw
          clear hown hu HN4 HB2 hxl
          obtain ⟨w5, rfl⟩ : ∃ w5 : World, w5 = wr := ⟨_, rfl⟩
          have HBW := Lib.hid hbw
          clear hbw
          go_wp2_with fail
          refine (push_any q B m2 c2 l2 true l3 0 HM2.out (by omega) (by omega) hr5 HR2.out (by unfold pushL; rw [HR2.out, if_pos rfl]; exact HL3.out) (by unfold pushD; rw [HR2.out]; rfl)).mono ?_
          rintro e w6 ⟨rfl, ⟨S6, v6, q6, _⟩, hf6⟩
          have hF6 := Lib.hid (HBW.out.trans (hf6.below HBW.out.size q.lo))
          clear hf6 q hr5
          go_wp2_with fail
          refine (drain_any q6 (k : Int) k (by omega) (by unfold drainK; rw [HM3.out]; omega)).mono ?_
          rintro e w7 ⟨⟨A7, c7, rfl, hown7⟩, ⟨v7, q7⟩, hf7⟩
          rw [HT3.out] at hown7
          rw [HD3.out] at q7
          have hF7 := Lib.hid (hF6.out.trans (hf7.below hF6.out.size q6.lo))
          have HN7 := Lib.hid (show ∀ j, (Value.slice A7 k c7).ownBlock = some j → ¬ S6 j from fun j hj hs => by have := (hown7.lt j hj).1; have := q6.hi j hs; omega)
          obtain ⟨B6, hB6⟩ : ∃ B6, w6.heap.size = B6 := ⟨_, rfl⟩
          have HB6 := Lib.hid (show w.heap.size ≤ B6 by rw [← hB6]; exact hF6.out.size)
          rw [hB6] at hown7
          clear hf7 q6 hB6
          have hcv1 := conv_str (P := Try.prog) (w := w7) (A := A7) (c := c7) Try.underlying28 Try.underlying5 HM.out hown7.rd
          have hcv2 := conv_str (P := Try.prog) (w := w7) (A := A) (c := c) Try.underlying28 Try.underlying5 HM.out (hr.below hF7.out)
          have hcv1 := hcv1 9 Try.underlying9
          have hcv2 := hcv2 9 Try.underlying9
          go_wp2_with fail
          have hu7 := Lib.hid (u8s_bs l)
          have HT2 := Lib.hid (show l2.take m2 = l2 from List.take_of_length_le (by rw [HM2.out]; exact Nat.le_refl _))
          clear hcv1 hcv2 hr
          go_loopw [11] (fun i wr => ∃ (j : Nat) (xs : List Value), j ≤ k ∧ i = .int .i64 j ∧ Own wr B6 5 1 (.slice A7 k c7) k xs ∧ Hid (U8s xs) ∧ QB wr S6 g 300 w.heap.size v7 l2 0 ∧ Below w.heap.size w wr) (fun i _ => k - (intOf i).toNat)
          case atStart => exact ⟨0, _, Nat.zero_le _, rfl, hown7, hu7, q7, hF7.out⟩
          case round =>
            obtain ⟨j, xs, hj, rfl, hown, hu, q, hbw⟩ := hrel
            clear hown7 q7 hu7 hF7
            have hxl : xs.length = k := by have := hown.1; omega
            by_cases hlt : j < k
            · obtain ⟨G, cc, hv, _⟩ := hown.some_ (by omega)
              injection hv with hA
              subst hA
              obtain ⟨z, hzz⟩ := hu.out.at_ j (by omega)
              have hc1 := hown.cellAt j (by omega)
              rw [hzz] at hc1
              have hc2 := hown.frozenAt j (by omega)
              have HXL := Lib.hid hxl
              have HGS := Lib.hid (HN7.out G rfl)
              have HGB := Lib.hid (Nat.le_trans HB6.out (hown.lt G rfl).1)
              clear hzz hxl
              go_wp2_with fail
              go_roundw
              case rel => exact ⟨j + 1, _, by omega, by go_num, hown.stored j _, Lib.hid (hu.out.set j _), q.fr (Fr.setCell wr G j _ (fun i => i = G) rfl) (fun i hi e => HGS.out (by rw [← (show i = G from e)]; exact hi)), hbw.setCell (p := ⟨G, j, none⟩) HGB.out _⟩
              case measure => simp [intOf]; omega
            · have hkj : j = k := by omega
              subst hkj
              clear hown hu HN7 HB6 hxl
              obtain ⟨w8, rfl⟩ : ∃ w8 : World, w8 = wr := ⟨_, rfl⟩
              have hcvB : ∀ W, Below w.heap.size w W → (convert 28 9 (.slice B m2 c2)).run Try.prog W = .ok (.string ⟨l2.toArray⟩) W := fun W hb => conv_str Try.underlying28 Try.underlying5 HM2.out (hr2.below hb) _ Try.underlying9
              go_wp2_with fail
              go_region_held (fun w' => Below w.heap.size w w') (first | exact hbw.drew | assumption) (first | (go_at_call 15; refine (drain_any q.drew 300 m2 (by omega) (by unfold drainK; rw [HM2.out]; omega)).mono ?_; rintro e w9 ⟨⟨A9, c9, rfl, hown9⟩, hq9, hf9⟩; have hb9 : Below w.heap.size w w9 := hbw.drew.trans (hf9.below hbw.size q.lo); have hcv9 : (convert 28 9 (.slice A9 m2 c9)).run Try.prog w9 = .ok (.string ⟨l2.toArray⟩) w9 := conv_str Try.underlying28 Try.underlying5 HM2.out (by have := hown9.rd; rwa [HT2.out] at this) _ Try.underlying9))
              all_goals
                go_wp2_with fail
                go_ret
                exact ⟨rfl, by assumption⟩
    · have t1 : decide (100 < (m : Int)) = false := by simp; omega
      have t2 : decide (100 < (m2 : Int)) = true := by simp; omega
      go_enter Try.func6, Try.ntmps6
      go_wp2_with fail
      refine (awake_any w).mono ?_
      rintro e w1 ⟨rfl, hb1⟩
      go_wp2_with fail
      go_ret
      exact ⟨rfl, hb1⟩
  · have t1 : decide (100 < (m : Int)) = true := by simp; omega
    go_enter Try.func6, Try.ntmps6
    go_wp2_with fail
    refine (awake_any w).mono ?_
    rintro e w1 ⟨rfl, hb1⟩
    go_wp2_with fail
    go_ret
    exact ⟨rfl, hb1⟩
end Go.Proofs.Ythilpfgmbikhfaa
