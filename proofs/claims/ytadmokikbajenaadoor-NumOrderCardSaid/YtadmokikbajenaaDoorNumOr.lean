/-
  Layer 1's law of order, walked.
-/
import Derived.Test.YtadmokikbajenaaDoorNumW
import Derived.Test.YtadmokikbajenaaDoorNumM
import Derived.Test.YtadmokikbajenaaDoorOwn
namespace Go.Proofs.YtadmokikbajenaaDoor
open Go.RowKit

theorem str_size (l : List UInt8) : (⟨l.toArray⟩ : ByteArray).size = l.length := by show l.toArray.size = _; exact List.size_toArray

set_option maxHeartbeats 2000000 in
theorem numOrder_walk (a : Int) (a0 : 0 ≤ a) (a1 : a ≤ 65535) (b : Int) (b0 : 0 ≤ b) (b1 : b ≤ 65535) (m : Int) (m0 : 0 ≤ m) (m1 : m ≤ 255) (w : World) (htab : Tab w) :
    Calls Tryd.prog 7 #[.int .u16 a, .int .u16 b, .int .u8 m] w fun e w' => e = .returned (.bool true) ∧ Below w.heap.size w w' := by
  obtain ⟨i0, hi, hz0, hz1, hz2⟩ := info_parts Tryd.u8info
  have hal := textL_length a (by omega)
  have hbl := textL_length b (by omega)
  obtain ⟨z, hz, hz20⟩ : ∃ z : Nat, m % 20 = (z : Int) ∧ z < 20 := ⟨(m % 20).toNat, by omega, by omega⟩
  have HT := Lib.hid (take_zeros z a a0 a1)
  have hmono : a ≤ b → (textL a).length ≤ (textL b).length := fun h => text_mono a b h a0
  have heq := text_eq a b a0 a1 b0 b1
  have HM := Lib.hid hmono
  have HQ := Lib.hid heq
  clear hmono heq
  go_enter Tryd.func7, Tryd.ntmps7
  go_wp2_with fail
  refine (awake_any _ htab).mono ?_
  rintro e w1 ⟨rfl, hb1⟩
  go_wp2_with fail
  refine (text_any a _ (by omega) (by omega) (htab.below hb1)).mono ?_
  rintro e w2 ⟨rfl, hb2⟩
  have hb2 : Below w.heap.size w w2 := hb1.trans (hb2.mono hb1.size)
  go_wp2_with fail
  refine (text_any b _ (by omega) (by omega) (htab.below hb2)).mono ?_
  rintro e w3 ⟨rfl, hb3⟩
  have hb3 : Below w.heap.size w w3 := hb2.trans (hb3.mono hb2.size)
  have hs3 := hb3.size
  go_wp2_with (at_make; refine wpList_make_full _ rfl _ _ 22 rfl w.heap.size 5 i0 _ 1 Tryd.underlying22 hi hz0 hz1 _ _ _ _ z rfl rfl ?d0 ?d1 ?d2 ?d3 ?d4 ?_)
  case d0 => omega
  case d1 => omega
  case d2 => rw [hz2]; omega
  case d3 => simp only [maxLen]; omega
  case d4 => exact hs3
  intro w4 hown4 hg4
  have hb4 : Below w.heap.size w w4 := hb3.grown hg4 hs3 (by simp)
  clear hg4
  obtain ⟨G, hG⟩ : ∃ G : Nat, w3.heap.size = G := ⟨_, rfl⟩
  rw [hG] at hown4 hs3 ⊢
  have hg5 : w.heap.size ≤ G := by omega
  have hown5 := Own.of hown4
  clear hown4 hG
  go_wp2
  go_loopw [11] (fun i wr => ∃ (k : Nat) (xs : List Value), k ≤ z ∧ i = .int .i64 k ∧ Own wr w.heap.size 5 1 (.slice (some ⟨G, 0, none⟩) z z) z xs ∧ Hid (∀ j, j < k → xs[j]? = some (.int .u8 48)) ∧ Below w.heap.size w wr) (fun i _ => z - (intOf i).toNat)
  case atStart => exact ⟨0, _, Nat.zero_le _, rfl, hown5, fun j h => absurd h (by omega), hb4⟩
  case round =>
    obtain ⟨k, xs, hk, rfl, hown, hdone, hbw⟩ := hrel
    have hxl : xs.length = z := by have := hown.1; omega
    by_cases hlt : k < z
    · obtain ⟨u, hc1⟩ : ∃ u, wr.cell? ⟨G, k, none⟩ = some u := ⟨_, hown.cellAt k (by omega)⟩
      have hc2 := hown.frozenAt k (by omega)
      have hxl2 : z ≤ xs.length := by omega
      have g1 : (k : Int) < (z : Int) := by omega
      clear hxl
      go_wp2
      go_roundw
      case rel =>
        refine ⟨k + 1, _, by omega, by go_num, hown.stored k _, fun j hj => ?_, hbw.setCell (p := ⟨G, k, none⟩) hg5 _⟩
        by_cases e : k = j
        · subst e; rw [List.getElem?_set_self (by omega)]
        · rw [List.getElem?_set_ne e]; exact hdone.out j (by omega)
      case measure => simp [intOf]; omega
    · have hx : xs = bs (List.replicate z 48) := by
        refine List.ext_getElem? fun j => ?_
        by_cases hj : j < z
        · rw [hdone.out j (by omega), bs_get _ _ (by simpa using hj)]
          simp [B8]
        · rw [List.getElem?_eq_none (by omega), List.getElem?_eq_none (by rw [bs_length, List.length_replicate]; omega)]
      subst hx
      have hsz := str_size (textL a)
      have h63 : z + (⟨(textL a).toArray⟩ : ByteArray).size ≤ maxLen := by simp only [maxLen]; omega
      have hlim : z + (⟨(textL a).toArray⟩ : ByteArray).size ≤ 140737488355328 := by omega
      have hbs := hbw.size
      clear hxl hsz
      go_wp2_with (first
        | (at_builtin; refine list_app_str _ rfl (.tmp 34) (.tmp 35) 22 9 rfl w.heap.size 5 i0 Tryd.underlying22 Tryd.underlying9 hi hz0 hz1 hz2 _ z _ rfl hown ⟨(textL a).toArray⟩ rfl h63 hlim hbs ?_; intro v5 w5 hown6 hg6))
      have hb5 : Below w.heap.size w w5 := hbw.grown hg6 hbs (fun g hg => (hown.lt g hg).1)
      obtain ⟨A5, c5, rfl, hr5⟩ := hown6.form
      have hr5 : Rd w5 A5 (bs (List.replicate z 48 ++ textL a)) := by rw [bs_append]; exact hr5
      go_wp2_with fail
      refine (take_at A5 c5 (List.replicate z 48 ++ textL a) _ _ ?_ (by rw [List.length_append, List.length_replicate]; omega) hr5).mono ?_
      · rw [List.length_append, List.length_replicate, str_size]
      rintro e w6 ⟨rfl, hb6⟩
      have hb6 : Below w.heap.size w w6 := hb5.trans (hb6.mono hb5.size)
      rw [HT.out.1, HT.out.2]
      clear h63 hlim hr5 hown6 hown hg6
      have t1 : ((z : Int) + ((textL a).length : Int) == ((textL a).length : Int) + (z : Int)) = true := beq_iff_eq.2 (by omega)
      rcases Int.lt_trichotomy a b with hab | hab | hab
      · have hle := HM.out (by omega)
        have t2 : (textL a == textL b) = false := by rw [beq_eq_false_iff_ne]; intro h; have := HQ.out.1 h; omega
        have t3 : (a == b) = false := by rw [beq_eq_false_iff_ne]; omega
        go_wp2_with fail
        go_ret
        exact ⟨rfl, hb6⟩
      · subst hab
        go_wp2_with fail
        go_ret
        exact ⟨rfl, hb6⟩
      · have t2 : (textL a == textL b) = false := by rw [beq_eq_false_iff_ne]; intro h; have := HQ.out.1 h; omega
        have t3 : (a == b) = false := by rw [beq_eq_false_iff_ne]; omega
        go_wp2_with fail
        go_ret
        exact ⟨rfl, hb6⟩
end Go.Proofs.YtadmokikbajenaaDoor
