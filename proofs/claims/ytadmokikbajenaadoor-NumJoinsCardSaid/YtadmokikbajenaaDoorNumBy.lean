/-
  Layer 1's law of bytes there and back, walked.
-/
import Derived.Test.YtadmokikbajenaaDoorNumW
import Derived.Test.YtadmokikbajenaaDoorNumM
import Derived.Test.YtadmokikbajenaaDoorOwn
namespace Go.Proofs.YtadmokikbajenaaDoor
open Go.RowKit

theorem str_size2 (l : List UInt8) : (⟨l.toArray⟩ : ByteArray).size = l.length := by show l.toArray.size = _; exact List.size_toArray
theorem str_add (a b : List UInt8) : ((⟨a.toArray⟩ : ByteArray) ++ (⟨b.toArray⟩ : ByteArray)).data.toList = a ++ b := by simp [ByteArray.data_append]
theorem str_add_size (a b : List UInt8) : ((⟨a.toArray⟩ : ByteArray) ++ (⟨b.toArray⟩ : ByteArray)).size = a.length + b.length := by rw [ByteArray.size_append, str_size2, str_size2]
theorem hexD_le (k : Nat) (h : k < 16) : (hexD k).toNat ≤ 70 := by
  unfold hexD
  split
  · rw [UInt8.toNat_ofNat_of_lt' (by show 48 + k < 256; omega)]; omega
  · rw [UInt8.toNat_ofNat_of_lt' (by show 55 + k < 256; omega)]; omega
theorem hexL_le (l : List UInt8) : ∀ c ∈ hexL l, c.toNat ≤ 70 := by
  intro c hc
  unfold hexL at hc
  obtain ⟨x, _, hx⟩ := List.mem_flatMap.1 hc
  have := x.toNat_lt
  simp only [List.mem_cons, List.not_mem_nil, or_false] at hx
  rcases hx with rfl | rfl
  · exact hexD_le _ (by omega)
  · exact hexD_le _ (by omega)
theorem low_up (c : UInt8) (h : 65 ≤ c.toNat) (h2 : c.toNat ≤ 70) : Value.int .u8 ((c.toNat : Int) + 32) = B8 (low c) := by
  unfold low B8
  rw [if_pos h, UInt8.toNat_add]
  show Value.int .u8 ((c.toNat : Int) + 32) = .int .u8 (((c.toNat + 32) % 256 : Nat) : Int)
  congr 1
  omega
theorem low_same (c : UInt8) (h : c.toNat < 65) : low c = c := if_neg (by omega)

set_option maxHeartbeats 2000000 in
theorem numBytes_walk (A : Option Addr) (l : List UInt8) (c : Nat) (small : Bool) (w : World) (hr : Rd w A (bs l)) (htab : Tab w) :
    Calls Tryd.prog 6 #[.slice A l.length c, .bool small] w fun e w' => e = .returned (.bool true) ∧ Below w.heap.size w w' := by
  by_cases hlen : 100 < l.length
  · go_enter Tryd.func6, Tryd.ntmps6
    go_wp2_with fail
    refine (awake_any _ htab).mono ?_
    rintro e w1 ⟨rfl, hb1⟩
    go_wp2_with fail
    go_ret
    exact ⟨rfl, hb1⟩
  · have hl : l.length ≤ 100 := by omega
    have hHl := hexL_length l
    have hsz : (⟨(hexL l).toArray⟩ : ByteArray).size ≤ 200 := by show (hexL l).toArray.size ≤ _; rw [List.size_toArray]; omega
    have hms : (⟨(hexL l).toArray⟩ : ByteArray).size ≤ maxLen := by simp only [maxLen]; omega
    have HH := Lib.hid hHl
    clear hHl hlen
    cases small with
    | false =>
      go_enter Tryd.func6, Tryd.ntmps6
      go_wp2_with fail
      refine (awake_any _ htab).mono ?_
      rintro e w1 ⟨rfl, hb1⟩
      go_wp2_with fail
      refine (hex_any A c l _ (by omega) (hr.below hb1)).mono ?_
      rintro e w2 ⟨rfl, hb2⟩
      have hb2 : Below w.heap.size w w2 := hb1.trans (hb2.mono hb1.size)
      have hbs2 := hb2.size
      go_wp2_with (first
        | ((with_reducible refine list_conv _ rfl (.tmp 18) 9 22 rfl w.heap.size 5 ⟨(hexL l).toArray⟩ ?_ Tryd.underlying9 Tryd.underlying22 Tryd.underlying5 hms hbs2 ?_); rfl; intro v3 w3 hown3 hg3))
      have hb3 : Below w.heap.size w w3 := hb2.grown hg3 hbs2 (by simp)
      obtain ⟨A3, c3, rfl, hr3⟩ := hown3.form
      clear hg3
      have hH2 : (hexL l).length ≤ 200 := by rw [HH.out]; omega
      clear hsz hms hown3
      go_wp2_with fail
      refine wp_loop_rounds 1 ?_
      rw [rounds_succ]
      by_cases hp : 0 < (hexL l).length
      all_goals
        have hcv := conv_str (P := Tryd.prog) Tryd.underlying22 Tryd.underlying5 (c := c3) (n := (hexL l).length) rfl hr3 _ Tryd.underlying9
        go_wp2_with fail
        refine (unhex_any _ _ ?_).mono ?_
        · rw [str_size2]; omega
        rintro e w4 g
        obtain ⟨A4, c4, rfl, hr4, hb4⟩ := got_yes (unhex_hex l) g
        have hr34 := (hr3).below hb4
        have hb4 : Below w.heap.size w w4 := hb3.trans (hb4.mono (hb3).size)
        clear g hcv
        have hcv := conv_str (P := Tryd.prog) Tryd.underlying22 Tryd.underlying5 (c := c3) (n := (hexL l).length) rfl hr34 _ Tryd.underlying9
        go_wp2_with fail
        refine (unhex_any _ _ ?_).mono ?_
        · rw [show (#[48] : Array UInt8) = [48].toArray from rfl, str_add_size]; simp only [List.length_singleton]; omega
        rintro e w5 g
        obtain ⟨rfl, hb5⟩ := got_no (by rw [show (#[48] : Array UInt8) = [48].toArray from rfl, str_add]; exact unhex_more _ _ (by rw [HH.out]; omega)) g
        have hr4 := hr4.below hb5
        have hr5 := hr.below (hb4.trans (hb5.mono hb4.size))
        have hb5 : Below w.heap.size w w5 := hb4.trans (hb5.mono hb4.size)
        clear g hcv
        have hcv := conv_str (P := Tryd.prog) Tryd.underlying22 Tryd.underlying5 (c := c4) (n := l.length) rfl hr4 _ Tryd.underlying9
        have hcw := conv_str (P := Tryd.prog) Tryd.underlying22 Tryd.underlying5 (c := c) (n := l.length) rfl hr5 _ Tryd.underlying9
        have t1 : (((hexL l).length : Int) == 2 * (l.length : Int)) = true := beq_iff_eq.2 (by rw [HH.out]; omega)
        go_wp2_with fail
        go_ret
        exact ⟨rfl, hb5⟩
    | true =>
      have HM := Lib.hid (show ((hexL l).map low).length = 2 * l.length by rw [List.length_map]; exact HH.out)
      go_enter Tryd.func6, Tryd.ntmps6
      go_wp2_with fail
      refine (awake_any _ htab).mono ?_
      rintro e w1 ⟨rfl, hb1⟩
      go_wp2_with fail
      refine (hex_any A c l _ (by omega) (hr.below hb1)).mono ?_
      rintro e w2 ⟨rfl, hb2⟩
      have hb2 : Below w.heap.size w w2 := hb1.trans (hb2.mono hb1.size)
      have hbs2 := hb2.size
      go_wp2_with (first
        | ((with_reducible refine list_conv _ rfl (.tmp 18) 9 22 rfl w.heap.size 5 ⟨(hexL l).toArray⟩ ?_ Tryd.underlying9 Tryd.underlying22 Tryd.underlying5 hms hbs2 ?_); rfl; intro v3 w3 hown3 hg3))
      have hb3 : Below w.heap.size w w3 := hb2.grown hg3 hbs2 (by simp)
      rw [str_size2] at hown3
      clear hg3 hsz hms
      have hlt70 : ∀ k (h : k < (hexL l).length), (hexL l)[k].toNat ≤ 70 := fun k h => hexL_le l _ (List.getElem_mem h)
      have H70 := Lib.hid hlt70
      have hH2 : (hexL l).length ≤ 200 := by rw [HH.out]; omega
      clear hlt70
      by_cases hz : (hexL l).length = 0
      · have hp : ¬ 0 < (hexL l).length := by omega
        clear hz
        obtain ⟨A3, c3, rfl, hr3⟩ := hown3.form
        clear hown3
        go_wp2_with fail
        refine wp_loop_rounds 1 ?_
        rw [rounds_succ]
        have hcv := conv_str (P := Tryd.prog) Tryd.underlying22 Tryd.underlying5 (c := c3) (n := (hexL l).length) rfl hr3 _ Tryd.underlying9
        go_wp2_with fail
        refine (unhex_any _ _ ?_).mono ?_
        · rw [str_size2]; omega
        rintro e w4 g
        obtain ⟨A4, c4, rfl, hr4, hb4⟩ := got_yes (unhex_hex l) g
        have hr34 := (hr3).below hb4
        have hb4 : Below w.heap.size w w4 := hb3.trans (hb4.mono (hb3).size)
        clear g hcv
        have hcv := conv_str (P := Tryd.prog) Tryd.underlying22 Tryd.underlying5 (c := c3) (n := (hexL l).length) rfl hr34 _ Tryd.underlying9
        go_wp2_with fail
        refine (unhex_any _ _ ?_).mono ?_
        · rw [show (#[48] : Array UInt8) = [48].toArray from rfl, str_add_size]; simp only [List.length_singleton]; omega
        rintro e w5 g
        obtain ⟨rfl, hb5⟩ := got_no (by rw [show (#[48] : Array UInt8) = [48].toArray from rfl, str_add]; exact unhex_more _ _ (by rw [HH.out]; omega)) g
        have hr4 := hr4.below hb5
        have hr5 := hr.below (hb4.trans (hb5.mono hb4.size))
        have hb5 : Below w.heap.size w w5 := hb4.trans (hb5.mono hb4.size)
        clear g hcv
        have hcv := conv_str (P := Tryd.prog) Tryd.underlying22 Tryd.underlying5 (c := c4) (n := l.length) rfl hr4 _ Tryd.underlying9
        have hcw := conv_str (P := Tryd.prog) Tryd.underlying22 Tryd.underlying5 (c := c) (n := l.length) rfl hr5 _ Tryd.underlying9
        have t1 : (((hexL l).length : Int) == 2 * (l.length : Int)) = true := beq_iff_eq.2 (by rw [HH.out]; omega)
        go_wp2_with fail
        go_ret
        exact ⟨rfl, hb5⟩
      · obtain ⟨G, cap, rfl, hG, hG2, hcap⟩ := hown3.some_ (by omega)
        go_wp2_with fail
        go_loopw [7] (fun i wr => ∃ (k : Nat) (xs : List Value), k ≤ (hexL l).length ∧ i = .int .i64 k ∧ Own wr w.heap.size 5 1 (.slice (some ⟨G, 0, none⟩) (hexL l).length cap) (hexL l).length xs ∧ Hid (∀ j, j < k → xs[j]? = (bs ((hexL l).map low))[j]?) ∧ Hid (∀ j, k ≤ j → xs[j]? = (bs (hexL l))[j]?) ∧ Below w.heap.size w wr) (fun i _ => (hexL l).length - (intOf i).toNat)
        case atStart => exact ⟨0, _, Nat.zero_le _, rfl, hown3, fun j h => absurd h (by omega), fun j _ => rfl, hb3⟩
        case round =>
          obtain ⟨k, xs, hk, rfl, hown, hdone, hrest, hbw⟩ := hrel
          by_cases hlt : k < (hexL l).length
          · have hv := hrest.out k (Nat.le_refl _)
            rw [bs_get _ _ hlt] at hv
            obtain ⟨hkx, hv2⟩ := List.getElem?_eq_some_iff.1 hv
            have hc1 := hown.cellAt k hkx
            rw [hv2] at hc1
            have hc2 := hown.frozenAt k hkx
            have h70 := H70.out k hlt
            have hc3 : wr.cell? ⟨G, k, none⟩ = some (.int .u8 ((hexL l)[k].toNat : Int)) := hc1
            clear hc1 hv hv2
            have HK := Lib.hid hkx
            have HL1 := Lib.hid (low_up (hexL l)[k])
            have HL2 := Lib.hid (low_same (hexL l)[k])
            clear hkx
            by_cases h65 : 65 ≤ (hexL l)[k].toNat
            · go_wp2_with fail
              go_roundw
              case rel =>
                refine ⟨k + 1, _, by omega, by go_num, hown.stored k _, fun j hj => ?_, fun j hj => ?_, hbw.setCell (p := ⟨G, k, none⟩) hG _⟩
                · by_cases e : k = j
                  · subst e
                    rw [List.getElem?_set_self HK.out, HL1.out h65 h70, bs_get _ _ (by simpa using hlt)]
                    simp
                  · rw [List.getElem?_set_ne e]; exact hdone.out j (by omega)
                · rw [List.getElem?_set_ne (by omega)]; exact hrest.out j (by omega)
              case measure => simp [intOf]; omega
            · have h65' : (hexL l)[k].toNat < 65 := by omega
              clear h65
              go_wp2_with fail
              go_roundw
              case rel =>
                refine ⟨k + 1, _, by omega, by go_num, hown, fun j hj => ?_, fun j hj => hrest.out j (by omega), hbw⟩
                by_cases e : k = j
                · subst e
                  rw [hrest.out k (Nat.le_refl _), bs_get _ _ hlt, bs_get _ _ (by simpa using hlt)]
                  simp only [List.getElem_map, HL2.out h65']
                · exact hdone.out j (by omega)
              case measure => simp [intOf]; omega
          · have hx : xs = bs ((hexL l).map low) := by
              refine List.ext_getElem? fun j => ?_
              by_cases hj : j < k
              · exact hdone.out j hj
              · have hxl := hown.1
                rw [List.getElem?_eq_none (by omega), List.getElem?_eq_none (by rw [bs_length, List.length_map]; omega)]
            subst hx
            have hr3 := hown.rd
            have HL := Lib.hid (show ((hexL l).map low).length = (hexL l).length by rw [List.length_map])
            have hM2 : ((hexL l).map low).length ≤ 200 := by rw [List.length_map]; exact hH2
            clear hdone hrest hown
            have hcv := conv_str (P := Tryd.prog) Tryd.underlying22 Tryd.underlying5 (c := cap) (n := (hexL l).length) HL.out hr3 _ Tryd.underlying9
            go_wp2_with fail
            refine (unhex_any _ _ ?_).mono ?_
            · rw [str_size2]; omega
            rintro e w4 g
            obtain ⟨A4, c4, rfl, hr4, hb4⟩ := got_yes (unhex_low l) g
            have hr34 := hr3.below hb4
            have hb4 : Below w.heap.size w w4 := hbw.trans (hb4.mono hbw.size)
            clear g hcv
            have hcv := conv_str (P := Tryd.prog) Tryd.underlying22 Tryd.underlying5 (c := cap) (n := (hexL l).length) HL.out hr34 _ Tryd.underlying9
            go_wp2_with fail
            refine (unhex_any _ _ ?_).mono ?_
            · rw [show (#[48] : Array UInt8) = [48].toArray from rfl, str_add_size]; simp only [List.length_singleton]; omega
            rintro e w5 g
            obtain ⟨rfl, hb5⟩ := got_no (by rw [show (#[48] : Array UInt8) = [48].toArray from rfl, str_add]; exact unhex_more _ _ (by rw [HM.out]; omega)) g
            have hr4 := hr4.below hb5
            have hr5 := hr.below (hb4.trans (hb5.mono hb4.size))
            have hb5 : Below w.heap.size w w5 := hb4.trans (hb5.mono hb4.size)
            clear g hcv
            have hcv := conv_str (P := Tryd.prog) Tryd.underlying22 Tryd.underlying5 (c := c4) (n := l.length) rfl hr4 _ Tryd.underlying9
            have hcw := conv_str (P := Tryd.prog) Tryd.underlying22 Tryd.underlying5 (c := c) (n := l.length) rfl hr5 _ Tryd.underlying9
            have t1 : (((hexL l).length : Int) == 2 * (l.length : Int)) = true := beq_iff_eq.2 (by rw [HH.out]; omega)
            go_wp2_with fail
            go_ret
            exact ⟨rfl, hb5⟩
end Go.Proofs.YtadmokikbajenaaDoor
