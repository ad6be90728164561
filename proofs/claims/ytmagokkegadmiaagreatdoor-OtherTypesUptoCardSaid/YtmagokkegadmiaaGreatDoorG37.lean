/-
  Layer 3, walked: the document's nums beside a box: what it makes lies apart. Layer 3, walked: the document's guess. Layer 3, walked: the document's guess: the other kinds.
-/
import Derived.Test.YtmagokkegadmiaaGreatDoorG03
import Derived.Test.YtmagokkegadmiaaGreatDoorG05
import Derived.Test.YtmagokkegadmiaaGreatDoorG07
import Derived.Test.YtmagokkegadmiaaGreatDoorG14
import Derived.Test.YtmagokkegadmiaaGreatDoorG26
import Derived.Test.YtmagokkegadmiaaGreatDoorG36
import Derived.Deep.RegionHeld
import Derived.Deep.RegionHeld3
import Derived.Deep.Cut
namespace Go.Proofs.YtmagokkegadmiaaGreatDoor
open Go.RowKit

set_option maxRecDepth 100000 in
set_option maxHeartbeats 8000000 in
theorem nums_box (s : ByteArray) (w : World) (g : Nat) (cs : Array Value) (hz : Blk w g 52 cs) (hl : s.size ≤ 4294967296) (ps : List (List Int)) (hq : numsL s.data.toList = ps) :
    Calls Tryz.prog 84 #[.string s] w fun e w' => (∃ A c, e = .returned (.slice A ps.length c) ∧ RdPN g w' A ps) ∧ Below w.heap.size w w' := by
  have HZ := Lib.hid hz
  clear hz
  by_cases h0 : s.data.toList = []
  · obtain rfl : [] = ps := by rw [← hq, h0]; rfl
    obtain rfl : s = ⟨#[]⟩ := by apply ByteArray.ext; simpa using h0
    go_enter Tryz.func84, Tryz.ntmps84
    go_wp2
    go_ret
    exact ⟨⟨none, ⟨0, rfl⟩, RdPN.nil _ _ _⟩, Below.refl _ _⟩
  · have hq2 : numsGo (-1) [] (s.data.toList.drop 0) = ps := by rw [← hq, List.drop_zero]; unfold numsL; rw [if_neg h0]
    have hne : s.toList.isEmpty = false := by rw [ByteArray.toList_eq]; cases h : s.data.toList with
      | nil => exact absurd h h0
      | cons => rfl
    obtain ⟨i0, hi, hz0, hz1, hz2⟩ : ∃ i, Tryz.prog.info? 3 = some i ∧ i.zero = some (.int .i64 0) ∧ i.size = 1 ∧ i.bytes = 8 := ⟨_, rfl, rfl, rfl, rfl⟩
    obtain ⟨j0, hj, hy0, hy1, hy2⟩ : ∃ i, Tryz.prog.info? 56 = some i ∧ i.zero = some (.slice none 0 0) ∧ i.size = 1 ∧ i.bytes = 24 := ⟨_, rfl, rfl, rfl, rfl⟩
    clear hq h0
    go_enter Tryz.func84, Tryz.ntmps84
    go_wp2
    go_loopw [3, 4, 5, 6] (fun vo v1 nv i wr => ∃ (k : Nat) (outs : List (List Int)) (xs : List Value) (one : List Int) (n : Int) (B : Nat), i = .int .i64 k ∧ nv = .int .i64 n ∧ (-1 ≤ n ∧ n ≤ 1114112) ∧ (Own wr w.heap.size 56 1 vo outs.length xs ∧ Rows wr B 3 xs outs ∧ Own wr B 3 1 v1 one.length (is_ one)) ∧ (w.heap.size ≤ B ∧ B ≤ wr.heap.size ∧ Below w.heap.size w wr) ∧ (one.length ≤ k ∧ outs.length ≤ k) ∧ ((k ≤ s.size ∧ outs ++ numsGo n one (s.data.toList.drop k) = ps) ∨ (k = s.size + 1 ∧ outs = ps))) (fun _ _ _ i _ => s.size + 1 - (intOf i).toNat)
    case atStart =>
      refine ⟨0, [], [], [], -1, w.heap.size, rfl, rfl, ⟨by omega, by omega⟩, ⟨own_zero _ _ _ _ _ (Nat.le_refl _) ⟨_, heap_alloc_new w _⟩, ⟨rfl, fun k hk => absurd hk (by simp)⟩, Own.nil_ _ _ _ _⟩, ⟨Nat.le_refl _, by simp, (Below.refl _ _).alloc (Nat.le_refl _) _⟩, ⟨by simp, by simp⟩, .inl ⟨Nat.zero_le _, hq2⟩⟩
    case round =>
      obtain ⟨k, outs, xs, one, n, B, rfl, rfl, ⟨hn0, hn1⟩, ⟨ho, hrs, h1⟩, ⟨hB0, hB1, hbw⟩, ⟨hk1, hk2⟩, hE⟩ := hrel
      have HO := Lib.hid ho
      have HRS := Lib.hid hrs
      have H1 := Lib.hid h1
      clear ho hrs h1 hq2
      rcases hE with ⟨hk, hE⟩ | ⟨hk, hE⟩
      · have HE := Lib.hid hE
        clear hE
        by_cases hlt : k < s.size
        · have hlt2 : k < s.data.toList.length := by simpa using hlt
          have HB := Lib.hid (byte_at s k hlt)
          have hd := (s[k]'hlt).toNat_lt
          have k0 : (0 : Int) ≤ (k : Int) := by omega
          have kk : (k : Int) < (s.size : Int) := by omega
          by_cases hdg : 48 ≤ (s[k]'hlt).toNat ∧ (s[k]'hlt).toNat ≤ 57
          · have HE2 := Lib.hid (show outs ++ numsGo (rd 1114112 n (s[k]'hlt)) one (s.data.toList.drop (k + 1)) = ps by
              rw [← HE.out, go_fig hlt2 (by rw [← HB.out]; exact decide_eq_true hdg), ← HB.out])
            obtain ⟨d0, d1⟩ := hdg
            have e1 : rd 1114112 n (s[k]'hlt) = min (10 * max n 0 + (((s[k]'hlt).toNat : Int) - 48)) 1114112 := rfl
            have hr0 : 0 ≤ rd 1114112 n (s[k]'hlt) ∧ rd 1114112 n (s[k]'hlt) ≤ 1114112 := by rw [e1]; omega
            go_wp2
            go_round
            case rel => exact ⟨k + 1, outs, xs, one, rd 1114112 n (s[k]'hlt), B, by go_num, by first | rfl | (rw [e1]; go_num), ⟨by omega, by omega⟩, ⟨HO.out, HRS.out, H1.out⟩, ⟨hB0, hB1, hbw⟩, ⟨by omega, by omega⟩, .inl ⟨by omega, HE2.out⟩⟩
            case measure => simp [intOf]; omega
          · have hnd := not_dig hdg
            have hdd : (s[k]'hlt).toNat < 48 ∨ 57 < (s[k]'hlt).toNat := by omega
            have tk : ((k : Int) == (s.size : Int)) = false := beq_false_of_ne (by omega)
            clear hdg
            by_cases h9 : (s[k]'hlt).toNat = 59
            · have HE2 := Lib.hid (show (outs ++ [one ++ [n]]) ++ numsGo (-1) [] (s.data.toList.drop (k + 1)) = ps by
                rw [← HE.out, go_semi hlt2 (by rw [← HB.out]; exact hnd) (by rw [← HB.out]; exact UInt8.toNat_inj.1 h9), List.append_assoc]; rfl)
              have t9 : (((s[k]'hlt).toNat : Int) == 59) = true := beq_iff_eq.2 (by omega)
              have hd57 : 57 < (s[k]'hlt).toNat := by omega
              clear hdd
              have hown1 := H1.out.alloc (.cells #[.int .i64 n] 3)
              have hrd1 : Rd (wr.alloc (.cells #[.int .i64 n] 3)) (some ⟨wr.heap.size, 0, none⟩) [.int .i64 n] := Rd.block (heap_alloc_new wr _) (by simp)
              have h63 : one.length + 1 ≤ maxLen := by simp only [maxLen]; omega
              have hlim : (one.length + 1) * 8 ≤ 140737488355328 := by omega
              have hbs1 : B ≤ (wr.alloc (.cells #[.int .i64 n] 3)).heap.size := by simp; omega
              have hone1 : ∀ u ∈ [Value.int IntKind.i64 n], u.oneCell' = true := fun u hu => by rw [List.mem_singleton] at hu; subst hu; rfl
              go_upto_region 14 with (first | (at_builtin; refine list_app _ rfl (.tmp 42) (.tmp 44) 56 rfl B 3 i0 _ 1 8 Tryz.underlying56 hi hz0 hz1 hz2 rfl Nat.one_pos _ _ _ rfl hown1 _ 1 1 [.int .i64 n] rfl rfl hrd1 hone1 h63 hlim hbs1 ?_; intro v4 w4 hown4 hg4))
              rw [← is_snoc] at hown4
              have hoA := (HO.out.alloc (.cells #[.int .i64 n] 3)).kept hg4 (own_apart (HO.out.alloc (.cells #[.int .i64 n] 3)) hown1 (by decide))
              have hrA := (HRS.out.keep (Nat.le_refl B) (fun q hq _ => Below.heap_alloc wr (.cells #[.int .i64 n] 3) q (by omega))).keep (Nat.le_refl B) (keep_one hown1 hg4 (Nat.le_refl B) hbs1)
              have hbA : Below w.heap.size w w4 := (hbw.alloc hbw.size (.cells #[.int .i64 n] 3)).grown hg4 (by simp; omega) (fun g hg => by have := (hown1.lt g hg).1; omega)
              have hsA : B ≤ w4.heap.size := Nat.le_trans hbs1 hg4.size
              obtain ⟨hn4, A4, c4, rfl, hri⟩ := own_row hown4
              have HN4 := Lib.hid hn4
              clear hn4
              clear hown1 hrd1 h63 hlim hbs1 hone1 hg4
              have hownO := hoA.alloc (.cells #[.slice A4 (one.length + 1) c4] 56)
              have hrdO : Rd (w4.alloc (.cells #[.slice A4 (one.length + 1) c4] 56)) (some ⟨w4.heap.size, 0, none⟩) [.slice A4 (one.length + 1) c4] := Rd.block (heap_alloc_new w4 _) (by simp)
              have h63o : outs.length + 1 ≤ maxLen := by simp only [maxLen]; omega
              have hlimo : (outs.length + 1) * 24 ≤ 140737488355328 := by omega
              have hbs4 : w.heap.size ≤ (w4.alloc (.cells #[.slice A4 (one.length + 1) c4] 56)).heap.size := by simp; omega
              go_wp2_with (first | (at_builtin; refine list_app _ rfl (.tmp 56) (.tmp 58) 50 rfl w.heap.size 56 j0 _ 1 24 Tryz.underlying50 hj hy0 hy1 hy2 rfl Nat.one_pos _ _ _ rfl hownO _ 1 1 [.slice A4 (one.length + 1) c4] rfl rfl hrdO (sl_one _ _ _) h63o hlimo hbs4 ?_; intro v5 w5 hown5 hg5))
              have hrB := ((hrA.keep (Nat.le_refl B) (fun q hq _ => Below.heap_alloc w4 (.cells #[.slice A4 (one.length + 1) c4] 56) q (by omega))).keep (B' := w4.heap.size) hsA (fun _ _ _ => rfl)).snoc2 HN4.out (c := c4) (hri.keep (Nat.le_refl _) (fun q hq _ => Below.heap_alloc w4 (.cells #[.slice A4 (one.length + 1) c4] 56) q hq))
              have hrC := hrB.keep (B' := w5.heap.size) (Nat.le_trans (by simp) hg5.size) (keep_out hownO (by decide) hg5)
              have hbC : Below w.heap.size w w5 := (hbA.alloc hbA.size (.cells #[.slice A4 (one.length + 1) c4] 56)).grown hg5 hbs4 (fun g hg => (hownO.lt g hg).1)
              clear hownO hrdO h63o hlimo hbs4 hrB hrA hoA hg5
              go_wp2
              go_round
              case rel => exact ⟨k + 1, outs ++ [one ++ [n]], _, [], -1, w5.heap.size, by go_num, rfl, ⟨by omega, by omega⟩, ⟨by rw [List.length_append, List.length_singleton]; exact hown5, hrC, Own.nil_ _ _ _ _⟩, ⟨hbC.size, Nat.le_refl _, hbC⟩, ⟨by simp, by rw [List.length_append, List.length_singleton]; omega⟩, .inl ⟨by omega, HE2.out⟩⟩
              case measure => simp [intOf]; omega
            · have HE2 := Lib.hid (show outs ++ numsGo (-1) (one ++ [n]) (s.data.toList.drop (k + 1)) = ps by
                rw [← HE.out, go_colon hlt2 (by rw [← HB.out]; exact hnd) (by rw [← HB.out]; exact fun e => h9 (by rw [e]; rfl))])
              have t9 : (((s[k]'hlt).toNat : Int) == 59) = false := beq_false_of_ne (by omega)
              rcases hdd with hdd | hdd
              · have hown1 := H1.out.alloc (.cells #[.int .i64 n] 3)
                have hrd1 : Rd (wr.alloc (.cells #[.int .i64 n] 3)) (some ⟨wr.heap.size, 0, none⟩) [.int .i64 n] := Rd.block (heap_alloc_new wr _) (by simp)
                have h63 : one.length + 1 ≤ maxLen := by simp only [maxLen]; omega
                have hlim : (one.length + 1) * 8 ≤ 140737488355328 := by omega
                have hbs1 : B ≤ (wr.alloc (.cells #[.int .i64 n] 3)).heap.size := by simp; omega
                have hone1 : ∀ u ∈ [Value.int IntKind.i64 n], u.oneCell' = true := fun u hu => by rw [List.mem_singleton] at hu; subst hu; rfl
                go_wp2_with (first | (at_builtin; refine list_app _ rfl (.tmp 42) (.tmp 44) 56 rfl B 3 i0 _ 1 8 Tryz.underlying56 hi hz0 hz1 hz2 rfl Nat.one_pos _ _ _ rfl hown1 _ 1 1 [.int .i64 n] rfl rfl hrd1 hone1 h63 hlim hbs1 ?_; intro v4 w4 hown4 hg4))
                rw [← is_snoc] at hown4
                have hoA := (HO.out.alloc (.cells #[.int .i64 n] 3)).kept hg4 (own_apart (HO.out.alloc (.cells #[.int .i64 n] 3)) hown1 (by decide))
                have hrA := (HRS.out.keep (Nat.le_refl B) (fun q hq _ => Below.heap_alloc wr (.cells #[.int .i64 n] 3) q (by omega))).keep (Nat.le_refl B) (keep_one hown1 hg4 (Nat.le_refl B) hbs1)
                have hbA : Below w.heap.size w w4 := (hbw.alloc hbw.size (.cells #[.int .i64 n] 3)).grown hg4 (by simp; omega) (fun g hg => by have := (hown1.lt g hg).1; omega)
                have hsA : B ≤ w4.heap.size := Nat.le_trans hbs1 hg4.size
                obtain ⟨hn4, A4, c4, rfl, hri⟩ := own_row hown4
                have HN4 := Lib.hid hn4
                clear hn4
                clear hown1 hrd1 h63 hlim hbs1 hone1 hg4
                go_wp2
                go_round
                case rel => exact ⟨k + 1, outs, xs, one ++ [n], -1, B, by go_num, rfl, ⟨by omega, by omega⟩, ⟨hoA, hrA, by rw [← HN4.out]; exact hown4⟩, ⟨hB0, hsA, hbA⟩, ⟨by rw [List.length_append, List.length_singleton]; omega, by omega⟩, .inl ⟨by omega, HE2.out⟩⟩
                case measure => simp [intOf]; omega
              · have hown1 := H1.out.alloc (.cells #[.int .i64 n] 3)
                have hrd1 : Rd (wr.alloc (.cells #[.int .i64 n] 3)) (some ⟨wr.heap.size, 0, none⟩) [.int .i64 n] := Rd.block (heap_alloc_new wr _) (by simp)
                have h63 : one.length + 1 ≤ maxLen := by simp only [maxLen]; omega
                have hlim : (one.length + 1) * 8 ≤ 140737488355328 := by omega
                have hbs1 : B ≤ (wr.alloc (.cells #[.int .i64 n] 3)).heap.size := by simp; omega
                have hone1 : ∀ u ∈ [Value.int IntKind.i64 n], u.oneCell' = true := fun u hu => by rw [List.mem_singleton] at hu; subst hu; rfl
                go_wp2_with (first | (at_builtin; refine list_app _ rfl (.tmp 42) (.tmp 44) 56 rfl B 3 i0 _ 1 8 Tryz.underlying56 hi hz0 hz1 hz2 rfl Nat.one_pos _ _ _ rfl hown1 _ 1 1 [.int .i64 n] rfl rfl hrd1 hone1 h63 hlim hbs1 ?_; intro v4 w4 hown4 hg4))
                rw [← is_snoc] at hown4
                have hoA := (HO.out.alloc (.cells #[.int .i64 n] 3)).kept hg4 (own_apart (HO.out.alloc (.cells #[.int .i64 n] 3)) hown1 (by decide))
                have hrA := (HRS.out.keep (Nat.le_refl B) (fun q hq _ => Below.heap_alloc wr (.cells #[.int .i64 n] 3) q (by omega))).keep (Nat.le_refl B) (keep_one hown1 hg4 (Nat.le_refl B) hbs1)
                have hbA : Below w.heap.size w w4 := (hbw.alloc hbw.size (.cells #[.int .i64 n] 3)).grown hg4 (by simp; omega) (fun g hg => by have := (hown1.lt g hg).1; omega)
                have hsA : B ≤ w4.heap.size := Nat.le_trans hbs1 hg4.size
                obtain ⟨hn4, A4, c4, rfl, hri⟩ := own_row hown4
                have HN4 := Lib.hid hn4
                clear hn4
                clear hown1 hrd1 h63 hlim hbs1 hone1 hg4
                go_wp2
                go_round
                case rel => exact ⟨k + 1, outs, xs, one ++ [n], -1, B, by go_num, rfl, ⟨by omega, by omega⟩, ⟨hoA, hrA, by rw [← HN4.out]; exact hown4⟩, ⟨hB0, hsA, hbA⟩, ⟨by rw [List.length_append, List.length_singleton]; omega, by omega⟩, .inl ⟨by omega, HE2.out⟩⟩
                case measure => simp [intOf]; omega
        · have hk3 : k = s.size := by omega
          have HE2 := Lib.hid (show outs ++ [one ++ [n]] = ps by rw [← HE.out, go_end (by simp; omega)])
          have kk : ¬ (k : Int) < (s.size : Int) := by omega
          have tk : ((k : Int) == (s.size : Int)) = true := beq_iff_eq.2 (by omega)
          have hown1 := H1.out.alloc (.cells #[.int .i64 n] 3)
          have hrd1 : Rd (wr.alloc (.cells #[.int .i64 n] 3)) (some ⟨wr.heap.size, 0, none⟩) [.int .i64 n] := Rd.block (heap_alloc_new wr _) (by simp)
          have h63 : one.length + 1 ≤ maxLen := by simp only [maxLen]; omega
          have hlim : (one.length + 1) * 8 ≤ 140737488355328 := by omega
          have hbs1 : B ≤ (wr.alloc (.cells #[.int .i64 n] 3)).heap.size := by simp; omega
          have hone1 : ∀ u ∈ [Value.int IntKind.i64 n], u.oneCell' = true := fun u hu => by rw [List.mem_singleton] at hu; subst hu; rfl
          go_upto_region 14 with (first | (at_builtin; refine list_app _ rfl (.tmp 42) (.tmp 44) 56 rfl B 3 i0 _ 1 8 Tryz.underlying56 hi hz0 hz1 hz2 rfl Nat.one_pos _ _ _ rfl hown1 _ 1 1 [.int .i64 n] rfl rfl hrd1 hone1 h63 hlim hbs1 ?_; intro v4 w4 hown4 hg4))
          rw [← is_snoc] at hown4
          have hoA := (HO.out.alloc (.cells #[.int .i64 n] 3)).kept hg4 (own_apart (HO.out.alloc (.cells #[.int .i64 n] 3)) hown1 (by decide))
          have hrA := (HRS.out.keep (Nat.le_refl B) (fun q hq _ => Below.heap_alloc wr (.cells #[.int .i64 n] 3) q (by omega))).keep (Nat.le_refl B) (keep_one hown1 hg4 (Nat.le_refl B) hbs1)
          have hbA : Below w.heap.size w w4 := (hbw.alloc hbw.size (.cells #[.int .i64 n] 3)).grown hg4 (by simp; omega) (fun g hg => by have := (hown1.lt g hg).1; omega)
          have hsA : B ≤ w4.heap.size := Nat.le_trans hbs1 hg4.size
          obtain ⟨hn4, A4, c4, rfl, hri⟩ := own_row hown4
          have HN4 := Lib.hid hn4
          clear hn4
          clear hown1 hrd1 h63 hlim hbs1 hone1 hg4
          have hownO := hoA.alloc (.cells #[.slice A4 (one.length + 1) c4] 56)
          have hrdO : Rd (w4.alloc (.cells #[.slice A4 (one.length + 1) c4] 56)) (some ⟨w4.heap.size, 0, none⟩) [.slice A4 (one.length + 1) c4] := Rd.block (heap_alloc_new w4 _) (by simp)
          have h63o : outs.length + 1 ≤ maxLen := by simp only [maxLen]; omega
          have hlimo : (outs.length + 1) * 24 ≤ 140737488355328 := by omega
          have hbs4 : w.heap.size ≤ (w4.alloc (.cells #[.slice A4 (one.length + 1) c4] 56)).heap.size := by simp; omega
          go_wp2_with (first | (at_builtin; refine list_app _ rfl (.tmp 56) (.tmp 58) 50 rfl w.heap.size 56 j0 _ 1 24 Tryz.underlying50 hj hy0 hy1 hy2 rfl Nat.one_pos _ _ _ rfl hownO _ 1 1 [.slice A4 (one.length + 1) c4] rfl rfl hrdO (sl_one _ _ _) h63o hlimo hbs4 ?_; intro v5 w5 hown5 hg5))
          have hrB := ((hrA.keep (Nat.le_refl B) (fun q hq _ => Below.heap_alloc w4 (.cells #[.slice A4 (one.length + 1) c4] 56) q (by omega))).keep (B' := w4.heap.size) hsA (fun _ _ _ => rfl)).snoc2 HN4.out (c := c4) (hri.keep (Nat.le_refl _) (fun q hq _ => Below.heap_alloc w4 (.cells #[.slice A4 (one.length + 1) c4] 56) q hq))
          have hrC := hrB.keep (B' := w5.heap.size) (Nat.le_trans (by simp) hg5.size) (keep_out hownO (by decide) hg5)
          have hbC : Below w.heap.size w w5 := (hbA.alloc hbA.size (.cells #[.slice A4 (one.length + 1) c4] 56)).grown hg5 hbs4 (fun g hg => (hownO.lt g hg).1)
          clear hownO hrdO h63o hlimo hbs4 hrB hrA hoA hg5
          go_wp2
          go_round
          case rel => exact ⟨k + 1, outs ++ [one ++ [n]], _, [], -1, w5.heap.size, by go_num, rfl, ⟨by omega, by omega⟩, ⟨by rw [List.length_append, List.length_singleton]; exact hown5, hrC, Own.nil_ _ _ _ _⟩, ⟨hbC.size, Nat.le_refl _, hbC⟩, ⟨by simp, by rw [List.length_append, List.length_singleton]; omega⟩, .inr ⟨by omega, HE2.out⟩⟩
          case measure => simp [intOf]; omega
      · subst hE
        go_wp2
        obtain ⟨A, c, rfl, hrd⟩ := HRS.out.rdpn HO.out (HZ.out.below hbw HZ.out.lt) (by decide) (by decide)
        go_ret
        exact ⟨⟨A, c, rfl, hrd⟩, hbw⟩
end Go.Proofs.YtmagokkegadmiaaGreatDoor
namespace Go.Proofs.YtmagokkegadmiaaGreatDoor
open Go.RowKit

theorem getD_at (l : List UInt8) (i : Nat) (h : i < l.length) : l.getD i 0 = l[i] := by
  rw [List.getD_eq_getElem?_getD, List.getElem?_eq_getElem h, Option.getD_some]
/-- What the guess tells. -/
def GuessP (l : List UInt8) (w : World) (e : Ending) (w' : World) : Prop :=
  (match guessS l with
   | some (q, n) => ∃ A c g, e = .returned (.tuple #[sqV q A c, .int .i64 (n : Nat)]) ∧ RdPN g w' A q.params
   | none => ∃ (k b f : Int) (A : Option Addr) (n c : Nat) (x y : ByteArray), e = .returned (.tuple #[.agg #[.int .i64 k, .int .u8 b, .slice A n c, .string x, .int .u8 f, .string y], .int .i64 (-1)])) ∧ Below w.heap.size w w'
theorem gp_no {l : List UInt8} {w w' : World} {e : Ending} (h : guessS l = none) (k b f : Int) (A : Option Addr) (n c : Nat) (x y : ByteArray) (he : e = .returned (.tuple #[.agg #[.int .i64 k, .int .u8 b, .slice A n c, .string x, .int .u8 f, .string y], .int .i64 (-1)])) (hb : Below w.heap.size w w') : GuessP l w e w' := by
  unfold GuessP
  rw [h]
  exact ⟨⟨k, b, f, A, n, c, x, y, he⟩, hb⟩
theorem gp_yes {l : List UInt8} {w w' : World} {e : Ending} {q : Sq} {n : Nat} (h : guessS l = some (q, n)) (A : Option Addr) (c : Nat) (he : e = .returned (.tuple #[sqV q A c, .int .i64 n])) {g : Nat} (hr : RdPN g w' A q.params) (hb : Below w.heap.size w w') : GuessP l w e w' := by
  unfold GuessP
  rw [h]
  exact ⟨⟨A, c, g, he, hr⟩, hb⟩
theorem RdPN.below {g : Nat} {w w' : World} {A : Option Addr} {ps : List (List Int)} (h : RdPN g w A ps) (hb : Below w.heap.size w w') : RdPN g w' A ps :=
  h.keep fun k _ ⟨cur, fz, hh⟩ => hb.block k (by rcases hh with hh | hh <;> exact (Array.getElem?_eq_some_iff.1 hh).1)
theorem u8_is {c : UInt8} {n : Nat} (h : c.toNat = n) : c = UInt8.ofNat n := by rw [← h]; simp
theorem ext_list (s : ByteArray) (at_ n m a b : Nat) (hn : runL s.data.toList at_ a b = n) (hm : at_ + n = m) : (s.extract at_ m).data.toList = (s.data.toList.drop at_).takeWhile (btw a b) := by
  have h1 : (s.data.toList.drop at_).takeWhile (btw a b) = (s.data.toList.drop at_).take n := by
    rw [← hn]
    exact List.prefix_iff_eq_take.1 (List.takeWhile_prefix _)
  rw [h1, ByteArray.data_extract, Array.toList_extract, ← hm]
  simp
theorem ext_str (s : ByteArray) (at_ n m a b : Nat) (hn : runL s.data.toList at_ a b = n) (hm : at_ + n = m) : s.extract at_ m = ⟨((s.data.toList.drop at_).takeWhile (btw a b)).toArray⟩ := by
  apply ByteArray.ext
  rw [← ext_list s at_ n m a b hn hm]
theorem ext_size (s : ByteArray) (a b : Nat) (h : s.size ≤ 4294967296) : (s.extract a b).size ≤ 4294967296 := by
  rw [ByteArray.size_extract]
  omega
theorem two_bytes (s : ByteArray) (h2 : 1 < s.size) : s.data.toList = s[0] :: s[1] :: s.data.toList.drop 2 := by
  have hlen : s.data.toList.length = s.size := by simp
  have e0 := List.drop_eq_getElem_cons (l := s.data.toList) (i := 0) (by omega)
  have e1 := List.drop_eq_getElem_cons (l := s.data.toList) (i := 1) (by omega)
  rw [List.drop_zero, Nat.zero_add, e1] at e0
  exact e0
theorem third (s : ByteArray) (h : 2 < s.size) : s.data.toList.drop 2 = s[2] :: s.data.toList.drop 3 := by
  have hlen : s.data.toList.length = s.size := by simp
  exact List.drop_eq_getElem_cons (l := s.data.toList) (i := 2) (by omega)
/-- The character of a kind. -/
def kindC (k : Int) : Nat := if k = 1 then 91 else 80
theorem guess_seq (s : ByteArray) (h2 : 1 < s.size) (h0 : (s[0]'(by omega)).toNat = 27) (k : Int) (h1 : (s[1]'h2).toNat = kindC k) (hk : k = 1 ∨ k = 3) : guessS s.data.toList = seqS k (s.data.toList.drop 2) := by
  rw [two_bytes s h2, u8_is h0, u8_is h1]
  rcases hk with rfl | rfl <;> simp [guessS, kindC]
theorem seq_e (k : Int) (s : ByteArray) (h : s.size = 2) : seqS k (s.data.toList.drop 2) = tailS k 0 2 (s.data.toList.drop 2) := by
  have : s.data.toList.drop 2 = [] := List.drop_eq_nil_of_le (by simp; omega)
  rw [this]; rfl
theorem seq_no (k : Int) (s : ByteArray) (h : 2 < s.size) (hc : (s[2]'h).toNat < 60 ∨ 63 < (s[2]'h).toNat) : seqS k (s.data.toList.drop 2) = tailS k 0 2 (s.data.toList.drop 2) := by
  rw [third s h]
  unfold seqS
  dsimp only
  rw [if_neg (by rw [Bool.not_eq_true, btw_no]; omega)]
theorem seq_yes (k : Int) (s : ByteArray) (h : 2 < s.size) (hc : 60 ≤ (s[2]'h).toNat ∧ (s[2]'h).toNat ≤ 63) : seqS k (s.data.toList.drop 2) = tailS k (s[2]'h) 3 (s.data.toList.drop 3) := by
  rw [third s h]
  unfold seqS
  dsimp only
  rw [if_pos ((btw_iff _ _ _).2 hc)]
theorem tail_none (k : Int) (pv : UInt8) (at_ n1 n2 m1 m2 : Nat) (l : List UInt8) (h1 : runL l at_ 48 59 = n1) (e1 : at_ + n1 = m1) (h2 : runL l m1 32 47 = n2) (e2 : m1 + n2 = m2) (hm : l.length ≤ m2) : tailS k pv at_ (l.drop at_) = none := by
  unfold runL at h1 h2
  unfold tailS
  have d1 : (l.drop at_).drop n1 = l.drop m1 := by rw [List.drop_drop, e1]
  have d2 : (l.drop m1).drop n2 = l.drop m2 := by rw [List.drop_drop, e2]
  rw [h1, d1, h2, d2, List.drop_eq_nil_of_le hm]
theorem tail_some (k : Int) (pv : UInt8) (at_ n1 n2 m1 m2 : Nat) (l : List UInt8) (h1 : runL l at_ 48 59 = n1) (e1 : at_ + n1 = m1) (h2 : runL l m1 32 47 = n2) (e2 : m1 + n2 = m2) (ps : List (List Int)) (hp : numsL ((l.drop at_).takeWhile (btw 48 59)) = ps) (hm : m2 < l.length) :
    tailS k pv at_ (l.drop at_) = some (⟨k, pv, ps, (l.drop m1).takeWhile (btw 32 47), l.getD m2 0, if k = 3 then (l.drop (m2 + 1)).takeWhile (btw 32 126) else []⟩, m2 + 1 + if k = 3 then ((l.drop (m2 + 1)).takeWhile (btw 32 126)).length + 2 else 0) := by
  unfold runL at h1 h2
  unfold tailS
  have d1 : (l.drop at_).drop n1 = l.drop m1 := by rw [List.drop_drop, e1]
  have d2 : (l.drop m1).drop n2 = l.drop m2 := by rw [List.drop_drop, e2]
  rw [h1, d1, h2, d2, List.drop_eq_getElem_cons hm, hp]
  dsimp only
  rw [e1, e2, getD_at _ _ hm]
theorem tail_1 {pv : UInt8} {at_ m1 m2 : Nat} {l : List UInt8} {ps : List (List Int)} {x : UInt8} (h : m2 < l.length → tailS 1 pv at_ (l.drop at_) = some (⟨1, pv, ps, (l.drop m1).takeWhile (btw 32 47), l.getD m2 0, if (1 : Int) = 3 then (l.drop (m2 + 1)).takeWhile (btw 32 126) else []⟩, m2 + 1 + if (1 : Int) = 3 then ((l.drop (m2 + 1)).takeWhile (btw 32 126)).length + 2 else 0)) (hm : m2 < l.length) (hx : x = l.getD m2 0) :
    tailS 1 pv at_ (l.drop at_) = some (⟨1, pv, ps, (l.drop m1).takeWhile (btw 32 47), x, []⟩, m2 + 1) := by
  rw [h hm, hx]
  simp
theorem tail_3 {pv : UInt8} {at_ m1 m2 m3 m4 n3 : Nat} {l : List UInt8} {ps : List (List Int)} {x : UInt8} (h : m2 < l.length → tailS 3 pv at_ (l.drop at_) = some (⟨3, pv, ps, (l.drop m1).takeWhile (btw 32 47), l.getD m2 0, if (3 : Int) = 3 then (l.drop (m2 + 1)).takeWhile (btw 32 126) else []⟩, m2 + 1 + if (3 : Int) = 3 then ((l.drop (m2 + 1)).takeWhile (btw 32 126)).length + 2 else 0)) (hm : m2 < l.length) (hx : x = l.getD m2 0) (h3 : m2 + 1 = m3) (hn : runL l m3 32 126 = n3) (h4 : m3 + n3 = m4) :
    tailS 3 pv at_ (l.drop at_) = some (⟨3, pv, ps, (l.drop m1).takeWhile (btw 32 47), x, (l.drop m3).takeWhile (btw 32 126)⟩, m4 + 2) := by
  unfold runL at hn
  rw [h hm, hx, h3, if_pos rfl, if_pos rfl, hn, ← h4]
  rfl
theorem guess_short (s : ByteArray) (h : s.size < 2) : guessS s.data.toList = none := by
  have hlen : s.data.toList.length = s.size := by simp
  match hl : s.data.toList with
  | [] => rfl
  | [c] => rfl
  | a :: b :: r => rw [hl] at hlen; simp at hlen; omega
theorem guess_not (s : ByteArray) (h2 : 1 < s.size) (h0 : (s[0]'(by omega)).toNat ≠ 27) : guessS s.data.toList = none := by
  have e : s[0]'(by omega) ≠ 27 := fun e => h0 (by rw [e]; rfl)
  rw [two_bytes s h2]
  unfold guessS
  dsimp only
  rw [if_pos e]
theorem guess_79n (s : ByteArray) (h2 : s.size = 2) (h0 : (s[0]'(by omega)).toNat = 27) (h1 : (s[1]'(by omega)).toNat = 79) : guessS s.data.toList = none := by
  have e : s.data.toList.drop 2 = [] := List.drop_eq_nil_of_le (by simp; omega)
  rw [two_bytes s (by omega), u8_is h0, u8_is h1, e]
  rfl
theorem guess_79s (s : ByteArray) (h2 : 2 < s.size) (h0 : (s[0]'(by omega)).toNat = 27) (h1 : (s[1]'(by omega)).toNat = 79) : guessS s.data.toList = some (⟨2, 0, [], [], s[2], []⟩, 3) := by
  rw [two_bytes s (by omega), u8_is h0, u8_is h1, third s h2]
  rfl
theorem guess_93 (s : ByteArray) (h2 : 1 < s.size) (h0 : (s[0]'(by omega)).toNat = 27) (h1 : (s[1]'h2).toNat = 93) (n m : Nat) (hn : runL s.data.toList 2 32 126 = n) (hm : 2 + n = m) : guessS s.data.toList = some (⟨4, 0, [], [], 0, (s.data.toList.drop 2).takeWhile (btw 32 126)⟩, m + 2) := by
  unfold runL at hn
  rw [← hm, ← hn]
  conv => lhs; rw [two_bytes s h2, u8_is h0, u8_is h1]
  rfl
theorem guess_esc (s : ByteArray) (h2 : 1 < s.size) (h0 : (s[0]'(by omega)).toNat = 27) (h1 : (s[1]'h2).toNat ≠ 79 ∧ (s[1]'h2).toNat ≠ 93 ∧ (s[1]'h2).toNat ≠ 91 ∧ (s[1]'h2).toNat ≠ 80) : guessS s.data.toList = escS (s.data.toList.drop 1) := by
  obtain ⟨e1, e2, e3, e4⟩ := h1
  rw [two_bytes s h2, u8_is h0]
  unfold guessS
  dsimp only
  rw [if_neg (by decide), if_neg (fun e => e1 (by rw [e]; rfl)), if_neg (fun e => e2 (by rw [e]; rfl)), if_neg (fun e => e3 (by rw [e]; rfl)), if_neg (fun e => e4 (by rw [e]; rfl))]
  rfl
theorem esc_none (l : List UInt8) (n2 m2 : Nat) (h2 : runL l 1 32 47 = n2) (e2 : 1 + n2 = m2) (hm : l.length ≤ m2) : escS (l.drop 1) = none := by
  unfold runL at h2
  unfold escS
  rw [h2, List.drop_drop, e2, List.drop_eq_nil_of_le hm]
theorem esc_some (l : List UInt8) (n2 m2 : Nat) (x : UInt8) (h2 : runL l 1 32 47 = n2) (e2 : 1 + n2 = m2) (hm : m2 < l.length) (hx : x = l.getD m2 0) : escS (l.drop 1) = some (⟨5, 0, [], (l.drop 1).takeWhile (btw 32 47), x, []⟩, m2 + 1) := by
  unfold runL at h2
  unfold escS
  rw [h2, List.drop_drop, e2, List.drop_eq_getElem_cons hm, hx, getD_at _ _ hm]
end Go.Proofs.YtmagokkegadmiaaGreatDoor
namespace Go.Proofs.YtmagokkegadmiaaGreatDoor
open Go.RowKit

set_option maxRecDepth 100000 in
set_option maxHeartbeats 8000000 in
theorem guess_x_short (s : ByteArray) (w : World) (h : s.size < 2) :
    Calls Tryz.prog 58 #[.string s] w (GuessP s.data.toList w) := by
  have HG := Lib.hid (guess_short s h)
  go_enter Tryz.func58, Tryz.ntmps58
  go_wp2_with fail
  refine bodyPost_ret (v := .tuple #[.agg #[.int .i64 0, .int .u8 0, .slice none 0 0, .string ⟨#[]⟩, .int .u8 0, .string ⟨#[]⟩], .int .i64 (-1)]) (by simp [results, Tryz.results58, go_sem]) rfl (gp_no HG.out _ _ _ _ _ _ _ _ rfl ((Below.refl _ w).alloc (Nat.le_refl _) _))
set_option maxRecDepth 100000 in
set_option maxHeartbeats 8000000 in
theorem guess_x_not (s : ByteArray) (w : World) (h2 : 1 < s.size) (h0 : (s[0]'(by omega)).toNat ≠ 27) :
    Calls Tryz.prog 58 #[.string s] w (GuessP s.data.toList w) := by
  have HG := Lib.hid (guess_not s h2 h0)
  have t0 : (((s[0]'(by omega)).toNat : Int) == 27) = false := beq_false_of_ne (by omega)
  have t1 : (((s[0]'(by omega)).toNat : Int) != 27) = true := by simp [bne, t0]
  clear h0
  go_enter Tryz.func58, Tryz.ntmps58
  go_wp2_with fail
  refine bodyPost_ret (v := .tuple #[.agg #[.int .i64 0, .int .u8 0, .slice none 0 0, .string ⟨#[]⟩, .int .u8 0, .string ⟨#[]⟩], .int .i64 (-1)]) (by simp [results, Tryz.results58, go_sem]) rfl (gp_no HG.out _ _ _ _ _ _ _ _ rfl ((Below.refl _ w).alloc (Nat.le_refl _) _))
set_option maxRecDepth 100000 in
set_option maxHeartbeats 8000000 in
theorem guess_x_79n (s : ByteArray) (w : World) (h2 : s.size = 2) (h0 : (s[0]'(by omega)).toNat = 27) (h1 : (s[1]'(by omega)).toNat = 79) :
    Calls Tryz.prog 58 #[.string s] w (GuessP s.data.toList w) := by
  have HG := Lib.hid (guess_79n s h2 h0 h1)
  have b1 : ((s[0]'(by omega)).toNat : Int) = 27 := by omega
  have b2 : ((s[1]'(by omega)).toNat : Int) = 79 := by omega
  go_enter Tryz.func58, Tryz.ntmps58
  go_wp2_with fail
  refine bodyPost_ret (v := .tuple #[.agg #[.int .i64 5, .int .u8 0, .slice none 0 0, .string ⟨#[]⟩, .int .u8 0, .string ⟨#[]⟩], .int .i64 (-1)]) (by simp [results, Tryz.results58, go_sem]) rfl (gp_no HG.out _ _ _ _ _ _ _ _ rfl (((Below.refl _ w).alloc (Nat.le_refl _) _).alloc (by simp) _))
set_option maxRecDepth 100000 in
set_option maxHeartbeats 8000000 in
theorem guess_x_79s (s : ByteArray) (w : World) (h2 : 2 < s.size) (h0 : (s[0]'(by omega)).toNat = 27) (h1 : (s[1]'(by omega)).toNat = 79) :
    Calls Tryz.prog 58 #[.string s] w (GuessP s.data.toList w) := by
  have HG := Lib.hid (guess_79s s h2 h0 h1)
  have b1 : ((s[0]'(by omega)).toNat : Int) = 27 := by omega
  have b2 : ((s[1]'(by omega)).toNat : Int) = 79 := by omega
  go_enter Tryz.func58, Tryz.ntmps58
  go_wp2_with fail
  refine bodyPost_ret (v := .tuple #[.agg #[.int .i64 2, .int .u8 0, .slice none 0 0, .string ⟨#[]⟩, .int .u8 ((s[2]'h2).toNat : Int), .string ⟨#[]⟩], .int .i64 3]) (by simp [results, Tryz.results58, go_sem]) rfl (gp_yes HG.out none 0 rfl (RdPN.nil 0 _ _) (((Below.refl _ w).alloc (Nat.le_refl _) _).alloc (by simp) _))
set_option maxRecDepth 100000 in
set_option maxHeartbeats 8000000 in
theorem guess_x_93 (s : ByteArray) (w : World) (hl : s.size ≤ 4294967296) (h2 : 1 < s.size) (h0 : (s[0]'(by omega)).toNat = 27) (h1 : (s[1]'h2).toNat = 93) :
    Calls Tryz.prog 58 #[.string s] w (GuessP s.data.toList w) := by
  have b1 : ((s[0]'(by omega)).toNat : Int) = 27 := by omega
  have b2 : ((s[1]'h2).toNat : Int) = 93 := by omega
  have hlen : s.data.toList.length = s.size := by simp
  obtain ⟨n, hn⟩ : ∃ n, runL s.data.toList 2 32 126 = n := ⟨_, rfl⟩
  have r1 := run_le s.data.toList 2 32 126 (by omega)
  rw [hn, hlen] at r1
  have HN := Lib.hid hn
  obtain ⟨m, hm⟩ : ∃ m, 2 + n = m := ⟨_, rfl⟩
  rw [hm] at r1
  have HG := Lib.hid (guess_93 s h2 h0 h1 n m hn hm)
  have E1 := Lib.hid (ext_str s 2 n m 32 126 hn hm)
  have ew1 : IntKind.i64.wrap ((2 : Int) + (n : Int)) = (m : Int) := by have := IntWalk.i64_in ((2 : Int) + (n : Int)) (by omega); rw [this]; omega
  have q1 : (2 : Int) ≤ (m : Int) := by omega
  have q2 : (m : Int) ≤ (s.size : Int) := by omega
  clear hn hm
  go_enter Tryz.func58, Tryz.ntmps58
  go_wp2_with fail
  refine (run_str s 2 32 126 n _ hl (by omega) HN.out).mono ?_
  rintro e w1 ⟨rfl, rfl⟩
  go_wp2_with fail
  refine bodyPost_ret (v := .tuple #[.agg #[.int .i64 4, .int .u8 0, .slice none 0 0, .string ⟨#[]⟩, .int .u8 0, .string (s.extract 2 m)], .int .i64 ((m : Int) + 2)]) (by simp [results, Tryz.results58, go_sem]) rfl (gp_yes HG.out none 0 (by rw [E1.out]; rfl) (RdPN.nil 0 _ _) (((Below.refl _ w).alloc (Nat.le_refl _) _).alloc (by simp) _))
set_option maxRecDepth 100000 in
set_option maxHeartbeats 8000000 in
theorem guess_x_esc (s : ByteArray) (w : World) (hl : s.size ≤ 4294967296) (h2 : 1 < s.size) (h0 : (s[0]'(by omega)).toNat = 27) (h1 : (s[1]'h2).toNat ≠ 79 ∧ (s[1]'h2).toNat ≠ 93 ∧ (s[1]'h2).toNat ≠ 91 ∧ (s[1]'h2).toNat ≠ 80) :
    Calls Tryz.prog 58 #[.string s] w (GuessP s.data.toList w) := by
  have HQ := Lib.hid (guess_esc s h2 h0 h1)
  have b1 : ((s[0]'(by omega)).toNat : Int) = 27 := by omega
  have t79 : (((s[1]'h2).toNat : Int) == 79) = false := beq_false_of_ne (by omega)
  have t93 : (((s[1]'h2).toNat : Int) == 93) = false := beq_false_of_ne (by omega)
  have t91 : (((s[1]'h2).toNat : Int) == 91) = false := beq_false_of_ne (by omega)
  have t80 : (((s[1]'h2).toNat : Int) == 80) = false := beq_false_of_ne (by omega)
  have hlen : s.data.toList.length = s.size := by simp
  obtain ⟨n2, hn2⟩ : ∃ n, runL s.data.toList 1 32 47 = n := ⟨_, rfl⟩
  have r2 := run_le s.data.toList 1 32 47 (by omega)
  rw [hn2, hlen] at r2
  have HN2 := Lib.hid hn2
  obtain ⟨m2, hm2⟩ : ∃ m, 1 + n2 = m := ⟨_, rfl⟩
  rw [hm2] at r2
  have E2 := Lib.hid (ext_str s 1 n2 m2 32 47 hn2 hm2)
  have ew2 : IntKind.i64.wrap ((1 : Int) + (n2 : Int)) = (m2 : Int) := by have := IntWalk.i64_in ((1 : Int) + (n2 : Int)) (by omega); rw [this]; omega
  have q3 : (1 : Int) ≤ (m2 : Int) := by omega
  have q4 : (m2 : Int) ≤ (s.size : Int) := by omega
  by_cases hlt : m2 < s.size
  · have k3 : (m2 : Int) < (s.size : Int) := by omega
    have k4 : (0 : Int) ≤ (m2 : Int) := by omega
    have HG := Lib.hid (HQ.out.trans (esc_some s.data.toList n2 m2 (s[m2]'hlt) hn2 hm2 (by omega) (by rw [byte_at s m2 hlt, getD_at])))
    clear hn2 hm2 h1
    go_enter Tryz.func58, Tryz.ntmps58
    go_wp2_with fail
    refine (run_str s 1 32 47 n2 _ hl (by omega) HN2.out).mono ?_
    rintro e w1 ⟨rfl, rfl⟩
    go_wp2_with fail
    refine bodyPost_ret (v := .tuple #[.agg #[.int .i64 5, .int .u8 0, .slice none 0 0, .string (s.extract 1 m2), .int .u8 ((s[m2]'hlt).toNat : Int), .string ⟨#[]⟩], .int .i64 ((m2 : Int) + 1)]) (by simp [results, Tryz.results58, go_sem]) rfl (gp_yes HG.out none 0 (by rw [E2.out]; rfl) (RdPN.nil 0 _ _) (((Below.refl _ w).alloc (Nat.le_refl _) _).alloc (by simp) _))
  · have k3 : (s.size : Int) ≤ (m2 : Int) := by omega
    have HG := Lib.hid (HQ.out.trans (esc_none s.data.toList n2 m2 hn2 hm2 (by omega)))
    clear hn2 hm2 h1
    go_enter Tryz.func58, Tryz.ntmps58
    go_wp2_with fail
    refine (run_str s 1 32 47 n2 _ hl (by omega) HN2.out).mono ?_
    rintro e w1 ⟨rfl, rfl⟩
    go_wp2_with fail
    refine bodyPost_ret (v := .tuple #[.agg #[.int .i64 5, .int .u8 0, .slice none 0 0, .string (s.extract 1 m2), .int .u8 0, .string ⟨#[]⟩], .int .i64 (-1)]) (by simp [results, Tryz.results58, go_sem]) rfl (gp_no HG.out _ _ _ _ _ _ _ _ rfl (((Below.refl _ w).alloc (Nat.le_refl _) _).alloc (by simp) _))
end Go.Proofs.YtmagokkegadmiaaGreatDoor
