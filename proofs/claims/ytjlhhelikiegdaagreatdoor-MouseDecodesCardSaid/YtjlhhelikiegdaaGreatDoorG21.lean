/-
  Layer 3, walked: the document's nums beside a box: what it makes lies apart.
-/
import Derived.Test.YtjlhhelikiegdaaGreatDoorG03
import Derived.Test.YtjlhhelikiegdaaGreatDoorG18
import Derived.Deep.RegionHeld
import Derived.Deep.RegionHeld3
namespace Go.Proofs.YtjlhhelikiegdaaGreatDoor
open Go.RowKit
set_option maxRecDepth 100000 in
set_option maxHeartbeats 8000000 in
theorem nums_box (s : ByteArray) (w : World) (g : Nat) (cs : Array Value) (hz : Blk w g 44 cs) (hl : s.size ≤ 4294967296) (ps : List (List Int)) (hq : numsL s.data.toList = ps) :
 Calls Tryz.prog 69 #[.string s] w fun e w' => (∃ A c, e = .returned (.slice A ps.length c) ∧ RdPN g w' A ps) ∧ Below w.heap.size w w' := by
 have HZ := Lib.hid hz
 clear hz
 by_cases h0 : s.data.toList = []
 ·obtain rfl : [] = ps := by rw [← hq, h0]; rfl
  obtain rfl : s = ⟨#[]⟩ := by apply ByteArray.ext; simpa using h0
  go_enter Tryz.func69, Tryz.ntmps69
  go_wp2
  go_ret
  exact ⟨⟨none, ⟨0, rfl⟩, RdPN.nil _ _ _⟩, Below.refl _ _⟩
 ·have hq2 : numsGo (-1) [] (s.data.toList.drop 0) = ps := by rw [← hq, List.drop_zero]; unfold numsL; rw [if_neg h0]
  have hne : s.toList.isEmpty = false := by rw [ByteArray.toList_eq]; cases h : s.data.toList with
   | nil => exact absurd h h0
   | cons => rfl
  obtain ⟨i0, hi, hz0, hz1, hz2⟩ : ∃ i, Tryz.prog.info? 3 = some i ∧ i.zero = some (.int .i64 0) ∧ i.size = 1 ∧ i.bytes = 8 := ⟨_, rfl, rfl, rfl, rfl⟩
  obtain ⟨j0, hj, hy0, hy1, hy2⟩ : ∃ i, Tryz.prog.info? 38 = some i ∧ i.zero = some (.slice none 0 0) ∧ i.size = 1 ∧ i.bytes = 24 := ⟨_, rfl, rfl, rfl, rfl⟩
  clear hq h0
  go_enter Tryz.func69, Tryz.ntmps69
  go_wp2
  go_loopw [3, 4, 5, 6] (fun vo v1 nv i wr => ∃ (k : Nat) (outs : List (List Int)) (xs : List Value) (one : List Int) (n : Int) (B : Nat), i = .int .i64 k ∧ nv = .int .i64 n ∧ (-1 ≤ n ∧ n ≤ 1114112) ∧ (Own wr w.heap.size 38 1 vo outs.length xs ∧ Rows wr B 3 xs outs ∧ Own wr B 3 1 v1 one.length (is_ one)) ∧ (w.heap.size ≤ B ∧ B ≤ wr.heap.size ∧ Below w.heap.size w wr) ∧ (one.length ≤ k ∧ outs.length ≤ k) ∧ ((k ≤ s.size ∧ outs ++ numsGo n one (s.data.toList.drop k) = ps) ∨ (k = s.size + 1 ∧ outs = ps))) (fun _ _ _ i _ => s.size + 1 - (intOf i).toNat)
  case atStart =>
   refine ⟨0, [], [], [], -1, w.heap.size, rfl, rfl, ⟨by omega, by omega⟩, ⟨own_zero _ _ _ _ _ (Nat.le_refl _) ⟨_, heap_alloc_new w _⟩, ⟨rfl, fun k hk => absurd hk (by simp)⟩, Own.nil_ _ _ _ _⟩, ⟨Nat.le_refl _, by simp, (Below.refl _ _).alloc (Nat.le_refl _) _⟩, ⟨by simp, by simp⟩, .inl ⟨Nat.zero_le _, hq2⟩⟩
  case round =>
   obtain ⟨k, outs, xs, one, n, B, rfl, rfl, ⟨hn0, hn1⟩, ⟨ho, hrs, h1⟩, ⟨hB0, hB1, hbw⟩, ⟨hk1, hk2⟩, hE⟩ := hrel
   have HO := Lib.hid ho
   have HRS := Lib.hid hrs
   have H1 := Lib.hid h1
   clear ho hrs h1 hq2
   rcases hE with ⟨hk, hE⟩ | ⟨hk, hE⟩
   ·have HE := Lib.hid hE
    clear hE
    by_cases hlt : k < s.size
    ·have hlt2 : k < s.data.toList.length := by simpa using hlt
     have HB := Lib.hid (byte_at s k hlt)
     have hd := (s[k]'hlt).toNat_lt
     have k0 : (0 : Int) ≤ (k : Int) := by omega
     have kk : (k : Int) < (s.size : Int) := by omega
     by_cases hdg : 48 ≤ (s[k]'hlt).toNat ∧ (s[k]'hlt).toNat ≤ 57
     ·have HE2 := Lib.hid (show outs ++ numsGo (rd 1114112 n (s[k]'hlt)) one (s.data.toList.drop (k + 1)) = ps by
       rw [← HE.out, go_fig hlt2 (by rw [← HB.out]; exact decide_eq_true hdg), ← HB.out])
      obtain ⟨d0, d1⟩ := hdg
      have e1 : rd 1114112 n (s[k]'hlt) = min (10 * max n 0 + (((s[k]'hlt).toNat : Int) - 48)) 1114112 := rfl
      have hr0 : 0 ≤ rd 1114112 n (s[k]'hlt) ∧ rd 1114112 n (s[k]'hlt) ≤ 1114112 := by rw [e1]; omega
      go_wp2
      go_round
      case rel => exact ⟨k + 1, outs, xs, one, rd 1114112 n (s[k]'hlt), B, by go_num, by first | rfl | (rw [e1]; go_num), ⟨by omega, by omega⟩, ⟨HO.out, HRS.out, H1.out⟩, ⟨hB0, hB1, hbw⟩, ⟨by omega, by omega⟩, .inl ⟨by omega, HE2.out⟩⟩
      case measure => simp [intOf]; omega
     ·have hnd := not_dig hdg
      have hdd : (s[k]'hlt).toNat < 48 ∨ 57 < (s[k]'hlt).toNat := by omega
      have tk : ((k : Int) == (s.size : Int)) = false := beq_false_of_ne (by omega)
      clear hdg
      by_cases h9 : (s[k]'hlt).toNat = 59
      ·have HE2 := Lib.hid (show (outs ++ [one ++ [n]]) ++ numsGo (-1) [] (s.data.toList.drop (k + 1)) = ps by
        rw [← HE.out, go_semi hlt2 (by rw [← HB.out]; exact hnd) (by rw [← HB.out]; exact UInt8.toNat_inj.1 h9), List.append_assoc]; rfl)
       have t9 : (((s[k]'hlt).toNat : Int) == 59) = true := beq_iff_eq.2 (by omega)
       have hd57 : 57 < (s[k]'hlt).toNat := by omega
       clear hdd
       have hown1 := H1.out.alloc (.cells #[.int .i64 n] 3)
       have hrd1 : Rd (wr.alloc (.cells #[.int .i64 n] 3)) (some ⟨wr.heap.size, 0, none⟩) [.int .i64 n] := Rd.block (heap_alloc_new wr _) (by simp)
       have h63 : one.length + 1 ≤ maxLen := by simp only [maxLen]; omega
       have hlim : (one.length + 1) * 8 ≤ 140737488355328 := by omega
       have hbs1 : B ≤ (wr.alloc (.cells #[.int .i64 n] 3)).heap.size := by simp; omega
       have hone1 : ∀ u ∈ [Value.int IntKind.i64 n], u.oneCell' = true := fun u hu => by rw [List.mem_singleton] at hu; subst hu; rfl
       go_upto_region 14 with (first | (at_builtin; refine list_app _ rfl (.tmp 42) (.tmp 44) 38 rfl B 3 i0 _ 1 8 Tryz.underlying38 hi hz0 hz1 hz2 rfl Nat.one_pos _ _ _ rfl hown1 _ 1 1 [.int .i64 n] rfl rfl hrd1 hone1 h63 hlim hbs1 ?_; intro v4 w4 hown4 hg4))
       rw [← is_snoc] at hown4
       have hoA := (HO.out.alloc (.cells #[.int .i64 n] 3)).kept hg4 (own_apart (HO.out.alloc (.cells #[.int .i64 n] 3)) hown1 (by decide))
       have hrA := (HRS.out.keep (Nat.le_refl B) (fun q hq _ => Below.heap_alloc wr (.cells #[.int .i64 n] 3) q (by omega))).keep (Nat.le_refl B) (keep_one hown1 hg4 (Nat.le_refl B) hbs1)
       have hbA : Below w.heap.size w w4 := (hbw.alloc hbw.size (.cells #[.int .i64 n] 3)).grown hg4 (by simp; omega) (fun g hg => by have := (hown1.lt g hg).1; omega)
       have hsA : B ≤ w4.heap.size := Nat.le_trans hbs1 hg4.size
       obtain ⟨hn4, A4, c4, rfl, hri⟩ := own_row hown4
       have HN4 := Lib.hid hn4
       clear hn4
       clear hown1 hrd1 h63 hlim hbs1 hone1 hg4
       have hownO := hoA.alloc (.cells #[.slice A4 (one.length + 1) c4] 38)
       have hrdO : Rd (w4.alloc (.cells #[.slice A4 (one.length + 1) c4] 38)) (some ⟨w4.heap.size, 0, none⟩) [.slice A4 (one.length + 1) c4] := Rd.block (heap_alloc_new w4 _) (by simp)
       have h63o : outs.length + 1 ≤ maxLen := by simp only [maxLen]; omega
       have hlimo : (outs.length + 1) * 24 ≤ 140737488355328 := by omega
       have hbs4 : w.heap.size ≤ (w4.alloc (.cells #[.slice A4 (one.length + 1) c4] 38)).heap.size := by simp; omega
       go_wp2_with (first | (at_builtin; refine list_app _ rfl (.tmp 56) (.tmp 58) 42 rfl w.heap.size 38 j0 _ 1 24 Tryz.underlying42 hj hy0 hy1 hy2 rfl Nat.one_pos _ _ _ rfl hownO _ 1 1 [.slice A4 (one.length + 1) c4] rfl rfl hrdO (sl_one _ _ _) h63o hlimo hbs4 ?_; intro v5 w5 hown5 hg5))
       have hrB := ((hrA.keep (Nat.le_refl B) (fun q hq _ => Below.heap_alloc w4 (.cells #[.slice A4 (one.length + 1) c4] 38) q (by omega))).keep (B' := w4.heap.size) hsA (fun _ _ _ => rfl)).snoc2 HN4.out (c := c4) (hri.keep (Nat.le_refl _) (fun q hq _ => Below.heap_alloc w4 (.cells #[.slice A4 (one.length + 1) c4] 38) q hq))
       have hrC := hrB.keep (B' := w5.heap.size) (Nat.le_trans (by simp) hg5.size) (keep_out hownO (by decide) hg5)
       have hbC : Below w.heap.size w w5 := (hbA.alloc hbA.size (.cells #[.slice A4 (one.length + 1) c4] 38)).grown hg5 hbs4 (fun g hg => (hownO.lt g hg).1)
       clear hownO hrdO h63o hlimo hbs4 hrB hrA hoA hg5
       go_wp2
       go_round
       case rel => exact ⟨k + 1, outs ++ [one ++ [n]], _, [], -1, w5.heap.size, by go_num, rfl, ⟨by omega, by omega⟩, ⟨by rw [List.length_append, List.length_singleton]; exact hown5, hrC, Own.nil_ _ _ _ _⟩, ⟨hbC.size, Nat.le_refl _, hbC⟩, ⟨by simp, by rw [List.length_append, List.length_singleton]; omega⟩, .inl ⟨by omega, HE2.out⟩⟩
       case measure => simp [intOf]; omega
      ·have HE2 := Lib.hid (show outs ++ numsGo (-1) (one ++ [n]) (s.data.toList.drop (k + 1)) = ps by
        rw [← HE.out, go_colon hlt2 (by rw [← HB.out]; exact hnd) (by rw [← HB.out]; exact fun e => h9 (by rw [e]; rfl))])
       have t9 : (((s[k]'hlt).toNat : Int) == 59) = false := beq_false_of_ne (by omega)
       rcases hdd with hdd | hdd
       ·have hown1 := H1.out.alloc (.cells #[.int .i64 n] 3)
        have hrd1 : Rd (wr.alloc (.cells #[.int .i64 n] 3)) (some ⟨wr.heap.size, 0, none⟩) [.int .i64 n] := Rd.block (heap_alloc_new wr _) (by simp)
        have h63 : one.length + 1 ≤ maxLen := by simp only [maxLen]; omega
        have hlim : (one.length + 1) * 8 ≤ 140737488355328 := by omega
        have hbs1 : B ≤ (wr.alloc (.cells #[.int .i64 n] 3)).heap.size := by simp; omega
        have hone1 : ∀ u ∈ [Value.int IntKind.i64 n], u.oneCell' = true := fun u hu => by rw [List.mem_singleton] at hu; subst hu; rfl
        go_wp2_with (first | (at_builtin; refine list_app _ rfl (.tmp 42) (.tmp 44) 38 rfl B 3 i0 _ 1 8 Tryz.underlying38 hi hz0 hz1 hz2 rfl Nat.one_pos _ _ _ rfl hown1 _ 1 1 [.int .i64 n] rfl rfl hrd1 hone1 h63 hlim hbs1 ?_; intro v4 w4 hown4 hg4))
        rw [← is_snoc] at hown4
        have hoA := (HO.out.alloc (.cells #[.int .i64 n] 3)).kept hg4 (own_apart (HO.out.alloc (.cells #[.int .i64 n] 3)) hown1 (by decide))
        have hrA := (HRS.out.keep (Nat.le_refl B) (fun q hq _ => Below.heap_alloc wr (.cells #[.int .i64 n] 3) q (by omega))).keep (Nat.le_refl B) (keep_one hown1 hg4 (Nat.le_refl B) hbs1)
        have hbA : Below w.heap.size w w4 := (hbw.alloc hbw.size (.cells #[.int .i64 n] 3)).grown hg4 (by simp; omega) (fun g hg => by have := (hown1.lt g hg).1; omega)
        have hsA : B ≤ w4.heap.size := Nat.le_trans hbs1 hg4.size
        obtain ⟨hn4, A4, c4, rfl, hri⟩ := own_row hown4
        have HN4 := Lib.hid hn4
        clear hn4
        clear hown1 hrd1 h63 hlim hbs1 hone1 hg4
        go_wp2
        go_round
        case rel => exact ⟨k + 1, outs, xs, one ++ [n], -1, B, by go_num, rfl, ⟨by omega, by omega⟩, ⟨hoA, hrA, by rw [← HN4.out]; exact hown4⟩, ⟨hB0, hsA, hbA⟩, ⟨by rw [List.length_append, List.length_singleton]; omega, by omega⟩, .inl ⟨by omega, HE2.out⟩⟩
        case measure => simp [intOf]; omega
       ·have hown1 := H1.out.alloc (.cells #[.int .i64 n] 3)
        have hrd1 : Rd (wr.alloc (.cells #[.int .i64 n] 3)) (some ⟨wr.heap.size, 0, none⟩) [.int .i64 n] := Rd.block (heap_alloc_new wr _) (by simp)
        have h63 : one.length + 1 ≤ maxLen := by simp only [maxLen]; omega
        have hlim : (one.length + 1) * 8 ≤ 140737488355328 := by omega
        have hbs1 : B ≤ (wr.alloc (.cells #[.int .i64 n] 3)).heap.size := by simp; omega
        have hone1 : ∀ u ∈ [Value.int IntKind.i64 n], u.oneCell' = true := fun u hu => by rw [List.mem_singleton] at hu; subst hu; rfl
        go_wp2_with (first | (at_builtin; refine list_app _ rfl (.tmp 42) (.tmp 44) 38 rfl B 3 i0 _ 1 8 Tryz.underlying38 hi hz0 hz1 hz2 rfl Nat.one_pos _ _ _ rfl hown1 _ 1 1 [.int .i64 n] rfl rfl hrd1 hone1 h63 hlim hbs1 ?_; intro v4 w4 hown4 hg4))
        rw [← is_snoc] at hown4
        have hoA := (HO.out.alloc (.cells #[.int .i64 n] 3)).kept hg4 (own_apart (HO.out.alloc (.cells #[.int .i64 n] 3)) hown1 (by decide))
        have hrA := (HRS.out.keep (Nat.le_refl B) (fun q hq _ => Below.heap_alloc wr (.cells #[.int .i64 n] 3) q (by omega))).keep (Nat.le_refl B) (keep_one hown1 hg4 (Nat.le_refl B) hbs1)
        have hbA : Below w.heap.size w w4 := (hbw.alloc hbw.size (.cells #[.int .i64 n] 3)).grown hg4 (by simp; omega) (fun g hg => by have := (hown1.lt g hg).1; omega)
        have hsA : B ≤ w4.heap.size := Nat.le_trans hbs1 hg4.size
        obtain ⟨hn4, A4, c4, rfl, hri⟩ := own_row hown4
        have HN4 := Lib.hid hn4
        clear hn4
        clear hown1 hrd1 h63 hlim hbs1 hone1 hg4
        go_wp2
        go_round
        case rel => exact ⟨k + 1, outs, xs, one ++ [n], -1, B, by go_num, rfl, ⟨by omega, by omega⟩, ⟨hoA, hrA, by rw [← HN4.out]; exact hown4⟩, ⟨hB0, hsA, hbA⟩, ⟨by rw [List.length_append, List.length_singleton]; omega, by omega⟩, .inl ⟨by omega, HE2.out⟩⟩
        case measure => simp [intOf]; omega
    ·have hk3 : k = s.size := by omega
     have HE2 := Lib.hid (show outs ++ [one ++ [n]] = ps by rw [← HE.out, go_end (by simp; omega)])
     have kk : ¬ (k : Int) < (s.size : Int) := by omega
     have tk : ((k : Int) == (s.size : Int)) = true := beq_iff_eq.2 (by omega)
     have hown1 := H1.out.alloc (.cells #[.int .i64 n] 3)
     have hrd1 : Rd (wr.alloc (.cells #[.int .i64 n] 3)) (some ⟨wr.heap.size, 0, none⟩) [.int .i64 n] := Rd.block (heap_alloc_new wr _) (by simp)
     have h63 : one.length + 1 ≤ maxLen := by simp only [maxLen]; omega
     have hlim : (one.length + 1) * 8 ≤ 140737488355328 := by omega
     have hbs1 : B ≤ (wr.alloc (.cells #[.int .i64 n] 3)).heap.size := by simp; omega
     have hone1 : ∀ u ∈ [Value.int IntKind.i64 n], u.oneCell' = true := fun u hu => by rw [List.mem_singleton] at hu; subst hu; rfl
     go_upto_region 14 with (first | (at_builtin; refine list_app _ rfl (.tmp 42) (.tmp 44) 38 rfl B 3 i0 _ 1 8 Tryz.underlying38 hi hz0 hz1 hz2 rfl Nat.one_pos _ _ _ rfl hown1 _ 1 1 [.int .i64 n] rfl rfl hrd1 hone1 h63 hlim hbs1 ?_; intro v4 w4 hown4 hg4))
     rw [← is_snoc] at hown4
     have hoA := (HO.out.alloc (.cells #[.int .i64 n] 3)).kept hg4 (own_apart (HO.out.alloc (.cells #[.int .i64 n] 3)) hown1 (by decide))
     have hrA := (HRS.out.keep (Nat.le_refl B) (fun q hq _ => Below.heap_alloc wr (.cells #[.int .i64 n] 3) q (by omega))).keep (Nat.le_refl B) (keep_one hown1 hg4 (Nat.le_refl B) hbs1)
     have hbA : Below w.heap.size w w4 := (hbw.alloc hbw.size (.cells #[.int .i64 n] 3)).grown hg4 (by simp; omega) (fun g hg => by have := (hown1.lt g hg).1; omega)
     have hsA : B ≤ w4.heap.size := Nat.le_trans hbs1 hg4.size
     obtain ⟨hn4, A4, c4, rfl, hri⟩ := own_row hown4
     have HN4 := Lib.hid hn4
     clear hn4
     clear hown1 hrd1 h63 hlim hbs1 hone1 hg4
     have hownO := hoA.alloc (.cells #[.slice A4 (one.length + 1) c4] 38)
     have hrdO : Rd (w4.alloc (.cells #[.slice A4 (one.length + 1) c4] 38)) (some ⟨w4.heap.size, 0, none⟩) [.slice A4 (one.length + 1) c4] := Rd.block (heap_alloc_new w4 _) (by simp)
     have h63o : outs.length + 1 ≤ maxLen := by simp only [maxLen]; omega
     have hlimo : (outs.length + 1) * 24 ≤ 140737488355328 := by omega
     have hbs4 : w.heap.size ≤ (w4.alloc (.cells #[.slice A4 (one.length + 1) c4] 38)).heap.size := by simp; omega
     go_wp2_with (first | (at_builtin; refine list_app _ rfl (.tmp 56) (.tmp 58) 42 rfl w.heap.size 38 j0 _ 1 24 Tryz.underlying42 hj hy0 hy1 hy2 rfl Nat.one_pos _ _ _ rfl hownO _ 1 1 [.slice A4 (one.length + 1) c4] rfl rfl hrdO (sl_one _ _ _) h63o hlimo hbs4 ?_; intro v5 w5 hown5 hg5))
     have hrB := ((hrA.keep (Nat.le_refl B) (fun q hq _ => Below.heap_alloc w4 (.cells #[.slice A4 (one.length + 1) c4] 38) q (by omega))).keep (B' := w4.heap.size) hsA (fun _ _ _ => rfl)).snoc2 HN4.out (c := c4) (hri.keep (Nat.le_refl _) (fun q hq _ => Below.heap_alloc w4 (.cells #[.slice A4 (one.length + 1) c4] 38) q hq))
     have hrC := hrB.keep (B' := w5.heap.size) (Nat.le_trans (by simp) hg5.size) (keep_out hownO (by decide) hg5)
     have hbC : Below w.heap.size w w5 := (hbA.alloc hbA.size (.cells #[.slice A4 (one.length + 1) c4] 38)).grown hg5 hbs4 (fun g hg => (hownO.lt g hg).1)
     clear hownO hrdO h63o hlimo hbs4 hrB hrA hoA hg5
     go_wp2
     go_round
     case rel => exact ⟨k + 1, outs ++ [one ++ [n]], _, [], -1, w5.heap.size, by go_num, rfl, ⟨by omega, by omega⟩, ⟨by rw [List.length_append, List.length_singleton]; exact hown5, hrC, Own.nil_ _ _ _ _⟩, ⟨hbC.size, Nat.le_refl _, hbC⟩, ⟨by simp, by rw [List.length_append, List.length_singleton]; omega⟩, .inr ⟨by omega, HE2.out⟩⟩
     case measure => simp [intOf]; omega
   ·subst hE
    go_wp2
    obtain ⟨A, c, rfl, hrd⟩ := HRS.out.rdpn HO.out (HZ.out.below hbw HZ.out.lt) (by decide) (by decide)
    go_ret
    exact ⟨⟨A, c, rfl, hrd⟩, hbw⟩
end Go.Proofs.YtjlhhelikiegdaaGreatDoor
