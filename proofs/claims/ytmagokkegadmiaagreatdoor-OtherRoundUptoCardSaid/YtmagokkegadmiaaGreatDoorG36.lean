/-
  Layer 3, walked: the document's nums: parameters in bytes of figures, colons and semicolons. Layer 3, walked: the document's nums, the loop. The document's Put, whatever it tells. From layer 10's walks on: a key's event that came in. Layer 12, the laws' walks over the bundle: OtherRound. Stage 12, the landed other: what OtherRound needs besides.
-/
import Derived.Test.YtmagokkegadmiaaGreatDoorG09
import Derived.Test.YtmagokkegadmiaaGreatDoorG10
import Derived.Test.YtmagokkegadmiaaGreatDoorG12
import Derived.Test.YtmagokkegadmiaaGreatDoorG13
import Derived.Test.YtmagokkegadmiaaGreatDoorG19
import Derived.Test.YtmagokkegadmiaaGreatDoorG26
import Derived.Test.YtmagokkegadmiaaGreatDoorG29
import Derived.Test.YtmagokkegadmiaaGreatDoorG30
import Derived.Test.YtmagokkegadmiaaGreatDoorG35
import Derived.Deep.Cut
import Derived.Deep.Matrix
import Derived.Deep.Slices
import Derived.OpenShut
import Derived.Deep.Grids
namespace Go.Proofs.YtmagokkegadmiaaGreatDoor
open Go.RowKit

theorem go_fig {l : List UInt8} {k : Nat} (h : k < l.length) (hd : isD l[k] = true) (n : Int) (one : List Int) : numsGo n one (l.drop k) = numsGo (rd 1114112 n l[k]) one (l.drop (k + 1)) := by
  rw [List.drop_eq_getElem_cons h]; show (if isD l[k] = true then _ else _) = _; rw [if_pos hd]
theorem go_semi {l : List UInt8} {k : Nat} (h : k < l.length) (hd : isD l[k] = false) (h9 : l[k] = 59) (n : Int) (one : List Int) : numsGo n one (l.drop k) = (one ++ [n]) :: numsGo (-1) [] (l.drop (k + 1)) := by
  rw [List.drop_eq_getElem_cons h]; show (if isD l[k] = true then _ else _) = _; rw [if_neg (by rw [hd]; simp), if_pos h9]
theorem go_colon {l : List UInt8} {k : Nat} (h : k < l.length) (hd : isD l[k] = false) (h9 : l[k] ≠ 59) (n : Int) (one : List Int) : numsGo n one (l.drop k) = numsGo (-1) (one ++ [n]) (l.drop (k + 1)) := by
  rw [List.drop_eq_getElem_cons h]; show (if isD l[k] = true then _ else _) = _; rw [if_neg (by rw [hd]; simp), if_neg h9]
theorem go_end {l : List UInt8} {k : Nat} (h : l.length ≤ k) (n : Int) (one : List Int) : numsGo n one (l.drop k) = [one ++ [n]] := by
  rw [List.drop_of_length_le h]; rfl
end Go.Proofs.YtmagokkegadmiaaGreatDoor
namespace Go.Proofs.YtmagokkegadmiaaGreatDoor
open Go.RowKit

theorem not_dig {c : UInt8} (h : ¬ (48 ≤ c.toNat ∧ c.toNat ≤ 57)) : isD c = false := decide_eq_false h

set_option maxRecDepth 100000 in
set_option maxHeartbeats 8000000 in
theorem nums_str (s : ByteArray) (w : World) (hl : s.size ≤ 4294967296) (ps : List (List Int)) (hq : numsL s.data.toList = ps) :
    Calls Tryz.prog 84 #[.string s] w fun e w' => (∃ A c, e = .returned (.slice A ps.length c) ∧ RdP w' A ps) ∧ Below w.heap.size w w' := by
  by_cases h0 : s.data.toList = []
  · obtain rfl : [] = ps := by rw [← hq, h0]; rfl
    obtain rfl : s = ⟨#[]⟩ := by apply ByteArray.ext; simpa using h0
    go_enter Tryz.func84, Tryz.ntmps84
    go_wp2
    go_ret
    exact ⟨⟨none, ⟨0, rfl⟩, RdP.nil _ _⟩, Below.refl _ _⟩
  · have hq2 : numsGo (-1) [] (s.data.toList.drop 0) = ps := by rw [← hq, List.drop_zero]; unfold numsL; rw [if_neg h0]
    have hne : s.toList.isEmpty = false := by rw [ByteArray.toList_eq]; cases h : s.data.toList with
      | nil => exact absurd h h0
      | cons => rfl
    obtain ⟨i0, hi, hz0, hz1, hz2⟩ : ∃ i, Tryz.prog.info? 3 = some i ∧ i.zero = some (.int .i64 0) ∧ i.size = 1 ∧ i.bytes = 8 := ⟨_, rfl, rfl, rfl, rfl⟩
    obtain ⟨j0, hj, hy0, hy1, hy2⟩ : ∃ i, Tryz.prog.info? 56 = some i ∧ i.zero = some (.slice none 0 0) ∧ i.size = 1 ∧ i.bytes = 24 := ⟨_, rfl, rfl, rfl, rfl⟩
    clear hq h0
    go_enter Tryz.func84, Tryz.ntmps84
    go_wp2
    go_loopw [3, 4, 5, 6] (fun vo v1 nv i wr => ∃ (k : Nat) (outs : List (List Int)) (xs : List Value) (one : List Int) (n : Int) (B : Nat), i = .int .i64 k ∧ nv = .int .i64 n ∧ (-1 ≤ n ∧ n ≤ 1114112) ∧ (Own wr w.heap.size 56 1 vo outs.length xs ∧ Rows wr B 3 xs outs ∧ Own wr B 3 1 v1 one.length (is_ one)) ∧ (w.heap.size ≤ B ∧ B ≤ wr.heap.size ∧ Below w.heap.size w wr) ∧ (one.length ≤ k ∧ outs.length ≤ k) ∧ ((k ≤ s.size ∧ outs ++ numsGo n one (s.data.toList.drop k) = ps) ∨ (k = s.size + 1 ∧ outs = ps))) (fun _ _ _ i _ => s.size + 1 - (intOf i).toNat)
    case atStart =>
      refine ⟨0, [], [], [], -1, w.heap.size, rfl, rfl, ⟨by omega, by omega⟩, ⟨own_zero _ _ _ _ _ (Nat.le_refl _) ⟨_, heap_alloc_new w _⟩, ⟨rfl, fun k hk => absurd hk (by simp)⟩, Own.nil_ _ _ _ _⟩, ⟨Nat.le_refl _, by simp, (Below.refl _ _).alloc (Nat.le_refl _) _⟩, ⟨by simp, by simp⟩, .inl ⟨Nat.zero_le _, hq2⟩⟩
    case round =>
      obtain ⟨k, outs, xs, one, n, B, rfl, rfl, ⟨hn0, hn1⟩, ⟨ho, hrs, h1⟩, ⟨hB0, hB1, hbw⟩, ⟨hk1, hk2⟩, hE⟩ := hrel
      have HO := Lib.hid ho
      have HRS := Lib.hid hrs
      have H1 := Lib.hid h1
      clear ho hrs h1 hq2
      rcases hE with ⟨hk, hE⟩ | ⟨hk, hE⟩
      · have HE := Lib.hid hE
        clear hE
        by_cases hlt : k < s.size
        · have hlt2 : k < s.data.toList.length := by simpa using hlt
          have HB := Lib.hid (byte_at s k hlt)
          have hd := (s[k]'hlt).toNat_lt
          have k0 : (0 : Int) ≤ (k : Int) := by omega
          have kk : (k : Int) < (s.size : Int) := by omega
          by_cases hdg : 48 ≤ (s[k]'hlt).toNat ∧ (s[k]'hlt).toNat ≤ 57
          · have HE2 := Lib.hid (show outs ++ numsGo (rd 1114112 n (s[k]'hlt)) one (s.data.toList.drop (k + 1)) = ps by
              rw [← HE.out, go_fig hlt2 (by rw [← HB.out]; exact decide_eq_true hdg), ← HB.out])
            obtain ⟨d0, d1⟩ := hdg
            have e1 : rd 1114112 n (s[k]'hlt) = min (10 * max n 0 + (((s[k]'hlt).toNat : Int) - 48)) 1114112 := rfl
            have hr0 : 0 ≤ rd 1114112 n (s[k]'hlt) ∧ rd 1114112 n (s[k]'hlt) ≤ 1114112 := by rw [e1]; omega
            go_wp2
            go_round
            case rel => exact ⟨k + 1, outs, xs, one, rd 1114112 n (s[k]'hlt), B, by go_num, by first | rfl | (rw [e1]; go_num), ⟨by omega, by omega⟩, ⟨HO.out, HRS.out, H1.out⟩, ⟨hB0, hB1, hbw⟩, ⟨by omega, by omega⟩, .inl ⟨by omega, HE2.out⟩⟩
            case measure => simp [intOf]; omega
          · have hnd := not_dig hdg
            have hdd : (s[k]'hlt).toNat < 48 ∨ 57 < (s[k]'hlt).toNat := by omega
            have tk : ((k : Int) == (s.size : Int)) = false := beq_false_of_ne (by omega)
            clear hdg
            by_cases h9 : (s[k]'hlt).toNat = 59
            · have HE2 := Lib.hid (show (outs ++ [one ++ [n]]) ++ numsGo (-1) [] (s.data.toList.drop (k + 1)) = ps by
                rw [← HE.out, go_semi hlt2 (by rw [← HB.out]; exact hnd) (by rw [← HB.out]; exact UInt8.toNat_inj.1 h9), List.append_assoc]; rfl)
              have t9 : (((s[k]'hlt).toNat : Int) == 59) = true := beq_iff_eq.2 (by omega)
              have hd57 : 57 < (s[k]'hlt).toNat := by omega
              clear hdd
              have hown1 := H1.out.alloc (.cells #[.int .i64 n] 3)
              have hrd1 : Rd (wr.alloc (.cells #[.int .i64 n] 3)) (some ⟨wr.heap.size, 0, none⟩) [.int .i64 n] := Rd.block (heap_alloc_new wr _) (by simp)
              have h63 : one.length + 1 ≤ maxLen := by simp only [maxLen]; omega
              have hlim : (one.length + 1) * 8 ≤ 140737488355328 := by omega
              have hbs1 : B ≤ (wr.alloc (.cells #[.int .i64 n] 3)).heap.size := by simp; omega
              have hone1 : ∀ u ∈ [Value.int IntKind.i64 n], u.oneCell' = true := fun u hu => by rw [List.mem_singleton] at hu; subst hu; rfl
              go_upto_region 14 with (first | (at_builtin; refine list_app _ rfl (.tmp 42) (.tmp 44) 56 rfl B 3 i0 _ 1 8 Tryz.underlying56 hi hz0 hz1 hz2 rfl Nat.one_pos _ _ _ rfl hown1 _ 1 1 [.int .i64 n] rfl rfl hrd1 hone1 h63 hlim hbs1 ?_; intro v4 w4 hown4 hg4))
              rw [← is_snoc] at hown4
              have hoA := (HO.out.alloc (.cells #[.int .i64 n] 3)).kept hg4 (own_apart (HO.out.alloc (.cells #[.int .i64 n] 3)) hown1 (by decide))
              have hrA := (HRS.out.keep (Nat.le_refl B) (fun q hq _ => Below.heap_alloc wr (.cells #[.int .i64 n] 3) q (by omega))).keep (Nat.le_refl B) (keep_one hown1 hg4 (Nat.le_refl B) hbs1)
              have hbA : Below w.heap.size w w4 := (hbw.alloc hbw.size (.cells #[.int .i64 n] 3)).grown hg4 (by simp; omega) (fun g hg => by have := (hown1.lt g hg).1; omega)
              have hsA : B ≤ w4.heap.size := Nat.le_trans hbs1 hg4.size
              obtain ⟨hn4, A4, c4, rfl, hri⟩ := own_row hown4
              have HN4 := Lib.hid hn4
              clear hn4
              clear hown1 hrd1 h63 hlim hbs1 hone1 hg4
              have hownO := hoA.alloc (.cells #[.slice A4 (one.length + 1) c4] 56)
              have hrdO : Rd (w4.alloc (.cells #[.slice A4 (one.length + 1) c4] 56)) (some ⟨w4.heap.size, 0, none⟩) [.slice A4 (one.length + 1) c4] := Rd.block (heap_alloc_new w4 _) (by simp)
              have h63o : outs.length + 1 ≤ maxLen := by simp only [maxLen]; omega
              have hlimo : (outs.length + 1) * 24 ≤ 140737488355328 := by omega
              have hbs4 : w.heap.size ≤ (w4.alloc (.cells #[.slice A4 (one.length + 1) c4] 56)).heap.size := by simp; omega
              go_wp2_with (first | (at_builtin; refine list_app _ rfl (.tmp 56) (.tmp 58) 50 rfl w.heap.size 56 j0 _ 1 24 Tryz.underlying50 hj hy0 hy1 hy2 rfl Nat.one_pos _ _ _ rfl hownO _ 1 1 [.slice A4 (one.length + 1) c4] rfl rfl hrdO (sl_one _ _ _) h63o hlimo hbs4 ?_; intro v5 w5 hown5 hg5))
              have hrB := ((hrA.keep (Nat.le_refl B) (fun q hq _ => Below.heap_alloc w4 (.cells #[.slice A4 (one.length + 1) c4] 56) q (by omega))).keep (B' := w4.heap.size) hsA (fun _ _ _ => rfl)).snoc2 HN4.out (c := c4) (hri.keep (Nat.le_refl _) (fun q hq _ => Below.heap_alloc w4 (.cells #[.slice A4 (one.length + 1) c4] 56) q hq))
              have hrC := hrB.keep (B' := w5.heap.size) (Nat.le_trans (by simp) hg5.size) (keep_out hownO (by decide) hg5)
              have hbC : Below w.heap.size w w5 := (hbA.alloc hbA.size (.cells #[.slice A4 (one.length + 1) c4] 56)).grown hg5 hbs4 (fun g hg => (hownO.lt g hg).1)
              clear hownO hrdO h63o hlimo hbs4 hrB hrA hoA hg5
              go_wp2
              go_round
              case rel => exact ⟨k + 1, outs ++ [one ++ [n]], _, [], -1, w5.heap.size, by go_num, rfl, ⟨by omega, by omega⟩, ⟨by rw [List.length_append, List.length_singleton]; exact hown5, hrC, Own.nil_ _ _ _ _⟩, ⟨hbC.size, Nat.le_refl _, hbC⟩, ⟨by simp, by rw [List.length_append, List.length_singleton]; omega⟩, .inl ⟨by omega, HE2.out⟩⟩
              case measure => simp [intOf]; omega
            · have HE2 := Lib.hid (show outs ++ numsGo (-1) (one ++ [n]) (s.data.toList.drop (k + 1)) = ps by
                rw [← HE.out, go_colon hlt2 (by rw [← HB.out]; exact hnd) (by rw [← HB.out]; exact fun e => h9 (by rw [e]; rfl))])
              have t9 : (((s[k]'hlt).toNat : Int) == 59) = false := beq_false_of_ne (by omega)
              rcases hdd with hdd | hdd
              · have hown1 := H1.out.alloc (.cells #[.int .i64 n] 3)
                have hrd1 : Rd (wr.alloc (.cells #[.int .i64 n] 3)) (some ⟨wr.heap.size, 0, none⟩) [.int .i64 n] := Rd.block (heap_alloc_new wr _) (by simp)
                have h63 : one.length + 1 ≤ maxLen := by simp only [maxLen]; omega
                have hlim : (one.length + 1) * 8 ≤ 140737488355328 := by omega
                have hbs1 : B ≤ (wr.alloc (.cells #[.int .i64 n] 3)).heap.size := by simp; omega
                have hone1 : ∀ u ∈ [Value.int IntKind.i64 n], u.oneCell' = true := fun u hu => by rw [List.mem_singleton] at hu; subst hu; rfl
                go_wp2_with (first | (at_builtin; refine list_app _ rfl (.tmp 42) (.tmp 44) 56 rfl B 3 i0 _ 1 8 Tryz.underlying56 hi hz0 hz1 hz2 rfl Nat.one_pos _ _ _ rfl hown1 _ 1 1 [.int .i64 n] rfl rfl hrd1 hone1 h63 hlim hbs1 ?_; intro v4 w4 hown4 hg4))
                rw [← is_snoc] at hown4
                have hoA := (HO.out.alloc (.cells #[.int .i64 n] 3)).kept hg4 (own_apart (HO.out.alloc (.cells #[.int .i64 n] 3)) hown1 (by decide))
                have hrA := (HRS.out.keep (Nat.le_refl B) (fun q hq _ => Below.heap_alloc wr (.cells #[.int .i64 n] 3) q (by omega))).keep (Nat.le_refl B) (keep_one hown1 hg4 (Nat.le_refl B) hbs1)
                have hbA : Below w.heap.size w w4 := (hbw.alloc hbw.size (.cells #[.int .i64 n] 3)).grown hg4 (by simp; omega) (fun g hg => by have := (hown1.lt g hg).1; omega)
                have hsA : B ≤ w4.heap.size := Nat.le_trans hbs1 hg4.size
                obtain ⟨hn4, A4, c4, rfl, hri⟩ := own_row hown4
                have HN4 := Lib.hid hn4
                clear hn4
                clear hown1 hrd1 h63 hlim hbs1 hone1 hg4
                go_wp2
                go_round
                case rel => exact ⟨k + 1, outs, xs, one ++ [n], -1, B, by go_num, rfl, ⟨by omega, by omega⟩, ⟨hoA, hrA, by rw [← HN4.out]; exact hown4⟩, ⟨hB0, hsA, hbA⟩, ⟨by rw [List.length_append, List.length_singleton]; omega, by omega⟩, .inl ⟨by omega, HE2.out⟩⟩
                case measure => simp [intOf]; omega
              · have hown1 := H1.out.alloc (.cells #[.int .i64 n] 3)
                have hrd1 : Rd (wr.alloc (.cells #[.int .i64 n] 3)) (some ⟨wr.heap.size, 0, none⟩) [.int .i64 n] := Rd.block (heap_alloc_new wr _) (by simp)
                have h63 : one.length + 1 ≤ maxLen := by simp only [maxLen]; omega
                have hlim : (one.length + 1) * 8 ≤ 140737488355328 := by omega
                have hbs1 : B ≤ (wr.alloc (.cells #[.int .i64 n] 3)).heap.size := by simp; omega
                have hone1 : ∀ u ∈ [Value.int IntKind.i64 n], u.oneCell' = true := fun u hu => by rw [List.mem_singleton] at hu; subst hu; rfl
                go_wp2_with (first | (at_builtin; refine list_app _ rfl (.tmp 42) (.tmp 44) 56 rfl B 3 i0 _ 1 8 Tryz.underlying56 hi hz0 hz1 hz2 rfl Nat.one_pos _ _ _ rfl hown1 _ 1 1 [.int .i64 n] rfl rfl hrd1 hone1 h63 hlim hbs1 ?_; intro v4 w4 hown4 hg4))
                rw [← is_snoc] at hown4
                have hoA := (HO.out.alloc (.cells #[.int .i64 n] 3)).kept hg4 (own_apart (HO.out.alloc (.cells #[.int .i64 n] 3)) hown1 (by decide))
                have hrA := (HRS.out.keep (Nat.le_refl B) (fun q hq _ => Below.heap_alloc wr (.cells #[.int .i64 n] 3) q (by omega))).keep (Nat.le_refl B) (keep_one hown1 hg4 (Nat.le_refl B) hbs1)
                have hbA : Below w.heap.size w w4 := (hbw.alloc hbw.size (.cells #[.int .i64 n] 3)).grown hg4 (by simp; omega) (fun g hg => by have := (hown1.lt g hg).1; omega)
                have hsA : B ≤ w4.heap.size := Nat.le_trans hbs1 hg4.size
                obtain ⟨hn4, A4, c4, rfl, hri⟩ := own_row hown4
                have HN4 := Lib.hid hn4
                clear hn4
                clear hown1 hrd1 h63 hlim hbs1 hone1 hg4
                go_wp2
                go_round
                case rel => exact ⟨k + 1, outs, xs, one ++ [n], -1, B, by go_num, rfl, ⟨by omega, by omega⟩, ⟨hoA, hrA, by rw [← HN4.out]; exact hown4⟩, ⟨hB0, hsA, hbA⟩, ⟨by rw [List.length_append, List.length_singleton]; omega, by omega⟩, .inl ⟨by omega, HE2.out⟩⟩
                case measure => simp [intOf]; omega
        · have hk3 : k = s.size := by omega
          have HE2 := Lib.hid (show outs ++ [one ++ [n]] = ps by rw [← HE.out, go_end (by simp; omega)])
          have kk : ¬ (k : Int) < (s.size : Int) := by omega
          have tk : ((k : Int) == (s.size : Int)) = true := beq_iff_eq.2 (by omega)
          have hown1 := H1.out.alloc (.cells #[.int .i64 n] 3)
          have hrd1 : Rd (wr.alloc (.cells #[.int .i64 n] 3)) (some ⟨wr.heap.size, 0, none⟩) [.int .i64 n] := Rd.block (heap_alloc_new wr _) (by simp)
          have h63 : one.length + 1 ≤ maxLen := by simp only [maxLen]; omega
          have hlim : (one.length + 1) * 8 ≤ 140737488355328 := by omega
          have hbs1 : B ≤ (wr.alloc (.cells #[.int .i64 n] 3)).heap.size := by simp; omega
          have hone1 : ∀ u ∈ [Value.int IntKind.i64 n], u.oneCell' = true := fun u hu => by rw [List.mem_singleton] at hu; subst hu; rfl
          go_upto_region 14 with (first | (at_builtin; refine list_app _ rfl (.tmp 42) (.tmp 44) 56 rfl B 3 i0 _ 1 8 Tryz.underlying56 hi hz0 hz1 hz2 rfl Nat.one_pos _ _ _ rfl hown1 _ 1 1 [.int .i64 n] rfl rfl hrd1 hone1 h63 hlim hbs1 ?_; intro v4 w4 hown4 hg4))
          rw [← is_snoc] at hown4
          have hoA := (HO.out.alloc (.cells #[.int .i64 n] 3)).kept hg4 (own_apart (HO.out.alloc (.cells #[.int .i64 n] 3)) hown1 (by decide))
          have hrA := (HRS.out.keep (Nat.le_refl B) (fun q hq _ => Below.heap_alloc wr (.cells #[.int .i64 n] 3) q (by omega))).keep (Nat.le_refl B) (keep_one hown1 hg4 (Nat.le_refl B) hbs1)
          have hbA : Below w.heap.size w w4 := (hbw.alloc hbw.size (.cells #[.int .i64 n] 3)).grown hg4 (by simp; omega) (fun g hg => by have := (hown1.lt g hg).1; omega)
          have hsA : B ≤ w4.heap.size := Nat.le_trans hbs1 hg4.size
          obtain ⟨hn4, A4, c4, rfl, hri⟩ := own_row hown4
          have HN4 := Lib.hid hn4
          clear hn4
          clear hown1 hrd1 h63 hlim hbs1 hone1 hg4
          have hownO := hoA.alloc (.cells #[.slice A4 (one.length + 1) c4] 56)
          have hrdO : Rd (w4.alloc (.cells #[.slice A4 (one.length + 1) c4] 56)) (some ⟨w4.heap.size, 0, none⟩) [.slice A4 (one.length + 1) c4] := Rd.block (heap_alloc_new w4 _) (by simp)
          have h63o : outs.length + 1 ≤ maxLen := by simp only [maxLen]; omega
          have hlimo : (outs.length + 1) * 24 ≤ 140737488355328 := by omega
          have hbs4 : w.heap.size ≤ (w4.alloc (.cells #[.slice A4 (one.length + 1) c4] 56)).heap.size := by simp; omega
          go_wp2_with (first | (at_builtin; refine list_app _ rfl (.tmp 56) (.tmp 58) 50 rfl w.heap.size 56 j0 _ 1 24 Tryz.underlying50 hj hy0 hy1 hy2 rfl Nat.one_pos _ _ _ rfl hownO _ 1 1 [.slice A4 (one.length + 1) c4] rfl rfl hrdO (sl_one _ _ _) h63o hlimo hbs4 ?_; intro v5 w5 hown5 hg5))
          have hrB := ((hrA.keep (Nat.le_refl B) (fun q hq _ => Below.heap_alloc w4 (.cells #[.slice A4 (one.length + 1) c4] 56) q (by omega))).keep (B' := w4.heap.size) hsA (fun _ _ _ => rfl)).snoc2 HN4.out (c := c4) (hri.keep (Nat.le_refl _) (fun q hq _ => Below.heap_alloc w4 (.cells #[.slice A4 (one.length + 1) c4] 56) q hq))
          have hrC := hrB.keep (B' := w5.heap.size) (Nat.le_trans (by simp) hg5.size) (keep_out hownO (by decide) hg5)
          have hbC : Below w.heap.size w w5 := (hbA.alloc hbA.size (.cells #[.slice A4 (one.length + 1) c4] 56)).grown hg5 hbs4 (fun g hg => (hownO.lt g hg).1)
          clear hownO hrdO h63o hlimo hbs4 hrB hrA hoA hg5
          go_wp2
          go_round
          case rel => exact ⟨k + 1, outs ++ [one ++ [n]], _, [], -1, w5.heap.size, by go_num, rfl, ⟨by omega, by omega⟩, ⟨by rw [List.length_append, List.length_singleton]; exact hown5, hrC, Own.nil_ _ _ _ _⟩, ⟨hbC.size, Nat.le_refl _, hbC⟩, ⟨by simp, by rw [List.length_append, List.length_singleton]; omega⟩, .inr ⟨by omega, HE2.out⟩⟩
          case measure => simp [intOf]; omega
      · subst hE
        go_wp2
        obtain ⟨A, c, rfl, hrd⟩ := HRS.out.rdp HO.out
        go_ret
        exact ⟨⟨A, c, rfl, hrd⟩, hbw⟩
end Go.Proofs.YtmagokkegadmiaaGreatDoor
namespace Go.Proofs.YtmagokkegadmiaaGreatDoor
open Go.RowKit

theorem rputE_any (s : Sq) (A : Option Addr) (c : Nat) (m : Int) (T : List UInt8) (w : World) (hm : mayS s = m) (hT : putE s = T) (hp : s.params.length ≤ 4294967296) (hi : s.inter.length ≤ 4294967296) (hr : RdP w A s.params) :
    Calls Tryz.prog 25 #[sqV s A c] w (PutE m T w) := by
  subst hT
  subst hm
  by_cases h : mayS s = 0
  · refine (wput_yes s A c w h hr).mono ?_
    rintro e w' ⟨⟨A', c', rfl, h1, h2⟩, hb⟩
    rw [putE_0 h, h]
    exact ⟨⟨A', c', rfl, h1, h2⟩, hb⟩
  · refine (wput_no s A c _ w rfl h hp hi hr).mono ?_
    rintro e w' ⟨rfl, hb⟩
    rw [putE_no h]
    exact ⟨⟨none, 0, rfl, Nat.le_refl _, Rd.nil _ _⟩, hb⟩
end Go.Proofs.YtmagokkegadmiaaGreatDoor
namespace Go.Proofs.YtmagokkegadmiaaGreatDoor
open Go.RowKit Go.WideShapes Go.ChangeShapes Go.ChangeAt Go.ChangeMaps Go.Deep

section
variable {H : Type} {enc : TypeId × Value → H}
theorem okWide_sk {P : Program} {t : TypeId} {fs : Array Field} {W : World} {r : Reach} {b0 : Nat} {v : Value} (ht : P.underlying t = some (.struct fs)) (h : Value.okWide P W r b0 t v) : ∃ cs, v = .agg cs ∧ cs.size = P.cellsOf t := by
  simp only [Value.okWide, ht] at h
  obtain ⟨cs, h1, h2, _⟩ := h
  exact ⟨cs, h1, h2⟩
theorem in_of_wf {z : Int} (h : (Lit.int .i64 z).wf = true) : in10 z := by
  have := bounds_i64 h
  exact ⟨this.1, this.2⟩
set_option maxRecDepth 100000 in
theorem open_ky {r : Reach} {b0 : Nat} {W : World} {v : Value} {d : DataW H} {ps : List MemPlace} (hval : Value.okWide Tryz.prog W r b0 25 v) (h : DataW.Trod enc Tryz.prog W 0 (fun _ => true) true 25 v d ps) :
    ∃ k : Ky, v = kyV k ∧ okK k ∧ k.text.size ≤ maxLen ∧ ∃ y0 y1 y2 y3 y4, d = .agg [y0, y1, y2, y3, y4, .lit (.string k.text.data.toList)] := by
  obtain ⟨cs, rfl, _⟩ := okWide_sk Tryz.underlying25 hval
  obtain ⟨fuel, hf⟩ := h
  obtain ⟨xs, n, _, hx, hlen, hxl, hf⟩ := DataW.trod_struct Tryz.underlying25 hf
  rw [show Tryz.prog.cellsOf 25 = 6 by kernel_rfl] at hlen
  obtain ⟨l⟩ := cs
  simp only [Value.cells] at hlen hf
  match l, hlen with
  | [u0, u1, u2, u3, u4, u5], _ =>
    match xs, hxl with
    | [y0, y1, y2, y3, y4, y5], _ =>
      have ci : Tryz.prog.cellsOf 3 = 1 := by kernel_rfl
      have cs : Tryz.prog.cellsOf 9 = 1 := by kernel_rfl
      have g0 : DataW.trod enc Tryz.prog W 0 (fun _ => true) true n 3 (List.take (Tryz.prog.cellsOf 3) (List.drop 0 [u0, u1, u2, u3, u4, u5])) = some y0 := hf 0 _ rfl
      have g1 : DataW.trod enc Tryz.prog W 0 (fun _ => true) true n 3 (List.take (Tryz.prog.cellsOf 3) (List.drop 1 [u0, u1, u2, u3, u4, u5])) = some y1 := hf 1 _ rfl
      have g2 : DataW.trod enc Tryz.prog W 0 (fun _ => true) true n 3 (List.take (Tryz.prog.cellsOf 3) (List.drop 2 [u0, u1, u2, u3, u4, u5])) = some y2 := hf 2 _ rfl
      have g3 : DataW.trod enc Tryz.prog W 0 (fun _ => true) true n 3 (List.take (Tryz.prog.cellsOf 3) (List.drop 3 [u0, u1, u2, u3, u4, u5])) = some y3 := hf 3 _ rfl
      have g4 : DataW.trod enc Tryz.prog W 0 (fun _ => true) true n 3 (List.take (Tryz.prog.cellsOf 3) (List.drop 4 [u0, u1, u2, u3, u4, u5])) = some y4 := hf 4 _ rfl
      have g5 : DataW.trod enc Tryz.prog W 0 (fun _ => true) true n 9 (List.take (Tryz.prog.cellsOf 9) (List.drop 5 [u0, u1, u2, u3, u4, u5])) = some y5 := hf 5 _ rfl
      rw [ci] at g0 g1 g2 g3 g4
      rw [cs] at g5
      obtain ⟨z0, k0, _, w0⟩ := DataW.trod_int Tryz.underlying3 g0
      obtain ⟨z1, k1, _, w1⟩ := DataW.trod_int Tryz.underlying3 g1
      obtain ⟨z2, k2, _, w2⟩ := DataW.trod_int Tryz.underlying3 g2
      obtain ⟨z3, k3, _, w3⟩ := DataW.trod_int Tryz.underlying3 g3
      obtain ⟨z4, k4, _, w4⟩ := DataW.trod_int Tryz.underlying3 g4
      obtain ⟨s, k5, e5, w5⟩ := DataW.trod_string Tryz.underlying9 g5
      simp at k0 k1 k2 k3 k4 k5
      subst k0 k1 k2 k3 k4 k5
      refine ⟨⟨z0, z1, z2, z3, z4, s⟩, rfl, ⟨in_of_wf w0, in_of_wf w1, in_of_wf w2, in_of_wf w3, in_of_wf w4⟩, w5, y0.1, y1.1, y2.1, y3.1, y4.1, ?_⟩
      simp only [Prod.mk.injEq] at hx
      rw [hx.1, e5]
      rfl
end
end Go.Proofs.YtmagokkegadmiaaGreatDoor
namespace Go.Proofs.YtmagokkegadmiaaGreatDoor
open Go.RowKit

/-- What OtherRound needs besides. -/
structure OthF (Inv : World → Prop) : Prop extends OthC Inv where
  look : ∀ (c : Int) (w : World), Inv w → in10 c → Calls Tryz.prog 15 #[.int .i64 c] w fun e w' => e = .returned (enV (lookE c)) ∧ Below w.heap.size w w'
variable {Inv : World → Prop}
theorem char_want {o : Int} {k : Ky} (h : isO o k = true) : charK k = if ((lookE k.code).kind == 2) = true then k.code else shownK k := by
  obtain ⟨_, _, _, h4, _⟩ := isO_parts h
  unfold charK
  rcases h4 with h4 | h4
  · rw [if_pos h4, h4]; rfl
  · rw [if_neg (by omega), h4]; rfl
set_option maxRecDepth 100000 in
set_option maxHeartbeats 8000000 in
theorem otherRound_walk (HF : OthF Inv) (m : Mo) (_ : okM m) (k : Ky) (hk : okK k) (hs : k.text.size ≤ 4294967296) (w : World) (hv : Inv w) : Calls Tryz.prog 5 #[moV m, kyV k] w fun e w' => e = .returned (.bool true) ∧ Below w.heap.size w w' := by
  have H := HF.toOthC
  obtain ⟨L, hL⟩ : ∃ L, othL m.other k = L := ⟨_, rfl⟩
  obtain ⟨q, hq⟩ : ∃ q, isO m.other k = q := ⟨_, rfl⟩
  obtain ⟨n, hn⟩ : ∃ n, L.length = n := ⟨_, rfl⟩
  obtain ⟨v, hmv⟩ : ∃ v, mayK k = v := ⟨_, rfl⟩
  obtain ⟨sh, hsh⟩ : ∃ v, shownK k = v := ⟨_, rfl⟩
  obtain ⟨ov, hov⟩ : ∃ v, oldN k.mods = v := ⟨_, rfl⟩
  obtain ⟨ch, hch⟩ : ∃ v, charK k = v := ⟨_, rfl⟩
  obtain ⟨K, hK⟩ : ∃ K, (lookE k.code).kind = K := ⟨_, rfl⟩
  obtain ⟨t, ht⟩ : ∃ t, (K == 2) = t := ⟨_, rfl⟩
  have hnl : n ≤ 20000 := by rw [← hn, ← hL]; exact oth_len _ _
  have HKA : Hid (∀ W, Inv W → Calls Tryz.prog 9 #[moV m, kyV k] W (OutC L n q W)) := Lib.hid fun W hW => H.key_at m k rfl hL hn hq hk hs W hW
  have HMY : Hid (∀ W, Calls Tryz.prog 13 #[kyV k] W fun e w' => e = .returned (.bool v) ∧ Below W.heap.size W w') := Lib.hid fun W => by rw [← hmv]; exact rmay10_any k hs W
  have HSH : Hid (∀ W, Calls Tryz.prog 14 #[kyV k] W fun e w' => e = .returned (.int .i64 sh) ∧ Below W.heap.size W w') := Lib.hid fun W => by rw [← hsh]; exact rshown_any k hk W
  have HOL : Hid (∀ W, Calls Tryz.prog 16 #[.int .i64 k.mods] W fun e w' => e = .returned (.int .i64 ov) ∧ Below W.heap.size W w') := Lib.hid fun W => by rw [← hov]; exact rold_any k.mods W
  obtain ⟨E, hE⟩ : ∃ E, enV (lookE k.code) = E := ⟨_, rfl⟩
  have HLK : Hid (∀ W, Inv W → Calls Tryz.prog 15 #[.int .i64 k.code] W fun e w' => e = .returned E ∧ Below W.heap.size W w') := Lib.hid fun W hW => by rw [← hE]; exact HF.look k.code W hW hk.code
  have hf : ∀ W : World, (Instr.field 37 E 0).run Tryz.prog W = .ok (.int .i64 K) W := fun W => by
    rw [← hK, ← hE]
    exact (by kernel_rfl : (Instr.field 37 (enV (lookE k.code)) 0).run Tryz.prog W = .ok (.int .i64 (lookE k.code).kind) W)
  have HBK : Hid (backO L = if q = true then (ch, ov, true) else (0, 0, false)) := Lib.hid (by
    rw [← hL]
    cases q with
    | true => rw [back_is hq, hch, hov]; rfl
    | false => rw [back_no hq]; rfl)
  have HWT : Hid (q = true → ch = if t = true then k.code else sh) := Lib.hid fun h => by
    rw [h] at hq
    have := char_want hq
    rw [hch, hK, ht, hsh] at this
    exact this
  have HNL : Hid (q = false → n = 0) := Lib.hid fun h => by
    rw [h] at hq
    rw [← hn, ← hL, othL_no hq]
    rfl
  have HN := Lib.hid hn
  clear hL hq hn hmv hsh hov hch hK hE hk hs
  simp only [moV, kyV] at HKA HMY HSH HOL HLK HWT ⊢
  obtain ⟨code, mods, typ, shift, base, text⟩ := k
  obtain ⟨m0, m1, m2, m3, m4, m5, m6, m7, m8, m9⟩ := m
  simp only at HKA HMY HSH HOL HLK HWT
  have hB : Below w.heap.size w ((w.alloc (.cells #[.bool m0, .bool m1, .bool m2, .bool m3, .bool m4, .bool m5, .bool m6, .int .i64 m7, .int .i64 m8, .int .i64 m9] 23)).alloc (.cells #[.int .i64 code, .int .i64 mods, .int .i64 typ, .int .i64 shift, .int .i64 base, .string text] 25)) := ((Below.refl _ w).alloc (Nat.le_refl _) _).alloc (by simp) _
  have a0 := (Blk.new w 23 #[.bool m0, .bool m1, .bool m2, .bool m3, .bool m4, .bool m5, .bool m6, .int .i64 m7, .int .i64 m8, .int .i64 m9]).alloc (.cells #[.int .i64 code, .int .i64 mods, .int .i64 typ, .int .i64 shift, .int .i64 base, .string text] 25)
  have b0 := Blk.new (w.alloc (.cells #[.bool m0, .bool m1, .bool m2, .bool m3, .bool m4, .bool m5, .bool m6, .int .i64 m7, .int .i64 m8, .int .i64 m9] 23)) 25 #[.int .i64 code, .int .i64 mods, .int .i64 typ, .int .i64 shift, .int .i64 base, .string text]
  rw [World.size_alloc] at b0
  have hv0 := H.invB hv hB
  go_enter Tryz.func5, Tryz.ntmps5
  go_wp2_with fail
  refine (othAwake H _ hv0).mono ?_
  rintro e w1 ⟨rfl, hb1⟩
  have a1 := a0.below hb1 a0.lt
  have b1 := b0.below hb1 b0.lt
  have hB1 := hB.trans (hb1.mono hB.size)
  clear hv0 a0 b0 hB hb1
  obtain ⟨y0, y1, y2, y3, y4, y5⟩ := Blk.cells6 b1
  go_wp2_with fail
  refine (HMY.out _).mono ?_
  rintro e w2 ⟨rfl, hb2⟩
  have a2 := a1.below hb2 a1.lt
  have b2 := b1.below hb2 b1.lt
  have hB2 := hB1.trans (hb2.mono hB1.size)
  clear a1 b1 hB1 hb2 y0 y1 y2 y3 y4 y5 HMY
  cases v with
  | false =>
    go_wp2_with fail
    go_ret
    exact ⟨rfl, hB2⟩
  | true =>
  obtain ⟨x0, x1, x2, x3, x4, x5, x6, x7, x8, x9⟩ := Blk.cells10 a2
  obtain ⟨y0, y1, y2, y3, y4, y5⟩ := Blk.cells6 b2
  go_wp2_with fail
  refine (HKA.out _ (H.invB hv hB2)).mono ?_
  rintro e w3 ⟨A3, d3, rfl, hd3, hr3, hb3⟩
  have b3 := b2.below hb3 b2.lt
  have hB3 := hB2.trans (hb3.mono hB2.size)
  clear a2 b2 hB2 hb3 x0 x1 x2 x3 x4 x5 x6 x7 x8 x9 y0 y1 y2 y3 y4 y5 HKA
  cases q with
  | false =>
    obtain rfl : n = 0 := HNL.out rfl
    have hbk := H.back_at A3 d3 L (HBK.out.trans (if_neg (by decide))) w3 (H.invB hv hB3) HN.out hd3 (by decide) hr3
    clear HNL HWT HBK
    go_wp2_with fail
    refine hbk.mono ?_
    clear hbk
    rintro e w4 ⟨rfl, hb4⟩
    have b4 := b3.below hb4 b3.lt
    have hB4 := hB3.trans (hb4.mono hB3.size)
    clear b3 hB3 hb4 hr3
    obtain ⟨y0, y1, y2, y3, y4, y5⟩ := Blk.cells6 b4
    go_wp2_with fail
    refine (HSH.out _).mono ?_
    rintro e w5 ⟨rfl, hb5⟩
    have b5 := b4.below hb5 b4.lt
    have hB5 := hB4.trans (hb5.mono hB4.size)
    clear b4 hB4 hb5 y0 y1 y2 y3 y4 y5
    have y0 := b5.cell 0
    go_wp2_with fail
    refine (HLK.out _ (H.invB hv hB5)).mono ?_
    rintro e w6 ⟨rfl, hb6⟩
    have b6 := b5.below hb6 b5.lt
    have hB6 := hB5.trans (hb6.mono hB5.size)
    clear b5 hB5 hb6 y0
    have y0 := b6.cell 0
    cases t with
    | true =>
      go_wp2_with fail
      go_ret
      exact ⟨rfl, hB6⟩
    | false =>
      go_wp2_with fail
      go_ret
      exact ⟨rfl, hB6⟩
  | true =>
    have hbk := H.back_at A3 d3 L (HBK.out.trans (if_pos rfl)) w3 (H.invB hv hB3) HN.out hd3 (by omega) hr3
    have HWT2 := Lib.hid (HWT.out rfl)
    clear HNL HWT HBK
    go_wp2_with fail
    refine hbk.mono ?_
    clear hbk
    rintro e w4 ⟨rfl, hb4⟩
    have b4 := b3.below hb4 b3.lt
    have hB4 := hB3.trans (hb4.mono hB3.size)
    clear b3 hB3 hb4 hr3
    obtain ⟨y0, y1, y2, y3, y4, y5⟩ := Blk.cells6 b4
    go_wp2_with fail
    refine (HSH.out _).mono ?_
    rintro e w5 ⟨rfl, hb5⟩
    have b5 := b4.below hb5 b4.lt
    have hB5 := hB4.trans (hb5.mono hB4.size)
    clear b4 hB4 hb5 y0 y1 y2 y3 y4 y5
    have y0 := b5.cell 0
    go_wp2_with fail
    refine (HLK.out _ (H.invB hv hB5)).mono ?_
    rintro e w6 ⟨rfl, hb6⟩
    have b6 := b5.below hb6 b5.lt
    have hB6 := hB5.trans (hb6.mono hB5.size)
    clear b5 hB5 hb6 y0
    have y0 := b6.cell 0
    have y1 := b6.cell 1
    cases t with
    | true =>
      obtain rfl : ch = code := HWT2.out
      go_wp2_with fail
      refine (HOL.out _).mono ?_
      rintro e w7 ⟨rfl, hb7⟩
      go_wp2_with fail
      go_ret
      exact ⟨ret_b (by simp), hB6.trans (hb7.mono hB6.size)⟩
    | false =>
      obtain rfl : ch = sh := HWT2.out
      go_wp2_with fail
      refine (HOL.out _).mono ?_
      rintro e w7 ⟨rfl, hb7⟩
      go_wp2_with fail
      go_ret
      exact ⟨ret_b (by simp), hB6.trans (hb7.mono hB6.size)⟩
end Go.Proofs.YtmagokkegadmiaaGreatDoor
namespace Go.Proofs.YtmagokkegadmiaaGreatDoor
open Go.RowKit

theorem othF : OthF Inv12 where
  toOthC := othC
  look := fun c w hv _ => plook_any c w hv.1 hv.2.1
end Go.Proofs.YtmagokkegadmiaaGreatDoor
