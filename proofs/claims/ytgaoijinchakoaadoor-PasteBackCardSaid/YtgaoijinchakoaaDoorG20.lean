/-
  Stage 17, the document's paste, walked.
-/
import Derived.Test.YtgaoijinchakoaaDoorG03
import Derived.Test.YtgaoijinchakoaaDoorG04
import Derived.Test.YtgaoijinchakoaaDoorG08
import Derived.Test.YtgaoijinchakoaaDoorG11
import Derived.Test.YtgaoijinchakoaaDoorG17
namespace Go.Proofs.YtgaoijinchakoaaDoor
open Go.RowKit
section
attribute [local go_sem] Oper.semAt_some
def OutD (L : List UInt8) (n : Nat) (w : World) (e : Ending) (w' : World) : Prop := ∃ A c, e = .returned (.slice A n c) ∧ Own w' w.heap.size 5 1 (.slice A n c) n (bs L) ∧ Below w.heap.size w w'
theorem ret_bd {x y : Bool} (h : x = y) : Ending.returned (.bool x) = .returned (.bool y) := by rw [h]
set_option maxRecDepth 100000 in
set_option maxHeartbeats 16000000 in
theorem rclean17_any (r : Int) (q : Bool) (hq : clnP r = q) (w : World) : Calls Tryd.prog 24 #[.int .i64 r] w fun e w' => e = .returned (.bool q) ∧ Below w.heap.size w w' := by
 unfold clnP at hq
 by_cases h9 : r = 9
 ·subst h9
  have HF := Lib.hid (show true = q by rw [← hq]; rfl)
  clear hq
  go_enter Tryd.func24, Tryd.ntmps24
  go_wp2_with fail
  go_ret
  exact ⟨by first | exact ret_bd HF.out | (rw [← HF.out]; rfl), Below.refl _ _⟩
 by_cases h10 : r = 10
 ·subst h10
  have HF := Lib.hid (show true = q by rw [← hq]; rfl)
  clear hq h9
  go_enter Tryd.func24, Tryd.ntmps24
  go_wp2_with fail
  go_ret
  exact ⟨by first | exact ret_bd HF.out | (rw [← HF.out]; rfl), Below.refl _ _⟩
 by_cases h13 : r = 13
 ·subst h13
  have HF := Lib.hid (show true = q by rw [← hq]; rfl)
  clear hq h9 h10
  go_enter Tryd.func24, Tryd.ntmps24
  go_wp2_with fail
  go_ret
  exact ⟨by first | exact ret_bd HF.out | (rw [← HF.out]; rfl), Below.refl _ _⟩
 rw [decide_eq_false h9, decide_eq_false h10, decide_eq_false h13] at hq
 have t9 : (r == 9) = false := beq_false_of_ne h9
 have t10 : (r == 10) = false := beq_false_of_ne h10
 have t13 : (r == 13) = false := beq_false_of_ne h13
 clear h9 h10 h13
 by_cases h32 : 32 ≤ r
 ·by_cases h127 : r < 127
  ·have HF := Lib.hid (show true = q by rw [← hq, decide_eq_true h32, decide_eq_true h127]; rfl)
   clear hq
   go_enter Tryd.func24, Tryd.ntmps24
   go_wp2_with fail
   go_ret
   exact ⟨by first | exact ret_bd HF.out | (rw [← HF.out]; rfl), Below.refl _ _⟩
  ·by_cases h159 : 159 < r
   ·have HF := Lib.hid (show true = q by rw [← hq, decide_eq_true h32, decide_eq_false h127, decide_eq_true h159]; rfl)
    clear hq
    go_enter Tryd.func24, Tryd.ntmps24
    go_wp2_with fail
    go_ret
    exact ⟨by first | exact ret_bd HF.out | (rw [← HF.out]; rfl), Below.refl _ _⟩
   ·have HF := Lib.hid (show false = q by rw [← hq, decide_eq_true h32, decide_eq_false h127, decide_eq_false h159]; rfl)
    clear hq
    go_enter Tryd.func24, Tryd.ntmps24
    go_wp2_with fail
    go_ret
    exact ⟨by first | exact ret_bd HF.out | (rw [← HF.out]; rfl), Below.refl _ _⟩
 ·have HF := Lib.hid (show false = q by rw [← hq, decide_eq_false h32]; rfl)
  clear hq
  go_enter Tryd.func24, Tryd.ntmps24
  go_wp2_with fail
  go_ret
  exact ⟨by first | exact ret_bd HF.out | (rw [← HF.out]; rfl), Below.refl _ _⟩
theorem rd_upto17 {w : World} {A : Option Addr} {l : List UInt8} (k : Nat) (hr : Rd w A (bs l)) : Rd w A (bs (l.take k)) := fun hp => by
 rw [bs_length, List.length_take] at hp
 obtain ⟨b, o, rfl, hb, hx⟩ := hr (by rw [bs_length]; omega)
 refine ⟨b, o, rfl, hb, fun i u hu => ?_⟩
 apply hx
 rw [bs, List.map_take, List.getElem?_take] at hu
 split at hu
 ·exact hu
 ·cases hu
theorem max_1 (m : Nat) (ts : Array TypeId) (t : TypeId) (W : World) : (Builtin.max_ ts t #[.int .i64 (m : Int), .int .i64 1]).run Tryd.prog W = .ok (.int .i64 (max m 1 : Nat)) W := by
 rw [run_max_int2]
 congr 2
 split <;> omega
set_option maxRecDepth 100000 in
set_option maxHeartbeats 16000000 in
theorem rclean_any (A : Option Addr) (n c : Nat) (t : List UInt8) (hn : t.length = n) (w : World) (ht : n ≤ 4000000) (htc : n ≤ c) (hr : Rd w A (bs t)) :
 Calls Tryd.prog 11 #[.slice A n c] w (OutD (clnL t) (clnL t).length w) := by
 obtain ⟨i0, hi0, hz0, hz1, hz2⟩ : ∃ i, Tryd.prog.info? 5 = some i ∧ i.zero = some (.int .u8 0) ∧ i.size = 1 ∧ i.bytes = 1 := ⟨_, rfl, rfl, rfl, rfl⟩
 have HN := Lib.hid hn
 clear hn
 go_enter Tryd.func11, Tryd.ntmps11
 go_wp2_with fail
 go_loopw [3, 4] (fun v i wr => ∃ (k a : Nat) (L : List UInt8), k ≤ n ∧ a ≤ k ∧ i = .int .i64 k ∧ Own wr w.heap.size 5 1 v a (bs L) ∧ Hid (clnL t = L ++ clnL (t.drop k) ∧ L.length = a) ∧ Below w.heap.size w wr) (fun _ i _ => n - (intOf i).toNat)
 case atStart => exact ⟨0, 0, [], Nat.zero_le _, Nat.le_refl _, rfl, Own.nil_ _ _ _ _, Lib.hid ⟨by simp, rfl⟩, Below.refl _ _⟩
 case round =>
  obtain ⟨k, a, L, hk, hak, rfl, own, HC, hbw⟩ := hrel
  by_cases hlt : k < n
  ·have hkl : k < t.length := by rw [HN.out]; exact hlt
   have hrw := hr.below hbw
   obtain ⟨b, o, rfl, hb, hcc⟩ := hrw.at_ (by omega)
   have hdr := (RdIn.of hrw).drop k hkl
   clear hcc
   obtain ⟨⟨r, m⟩, htk⟩ : ∃ x, takeL (t.drop k) = x := ⟨_, rfl⟩
   have hm : m ≤ n - k := by have := (take_snd_le (t.drop k)).1; rw [htk, List.length_drop, HN.out] at this; exact this
   obtain ⟨q, hq⟩ : ∃ q, clnP r = q := ⟨_, rfl⟩
   obtain ⟨M, hM⟩ : ∃ M, max m 1 = M := ⟨_, rfl⟩
   have hmax : ∀ ts tt W, (Builtin.max_ ts tt #[.int .i64 (m : Int), .int .i64 1]).run Tryd.prog W = .ok (.int .i64 (M : Nat)) W := fun ts tt W => by rw [max_1, hM]
   have HST : Hid (clnL t = L ++ ((if 0 < m ∧ q = true then (t.drop k).take m else []) ++ clnL (t.drop (k + M)))) := Lib.hid (by
    have h := clL_step (l := t.drop k) (by intro e; have := congrArg List.length e; simp at this; omega)
    rw [htk] at h
    simp only [hq, hM, List.drop_drop] at h
    rw [HC.out.1, h])
   have HTK : Hid (∀ c W, n - k ≤ c → Rd W (some ⟨b, o + k, none⟩) (bs (t.drop k)) → Calls Tryd.prog 23 #[.slice (some ⟨b, o + k, none⟩) (n - k) c] W fun e w' => e = .returned (.tuple #[.int .i64 r, .int .i64 m]) ∧ Below W.heap.size W w') := Lib.hid fun c W hc hR => rtake_tup _ (n - k) c (t.drop k) r m W (by rw [List.length_drop, HN.out]) htk (by rw [List.length_drop, HN.out]; omega) hc hR
   have HCL : Hid (∀ W, Calls Tryd.prog 24 #[.int .i64 r] W fun e w' => e = .returned (.bool q) ∧ Below W.heap.size W w') := Lib.hid fun W => rclean17_any r q hq W
   clear htk hq
   have hM1 : 1 ≤ M ∧ M ≤ n - k := by omega
   go_wp2_with fail
   refine (HTK.out _ _ (by omega) hdr).mono ?_
   rintro e w2 ⟨rfl, hb2⟩
   have hbw2 := hbw.trans (hb2.mono hbw.size)
   have own2 := own.behind hb2
   clear own HTK hdr hb2 hbw
   by_cases hm0 : m = 0
   ·subst hm0
    have HS2 := Lib.hid (show clnL t = L ++ clnL (t.drop (k + M)) by have := HST.out; rwa [if_neg (by omega), List.nil_append] at this)
    clear HST
    go_wp2_with fail
    go_roundw
    case rel => exact ⟨k + M, a, L, by omega, by omega, by go_num, own2, Lib.hid ⟨HS2.out, HC.out.2⟩, hbw2⟩
    case measure => simp [intOf]; omega
   ·have hm1 : 0 < m := by omega
    cases q with
    | false =>
      have HS2 := Lib.hid (show clnL t = L ++ clnL (t.drop (k + M)) by have := HST.out; rwa [if_neg (by simp), List.nil_append] at this)
      clear HST
      go_wp2_with fail
      refine (HCL.out _).mono ?_
      rintro e w3 ⟨rfl, hb3⟩
      have hbw3 := hbw2.trans (hb3.mono hbw2.size)
      have own3 := own2.behind hb3
      clear own2 hb3 hbw2
      go_wp2_with fail
      go_roundw
      case rel => exact ⟨k + M, a, L, by omega, by omega, by go_num, own3, Lib.hid ⟨HS2.out, HC.out.2⟩, hbw3⟩
      case measure => simp [intOf]; omega
    | true =>
      have HS2 := Lib.hid (show clnL t = (L ++ (t.drop k).take m) ++ clnL (t.drop (k + M)) by have := HST.out; rwa [if_pos ⟨hm1, rfl⟩, ← List.append_assoc] at this)
      have hpl : ((t.drop k).take m).length = m := by rw [List.length_take, List.length_drop, HN.out]; omega
      have HL2 := Lib.hid (show (L ++ (t.drop k).take m).length = a + m by rw [List.length_append, hpl, HC.out.2])
      clear HST
      go_wp2_with fail
      refine (HCL.out _).mono ?_
      rintro e w3 ⟨rfl, hb3⟩
      have hbw3 := hbw2.trans (hb3.mono hbw2.size)
      have own3 := own2.behind hb3
      have hr3 : Rd w3 (some ⟨b, o + k, none⟩) (bs ((t.drop k).take m)) := rd_upto17 m ((RdIn.of (hr.below hbw3)).drop k hkl)
      have HPL := Lib.hid (show (bs ((t.drop k).take m)).length = (k + m - k) * 1 by rw [bs_length, hpl]; omega)
      have hs3 := hbw3.size
      have h63 : a + (k + m - k) ≤ maxLen := by simp only [maxLen]; omega
      have hlim : (a + (k + m - k)) * 1 ≤ 140737488355328 := by omega
      clear own2 hb3 hbw2 hpl
      go_wp2_with (at_builtin; refine list_app _ rfl (.tmp 24) (.tmp 30) 24 rfl w.heap.size 5 i0 _ 1 1 Tryd.underlying24 hi0 hz0 hz1 hz2 rfl Nat.one_pos _ a _ rfl own3 (some ⟨b, o + k, none⟩) (k + m - k) (c - k) (bs ((t.drop k).take m)) rfl HPL.out hr3 (bs_one _) h63 hlim hs3 ?_; intro v4 w4 own4 hg4)
      have hbw4 := Lib.hid (hbw3.grown hg4 hs3 (fun j hj => (own3.lt j hj).1))
      rw [← bs_append, show k + m - k = m by omega] at own4
      clear hg4 own3 hbw3 hr3
      go_roundw
      case rel => exact ⟨k + M, a + m, _, by omega, by omega, by go_num, own4, Lib.hid ⟨HS2.out, HL2.out⟩, hbw4.out⟩
      case measure => simp [intOf]; omega
  ·obtain rfl : k = n := by omega
   obtain ⟨h1, h2⟩ := HC.out
   have hL : clnL t = L := by rw [h1, List.drop_eq_nil_of_le (by rw [HN.out]; exact Nat.le_refl _)]; simp [clnL, clnN]
   obtain ⟨A2, c2, rfl, _⟩ := own.form
   have hLn : (clnL t).length = a := by rw [hL, h2]
   go_wp2_with fail
   go_ret
   exact ⟨A2, c2, congrArg (fun x => Ending.returned (.slice A2 x c2)) hLn.symm, by rw [hLn, hL]; exact own, hbw⟩
theorem conv17 {w : World} {A : Option Addr} {L : List UInt8} {n c : Nat} (hn : L.length = n) (h : Rd w A (bs L)) : (convert 24 9 (.slice A n c)).run Tryd.prog w = .ok (.string ⟨L.toArray⟩) w :=
 conv_str (P := Tryd.prog) Tryd.underlying24 Tryd.underlying5 hn h _ Tryd.underlying9
theorem beg_take {l s : List UInt8} {m : Nat} (hm : s.length = m) : (l.take m == s) = (decide (m ≤ l.length) && begB l s) := by
 subst hm
 unfold begB
 rw [Bool.eq_iff_iff, beq_iff_eq, Bool.and_eq_true, decide_eq_true_eq, List.isPrefixOf_iff_prefix]
 constructor
 ·intro h
  have hp : s <+: l := by rw [← h]; exact List.take_prefix _ _
  exact ⟨hp.length_le, hp⟩
 ·rintro ⟨_, t, rfl⟩
  rw [List.take_left]
set_option maxRecDepth 100000 in
set_option maxHeartbeats 16000000 in
theorem rbegins_any (A : Option Addr) (n c : Nat) (l s : List UInt8) (m : Nat) (q : Bool) (hn : l.length = n) (hm : s.length = m) (hq : begB l s = q) (hc : n ≤ c) (hm2 : m ≤ 1000) (w : World) (hr : Rd w A (bs l)) : Calls Tryd.prog 32 #[.slice A n c, .string ⟨s.toArray⟩] w fun e w' => e = .returned (.bool q) ∧ Below w.heap.size w w' := by
 have hsz : (⟨s.toArray⟩ : ByteArray).size = m := by rw [← hm]; rfl
 have hsd : s.toArray.size = m := by rw [← hm]; simp
 by_cases h : m ≤ n
 ·have hcv := conv17 (A := A) (L := l.take m) (n := m) (c := c) (by rw [List.length_take, hn]; omega) (rd_upto17 m hr)
  have hbt := beg_take (l := l) (s := s) hm
  rw [hn, decide_eq_true h, Bool.true_and, hq] at hbt
  clear hn hq
  cases q with
  | true =>
    rw [beq_iff_eq.1 hbt] at hcv
    clear hbt
    go_enter Tryd.func32, Tryd.ntmps32
    go_wp2_with fail
    go_ret
    exact ⟨by first | rfl | simp, Below.refl _ _⟩
  | false =>
    have hnl : l.take m ≠ s := by intro e; rw [e, beq_self_eq_true] at hbt; cases hbt
    have hne := str_ne hnl
    clear hbt
    go_enter Tryd.func32, Tryd.ntmps32
    go_wp2_with fail
    go_ret
    exact ⟨by first | rfl | simp [hnl], Below.refl _ _⟩
 ·have HF := Lib.hid (show false = q by
   rw [← hq]
   cases hb : begB l s with
   | false => rfl
   | true =>
     obtain ⟨u, hu⟩ := beg_iff.1 hb
     have := congrArg List.length hu
     rw [List.length_append, hn, hm] at this
     omega)
  clear hq
  go_enter Tryd.func32, Tryd.ntmps32
  go_wp2_with fail
  go_ret
  exact ⟨by first | exact ret_bd HF.out | (rw [← HF.out]; rfl), Below.refl _ _⟩
end
end Go.Proofs.YtgaoijinchakoaaDoor
