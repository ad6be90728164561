/-
  Layer 3, walked: the document's run: how many bytes from a place on are from one to another one.
-/
import Derived.Test.YtmmbfidnbdckmaaDoorWirD
namespace Go.Proofs.YtmmbfidnbdckmaaDoor
open Go.RowKit

theorem tw_len {p : UInt8 → Bool} : ∀ (l : List UInt8) (n : Nat), n ≤ l.length → (l.take n).all p = true → (∀ h : n < l.length, p l[n] = false) → (l.takeWhile p).length = n
  | [], n, h, _, _ => by simp at h; simp [h]
  | c :: l, 0, _, _, hn => by
    have := hn (by simp)
    rw [List.takeWhile_cons_of_neg (by simpa using this)]; rfl
  | c :: l, n + 1, h, ha, hn => by
    rw [List.take_succ_cons, List.all_cons, Bool.and_eq_true] at ha
    rw [List.takeWhile_cons_of_pos ha.1, List.length_cons, tw_len l n (by simpa using h) ha.2 (fun h' => by have := hn (by simpa using h'); simpa using this)]

/-- How many from a place on. -/
def runL (l : List UInt8) (at_ a b : Nat) : Nat := ((l.drop at_).takeWhile (btw a b)).length
theorem run_end {l : List UInt8} {at_ a b n : Nat} (h : at_ + n ≤ l.length) (ha : ((l.drop at_).take n).all (btw a b) = true) (hn : ∀ h : at_ + n < l.length, btw a b l[at_ + n] = false) : runL l at_ a b = n :=
  tw_len _ n (by rw [List.length_drop]; omega) ha (fun h' => by rw [List.getElem_drop]; rw [List.length_drop] at h'; exact hn (by omega))
theorem run_more {l : List UInt8} {at_ a b n : Nat} (h : at_ + n < l.length) (ha : ((l.drop at_).take n).all (btw a b) = true) (hn : btw a b l[at_ + n] = true) : ((l.drop at_).take (n + 1)).all (btw a b) = true := by
  have h' : n < (l.drop at_).length := by rw [List.length_drop]; omega
  rw [List.take_succ_eq_append_getElem h', List.all_append, ha, List.getElem_drop]
  simp [hn]
theorem run_le (l : List UInt8) (at_ a b : Nat) (h : at_ ≤ l.length) : at_ + runL l at_ a b ≤ l.length := by
  have := (List.takeWhile_sublist (btw a b) (l := l.drop at_)).length_le
  rw [List.length_drop] at this
  unfold runL
  omega

set_option maxRecDepth 100000 in
set_option maxHeartbeats 2000000 in
theorem run_str (s : ByteArray) (at_ a b n0 : Nat) (w : World) (hl : s.size ≤ 4294967296) (hat : at_ ≤ s.size) (hq : runL s.data.toList at_ a b = n0) :
    Calls Tryd.prog 52 #[.string s, .int .i64 at_, .int .u8 a, .int .u8 b] w fun e w' => e = .returned (.int .i64 n0) ∧ w = w' := by
  have HQ := Lib.hid hq
  clear hq
  go_enter Tryd.func52, Tryd.ntmps52
  go_wp2
  go_loop [9] (fun i => ∃ n : Nat, at_ + n ≤ s.size ∧ i = .int .i64 n ∧ ((s.data.toList.drop at_).take n).all (btw a b) = true) (fun i => s.size - (intOf i).toNat)
  case atStart => exact ⟨0, by omega, rfl, by simp⟩
  case round =>
    obtain ⟨n, hn, rfl, hall⟩ := hrel
    have HA := Lib.hid hall
    clear hall
    obtain ⟨m, hm⟩ : ∃ m, at_ + n = m := ⟨_, rfl⟩
    have ew : IntKind.i64.wrap ((at_ : Int) + (n : Int)) = (m : Int) := by rw [← hm]; have := IntWalk.i64_in ((at_ : Int) + (n : Int)) (by omega); rw [this]; omega
    by_cases hlt : m < s.size
    · have hlt2 : at_ + n < s.data.toList.length := by rw [hm]; simpa using hlt
      have hby := byte_at s m hlt
      have HB := Lib.hid (show s[m]'hlt = s.data.toList[at_ + n]'hlt2 by rw [hby]; congr 1; exact hm.symm)
      have hd := (s[m]'hlt).toNat_lt
      have k0 : (0 : Int) ≤ (m : Int) := by omega
      have k1 : (m : Int) < (s.size : Int) := by omega
      have HM := Lib.hid hm
      clear hby
      by_cases h1 : (s[m]'hlt).toNat < a
      · have E := Lib.hid (HQ.out.symm.trans (run_end (by omega) HA.out (fun h => (btw_no a b _).2 (by rw [← HB.out]; omega))))
        clear hm
        go_wp2
        go_ret
        exact ⟨ret_i (by rw [E.out]), rfl⟩
      · by_cases h2 : b < (s[m]'hlt).toNat
        · have E := Lib.hid (HQ.out.symm.trans (run_end (by omega) HA.out (fun h => (btw_no a b _).2 (by rw [← HB.out]; omega))))
          clear hm
          go_wp2
          go_ret
          exact ⟨ret_i (by rw [E.out]), rfl⟩
        · have E := Lib.hid (run_more hlt2 HA.out ((btw_iff a b _).2 (by rw [← HB.out]; omega)))
          clear hm
          go_wp2
          go_round
          case rel => exact ⟨n + 1, by have := HM.out; omega, by go_num, E.out⟩
          case measure => have := HM.out; simp [intOf]; omega
    · have E := Lib.hid (HQ.out.symm.trans (run_end (by simpa using hn) HA.out (fun h => absurd h (by simp; omega))))
      clear hm
      go_wp2
      go_ret
      exact ⟨ret_i (by rw [E.out]), rfl⟩
theorem run_any (l : List UInt8) (at_ a b n0 : Nat) (w : World) (hl : l.length ≤ 4294967296) (hat : at_ ≤ l.length) (hq : runL l at_ a b = n0) :
    Calls Tryd.prog 52 #[.string ⟨l.toArray⟩, .int .i64 at_, .int .u8 a, .int .u8 b] w fun e w' => e = .returned (.int .i64 n0) ∧ w = w' :=
  run_str ⟨l.toArray⟩ at_ a b n0 w hl hat hq
end Go.Proofs.YtmmbfidnbdckmaaDoor
