/-
  Stage 18's laws, walked: few; rows one behind the other.
-/
import Derived.Test.YthcafgningpdnaaDoorG27
namespace Go.Proofs.YthcafgningpdnaaDoor
open Go.RowKit
def FewE (l : List (List Int)) (w : World) (e : Ending) (w' : World) : Prop := ∃ q : Bool, e = .returned (.bool q) ∧ (q = true → l.length ≤ 40 ∧ ∀ p ∈ l, p.length ≤ 20) ∧ Below w.heap.size w w'
set_option maxRecDepth 100000 in
set_option maxHeartbeats 16000000 in
theorem few18_any (A : Option Addr) (l : List (List Int)) (n c : Nat) (hn : l.length = n) (w : World) (hl : LsIn w A l) :
 Calls Tryd.prog 17 #[.slice A n c] w (FewE l w) := by
 have HN := Lib.hid hn
 clear hn
 go_enter Tryd.func17, Tryd.ntmps17
 go_wp2_with fail
 go_loopw [3] (fun z wr => ∃ i : Nat, i ≤ n ∧ i ≤ 41 ∧ z = .int .i64 i ∧ Hid (∀ j (hj : j < l.length), j < i → (l[j]).length ≤ 20) ∧ Below w.heap.size w wr) (fun z _ => 42 - (intOf z).toNat)
 case atStart => exact ⟨0, Nat.zero_le _, by omega, rfl, Lib.hid fun j _ h => absurd h (by omega), Below.refl _ _⟩
 case round =>
  obtain ⟨i, hi, hi2, rfl, hd, hbw⟩ := hrel
  have end40 : ¬ (i < n ∧ i < 41) → (decide (n ≤ 40) = true → l.length ≤ 40 ∧ ∀ p ∈ l, p.length ≤ 20) := fun h h40 => by
   have h40 := of_decide_eq_true h40
   have hN := HN.out
   refine ⟨by omega, fun p hp => ?_⟩
   obtain ⟨j, hj, rfl⟩ := List.getElem_of_mem hp
   exact hd.out j hj (by omega)
  by_cases hlt : i < n
  ·have t1 : (i : Int) < (n : Int) := by omega
   have t0 : (0 : Int) ≤ (i : Int) := by omega
   by_cases h41 : i < 41
   ·have t3 : (i : Int) < 41 := by omega
    have hii : i < l.length := by have := HN.out; omega
    obtain ⟨b, o, rfl, hbb, hc⟩ := hl.rd (by omega)
    obtain ⟨A', c', hc', hcell, hr'⟩ := hc i hii
    have hcell' := (hbw.cell (p := ⟨b, o + i, none⟩) hbb).trans hcell
    obtain ⟨k, hk⟩ : ∃ k, (l[i]).length = k := ⟨_, rfl⟩
    rw [hk] at hcell'
    clear hc hcell hr' hc' end40
    by_cases h20 : 20 < k
    ·have t4 : (20 : Int) < (k : Int) := by omega
     go_wp2_with fail
     go_ret
     exact ⟨false, rfl, (fun h => by cases h), hbw⟩
    ·have t4 : ¬ ((20 : Int) < (k : Int)) := by omega
     have t5 : (k : Int) ≤ 20 := by omega
     have HD : Hid (∀ j (hj : j < l.length), j < i + 1 → (l[j]).length ≤ 20) := Lib.hid fun j hj h => by
      by_cases e : j = i
      ·subst e
       omega
      ·exact hd.out j hj (by omega)
     clear hk hd
     go_wp2_with fail
     go_roundw
     case rel => exact ⟨i + 1, by omega, by omega, by go_num, HD, hbw⟩
     case measure => simp [intOf]; omega
   ·have t3 : ¬ ((i : Int) < 41) := by omega
    have HE := Lib.hid (end40 (fun h => h41 h.2))
    clear end40 hd
    have t6 : ¬ ((n : Int) ≤ 40) := by omega
    have t7 : decide (n ≤ 40) = false := decide_eq_false (by omega)
    go_wp2_with fail
    go_ret
    exact ⟨false, rfl, (fun h => by cases h), hbw⟩
  ·have t1 : ¬ ((i : Int) < (n : Int)) := by omega
   have HE := Lib.hid (end40 (fun h => hlt h.1))
   clear end40 hd
   by_cases h40 : n ≤ 40
   ·have t6 : (n : Int) ≤ 40 := by omega
    have HT := Lib.hid (HE.out (decide_eq_true h40))
    clear HE
    go_wp2_with fail
    go_ret
    exact ⟨true, rfl, fun _ => HT.out, hbw⟩
   ·have t6 : ¬ ((n : Int) ≤ 40) := by omega
    clear HE
    go_wp2_with fail
    go_ret
    exact ⟨false, rfl, (fun h => by cases h), hbw⟩
theorem RdPc.vals {w : World} {A : Option Addr} {ps : List (List Int)} (h : RdPc w A ps) : ∃ xs : List Value, xs.length = ps.length ∧ Rd w A xs ∧ (∀ x ∈ xs, x.oneCell' = true) ∧ ∀ k (hk : k < ps.length), ∃ A' c', (ps[k]).length ≤ c' ∧ xs[k]? = some (.slice A' (ps[k]).length c') ∧ Rd w A' (is_ ps[k]) := by
 by_cases hp : 0 < ps.length
 ·obtain ⟨b, o, rfl, hb, hc⟩ := h hp
  refine ⟨(List.range ps.length).map fun k => (w.cell? ⟨b, o + k, none⟩).getD undef, by simp, fun _ => ⟨b, o, rfl, hb, fun k u hu => ?_⟩, fun x hx => ?_, fun k hk => ?_⟩
  ·rw [List.getElem?_map] at hu
   by_cases hk : k < ps.length
   ·obtain ⟨A', c', _, h2, _⟩ := hc k hk
    rw [List.getElem?_range hk] at hu
    simp only [Option.map_some, h2, Option.getD_some, Option.some.injEq] at hu
    rw [h2, hu]
   ·rw [List.getElem?_eq_none (by simpa using hk)] at hu
    cases hu
  ·obtain ⟨k, hk, rfl⟩ := List.mem_map.1 hx
   obtain ⟨A', c', _, h2, _⟩ := hc k (List.mem_range.1 hk)
   rw [h2]
   rfl
  ·obtain ⟨A', c', h1, h2, h3⟩ := hc k hk
   refine ⟨A', c', h1, ?_, h3⟩
   rw [List.getElem?_map, List.getElem?_range hk]
   simp [h2]
 ·have : ps = [] := List.eq_nil_of_length_eq_zero (by omega)
  subst this
  exact ⟨[], rfl, Rd.nil _ _, (fun x hx => by cases hx), fun k hk => absurd hk (by simp)⟩
end Go.Proofs.YthcafgningpdnaaDoor
