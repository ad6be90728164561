/-
  Layer 2, walked: the document's Take.
-/
import Derived.Test.YtdhpbihooeckoaaDoorUtdN
import Derived.Test.YtdhpbihooeckoaaDoorUtdA
import Derived.Deep.RegionHeld3
namespace Go.Proofs.YtdhpbihooeckoaaDoor
open Go.RowKit

/-- What might be. -/
def gs (l : List UInt8) (n : Nat) : Int :=
  match n, l with
  | 1, a :: _ => a.toNat
  | 2, a :: b :: _ => ((a.toNat : Int) - 192) % 256 * 64 + ((b.toNat : Int) - 128) % 256
  | 3, a :: b :: c :: _ => ((a.toNat : Int) - 224) % 256 * 4096 + ((b.toNat : Int) - 128) % 256 * 64 + ((c.toNat : Int) - 128) % 256
  | 4, a :: b :: c :: d :: _ => ((a.toNat : Int) - 240) % 256 * 262144 + ((b.toNat : Int) - 128) % 256 * 4096 + ((c.toNat : Int) - 128) % 256 * 64 + ((d.toNat : Int) - 128) % 256
  | _, _ => 0
theorem gs_bd (l : List UInt8) (n : Nat) : 0 ≤ gs l n ∧ gs l n ≤ 68000000 := by
  unfold gs
  split
  · rename_i a _
    have := a.toNat_lt
    omega
  all_goals omega
theorem gs_put {r : Int} (h : isPt r = true) (m : List UInt8) : gs (putL r ++ m) (cnt r) = r := by
  obtain ⟨h0, h1, _⟩ := (isPt_iff r).1 h
  have hc : cnt r = if r < 128 then 1 else if r < 2048 then 2 else if r < 65536 then 3 else 4 := rfl
  by_cases a1 : r < 128
  · rw [putL_1 h a1, hc, if_pos a1]
    exact byt_nat r (by omega) (by omega)
  · by_cases a2 : r < 2048
    · rw [putL_2 h (by omega) a2, hc, if_neg a1, if_pos a2]
      have b0 := byt_nat (192 + r / 64) (by omega) (by omega)
      have b1 := byt_nat (128 + r % 64) (by omega) (by omega)
      simp only [List.cons_append, List.nil_append, gs]
      rw [b0, b1]; omega
    · by_cases a3 : r < 65536
      · rw [putL_3 h (by omega) a3, hc, if_neg a1, if_neg a2, if_pos a3]
        have b0 := byt_nat (224 + r / 4096) (by omega) (by omega)
        have b1 := byt_nat (128 + r / 64 % 64) (by omega) (by omega)
        have b2 := byt_nat (128 + r % 64) (by omega) (by omega)
        simp only [List.cons_append, List.nil_append, gs]
        rw [b0, b1, b2]; omega
      · rw [putL_4 h (by omega), hc, if_neg a1, if_neg a2, if_neg a3]
        have b0 := byt_nat (240 + r / 262144) (by omega) (by omega)
        have b1 := byt_nat (128 + r / 4096 % 64) (by omega) (by omega)
        have b2 := byt_nat (128 + r / 64 % 64) (by omega) (by omega)
        have b3 := byt_nat (128 + r % 64) (by omega) (by omega)
        simp only [List.cons_append, List.nil_append, gs]
        rw [b0, b1, b2, b3]; omega
/-- Where what might be has just these bytes, it is what is told; and what is told might be. -/
theorem gs_hit {l : List UInt8} {n : Nat} (hn : 1 ≤ n) (hl : (putL (gs l n)).length = n) (h : putL (gs l n) = l.take n) : takeL l = (gs l n, n) := by
  have hp : isPt (gs l n) = true := by
    cases hp : isPt (gs l n) with
    | true => rfl
    | false => rw [putL_no hp] at hl; simp at hl; omega
  have e : l = putL (gs l n) ++ l.drop n := by rw [h, List.take_append_drop]
  have := take_put hp (l.drop n)
  rw [← e] at this
  rw [this, ← putL_length hp, hl]
theorem gs_told {l : List UInt8} {n : Nat} (hn : 1 ≤ n) (h : (takeL l).2 = n) : gs l n = (takeL l).1 ∧ (putL (gs l n)).length = n ∧ putL (gs l n) = l.take n := by
  rcases take_is l with hz | ⟨r, m, hp, e, ht⟩
  · rw [hz] at h; simp at h; omega
  · rw [ht] at h ⊢
    have h : cnt r = n := h
    subst h
    have hg : gs l (cnt r) = r := by rw [e]; exact gs_put hp m
    refine ⟨hg, by rw [hg]; exact putL_length hp, ?_⟩
    rw [hg, e, ← putL_length hp, List.take_left]

set_option maxRecDepth 100000 in
set_option maxHeartbeats 4000000 in
theorem guess_any (A : Option Addr) (c : Nat) (l : List UInt8) (n : Nat) (w : World) (hl : l.length ≤ 4294967296) (hn1 : 1 ≤ n) (hn4 : n ≤ 4) (hnl : n ≤ l.length) (hr : Rd w A (bs l)) :
    Calls Tryd.prog 51 #[.slice A l.length c, .int .i64 n] w fun e w' => e = .returned (.int .i64 (gs l n)) ∧ Below w.heap.size w w' := by
  obtain rfl | rfl | rfl | rfl : n = 1 ∨ n = 2 ∨ n = 3 ∨ n = 4 := by omega
  · match l, hnl, hr, hl with
    | a :: l, _, hr, hl =>
      obtain ⟨b, o, rfl, hb, hc⟩ := hr.at_ (by simp)
      have c0 := hc 0 (by simp)
      simp only [Nat.add_zero, List.getElem_cons_zero] at c0
      have ha := a.toNat_lt
      clear hc
      go_enter Tryd.func51, Tryd.ntmps51
      go_wp2
      go_ret
      exact ⟨rfl, Below.refl _ _⟩
  · match l, hnl, hr, hl with
    | a :: a1 :: l, _, hr, hl =>
      obtain ⟨b, o, rfl, hb, hc⟩ := hr.at_ (by simp)
      have c0 := hc 0 (by simp)
      have c1 := hc 1 (by simp)
      simp only [Nat.add_zero, List.getElem_cons_zero, List.getElem_cons_succ] at c0 c1
      have ha := a.toNat_lt
      have e0 : IntKind.u8.wrap ((a.toNat : Int) - 192) = ((a.toNat : Int) - 192) % 256 := by rw [IntKind.wrap_u8]
      have ha1 := a1.toNat_lt
      have e1 : IntKind.u8.wrap ((a1.toNat : Int) - 128) = ((a1.toNat : Int) - 128) % 256 := by rw [IntKind.wrap_u8]
      clear hc
      go_enter Tryd.func51, Tryd.ntmps51
      go_wp2
      go_quiet (fail)
      go_wp2
      go_ret
      exact ⟨rfl, below_drewN (Below.refl _ _) _⟩
  · match l, hnl, hr, hl with
    | a :: a1 :: a2 :: l, _, hr, hl =>
      obtain ⟨b, o, rfl, hb, hc⟩ := hr.at_ (by simp)
      have c0 := hc 0 (by simp)
      have c1 := hc 1 (by simp)
      have c2 := hc 2 (by simp)
      simp only [Nat.add_zero, List.getElem_cons_zero, List.getElem_cons_succ] at c0 c1 c2
      have ha := a.toNat_lt
      have e0 : IntKind.u8.wrap ((a.toNat : Int) - 224) = ((a.toNat : Int) - 224) % 256 := by rw [IntKind.wrap_u8]
      have ha1 := a1.toNat_lt
      have e1 : IntKind.u8.wrap ((a1.toNat : Int) - 128) = ((a1.toNat : Int) - 128) % 256 := by rw [IntKind.wrap_u8]
      have ha2 := a2.toNat_lt
      have e2 : IntKind.u8.wrap ((a2.toNat : Int) - 128) = ((a2.toNat : Int) - 128) % 256 := by rw [IntKind.wrap_u8]
      clear hc
      go_enter Tryd.func51, Tryd.ntmps51
      go_wp2
      go_quiet (fail)
      go_wp2
      go_ret
      exact ⟨rfl, below_drewN (Below.refl _ _) _⟩
  · match l, hnl, hr, hl with
    | a :: a1 :: a2 :: a3 :: l, _, hr, hl =>
      obtain ⟨b, o, rfl, hb, hc⟩ := hr.at_ (by simp)
      have c0 := hc 0 (by simp)
      have c1 := hc 1 (by simp)
      have c2 := hc 2 (by simp)
      have c3 := hc 3 (by simp)
      simp only [Nat.add_zero, List.getElem_cons_zero, List.getElem_cons_succ] at c0 c1 c2 c3
      have ha := a.toNat_lt
      have e0 : IntKind.u8.wrap ((a.toNat : Int) - 240) = ((a.toNat : Int) - 240) % 256 := by rw [IntKind.wrap_u8]
      have ha1 := a1.toNat_lt
      have e1 : IntKind.u8.wrap ((a1.toNat : Int) - 128) = ((a1.toNat : Int) - 128) % 256 := by rw [IntKind.wrap_u8]
      have ha2 := a2.toNat_lt
      have e2 : IntKind.u8.wrap ((a2.toNat : Int) - 128) = ((a2.toNat : Int) - 128) % 256 := by rw [IntKind.wrap_u8]
      have ha3 := a3.toNat_lt
      have e3 : IntKind.u8.wrap ((a3.toNat : Int) - 128) = ((a3.toNat : Int) - 128) % 256 := by rw [IntKind.wrap_u8]
      clear hc
      go_enter Tryd.func51, Tryd.ntmps51
      go_wp2
      go_quiet (fail)
      go_wp2
      go_ret
      exact ⟨rfl, below_drewN (Below.refl _ _) _⟩
end Go.Proofs.YtdhpbihooeckoaaDoor
