/-
  Layer 2's mathematics: of two code points the greater one has the greater bytes, and as many, or more.
-/
import Derived.Test.YtcijdbklapidnaaDoorUtfW
namespace Go.Proofs.YtcijdbklapidnaaDoor

theorem less_cons (a b : UInt8) (x y : List UInt8) : Op.bytesLess (a :: x) (b :: y) = (decide (a.toNat < b.toNat) || (decide (a.toNat = b.toNat) && Op.bytesLess x y)) := by
  show (decide (a < b) || (a == b && Op.bytesLess x y)) = _
  have e1 : decide (a < b) = decide (a.toNat < b.toNat) := by rw [Bool.eq_iff_iff]; simp [UInt8.lt_iff_toNat_lt]
  have e2 : (a == b) = decide (a.toNat = b.toNat) := by rw [Bool.eq_iff_iff]; simp [← UInt8.toNat_inj]
  rw [e1, e2]
theorem less_nil : Op.bytesLess [] [] = false := rfl

/-- A code point's bytes, said by numbers. -/
def Form (r : Int) (l : List UInt8) : Prop :=
  (∃ x : UInt8, l = [x] ∧ (x.toNat : Int) = r ∧ 0 ≤ r ∧ r < 128) ∨
  (∃ x y : UInt8, l = [x, y] ∧ (x.toNat : Int) = 192 + r / 64 ∧ (y.toNat : Int) = 128 + r % 64 ∧ 128 ≤ r ∧ r < 2048) ∨
  (∃ x y z : UInt8, l = [x, y, z] ∧ (x.toNat : Int) = 224 + r / 4096 ∧ (y.toNat : Int) = 128 + r / 64 % 64 ∧ (z.toNat : Int) = 128 + r % 64 ∧ 2048 ≤ r ∧ r < 65536) ∨
  (∃ x y z u : UInt8, l = [x, y, z, u] ∧ (x.toNat : Int) = 240 + r / 262144 ∧ (y.toNat : Int) = 128 + r / 4096 % 64 ∧ (z.toNat : Int) = 128 + r / 64 % 64 ∧ (u.toNat : Int) = 128 + r % 64 ∧ 65536 ≤ r ∧ r ≤ 1114111)
theorem form_of {r : Int} (h : isPt r = true) : Form r (putL r) := by
  obtain ⟨h0, h1, _⟩ := (isPt_iff r).1 h
  by_cases a1 : r < 128
  · rw [putL_1 h a1]; exact .inl ⟨_, rfl, byt_nat _ (by omega) (by omega), h0, a1⟩
  · by_cases a2 : r < 2048
    · rw [putL_2 h (by omega) a2]; exact .inr (.inl ⟨_, _, rfl, byt_nat _ (by omega) (by omega), byt_nat _ (by omega) (by omega), by omega, a2⟩)
    · by_cases a3 : r < 65536
      · rw [putL_3 h (by omega) a3]; exact .inr (.inr (.inl ⟨_, _, _, rfl, byt_nat _ (by omega) (by omega), byt_nat _ (by omega) (by omega), byt_nat _ (by omega) (by omega), by omega, a3⟩))
      · rw [putL_4 h (by omega)]; exact .inr (.inr (.inr ⟨_, _, _, _, rfl, byt_nat _ (by omega) (by omega), byt_nat _ (by omega) (by omega), byt_nat _ (by omega) (by omega), byt_nat _ (by omega) (by omega), by omega, h1⟩))
theorem order_of {a b : Int} {U V : List UInt8} (ha : Form a U) (hb : Form b V) : Op.bytesLess U V = decide (a < b) ∧ (a ≤ b → U.length ≤ V.length) ∧ 0 < U.length := by
  rcases ha with ⟨x, rfl, ha⟩ | ⟨x, y, rfl, ha⟩ | ⟨x, y, z, rfl, ha⟩ | ⟨x, y, z, u, rfl, ha⟩ <;> rcases hb with ⟨x', rfl, hb⟩ | ⟨x', y', rfl, hb⟩ | ⟨x', y', z', rfl, hb⟩ | ⟨x', y', z', u', rfl, hb⟩ <;> simp only [less_cons, less_nil, List.length_cons, List.length_nil, Bool.and_false, Bool.or_false] <;> refine ⟨?_, fun _ => by omega, by omega⟩ <;>
    (rw [Bool.eq_iff_iff]; simp only [Bool.or_eq_true, Bool.and_eq_true, decide_eq_true_eq]; omega)
end Go.Proofs.YtcijdbklapidnaaDoor
