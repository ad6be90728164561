/-
  Layer 2's mathematics: of two code points the greater one has the greater bytes, and as many, or more.
-/
import Derived.Test.YtcijdbklapidnaaDoorUtfW
namespace Go.Proofs.YtcijdbklapidnaaDoor

theorem less_cons (a b : UInt8) (x y : List UInt8) : Op.bytesLess (a :: x) (b :: y) = (decide (a.toNat < b.toNat) || (decide (a.toNat = b.toNat) && Op.bytesLess x y)) := by
  show (decide (a < b) || (a == b && Op.bytesLess x y)) = _
  have e1 : decide (a < b) = decide (a.toNat < b.toNat) := by rw [Bool.eq_iff_iff]; simp [UInt8.lt_iff_toNat_lt]
  have e2 : (a == b) = decide (a.toNat = b.toNat) := by rw [Bool.eq_iff_iff]; simp [← UInt8.toNat_inj]
  rw [e1, e2]
theorem less_nil : Op.bytesLess [] [] = false := rfl

/-- A code point's bytes, said by numbers. -/
inductive Form (r : Int) : List UInt8 → Prop
  | f1 (x : UInt8) (h : (x.toNat : Int) = r) (h0 : 0 ≤ r) (h1 : r < 128) : Form r [x]
  | f2 (x y : UInt8) (h : (x.toNat : Int) = 192 + r / 64) (h' : (y.toNat : Int) = 128 + r % 64) (h0 : 128 ≤ r) (h1 : r < 2048) : Form r [x, y]
  | f3 (x y z : UInt8) (h : (x.toNat : Int) = 224 + r / 4096) (h' : (y.toNat : Int) = 128 + r / 64 % 64) (h'' : (z.toNat : Int) = 128 + r % 64) (h0 : 2048 ≤ r) (h1 : r < 65536) : Form r [x, y, z]
  | f4 (x y z u : UInt8) (h : (x.toNat : Int) = 240 + r / 262144) (h' : (y.toNat : Int) = 128 + r / 4096 % 64) (h'' : (z.toNat : Int) = 128 + r / 64 % 64) (h3 : (u.toNat : Int) = 128 + r % 64) (h0 : 65536 ≤ r) (h1 : r ≤ 1114111) : Form r [x, y, z, u]
theorem form_of {r : Int} (h : isPt r = true) : Form r (putL r) := by
  obtain ⟨h0, h1, _⟩ := (isPt_iff r).1 h
  by_cases a1 : r < 128
  · rw [putL_1 h a1]; exact .f1 _ (byt_nat _ (by omega) (by omega)) h0 a1
  · by_cases a2 : r < 2048
    · rw [putL_2 h (by omega) a2]; exact .f2 _ _ (byt_nat _ (by omega) (by omega)) (byt_nat _ (by omega) (by omega)) (by omega) a2
    · by_cases a3 : r < 65536
      · rw [putL_3 h (by omega) a3]; exact .f3 _ _ _ (byt_nat _ (by omega) (by omega)) (byt_nat _ (by omega) (by omega)) (byt_nat _ (by omega) (by omega)) (by omega) a3
      · rw [putL_4 h (by omega)]; exact .f4 _ _ _ _ (byt_nat _ (by omega) (by omega)) (byt_nat _ (by omega) (by omega)) (byt_nat _ (by omega) (by omega)) (byt_nat _ (by omega) (by omega)) (by omega) h1
theorem order_of {a b : Int} {U V : List UInt8} (ha : Form a U) (hb : Form b V) : Op.bytesLess U V = decide (a < b) ∧ (a ≤ b → U.length ≤ V.length) ∧ 0 < U.length := by
  cases ha <;> cases hb <;> simp only [less_cons, less_nil, List.length_cons, List.length_nil, Bool.and_false, Bool.or_false] <;> refine ⟨?_, fun _ => by omega, by omega⟩ <;>
    (rw [Bool.eq_iff_iff]; simp only [Bool.or_eq_true, Bool.and_eq_true, decide_eq_true_eq]; omega)
end Go.Proofs.YtcijdbklapidnaaDoor
