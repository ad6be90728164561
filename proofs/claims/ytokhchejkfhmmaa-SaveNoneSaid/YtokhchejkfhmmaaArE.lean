/-
  Arrays of bytes, compared.
-/
import Derived.Test.YtokhchejkfhmmaaSavB
import Derived.Laws.StructEq
namespace Go.Proofs.Ytokhchejkfhmmaa
open Go.RowKit

section
variable {P : Program} {T e : TypeId}
theorem equal_list (D : Nat) (hE : ∀ (x y : Int) (w : World), (Op.equalIn D e (.int .u8 x) (.int .u8 y)).run P w = .ok (x == y) w) (hp : ∀ (cs : Array Value) (i : Nat) (v : Value) (w : World), cs[i]? = some v → (part e cs i).run P w = .ok v w) (a b : List UInt8) :
    ∀ (L : List Nat) (w : World), (∀ i ∈ L, i < a.length ∧ i < b.length) →
      (forIn (m := Sem) L ((none, ()) : Option Bool × Unit) (fun i _ => do
        if !(← Op.equalIn D e (← part e (savC a) (i * 1)) (← part e (savC b) (i * 1))) then return ForInStep.done (some false, ())
        return ForInStep.yield (none, ()))).run P w = .ok (if L.all (fun i => a[i]? == b[i]?) = true then (none, ()) else (some false, ())) w := by
  intro L
  induction L with
  | nil => intro w _; simp
  | cons i L ih =>
    intro w h
    obtain ⟨h1, h2⟩ := h i (List.mem_cons_self ..)
    have q1 := hp (savC a) (i * 1) _ w (by rw [Nat.mul_one]; exact savC_get h1)
    have q2 := hp (savC b) (i * 1) _ w (by rw [Nat.mul_one]; exact savC_get h2)
    simp only [List.forIn_cons, Sem.run_bind, q1, q2, Result.andThen_ok, B8, hE]
    have e1 : (a[i]? == b[i]?) = (a[i] == b[i]) := by rw [List.getElem?_eq_getElem h1, List.getElem?_eq_getElem h2]; rfl
    have e2 : (((a[i]).toNat : Int) == ((b[i]).toNat : Int)) = (a[i] == b[i]) := by
      rw [Bool.eq_iff_iff, beq_iff_eq, beq_iff_eq]
      constructor
      · intro h3; exact UInt8.toNat_inj.1 (by omega)
      · intro h3; rw [h3]
    rw [e2, List.all_cons, e1]
    cases hq : (a[i] == b[i]) with
    | false => simp
    | true =>
      simp only [Bool.not_true, Bool.false_eq_true, if_false, Sem.run_pure, Result.andThen_ok, Bool.true_and]
      exact ih w fun j hj => h j (List.mem_cons_of_mem _ hj)
theorem run_equal_bytes {n : Nat} (ht : P.underlying T = some (.array n e)) (he : P.underlying e = some (.int .u8)) (hz : ∀ w, (sizeOf e).run P w = .ok 1 w) (hp : ∀ (cs : Array Value) (i : Nat) (v : Value) (w : World), cs[i]? = some v → (part e cs i).run P w = .ok v w)
    (d : Nat) (a b : List UInt8) (ha : a.length = n) (hb : b.length = n) (w : World) : (Op.equalIn (d + 2) T (.agg (savC a)) (.agg (savC b))).run P w = .ok (decide (a = b)) w := by
  obtain ⟨D, hD⟩ : ∃ D, d + 1 = D := ⟨_, rfl⟩
  have hE : ∀ (x y : Int) (w : World), (Op.equalIn D e (.int .u8 x) (.int .u8 y)).run P w = .ok (x == y) w := fun x y w => by rw [← hD]; exact run_equalIn_int w d e .u8 .u8 x y he
  rw [show d + 2 = D + 1 by omega]
  have key := equal_list (P := P) D hE hp a b (List.range' 0 n) w (fun i hi => by
    have := List.mem_range'_1.1 hi
    omega)
  have hall : (List.range' 0 n).all (fun i => a[i]? == b[i]?) = decide (a = b) := by
    rw [Bool.eq_iff_iff, List.all_eq_true, decide_eq_true_eq]
    constructor
    · intro h
      apply List.ext_getElem?
      intro i
      by_cases hi : i < n
      · exact eq_of_beq (h i (List.mem_range'_1.2 ⟨Nat.zero_le _, by omega⟩))
      · rw [List.getElem?_eq_none (by omega), List.getElem?_eq_none (by omega)]
    · rintro rfl i _
      exact beq_self_eq_true _
  rw [hall] at key
  simp only [Op.equalIn, Sem.run_bind, run_underlying ht, Result.andThen_ok, hz, Std.Legacy.Range.forIn_eq_forIn_range', Std.Legacy.Range.size]
  rw [show (n - 0 + 1 - 1) / 1 = n by omega, key]
  cases decide (a = b) <;> simp
/-- '==' of two arrays of bytes. -/
theorem run_eql_bytes {n : Nat} (ht : P.underlying T = some (.array n e)) (he : P.underlying e = some (.int .u8)) (hz : ∀ w, (sizeOf e).run P w = .ok 1 w) (hp : ∀ (cs : Array Value) (i : Nat) (v : Value) (w : World), cs[i]? = some v → (part e cs i).run P w = .ok v w)
    (a b : List UInt8) (ha : a.length = n) (hb : b.length = n) (w : World) : (binOp .eql T (.agg (savC a)) (.agg (savC b))).run P w = .ok (.bool (decide (a = b))) w := by
  rw [run_eql_struct, run_equal_bytes ht he hz hp 9998 a b ha hb w]
  rfl
theorem part_byte {ty : TypeId} (hi : ∀ w, (isAgg ty).run P w = .ok false w) (cs : Array Value) (i : Nat) (v : Value) (w : World) (h : cs[i]? = some v) : (part ty cs i).run P w = .ok v w := by
  simp [part, hi, h, Result.andThen]
end
end Go.Proofs.Ytokhchejkfhmmaa
