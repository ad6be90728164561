/-
  Layer 9, the landed keys: its table of rows in memory.
-/
import Derived.Test.YtdhpbihooeckoaaDoorKoM
import Derived.Test.YtdhpbihooeckoaaDoorKeyU
import Derived.Test.YtdhpbihooeckoaaDoorKpX
import Derived.Test.YtdhpbihooeckoaaDoorInts
namespace Go.Proofs.YtdhpbihooeckoaaDoor
open Go.RowKit

/-- A row as seven cells. -/
def roC (r : Ro) (A : Option Addr) (c : Nat) : List Value := [.int .i64 r.first, .int .i64 r.last, .int .i64 r.kind, .string ⟨r.finals.toArray⟩, .slice A r.nums.length c, .string ⟨r.chars.toArray⟩, .bool r.keys]
/-- A slice of rows, below a block. -/
def RdRo (n₁ : Nat) (w : World) (b o : Nat) (rs : List Ro) : Prop :=
  ∀ k (hk : k < rs.length), ∃ A' c', RdIn n₁ w A' (is_ rs[k].nums) ∧ ∀ i u, (roC rs[k] A' c')[i]? = some u → w.cell? ⟨b, o + k * 7 + i, none⟩ = some u
/-- The package's table, below a block. -/
def RwsIn (n₁ : Nat) (w : World) : Prop :=
  ∃ b o c t fz, w.heap[0]? = some (.cells #[.slice (some ⟨b, o, none⟩) 22 c] t fz) ∧ 0 < n₁ ∧ b < n₁ ∧ RdRo n₁ w b o roL
def Rws (w : World) : Prop := RwsIn w.heap.size w
section
variable {n₁ n₂ : Nat} {w w' : World} {b o : Nat} {rs : List Ro}
theorem RdRo.below (h : RdRo n₁ w b o rs) (hb : Below n₁ w w') (hl : b < n₁) : RdRo n₁ w' b o rs := fun k hk => by
  obtain ⟨A', c', h1, h2⟩ := h k hk
  exact ⟨A', c', h1.below hb, fun i u hu => (hb.cell (p := ⟨b, o + k * 7 + i, none⟩) hl).trans (h2 i u hu)⟩
theorem RdRo.kpx {X : Nat → Prop} (h : RdRo n₁ w b o rs) (hk : KpX X w w') (hX : ∀ k, X k → n₁ ≤ k) (hl : b < n₁) : RdRo n₁ w' b o rs := fun k hk2 => by
  obtain ⟨A', c', h1, h2⟩ := h k hk2
  refine ⟨A', c', h1.kpx hk hX, fun i u hu => (World.cell?_of_block (w := w) (a := ⟨b, o + k * 7 + i, none⟩) ?_).trans (h2 i u hu)⟩
  obtain ⟨ob, e1, e2⟩ := cells_is (h2 i u hu)
  exact (hk.2 b ob e1 e2 (fun hx => by have := hX b hx; omega)).trans e1.symm
theorem RwsIn.below (h : RwsIn n₁ w) (hb : Below n₁ w w') : RwsIn n₁ w' := by
  obtain ⟨b, o, c, t, fz, h1, h2, h3, h4⟩ := h
  exact ⟨b, o, c, t, fz, (hb.block _ h2).trans h1, h2, h3, h4.below hb h3⟩
theorem RwsIn.kpx {X : Nat → Prop} (h : RwsIn n₁ w) (hk : KpX X w w') (hX : ∀ k, X k → n₁ ≤ k) : RwsIn n₁ w' := by
  obtain ⟨b, o, c, t, fz, h1, h2, h3, h4⟩ := h
  exact ⟨b, o, c, t, fz, hk.2 _ _ h1 rfl (fun hx => by have := hX _ hx; omega), h2, h3, h4.kpx hk hX h3⟩
theorem RdIn.mono {A : Option Addr} {xs : List Value} (h : RdIn n₁ w A xs) (hn : n₁ ≤ n₂) : RdIn n₂ w A xs := fun hp => by
  obtain ⟨b, o, rfl, hb, hc⟩ := h hp
  exact ⟨b, o, rfl, by omega, hc⟩
theorem RwsIn.mono (h : RwsIn n₁ w) (hn : n₁ ≤ n₂) : RwsIn n₂ w := by
  obtain ⟨b, o, c, t, fz, h1, h2, h3, h4⟩ := h
  refine ⟨b, o, c, t, fz, h1, by omega, by omega, fun k hk => ?_⟩
  obtain ⟨A', c', e1, e2⟩ := h4 k hk
  exact ⟨A', c', e1.mono hn, e2⟩
theorem Rws.below (h : Rws w) (hb : Below w.heap.size w w') : Rws w' := (RwsIn.below h hb).mono hb.size
/-- A row that a round reads. -/
theorem RdRo.at_ (h : RdRo n₁ w b o rs) {k : Nat} (hk : k < rs.length) {r : Ro} (hr : rs[k] = r) : ∃ A' c', RdIn n₁ w A' (is_ r.nums) ∧
    w.cell? ⟨b, o + k * 7, none⟩ = some (.int .i64 r.first) ∧ w.cell? ⟨b, o + k * 7 + 1, none⟩ = some (.int .i64 r.last) ∧ w.cell? ⟨b, o + k * 7 + 2, none⟩ = some (.int .i64 r.kind) ∧ w.cell? ⟨b, o + k * 7 + 3, none⟩ = some (.string ⟨r.finals.toArray⟩) ∧ w.cell? ⟨b, o + k * 7 + 4, none⟩ = some (.slice A' r.nums.length c') ∧ w.cell? ⟨b, o + k * 7 + 5, none⟩ = some (.string ⟨r.chars.toArray⟩) ∧ w.cell? ⟨b, o + k * 7 + 6, none⟩ = some (.bool r.keys) := by
  obtain ⟨A', c', h1, h2⟩ := h k hk
  subst hr
  exact ⟨A', c', h1, h2 0 _ rfl, h2 1 _ rfl, h2 2 _ rfl, h2 3 _ rfl, h2 4 _ rfl, h2 5 _ rfl, h2 6 _ rfl⟩
end
def sbK (s : ByteArray) (a : Nat) : Int := if h : a < s.size then ((s[a]'h).toNat : Int) else 0
theorem sbK_eq (l : List UInt8) (a : Nat) : sbK ⟨l.toArray⟩ a = byL l a := by
  unfold sbK byL
  by_cases h : a < l.length
  · rw [dif_pos (show a < (⟨l.toArray⟩ : ByteArray).size from h)]
    rw [List.getD_eq_getElem?_getD, List.getElem?_eq_getElem h]
    rfl
  · rw [dif_neg (show ¬ a < (⟨l.toArray⟩ : ByteArray).size from h)]
    rw [List.getD_eq_getElem?_getD, List.getElem?_eq_none (by omega)]
    rfl
theorem sbK_yes {s : ByteArray} {a : Nat} (h : a < s.size) : sbK s a = ((s[a]'h).toNat : Int) := by unfold sbK; rw [dif_pos h]
theorem sbK_no {s : ByteArray} {a : Nat} (h : ¬ a < s.size) : sbK s a = 0 := by unfold sbK; rw [dif_neg h]
theorem getD_yes {l : List Int} {a : Nat} (h : a < l.length) : l.getD a 0 = l[a] := by rw [List.getD_eq_getElem?_getD, List.getElem?_eq_getElem h]; rfl
theorem getD_no {l : List Int} {a : Nat} (h : ¬ a < l.length) : l.getD a 0 = 0 := by rw [List.getD_eq_getElem?_getD, List.getElem?_eq_none (by omega)]; rfl
end Go.Proofs.YtdhpbihooeckoaaDoor
