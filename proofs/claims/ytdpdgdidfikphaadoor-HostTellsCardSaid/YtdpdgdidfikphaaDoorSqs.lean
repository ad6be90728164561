/-
  Sequences in memory: one that is known, a slice of them; what stays readable while other blocks turn.
-/
import Derived.Test.YtdpdgdidfikphaaDoorSep
import Derived.Test.YtdpdgdidfikphaaDoorInts
import Derived.Test.YtdpdgdidfikphaaDoorWirQ
namespace Go.Proofs.YtdpdgdidfikphaaDoor
open Go.RowKit

/-- What is known of a sequence that came in. -/
structure SqIn (W : World) (s : Sq) (A : Option Addr) (c : Nat) : Prop where
  rd : RdP W A s.params
  np : s.params.length ≤ maxLen
  ni : s.inter.length ≤ maxLen
  nd : s.data.length ≤ maxLen
  nr : ∀ p ∈ s.params, p.length ≤ maxLen
def sqC (s : Sq) (A : Option Addr) (c : Nat) : List Value := [.int .i64 s.kind, .int .u8 (s.priv.toNat : Int), .slice A s.params.length c, .string ⟨s.inter.toArray⟩, .int .u8 (s.final.toNat : Int), .string ⟨s.data.toArray⟩]
theorem str_list (s : ByteArray) : (⟨s.data.toList.toArray⟩ : ByteArray) = s := by cases s; simp
/-- A slice of sequences: six cells each. -/
def RdQ (w : World) (A : Option Addr) (ls : List Sq) : Prop :=
  0 < ls.length → ∃ b o, A = some ⟨b, o, none⟩ ∧ b < w.heap.size ∧ ∀ k (hk : k < ls.length), ∃ A' c', SqIn w ls[k] A' c' ∧ ∀ i u, (sqC ls[k] A' c')[i]? = some u → w.cell? ⟨b, o + k * 6 + i, none⟩ = some u

theorem RdQ.nil (w : World) (A : Option Addr) : RdQ w A [] := fun h => absurd h (by simp)
theorem SqIn.below {w w' : World} {s : Sq} {A : Option Addr} {c : Nat} (h : SqIn w s A c) (hb : Below w.heap.size w w') : SqIn w' s A c := ⟨h.rd.below hb, h.np, h.ni, h.nd, h.nr⟩
theorem RdQ.below {w w' : World} {A : Option Addr} {ls : List Sq} (h : RdQ w A ls) (hb : Below w.heap.size w w') : RdQ w' A ls := fun hp => by
  obtain ⟨b, o, rfl, hlt, hc⟩ := h hp
  refine ⟨b, o, rfl, Nat.lt_of_lt_of_le hlt hb.size, fun k hk => ?_⟩
  obtain ⟨A', c', h1, h2⟩ := hc k hk
  exact ⟨A', c', h1.below hb, fun i u hu => (hb.cell (p := ⟨b, o + k * 6 + i, none⟩) hlt).trans (h2 i u hu)⟩

theorem RdQ.at_ {w : World} {A : Option Addr} {ls : List Sq} (h : RdQ w A ls) {k : Nat} (hk : k < ls.length) {s : Sq} (hs : ls[k] = s) : ∃ b o A' c', A = some ⟨b, o, none⟩ ∧ SqIn w s A' c' ∧
    w.cell? ⟨b, o + k * 6, none⟩ = some (.int .i64 s.kind) ∧ w.cell? ⟨b, o + k * 6 + 1, none⟩ = some (.int .u8 (s.priv.toNat : Int)) ∧ w.cell? ⟨b, o + k * 6 + 2, none⟩ = some (.slice A' s.params.length c') ∧ w.cell? ⟨b, o + k * 6 + 3, none⟩ = some (.string ⟨s.inter.toArray⟩) ∧ w.cell? ⟨b, o + k * 6 + 4, none⟩ = some (.int .u8 (s.final.toNat : Int)) ∧ w.cell? ⟨b, o + k * 6 + 5, none⟩ = some (.string ⟨s.data.toArray⟩) := by
  obtain ⟨b, o, rfl, _, hc⟩ := h (by omega)
  obtain ⟨A', c', h1, h2⟩ := hc k hk
  rw [hs] at h1 h2
  exact ⟨b, o, A', c', rfl, h1, h2 0 _ rfl, h2 1 _ rfl, h2 2 _ rfl, h2 3 _ rfl, h2 4 _ rfl, h2 5 _ rfl⟩

/-- R holds, and goes on to hold while only blocks of S turn. -/
def Held (w : World) (S : Nat → Prop) (R : World → Prop) : Prop :=
  ∃ F : Nat → Prop, (∀ k, F k → k < w.heap.size ∧ ¬ S k) ∧ ∀ w' : World, w.heap.size ≤ w'.heap.size → (∀ k, F k → w'.heap[k]? = w.heap[k]?) → R w'
section
variable {w w' : World} {S S' : Nat → Prop} {R : World → Prop}
theorem Held.out (h : Held w S R) : R w := by
  obtain ⟨F, _, hR⟩ := h
  exact hR w (Nat.le_refl _) fun _ _ => rfl
theorem Held.go {T : Nat → Prop} (h : Held w S R) (hf : Fr w w' T) (hT : ∀ k, T k → S k) (hw : ∀ k, S' k → S k ∨ w.heap.size ≤ k) : Held w' S' R := by
  obtain ⟨F, hF, hR⟩ := h
  refine ⟨F, fun k hk => ⟨Nat.lt_of_lt_of_le (hF k hk).1 hf.size, fun hs => ?_⟩, fun w2 hs hk => hR w2 (Nat.le_trans hf.size hs) fun k hk2 => (hk k hk2).trans (hf.block k (hF k hk2).1 fun ht => (hF k hk2).2 (hT k ht))⟩
  rcases hw k hs with h1 | h1
  · exact (hF k hk).2 h1
  · have := (hF k hk).1; omega
theorem Held.fr (h : Held w S R) (hf : Fr w w' S) (hw : Wid w S S') : Held w' S' R := h.go hf (fun _ h => h) hw
theorem Held.below (h : Held w S R) (hb : Below w.heap.size w w') : Held w' S R := h.go (Fr.of_below hb (fun _ => False)) (fun _ h => h.elim) (fun _ h => .inl h)
theorem Held.imp {R' : World → Prop} (h : Held w S R) (hi : ∀ w', R w' → R' w') : Held w S R' := by
  obtain ⟨F, hF, hR⟩ := h
  exact ⟨F, hF, fun w' a b => hi w' (hR w' a b)⟩
theorem Held.and {R' : World → Prop} (h : Held w S R) (h' : Held w S R') : Held w S fun w => R w ∧ R' w := by
  obtain ⟨F, hF, hR⟩ := h
  obtain ⟨F', hF', hR'⟩ := h'
  exact ⟨fun k => F k ∨ F' k, fun k hk => hk.elim (hF k) (hF' k), fun w' a b => ⟨hR w' a fun k hk => b k (.inl hk), hR' w' a fun k hk => b k (.inr hk)⟩⟩
theorem Held.true (w : World) (S : Nat → Prop) (h : ∀ w, R w) : Held w S R := ⟨fun _ => False, fun _ h => h.elim, fun w' _ _ => h w'⟩
/-- What came in, below a block, is held by all that lies from there on. -/
theorem Held.old {n : Nat} (hn : n ≤ w.heap.size) (hS : ∀ k, S k → n ≤ k) (hR : ∀ w' : World, w.heap.size ≤ w'.heap.size → (∀ k, k < n → w'.heap[k]? = w.heap[k]?) → R w') : Held w S R :=
  ⟨fun k => k < n, fun k hk => ⟨by omega, fun hs => by have := hS k hs; omega⟩, hR⟩
end
end Go.Proofs.YtdpdgdidfikphaaDoor
