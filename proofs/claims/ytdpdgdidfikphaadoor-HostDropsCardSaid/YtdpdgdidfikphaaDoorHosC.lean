/-
  Layer 5: what a law needs of the program's parser (New, Feed, Idle), whatever it keeps; the example that each of the layer's statements asks, out of that.
-/
import Derived.Test.YtdpdgdidfikphaaDoorHosQ
import Derived.Lib.SlBytesConst
namespace Go.Proofs.YtdpdgdidfikphaaDoor
open Go.RowKit

abbrev HBox := World → (Nat → Prop) → Nat → Nat → HP → Prop
def NewE (HB : HBox) (base : Nat) (w : World) (e : Ending) (w' : World) : Prop :=
  ∃ S g, e = .returned (.pointer (some ⟨g, 0, none⟩)) ∧ HB w' S g base hp0 ∧ (∀ k, S k → w.heap.size ≤ k) ∧ Below w.heap.size w w'
/-- What Feed tells; it lies in new memory, or in what the parser kept and keeps no more. -/
def FeedE (HB : HBox) (S : Nat → Prop) (g base : Nat) (p : HP) (b : List UInt8) (w : World) (e : Ending) (w' : World) : Prop :=
  ∃ S' A' c' f, e = .returned (.slice A' (feedH p b).2.length c') ∧ (feedH p b).2.length ≤ c' ∧ HB w' S' g base (feedH p b).1 ∧ Wid w S S' ∧ Fr w w' S ∧ Held w' (fun k => (k < w.heap.size ∧ ¬ S k) ∨ S' k) fun W => RdF W A' (feedH p b).2 f
structure HostC (HB : HBox) (Inv : World → Prop) : Prop where
  invB : ∀ {w w' : World}, Inv w → Below w.heap.size w w' → Inv w'
  fr : ∀ {w w' : World} {S T : Nat → Prop} {g base : Nat} {p : HP}, HB w S g base p → Fr w w' T → (∀ k, S k → ¬ T k) → (∀ k, T k → base ≤ k) → HB w' S g base p
  lo : ∀ {w : World} {S : Nat → Prop} {g base : Nat} {p : HP}, HB w S g base p → ∀ k, S k → base ≤ k
  hi : ∀ {w : World} {S : Nat → Prop} {g base : Nat} {p : HP}, HB w S g base p → ∀ k, S k → k < w.heap.size
  new : ∀ (w0 w : World), Inv w0 → Below w0.heap.size w0 w → Calls Tryd.prog 8 #[] w (NewE HB w0.heap.size w)
  feed : ∀ {w : World} {S : Nat → Prop} {g base : Nat} {p : HP} (A : Option Addr) (n c : Nat) (b : List UInt8), HB w S g base p → b.length = n → n ≤ 1048576 → RdOff w S A (bs b) →
    Calls Tryd.prog 9 #[.pointer (some ⟨g, 0, none⟩), .slice A n c] w (FeedE HB S g base p b w)
  idle : ∀ {w : World} {S : Nat → Prop} {g base : Nat} {p : HP}, HB w S g base p → Calls Tryd.prog 11 #[.pointer (some ⟨g, 0, none⟩)] w fun e w' => e = .returned (.bool (decide (p.how = 0))) ∧ w = w'
section
variable {HB : HBox} {Inv : World → Prop}
theorem HostC.behind (H : HostC HB Inv) {w w' : World} {S : Nat → Prop} {g base : Nat} {p : HP} (h : HB w S g base p) (hb : Below w.heap.size w w') : HB w' S g base p :=
  H.fr h (Fr.of_below hb (fun _ => False)) (fun _ _ h => h) (fun _ h => h.elim)
theorem HostC.idle_at (H : HostC HB Inv) {w : World} {S : Nat → Prop} {g base : Nat} {p : HP} (h : HB w S g base p) (q : Bool) (hq : decide (p.how = 0) = q) :
    Calls Tryd.prog 11 #[.pointer (some ⟨g, 0, none⟩)] w fun e w' => e = .returned (.bool q) ∧ w = w' := by
  subst hq
  exact H.idle h
/-- Feed, what it tells named. -/
def FeedE2 (HB : HBox) (S : Nat → Prop) (g base : Nat) (p' : HP) (ls : List Sq) (m : Nat) (w : World) (e : Ending) (w' : World) : Prop :=
  ∃ S' A' c' f, e = .returned (.slice A' m c') ∧ m ≤ c' ∧ HB w' S' g base p' ∧ Wid w S S' ∧ Fr w w' S ∧ Held w' (fun k => (k < w.heap.size ∧ ¬ S k) ∨ S' k) fun W => RdF W A' ls f
theorem HostC.feed_at (H : HostC HB Inv) {w : World} {S : Nat → Prop} {g base : Nat} {p p' : HP} {ls : List Sq} {m : Nat} (A : Option Addr) (n c : Nat) (b : List UInt8) (h : HB w S g base p) (hn : b.length = n) (hl : n ≤ 1048576) (hr : RdOff w S A (bs b)) (hf : feedH p b = (p', ls)) (hm : ls.length = m) :
    Calls Tryd.prog 9 #[.pointer (some ⟨g, 0, none⟩), .slice A n c] w (FeedE2 HB S g base p' ls m w) := by
  subst hm
  have := H.feed A n c b h hn hl hr
  unfold FeedE at this
  rw [hf] at this
  exact this

def awakeB : List UInt8 := [27, 91, 49, 59, 55, 48, 48, 48, 48, 72, 27, 91, 49, 24, 99, 27, 93, 48, 59, 120, 7]
theorem awake_feed : feedH hp0 awakeB = (hp0, [⟨1, 0, [[1], [65535]], [], 72, []⟩, ⟨4, 0, [], [], 0, [48, 59, 120]⟩]) := rfl
theorem rd_lit (w : World) (x : List UInt8) (L : Array Value) (fz : Nat × Nat) (h : L = (bs x).toArray) : Rd (w.alloc (.cells L 5 fz)) (some ⟨w.heap.size, 0, none⟩) (bs x) := by
  subst h
  exact Rd.block (heap_alloc_new w _) (by simp)

set_option maxRecDepth 100000 in
set_option maxHeartbeats 8000000 in
theorem hostAwake (H : HostC HB Inv) (w : World) (hi : Inv w) : Calls Tryd.prog 7 #[] w fun e w' => e = .returned (.bool true) ∧ Below w.heap.size w w' := by
  have kc := fun (w : World) (C : Array Value) (n c : Nat) => Lib.run_convert_bytes_const (P := Tryd.prog) w 22 5 C n c Tryd.underlying22 Tryd.underlying5
  go_enter Tryd.func7, Tryd.ntmps7
  go_wp2_with fail
  refine (H.new w w hi (Below.refl _ w)).mono ?_
  rintro e w1 ⟨S, g, rfl, h1, _, hb1⟩
  have h2 := H.behind h1 ((Below.refl _ w1).alloc (Nat.le_refl _) (.cells (bs awakeB).toArray 5 (21, 22)))
  have hb2 := hb1.alloc hb1.size (.cells (bs awakeB).toArray 5 (21, 22))
  have hr2 := RdOff.new S _ (rd_lit w1 awakeB (bs awakeB).toArray (21, 22) rfl) (H.hi h1)
  go_wp2_with fail
  refine (H.feed_at (some ⟨w1.heap.size, 0, none⟩) 21 21 awakeB h2 rfl (by omega) hr2 awake_feed (m := 2) rfl).mono ?_
  rintro e w3 ⟨S3, A3, c3, f, rfl, hc3, h3, _, hf3, hd3⟩
  have hb3 := hb2.trans (hf3.below (B := w.heap.size) hb2.size (H.lo h2))
  have hq := hd3.out
  obtain ⟨b, o, A1, c1, hA, hsq, a0, a1, a2, a3, a4, a5⟩ := hq.q.at_ (k := 0) (by decide) rfl
  obtain ⟨b', o', A2, c2, hA2, hsq2, d0, d1, d2, d3, d4, d5⟩ := hq.q.at_ (k := 1) (by decide) rfl
  subst hA
  simp only [Option.some.injEq, Addr.mk.injEq, and_true] at hA2
  obtain ⟨rfl, rfl⟩ := hA2
  obtain ⟨pb, po, hB, _, hpc⟩ := hsq.rd (by decide)
  obtain ⟨A4, c4, hp1, hr4⟩ := hpc 1 (by decide)
  obtain ⟨qb, qo, hC, _, hqc⟩ := hr4.int_at (by decide)
  have hv := hqc 0 (by decide)
  subst hB hC
  clear hq hsq hsq2 hpc hr4 hqc hd3 hr2 h2 h1 a1 a3 a5 d1 d2 d3 d4
  simp only [Nat.add_zero, Nat.zero_mul, Nat.one_mul, List.getElem_cons_succ, List.getElem_cons_zero, List.length_cons, List.length_nil, Nat.zero_add] at *
  go_wp2_with (first | (refine (H.idle_at h3 true rfl).mono ?_; rintro e w' ⟨rfl, rfl⟩))
  go_ret
  exact ⟨rfl, hb3⟩
end
end Go.Proofs.YtdpdgdidfikphaaDoor
