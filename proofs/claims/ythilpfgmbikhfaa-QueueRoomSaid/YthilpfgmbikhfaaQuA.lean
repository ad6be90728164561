/-
  Layer 4, walked: what is known of a queue in memory; New, Len, Dropped; the counter of what was dropped.
-/
import Derived.Test.YthilpfgmbikhfaaSep
import Derived.Laws.LoneSync
import Derived.Laws.Entries
import Derived.Deep.QuietTactic
import Derived.BigQuiet
import Derived.IntWalk
namespace Go.Proofs.Ythilpfgmbikhfaa
open Go.RowKit

/-- A queue: its box, and the row of what waits; S holds all of its blocks. -/
structure QB (w : World) (S : Nat → Prop) (g room base : Nat) (v : Value) (l : List UInt8) (d : Nat) : Prop where
  box : Blk w g 54 #[.int .i64 (room : Int), v, .int .i64 (d : Int)]
  row : Own w base 5 1 v l.length (bs l)
  sg : S g
  sv : ∀ k, v.ownBlock = some k → S k
  lo : ∀ k, S k → base ≤ k
  hi : ∀ k, S k → k < w.heap.size
  fit : l.length ≤ room
  room_ : room ≤ 65536
section
variable {w w' : World} {S T : Nat → Prop} {g room base : Nat} {v : Value} {l : List UInt8} {d : Nat}
theorem QB.fr (h : QB w S g room base v l d) (hf : Fr w w' T) (hn : ∀ k, S k → ¬ T k) : QB w' S g room base v l d :=
  ⟨h.box.fr hf (hn g h.sg), h.row.fr hf (fun k hk => hn k (h.sv k hk)), h.sg, h.sv, h.lo, fun k hk => Nat.lt_of_lt_of_le (h.hi k hk) hf.size, h.fit, h.room_⟩
theorem QB.behind (h : QB w S g room base v l d) (hb : Below w.heap.size w w') : QB w' S g room base v l d := h.fr (Fr.of_below hb (fun _ => False)) (fun _ _ h => h)
theorem QB.alloc (h : QB w S g room base v l d) (o : Obj) : QB (w.alloc o) S g room base v l d := h.behind ((Below.refl _ w).alloc (Nat.le_refl _) o)
theorem QB.drewN (h : QB w S g room base v l d) (n : Nat) : QB (w.drewN n) S g room base v l d := h.fr (Fr.drewN w n (fun _ => False)) (fun _ _ h => h)
theorem QB.drew (h : QB w S g room base v l d) : QB w.drew S g room base v l d := h.drewN 1
theorem QB.grown {row : Option Nat} (h : QB w S g room base v l d) (hg : w.grownBy w' row) (hn : ∀ k, row = some k → ¬ S k) : QB w' S g room base v l d :=
  h.fr (Fr.of_grown hg) (fun k hk hr => hn k hr hk)
theorem QB.no_box (h : QB w S g room base v l d) : v.ownBlock ≠ some g := h.row.no_cells h.box (by decide)
theorem QB.lt (h : QB w S g room base v l d) : g < w.heap.size := h.box.lt
theorem QB.cells (h : QB w S g room base v l d) : w.cell? ⟨g, 0, none⟩ = some (.int .i64 (room : Int)) ∧ w.cell? ⟨g, 1, none⟩ = some v ∧ w.cell? ⟨g, 2, none⟩ = some (.int .i64 (d : Int)) :=
  ⟨h.box.cell 0, h.box.cell 1, h.box.cell 2⟩
/-- A new one. -/
theorem QB.new (w : World) (room base : Nat) (hb : base ≤ w.heap.size) (hr : room ≤ 65536) : QB (w.alloc (.cells #[.int .i64 (room : Int), .slice none 0 0, .int .i64 0] 54)) (fun k => k = w.heap.size) w.heap.size room base (.slice none 0 0) [] 0 :=
  ⟨Blk.new w _ _, Own.nil_ _ _ _ _, rfl, fun k hk => by simp [Value.ownBlock] at hk, fun k hk => by rw [hk]; exact hb, fun k hk => by rw [hk]; simp, Nat.zero_le _, hr⟩
end

set_option maxRecDepth 100000 in
theorem new_no (n : Int) (w : World) (h : n < 64 ∨ 65536 < n) : Calls Try.prog 11 #[.int .i64 n] w fun e w' => e = .returned (.pointer none) ∧ w = w' := by
  by_cases h1 : n < 64
  · have t1 : decide (n < 64) = true := by simpa using h1
    go_enter Try.func11, Try.ntmps11
    go_wp2
    go_ret
    exact ⟨rfl, rfl⟩
  · have h2 : 65536 < n := by omega
    have t1 : decide (n < 64) = false := by simpa using h1
    have t2 : decide (65536 < n) = true := by simpa using h2
    go_enter Try.func11, Try.ntmps11
    go_wp2
    go_ret
    exact ⟨rfl, rfl⟩
set_option maxRecDepth 100000 in
theorem new_yes (n : Nat) (w : World) (h1 : 64 ≤ n) (h2 : n ≤ 65536) : Calls Try.prog 11 #[.int .i64 (n : Int)] w fun e w' => e = .returned (.pointer (some ⟨w.heap.size, 0, none⟩)) ∧ w.alloc (.cells #[.int .i64 (n : Int), .slice none 0 0, .int .i64 0] 54) = w' := by
  have t1 : decide ((n : Int) < 64) = false := by simp; omega
  have t2 : decide (65536 < (n : Int)) = false := by simp; omega
  go_enter Try.func11, Try.ntmps11
  go_wp2
  go_ret
  exact ⟨rfl, rfl⟩

set_option maxRecDepth 100000 in
theorem len_any {w : World} {S : Nat → Prop} {g room base : Nat} {v : Value} {l : List UInt8} {d : Nat} (h : QB w S g room base v l d) :
    Calls Try.prog 17 #[.pointer (some ⟨g, 0, none⟩)] w fun e w' => e = .returned (.int .i64 (l.length : Int)) ∧ w = w' := by
  obtain ⟨c0, c1, c2⟩ := h.cells
  obtain ⟨A, c, rfl, _⟩ := h.row.form
  go_enter Try.func17, Try.ntmps17
  go_wp2
  go_ret
  exact ⟨rfl, rfl⟩
theorem len_at {w : World} {S : Nat → Prop} {g room base : Nat} {v : Value} {l : List UInt8} {d : Nat} (h : QB w S g room base v l d) (n : Nat) (hn : l.length = n) :
    Calls Try.prog 17 #[.pointer (some ⟨g, 0, none⟩)] w fun e w' => e = .returned (.int .i64 (n : Int)) ∧ w = w' := by
  subst hn
  exact len_any h
set_option maxRecDepth 100000 in
theorem len_nil (w : World) : Calls Try.prog 17 #[.pointer none] w fun e w' => e = .returned (.int .i64 0) ∧ w = w' := by
  go_enter Try.func17, Try.ntmps17
  go_wp2
  go_ret
  exact ⟨rfl, rfl⟩

set_option maxRecDepth 100000 in
theorem load_any {w : World} {a : Addr} {x : Int} (ha : a.spot = none) (hc : w.cell? a = some (.int .i64 x)) : Calls Try.prog 20 #[.pointer (some a)] w fun e w' => e = .returned (.int .i64 x) ∧ w = w' := by
  obtain ⟨b, o, sp⟩ := a
  obtain rfl : sp = none := ha
  have hl := run_call_load (P := Try.prog) Try.func22 (by kernel_rfl) (by kernel_rfl) (by kernel_rfl) .i64 (by kernel_rfl) hc
  go_enter Try.func20, Try.ntmps20
  go_wp2
  go_ret
  exact ⟨rfl, rfl⟩
set_option maxRecDepth 100000 in
theorem add_any {w : World} {b o : Nat} {x y s : Int} (hc : w.cell? ⟨b, o, none⟩ = some (.int .i64 x)) (hz : w.frozen? ⟨b, o, none⟩ = false) (hs : x + y = s) (hb : -9223372036854775808 ≤ s ∧ s ≤ 9223372036854775807) :
    Calls Try.prog 19 #[.pointer (some ⟨b, o, none⟩), .int .i64 y] w fun e w' => e = .returned (.int .i64 s) ∧ w.setCell ⟨b, o, none⟩ (.int .i64 s) = w' := by
  have hs' : (Op.intArith .add .i64 x y).run Try.prog w = .ok (.int .i64 s) w := by
    subst hs
    have := IntWalk.i64_in (x + y) (by omega)
    simp [Op.intArith, this]
  have hl := run_call_add (P := Try.prog) Try.func21 (by kernel_rfl) (by kernel_rfl) (by kernel_rfl) .i64 (by kernel_rfl) hc hz hs'
  clear hs hs'
  go_enter Try.func19, Try.ntmps19
  go_wp2
  go_ret
  exact ⟨rfl, rfl⟩
set_option maxRecDepth 100000 in
theorem dropped_any {w : World} {S : Nat → Prop} {g room base : Nat} {v : Value} {l : List UInt8} {d : Nat} (h : QB w S g room base v l d) :
    Calls Try.prog 18 #[.pointer (some ⟨g, 0, none⟩)] w fun e w' => e = .returned (.int .i64 (d : Int)) ∧ w = w' := by
  obtain ⟨c0, c1, c2⟩ := h.cells
  go_enter Try.func18, Try.ntmps18
  go_wp2_with fail
  refine (load_any rfl c2).mono ?_
  rintro e w' ⟨rfl, rfl⟩
  go_wp2
  go_ret
  exact ⟨rfl, rfl⟩
set_option maxRecDepth 100000 in
theorem dropped_nil (w : World) : Calls Try.prog 18 #[.pointer none] w fun e w' => e = .returned (.int .i64 0) ∧ w = w' := by
  go_enter Try.func18, Try.ntmps18
  go_wp2
  go_ret
  exact ⟨rfl, rfl⟩
end Go.Proofs.Ythilpfgmbikhfaa
