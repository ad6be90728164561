/-
  Layer 6: words for modes in memory: as a value, as a box's cells; what calls tell. A key's event in memory; words for layers that send keys. Cut out of KeyT: what names no function of any dump. Layer 10, walked: the document's Old. A sequence of numbers, as a value, and the document's Put of it. Layer 11, walked: the document's sequence of numbers. Layer 2, walked: Put, the program's and the document's. Layer 2, walked: the size of what begins with a byte.
-/
import Derived.Test.YtbjmfhcgkpjcfaaGreatDoorG02
import Derived.Test.YtbjmfhcgkpjcfaaGreatDoorG03
import Derived.Test.YtbjmfhcgkpjcfaaGreatDoorG05
import Derived.Test.YtbjmfhcgkpjcfaaGreatDoorG07
import Derived.Test.YtbjmfhcgkpjcfaaGreatDoorG09
import Derived.Test.YtbjmfhcgkpjcfaaGreatDoorG11
import Derived.Test.YtbjmfhcgkpjcfaaGreatDoorG13
import Derived.Test.YtbjmfhcgkpjcfaaGreatDoorG15
import Derived.Test.YtbjmfhcgkpjcfaaGreatDoorG17
import Derived.Test.YtbjmfhcgkpjcfaaGreatDoorG18
import Derived.Test.YtbjmfhcgkpjcfaaGreatDoorG19
import Derived.Test.YtbjmfhcgkpjcfaaGreatDoorG24
import Derived.BigQuiet
import Derived.Deep.QuietTactic
import Derived.Laws.StructEq
import Derived.Deep.RegionLaw
namespace Go.Proofs.YtbjmfhcgkpjcfaaGreatDoor
open Go.RowKit

section
variable {w w' : World} {g : Nat} {t : TypeId} {p0 p1 p2 p3 p4 p5 p6 p7 p8 p9 : Value}
theorem Blk.cells10 (h : Blk w g t #[p0, p1, p2, p3, p4, p5, p6, p7, p8, p9]) :
    w.cell? ⟨g, 0, none⟩ = some p0 ∧ w.cell? ⟨g, 1, none⟩ = some p1 ∧ w.cell? ⟨g, 2, none⟩ = some p2 ∧ w.cell? ⟨g, 3, none⟩ = some p3 ∧ w.cell? ⟨g, 4, none⟩ = some p4 ∧ w.cell? ⟨g, 5, none⟩ = some p5 ∧ w.cell? ⟨g, 6, none⟩ = some p6 ∧ w.cell? ⟨g, 7, none⟩ = some p7 ∧ w.cell? ⟨g, 8, none⟩ = some p8 ∧ w.cell? ⟨g, 9, none⟩ = some p9 :=
  ⟨h.cell 0, h.cell 1, h.cell 2, h.cell 3, h.cell 4, h.cell 5, h.cell 6, h.cell 7, h.cell 8, h.cell 9⟩
theorem Blk.set10 (h : Blk w g t #[p0, p1, p2, p3, p4, p5, p6, p7, p8, p9]) (x0 x1 x2 x3 x4 x5 x6 x7 x8 x9 : Value) : Blk ((((((((((w.setCell ⟨g, 0, none⟩ x0).setCell ⟨g, 1, none⟩ x1).setCell ⟨g, 2, none⟩ x2).setCell ⟨g, 3, none⟩ x3).setCell ⟨g, 4, none⟩ x4).setCell ⟨g, 5, none⟩ x5).setCell ⟨g, 6, none⟩ x6).setCell ⟨g, 7, none⟩ x7).setCell ⟨g, 8, none⟩ x8).setCell ⟨g, 9, none⟩ x9) g t #[x0, x1, x2, x3, x4, x5, x6, x7, x8, x9] := by
  have h0 : Blk _ g t #[x0, p1, p2, p3, p4, p5, p6, p7, p8, p9] := h.set 0 x0
  have h1 : Blk _ g t #[x0, x1, p2, p3, p4, p5, p6, p7, p8, p9] := h0.set 1 x1
  have h2 : Blk _ g t #[x0, x1, x2, p3, p4, p5, p6, p7, p8, p9] := h1.set 2 x2
  have h3 : Blk _ g t #[x0, x1, x2, x3, p4, p5, p6, p7, p8, p9] := h2.set 3 x3
  have h4 : Blk _ g t #[x0, x1, x2, x3, x4, p5, p6, p7, p8, p9] := h3.set 4 x4
  have h5 : Blk _ g t #[x0, x1, x2, x3, x4, x5, p6, p7, p8, p9] := h4.set 5 x5
  have h6 : Blk _ g t #[x0, x1, x2, x3, x4, x5, x6, p7, p8, p9] := h5.set 6 x6
  have h7 : Blk _ g t #[x0, x1, x2, x3, x4, x5, x6, x7, p8, p9] := h6.set 7 x7
  have h8 : Blk _ g t #[x0, x1, x2, x3, x4, x5, x6, x7, x8, p9] := h7.set 8 x8
  exact h8.set 9 x9
theorem below_set10 {B : Nat} {a : World} (h : Below B a w) (hB : B ≤ g) (x0 x1 x2 x3 x4 x5 x6 x7 x8 x9 : Value) : Below B a ((((((((((w.setCell ⟨g, 0, none⟩ x0).setCell ⟨g, 1, none⟩ x1).setCell ⟨g, 2, none⟩ x2).setCell ⟨g, 3, none⟩ x3).setCell ⟨g, 4, none⟩ x4).setCell ⟨g, 5, none⟩ x5).setCell ⟨g, 6, none⟩ x6).setCell ⟨g, 7, none⟩ x7).setCell ⟨g, 8, none⟩ x8).setCell ⟨g, 9, none⟩ x9) :=
  ((((((((((h.setCell (p := ⟨g, 0, none⟩) hB x0).setCell (p := ⟨g, 1, none⟩) hB x1).setCell (p := ⟨g, 2, none⟩) hB x2).setCell (p := ⟨g, 3, none⟩) hB x3).setCell (p := ⟨g, 4, none⟩) hB x4).setCell (p := ⟨g, 5, none⟩) hB x5).setCell (p := ⟨g, 6, none⟩) hB x6).setCell (p := ⟨g, 7, none⟩) hB x7).setCell (p := ⟨g, 8, none⟩) hB x8).setCell (p := ⟨g, 9, none⟩) hB x9)
end
theorem Blk.far10 {w : World} {g b : Nat} {t : TypeId} {cs : Array Value} (h : Blk w g t cs) (hb : g ≠ b) (x0 x1 x2 x3 x4 x5 x6 x7 x8 x9 : Value) : Blk ((((((((((w.setCell ⟨b, 0, none⟩ x0).setCell ⟨b, 1, none⟩ x1).setCell ⟨b, 2, none⟩ x2).setCell ⟨b, 3, none⟩ x3).setCell ⟨b, 4, none⟩ x4).setCell ⟨b, 5, none⟩ x5).setCell ⟨b, 6, none⟩ x6).setCell ⟨b, 7, none⟩ x7).setCell ⟨b, 8, none⟩ x8).setCell ⟨b, 9, none⟩ x9) g t cs :=
  (((((((((h.far (a := ⟨b, 0, none⟩) hb x0).far (a := ⟨b, 1, none⟩) hb x1).far (a := ⟨b, 2, none⟩) hb x2).far (a := ⟨b, 3, none⟩) hb x3).far (a := ⟨b, 4, none⟩) hb x4).far (a := ⟨b, 5, none⟩) hb x5).far (a := ⟨b, 6, none⟩) hb x6).far (a := ⟨b, 7, none⟩) hb x7).far (a := ⟨b, 8, none⟩) hb x8).far (a := ⟨b, 9, none⟩) hb x9
/-- Blocks that are known whole, all at once. -/
def Bl (w : World) (L : List (Nat × TypeId × Array Value)) : Prop := ∀ x ∈ L, Blk w x.1 x.2.1 x.2.2
section
variable {w w' : World} {L : List (Nat × TypeId × Array Value)}
theorem Bl.nil (w : World) : Bl w [] := fun _ h => by cases h
theorem Bl.below (h : Bl w L) (hb : Below w.heap.size w w') : Bl w' L := fun x hx => (h x hx).below hb (h x hx).lt
theorem Bl.alloc (h : Bl w L) (o : Obj) : Bl (w.alloc o) L := fun x hx => (h x hx).alloc o
theorem Bl.add (h : Bl w L) (t : TypeId) (cs : Array Value) : Bl (w.alloc (.cells cs t)) ((w.heap.size, t, cs) :: L) := fun x hx => by
  rcases List.mem_cons.1 hx with rfl | hx
  · exact Blk.new w t cs
  · exact (h x hx).alloc _
theorem Bl.head {x : Nat × TypeId × Array Value} (h : Bl w (x :: L)) : Blk w x.1 x.2.1 x.2.2 := h x (List.mem_cons_self ..)
theorem Bl.tail {x : Nat × TypeId × Array Value} (h : Bl w (x :: L)) : Bl w L := fun y hy => h y (List.mem_cons_of_mem _ hy)
end
/-- Modes as a value. -/
def moV (m : Mo) : Value := .agg #[.bool m.cursor, .bool m.keypad, .bool m.back, .bool m.focus, .bool m.paste, .bool m.lock, .bool m.line, .int .i64 m.mouse, .int .i64 m.coding, .int .i64 m.other]
def moC (m : Mo) : Array Value := #[.bool m.cursor, .bool m.keypad, .bool m.back, .bool m.focus, .bool m.paste, .bool m.lock, .bool m.line, .int .i64 m.mouse, .int .i64 m.coding, .int .i64 m.other]
def MoE (m : Mo) (q : Bool) (w : World) (e : Ending) (w' : World) : Prop := e = .returned (.tuple #[moV m, .bool q]) ∧ Below w.heap.size w w'
theorem sameM_eq (a b : Mo) : sameM a b = decide (a.cursor = b.cursor ∧ a.keypad = b.keypad ∧ a.back = b.back ∧ a.focus = b.focus ∧ a.paste = b.paste ∧ a.lock = b.lock ∧ a.line = b.line ∧ a.mouse = b.mouse ∧ a.coding = b.coding ∧ a.other = b.other) := by
  rw [Bool.eq_iff_iff]
  simp [sameM]
def inI (n : Int) : Prop := -9223372036854775808 ≤ n ∧ n ≤ 9223372036854775807
def ValE (v : Value) (w : World) (e : Ending) (w' : World) : Prop := e = .returned v ∧ Below w.heap.size w w'
/-- Modes whose numbers are ints. -/
def okM (m : Mo) : Prop := inI m.mouse ∧ inI m.coding
theorem inI_zero : inI 0 := ⟨by decide, by decide⟩
theorem ok_set {m : Mo} (h : okM m) (p : Bool) {n : Int} (hn : inI n) (on : Bool) : okM (setM m p n on).1 := by
  unfold okM setM plainM oneM
  (repeat' split) <;> first | exact h | exact ⟨hn, h.2⟩ | exact ⟨h.1, hn⟩ | exact ⟨inI_zero, h.2⟩ | exact ⟨h.1, inI_zero⟩
def OwnE (w : World) (e : Ending) (w' : World) : Prop := ∃ A c, e = .returned (.slice A 12 c) ∧ 12 ≤ c ∧ Rd w' A (is_ ownM) ∧ Below w.heap.size w w'
theorem below_step {w w1 w2 : World} {n : Nat} (h : Below n w w1) (h' : Below w1.heap.size w1 w2) (hn : n ≤ w1.heap.size) : Below n w w2 := h.trans (h'.mono hn)
end Go.Proofs.YtbjmfhcgkpjcfaaGreatDoor
namespace Go.Proofs.YtbjmfhcgkpjcfaaGreatDoor
open Go.RowKit

/-- A key's event, as a value. -/
def kyV (k : Ky) : Value := .agg #[.int .i64 k.code, .int .i64 k.mods, .int .i64 k.typ, .int .i64 k.shift, .int .i64 k.base, .string k.text]
def kyC (k : Ky) : Array Value := #[.int .i64 k.code, .int .i64 k.mods, .int .i64 k.typ, .int .i64 k.shift, .int .i64 k.base, .string k.text]
theorem Own.capT {w : World} {base : Nat} {e : TypeId} {A : Option Addr} {n c : Nat} {xs : List Value} (h : Own w base e 1 (.slice A n c) n xs) : n ≤ c := by
  rcases h.2 with ⟨hv, h0⟩ | ⟨g, cap, hv, hb, hh, hnc, hcm, hx, hc⟩
  · omega
  · injection hv with _ _ h3
    omega
theorem below_none {w w' : World} (h : w.grownBy w' none) : Below w.heap.size w w' := ⟨h.os, h.tape, h.output, h.size, fun k hk => h.block k hk (by simp)⟩
/-- A call that tells one value, and makes nothing that lay turn. -/
def Val10 (v : Value) (w : World) (e : Ending) (w' : World) : Prop := e = .returned v ∧ Below w.heap.size w w'
theorem max0 (n N : Int) (h : max n 0 = N) {P : Program} : ∀ (ts : Array TypeId) (t : TypeId) (W : World), (Builtin.max_ ts t #[.int .i64 n, .int .i64 0]).run P W = .ok (.int .i64 N) W := fun ts t W => by
  rw [run_max_int2]
  congr 2
  split <;> omega
theorem ky_box (w : World) (k : Ky) : Below w.heap.size w (w.alloc (.cells (kyC k) 25)) := (Below.refl _ w).alloc (Nat.le_refl _) _
end Go.Proofs.YtbjmfhcgkpjcfaaGreatDoor
namespace Go.Proofs.YtbjmfhcgkpjcfaaGreatDoor
open Go.RowKit

def enV (e : En) : Value := .agg #[.int .i64 e.kind, .int .u8 e.fin, .int .i64 e.num, .int .i64 e.char, .bool e.keys]
theorem below_two {w : World} (x y : Obj) : Below w.heap.size w ((w.alloc x).alloc y) := ((Below.refl _ w).alloc (Nat.le_refl _) _).alloc (by simp) _
end Go.Proofs.YtbjmfhcgkpjcfaaGreatDoor
namespace Go.Proofs.YtbjmfhcgkpjcfaaGreatDoor
open Go.RowKit

set_option maxRecDepth 100000 in
theorem rold_any (n : Int) (w : World) : Calls Tryz.prog 16 #[.int .i64 n] w fun e w' => e = .returned (.int .i64 (oldN n)) ∧ Below w.heap.size w w' := by
  obtain ⟨N, hN⟩ : ∃ N, max n 0 = N := ⟨_, rfl⟩
  have hmax := max0 n N hN (P := Tryz.prog)
  obtain ⟨F, hF⟩ : ∃ F, oldN n = F := ⟨_, rfl⟩
  have hm : Int.tmod N 8 = F := by
    rw [Int.tmod_eq_emod_of_nonneg (by omega), ← hF, ← hN]
    rfl
  rw [hF]
  clear hF hN
  go_enter Tryz.func16, Tryz.ntmps16
  go_wp2
  go_ret
  exact ⟨rfl, by first | exact Below.refl _ _ | exact below_drewN (Below.refl _ _) _⟩
end Go.Proofs.YtbjmfhcgkpjcfaaGreatDoor
namespace Go.Proofs.YtbjmfhcgkpjcfaaGreatDoor
open Go.RowKit

/-- The document's Put of such a sequence. -/
theorem rput_sqn {kind f : Int} {l : List Int} {n : Nat} (hn : l.length = n) (hl : n ≤ 30) (f0 : 0 ≤ f) (f1 : f < 256) (A : Option Addr) (c : Nat) (w : World) (hr : RdP w A (l.map fun n => [n])) :
    Calls Tryz.prog 39 #[.agg #[.int .i64 kind, .int .u8 0, .slice A n c, .string ⟨#[]⟩, .int .u8 f, .string ⟨#[]⟩]] w fun e w' => (∃ B d m, e = .returned (.tuple #[.slice B (seqB kind f l).length d, .int .i64 m]) ∧ Rd w' B (bs (seqB kind f l))) ∧ Below w.heap.size w w' := by
  rw [← sqn_v (kind := kind) hn f0 f1 A c]
  by_cases hm : mayS (sqN kind f l) = 0
  · refine (wput_yes (sqN kind f l) A c w hm hr).mono ?_
    rintro e w' ⟨⟨B, d, rfl, _, hr'⟩, hb⟩
    rw [show seqB kind f l = putS (sqN kind f l) from if_pos hm]
    exact ⟨⟨B, d, 0, rfl, hr'⟩, hb⟩
  · have hp : (sqN kind f l).params.length ≤ 4294967296 := by show (l.map fun n => [n]).length ≤ _; rw [List.length_map]; omega
    refine (wput_no (sqN kind f l) A c _ w rfl hm hp (by show 0 ≤ _; omega) hr).mono ?_
    rintro e w' ⟨rfl, hb⟩
    rw [show seqB kind f l = [] from if_neg hm]
    exact ⟨⟨none, 0, _, rfl, Rd.nil _ _⟩, hb⟩
end Go.Proofs.YtbjmfhcgkpjcfaaGreatDoor
namespace Go.Proofs.YtbjmfhcgkpjcfaaGreatDoor
open Go.RowKit

set_option maxRecDepth 100000 in
set_option maxHeartbeats 16000000 in
theorem rseq11_any (kind f : Int) (f0 : 0 ≤ f) (f1 : f < 256) (B : Option Addr) (l : List Int) (n d : Nat) (hn : l.length = n) (hl : n ≤ 30) (w : World) (hr : Rd w B (is_ l)) :
    Calls Tryz.prog 17 #[.int .i64 kind, .int .u8 f, .slice B n d] w (Out (seqB kind f l) w) := by
  obtain ⟨j0, hj, hy0, hy1, hy2⟩ : ∃ i, Tryz.prog.info? 53 = some i ∧ i.zero = some (.slice none 0 0) ∧ i.size = 1 ∧ i.bytes = 24 := ⟨_, rfl, rfl, rfl, rfl⟩
  have HN := Lib.hid hn
  clear hn
  have hs0 := Blk.new w 60 #[.int .i64 kind, .int .u8 0, .slice none 0 0, .string ⟨#[]⟩, .int .u8 f, .string ⟨#[]⟩]
  have hb0 := (Below.refl w.heap.size w).alloc (Nat.le_refl _) (.cells #[.int .i64 kind, .int .u8 0, .slice none 0 0, .string ⟨#[]⟩, .int .u8 f, .string ⟨#[]⟩] 60)
  go_enter Tryz.func17, Tryz.ntmps17
  go_wp2_with fail
  have hlt34 : w.heap.size < (w.alloc (.cells #[.int .i64 kind, .int .u8 0, .slice none 0 0, .string ⟨#[]⟩, .int .u8 f, .string ⟨#[]⟩] 60)).heap.size := hs0.lt
  generalize w.alloc (.cells #[.int .i64 kind, .int .u8 0, .slice none 0 0, .string ⟨#[]⟩, .int .u8 f, .string ⟨#[]⟩] 60) = W0 at *
  go_loopw [8] (fun i wr => ∃ (k : Nat) (v : Value) (xs : List Value), k ≤ n ∧ i = .int .i64 k ∧ Own wr W0.heap.size 53 1 v k xs ∧ (∃ B2, B2 ≤ wr.heap.size ∧ Rows wr B2 3 xs ((l.take k).map fun n => [n])) ∧ Blk wr w.heap.size 60 #[.int .i64 kind, .int .u8 0, v, .string ⟨#[]⟩, .int .u8 f, .string ⟨#[]⟩] ∧ Below w.heap.size w wr ∧ W0.heap.size ≤ wr.heap.size) (fun i _ => n - (intOf i).toNat)
  case atStart => exact ⟨0, _, [], Nat.zero_le _, rfl, Own.nil_ _ _ _ _, ⟨0, Nat.zero_le _, by rfl, fun k hk => absurd hk (by simp)⟩, hs0, hb0, Nat.le_refl _⟩
  case round =>
    obtain ⟨k, v, xs, hk, rfl, ho, ⟨B2, hB2, hrs⟩, hs, hbw, hW⟩ := hrel
    clear hs0 hb0
    obtain ⟨d0, d1, d2, d3, d4, d5⟩ := Blk.cells6 hs
    by_cases hlt : k < n
    · have hkl : k < l.length := by rw [HN.out]; exact hlt
      obtain ⟨bb, oo, rfl, hbb, hcc⟩ := (hr.below hbw).int_at (by rw [HN.out]; omega)
      have hck := hcc k hkl
      obtain ⟨u, hu⟩ : ∃ u, l[k]'hkl = u := ⟨_, rfl⟩
      rw [hu] at hck
      have HX := Lib.hid (show l.take (k + 1) = l.take k ++ [u] by rw [List.take_succ_eq_append_getElem hkl, hu])
      clear hu hcc
      obtain ⟨Av, cv, rfl, _⟩ := ho.form
      have hown1 := (ho.alloc (.cells #[.int .i64 u] 3)).alloc (.cells #[.slice (some ⟨wr.heap.size, 0, none⟩) 1 1] 53)
      have hrd1 : Rd ((wr.alloc (.cells #[.int .i64 u] 3)).alloc (.cells #[.slice (some ⟨wr.heap.size, 0, none⟩) 1 1] 53)) (some ⟨wr.heap.size + 1, 0, none⟩) [.slice (some ⟨wr.heap.size, 0, none⟩) 1 1] := by
        have := Rd.block (xs := [.slice (some ⟨wr.heap.size, 0, none⟩) 1 1]) (heap_alloc_new (wr.alloc (.cells #[.int .i64 u] 3)) (.cells #[.slice (some ⟨wr.heap.size, 0, none⟩) 1 1] 53)) (by simp)
        rwa [World.size_alloc] at this
      have hin : RowI (wr.alloc (.cells #[.int .i64 u] 3)) (wr.heap.size + 1) 3 (some ⟨wr.heap.size, 0, none⟩) [u] := by
        obtain ⟨_, A', c', h1, h2⟩ := own_row (p := [u]) (own_lit (wr.alloc (.cells #[.int .i64 u] 3)) 0 3 wr.heap.size (.int .i64 u) (Nat.zero_le _) (heap_alloc_new wr _))
        cases h1
        rwa [World.size_alloc] at h2
      have hrs1 := ((hrs.keep (Nat.le_refl B2) (fun q hq _ => Below.heap_alloc wr (.cells #[.int .i64 u] 3) q (by omega))).keep (B' := wr.heap.size + 1) (by omega) (fun _ _ _ => rfl)).snoc2 (n := 1) rfl (c := 1) hin
      have hrs2 := hrs1.keep (Nat.le_refl _) (fun q hq _ => Below.heap_alloc (wr.alloc (.cells #[.int .i64 u] 3)) (.cells #[.slice (some ⟨wr.heap.size, 0, none⟩) 1 1] 53) q (by simp; omega))
      have hs2 := (hs.alloc (.cells #[.int .i64 u] 3)).alloc (.cells #[.slice (some ⟨wr.heap.size, 0, none⟩) 1 1] 53)
      have hb2 : Below w.heap.size w ((wr.alloc (.cells #[.int .i64 u] 3)).alloc (.cells #[.slice (some ⟨wr.heap.size, 0, none⟩) 1 1] 53)) := (hbw.alloc hbw.size _).alloc (Nat.le_trans hbw.size (by simp)) _
      have h63 : k + 1 ≤ maxLen := by simp only [maxLen]; omega
      have hlim : (k + 1) * 24 ≤ 140737488355328 := by omega
      have hbs : W0.heap.size ≤ ((wr.alloc (.cells #[.int .i64 u] 3)).alloc (.cells #[.slice (some ⟨wr.heap.size, 0, none⟩) 1 1] 53)).heap.size := by simp; omega
      have hsz2 : wr.heap.size + 1 ≤ ((wr.alloc (.cells #[.int .i64 u] 3)).alloc (.cells #[.slice (some ⟨wr.heap.size, 0, none⟩) 1 1] 53)).heap.size := by simp
      clear hrs hrs1 hin ho
      have hown1 := hown1.drew
      have i2a : (wr.alloc (.cells #[.int .i64 u] 3)).drew.cell? ⟨w.heap.size, 2, none⟩ = some (.slice Av k cv) := (hs.alloc (.cells #[.int .i64 u] 3)).cell 2
      have i2b : ((wr.alloc (.cells #[.int .i64 u] 3)).alloc (.cells #[.slice (some ⟨wr.heap.size, 0, none⟩) 1 1] 53)).drew.cell? ⟨w.heap.size, 2, none⟩ = some (.slice Av k cv) := hs2.cell 2
      have hrd1 : Rd ((wr.alloc (.cells #[.int .i64 u] 3)).alloc (.cells #[.slice (some ⟨wr.heap.size, 0, none⟩) 1 1] 53)).drew (some ⟨wr.heap.size + 1, 0, none⟩) [.slice (some ⟨wr.heap.size, 0, none⟩) 1 1] := hrd1
      have hs2 : Blk ((wr.alloc (.cells #[.int .i64 u] 3)).alloc (.cells #[.slice (some ⟨wr.heap.size, 0, none⟩) 1 1] 53)).drew w.heap.size 60 #[.int .i64 kind, .int .u8 0, .slice Av k cv, .string ⟨#[]⟩, .int .u8 f, .string ⟨#[]⟩] := hs2
      have hrs2 : Rows ((wr.alloc (.cells #[.int .i64 u] 3)).alloc (.cells #[.slice (some ⟨wr.heap.size, 0, none⟩) 1 1] 53)).drew (wr.heap.size + 1) 3 (xs ++ [.slice (some ⟨wr.heap.size, 0, none⟩) 1 1]) ((l.take k).map (fun n => [n]) ++ [[u]]) := hrs2
      have hb2 : Below w.heap.size w ((wr.alloc (.cells #[.int .i64 u] 3)).alloc (.cells #[.slice (some ⟨wr.heap.size, 0, none⟩) 1 1] 53)).drew := hb2.drew
      have hbs : W0.heap.size ≤ ((wr.alloc (.cells #[.int .i64 u] 3)).alloc (.cells #[.slice (some ⟨wr.heap.size, 0, none⟩) 1 1] 53)).drew.heap.size := hbs
      have hsz2 : wr.heap.size + 1 ≤ ((wr.alloc (.cells #[.int .i64 u] 3)).alloc (.cells #[.slice (some ⟨wr.heap.size, 0, none⟩) 1 1] 53)).drew.heap.size := hsz2
      go_wp2_with fail
      go_region_law (refine step_app _ rfl (.tmp 21) (.tmp 27) 58 rfl W0.heap.size 53 j0 _ 1 24 Tryz.underlying58 hj hy0 hy1 hy2 rfl Nat.one_pos (.slice Av k cv) k xs (by simp [Act.eval]) hown1 (some ⟨wr.heap.size + 1, 0, none⟩) 1 1 [.slice (some ⟨wr.heap.size, 0, none⟩) 1 1] (by simp [Act.eval]) rfl hrd1 (sl_one _ _ _) h63 hlim hbs ?_; intro v5 w5 hown5 hg5; obtain ⟨A5, c5, rfl, hf5⟩ := hown5.form; clear hf5; have hs5 := hs2.grown hg5 (hown1.no_cells hs2 (by decide)); have fz5 := hs5.frozen 2; obtain ⟨e0, e1, e2, e3, e4, e5⟩ := Blk.cells6 hs5)
      all_goals
        have hrs5 := hrs2.keep (B' := wr.heap.size + 1) (Nat.le_refl _) (keep_out hown1 (by decide) hg5)
        have hb5 : Below w.heap.size w w5 := hb2.grown hg5 (Nat.le_trans hbw.size (Nat.le_trans (Nat.le_succ _) hsz2)) (fun g hg => by have := (hown1.lt g hg).1; omega)
        have hsz5 : wr.heap.size + 1 ≤ w5.heap.size := Nat.le_trans hsz2 hg5.size
        have hgs := grown_setCell w.heap.size 2 (.slice A5 (k + 1) c5) w5
        clear hg5 hown1 hrd1 hs2 hb2 h63 hlim hbs hsz2 hrs2 i2a i2b
        go_wp2_with fail
        go_roundw
        case rel =>
          refine ⟨k + 1, _, xs ++ [.slice (some ⟨wr.heap.size, 0, none⟩) 1 1], by omega, by go_num, hown5.kept hgs (.inr (hown5.no_cells hs5 (by decide))), ⟨wr.heap.size + 1, by simp; exact hsz5, ?_⟩, hs5.set 2 _, hb5.setCell (p := ⟨w.heap.size, 2, none⟩) (Nat.le_refl _) _, Nat.le_trans hW (Nat.le_trans (Nat.le_succ _) (by simpa using hsz5))⟩
          rw [HX.out, List.map_append]
          exact hrs5.keep (Nat.le_refl _) (fun q _ ⟨cur, fz, hh⟩ => hgs.block q (Array.getElem?_eq_some_iff.1 hh).1 (fun e => tag_ne hs5 hh (by decide) (by injection e)))
        case measure => simp [intOf]; omega
    · obtain rfl : k = n := by omega
      have HT := Lib.hid (show l.take k = l from List.take_of_length_le (by rw [HN.out]; omega))
      obtain ⟨A3, c3, rfl, hrow⟩ := hrs.rdpn ho hs (by decide) (by decide)
      rw [HT.out] at hrow
      have hr5 : RdP wr A3 (l.map fun n => [n]) := hrow.rdp
      clear hrow ho hrs hW hB2 HT hr
      go_wp2_with fail
      refine (rput_sqn (kind := kind) HN.out hl f0 f1 A3 c3 wr hr5).mono ?_
      rintro e w2 ⟨⟨C, d2, m, rfl, hrC⟩, hbC⟩
      go_wp2_with fail
      go_ret
      exact ⟨_, _, rfl, hrC, hbw.trans (hbC.mono hbw.size)⟩
end Go.Proofs.YtbjmfhcgkpjcfaaGreatDoor
namespace Go.Proofs.YtbjmfhcgkpjcfaaGreatDoor
open Go.RowKit

set_option maxHeartbeats 1000000 in
theorem Put_any (r : Int) (w : World) (hs : Siz w) : Calls Tryz.prog 47 #[.int .i64 r] w (Out (putL r) w) := by
  cases h : isPt r with
  | false =>
    rw [putL_no h]
    go_enter Tryz.func47, Tryz.ntmps47
    go_wp2_with fail
    refine (isPt_any r _).mono ?_
    rintro e w1 ⟨rfl, rfl⟩
    go_wp2_with fail
    go_ret
    exact ⟨none, 0, rfl, Rd.nil _ _, Below.refl _ _⟩
  | true =>
    have H := Lib.hid h
    go_enter Tryz.func47, Tryz.ntmps47
    go_wp2_with fail
    refine (isPt_any r _).mono ?_
    rintro e w1 ⟨rfl, rfl⟩
    go_wp2_with fail
    refine (put_any r H.out w.heap.size (.slice none 0 0) 0 [] w hs (Own.nil_ _ _ _ _) (Nat.le_refl _) (by omega)).mono ?_
    rintro e w2 ⟨v, rfl, ho, hb⟩
    go_wp2_with fail
    go_ret
    exact out_own ho hb

end Go.Proofs.YtbjmfhcgkpjcfaaGreatDoor
namespace Go.Proofs.YtbjmfhcgkpjcfaaGreatDoor
open Go.RowKit

set_option maxRecDepth 100000 in
set_option maxHeartbeats 4000000 in
theorem sizeByFirst_any (r : Int) (w : World) (hs : Siz w) : Calls Tryz.prog 79 #[.int .i64 r] w fun e w' => e = .returned (.agg (szA (ixF r 4))) ∧ Below w.heap.size w w' := by
  obtain ⟨t, fz, hh⟩ := hs
  have hlt := (Array.getElem?_eq_some_iff.1 hh).1
  have hlt0 : 0 < w.heap.size := Nat.zero_lt_of_lt hlt
  have c0 : w.cell? ⟨1, 0, none⟩ = some (.int .i64 1) := siz_cell hh 0
  have c1 : w.cell? ⟨1, 1, none⟩ = some (.int .i64 0) := siz_cell hh 1
  have c2 : w.cell? ⟨1, 2, none⟩ = some (.int .i64 0) := siz_cell hh 2
  have c3 : w.cell? ⟨1, 3, none⟩ = some (.int .i64 2) := siz_cell hh 3
  have c4 : w.cell? ⟨1, 4, none⟩ = some (.int .i64 128) := siz_cell hh 4
  have c5 : w.cell? ⟨1, 5, none⟩ = some (.int .i64 192) := siz_cell hh 5
  have c6 : w.cell? ⟨1, 6, none⟩ = some (.int .i64 3) := siz_cell hh 6
  have c7 : w.cell? ⟨1, 7, none⟩ = some (.int .i64 2048) := siz_cell hh 7
  have c8 : w.cell? ⟨1, 8, none⟩ = some (.int .i64 224) := siz_cell hh 8
  have c9 : w.cell? ⟨1, 9, none⟩ = some (.int .i64 4) := siz_cell hh 9
  have c10 : w.cell? ⟨1, 10, none⟩ = some (.int .i64 65536) := siz_cell hh 10
  have c11 : w.cell? ⟨1, 11, none⟩ = some (.int .i64 240) := siz_cell hh 11
  go_enter Tryz.func79, Tryz.ntmps79
  go_wp2
  have b0 := Blk.new w 94 #[.int .i64 0, .int .i64 0, .int .i64 0]
  have b1 := Blk.new (w.alloc (.cells #[.int .i64 0, .int .i64 0, .int .i64 0] 94)) 94 #[.int .i64 1, .int .i64 0, .int .i64 0]
  rw [World.size_alloc] at b1
  have hb0 : Below w.heap.size w ((w.alloc (.cells #[.int .i64 0, .int .i64 0, .int .i64 0] 94)).alloc (.cells #[.int .i64 1, .int .i64 0, .int .i64 0] 94)) := ((Below.refl _ w).alloc (Nat.le_refl _) _).alloc (by simp) _
  go_loopw [9] (fun i wr => ∃ k : Nat, k ≤ 4 ∧ i = .int .i64 k ∧ Blk wr w.heap.size 94 #[.int .i64 0, .int .i64 0, .int .i64 0] ∧ Blk wr (w.heap.size + 1) 94 (szA (ixF r k)) ∧ Below w.heap.size w wr) (fun i _ => 4 - (intOf i).toNat)
  case atStart => exact ⟨0, by omega, rfl, b0.alloc _, b1, hb0⟩
  case round =>
    obtain ⟨k, hk, rfl, p0, p1, hbw⟩ := hrel
    clear b0 b1 hb0 c0 c1 c2 c3 c4 c5 c6 c7 c8 c9 c10 c11
    have hz := p1.lt
    have q0 := p1.frozen 0
    have q1 := p1.frozen 1
    have q2 := p1.frozen 2
    obtain rfl | rfl | rfl | rfl | rfl : k = 0 ∨ k = 1 ∨ k = 2 ∨ k = 3 ∨ k = 4 := by omega
    · have i0 : ∀ w : World, (Instr.index 105 (.agg #[.int .i64 1, .int .i64 0, .int .i64 0, .int .i64 2, .int .i64 128, .int .i64 192, .int .i64 3, .int .i64 2048, .int .i64 224, .int .i64 4, .int .i64 65536, .int .i64 240]) (.int .i64 0)).run Tryz.prog w = .ok (.agg #[.int .i64 1, .int .i64 0, .int .i64 0]) w := fun _ => by kernel_rfl
      by_cases hr : 0 ≤ r
      · have f0 := Lib.hid (show szA (ixF r (0 + 1)) = szA 0 by rw [show ixF r (0 + 1) = 0 by unfold ixF; (repeat' split) <;> omega])
        obtain ⟨u0, u1, u2, hu⟩ := szA_form (ixF r 0)
        rw [hu] at p1
        have g0 := p1.cell 0
        have g1 := p1.cell 1
        have g2 := p1.cell 2
        go_wp2
        go_roundw
        case rel => exact ⟨0 + 1, by omega, by go_num, (p0.far3 (Nat.ne_of_lt (Nat.lt_succ_self _)) _ _ _).alloc _, by rw [f0.out]; exact (p1.set3 _ _ _).alloc _, (below_set3 hbw (Nat.le_succ _) _ _ _).alloc (by rw [set3_size]; exact hbw.size) _⟩
        case measure => simp [intOf]
      · have f0 := Lib.hid (show szA (ixF r (0 + 1)) = szA (ixF r 0) by rw [show ixF r (0 + 1) = ixF r 0 by unfold ixF; (repeat' split) <;> omega])
        go_wp2
        go_roundw
        case rel => exact ⟨0 + 1, by omega, by go_num, p0.alloc _, by rw [f0.out]; exact p1.alloc _, hbw.alloc hbw.size _⟩
        case measure => simp [intOf]
    · have i0 : ∀ w : World, (Instr.index 105 (.agg #[.int .i64 1, .int .i64 0, .int .i64 0, .int .i64 2, .int .i64 128, .int .i64 192, .int .i64 3, .int .i64 2048, .int .i64 224, .int .i64 4, .int .i64 65536, .int .i64 240]) (.int .i64 1)).run Tryz.prog w = .ok (.agg #[.int .i64 2, .int .i64 128, .int .i64 192]) w := fun _ => by kernel_rfl
      by_cases hr : 192 ≤ r
      · have f0 := Lib.hid (show szA (ixF r (1 + 1)) = szA 1 by rw [show ixF r (1 + 1) = 1 by unfold ixF; (repeat' split) <;> omega])
        obtain ⟨u0, u1, u2, hu⟩ := szA_form (ixF r 1)
        rw [hu] at p1
        have g0 := p1.cell 0
        have g1 := p1.cell 1
        have g2 := p1.cell 2
        go_wp2
        go_roundw
        case rel => exact ⟨1 + 1, by omega, by go_num, (p0.far3 (Nat.ne_of_lt (Nat.lt_succ_self _)) _ _ _).alloc _, by rw [f0.out]; exact (p1.set3 _ _ _).alloc _, (below_set3 hbw (Nat.le_succ _) _ _ _).alloc (by rw [set3_size]; exact hbw.size) _⟩
        case measure => simp [intOf]
      · have f0 := Lib.hid (show szA (ixF r (1 + 1)) = szA (ixF r 1) by rw [show ixF r (1 + 1) = ixF r 1 by unfold ixF; (repeat' split) <;> omega])
        go_wp2
        go_roundw
        case rel => exact ⟨1 + 1, by omega, by go_num, p0.alloc _, by rw [f0.out]; exact p1.alloc _, hbw.alloc hbw.size _⟩
        case measure => simp [intOf]
    · have i0 : ∀ w : World, (Instr.index 105 (.agg #[.int .i64 1, .int .i64 0, .int .i64 0, .int .i64 2, .int .i64 128, .int .i64 192, .int .i64 3, .int .i64 2048, .int .i64 224, .int .i64 4, .int .i64 65536, .int .i64 240]) (.int .i64 2)).run Tryz.prog w = .ok (.agg #[.int .i64 3, .int .i64 2048, .int .i64 224]) w := fun _ => by kernel_rfl
      by_cases hr : 224 ≤ r
      · have f0 := Lib.hid (show szA (ixF r (2 + 1)) = szA 2 by rw [show ixF r (2 + 1) = 2 by unfold ixF; (repeat' split) <;> omega])
        obtain ⟨u0, u1, u2, hu⟩ := szA_form (ixF r 2)
        rw [hu] at p1
        have g0 := p1.cell 0
        have g1 := p1.cell 1
        have g2 := p1.cell 2
        go_wp2
        go_roundw
        case rel => exact ⟨2 + 1, by omega, by go_num, (p0.far3 (Nat.ne_of_lt (Nat.lt_succ_self _)) _ _ _).alloc _, by rw [f0.out]; exact (p1.set3 _ _ _).alloc _, (below_set3 hbw (Nat.le_succ _) _ _ _).alloc (by rw [set3_size]; exact hbw.size) _⟩
        case measure => simp [intOf]
      · have f0 := Lib.hid (show szA (ixF r (2 + 1)) = szA (ixF r 2) by rw [show ixF r (2 + 1) = ixF r 2 by unfold ixF; (repeat' split) <;> omega])
        go_wp2
        go_roundw
        case rel => exact ⟨2 + 1, by omega, by go_num, p0.alloc _, by rw [f0.out]; exact p1.alloc _, hbw.alloc hbw.size _⟩
        case measure => simp [intOf]
    · have i0 : ∀ w : World, (Instr.index 105 (.agg #[.int .i64 1, .int .i64 0, .int .i64 0, .int .i64 2, .int .i64 128, .int .i64 192, .int .i64 3, .int .i64 2048, .int .i64 224, .int .i64 4, .int .i64 65536, .int .i64 240]) (.int .i64 3)).run Tryz.prog w = .ok (.agg #[.int .i64 4, .int .i64 65536, .int .i64 240]) w := fun _ => by kernel_rfl
      by_cases hr : 240 ≤ r
      · have f0 := Lib.hid (show szA (ixF r (3 + 1)) = szA 3 by rw [show ixF r (3 + 1) = 3 by unfold ixF; (repeat' split) <;> omega])
        obtain ⟨u0, u1, u2, hu⟩ := szA_form (ixF r 3)
        rw [hu] at p1
        have g0 := p1.cell 0
        have g1 := p1.cell 1
        have g2 := p1.cell 2
        go_wp2
        go_roundw
        case rel => exact ⟨3 + 1, by omega, by go_num, (p0.far3 (Nat.ne_of_lt (Nat.lt_succ_self _)) _ _ _).alloc _, by rw [f0.out]; exact (p1.set3 _ _ _).alloc _, (below_set3 hbw (Nat.le_succ _) _ _ _).alloc (by rw [set3_size]; exact hbw.size) _⟩
        case measure => simp [intOf]
      · have f0 := Lib.hid (show szA (ixF r (3 + 1)) = szA (ixF r 3) by rw [show ixF r (3 + 1) = ixF r 3 by unfold ixF; (repeat' split) <;> omega])
        go_wp2
        go_roundw
        case rel => exact ⟨3 + 1, by omega, by go_num, p0.alloc _, by rw [f0.out]; exact p1.alloc _, hbw.alloc hbw.size _⟩
        case measure => simp [intOf]
    · obtain ⟨u0, u1, u2, hu⟩ := szA_form (ixF r 4)
      rw [hu] at p1
      have g0 := p1.cell 0
      have g1 := p1.cell 1
      have g2 := p1.cell 2
      have y0 := p0.cell 0
      have y1 := p0.cell 1
      have y2 := p0.cell 2
      have x0 := p0.frozen 0
      have x1 := p0.frozen 1
      have x2 := p0.frozen 2
      have hlt2 := p0.lt
      go_wp2
      exact bodyPost_ret (v := .agg #[.int .i64 u0, .int .i64 u1, .int .i64 u2]) (by simp [results, Tryz.results79, go_sem, y0, y1, y2]) rfl ⟨by rw [hu], below_set3 hbw (Nat.le_refl _) _ _ _⟩
end Go.Proofs.YtbjmfhcgkpjcfaaGreatDoor
