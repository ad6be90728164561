/-
  From a walk to a law's row, for all laws: arguments read behind the call as they read before, out of the frame alone; a slice of bytes is opened as a list. Layer 6's mathematics: modes, set, reset and told, as the document has them. Words for memory: a block that is known whole; a slice that lies below a block; a slice cut at a place; a reader's box. Numbers in figures, plainly: no program is named here. (Later layers' texts take this in the place of layer 1's own.) Layer 8's mathematics: flags that are kept. Layer 2: what takes and puts answer. (No function of any dump.) The cells of a block of five, and of six. Words for memory that several things share: what has a footprint (a set of blocks), and stays as it is wherever only other blocks turn; append that tells which block its row lies in; copy into a row of the call's own; slices cut short. A map that a literal makes, its entries laid in whatever order the region draws: what it reads as at the end. 'There is an input that fits', where a listed variable is a slice: the shape of the world by the elder law's second form.
-/
import Derived.Test.YtceipblcdcgljaaGreatDoorG01
import Derived.Deep.DeepHandedRow
import Derived.Lib.LaidTab
import Derived.SizedLaws
import Derived.Laws.Rows
import Derived.Lib.ItoaLen
import Derived.BigQuiet
import Derived.Deep.QuietTactic
import Derived.Laws.IdiomCopy
import Derived.Laws.Slices
import Derived.Maps.OwnSet
import Derived.Maps.Ext
import Derived.Orders
import Derived.Carry
import Derived.Deep.DeepWitnessRef
namespace Go.Proofs.YtceipblcdcgljaaGreatDoor
open Go.RowKit Go.WideShapes Go.ChangeShapes Go.ChangeAt Go.ChangeMaps
section
section
variable {H : Type} {enc : TypeId × Value → H} {P : Program}
theorem trodAll_below (hl : laidOutB P = true) {W W' : World} (hb : Below W.heap.size W W') : ∀ {ts : List TypeId} {vs : List Value} {ds : List (DataW H)} {ps : List MemPlace},
 (ts.all fun t => P.readableRec t && decide (t < P.types.size)) = true → (∀ x ∈ ps, x.block < W.heap.size) → DataW.TrodAll enc P W 0 (fun _ => true) true ts vs ds ps →
 DataW.TrodAll enc P W' 0 (fun b => decide (b < W.heap.size)) true ts vs ds ps
 | [], [], [], _, _, _, h => h
 | t :: ts, v :: vs, d :: ds, ps, hr, hlt, h => by
   obtain ⟨p, q, h1, h2, rfl⟩ := h
   simp only [List.all_cons, Bool.and_eq_true, decide_eq_true_eq] at hr
   exact ⟨p, q, Below.trod hl hr.1.1 hr.1.2 h1 hb (fun x hx => hlt x (List.mem_append_left _ hx)), trodAll_below hl hb hr.2 (fun x hx => hlt x (List.mem_append_right _ hx)) h2, rfl⟩
theorem law_end (hl : laidOutB P = true) {f : Func} {s : ChangeSpec} {W W' : World} {args : Array Value} {ds : List (DataW H)} {before : List MemPlace} {T : TypeId} (hT : P.underlying T = some .bool)
 (hv : s.vars = []) (hrt : f.resultTypes = #[T]) (hread : (f.params.toList.all fun t => P.readableRec t && decide (t < P.types.size)) = true)
 (hW : DataW.Whole enc P f.params.toList s.vars false W args.toList ds [] before) (hA : DataW.TrodAll enc P W 0 (fun _ => true) true f.params.toList args.toList ds before)
 (hs : s.fn H (ds ++ []) = { results := [.lit (.bool true)], args := ds }) (hb : Below W.heap.size W W') :
 s.post enc P f false true false false W args (.bool true) W' := by
 have hlt : ∀ p ∈ before, p.block < W.heap.size := fun p hp => hW.lt p hp
 refine ⟨ds, [], before, [], before, [], hW, ?_, ?_, ?_, World.keptBut_mono (fun p hp => ⟨hp, .inr (.inl hp)⟩) (hb.frame (· ∈ before)), fun hd => absurd hd (by simp)⟩
 ·rw [hs, hrt]; exact trodAll_mk1 (shut_bool hT _)
 ·rw [hs]; exact trodAll_below hl hb hread hlt hA
 ·rw [hs, hv]; exact rfl
end
end
end Go.Proofs.YtceipblcdcgljaaGreatDoor
namespace Go.Proofs.YtceipblcdcgljaaGreatDoor
structure Mo where
 cursor : Bool
 keypad : Bool
 back : Bool
 focus : Bool
 paste : Bool
 lock : Bool
 line : Bool
 mouse : Int
 coding : Int
 other : Int
def mo0 : Mo := ⟨false, false, false, false, false, false, false, 0, 0, 0⟩
end Go.Proofs.YtceipblcdcgljaaGreatDoor
namespace Go.Proofs.YtceipblcdcgljaaGreatDoor
open Go.RowKit
section
def Blk (w : World) (g : Nat) (t : TypeId) (cs : Array Value) : Prop := w.heap[g]? = some (.cells cs t (0, 0))
section
variable {w w' : World} {g : Nat} {t : TypeId} {cs : Array Value}
theorem Blk.lt (h : Blk w g t cs) : g < w.heap.size := (Array.getElem?_eq_some_iff.1 h).1
theorem Blk.cell (h : Blk w g t cs) (i : Nat) : w.cell? ⟨g, i, none⟩ = cs[i]? := cell_of_row w g i cs t (0, 0) h
theorem Blk.frozen (h : Blk w g t cs) (i : Nat) : w.frozen? ⟨g, i, none⟩ = false := frozen_of_row w g i cs t h
theorem Blk.new (w : World) (t : TypeId) (cs : Array Value) : Blk (w.alloc (.cells cs t)) w.heap.size t cs := heap_alloc_new w _
theorem Blk.drewN (h : Blk w g t cs) (n : Nat) : Blk (w.drewN n) g t cs := h
theorem Blk.alloc (h : Blk w g t cs) (o : Obj) : Blk (w.alloc o) g t cs := (Below.heap_alloc w o g h.lt).trans h
theorem Blk.set (h : Blk w g t cs) (i : Nat) (u : Value) : Blk (w.setCell ⟨g, i, none⟩ u) g t (cs.setIfInBounds i u) := by
 have := heap_setCell_same w g i cs t u h
 simpa [Blk] using this
theorem Blk.far (h : Blk w g t cs) {a : Addr} (ha : g ≠ a.block) (u : Value) : Blk (w.setCell a u) g t cs := (heap_setCell_other w a g u ha).trans h
theorem Blk.far3 (h : Blk w g t cs) {b : Nat} (hb : g ≠ b) (x y z : Value) : Blk (((w.setCell ⟨b, 0, none⟩ x).setCell ⟨b, 1, none⟩ y).setCell ⟨b, 2, none⟩ z) g t cs :=
 ((h.far (a := ⟨b, 0, none⟩) hb x).far (a := ⟨b, 1, none⟩) hb y).far (a := ⟨b, 2, none⟩) hb z
theorem Blk.set3 {p q r : Value} (h : Blk w g t #[p, q, r]) (x y z : Value) : Blk (((w.setCell ⟨g, 0, none⟩ x).setCell ⟨g, 1, none⟩ y).setCell ⟨g, 2, none⟩ z) g t #[x, y, z] := by
 have h1 : Blk (w.setCell ⟨g, 0, none⟩ x) g t #[x, q, r] := h.set 0 x
 have h2 : Blk ((w.setCell ⟨g, 0, none⟩ x).setCell ⟨g, 1, none⟩ y) g t #[x, y, r] := h1.set 1 y
 exact h2.set 2 z
theorem set3_size (w : World) (b : Nat) (x y z : Value) : (((w.setCell ⟨b, 0, none⟩ x).setCell ⟨b, 1, none⟩ y).setCell ⟨b, 2, none⟩ z).heap.size = w.heap.size := by simp
theorem below_set3 {B : Nat} {a : World} (h : Below B a w) {b : Nat} (hb : B ≤ b) (x y z : Value) : Below B a (((w.setCell ⟨b, 0, none⟩ x).setCell ⟨b, 1, none⟩ y).setCell ⟨b, 2, none⟩ z) :=
 ((h.setCell (p := ⟨b, 0, none⟩) hb x).setCell (p := ⟨b, 1, none⟩) hb y).setCell (p := ⟨b, 2, none⟩) hb z
theorem Blk.below {B : Nat} (h : Blk w g t cs) (hb : Below B w w') (hg : g < B) : Blk w' g t cs := (hb.block g hg).trans h
end
def RdIn (n₁ : Nat) (w : World) (A : Option Addr) (xs : List Value) : Prop :=
 0 < xs.length → ∃ b o, A = some ⟨b, o, none⟩ ∧ b < n₁ ∧ ∀ k u, xs[k]? = some u → w.cell? ⟨b, o + k, none⟩ = some u
theorem RdIn.of {w : World} {A : Option Addr} {xs : List Value} (h : Rd w A xs) : RdIn w.heap.size w A xs := h
theorem RdIn.below {n₁ : Nat} {w w' : World} {A : Option Addr} {xs : List Value} (h : RdIn n₁ w A xs) (hb : Below n₁ w w') : RdIn n₁ w' A xs := fun hp => by
 obtain ⟨b, o, rfl, hlt, hc⟩ := h hp
 exact ⟨b, o, rfl, hlt, fun k u hu => (hb.cell (p := ⟨b, o + k, none⟩) hlt).trans (hc k u hu)⟩
theorem RdIn.drop {n₁ : Nat} {w : World} {b o : Nat} {t : List UInt8} (h : RdIn n₁ w (some ⟨b, o, none⟩) (bs t)) (k : Nat) (hk : k < t.length) : Rd w (some ⟨b, o + k, none⟩) (bs (t.drop k)) := fun _ => by
 obtain ⟨b', o', hA, _, hc⟩ := h (by rw [bs_length]; omega)
 simp only [Option.some.injEq, Addr.mk.injEq, and_true] at hA
 obtain ⟨rfl, rfl⟩ := hA
 have h0 := hc k _ (bs_get t k hk)
 refine ⟨b, o + k, rfl, World.block_lt_of_cell? w _ h0, fun i u hu => ?_⟩
 rw [Nat.add_assoc]
 apply hc
 simp only [bs, List.map_drop, List.getElem?_drop] at hu
 exact hu
theorem Blk.grown {w w' : World} {g : Nat} {t : TypeId} {cs : Array Value} {row : Option Nat} (h : Blk w g t cs) (hb : w.grownBy w' row) (hg : row ≠ some g) : Blk w' g t cs := (hb.block g h.lt (fun e => hg e.symm)).trans h
theorem RdIn.rd {n₁ : Nat} {w : World} {A : Option Addr} {xs : List Value} (h : RdIn n₁ w A xs) (hn : n₁ ≤ w.heap.size) : Rd w A xs := fun hp => by
 obtain ⟨b, o, rfl, hlt, hc⟩ := h hp
 exact ⟨b, o, rfl, by omega, hc⟩
theorem RdIn.grown {n₁ : Nat} {w w' : World} {A : Option Addr} {xs : List Value} (h : RdIn n₁ w A xs) (hg : w.grownBy w' (some n₁)) (hn : n₁ < w.heap.size) : RdIn n₁ w' A xs := fun hp => by
 obtain ⟨b, o, rfl, hlt, hc⟩ := h hp
 exact ⟨b, o, rfl, hlt, fun k u hu => (World.cell?_of_block (w := w) (a := ⟨b, o + k, none⟩) (hg.block b (by omega) (fun e => by injection e with e; omega))).trans (hc k u hu)⟩
theorem grown_trans {w w' w'' : World} {row : Option Nat} (h : w.grownBy w' row) (h' : w'.grownBy w'' row) : w.grownBy w'' row :=
 ⟨h'.os.trans h.os, h'.tape.trans h.tape, h'.output.trans h.output, Nat.le_trans h.size h'.size, fun k hk hr => (h'.block k (Nat.lt_of_lt_of_le hk h.size) hr).trans (h.block k hk hr)⟩
theorem grown_below {w w' : World} (row : Option Nat) (h : Below w.heap.size w w') : w.grownBy w' row := ⟨h.os, h.tape, h.output, h.size, fun k hk _ => h.block k hk⟩
theorem below_grown {B g : Nat} {w w' : World} (h : w.grownBy w' (some g)) (hB : B ≤ g) (hg : g < w.heap.size) : Below B w w' := ⟨h.os, h.tape, h.output, h.size, fun k hk => h.block k (by omega) (fun e => by injection e with e; omega)⟩
theorem cut_run {P : Program} {T e : TypeId} (he : P.elem T = e) (hT : P.underlying T = some (.slice e)) (hs : ∀ w, (sizeOf e).run P w = .ok 1 w) (A : Option Addr) (n c k : Nat) (hk : k ≤ n) (hn : n ≤ c) :
 ∃ A', (∀ w : World, (Instr.slice T (.slice A n c) (some (.int .i64 (k : Int))) none none).run P w = .ok (.slice A' (n - k) (c - k)) w) ∧
   ∀ (n₁ : Nat) (w : World) (l : List UInt8), l.length = n → RdIn n₁ w A (bs l) → RdIn n₁ w A' (bs (l.drop k)) := by
 subst he
 refine ⟨if c = k then A else A.map (·.add (k * 1)), fun w => ?_, fun n₁ w l hl hr => ?_⟩
 ·rw [run_slice_l w T A n c hT .i64 (k : Int) (by omega) (by omega), hs]
  simp [Result.andThen, sliced]
 ·intro hp
  rw [bs_length, List.length_drop] at hp
  obtain ⟨b, o, rfl, hb, hc⟩ := hr (by rw [bs_length]; omega)
  rw [if_neg (by omega)]
  refine ⟨b, o + k, ?_, hb, fun i u hu => ?_⟩
  ·rw [Option.map_some, addr_add_at, Nat.mul_one]
  ·rw [Nat.add_assoc]
   apply hc
   simp only [bs, List.map_drop, List.getElem?_drop] at hu
   exact hu
theorem cut2_run {P : Program} {T e : TypeId} (he : P.elem T = e) (hT : P.underlying T = some (.slice e)) (hs : ∀ w, (sizeOf e).run P w = .ok 1 w) (A : Option Addr) (n c lo hi : Nat) (hk : lo ≤ hi) (hh : hi ≤ n) (hn : n ≤ c) :
 ∃ A', (∀ w : World, (Instr.slice T (.slice A n c) (some (.int .i64 (lo : Int))) (some (.int .i64 (hi : Int))) none).run P w = .ok (.slice A' (hi - lo) (c - lo)) w) ∧
   ∀ (n₁ : Nat) (w : World) (l : List UInt8), l.length = n → RdIn n₁ w A (bs l) → RdIn n₁ w A' (bs ((l.drop lo).take (hi - lo))) := by
 subst he
 refine ⟨if c = lo then A else A.map (·.add (lo * 1)), fun w => ?_, fun n₁ w l hl hr => ?_⟩
 ·rw [run_slice_lh w T A n c hT .i64 .i64 (lo : Int) (hi : Int) (by omega) (by omega) (by omega), hs]
  simp [Result.andThen, sliced]
 ·intro hp
  rw [bs_length, List.length_take, List.length_drop] at hp
  obtain ⟨b, o, rfl, hb, hc⟩ := hr (by rw [bs_length]; omega)
  rw [if_neg (by omega)]
  refine ⟨b, o + lo, ?_, hb, fun i u hu => ?_⟩
  ·rw [Option.map_some, addr_add_at, Nat.mul_one]
  ·rw [Nat.add_assoc]
   apply hc
   have hi : i < hi - lo := by
    have := (List.getElem?_eq_some_iff.1 hu).1
    rw [bs_length, List.length_take] at this
    omega
   simp only [bs, List.map_take, List.map_drop, List.getElem?_take, if_pos hi, List.getElem?_drop] at hu
   exact hu
end
end Go.Proofs.YtceipblcdcgljaaGreatDoor
namespace Go.Proofs.YtceipblcdcgljaaGreatDoor
def textL (n : Int) : List UInt8 := if n < 0 then [] else Lib.decDigits n.toNat
theorem textL_neg (n : Int) (h : n < 0) : textL n = [] := if_pos h
theorem textL_small (n : Int) (h0 : 0 ≤ n) (h : n < 10) : textL n = [UInt8.ofNat (48 + n.toNat)] := by
 unfold textL; rw [if_neg (by omega), Lib.decDigits, dif_pos (by omega)]
theorem textL_big (n : Int) (h : 10 ≤ n) : textL n = textL (n / 10) ++ [UInt8.ofNat (48 + (n % 10).toNat)] := by
 unfold textL
 rw [if_neg (by omega), if_neg (by omega), Lib.decDigits, dif_neg (by omega)]
 rw [show (n / 10).toNat = n.toNat / 10 by omega, show (n % 10).toNat = n.toNat % 10 by omega]
theorem textL_length (n : Int) (h1 : n ≤ 9223372036854775807) : (textL n).length ≤ 21 := by
 by_cases h : n < 0
 ·rw [textL_neg n h]; simp
 ·rw [show textL n = Lib.itoa n by unfold textL Lib.itoa; rw [if_neg h, if_neg h]]
  exact Lib.itoa_length_le n (by omega) h1
def isD (c : UInt8) : Bool := decide (48 ≤ c.toNat ∧ c.toNat ≤ 57)
theorem digit_isD (k : Nat) (h : k < 10) : isD (UInt8.ofNat (48 + k)) = true ∧ (UInt8.ofNat (48 + k)).toNat = 48 + k := by
 have e : (UInt8.ofNat (48 + k)).toNat = 48 + k := UInt8.toNat_ofNat_of_lt' (by show 48 + k < 256; omega)
 unfold isD
 rw [e]
 exact ⟨decide_eq_true (by omega), rfl⟩
theorem dec_step (u : Nat) (h : ¬ u < 10) : Lib.decDigits u = Lib.decDigits (u / 10) ++ [UInt8.ofNat (48 + u % 10)] := by rw [Lib.decDigits, dif_neg h]
theorem dec_small (u : Nat) (h : u < 10) : Lib.decDigits u = [UInt8.ofNat (48 + u)] := by rw [Lib.decDigits, dif_pos h]
theorem dec_all (u : Nat) : ∀ c ∈ Lib.decDigits u, isD c = true := by
 induction u using Nat.strongRecOn with
 | _ u ih =>
   by_cases h : u < 10
   ·rw [dec_small u h]
    intro c hc
    rw [List.mem_singleton] at hc
    subst hc
    exact (digit_isD u h).1
   ·rw [dec_step u h]
    intro c hc
    rcases List.mem_append.1 hc with hc | hc
    ·exact ih (u / 10) (by omega) c hc
    ·rw [List.mem_singleton] at hc
     subst hc
     exact (digit_isD (u % 10) (by omega)).1
theorem dec_ne (u : Nat) : Lib.decDigits u ≠ [] := by
 by_cases h : u < 10
 ·rw [dec_small u h]; simp
 ·rw [dec_step u h]; simp
def rd (M : Int) (n : Int) (c : UInt8) : Int := min (10 * max n 0 + ((c.toNat : Int) - 48)) M
theorem dec_read (M : Int) (u : Nat) (hM : 9 ≤ M) : (Lib.decDigits u).foldl (rd M) (-1) = min (u : Int) M := by
 induction u using Nat.strongRecOn with
 | _ u ih =>
   by_cases h : u < 10
   ·rw [dec_small u h, List.foldl_cons, List.foldl_nil, rd, (digit_isD u h).2]; omega
   ·rw [dec_step u h, List.foldl_append, ih (u / 10) (by omega), List.foldl_cons, List.foldl_nil, rd, (digit_isD (u % 10) (by omega)).2]; omega
theorem text_read (M n : Int) (hM : 9 ≤ M) (h : 0 ≤ n) : (textL n).foldl (rd M) (-1) = min n M := by
 unfold textL
 rw [if_neg (by omega), dec_read M _ hM]
 omega
theorem text_all_isD (n : Int) : ∀ c ∈ textL n, isD c = true := by
 unfold textL
 split
 ·intro c hc; cases hc
 ·exact dec_all _
theorem text_ne (n : Int) (h : 0 ≤ n) : textL n ≠ [] := by
 unfold textL
 rw [if_neg (by omega)]
 exact dec_ne _
def flg (n : Int) : Int := max n 0 % 32
theorem flg_rng (n : Int) : 0 ≤ flg n ∧ flg n < 32 := by
 unfold flg
 omega
theorem flg_id {n : Int} (h : 0 ≤ n ∧ n < 32) : flg n = n := by
 unfold flg
 omega
end Go.Proofs.YtceipblcdcgljaaGreatDoor
namespace Go.Proofs.YtceipblcdcgljaaGreatDoor
open Go.RowKit
theorem byt_val (k : Int) (h : 0 ≤ k) (h1 : k < 256) : [Value.int .u8 k] = bs [byt k] := by
 show _ = [Value.int .u8 ((byt k).toNat : Int)]
 rw [byt_nat k h h1]
def Out (l : List UInt8) (w : World) (e : Ending) (w' : World) : Prop := ∃ A c, e = .returned (.slice A l.length c) ∧ Rd w' A (bs l) ∧ Below w.heap.size w w'
theorem out_own {base : Nat} {t : TypeId} {v : Value} {n : Nat} {l : List UInt8} {w w' : World} (ho : Own w' base t 1 v n (bs l)) (hb : Below w.heap.size w w') : Out l w (.returned v) w' := by
 obtain ⟨A, c, rfl, hr⟩ := ho.form
 have := ho.1
 rw [bs_length] at this
 exact ⟨A, c, by rw [show n = l.length by omega], hr, hb⟩
theorem out_lit (w : World) (t : TypeId) {l : List UInt8} {L : List Value} {n : Nat} (hE : bs l = L) (hL : l.length = n) : Out l w (.returned (.slice (some ⟨w.heap.size, 0, none⟩) n n)) (w.alloc (.cells L.toArray t)) := by
 subst hL hE
 exact ⟨_, _, rfl, Rd.block (heap_alloc_new w _) (by simp), (Below.refl _ _).alloc (Nat.le_refl _) _⟩
theorem bs1 (a : Int) (ha : 0 ≤ a) (ha' : a < 256) : bs [byt a] = [.int .u8 a] := (byt_val a ha ha').symm
theorem bs_cons (a : Int) (ha : 0 ≤ a) (ha' : a < 256) (l : List UInt8) : bs (byt a :: l) = .int .u8 a :: bs l := by
 show _ :: _ = _
 rw [show B8 (byt a) = .int .u8 a by unfold B8; rw [byt_nat a ha ha']]
 rfl
theorem rd_lit (w : World) (x : Value) (t : TypeId) : Rd (w.alloc (.cells #[x] t)) (some ⟨w.heap.size, 0, none⟩) [x] := Rd.block (heap_alloc_new w _) rfl
def Tk (l : List UInt8) : Ending := .returned (.tuple #[.int .i64 (takeL l).1, .int .i64 ((takeL l).2 : Nat)])
theorem tk_zero {l : List UInt8} (h : takeL l = (0, 0)) : Ending.returned (.tuple #[.int .i64 0, .int .i64 0]) = Tk l := by unfold Tk; rw [h]; rfl
theorem tk_is {l : List UInt8} {x : Int} {n : Nat} {m : Int} (h : takeL l = (x, n)) (hm : m = n) : Ending.returned (.tuple #[.int .i64 x, .int .i64 m]) = Tk l := by unfold Tk; rw [h, hm]
theorem Blk.cells5 {w : World} {g : Nat} {t : TypeId} {a b c d e : Value} (h : Blk w g t #[a, b, c, d, e]) :
 w.cell? ⟨g, 0, none⟩ = some a ∧ w.cell? ⟨g, 1, none⟩ = some b ∧ w.cell? ⟨g, 2, none⟩ = some c ∧ w.cell? ⟨g, 3, none⟩ = some d ∧ w.cell? ⟨g, 4, none⟩ = some e :=
 ⟨h.cell 0, h.cell 1, h.cell 2, h.cell 3, h.cell 4⟩
theorem Blk.cells6 {w : World} {g : Nat} {t : TypeId} {a b c d e f : Value} (h : Blk w g t #[a, b, c, d, e, f]) :
 w.cell? ⟨g, 0, none⟩ = some a ∧ w.cell? ⟨g, 1, none⟩ = some b ∧ w.cell? ⟨g, 2, none⟩ = some c ∧ w.cell? ⟨g, 3, none⟩ = some d ∧ w.cell? ⟨g, 4, none⟩ = some e ∧ w.cell? ⟨g, 5, none⟩ = some f :=
 ⟨h.cell 0, h.cell 1, h.cell 2, h.cell 3, h.cell 4, h.cell 5⟩
section
structure Fr (w w' : World) (S : Nat → Prop) : Prop where
 os : w'.os = w.os
 tape : w'.tape = w.tape
 output : w'.output = w.output
 size : w.heap.size ≤ w'.heap.size
 block : ∀ k, k < w.heap.size → ¬ S k → w'.heap[k]? = w.heap[k]?
def Wid (w : World) (S S' : Nat → Prop) : Prop := ∀ k, S' k → S k ∨ w.heap.size ≤ k
section
variable {w w' w'' : World} {S S' S'' : Nat → Prop}
theorem Fr.refl (w : World) (S : Nat → Prop) : Fr w w S := ⟨rfl, rfl, rfl, Nat.le_refl _, fun _ _ _ => rfl⟩
theorem Fr.drewN (w : World) (n : Nat) (S : Nat → Prop) : Fr w (w.drewN n) S := ⟨rfl, rfl, rfl, Nat.le_refl _, fun _ _ _ => rfl⟩
theorem Fr.mono (h : Fr w w' S) (hS : ∀ k, S k → S' k) : Fr w w' S' := ⟨h.os, h.tape, h.output, h.size, fun k hk hn => h.block k hk (fun hs => hn (hS k hs))⟩
theorem Fr.trans (h : Fr w w' S) (h' : Fr w' w'' S') (hS : ∀ k, S' k → S k ∨ w.heap.size ≤ k) : Fr w w'' S :=
 ⟨h'.os.trans h.os, h'.tape.trans h.tape, h'.output.trans h.output, Nat.le_trans h.size h'.size, fun k hk hn => (h'.block k (Nat.lt_of_lt_of_le hk h.size) (fun hs => by rcases hS k hs with h1 | h1; exact hn h1; omega)).trans (h.block k hk hn)⟩
theorem Fr.of_below (h : Below w.heap.size w w') (S : Nat → Prop) : Fr w w' S := ⟨h.os, h.tape, h.output, h.size, fun k hk _ => h.block k hk⟩
theorem Fr.setCell (w : World) (g i : Nat) (u : Value) (S : Nat → Prop) (h : S g) : Fr w (w.setCell ⟨g, i, none⟩ u) S :=
 ⟨rfl, rfl, rfl, by simp [World.setCell], fun k _ hn => Below.heap_setCell w ⟨g, i, none⟩ u k (fun e => hn (by rw [show k = g from e]; exact h))⟩
theorem Fr.below {B : Nat} (h : Fr w w' S) (hB : B ≤ w.heap.size) (hS : ∀ k, S k → B ≤ k) : Below B w w' :=
 ⟨h.os, h.tape, h.output, h.size, fun k hk => h.block k (by omega) (fun hs => by have := hS k hs; omega)⟩
theorem Wid.refl (w : World) (S : Nat → Prop) : Wid w S S := fun _ h => .inl h
theorem Wid.trans (h : Wid w S S') (h' : Wid w' S' S'') (hs : w.heap.size ≤ w'.heap.size) : Wid w S S'' := fun k hk => by
 rcases h' k hk with h1 | h1
 ·exact h k h1
 ·exact .inr (by omega)
theorem Wid.out (h : Wid w S S') {k : Nat} (hk : k < w.heap.size) (hn : ¬ S k) : ¬ S' k := fun hs => by
 rcases h k hs with h1 | h1
 ·exact hn h1
 ·omega
theorem Blk.fr {g : Nat} {t : TypeId} {cs : Array Value} (h : Blk w g t cs) (hf : Fr w w' S) (hn : ¬ S g) : Blk w' g t cs := (hf.block g h.lt hn).trans h
theorem Own.fr {base : Nat} {e : TypeId} {sz : Nat} {v : Value} {n : Nat} {xs : List Value} (h : Own w base e sz v n xs) (hf : Fr w w' S) (hn : ∀ k, v.ownBlock = some k → ¬ S k) : Own w' base e sz v n xs :=
 h.keep fun k hk => hf.block k (h.lt k hk).2 (hn k hk)
def RdOff (w : World) (S : Nat → Prop) (A : Option Addr) (xs : List Value) : Prop :=
 0 < xs.length → ∃ b o, A = some ⟨b, o, none⟩ ∧ b < w.heap.size ∧ ¬ S b ∧ ∀ k u, xs[k]? = some u → w.cell? ⟨b, o + k, none⟩ = some u
variable {A : Option Addr} {xs : List Value}
theorem RdOff.nil (w : World) (S : Nat → Prop) (A : Option Addr) : RdOff w S A [] := fun h => absurd h (by simp)
theorem RdOff.rd (h : RdOff w S A xs) : Rd w A xs := fun hp => by
 obtain ⟨b, o, rfl, hb, _, hc⟩ := h hp
 exact ⟨b, o, rfl, hb, hc⟩
theorem RdOff.fr (h : RdOff w S A xs) (hf : Fr w w' S) (hw : Wid w S S') : RdOff w' S' A xs := fun hp => by
 obtain ⟨b, o, rfl, hb, hn, hc⟩ := h hp
 exact ⟨b, o, rfl, Nat.lt_of_lt_of_le hb hf.size, hw.out hb hn, fun k u hu => (World.cell?_of_block (w := w) (a := ⟨b, o + k, none⟩) (hf.block b hb hn)).trans (hc k u hu)⟩
theorem RdOff.mono (h : RdOff w S A xs) (hS : ∀ k, S' k → S k) : RdOff w S' A xs := fun hp => by
 obtain ⟨b, o, rfl, hb, hn, hc⟩ := h hp
 exact ⟨b, o, rfl, hb, fun hs => hn (hS b hs), hc⟩
theorem RdOff.new (S : Nat → Prop) (o : Obj) (h : Rd (w.alloc o) (some ⟨w.heap.size, 0, none⟩) xs) (hS : ∀ k, S k → k < w.heap.size) : RdOff (w.alloc o) S (some ⟨w.heap.size, 0, none⟩) xs := fun hp => by
 obtain ⟨b, o', hA, hlt, hc⟩ := h hp
 injection hA with hA
 injection hA with h1 h2
 subst h1 h2
 exact ⟨w.heap.size, 0, rfl, hlt, fun hs => Nat.lt_irrefl _ (hS _ hs), hc⟩
end
section
variable {P : Program} (w : World)
end
section
variable {w : World} {base : Nat} {e : TypeId} {A : Option Addr} {n c : Nat} {xs : List Value}
theorem Own.short (h : Own w base e 1 (.slice A n c) n xs) (m : Nat) (hm : m ≤ n) (ys : List Value) (hy : xs.take m = ys) : Own w base e 1 (.slice A m c) m ys := by
 subst hy
 have hl := h.1
 refine ⟨by rw [List.length_take]; omega, ?_⟩
 rcases h.2 with ⟨hv, h0⟩ | ⟨g, cap, hv, hb, hh, hnc, hcm, hx, hc⟩
 ·injection hv with h1 h2 h3
  exact .inl ⟨by rw [h1, h3, show m = 0 by omega], by omega⟩
 ·injection hv with h1 h2 h3
  subst h1 h3
  refine .inr ⟨g, c, rfl, hb, hh, by omega, hcm, fun j u hu => ?_, hc⟩
  apply hx
  rw [List.getElem?_take] at hu
  split at hu
  ·exact hu
  ·cases hu
theorem Own.cap (h : Own w base e 1 (.slice A n c) n xs) : n ≤ c ∧ c ≤ maxLen := by
 rcases h.2 with ⟨hv, h0⟩ | ⟨g, cap, hv, hb, hh, hnc, hcm, hx, hc⟩
 ·injection hv with h1 h2 h3
  subst h0 h3
  exact ⟨Nat.le_refl _, Nat.zero_le _⟩
 ·injection hv with h1 h2 h3
  subst h3
  exact ⟨hnc, hcm⟩
def Head (A : Option Addr) : Prop := A = none ∨ ∃ g, A = some ⟨g, 0, none⟩
theorem Own.head (h : Own w base e 1 (.slice A n c) n xs) : Head A := by
 rcases h.2 with ⟨hv, h0⟩ | ⟨g, cap, hv, hb, hh, hnc, hcm, hx, hc⟩
 ·injection hv with h1 h2 h3
  exact .inl h1
 ·injection hv with h1 h2 h3
  exact .inr ⟨g, h1⟩
theorem Own.made (w : World) (base : Nat) (e : TypeId) (n : Nat) (xs : List Value) (hl : xs.length = n) (hb : base ≤ w.heap.size) (hm : n ≤ maxLen) : Own (w.alloc (.cells xs.toArray e)) base e 1 (.slice (some ⟨w.heap.size, 0, none⟩) n n) n xs := by
 refine Own.of ⟨by omega, .inr ⟨w.heap.size, n, xs.toArray, rfl, hb, heap_alloc_new w _, Nat.le_refl _, hm, by simp [hl], ?_⟩⟩
 rw [List.take_of_length_le (by simp [hl])]
end
end
end Go.Proofs.YtceipblcdcgljaaGreatDoor
namespace Go.Proofs.YtceipblcdcgljaaGreatDoor
open Go.RowKit Go.Maps Go.ChangeMaps
section
def hel (v : Value) : Option (DataW Value × List MemPlace) := some (.held v, [])
section
variable {P : Program} {ops : Array Oper} {Q : Exit → Act → World → Prop} {md : Region.Mode}
inductive Takes (P : Program) (md : Region.Mode) (ops : Array Oper) : Nat → Array Bool → Act → Array Bool → Act → Prop
 | nil {l a} : Takes P md ops 0 l a l a
 | cons {n l a l' a'} (i : Nat) {o : Oper} (v : Value) (hi : ops[i]? = some o) (hf : Region.free md ops l i = true) (hr : (Region.ready md ops l).contains i = true)
    (hy : Yields P ops o v a) (h : Takes P md ops n (l.setIfInBounds i true) (a.put o.dst v) l' a') : Takes P md ops (n + 1) l a l' a'
theorem Takes.done {l l' : Array Bool} {a a' : Act} (hl : l = l') (ha : a = a') : Takes P md ops 0 l a l' a' := by
 subst hl ha
 exact .nil
theorem all_cons {α : Type} {X : α → Prop} {x : α} {l : List α} (h : X x) (hs : ∀ y ∈ l, X y) : ∀ y ∈ x :: l, X y := fun y hy => by
 rcases List.mem_cons.1 hy with rfl | hy
 ·exact h
 ·exact hs y hy
theorem all_nil {α : Type} {X : α → Prop} : ∀ y ∈ ([] : List α), X y := fun _ hy => by cases hy
structure Ent where
 i : Nat
 key : Lit
 val : Value
structure LaidBut (P : Program) (K : TypeId) (b : Nat) (I R : List Ent) (w0 w : World) (D : DataW Value) : Prop where
 own : w.ownsMap P K hel b (I.length - R.length) D
 grown : w0.grownBy w (some b)
 there : ∀ p ∈ I, p ∉ R → ∀ z, D.atKey p.key z = .held p.val
 nokey : ∀ k, (∀ p ∈ I, p ∈ R ∨ p.key ≠ k) → ∀ z, D.atKey k z = z
def Come (L1 l : Array Bool) (R : List Nat) : Prop := l.size = L1.size ∧ ∀ j, j < L1.size → l[j]? = if j ∈ R then some false else L1[j]?
theorem Come.getD {L1 l : Array Bool} {R : List Nat} (h : Come L1 l R) {j : Nat} (hj : j < L1.size) (d : Bool) : l.getD j d = if j ∈ R then false else L1.getD j d := by
 have := h.2 j hj
 rw [Array.getD_eq_getD_getElem?, Array.getD_eq_getD_getElem?, this]
 split <;> simp
theorem Come.nil {L1 l : Array Bool} (h : Come L1 l []) : l = L1 := by
 apply Array.ext_getElem?
 intro j
 by_cases hj : j < L1.size
 ·simpa using h.2 j hj
 ·rw [Array.getElem?_eq_none (by rw [h.1]; omega), Array.getElem?_eq_none (by omega)]
theorem Come.step {L1 l : Array Bool} {R : List Nat} (h : Come L1 l R) {i : Nat} (hi : L1[i]? = some true) (hn : R.Nodup) : Come L1 (l.setIfInBounds i true) (R.erase i) := by
 have hlt : i < L1.size := (Array.getElem?_eq_some_iff.1 hi).1
 refine ⟨by rw [Array.size_setIfInBounds]; exact h.1, fun j hj => ?_⟩
 by_cases hij : i = j
 ·subst hij
  rw [Array.getElem?_setIfInBounds_self_of_lt (by rw [h.1]; exact hlt), if_neg (fun hm => (List.Nodup.mem_erase_iff hn).1 hm |>.1 rfl), hi]
 ·rw [Array.getElem?_setIfInBounds_ne hij, h.2 j hj]
  by_cases hm : j ∈ R
  ·rw [if_pos hm, if_pos ((List.Nodup.mem_erase_iff hn).2 ⟨fun e => hij e.symm, hm⟩)]
  ·rw [if_neg hm, if_neg (fun hm' => hm (List.mem_of_mem_erase hm'))]
theorem LaidBut.eq {K : TypeId} (KK : Keyed P K) {b : Nat} {I : List Ent} {w0 w : World} {D : DataW Value} (h : LaidBut P K b I [] w0 w D) {L : List (Lit × DataW Value)} (hr : L.Pairwise (fun p q => p.1.before q.1 = true)) (hk : ∀ p ∈ L, WideAt.IsKeyLit p.1)
 (h1 : ∀ p ∈ I, ((p.key, DataW.held p.val) : Lit × DataW Value) ∈ L) (h2 : ∀ q ∈ L, ∃ p ∈ I, q = (p.key, DataW.held p.val)) : D = .map L := by
 have hkI : ∀ p ∈ I, WideAt.IsKeyLit p.key := fun p hp => hk _ (h1 p hp)
 have at1 : ∀ p ∈ I, ∀ z, (DataW.map L : DataW Value).atKey p.key z = .held p.val := fun p hp z => WideAt.atKey_mem z (hkI p hp) (apart_of_rising hr) (h1 p hp)
 have at2 : ∀ k, (∀ p ∈ I, p.key ≠ k) → ∀ z, (DataW.map L : DataW Value).atKey k z = z := fun k hk' z => WideAt.atKey_none z (fun q hq => by
  obtain ⟨p, hp, rfl⟩ := h2 q hq
  exact hk' p hp)
 have key : ∀ k, (∃ p ∈ I, p.key = k) ∨ ∀ p ∈ I, p.key ≠ k := fun k => by
  by_cases e : ∃ p ∈ I, p.key = k
  ·exact .inl e
  ·exact .inr fun p hp hh => e ⟨p, hp, hh⟩
 refine Maps.ext (h.own.canon KK) ⟨L, rfl, hr, hk⟩ (fun k => ?_) (fun k z hh => ?_)
 ·rcases key k with ⟨p, hp, rfl⟩ | hn
  ·rw [has_true_of_atKey (h.there p hp (by simp)), has_true_of_atKey (at1 p hp)]
  ·rw [has_false_of_atKey (h.nokey k fun p hp => .inr (hn p hp)), has_false_of_atKey (at2 k hn)]
 ·rcases key k with ⟨p, hp, rfl⟩ | hn
  ·rw [h.there p hp (by simp), at1 p hp]
  ·rw [h.nokey k (fun p hp => .inr (hn p hp)), at2 k hn]
end
end
end Go.Proofs.YtceipblcdcgljaaGreatDoor
namespace Go.Proofs.YtceipblcdcgljaaGreatDoor
section
section
variable {H : Type} {enc : TypeId × Value → H}
theorem witness_row_ref {C : Checked} {os : Os} {f : FuncId} {fn : Func} {s : OpenSpec} {conds : List PathCond} {apart : Bool} {laid : List (String × DataW Unit)} (modest : Bool) (w0 : World) (args : Array Value) (hos : w0.os = os)
 (hv : (w0.forCall (fun _ _ => 0) ⟨#[], args, []⟩).variablesRefB C.prog = true)
 (hr : ((w0.forCall (fun _ _ => 0) ⟨#[], args, []⟩).heap.toList.drop C.prog.globals.size).take ((begin C.prog (fun _ _ => 0) default).world.heap.size - C.prog.globals.size) =
   (begin C.prog (fun _ _ => 0) default).world.heap.toList.drop C.prog.globals.size)
 (hok : Input.okWideB C.prog (w0.forCall (fun _ _ => 0) ⟨#[], args, []⟩) f ⟨#[], args, []⟩ = true)
 (hrow : s.preRow enc C.prog fn conds apart laid (w0.forCall (fun _ _ => 0) ⟨#[], args, []⟩).memory args) :
 ∃ (w : World) (tape : Tape) (i : Input), w.os = os ∧ (w.forCall tape i).Shaped C.prog ∧ i.vars = [] ∧ Input.okWide C.prog (w.forCall tape i) .any w.heap.size f i ∧
   s.preRow enc C.prog fn conds apart laid (w.forCall tape i).memory i.args ∧ ({ modest := modest } : Assume).holds C.prog (lone (Frame.enter C.prog f i.args .normal) [] (w.forCall tape i)) := by
 obtain ⟨w, tape, i, h1, h2, h3, h4, h5, h6, _⟩ := OpenSpec.witness_stopped_atRef (enc := enc) (C := C) (fn := fn) (s := s) (conds := conds) (apart := apart) (laid := laid) modest w0 args hos hv hr hok hrow (fun _ _ _ => 0)
 exact ⟨w, tape, i, h1, h2, h3, h4, h5, h6⟩
end
end
end Go.Proofs.YtceipblcdcgljaaGreatDoor
