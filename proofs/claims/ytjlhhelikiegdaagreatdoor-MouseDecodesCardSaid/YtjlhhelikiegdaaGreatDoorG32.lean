/-
  Regions that draw: slices that a literal makes of known numbers, bytes, or of slices of bytes; an append onto a row that a call made, behind it a call of what it made.
-/
import Derived.Test.YtjlhhelikiegdaaGreatDoorG03
import Derived.Test.YtjlhhelikiegdaaGreatDoorG06
import Derived.Test.YtjlhhelikiegdaaGreatDoorG18
import Derived.Test.YtjlhhelikiegdaaGreatDoorG24
import Derived.Test.YtjlhhelikiegdaaGreatDoorG26
namespace Go.Proofs.YtjlhhelikiegdaaGreatDoor
open Go.RowKit
section
section
variable {P : Program} {md : Region.Mode} {ops : Array Oper} {w1 : World} {K : List Fact} {ix iz : Nat} {R0 R1 : (Tmp → Value) → World → World → Prop} {aF : (Tmp → Value) → Act} {i : Nat} {o : Oper}
theorem goesK_last {d : Tmp} {f : FuncId} {args : (Tmp → Value) → Array Value} (hi : i = iz) (hxz : ix ≠ iz) (hio : ops[i]? = some o) (hax : edgeB md ops iz ix = true) (hdf : (K.all fun f => f.d != d) = true) (hw : ∀ g, Region.wanted o (yielded ops (aF g).tmps) = true) (ho : o.dst = some d) (hd : ∀ g, (aF g).tmps[d]? = some (g d)) (hr : ∀ g w, (execOp (aF g).eval o).run P w = .ok (.enter f (args g)) w)
 (hc : ∀ g ws w, Below w1.heap.size w1 ws → (∀ (q : Nat) (f : Fact), K[q]? = some f → f.F (g f.d) ws) → R0 g ws w → Calls P f (args g) w fun e w' => ∃ v, e = .returned v ∧ R1 (upd g d v) ws w') :
 GoesM P md ops aF (SK md ops w1 K ix iz R0 R1) i o := fun l g w hsz hf hrd hS => by
 subst hi
 rw [if_pos (hw g)]
 have hlx : l.getD ix false = true := by
  have he := hax
  unfold edgeB at he
  rw [hio] at he
  obtain ⟨e, he, hb⟩ := Array.any_eq_true'.1 he
  simp only [Bool.and_eq_true, beq_iff_eq] at hb
  rw [← hb.2]
  exact hrd e he hb.1
 obtain ⟨ws, b1, b2, b3⟩ := hS.mid hlx hf
 have hsh := hS.shut.step hio hrd
 have hlt : i < l.size := by rw [hsz]; exact (Array.getElem?_eq_some_iff.1 hio).1
 refine .inr ⟨f, args g, w, hr g w, (hc g ws w b1 (fun q f hq => b2 f (List.mem_of_getElem? hq)) b3).mono fun e w' ⟨v, he, h1⟩ => ⟨v, he, upd g d v, .inr ⟨d, _, ho, rfl⟩, (fun d' h' => by rw [ho] at h'; cases h'; rw [hd, upd_at]), hsh, ?_, ?_, fun _ => ⟨ws, b1, fun f hf' => by rw [upd_ne g v (by have := List.all_eq_true.1 hdf f hf'; simpa using this)]; exact b2 f hf', h1⟩, fun _ => getD_up hlx⟩⟩
 ·rw [getD_up hlx]; intro h; cases h
 ·rw [getD_self hlt]; intro _ h; cases h
theorem wp_region_name {Q : Exit → Act → World → Prop} {id : Nat} {a : Act} {w0 : World} (ds : List Tmp) (a0 : Act) (aL : (Tmp → Value) → Act) (vals : List Value) (hm : P.follows .mixedOrders = true) (hc : regCheck .any ops = true) (hs : Region.noSelect ops = true)
 (hL : ∀ g, fillA a0 ds g = aL g) (hn : goF a ops.toList vals = aL fun _ => undef) (hS : Below w1.heap.size w1 w0.drew) (hiz : iz < ops.size)
 (inm d d' : Nat) {onm : Oper} (honm : ops[inm]? = some onm) (hd : onm.dst = some d) (hdd : d' ≠ d) (hx : inm ≠ ix) (hz : inm ≠ iz) (hall : ((List.range ops.size).all fun j => j == inm || edgeB .any ops inm j) = true) (hw : ∀ g, Region.wanted onm (yielded ops (aL g).tmps) = true) (hv : ∀ g, (aL g).tmps[d]? = some (g d)) (hrun : ∀ g w, (execOp (aL g).eval onm).run P w = .ok (.value (g d')) w)
 (hK : (K.all fun f => f.d != d && f.i != inm) = true) (hR : ∀ g ws w v, (R0 g ws w → R0 (upd g d v) ws w) ∧ (R1 g ws w → R1 (upd g d v) ws w))
 (hg : ∀ i o, ops[i]? = some o → i ≠ inm → GoesM P .any ops aL (SK .any ops w1 K ix iz R0 R1) i o)
 (hQ : ∀ g ws w, Below w1.heap.size w1 ws → (∀ (q : Nat) (f : Fact), K[q]? = some f → f.F (g f.d) ws) → R1 g ws w → g d = g d' → Q .normal (aL g) w) :
 (Code.region id ops true).wp P Q a w0 := by
 have hlt : inm < ops.size := (Array.getElem?_eq_some_iff.1 honm).1
 have hfn : fillA a0 ds = aL := funext hL
 have hKd : ∀ f ∈ K, f.d ≠ d ∧ f.i ≠ inm := fun f hf => by
  have := List.all_eq_true.1 hK f hf
  simpa using this
 refine wp_region_made (a0 := a0) (S := fun l g w => l.size = ops.size ∧ SK .any ops w1 K ix iz R0 R1 l g w ∧ (l.getD inm false = true → g d = g d')) ds hm hc hs (fun _ => undef) (by rw [hL]; exact near_of vals hn) ⟨by simp, SK.zero hS _, fun h => rfl⟩ (fun i o ho l g w hsz hf hr hS => ?_) fun l g w hall2 h => by
  rw [hL]
  obtain ⟨ws, h1, h2, h3⟩ := h.2.1.fin (hall2 _ hiz)
  exact hQ g ws w h1 (fun q f hq => h2 f (List.mem_of_getElem? hq)) h3 (h.2.2 (hall2 _ hlt))
 rw [hfn]
 obtain ⟨_, hS1, hE⟩ := hS
 by_cases hi : i = inm
 ·subst hi
  rw [honm] at ho
  injection ho with ho
  subst ho
  rw [if_pos (hw g)]
  refine .inl ⟨g d', w, .inl (hrun g w), upd g d (g d'), .inr ⟨d, _, hd, rfl⟩, (fun e he => by rw [hd] at he; cases he; rw [hv, upd_at]), by simpa using hsz, ⟨hS1.shut.step honm hr, ?_, ?_, ?_, ?_⟩, fun _ => by rw [upd_at, upd_ne g _ hdd]⟩ <;> simp only [getD_set_ne false hx, getD_set_ne false hz]
  ·exact fun h => ⟨(hS1.pre h).1, fun f hf' hl => by rw [upd_ne g _ (hKd f hf').1]; exact (hS1.pre h).2 f hf' (by rwa [getD_set_ne false (fun e => (hKd f hf').2 e.symm)] at hl)⟩
  ·exact fun h h2 => by
    obtain ⟨ws, b1, b2, b3⟩ := hS1.mid h h2
    exact ⟨ws, b1, fun f hf' => by rw [upd_ne g _ (hKd f hf').1]; exact b2 f hf', (hR g ws w _).1 b3⟩
  ·exact fun h => by
    obtain ⟨ws, b1, b2, b3⟩ := hS1.fin h
    exact ⟨ws, b1, fun f hf' => by rw [upd_ne g _ (hKd f hf').1]; exact b2 f hf', (hR g ws w _).2 b3⟩
  ·exact hS1.turn
 ·have hfl : l.getD inm false = false := by
   cases h : l.getD inm false with
   | false => rfl
   | true =>
     have hil : i < ops.size := (Array.getElem?_eq_some_iff.1 ho).1
     have he := List.all_eq_true.1 hall i (List.mem_range.2 hil)
     rw [Bool.or_eq_true] at he
     rcases he with he | he
     ·exact absurd (by simpa using he) hi
     ·rw [hS1.shut.edge h he] at hf
      cases hf
  have h := hg i o ho hi l g w hsz hf hr hS1
  have up : ∀ v w', After aL (SK .any ops w1 K ix iz R0 R1) i o l g v w' → After aL (fun l g w => l.size = ops.size ∧ SK .any ops w1 K ix iz R0 R1 l g w ∧ (l.getD inm false = true → g d = g d')) i o l g v w' := fun v w' ⟨g', h1, h2, h3⟩ => ⟨g', h1, h2, by simpa using hsz, h3, fun hl => by rw [getD_set_ne false hi, hfl] at hl; cases hl⟩
  split
  ·rename_i hq
   rw [if_pos hq] at h
   rcases h with ⟨v, w', h1, h2⟩ | ⟨f, args, w2, h1, h2⟩
   ·exact .inl ⟨v, w', h1, up v w' h2⟩
   ·exact .inr ⟨f, args, w2, h1, h2.mono fun e w' ⟨v, he, ha⟩ => ⟨v, he, up v w' ha⟩⟩
  ·rename_i hq
   rw [if_neg hq] at h
   exact up _ _ h
def GoesX (P : Program) (md : Region.Mode) (ops : Array Oper) (aF : (Tmp → Value) → Act) (S : Array Bool → (Tmp → Value) → World → Prop) (x : Nat) : Nat → List Oper → Prop
 | _, [] => True
 | k, o :: os => (k ≠ x → GoesM P md ops aF S k o) ∧ GoesX P md ops aF S x (k + 1) os
theorem goesX_cons {S : Array Bool → (Tmp → Value) → World → Prop} {x k : Nat} {os : List Oper} (h : GoesM P md ops aF S k o) (hs : GoesX P md ops aF S x (k + 1) os) : GoesX P md ops aF S x k (o :: os) := ⟨fun _ => h, hs⟩
theorem goesX_skip {S : Array Bool → (Tmp → Value) → World → Prop} {x : Nat} {os : List Oper} (hs : GoesX P md ops aF S x (x + 1) os) : GoesX P md ops aF S x x (o :: os) := ⟨fun h => absurd rfl h, hs⟩
theorem goesX_at {S : Array Bool → (Tmp → Value) → World → Prop} {x : Nat} : ∀ (os : List Oper) (k : Nat), GoesX P md ops aF S x k os → ∀ j o, os[j]? = some o → k + j ≠ x → GoesM P md ops aF S (k + j) o
 | [], _, _, j, o, h, _ => by simp at h
 | a :: os, k, hx, 0, o, h, hn => by
   simp at h
   subst h
   exact hx.1 hn
 | a :: os, k, hx, j + 1, o, h, hn => by
   have := goesX_at os (k + 1) hx.2 j o (by simpa using h) (by omega)
   rwa [show k + 1 + j = k + (j + 1) by omega] at this
theorem goesX_all {S : Array Bool → (Tmp → Value) → World → Prop} {x : Nat} (h : GoesX P md ops aF S x 0 ops.toList) : ∀ i o, ops[i]? = some o → i ≠ x → GoesM P md ops aF S i o := fun i o ho hi => by
 have := goesX_at ops.toList 0 h i o (by rw [← ho]; simp) (by omega)
 rwa [Nat.zero_add] at this
end
def FRow (m : Nat) (xs : List Value) (v : Value) (w : World) : Prop := ∃ A c, v = .slice A m c ∧ Rd w A xs
theorem frow_ok (i : Nat) (d : Tmp) (m : Nat) (xs : List Value) : (⟨i, d, FRow m xs⟩ : Fact).ok := fun _ _ _ ⟨A, c, e, h⟩ hb => ⟨A, c, e, h.below hb⟩
def FSl (L : List UInt8) (n : Nat) (v : Value) (w : World) : Prop := ∃ A c, v = .slice A n c ∧ n ≤ c ∧ Rd w A (bs L)
theorem fsl_ok (i : Nat) (d : Tmp) (L : List UInt8) (n : Nat) : (⟨i, d, FSl L n⟩ : Fact).ok := fun _ _ _ ⟨A, c, e, hc, h⟩ hb => ⟨A, c, e, hc, h.below hb⟩
def FBs (m : Nat) (ls : List (List UInt8)) (v : Value) (w : World) : Prop := ∃ A c, v = .slice A m c ∧ RdBs w A ls
theorem fbs_ok (i : Nat) (d : Tmp) (m : Nat) (ls : List (List UInt8)) : (⟨i, d, FBs m ls⟩ : Fact).ok := fun _ _ _ ⟨A, c, e, h⟩ hb => ⟨A, c, e, h.below hb⟩
def FOwn (B : Nat) (L : List UInt8) (n : Nat) (v : Value) (w : World) : Prop := ∃ A c, v = .slice A n c ∧ Own w B 5 1 (.slice A n c) n (bs L)
theorem fown_ok (i : Nat) (d : Tmp) (B : Nat) (L : List UInt8) (n : Nat) : (⟨i, d, FOwn B L n⟩ : Fact).ok := fun _ _ _ ⟨A, c, e, h⟩ hb => ⟨A, c, e, h.behind hb⟩
theorem made3i {ev : Operand → Value} {o : Oper} {x y z : Operand} (ho : o.op = .buildSlice 38 3 #[(0, x), (1, y), (2, z)]) (a b c : Int) (hx : ev x = .int .i64 a) (hy : ev y = .int .i64 b) (hz : ev z = .int .i64 c) {w : World} :
 ∃ v w', (execOp ev o).run Tryz.prog w = .ok (.value v) w' ∧ FRow 3 (is_ [a, b, c]) v w' ∧ Below w.heap.size w w' := by
 refine ⟨.slice (some ⟨w.heap.size, 0, none⟩) 3 3, w.alloc (.cells #[.int .i64 a, .int .i64 b, .int .i64 c] 3), ?_, ⟨_, _, rfl, Rd.block (heap_alloc_new w _) rfl⟩, (Below.refl _ _).alloc (Nat.le_refl _) _⟩
 unfold execOp
 simp only [ho]
 rw [show Array.map (fun x => (x.fst, ev x.snd)) #[(0, x), (1, y), (2, z)] = #[(0, .int .i64 a), (1, .int .i64 b), (2, .int .i64 c)] by simp [hx, hy, hz]]
 kernel_rfl
theorem made3b {ev : Operand → Value} {o : Oper} {x y z : Operand} (ho : o.op = .buildSlice 25 3 #[(0, x), (1, y), (2, z)]) (a b c : Int) (hx : ev x = .int .u8 a) (hy : ev y = .int .u8 b) (hz : ev z = .int .u8 c) {w : World} :
 ∃ v w', (execOp ev o).run Tryz.prog w = .ok (.value v) w' ∧ FRow 3 [.int .u8 a, .int .u8 b, .int .u8 c] v w' ∧ Below w.heap.size w w' := by
 refine ⟨.slice (some ⟨w.heap.size, 0, none⟩) 3 3, w.alloc (.cells #[.int .u8 a, .int .u8 b, .int .u8 c] 5), ?_, ⟨_, _, rfl, Rd.block (heap_alloc_new w _) rfl⟩, (Below.refl _ _).alloc (Nat.le_refl _) _⟩
 unfold execOp
 simp only [ho]
 rw [show Array.map (fun x => (x.fst, ev x.snd)) #[(0, x), (1, y), (2, z)] = #[(0, .int .u8 a), (1, .int .u8 b), (2, .int .u8 c)] by simp [hx, hy, hz]]
 kernel_rfl
theorem rdbs_new (w : World) (ls : List (List UInt8)) (vs : Array Value) (t : TypeId) (hv : ∀ k (h : k < ls.length), ∃ A c, vs[k]? = some (.slice A (ls[k]).length c) ∧ Rd w A (bs ls[k])) : RdBs (w.alloc (.cells vs t)) (some ⟨w.heap.size, 0, none⟩) ls := fun hp => by
 refine ⟨w.heap.size, 0, rfl, by simp, fun k hk => ?_⟩
 obtain ⟨A, c, h1, h2⟩ := hv k hk
 refine ⟨A, c, ?_, h2.alloc _⟩
 rw [Nat.zero_add, cell_of_row _ _ k _ _ _ (heap_alloc_new w _)]
 exact h1
theorem made4s {ev : Operand → Value} {o : Oper} {x y z t : Operand} (ho : o.op = .buildSlice 77 4 #[(0, x), (1, y), (2, z), (3, t)]) {L1 L2 L3 L4 : List UInt8} {w : World} (vx vy vz vt : Value) (hx : ev x = vx) (hy : ev y = vy) (hz : ev z = vz) (ht : ev t = vt) (h1 : FB L1 vx w) (h2 : FB L2 vy w) (h3 : FB L3 vz w) (h4 : FB L4 vt w) :
 ∃ v w', (execOp ev o).run Tryz.prog w = .ok (.value v) w' ∧ FBs 4 [L1, L2, L3, L4] v w' ∧ Below w.heap.size w w' := by
 obtain ⟨A1, c1, rfl, r1⟩ := h1
 obtain ⟨A2, c2, rfl, r2⟩ := h2
 obtain ⟨A3, c3, rfl, r3⟩ := h3
 obtain ⟨A4, c4, rfl, r4⟩ := h4
 refine ⟨.slice (some ⟨w.heap.size, 0, none⟩) 4 4, w.alloc (.cells #[.slice A1 L1.length c1, .slice A2 L2.length c2, .slice A3 L3.length c3, .slice A4 L4.length c4] 25), ?_, ⟨_, _, rfl, rdbs_new w _ _ _ fun k hk => ?_⟩, (Below.refl _ _).alloc (Nat.le_refl _) _⟩
 ·unfold execOp
  simp only [ho]
  rw [show Array.map (fun x => (x.fst, ev x.snd)) #[(0, x), (1, y), (2, z), (3, t)] = #[(0, .slice A1 L1.length c1), (1, .slice A2 L2.length c2), (2, .slice A3 L3.length c3), (3, .slice A4 L4.length c4)] by simp [hx, hy, hz, ht]]
  kernel_rfl
 ·match k, hk with
  | 0, _ => exact ⟨_, _, rfl, r1⟩
  | 1, _ => exact ⟨_, _, rfl, r2⟩
  | 2, _ => exact ⟨_, _, rfl, r3⟩
  | 3, _ => exact ⟨_, _, rfl, r4⟩
set_option maxRecDepth 100000 in
theorem app_ex {a : Act} {o : Oper} {s x : Operand} (ho : o.op = .call { callee := .builtin .append, args := #[s, x], argTypes := #[25, 25] }) {B n m : Nat} {L : List UInt8} {xs : List Value} {v0 vx : Value} {w : World} (hs : a.eval s = v0) (hx : a.eval x = vx) (h0 : FOwn B L n v0 w) (h1 : FRow m xs vx w) (hm : xs.length = m) (hc : ∀ u ∈ xs, u.oneCell' = true) (h63 : n + m ≤ 4294967296) (hB : B ≤ w.heap.size) {R : Value → World → Prop} (hR : ∀ v w', Own w' B 5 1 v (n + m) (bs L ++ xs) → Below B w w' → R v w') :
 ∃ v w', (execOp a.eval o).run Tryz.prog w = .ok (.value v) w' ∧ R v w' := by
 obtain ⟨i0, hi0, hz0, hz1, hz2⟩ : ∃ i, Tryz.prog.info? 5 = some i ∧ i.zero = some (.int .u8 0) ∧ i.size = 1 ∧ i.bytes = 1 := ⟨_, rfl, rfl, rfl, rfl⟩
 obtain ⟨A, c, e1, o1⟩ := h0
 obtain ⟨A2, c2, e2, r2⟩ := h1
 subst hm
 obtain ⟨v', w', r1, r2, r3⟩ := run_app_op (P := Tryz.prog) (a := a) (w := w) ho B 5 i0 (.int .u8 0) 1 Tryz.underlying25 hi0 hz0 hz1 hz2 rfl (hs.trans e1) o1 (hx.trans e2) rfl r2 hc (by simp only [maxLen]; omega) (by omega) hB
 exact ⟨v', w', r1, hR v' w' r2 ((Below.refl B w).grown r3 hB (fun k hk => (o1.lt k hk).1))⟩
end
end Go.Proofs.YtjlhhelikiegdaaGreatDoor
