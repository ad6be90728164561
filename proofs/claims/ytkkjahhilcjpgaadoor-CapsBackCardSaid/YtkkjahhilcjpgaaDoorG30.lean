/-
  Stage 20, the landed caps, walked: Read.
-/
import Derived.Test.YtkkjahhilcjpgaaDoorG03
import Derived.Test.YtkkjahhilcjpgaaDoorG27
import Derived.Test.YtkkjahhilcjpgaaDoorG29
namespace Go.Proofs.YtkkjahhilcjpgaaDoor
open Go.RowKit Go.Shelf
section
attribute [local go_sem] Oper.semAt_some
theorem below_grownN7 {w w' : World} (h : Below w.heap.size w w') : w.grownBy w' none := ⟨h.os, h.tape, h.output, h.size, fun k hk _ => h.block k hk⟩
def FSq (s : Sq) (v : Value) (w : World) : Prop := ∃ A c, v = sqV s A c ∧ RdP w A s.params
theorem fsq_ok (i : Nat) (d : Tmp) (s : Sq) : (⟨i, d, FSq s⟩ : Fact).ok := fun _ _ _ ⟨A, c, e, h⟩ hb => ⟨A, c, e, h.below hb⟩
theorem fsq_of {P : Program} {f : FuncId} {xs : Array Value} {s : Sq} {w : World} (h : Calls P f xs w (RepE s w)) : Calls P f xs w fun e w' => ∃ v, e = .returned v ∧ FSq s v w' ∧ Below w.heap.size w w' := by
 refine h.mono ?_
 rintro e w' ⟨A, c, rfl, hr, hb⟩
 exact ⟨_, rfl, ⟨A, c, rfl, hr⟩, hb⟩
def prs20 (l : List (List UInt8 × List UInt8)) : List Value := l.flatMap fun q => [.string ⟨q.1.toArray⟩, .string ⟨q.2.toArray⟩]
theorem prs_len (l : List (List UInt8 × List UInt8)) : (prs20 l).length = l.length * 2 := by
 induction l with
 | nil => rfl
 | cons x l ih => rw [prs20, List.flatMap_cons, List.length_append, ← prs20, ih, List.length_cons]; simp; omega
theorem prs_snoc (l : List (List UInt8 × List UInt8)) (x : List UInt8 × List UInt8) : prs20 (l ++ [x]) = prs20 l ++ [.string ⟨x.1.toArray⟩, .string ⟨x.2.toArray⟩] := by simp [prs20]
theorem readGo_snoc : ∀ {ps : List (List UInt8)} {qs : List (List UInt8 × List UInt8)} {p : List UInt8} {q : List UInt8 × List UInt8}, readGo ps = some qs → readP p = some q → readGo (ps ++ [p]) = some (qs ++ [q])
 | [], qs, p, q, h, hp => by
   obtain rfl : [] = qs := by simpa [readGo] using h
   simp [readGo, hp]
 | x :: ps, qs, p, q, h, hp => by
   simp only [readGo] at h
   cases hx : readP x with
   | none => rw [hx] at h; cases h
   | some y =>
     rw [hx] at h
     cases hr : readGo ps with
     | none => rw [hr] at h; cases h
     | some ys =>
       rw [hr] at h
       obtain rfl : y :: ys = qs := by simpa using h
       simp [readGo, hx, readGo_snoc hr hp]
theorem readGo_bad : ∀ {ps rs : List (List UInt8)} {p : List UInt8}, readP p = none → readGo (ps ++ p :: rs) = none
 | [], rs, p, hp => by simp [readGo, hp]
 | x :: ps, rs, p, hp => by
   simp only [List.cons_append, readGo, readGo_bad hp]
   cases readP x <;> rfl
theorem split_cnt : ∀ t : List UInt8, (splitC t).length ≤ t.length + 1
 | [] => by simp [splitC]
 | c :: l => by
   have ih := split_cnt l
   by_cases hc : c = 59
   ·simp [splitC, hc]
    omega
   ·cases hs : splitC l with
    | nil => simp [splitC, hc, hs]
    | cons q qs =>
      rw [hs] at ih
      simp [splitC, hc, hs]
      simp at ih
      omega
def RdRd (s : Sq) (w : World) (e : Ending) (w' : World) : Prop := Below w.heap.size w w' ∧ match readS s with
 | some l => ∃ B d, e = .returned (.tuple #[.slice B l.length d, .bool true]) ∧ Rd w' B (prs20 l)
 | none => e = .returned (.tuple #[.slice none 0 0, .bool false])
set_option maxRecDepth 100000 in
set_option maxHeartbeats 16000000 in
theorem pRead20_any (s : Sq) (A : Option Addr) (c : Nat) (w : World) (hp1 : s.params.length ≤ 4294967296) (hp2 : ∀ p ∈ s.params, p.length ≤ 4294967296) (hd : s.data.length ≤ 1000000) (hr : RdP w A s.params) : Calls Tryd.prog 17 #[sqV s A c] w (RdRd s w) := by
 obtain ⟨q, hq⟩ : ∃ q, sameB s ⟨3, 0, [[1]], [43], 114, s.data⟩ = q := ⟨_, rfl⟩
 have HRS : Hid (readS s = if q = true then readGo (splitC s.data) else none) := Lib.hid (by unfold readS; rw [hq])
 obtain ⟨k0, k1, k2, k3, k4, k5⟩ := s
 simp only at hp1 hp2 hd hr hq HRS
 have HSM : Hid (∀ (W : World), Below w.heap.size w W → ∀ {v : Value}, FSq ⟨3, 0, [[1]], [43], 114, k5⟩ v W → Calls Tryd.prog 35 #[.agg #[.int .i64 k0, .int .u8 (k1.toNat : Int), .slice A k2.length c, .string ⟨k3.toArray⟩, .int .u8 (k4.toNat : Int), .string ⟨k5.toArray⟩], v] W fun e w' => e = .returned (.bool q) ∧ Below W.heap.size W w') := Lib.hid fun W hW v ⟨B, d, hv, hrb⟩ => by
  subst hv
  exact psame_any ⟨k0, k1, k2, k3, k4, k5⟩ ⟨3, 0, [[1]], [43], 114, k5⟩ A B c d q W hq hp1 (by simp) hp2 (by simp) (hr.below hW) hrb
 have HRP : Hid (∀ W, Calls Tryd.prog 24 #[.int .i64 1, .string ⟨k5.toArray⟩] W fun e w' => ∃ v, e = .returned v ∧ FSq ⟨3, 0, [[1]], [43], 114, k5⟩ v w' ∧ Below W.heap.size W w') := Lib.hid fun W => fsq_of (preply20_any 1 k5 W)
 have HPO : Hid (∀ W (p : List UInt8), p.length ≤ 2000000000 → Calls Tryd.prog 37 #[.string ⟨p.toArray⟩] W fun e w' => e = .returned (.tuple #[.agg #[.string ⟨(readN p).toArray⟩, .string ⟨(readW p).toArray⟩], .bool (readP p).isSome]) ∧ Below W.heap.size W w') := Lib.hid fun W p h => ppair20_any p h W
 unfold RdRd
 obtain ⟨RS, hRS⟩ : ∃ r, readS ⟨k0, k1, k2, k3, k4, k5⟩ = r := ⟨_, rfl⟩
 rw [hRS] at HRS ⊢
 unfold sqV
 simp only
 clear hq hp1 hp2 hr hRS
 have kb := ((Blk.new w 28 #[.int .i64 k0, .int .u8 (k1.toNat : Int), .slice A k2.length c, .string ⟨k3.toArray⟩, .int .u8 (k4.toNat : Int), .string ⟨k5.toArray⟩]).alloc (.cells #[.slice none 0 0] 37)).alloc (.cells #[.bool false] 4)
 have z2 := (Blk.new (w.alloc (.cells #[.int .i64 k0, .int .u8 (k1.toNat : Int), .slice A k2.length c, .string ⟨k3.toArray⟩, .int .u8 (k4.toNat : Int), .string ⟨k5.toArray⟩] 28)) 37 #[.slice none 0 0]).alloc (.cells #[.bool false] 4)
 have z3 := Blk.new ((w.alloc (.cells #[.int .i64 k0, .int .u8 (k1.toNat : Int), .slice A k2.length c, .string ⟨k3.toArray⟩, .int .u8 (k4.toNat : Int), .string ⟨k5.toArray⟩] 28)).alloc (.cells #[.slice none 0 0] 37)) 4 #[.bool false]
 simp only [World.size_alloc] at z2 z3
 have hB := (((Below.refl w.heap.size w).alloc (Nat.le_refl _) (.cells #[.int .i64 k0, .int .u8 (k1.toNat : Int), .slice A k2.length c, .string ⟨k3.toArray⟩, .int .u8 (k4.toNat : Int), .string ⟨k5.toArray⟩] 28)).alloc (by simp) (.cells #[.slice none 0 0] 37)).alloc (by simp; omega) (.cells #[.bool false] 4)
 refine (callsIn_wide (n := 3)).1 ?_
 refine callsIn_of_wp_marks Tryd.func17 rfl trivial ?_ rfl
 simp only [Tryd.ntmps17, List.size_toArray, List.length_cons, List.length_nil, Nat.reduceAdd, Nat.reduceSub, Array.replicate_succ, Array.replicate_zero, List.push_toArray, List.append_toArray, List.nil_append, List.cons_append]
 gi_wp2_with fail
 obtain ⟨w1, hw1⟩ : ∃ x, ((w.alloc (.cells #[.int .i64 k0, .int .u8 (k1.toNat : Int), .slice A k2.length c, .string ⟨k3.toArray⟩, .int .u8 (k4.toNat : Int), .string ⟨k5.toArray⟩] 28)).alloc (.cells #[.slice none 0 0] 37)).alloc (.cells #[.bool false] 4) = x := ⟨_, rfl⟩
 rw [hw1] at kb z2 z3 hB ⊢
 clear hw1
 refine wpIn_wide.2 ?_
 have hst : ∀ f ∈ ([⟨3, 11, FSq ⟨3, 0, [[1]], [43], 114, k5⟩⟩] : List Fact), f.ok := List.forall_mem_cons.2 ⟨fsq_ok _ _ _, fun _ h => by cases h⟩
 refine wp_region_told (w1 := w1) (K := [⟨3, 11, FSq ⟨3, 0, [[1]], [43], 114, k5⟩⟩]) (ix := 1000) (R0 := fun _ _ _ => True) (R1 := fun _ _ _ => True) [11] (⟨#[.agg #[.int .i64 k0, .int .u8 (k1.toNat : Int), .slice A k2.length c, .string ⟨k3.toArray⟩, .int .u8 (k4.toNat : Int), .string ⟨k5.toArray⟩], .pointer (some ⟨w.heap.size, 0, none⟩), .pointer (some ⟨(w.heap.size + 1), 0, none⟩), .pointer (some ⟨(w.heap.size + 1 + 1), 0, none⟩), undef, undef, undef, undef, .agg #[.int .i64 k0, .int .u8 (k1.toNat : Int), .slice A k2.length c, .string ⟨k3.toArray⟩, .int .u8 (k4.toNat : Int), .string ⟨k5.toArray⟩], .pointer (some ⟨w.heap.size, 5, none⟩), .string ⟨k5.toArray⟩, undef, .bool q, .bool !(q), undef, undef, undef, undef, undef, undef, undef, undef, undef, undef, undef, undef, undef, undef, undef, undef], []⟩) (fun g => ⟨#[.agg #[.int .i64 k0, .int .u8 (k1.toNat : Int), .slice A k2.length c, .string ⟨k3.toArray⟩, .int .u8 (k4.toNat : Int), .string ⟨k5.toArray⟩], .pointer (some ⟨w.heap.size, 0, none⟩), .pointer (some ⟨(w.heap.size + 1), 0, none⟩), .pointer (some ⟨(w.heap.size + 1 + 1), 0, none⟩), undef, undef, undef, undef, .agg #[.int .i64 k0, .int .u8 (k1.toNat : Int), .slice A k2.length c, .string ⟨k3.toArray⟩, .int .u8 (k4.toNat : Int), .string ⟨k5.toArray⟩], .pointer (some ⟨w.heap.size, 5, none⟩), .string ⟨k5.toArray⟩, (g 11), .bool q, .bool !(q), undef, undef, undef, undef, undef, undef, undef, undef, undef, undef, undef, undef, undef, undef, undef, undef], []⟩) [.agg #[.int .i64 k0, .int .u8 (k1.toNat : Int), .slice A k2.length c, .string ⟨k3.toArray⟩, .int .u8 (k4.toNat : Int), .string ⟨k5.toArray⟩], .pointer (some ⟨w.heap.size, 5, none⟩), .string ⟨k5.toArray⟩, undef, .bool q, .bool !(q)] (by kernel_rfl) (by kernel_rfl) (by kernel_rfl) (fun g => by kernel_rfl) (by kernel_rfl) (Below.refl _ _).drew (by decide) (by kernel_rfl)
  (goes_cons (gkL hst (fun W hW => kb.below hW kb.lt) Tryd.underlying28)
  (goes_cons (gkP (fun _ => .pointer (some ⟨w.heap.size, 5, none⟩)))
  (goes_cons (gkC hst (fun W hW => (kb.below hW kb.lt).cell 5))
  (goes_cons (gkG (fun g => #[.int .i64 1, .string ⟨k5.toArray⟩]) hst 0 (fun g W hW hin => HRP.out W))
  (goes_cons (gkK (fun g => #[.agg #[.int .i64 k0, .int .u8 (k1.toNat : Int), .slice A k2.length c, .string ⟨k3.toArray⟩, .int .u8 (k4.toNat : Int), .string ⟨k5.toArray⟩], (g 11)]) hst (fun g W hW hin => HSM.out W (hB.trans (hW.mono hB.size)) (hin 0 _ rfl (by kernel_rfl))))
  (goes_cons (gkP (fun _ => .bool !(q))) goes_nil)))))) ?_
 intro g w3 hW _
 replace kb := kb.below hW kb.lt
 replace z2 := z2.below hW z2.lt
 replace z3 := z3.below hW z3.lt
 replace hB := hB.trans (hW.mono hB.size)
 clear hW hst HSM HRP
 cases q with
 | false =>
   have x2 := z2.cell 0
   have x3 := z3.cell 0
   have y2 := z2.frozen 0
   have y3 := z3.frozen 0
   have E : RS = none := by simpa using HRS.out
   subst E
   have hB2 : Below w.heap.size w ((w3.setCell ⟨w.heap.size + 1, 0, none⟩ (.slice none 0 0)).setCell ⟨w.heap.size + 1 + 1, 0, none⟩ (.bool false)) := (hB.setCell (p := ⟨w.heap.size + 1, 0, none⟩) (Nat.le_succ _) _).setCell (p := ⟨w.heap.size + 1 + 1, 0, none⟩) (show w.heap.size ≤ w.heap.size + 1 + 1 by omega) _
   gi_wp2_with fail
   refine ⟨.tuple #[.slice none 0 0, .bool false], ?_, hB2, rfl⟩
   simp [results, Tryd.f17, go_sem, x2, x3]
 | true =>
   have HR := Lib.hid (show RS = readGo (splitC k5) from HRS.out)
   clear HRS
   have hg0 := z3.lt
   have cd := (kb.alloc (.cells #[.slice none 0 0] 37)).cell 5
   gi_wp2_with fail
   have b4 := Blk.new w3 37 #[.slice none 0 0]
   replace z2 := z2.alloc (.cells #[.slice none 0 0] 37)
   replace z3 := z3.alloc (.cells #[.slice none 0 0] 37)
   have hB4 := hB.alloc hB.size (.cells #[.slice none 0 0] 37)
   obtain ⟨w4, hw4⟩ : ∃ x, w3.alloc (.cells #[.slice none 0 0] 37) = x := ⟨_, rfl⟩
   rw [hw4] at b4 z2 z3 hB4 ⊢
   clear hw4 kb cd hB
   obtain ⟨g4, hg4⟩ : ∃ x, w3.heap.size = x := ⟨_, rfl⟩
   rw [hg4] at b4 hg0 ⊢
   clear hg4
   refine ⟨trivial, ?_⟩
   gi_at_call 36
   refine (callsIn_wide.2 (psplit_any k5 _)).mono ?_
   rintro e w5 ⟨rfl, hs5, hp5, hz5, hsz5, hb5⟩
   have l4 := b4.lt
   have l2 := z2.lt
   have l3 := z3.lt
   replace b4 := b4.below hb5 b4.lt
   replace z2 := z2.below hb5 z2.lt
   replace z3 := z3.below hb5 z3.lt
   replace hB4 := hB4.trans (hb5.mono hB4.size)
   clear hb5
   gi_wp2_with fail
   obtain ⟨i0, hi0, hy0, hy1, hy2⟩ : ∃ i, Tryd.prog.info? 41 = some i ∧ i.zero = some (.agg #[.string ⟨#[]⟩, .string ⟨#[]⟩]) ∧ i.size = 2 ∧ i.bytes = 32 := ⟨_, rfl, rfl, rfl, rfl⟩
   have hab : ∀ {β : Type} (g0 : Nat) (t0 : TypeId) (f0 : Value), g0 < w4.heap.size → AbX (fun r => r = w4.heap.size ∨ r = w5.heap.size + 1) (fun (_ : β) W => Blk W g0 t0 #[f0]) := fun g0 t0 f0 hlt s A B row hs hg hr => hs.grown hg (fun e => by rcases hr _ e with h | h <;> omega)
   have hbe : AbX (fun r => r = w4.heap.size ∨ r = w5.heap.size + 1) (fun (_ : List (SpT k5)) W => Below w.heap.size w W) := fun s A B row hs hg hr => hs.grown hg hs.size (fun k e => by rcases hr _ e with h | h <;> omega)
   refine wpIn_rangeX rfl (by omega) (gf := 53) (lb := #[.pointer (some ⟨w4.heap.size + 1, 0, none⟩), .pointer (some ⟨w4.heap.size, 0, none⟩), .pointer (some ⟨w4.heap.size + 2, 0, none⟩)]) rfl trivial (enters_of Tryd.func53 (by kernel_rfl) rfl)
    (sps_seq 2 (by omega) w4.heap.size k5 (by omega) w5 hs5 hp5 hz5) kpb_t (fun W o => kpb_put W (by omega) o) (Below.refl _ _) (fun _ => rfl)
    (fun r => r = w4.heap.size) (fun r h => by omega) (fun W r _ h => h)
    (fun (pre : List (SpT k5)) W => (∃ v qs, readGo (pre.map SpT.v) = some qs ∧ Blk W g4 37 #[v] ∧ W.ownsRow (w5.heap.size + 2) 41 2 v qs.length (prs20 qs) ∧ qs.length = pre.length) ∧ (Blk W (w.heap.size + 1) 37 #[.slice none 0 0] ∧ Blk W (w.heap.size + 1 + 1) 4 #[.bool false]) ∧ Below w.heap.size w W)
    (fun j (pre : List (SpT k5)) W => (j = .ret ∧ ∃ ps p, pre.map SpT.v = ps ++ [p] ∧ readP p = none) ∧ (Blk W (w.heap.size + 1) 37 #[.slice none 0 0] ∧ Blk W (w.heap.size + 1 + 1) 4 #[.bool false]) ∧ Below w.heap.size w W)
    ?hI ?hIx ?h0 (fun x a' _ => a' = ⟨#[.agg #[.int .i64 k0, .int .u8 (k1.toNat : Int), .slice A k2.length c, .string ⟨k3.toArray⟩, .int .u8 (k4.toNat : Int), .string ⟨k5.toArray⟩], .pointer (some ⟨w.heap.size, 0, none⟩), .pointer (some ⟨w.heap.size + 1, 0, none⟩), .pointer (some ⟨w.heap.size + 1 + 1, 0, none⟩), .pointer (some ⟨g4, 0, none⟩), .string ⟨x.v.toArray⟩, undef, undef, .agg #[.int .i64 k0, .int .u8 (k1.toNat : Int), .slice A k2.length c, .string ⟨k3.toArray⟩, .int .u8 (k4.toNat : Int), .string ⟨k5.toArray⟩], .pointer (some ⟨w.heap.size, 5, none⟩), .string ⟨k5.toArray⟩, g 11, .bool true, .bool false, .pointer (some ⟨w.heap.size, 5, none⟩), .string ⟨k5.toArray⟩, .func (.func 53) #[] #[.pointer (some ⟨w4.heap.size + 1, 0, none⟩), .pointer (some ⟨w4.heap.size, 0, none⟩), .pointer (some ⟨w4.heap.size + 2, 0, none⟩)], .string ⟨x.v.toArray⟩, undef, undef, undef, undef, undef, undef, undef, undef, undef, undef, undef, undef], []⟩) (fun x a' s A B row hs _ _ => hs) ?assign ?body ?done ?stop
   case hI =>
    rintro pre A B row ⟨⟨v, qs, h1, h2, h3, h4⟩, ⟨h5, h6⟩, h7⟩ hg hr
    refine ⟨⟨v, qs, h1, hab (β := Unit) g4 _ _ l4 () A B row h2 hg hr, h3.kept hg ?_, h4⟩, ⟨hab (β := Unit) _ _ _ l2 () A B row h5 hg hr, hab (β := Unit) _ _ _ l3 () A B row h6 hg hr⟩, hbe pre A B row h7 hg hr⟩
    by_cases hv : v.ownBlock = none
    ·exact .inl hv
    ·refine .inr fun e => ?_
     cases ho : v.ownBlock with
     | none => exact hv ho
     | some k =>
       have h8 := ((Own.of h3).lt k ho).1
       rcases hr k (by rw [← e, ho]) with h | h <;> omega
   case hIx =>
    rintro j pre A B row ⟨h1, ⟨h5, h6⟩, h7⟩ hg hr
    exact ⟨h1, ⟨h5.grown hg (fun e => by obtain ⟨_, o, ho, hc⟩ := hr _ e; rw [show A.heap[_]? = _ from h5] at ho; cases ho; cases hc), h6.grown hg (fun e => by obtain ⟨_, o, ho, hc⟩ := hr _ e; rw [show A.heap[_]? = _ from h6] at ho; cases ho; cases hc)⟩, h7.grown hg h7.size (fun k e => by have := (hr k e).1; omega)⟩
   case h0 => exact ⟨⟨_, [], rfl, b4, World.ownsRow_nil _ _ _ _, rfl⟩, ⟨z2, z3⟩, hB4⟩
   case assign =>
    intro l pre x W K _ hi hK
    simp only [spE]
    gi_wp2
    exact hK _ _ (Kr.refl _ _) (fun _ _ _ => rfl) hi rfl
   case body =>
    rintro l pre x a' W hlt ⟨⟨v, qs, hqs, h4, hrow, hql⟩, ⟨h2, h3⟩, hBW⟩ rfl hlen
    have hxl := split_len x.h
    gi_wp2_with fail
    refine ⟨trivial, ?_⟩
    gi_at_call 37
    refine (CallsIn.inRound l (callsIn_wide.2 (HPO.out _ x.v (by omega)))).mono ?_
    rintro e w7 ⟨rfl, hb7⟩
    have r2 := h2.below hb7 h2.lt
    have r3 := h3.below hb7 h3.lt
    have r4 := h4.below hb7 h4.lt
    have hB7 := hBW.trans (hb7.mono hBW.size)
    have hrow7 := hrow.kept (below_grownN7 hb7) (by by_cases h : v.ownBlock = none; exact .inl h; exact .inr h)
    have hKr := Kr.below hb7 hlt
    have hKp : KpB w4.heap.size 3 W w7 := fun k _ hk => hb7.block k (by omega)
    have hsz7 := hb7.size
    clear hb7 h2 h3 h4 hBW hrow
    cases hrp : readP x.v with
    | none =>
      have E1 : (readP x.v).isSome = false := by rw [hrp]; rfl
      have x2 := (r2.alloc (.cells #[.string ⟨(readN x.v).toArray⟩, .string ⟨(readW x.v).toArray⟩] 41)).cell 0
      have x3 := (r3.alloc (.cells #[.string ⟨(readN x.v).toArray⟩, .string ⟨(readW x.v).toArray⟩] 41)).cell 0
      have y2 := (r2.alloc (.cells #[.string ⟨(readN x.v).toArray⟩, .string ⟨(readW x.v).toArray⟩] 41)).frozen 0
      have y3 := (r3.alloc (.cells #[.string ⟨(readN x.v).toArray⟩, .string ⟨(readW x.v).toArray⟩] 41)).frozen 0
      simp only [Option.isSome_none]
      have hKa : Kr w5.heap.size w7 (w7.alloc (.cells #[.string ⟨(readN x.v).toArray⟩, .string ⟨(readW x.v).toArray⟩] 41)) := Kr.below ((Below.refl _ _).alloc (Nat.le_refl _) _) (by omega)
      have hK1 := Kr.set (B := w5.heap.size) (w7.alloc (.cells #[.string ⟨(readN x.v).toArray⟩, .string ⟨(readW x.v).toArray⟩] 41)) (p := ⟨w.heap.size + 1, 0, none⟩) (show w.heap.size + 1 < w5.heap.size by omega) (.slice none 0 0)
      have hK2 := Kr.set (B := w5.heap.size) ((w7.alloc (.cells #[.string ⟨(readN x.v).toArray⟩, .string ⟨(readW x.v).toArray⟩] 41)).setCell ⟨w.heap.size + 1, 0, none⟩ (.slice none 0 0)) (p := ⟨w.heap.size + 1 + 1, 0, none⟩) (show w.heap.size + 1 + 1 < w5.heap.size by omega) (.bool false)
      have hB8 := (hB7.alloc hB7.size (.cells #[.string ⟨(readN x.v).toArray⟩, .string ⟨(readW x.v).toArray⟩] 41)).setCell (p := ⟨w.heap.size + 1, 0, none⟩) (Nat.le_succ _) (.slice none 0 0)
      have hB9 := hB8.setCell (p := ⟨w.heap.size + 1 + 1, 0, none⟩) (show w.heap.size ≤ w.heap.size + 1 + 1 by omega) (.bool false)
      have q2 := ((r2.alloc (.cells #[.string ⟨(readN x.v).toArray⟩, .string ⟨(readW x.v).toArray⟩] 41)).set 0 (.slice none 0 0)).far (a := ⟨w.heap.size + 1 + 1, 0, none⟩) (show w.heap.size + 1 ≠ w.heap.size + 1 + 1 by omega) (.bool false)
      have q3 := ((r3.alloc (.cells #[.string ⟨(readN x.v).toArray⟩, .string ⟨(readW x.v).toArray⟩] 41)).far (a := ⟨w.heap.size + 1, 0, none⟩) (show w.heap.size + 1 + 1 ≠ w.heap.size + 1 by omega) (.slice none 0 0)).set 0 (.bool false)
      have hKz : KpB w4.heap.size 3 w7 (((w7.alloc (.cells #[.string ⟨(readN x.v).toArray⟩, .string ⟨(readW x.v).toArray⟩] 41)).setCell ⟨w.heap.size + 1, 0, none⟩ (.slice none 0 0)).setCell ⟨w.heap.size + 1 + 1, 0, none⟩ (.bool false)) := fun k h1 h2 => (heap_setCell_other _ ⟨w.heap.size + 1 + 1, 0, none⟩ k _ (show k ≠ w.heap.size + 1 + 1 by omega)).trans ((heap_setCell_other _ ⟨w.heap.size + 1, 0, none⟩ k _ (show k ≠ w.heap.size + 1 by omega)).trans (((Below.refl w7.heap.size w7).alloc (Nat.le_refl _) (.cells #[.string ⟨(readN x.v).toArray⟩, .string ⟨(readW x.v).toArray⟩] 41)).block k (by omega)))
      clear hrow7 r4
      gi_wp2_with fail
      exact ⟨((hKr.trans hKa).trans hK1).trans hK2, kpb_t hKp hKz, ⟨rfl, pre.map SpT.v, x.v, by simp, hrp⟩, ⟨q2, q3⟩, hB9⟩
    | some pr =>
      obtain ⟨pn, pv⟩ := pr
      have E1 : readN x.v = pn ∧ readW x.v = pv := by unfold readN readW; rw [hrp]; exact ⟨rfl, rfl⟩
      simp only [Option.isSome_some, E1.1, E1.2]
      have r8 := (r4.alloc (.cells #[.string ⟨pn.toArray⟩, .string ⟨pv.toArray⟩] 41)).alloc (.cells #[.string ⟨pn.toArray⟩, .string ⟨pv.toArray⟩] 41)
      have c8 := (r4.alloc (.cells #[.string ⟨pn.toArray⟩, .string ⟨pv.toArray⟩] 41)).cell 0
      have k8 := (Blk.new w7 41 #[.string ⟨pn.toArray⟩, .string ⟨pv.toArray⟩])
      have d0 := k8.cell 0
      have d1 := k8.cell 1
      have k9 := Blk.new (w7.alloc (.cells #[.string ⟨pn.toArray⟩, .string ⟨pv.toArray⟩] 41)) 41 #[.string ⟨pn.toArray⟩, .string ⟨pv.toArray⟩]
      rw [World.size_alloc] at k9
      have hcl : ∀ j u, [Value.string ⟨pn.toArray⟩, Value.string ⟨pv.toArray⟩][j]? = some u → ((w7.alloc (.cells #[.string ⟨pn.toArray⟩, .string ⟨pv.toArray⟩] 41)).alloc (.cells #[.string ⟨pn.toArray⟩, .string ⟨pv.toArray⟩] 41)).cell? ((⟨w7.heap.size + 1, 0, none⟩ : Addr).add j) = some u := fun j u hu => by
       match j, hu with
       | 0, hu => exact (k9.cell 0).trans (by simpa using hu)
       | 1, hu => exact (k9.cell 1).trans (by simpa using hu)
      have hrow9 := (hrow7.kept (World.grownBy_alloc w7 (.cells #[.string ⟨pn.toArray⟩, .string ⟨pv.toArray⟩] 41) none) (by by_cases h : v.ownBlock = none; exact .inl h; exact .inr h)).kept (World.grownBy_alloc (w7.alloc (.cells #[.string ⟨pn.toArray⟩, .string ⟨pv.toArray⟩] 41)) (.cells #[.string ⟨pn.toArray⟩, .string ⟨pv.toArray⟩] 41) none) (by by_cases h : v.ownBlock = none; exact .inl h; exact .inr h)
      have hln : pre.length ≤ k5.length := by
       have := split_cnt k5
       omega
      have h63 : qs.length + 1 ≤ maxLen := by simp only [maxLen]; omega
      have hlim : (qs.length + 1) * 32 ≤ 140737488355328 := by omega
      have hbs : w5.heap.size + 2 ≤ ((w7.alloc (.cells #[.string ⟨pn.toArray⟩, .string ⟨pv.toArray⟩] 41)).alloc (.cells #[.string ⟨pn.toArray⟩, .string ⟨pv.toArray⟩] 41)).heap.size := by simp; omega
      have hge : ∀ k, v.ownBlock = some k → w5.heap.size + 2 ≤ k := fun k hk => ((Own.of hrow9).lt k hk).1
      have hne4 : v.ownBlock ≠ some g4 := fun e => by have := hge g4 e; omega
      have hne2 : v.ownBlock ≠ some (w.heap.size + 1) := fun e => by have := hge _ e; omega
      have hne3 : v.ownBlock ≠ some (w.heap.size + 1 + 1) := fun e => by have := hge _ e; omega
      have hB9 := (hB7.alloc hB7.size (.cells #[.string ⟨pn.toArray⟩, .string ⟨pv.toArray⟩] 41)).alloc (by have := hB7.size; simp; omega) (.cells #[.string ⟨pn.toArray⟩, .string ⟨pv.toArray⟩] 41)
      have r28 := (r2.alloc (.cells #[.string ⟨pn.toArray⟩, .string ⟨pv.toArray⟩] 41)).alloc (.cells #[.string ⟨pn.toArray⟩, .string ⟨pv.toArray⟩] 41)
      have r38 := (r3.alloc (.cells #[.string ⟨pn.toArray⟩, .string ⟨pv.toArray⟩] 41)).alloc (.cells #[.string ⟨pn.toArray⟩, .string ⟨pv.toArray⟩] 41)
      have hKa : Kr w5.heap.size w7 ((w7.alloc (.cells #[.string ⟨pn.toArray⟩, .string ⟨pv.toArray⟩] 41)).alloc (.cells #[.string ⟨pn.toArray⟩, .string ⟨pv.toArray⟩] 41)) := Kr.below (((Below.refl _ _).alloc (Nat.le_refl _) _).alloc (by simp) _) (by omega)
      have hKk : KpB w4.heap.size 3 w7 ((w7.alloc (.cells #[.string ⟨pn.toArray⟩, .string ⟨pv.toArray⟩] 41)).alloc (.cells #[.string ⟨pn.toArray⟩, .string ⟨pv.toArray⟩] 41)) := fun k _ hk => (((Below.refl w7.heap.size w7).alloc (Nat.le_refl _) (.cells #[.string ⟨pn.toArray⟩, .string ⟨pv.toArray⟩] 41)).alloc (by simp) (.cells #[.string ⟨pn.toArray⟩, .string ⟨pv.toArray⟩] 41)).block k (by omega)
      obtain ⟨w8, hw8⟩ : ∃ x, (w7.alloc (.cells #[.string ⟨pn.toArray⟩, .string ⟨pv.toArray⟩] 41)).alloc (.cells #[.string ⟨pn.toArray⟩, .string ⟨pv.toArray⟩] 41) = x := ⟨_, rfl⟩
      have s8 : w7.heap.size + 2 = w8.heap.size := by rw [← hw8]; simp
      rw [hw8] at hcl hrow9 hbs hB9 r28 r38 hKa hKk r8
      have HW8 := Lib.hid hw8
      have HQL := Lib.hid hql
      clear hrow7 r2 r3 r4 k9 hw8 hql
      gi_wp2_with (gi_at_builtin; rw [HW8.out]; refine wpListIn_append_own _ rfl _ _ 37 rfl (w5.heap.size + 2) 41 i0 _ 2 32 Tryd.underlying37 hi0 hy0 hy1 hy2 rfl (by decide) _ _ _ rfl hrow9 ⟨w7.heap.size + 1, 0, none⟩ 1 1 [.string ⟨pn.toArray⟩, .string ⟨pv.toArray⟩] rfl rfl hcl (by simp [Value.oneCell']) h63 hlim hbs ?_; intro v' w9 own' hgrow _; obtain ⟨A', cap', rfl, _⟩ := (Own.of own').form; have r9 := r8.grown hgrow hne4; have c9 := r9.cell 0; have f9 := r9.frozen 0)
      have hKg : Kr w5.heap.size w8 w9 := ⟨hgrow.block _ (by omega) (fun e => by have := hge _ e.symm; omega), hgrow.block _ (by omega) (fun e => by have := hge _ e.symm; omega)⟩
      have hKh : KpB w4.heap.size 3 w8 w9 := fun k h1 h2 => hgrow.block k (by omega) (fun e => by have := hge _ e.symm; omega)
      have hKs := Kr.set (B := w5.heap.size) w9 (p := ⟨g4, 0, none⟩) (show g4 < w5.heap.size by omega) (.slice A' (qs.length + 1) cap')
      have hKt : KpB w4.heap.size 3 w9 (w9.setCell ⟨g4, 0, none⟩ (.slice A' (qs.length + 1) cap')) := fun k h1 _ => heap_setCell_other w9 ⟨g4, 0, none⟩ k _ (show k ≠ g4 by omega)
      have hBz := (hB9.grown hgrow hB9.size (fun k e => by have := hge k e; omega)).setCell (p := ⟨g4, 0, none⟩) (show w.heap.size ≤ g4 by omega) (.slice A' (qs.length + 1) cap')
      have ownz := own'.kept (grown_setCell g4 0 (.slice A' (qs.length + 1) cap') w9) (by
       by_cases h : (Value.slice A' (qs.length + 1) cap').ownBlock = none
       ·exact .inl h
       ·exact .inr fun e => by have := ((Own.of own').lt g4 e).1; omega)
      refine ⟨((hKr.trans hKa).trans hKg).trans hKs, kpb_t hKp (kpb_t hKk (kpb_t hKh hKt)), ⟨_, qs ++ [(pn, pv)], ?_, r9.set 0 _, ?_, by simp [HQL.out]⟩, ⟨(r28.grown hgrow hne2).far (a := ⟨g4, 0, none⟩) (show w.heap.size + 1 ≠ g4 by omega) _, (r38.grown hgrow hne3).far (a := ⟨g4, 0, none⟩) (show w.heap.size + 1 + 1 ≠ g4 by omega) _⟩, hBz⟩
      ·rw [List.map_append]
       exact readGo_snoc hqs hrp
      ·rw [prs_snoc, List.length_append]
       exact ownz
   case done =>
    rintro ys W hys ⟨⟨v, qs, hqs, h4, hrow, hql⟩, ⟨h2, h3⟩, hBW⟩ hK
    clear hql
    rw [hys] at hqs
    have E : RS = some qs := by rw [HR.out, hqs]
    subst E
    obtain ⟨A2, c2, rfl, _⟩ := (Own.of hrow).form
    have x4 := h4.cell 0
    have x2 := h2.cell 0
    have x3 := h3.cell 0
    have y2 := h2.frozen 0
    have y3 := h3.frozen 0
    have hwn : ∀ k, k < w5.heap.size → (Value.slice A2 qs.length c2).ownBlock = none ∨ (Value.slice A2 qs.length c2).ownBlock ≠ some k := fun k hk => by
     by_cases h : (Value.slice A2 qs.length c2).ownBlock = none
     ·exact .inl h
     ·exact .inr fun e => by have := ((Own.of hrow).lt k e).1; omega
    have q2 := (h2.set 0 (.slice A2 qs.length c2)).far (a := ⟨w.heap.size + 1 + 1, 0, none⟩) (show w.heap.size + 1 ≠ w.heap.size + 1 + 1 by omega) (.bool true)
    have q3 := (h3.far (a := ⟨w.heap.size + 1, 0, none⟩) (show w.heap.size + 1 + 1 ≠ w.heap.size + 1 by omega) (.slice A2 qs.length c2)).set 0 (.bool true)
    have hrow2 := (hrow.kept (grown_setCell (w.heap.size + 1) 0 (.slice A2 qs.length c2) W) (hwn _ (by omega))).kept (grown_setCell (w.heap.size + 1 + 1) 0 (.bool true) _) (hwn _ (by omega))
    have hB2 := (hBW.setCell (p := ⟨w.heap.size + 1, 0, none⟩) (Nat.le_succ _) (.slice A2 qs.length c2)).setCell (p := ⟨w.heap.size + 1 + 1, 0, none⟩) (show w.heap.size ≤ w.heap.size + 1 + 1 by omega) (.bool true)
    have hK2 := (heap_setCell_other (W.setCell ⟨w.heap.size + 1, 0, none⟩ (.slice A2 qs.length c2)) ⟨w.heap.size + 1 + 1, 0, none⟩ w5.heap.size (.bool true) (show w5.heap.size ≠ w.heap.size + 1 + 1 by omega)).trans ((heap_setCell_other W ⟨w.heap.size + 1, 0, none⟩ w5.heap.size (.slice A2 qs.length c2) (show w5.heap.size ≠ w.heap.size + 1 by omega)).trans hK)
    have HLE := Lib.hid (show w.heap.size ≤ w5.heap.size ∧ w.heap.size + 1 ≠ w5.heap.size ∧ w.heap.size + 1 + 1 ≠ w5.heap.size by omega)
    clear hsz5 hK hwn hrow h2 h3 h4 hBW
    gi_wp2
    obtain ⟨Wz, hWz⟩ : ∃ x, (W.setCell ⟨w.heap.size + 1, 0, none⟩ (.slice A2 qs.length c2)).setCell ⟨w.heap.size + 1 + 1, 0, none⟩ (.bool true) = x := ⟨_, rfl⟩
    rw [hWz] at q2 q3 hrow2 hB2 hK2 ⊢
    refine ⟨by simp, .inl ⟨_, _, rfl, run_takeDeferred hK2, ?_⟩⟩
    have hrow3 := ownsRow_putObj hrow2 (.deferred none) hK2 rfl
    have p2 : Blk (Wz.putObj w5.heap.size (.deferred none)) (w.heap.size + 1) 37 #[.slice A2 qs.length c2] := (World.putObj_heap_other HLE.out.2.1).trans q2
    have p3 : Blk (Wz.putObj w5.heap.size (.deferred none)) (w.heap.size + 1 + 1) 4 #[.bool true] := (World.putObj_heap_other HLE.out.2.2).trans q3
    have u2 := p2.cell 0
    have u3 := p3.cell 0
    refine ⟨.tuple #[.slice A2 qs.length c2, .bool true], ?_, hB2.trans (belowK_b (w := w) (Nat.le_refl _) Wz w5.heap.size _ _ HLE.out.1 hK2 rfl rfl), A2, ⟨c2, rfl⟩, (Own.of hrow3).rd⟩
    simp [results, Tryd.f17, go_sem, u2, u3]
   case stop =>
    rintro j pre W hpre ⟨⟨rfl, ps, p, hps, hp⟩, ⟨h2, h3⟩, hBW⟩ hK
    obtain ⟨rs, hrs⟩ := hpre
    have E : RS = none := by
     rw [HR.out, ← hrs, hps, List.append_assoc]
     exact readGo_bad hp
    subst E
    have HLE := Lib.hid (show w.heap.size ≤ w5.heap.size ∧ w.heap.size + 1 ≠ w5.heap.size ∧ w.heap.size + 1 + 1 ≠ w5.heap.size by omega)
    clear hsz5
    gi_wp2
    refine ⟨by simp, .inl ⟨_, _, rfl, run_takeDeferred hK, ?_⟩⟩
    have p2 : Blk (W.putObj w5.heap.size (.deferred none)) (w.heap.size + 1) 37 #[.slice none 0 0] := (World.putObj_heap_other HLE.out.2.1).trans h2
    have p3 : Blk (W.putObj w5.heap.size (.deferred none)) (w.heap.size + 1 + 1) 4 #[.bool false] := (World.putObj_heap_other HLE.out.2.2).trans h3
    have u2 := p2.cell 0
    have u3 := p3.cell 0
    refine ⟨.tuple #[.slice none 0 0, .bool false], ?_, hBW.trans (belowK_b (w := w) (Nat.le_refl _) W w5.heap.size _ _ HLE.out.1 hK rfl rfl), rfl⟩
    simp [results, Tryd.f17, go_sem, u2, u3]
end
end Go.Proofs.YtkkjahhilcjpgaaDoor
