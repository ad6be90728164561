/-
  A block that is written whole, and read whole. Lists of numbers, read in memory; the document's comparison of two of them. (For layers that don't load layer 2's own texts.) Layer 2: what takes and puts answer. (No function of any dump.) Cut out of WirP: what names no function of any dump. Cut out of WirQ: what names no function of any dump. Cut out of WirY: what names no function of any dump. Layer 3's mathematics: a sequence's body, a parameter at a time; its length. Cut out of WirF: what names no function of any dump.
-/
import Derived.Test.YtjlhhelikiegdaaGreatDoorG01
import Derived.Test.YtjlhhelikiegdaaGreatDoorG02
import Derived.Test.YtjlhhelikiegdaaGreatDoorG04
import Derived.Test.YtjlhhelikiegdaaGreatDoorG05
import Derived.Deep.MidRow
import Derived.BigQuiet
import Derived.Deep.QuietTactic
namespace Go.Proofs.YtjlhhelikiegdaaGreatDoor
open Go.RowKit
section
section
variable {w w' : World} {g : Nat} {t : TypeId} {cs ds : Array Value}
theorem Blk.there (h : Blk w g t cs) : w.there g 0 cs.size := fun j hj => by
 rw [Nat.zero_add]
 exact ⟨by rw [h.cell j]; simp [hj], h.frozen j⟩
theorem Blk.range (h : Blk w g t cs) : w.rangeAt g 0 cs.toList := fun j v hv => by
 rw [Nat.zero_add, h.cell j]
 simpa using hv
theorem setCells_blk {g : Nat} {t : TypeId} : ∀ (vs pre old : List Value) (w : World), old.length = vs.length → Blk w g t (pre ++ old).toArray → Blk (w.setCells g pre.length vs) g t (pre ++ vs).toArray
 | [], pre, old, w, hl, h => by
   rw [List.length_eq_zero_iff.1 hl] at h
   exact h
 | v :: vs, pre, u :: old, w, hl, h => by
   have h1 : Blk (w.setCell ⟨g, pre.length, none⟩ v) g t ((pre ++ [v]) ++ old).toArray := by
    have h2 := h.set pre.length v
    have e : (pre ++ u :: old).toArray.setIfInBounds pre.length v = ((pre ++ [v]) ++ old).toArray := by
     rw [List.setIfInBounds_toArray, List.set_append_right _ _ (Nat.le_refl _), Nat.sub_self, List.set_cons_zero, List.append_assoc]
     rfl
    rwa [e] at h2
   have h3 := setCells_blk vs (pre ++ [v]) old _ (by simpa using hl) h1
   rw [List.length_append, List.append_assoc] at h3
   exact h3
theorem Blk.setAll (h : Blk w g t cs) (hs : ds.size = cs.size) : Blk (w.setCells g 0 ds.toList) g t ds := by
 obtain ⟨l⟩ := cs
 obtain ⟨m⟩ := ds
 have := setCells_blk (g := g) (t := t) m [] l w (by simpa using hs.symm) h
 exact this
theorem Blk.run_set {P : Program} (h : Blk w g t cs) (ds : Array Value) (hs : ds.size = cs.size) (hi : (P.info? t).map (·.size) = some cs.size) (h1 : ds.toList.all (·.oneCell') = true) :
 (Instr.storeAt t (.pointer (some ⟨g, 0, none⟩)) (.agg ds)).run P w = .ok () (w.setCells g 0 ds.toList) :=
 run_storeAt_mid w g 0 t ds (by rw [hs]; exact h.there) (by rw [hi, hs]) (by rw [← Array.all_toList]; exact h1)
end
end
def is_ (l : List Int) : List Value := l.map (Value.int .i64)
theorem is_length (l : List Int) : (is_ l).length = l.length := by simp [is_]
theorem Rd.int_at {w : World} {A : Option Addr} {l : List Int} (h : Rd w A (is_ l)) (hp : 0 < l.length) :
 ∃ b o, A = some ⟨b, o, none⟩ ∧ b < w.heap.size ∧ ∀ k (hk : k < l.length), w.cell? ⟨b, o + k, none⟩ = some (.int .i64 l[k]) := by
 obtain ⟨b, o, rfl, hb, hc⟩ := h (by rw [is_length]; exact hp)
 exact ⟨b, o, rfl, hb, fun k hk => hc k _ (by simp [is_, hk])⟩
def RdP (w : World) (A : Option Addr) (ps : List (List Int)) : Prop :=
 0 < ps.length → ∃ b o, A = some ⟨b, o, none⟩ ∧ b < w.heap.size ∧ ∀ k (hk : k < ps.length), ∃ A' c', w.cell? ⟨b, o + k, none⟩ = some (.slice A' (ps[k]).length c') ∧ Rd w A' (is_ ps[k])
theorem RdP.nil (w : World) (A : Option Addr) : RdP w A [] := fun h => absurd h (by simp)
theorem RdP.below {w w' : World} {A : Option Addr} {ps : List (List Int)} (h : RdP w A ps) (hb : Below w.heap.size w w') : RdP w' A ps := fun hp => by
 obtain ⟨b, o, rfl, hlt, hc⟩ := h hp
 refine ⟨b, o, rfl, Nat.lt_of_lt_of_le hlt hb.size, fun k hk => ?_⟩
 obtain ⟨A', c', h1, h2⟩ := hc k hk
 exact ⟨A', c', (hb.cell (p := ⟨b, o + k, none⟩) hlt).trans h1, h2.below hb⟩
theorem RdP.drewN {w : World} {A : Option Addr} {ps : List (List Int)} (h : RdP w A ps) (n : Nat) : RdP (w.drewN n) A ps := h
theorem RdP.alloc {w : World} {A : Option Addr} {ps : List (List Int)} (h : RdP w A ps) (o : Obj) : RdP (w.alloc o) A ps := h.below ((Below.refl _ _).alloc (Nat.le_refl _) o)
theorem byt_val (k : Int) (h : 0 ≤ k) (h1 : k < 256) : [Value.int .u8 k] = bs [byt k] := by
 show _ = [Value.int .u8 ((byt k).toNat : Int)]
 rw [byt_nat k h h1]
def Out (l : List UInt8) (w : World) (e : Ending) (w' : World) : Prop := ∃ A c, e = .returned (.slice A l.length c) ∧ Rd w' A (bs l) ∧ Below w.heap.size w w'
theorem out_own {base : Nat} {t : TypeId} {v : Value} {n : Nat} {l : List UInt8} {w w' : World} (ho : Own w' base t 1 v n (bs l)) (hb : Below w.heap.size w w') : Out l w (.returned v) w' := by
 obtain ⟨A, c, rfl, hr⟩ := ho.form
 have := ho.1
 rw [bs_length] at this
 exact ⟨A, c, by rw [show n = l.length by omega], hr, hb⟩
theorem out_lit (w : World) (t : TypeId) {l : List UInt8} {L : List Value} {n : Nat} (hE : bs l = L) (hL : l.length = n) : Out l w (.returned (.slice (some ⟨w.heap.size, 0, none⟩) n n)) (w.alloc (.cells L.toArray t)) := by
 subst hL hE
 exact ⟨_, _, rfl, Rd.block (heap_alloc_new w _) (by simp), (Below.refl _ _).alloc (Nat.le_refl _) _⟩
theorem bs1 (a : Int) (ha : 0 ≤ a) (ha' : a < 256) : bs [byt a] = [.int .u8 a] := (byt_val a ha ha').symm
theorem bs_cons (a : Int) (ha : 0 ≤ a) (ha' : a < 256) (l : List UInt8) : bs (byt a :: l) = .int .u8 a :: bs l := by
 show _ :: _ = _
 rw [show B8 (byt a) = .int .u8 a by unfold B8; rw [byt_nat a ha ha']]
 rfl
theorem rd_lit (w : World) (x : Value) (t : TypeId) : Rd (w.alloc (.cells #[x] t)) (some ⟨w.heap.size, 0, none⟩) [x] := Rd.block (heap_alloc_new w _) rfl
theorem all_no {p : UInt8 → Bool} {l : List UInt8} {k : Nat} (hk : k < l.length) (h : p l[k] = false) : l.all p = false := by
 rw [List.all_eq_false]
 exact ⟨_, List.getElem_mem hk, by simp [h]⟩
def partB (p : List Int) : Bool := decide (1 ≤ p.length) && decide (p.length ≤ 8) && p.all fun n => decide (-1 ≤ n) && decide (n ≤ 1114111)
theorem parOk_eq (l : List (List Int)) : parOk l = (decide (l.length ≤ 16) && decide (l ≠ [[-1]]) && l.all partB) := rfl
theorem par_long {l : List (List Int)} (h : 16 < l.length) : parOk l = false := by rw [parOk_eq, decide_eq_false (by omega)]; rfl
theorem par_no {l : List (List Int)} {k : Nat} (hk : k < l.length) (h : partB l[k] = false) : parOk l = false := by
 rw [parOk_eq, show l.all partB = false from List.all_eq_false.2 ⟨_, List.getElem_mem hk, by simp [h]⟩, Bool.and_false]
theorem part_len {p : List Int} (h : ¬ (1 ≤ p.length ∧ p.length ≤ 8)) : partB p = false := by
 unfold partB
 by_cases h1 : 1 ≤ p.length
 ·rw [decide_eq_false (p := p.length ≤ 8) (by omega), Bool.and_false, Bool.false_and]
 ·rw [decide_eq_false h1, Bool.false_and, Bool.false_and]
def numOk (n : Int) : Bool := decide (-1 ≤ n) && decide (n ≤ 1114111)
theorem partB_yes {p : List Int} (h1 : 1 ≤ p.length) (h2 : p.length ≤ 8) (h : p.all numOk = true) : partB p = true := by
 unfold partB
 rw [decide_eq_true h1, decide_eq_true h2]
 exact h
theorem parOk_yes {l : List (List Int)} (h : l.length ≤ 16) (h1 : l ≠ [[-1]]) (h2 : l.all partB = true) : parOk l = true := by
 rw [parOk_eq, decide_eq_true h, decide_eq_true h1, h2]; rfl
theorem numOk_iff (n : Int) : numOk n = true ↔ -1 ≤ n ∧ n ≤ 1114111 := by simp [numOk]
def sqV (s : Sq) (A : Option Addr) (c : Nat) : Value := .agg #[.int .i64 s.kind, .int .u8 (s.priv.toNat : Int), .slice A s.params.length c, .string ⟨s.inter.toArray⟩, .int .u8 (s.final.toNat : Int), .string ⟨s.data.toArray⟩]
theorem last_q {s : Sq} {q : Bool} (hq : lastOk s = q) : (s.kind = 1 ∨ s.kind = 2 ∨ s.kind = 3 → q = (decide (64 ≤ s.final.toNat) && decide (s.final.toNat ≤ 126))) ∧
 (s.kind = 5 → (s.final.toNat < 48 ∨ 126 < s.final.toNat → q = false) ∧ (48 ≤ s.final.toNat → s.final.toNat ≤ 126 → (s.inter ≠ [] → q = true) ∧
   (s.inter = [] → q = !([79, 80, 88, 91, 93, 92, 94, 95] : List Nat).contains s.final.toNat))) ∧
 (s.kind = 4 → q = decide (s.final.toNat = 0)) ∧ (¬ (s.kind = 1 ∨ s.kind = 2 ∨ s.kind = 3 ∨ s.kind = 4 ∨ s.kind = 5) → q = false) := by
 subst hq
 refine ⟨fun h => ?_, fun h => ⟨fun h1 => ?_, fun h1 h2 => ⟨fun h3 => ?_, fun h3 => ?_⟩⟩, fun h => ?_, fun h => ?_⟩
 ·unfold lastOk; rw [if_pos h]; rfl
 ·unfold lastOk; rw [if_neg (by omega), if_pos h, (btw_no 48 126 _).2 (by omega), Bool.false_and]
 ·unfold lastOk; rw [if_neg (by omega), if_pos h, (btw_iff 48 126 _).2 ⟨h1, h2⟩, decide_eq_true h3]; rfl
 ·unfold lastOk; rw [if_neg (by omega), if_pos h, (btw_iff 48 126 _).2 ⟨h1, h2⟩, decide_eq_false (by simpa using h3), Bool.false_or, Bool.true_and]
  congr 1
  rw [Bool.eq_iff_iff]
  simp [← UInt8.toNat_inj]
 ·unfold lastOk; rw [if_neg (by omega), if_neg (by omega), decide_eq_true h, Bool.true_and]
  rw [Bool.eq_iff_iff]
  simp [← UInt8.toNat_inj]
 ·unfold lastOk; rw [if_neg (by omega), if_neg (by omega), decide_eq_false (by omega)]; rfl
theorem may_1 {s : Sq} (h : s.data.length ≤ 4096) (h1 : okS s = false) : mayS s = 1 := by
 unfold mayS; rw [if_neg (by omega), if_neg (by rw [h1]; decide)]
theorem may_0 {s : Sq} (h : s.data.length ≤ 4096) (h1 : okS s = true) : mayS s = 0 := by
 unfold mayS; rw [if_neg (by omega), if_pos h1]
theorem may_4 {s : Sq} (h : 4096 < s.data.length) : mayS s = 4 := by unfold mayS; rw [if_pos h]
theorem str_cat (a b c : List UInt8) (h : a ++ b = c) : (⟨a.toArray⟩ : ByteArray) ++ (⟨b.toArray⟩ : ByteArray) = ⟨c.toArray⟩ := by
 subst h
 apply ByteArray.ext
 simp [ByteArray.data_append]
theorem partL_snoc (p : List Int) (n : Int) : partL (p ++ [n]) = partL p ++ (if p = [] then [] else [58]) ++ textL n := by
 match p with
 | [] => simp [partL]
 | [m] => simp [partL]
 | m :: k :: p =>
   have ih := partL_snoc (k :: p) n
   show textL m ++ (58 :: partL (k :: p ++ [n])) = _
   rw [ih]
   simp [partL]
theorem parL_snoc (l : List (List Int)) (p : List Int) : parL (l ++ [p]) = parL l ++ (if l = [] then [] else [59]) ++ partL p := by
 match l with
 | [] => simp [parL]
 | [m] => simp [parL]
 | m :: k :: l =>
   have ih := parL_snoc (k :: l) p
   show partL m ++ (59 :: parL (k :: l ++ [p])) = _
   rw [ih]
   simp [parL]
theorem partL_len : ∀ (p : List Int), partOk p → (partL p).length ≤ 22 * p.length := by
 intro p ho
 match p with
 | [] => simp [partL]
 | [n] =>
   have := textL_length n (by have := ho n (List.mem_cons_self ..); omega)
   simp only [partL, List.length_cons, List.length_nil]; omega
 | n :: m :: p =>
   have h1 := textL_length n (by have := ho n (List.mem_cons_self ..); omega)
   have h2 := partL_len (m :: p) (fun x hx => ho x (List.mem_cons_of_mem _ hx))
   show (textL n ++ (58 :: partL (m :: p))).length ≤ _
   rw [List.length_append, List.length_cons]
   simp only [List.length_cons] at *
   omega
theorem partL_take {p : List Int} {k : Nat} (h : k < p.length) : partL (p.take (k + 1)) = partL (p.take k) ++ (if k = 0 then [] else [58]) ++ textL p[k] := by
 rw [List.take_succ_eq_append_getElem h, partL_snoc]
 congr 2
 by_cases hk : k = 0
 ·subst hk; simp
 ·rw [if_neg hk, if_neg]
  intro e
  have := congrArg List.length e
  rw [List.length_take, List.length_nil] at this
  omega
theorem parL_take {l : List (List Int)} {k : Nat} (h : k < l.length) : parL (l.take (k + 1)) = parL (l.take k) ++ (if k = 0 then [] else [59]) ++ partL l[k] := by
 rw [List.take_succ_eq_append_getElem h, parL_snoc]
 congr 2
 by_cases hk : k = 0
 ·subst hk; simp
 ·rw [if_neg hk, if_neg]
  intro e
  have := congrArg List.length e
  rw [List.length_take, List.length_nil] at this
  omega
theorem parL_len : ∀ (l : List (List Int)), (∀ p ∈ l, p.length ≤ 8 ∧ partOk p) → (parL l).length ≤ 177 * l.length := by
 intro l ho
 match l with
 | [] => simp [parL]
 | [p] =>
   have h := ho p (List.mem_cons_self ..)
   have := partL_len p h.2
   simp only [parL, List.length_cons, List.length_nil]; omega
 | p :: q :: l =>
   have h := ho p (List.mem_cons_self ..)
   have h1 := partL_len p h.2
   have h2 := parL_len (q :: l) (fun x hx => ho x (List.mem_cons_of_mem _ hx))
   show (partL p ++ (59 :: parL (q :: l))).length ≤ _
   rw [List.length_append, List.length_cons]
   simp only [List.length_cons] at *
   omega
theorem parOk_lens {l : List (List Int)} (h : parOk l = true) : l.length ≤ 16 ∧ ∀ p ∈ l, p.length ≤ 8 ∧ partOk p := by
 simp only [parOk, Bool.and_eq_true, decide_eq_true_eq, List.all_eq_true] at h
 refine ⟨h.1.1, fun p hp => ?_⟩
 obtain ⟨⟨_, h1⟩, h2⟩ := h.2 p hp
 exact ⟨h1, fun n hn => h2 n hn⟩
def WYes (T : List UInt8) (w : World) (e : Ending) (w' : World) : Prop := (∃ A c, e = .returned (.tuple #[.slice A T.length c, .int .i64 0]) ∧ T.length ≤ c ∧ Rd w' A (bs T)) ∧ Below w.heap.size w w'
def WNo (m : Int) (w : World) (e : Ending) (w' : World) : Prop := e = .returned (.tuple #[.slice none 0 0, .int .i64 m]) ∧ Below w.heap.size w w'
theorem body_len {s : Sq} (hp : parOk s.params = true) (hi : s.inter.length ≤ 2) : (bodyL s).length ≤ 3000 := by
 obtain ⟨h1, h2⟩ := parOk_lens hp
 have h3 := parL_len s.params h2
 have h4 : (privL s.priv).length ≤ 1 := by unfold privL; split <;> simp
 unfold bodyL
 rw [List.length_append, List.length_append]
 omega
end Go.Proofs.YtjlhhelikiegdaaGreatDoor
