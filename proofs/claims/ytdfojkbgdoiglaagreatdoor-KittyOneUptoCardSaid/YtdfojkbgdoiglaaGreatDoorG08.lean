/-
  Layer 6's mathematics: modes, set, reset and told, as the document has them. Layer 11's mathematics: a key's event in its old form. Cut out of KeyT: what names no function of any dump. Lists of numbers, read in memory; the document's comparison of two of them. (For layers that don't load layer 2's own texts.) Cut out of WirP: what names no function of any dump. Cut out of WirQ: what names no function of any dump. Cut out of LegA: what names no function of any dump. Layer 9, the landed keys: its table of rows in memory. A region that draws its order, with an append onto a row of one's own (and a store behind it). Layer 3's mathematics: what a reader of bytes reads, a piece at a time; that it is just the sequence with which the bytes begin. The library's comparison of two lists of numbers, walked.
-/
import Derived.Test.YtdfojkbgdoiglaaGreatDoorG01
import Derived.Test.YtdfojkbgdoiglaaGreatDoorG02
import Derived.Test.YtdfojkbgdoiglaaGreatDoorG03
import Derived.Test.YtdfojkbgdoiglaaGreatDoorG04
import Derived.Test.YtdfojkbgdoiglaaGreatDoorG05
import Derived.Test.YtdfojkbgdoiglaaGreatDoorG06
import Derived.Test.YtdfojkbgdoiglaaGreatDoorG07
import Derived.BigQuiet
import Derived.Deep.QuietTactic
namespace Go.Proofs.YtdfojkbgdoiglaaGreatDoor
end Go.Proofs.YtdfojkbgdoiglaaGreatDoor
namespace Go.Proofs.YtdfojkbgdoiglaaGreatDoor
end Go.Proofs.YtdfojkbgdoiglaaGreatDoor
namespace Go.Proofs.YtdfojkbgdoiglaaGreatDoor
open Go.RowKit
def enV (e : En) : Value := .agg #[.int .i64 e.kind, .int .u8 e.fin, .int .i64 e.num, .int .i64 e.char, .bool e.keys]
theorem below_two {w : World} (x y : Obj) : Below w.heap.size w ((w.alloc x).alloc y) := ((Below.refl _ w).alloc (Nat.le_refl _) _).alloc (by simp) _
end Go.Proofs.YtdfojkbgdoiglaaGreatDoor
namespace Go.Proofs.YtdfojkbgdoiglaaGreatDoor
open Go.RowKit
def is_ (l : List Int) : List Value := l.map (Value.int .i64)
theorem is_length (l : List Int) : (is_ l).length = l.length := by simp [is_]
theorem Rd.int_at {w : World} {A : Option Addr} {l : List Int} (h : Rd w A (is_ l)) (hp : 0 < l.length) :
 ∃ b o, A = some ⟨b, o, none⟩ ∧ b < w.heap.size ∧ ∀ k (hk : k < l.length), w.cell? ⟨b, o + k, none⟩ = some (.int .i64 l[k]) := by
 obtain ⟨b, o, rfl, hb, hc⟩ := h (by rw [is_length]; exact hp)
 exact ⟨b, o, rfl, hb, fun k hk => hc k _ (by simp [is_, hk])⟩
def RdP (w : World) (A : Option Addr) (ps : List (List Int)) : Prop :=
 0 < ps.length → ∃ b o, A = some ⟨b, o, none⟩ ∧ b < w.heap.size ∧ ∀ k (hk : k < ps.length), ∃ A' c', w.cell? ⟨b, o + k, none⟩ = some (.slice A' (ps[k]).length c') ∧ Rd w A' (is_ ps[k])
theorem RdP.nil (w : World) (A : Option Addr) : RdP w A [] := fun h => absurd h (by simp)
theorem RdP.below {w w' : World} {A : Option Addr} {ps : List (List Int)} (h : RdP w A ps) (hb : Below w.heap.size w w') : RdP w' A ps := fun hp => by
 obtain ⟨b, o, rfl, hlt, hc⟩ := h hp
 refine ⟨b, o, rfl, Nat.lt_of_lt_of_le hlt hb.size, fun k hk => ?_⟩
 obtain ⟨A', c', h1, h2⟩ := hc k hk
 exact ⟨A', c', (hb.cell (p := ⟨b, o + k, none⟩) hlt).trans h1, h2.below hb⟩
theorem RdP.drewN {w : World} {A : Option Addr} {ps : List (List Int)} (h : RdP w A ps) (n : Nat) : RdP (w.drewN n) A ps := h
theorem RdP.alloc {w : World} {A : Option Addr} {ps : List (List Int)} (h : RdP w A ps) (o : Obj) : RdP (w.alloc o) A ps := h.below ((Below.refl _ _).alloc (Nat.le_refl _) o)
end Go.Proofs.YtdfojkbgdoiglaaGreatDoor
namespace Go.Proofs.YtdfojkbgdoiglaaGreatDoor
open Go.RowKit
theorem all_no {p : UInt8 → Bool} {l : List UInt8} {k : Nat} (hk : k < l.length) (h : p l[k] = false) : l.all p = false := by
 rw [List.all_eq_false]
 exact ⟨_, List.getElem_mem hk, by simp [h]⟩
def partB (p : List Int) : Bool := decide (1 ≤ p.length) && decide (p.length ≤ 8) && p.all fun n => decide (-1 ≤ n) && decide (n ≤ 1114111)
theorem parOk_eq (l : List (List Int)) : parOk l = (decide (l.length ≤ 16) && decide (l ≠ [[-1]]) && l.all partB) := rfl
theorem par_long {l : List (List Int)} (h : 16 < l.length) : parOk l = false := by rw [parOk_eq, decide_eq_false (by omega)]; rfl
theorem par_no {l : List (List Int)} {k : Nat} (hk : k < l.length) (h : partB l[k] = false) : parOk l = false := by
 rw [parOk_eq, show l.all partB = false from List.all_eq_false.2 ⟨_, List.getElem_mem hk, by simp [h]⟩, Bool.and_false]
theorem part_len {p : List Int} (h : ¬ (1 ≤ p.length ∧ p.length ≤ 8)) : partB p = false := by
 unfold partB
 by_cases h1 : 1 ≤ p.length
 ·rw [decide_eq_false (p := p.length ≤ 8) (by omega), Bool.and_false, Bool.false_and]
 ·rw [decide_eq_false h1, Bool.false_and, Bool.false_and]
def numOk (n : Int) : Bool := decide (-1 ≤ n) && decide (n ≤ 1114111)
theorem partB_yes {p : List Int} (h1 : 1 ≤ p.length) (h2 : p.length ≤ 8) (h : p.all numOk = true) : partB p = true := by
 unfold partB
 rw [decide_eq_true h1, decide_eq_true h2]
 exact h
theorem parOk_yes {l : List (List Int)} (h : l.length ≤ 16) (h1 : l ≠ [[-1]]) (h2 : l.all partB = true) : parOk l = true := by
 rw [parOk_eq, decide_eq_true h, decide_eq_true h1, h2]; rfl
theorem numOk_iff (n : Int) : numOk n = true ↔ -1 ≤ n ∧ n ≤ 1114111 := by simp [numOk]
end Go.Proofs.YtdfojkbgdoiglaaGreatDoor
namespace Go.Proofs.YtdfojkbgdoiglaaGreatDoor
open Go.RowKit
def sqV (s : Sq) (A : Option Addr) (c : Nat) : Value := .agg #[.int .i64 s.kind, .int .u8 (s.priv.toNat : Int), .slice A s.params.length c, .string ⟨s.inter.toArray⟩, .int .u8 (s.final.toNat : Int), .string ⟨s.data.toArray⟩]
theorem last_q {s : Sq} {q : Bool} (hq : lastOk s = q) : (s.kind = 1 ∨ s.kind = 2 ∨ s.kind = 3 → q = (decide (64 ≤ s.final.toNat) && decide (s.final.toNat ≤ 126))) ∧
 (s.kind = 5 → (s.final.toNat < 48 ∨ 126 < s.final.toNat → q = false) ∧ (48 ≤ s.final.toNat → s.final.toNat ≤ 126 → (s.inter ≠ [] → q = true) ∧
   (s.inter = [] → q = !([79, 80, 88, 91, 93, 92, 94, 95] : List Nat).contains s.final.toNat))) ∧
 (s.kind = 4 → q = decide (s.final.toNat = 0)) ∧ (¬ (s.kind = 1 ∨ s.kind = 2 ∨ s.kind = 3 ∨ s.kind = 4 ∨ s.kind = 5) → q = false) := by
 subst hq
 refine ⟨fun h => ?_, fun h => ⟨fun h1 => ?_, fun h1 h2 => ⟨fun h3 => ?_, fun h3 => ?_⟩⟩, fun h => ?_, fun h => ?_⟩
 ·unfold lastOk; rw [if_pos h]; rfl
 ·unfold lastOk; rw [if_neg (by omega), if_pos h, (btw_no 48 126 _).2 (by omega), Bool.false_and]
 ·unfold lastOk; rw [if_neg (by omega), if_pos h, (btw_iff 48 126 _).2 ⟨h1, h2⟩, decide_eq_true h3]; rfl
 ·unfold lastOk; rw [if_neg (by omega), if_pos h, (btw_iff 48 126 _).2 ⟨h1, h2⟩, decide_eq_false (by simpa using h3), Bool.false_or, Bool.true_and]
  congr 1
  rw [Bool.eq_iff_iff]
  simp [← UInt8.toNat_inj]
 ·unfold lastOk; rw [if_neg (by omega), if_neg (by omega), decide_eq_true h, Bool.true_and]
  rw [Bool.eq_iff_iff]
  simp [← UInt8.toNat_inj]
 ·unfold lastOk; rw [if_neg (by omega), if_neg (by omega), decide_eq_false (by omega)]; rfl
end Go.Proofs.YtdfojkbgdoiglaaGreatDoor
namespace Go.Proofs.YtdfojkbgdoiglaaGreatDoor
open Go.RowKit
theorem out_is {L L' : List UInt8} {w w' : World} {e : Ending} (h : L = L') (ho : Out L' w e w') : Out L w e w' := h ▸ ho
theorem text_full {s : ByteArray} (h : s.data.toList ≠ []) : s.toList.isEmpty = false := by
 rw [ByteArray.toList_eq]
 cases e : s.data.toList with
 | nil => exact absurd e h
 | cons => rfl
end Go.Proofs.YtdfojkbgdoiglaaGreatDoor
namespace Go.Proofs.YtdfojkbgdoiglaaGreatDoor
open Go.RowKit
def roC (r : Ro) (A : Option Addr) (c : Nat) : List Value := [.int .i64 r.first, .int .i64 r.last, .int .i64 r.kind, .string ⟨r.finals.toArray⟩, .slice A r.nums.length c, .string ⟨r.chars.toArray⟩, .bool r.keys]
def RdRo (n₁ : Nat) (w : World) (b o : Nat) (rs : List Ro) : Prop :=
 ∀ k (hk : k < rs.length), ∃ A' c', RdIn n₁ w A' (is_ rs[k].nums) ∧ ∀ i u, (roC rs[k] A' c')[i]? = some u → w.cell? ⟨b, o + k * 7 + i, none⟩ = some u
def RwsIn (n₁ : Nat) (w : World) : Prop :=
 ∃ b o c t fz, w.heap[0]? = some (.cells #[.slice (some ⟨b, o, none⟩) 22 c] t fz) ∧ 0 < n₁ ∧ b < n₁ ∧ RdRo n₁ w b o roL
def Rws (w : World) : Prop := RwsIn w.heap.size w
section
variable {n₁ n₂ : Nat} {w w' : World} {b o : Nat} {rs : List Ro}
theorem RdRo.below (h : RdRo n₁ w b o rs) (hb : Below n₁ w w') (hl : b < n₁) : RdRo n₁ w' b o rs := fun k hk => by
 obtain ⟨A', c', h1, h2⟩ := h k hk
 exact ⟨A', c', h1.below hb, fun i u hu => (hb.cell (p := ⟨b, o + k * 7 + i, none⟩) hl).trans (h2 i u hu)⟩
theorem RwsIn.below (h : RwsIn n₁ w) (hb : Below n₁ w w') : RwsIn n₁ w' := by
 obtain ⟨b, o, c, t, fz, h1, h2, h3, h4⟩ := h
 exact ⟨b, o, c, t, fz, (hb.block _ h2).trans h1, h2, h3, h4.below hb h3⟩
theorem RdIn.mono {A : Option Addr} {xs : List Value} (h : RdIn n₁ w A xs) (hn : n₁ ≤ n₂) : RdIn n₂ w A xs := fun hp => by
 obtain ⟨b, o, rfl, hb, hc⟩ := h hp
 exact ⟨b, o, rfl, by omega, hc⟩
theorem RwsIn.mono (h : RwsIn n₁ w) (hn : n₁ ≤ n₂) : RwsIn n₂ w := by
 obtain ⟨b, o, c, t, fz, h1, h2, h3, h4⟩ := h
 refine ⟨b, o, c, t, fz, h1, by omega, by omega, fun k hk => ?_⟩
 obtain ⟨A', c', e1, e2⟩ := h4 k hk
 exact ⟨A', c', e1.mono hn, e2⟩
theorem Rws.below (h : Rws w) (hb : Below w.heap.size w w') : Rws w' := (RwsIn.below h hb).mono hb.size
theorem RdRo.at_ (h : RdRo n₁ w b o rs) {k : Nat} (hk : k < rs.length) {r : Ro} (hr : rs[k] = r) : ∃ A' c', RdIn n₁ w A' (is_ r.nums) ∧
 w.cell? ⟨b, o + k * 7, none⟩ = some (.int .i64 r.first) ∧ w.cell? ⟨b, o + k * 7 + 1, none⟩ = some (.int .i64 r.last) ∧ w.cell? ⟨b, o + k * 7 + 2, none⟩ = some (.int .i64 r.kind) ∧ w.cell? ⟨b, o + k * 7 + 3, none⟩ = some (.string ⟨r.finals.toArray⟩) ∧ w.cell? ⟨b, o + k * 7 + 4, none⟩ = some (.slice A' r.nums.length c') ∧ w.cell? ⟨b, o + k * 7 + 5, none⟩ = some (.string ⟨r.chars.toArray⟩) ∧ w.cell? ⟨b, o + k * 7 + 6, none⟩ = some (.bool r.keys) := by
 obtain ⟨A', c', h1, h2⟩ := h k hk
 subst hr
 exact ⟨A', c', h1, h2 0 _ rfl, h2 1 _ rfl, h2 2 _ rfl, h2 3 _ rfl, h2 4 _ rfl, h2 5 _ rfl, h2 6 _ rfl⟩
end
def sbK (s : ByteArray) (a : Nat) : Int := if h : a < s.size then ((s[a]'h).toNat : Int) else 0
theorem sbK_eq (l : List UInt8) (a : Nat) : sbK ⟨l.toArray⟩ a = byL l a := by
 unfold sbK byL
 by_cases h : a < l.length
 ·rw [dif_pos (show a < (⟨l.toArray⟩ : ByteArray).size from h)]
  rw [List.getD_eq_getElem?_getD, List.getElem?_eq_getElem h]
  rfl
 ·rw [dif_neg (show ¬ a < (⟨l.toArray⟩ : ByteArray).size from h)]
  rw [List.getD_eq_getElem?_getD, List.getElem?_eq_none (by omega)]
  rfl
theorem sbK_yes {s : ByteArray} {a : Nat} (h : a < s.size) : sbK s a = ((s[a]'h).toNat : Int) := by unfold sbK; rw [dif_pos h]
theorem sbK_no {s : ByteArray} {a : Nat} (h : ¬ a < s.size) : sbK s a = 0 := by unfold sbK; rw [dif_neg h]
theorem getD_yes {l : List Int} {a : Nat} (h : a < l.length) : l.getD a 0 = l[a] := by rw [List.getD_eq_getElem?_getD, List.getElem?_eq_getElem h]; rfl
theorem getD_no {l : List Int} {a : Nat} (h : ¬ a < l.length) : l.getD a 0 = 0 := by rw [List.getD_eq_getElem?_getD, List.getElem?_eq_none (by omega)]; rfl
end Go.Proofs.YtdfojkbgdoiglaaGreatDoor
namespace Go.Proofs.YtdfojkbgdoiglaaGreatDoor
open Go.RowKit
section
variable {P : Program} {ops : Array Oper} {md : Region.Mode} {w1 : World} {K : List Fact} {ix iz : Nat} {R1 : (Tmp → Value) → World → World → Prop} {aF : (Tmp → Value) → Act} {i : Nat} {o : Oper}
end
end Go.Proofs.YtdfojkbgdoiglaaGreatDoor
namespace Go.Proofs.YtdfojkbgdoiglaaGreatDoor
def dstep (n : Nat) (c : UInt8) : Nat := min (n * 10 + (c.toNat - 48)) 1114111
def satv (l : List UInt8) : Nat := (l.takeWhile isD).foldl dstep 0
theorem dstep_le (n : Nat) (c : UInt8) : dstep n c ≤ 1114111 := Nat.min_le_right _ _
theorem fold_le : ∀ (t : List UInt8) (n : Nat), n ≤ 1114111 → t.foldl dstep n ≤ 1114111
 | [], _, h => h
 | c :: t, n, _ => by rw [List.foldl_cons]; exact fold_le t _ (dstep_le n c)
theorem satv_le (l : List UInt8) : satv l ≤ 1114111 := fold_le _ _ (by omega)
theorem dec_fold (u : Nat) : (Lib.decDigits u).foldl dstep 0 = min u 1114111 := by
 induction u using Nat.strongRecOn with
 | _ u ih =>
   by_cases h : u < 10
   ·rw [dec_small u h, List.foldl_cons, List.foldl_nil, dstep, (digit_isD u h).2]; omega
   ·rw [dec_step u h, List.foldl_append, ih (u / 10) (by omega), List.foldl_cons, List.foldl_nil, dstep, (digit_isD (u % 10) (by omega)).2]; omega
theorem tw_app (p : UInt8 → Bool) : ∀ (a m : List UInt8), (∀ c ∈ a, p c = true) → (m.head?.any p = false) → (a ++ m).takeWhile p = a
 | [], m, _, h => by
   cases m with
   | nil => rfl
   | cons c r => simp only [List.head?_cons, Option.any_some] at h; rw [List.nil_append, List.takeWhile_cons_of_neg (by rw [h]; simp)]
 | c :: a, m, h, hm => by rw [List.cons_append, List.takeWhile_cons_of_pos (h c (List.mem_cons_self ..)), tw_app p a m (fun d hd => h d (List.mem_cons_of_mem _ hd)) hm]
theorem sat_text (n : Int) (h : 0 ≤ n) (h2 : n ≤ 1114111) (m : List UInt8) (hm : m.head?.any isD = false) : (satv (textL n ++ m) : Int) = n := by
 unfold satv
 rw [tw_app isD _ _ (text_all_isD n) hm]
 rw [show textL n = Lib.decDigits n.toNat from if_neg (by omega), dec_fold]
 omega
def skipB (t r : List UInt8) : Bool := t.isPrefixOf r
theorem skipB_app (t m : List UInt8) : skipB t (t ++ m) = true := by unfold skipB; simp
theorem skipB_some {t r : List UInt8} (h : skipB t r = true) : r = t ++ r.drop t.length := by
 unfold skipB at h
 rw [List.isPrefixOf_iff_prefix] at h
 obtain ⟨m, rfl⟩ := h
 rw [List.drop_left]
def runF (a b m : Nat) (r : List UInt8) : List UInt8 := (r.take m).takeWhile (btw a b)
theorem tw_mem (p : UInt8 → Bool) : ∀ (l : List UInt8) (c : UInt8), c ∈ l.takeWhile p → p c = true
 | [], c, h => by cases h
 | d :: l, c, h => by
   by_cases hd : p d = true
   ·rw [List.takeWhile_cons_of_pos hd] at h
    rcases List.mem_cons.1 h with rfl | h
    ·exact hd
    ·exact tw_mem p l c h
   ·rw [List.takeWhile_cons_of_neg hd] at h; cases h
theorem runF_all (a b m : Nat) (r : List UInt8) : ∀ c ∈ runF a b m r, btw a b c = true := fun c hc => by
 unfold runF at hc
 exact tw_mem _ _ c hc
theorem runF_len (a b m : Nat) (r : List UInt8) : (runF a b m r).length ≤ m := by
 have := (List.takeWhile_sublist (btw a b) (l := r.take m)).length_le
 rw [List.length_take] at this
 unfold runF
 omega
theorem runF_put (a b m : Nat) (t r : List UInt8) (ht : ∀ c ∈ t, btw a b c = true) (hl : t.length ≤ m) (hr : r.head?.any (btw a b) = false) : runF a b m (t ++ r) = t := by
 unfold runF
 rw [List.take_append, List.take_of_length_le hl]
 refine tw_app _ _ _ ht ?_
 cases r with
 | nil => simp
 | cons c r =>
   cases h : m - t.length with
   | zero => rfl
   | succ k => simpa using hr
def oneF (a b : Nat) (r : List UInt8) : UInt8 := (runF a b 1 r).headD 0
theorem one_run (a b : Nat) (r : List UInt8) (h : 1 ≤ a) : runF a b 1 r = privL (oneF a b r) := by
 have hl := runF_len a b 1 r
 have ha := runF_all a b 1 r
 unfold oneF
 match hq : runF a b 1 r with
 | [] => rfl
 | [c] =>
   rw [hq] at ha
   have := (btw_iff _ _ _).1 (ha c (List.mem_singleton.2 rfl))
   show [c] = privL c
   unfold privL
   rw [if_neg (fun e => by subst e; simp at this; omega)]
 | c :: d :: t => rw [hq] at hl; simp at hl
def partF (r : List UInt8) : Int × List UInt8 := if skipB (textL (satv r)) r = true then ((satv r : Int), r.drop (textL (satv r)).length) else (-1, r)
theorem partF_app (r : List UInt8) : r = textL (partF r).1 ++ (partF r).2 := by
 unfold partF
 split
 ·rename_i h; exact skipB_some h
 ·rw [textL_neg _ (by omega)]; rfl
theorem partF_rng (r : List UInt8) : -1 ≤ (partF r).1 ∧ (partF r).1 ≤ 1114111 := by
 have := satv_le r
 unfold partF
 split
 ·dsimp only; omega
 ·dsimp only; omega
theorem partF_put (n : Int) (h0 : -1 ≤ n) (h1 : n ≤ 1114111) (m : List UInt8) (hm : m.head?.any isD = false) : partF (textL n ++ m) = (n, m) := by
 unfold partF
 by_cases h : n < 0
 ·rw [textL_neg n h, List.nil_append]
  have e : satv m = 0 := by
   unfold satv
   rw [show m.takeWhile isD = [] by simpa using tw_app isD [] m (fun c hc => by cases hc) hm]; rfl
  rw [e, if_neg]
  ·rw [show n = -1 by omega]
  ·intro hs
   have := skipB_some hs
   have e2 : textL ((0 : Nat) : Int) = [48] := by rw [textL_small _ (by omega) (by omega)]; rfl
   rw [e2] at this
   rw [this] at hm
   simp at hm
   exact absurd hm (by decide)
 ·have e := sat_text n (by omega) h1 m hm
  rw [e, if_pos (skipB_app _ _), List.drop_left]
def partsGo : Nat → List Int → List UInt8 → List Int × List UInt8
 | 0, acc, r => (acc, r)
 | f + 1, acc, r => if skipB [58] r = true then partsGo f (acc ++ [(partF (r.drop 1)).1]) (partF (r.drop 1)).2 else (acc, r)
def partsF (r : List UInt8) : List Int × List UInt8 := partsGo 7 [(partF r).1] (partF r).2
def paramsGo : Nat → List (List Int) → List UInt8 → List (List Int) × List UInt8
 | 0, acc, r => (acc, r)
 | f + 1, acc, r => if skipB [59] r = true then paramsGo f (acc ++ [(partsF (r.drop 1)).1]) (partsF (r.drop 1)).2 else (acc, r)
def noneL (ps : List (List Int)) : List (List Int) := if ps = [[-1]] then [] else ps
def paramsF (r : List UInt8) : List (List Int) × List UInt8 := (noneL (paramsGo 15 [(partsF r).1] (partsF r).2).1, (paramsGo 15 [(partsF r).1] (partsF r).2).2)
theorem part_more (p : List Int) (n : Int) (h : p ≠ []) : partL (p ++ [n]) = partL p ++ (58 :: textL n) := by
 match p, h with
 | [m], _ => rfl
 | m :: k :: p, _ =>
   have ih := part_more (k :: p) n (by simp)
   show textL m ++ (58 :: partL (k :: p ++ [n])) = _
   rw [ih]
   simp [partL]
theorem par_more (l : List (List Int)) (p : List Int) (h : l ≠ []) : parL (l ++ [p]) = parL l ++ (59 :: partL p) := by
 match l, h with
 | [m], _ => rfl
 | m :: k :: l, _ =>
   have ih := par_more (k :: l) p (by simp)
   show partL m ++ (59 :: parL (k :: l ++ [p])) = _
   rw [ih]
   simp [parL]
theorem partsGo_app : ∀ (f : Nat) (acc : List Int) (r : List UInt8), acc ≠ [] → partOk acc → partL acc ++ r = partL (partsGo f acc r).1 ++ (partsGo f acc r).2 ∧ partOk (partsGo f acc r).1 ∧ acc.length ≤ (partsGo f acc r).1.length ∧ (partsGo f acc r).1.length ≤ acc.length + f
 | 0, acc, r, _, ho => ⟨rfl, ho, Nat.le_refl _, Nat.le_refl _⟩
 | f + 1, acc, r, hn, ho => by
   unfold partsGo
   split
   ·rename_i h
    have hr := skipB_some h
    have hp := partF_app (r.drop 1)
    have hq := partF_rng (r.drop 1)
    obtain ⟨i1, i2, i3, i4⟩ := partsGo_app f (acc ++ [(partF (r.drop 1)).1]) (partF (r.drop 1)).2 (by simp) (fun n hn => by
     rcases List.mem_append.1 hn with h | h
     ·exact ho n h
     ·rw [List.mem_singleton] at h; subst h; exact hq)
    rw [List.length_append, List.length_singleton] at i3 i4
    refine ⟨?_, i2, by omega, by omega⟩
    rw [← i1, part_more _ _ hn]
    conv => lhs; rw [hr]
    rw [show ([58] : List UInt8).length = 1 from rfl]
    conv => lhs; rw [hp]
    simp
   ·exact ⟨rfl, ho, Nat.le_refl _, Nat.le_add_right _ _⟩
theorem partsF_app (r : List UInt8) : r = partL (partsF r).1 ++ (partsF r).2 ∧ partOk (partsF r).1 ∧ 1 ≤ (partsF r).1.length ∧ (partsF r).1.length ≤ 8 := by
 have hp := partF_app r
 have hq := partF_rng r
 obtain ⟨i1, i2, i3, i4⟩ := partsGo_app 7 [(partF r).1] (partF r).2 (by simp) (fun n hn => by rw [List.mem_singleton] at hn; subst hn; exact hq)
 exact ⟨hp.trans i1, i2, i3, i4⟩
def parsOk (l : List (List Int)) : Prop := ∀ p ∈ l, partOk p ∧ 1 ≤ p.length ∧ p.length ≤ 8
theorem paramsGo_app : ∀ (f : Nat) (acc : List (List Int)) (r : List UInt8), acc ≠ [] → parsOk acc → parL acc ++ r = parL (paramsGo f acc r).1 ++ (paramsGo f acc r).2 ∧ parsOk (paramsGo f acc r).1 ∧ acc.length ≤ (paramsGo f acc r).1.length ∧ (paramsGo f acc r).1.length ≤ acc.length + f
 | 0, acc, r, _, ho => ⟨rfl, ho, Nat.le_refl _, Nat.le_refl _⟩
 | f + 1, acc, r, hn, ho => by
   unfold paramsGo
   split
   ·rename_i h
    have hr := skipB_some h
    obtain ⟨hp, hq⟩ := partsF_app (r.drop 1)
    obtain ⟨i1, i2, i3, i4⟩ := paramsGo_app f (acc ++ [(partsF (r.drop 1)).1]) (partsF (r.drop 1)).2 (by simp) (fun n hn => by
     rcases List.mem_append.1 hn with h | h
     ·exact ho n h
     ·rw [List.mem_singleton] at h; subst h; exact hq)
    rw [List.length_append, List.length_singleton] at i3 i4
    refine ⟨?_, i2, by omega, by omega⟩
    rw [← i1, par_more _ _ hn]
    conv => lhs; rw [hr]
    rw [show ([59] : List UInt8).length = 1 from rfl]
    conv => lhs; rw [hp]
    simp
   ·exact ⟨rfl, ho, Nat.le_refl _, Nat.le_add_right _ _⟩
theorem paramsF_app (r : List UInt8) : r = parL (paramsF r).1 ++ (paramsF r).2 ∧ parOk (paramsF r).1 = true := by
 obtain ⟨hp, hq⟩ := partsF_app r
 obtain ⟨i1, i2, i3, i4⟩ := paramsGo_app 15 [(partsF r).1] (partsF r).2 (by simp) (fun p hp => by rw [List.mem_singleton] at hp; subst hp; exact hq)
 have e : r = parL (paramsGo 15 [(partsF r).1] (partsF r).2).1 ++ (paramsGo 15 [(partsF r).1] (partsF r).2).2 := hp.trans i1
 unfold paramsF noneL
 generalize paramsGo 15 [(partsF r).1] (partsF r).2 = x at *
 dsimp only
 split
 ·rename_i h
  rw [h] at e
  refine ⟨?_, by decide⟩
  rw [show parL [] = ([] : List UInt8) from rfl]
  rw [show parL [[-1]] = ([] : List UInt8) by show textL (-1) = []; exact textL_neg _ (by omega)] at e
  exact e
 ·rename_i h
  refine ⟨e, ?_⟩
  simp only [parOk, Bool.and_eq_true, decide_eq_true_eq, List.all_eq_true]
  simp only [List.length_singleton] at i4
  refine ⟨⟨by omega, h⟩, fun p hp => ?_⟩
  obtain ⟨j1, j2, j3⟩ := i2 p hp
  exact ⟨⟨j2, j3⟩, fun n hn => j1 n hn⟩
def parts1 : List Int → List UInt8
 | [] => []
 | n :: p => 58 :: (textL n ++ parts1 p)
theorem partL_cons (n : Int) (p : List Int) : partL (n :: p) = textL n ++ parts1 p := by
 induction p generalizing n with
 | nil => simp [partL, parts1]
 | cons m p ih => rw [show partL (n :: m :: p) = textL n ++ (58 :: partL (m :: p)) from rfl, ih]; rfl
def params1 : List (List Int) → List UInt8
 | [] => []
 | n :: p => 59 :: (partL n ++ params1 p)
theorem parL_cons (n : List Int) (p : List (List Int)) : parL (n :: p) = partL n ++ params1 p := by
 induction p generalizing n with
 | nil => simp [parL, params1]
 | cons m p ih => rw [show parL (n :: m :: p) = partL n ++ (59 :: parL (m :: p)) from rfl, ih]; rfl
theorem skip_head {c : UInt8} {m : List UInt8} (h : m.head? ≠ some c) : skipB [c] m = false := by
 cases m with
 | nil => rfl
 | cons d m =>
   have : c ≠ d := fun e => h (by rw [e]; rfl)
   simp [skipB, List.isPrefixOf, this]
theorem partsGo_put : ∀ (p : List Int) (f : Nat) (acc : List Int) (m : List UInt8), p.length ≤ f → partOk p → m.head?.any isD = false → m.head? ≠ some 58 → partsGo f acc (parts1 p ++ m) = (acc ++ p, m)
 | [], f, acc, m, _, _, hm, hc => by
   rw [show parts1 [] ++ m = m from rfl, List.append_nil]
   cases f with
   | zero => rfl
   | succ f => unfold partsGo; rw [if_neg (by rw [skip_head hc]; simp)]
 | n :: p, 0, _, _, h, _, _, _ => by simp at h
 | n :: p, f + 1, acc, m, h, ho, hm, hc => by
   unfold partsGo
   rw [show parts1 (n :: p) ++ m = [58] ++ (textL n ++ (parts1 p ++ m)) by simp [parts1]]
   rw [if_pos (skipB_app _ _)]
   rw [show (([58] : List UInt8) ++ (textL n ++ (parts1 p ++ m))).drop 1 = textL n ++ (parts1 p ++ m) from rfl]
   obtain ⟨h0, h1⟩ := ho n (List.mem_cons_self ..)
   have hh : (parts1 p ++ m).head?.any isD = false := by
    cases p with
    | nil => exact hm
    | cons k p => rfl
   rw [partF_put n h0 h1 _ hh]
   dsimp only
   rw [partsGo_put p f _ m (by simpa using h) (fun x hx => ho x (List.mem_cons_of_mem _ hx)) hm hc]
   simp
theorem partsF_put (p : List Int) (m : List UInt8) (h1 : 1 ≤ p.length) (h2 : p.length ≤ 8) (ho : partOk p) (hm : m.head?.any isD = false) (hc : m.head? ≠ some 58) : partsF (partL p ++ m) = (p, m) := by
 match p, h1 with
 | n :: p, _ =>
   unfold partsF
   rw [partL_cons, List.append_assoc]
   obtain ⟨h0, h3⟩ := ho n (List.mem_cons_self ..)
   have hh : (parts1 p ++ m).head?.any isD = false := by
    cases p with
    | nil => exact hm
    | cons k p => rfl
   rw [partF_put n h0 h3 _ hh]
   dsimp only
   rw [partsGo_put p 7 _ m (by simpa using h2) (fun x hx => ho x (List.mem_cons_of_mem _ hx)) hm hc]
   rfl
theorem paramsGo_put : ∀ (p : List (List Int)) (f : Nat) (acc : List (List Int)) (m : List UInt8), p.length ≤ f → parsOk p → m.head?.any isD = false → m.head? ≠ some 58 → m.head? ≠ some 59 → paramsGo f acc (params1 p ++ m) = (acc ++ p, m)
 | [], f, acc, m, _, _, hm, hc, hs => by
   rw [show params1 [] ++ m = m from rfl, List.append_nil]
   cases f with
   | zero => rfl
   | succ f => unfold paramsGo; rw [if_neg (by rw [skip_head hs]; simp)]
 | n :: p, 0, _, _, h, _, _, _, _ => by simp at h
 | n :: p, f + 1, acc, m, h, ho, hm, hc, hs => by
   unfold paramsGo
   rw [show params1 (n :: p) ++ m = [59] ++ (partL n ++ (params1 p ++ m)) by simp [params1]]
   rw [if_pos (skipB_app _ _)]
   rw [show (([59] : List UInt8) ++ (partL n ++ (params1 p ++ m))).drop 1 = partL n ++ (params1 p ++ m) from rfl]
   obtain ⟨h0, h1, h2⟩ := ho n (List.mem_cons_self ..)
   have hh : (params1 p ++ m).head?.any isD = false ∧ (params1 p ++ m).head? ≠ some 58 := by
    cases p with
    | nil => exact ⟨hm, hc⟩
    | cons k p => exact ⟨rfl, by simp [params1]⟩
   rw [partsF_put n _ h1 h2 h0 hh.1 hh.2]
   dsimp only
   rw [paramsGo_put p f _ m (by simpa using h) (fun x hx => ho x (List.mem_cons_of_mem _ hx)) hm hc hs]
   simp
def offP (m : List UInt8) : Prop := m.head?.any (btw 48 59) = false
theorem offP.parts {m : List UInt8} (h : offP m) : m.head?.any isD = false ∧ m.head? ≠ some 58 ∧ m.head? ≠ some 59 := by
 cases m with
 | nil => exact ⟨rfl, by simp, by simp⟩
 | cons c m =>
   have h' : btw 48 59 c = false := h
   have h2 := (btw_no _ _ _).1 h'
   refine ⟨?_, ?_, ?_⟩
   ·show isD c = false
    unfold isD
    exact decide_eq_false (by omega)
   ·simp; rintro rfl; exact absurd h' (by decide)
   ·simp; rintro rfl; exact absurd h' (by decide)
theorem paramsF_put (ps : List (List Int)) (m : List UInt8) (hp : parOk ps = true) (hm : offP m) : paramsF (parL ps ++ m) = (ps, m) := by
 obtain ⟨m1, m2, m3⟩ := hm.parts
 have hp' := hp
 simp only [parOk, Bool.and_eq_true, decide_eq_true_eq, List.all_eq_true] at hp'
 obtain ⟨⟨hl, hne⟩, ha⟩ := hp'
 have ho : parsOk ps := fun p h => ⟨fun n hn => (ha p h).2 n hn, (ha p h).1⟩
 match ps with
 | [] =>
   have e1 : partsF m = ([-1], m) := by
    have := partsF_put [-1] m (by simp) (by simp) (fun n hn => by rw [List.mem_singleton] at hn; omega) m1 m2
    rwa [show partL [-1] = ([] : List UInt8) from textL_neg _ (by omega), List.nil_append] at this
   have e2 := paramsGo_put [] 15 [[-1]] m (by simp) (fun p hp => by cases hp) m1 m2 m3
   rw [show params1 [] ++ m = m from rfl] at e2
   unfold paramsF
   rw [show parL [] ++ m = m from rfl, e1]
   dsimp only
   rw [e2]
   rfl
 | p :: ps =>
   obtain ⟨h0, h1, h2⟩ := ho p (List.mem_cons_self ..)
   have hh : (params1 ps ++ m).head?.any isD = false ∧ (params1 ps ++ m).head? ≠ some 58 := by
    cases ps with
    | nil => exact ⟨m1, m2⟩
    | cons k p => exact ⟨rfl, by simp [params1]⟩
   have e1 := partsF_put p (params1 ps ++ m) h1 h2 h0 hh.1 hh.2
   have e2 := paramsGo_put ps 15 [p] m (by simp at hl; omega) (fun x hx => ho x (List.mem_cons_of_mem _ hx)) m1 m2 m3
   unfold paramsF
   rw [parL_cons, List.append_assoc, e1]
   dsimp only
   rw [e2]
   unfold noneL
   rw [if_neg (show ¬ (([p] ++ ps, m) : List (List Int) × List UInt8).1 = [[-1]] from hne)]
   rfl
end Go.Proofs.YtdfojkbgdoiglaaGreatDoor
namespace Go.Proofs.YtdfojkbgdoiglaaGreatDoor
open Go.RowKit
set_option maxRecDepth 100000 in
set_option maxHeartbeats 4000000 in
theorem eq_any (A B : Option Addr) (c d : Nat) (a b : List Int) (w : World) (hl : a.length ≤ 4294967296) (hl2 : b.length ≤ 4294967296) (hra : Rd w A (is_ a)) (hrb : Rd w B (is_ b)) :
 Calls Tryz.prog 75 #[.slice A a.length c, .slice B b.length d] w fun e w' => e = .returned (.bool (decide (a = b))) ∧ Below w.heap.size w w' := by
 by_cases hlen : a.length = b.length
 ·go_enter Tryz.func75, Tryz.ntmps75
  go_wp2
  go_loopw [13] (fun i wr => ∃ k : Nat, k ≤ a.length ∧ i = .int .i64 k ∧ a.take k = b.take k ∧ Below w.heap.size w wr) (fun i _ => a.length - (intOf i).toNat)
  case atStart => exact ⟨0, Nat.zero_le _, rfl, rfl, Below.refl _ _⟩
  case round =>
   obtain ⟨k, hk, rfl, hab, hbw⟩ := hrel
   have HAB := Lib.hid hab
   clear hab
   by_cases hlt : k < a.length
   ·have hltb : k < b.length := by omega
    obtain ⟨p, o, rfl, hp, hc⟩ := hra.int_at (by omega)
    obtain ⟨q, u, rfl, hq, hd⟩ := hrb.int_at (by omega)
    have hck := (hbw.cell (p := ⟨p, o + k, none⟩) hp).trans (hc k hlt)
    have hdk := (hbw.cell (p := ⟨q, u + k, none⟩) hq).trans (hd k hltb)
    clear hc hd
    have g0 : (0 : Int) ≤ (k : Int) := by omega
    have g1 : (k : Int) < (a.length : Int) := by omega
    have g2 : (k : Int) < (b.length : Int) := by omega
    by_cases he : a[k]'hlt = b[k]'hltb
    ·have H := Lib.hid (show a.take (k + 1) = b.take (k + 1) by rw [List.take_succ_eq_append_getElem hlt, List.take_succ_eq_append_getElem hltb, HAB.out, he])
     obtain ⟨x, hx⟩ : ∃ x, a[k]'hlt = x := ⟨_, rfl⟩
     obtain ⟨y, hy⟩ : ∃ y, b[k]'hltb = y := ⟨_, rfl⟩
     rw [hx] at hck he
     rw [hy] at hdk he
     subst he
     clear hx hy
     go_wp2
     go_quiet (fail)
     go_wp2
     go_roundw
     case rel => exact ⟨k + 1, by omega, by go_num, H.out, below_drewN hbw _⟩
     case measure => simp [intOf]; omega
    ·have E := Lib.hid (show decide (a = b) = false from decide_eq_false (fun e => he (by subst e; rfl)))
     have t1 : (a[k]'hlt == b[k]'hltb) = false := beq_false_of_ne he
     have t2 : (a[k]'hlt != b[k]'hltb) = true := by simp [bne, t1]
     clear he
     go_wp2
     go_quiet (fail)
     go_wp2
     go_ret
     exact ⟨ret_b E.out.symm, below_drewN hbw _⟩
   ·have E := Lib.hid (show decide (a = b) = true from decide_eq_true (by
     have h1 := HAB.out
     rw [List.take_of_length_le (by omega), List.take_of_length_le (by omega)] at h1
     exact h1))
    go_wp2
    go_ret
    exact ⟨ret_b E.out.symm, hbw⟩
 ·have E := Lib.hid (show decide (a = b) = false from decide_eq_false (fun e => hlen (by rw [e])))
  have t1 : ((a.length : Int) == (b.length : Int)) = false := beq_false_of_ne (by omega)
  have t2 : ((a.length : Int) != (b.length : Int)) = true := by simp [bne, t1]
  clear hlen
  go_enter Tryz.func75, Tryz.ntmps75
  go_wp2
  go_ret
  exact ⟨ret_b E.out.symm, Below.refl _ _⟩
theorem eq_at (A B : Option Addr) (n m c d : Nat) (a b : List Int) (q : Bool) (w : World) (hn : a.length = n) (hm : b.length = m) (hq : decide (a = b) = q) (hl : n ≤ 4294967296) (hl2 : m ≤ 4294967296) (hra : Rd w A (is_ a)) (hrb : Rd w B (is_ b)) :
 Calls Tryz.prog 75 #[.slice A n c, .slice B m d] w fun e w' => e = .returned (.bool q) ∧ Below w.heap.size w w' := by
 subst hn hm hq
 exact eq_any A B c d a b w hl hl2 hra hrb
end Go.Proofs.YtdfojkbgdoiglaaGreatDoor
