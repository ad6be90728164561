/-
  A map that a literal makes, its entries laid in whatever order the region draws: what it reads as at the end.
-/
import Derived.Test.YtfifeofmfpjgfaaDoorG01
import Derived.Maps.OwnSet
import Derived.Maps.Ext
import Derived.Orders
import Derived.Carry
namespace Go.Proofs.YtfifeofmfpjgfaaDoor
open Go.RowKit Go.Maps Go.ChangeMaps
section
def hel (v : Value) : Option (DataW Value × List MemPlace) := some (.held v, [])
section
variable {P : Program} {ops : Array Oper} {Q : Exit → Act → World → Prop} {md : Region.Mode}
inductive Takes (P : Program) (md : Region.Mode) (ops : Array Oper) : Nat → Array Bool → Act → Array Bool → Act → Prop
 | nil {l a} : Takes P md ops 0 l a l a
 | cons {n l a l' a'} (i : Nat) {o : Oper} (v : Value) (hi : ops[i]? = some o) (hf : Region.free md ops l i = true) (hr : (Region.ready md ops l).contains i = true)
    (hy : Yields P ops o v a) (h : Takes P md ops n (l.setIfInBounds i true) (a.put o.dst v) l' a') : Takes P md ops (n + 1) l a l' a'
theorem wpAny_takes (hs : Region.noSelect ops = true) (hQ : ∀ c a d v w, Q (.panic c) (a.put d v) w → Q (.panic c) a w) {n : Nat} {l l' : Array Bool} {a a' : Act} (h : Takes P md ops n l a l' a') :
 ∀ {fuel : Nat} {w : World}, wpAny P md ops Q fuel l' a' w → wpAny P md ops Q (fuel + n) l a w := by
 induction h with
 | nil => exact fun h => h
 | cons i v hi hf hr hy _ ih => exact fun h => wpAny_take hi hs hf hr (fun c a w => hQ c a _ v w) hy (ih h)
theorem Takes.done {l l' : Array Bool} {a a' : Act} (hl : l = l') (ha : a = a') : Takes P md ops 0 l a l' a' := by
 subst hl ha
 exact .nil
theorem wpOp_make {T : TypeId} {i : Nat} {o : Oper} (hi : ops[i]? = some o) (hop : o.op = .makeMap T none) (hg : o.guard = none) {a : Act} {w : World} {G : Act → World → Prop} (h : G (a.put o.dst (.map (some w.heap.size))) (w.alloc (.map #[] 0))) : wpOp P ops Q i G a w := by
 unfold wpOp
 simp only [hi, Region.wanted, hg]
 refine .inl ?_
 unfold Oper.wp
 have e : (execOp a.eval o).run P w = .ok (.value (.map (some w.heap.size))) (w.alloc (.map #[] 0)) := by
  unfold execOp
  rw [hop]
  simp [run_makeMap, Result.andThen]
 rw [e, Oper.upon_value]
 exact h
theorem wpAny_only {i fuel : Nat} {l : Array Bool} {a : Act} {w : World} (hr : Region.ready md ops l = [i]) (h : wpOp P ops Q i (wpAny P md ops Q fuel (l.setIfInBounds i true)) a w) : wpAny P md ops Q (fuel + 1) l a w :=
 wpAny_all hr (by simp) fun j hj => by
  obtain rfl := List.mem_singleton.1 hj
  exact h
theorem all_cons {α : Type} {X : α → Prop} {x : α} {l : List α} (h : X x) (hs : ∀ y ∈ l, X y) : ∀ y ∈ x :: l, X y := fun y hy => by
 rcases List.mem_cons.1 hy with rfl | hy
 ·exact h
 ·exact hs y hy
theorem all_nil {α : Type} {X : α → Prop} : ∀ y ∈ ([] : List α), X y := fun _ hy => by cases hy
structure Ent where
 i : Nat
 key : Lit
 val : Value
structure IsIns (P : Program) (ops : Array Oper) (T K : TypeId) (a : Act) (b : Nat) (p : Ent) : Prop where
 all : ∃ o m x v key, ops[p.i]? = some o ∧ o.op = .insert T m x v ∧ o.guard = none ∧ o.dst = none ∧ a.eval m = .map (some b) ∧ a.eval x = key ∧ keyOf P K key = some p.key ∧ a.eval v = p.val
structure LaidBut (P : Program) (K : TypeId) (b : Nat) (I R : List Ent) (w0 w : World) (D : DataW Value) : Prop where
 own : w.ownsMap P K hel b (I.length - R.length) D
 grown : w0.grownBy w (some b)
 there : ∀ p ∈ I, p ∉ R → ∀ z, D.atKey p.key z = .held p.val
 nokey : ∀ k, (∀ p ∈ I, p ∈ R ∨ p.key ≠ k) → ∀ z, D.atKey k z = z
def insCheck (md : Region.Mode) (ops : Array Oper) (L1 : Array Bool) (I : List Nat) : Bool :=
 (List.range ops.size).all fun j =>
   match ops[j]? with
   | none => true
   | some o =>
     if I.contains j then o.after.all (fun e => !Region.binds md e || (L1.getD e.on false && !I.contains e.on))
     else L1.getD j true || I.all (fun i => o.after.any fun e => Region.binds md e && e.on == i)
def Come (L1 l : Array Bool) (R : List Nat) : Prop := l.size = L1.size ∧ ∀ j, j < L1.size → l[j]? = if j ∈ R then some false else L1[j]?
theorem Come.getD {L1 l : Array Bool} {R : List Nat} (h : Come L1 l R) {j : Nat} (hj : j < L1.size) (d : Bool) : l.getD j d = if j ∈ R then false else L1.getD j d := by
 have := h.2 j hj
 rw [Array.getD_eq_getD_getElem?, Array.getD_eq_getD_getElem?, this]
 split <;> simp
theorem Come.nil {L1 l : Array Bool} (h : Come L1 l []) : l = L1 := by
 apply Array.ext_getElem?
 intro j
 by_cases hj : j < L1.size
 ·simpa using h.2 j hj
 ·rw [Array.getElem?_eq_none (by rw [h.1]; omega), Array.getElem?_eq_none (by omega)]
theorem Come.start {L1 : Array Bool} {R : List Nat} {l : Array Bool} (h : l.size = L1.size) (hh : ((List.range L1.size).all fun j => l[j]? == if R.contains j then some false else L1[j]?) = true) : Come L1 l R :=
 ⟨h, fun j hj => by
   have := List.all_eq_true.1 hh j (List.mem_range.2 hj)
   have h2 := eq_of_beq this
   rw [h2]
   by_cases hc : j ∈ R
   ·simp [hc]
   ·simp [hc]⟩
theorem Come.step {L1 l : Array Bool} {R : List Nat} (h : Come L1 l R) {i : Nat} (hi : L1[i]? = some true) (hn : R.Nodup) : Come L1 (l.setIfInBounds i true) (R.erase i) := by
 have hlt : i < L1.size := (Array.getElem?_eq_some_iff.1 hi).1
 refine ⟨by rw [Array.size_setIfInBounds]; exact h.1, fun j hj => ?_⟩
 by_cases hij : i = j
 ·subst hij
  rw [Array.getElem?_setIfInBounds_self_of_lt (by rw [h.1]; exact hlt), if_neg (fun hm => (List.Nodup.mem_erase_iff hn).1 hm |>.1 rfl), hi]
 ·rw [Array.getElem?_setIfInBounds_ne hij, h.2 j hj]
  by_cases hm : j ∈ R
  ·rw [if_pos hm, if_pos ((List.Nodup.mem_erase_iff hn).2 ⟨fun e => hij e.symm, hm⟩)]
  ·rw [if_neg hm, if_neg (fun hm' => hm (List.mem_of_mem_erase hm'))]
theorem ready_of_check {L1 l : Array Bool} {I R : List Nat} (hc : insCheck md ops L1 I = true) (hsz : L1.size = ops.size) (hI : ∀ i ∈ I, L1[i]? = some true) (hl : Come L1 l R) (hR : ∀ i ∈ R, i ∈ I) (hne : R ≠ []) :
 ∀ j, j ∈ Region.ready md ops l ↔ j ∈ R := by
 intro j
 rw [mem_ready]
 constructor
 ·rintro ⟨h0, o, ho, hall⟩
  have hj : j < ops.size := (Array.getElem?_eq_some_iff.1 ho).1
  rw [hl.getD (by omega)] at h0
  by_cases hm : j ∈ R
  ·exact hm
  ·exfalso
   rw [if_neg hm] at h0
   have h1 := List.all_eq_true.1 hc j (List.mem_range.2 hj)
   simp only [ho] at h1
   by_cases hjI : I.contains j = true
   ·have := hI j (by simpa using hjI)
    rw [Array.getD_eq_getD_getElem?, this] at h0
    cases h0
   ·rw [if_neg hjI, h0, Bool.false_or] at h1
    obtain ⟨r, rest, rfl⟩ := List.exists_cons_of_ne_nil hne
    have h2 := List.all_eq_true.1 h1 r (hR r (List.mem_cons_self ..))
    obtain ⟨e, he, hb⟩ := Array.any_eq_true'.1 h2
    simp only [Bool.and_eq_true, beq_iff_eq] at hb
    have h3 := hall e he hb.1
    rw [hb.2] at h3
    have hrl : r < L1.size := (Array.getElem?_eq_some_iff.1 (hI r (hR r (List.mem_cons_self ..)))).1
    rw [hl.getD hrl, if_pos (List.mem_cons_self ..)] at h3
    cases h3
 ·intro hm
  have hjI := hR j hm
  have hlt : j < L1.size := (Array.getElem?_eq_some_iff.1 (hI j hjI)).1
  have ho : ops[j]? = some ops[j] := Array.getElem?_eq_getElem (by omega)
  refine ⟨by rw [hl.getD hlt, if_pos hm], ops[j], ho, fun e he hb => ?_⟩
  have h1 := List.all_eq_true.1 hc j (List.mem_range.2 (by omega))
  simp only [ho] at h1
  rw [if_pos (by simpa using hjI)] at h1
  have h2 := Array.all_eq_true_iff_forall_mem.1 h1 e he
  simp only [hb, Bool.not_true, Bool.false_or, Bool.and_eq_true, Bool.not_eq_true'] at h2
  have hon : e.on < L1.size := by
   rcases Nat.lt_or_ge e.on L1.size with h | h
   ·exact h
   ·have := h2.1
    rw [Array.getD_eq_getD_getElem?, Array.getElem?_eq_none h] at this
    cases this
  have hnR : e.on ∉ R := fun h => by
   have := hR _ h
   have h3 := h2.2
   simp [this] at h3
  rw [hl.getD hon, if_neg hnR]
  exact h2.1
theorem wpOp_insert {T K E : TypeId} (KK : Keyed P K) (hT : P.underlying T = some (.map K E)) {a : Act} {b n : Nat} {p : Ent} (hp : IsIns P ops T K a b p) {D : DataW Value} {w : World} (hown : w.ownsMap P K hel b n D) (hn : n < maxLen) {G : Act → World → Prop}
 (hK : ∀ w', w'.ownsMap P K hel b (n + 1) (D.put p.key (.held p.val)) → w.mapTurned w' b → G a w') : wpOp P ops Q p.i G a w := by
 obtain ⟨o, m, x, v, key, ho, hop, hg, hd, hm, hx, hkey, hv⟩ := hp.all
 obtain ⟨w', hrun, h1, h2⟩ := hown.store KK hT hn hkey (show hel p.val = some (.held p.val, []) from rfl)
 unfold wpOp
 simp only [ho, Region.wanted, hg]
 refine .inl ?_
 unfold Oper.wp
 have e : (execOp a.eval o).run P w = .ok .skip w' := by
  unfold execOp
  rw [hop]
  simp [hm, hx, hv, hrun, Result.andThen]
 rw [e, Oper.upon_skip, hd]
 exact hK w' h1 h2
theorem inj_of_nodup {α β : Type} {f : α → β} : ∀ {l : List α}, (l.map f).Nodup → ∀ {x y : α}, x ∈ l → y ∈ l → f x = f y → x = y
 | [], _, _, _, h, _, _ => by cases h
 | z :: l, hn, x, y, hx, hy, e => by
   rw [List.map_cons, List.nodup_cons] at hn
   rcases List.mem_cons.1 hx with h1 | h1
   ·rcases List.mem_cons.1 hy with h2 | h2
    ·rw [h1, h2]
    ·exact absurd (List.mem_map.2 ⟨y, h2, by rw [← e, h1]⟩) hn.1
   ·rcases List.mem_cons.1 hy with h2 | h2
    ·exact absurd (List.mem_map.2 ⟨x, h1, by rw [e, h2]⟩) hn.1
    ·exact inj_of_nodup hn.2 h1 h2 e
theorem wpAny_inserts {T K E : TypeId} (KK : Keyed P K) (hT : P.underlying T = some (.map K E)) {a : Act} {b : Nat} {I : List Ent} {L1 : Array Bool} {w0 : World} (hI : ∀ p ∈ I, IsIns P ops T K a b p)
 (hc : insCheck md ops L1 (I.map (·.i)) = true) (hsz : L1.size = ops.size) (hL : ∀ i ∈ I.map (·.i), L1[i]? = some true) (hnd : (I.map (·.i)).Nodup) (hkn : (I.map (·.key)).Nodup) (hkl : ∀ p ∈ I, WideAt.IsKeyLit p.key) (hlen : I.length < maxLen)
 {fuel : Nat} (hK : ∀ w D, LaidBut P K b I [] w0 w D → wpAny P md ops Q fuel L1 a w) :
 ∀ (n : Nat) (R : List Ent) (l : Array Bool) (w : World) (D : DataW Value), R.length = n → R.Sublist I → Come L1 l (R.map (·.i)) → LaidBut P K b I R w0 w D → wpAny P md ops Q (fuel + n) l a w := by
 intro n
 induction n with
 | zero =>
   intro R l w D hn hs hl hD
   obtain rfl : R = [] := List.eq_nil_of_length_eq_zero hn
   rw [hl.nil]
   exact hK w D hD
 | succ n ih =>
   intro R l w D hn hs hl hD
   have hne : R ≠ [] := fun e => by rw [e] at hn; cases hn
   have hmem := ready_of_check hc hsz hL hl (fun i hi => by
    obtain ⟨p, hp, rfl⟩ := List.mem_map.1 hi
    exact List.mem_map.2 ⟨p, hs.subset hp, rfl⟩) (by simpa using hne)
   refine ⟨fun h0 => ?_, fun j hj => ?_⟩
   ·exfalso
    obtain ⟨r, rest, rfl⟩ := List.exists_cons_of_ne_nil hne
    have := (hmem r.i).2 (List.mem_map.2 ⟨r, List.mem_cons_self .., rfl⟩)
    rw [h0] at this
    cases this
   ·obtain ⟨p, hp, rfl⟩ := List.mem_map.1 ((hmem j).1 hj)
    have hpI := hs.subset hp
    have hRn : (R.map (·.i)).Nodup := hnd.sublist (hs.map _)
    have hIlen : R.length ≤ I.length := hs.length_le
    refine wpOp_insert KK hT (hI p hpI) hD.own (by omega) fun w' h1 h2 => ?_
    have hinj : ∀ q ∈ I, q.i = p.i → q = p := fun q hq e => by
     exact inj_of_nodup hnd hq hpI e
    have hkinj : ∀ q ∈ I, q.key = p.key → q = p := fun q hq e => inj_of_nodup hkn hq hpI e
    obtain ⟨R1, R2, rfl⟩ := List.append_of_mem hp
    have hsub : (R1 ++ R2).Sublist (R1 ++ p :: R2) := (List.append_sublist_append_left R1).2 (List.sublist_cons_self p R2)
    have hpn : p ∉ R1 ++ R2 := fun hm => by
     rw [List.map_append, List.map_cons] at hRn
     have h3 := (List.nodup_append.1 hRn)
     have h4 := List.nodup_cons.1 h3.2.1
     rcases List.mem_append.1 hm with h | h
     ·exact h3.2.2 p.i (List.mem_map.2 ⟨p, h, rfl⟩) p.i (List.mem_cons_self ..) rfl
     ·exact h4.1 (List.mem_map.2 ⟨p, h, rfl⟩)
    refine ih (R1 ++ R2) _ w' (D.put p.key (.held p.val)) (by simp at hn ⊢; omega) (hsub.trans hs) ?_ ?_
    ·have h5 := hl.step (hL p.i (List.mem_map.2 ⟨p, hpI, rfl⟩)) hRn
     have h6 : ((R1 ++ p :: R2).map (·.i)).erase p.i = (R1 ++ R2).map (·.i) := by
      rw [List.map_append, List.map_cons, List.map_append, List.erase_append_right, List.erase_cons_head]
      rw [List.map_append, List.map_cons] at hRn
      intro hm
      exact (List.nodup_append.1 hRn).2.2 p.i hm p.i (List.mem_cons_self ..) rfl
     rw [h6] at h5
     exact h5
    ·have hm := hD.own.isMap
     refine ⟨h1.mono (by simp at hIlen ⊢; omega), hD.grown.trans h2.grown, fun q hq hnq z => ?_, fun k hk z => ?_⟩
     ·by_cases e : q = p
      ·subst e
       exact atKey_put_same hm (hkl q hq) _ z
      ·rw [atKey_put_other (fun e' => e (hkinj q hq e'))]
       refine hD.there q hq (fun hm' => hnq ?_) z
       rcases List.mem_append.1 hm' with h | h
       ·exact List.mem_append_left _ h
       ·rcases List.mem_cons.1 h with h | h
        ·exact absurd h e
        ·exact List.mem_append_right _ h
     ·have hkp : p.key ≠ k := (hk p hpI).resolve_left hpn
      rw [atKey_put_other (fun e => hkp e.symm)]
      exact hD.nokey k (fun q hq => (hk q hq).imp (fun h => hsub.subset h) id) z
theorem LaidBut.eq {K : TypeId} (KK : Keyed P K) {b : Nat} {I : List Ent} {w0 w : World} {D : DataW Value} (h : LaidBut P K b I [] w0 w D) {L : List (Lit × DataW Value)} (hr : L.Pairwise (fun p q => p.1.before q.1 = true)) (hk : ∀ p ∈ L, WideAt.IsKeyLit p.1)
 (h1 : ∀ p ∈ I, ((p.key, DataW.held p.val) : Lit × DataW Value) ∈ L) (h2 : ∀ q ∈ L, ∃ p ∈ I, q = (p.key, DataW.held p.val)) : D = .map L := by
 have hkI : ∀ p ∈ I, WideAt.IsKeyLit p.key := fun p hp => hk _ (h1 p hp)
 have at1 : ∀ p ∈ I, ∀ z, (DataW.map L : DataW Value).atKey p.key z = .held p.val := fun p hp z => WideAt.atKey_mem z (hkI p hp) (apart_of_rising hr) (h1 p hp)
 have at2 : ∀ k, (∀ p ∈ I, p.key ≠ k) → ∀ z, (DataW.map L : DataW Value).atKey k z = z := fun k hk' z => WideAt.atKey_none z (fun q hq => by
  obtain ⟨p, hp, rfl⟩ := h2 q hq
  exact hk' p hp)
 have key : ∀ k, (∃ p ∈ I, p.key = k) ∨ ∀ p ∈ I, p.key ≠ k := fun k => by
  by_cases e : ∃ p ∈ I, p.key = k
  ·exact .inl e
  ·exact .inr fun p hp hh => e ⟨p, hp, hh⟩
 refine Maps.ext (h.own.canon KK) ⟨L, rfl, hr, hk⟩ (fun k => ?_) (fun k z hh => ?_)
 ·rcases key k with ⟨p, hp, rfl⟩ | hn
  ·rw [has_true_of_atKey (h.there p hp (by simp)), has_true_of_atKey (at1 p hp)]
  ·rw [has_false_of_atKey (h.nokey k fun p hp => .inr (hn p hp)), has_false_of_atKey (at2 k hn)]
 ·rcases key k with ⟨p, hp, rfl⟩ | hn
  ·rw [h.there p hp (by simp), at1 p hp]
  ·rw [h.nokey k (fun p hp => .inr (hn p hp)), at2 k hn]
end
end
end Go.Proofs.YtfifeofmfpjgfaaDoor
