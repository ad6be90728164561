/-
  Words for memory that several things share: what has a footprint (a set of blocks), and stays as it is wherever only other blocks turn; append that tells which block its row lies in; copy into a row of the call's own; slices cut short. Layer 3's mathematics: what a reader of bytes reads, a piece at a time; that it is just the sequence with which the bytes begin.
-/
import Derived.Test.YtmagokkegadmiaaDoorG03
import Derived.Test.YtmagokkegadmiaaDoorG05
import Derived.Laws.IdiomCopy
import Derived.Laws.Slices
namespace Go.Proofs.YtmagokkegadmiaaDoor
open Go.RowKit

/-- Nothing turns but blocks of S, and new ones. -/
structure Fr (w w' : World) (S : Nat → Prop) : Prop where
  os : w'.os = w.os
  tape : w'.tape = w.tape
  output : w'.output = w.output
  size : w.heap.size ≤ w'.heap.size
  block : ∀ k, k < w.heap.size → ¬ S k → w'.heap[k]? = w.heap[k]?
/-- S' is S, but for new blocks. -/
def Wid (w : World) (S S' : Nat → Prop) : Prop := ∀ k, S' k → S k ∨ w.heap.size ≤ k

section
variable {w w' w'' : World} {S S' S'' : Nat → Prop}
theorem Fr.refl (w : World) (S : Nat → Prop) : Fr w w S := ⟨rfl, rfl, rfl, Nat.le_refl _, fun _ _ _ => rfl⟩
theorem Fr.drewN (w : World) (n : Nat) (S : Nat → Prop) : Fr w (w.drewN n) S := ⟨rfl, rfl, rfl, Nat.le_refl _, fun _ _ _ => rfl⟩
theorem Fr.mono (h : Fr w w' S) (hS : ∀ k, S k → S' k) : Fr w w' S' := ⟨h.os, h.tape, h.output, h.size, fun k hk hn => h.block k hk (fun hs => hn (hS k hs))⟩
theorem Fr.trans (h : Fr w w' S) (h' : Fr w' w'' S') (hS : ∀ k, S' k → S k ∨ w.heap.size ≤ k) : Fr w w'' S :=
  ⟨h'.os.trans h.os, h'.tape.trans h.tape, h'.output.trans h.output, Nat.le_trans h.size h'.size, fun k hk hn => (h'.block k (Nat.lt_of_lt_of_le hk h.size) (fun hs => by rcases hS k hs with h1 | h1; exact hn h1; omega)).trans (h.block k hk hn)⟩
theorem Fr.of_below (h : Below w.heap.size w w') (S : Nat → Prop) : Fr w w' S := ⟨h.os, h.tape, h.output, h.size, fun k hk _ => h.block k hk⟩
theorem Fr.of_grown {row : Option Nat} (h : w.grownBy w' row) : Fr w w' (fun k => row = some k) := ⟨h.os, h.tape, h.output, h.size, fun k hk hn => h.block k hk (fun e => hn e.symm)⟩
theorem Fr.setCell (w : World) (g i : Nat) (u : Value) (S : Nat → Prop) (h : S g) : Fr w (w.setCell ⟨g, i, none⟩ u) S :=
  ⟨rfl, rfl, rfl, by simp [World.setCell], fun k _ hn => Below.heap_setCell w ⟨g, i, none⟩ u k (fun e => hn (by rw [show k = g from e]; exact h))⟩
theorem Fr.below {B : Nat} (h : Fr w w' S) (hB : B ≤ w.heap.size) (hS : ∀ k, S k → B ≤ k) : Below B w w' :=
  ⟨h.os, h.tape, h.output, h.size, fun k hk => h.block k (by omega) (fun hs => by have := hS k hs; omega)⟩
theorem Wid.refl (w : World) (S : Nat → Prop) : Wid w S S := fun _ h => .inl h
theorem Wid.trans (h : Wid w S S') (h' : Wid w' S' S'') (hs : w.heap.size ≤ w'.heap.size) : Wid w S S'' := fun k hk => by
  rcases h' k hk with h1 | h1
  · exact h k h1
  · exact .inr (by omega)
/-- What lies outside S, and was there, lies outside S', too. -/
theorem Wid.out (h : Wid w S S') {k : Nat} (hk : k < w.heap.size) (hn : ¬ S k) : ¬ S' k := fun hs => by
  rcases h k hs with h1 | h1
  · exact hn h1
  · omega

theorem Blk.fr {g : Nat} {t : TypeId} {cs : Array Value} (h : Blk w g t cs) (hf : Fr w w' S) (hn : ¬ S g) : Blk w' g t cs := (hf.block g h.lt hn).trans h
theorem Own.fr {base : Nat} {e : TypeId} {sz : Nat} {v : Value} {n : Nat} {xs : List Value} (h : Own w base e sz v n xs) (hf : Fr w w' S) (hn : ∀ k, v.ownBlock = some k → ¬ S k) : Own w' base e sz v n xs :=
  h.keep fun k hk => hf.block k (h.lt k hk).2 (hn k hk)

/-- A slice that reads as xs, and lies outside S. -/
def RdOff (w : World) (S : Nat → Prop) (A : Option Addr) (xs : List Value) : Prop :=
  0 < xs.length → ∃ b o, A = some ⟨b, o, none⟩ ∧ b < w.heap.size ∧ ¬ S b ∧ ∀ k u, xs[k]? = some u → w.cell? ⟨b, o + k, none⟩ = some u
variable {A : Option Addr} {xs : List Value}
theorem RdOff.nil (w : World) (S : Nat → Prop) (A : Option Addr) : RdOff w S A [] := fun h => absurd h (by simp)
theorem RdOff.rd (h : RdOff w S A xs) : Rd w A xs := fun hp => by
  obtain ⟨b, o, rfl, hb, _, hc⟩ := h hp
  exact ⟨b, o, rfl, hb, hc⟩
theorem RdOff.fr (h : RdOff w S A xs) (hf : Fr w w' S) (hw : Wid w S S') : RdOff w' S' A xs := fun hp => by
  obtain ⟨b, o, rfl, hb, hn, hc⟩ := h hp
  exact ⟨b, o, rfl, Nat.lt_of_lt_of_le hb hf.size, hw.out hb hn, fun k u hu => (World.cell?_of_block (w := w) (a := ⟨b, o + k, none⟩) (hf.block b hb hn)).trans (hc k u hu)⟩
theorem RdOff.of_rdIn {n₁ : Nat} (h : RdIn n₁ w A xs) (hn : n₁ ≤ w.heap.size) (hS : ∀ k, S k → n₁ ≤ k) : RdOff w S A xs := fun hp => by
  obtain ⟨b, o, rfl, hb, hc⟩ := h hp
  exact ⟨b, o, rfl, by omega, fun hs => by have := hS b hs; omega, hc⟩
theorem RdOff.mono (h : RdOff w S A xs) (hS : ∀ k, S' k → S k) : RdOff w S' A xs := fun hp => by
  obtain ⟨b, o, rfl, hb, hn, hc⟩ := h hp
  exact ⟨b, o, rfl, hb, fun hs => hn (hS b hs), hc⟩
/-- What was there ahead of all of S. -/
theorem RdOff.ahead (h : Rd w A xs) (hb : Below w.heap.size w w') (hS : ∀ k, S k → w.heap.size ≤ k) : RdOff w' S A xs := RdOff.of_rdIn ((RdIn.of h).below hb) hb.size hS
/-- What lies in a block behind all of S. -/
theorem RdOff.new (S : Nat → Prop) (o : Obj) (h : Rd (w.alloc o) (some ⟨w.heap.size, 0, none⟩) xs) (hS : ∀ k, S k → k < w.heap.size) : RdOff (w.alloc o) S (some ⟨w.heap.size, 0, none⟩) xs := fun hp => by
  obtain ⟨b, o', hA, hlt, hc⟩ := h hp
  injection hA with hA
  injection hA with h1 h2
  subst h1 h2
  exact ⟨w.heap.size, 0, rfl, hlt, fun hs => Nat.lt_irrefl _ (hS _ hs), hc⟩
theorem RdOff.of_own {base : Nat} {e : TypeId} {n : Nat} {c : Nat} (h : Own w base e 1 (.slice A n c) n xs) (hS : ∀ k, (Value.slice A n c).ownBlock = some k → ¬ S k) : RdOff w S A xs := fun hp => by
  have hl := h.1
  obtain ⟨g, cap, hv, _, hg, _⟩ := h.some_ (by omega)
  injection hv with hA
  subst hA
  obtain ⟨b, o, hb, hlt, hc⟩ := h.rd hp
  simp only [Option.some.injEq, Addr.mk.injEq, and_true] at hb
  obtain ⟨rfl, rfl⟩ := hb
  exact ⟨g, 0, rfl, hlt, hS g rfl, hc⟩
end

section
variable {P : Program} (w : World)
/-- append, and which block its row lies in. -/
theorem run_appB (base : Nat) (t ty e : TypeId) (i : TypeInfo) (z : Value) (sz bytes : Nat) (ht : P.underlying t = some (.slice e)) (hi : P.info? e = some i) (hz : i.zero = some z) (hsize : i.size = sz) (hby : i.bytes = bytes) (hzs : z.cells.size = sz) (hsz : 0 < sz)
    (v : Value) (n : Nat) (xs : List Value) (hown : Own w base e sz v n xs) (A : Option Addr) (m c : Nat) (news : List Value) (hl : news.length = m * sz) (hr : Rd w A news) (h1 : ∀ u ∈ news, u.oneCell' = true)
    (h63 : n + m ≤ maxLen) (hlim : (n + m) * bytes ≤ 140737488355328) (hbase : base ≤ w.heap.size) :
    ∃ v' w', (Builtin.append_ #[t, t] ty #[v, .slice A m c]).run P w = .ok v' w' ∧ Own w' base e sz v' (n + m) (xs ++ news) ∧ w.grownBy w' v.ownBlock ∧ (∀ k, v'.ownBlock = some k → v.ownBlock = some k ∨ w.heap.size ≤ k) := by
  by_cases hv : v = .slice none 0 0 ∧ n = 0
  · obtain ⟨rfl, rfl⟩ := hv
    obtain ⟨v', w', r1, r2, r3⟩ := run_app (P := P) w w.heap.size t ty e i z sz bytes ht hi hz hsize hby hzs hsz (.slice none 0 0) 0 xs ⟨hown.1, .inl ⟨rfl, rfl⟩⟩ A m c news hl hr h1 h63 hlim (Nat.le_refl _)
    exact ⟨v', w', r1, r2.mono hbase, r3, fun k hk => .inr (r2.lt k hk).1⟩
  · obtain ⟨v', w', r1, r2, r3⟩ := run_app (P := P) w base t ty e i z sz bytes ht hi hz hsize hby hzs hsz v n xs hown A m c news hl hr h1 h63 hlim hbase
    refine ⟨v', w', r1, r2, r3, ?_⟩
    rcases hown.2 with hn | ⟨g, cap, rfl, hbg, ⟨cur, fz, hh⟩, hnc, hcm, hx, hcl⟩
    · exact absurd hn hv
    · have hxl : xs.length = n * sz := hown.1
      have hmul : (n + m) * sz = n * sz + m * sz := Nat.add_mul n m sz
      by_cases hm : m = 0
      · subst hm
        have hrun : (Builtin.append_ #[t, t] ty #[.slice (some ⟨g, 0, none⟩) n cap, .slice A 0 c]).run P w = .ok (.slice (some ⟨g, 0, none⟩) n cap) w := by
          rcases A with _ | a
          · simp [Builtin.append_, run_underlying ht, sizeOf, typeInfo, hi, Builtin.lenOf, Builtin.firstCells, hnc, storeCells]
          · simp [Builtin.append_, run_underlying ht, sizeOf, typeInfo, hi, Builtin.lenOf, Builtin.firstCells, hnc, storeCells, loadCells, loadCellsFrom]
        rw [hrun] at r1
        injection r1 with r1 _
        subst r1
        exact fun k hk => .inl hk
      · have hp : 0 < news.length := by rw [hl]; exact Nat.mul_pos (by omega) hsz
        obtain ⟨b, o, rfl, hb, hc⟩ := hr hp
        have hnews : ∀ j u, news[j]? = some u → w.cell? ((⟨b, o, none⟩ : Addr).add j) = some u := fun j u hu => by rw [addr_add_at]; exact hc j u hu
        by_cases hroom : n + m ≤ cap
        · have hcap : (n + m) * sz ≤ cap * sz := Nat.mul_le_mul_right _ hroom
          have hrun := run_append_room_cells (P := P) w t ty e i ht hi g 0 n cap ⟨b, o, none⟩ m c news (by rw [hsize]; exact hl) hnews h1 hroom
            (fun j hj => by rw [hsize, Nat.zero_add]; exact (hcl _ (by omega)).1) (fun j hj => by rw [hsize, Nat.zero_add]; exact (hcl _ (by omega)).2)
          rw [hrun] at r1
          injection r1 with r1 _
          subst r1
          exact fun k hk => .inl hk
        · have holds : ∀ j u, xs[j]? = some u → w.cell? ((⟨g, 0, none⟩ : Addr).add j) = some u := fun j u hu => by rw [addr_add]; exact hx j u hu
          have hsmall : n + m ≤ 9223372036854775807 := by simp only [maxLen] at h63; omega
          have hrun := run_append_grow (P := P) w t ty e i z ht hi hz ⟨g, 0, none⟩ n cap xs (by rw [hsize]; exact hxl) holds ⟨b, o, none⟩ m c news (by rw [hsize]; exact hl) hnews (by omega) (by omega) (by rw [hby]; exact growslice_fits (by omega) hlim)
          rw [hrun] at r1
          injection r1 with r1 _
          subst r1
          intro k hk
          injection hk with hk
          exact .inr (by rw [← hk]; exact Nat.le_refl _)

theorem wp_appB {o : Oper} {a : Act} {K : Act → World → Prop} {Q : Exit → Act → World → Prop} (s x : Operand) (t : TypeId) (ho : o.op = .call { callee := .builtin .append, args := #[s, x], argTypes := #[t, t] })
    (base : Nat) (e : TypeId) (i : TypeInfo) (z : Value) (sz bytes : Nat) (ht : P.underlying t = some (.slice e)) (hi : P.info? e = some i) (hz : i.zero = some z) (hsize : i.size = sz) (hby : i.bytes = bytes) (hzs : z.cells.size = sz) (hsz : 0 < sz)
    (v : Value) (n : Nat) (xs : List Value) (hs : a.eval s = v) (hown : Own w base e sz v n xs) (A : Option Addr) (m c : Nat) (news : List Value) (hx : a.eval x = .slice A m c) (hl : news.length = m * sz) (hr : Rd w A news) (h1 : ∀ u ∈ news, u.oneCell' = true)
    (h63 : n + m ≤ maxLen) (hlim : (n + m) * bytes ≤ 140737488355328) (hbase : base ≤ w.heap.size)
    (h : ∀ v' w', Own w' base e sz v' (n + m) (xs ++ news) → w.grownBy w' v.ownBlock → (∀ k, v'.ownBlock = some k → v.ownBlock = some k ∨ w.heap.size ≤ k) → K (a.put o.dst v') w') : o.wp P a w K Q := by
  obtain ⟨v', w', hrun, h2, h3, h4⟩ := run_appB (P := P) w base t o.type e i z sz bytes ht hi hz hsize hby hzs hsz v n xs hown A m c news hl hr h1 h63 hlim hbase
  unfold Oper.wp execOp
  simp only [ho, resolve, invoke, builtin, Sem.run_bind, Sem.run_pure, Result.andThen_ok, List.map_toArray, List.map_cons, List.map_nil, hs, hx, hrun]
  exact h v' w' h2 h3 h4
theorem list_appB {ops : Array Oper} {rest : List Oper} {o : Oper} {a : Act} {Q : Exit → Act → World → Prop} (hgd : o.guard = none) (s x : Operand) (t : TypeId) (ho : o.op = .call { callee := .builtin .append, args := #[s, x], argTypes := #[t, t] })
    (base : Nat) (e : TypeId) (i : TypeInfo) (z : Value) (sz bytes : Nat) (ht : P.underlying t = some (.slice e)) (hi : P.info? e = some i) (hz : i.zero = some z) (hsize : i.size = sz) (hby : i.bytes = bytes) (hzs : z.cells.size = sz) (hsz : 0 < sz)
    (v : Value) (n : Nat) (xs : List Value) (hs : a.eval s = v) (hown : Own w base e sz v n xs) (A : Option Addr) (m c : Nat) (news : List Value) (hx : a.eval x = .slice A m c) (hl : news.length = m * sz) (hr : Rd w A news) (h1 : ∀ u ∈ news, u.oneCell' = true)
    (h63 : n + m ≤ maxLen) (hlim : (n + m) * bytes ≤ 140737488355328) (hbase : base ≤ w.heap.size)
    (h : ∀ v' w', Own w' base e sz v' (n + m) (xs ++ news) → w.grownBy w' v.ownBlock → (∀ k, v'.ownBlock = some k → v.ownBlock = some k ∨ w.heap.size ≤ k) → wpList P ops Q rest (a.put o.dst v') w') : wpList P ops Q (o :: rest) a w :=
  wpList_plain hgd fun _ hK => wp_appB w s x t ho base e i z sz bytes ht hi hz hsize hby hzs hsz v n xs hs hown A m c news hx hl hr h1 h63 hlim hbase fun v' w' h2 h3 h4 => hK _ _ (h v' w' h2 h3 h4)

/-- copy into a row of the call's own, from anywhere, from itself, too: all is read before anything is written. -/
theorem run_copy_any (base : Nat) (t ty e : TypeId) (ht : P.underlying t = some (.slice e)) (hi : (P.info? e).map (·.size) = some 1)
    (v : Value) (n : Nat) (xs : List Value) (hown : Own w base e 1 v n xs) (A : Option Addr) (m c : Nat) (news : List Value) (hl : news.length = m) (hr : Rd w A news) (h1 : ∀ u ∈ news, u.oneCell' = true) :
    ∃ w', (Builtin.copy_ #[t, t] ty #[v, .slice A m c]).run P w = .ok (goInt (Nat.min m n)) w' ∧ Own w' base e 1 v n (news.take n ++ xs.drop m) ∧ w.grownBy w' v.ownBlock := by
  have hxl : xs.length = n := by have := hown.1; omega
  obtain ⟨A0, c0, rfl, _⟩ := hown.form
  by_cases h0 : Nat.min m n = 0
  · refine ⟨w, ?_, ?_, ⟨rfl, rfl, rfl, Nat.le_refl _, fun _ _ _ => rfl⟩⟩
    · rw [h0]
      exact run_copy_none (P := P) w t t ty e A0 A n c0 m c ht hi h0
    · have : m = 0 ∨ n = 0 := by
        have := h0
        simp only [Nat.min_def] at this
        split at this <;> omega
      rcases this with rfl | rfl
      · have : news = [] := List.eq_nil_of_length_eq_zero hl
        subst this
        simpa using hown
      · have : xs = [] := List.eq_nil_of_length_eq_zero hxl
        subst this
        simpa using hown
  · have hmn : 0 < m ∧ 0 < n ∧ Nat.min m n ≤ m ∧ Nat.min m n ≤ n := by
      have h1 : Nat.min m n ≤ m := Nat.min_le_left m n
      have h2 : Nat.min m n ≤ n := Nat.min_le_right m n
      omega
    obtain ⟨hm, hn, hmm, hmn⟩ := hmn
    obtain ⟨b, o, rfl, hb, hc⟩ := hr (by omega)
    rcases hown.2 with ⟨_, h'⟩ | ⟨g, cap, hv, hbg, ⟨cur, fz, hh⟩, hnc, hcm, hx, hcl⟩
    · omega
    · injection hv with hA hn2 hc2
      subst hA hc2
      have hlen : (news.take n).length = Nat.min m n := by rw [List.length_take, hl]; exact Nat.min_comm _ _
      have hrun := run_copy_cells (P := P) w t t ty e g 0 n c0 ⟨b, o, none⟩ m c (news.take n) ht hi hlen
        (fun j u hu => by
          rw [addr_add_at]
          apply hc
          rw [List.getElem?_take] at hu
          split at hu
          · exact hu
          · cases hu)
        (fun j hj => by rw [Nat.zero_add]; exact (hcl j (by rw [hlen] at hj; omega)).1) (fun j hj => by rw [Nat.zero_add]; exact (hcl j (by rw [hlen] at hj; omega)).2) (fun u hu => h1 u (List.mem_of_mem_take hu))
      rw [hlen] at hrun
      obtain ⟨cur', hh'⟩ := tag_setCells (news.take n) 0 w cur hh
      refine ⟨_, hrun, ⟨?_, .inr ⟨g, c0, rfl, hbg, ⟨cur', fz, hh'⟩, hnc, hcm, fun j u hu => ?_, fun j hj => ?_⟩⟩, grown_setCells g _ _ w⟩
      · rw [List.length_append, hlen, List.length_drop, hxl]
        simp only [Nat.min_def]
        split <;> omega
      · by_cases hj : j < (news.take n).length
        · rw [List.getElem?_append_left hj] at hu
          have := World.cell?_setCells_in g (news.take n) 0 w (fun k hk => by rw [Nat.zero_add]; exact (hcl k (by rw [hlen] at hk; omega)).1) j hj
          rw [Nat.zero_add] at this
          rw [this, ← hu, List.getElem?_eq_getElem hj]
        · rw [List.getElem?_append_right (by omega), List.getElem?_drop] at hu
          rw [World.cell?_setCells_out g _ 0 w ⟨g, j, none⟩ (fun _ _ => .inr (by show 0 + _ ≤ j; omega))]
          have hjm : (news.take n).length = m := by
            rw [hlen]
            have hj2 := (List.getElem?_eq_some_iff.1 hu).1
            rw [hlen] at hj2 hj
            simp only [Nat.min_def] at hj2 hj ⊢
            split
            · rfl
            · rw [if_neg (by assumption)] at hj2 hj; omega
          rw [hjm] at hu
          apply hx
          rw [← hu]
          congr 1
          omega
      · refine ⟨?_, by rw [World.frozen?_setCells]; exact (hcl j hj).2⟩
        by_cases hin : j < (news.take n).length
        · have := World.cell?_setCells_in g (news.take n) 0 w (fun k hk => by rw [Nat.zero_add]; exact (hcl k (by rw [hlen] at hk; omega)).1) j hin
          rw [Nat.zero_add] at this
          rw [this]; rfl
        · rw [World.cell?_setCells_out g _ 0 w ⟨g, j, none⟩ (fun _ _ => .inr (by show 0 + _ ≤ j; omega))]
          exact (hcl j hj).1
theorem wp_copy_any {o : Oper} {a : Act} {K : Act → World → Prop} {Q : Exit → Act → World → Prop} (s x : Operand) (t : TypeId) (ho : o.op = .call { callee := .builtin .copy, args := #[s, x], argTypes := #[t, t] })
    (base : Nat) (e : TypeId) (ht : P.underlying t = some (.slice e)) (hi : (P.info? e).map (·.size) = some 1)
    (v : Value) (n : Nat) (xs : List Value) (hs : a.eval s = v) (hown : Own w base e 1 v n xs) (A : Option Addr) (m c : Nat) (news : List Value) (hx : a.eval x = .slice A m c) (hl : news.length = m) (hr : Rd w A news) (h1 : ∀ u ∈ news, u.oneCell' = true)
    (r : Int) (hrr : goInt (Nat.min m n) = .int .i64 r) (ys : List Value) (hys : news.take n ++ xs.drop m = ys)
    (h : ∀ w', Own w' base e 1 v n ys → w.grownBy w' v.ownBlock → K (a.put o.dst (.int .i64 r)) w') : o.wp P a w K Q := by
  obtain ⟨w', hrun, h2, h3⟩ := run_copy_any (P := P) w base t o.type e ht hi v n xs hown A m c news hl hr h1
  rw [hrr] at hrun
  rw [hys] at h2
  unfold Oper.wp execOp
  simp only [ho, resolve, invoke, builtin, Sem.run_bind, Sem.run_pure, Result.andThen_ok, List.map_toArray, List.map_cons, List.map_nil, hs, hx, hrun]
  exact h w' h2 h3
theorem list_copy_any {ops : Array Oper} {rest : List Oper} {o : Oper} {a : Act} {Q : Exit → Act → World → Prop} (hgd : o.guard = none) (s x : Operand) (t : TypeId) (ho : o.op = .call { callee := .builtin .copy, args := #[s, x], argTypes := #[t, t] })
    (base : Nat) (e : TypeId) (ht : P.underlying t = some (.slice e)) (hi : (P.info? e).map (·.size) = some 1)
    (v : Value) (n : Nat) (xs : List Value) (hs : a.eval s = v) (hown : Own w base e 1 v n xs) (A : Option Addr) (m c : Nat) (news : List Value) (hx : a.eval x = .slice A m c) (hl : news.length = m) (hr : Rd w A news) (h1 : ∀ u ∈ news, u.oneCell' = true)
    (r : Int) (hrr : goInt (Nat.min m n) = .int .i64 r) (ys : List Value) (hys : news.take n ++ xs.drop m = ys)
    (h : ∀ w', Own w' base e 1 v n ys → w.grownBy w' v.ownBlock → wpList P ops Q rest (a.put o.dst (.int .i64 r)) w') : wpList P ops Q (o :: rest) a w :=
  wpList_plain hgd fun _ hK => wp_copy_any w s x t ho base e ht hi v n xs hs hown A m c news hx hl hr h1 r hrr ys hys fun w' h2 h3 => hK _ _ (h w' h2 h3)
theorem step_copy_any {ops : Array Oper} {o : Oper} {a : Act} {K : Act → World → Prop} {Q : Exit → Act → World → Prop} {E : Prop} (hgd : o.guard = none) (s x : Operand) (t : TypeId) (ho : o.op = .call { callee := .builtin .copy, args := #[s, x], argTypes := #[t, t] })
    (base : Nat) (e : TypeId) (ht : P.underlying t = some (.slice e)) (hi : (P.info? e).map (·.size) = some 1)
    (v : Value) (n : Nat) (xs : List Value) (hs : a.eval s = v) (hown : Own w base e 1 v n xs) (A : Option Addr) (m c : Nat) (news : List Value) (hx : a.eval x = .slice A m c) (hl : news.length = m) (hr : Rd w A news) (h1 : ∀ u ∈ news, u.oneCell' = true)
    (r : Int) (hrr : goInt (Nat.min m n) = .int .i64 r) (ys : List Value) (hys : news.take n ++ xs.drop m = ys)
    (h : ∀ w', Own w' base e 1 v n ys → w.grownBy w' v.ownBlock → K (a.put o.dst (.int .i64 r)) w') :
    if Region.wanted o (yielded ops a.tmps) = true then Oper.wp P o a w K Q else E := by
  have hw : Region.wanted o (yielded ops a.tmps) = true := by simp [Region.wanted, hgd]
  rw [if_pos hw]
  exact wp_copy_any w s x t ho base e ht hi v n xs hs hown A m c news hx hl hr h1 r hrr ys hys h
end

section
variable {w : World} {base : Nat} {e : TypeId} {A : Option Addr} {n c : Nat} {xs : List Value}
/-- A row cut short. -/
theorem Own.short (h : Own w base e 1 (.slice A n c) n xs) (m : Nat) (hm : m ≤ n) (ys : List Value) (hy : xs.take m = ys) : Own w base e 1 (.slice A m c) m ys := by
  subst hy
  have hl := h.1
  refine ⟨by rw [List.length_take]; omega, ?_⟩
  rcases h.2 with ⟨hv, h0⟩ | ⟨g, cap, hv, hb, hh, hnc, hcm, hx, hc⟩
  · injection hv with h1 h2 h3
    exact .inl ⟨by rw [h1, h3, show m = 0 by omega], by omega⟩
  · injection hv with h1 h2 h3
    subst h1 h3
    refine .inr ⟨g, c, rfl, hb, hh, by omega, hcm, fun j u hu => ?_, hc⟩
    apply hx
    rw [List.getElem?_take] at hu
    split at hu
    · exact hu
    · cases hu
theorem Own.cap (h : Own w base e 1 (.slice A n c) n xs) : n ≤ c ∧ c ≤ maxLen := by
  rcases h.2 with ⟨hv, h0⟩ | ⟨g, cap, hv, hb, hh, hnc, hcm, hx, hc⟩
  · injection hv with h1 h2 h3
    subst h0 h3
    exact ⟨Nat.le_refl _, Nat.zero_le _⟩
  · injection hv with h1 h2 h3
    subst h3
    exact ⟨hnc, hcm⟩
/-- The address of a row: none, or a block's head. -/
def Head (A : Option Addr) : Prop := A = none ∨ ∃ g, A = some ⟨g, 0, none⟩
theorem Own.head (h : Own w base e 1 (.slice A n c) n xs) : Head A := by
  rcases h.2 with ⟨hv, h0⟩ | ⟨g, cap, hv, hb, hh, hnc, hcm, hx, hc⟩
  · injection hv with h1 h2 h3
    exact .inl h1
  · injection hv with h1 h2 h3
    exact .inr ⟨g, h1⟩
/-- A row made. -/
theorem Own.made (w : World) (base : Nat) (e : TypeId) (n : Nat) (xs : List Value) (hl : xs.length = n) (hb : base ≤ w.heap.size) (hm : n ≤ maxLen) : Own (w.alloc (.cells xs.toArray e)) base e 1 (.slice (some ⟨w.heap.size, 0, none⟩) n n) n xs := by
  refine Own.of ⟨by omega, .inr ⟨w.heap.size, n, xs.toArray, rfl, hb, heap_alloc_new w _, Nat.le_refl _, hm, by simp [hl], ?_⟩⟩
  rw [List.take_of_length_le (by simp [hl])]
end
/-- A slice cut short. -/
theorem cuth_run {P : Program} {T e : TypeId} (he : P.elem T = e) (hT : P.underlying T = some (.slice e)) (hs : ∀ w, (sizeOf e).run P w = .ok 1 w) {A : Option Addr} (hA : Head A) (n c k : Nat) (hk : k ≤ c) :
    ∀ w : World, (Instr.slice T (.slice A n c) none (some (.int .i64 (k : Int))) none).run P w = .ok (.slice A k c) w := fun w => by
  subst he
  rw [run_slice_h w T A n c hT .i64 (k : Int) (by omega) (by omega), hs]
  rcases hA with rfl | ⟨g, rfl⟩ <;> simp [Result.andThen, sliced, Addr.add]
theorem cuthm_run {P : Program} {T e : TypeId} (he : P.elem T = e) (hT : P.underlying T = some (.slice e)) (hs : ∀ w, (sizeOf e).run P w = .ok 1 w) {A : Option Addr} (hA : Head A) (n c k : Nat) (hk : k ≤ c) :
    ∀ w : World, (Instr.slice T (.slice A n c) none (some (.int .i64 (k : Int))) (some (.int .i64 (k : Int)))).run P w = .ok (.slice A k k) w := fun w => by
  subst he
  rw [run_slice_hm w T A n c hT .i64 .i64 (k : Int) (k : Int) (by omega) (by omega) (by omega), hs]
  rcases hA with rfl | ⟨g, rfl⟩ <;> simp [Result.andThen, sliced, Addr.add]
/-- A slice cut at a place, wherever it lies. -/
theorem cutl_run {P : Program} {T e : TypeId} (he : P.elem T = e) (hT : P.underlying T = some (.slice e)) (hs : ∀ w, (sizeOf e).run P w = .ok 1 w) (A : Option Addr) (n c k : Nat) (hk : k ≤ n) (hn : n ≤ c) :
    ∃ A', (∀ w : World, (Instr.slice T (.slice A n c) (some (.int .i64 (k : Int))) none none).run P w = .ok (.slice A' (n - k) (c - k)) w) ∧
      ∀ (S : Nat → Prop) (w : World) (l : List Value), l.length = n → RdOff w S A l → RdOff w S A' (l.drop k) := by
  subst he
  refine ⟨if c = k then A else A.map (·.add (k * 1)), fun w => ?_, fun S w l hl hr => ?_⟩
  · rw [run_slice_l w T A n c hT .i64 (k : Int) (by omega) (by omega), hs]
    simp [Result.andThen, sliced]
  · intro hp
    rw [List.length_drop] at hp
    obtain ⟨b, o, rfl, hb, hn, hc⟩ := hr (by omega)
    rw [if_neg (by omega)]
    refine ⟨b, o + k, ?_, hb, hn, fun i u hu => ?_⟩
    · rw [Option.map_some, addr_add_at, Nat.mul_one]
    · rw [Nat.add_assoc]
      apply hc
      simp only [List.getElem?_drop] at hu
      exact hu
/-- A slice cut short, wherever it lies. -/
theorem cutk_run {P : Program} {T e : TypeId} (he : P.elem T = e) (hT : P.underlying T = some (.slice e)) (hs : ∀ w, (sizeOf e).run P w = .ok 1 w) (A : Option Addr) (n c k : Nat) (hk : k ≤ n) (hn : n ≤ c) :
    ∃ A', (∀ w : World, (Instr.slice T (.slice A n c) none (some (.int .i64 (k : Int))) none).run P w = .ok (.slice A' k c) w) ∧
      ∀ (S : Nat → Prop) (w : World) (l : List Value), l.length = n → RdOff w S A l → RdOff w S A' (l.take k) := by
  subst he
  refine ⟨if c = 0 then A else A.map (·.add (0 * 1)), fun w => ?_, fun S w l hl hr => ?_⟩
  · rw [run_slice_h w T A n c hT .i64 (k : Int) (by omega) (by omega), hs]
    simp [Result.andThen, sliced]
  · intro hp
    rw [List.length_take] at hp
    obtain ⟨b, o, rfl, hb, hn, hc⟩ := hr (by omega)
    rw [if_neg (by omega)]
    refine ⟨b, o, ?_, hb, hn, fun i u hu => ?_⟩
    · rw [Option.map_some, addr_add_at, Nat.zero_mul, Nat.add_zero]
    · apply hc
      rw [List.getElem?_take] at hu
      split at hu
      · exact hu
      · cases hu
end Go.Proofs.YtmagokkegadmiaaDoor
namespace Go.Proofs.YtmagokkegadmiaaDoor

def dstep (n : Nat) (c : UInt8) : Nat := min (n * 10 + (c.toNat - 48)) 1114111
/-- The number with which bytes begin. -/
def satv (l : List UInt8) : Nat := (l.takeWhile isD).foldl dstep 0
theorem dstep_le (n : Nat) (c : UInt8) : dstep n c ≤ 1114111 := Nat.min_le_right _ _
theorem fold_le : ∀ (t : List UInt8) (n : Nat), n ≤ 1114111 → t.foldl dstep n ≤ 1114111
  | [], _, h => h
  | c :: t, n, _ => by rw [List.foldl_cons]; exact fold_le t _ (dstep_le n c)
theorem satv_le (l : List UInt8) : satv l ≤ 1114111 := fold_le _ _ (by omega)
theorem dec_fold (u : Nat) : (Lib.decDigits u).foldl dstep 0 = min u 1114111 := by
  induction u using Nat.strongRecOn with
  | _ u ih =>
    by_cases h : u < 10
    · rw [dec_small u h, List.foldl_cons, List.foldl_nil, dstep, (digit_isD u h).2]; omega
    · rw [dec_step u h, List.foldl_append, ih (u / 10) (by omega), List.foldl_cons, List.foldl_nil, dstep, (digit_isD (u % 10) (by omega)).2]; omega
theorem tw_app (p : UInt8 → Bool) : ∀ (a m : List UInt8), (∀ c ∈ a, p c = true) → (m.head?.any p = false) → (a ++ m).takeWhile p = a
  | [], m, _, h => by
    cases m with
    | nil => rfl
    | cons c r => simp only [List.head?_cons, Option.any_some] at h; rw [List.nil_append, List.takeWhile_cons_of_neg (by rw [h]; simp)]
  | c :: a, m, h, hm => by rw [List.cons_append, List.takeWhile_cons_of_pos (h c (List.mem_cons_self ..)), tw_app p a m (fun d hd => h d (List.mem_cons_of_mem _ hd)) hm]
/-- Figures, and behind them what is none. -/
theorem sat_text (n : Int) (h : 0 ≤ n) (h2 : n ≤ 1114111) (m : List UInt8) (hm : m.head?.any isD = false) : (satv (textL n ++ m) : Int) = n := by
  unfold satv
  rw [tw_app isD _ _ (text_all_isD n) hm]
  rw [show textL n = Lib.decDigits n.toNat from if_neg (by omega), dec_fold]
  omega

/-- Does a list begin with another one? -/
def skipB (t r : List UInt8) : Bool := t.isPrefixOf r
theorem skipB_app (t m : List UInt8) : skipB t (t ++ m) = true := by unfold skipB; simp
theorem skipB_some {t r : List UInt8} (h : skipB t r = true) : r = t ++ r.drop t.length := by
  unfold skipB at h
  rw [List.isPrefixOf_iff_prefix] at h
  obtain ⟨m, rfl⟩ := h
  rw [List.drop_left]
/-- Bytes of a range, so many at most. -/
def runF (a b m : Nat) (r : List UInt8) : List UInt8 := (r.take m).takeWhile (btw a b)
theorem takeWhile_drop (p : UInt8 → Bool) (l : List UInt8) : l.takeWhile p ++ l.drop (l.takeWhile p).length = l := by
  induction l with
  | nil => rfl
  | cons c l ih =>
    by_cases h : p c = true
    · rw [List.takeWhile_cons_of_pos h, List.length_cons, List.drop_succ_cons, List.cons_append, ih]
    · rw [List.takeWhile_cons_of_neg h]; rfl
theorem tw_mem (p : UInt8 → Bool) : ∀ (l : List UInt8) (c : UInt8), c ∈ l.takeWhile p → p c = true
  | [], c, h => by cases h
  | d :: l, c, h => by
    by_cases hd : p d = true
    · rw [List.takeWhile_cons_of_pos hd] at h
      rcases List.mem_cons.1 h with rfl | h
      · exact hd
      · exact tw_mem p l c h
    · rw [List.takeWhile_cons_of_neg hd] at h; cases h
theorem runF_all (a b m : Nat) (r : List UInt8) : ∀ c ∈ runF a b m r, btw a b c = true := fun c hc => by
  unfold runF at hc
  exact tw_mem _ _ c hc
theorem runF_len (a b m : Nat) (r : List UInt8) : (runF a b m r).length ≤ m := by
  have := (List.takeWhile_sublist (btw a b) (l := r.take m)).length_le
  rw [List.length_take] at this
  unfold runF
  omega
theorem runF_drop (a b m : Nat) (r : List UInt8) : r = runF a b m r ++ r.drop (runF a b m r).length := by
  have hp : runF a b m r <+: r := (List.takeWhile_prefix _).trans (List.take_prefix _ _)
  obtain ⟨t, ht⟩ := hp
  generalize runF a b m r = x at *
  subst ht
  rw [List.drop_left]
theorem runF_put (a b m : Nat) (t r : List UInt8) (ht : ∀ c ∈ t, btw a b c = true) (hl : t.length ≤ m) (hr : r.head?.any (btw a b) = false) : runF a b m (t ++ r) = t := by
  unfold runF
  rw [List.take_append, List.take_of_length_le hl]
  refine tw_app _ _ _ ht ?_
  cases r with
  | nil => simp
  | cons c r =>
    cases h : m - t.length with
    | zero => rfl
    | succ k => simpa using hr
/-- One byte of a range; 0: none. -/
def oneF (a b : Nat) (r : List UInt8) : UInt8 := (runF a b 1 r).headD 0
theorem one_run (a b : Nat) (r : List UInt8) (h : 1 ≤ a) : runF a b 1 r = privL (oneF a b r) := by
  have hl := runF_len a b 1 r
  have ha := runF_all a b 1 r
  unfold oneF
  match hq : runF a b 1 r with
  | [] => rfl
  | [c] =>
    rw [hq] at ha
    have := (btw_iff _ _ _).1 (ha c (List.mem_singleton.2 rfl))
    show [c] = privL c
    unfold privL
    rw [if_neg (fun e => by subst e; simp at this; omega)]
  | c :: d :: t => rw [hq] at hl; simp at hl

/-- A part; -1: none. What is left. -/
def partF (r : List UInt8) : Int × List UInt8 := if skipB (textL (satv r)) r = true then ((satv r : Int), r.drop (textL (satv r)).length) else (-1, r)
theorem partF_app (r : List UInt8) : r = textL (partF r).1 ++ (partF r).2 := by
  unfold partF
  split
  · rename_i h; exact skipB_some h
  · rw [textL_neg _ (by omega)]; rfl
theorem partF_rng (r : List UInt8) : -1 ≤ (partF r).1 ∧ (partF r).1 ≤ 1114111 := by
  have := satv_le r
  unfold partF
  split
  · dsimp only; omega
  · dsimp only; omega
theorem partF_put (n : Int) (h0 : -1 ≤ n) (h1 : n ≤ 1114111) (m : List UInt8) (hm : m.head?.any isD = false) : partF (textL n ++ m) = (n, m) := by
  unfold partF
  by_cases h : n < 0
  · rw [textL_neg n h, List.nil_append]
    have e : satv m = 0 := by
      unfold satv
      rw [show m.takeWhile isD = [] by simpa using tw_app isD [] m (fun c hc => by cases hc) hm]; rfl
    rw [e, if_neg]
    · rw [show n = -1 by omega]
    · intro hs
      have := skipB_some hs
      have e2 : textL ((0 : Nat) : Int) = [48] := by rw [textL_small _ (by omega) (by omega)]; rfl
      rw [e2] at this
      rw [this] at hm
      simp at hm
      exact absurd hm (by decide)
  · have e := sat_text n (by omega) h1 m hm
    rw [e, if_pos (skipB_app _ _), List.drop_left]

/-- More parts behind a colon, so many at most. -/
def partsGo : Nat → List Int → List UInt8 → List Int × List UInt8
  | 0, acc, r => (acc, r)
  | f + 1, acc, r => if skipB [58] r = true then partsGo f (acc ++ [(partF (r.drop 1)).1]) (partF (r.drop 1)).2 else (acc, r)
def partsF (r : List UInt8) : List Int × List UInt8 := partsGo 7 [(partF r).1] (partF r).2
def paramsGo : Nat → List (List Int) → List UInt8 → List (List Int) × List UInt8
  | 0, acc, r => (acc, r)
  | f + 1, acc, r => if skipB [59] r = true then paramsGo f (acc ++ [(partsF (r.drop 1)).1]) (partsF (r.drop 1)).2 else (acc, r)
def noneL (ps : List (List Int)) : List (List Int) := if ps = [[-1]] then [] else ps
def paramsF (r : List UInt8) : List (List Int) × List UInt8 := (noneL (paramsGo 15 [(partsF r).1] (partsF r).2).1, (paramsGo 15 [(partsF r).1] (partsF r).2).2)

/-- What is read stood there. -/
theorem part_more (p : List Int) (n : Int) (h : p ≠ []) : partL (p ++ [n]) = partL p ++ (58 :: textL n) := by
  match p, h with
  | [m], _ => rfl
  | m :: k :: p, _ =>
    have ih := part_more (k :: p) n (by simp)
    show textL m ++ (58 :: partL (k :: p ++ [n])) = _
    rw [ih]
    simp [partL]
theorem par_more (l : List (List Int)) (p : List Int) (h : l ≠ []) : parL (l ++ [p]) = parL l ++ (59 :: partL p) := by
  match l, h with
  | [m], _ => rfl
  | m :: k :: l, _ =>
    have ih := par_more (k :: l) p (by simp)
    show partL m ++ (59 :: parL (k :: l ++ [p])) = _
    rw [ih]
    simp [parL]
theorem partsGo_app : ∀ (f : Nat) (acc : List Int) (r : List UInt8), acc ≠ [] → partOk acc → partL acc ++ r = partL (partsGo f acc r).1 ++ (partsGo f acc r).2 ∧ partOk (partsGo f acc r).1 ∧ acc.length ≤ (partsGo f acc r).1.length ∧ (partsGo f acc r).1.length ≤ acc.length + f
  | 0, acc, r, _, ho => ⟨rfl, ho, Nat.le_refl _, Nat.le_refl _⟩
  | f + 1, acc, r, hn, ho => by
    unfold partsGo
    split
    · rename_i h
      have hr := skipB_some h
      have hp := partF_app (r.drop 1)
      have hq := partF_rng (r.drop 1)
      obtain ⟨i1, i2, i3, i4⟩ := partsGo_app f (acc ++ [(partF (r.drop 1)).1]) (partF (r.drop 1)).2 (by simp) (fun n hn => by
        rcases List.mem_append.1 hn with h | h
        · exact ho n h
        · rw [List.mem_singleton] at h; subst h; exact hq)
      rw [List.length_append, List.length_singleton] at i3 i4
      refine ⟨?_, i2, by omega, by omega⟩
      rw [← i1, part_more _ _ hn]
      conv => lhs; rw [hr]
      rw [show ([58] : List UInt8).length = 1 from rfl]
      conv => lhs; rw [hp]
      simp
    · exact ⟨rfl, ho, Nat.le_refl _, Nat.le_add_right _ _⟩
theorem partsF_app (r : List UInt8) : r = partL (partsF r).1 ++ (partsF r).2 ∧ partOk (partsF r).1 ∧ 1 ≤ (partsF r).1.length ∧ (partsF r).1.length ≤ 8 := by
  have hp := partF_app r
  have hq := partF_rng r
  obtain ⟨i1, i2, i3, i4⟩ := partsGo_app 7 [(partF r).1] (partF r).2 (by simp) (fun n hn => by rw [List.mem_singleton] at hn; subst hn; exact hq)
  exact ⟨hp.trans i1, i2, i3, i4⟩
def parsOk (l : List (List Int)) : Prop := ∀ p ∈ l, partOk p ∧ 1 ≤ p.length ∧ p.length ≤ 8
theorem paramsGo_app : ∀ (f : Nat) (acc : List (List Int)) (r : List UInt8), acc ≠ [] → parsOk acc → parL acc ++ r = parL (paramsGo f acc r).1 ++ (paramsGo f acc r).2 ∧ parsOk (paramsGo f acc r).1 ∧ acc.length ≤ (paramsGo f acc r).1.length ∧ (paramsGo f acc r).1.length ≤ acc.length + f
  | 0, acc, r, _, ho => ⟨rfl, ho, Nat.le_refl _, Nat.le_refl _⟩
  | f + 1, acc, r, hn, ho => by
    unfold paramsGo
    split
    · rename_i h
      have hr := skipB_some h
      obtain ⟨hp, hq⟩ := partsF_app (r.drop 1)
      obtain ⟨i1, i2, i3, i4⟩ := paramsGo_app f (acc ++ [(partsF (r.drop 1)).1]) (partsF (r.drop 1)).2 (by simp) (fun n hn => by
        rcases List.mem_append.1 hn with h | h
        · exact ho n h
        · rw [List.mem_singleton] at h; subst h; exact hq)
      rw [List.length_append, List.length_singleton] at i3 i4
      refine ⟨?_, i2, by omega, by omega⟩
      rw [← i1, par_more _ _ hn]
      conv => lhs; rw [hr]
      rw [show ([59] : List UInt8).length = 1 from rfl]
      conv => lhs; rw [hp]
      simp
    · exact ⟨rfl, ho, Nat.le_refl _, Nat.le_add_right _ _⟩
theorem paramsF_app (r : List UInt8) : r = parL (paramsF r).1 ++ (paramsF r).2 ∧ parOk (paramsF r).1 = true := by
  obtain ⟨hp, hq⟩ := partsF_app r
  obtain ⟨i1, i2, i3, i4⟩ := paramsGo_app 15 [(partsF r).1] (partsF r).2 (by simp) (fun p hp => by rw [List.mem_singleton] at hp; subst hp; exact hq)
  have e : r = parL (paramsGo 15 [(partsF r).1] (partsF r).2).1 ++ (paramsGo 15 [(partsF r).1] (partsF r).2).2 := hp.trans i1
  unfold paramsF noneL
  generalize paramsGo 15 [(partsF r).1] (partsF r).2 = x at *
  dsimp only
  split
  · rename_i h
    rw [h] at e
    refine ⟨?_, by decide⟩
    rw [show parL [] = ([] : List UInt8) from rfl]
    rw [show parL [[-1]] = ([] : List UInt8) by show textL (-1) = []; exact textL_neg _ (by omega)] at e
    exact e
  · rename_i h
    refine ⟨e, ?_⟩
    simp only [parOk, Bool.and_eq_true, decide_eq_true_eq, List.all_eq_true]
    simp only [List.length_singleton] at i4
    refine ⟨⟨by omega, h⟩, fun p hp => ?_⟩
    obtain ⟨j1, j2, j3⟩ := i2 p hp
    exact ⟨⟨j2, j3⟩, fun n hn => j1 n hn⟩

/-- What stands there is read. -/
def parts1 : List Int → List UInt8
  | [] => []
  | n :: p => 58 :: (textL n ++ parts1 p)
theorem partL_cons (n : Int) (p : List Int) : partL (n :: p) = textL n ++ parts1 p := by
  induction p generalizing n with
  | nil => simp [partL, parts1]
  | cons m p ih => rw [show partL (n :: m :: p) = textL n ++ (58 :: partL (m :: p)) from rfl, ih]; rfl
def params1 : List (List Int) → List UInt8
  | [] => []
  | n :: p => 59 :: (partL n ++ params1 p)
theorem parL_cons (n : List Int) (p : List (List Int)) : parL (n :: p) = partL n ++ params1 p := by
  induction p generalizing n with
  | nil => simp [parL, params1]
  | cons m p ih => rw [show parL (n :: m :: p) = partL n ++ (59 :: parL (m :: p)) from rfl, ih]; rfl
theorem skip_head {c : UInt8} {m : List UInt8} (h : m.head? ≠ some c) : skipB [c] m = false := by
  cases m with
  | nil => rfl
  | cons d m =>
    have : c ≠ d := fun e => h (by rw [e]; rfl)
    simp [skipB, List.isPrefixOf, this]
theorem partsGo_put : ∀ (p : List Int) (f : Nat) (acc : List Int) (m : List UInt8), p.length ≤ f → partOk p → m.head?.any isD = false → m.head? ≠ some 58 → partsGo f acc (parts1 p ++ m) = (acc ++ p, m)
  | [], f, acc, m, _, _, hm, hc => by
    rw [show parts1 [] ++ m = m from rfl, List.append_nil]
    cases f with
    | zero => rfl
    | succ f => unfold partsGo; rw [if_neg (by rw [skip_head hc]; simp)]
  | n :: p, 0, _, _, h, _, _, _ => by simp at h
  | n :: p, f + 1, acc, m, h, ho, hm, hc => by
    unfold partsGo
    rw [show parts1 (n :: p) ++ m = [58] ++ (textL n ++ (parts1 p ++ m)) by simp [parts1]]
    rw [if_pos (skipB_app _ _)]
    rw [show (([58] : List UInt8) ++ (textL n ++ (parts1 p ++ m))).drop 1 = textL n ++ (parts1 p ++ m) from rfl]
    obtain ⟨h0, h1⟩ := ho n (List.mem_cons_self ..)
    have hh : (parts1 p ++ m).head?.any isD = false := by
      cases p with
      | nil => exact hm
      | cons k p => rfl
    rw [partF_put n h0 h1 _ hh]
    dsimp only
    rw [partsGo_put p f _ m (by simpa using h) (fun x hx => ho x (List.mem_cons_of_mem _ hx)) hm hc]
    simp
theorem partsF_put (p : List Int) (m : List UInt8) (h1 : 1 ≤ p.length) (h2 : p.length ≤ 8) (ho : partOk p) (hm : m.head?.any isD = false) (hc : m.head? ≠ some 58) : partsF (partL p ++ m) = (p, m) := by
  match p, h1 with
  | n :: p, _ =>
    unfold partsF
    rw [partL_cons, List.append_assoc]
    obtain ⟨h0, h3⟩ := ho n (List.mem_cons_self ..)
    have hh : (parts1 p ++ m).head?.any isD = false := by
      cases p with
      | nil => exact hm
      | cons k p => rfl
    rw [partF_put n h0 h3 _ hh]
    dsimp only
    rw [partsGo_put p 7 _ m (by simpa using h2) (fun x hx => ho x (List.mem_cons_of_mem _ hx)) hm hc]
    rfl
theorem paramsGo_put : ∀ (p : List (List Int)) (f : Nat) (acc : List (List Int)) (m : List UInt8), p.length ≤ f → parsOk p → m.head?.any isD = false → m.head? ≠ some 58 → m.head? ≠ some 59 → paramsGo f acc (params1 p ++ m) = (acc ++ p, m)
  | [], f, acc, m, _, _, hm, hc, hs => by
    rw [show params1 [] ++ m = m from rfl, List.append_nil]
    cases f with
    | zero => rfl
    | succ f => unfold paramsGo; rw [if_neg (by rw [skip_head hs]; simp)]
  | n :: p, 0, _, _, h, _, _, _, _ => by simp at h
  | n :: p, f + 1, acc, m, h, ho, hm, hc, hs => by
    unfold paramsGo
    rw [show params1 (n :: p) ++ m = [59] ++ (partL n ++ (params1 p ++ m)) by simp [params1]]
    rw [if_pos (skipB_app _ _)]
    rw [show (([59] : List UInt8) ++ (partL n ++ (params1 p ++ m))).drop 1 = partL n ++ (params1 p ++ m) from rfl]
    obtain ⟨h0, h1, h2⟩ := ho n (List.mem_cons_self ..)
    have hh : (params1 p ++ m).head?.any isD = false ∧ (params1 p ++ m).head? ≠ some 58 := by
      cases p with
      | nil => exact ⟨hm, hc⟩
      | cons k p => exact ⟨rfl, by simp [params1]⟩
    rw [partsF_put n _ h1 h2 h0 hh.1 hh.2]
    dsimp only
    rw [paramsGo_put p f _ m (by simpa using h) (fun x hx => ho x (List.mem_cons_of_mem _ hx)) hm hc hs]
    simp
/-- Not a byte of parameters. -/
def offP (m : List UInt8) : Prop := m.head?.any (btw 48 59) = false
theorem offP.parts {m : List UInt8} (h : offP m) : m.head?.any isD = false ∧ m.head? ≠ some 58 ∧ m.head? ≠ some 59 := by
  cases m with
  | nil => exact ⟨rfl, by simp, by simp⟩
  | cons c m =>
    have h' : btw 48 59 c = false := h
    have h2 := (btw_no _ _ _).1 h'
    refine ⟨?_, ?_, ?_⟩
    · show isD c = false
      unfold isD
      exact decide_eq_false (by omega)
    · simp; rintro rfl; exact absurd h' (by decide)
    · simp; rintro rfl; exact absurd h' (by decide)
theorem paramsF_put (ps : List (List Int)) (m : List UInt8) (hp : parOk ps = true) (hm : offP m) : paramsF (parL ps ++ m) = (ps, m) := by
  obtain ⟨m1, m2, m3⟩ := hm.parts
  have hp' := hp
  simp only [parOk, Bool.and_eq_true, decide_eq_true_eq, List.all_eq_true] at hp'
  obtain ⟨⟨hl, hne⟩, ha⟩ := hp'
  have ho : parsOk ps := fun p h => ⟨fun n hn => (ha p h).2 n hn, (ha p h).1⟩
  match ps with
  | [] =>
    have e1 : partsF m = ([-1], m) := by
      have := partsF_put [-1] m (by simp) (by simp) (fun n hn => by rw [List.mem_singleton] at hn; omega) m1 m2
      rwa [show partL [-1] = ([] : List UInt8) from textL_neg _ (by omega), List.nil_append] at this
    have e2 := paramsGo_put [] 15 [[-1]] m (by simp) (fun p hp => by cases hp) m1 m2 m3
    rw [show params1 [] ++ m = m from rfl] at e2
    unfold paramsF
    rw [show parL [] ++ m = m from rfl, e1]
    dsimp only
    rw [e2]
    rfl
  | p :: ps =>
    obtain ⟨h0, h1, h2⟩ := ho p (List.mem_cons_self ..)
    have hh : (params1 ps ++ m).head?.any isD = false ∧ (params1 ps ++ m).head? ≠ some 58 := by
      cases ps with
      | nil => exact ⟨m1, m2⟩
      | cons k p => exact ⟨rfl, by simp [params1]⟩
    have e1 := partsF_put p (params1 ps ++ m) h1 h2 h0 hh.1 hh.2
    have e2 := paramsGo_put ps 15 [p] m (by simp at hl; omega) (fun x hx => ho x (List.mem_cons_of_mem _ hx)) m1 m2 m3
    unfold paramsF
    rw [parL_cons, List.append_assoc, e1]
    dsimp only
    rw [e2]
    unfold noneL
    rw [if_neg (show ¬ (([p] ++ ps, m) : List (List Int) × List UInt8).1 = [[-1]] from hne)]
    rfl
end Go.Proofs.YtmagokkegadmiaaDoor
