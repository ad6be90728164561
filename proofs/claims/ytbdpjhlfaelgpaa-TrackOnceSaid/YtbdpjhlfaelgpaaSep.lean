/-
  Words for memory that several things share: what has a footprint (a set of blocks), and stays as it is wherever only other blocks turn; append that tells which block its row lies in; copy into a row of the call's own; slices cut short.
-/
import Derived.Test.YtbdpjhlfaelgpaaBlk
import Derived.Laws.IdiomCopy
import Derived.Laws.Slices
namespace Go.Proofs.Ytbdpjhlfaelgpaa
open Go.RowKit

/-- Nothing turns but blocks of S, and new ones. -/
structure Fr (w w' : World) (S : Nat → Prop) : Prop where
  os : w'.os = w.os
  tape : w'.tape = w.tape
  output : w'.output = w.output
  size : w.heap.size ≤ w'.heap.size
  block : ∀ k, k < w.heap.size → ¬ S k → w'.heap[k]? = w.heap[k]?
/-- S' is S, but for new blocks. -/
def Wid (w : World) (S S' : Nat → Prop) : Prop := ∀ k, S' k → S k ∨ w.heap.size ≤ k

section
variable {w w' w'' : World} {S S' S'' : Nat → Prop}
theorem Fr.refl (w : World) (S : Nat → Prop) : Fr w w S := ⟨rfl, rfl, rfl, Nat.le_refl _, fun _ _ _ => rfl⟩
theorem Fr.drewN (w : World) (n : Nat) (S : Nat → Prop) : Fr w (w.drewN n) S := ⟨rfl, rfl, rfl, Nat.le_refl _, fun _ _ _ => rfl⟩
theorem Fr.mono (h : Fr w w' S) (hS : ∀ k, S k → S' k) : Fr w w' S' := ⟨h.os, h.tape, h.output, h.size, fun k hk hn => h.block k hk (fun hs => hn (hS k hs))⟩
theorem Fr.trans (h : Fr w w' S) (h' : Fr w' w'' S') (hS : ∀ k, S' k → S k ∨ w.heap.size ≤ k) : Fr w w'' S :=
  ⟨h'.os.trans h.os, h'.tape.trans h.tape, h'.output.trans h.output, Nat.le_trans h.size h'.size, fun k hk hn => (h'.block k (Nat.lt_of_lt_of_le hk h.size) (fun hs => by rcases hS k hs with h1 | h1; exact hn h1; omega)).trans (h.block k hk hn)⟩
theorem Fr.of_below (h : Below w.heap.size w w') (S : Nat → Prop) : Fr w w' S := ⟨h.os, h.tape, h.output, h.size, fun k hk _ => h.block k hk⟩
theorem Fr.of_grown {row : Option Nat} (h : w.grownBy w' row) : Fr w w' (fun k => row = some k) := ⟨h.os, h.tape, h.output, h.size, fun k hk hn => h.block k hk (fun e => hn e.symm)⟩
theorem Fr.setCell (w : World) (g i : Nat) (u : Value) (S : Nat → Prop) (h : S g) : Fr w (w.setCell ⟨g, i, none⟩ u) S :=
  ⟨rfl, rfl, rfl, by simp [World.setCell], fun k _ hn => Below.heap_setCell w ⟨g, i, none⟩ u k (fun e => hn (by rw [show k = g from e]; exact h))⟩
theorem Fr.below {B : Nat} (h : Fr w w' S) (hB : B ≤ w.heap.size) (hS : ∀ k, S k → B ≤ k) : Below B w w' :=
  ⟨h.os, h.tape, h.output, h.size, fun k hk => h.block k (by omega) (fun hs => by have := hS k hs; omega)⟩
theorem Wid.refl (w : World) (S : Nat → Prop) : Wid w S S := fun _ h => .inl h
theorem Wid.trans (h : Wid w S S') (h' : Wid w' S' S'') (hs : w.heap.size ≤ w'.heap.size) : Wid w S S'' := fun k hk => by
  rcases h' k hk with h1 | h1
  · exact h k h1
  · exact .inr (by omega)
/-- What lies outside S, and was there, lies outside S', too. -/
theorem Wid.out (h : Wid w S S') {k : Nat} (hk : k < w.heap.size) (hn : ¬ S k) : ¬ S' k := fun hs => by
  rcases h k hs with h1 | h1
  · exact hn h1
  · omega

theorem Blk.fr {g : Nat} {t : TypeId} {cs : Array Value} (h : Blk w g t cs) (hf : Fr w w' S) (hn : ¬ S g) : Blk w' g t cs := (hf.block g h.lt hn).trans h
theorem Own.fr {base : Nat} {e : TypeId} {sz : Nat} {v : Value} {n : Nat} {xs : List Value} (h : Own w base e sz v n xs) (hf : Fr w w' S) (hn : ∀ k, v.ownBlock = some k → ¬ S k) : Own w' base e sz v n xs :=
  h.keep fun k hk => hf.block k (h.lt k hk).2 (hn k hk)

/-- A slice that reads as xs, and lies outside S. -/
def RdOff (w : World) (S : Nat → Prop) (A : Option Addr) (xs : List Value) : Prop :=
  0 < xs.length → ∃ b o, A = some ⟨b, o, none⟩ ∧ b < w.heap.size ∧ ¬ S b ∧ ∀ k u, xs[k]? = some u → w.cell? ⟨b, o + k, none⟩ = some u
variable {A : Option Addr} {xs : List Value}
theorem RdOff.nil (w : World) (S : Nat → Prop) (A : Option Addr) : RdOff w S A [] := fun h => absurd h (by simp)
theorem RdOff.rd (h : RdOff w S A xs) : Rd w A xs := fun hp => by
  obtain ⟨b, o, rfl, hb, _, hc⟩ := h hp
  exact ⟨b, o, rfl, hb, hc⟩
theorem RdOff.fr (h : RdOff w S A xs) (hf : Fr w w' S) (hw : Wid w S S') : RdOff w' S' A xs := fun hp => by
  obtain ⟨b, o, rfl, hb, hn, hc⟩ := h hp
  exact ⟨b, o, rfl, Nat.lt_of_lt_of_le hb hf.size, hw.out hb hn, fun k u hu => (World.cell?_of_block (w := w) (a := ⟨b, o + k, none⟩) (hf.block b hb hn)).trans (hc k u hu)⟩
theorem RdOff.of_rdIn {n₁ : Nat} (h : RdIn n₁ w A xs) (hn : n₁ ≤ w.heap.size) (hS : ∀ k, S k → n₁ ≤ k) : RdOff w S A xs := fun hp => by
  obtain ⟨b, o, rfl, hb, hc⟩ := h hp
  exact ⟨b, o, rfl, by omega, fun hs => by have := hS b hs; omega, hc⟩
theorem RdOff.mono (h : RdOff w S A xs) (hS : ∀ k, S' k → S k) : RdOff w S' A xs := fun hp => by
  obtain ⟨b, o, rfl, hb, hn, hc⟩ := h hp
  exact ⟨b, o, rfl, hb, fun hs => hn (hS b hs), hc⟩
/-- What was there ahead of all of S. -/
theorem RdOff.ahead (h : Rd w A xs) (hb : Below w.heap.size w w') (hS : ∀ k, S k → w.heap.size ≤ k) : RdOff w' S A xs := RdOff.of_rdIn ((RdIn.of h).below hb) hb.size hS
/-- What lies in a block behind all of S. -/
theorem RdOff.new (S : Nat → Prop) (o : Obj) (h : Rd (w.alloc o) (some ⟨w.heap.size, 0, none⟩) xs) (hS : ∀ k, S k → k < w.heap.size) : RdOff (w.alloc o) S (some ⟨w.heap.size, 0, none⟩) xs := fun hp => by
  obtain ⟨b, o', hA, hlt, hc⟩ := h hp
  injection hA with hA
  injection hA with h1 h2
  subst h1 h2
  exact ⟨w.heap.size, 0, rfl, hlt, fun hs => Nat.lt_irrefl _ (hS _ hs), hc⟩
theorem RdOff.of_own {base : Nat} {e : TypeId} {n : Nat} {c : Nat} (h : Own w base e 1 (.slice A n c) n xs) (hS : ∀ k, (Value.slice A n c).ownBlock = some k → ¬ S k) : RdOff w S A xs := fun hp => by
  have hl := h.1
  obtain ⟨g, cap, hv, _, hg, _⟩ := h.some_ (by omega)
  injection hv with hA
  subst hA
  obtain ⟨b, o, hb, hlt, hc⟩ := h.rd hp
  simp only [Option.some.injEq, Addr.mk.injEq, and_true] at hb
  obtain ⟨rfl, rfl⟩ := hb
  exact ⟨g, 0, rfl, hlt, hS g rfl, hc⟩
end

section
variable {P : Program} (w : World)
/-- append, and which block its row lies in. -/
theorem run_appB (base : Nat) (t ty e : TypeId) (i : TypeInfo) (z : Value) (sz bytes : Nat) (ht : P.underlying t = some (.slice e)) (hi : P.info? e = some i) (hz : i.zero = some z) (hsize : i.size = sz) (hby : i.bytes = bytes) (hzs : z.cells.size = sz) (hsz : 0 < sz)
    (v : Value) (n : Nat) (xs : List Value) (hown : Own w base e sz v n xs) (A : Option Addr) (m c : Nat) (news : List Value) (hl : news.length = m * sz) (hr : Rd w A news) (h1 : ∀ u ∈ news, u.oneCell' = true)
    (h63 : n + m ≤ maxLen) (hlim : (n + m) * bytes ≤ 140737488355328) (hbase : base ≤ w.heap.size) :
    ∃ v' w', (Builtin.append_ #[t, t] ty #[v, .slice A m c]).run P w = .ok v' w' ∧ Own w' base e sz v' (n + m) (xs ++ news) ∧ w.grownBy w' v.ownBlock ∧ (∀ k, v'.ownBlock = some k → v.ownBlock = some k ∨ w.heap.size ≤ k) := by
  by_cases hv : v = .slice none 0 0 ∧ n = 0
  · obtain ⟨rfl, rfl⟩ := hv
    obtain ⟨v', w', r1, r2, r3⟩ := run_app (P := P) w w.heap.size t ty e i z sz bytes ht hi hz hsize hby hzs hsz (.slice none 0 0) 0 xs ⟨hown.1, .inl ⟨rfl, rfl⟩⟩ A m c news hl hr h1 h63 hlim (Nat.le_refl _)
    exact ⟨v', w', r1, r2.mono hbase, r3, fun k hk => .inr (r2.lt k hk).1⟩
  · obtain ⟨v', w', r1, r2, r3⟩ := run_app (P := P) w base t ty e i z sz bytes ht hi hz hsize hby hzs hsz v n xs hown A m c news hl hr h1 h63 hlim hbase
    refine ⟨v', w', r1, r2, r3, ?_⟩
    rcases hown.2 with hn | ⟨g, cap, rfl, hbg, ⟨cur, fz, hh⟩, hnc, hcm, hx, hcl⟩
    · exact absurd hn hv
    · have hxl : xs.length = n * sz := hown.1
      have hmul : (n + m) * sz = n * sz + m * sz := Nat.add_mul n m sz
      by_cases hm : m = 0
      · subst hm
        have hrun : (Builtin.append_ #[t, t] ty #[.slice (some ⟨g, 0, none⟩) n cap, .slice A 0 c]).run P w = .ok (.slice (some ⟨g, 0, none⟩) n cap) w := by
          rcases A with _ | a
          · simp [Builtin.append_, run_underlying ht, sizeOf, typeInfo, hi, Builtin.lenOf, Builtin.firstCells, hnc, storeCells]
          · simp [Builtin.append_, run_underlying ht, sizeOf, typeInfo, hi, Builtin.lenOf, Builtin.firstCells, hnc, storeCells, loadCells, loadCellsFrom]
        rw [hrun] at r1
        injection r1 with r1 _
        subst r1
        exact fun k hk => .inl hk
      · have hp : 0 < news.length := by rw [hl]; exact Nat.mul_pos (by omega) hsz
        obtain ⟨b, o, rfl, hb, hc⟩ := hr hp
        have hnews : ∀ j u, news[j]? = some u → w.cell? ((⟨b, o, none⟩ : Addr).add j) = some u := fun j u hu => by rw [addr_add_at]; exact hc j u hu
        by_cases hroom : n + m ≤ cap
        · have hcap : (n + m) * sz ≤ cap * sz := Nat.mul_le_mul_right _ hroom
          have hrun := run_append_room_cells (P := P) w t ty e i ht hi g 0 n cap ⟨b, o, none⟩ m c news (by rw [hsize]; exact hl) hnews h1 hroom
            (fun j hj => by rw [hsize, Nat.zero_add]; exact (hcl _ (by omega)).1) (fun j hj => by rw [hsize, Nat.zero_add]; exact (hcl _ (by omega)).2)
          rw [hrun] at r1
          injection r1 with r1 _
          subst r1
          exact fun k hk => .inl hk
        · have holds : ∀ j u, xs[j]? = some u → w.cell? ((⟨g, 0, none⟩ : Addr).add j) = some u := fun j u hu => by rw [addr_add]; exact hx j u hu
          have hsmall : n + m ≤ 9223372036854775807 := by simp only [maxLen] at h63; omega
          have hrun := run_append_grow (P := P) w t ty e i z ht hi hz ⟨g, 0, none⟩ n cap xs (by rw [hsize]; exact hxl) holds ⟨b, o, none⟩ m c news (by rw [hsize]; exact hl) hnews (by omega) (by omega) (by rw [hby]; exact growslice_fits (by omega) hlim)
          rw [hrun] at r1
          injection r1 with r1 _
          subst r1
          intro k hk
          injection hk with hk
          exact .inr (by rw [← hk]; exact Nat.le_refl _)

theorem wp_appB {o : Oper} {a : Act} {K : Act → World → Prop} {Q : Exit → Act → World → Prop} (s x : Operand) (t : TypeId) (ho : o.op = .call { callee := .builtin .append, args := #[s, x], argTypes := #[t, t] })
    (base : Nat) (e : TypeId) (i : TypeInfo) (z : Value) (sz bytes : Nat) (ht : P.underlying t = some (.slice e)) (hi : P.info? e = some i) (hz : i.zero = some z) (hsize : i.size = sz) (hby : i.bytes = bytes) (hzs : z.cells.size = sz) (hsz : 0 < sz)
    (v : Value) (n : Nat) (xs : List Value) (hs : a.eval s = v) (hown : Own w base e sz v n xs) (A : Option Addr) (m c : Nat) (news : List Value) (hx : a.eval x = .slice A m c) (hl : news.length = m * sz) (hr : Rd w A news) (h1 : ∀ u ∈ news, u.oneCell' = true)
    (h63 : n + m ≤ maxLen) (hlim : (n + m) * bytes ≤ 140737488355328) (hbase : base ≤ w.heap.size)
    (h : ∀ v' w', Own w' base e sz v' (n + m) (xs ++ news) → w.grownBy w' v.ownBlock → (∀ k, v'.ownBlock = some k → v.ownBlock = some k ∨ w.heap.size ≤ k) → K (a.put o.dst v') w') : o.wp P a w K Q := by
  obtain ⟨v', w', hrun, h2, h3, h4⟩ := run_appB (P := P) w base t o.type e i z sz bytes ht hi hz hsize hby hzs hsz v n xs hown A m c news hl hr h1 h63 hlim hbase
  unfold Oper.wp execOp
  simp only [ho, resolve, invoke, builtin, Sem.run_bind, Sem.run_pure, Result.andThen_ok, List.map_toArray, List.map_cons, List.map_nil, hs, hx, hrun]
  exact h v' w' h2 h3 h4
theorem list_appB {ops : Array Oper} {rest : List Oper} {o : Oper} {a : Act} {Q : Exit → Act → World → Prop} (hgd : o.guard = none) (s x : Operand) (t : TypeId) (ho : o.op = .call { callee := .builtin .append, args := #[s, x], argTypes := #[t, t] })
    (base : Nat) (e : TypeId) (i : TypeInfo) (z : Value) (sz bytes : Nat) (ht : P.underlying t = some (.slice e)) (hi : P.info? e = some i) (hz : i.zero = some z) (hsize : i.size = sz) (hby : i.bytes = bytes) (hzs : z.cells.size = sz) (hsz : 0 < sz)
    (v : Value) (n : Nat) (xs : List Value) (hs : a.eval s = v) (hown : Own w base e sz v n xs) (A : Option Addr) (m c : Nat) (news : List Value) (hx : a.eval x = .slice A m c) (hl : news.length = m * sz) (hr : Rd w A news) (h1 : ∀ u ∈ news, u.oneCell' = true)
    (h63 : n + m ≤ maxLen) (hlim : (n + m) * bytes ≤ 140737488355328) (hbase : base ≤ w.heap.size)
    (h : ∀ v' w', Own w' base e sz v' (n + m) (xs ++ news) → w.grownBy w' v.ownBlock → (∀ k, v'.ownBlock = some k → v.ownBlock = some k ∨ w.heap.size ≤ k) → wpList P ops Q rest (a.put o.dst v') w') : wpList P ops Q (o :: rest) a w :=
  wpList_plain hgd fun _ hK => wp_appB w s x t ho base e i z sz bytes ht hi hz hsize hby hzs hsz v n xs hs hown A m c news hx hl hr h1 h63 hlim hbase fun v' w' h2 h3 h4 => hK _ _ (h v' w' h2 h3 h4)

/-- copy into a row of the call's own, from anywhere, from itself, too: all is read before anything is written. -/
theorem run_copy_any (base : Nat) (t ty e : TypeId) (ht : P.underlying t = some (.slice e)) (hi : (P.info? e).map (·.size) = some 1)
    (v : Value) (n : Nat) (xs : List Value) (hown : Own w base e 1 v n xs) (A : Option Addr) (m c : Nat) (news : List Value) (hl : news.length = m) (hr : Rd w A news) (h1 : ∀ u ∈ news, u.oneCell' = true) :
    ∃ w', (Builtin.copy_ #[t, t] ty #[v, .slice A m c]).run P w = .ok (goInt (Nat.min m n)) w' ∧ Own w' base e 1 v n (news.take n ++ xs.drop m) ∧ w.grownBy w' v.ownBlock := by
  have hxl : xs.length = n := by have := hown.1; omega
  obtain ⟨A0, c0, rfl, _⟩ := hown.form
  by_cases h0 : Nat.min m n = 0
  · refine ⟨w, ?_, ?_, ⟨rfl, rfl, rfl, Nat.le_refl _, fun _ _ _ => rfl⟩⟩
    · rw [h0]
      exact run_copy_none (P := P) w t t ty e A0 A n c0 m c ht hi h0
    · have : m = 0 ∨ n = 0 := by
        have := h0
        simp only [Nat.min_def] at this
        split at this <;> omega
      rcases this with rfl | rfl
      · have : news = [] := List.eq_nil_of_length_eq_zero hl
        subst this
        simpa using hown
      · have : xs = [] := List.eq_nil_of_length_eq_zero hxl
        subst this
        simpa using hown
  · have hmn : 0 < m ∧ 0 < n ∧ Nat.min m n ≤ m ∧ Nat.min m n ≤ n := by
      have h1 : Nat.min m n ≤ m := Nat.min_le_left m n
      have h2 : Nat.min m n ≤ n := Nat.min_le_right m n
      omega
    obtain ⟨hm, hn, hmm, hmn⟩ := hmn
    obtain ⟨b, o, rfl, hb, hc⟩ := hr (by omega)
    rcases hown.2 with ⟨_, h'⟩ | ⟨g, cap, hv, hbg, ⟨cur, fz, hh⟩, hnc, hcm, hx, hcl⟩
    · omega
    · injection hv with hA hn2 hc2
      subst hA hc2
      have hlen : (news.take n).length = Nat.min m n := by rw [List.length_take, hl]; exact Nat.min_comm _ _
      have hrun := run_copy_cells (P := P) w t t ty e g 0 n c0 ⟨b, o, none⟩ m c (news.take n) ht hi hlen
        (fun j u hu => by
          rw [addr_add_at]
          apply hc
          rw [List.getElem?_take] at hu
          split at hu
          · exact hu
          · cases hu)
        (fun j hj => by rw [Nat.zero_add]; exact (hcl j (by rw [hlen] at hj; omega)).1) (fun j hj => by rw [Nat.zero_add]; exact (hcl j (by rw [hlen] at hj; omega)).2) (fun u hu => h1 u (List.mem_of_mem_take hu))
      rw [hlen] at hrun
      obtain ⟨cur', hh'⟩ := tag_setCells (news.take n) 0 w cur hh
      refine ⟨_, hrun, ⟨?_, .inr ⟨g, c0, rfl, hbg, ⟨cur', fz, hh'⟩, hnc, hcm, fun j u hu => ?_, fun j hj => ?_⟩⟩, grown_setCells g _ _ w⟩
      · rw [List.length_append, hlen, List.length_drop, hxl]
        simp only [Nat.min_def]
        split <;> omega
      · by_cases hj : j < (news.take n).length
        · rw [List.getElem?_append_left hj] at hu
          have := World.cell?_setCells_in g (news.take n) 0 w (fun k hk => by rw [Nat.zero_add]; exact (hcl k (by rw [hlen] at hk; omega)).1) j hj
          rw [Nat.zero_add] at this
          rw [this, ← hu, List.getElem?_eq_getElem hj]
        · rw [List.getElem?_append_right (by omega), List.getElem?_drop] at hu
          rw [World.cell?_setCells_out g _ 0 w ⟨g, j, none⟩ (fun _ _ => .inr (by show 0 + _ ≤ j; omega))]
          have hjm : (news.take n).length = m := by
            rw [hlen]
            have hj2 := (List.getElem?_eq_some_iff.1 hu).1
            rw [hlen] at hj2 hj
            simp only [Nat.min_def] at hj2 hj ⊢
            split
            · rfl
            · rw [if_neg (by assumption)] at hj2 hj; omega
          rw [hjm] at hu
          apply hx
          rw [← hu]
          congr 1
          omega
      · refine ⟨?_, by rw [World.frozen?_setCells]; exact (hcl j hj).2⟩
        by_cases hin : j < (news.take n).length
        · have := World.cell?_setCells_in g (news.take n) 0 w (fun k hk => by rw [Nat.zero_add]; exact (hcl k (by rw [hlen] at hk; omega)).1) j hin
          rw [Nat.zero_add] at this
          rw [this]; rfl
        · rw [World.cell?_setCells_out g _ 0 w ⟨g, j, none⟩ (fun _ _ => .inr (by show 0 + _ ≤ j; omega))]
          exact (hcl j hj).1
theorem wp_copy_any {o : Oper} {a : Act} {K : Act → World → Prop} {Q : Exit → Act → World → Prop} (s x : Operand) (t : TypeId) (ho : o.op = .call { callee := .builtin .copy, args := #[s, x], argTypes := #[t, t] })
    (base : Nat) (e : TypeId) (ht : P.underlying t = some (.slice e)) (hi : (P.info? e).map (·.size) = some 1)
    (v : Value) (n : Nat) (xs : List Value) (hs : a.eval s = v) (hown : Own w base e 1 v n xs) (A : Option Addr) (m c : Nat) (news : List Value) (hx : a.eval x = .slice A m c) (hl : news.length = m) (hr : Rd w A news) (h1 : ∀ u ∈ news, u.oneCell' = true)
    (r : Int) (hrr : goInt (Nat.min m n) = .int .i64 r) (ys : List Value) (hys : news.take n ++ xs.drop m = ys)
    (h : ∀ w', Own w' base e 1 v n ys → w.grownBy w' v.ownBlock → K (a.put o.dst (.int .i64 r)) w') : o.wp P a w K Q := by
  obtain ⟨w', hrun, h2, h3⟩ := run_copy_any (P := P) w base t o.type e ht hi v n xs hown A m c news hl hr h1
  rw [hrr] at hrun
  rw [hys] at h2
  unfold Oper.wp execOp
  simp only [ho, resolve, invoke, builtin, Sem.run_bind, Sem.run_pure, Result.andThen_ok, List.map_toArray, List.map_cons, List.map_nil, hs, hx, hrun]
  exact h w' h2 h3
theorem list_copy_any {ops : Array Oper} {rest : List Oper} {o : Oper} {a : Act} {Q : Exit → Act → World → Prop} (hgd : o.guard = none) (s x : Operand) (t : TypeId) (ho : o.op = .call { callee := .builtin .copy, args := #[s, x], argTypes := #[t, t] })
    (base : Nat) (e : TypeId) (ht : P.underlying t = some (.slice e)) (hi : (P.info? e).map (·.size) = some 1)
    (v : Value) (n : Nat) (xs : List Value) (hs : a.eval s = v) (hown : Own w base e 1 v n xs) (A : Option Addr) (m c : Nat) (news : List Value) (hx : a.eval x = .slice A m c) (hl : news.length = m) (hr : Rd w A news) (h1 : ∀ u ∈ news, u.oneCell' = true)
    (r : Int) (hrr : goInt (Nat.min m n) = .int .i64 r) (ys : List Value) (hys : news.take n ++ xs.drop m = ys)
    (h : ∀ w', Own w' base e 1 v n ys → w.grownBy w' v.ownBlock → wpList P ops Q rest (a.put o.dst (.int .i64 r)) w') : wpList P ops Q (o :: rest) a w :=
  wpList_plain hgd fun _ hK => wp_copy_any w s x t ho base e ht hi v n xs hs hown A m c news hx hl hr h1 r hrr ys hys fun w' h2 h3 => hK _ _ (h w' h2 h3)
theorem step_copy_any {ops : Array Oper} {o : Oper} {a : Act} {K : Act → World → Prop} {Q : Exit → Act → World → Prop} {E : Prop} (hgd : o.guard = none) (s x : Operand) (t : TypeId) (ho : o.op = .call { callee := .builtin .copy, args := #[s, x], argTypes := #[t, t] })
    (base : Nat) (e : TypeId) (ht : P.underlying t = some (.slice e)) (hi : (P.info? e).map (·.size) = some 1)
    (v : Value) (n : Nat) (xs : List Value) (hs : a.eval s = v) (hown : Own w base e 1 v n xs) (A : Option Addr) (m c : Nat) (news : List Value) (hx : a.eval x = .slice A m c) (hl : news.length = m) (hr : Rd w A news) (h1 : ∀ u ∈ news, u.oneCell' = true)
    (r : Int) (hrr : goInt (Nat.min m n) = .int .i64 r) (ys : List Value) (hys : news.take n ++ xs.drop m = ys)
    (h : ∀ w', Own w' base e 1 v n ys → w.grownBy w' v.ownBlock → K (a.put o.dst (.int .i64 r)) w') :
    if Region.wanted o (yielded ops a.tmps) = true then Oper.wp P o a w K Q else E := by
  have hw : Region.wanted o (yielded ops a.tmps) = true := by simp [Region.wanted, hgd]
  rw [if_pos hw]
  exact wp_copy_any w s x t ho base e ht hi v n xs hs hown A m c news hx hl hr h1 r hrr ys hys h
end

section
variable {w : World} {base : Nat} {e : TypeId} {A : Option Addr} {n c : Nat} {xs : List Value}
/-- A row cut short. -/
theorem Own.short (h : Own w base e 1 (.slice A n c) n xs) (m : Nat) (hm : m ≤ n) (ys : List Value) (hy : xs.take m = ys) : Own w base e 1 (.slice A m c) m ys := by
  subst hy
  have hl := h.1
  refine ⟨by rw [List.length_take]; omega, ?_⟩
  rcases h.2 with ⟨hv, h0⟩ | ⟨g, cap, hv, hb, hh, hnc, hcm, hx, hc⟩
  · injection hv with h1 h2 h3
    exact .inl ⟨by rw [h1, h3, show m = 0 by omega], by omega⟩
  · injection hv with h1 h2 h3
    subst h1 h3
    refine .inr ⟨g, c, rfl, hb, hh, by omega, hcm, fun j u hu => ?_, hc⟩
    apply hx
    rw [List.getElem?_take] at hu
    split at hu
    · exact hu
    · cases hu
theorem Own.cap (h : Own w base e 1 (.slice A n c) n xs) : n ≤ c ∧ c ≤ maxLen := by
  rcases h.2 with ⟨hv, h0⟩ | ⟨g, cap, hv, hb, hh, hnc, hcm, hx, hc⟩
  · injection hv with h1 h2 h3
    subst h0 h3
    exact ⟨Nat.le_refl _, Nat.zero_le _⟩
  · injection hv with h1 h2 h3
    subst h3
    exact ⟨hnc, hcm⟩
/-- The address of a row: none, or a block's head. -/
def Head (A : Option Addr) : Prop := A = none ∨ ∃ g, A = some ⟨g, 0, none⟩
theorem Own.head (h : Own w base e 1 (.slice A n c) n xs) : Head A := by
  rcases h.2 with ⟨hv, h0⟩ | ⟨g, cap, hv, hb, hh, hnc, hcm, hx, hc⟩
  · injection hv with h1 h2 h3
    exact .inl h1
  · injection hv with h1 h2 h3
    exact .inr ⟨g, h1⟩
/-- A row made. -/
theorem Own.made (w : World) (base : Nat) (e : TypeId) (n : Nat) (xs : List Value) (hl : xs.length = n) (hb : base ≤ w.heap.size) (hm : n ≤ maxLen) : Own (w.alloc (.cells xs.toArray e)) base e 1 (.slice (some ⟨w.heap.size, 0, none⟩) n n) n xs := by
  refine Own.of ⟨by omega, .inr ⟨w.heap.size, n, xs.toArray, rfl, hb, heap_alloc_new w _, Nat.le_refl _, hm, by simp [hl], ?_⟩⟩
  rw [List.take_of_length_le (by simp [hl])]
end
/-- A slice cut short. -/
theorem cuth_run {P : Program} {T e : TypeId} (he : P.elem T = e) (hT : P.underlying T = some (.slice e)) (hs : ∀ w, (sizeOf e).run P w = .ok 1 w) {A : Option Addr} (hA : Head A) (n c k : Nat) (hk : k ≤ c) :
    ∀ w : World, (Instr.slice T (.slice A n c) none (some (.int .i64 (k : Int))) none).run P w = .ok (.slice A k c) w := fun w => by
  subst he
  rw [run_slice_h w T A n c hT .i64 (k : Int) (by omega) (by omega), hs]
  rcases hA with rfl | ⟨g, rfl⟩ <;> simp [Result.andThen, sliced, Addr.add]
theorem cuthm_run {P : Program} {T e : TypeId} (he : P.elem T = e) (hT : P.underlying T = some (.slice e)) (hs : ∀ w, (sizeOf e).run P w = .ok 1 w) {A : Option Addr} (hA : Head A) (n c k : Nat) (hk : k ≤ c) :
    ∀ w : World, (Instr.slice T (.slice A n c) none (some (.int .i64 (k : Int))) (some (.int .i64 (k : Int)))).run P w = .ok (.slice A k k) w := fun w => by
  subst he
  rw [run_slice_hm w T A n c hT .i64 .i64 (k : Int) (k : Int) (by omega) (by omega) (by omega), hs]
  rcases hA with rfl | ⟨g, rfl⟩ <;> simp [Result.andThen, sliced, Addr.add]
/-- A slice cut at a place, wherever it lies. -/
theorem cutl_run {P : Program} {T e : TypeId} (he : P.elem T = e) (hT : P.underlying T = some (.slice e)) (hs : ∀ w, (sizeOf e).run P w = .ok 1 w) (A : Option Addr) (n c k : Nat) (hk : k ≤ n) (hn : n ≤ c) :
    ∃ A', (∀ w : World, (Instr.slice T (.slice A n c) (some (.int .i64 (k : Int))) none none).run P w = .ok (.slice A' (n - k) (c - k)) w) ∧
      ∀ (S : Nat → Prop) (w : World) (l : List Value), l.length = n → RdOff w S A l → RdOff w S A' (l.drop k) := by
  subst he
  refine ⟨if c = k then A else A.map (·.add (k * 1)), fun w => ?_, fun S w l hl hr => ?_⟩
  · rw [run_slice_l w T A n c hT .i64 (k : Int) (by omega) (by omega), hs]
    simp [Result.andThen, sliced]
  · intro hp
    rw [List.length_drop] at hp
    obtain ⟨b, o, rfl, hb, hn, hc⟩ := hr (by omega)
    rw [if_neg (by omega)]
    refine ⟨b, o + k, ?_, hb, hn, fun i u hu => ?_⟩
    · rw [Option.map_some, addr_add_at, Nat.mul_one]
    · rw [Nat.add_assoc]
      apply hc
      simp only [List.getElem?_drop] at hu
      exact hu
/-- A slice cut short, wherever it lies. -/
theorem cutk_run {P : Program} {T e : TypeId} (he : P.elem T = e) (hT : P.underlying T = some (.slice e)) (hs : ∀ w, (sizeOf e).run P w = .ok 1 w) (A : Option Addr) (n c k : Nat) (hk : k ≤ n) (hn : n ≤ c) :
    ∃ A', (∀ w : World, (Instr.slice T (.slice A n c) none (some (.int .i64 (k : Int))) none).run P w = .ok (.slice A' k c) w) ∧
      ∀ (S : Nat → Prop) (w : World) (l : List Value), l.length = n → RdOff w S A l → RdOff w S A' (l.take k) := by
  subst he
  refine ⟨if c = 0 then A else A.map (·.add (0 * 1)), fun w => ?_, fun S w l hl hr => ?_⟩
  · rw [run_slice_h w T A n c hT .i64 (k : Int) (by omega) (by omega), hs]
    simp [Result.andThen, sliced]
  · intro hp
    rw [List.length_take] at hp
    obtain ⟨b, o, rfl, hb, hn, hc⟩ := hr (by omega)
    rw [if_neg (by omega)]
    refine ⟨b, o, ?_, hb, hn, fun i u hu => ?_⟩
    · rw [Option.map_some, addr_add_at, Nat.zero_mul, Nat.add_zero]
    · apply hc
      rw [List.getElem?_take] at hu
      split at hu
      · exact hu
      · cases hu
end Go.Proofs.Ytbdpjhlfaelgpaa
