/-
  A block that is written whole, and read whole. The cells of a block of five, and of six. Layer 2, walked: the document's All. Layer 3, walked: the program's holds and ends. Layer 3, walked: the program's char (in a text of its own: a dump that doesn't call it can load the others).
-/
import Derived.Test.YtbjmfhcgkpjcfaaGreatDoorG11
import Derived.Test.YtbjmfhcgkpjcfaaGreatDoorG12
import Derived.Test.YtbjmfhcgkpjcfaaGreatDoorG13
import Derived.Test.YtbjmfhcgkpjcfaaGreatDoorG14
import Derived.Deep.MidRow
import Derived.Test.YtbjmfhcgkpjcfaaGreatDoorShelf
namespace Go.Proofs.YtbjmfhcgkpjcfaaGreatDoor
open Go.RowKit

section
variable {w w' : World} {g : Nat} {t : TypeId} {cs ds : Array Value}
theorem Blk.there (h : Blk w g t cs) : w.there g 0 cs.size := fun j hj => by
  rw [Nat.zero_add]
  exact ⟨by rw [h.cell j]; simp [hj], h.frozen j⟩
theorem Blk.range (h : Blk w g t cs) : w.rangeAt g 0 cs.toList := fun j v hv => by
  rw [Nat.zero_add, h.cell j]
  simpa using hv
theorem setCells_blk {g : Nat} {t : TypeId} : ∀ (vs pre old : List Value) (w : World), old.length = vs.length → Blk w g t (pre ++ old).toArray → Blk (w.setCells g pre.length vs) g t (pre ++ vs).toArray
  | [], pre, old, w, hl, h => by
    rw [List.length_eq_zero_iff.1 hl] at h
    exact h
  | v :: vs, pre, u :: old, w, hl, h => by
    have h1 : Blk (w.setCell ⟨g, pre.length, none⟩ v) g t ((pre ++ [v]) ++ old).toArray := by
      have h2 := h.set pre.length v
      have e : (pre ++ u :: old).toArray.setIfInBounds pre.length v = ((pre ++ [v]) ++ old).toArray := by
        rw [List.setIfInBounds_toArray, List.set_append_right _ _ (Nat.le_refl _), Nat.sub_self, List.set_cons_zero, List.append_assoc]
        rfl
      rwa [e] at h2
    have h3 := setCells_blk vs (pre ++ [v]) old _ (by simpa using hl) h1
    rw [List.length_append, List.append_assoc] at h3
    exact h3
/-- All of it is written. -/
theorem Blk.setAll (h : Blk w g t cs) (hs : ds.size = cs.size) : Blk (w.setCells g 0 ds.toList) g t ds := by
  obtain ⟨l⟩ := cs
  obtain ⟨m⟩ := ds
  have := setCells_blk (g := g) (t := t) m [] l w (by simpa using hs.symm) h
  exact this
/-- The store's run, as a rule. -/
theorem Blk.run_set {P : Program} (h : Blk w g t cs) (ds : Array Value) (hs : ds.size = cs.size) (hi : (P.info? t).map (·.size) = some cs.size) (h1 : ds.toList.all (·.oneCell') = true) :
    (Instr.storeAt t (.pointer (some ⟨g, 0, none⟩)) (.agg ds)).run P w = .ok () (w.setCells g 0 ds.toList) :=
  run_storeAt_mid w g 0 t ds (by rw [hs]; exact h.there) (by rw [hi, hs]) (by rw [← Array.all_toList]; exact h1)
/-- At the list of a plain region's operations: a struct stored whole. -/
theorem Blk.wp_set {P : Program} {ops : Array Oper} {rest : List Oper} {op : Oper} {a : Act} {Q : Exit → Act → World → Prop} (h : Blk w g t cs) (ds : Array Value) (hs : ds.size = cs.size) (hi : (P.info? t).map (·.size) = some cs.size) (h1 : ds.toList.all (·.oneCell') = true)
    (hgd : op.guard = none) (x y : Operand) (ho : op.op = .store t x y) (hx : a.eval x = .pointer (some ⟨g, 0, none⟩)) (hy : a.eval y = .agg ds)
    (hK : ∀ w', Blk w' g t ds → w.grownBy w' (some g) → wpList P ops Q rest (a.put op.dst undef) w') : wpList P ops Q (op :: rest) a w :=
  wpList_store_mid hgd t x y ho g 0 ds hx hy (by rw [hs]; exact h.there) (by rw [hi, hs]) (by rw [← Array.all_toList]; exact h1) (hK _ (h.setAll hs) (grown_setCells g _ 0 w))
end
end Go.Proofs.YtbjmfhcgkpjcfaaGreatDoor
namespace Go.Proofs.YtbjmfhcgkpjcfaaGreatDoor
open Go.RowKit

theorem Blk.cells5 {w : World} {g : Nat} {t : TypeId} {a b c d e : Value} (h : Blk w g t #[a, b, c, d, e]) :
    w.cell? ⟨g, 0, none⟩ = some a ∧ w.cell? ⟨g, 1, none⟩ = some b ∧ w.cell? ⟨g, 2, none⟩ = some c ∧ w.cell? ⟨g, 3, none⟩ = some d ∧ w.cell? ⟨g, 4, none⟩ = some e :=
  ⟨h.cell 0, h.cell 1, h.cell 2, h.cell 3, h.cell 4⟩
theorem Blk.cells6 {w : World} {g : Nat} {t : TypeId} {a b c d e f : Value} (h : Blk w g t #[a, b, c, d, e, f]) :
    w.cell? ⟨g, 0, none⟩ = some a ∧ w.cell? ⟨g, 1, none⟩ = some b ∧ w.cell? ⟨g, 2, none⟩ = some c ∧ w.cell? ⟨g, 3, none⟩ = some d ∧ w.cell? ⟨g, 4, none⟩ = some e ∧ w.cell? ⟨g, 5, none⟩ = some f :=
  ⟨h.cell 0, h.cell 1, h.cell 2, h.cell 3, h.cell 4, h.cell 5⟩
end Go.Proofs.YtbjmfhcgkpjcfaaGreatDoor
namespace Go.Proofs.YtbjmfhcgkpjcfaaGreatDoor
open Go.RowKit

theorem rtake_tup (A : Option Addr) (n c : Nat) (l : List UInt8) (r : Int) (m : Nat) (w : World) (hn : l.length = n) (h : takeL l = (r, m)) (hl : l.length ≤ 4294967296) (hlc : n ≤ c) (hr : Rd w A (bs l)) :
    Calls Tryz.prog 64 #[.slice A n c] w fun e w' => e = .returned (.tuple #[.int .i64 r, .int .i64 m]) ∧ Below w.heap.size w w' := by
  subst hn
  refine (rtake_any A c l w hl hlc hr).mono ?_
  rintro e w' ⟨rfl, hb⟩
  exact ⟨by unfold Tk; rw [h], hb⟩
theorem all_pre {t : List UInt8} {pre : List Int} {k m : Nat} {r : Int} (h : allL t = (allL (t.drop k)).map (pre ++ ·)) (ht : takeL (t.drop k) = (r, m)) (hm : m ≠ 0) : allL t = (allL (t.drop (k + m))).map ((pre ++ [r]) ++ ·) := by
  rw [h, allL_yes (by rw [ht]; exact hm), ht, List.drop_drop]
  cases allL (t.drop (k + m)) with
  | none => rfl
  | some x => simp

set_option maxRecDepth 100000 in
set_option maxHeartbeats 2000000 in
theorem rall_own (A : Option Addr) (c : Nat) (t : List UInt8) (w : World) (ht : t.length ≤ 4294967296) (htc : t.length ≤ c) (hr : Rd w A (bs t)) :
    Calls Tryz.prog 54 #[.slice A t.length c] w (AlO (allL t) w) := by
  obtain ⟨i0, hi, hz0, hz1, hz2⟩ := info_parts Tryz.intinfo
  go_enter Tryz.func54, Tryz.ntmps54
  go_wp2
  go_loopw [4, 5] (fun v i wr => ∃ (k : Nat) (pre : List Int), k ≤ t.length ∧ i = .int .i64 k ∧ pre.length ≤ k ∧ allL t = (allL (t.drop k)).map (pre ++ ·) ∧ Own wr w.heap.size 3 1 v pre.length (is_ pre) ∧ Below w.heap.size w wr) (fun _ i _ => t.length - (intOf i).toNat)
  case atStart => exact ⟨0, [], Nat.zero_le _, rfl, Nat.le_refl _, by rw [List.drop_zero]; cases allL t <;> rfl, Own.nil_ _ _ _ _, Below.refl _ _⟩
  case round =>
    obtain ⟨k, pre, hk, rfl, hpk, hpre, hown, hbw⟩ := hrel
    have HP := Lib.hid hpre
    clear hpre
    by_cases hlt : k < t.length
    · have hrw := hr.below hbw
      obtain ⟨b, o, rfl, hb, hcc⟩ := hrw.at_ (by omega)
      have hdr := (RdIn.of hrw).drop k hlt
      clear hcc
      have k0 : (0 : Int) ≤ (k : Int) := by omega
      have k1 : (k : Int) ≤ (t.length : Int) := by omega
      have hlen := Lib.hid (show (t.drop k).length = t.length - k from List.length_drop)
      have hld : (t.drop k).length ≤ 4294967296 := by rw [List.length_drop]; omega
      by_cases hz : (takeL (t.drop k)).2 = 0
      · have E := Lib.hid (take_zero hz)
        have EN := Lib.hid (show allL t = none by rw [HP.out, allL_no (by rw [List.length_drop]; omega) hz]; rfl)
        clear hz
        go_wp2_with fail
        refine (rtake_tup _ _ _ (t.drop k) 0 0 _ hlen.out E.out hld (by omega) hdr).mono ?_
        rintro e w2 ⟨rfl, hb2⟩
        have hb2 : Below w.heap.size w w2 := hbw.trans (hb2.mono hbw.size)
        go_wp2_with fail
        go_ret2
        exact AlO.no EN.out hb2
      · have hle := (take_snd_le (t.drop k)).1
        obtain ⟨r, hr1⟩ : ∃ r, (takeL (t.drop k)).1 = r := ⟨_, rfl⟩
        obtain ⟨m, hm1⟩ : ∃ m, (takeL (t.drop k)).2 = m := ⟨_, rfl⟩
        have E := Lib.hid (show takeL (t.drop k) = (r, m) by rw [← hr1, ← hm1])
        rw [hm1, List.length_drop] at hle
        rw [hm1] at hz
        have m1 : ((m : Int) == 0) = false := beq_false_of_ne (by omega)
        have PE := Lib.hid (all_pre HP.out E.out hz)
        clear hr1 hm1
        have h63 : pre.length + 1 ≤ maxLen := by simp only [maxLen]; omega
        have hlim : (pre.length + 1) * 8 ≤ 140737488355328 := by omega
        have one1 : ∀ x : Int, ∀ u ∈ [Value.int .i64 x], u.oneCell' = true := fun x => ints_one [x]
        go_wp2_with fail
        refine (rtake_tup _ _ _ (t.drop k) r m _ hlen.out E.out hld (by omega) hdr).mono ?_
        rintro e w2 ⟨rfl, hb2⟩
        have hown2 := hown.behind hb2
        have hb2 : Below w.heap.size w w2 := hbw.trans (hb2.mono hbw.size)
        have hs2 := hb2.size
        go_wp2_with (at_builtin; refine list_app _ rfl (.tmp 21) (.tmp 23) 53 rfl w.heap.size 3 i0 _ 1 8 Tryz.underlying53 hi hz0 hz1 hz2 rfl Nat.one_pos _ _ _ rfl (hown2.alloc _) (some ⟨w2.heap.size, 0, none⟩) 1 1 _ rfl rfl (rd_lit w2 _ _) (one1 _) h63 hlim (by simp; omega) ?_; intro v4 w4 hown4 hg4)
        have hb4 : Below w.heap.size w w4 := (hb2.alloc hs2 _).grown hg4 (by simp; omega) (fun g hg => (hown2.lt g hg).1)
        have ho : Own w4 w.heap.size 3 1 v4 (pre ++ [r]).length (is_ (pre ++ [r])) := by
          rw [List.length_append, show is_ (pre ++ [r]) = is_ pre ++ [.int .i64 r] by simp [is_]]
          exact hown4
        clear hown4 hg4
        go_wp2
        go_roundw
        case rel => exact ⟨k + m, pre ++ [r], by omega, by go_num, by rw [List.length_append]; show pre.length + 1 ≤ _; omega, PE.out, ho, hb4⟩
        case measure => simp [intOf]; omega
    · have E := Lib.hid (show allL t = some pre by
        rw [HP.out, List.drop_of_length_le (by omega)]
        show some (pre ++ []) = _
        rw [List.append_nil])
      go_wp2
      go_ret2
      exact AlO.yes E.out hown hbw
theorem rall_any (A : Option Addr) (c : Nat) (t : List UInt8) (w : World) (ht : t.length ≤ 4294967296) (htc : t.length ≤ c) (hr : Rd w A (bs t)) :
    Calls Tryz.prog 54 #[.slice A t.length c] w (Al (allL t) w) :=
  (rall_own A c t w ht htc hr).mono fun _ _ h => h.al
end Go.Proofs.YtbjmfhcgkpjcfaaGreatDoor
namespace Go.Proofs.YtbjmfhcgkpjcfaaGreatDoor
open Go.RowKit

theorem fm1 : fmV (formF 1) = .agg #[.string ⟨#[91]⟩, .bool true, .bool true, .int .u8 64, .string ⟨#[]⟩] := rfl
theorem fm2 : fmV (formF 2) = .agg #[.string ⟨#[79]⟩, .bool false, .bool false, .int .u8 64, .string ⟨#[]⟩] := rfl
theorem fm3 : fmV (formF 3) = .agg #[.string ⟨#[80]⟩, .bool true, .bool true, .int .u8 64, .string ⟨#[27, 92]⟩] := rfl
theorem fm4 : fmV (formF 4) = .agg #[.string ⟨#[93]⟩, .bool false, .bool false, .int .u8 0, .string ⟨#[27, 92]⟩] := rfl
theorem fm5 : fmV (formF 5) = .agg #[.string ⟨#[]⟩, .bool false, .bool true, .int .u8 48, .string ⟨#[]⟩] := rfl

theorem priv_ne {c : UInt8} (h : c ≠ 0) : ((c.toNat : Int) == 0) = false := beq_false_of_ne (fun e => h (UInt8.toNat_inj.1 (by show c.toNat = 0; omega)))

set_option maxRecDepth 100000 in
set_option maxHeartbeats 4000000 in
theorem holds_any (s : Sq) (A : Option Addr) (c : Nat) (q : Bool) (w : World) (hk : s.kind = 1 ∨ s.kind = 2 ∨ s.kind = 3 ∨ s.kind = 4 ∨ s.kind = 5) (hq : bareOk s = q) :
    Calls Tryz.prog 80 #[fmV (formF s.kind), sqV s A c] w fun e w' => e = .returned (.bool q) ∧ Below w.heap.size w w' := by
  obtain ⟨k, pv, ps, it, f, d⟩ := s
  have hB : ∀ (x y : Obj), Below w.heap.size w ((w.alloc x).alloc y) := fun x y => ((Below.refl _ w).alloc (Nat.le_refl _) _).alloc (by simp) _
  dsimp only at hk ⊢
  unfold sqV
  dsimp only
  rcases hk with rfl | rfl | rfl | rfl | rfl
  · rw [fm1]
    cases d with
    | nil =>
      obtain rfl : true = q := by rw [← hq]; simp [bareOk]
      clear hq
      go_enter Tryz.func80, Tryz.ntmps80
      go_wp2
      go_ret
      exact ⟨rfl, hB _ _⟩
    | cons x d =>
      obtain rfl : false = q := by rw [← hq]; simp [bareOk]
      clear hq
      go_enter Tryz.func80, Tryz.ntmps80
      go_wp2
      go_ret
      exact ⟨rfl, hB _ _⟩
  · rw [fm2]
    by_cases h1 : pv = 0
    · subst h1
      cases ps with
      | nil =>
        cases it with
        | nil =>
          cases d with
          | nil =>
            obtain rfl : true = q := by rw [← hq]; simp [bareOk]
            clear hq
            go_enter Tryz.func80, Tryz.ntmps80
            go_wp2
            go_ret
            exact ⟨rfl, hB _ _⟩
          | cons x d =>
            obtain rfl : false = q := by rw [← hq]; simp [bareOk]
            clear hq
            go_enter Tryz.func80, Tryz.ntmps80
            go_wp2
            go_ret
            exact ⟨rfl, hB _ _⟩
        | cons x it =>
          obtain rfl : false = q := by rw [← hq]; simp [bareOk]
          clear hq
          go_enter Tryz.func80, Tryz.ntmps80
          go_wp2
          go_ret
          exact ⟨rfl, hB _ _⟩
      | cons x ps =>
        obtain rfl : false = q := by rw [← hq]; simp [bareOk]
        clear hq
        obtain ⟨n, hn⟩ : ∃ n, (x :: ps).length = n := ⟨_, rfl⟩
        have hn2 : 0 < n := by rw [← hn]; simp
        have t1 : ((n : Int) == 0) = false := beq_false_of_ne (by omega)
        rw [hn]
        clear hn
        go_enter Tryz.func80, Tryz.ntmps80
        go_wp2
        go_ret
        exact ⟨rfl, hB _ _⟩
    · obtain rfl : false = q := by rw [← hq]; simp [bareOk, h1]
      have t1 := priv_ne h1
      clear hq h1
      go_enter Tryz.func80, Tryz.ntmps80
      go_wp2
      go_ret
      exact ⟨rfl, hB _ _⟩
  · rw [fm3]
    obtain rfl : true = q := by rw [← hq]; simp [bareOk]
    clear hq
    go_enter Tryz.func80, Tryz.ntmps80
    go_wp2
    go_ret
    exact ⟨rfl, hB _ _⟩
  · rw [fm4]
    by_cases h1 : pv = 0
    · subst h1
      cases ps with
      | nil =>
        cases it with
        | nil =>
          obtain rfl : true = q := by rw [← hq]; simp [bareOk]
          clear hq
          go_enter Tryz.func80, Tryz.ntmps80
          go_wp2
          go_ret
          exact ⟨rfl, hB _ _⟩
        | cons x it =>
          obtain rfl : false = q := by rw [← hq]; simp [bareOk]
          clear hq
          go_enter Tryz.func80, Tryz.ntmps80
          go_wp2
          go_ret
          exact ⟨rfl, hB _ _⟩
      | cons x ps =>
        obtain rfl : false = q := by rw [← hq]; simp [bareOk]
        clear hq
        obtain ⟨n, hn⟩ : ∃ n, (x :: ps).length = n := ⟨_, rfl⟩
        have hn2 : 0 < n := by rw [← hn]; simp
        have t1 : ((n : Int) == 0) = false := beq_false_of_ne (by omega)
        rw [hn]
        clear hn
        go_enter Tryz.func80, Tryz.ntmps80
        go_wp2
        go_ret
        exact ⟨rfl, hB _ _⟩
    · obtain rfl : false = q := by rw [← hq]; simp [bareOk, h1]
      have t1 := priv_ne h1
      clear hq h1
      go_enter Tryz.func80, Tryz.ntmps80
      go_wp2
      go_ret
      exact ⟨rfl, hB _ _⟩
  · rw [fm5]
    by_cases h1 : pv = 0
    · subst h1
      cases ps with
      | nil =>
        cases d with
        | nil =>
          obtain rfl : true = q := by rw [← hq]; simp [bareOk]
          clear hq
          go_enter Tryz.func80, Tryz.ntmps80
          go_wp2
          go_ret
          exact ⟨rfl, hB _ _⟩
        | cons x d =>
          obtain rfl : false = q := by rw [← hq]; simp [bareOk]
          clear hq
          go_enter Tryz.func80, Tryz.ntmps80
          go_wp2
          go_ret
          exact ⟨rfl, hB _ _⟩
      | cons x ps =>
        obtain rfl : false = q := by rw [← hq]; simp [bareOk]
        clear hq
        obtain ⟨n, hn⟩ : ∃ n, (x :: ps).length = n := ⟨_, rfl⟩
        have hn2 : 0 < n := by rw [← hn]; simp
        have t1 : ((n : Int) == 0) = false := beq_false_of_ne (by omega)
        rw [hn]
        clear hn
        go_enter Tryz.func80, Tryz.ntmps80
        go_wp2
        go_ret
        exact ⟨rfl, hB _ _⟩
    · obtain rfl : false = q := by rw [← hq]; simp [bareOk, h1]
      have t1 := priv_ne h1
      clear hq h1
      go_enter Tryz.func80, Tryz.ntmps80
      go_wp2
      go_ret
      exact ⟨rfl, hB _ _⟩

theorem idx_mem (l : List UInt8) (c : UInt8) : (0 ≤ Lib.indexByte l c) ↔ c ∈ l := by
  induction l with
  | nil => simp [Lib.indexByte]
  | cons b l ih =>
    have := Lib.indexByte_ge l c
    unfold Lib.indexByte
    by_cases h : b = c
    · subst h; simp
    · have h2 : ¬ c = b := fun e => h e.symm
      rw [if_neg (by simpa using h)]
      simp only [List.mem_cons, h2, false_or, ← ih]
      by_cases h3 : Lib.indexByte l c = -1
      · rw [if_pos (by simpa using h3)]; omega
      · rw [if_neg (by simpa using h3)]; omega
theorem idx_in (c : UInt8) : (0 ≤ Lib.indexByte [79, 80, 88, 91, 93, 92, 94, 95] c) ↔ ([79, 80, 88, 91, 93, 92, 94, 95] : List UInt8).contains c = true := by
  rw [idx_mem, List.contains_iff_mem]
set_option maxRecDepth 100000 in
set_option maxHeartbeats 4000000 in
theorem ends_any (s : Sq) (A : Option Addr) (c : Nat) (q : Bool) (w : World) (hk : s.kind = 1 ∨ s.kind = 2 ∨ s.kind = 3 ∨ s.kind = 4 ∨ s.kind = 5) (hq : lastOk s = q) :
    Calls Tryz.prog 81 #[fmV (formF s.kind), sqV s A c] w fun e w' => e = .returned (.bool q) ∧ Below w.heap.size w w' := by
  have hB : ∀ (x y : Obj), Below w.heap.size w ((w.alloc x).alloc y) := fun x y => ((Below.refl _ w).alloc (Nat.le_refl _) _).alloc (by simp) _
  obtain ⟨q1, q5, q4, q0⟩ := last_q hq
  obtain ⟨k, pv, ps, it, f, d⟩ := s
  dsimp only at hk q1 q5 q4 ⊢
  have hf := f.toNat_lt
  unfold sqV
  dsimp only
  have key : (k = 1 ∨ k = 2 ∨ k = 3) ∨ k = 4 ∨ k = 5 := by omega
  clear hk q0
  rcases key with h | rfl | rfl
  · have E := Lib.hid (q1 h)
    clear q1 q5 q4 hq
    obtain ⟨n, hn⟩ : ∃ n, f.toNat = n := ⟨_, rfl⟩
    rw [hn] at E hf ⊢
    clear hn
    rcases h with rfl | rfl | rfl
    · rw [fm1]
      go_enter Tryz.func81, Tryz.ntmps81
      go_wp2
      all_goals
        go_ret
        refine ⟨ret_b ?_, hB _ _⟩
        rw [E.out, Bool.eq_iff_iff]
        simp
        omega
    · rw [fm2]
      go_enter Tryz.func81, Tryz.ntmps81
      go_wp2
      all_goals
        go_ret
        refine ⟨ret_b ?_, hB _ _⟩
        rw [E.out, Bool.eq_iff_iff]
        simp
        omega
    · rw [fm3]
      go_enter Tryz.func81, Tryz.ntmps81
      go_wp2
      all_goals
        go_ret
        refine ⟨ret_b ?_, hB _ _⟩
        rw [E.out, Bool.eq_iff_iff]
        simp
        omega
  · have E := Lib.hid (q4 rfl)
    clear q1 q5 q4 hq
    obtain ⟨n, hn⟩ : ∃ n, f.toNat = n := ⟨_, rfl⟩
    rw [hn] at E hf ⊢
    clear hn
    rw [fm4]
    go_enter Tryz.func81, Tryz.ntmps81
    go_wp2
    all_goals
      go_ret
      refine ⟨ret_b ?_, hB _ _⟩
      rw [E.out, Bool.eq_iff_iff]
      simp
  · obtain ⟨e1, e2⟩ := q5 rfl
    clear q1 q5 q4
    rw [fm5]
    cases it with
    | cons x it =>
      have E := Lib.hid (show q = (decide (48 ≤ f.toNat) && decide (f.toNat ≤ 126)) by
        by_cases h1 : 48 ≤ f.toNat
        · by_cases h2 : f.toNat ≤ 126
          · rw [(e2 h1 h2).1 (by simp)]; simp [h1, h2]
          · rw [e1 (by omega)]; simp [h2]
        · rw [e1 (by omega)]; simp [h1])
      clear e1 e2 hq
      obtain ⟨n, hn⟩ : ∃ n, f.toNat = n := ⟨_, rfl⟩
      rw [hn] at E hf ⊢
      clear hn
      go_enter Tryz.func81, Tryz.ntmps81
      go_wp2
      all_goals
        go_ret
        refine ⟨ret_b ?_, hB _ _⟩
        rw [E.out, Bool.eq_iff_iff]
        simp
        omega
    | nil =>
      clear e1 e2
      obtain ⟨x, hx⟩ : ∃ x, Lib.indexByte [79, 80, 88, 91, 93, 92, 94, 95] f = x := ⟨_, rfl⟩
      have hi := idx_in f
      rw [hx] at hi
      have HX := Lib.hid (show Lib.indexByte (⟨#[79, 80, 88, 91, 93, 92, 94, 95]⟩ : ByteArray).data.toList ((f.toNat : Int)).toNat.toUInt8 = x by rw [← hx]; congr 1; rw [Int.toNat_natCast]; simp)
      clear hx
      have HF := Lib.hid (show lastOk ⟨5, pv, ps, [], f, d⟩ = (btw 48 126 f && !([79, 80, 88, 91, 93, 92, 94, 95] : List UInt8).contains f) by simp [lastOk])
      by_cases h0 : 0 ≤ x
      · have E := Lib.hid (show q = false by rw [← hq, HF.out, hi.1 h0]; simp)
        clear hq hi HF
        go_enter Tryz.func81, Tryz.ntmps81
        go_wp2_with fail
        refine (Tryz.strings_IndexByte _ _ _).mono ?_
        rw [HX.out]
        rintro e w1 ⟨rfl, rfl⟩
        go_wp2_with fail
        go_ret
        exact ⟨ret_b E.out.symm, hB _ _⟩
      · have hc : ([79, 80, 88, 91, 93, 92, 94, 95] : List UInt8).contains f = false := by
          cases hh : ([79, 80, 88, 91, 93, 92, 94, 95] : List UInt8).contains f with
          | false => rfl
          | true => exact absurd (hi.2 hh) h0
        have E := Lib.hid (show q = (decide (48 ≤ f.toNat) && decide (f.toNat ≤ 126)) by rw [← hq, HF.out, hc]; simp [btw])
        clear hq hi HF hc
        obtain ⟨n, hn⟩ : ∃ n, f.toNat = n := ⟨_, rfl⟩
        rw [hn] at E hf HX ⊢
        clear hn
        go_enter Tryz.func81, Tryz.ntmps81
        go_wp2_with fail
        refine (Tryz.strings_IndexByte _ _ _).mono ?_
        rw [HX.out]
        rintro e w1 ⟨rfl, rfl⟩
        go_wp2_with fail
        all_goals
          go_ret
          refine ⟨ret_b ?_, hB _ _⟩
          rw [E.out, Bool.eq_iff_iff]
          simp
          omega
end Go.Proofs.YtbjmfhcgkpjcfaaGreatDoor
namespace Go.Proofs.YtbjmfhcgkpjcfaaGreatDoor
open Go.RowKit

set_option maxRecDepth 100000 in
set_option maxHeartbeats 2000000 in
theorem char_any (c : UInt8) (w : World) (h : c.toNat < 128) :
    Calls Tryz.prog 76 #[.int .u8 (c.toNat : Int)] w fun e w' => e = .returned (.string ⟨(privL c).toArray⟩) ∧ w = w' := by
  by_cases h0 : c = 0
  · subst h0
    go_enter Tryz.func76, Tryz.ntmps76
    go_wp2
    go_ret
    exact ⟨rfl, rfl⟩
  · have E := Lib.hid (show privL c = [c] from if_neg h0)
    have n0 : c.toNat ≠ 0 := fun e => h0 (UInt8.toNat_inj.1 e)
    have t0 : ((c.toNat : Int) == 0) = false := beq_false_of_ne (by omega)
    clear h0 n0
    go_enter Tryz.func76, Tryz.ntmps76
    go_wp2
    go_ret
    exact ⟨by rw [E.out, ← char_str c h]; rfl, rfl⟩
end Go.Proofs.YtbjmfhcgkpjcfaaGreatDoor
