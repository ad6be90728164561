/-
  Layer 7: the walk of SaveParts.
-/
import Derived.Test.YtokhchejkfhmmaaLsP
import Derived.Test.YtokhchejkfhmmaaRegA
namespace Go.Proofs.Ytokhchejkfhmmaa
open Go.RowKit

section
variable {Inv : World → Prop}
theorem Try.intinfo7 : (Try.prog.info? 3).map (fun i => (i.zero, i.size, i.bytes)) = some (some (.int .i64 0), 1, 8) := by kernel_rfl
theorem ok_rest1 (s : List UInt8) {m : Mo} (hm : okM m) {n : Int} (hn : inI n) : okM (rest1 s m n) := by
  unfold rest1
  split
  · split
    · exact ok_set hm true hn true
    · split
      · exact ok_set hm true hn false
      · exact hm
  · exact hm
theorem ok_rest (s : List UInt8) : ∀ (l : List Int), (∀ z ∈ l, inI z) → ∀ m, okM m → okM (restS s m l)
  | [], _, _, hm => hm
  | x :: l, hl, m, hm => by
    show okM (restS s (rest1 s m x) l)
    exact ok_rest s l (fun z hz => hl z (List.mem_cons_of_mem _ hz)) _ (ok_rest1 s hm (hl x (List.mem_cons_self ..)))
set_option maxRecDepth 100000 in
set_option maxHeartbeats 16000000 in
theorem parts_many (H : SavC Inv) (s : List UInt8) (hs : s.length = 12) (m : Mo) (A : Option Addr) (c n : Nat) (B : Option Addr) (e k : Nat) (w : World) (h20 : 20 < n ∨ 20 < k) (hv : Inv w) :
    Calls Try.prog 8 #[savV s, moV m, .agg #[.slice A n c, .slice B k e]] w fun x w' => x = .returned (.bool true) ∧ Below w.heap.size w w' := by
  obtain ⟨b0, b1, b2, b3, b4, b5, b6, b7, b8, b9, b10, b11, hb⟩ := of12 hs
  have HSV := Lib.hid (show savV s = .agg #[.int .u8 (b0.toNat : Int), .int .u8 (b1.toNat : Int), .int .u8 (b2.toNat : Int), .int .u8 (b3.toNat : Int), .int .u8 (b4.toNat : Int), .int .u8 (b5.toNat : Int), .int .u8 (b6.toNat : Int), .int .u8 (b7.toNat : Int), .int .u8 (b8.toNat : Int), .int .u8 (b9.toNat : Int), .int .u8 (b10.toNat : Int), .int .u8 (b11.toNat : Int)] by rw [hb]; rfl)
  clear hb hs
  have hbe : Below w.heap.size w (((w.alloc (.cells #[.int .u8 (b0.toNat : Int), .int .u8 (b1.toNat : Int), .int .u8 (b2.toNat : Int), .int .u8 (b3.toNat : Int), .int .u8 (b4.toNat : Int), .int .u8 (b5.toNat : Int), .int .u8 (b6.toNat : Int), .int .u8 (b7.toNat : Int), .int .u8 (b8.toNat : Int), .int .u8 (b9.toNat : Int), .int .u8 (b10.toNat : Int), .int .u8 (b11.toNat : Int)] 23)).alloc (.cells #[.bool m.cursor, .bool m.keypad, .bool m.back, .bool m.focus, .bool m.paste, .bool m.lock, .bool m.line, .int .i64 m.mouse, .int .i64 m.coding, .int .i64 m.other] 25)).alloc (.cells #[.slice A n c, .slice B k e] 44)) := (((Below.refl _ w).alloc (Nat.le_refl _) _).alloc (by simp) _).alloc (by simp; omega) _
  have L2 := (((Bl.nil w).add 23 #[.int .u8 (b0.toNat : Int), .int .u8 (b1.toNat : Int), .int .u8 (b2.toNat : Int), .int .u8 (b3.toNat : Int), .int .u8 (b4.toNat : Int), .int .u8 (b5.toNat : Int), .int .u8 (b6.toNat : Int), .int .u8 (b7.toNat : Int), .int .u8 (b8.toNat : Int), .int .u8 (b9.toNat : Int), .int .u8 (b10.toNat : Int), .int .u8 (b11.toNat : Int)]).add 25 #[.bool m.cursor, .bool m.keypad, .bool m.back, .bool m.focus, .bool m.paste, .bool m.lock, .bool m.line, .int .i64 m.mouse, .int .i64 m.coding, .int .i64 m.other]).add 44 #[.slice A n c, .slice B k e]
  simp only [World.size_alloc] at L2
  have hi := H.invB hv hbe
  rw [HSV.out, moV]
  go_enter Try.func8, Try.ntmps8
  go_wp2_with fail
  refine (saveAwake H _ hi).mono ?_
  rintro x w1 ⟨rfl, hb1⟩
  have L3 := L2.below hb1
  have hbe1 := below_step hbe hb1 hbe.size
  have k3 : Blk w1 w.heap.size 23 #[.int .u8 (b0.toNat : Int), .int .u8 (b1.toNat : Int), .int .u8 (b2.toNat : Int), .int .u8 (b3.toNat : Int), .int .u8 (b4.toNat : Int), .int .u8 (b5.toNat : Int), .int .u8 (b6.toNat : Int), .int .u8 (b7.toNat : Int), .int .u8 (b8.toNat : Int), .int .u8 (b9.toNat : Int), .int .u8 (b10.toNat : Int), .int .u8 (b11.toNat : Int)] := L3.tail.tail.head
  have k4 : Blk w1 (w.heap.size + 1) 25 #[.bool m.cursor, .bool m.keypad, .bool m.back, .bool m.focus, .bool m.paste, .bool m.lock, .bool m.line, .int .i64 m.mouse, .int .i64 m.coding, .int .i64 m.other] := L3.tail.head
  have k5 : Blk w1 (w.heap.size + 1 + 1) 44 #[.slice A n c, .slice B k e] := L3.head
  have i0 : w1.cell? ⟨w.heap.size + 1 + 1, 0, none⟩ = some (.slice A n c) := k5.cell 0
  have i1 : w1.cell? ⟨w.heap.size + 1 + 1, 1, none⟩ = some (.slice B k e) := k5.cell 1
  clear L2 L3 hbe hb1 hi
  by_cases h1 : 20 < n
  · have t1 : decide ((20 : Int) < (n : Int)) = true := decide_eq_true (by omega)
    have t2 : (20 : Int) < (n : Int) := by omega
    go_wp2_with fail
    go_ret
    exact ⟨rfl, hbe1⟩
  · have h2 : 20 < k := by omega
    have t0 : decide ((20 : Int) < (n : Int)) = false := decide_eq_false (by omega)
    have t1 : decide ((20 : Int) < (k : Int)) = true := decide_eq_true (by omega)
    have t2 : (20 : Int) < (k : Int) := by omega
    have t3 : (n : Int) ≤ 20 := by omega
    go_wp2_with fail
    go_ret
    exact ⟨rfl, hbe1⟩
set_option maxRecDepth 100000 in
set_option maxHeartbeats 16000000 in
theorem parts_few (H : SavC Inv) (s : List UInt8) (hs : s.length = 12) (m : Mo) (hm : okM m) (A : Option Addr) (l : List Int) (c n : Nat) (hn : l.length = n) (B : Option Addr) (l2 : List Int) (e k : Nat) (hk : l2.length = k) (w : World) (hr : Rd w A (is_ l)) (hli : ∀ z ∈ l, inI z) (hq : Rd w B (is_ l2)) (hlj : ∀ z ∈ l2, inI z) (h20 : n ≤ 20) (h21 : k ≤ 20) (hv : Inv w) :
    Calls Try.prog 8 #[savV s, moV m, .agg #[.slice A n c, .slice B k e]] w fun x w' => x = .returned (.bool true) ∧ Below w.heap.size w w' := by
  obtain ⟨b0, b1, b2, b3, b4, b5, b6, b7, b8, b9, b10, b11, hb⟩ := of12 hs
  have hsv : savV s = .agg #[.int .u8 (b0.toNat : Int), .int .u8 (b1.toNat : Int), .int .u8 (b2.toNat : Int), .int .u8 (b3.toNat : Int), .int .u8 (b4.toNat : Int), .int .u8 (b5.toNat : Int), .int .u8 (b6.toNat : Int), .int .u8 (b7.toNat : Int), .int .u8 (b8.toNat : Int), .int .u8 (b9.toNat : Int), .int .u8 (b10.toNat : Int), .int .u8 (b11.toNat : Int)] := by rw [hb]; rfl
  have HSV := Lib.hid hsv
  obtain ⟨s1, hs1⟩ : ∃ s', saveS s m l = s' := ⟨_, rfl⟩
  have hl1 : s1.length = 12 := by rw [← hs1, saveS_len, hs]
  obtain ⟨s2, hs2⟩ : ∃ s', saveS s1 m l2 = s' := ⟨_, rfl⟩
  have hl2 : s2.length = 12 := by rw [← hs2, saveS_len, hl1]
  have hs3 : saveS s m (l ++ l2) = s2 := by rw [saveS_append, hs1, hs2]
  obtain ⟨mq, hmq⟩ : ∃ m', restS s m l = m' := ⟨_, rfl⟩
  obtain ⟨mr, hmr⟩ : ∃ m', restS s mq l2 = m' := ⟨_, rfl⟩
  have hmr3 : restS s m (l ++ l2) = mr := by rw [restS_append, hmq, hmr]
  have hoq : okM mq := by rw [← hmq]; exact ok_rest s l hli m hm
  obtain ⟨d0, d1, d2, d3, d4, d5, d6, d7, d8, d9, d10, d11, hD⟩ := of12 hl1
  have hDv : savV s1 = .agg #[.int .u8 (d0.toNat : Int), .int .u8 (d1.toNat : Int), .int .u8 (d2.toNat : Int), .int .u8 (d3.toNat : Int), .int .u8 (d4.toNat : Int), .int .u8 (d5.toNat : Int), .int .u8 (d6.toNat : Int), .int .u8 (d7.toNat : Int), .int .u8 (d8.toNat : Int), .int .u8 (d9.toNat : Int), .int .u8 (d10.toNat : Int), .int .u8 (d11.toNat : Int)] := by rw [hD]; rfl
  obtain ⟨e0, e1, e2, e3, e4, e5, e6, e7, e8, e9, e10, e11, hE⟩ := of12 hl2
  have hEv : savV s2 = .agg #[.int .u8 (e0.toNat : Int), .int .u8 (e1.toNat : Int), .int .u8 (e2.toNat : Int), .int .u8 (e3.toNat : Int), .int .u8 (e4.toNat : Int), .int .u8 (e5.toNat : Int), .int .u8 (e6.toNat : Int), .int .u8 (e7.toNat : Int), .int .u8 (e8.toNat : Int), .int .u8 (e9.toNat : Int), .int .u8 (e10.toNat : Int), .int .u8 (e11.toNat : Int)] := by rw [hE]; rfl
  have hlen : (l ++ l2).length = n + k := by rw [List.length_append, hn, hk]
  have hll : ∀ z ∈ l ++ l2, inI z := fun z hz => (List.mem_append.1 hz).elim (hli z) (hlj z)
  have hqq : ∀ W : World, (binOp .eql 28 (.agg #[.int .u8 (e0.toNat : Int), .int .u8 (e1.toNat : Int), .int .u8 (e2.toNat : Int), .int .u8 (e3.toNat : Int), .int .u8 (e4.toNat : Int), .int .u8 (e5.toNat : Int), .int .u8 (e6.toNat : Int), .int .u8 (e7.toNat : Int), .int .u8 (e8.toNat : Int), .int .u8 (e9.toNat : Int), .int .u8 (e10.toNat : Int), .int .u8 (e11.toNat : Int)]) (.agg #[.int .u8 (e0.toNat : Int), .int .u8 (e1.toNat : Int), .int .u8 (e2.toNat : Int), .int .u8 (e3.toNat : Int), .int .u8 (e4.toNat : Int), .int .u8 (e5.toNat : Int), .int .u8 (e6.toNat : Int), .int .u8 (e7.toNat : Int), .int .u8 (e8.toNat : Int), .int .u8 (e9.toNat : Int), .int .u8 (e10.toNat : Int), .int .u8 (e11.toNat : Int)])).run Try.prog W = .ok (.bool true) W := fun W => by
    have := eqlP s2 s2 hl2 hl2 W
    rw [hEv] at this
    simpa using this
  have HC1 : Hid (∀ W, Inv W → Rd W A (is_ l) → Calls Try.prog 10 #[.agg #[.int .u8 (b0.toNat : Int), .int .u8 (b1.toNat : Int), .int .u8 (b2.toNat : Int), .int .u8 (b3.toNat : Int), .int .u8 (b4.toNat : Int), .int .u8 (b5.toNat : Int), .int .u8 (b6.toNat : Int), .int .u8 (b7.toNat : Int), .int .u8 (b8.toNat : Int), .int .u8 (b9.toNat : Int), .int .u8 (b10.toNat : Int), .int .u8 (b11.toNat : Int)], .agg #[.bool m.cursor, .bool m.keypad, .bool m.back, .bool m.focus, .bool m.paste, .bool m.lock, .bool m.line, .int .i64 m.mouse, .int .i64 m.coding, .int .i64 m.other], .slice A n c] W fun x w' => x = .returned (.agg #[.int .u8 (d0.toNat : Int), .int .u8 (d1.toNat : Int), .int .u8 (d2.toNat : Int), .int .u8 (d3.toNat : Int), .int .u8 (d4.toNat : Int), .int .u8 (d5.toNat : Int), .int .u8 (d6.toNat : Int), .int .u8 (d7.toNat : Int), .int .u8 (d8.toNat : Int), .int .u8 (d9.toNat : Int), .int .u8 (d10.toNat : Int), .int .u8 (d11.toNat : Int)]) ∧ Below W.heap.size W w') := Lib.hid fun W hW hR => H.save_at W hW hs hn (by omega) hli hm hR hs1 hsv rfl hDv
  have HC2 : Hid (∀ W, Inv W → Rd W B (is_ l2) → Calls Try.prog 10 #[.agg #[.int .u8 (d0.toNat : Int), .int .u8 (d1.toNat : Int), .int .u8 (d2.toNat : Int), .int .u8 (d3.toNat : Int), .int .u8 (d4.toNat : Int), .int .u8 (d5.toNat : Int), .int .u8 (d6.toNat : Int), .int .u8 (d7.toNat : Int), .int .u8 (d8.toNat : Int), .int .u8 (d9.toNat : Int), .int .u8 (d10.toNat : Int), .int .u8 (d11.toNat : Int)], .agg #[.bool m.cursor, .bool m.keypad, .bool m.back, .bool m.focus, .bool m.paste, .bool m.lock, .bool m.line, .int .i64 m.mouse, .int .i64 m.coding, .int .i64 m.other], .slice B k e] W fun x w' => x = .returned (.agg #[.int .u8 (e0.toNat : Int), .int .u8 (e1.toNat : Int), .int .u8 (e2.toNat : Int), .int .u8 (e3.toNat : Int), .int .u8 (e4.toNat : Int), .int .u8 (e5.toNat : Int), .int .u8 (e6.toNat : Int), .int .u8 (e7.toNat : Int), .int .u8 (e8.toNat : Int), .int .u8 (e9.toNat : Int), .int .u8 (e10.toNat : Int), .int .u8 (e11.toNat : Int)]) ∧ Below W.heap.size W w') := Lib.hid fun W hW hR => H.save_at W hW hl1 hk (by omega) hlj hm hR hs2 hDv rfl hEv
  have HC3 : Hid (∀ W C cC, Inv W → Rd W C (is_ (l ++ l2)) → Calls Try.prog 10 #[.agg #[.int .u8 (b0.toNat : Int), .int .u8 (b1.toNat : Int), .int .u8 (b2.toNat : Int), .int .u8 (b3.toNat : Int), .int .u8 (b4.toNat : Int), .int .u8 (b5.toNat : Int), .int .u8 (b6.toNat : Int), .int .u8 (b7.toNat : Int), .int .u8 (b8.toNat : Int), .int .u8 (b9.toNat : Int), .int .u8 (b10.toNat : Int), .int .u8 (b11.toNat : Int)], .agg #[.bool m.cursor, .bool m.keypad, .bool m.back, .bool m.focus, .bool m.paste, .bool m.lock, .bool m.line, .int .i64 m.mouse, .int .i64 m.coding, .int .i64 m.other], .slice C (n + k) cC] W fun x w' => x = .returned (.agg #[.int .u8 (e0.toNat : Int), .int .u8 (e1.toNat : Int), .int .u8 (e2.toNat : Int), .int .u8 (e3.toNat : Int), .int .u8 (e4.toNat : Int), .int .u8 (e5.toNat : Int), .int .u8 (e6.toNat : Int), .int .u8 (e7.toNat : Int), .int .u8 (e8.toNat : Int), .int .u8 (e9.toNat : Int), .int .u8 (e10.toNat : Int), .int .u8 (e11.toNat : Int)]) ∧ Below W.heap.size W w') := Lib.hid fun W C cC hW hR => H.save_at W hW hs hlen (by omega) hll hm hR hs3 hsv rfl hEv
  have HC4 : Hid (∀ W, Inv W → Rd W A (is_ l) → Calls Try.prog 12 #[.agg #[.int .u8 (b0.toNat : Int), .int .u8 (b1.toNat : Int), .int .u8 (b2.toNat : Int), .int .u8 (b3.toNat : Int), .int .u8 (b4.toNat : Int), .int .u8 (b5.toNat : Int), .int .u8 (b6.toNat : Int), .int .u8 (b7.toNat : Int), .int .u8 (b8.toNat : Int), .int .u8 (b9.toNat : Int), .int .u8 (b10.toNat : Int), .int .u8 (b11.toNat : Int)], .agg #[.bool m.cursor, .bool m.keypad, .bool m.back, .bool m.focus, .bool m.paste, .bool m.lock, .bool m.line, .int .i64 m.mouse, .int .i64 m.coding, .int .i64 m.other], .slice A n c] W fun x w' => x = .returned (.agg #[.bool mq.cursor, .bool mq.keypad, .bool mq.back, .bool mq.focus, .bool mq.paste, .bool mq.lock, .bool mq.line, .int .i64 mq.mouse, .int .i64 mq.coding, .int .i64 mq.other]) ∧ Below W.heap.size W w') := Lib.hid fun W hW hR => H.rest_at W hW hs hn (by omega) hli hm hR hmq hsv rfl rfl
  have HC5 : Hid (∀ W, Inv W → Rd W B (is_ l2) → Calls Try.prog 12 #[.agg #[.int .u8 (b0.toNat : Int), .int .u8 (b1.toNat : Int), .int .u8 (b2.toNat : Int), .int .u8 (b3.toNat : Int), .int .u8 (b4.toNat : Int), .int .u8 (b5.toNat : Int), .int .u8 (b6.toNat : Int), .int .u8 (b7.toNat : Int), .int .u8 (b8.toNat : Int), .int .u8 (b9.toNat : Int), .int .u8 (b10.toNat : Int), .int .u8 (b11.toNat : Int)], .agg #[.bool mq.cursor, .bool mq.keypad, .bool mq.back, .bool mq.focus, .bool mq.paste, .bool mq.lock, .bool mq.line, .int .i64 mq.mouse, .int .i64 mq.coding, .int .i64 mq.other], .slice B k e] W fun x w' => x = .returned (.agg #[.bool mr.cursor, .bool mr.keypad, .bool mr.back, .bool mr.focus, .bool mr.paste, .bool mr.lock, .bool mr.line, .int .i64 mr.mouse, .int .i64 mr.coding, .int .i64 mr.other]) ∧ Below W.heap.size W w') := Lib.hid fun W hW hR => H.rest_at W hW hs hk (by omega) hlj hoq hR hmr hsv rfl rfl
  have HC6 : Hid (∀ W C cC, Inv W → Rd W C (is_ (l ++ l2)) → Calls Try.prog 12 #[.agg #[.int .u8 (b0.toNat : Int), .int .u8 (b1.toNat : Int), .int .u8 (b2.toNat : Int), .int .u8 (b3.toNat : Int), .int .u8 (b4.toNat : Int), .int .u8 (b5.toNat : Int), .int .u8 (b6.toNat : Int), .int .u8 (b7.toNat : Int), .int .u8 (b8.toNat : Int), .int .u8 (b9.toNat : Int), .int .u8 (b10.toNat : Int), .int .u8 (b11.toNat : Int)], .agg #[.bool m.cursor, .bool m.keypad, .bool m.back, .bool m.focus, .bool m.paste, .bool m.lock, .bool m.line, .int .i64 m.mouse, .int .i64 m.coding, .int .i64 m.other], .slice C (n + k) cC] W fun x w' => x = .returned (.agg #[.bool mr.cursor, .bool mr.keypad, .bool mr.back, .bool mr.focus, .bool mr.paste, .bool mr.lock, .bool mr.line, .int .i64 mr.mouse, .int .i64 mr.coding, .int .i64 mr.other]) ∧ Below W.heap.size W w') := Lib.hid fun W C cC hW hR => H.rest_at W hW hs hlen (by omega) hll hm hR hmr3 hsv rfl rfl
  obtain ⟨ti, hti, hz0, hz1, hz2⟩ := info_parts Try.intinfo7
  have one1 := ints_one (k := .i64) l
  have one2 := ints_one (k := .i64) l2
  have h63 : n ≤ maxLen := by simp only [maxLen]; omega
  have h64 : n + k ≤ maxLen := by simp only [maxLen]; omega
  have hlim : n * 8 ≤ 140737488355328 := by omega
  have hlim2 : (n + k) * 8 ≤ 140737488355328 := by omega
  have hn' : (is_ l).length = n := by simpa [is_] using hn
  have hk' : (is_ l2).length = k := by simpa [is_] using hk
  have happ := Lib.hid (show is_ (l ++ l2) = is_ l ++ is_ l2 by simp [is_])
  clear hn hk
  have hn := Lib.hid hn'
  have hk := Lib.hid hk'
  clear hb hs hsv hs1 hl1 hs2 hl2 hs3 hmq hmr hmr3 hoq hD hDv hE hEv hlen hll hli hlj hm hn' hk'
  have hbe : Below w.heap.size w (((w.alloc (.cells #[.int .u8 (b0.toNat : Int), .int .u8 (b1.toNat : Int), .int .u8 (b2.toNat : Int), .int .u8 (b3.toNat : Int), .int .u8 (b4.toNat : Int), .int .u8 (b5.toNat : Int), .int .u8 (b6.toNat : Int), .int .u8 (b7.toNat : Int), .int .u8 (b8.toNat : Int), .int .u8 (b9.toNat : Int), .int .u8 (b10.toNat : Int), .int .u8 (b11.toNat : Int)] 23)).alloc (.cells #[.bool m.cursor, .bool m.keypad, .bool m.back, .bool m.focus, .bool m.paste, .bool m.lock, .bool m.line, .int .i64 m.mouse, .int .i64 m.coding, .int .i64 m.other] 25)).alloc (.cells #[.slice A n c, .slice B k e] 44)) := (((Below.refl _ w).alloc (Nat.le_refl _) _).alloc (by simp) _).alloc (by simp; omega) _
  have L2 := (((Bl.nil w).add 23 #[.int .u8 (b0.toNat : Int), .int .u8 (b1.toNat : Int), .int .u8 (b2.toNat : Int), .int .u8 (b3.toNat : Int), .int .u8 (b4.toNat : Int), .int .u8 (b5.toNat : Int), .int .u8 (b6.toNat : Int), .int .u8 (b7.toNat : Int), .int .u8 (b8.toNat : Int), .int .u8 (b9.toNat : Int), .int .u8 (b10.toNat : Int), .int .u8 (b11.toNat : Int)]).add 25 #[.bool m.cursor, .bool m.keypad, .bool m.back, .bool m.focus, .bool m.paste, .bool m.lock, .bool m.line, .int .i64 m.mouse, .int .i64 m.coding, .int .i64 m.other]).add 44 #[.slice A n c, .slice B k e]
  simp only [World.size_alloc] at L2
  have hi := H.invB hv hbe
  rw [HSV.out, moV]
  go_enter Try.func8, Try.ntmps8
  go_wp2_with fail
  refine (saveAwake H _ hi).mono ?_
  rintro x w1 ⟨rfl, hb1⟩
  have L3 := L2.below hb1
  have hbe1 := below_step hbe hb1 hbe.size
  have k3 : Blk w1 w.heap.size 23 #[.int .u8 (b0.toNat : Int), .int .u8 (b1.toNat : Int), .int .u8 (b2.toNat : Int), .int .u8 (b3.toNat : Int), .int .u8 (b4.toNat : Int), .int .u8 (b5.toNat : Int), .int .u8 (b6.toNat : Int), .int .u8 (b7.toNat : Int), .int .u8 (b8.toNat : Int), .int .u8 (b9.toNat : Int), .int .u8 (b10.toNat : Int), .int .u8 (b11.toNat : Int)] := L3.tail.tail.head
  have k4 : Blk w1 (w.heap.size + 1) 25 #[.bool m.cursor, .bool m.keypad, .bool m.back, .bool m.focus, .bool m.paste, .bool m.lock, .bool m.line, .int .i64 m.mouse, .int .i64 m.coding, .int .i64 m.other] := L3.tail.head
  have k5 : Blk w1 (w.heap.size + 1 + 1) 44 #[.slice A n c, .slice B k e] := L3.head
  have i0 : w1.cell? ⟨w.heap.size + 1 + 1, 0, none⟩ = some (.slice A n c) := k5.cell 0
  have i1 : w1.cell? ⟨w.heap.size + 1 + 1, 1, none⟩ = some (.slice B k e) := k5.cell 1
  clear L2 L3 hbe hb1 hi
  have t0 : decide ((20 : Int) < (n : Int)) = false := decide_eq_false (by omega)
  have t1 : decide ((20 : Int) < (k : Int)) = false := decide_eq_false (by omega)
  have t2 : (k : Int) ≤ 20 := by omega
  have t3 : (n : Int) ≤ 20 := by omega
  go_wp2_with fail
  have l50 : ∀ W, Below w1.heap.size w1 W → W.cell? ⟨w.heap.size + 1 + 1, 0, none⟩ = some (.slice A n c) := fun W h => (k5.below h k5.lt).cell 0
  have l51 : ∀ W, Below w1.heap.size w1 W → W.cell? ⟨w.heap.size + 1 + 1, 1, none⟩ = some (.slice B k e) := fun W h => (k5.below h k5.lt).cell 1
  have l6 : ∀ W, Below w1.heap.size w1 W → Rd W A (is_ l) := fun W hb => hr.below (below_step hbe1 hb hbe1.size)
  have l7 : ∀ W, Below w1.heap.size w1 W → Rd W B (is_ l2) := fun W hb => hq.below (below_step hbe1 hb hbe1.size)
  refine wp_region_join (w1 := w1) (i0 := 0) (i1 := 3) (i2 := 6) (i3 := 7) (d0 := 25) (d1 := 28) (d2 := 31) (d3 := 8) (te := 3) (n1 := n) (n2 := k) (x1 := is_ l) (x2 := is_ l2) (fun p0 p1 p2 p3 => ⟨#[.agg #[.int .u8 (b0.toNat : Int), .int .u8 (b1.toNat : Int), .int .u8 (b2.toNat : Int), .int .u8 (b3.toNat : Int), .int .u8 (b4.toNat : Int), .int .u8 (b5.toNat : Int), .int .u8 (b6.toNat : Int), .int .u8 (b7.toNat : Int), .int .u8 (b8.toNat : Int), .int .u8 (b9.toNat : Int), .int .u8 (b10.toNat : Int), .int .u8 (b11.toNat : Int)], .agg #[.bool m.cursor, .bool m.keypad, .bool m.back, .bool m.focus, .bool m.paste, .bool m.lock, .bool m.line, .int .i64 m.mouse, .int .i64 m.coding, .int .i64 m.other], .agg #[.slice A n c, .slice B k e], .pointer (some ⟨w.heap.size, 0, none⟩), .pointer (some ⟨w.heap.size + 1, 0, none⟩), .pointer (some ⟨w.heap.size + 1 + 1, 0, none⟩), .bool false, .bool true, p3, undef, undef, undef, undef, .bool true, .pointer (some ⟨w.heap.size + 1 + 1, 0, none⟩), .slice A n c, .int .i64 (n : Int), .bool false, .bool false, .pointer (some ⟨w.heap.size + 1 + 1, 1, none⟩), .slice B k e, .int .i64 (k : Int), .bool false, .bool false, undef, p0, .pointer (some ⟨w.heap.size + 1 + 1, 0, none⟩), .slice A n c, p1, .pointer (some ⟨w.heap.size + 1 + 1, 1, none⟩), .slice B k e, p2, undef, undef, undef, undef, undef, undef, undef, undef, undef, undef, undef, undef, undef, undef, undef, undef, undef, undef, undef, undef, undef, undef, undef, undef, undef, undef, undef, undef, undef, undef, undef, undef, undef, undef, undef, undef, undef], []⟩) [undef, .pointer (some ⟨w.heap.size + 1 + 1, 0, none⟩), .slice A n c, undef, .pointer (some ⟨w.heap.size + 1 + 1, 1, none⟩), .slice B k e, undef, undef] (by kernel_rfl) (by kernel_rfl) (by kernel_rfl) (fun g => by kernel_rfl) (by kernel_rfl) (Below.refl _ _).drew (by decide) (by decide)
    (goes_cons (goesJ_make rfl (by decide) (by decide) (by decide) (fun g => by kernel_rfl) rfl (fun g => by kernel_rfl) (fun g w => by kernel_rfl)) 
    (goes_cons (goesJ_val (.pointer (some ⟨w.heap.size + 1 + 1, 0, none⟩)) (by decide) (by decide) (by decide) (by decide) (fun g => by kernel_rfl) rfl (fun g => by kernel_rfl) (fun g w _ => by kernel_rfl)) 
    (goes_cons (goesJ_cell (by decide) (by decide) (by decide) (by decide) (fun g => by kernel_rfl) rfl (fun g => by kernel_rfl) rfl (fun g => by kernel_rfl) l50 (fun w => by kernel_rfl)) 
    (goes_cons (goesJ_one (c := c) rfl (by decide) (by decide) (by decide) (fun g => by kernel_rfl) rfl rfl (fun g => by kernel_rfl) (fun g => by kernel_rfl) (fun g => by kernel_rfl) Try.underlying26 hti hz0 hz1 hz2 rfl hn.out l6 one1 h63 hlim (fun l hr => hr ⟨0, .data⟩ (by simp) rfl) rfl) 
    (goes_cons (goesJ_val (.pointer (some ⟨w.heap.size + 1 + 1, 1, none⟩)) (by decide) (by decide) (by decide) (by decide) (fun g => by kernel_rfl) rfl (fun g => by kernel_rfl) (fun g w _ => by kernel_rfl)) 
    (goes_cons (goesJ_cell (by decide) (by decide) (by decide) (by decide) (fun g => by kernel_rfl) rfl (fun g => by kernel_rfl) rfl (fun g => by kernel_rfl) l51 (fun w => by kernel_rfl)) 
    (goes_cons (goesJ_two (c := e) rfl (by decide) (by decide) (by decide) (fun g => by kernel_rfl) rfl rfl (fun g => by kernel_rfl) (fun g => by kernel_rfl) (fun g => by kernel_rfl) Try.underlying26 hti hz0 hz1 hz2 rfl hk.out l7 one2 h64 hlim2 (fun l hr => hr ⟨3, .data⟩ (by simp) rfl) rfl) 
    (goes_cons (goesJ_name rfl (by decide) (by decide) (by decide) (by decide) (fun g => by kernel_rfl) rfl rfl (fun g => by kernel_rfl) (fun g => by kernel_rfl) (fun l hr => hr ⟨6, .data⟩ (by simp) rfl)) goes_nil)))))))) ?_
  intro u25 u28 vC w2 hb2 own2
  obtain ⟨C, cC, rfl, rC⟩ := own2.form
  have k32 := k3.below hb2 k3.lt
  have k42 := k4.below hb2 k4.lt
  have k52 := k5.below hb2 k5.lt
  have hbe2 := below_step hbe1 hb2 hbe1.size
  have rC2 : Rd w2 C (is_ (l ++ l2)) := by rw [happ.out]; exact rC
  have hi2 := H.invB hv hbe2
  clear l50 l51 l6 l7 own2 rC i0 i1 k3 k4 k5 hbe1 hb2
  obtain ⟨a0, a1, a2, a3, a4, a5, a6, a7, a8, a9, a10, a11⟩ := Blk.cells12 k32
  obtain ⟨p0, p1, p2, p3, p4, p5, p6, p7, p8, p9⟩ := Blk.cells10 k42
  go_wp2_with fail
  refine (HC3.out _ _ _ hi2 rC2).mono ?_
  rintro x w2' ⟨rfl, hb3⟩
  have k33 := (k32.below hb3 k32.lt).alloc (.cells #[.int .u8 (e0.toNat : Int), .int .u8 (e1.toNat : Int), .int .u8 (e2.toNat : Int), .int .u8 (e3.toNat : Int), .int .u8 (e4.toNat : Int), .int .u8 (e5.toNat : Int), .int .u8 (e6.toNat : Int), .int .u8 (e7.toNat : Int), .int .u8 (e8.toNat : Int), .int .u8 (e9.toNat : Int), .int .u8 (e10.toNat : Int), .int .u8 (e11.toNat : Int)] 28)
  have k43 := (k42.below hb3 k42.lt).alloc (.cells #[.int .u8 (e0.toNat : Int), .int .u8 (e1.toNat : Int), .int .u8 (e2.toNat : Int), .int .u8 (e3.toNat : Int), .int .u8 (e4.toNat : Int), .int .u8 (e5.toNat : Int), .int .u8 (e6.toNat : Int), .int .u8 (e7.toNat : Int), .int .u8 (e8.toNat : Int), .int .u8 (e9.toNat : Int), .int .u8 (e10.toNat : Int), .int .u8 (e11.toNat : Int)] 28)
  have k53 := (k52.below hb3 k52.lt).alloc (.cells #[.int .u8 (e0.toNat : Int), .int .u8 (e1.toNat : Int), .int .u8 (e2.toNat : Int), .int .u8 (e3.toNat : Int), .int .u8 (e4.toNat : Int), .int .u8 (e5.toNat : Int), .int .u8 (e6.toNat : Int), .int .u8 (e7.toNat : Int), .int .u8 (e8.toNat : Int), .int .u8 (e9.toNat : Int), .int .u8 (e10.toNat : Int), .int .u8 (e11.toNat : Int)] 28)
  have rC3 := (rC2.below hb3).alloc (.cells #[.int .u8 (e0.toNat : Int), .int .u8 (e1.toNat : Int), .int .u8 (e2.toNat : Int), .int .u8 (e3.toNat : Int), .int .u8 (e4.toNat : Int), .int .u8 (e5.toNat : Int), .int .u8 (e6.toNat : Int), .int .u8 (e7.toNat : Int), .int .u8 (e8.toNat : Int), .int .u8 (e9.toNat : Int), .int .u8 (e10.toNat : Int), .int .u8 (e11.toNat : Int)] 28)
  have k9 := Blk.new w2' 28 #[.int .u8 (e0.toNat : Int), .int .u8 (e1.toNat : Int), .int .u8 (e2.toNat : Int), .int .u8 (e3.toNat : Int), .int .u8 (e4.toNat : Int), .int .u8 (e5.toNat : Int), .int .u8 (e6.toNat : Int), .int .u8 (e7.toNat : Int), .int .u8 (e8.toNat : Int), .int .u8 (e9.toNat : Int), .int .u8 (e10.toNat : Int), .int .u8 (e11.toNat : Int)]
  have hbe3 := (below_step hbe2 hb3 hbe2.size).alloc (below_step hbe2 hb3 hbe2.size).size (.cells #[.int .u8 (e0.toNat : Int), .int .u8 (e1.toNat : Int), .int .u8 (e2.toNat : Int), .int .u8 (e3.toNat : Int), .int .u8 (e4.toNat : Int), .int .u8 (e5.toNat : Int), .int .u8 (e6.toNat : Int), .int .u8 (e7.toNat : Int), .int .u8 (e8.toNat : Int), .int .u8 (e9.toNat : Int), .int .u8 (e10.toNat : Int), .int .u8 (e11.toNat : Int)] 28)
  clear a0 a1 a2 a3 a4 a5 a6 a7 a8 a9 a10 a11 p0 p1 p2 p3 p4 p5 p6 p7 p8 p9 rC2 hi2 k32 k42 k52 hb3 hbe2
  go_wp2_with fail
  obtain ⟨g9, hg9⟩ : ∃ g, w2'.heap.size = g := ⟨_, rfl⟩
  rw [hg9] at k9 ⊢
  obtain ⟨w3, hw3⟩ : ∃ w3, w2'.alloc (.cells #[.int .u8 (e0.toNat : Int), .int .u8 (e1.toNat : Int), .int .u8 (e2.toNat : Int), .int .u8 (e3.toNat : Int), .int .u8 (e4.toNat : Int), .int .u8 (e5.toNat : Int), .int .u8 (e6.toNat : Int), .int .u8 (e7.toNat : Int), .int .u8 (e8.toNat : Int), .int .u8 (e9.toNat : Int), .int .u8 (e10.toNat : Int), .int .u8 (e11.toNat : Int)] 28) = w3 := ⟨_, rfl⟩
  rw [hw3] at k33 k43 k53 rC3 k9 hbe3 ⊢
  clear hw3 hg9
  have l3 : ∀ W, Below w3.heap.size w3 W → Blk W w.heap.size 23 #[.int .u8 (b0.toNat : Int), .int .u8 (b1.toNat : Int), .int .u8 (b2.toNat : Int), .int .u8 (b3.toNat : Int), .int .u8 (b4.toNat : Int), .int .u8 (b5.toNat : Int), .int .u8 (b6.toNat : Int), .int .u8 (b7.toNat : Int), .int .u8 (b8.toNat : Int), .int .u8 (b9.toNat : Int), .int .u8 (b10.toNat : Int), .int .u8 (b11.toNat : Int)] := fun W h => k33.below h k33.lt
  have l4 : ∀ W, Below w3.heap.size w3 W → Blk W (w.heap.size + 1) 25 #[.bool m.cursor, .bool m.keypad, .bool m.back, .bool m.focus, .bool m.paste, .bool m.lock, .bool m.line, .int .i64 m.mouse, .int .i64 m.coding, .int .i64 m.other] := fun W h => k43.below h k43.lt
  have l50 : ∀ W, Below w3.heap.size w3 W → W.cell? ⟨w.heap.size + 1 + 1, 0, none⟩ = some (.slice A n c) := fun W h => (k53.below h k53.lt).cell 0
  have l51 : ∀ W, Below w3.heap.size w3 W → W.cell? ⟨w.heap.size + 1 + 1, 1, none⟩ = some (.slice B k e) := fun W h => (k53.below h k53.lt).cell 1
  have HV : Hid (∀ W, Below w3.heap.size w3 W → Inv W) := Lib.hid fun W hb => H.invB hv (below_step hbe3 hb hbe3.size)
  have HRA : Hid (∀ W, Below w3.heap.size w3 W → Rd W A (is_ l)) := Lib.hid fun W hb => hr.below (below_step hbe3 hb hbe3.size)
  have HRB : Hid (∀ W, Below w3.heap.size w3 W → Rd W B (is_ l2)) := Lib.hid fun W hb => hq.below (below_step hbe3 hb hbe3.size)
  refine wp_region_one (w1 := w3) (ia := 9) (iz := 10) (d := 10) (ty := 28) (z := #[.int .u8 0, .int .u8 0, .int .u8 0, .int .u8 0, .int .u8 0, .int .u8 0, .int .u8 0, .int .u8 0, .int .u8 0, .int .u8 0, .int .u8 0, .int .u8 0]) (cs := #[.int .u8 (e0.toNat : Int), .int .u8 (e1.toNat : Int), .int .u8 (e2.toNat : Int), .int .u8 (e3.toNat : Int), .int .u8 (e4.toNat : Int), .int .u8 (e5.toNat : Int), .int .u8 (e6.toNat : Int), .int .u8 (e7.toNat : Int), .int .u8 (e8.toNat : Int), .int .u8 (e9.toNat : Int), .int .u8 (e10.toNat : Int), .int .u8 (e11.toNat : Int)]) (ih := 1000) (ic := 1000) (dh := 1000) (n := 0) (xs := []) [10] (fun p v => ⟨#[.agg #[.int .u8 (b0.toNat : Int), .int .u8 (b1.toNat : Int), .int .u8 (b2.toNat : Int), .int .u8 (b3.toNat : Int), .int .u8 (b4.toNat : Int), .int .u8 (b5.toNat : Int), .int .u8 (b6.toNat : Int), .int .u8 (b7.toNat : Int), .int .u8 (b8.toNat : Int), .int .u8 (b9.toNat : Int), .int .u8 (b10.toNat : Int), .int .u8 (b11.toNat : Int)], .agg #[.bool m.cursor, .bool m.keypad, .bool m.back, .bool m.focus, .bool m.paste, .bool m.lock, .bool m.line, .int .i64 m.mouse, .int .i64 m.coding, .int .i64 m.other], .agg #[.slice A n c, .slice B k e], .pointer (some ⟨w.heap.size, 0, none⟩), .pointer (some ⟨w.heap.size + 1, 0, none⟩), .pointer (some ⟨w.heap.size + 1 + 1, 0, none⟩), .bool false, .bool true, .slice C (n + k) cC, .pointer (some ⟨g9, 0, none⟩), p, undef, undef, .bool true, .pointer (some ⟨w.heap.size + 1 + 1, 0, none⟩), .slice A n c, .int .i64 (n : Int), .bool false, .bool false, .pointer (some ⟨w.heap.size + 1 + 1, 1, none⟩), .slice B k e, .int .i64 (k : Int), .bool false, .bool false, undef, u25, .pointer (some ⟨w.heap.size + 1 + 1, 0, none⟩), .slice A n c, u28, .pointer (some ⟨w.heap.size + 1 + 1, 1, none⟩), .slice B k e, .slice C (n + k) cC, .agg #[.int .u8 (b0.toNat : Int), .int .u8 (b1.toNat : Int), .int .u8 (b2.toNat : Int), .int .u8 (b3.toNat : Int), .int .u8 (b4.toNat : Int), .int .u8 (b5.toNat : Int), .int .u8 (b6.toNat : Int), .int .u8 (b7.toNat : Int), .int .u8 (b8.toNat : Int), .int .u8 (b9.toNat : Int), .int .u8 (b10.toNat : Int), .int .u8 (b11.toNat : Int)], .agg #[.bool m.cursor, .bool m.keypad, .bool m.back, .bool m.focus, .bool m.paste, .bool m.lock, .bool m.line, .int .i64 m.mouse, .int .i64 m.coding, .int .i64 m.other], .slice C (n + k) cC, .agg #[.int .u8 (e0.toNat : Int), .int .u8 (e1.toNat : Int), .int .u8 (e2.toNat : Int), .int .u8 (e3.toNat : Int), .int .u8 (e4.toNat : Int), .int .u8 (e5.toNat : Int), .int .u8 (e6.toNat : Int), .int .u8 (e7.toNat : Int), .int .u8 (e8.toNat : Int), .int .u8 (e9.toNat : Int), .int .u8 (e10.toNat : Int), .int .u8 (e11.toNat : Int)], .agg #[.int .u8 (b0.toNat : Int), .int .u8 (b1.toNat : Int), .int .u8 (b2.toNat : Int), .int .u8 (b3.toNat : Int), .int .u8 (b4.toNat : Int), .int .u8 (b5.toNat : Int), .int .u8 (b6.toNat : Int), .int .u8 (b7.toNat : Int), .int .u8 (b8.toNat : Int), .int .u8 (b9.toNat : Int), .int .u8 (b10.toNat : Int), .int .u8 (b11.toNat : Int)], .agg #[.bool m.cursor, .bool m.keypad, .bool m.back, .bool m.focus, .bool m.paste, .bool m.lock, .bool m.line, .int .i64 m.mouse, .int .i64 m.coding, .int .i64 m.other], .pointer (some ⟨w.heap.size + 1 + 1, 0, none⟩), .slice A n c, .agg #[.int .u8 (d0.toNat : Int), .int .u8 (d1.toNat : Int), .int .u8 (d2.toNat : Int), .int .u8 (d3.toNat : Int), .int .u8 (d4.toNat : Int), .int .u8 (d5.toNat : Int), .int .u8 (d6.toNat : Int), .int .u8 (d7.toNat : Int), .int .u8 (d8.toNat : Int), .int .u8 (d9.toNat : Int), .int .u8 (d10.toNat : Int), .int .u8 (d11.toNat : Int)], .agg #[.bool m.cursor, .bool m.keypad, .bool m.back, .bool m.focus, .bool m.paste, .bool m.lock, .bool m.line, .int .i64 m.mouse, .int .i64 m.coding, .int .i64 m.other], .pointer (some ⟨w.heap.size + 1 + 1, 1, none⟩), .slice B k e, .agg #[.int .u8 (e0.toNat : Int), .int .u8 (e1.toNat : Int), .int .u8 (e2.toNat : Int), .int .u8 (e3.toNat : Int), .int .u8 (e4.toNat : Int), .int .u8 (e5.toNat : Int), .int .u8 (e6.toNat : Int), .int .u8 (e7.toNat : Int), .int .u8 (e8.toNat : Int), .int .u8 (e9.toNat : Int), .int .u8 (e10.toNat : Int), .int .u8 (e11.toNat : Int)], undef, undef, undef, undef, undef, undef, undef, undef, undef, undef, undef, undef, undef, undef, undef, undef, undef, undef, undef, undef, undef, undef, undef, undef], []⟩) [.agg #[.int .u8 (b0.toNat : Int), .int .u8 (b1.toNat : Int), .int .u8 (b2.toNat : Int), .int .u8 (b3.toNat : Int), .int .u8 (b4.toNat : Int), .int .u8 (b5.toNat : Int), .int .u8 (b6.toNat : Int), .int .u8 (b7.toNat : Int), .int .u8 (b8.toNat : Int), .int .u8 (b9.toNat : Int), .int .u8 (b10.toNat : Int), .int .u8 (b11.toNat : Int)], .agg #[.bool m.cursor, .bool m.keypad, .bool m.back, .bool m.focus, .bool m.paste, .bool m.lock, .bool m.line, .int .i64 m.mouse, .int .i64 m.coding, .int .i64 m.other], .pointer (some ⟨w.heap.size + 1 + 1, 0, none⟩), .slice A n c, .agg #[.int .u8 (d0.toNat : Int), .int .u8 (d1.toNat : Int), .int .u8 (d2.toNat : Int), .int .u8 (d3.toNat : Int), .int .u8 (d4.toNat : Int), .int .u8 (d5.toNat : Int), .int .u8 (d6.toNat : Int), .int .u8 (d7.toNat : Int), .int .u8 (d8.toNat : Int), .int .u8 (d9.toNat : Int), .int .u8 (d10.toNat : Int), .int .u8 (d11.toNat : Int)], .agg #[.bool m.cursor, .bool m.keypad, .bool m.back, .bool m.focus, .bool m.paste, .bool m.lock, .bool m.line, .int .i64 m.mouse, .int .i64 m.coding, .int .i64 m.other], .pointer (some ⟨w.heap.size + 1 + 1, 1, none⟩), .slice B k e, .agg #[.int .u8 (e0.toNat : Int), .int .u8 (e1.toNat : Int), .int .u8 (e2.toNat : Int), .int .u8 (e3.toNat : Int), .int .u8 (e4.toNat : Int), .int .u8 (e5.toNat : Int), .int .u8 (e6.toNat : Int), .int .u8 (e7.toNat : Int), .int .u8 (e8.toNat : Int), .int .u8 (e9.toNat : Int), .int .u8 (e10.toNat : Int), .int .u8 (e11.toNat : Int)], undef, undef] (by kernel_rfl) (by kernel_rfl) (by kernel_rfl) (fun g => by kernel_rfl) (by kernel_rfl) (Below.refl _ _).drew (by decide) (by decide)
    (goes_cons (goesM_load (by decide) (by decide) (by decide) (fun g => by kernel_rfl) rfl (fun g => by kernel_rfl) rfl (fun g => by kernel_rfl) l3 Try.underlying23 rfl (by kernel_rfl)) 
    (goes_cons (goesM_load (by decide) (by decide) (by decide) (fun g => by kernel_rfl) rfl (fun g => by kernel_rfl) rfl (fun g => by kernel_rfl) l4 Try.underlying25 rfl (by kernel_rfl)) 
    (goes_cons (goesM_val (fun _ => .pointer (some ⟨w.heap.size + 1 + 1, 0, none⟩)) (by decide) (by decide) (by decide) (fun g => by kernel_rfl) rfl (fun g => by kernel_rfl) (fun g w _ => by kernel_rfl)) 
    (goes_cons (goesM_cell (by decide) (by decide) (by decide) (fun g => by kernel_rfl) rfl (fun g => by kernel_rfl) rfl (fun g => by kernel_rfl) l50 (fun w => by kernel_rfl)) 
    (goes_cons (goesM_call (by decide) (by decide) (by decide) (fun g => by kernel_rfl) rfl (fun g => by kernel_rfl) (fun g w => by kernel_rfl) (args := fun g => #[.agg #[.int .u8 (b0.toNat : Int), .int .u8 (b1.toNat : Int), .int .u8 (b2.toNat : Int), .int .u8 (b3.toNat : Int), .int .u8 (b4.toNat : Int), .int .u8 (b5.toNat : Int), .int .u8 (b6.toNat : Int), .int .u8 (b7.toNat : Int), .int .u8 (b8.toNat : Int), .int .u8 (b9.toNat : Int), .int .u8 (b10.toNat : Int), .int .u8 (b11.toNat : Int)], .agg #[.bool m.cursor, .bool m.keypad, .bool m.back, .bool m.focus, .bool m.paste, .bool m.lock, .bool m.line, .int .i64 m.mouse, .int .i64 m.coding, .int .i64 m.other], .slice A n c]) (fun l g W hsz hf hr h => HC1.out W (HV.out W h.below) (HRA.out W h.below))) 
    (goes_cons (goesM_load (by decide) (by decide) (by decide) (fun g => by kernel_rfl) rfl (fun g => by kernel_rfl) rfl (fun g => by kernel_rfl) l4 Try.underlying25 rfl (by kernel_rfl)) 
    (goes_cons (goesM_val (fun _ => .pointer (some ⟨w.heap.size + 1 + 1, 1, none⟩)) (by decide) (by decide) (by decide) (fun g => by kernel_rfl) rfl (fun g => by kernel_rfl) (fun g w _ => by kernel_rfl)) 
    (goes_cons (goesM_cell (by decide) (by decide) (by decide) (fun g => by kernel_rfl) rfl (fun g => by kernel_rfl) rfl (fun g => by kernel_rfl) l51 (fun w => by kernel_rfl)) 
    (goes_cons (goesM_call (by decide) (by decide) (by decide) (fun g => by kernel_rfl) rfl (fun g => by kernel_rfl) (fun g w => by kernel_rfl) (args := fun g => #[.agg #[.int .u8 (d0.toNat : Int), .int .u8 (d1.toNat : Int), .int .u8 (d2.toNat : Int), .int .u8 (d3.toNat : Int), .int .u8 (d4.toNat : Int), .int .u8 (d5.toNat : Int), .int .u8 (d6.toNat : Int), .int .u8 (d7.toNat : Int), .int .u8 (d8.toNat : Int), .int .u8 (d9.toNat : Int), .int .u8 (d10.toNat : Int), .int .u8 (d11.toNat : Int)], .agg #[.bool m.cursor, .bool m.keypad, .bool m.back, .bool m.focus, .bool m.paste, .bool m.lock, .bool m.line, .int .i64 m.mouse, .int .i64 m.coding, .int .i64 m.other], .slice B k e]) (fun l g W hsz hf hr h => HC2.out W (HV.out W h.below) (HRB.out W h.below))) 
    (goes_cons (goesM_alloc rfl (by decide) (by decide) (by decide) (fun g => by kernel_rfl) rfl (fun g => by kernel_rfl) (fun g w => by kernel_rfl)) 
    (goes_cons (goesM_store rfl rfl (by decide) (by decide) (fun g => by kernel_rfl) rfl rfl (fun g => by kernel_rfl) (fun g => by kernel_rfl) rfl (by kernel_rfl) rfl (fun l hsz hr => ⟨hr ⟨9, .data⟩ (by simp) rfl, (fun h => by rw [Array.getD_eq_getD_getElem?, Array.getElem?_eq_none (by rw [hsz]; decide)] at h; cases h)⟩)) goes_nil))))))))))) ?_
  intro g10 u10 w4 hg10 hb4 k10
  have k34 := l3 _ hb4
  have k44 := l4 _ hb4
  have k54 := k53.below hb4 k53.lt
  have k94 := k9.below hb4 k9.lt
  have rC4 := rC3.below hb4
  have hi4 := HV.out _ hb4
  have hbe4 := below_step hbe3 hb4 hbe3.size
  clear l3 l4 l50 l51 HV HRA HRB k33 k43 k53 k9 rC3 hb4 hbe3
  obtain ⟨a0, a1, a2, a3, a4, a5, a6, a7, a8, a9, a10, a11⟩ := Blk.cells12 k34
  obtain ⟨p0, p1, p2, p3, p4, p5, p6, p7, p8, p9⟩ := Blk.cells10 k44
  go_wp2_with fail
  refine (HC6.out _ _ _ hi4 rC4).mono ?_
  rintro x w4' ⟨rfl, hb5⟩
  have k35 := (k34.below hb5 k34.lt).alloc (.cells #[.bool mr.cursor, .bool mr.keypad, .bool mr.back, .bool mr.focus, .bool mr.paste, .bool mr.lock, .bool mr.line, .int .i64 mr.mouse, .int .i64 mr.coding, .int .i64 mr.other] 25)
  have k45 := (k44.below hb5 k44.lt).alloc (.cells #[.bool mr.cursor, .bool mr.keypad, .bool mr.back, .bool mr.focus, .bool mr.paste, .bool mr.lock, .bool mr.line, .int .i64 mr.mouse, .int .i64 mr.coding, .int .i64 mr.other] 25)
  have k55 := (k54.below hb5 k54.lt).alloc (.cells #[.bool mr.cursor, .bool mr.keypad, .bool mr.back, .bool mr.focus, .bool mr.paste, .bool mr.lock, .bool mr.line, .int .i64 mr.mouse, .int .i64 mr.coding, .int .i64 mr.other] 25)
  have k95 := (k94.below hb5 k94.lt).alloc (.cells #[.bool mr.cursor, .bool mr.keypad, .bool mr.back, .bool mr.focus, .bool mr.paste, .bool mr.lock, .bool mr.line, .int .i64 mr.mouse, .int .i64 mr.coding, .int .i64 mr.other] 25)
  have kX5 := (k10.below hb5 k10.lt).alloc (.cells #[.bool mr.cursor, .bool mr.keypad, .bool mr.back, .bool mr.focus, .bool mr.paste, .bool mr.lock, .bool mr.line, .int .i64 mr.mouse, .int .i64 mr.coding, .int .i64 mr.other] 25)
  have k11 := Blk.new w4' 25 #[.bool mr.cursor, .bool mr.keypad, .bool mr.back, .bool mr.focus, .bool mr.paste, .bool mr.lock, .bool mr.line, .int .i64 mr.mouse, .int .i64 mr.coding, .int .i64 mr.other]
  have hbe5 := (below_step hbe4 hb5 hbe4.size).alloc (below_step hbe4 hb5 hbe4.size).size (.cells #[.bool mr.cursor, .bool mr.keypad, .bool mr.back, .bool mr.focus, .bool mr.paste, .bool mr.lock, .bool mr.line, .int .i64 mr.mouse, .int .i64 mr.coding, .int .i64 mr.other] 25)
  clear a0 a1 a2 a3 a4 a5 a6 a7 a8 a9 a10 a11 p0 p1 p2 p3 p4 p5 p6 p7 p8 p9 rC4 hi4 k34 k44 k54 k94 k10 hb5 hbe4
  go_wp2_with fail
  obtain ⟨g11, hg11⟩ : ∃ g, w4'.heap.size = g := ⟨_, rfl⟩
  rw [hg11] at k11 ⊢
  obtain ⟨w5, hw5⟩ : ∃ w5, w4'.alloc (.cells #[.bool mr.cursor, .bool mr.keypad, .bool mr.back, .bool mr.focus, .bool mr.paste, .bool mr.lock, .bool mr.line, .int .i64 mr.mouse, .int .i64 mr.coding, .int .i64 mr.other] 25) = w5 := ⟨_, rfl⟩
  rw [hw5] at k35 k45 k55 k95 kX5 k11 hbe5 ⊢
  clear hw5 hg11
  have l3 : ∀ W, Below w5.heap.size w5 W → Blk W w.heap.size 23 #[.int .u8 (b0.toNat : Int), .int .u8 (b1.toNat : Int), .int .u8 (b2.toNat : Int), .int .u8 (b3.toNat : Int), .int .u8 (b4.toNat : Int), .int .u8 (b5.toNat : Int), .int .u8 (b6.toNat : Int), .int .u8 (b7.toNat : Int), .int .u8 (b8.toNat : Int), .int .u8 (b9.toNat : Int), .int .u8 (b10.toNat : Int), .int .u8 (b11.toNat : Int)] := fun W h => k35.below h k35.lt
  have l4 : ∀ W, Below w5.heap.size w5 W → Blk W (w.heap.size + 1) 25 #[.bool m.cursor, .bool m.keypad, .bool m.back, .bool m.focus, .bool m.paste, .bool m.lock, .bool m.line, .int .i64 m.mouse, .int .i64 m.coding, .int .i64 m.other] := fun W h => k45.below h k45.lt
  have l50 : ∀ W, Below w5.heap.size w5 W → W.cell? ⟨w.heap.size + 1 + 1, 0, none⟩ = some (.slice A n c) := fun W h => (k55.below h k55.lt).cell 0
  have l51 : ∀ W, Below w5.heap.size w5 W → W.cell? ⟨w.heap.size + 1 + 1, 1, none⟩ = some (.slice B k e) := fun W h => (k55.below h k55.lt).cell 1
  have HV : Hid (∀ W, Below w5.heap.size w5 W → Inv W) := Lib.hid fun W hb => H.invB hv (below_step hbe5 hb hbe5.size)
  have HRA : Hid (∀ W, Below w5.heap.size w5 W → Rd W A (is_ l)) := Lib.hid fun W hb => hr.below (below_step hbe5 hb hbe5.size)
  have HRB : Hid (∀ W, Below w5.heap.size w5 W → Rd W B (is_ l2)) := Lib.hid fun W hb => hq.below (below_step hbe5 hb hbe5.size)
  refine wp_region_one (w1 := w5) (ia := 9) (iz := 10) (d := 12) (ty := 25) (z := #[.bool false, .bool false, .bool false, .bool false, .bool false, .bool false, .bool false, .int .i64 0, .int .i64 0, .int .i64 0]) (cs := #[.bool mr.cursor, .bool mr.keypad, .bool mr.back, .bool mr.focus, .bool mr.paste, .bool mr.lock, .bool mr.line, .int .i64 mr.mouse, .int .i64 mr.coding, .int .i64 mr.other]) (ih := 1000) (ic := 1000) (dh := 1000) (n := 0) (xs := []) [12] (fun p v => ⟨#[.agg #[.int .u8 (b0.toNat : Int), .int .u8 (b1.toNat : Int), .int .u8 (b2.toNat : Int), .int .u8 (b3.toNat : Int), .int .u8 (b4.toNat : Int), .int .u8 (b5.toNat : Int), .int .u8 (b6.toNat : Int), .int .u8 (b7.toNat : Int), .int .u8 (b8.toNat : Int), .int .u8 (b9.toNat : Int), .int .u8 (b10.toNat : Int), .int .u8 (b11.toNat : Int)], .agg #[.bool m.cursor, .bool m.keypad, .bool m.back, .bool m.focus, .bool m.paste, .bool m.lock, .bool m.line, .int .i64 m.mouse, .int .i64 m.coding, .int .i64 m.other], .agg #[.slice A n c, .slice B k e], .pointer (some ⟨w.heap.size, 0, none⟩), .pointer (some ⟨w.heap.size + 1, 0, none⟩), .pointer (some ⟨w.heap.size + 1 + 1, 0, none⟩), .bool false, .bool true, .slice C (n + k) cC, .pointer (some ⟨g9, 0, none⟩), .pointer (some ⟨g10, 0, none⟩), .pointer (some ⟨g11, 0, none⟩), p, .bool true, .pointer (some ⟨w.heap.size + 1 + 1, 0, none⟩), .slice A n c, .int .i64 (n : Int), .bool false, .bool false, .pointer (some ⟨w.heap.size + 1 + 1, 1, none⟩), .slice B k e, .int .i64 (k : Int), .bool false, .bool false, undef, u25, .pointer (some ⟨w.heap.size + 1 + 1, 0, none⟩), .slice A n c, u28, .pointer (some ⟨w.heap.size + 1 + 1, 1, none⟩), .slice B k e, .slice C (n + k) cC, .agg #[.int .u8 (b0.toNat : Int), .int .u8 (b1.toNat : Int), .int .u8 (b2.toNat : Int), .int .u8 (b3.toNat : Int), .int .u8 (b4.toNat : Int), .int .u8 (b5.toNat : Int), .int .u8 (b6.toNat : Int), .int .u8 (b7.toNat : Int), .int .u8 (b8.toNat : Int), .int .u8 (b9.toNat : Int), .int .u8 (b10.toNat : Int), .int .u8 (b11.toNat : Int)], .agg #[.bool m.cursor, .bool m.keypad, .bool m.back, .bool m.focus, .bool m.paste, .bool m.lock, .bool m.line, .int .i64 m.mouse, .int .i64 m.coding, .int .i64 m.other], .slice C (n + k) cC, .agg #[.int .u8 (e0.toNat : Int), .int .u8 (e1.toNat : Int), .int .u8 (e2.toNat : Int), .int .u8 (e3.toNat : Int), .int .u8 (e4.toNat : Int), .int .u8 (e5.toNat : Int), .int .u8 (e6.toNat : Int), .int .u8 (e7.toNat : Int), .int .u8 (e8.toNat : Int), .int .u8 (e9.toNat : Int), .int .u8 (e10.toNat : Int), .int .u8 (e11.toNat : Int)], .agg #[.int .u8 (b0.toNat : Int), .int .u8 (b1.toNat : Int), .int .u8 (b2.toNat : Int), .int .u8 (b3.toNat : Int), .int .u8 (b4.toNat : Int), .int .u8 (b5.toNat : Int), .int .u8 (b6.toNat : Int), .int .u8 (b7.toNat : Int), .int .u8 (b8.toNat : Int), .int .u8 (b9.toNat : Int), .int .u8 (b10.toNat : Int), .int .u8 (b11.toNat : Int)], .agg #[.bool m.cursor, .bool m.keypad, .bool m.back, .bool m.focus, .bool m.paste, .bool m.lock, .bool m.line, .int .i64 m.mouse, .int .i64 m.coding, .int .i64 m.other], .pointer (some ⟨w.heap.size + 1 + 1, 0, none⟩), .slice A n c, .agg #[.int .u8 (d0.toNat : Int), .int .u8 (d1.toNat : Int), .int .u8 (d2.toNat : Int), .int .u8 (d3.toNat : Int), .int .u8 (d4.toNat : Int), .int .u8 (d5.toNat : Int), .int .u8 (d6.toNat : Int), .int .u8 (d7.toNat : Int), .int .u8 (d8.toNat : Int), .int .u8 (d9.toNat : Int), .int .u8 (d10.toNat : Int), .int .u8 (d11.toNat : Int)], .agg #[.bool m.cursor, .bool m.keypad, .bool m.back, .bool m.focus, .bool m.paste, .bool m.lock, .bool m.line, .int .i64 m.mouse, .int .i64 m.coding, .int .i64 m.other], .pointer (some ⟨w.heap.size + 1 + 1, 1, none⟩), .slice B k e, .agg #[.int .u8 (e0.toNat : Int), .int .u8 (e1.toNat : Int), .int .u8 (e2.toNat : Int), .int .u8 (e3.toNat : Int), .int .u8 (e4.toNat : Int), .int .u8 (e5.toNat : Int), .int .u8 (e6.toNat : Int), .int .u8 (e7.toNat : Int), .int .u8 (e8.toNat : Int), .int .u8 (e9.toNat : Int), .int .u8 (e10.toNat : Int), .int .u8 (e11.toNat : Int)], .agg #[.int .u8 (b0.toNat : Int), .int .u8 (b1.toNat : Int), .int .u8 (b2.toNat : Int), .int .u8 (b3.toNat : Int), .int .u8 (b4.toNat : Int), .int .u8 (b5.toNat : Int), .int .u8 (b6.toNat : Int), .int .u8 (b7.toNat : Int), .int .u8 (b8.toNat : Int), .int .u8 (b9.toNat : Int), .int .u8 (b10.toNat : Int), .int .u8 (b11.toNat : Int)], .agg #[.bool m.cursor, .bool m.keypad, .bool m.back, .bool m.focus, .bool m.paste, .bool m.lock, .bool m.line, .int .i64 m.mouse, .int .i64 m.coding, .int .i64 m.other], .slice C (n + k) cC, .agg #[.bool mr.cursor, .bool mr.keypad, .bool mr.back, .bool mr.focus, .bool mr.paste, .bool mr.lock, .bool mr.line, .int .i64 mr.mouse, .int .i64 mr.coding, .int .i64 mr.other], .agg #[.int .u8 (b0.toNat : Int), .int .u8 (b1.toNat : Int), .int .u8 (b2.toNat : Int), .int .u8 (b3.toNat : Int), .int .u8 (b4.toNat : Int), .int .u8 (b5.toNat : Int), .int .u8 (b6.toNat : Int), .int .u8 (b7.toNat : Int), .int .u8 (b8.toNat : Int), .int .u8 (b9.toNat : Int), .int .u8 (b10.toNat : Int), .int .u8 (b11.toNat : Int)], .agg #[.int .u8 (b0.toNat : Int), .int .u8 (b1.toNat : Int), .int .u8 (b2.toNat : Int), .int .u8 (b3.toNat : Int), .int .u8 (b4.toNat : Int), .int .u8 (b5.toNat : Int), .int .u8 (b6.toNat : Int), .int .u8 (b7.toNat : Int), .int .u8 (b8.toNat : Int), .int .u8 (b9.toNat : Int), .int .u8 (b10.toNat : Int), .int .u8 (b11.toNat : Int)], .agg #[.bool m.cursor, .bool m.keypad, .bool m.back, .bool m.focus, .bool m.paste, .bool m.lock, .bool m.line, .int .i64 m.mouse, .int .i64 m.coding, .int .i64 m.other], .pointer (some ⟨w.heap.size + 1 + 1, 0, none⟩), .slice A n c, .agg #[.bool mq.cursor, .bool mq.keypad, .bool mq.back, .bool mq.focus, .bool mq.paste, .bool mq.lock, .bool mq.line, .int .i64 mq.mouse, .int .i64 mq.coding, .int .i64 mq.other], .pointer (some ⟨w.heap.size + 1 + 1, 1, none⟩), .slice B k e, .agg #[.bool mr.cursor, .bool mr.keypad, .bool mr.back, .bool mr.focus, .bool mr.paste, .bool mr.lock, .bool mr.line, .int .i64 mr.mouse, .int .i64 mr.coding, .int .i64 mr.other], undef, undef, undef, undef, undef, undef, undef, undef, undef, undef, undef], []⟩) [.agg #[.int .u8 (b0.toNat : Int), .int .u8 (b1.toNat : Int), .int .u8 (b2.toNat : Int), .int .u8 (b3.toNat : Int), .int .u8 (b4.toNat : Int), .int .u8 (b5.toNat : Int), .int .u8 (b6.toNat : Int), .int .u8 (b7.toNat : Int), .int .u8 (b8.toNat : Int), .int .u8 (b9.toNat : Int), .int .u8 (b10.toNat : Int), .int .u8 (b11.toNat : Int)], .agg #[.int .u8 (b0.toNat : Int), .int .u8 (b1.toNat : Int), .int .u8 (b2.toNat : Int), .int .u8 (b3.toNat : Int), .int .u8 (b4.toNat : Int), .int .u8 (b5.toNat : Int), .int .u8 (b6.toNat : Int), .int .u8 (b7.toNat : Int), .int .u8 (b8.toNat : Int), .int .u8 (b9.toNat : Int), .int .u8 (b10.toNat : Int), .int .u8 (b11.toNat : Int)], .agg #[.bool m.cursor, .bool m.keypad, .bool m.back, .bool m.focus, .bool m.paste, .bool m.lock, .bool m.line, .int .i64 m.mouse, .int .i64 m.coding, .int .i64 m.other], .pointer (some ⟨w.heap.size + 1 + 1, 0, none⟩), .slice A n c, .agg #[.bool mq.cursor, .bool mq.keypad, .bool mq.back, .bool mq.focus, .bool mq.paste, .bool mq.lock, .bool mq.line, .int .i64 mq.mouse, .int .i64 mq.coding, .int .i64 mq.other], .pointer (some ⟨w.heap.size + 1 + 1, 1, none⟩), .slice B k e, .agg #[.bool mr.cursor, .bool mr.keypad, .bool mr.back, .bool mr.focus, .bool mr.paste, .bool mr.lock, .bool mr.line, .int .i64 mr.mouse, .int .i64 mr.coding, .int .i64 mr.other], undef, undef] (by kernel_rfl) (by kernel_rfl) (by kernel_rfl) (fun g => by kernel_rfl) (by kernel_rfl) (Below.refl _ _).drew (by decide) (by decide)
    (goes_cons (goesM_load (by decide) (by decide) (by decide) (fun g => by kernel_rfl) rfl (fun g => by kernel_rfl) rfl (fun g => by kernel_rfl) l3 Try.underlying23 rfl (by kernel_rfl)) 
    (goes_cons (goesM_load (by decide) (by decide) (by decide) (fun g => by kernel_rfl) rfl (fun g => by kernel_rfl) rfl (fun g => by kernel_rfl) l3 Try.underlying23 rfl (by kernel_rfl)) 
    (goes_cons (goesM_load (by decide) (by decide) (by decide) (fun g => by kernel_rfl) rfl (fun g => by kernel_rfl) rfl (fun g => by kernel_rfl) l4 Try.underlying25 rfl (by kernel_rfl)) 
    (goes_cons (goesM_val (fun _ => .pointer (some ⟨w.heap.size + 1 + 1, 0, none⟩)) (by decide) (by decide) (by decide) (fun g => by kernel_rfl) rfl (fun g => by kernel_rfl) (fun g w _ => by kernel_rfl)) 
    (goes_cons (goesM_cell (by decide) (by decide) (by decide) (fun g => by kernel_rfl) rfl (fun g => by kernel_rfl) rfl (fun g => by kernel_rfl) l50 (fun w => by kernel_rfl)) 
    (goes_cons (goesM_call (by decide) (by decide) (by decide) (fun g => by kernel_rfl) rfl (fun g => by kernel_rfl) (fun g w => by kernel_rfl) (args := fun g => #[.agg #[.int .u8 (b0.toNat : Int), .int .u8 (b1.toNat : Int), .int .u8 (b2.toNat : Int), .int .u8 (b3.toNat : Int), .int .u8 (b4.toNat : Int), .int .u8 (b5.toNat : Int), .int .u8 (b6.toNat : Int), .int .u8 (b7.toNat : Int), .int .u8 (b8.toNat : Int), .int .u8 (b9.toNat : Int), .int .u8 (b10.toNat : Int), .int .u8 (b11.toNat : Int)], .agg #[.bool m.cursor, .bool m.keypad, .bool m.back, .bool m.focus, .bool m.paste, .bool m.lock, .bool m.line, .int .i64 m.mouse, .int .i64 m.coding, .int .i64 m.other], .slice A n c]) (fun l g W hsz hf hr h => HC4.out W (HV.out W h.below) (HRA.out W h.below))) 
    (goes_cons (goesM_val (fun _ => .pointer (some ⟨w.heap.size + 1 + 1, 1, none⟩)) (by decide) (by decide) (by decide) (fun g => by kernel_rfl) rfl (fun g => by kernel_rfl) (fun g w _ => by kernel_rfl)) 
    (goes_cons (goesM_cell (by decide) (by decide) (by decide) (fun g => by kernel_rfl) rfl (fun g => by kernel_rfl) rfl (fun g => by kernel_rfl) l51 (fun w => by kernel_rfl)) 
    (goes_cons (goesM_call (by decide) (by decide) (by decide) (fun g => by kernel_rfl) rfl (fun g => by kernel_rfl) (fun g w => by kernel_rfl) (args := fun g => #[.agg #[.int .u8 (b0.toNat : Int), .int .u8 (b1.toNat : Int), .int .u8 (b2.toNat : Int), .int .u8 (b3.toNat : Int), .int .u8 (b4.toNat : Int), .int .u8 (b5.toNat : Int), .int .u8 (b6.toNat : Int), .int .u8 (b7.toNat : Int), .int .u8 (b8.toNat : Int), .int .u8 (b9.toNat : Int), .int .u8 (b10.toNat : Int), .int .u8 (b11.toNat : Int)], .agg #[.bool mq.cursor, .bool mq.keypad, .bool mq.back, .bool mq.focus, .bool mq.paste, .bool mq.lock, .bool mq.line, .int .i64 mq.mouse, .int .i64 mq.coding, .int .i64 mq.other], .slice B k e]) (fun l g W hsz hf hr h => HC5.out W (HV.out W h.below) (HRB.out W h.below))) 
    (goes_cons (goesM_alloc rfl (by decide) (by decide) (by decide) (fun g => by kernel_rfl) rfl (fun g => by kernel_rfl) (fun g w => by kernel_rfl)) 
    (goes_cons (goesM_store rfl rfl (by decide) (by decide) (fun g => by kernel_rfl) rfl rfl (fun g => by kernel_rfl) (fun g => by kernel_rfl) rfl (by kernel_rfl) rfl (fun l hsz hr => ⟨hr ⟨9, .data⟩ (by simp) rfl, (fun h => by rw [Array.getD_eq_getD_getElem?, Array.getElem?_eq_none (by rw [hsz]; decide)] at h; cases h)⟩)) goes_nil))))))))))) ?_
  intro g12 u12 w6 hg12 hb6 k12
  have k96 := k95.below hb6 k95.lt
  have kX6 := kX5.below hb6 kX5.lt
  have k116 := k11.below hb6 k11.lt
  have hbe6 := below_step hbe5 hb6 hbe5.size
  clear l3 l4 l50 l51 HV HRA HRB k35 k45 k55 k95 kX5 k11 hb6 hbe5
  obtain ⟨a0, a1, a2, a3, a4, a5, a6, a7, a8, a9, a10, a11⟩ := Blk.cells12 k96
  obtain ⟨p0, p1, p2, p3, p4, p5, p6, p7, p8, p9, p10, p11⟩ := Blk.cells12 kX6
  obtain ⟨q0, q1, q2, q3, q4, q5, q6, q7, q8, q9⟩ := Blk.cells10 k116
  obtain ⟨r0, r1, r2, r3, r4, r5, r6, r7, r8, r9⟩ := Blk.cells10 k12
  go_wp2_with fail
  go_ret
  exact ⟨rfl, hbe6⟩
theorem saveParts_walk (H : SavC Inv) (s : List UInt8) (hs : s.length = 12) (m : Mo) (hm : okM m) (A : Option Addr) (l : List Int) (c : Nat) (B : Option Addr) (l2 : List Int) (e : Nat) (w : World) (hr : Rd w A (is_ l)) (hli : ∀ z ∈ l, (Lit.int .i64 z).wf = true) (hq : Rd w B (is_ l2)) (hlj : ∀ z ∈ l2, (Lit.int .i64 z).wf = true) (hv : Inv w) :
    Calls Try.prog 8 #[savV s, moV m, .agg #[.slice A l.length c, .slice B l2.length e]] w fun x w' => x = .returned (.bool true) ∧ Below w.heap.size w w' := by
  have b1 : ∀ z ∈ l, inI z := fun z hz => by
    have := bounds_i64 (hli z hz)
    exact ⟨by omega, by omega⟩
  have b2 : ∀ z ∈ l2, inI z := fun z hz => by
    have := bounds_i64 (hlj z hz)
    exact ⟨by omega, by omega⟩
  by_cases h : 20 < l.length ∨ 20 < l2.length
  · exact parts_many H s hs m A c _ B e _ w h hv
  · exact parts_few H s hs m hm A l c _ rfl B l2 e _ rfl w hr b1 hq b2 (by omega) (by omega) hv
end
end Go.Proofs.Ytokhchejkfhmmaa
