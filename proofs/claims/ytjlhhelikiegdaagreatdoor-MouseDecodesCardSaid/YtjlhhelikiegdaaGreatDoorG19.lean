/-
  The cells of a block of five, and of six. Layer 10's mathematics: events of keys, and their modifiers. Layer 6's mathematics: modes, set, reset and told, as the document has them. Layer 11's mathematics: a key's event in its old form. Layer 3's mathematics: a part of a sequence's parameters. Layer 3, walked: the program's char (in a text of its own: a dump that doesn't call it can load the others). Cut out of Same: what names no function of any dump. Numbers in figures, walked: the program's Text and Take. (For layers that don't load layer 1's own texts.) The document's Arg, walked.
-/
import Derived.Test.YtjlhhelikiegdaaGreatDoorG01
import Derived.Test.YtjlhhelikiegdaaGreatDoorG03
import Derived.Test.YtjlhhelikiegdaaGreatDoorG04
import Derived.Test.YtjlhhelikiegdaaGreatDoorG05
import Derived.Test.YtjlhhelikiegdaaGreatDoorG06
import Derived.Test.YtjlhhelikiegdaaGreatDoorG08
import Derived.Test.YtjlhhelikiegdaaGreatDoorG12
import Derived.Test.YtjlhhelikiegdaaGreatDoorG14
import Derived.Test.YtjlhhelikiegdaaGreatDoorG15
import Derived.Test.YtjlhhelikiegdaaGreatDoorG18
import Derived.Test.YtjlhhelikiegdaaGreatDoorShelf
import Derived.Deep.QuietTactic
import Derived.BigQuiet
import Derived.Lib.AppendIntMem
import Derived.Deep.Cut
namespace Go.Proofs.YtjlhhelikiegdaaGreatDoor
open Go.RowKit
theorem Blk.cells5 {w : World} {g : Nat} {t : TypeId} {a b c d e : Value} (h : Blk w g t #[a, b, c, d, e]) :
 w.cell? ⟨g, 0, none⟩ = some a ∧ w.cell? ⟨g, 1, none⟩ = some b ∧ w.cell? ⟨g, 2, none⟩ = some c ∧ w.cell? ⟨g, 3, none⟩ = some d ∧ w.cell? ⟨g, 4, none⟩ = some e :=
 ⟨h.cell 0, h.cell 1, h.cell 2, h.cell 3, h.cell 4⟩
theorem Blk.cells6 {w : World} {g : Nat} {t : TypeId} {a b c d e f : Value} (h : Blk w g t #[a, b, c, d, e, f]) :
 w.cell? ⟨g, 0, none⟩ = some a ∧ w.cell? ⟨g, 1, none⟩ = some b ∧ w.cell? ⟨g, 2, none⟩ = some c ∧ w.cell? ⟨g, 3, none⟩ = some d ∧ w.cell? ⟨g, 4, none⟩ = some e ∧ w.cell? ⟨g, 5, none⟩ = some f :=
 ⟨h.cell 0, h.cell 1, h.cell 2, h.cell 3, h.cell 4, h.cell 5⟩
end Go.Proofs.YtjlhhelikiegdaaGreatDoor
namespace Go.Proofs.YtjlhhelikiegdaaGreatDoor
def headI (o : Int) : List Int → Int
 | n :: _ => if n < 0 then o else n
 | [] => o
def argL (ps : List (List Int)) (i o : Int) : Int := if i < 0 ∨ (ps.length : Int) ≤ i then o else headI o (ps.getD i.toNat [])
end Go.Proofs.YtjlhhelikiegdaaGreatDoor
namespace Go.Proofs.YtjlhhelikiegdaaGreatDoor
open Go.RowKit
set_option maxRecDepth 100000 in
set_option maxHeartbeats 2000000 in
theorem char_any (c : UInt8) (w : World) (h : c.toNat < 128) :
 Calls Tryz.prog 71 #[.int .u8 (c.toNat : Int)] w fun e w' => e = .returned (.string ⟨(privL c).toArray⟩) ∧ w = w' := by
 by_cases h0 : c = 0
 ·subst h0
  go_enter Tryz.func71, Tryz.ntmps71
  go_wp2
  go_ret
  exact ⟨rfl, rfl⟩
 ·have E := Lib.hid (show privL c = [c] from if_neg h0)
  have n0 : c.toNat ≠ 0 := fun e => h0 (UInt8.toNat_inj.1 e)
  have t0 : ((c.toNat : Int) == 0) = false := beq_false_of_ne (by omega)
  clear h0 n0
  go_enter Tryz.func71, Tryz.ntmps71
  go_wp2
  go_ret
  exact ⟨by rw [E.out, ← char_str c h]; rfl, rfl⟩
theorem str_ne {a b : List UInt8} (h : a ≠ b) : (⟨a.toArray⟩ : ByteArray) ≠ ⟨b.toArray⟩ := fun e => h (by injection e with e; simpa using e)
def figV (c : Int) : Int := if 48 ≤ c ∧ c ≤ 57 then c - 48 else if 65 ≤ c ∧ c ≤ 70 then c - 55 else if 97 ≤ c ∧ c ≤ 102 then c - 87 else 99
set_option maxHeartbeats 400000 in
theorem figures_any (n : Int) (w : World) :
 Calls Tryz.prog 97 #[.int .i64 n] w fun e w' => e = .returned (.func (.func 101) #[] #[.pointer (some ⟨w.heap.size, 0, none⟩)]) ∧ w' = w.alloc (.cells #[.int .i64 n] 3) := by
 have hmf : ∀ (fn : Fn) (first cap : Array Value) (w : World), (Instr.makeFunc fn first cap).run Tryz.prog w = .ok (.func fn first cap) w := fun _ _ _ _ => rfl
 go_enter Tryz.func97, Tryz.ntmps97
 go_wp2
 go_ret
 exact ⟨rfl, rfl⟩
def figA (c n : Int) : Int := if figV c < n then figV c else 0
def figB (c n : Int) : Bool := decide (figV c < n)
set_option maxHeartbeats 1000000 in
theorem figure_any (c n : Int) (a : Addr) (w : World) (h0 : 0 ≤ c) (h1 : c ≤ 2147483647) (hn0 : 1 ≤ n) (hn1 : n ≤ 36) (hc : w.cell? a = some (.int .i64 n)) :
 Calls Tryz.prog 101 #[.int .i32 c, .pointer (some a)] w fun e w' =>
  e = .returned (.tuple #[.int .i64 (figA c n), .bool (figB c n)]) ∧ w' = w := by
 go_enter Tryz.func101, Tryz.ntmps101
 go_wp2
 all_goals go_ret2
 all_goals
  refine ⟨ret_ib ?_ ?_, rfl⟩
  ·unfold figA figV
   (repeat' split) <;> omega
  ·unfold figB figV
   (repeat' split) <;> first | (rw [eq_comm, decide_eq_true_eq]; omega) | (rw [eq_comm, decide_eq_false_iff_not]; omega)
def digs (l : List UInt8) : Nat := (l.takeWhile isD).length
def satk (l : List UInt8) (k : Nat) : Nat := (l.take k).foldl dstep 0
theorem take_snoc (l : List UInt8) (k : Nat) (h : k < l.length) : l.take (k + 1) = l.take k ++ [l[k]] := by
 rw [List.take_succ_eq_append_getElem h]
theorem satk_succ (l : List UInt8) (k : Nat) (h : k < l.length) : satk l (k + 1) = dstep (satk l k) l[k] := by
 unfold satk; rw [take_snoc l k h, List.foldl_append]; rfl
theorem satk_le (l : List UInt8) : ∀ k, satk l k ≤ 1114111 := by
 intro k
 unfold satk
 generalize l.take k = t
 cases ht : t.reverse with
 | nil => rw [List.reverse_eq_nil_iff] at ht; subst ht; simp
 | cons c r =>
   have : t = r.reverse ++ [c] := by rw [← List.reverse_reverse t, ht]; simp
   rw [this, List.foldl_append]
   exact dstep_le _ _
theorem takeWhile_of_all {p : UInt8 → Bool} : ∀ (l : List UInt8) (k : Nat), k ≤ l.length → (∀ j (h : j < l.length), j < k → p l[j] = true) → (∀ h : k < l.length, p l[k] = false) → l.takeWhile p = l.take k
 | [], k, hk, _, _ => by simp at hk; subst hk; rfl
 | c :: r, 0, _, _, hn => by
   have := hn (by simp)
   simp at this
   simp [this]
 | c :: r, k + 1, hk, ha, hn => by
   have h0 := ha 0 (by simp) (by omega)
   simp at h0
   rw [List.takeWhile_cons_of_pos h0, List.take_succ_cons]
   congr 1
   refine takeWhile_of_all r k (by simpa using hk) (fun j h hj => ?_) (fun h => ?_)
   ·exact ha (j + 1) (by rw [List.length_cons]; omega) (by omega)
   ·exact hn (by rw [List.length_cons]; omega)
theorem digs_at (l : List UInt8) (k : Nat) (hk : k ≤ l.length) (ha : ∀ j (h : j < l.length), j < k → isD l[j] = true) (hn : ∀ h : k < l.length, isD l[k] = false) : digs l = k ∧ satv l = satk l k := by
 unfold digs satv satk
 rw [takeWhile_of_all l k hk ha hn]
 exact ⟨by rw [List.length_take]; omega, rfl⟩
theorem fig_digit (c : UInt8) (h : isD c = true) : figB (c.toNat : Int) 10 = true ∧ figA (c.toNat : Int) 10 = (c.toNat : Int) - 48 := by
 have h' : 48 ≤ c.toNat ∧ c.toNat ≤ 57 := of_decide_eq_true h
 have hv : figV (c.toNat : Int) = (c.toNat : Int) - 48 := by unfold figV; rw [if_pos (by omega)]
 unfold figB figA
 rw [hv]
 exact ⟨decide_eq_true (by omega), if_pos (by omega)⟩
theorem fig_other (c : UInt8) (h : isD c = false) : figB (c.toNat : Int) 10 = false := by
 have h' : ¬ (48 ≤ c.toNat ∧ c.toNat ≤ 57) := of_decide_eq_false h
 unfold figB
 rw [decide_eq_false_iff_not]
 unfold figV
 rw [if_neg (by omega)]
 split
 ·omega
 ·split <;> omega
set_option maxHeartbeats 1000000 in
theorem figtake_any (A : Option Addr) (c : Nat) (l : List UInt8) (w : World) (hl : l.length ≤ 4294967296) (hr : Rd w A (bs l)) :
 Calls Tryz.prog 92 #[.slice A l.length c] w fun e w' => e = .returned (.tuple #[.int .i64 (satv l), .int .i64 (digs l)]) ∧ Below w.heap.size w w' := by
 have hr1 := hr.alloc (.cells #[.int .i64 10] 3)
 have hb1 : Below w.heap.size w (w.alloc (.cells #[.int .i64 10] 3)) := (Below.refl _ _).alloc (Nat.le_refl _) _
 have hbox : (w.alloc (.cells #[.int .i64 10] 3)).cell? ⟨w.heap.size, 0, none⟩ = some (.int .i64 10) := by
  rw [World.cell?_alloc_at _ _ _ _ rfl]; rfl
 go_enter Tryz.func92, Tryz.ntmps92
 go_wp2_with (go_at_call 97; refine (figures_any 10 _).mono ?_; rintro e w' ⟨rfl, rfl⟩)
 go_loop [5, 6, 14] (fun n u i => ∃ k : Nat, k ≤ l.length ∧ i = .int .i64 k ∧ u = .int .i64 k ∧ n = .int .i64 (satk l k) ∧ Hid (∀ j (h : j < l.length), j < k → isD l[j] = true)) (fun _ _ i => l.length - (intOf i).toNat)
 case atStart => exact ⟨0, Nat.zero_le _, rfl, rfl, rfl, fun j _ h => absurd h (by omega)⟩
 case round =>
  obtain ⟨k, hk, rfl, rfl, rfl, hall⟩ := hrel
  have hsk := satk_le l k
  by_cases hlt : k < l.length
  ·obtain ⟨b, o, rfl, hb, hcell⟩ := hr1.at_ (by omega)
   have hck := hcell k hlt
   have hlo := (l[k]).toNat_lt
   clear hcell
   cases hd : isD l[k] with
   | true =>
     obtain ⟨f1, f2⟩ := fig_digit _ hd
     have H1 := Lib.hid f1
     have H2 := Lib.hid f2
     have HS := Lib.hid (satk_succ l k hlt)
     have HD := Lib.hid hd
     have h5 : 48 ≤ (l[k]).toNat ∧ (l[k]).toNat ≤ 57 := of_decide_eq_true hd
     clear f1 f2 hd
     go_wp2_with (go_at_call 101; refine (figure_any _ 10 _ _ (by omega) (by omega) (by omega) (by omega) hbox).mono ?_; rintro e w' ⟨rfl, rfl⟩; rw [H1.out, H2.out])
     go_round
     case rel =>
      refine ⟨k + 1, by omega, by go_num, by go_num, ?_, ?_⟩
      ·rw [HS.out]
       unfold dstep
       congr 1
       first | omega | (split <;> omega)
      ·intro j h hj
       by_cases e : j = k
       ·subst e; exact HD.out
       ·exact hall.out j h (by omega)
     case measure => simp [intOf]; omega
   | false =>
     have H1 := Lib.hid (fig_other _ hd)
     have HE := Lib.hid (digs_at l k hk hall.out fun _ => hd)
     clear hd
     go_wp2_with (go_at_call 101; refine (figure_any _ 10 _ _ (by omega) (by omega) (by omega) (by omega) hbox).mono ?_; rintro e w' ⟨rfl, rfl⟩; rw [H1.out])
     go_ret2
     exact ⟨ret_ii (by rw [HE.out.2]) (by rw [HE.out.1]), hb1⟩
  ·have HE := Lib.hid (digs_at l k hk hall.out fun h => absurd h hlt)
   go_wp2
   go_ret2
   exact ⟨ret_ii (by rw [HE.out.2]) (by rw [HE.out.1]), hb1⟩
theorem take_at (A : Option Addr) (c : Nat) (l : List UInt8) (n : Nat) (w : World) (hn : l.length = n) (hl : l.length ≤ 4294967296) (hr : Rd w A (bs l)) :
 Calls Tryz.prog 92 #[.slice A n c] w fun e w' => e = .returned (.tuple #[.int .i64 (satv l), .int .i64 (digs l)]) ∧ Below w.heap.size w w' := by
 subst hn
 exact figtake_any A c l w hl hr
set_option maxRecDepth 100000 in
set_option maxHeartbeats 4000000 in
theorem rarg_any (s : Sq) (A : Option Addr) (c : Nat) (i o v : Int) (w : World) (hv : argL s.params i o = v) (hi0 : -9223372036854775808 ≤ i) (hi1 : i ≤ 9223372036854775807) (hl : s.params.length ≤ 4294967296) (hr : RdP w A s.params) :
 Calls Tryz.prog 29 #[sqV s A c, .int .i64 i, .int .i64 o] w fun e w' => e = .returned (.int .i64 v) ∧ Below w.heap.size w w' := by
 have hB : ∀ o, Below w.heap.size w (w.alloc o) := fun o => (Below.refl _ w).alloc (Nat.le_refl _) _
 have hr2 := hr.alloc (.cells (seqC s A c) 44)
 unfold seqC at hr2
 obtain ⟨np, hnp⟩ : ∃ np, s.params.length = np := ⟨_, rfl⟩
 have HNP := Lib.hid hnp
 rw [hnp] at hl hr2
 have HV := Lib.hid hv
 clear hv hr
 unfold sqV
 rw [hnp]
 clear hnp
 by_cases h1 : i < 0
 ·have E := Lib.hid (show o = v by rw [← HV.out]; unfold argL; rw [if_pos (by omega)])
  go_enter Tryz.func29, Tryz.ntmps29
  go_wp2_with fail
  go_ret
  exact ⟨ret_i E.out, hB _⟩
 ·by_cases h2 : (np : Int) ≤ i
  ·have E := Lib.hid (show o = v by rw [← HV.out]; unfold argL; rw [if_pos (by rw [HNP.out]; omega)])
   go_enter Tryz.func29, Tryz.ntmps29
   go_wp2_with fail
   go_ret
   exact ⟨ret_i E.out, hB _⟩
  ·obtain ⟨k, rfl⟩ : ∃ k : Nat, i = (k : Int) := ⟨i.toNat, by omega⟩
   have hk : k < np := by omega
   have hk1 : (k : Int) < (np : Int) := by omega
   have hk0 : (0 : Int) ≤ (k : Int) := by omega
   have hkp : k < s.params.length := by rw [HNP.out]; exact hk
   clear h1 h2
   obtain ⟨b, oo, hA, hb, hcc⟩ := hr2 (by rw [HNP.out]; omega)
   obtain ⟨A', c', hck, hrk⟩ := hcc k hkp
   cases hA
   obtain ⟨p, hp⟩ : ∃ p, s.params[k]'hkp = p := ⟨_, rfl⟩
   rw [hp] at hck hrk
   have HAL := Lib.hid (show headI o p = v by
    rw [← HV.out]
    unfold argL
    rw [if_neg (by rw [HNP.out]; omega), Int.toNat_natCast, List.getD_eq_getElem?_getD, List.getElem?_eq_getElem hkp, hp]; rfl)
   clear hp hcc
   cases p with
   | nil =>
     have E := Lib.hid (show o = v from HAL.out)
     clear HAL
     go_enter Tryz.func29, Tryz.ntmps29
     go_wp2_with fail
     go_ret
     exact ⟨ret_i E.out, hB _⟩
   | cons x p =>
     obtain ⟨b2, o2, hA2, hb2, hc2⟩ := hrk.int_at (by simp)
     cases hA2
     have hc0 := hc2 0 (by simp)
     rw [Nat.add_zero, List.getElem_cons_zero] at hc0
     obtain ⟨m, hm⟩ : ∃ m, (x :: p).length = m := ⟨_, rfl⟩
     have hm1 : 0 < m := by rw [← hm]; simp
     rw [hm] at hck
     have t1 : ((m : Int) == 0) = false := beq_false_of_ne (by omega)
     clear hc2 hrk hm
     by_cases hx : x < 0
     ·have E := Lib.hid (show o = v by have : (if x < 0 then o else x) = v := HAL.out; rw [if_pos hx] at this; exact this)
      clear HAL
      go_enter Tryz.func29, Tryz.ntmps29
      go_wp2_with fail
      go_ret
      exact ⟨ret_i E.out, hB _⟩
     ·have E := Lib.hid (show x = v by have : (if x < 0 then o else x) = v := HAL.out; rw [if_neg hx] at this; exact this)
      clear HAL
      go_enter Tryz.func29, Tryz.ntmps29
      go_wp2_with fail
      go_ret
      exact ⟨ret_i E.out, hB _⟩
end Go.Proofs.YtjlhhelikiegdaaGreatDoor
