/-
  A drawn region that lays one new block and stores known cells into it, last; and whose calls answer what the run alone tells. Layer 3, walked: Arg, the program's and the document's. Layer 3, walked: the document's guess: the other kinds.
-/
import Derived.Test.YtjlhhelikiegdaaGreatDoorG06
import Derived.Test.YtjlhhelikiegdaaGreatDoorG15
import Derived.Test.YtjlhhelikiegdaaGreatDoorG19
import Derived.Test.YtjlhhelikiegdaaGreatDoorG20
import Derived.Test.YtjlhhelikiegdaaGreatDoorG22
namespace Go.Proofs.YtjlhhelikiegdaaGreatDoor
open Go.RowKit
section
section
variable {P : Program} {ops : Array Oper} {md : Region.Mode} {w1 : World} {K : List Fact} {ix iz : Nat} {R0 : (Tmp → Value) → World → World → Prop} {aF : (Tmp → Value) → Act} {i : Nat} {o : Oper}
def FNew (w1 : World) (ty : TypeId) (z : Array Value) (v : Value) (w : World) : Prop := ∃ b, v = .pointer (some ⟨b, 0, none⟩) ∧ w1.heap.size ≤ b ∧ Blk w b ty z
theorem fnew_ok (w1 : World) (i : Nat) (d : Tmp) (ty : TypeId) (z : Array Value) : (⟨i, d, FNew w1 ty z⟩ : Fact).ok := fun _ _ _ ⟨b, e, h1, h2⟩ hb => ⟨b, e, h1, h2.below hb h2.lt⟩
theorem goesK_new {d : Tmp} {ty : TypeId} {z : Array Value} (hst : ∀ f ∈ K, f.ok) (hah : Ahead md ops ix i) (hio : ops[i]? = some o) (hx : i ≠ ix) (hz : i ≠ iz) (p : Nat) (hat : K[p]? = some ⟨i, d, FNew w1 ty z⟩) (huq : ((List.range K.length).all fun q => q == p || ((K[q]?).map fun f => f.i != i && f.d != d).getD true) = true) (hw : ∀ g, Region.wanted o (yielded ops (aF g).tmps) = true) (h0 : o.dst = some d) (hd : ∀ g, (aF g).tmps[d]? = some (g d)) {R1 : (Tmp → Value) → World → World → Prop}
 (hr : ∀ g w, (execOp (aF g).eval o).run P w = .ok (.value (.pointer (some ⟨w.heap.size, 0, none⟩))) (w.alloc (.cells z ty))) : GoesM P md ops aF (SK md ops w1 K ix iz R0 R1) i o :=
 goesK_make hst hah hio hx hz p hat huq hw h0 hd (fun w => .pointer (some ⟨w.heap.size, 0, none⟩)) (fun w => w.alloc (.cells z ty)) hr fun w hb => ⟨⟨w.heap.size, rfl, hb.size, Blk.new w ty z⟩, (Below.refl _ w).alloc (Nat.le_refl _) _⟩
theorem goesP_put {ty : TypeId} {x y : Operand} {d : Tmp} {j : Nat} {z cs : Array Value} (hi : i = ix) (hxz : ix = iz) (hio : ops[i]? = some o) (hall : ∀ f ∈ K, f.i ≠ i ∧ ∃ js, pathB md ops ix js = true ∧ f.i ∈ js) (p : Nat) (hat : K[p]? = some ⟨j, d, FNew w1 ty z⟩) (hw : ∀ g, Region.wanted o (yielded ops (aF g).tmps) = true) (hop : o.op = .store ty x y) (ho : o.dst = none) (hx : ∀ g, (aF g).eval x = g d) (hy : ∀ g, (aF g).eval y = .agg cs) (hs : cs.size = z.size) (hin : (P.info? ty).map (·.size) = some z.size) (h1 : cs.toList.all (·.oneCell') = true) :
 GoesM P md ops aF (SK md ops w1 K ix iz R0 (fun g _ w => Below w1.heap.size w1 w ∧ FNew w1 ty cs (g d) w)) i o := fun l g w hsz hf hrd hS => by
 subst hxz hi
 rw [if_pos (hw g)]
 obtain ⟨b1, h2⟩ := hS.pre hf
 have hsh := hS.shut.step hio hrd
 have hlt : i < l.size := by rw [hsz]; exact (Array.getElem?_eq_some_iff.1 hio).1
 have hfs : ∀ f ∈ K, f.F (g f.d) w := fun f hf' => h2 f hf' (by
  obtain ⟨hne, js, hp, hm⟩ := hall f hf'
  have := hsh.path i js (getD_self hlt) hp f.i hm
  rwa [getD_set_ne false (fun e => hne e.symm)] at this)
 obtain ⟨b, g1, g2, g3⟩ : FNew w1 ty z (g d) w := hfs _ (List.mem_of_getElem? hat)
 have hrun := g3.run_set (P := P) cs hs hin h1
 refine .inl ⟨undef, w.setCells b 0 cs.toList, .inr ⟨?_, rfl⟩, g, .inl rfl, (fun d' h' => by rw [ho] at h'; cases h'), hsh, ?_, ?_, fun _ => ⟨w, b1, hfs, b1.grown (grown_setCells b _ 0 w) b1.size (fun k e => by cases e; exact g2), b, g1, g2, g3.setAll hs⟩, fun h => h⟩
 ·unfold execOp
  simp only [hop, hx, hy, g1, Sem.run_bind, hrun, Result.andThen_ok, Sem.run_pure]
 ·rw [getD_self hlt]; intro h; cases h
 ·rw [getD_self hlt]; intro _ h; cases h
end
end
set_option maxRecDepth 100000 in
set_option maxHeartbeats 4000000 in
theorem parg_any (s : Sq) (A : Option Addr) (c : Nat) (i o v : Int) (w : World) (hv : argL s.params i o = v) (hi0 : -9223372036854775808 ≤ i) (hi1 : i ≤ 9223372036854775807) (hl : s.params.length ≤ 4294967296) (hr : RdP w A s.params) :
 Calls Tryz.prog 24 #[sqV s A c, .int .i64 i, .int .i64 o] w fun e w' => e = .returned (.int .i64 v) ∧ Below w.heap.size w w' := by
 have hB : ∀ o, Below w.heap.size w (w.alloc o) := fun o => (Below.refl _ w).alloc (Nat.le_refl _) _
 have hr2 := hr.alloc (.cells (seqC s A c) 44)
 unfold seqC at hr2
 obtain ⟨np, hnp⟩ : ∃ np, s.params.length = np := ⟨_, rfl⟩
 have HNP := Lib.hid hnp
 rw [hnp] at hl hr2
 have HV := Lib.hid hv
 clear hv hr
 unfold sqV
 rw [hnp]
 clear hnp
 by_cases h1 : i < 0
 ·have E := Lib.hid (show o = v by rw [← HV.out]; unfold argL; rw [if_pos (by omega)])
  go_enter Tryz.func24, Tryz.ntmps24
  go_wp2_with fail
  go_ret
  exact ⟨ret_i E.out, hB _⟩
 ·by_cases h2 : (np : Int) ≤ i
  ·have E := Lib.hid (show o = v by rw [← HV.out]; unfold argL; rw [if_pos (by rw [HNP.out]; omega)])
   go_enter Tryz.func24, Tryz.ntmps24
   go_wp2_with fail
   go_ret
   exact ⟨ret_i E.out, hB _⟩
  ·obtain ⟨k, rfl⟩ : ∃ k : Nat, i = (k : Int) := ⟨i.toNat, by omega⟩
   have hk : k < np := by omega
   have hk1 : (k : Int) < (np : Int) := by omega
   have hk0 : (0 : Int) ≤ (k : Int) := by omega
   have hkp : k < s.params.length := by rw [HNP.out]; exact hk
   clear h1 h2
   obtain ⟨b, oo, hA, hb, hcc⟩ := hr2 (by rw [HNP.out]; omega)
   obtain ⟨A', c', hck, hrk⟩ := hcc k hkp
   cases hA
   obtain ⟨p, hp⟩ : ∃ p, s.params[k]'hkp = p := ⟨_, rfl⟩
   rw [hp] at hck hrk
   have HAL := Lib.hid (show headI o p = v by
    rw [← HV.out]
    unfold argL
    rw [if_neg (by rw [HNP.out]; omega), Int.toNat_natCast, List.getD_eq_getElem?_getD, List.getElem?_eq_getElem hkp, hp]; rfl)
   clear hp hcc
   cases p with
   | nil =>
     have E := Lib.hid (show o = v from HAL.out)
     clear HAL
     go_enter Tryz.func24, Tryz.ntmps24
     go_wp2_with fail
     go_ret
     exact ⟨ret_i E.out, hB _⟩
   | cons x p =>
     obtain ⟨b2, o2, hA2, hb2, hc2⟩ := hrk.int_at (by simp)
     cases hA2
     have hc0 := hc2 0 (by simp)
     rw [Nat.add_zero, List.getElem_cons_zero] at hc0
     obtain ⟨m, hm⟩ : ∃ m, (x :: p).length = m := ⟨_, rfl⟩
     have hm1 : 0 < m := by rw [← hm]; simp
     rw [hm] at hck
     have t1 : ((m : Int) == 0) = false := beq_false_of_ne (by omega)
     clear hc2 hrk hm
     by_cases hx : x < 0
     ·have E := Lib.hid (show o = v by have : (if x < 0 then o else x) = v := HAL.out; rw [if_pos hx] at this; exact this)
      clear HAL
      go_enter Tryz.func24, Tryz.ntmps24
      go_wp2_with fail
      go_ret
      exact ⟨ret_i E.out, hB _⟩
     ·have E := Lib.hid (show x = v by have : (if x < 0 then o else x) = v := HAL.out; rw [if_neg hx] at this; exact this)
      clear HAL
      go_enter Tryz.func24, Tryz.ntmps24
      go_wp2_with fail
      go_ret
      exact ⟨ret_i E.out, hB _⟩
set_option maxRecDepth 100000 in
set_option maxHeartbeats 8000000 in
theorem guess_x_short (s : ByteArray) (w : World) (h : s.size < 2) :
 Calls Tryz.prog 52 #[.string s] w (GuessP s.data.toList w) := by
 have HG := Lib.hid (guess_short s h)
 go_enter Tryz.func52, Tryz.ntmps52
 go_wp2_with fail
 refine bodyPost_ret (v := .tuple #[.agg #[.int .i64 0, .int .u8 0, .slice none 0 0, .string ⟨#[]⟩, .int .u8 0, .string ⟨#[]⟩], .int .i64 (-1)]) (by simp [results, Tryz.results52, go_sem]) rfl (gp_no HG.out _ _ _ _ _ _ _ _ rfl ((Below.refl _ w).alloc (Nat.le_refl _) _))
set_option maxRecDepth 100000 in
set_option maxHeartbeats 8000000 in
theorem guess_x_not (s : ByteArray) (w : World) (h2 : 1 < s.size) (h0 : (s[0]'(by omega)).toNat ≠ 27) :
 Calls Tryz.prog 52 #[.string s] w (GuessP s.data.toList w) := by
 have HG := Lib.hid (guess_not s h2 h0)
 have t0 : (((s[0]'(by omega)).toNat : Int) == 27) = false := beq_false_of_ne (by omega)
 have t1 : (((s[0]'(by omega)).toNat : Int) != 27) = true := by simp [bne, t0]
 clear h0
 go_enter Tryz.func52, Tryz.ntmps52
 go_wp2_with fail
 refine bodyPost_ret (v := .tuple #[.agg #[.int .i64 0, .int .u8 0, .slice none 0 0, .string ⟨#[]⟩, .int .u8 0, .string ⟨#[]⟩], .int .i64 (-1)]) (by simp [results, Tryz.results52, go_sem]) rfl (gp_no HG.out _ _ _ _ _ _ _ _ rfl ((Below.refl _ w).alloc (Nat.le_refl _) _))
set_option maxRecDepth 100000 in
set_option maxHeartbeats 8000000 in
theorem guess_x_79n (s : ByteArray) (w : World) (h2 : s.size = 2) (h0 : (s[0]'(by omega)).toNat = 27) (h1 : (s[1]'(by omega)).toNat = 79) :
 Calls Tryz.prog 52 #[.string s] w (GuessP s.data.toList w) := by
 have HG := Lib.hid (guess_79n s h2 h0 h1)
 have b1 : ((s[0]'(by omega)).toNat : Int) = 27 := by omega
 have b2 : ((s[1]'(by omega)).toNat : Int) = 79 := by omega
 go_enter Tryz.func52, Tryz.ntmps52
 go_wp2_with fail
 refine bodyPost_ret (v := .tuple #[.agg #[.int .i64 5, .int .u8 0, .slice none 0 0, .string ⟨#[]⟩, .int .u8 0, .string ⟨#[]⟩], .int .i64 (-1)]) (by simp [results, Tryz.results52, go_sem]) rfl (gp_no HG.out _ _ _ _ _ _ _ _ rfl (((Below.refl _ w).alloc (Nat.le_refl _) _).alloc (by simp) _))
set_option maxRecDepth 100000 in
set_option maxHeartbeats 8000000 in
theorem guess_x_79s (s : ByteArray) (w : World) (h2 : 2 < s.size) (h0 : (s[0]'(by omega)).toNat = 27) (h1 : (s[1]'(by omega)).toNat = 79) :
 Calls Tryz.prog 52 #[.string s] w (GuessP s.data.toList w) := by
 have HG := Lib.hid (guess_79s s h2 h0 h1)
 have b1 : ((s[0]'(by omega)).toNat : Int) = 27 := by omega
 have b2 : ((s[1]'(by omega)).toNat : Int) = 79 := by omega
 go_enter Tryz.func52, Tryz.ntmps52
 go_wp2_with fail
 refine bodyPost_ret (v := .tuple #[.agg #[.int .i64 2, .int .u8 0, .slice none 0 0, .string ⟨#[]⟩, .int .u8 ((s[2]'h2).toNat : Int), .string ⟨#[]⟩], .int .i64 3]) (by simp [results, Tryz.results52, go_sem]) rfl (gp_yes HG.out none 0 rfl (RdPN.nil 0 _ _) (((Below.refl _ w).alloc (Nat.le_refl _) _).alloc (by simp) _))
set_option maxRecDepth 100000 in
set_option maxHeartbeats 8000000 in
theorem guess_x_93 (s : ByteArray) (w : World) (hl : s.size ≤ 4294967296) (h2 : 1 < s.size) (h0 : (s[0]'(by omega)).toNat = 27) (h1 : (s[1]'h2).toNat = 93) :
 Calls Tryz.prog 52 #[.string s] w (GuessP s.data.toList w) := by
 have b1 : ((s[0]'(by omega)).toNat : Int) = 27 := by omega
 have b2 : ((s[1]'h2).toNat : Int) = 93 := by omega
 have hlen : s.data.toList.length = s.size := by simp
 obtain ⟨n, hn⟩ : ∃ n, runL s.data.toList 2 32 126 = n := ⟨_, rfl⟩
 have r1 := run_le s.data.toList 2 32 126 (by omega)
 rw [hn, hlen] at r1
 have HN := Lib.hid hn
 obtain ⟨m, hm⟩ : ∃ m, 2 + n = m := ⟨_, rfl⟩
 rw [hm] at r1
 have HG := Lib.hid (guess_93 s h2 h0 h1 n m hn hm)
 have E1 := Lib.hid (ext_str s 2 n m 32 126 hn hm)
 have ew1 : IntKind.i64.wrap ((2 : Int) + (n : Int)) = (m : Int) := by have := IntWalk.i64_in ((2 : Int) + (n : Int)) (by omega); rw [this]; omega
 have q1 : (2 : Int) ≤ (m : Int) := by omega
 have q2 : (m : Int) ≤ (s.size : Int) := by omega
 clear hn hm
 go_enter Tryz.func52, Tryz.ntmps52
 go_wp2_with fail
 refine (run_str s 2 32 126 n _ hl (by omega) HN.out).mono ?_
 rintro e w1 ⟨rfl, rfl⟩
 go_wp2_with fail
 refine bodyPost_ret (v := .tuple #[.agg #[.int .i64 4, .int .u8 0, .slice none 0 0, .string ⟨#[]⟩, .int .u8 0, .string (s.extract 2 m)], .int .i64 ((m : Int) + 2)]) (by simp [results, Tryz.results52, go_sem]) rfl (gp_yes HG.out none 0 (by rw [E1.out]; rfl) (RdPN.nil 0 _ _) (((Below.refl _ w).alloc (Nat.le_refl _) _).alloc (by simp) _))
set_option maxRecDepth 100000 in
set_option maxHeartbeats 8000000 in
theorem guess_x_esc (s : ByteArray) (w : World) (hl : s.size ≤ 4294967296) (h2 : 1 < s.size) (h0 : (s[0]'(by omega)).toNat = 27) (h1 : (s[1]'h2).toNat ≠ 79 ∧ (s[1]'h2).toNat ≠ 93 ∧ (s[1]'h2).toNat ≠ 91 ∧ (s[1]'h2).toNat ≠ 80) :
 Calls Tryz.prog 52 #[.string s] w (GuessP s.data.toList w) := by
 have HQ := Lib.hid (guess_esc s h2 h0 h1)
 have b1 : ((s[0]'(by omega)).toNat : Int) = 27 := by omega
 have t79 : (((s[1]'h2).toNat : Int) == 79) = false := beq_false_of_ne (by omega)
 have t93 : (((s[1]'h2).toNat : Int) == 93) = false := beq_false_of_ne (by omega)
 have t91 : (((s[1]'h2).toNat : Int) == 91) = false := beq_false_of_ne (by omega)
 have t80 : (((s[1]'h2).toNat : Int) == 80) = false := beq_false_of_ne (by omega)
 have hlen : s.data.toList.length = s.size := by simp
 obtain ⟨n2, hn2⟩ : ∃ n, runL s.data.toList 1 32 47 = n := ⟨_, rfl⟩
 have r2 := run_le s.data.toList 1 32 47 (by omega)
 rw [hn2, hlen] at r2
 have HN2 := Lib.hid hn2
 obtain ⟨m2, hm2⟩ : ∃ m, 1 + n2 = m := ⟨_, rfl⟩
 rw [hm2] at r2
 have E2 := Lib.hid (ext_str s 1 n2 m2 32 47 hn2 hm2)
 have ew2 : IntKind.i64.wrap ((1 : Int) + (n2 : Int)) = (m2 : Int) := by have := IntWalk.i64_in ((1 : Int) + (n2 : Int)) (by omega); rw [this]; omega
 have q3 : (1 : Int) ≤ (m2 : Int) := by omega
 have q4 : (m2 : Int) ≤ (s.size : Int) := by omega
 by_cases hlt : m2 < s.size
 ·have k3 : (m2 : Int) < (s.size : Int) := by omega
  have k4 : (0 : Int) ≤ (m2 : Int) := by omega
  have HG := Lib.hid (HQ.out.trans (esc_some s.data.toList n2 m2 (s[m2]'hlt) hn2 hm2 (by omega) (by rw [byte_at s m2 hlt, getD_at])))
  clear hn2 hm2 h1
  go_enter Tryz.func52, Tryz.ntmps52
  go_wp2_with fail
  refine (run_str s 1 32 47 n2 _ hl (by omega) HN2.out).mono ?_
  rintro e w1 ⟨rfl, rfl⟩
  go_wp2_with fail
  refine bodyPost_ret (v := .tuple #[.agg #[.int .i64 5, .int .u8 0, .slice none 0 0, .string (s.extract 1 m2), .int .u8 ((s[m2]'hlt).toNat : Int), .string ⟨#[]⟩], .int .i64 ((m2 : Int) + 1)]) (by simp [results, Tryz.results52, go_sem]) rfl (gp_yes HG.out none 0 (by rw [E2.out]; rfl) (RdPN.nil 0 _ _) (((Below.refl _ w).alloc (Nat.le_refl _) _).alloc (by simp) _))
 ·have k3 : (s.size : Int) ≤ (m2 : Int) := by omega
  have HG := Lib.hid (HQ.out.trans (esc_none s.data.toList n2 m2 hn2 hm2 (by omega)))
  clear hn2 hm2 h1
  go_enter Tryz.func52, Tryz.ntmps52
  go_wp2_with fail
  refine (run_str s 1 32 47 n2 _ hl (by omega) HN2.out).mono ?_
  rintro e w1 ⟨rfl, rfl⟩
  go_wp2_with fail
  refine bodyPost_ret (v := .tuple #[.agg #[.int .i64 5, .int .u8 0, .slice none 0 0, .string (s.extract 1 m2), .int .u8 0, .string ⟨#[]⟩], .int .i64 (-1)]) (by simp [results, Tryz.results52, go_sem]) rfl (gp_no HG.out _ _ _ _ _ _ _ _ rfl (((Below.refl _ w).alloc (Nat.le_refl _) _).alloc (by simp) _))
end Go.Proofs.YtjlhhelikiegdaaGreatDoor
