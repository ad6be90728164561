/-
  Layer 5: the landed parser's methods that take a byte, but for parameters and data.
-/
import Derived.Test.YtdpdgdidfikphaaDoorHpB
import Derived.Laws.Concat
namespace Go.Proofs.YtdpdgdidfikphaaDoor
open Go.RowKit

theorem str_app (a b : List UInt8) : (⟨a.toArray⟩ : ByteArray) ++ ⟨b.toArray⟩ = ⟨(a ++ b).toArray⟩ := by
  apply ByteArray.ext
  simp
set_option maxRecDepth 100000 in
set_option maxHeartbeats 4000000 in
theorem inter_any {w : World} {S : Nat → Prop} {g base : Nat} {b : PB} {vp vd : Value} {r : Nat → Value} (h : BoxP w S g base b vp vd r) (c : UInt8) (hc : c.toNat < 128) :
    Calls Tryd.prog 40 #[.pointer (some ⟨g, 0, none⟩), .int .u8 (c.toNat : Int)] w (MvE S g base (interP b c) (.tuple #[]) w) := by
  obtain ⟨c0, c1, c2, c3, c4, c5, c6, c7, c8⟩ := Blk.cells9 h.box
  have hz4 := h.box.frozen 4
  have hz8 := h.box.frozen 8
  by_cases h1 : b.inter.length = 2
  · have E := Lib.hid (show interP b c = { b with spoilt := true } from if_pos h1)
    have t1 : ((b.inter.length : Int) == 2) = true := by rw [h1]; rfl
    have hP := BoxP.put h 8 (.bool true) (b' := { b with spoilt := true }) rfl rfl rfl ⟨h.fit.how, h.fit.np, h.fit.nq, h.fit.ni, h.fit.nd⟩
    have hF := h.frS 8 (.bool true)
    clear h1
    go_enter Tryd.func40, Tryd.ntmps40
    go_wp2
    go_end0
    rw [E.out]
    exact MvE.put hP hF
  · have E := Lib.hid (show interP b c = { b with inter := b.inter ++ [c] } from if_neg h1)
    have t1 : ((b.inter.length : Int) == 2) = false := beq_false_of_ne (by omega)
    have hfit := h.fit.inter c
    rw [E.out] at hfit
    have hl := h.fit.ni
    have hP := BoxP.put h 4 (.string ⟨(b.inter ++ [c]).toArray⟩) (b' := { b with inter := b.inter ++ [c] }) rfl rfl rfl hfit
    have hF := h.frS 4 (.string ⟨(b.inter ++ [c]).toArray⟩)
    have hcs := char_str c hc
    have hcat : ∀ w : World, (Op.stringOp .add ⟨b.inter.toArray⟩ ⟨[c].toArray⟩).run Tryd.prog w = .ok (.string ⟨(b.inter ++ [c]).toArray⟩) w := fun w => run_string_add_lists w b.inter [c] (by omega) (by simp)
    clear h1 hfit
    go_enter Tryd.func40, Tryd.ntmps40
    go_wp2_with fail
    go_end0
    rw [E.out]
    exact MvE.put hP hF

set_option maxRecDepth 100000 in
set_option maxHeartbeats 4000000 in
theorem private_any {w : World} {S : Nat → Prop} {g base : Nat} {b : PB} {vp vd : Value} {r : Nat → Value} (h : BoxP w S g base b vp vd r) (c : UInt8) :
    Calls Tryd.prog 48 #[.pointer (some ⟨g, 0, none⟩), .int .u8 (c.toNat : Int)] w (MvE S g base (privP b c) (.tuple #[]) w) := by
  obtain ⟨c0, c1, c2, c3, c4, c5, c6, c7, c8⟩ := Blk.cells9 h.box
  have hz2 := h.box.frozen 2
  have hz8 := h.box.frozen 8
  have hfit := h.fit.priv c
  have hP8 := fun hf => BoxP.put h 8 (.bool true) (b' := { b with spoilt := true }) rfl rfl rfl hf
  have hF8 := h.frS 8 (.bool true)
  have hP2 := fun hf => BoxP.put h 2 (.int .u8 (c.toNat : Int)) (b' := { b with priv := c }) rfl rfl rfl hf
  have hF2 := h.frS 2 (.int .u8 (c.toNat : Int))
  obtain ⟨A, cp, hv, _⟩ := h.par.row.form
  rw [hv] at c3
  clear hv
  obtain ⟨m, hm⟩ : ∃ m : Nat, b.pars.length = m := ⟨_, rfl⟩
  rw [hm] at c3
  by_cases h1 : b.priv = 0
  · have t1 : ((b.priv.toNat : Int) == 0) = true := by rw [h1]; rfl
    have t1' : ((b.priv.toNat : Int) != 0) = false := by simp [bne, t1]
    cases h2 : b.pars with
    | cons q ps =>
      have E := Lib.hid (show privP b c = { b with spoilt := true } from if_pos (by rw [h2]; simp))
      rw [E.out] at hfit
      have HP := Lib.hid (hP8 hfit)
      have t2 : ¬ m = 0 := by rw [← hm, h2]; simp
      clear hm h1 h2 hP8 hP2 hfit
      go_enter Tryd.func48, Tryd.ntmps48
      go_wp2_with fail
      go_end0
      rw [E.out]
      exact MvE.put HP.out hF8
    | nil =>
      obtain rfl : m = 0 := by rw [← hm, h2]; rfl
      cases h3 : b.inter with
      | cons x it =>
        have E := Lib.hid (show privP b c = { b with spoilt := true } from if_pos (by rw [h3]; simp))
        rw [E.out] at hfit
        have HP := Lib.hid (hP8 hfit)
        rw [h3] at c4
        clear hm h1 h2 h3 hP8 hP2 hfit
        go_enter Tryd.func48, Tryd.ntmps48
        go_wp2_with fail
        go_end0
        rw [E.out]
        exact MvE.put HP.out hF8
      | nil =>
        have E := Lib.hid (show privP b c = { b with priv := c } from if_neg (by rw [h1, h2, h3]; simp))
        rw [E.out] at hfit
        have HP := Lib.hid (hP2 hfit)
        rw [h3] at c4
        clear hm h1 h2 h3 hP8 hP2 hfit
        go_enter Tryd.func48, Tryd.ntmps48
        go_wp2_with fail
        go_end0
        rw [E.out]
        exact MvE.put HP.out hF2
  · have n1 : b.priv.toNat ≠ 0 := fun e => h1 (UInt8.toNat_inj.1 e)
    have t1 : ((b.priv.toNat : Int) == 0) = false := beq_false_of_ne (by omega)
    have t1' : ((b.priv.toNat : Int) != 0) = true := by simp [bne, t1]
    have E := Lib.hid (show privP b c = { b with spoilt := true } from if_pos (.inl h1))
    rw [E.out] at hfit
    have HP := Lib.hid (hP8 hfit)
    clear hm h1 n1 hP8 hP2 hfit
    go_enter Tryd.func48, Tryd.ntmps48
    go_wp2_with fail
    go_end0
    rw [E.out]
    exact MvE.put HP.out hF8

set_option maxRecDepth 100000 in
set_option maxHeartbeats 4000000 in
theorem choose_any {w : World} {S : Nat → Prop} {g base : Nat} {b : PB} {vp vd : Value} {r : Nat → Value} (h : BoxP w S g base b vp vd r) (c : UInt8) :
    Calls Tryd.prog 41 #[.pointer (some ⟨g, 0, none⟩), .int .u8 (c.toNat : Int)] w (MvE S g base (chooseP b c).1 (.bool (chooseP b c).2) w) := by
  have hz0 := h.box.frozen 0
  have hz1 := h.box.frozen 1
  have hz5 := h.box.frozen 5
  have c0 := h.box.cell 0
  have c1 := h.box.cell 1
  have c5 := h.box.cell 5
  obtain ⟨n, hn⟩ : ∃ n : Nat, c.toNat = n := ⟨_, rfl⟩
  have two : ∀ (how : Nat) (k : Int), how ≤ 5 → ∀ v, MvE S g base { b with how := how, kind := k } v w (.returned v) ((w.setCell ⟨g, 1, none⟩ (.int .i64 k)).setCell ⟨g, 0, none⟩ (fnV (fnOf how))) := fun how k hh v => by
    have h1 := BoxP.put h 1 (.int .i64 k) (b' := { b with kind := k }) rfl rfl rfl ⟨h.fit.how, h.fit.np, h.fit.nq, h.fit.ni, h.fit.nd⟩
    have h2 := BoxP.put h1 0 (fnV (fnOf how)) (b' := { b with kind := k, how := how }) rfl rfl rfl ⟨hh, h.fit.np, h.fit.nq, h.fit.ni, h.fit.nd⟩
    exact MvE.put h2 ((h.frS 1 _).trans (h1.frS 0 _) (fun _ h => .inl h))
  have fin : ∀ v, MvE S g base { b with final := c } v w (.returned v) (w.setCell ⟨g, 5, none⟩ (.int .u8 (n : Int))) := fun v => by
    rw [← hn]
    exact MvE.put (BoxP.put h 5 (.int .u8 (c.toNat : Int)) (b' := { b with final := c }) rfl rfl rfl ⟨h.fit.how, h.fit.np, h.fit.nq, h.fit.ni, h.fit.nd⟩) (h.frS 5 _)
  have HN := Lib.hid hn
  rw [hn]
  have TW := Lib.hid two
  have FI := Lib.hid fin
  clear two fin hn
  by_cases h1 : n = 91
  · subst h1
    have E := Lib.hid (show chooseP b c = ({ b with how := 2, kind := 1 }, false) by unfold chooseP; rw [HN.out, if_pos rfl])
    go_enter Tryd.func41, Tryd.ntmps41
    go_wp2_with fail
    go_ret
    rw [E.out]
    exact TW.out 2 1 (by decide) _
  have t1 : ((n : Int) == 91) = false := beq_false_of_ne (by omega)
  by_cases h2 : n = 80
  · subst h2
    have E := Lib.hid (show chooseP b c = ({ b with how := 2, kind := 3 }, false) by unfold chooseP; rw [HN.out, if_neg (by decide), if_pos rfl])
    clear h1
    go_enter Tryd.func41, Tryd.ntmps41
    go_wp2_with fail
    go_ret
    rw [E.out]
    exact TW.out 2 3 (by decide) _
  have t2 : ((n : Int) == 80) = false := beq_false_of_ne (by omega)
  by_cases h3 : n = 93
  · subst h3
    have E := Lib.hid (show chooseP b c = ({ b with how := 3, kind := 4 }, false) by unfold chooseP; rw [HN.out, if_neg (by decide), if_neg (by decide), if_pos rfl])
    clear h1 h2
    go_enter Tryd.func41, Tryd.ntmps41
    go_wp2_with fail
    go_ret
    rw [E.out]
    exact TW.out 3 4 (by decide) _
  have t3 : ((n : Int) == 93) = false := beq_false_of_ne (by omega)
  by_cases h4 : n = 88 ∨ n = 94 ∨ n = 95
  · have E := Lib.hid (show chooseP b c = ({ b with how := 4, kind := -1 }, false) by unfold chooseP; rw [HN.out, if_neg h1, if_neg h2, if_neg h3, if_pos h4])
    clear h1 h2 h3
    rcases h4 with rfl | rfl | rfl
    all_goals
      go_enter Tryd.func41, Tryd.ntmps41
      go_wp2_with fail
      go_ret
      rw [E.out]
      exact TW.out 4 (-1) (by decide) _
  have E := Lib.hid (show chooseP b c = ({ b with final := c }, true) by unfold chooseP; rw [HN.out, if_neg h1, if_neg h2, if_neg h3, if_neg h4])
  have t4 : ((n : Int) == 88) = false := beq_false_of_ne (by omega)
  have t5 : ((n : Int) == 94) = false := beq_false_of_ne (by omega)
  have t6 : ((n : Int) == 95) = false := beq_false_of_ne (by omega)
  clear h1 h2 h3 h4
  go_enter Tryd.func41, Tryd.ntmps41
  go_wp2_with fail
  go_ret
  rw [E.out]
  exact FI.out _
end Go.Proofs.YtdpdgdidfikphaaDoor
