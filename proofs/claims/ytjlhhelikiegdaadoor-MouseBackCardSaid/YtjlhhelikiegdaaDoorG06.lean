/-
  Layer 3's mathematics: a sequence, whether it may be, its bytes, and the sequence with which bytes begin. slices.Grow of nothing, and slices.Concat, of rows of bytes.
-/
import Derived.Test.YtjlhhelikiegdaaDoorG03
import Derived.Test.YtjlhhelikiegdaaDoorG04
import Derived.Test.YtjlhhelikiegdaaDoorG05
import Derived.Lib.AppendZeros
import Derived.LaidMore
namespace Go.Proofs.YtjlhhelikiegdaaDoor
structure Sq where
 kind : Int
 priv : UInt8
 params : List (List Int)
 inter : List UInt8
 final : UInt8
 data : List UInt8
def btw (a b : Nat) (c : UInt8) : Bool := decide (a ≤ c.toNat) && decide (c.toNat ≤ b)
theorem btw_iff (a b : Nat) (c : UInt8) : btw a b c = true ↔ a ≤ c.toNat ∧ c.toNat ≤ b := by simp [btw]
theorem btw_no (a b : Nat) (c : UInt8) : btw a b c = false ↔ ¬ (a ≤ c.toNat ∧ c.toNat ≤ b) := by rw [← btw_iff]; simp
def parOk (l : List (List Int)) : Bool := decide (l.length ≤ 16) && decide (l ≠ [[-1]]) && l.all fun p => decide (1 ≤ p.length) && decide (p.length ≤ 8) && p.all fun n => decide (-1 ≤ n) && decide (n ≤ 1114111)
def lastOk (s : Sq) : Bool :=
 if s.kind = 1 ∨ s.kind = 2 ∨ s.kind = 3 then btw 64 126 s.final
 else if s.kind = 5 then btw 48 126 s.final && (decide (s.inter ≠ []) || !([79, 80, 88, 91, 93, 92, 94, 95] : List UInt8).contains s.final)
 else decide (s.kind = 4) && decide (s.final = 0)
def bareOk (s : Sq) : Bool :=
 !(decide (s.kind = 2 ∨ s.kind = 4 ∨ s.kind = 5) && (decide (s.priv ≠ 0) || decide (s.params ≠ []))) && !(decide (s.kind = 2 ∨ s.kind = 4) && decide (s.inter ≠ [])) && (decide (s.data = []) || decide (s.kind = 3 ∨ s.kind = 4))
def privOk (c : UInt8) : Bool := decide (c = 0) || btw 60 63 c
def okS (s : Sq) : Bool := privOk s.priv && parOk s.params && decide (s.inter.length ≤ 2) && s.inter.all (btw 32 47) && s.data.all (btw 32 126) && lastOk s && bareOk s
def mayS (s : Sq) : Int := if 4096 < s.data.length then 4 else if okS s = true then 0 else 1
def partL : List Int → List UInt8
 | [] => []
 | [n] => textL n
 | n :: m :: p => textL n ++ (58 :: partL (m :: p))
def parL : List (List Int) → List UInt8
 | [] => []
 | [p] => partL p
 | p :: q :: l => partL p ++ (59 :: parL (q :: l))
def privL (c : UInt8) : List UInt8 := if c = 0 then [] else [c]
def bodyL (s : Sq) : List UInt8 := privL s.priv ++ parL s.params ++ s.inter
def putS (s : Sq) : List UInt8 :=
 if s.kind = 1 then 27 :: 91 :: (bodyL s ++ [s.final])
 else if s.kind = 2 then [27, 79, s.final]
 else if s.kind = 3 then 27 :: 80 :: (bodyL s ++ (s.final :: (s.data ++ [27, 92])))
 else if s.kind = 4 then 27 :: 93 :: (s.data ++ [27, 92])
 else 27 :: (s.inter ++ [s.final])
def numsGo (n : Int) (one : List Int) : List UInt8 → List (List Int)
 | [] => [one ++ [n]]
 | c :: l => if isD c = true then numsGo (rd 1114112 n c) one l else if c = 59 then (one ++ [n]) :: numsGo (-1) [] l else numsGo (-1) (one ++ [n]) l
def numsL (l : List UInt8) : List (List Int) := if l = [] then [] else numsGo (-1) [] l
theorem go_figs (l m : List UInt8) (n : Int) (one : List Int) (h : ∀ c ∈ l, isD c = true) : numsGo n one (l ++ m) = numsGo (l.foldl (rd 1114112) n) one m := by
 induction l generalizing n with
 | nil => rfl
 | cons c l ih =>
   have hc := h c (List.mem_cons_self ..)
   rw [List.cons_append]
   show (if isD c = true then numsGo (rd 1114112 n c) one (l ++ m) else _) = _
   rw [if_pos hc, ih _ (fun d hd => h d (List.mem_cons_of_mem _ hd))]
   rfl
theorem go_text (n : Int) (h0 : -1 ≤ n) (h1 : n ≤ 1114111) (m : List UInt8) (one : List Int) : numsGo (-1) one (textL n ++ m) = numsGo n one m := by
 rw [go_figs _ _ _ _ (text_all_isD n)]
 by_cases h : n < 0
 ·rw [textL_neg n h, show n = -1 by omega]; rfl
 ·rw [text_read _ _ (by omega) (by omega), show min n 1114112 = n by omega]
def partOk (p : List Int) : Prop := ∀ n ∈ p, -1 ≤ n ∧ n ≤ 1114111
theorem go_part : ∀ (p : List Int) (_ : p ≠ []) (_ : partOk p) (one : List Int), numsGo (-1) one (partL p) = [one ++ p] ∧ ∀ m, numsGo (-1) one (partL p ++ (59 :: m)) = (one ++ p) :: numsGo (-1) [] m := by
 intro p
 induction p with
 | nil => intro h; exact absurd rfl h
 | cons n p ih =>
   intro _ ho one
   obtain ⟨h0, h1⟩ := ho n (List.mem_cons_self ..)
   cases p with
   | nil =>
     refine ⟨?_, fun m => ?_⟩
     ·have := go_text n h0 h1 [] one
      rw [List.append_nil] at this
      exact this
     ·have := go_text n h0 h1 (59 :: m) one
      exact this
   | cons k p =>
     have ih' := ih (by simp) (fun x hx => ho x (List.mem_cons_of_mem _ hx)) (one ++ [n])
     have e : partL (n :: k :: p) = textL n ++ (58 :: partL (k :: p)) := rfl
     refine ⟨?_, fun m => ?_⟩
     ·rw [e, go_text n h0 h1]
      show numsGo (-1) (one ++ [n]) (partL (k :: p)) = _
      rw [ih'.1, List.append_assoc]; rfl
     ·rw [e, List.append_assoc, go_text n h0 h1]
      show numsGo (-1) (one ++ [n]) (partL (k :: p) ++ (59 :: m)) = _
      rw [ih'.2 m, List.append_assoc]; rfl
theorem go_par : ∀ (l : List (List Int)), l ≠ [] → (∀ p ∈ l, p ≠ [] ∧ partOk p) → numsGo (-1) [] (parL l) = l := by
 intro l
 induction l with
 | nil => intro h; exact absurd rfl h
 | cons p l ih =>
   intro _ ho
   obtain ⟨h0, h1⟩ := ho p (List.mem_cons_self ..)
   cases l with
   | nil => exact (go_part p h0 h1 []).1
   | cons q l =>
     have ih' := ih (by simp) (fun x hx => ho x (List.mem_cons_of_mem _ hx))
     have e : parL (p :: q :: l) = partL p ++ (59 :: parL (q :: l)) := rfl
     rw [e, (go_part p h0 h1 []).2, ih']; rfl
theorem part_nil : ∀ (p : List Int), partOk p → p ≠ [] → partL p = [] → p = [-1] := by
 intro p ho hn h
 match p with
 | [] => exact absurd rfl hn
 | [n] =>
   obtain ⟨h0, h1⟩ := ho n (List.mem_cons_self ..)
   by_cases hneg : n < 0
   ·rw [show n = -1 by omega]
   ·exact absurd h (text_ne n (by omega))
 | n :: m :: p => simp [partL] at h
theorem par_nil : ∀ (l : List (List Int)), (∀ p ∈ l, p ≠ [] ∧ partOk p) → parL l = [] → l = [] ∨ l = [[-1]] := by
 intro l ho h
 match l with
 | [] => exact .inl rfl
 | [p] => exact .inr (by rw [part_nil p (ho p (List.mem_cons_self ..)).2 (ho p (List.mem_cons_self ..)).1 h])
 | p :: q :: l => simp [parL] at h
theorem parOk_all {l : List (List Int)} (h : parOk l = true) : (∀ p ∈ l, p ≠ [] ∧ partOk p) ∧ l ≠ [[-1]] := by
 simp only [parOk, Bool.and_eq_true, decide_eq_true_eq, List.all_eq_true] at h
 refine ⟨fun p hp => ?_, h.1.2⟩
 obtain ⟨⟨h1, _⟩, h2⟩ := h.2 p hp
 refine ⟨fun e => by rw [e] at h1; simp at h1, fun n hn => h2 n hn⟩
theorem nums_par {l : List (List Int)} (h : parOk l = true) : numsL (parL l) = l := by
 obtain ⟨h1, h2⟩ := parOk_all h
 unfold numsL
 by_cases he : l = []
 ·subst he; rfl
 ·rw [if_neg (fun e => (par_nil l h1 e).elim he h2)]
  exact go_par l he h1
theorem part_btw (p : List Int) : ∀ c ∈ partL p, btw 48 59 c = true := by
 have ht : ∀ n, ∀ c ∈ textL n, btw 48 59 c = true := fun n c hc => by
  have := of_decide_eq_true (text_all_isD n c hc)
  rw [btw_iff]; omega
 match p with
 | [] => intro c hc; cases hc
 | [n] => exact ht n
 | n :: m :: p =>
   intro c hc
   rcases List.mem_append.1 (show c ∈ textL n ++ (58 :: partL (m :: p)) from hc) with h | h
   ·exact ht n c h
   ·rcases List.mem_cons.1 h with rfl | h
    ·decide
    ·exact part_btw (m :: p) c h
theorem par_btw (l : List (List Int)) : ∀ c ∈ parL l, btw 48 59 c = true := by
 match l with
 | [] => intro c hc; cases hc
 | [p] => exact part_btw p
 | p :: q :: l =>
   intro c hc
   rcases List.mem_append.1 (show c ∈ partL p ++ (59 :: parL (q :: l)) from hc) with h | h
   ·exact part_btw p c h
   ·rcases List.mem_cons.1 h with rfl | h
    ·decide
    ·exact par_btw (q :: l) c h
end Go.Proofs.YtjlhhelikiegdaaDoor
namespace Go.Proofs.YtjlhhelikiegdaaDoor
open Go.RowKit
def RdBs (w : World) (A : Option Addr) (ls : List (List UInt8)) : Prop :=
 0 < ls.length → ∃ b o, A = some ⟨b, o, none⟩ ∧ b < w.heap.size ∧ ∀ k (hk : k < ls.length), ∃ A' c', w.cell? ⟨b, o + k, none⟩ = some (.slice A' (ls[k]).length c') ∧ Rd w A' (bs ls[k])
theorem RdBs.below {w w' : World} {A : Option Addr} {ls : List (List UInt8)} (h : RdBs w A ls) (hb : Below w.heap.size w w') : RdBs w' A ls := fun hp => by
 obtain ⟨b, o, rfl, hlt, hc⟩ := h hp
 refine ⟨b, o, rfl, Nat.lt_of_lt_of_le hlt hb.size, fun k hk => ?_⟩
 obtain ⟨A', c', h1, h2⟩ := hc k hk
 exact ⟨A', c', (hb.cell (p := ⟨b, o + k, none⟩) hlt).trans h1, h2.below hb⟩
theorem flat_step {α : Type} (ls : List (List α)) {k : Nat} (h : k < ls.length) : (ls.take (k + 1)).flatten = (ls.take k).flatten ++ ls[k] := by
 rw [List.take_succ_eq_append_getElem h, List.flatten_append]; simp
theorem flat_le {α : Type} (ls : List (List α)) (k : Nat) : (ls.take k).flatten.length ≤ ls.flatten.length := by
 have : ls.flatten = (ls.take k).flatten ++ (ls.drop k).flatten := by rw [← List.flatten_append, List.take_append_drop]
 rw [this, List.length_append]; omega
set_option maxRecDepth 100000 in
set_option maxHeartbeats 4000000 in
theorem grow_any (n : Nat) (hn : n ≤ 4294967296) (w : World) : Calls Tryd.prog 43 #[.slice none 0 0, .int .i64 n] w fun e w' => ∃ A c, e = .returned (.slice A 0 c) ∧ Own w' w.heap.size 5 1 (.slice A 0 c) 0 [] ∧ Below w.heap.size w w' := by
 obtain ⟨i0, hi0, hz0, hz1, hz2⟩ : ∃ i, Tryd.prog.info? 5 = some i ∧ i.zero = some (.int .u8 0) ∧ i.size = 1 ∧ i.bytes = 1 := ⟨_, rfl, rfl, rfl, rfl⟩
 have n0 : ¬ ((n : Int) < 0) := by omega
 by_cases h0 : n = 0
 ·subst h0
  go_enter Tryd.func43, Tryd.ntmps43
  go_wp2_with fail
  go_ret
  exact ⟨none, 0, rfl, Own.nil_ _ _ _ _, Below.refl _ _⟩
 ·have n1 : (0 : Int) < (n : Int) := by omega
  have hw1 : IntKind.i64.wrap (n : Int) = n := by rw [IntKind.wrap_i64]; omega
  have hw2 : IntKind.i64.wrap ((n : Int) - 0) = n := by rw [IntKind.wrap_i64]; omega
  have happ := Lib.run_append_nil_zeros (P := Tryd.prog) w 26 3 26 5 i0 (.int .u8 0) .i64 .i64 Tryd.underlying26 Tryd.underlying3 hi0 hz0 n (by omega) (by omega) (by omega) (by rw [hz2]; omega)
  generalize hcap : grownCap w n 0 5 = cap2 at happ
  have hcapge : n ≤ cap2 := by rw [← hcap]; exact grownCap_ge w _ 0 5
  have hcaple : cap2 ≤ maxLen := by rw [← hcap]; exact grownCap_le_maxLen w _ 0 5 (by unfold maxLen; omega)
  generalize hZ : (Builtin.zeroCells (Value.int .u8 0).cells n ++ Builtin.zeroCells (Value.int .u8 0).cells (cap2 - n)) = Z at happ
  have hZs : Z.size = cap2 := by rw [← hZ]; simp [size_zeroCells, Value.cells]; omega
  clear hcap hZ
  have hown : Own (w.drew.alloc (.cells Z 5)) w.heap.size 5 1 (.slice (some ⟨w.heap.size, 0, none⟩) 0 cap2) 0 [] := by
   refine ⟨by simp, .inr ⟨w.heap.size, cap2, rfl, Nat.le_refl _, ⟨Z, (0, 0), heap_alloc_new w.drew _⟩, Nat.zero_le _, hcaple, fun j u hu => by simp at hu, fun j hj => ?_⟩⟩
   have hd : w.heap.size = w.drew.heap.size := rfl
   rw [hd, cell_of_row _ _ j _ _ _ (heap_alloc_new w.drew _)]
   exact ⟨by simpa using (by omega : j < Z.size), frozen_of_row _ _ j _ _ (heap_alloc_new w.drew _)⟩
  have hB : Below w.heap.size w (w.drew.alloc (.cells Z 5)) := below_drewN ((Below.refl _ w).alloc (Nat.le_refl _) (.cells Z 5)) 1
  go_enter Tryd.func43, Tryd.ntmps43
  go_wp2_with (at_builtin; refine Lib.wpList_append_run _ rfl _ _ _ _ rfl _ _ rfl rfl _ _ happ ?_)
  go_ret
  exact ⟨_, _, rfl, hown, hB⟩
set_option maxRecDepth 100000 in
set_option maxHeartbeats 8000000 in
theorem concat_any (A : Option Addr) (c : Nat) (ls : List (List UInt8)) (L : List UInt8) (m n : Nat) (hls : ls.length = m) (hm : m ≤ 1000) (hL : ls.flatten = L) (hn : L.length = n) (hl : n ≤ 4294967296) (w : World) (hr : RdBs w A ls) :
 Calls Tryd.prog 31 #[.slice A m c] w fun e w' => ∃ B d, e = .returned (.slice B n d) ∧ Own w' w.heap.size 5 1 (.slice B n d) n (bs L) ∧ Below w.heap.size w w' := by
 obtain ⟨i0, hi0, hz0, hz1, hz2⟩ : ∃ i, Tryd.prog.info? 5 = some i ∧ i.zero = some (.int .u8 0) ∧ i.size = 1 ∧ i.bytes = 1 := ⟨_, rfl, rfl, rfl, rfl⟩
 have HM := Lib.hid hls
 have HN := Lib.hid hn
 have HL := Lib.hid hL
 clear hls hn hL
 go_enter Tryd.func31, Tryd.ntmps31
 go_wp2_with fail
 go_loopw [3, 11] (fun sm i wr => ∃ (k p : Nat), k ≤ m ∧ p ≤ n ∧ i = .int .i64 k ∧ sm = .int .i64 p ∧ Hid ((ls.take k).flatten.length = p) ∧ Below w.heap.size w wr) (fun _ i _ => m - (intOf i).toNat)
 case atStart => exact ⟨0, 0, Nat.zero_le _, Nat.zero_le _, rfl, rfl, Lib.hid (by simp), Below.refl _ _⟩
 case round =>
  obtain ⟨k, p, hk, hp, rfl, rfl, HP, hbw⟩ := hrel
  by_cases hlt : k < m
  ·have hkl : k < ls.length := by rw [HM.out]; exact hlt
   obtain ⟨b, o, hA, hb, hc⟩ := hr (by omega)
   subst hA
   obtain ⟨A', c', hck, _⟩ := hc k hkl
   have hck := (hbw.cell (p := ⟨b, o + k, none⟩) hb).trans hck
   obtain ⟨x, hx⟩ : ∃ x, ls[k]'hkl = x := ⟨_, rfl⟩
   rw [hx] at hck
   obtain ⟨q, hq⟩ : ∃ q, x.length = q := ⟨_, rfl⟩
   rw [hq] at hck
   have hle := flat_le ls (k + 1)
   have hst := flat_step ls hkl
   rw [hst, List.length_append, HP.out, hx, hq, HL.out, HN.out] at hle
   have HP2 : Hid ((ls.take (k + 1)).flatten.length = p + q) := Lib.hid (by rw [hst, List.length_append, HP.out, hx, hq])
   have hw : IntKind.i64.wrap ((p : Int) + (q : Int)) = ((p + q : Nat) : Int) := by rw [IntKind.wrap_i64]; omega
   have hneg : ¬ (((p + q : Nat) : Int) < 0) := by omega
   have g0 : (0 : Int) ≤ (k : Int) := by omega
   have g1 : (k : Int) < (m : Int) := by omega
   clear hc hx hst
   go_wp2_with fail
   go_roundw
   case rel => exact ⟨k + 1, p + q, by omega, hle, by go_num, rfl, HP2, hbw⟩
   case measure => simp [intOf]; omega
  ·obtain rfl : k = m := by omega
   have hpn : p = n := by rw [← HP.out, List.take_of_length_le (by rw [HM.out]; exact Nat.le_refl _), HL.out, HN.out]
   subst hpn
   go_wp2_with fail
   refine (grow_any p hl _).mono ?_
   rintro e w1 ⟨B0, d0, rfl, own0, hb1⟩
   have hB1 := hbw.trans (hb1.mono hbw.size)
   have own1 := own0.mono hbw.size
   clear own0 hb1 hbw
   go_wp2_with fail
   go_loopw [6, 27] (fun v i w2 => ∃ (j q : Nat) (u : Value), j ≤ k ∧ q ≤ p ∧ i = .int .i64 j ∧ u = v ∧ Own w2 w.heap.size 5 1 u q (bs (ls.take j).flatten) ∧ Hid ((ls.take j).flatten.length = q) ∧ Below w.heap.size w w2) (fun _ i _ => k - (intOf i).toNat)
   case atStart => exact ⟨0, 0, _, Nat.zero_le _, Nat.zero_le _, rfl, rfl, own1, Lib.hid (by simp), hB1⟩
   case round =>
    obtain ⟨j, q, u, hj, hq, rfl, rfl, own2, HQ, hb2⟩ := hrel
    clear own1 hB1
    by_cases hlt2 : j < k
    ·have hkl : j < ls.length := by rw [HM.out]; exact hlt2
     obtain ⟨b, o, hA, hb, hc⟩ := (hr.below (hb2.mono (Nat.le_refl _))) (by omega)
     subst hA
     obtain ⟨A', c', hck, hrd⟩ := hc j hkl
     obtain ⟨x, hx⟩ : ∃ x, ls[j]'hkl = x := ⟨_, rfl⟩
     rw [hx] at hck hrd
     obtain ⟨t, ht⟩ : ∃ t, x.length = t := ⟨_, rfl⟩
     rw [ht] at hck
     have hle := flat_le ls (j + 1)
     have hst := flat_step ls hkl
     rw [hst, List.length_append, HQ.out, hx, ht, HL.out, HN.out] at hle
     have HQ2 : Hid ((ls.take (j + 1)).flatten.length = q + t) := Lib.hid (by rw [hst, List.length_append, HQ.out, hx, ht])
     have HS := Lib.hid (show bs (ls.take j).flatten ++ bs x = bs (ls.take (j + 1)).flatten by rw [hst, bs_append, hx])
     have g0 : (0 : Int) ≤ (j : Int) := by omega
     have g1 : (j : Int) < (k : Int) := by omega
     have hxl : (bs x).length = t * 1 := by rw [bs_length, ht]; omega
     have h63 : q + t ≤ maxLen := by simp only [maxLen]; omega
     have hlim : (q + t) * 1 ≤ 140737488355328 := by omega
     have hs2 := hb2.size
     clear hc hx hst
     go_wp2_with (at_builtin; refine list_app _ rfl (.tmp 31) (.tmp 32) 26 rfl w.heap.size 5 i0 _ 1 1 Tryd.underlying26 hi0 hz0 hz1 hz2 rfl Nat.one_pos u q _ rfl own2 A' t c' (bs x) rfl hxl hrd (bs_one _) h63 hlim hs2 ?_; intro v2 w3 own3 hg3)
     have hb3 := hb2.grown hg3 hs2 (fun g hg => (own2.lt g hg).1)
     rw [HS.out] at own3
     go_wp2_with fail
     go_roundw
     case rel => exact ⟨j + 1, q + t, _, by omega, hle, by go_num, rfl, own3, HQ2, hb3⟩
     case measure => simp [intOf]; omega
    ·obtain rfl : j = k := by omega
     have hfl : (ls.take j).flatten = L := by rw [List.take_of_length_le (by rw [HM.out]; exact Nat.le_refl _), HL.out]
     rw [hfl] at own2 HQ
     have hqp : q = p := by rw [← HQ.out, HN.out]
     subst hqp
     obtain ⟨B, d, rfl, _⟩ := own2.form
     go_wp2_with fail
     go_ret
     exact ⟨B, d, rfl, own2, hb2⟩
end Go.Proofs.YtjlhhelikiegdaaDoor
