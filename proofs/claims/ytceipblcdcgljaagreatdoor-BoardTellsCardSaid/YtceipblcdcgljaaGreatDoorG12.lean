/-
  Layer 12's mathematics: a key's event as a sequence of its own, and what such a sequence tells. Layer 8, the document's Flags. Words for what Put and Take tell, the document's and the program's. Cut out of WirF: what names no function of any dump. Cut out of WpQ: what names no function of any dump. A sequence of numbers, as a value, and the document's Put of it.
  Cut out of SqnW. Cut out of LegK: what names no function of any dump. Layer 9, the landed keys, walked: a row's entry. Layer 9, the landed keys, walked: whether a code is a text's, and Look. Layer 3, walked: the program's small functions: formOf, char, within, isNone. Layer 3, walked: the program's holds and ends. Numbers in figures, walked: the program's Text and Take. (For layers that don't load layer 1's own texts.)
  Cut out of FigT. Stage 11, the landed legacy: the map of forms, and what is found in it.
-/
import Derived.Test.YtceipblcdcgljaaGreatDoorG01
import Derived.Test.YtceipblcdcgljaaGreatDoorG02
import Derived.Test.YtceipblcdcgljaaGreatDoorG03
import Derived.Test.YtceipblcdcgljaaGreatDoorG04
import Derived.Test.YtceipblcdcgljaaGreatDoorG07
import Derived.Test.YtceipblcdcgljaaGreatDoorG08
import Derived.Test.YtceipblcdcgljaaGreatDoorG09
import Derived.Test.YtceipblcdcgljaaGreatDoorG10
import Derived.Test.YtceipblcdcgljaaGreatDoorG11
import Derived.Laws.Small
import Derived.IntWalk
import Derived.Deep.Cut
import Derived.Test.YtceipblcdcgljaaGreatDoorShelf
import Derived.Deep.QuietTactic
import Derived.BigQuiet
import Derived.Lib.AppendIntMem
namespace Go.Proofs.YtceipblcdcgljaaGreatDoor
def charK (k : Ky) : Int := if (lookE k.code).kind = 1 then shownK k else k.code
def lessK (k : Ky) : Bool := hasN k.mods 4 && if (lookE k.code).kind = 2 then k.code == 9 || k.code == 13 else hasN k.mods 1 || !(foldN (shownK k)).2
def isO (o : Int) (k : Ky) : Bool :=
 !(!mayK k || k.typ == 3 || (o != 1 && o != 2) || ((lookE k.code).kind != 1 && (lookE k.code).kind != 2) || oldN k.mods == 0 || ((lookE k.code).kind == 1 && oldN k.mods == 1) || (o == 1 && !lessK k))
def othB (p c : Int) : List UInt8 := seqB 1 126 [27, p, c]
def othL (o : Int) (k : Ky) : List UInt8 := if isO o k = true then othB (1 + oldN k.mods) (charK k) else []
theorem othL_yes {o : Int} {k : Ky} (h : isO o k = true) : othL o k = othB (1 + oldN k.mods) (charK k) := if_pos h
theorem othL_no {o : Int} {k : Ky} (h : isO o k = false) : othL o k = [] := if_neg (by rw [h]; decide)
theorem oth_may {p c : Int} (h0 : 0 ≤ p) (h1 : p ≤ 1114111) (h2 : 0 ≤ c) (h3 : c ≤ 1114111) : mayS (sqN 1 126 [27, p, c]) = 0 := may_csi (by decide) (by decide) (by simp) (by simp; omega)
theorem plain_code : ∀ k : Fin 111, (lookE (57344 + (k.1 : Int))).kind ≠ 2 := by decide +kernel
theorem plain_is {c : Int} (h : (lookE c).kind = 2) : c = 9 ∨ c = 13 ∨ c = 27 ∨ c = 127 := by
 by_cases ho : c < 57344 ∨ 57455 ≤ c
 ·rw [look_out ho] at h
  simp only at h
  unfold restN at h
  by_cases h1 : c = 9 ∨ c = 13 ∨ c = 27 ∨ c = 127
  ·exact h1
  ·rw [if_neg h1, if_neg (by omega), if_neg (by omega)] at h
   split at h <;> cases h
 ·exfalso
  obtain ⟨k, rfl⟩ : ∃ k : Fin 111, c = 57344 + k.1 := ⟨⟨(c - 57344).toNat, by omega⟩, by simp; omega⟩
  exact plain_code k h
theorem isO_parts {o : Int} {k : Ky} (h : isO o k = true) : mayK k = true ∧ k.typ ≠ 3 ∧ (o = 1 ∨ o = 2) ∧ ((lookE k.code).kind = 1 ∨ (lookE k.code).kind = 2) ∧ oldN k.mods ≠ 0 ∧ ¬ ((lookE k.code).kind = 1 ∧ oldN k.mods = 1) ∧ (o = 1 → lessK k = true) := by
 unfold isO at h
 simp only [Bool.not_eq_true', Bool.or_eq_false_iff, Bool.not_eq_false', Bool.and_eq_false_iff, bne_eq_false_iff_eq, beq_eq_false_iff_ne] at h
 obtain ⟨⟨⟨⟨⟨⟨h1, h2⟩, h3⟩, h4⟩, h5⟩, h6⟩, h7⟩ := h
 refine ⟨h1, h2, h3, h4, h5, fun hh => ?_, fun hh => ?_⟩
 ·rcases h6 with h6 | h6
  ·exact h6 hh.1
  ·exact h6 hh.2
 ·rcases h7 with h7 | h7
  ·exact absurd hh h7
  ·exact h7
theorem old_rng (n : Int) : 0 ≤ oldN n ∧ oldN n < 8 := by unfold oldN; omega
theorem char_rng {k : Ky} (hm : mayK k = true) (hk : (lookE k.code).kind = 1 ∨ (lookE k.code).kind = 2) : 0 ≤ charK k ∧ charK k ≤ 1114111 := by
 unfold charK
 by_cases h : (lookE k.code).kind = 1
 ·rw [if_pos h, shownK_eq]
  have := (isPt_iff _).1 (shown_pt h ((may_parts k).1 hm).2.1 (hasN k.mods 1))
  omega
 ·rw [if_neg h]
  have := plain_is (hk.resolve_left h)
  omega
end Go.Proofs.YtceipblcdcgljaaGreatDoor
namespace Go.Proofs.YtceipblcdcgljaaGreatDoor
open Go.RowKit
theorem maxZ (n N : Int) (h : max n 0 = N) {P : Program} : ∀ (ts : Array TypeId) (t : TypeId) (W : World), (Builtin.max_ ts t #[.int .i64 n, .int .i64 0]).run P W = .ok (.int .i64 N) W := fun ts t W => by
 rw [run_max_int2]
 congr 2
 split <;> omega
set_option maxRecDepth 100000 in
set_option maxHeartbeats 2000000 in
theorem rflags_any (n : Int) (w : World) : Calls Tryz.prog 17 #[.int .i64 n] w fun e w' => e = .returned (.int .i64 (flg n)) ∧ Below w.heap.size w w' := by
 obtain ⟨N, hN⟩ : ∃ N, max n 0 = N := ⟨_, rfl⟩
 have hmax := maxZ n N hN (P := Tryz.prog)
 obtain ⟨F, hF⟩ : ∃ F, flg n = F := ⟨_, rfl⟩
 have hm : Int.tmod N 32 = F := by
  rw [Int.tmod_eq_emod_of_nonneg (by omega), ← hF, ← hN]
  rfl
 rw [hF]
 clear hF hN
 go_enter Tryz.func17, Tryz.ntmps17
 go_wp2
 go_ret
 exact ⟨rfl, by first | exact Below.refl _ _ | exact below_drewN (Below.refl _ _) _⟩
def PutE (m : Int) (T : List UInt8) (w : World) (e : Ending) (w' : World) : Prop :=
 (∃ A c, e = .returned (.tuple #[.slice A T.length c, .int .i64 m]) ∧ T.length ≤ c ∧ Rd w' A (bs T)) ∧ Below w.heap.size w w'
def putE (s : Sq) : List UInt8 := if mayS s = 0 then putS s else []
theorem putE_0 {s : Sq} (h : mayS s = 0) : putE s = putS s := if_pos h
theorem putE_no {s : Sq} (h : mayS s ≠ 0) : putE s = [] := if_neg h
def seqC (s : Sq) (A : Option Addr) (c : Nat) : Array Value := #[.int .i64 s.kind, .int .u8 (s.priv.toNat : Int), .slice A s.params.length c, .string ⟨s.inter.toArray⟩, .int .u8 (s.final.toNat : Int), .string ⟨s.data.toArray⟩]
def zeroS : Value := .agg #[.int .i64 0, .int .u8 0, .slice none 0 0, .string ⟨#[]⟩, .int .u8 0, .string ⟨#[]⟩]
theorem rdp_drew {w : World} {A : Option Addr} {ps : List (List Int)} (h : RdP w A ps) : RdP w.drew A ps := h
def WYes (T : List UInt8) (w : World) (e : Ending) (w' : World) : Prop := (∃ A c, e = .returned (.tuple #[.slice A T.length c, .int .i64 0]) ∧ T.length ≤ c ∧ Rd w' A (bs T)) ∧ Below w.heap.size w w'
def WNo (m : Int) (w : World) (e : Ending) (w' : World) : Prop := e = .returned (.tuple #[.slice none 0 0, .int .i64 m]) ∧ Below w.heap.size w w'
theorem body_len {s : Sq} (hp : parOk s.params = true) (hi : s.inter.length ≤ 2) : (bodyL s).length ≤ 3000 := by
 obtain ⟨h1, h2⟩ := parOk_lens hp
 have h3 := parL_len s.params h2
 have h4 : (privL s.priv).length ≤ 1 := by unfold privL; split <;> simp
 unfold bodyL
 rw [List.length_append, List.length_append]
 omega
theorem may_small {s : Sq} (h : mayS s = 0) : s.priv.toNat < 128 ∧ s.final.toNat < 128 ∧ (putS s).length ≤ 20000 ∧ (s.kind = 1 ∨ s.kind = 2 ∨ s.kind = 3 ∨ s.kind = 4 ∨ s.kind = 5) := by
 obtain ⟨hdl, hv, hp, hil, hi, hd, hl, hb⟩ := ok_parts h
 have hk : s.kind = 1 ∨ s.kind = 2 ∨ s.kind = 3 ∨ s.kind = 4 ∨ s.kind = 5 := by
  unfold lastOk at hl
  split at hl
  ·omega
  ·split at hl
   ·omega
   ·simp only [Bool.and_eq_true, decide_eq_true_eq] at hl; omega
 refine ⟨?_, ?_, ?_, hk⟩
 ·simp only [privOk, Bool.or_eq_true, decide_eq_true_eq] at hv
  rcases hv with hv | hv
  ·rw [hv]; decide
  ·have := (btw_iff _ _ _).1 hv; omega
 ·unfold lastOk at hl
  split at hl
  ·have := (btw_iff _ _ _).1 hl; omega
  ·split at hl
   ·simp only [Bool.and_eq_true] at hl
    have := (btw_iff _ _ _).1 hl.1; omega
   ·simp only [Bool.and_eq_true, decide_eq_true_eq] at hl
    rw [hl.2]; decide
 ·have h3 := body_len hp hil
  unfold putS
  (repeat' split) <;> simp <;> omega
theorem sqn_v {kind f : Int} {l : List Int} {n : Nat} (hn : l.length = n) (f0 : 0 ≤ f) (f1 : f < 256) (A : Option Addr) (c : Nat) : sqV (sqN kind f l) A c = .agg #[.int .i64 kind, .int .u8 0, .slice A n c, .string ⟨#[]⟩, .int .u8 f, .string ⟨#[]⟩] := by
 have h : (sqN kind f l).params.length = n := by show (l.map fun n => [n]).length = n; rw [List.length_map]; exact hn
 unfold sqV
 rw [h]
 show Value.agg #[.int .i64 kind, .int .u8 0, .slice A n c, .string ⟨#[]⟩, .int .u8 ((byt f).toNat : Int), .string ⟨#[]⟩] = _
 rw [byt_nat f f0 f1]
def CharE (e : En) : Prop := (0 ≤ e.char ∧ e.char ≤ 255) ∧ (0 ≤ e.fin ∧ e.fin ≤ 255)
instance (e : En) : Decidable (CharE e) := by unfold CharE; infer_instance
theorem char_fin : ∀ k : Fin 111, CharE (lookE (57344 + (k.1 : Int))) := by decide +kernel
theorem char_e (c : Int) : CharE (lookE c) := by
 by_cases h : c < 57344 ∨ 57455 ≤ c
 ·rw [look_out h]
  unfold CharE
  simp
 ·obtain ⟨k, rfl⟩ : ∃ k : Fin 111, c = 57344 + k.1 := ⟨⟨(c - 57344).toNat, by omega⟩, by simp; omega⟩
  exact char_fin k
theorem shownG_len (code shift : Int) (s1 c4 : Bool) (t : List UInt8) : (shownG code shift s1 c4 t).length ≤ t.length + 4 := by
 unfold shownG
 split
 ·omega
 ·split
  ·simp
  ·have := putL_le (shownC code shift s1)
   omega
theorem tab_len : (seqB 1 90 []).length ≤ 4 := by decide +kernel
theorem plainG_len (m : Mo) (code : Int) (s1 c4 : Bool) : (plainG m code s1 c4).length ≤ 4 := by
 unfold plainG
 repeat' split
 all_goals first
  | exact tab_len
  | simp
set_option maxRecDepth 100000 in
set_option maxHeartbeats 4000000 in
theorem entry_any (F L K : Int) (s : ByteArray) (ns : List Int) (m : Nat) (hm : ns.length = m) (u : ByteArray) (B : Bool) (A : Option Addr) (cp a : Nat) (ha : a ≤ 100000) (_hF : 0 ≤ F) (_hF2 : F ≤ 60000) (_hs : s.size ≤ 100) (hm2 : m ≤ 100) (_hu : u.size ≤ 100) (w : World) (hr : Rd w A (is_ ns)) :
 Calls Tryz.prog 25 #[.agg #[.int .i64 F, .int .i64 L, .int .i64 K, .string s, .slice A m cp, .string u, .bool B], .int .i64 (F + (a : Int))] w fun e w' => e = .returned (.agg #[.int .i64 K, .int .u8 (sbK s a), .int .i64 (ns.getD a 0), .int .i64 (sbK u a), .bool B]) ∧ Below w.heap.size w w' := by
 have hB : ∀ x y z, Below w.heap.size w (((w.alloc x).alloc y).alloc z) := fun x y z => (below_two x y).alloc (by simp; omega) _
 go_enter Tryz.func25, Tryz.ntmps25
 have e0 : F + (a : Int) - F = (a : Int) := by omega
 have k0 : (0 : Int) ≤ (a : Int) := by omega
 obtain HM : Hid (ns.length = m) := Lib.hid hm
 clear hm
 by_cases h1 : a < m
 ·have q1 : (a : Int) < (m : Int) := by omega
  obtain ⟨b, o, rfl, hb, hc⟩ := hr.int_at (by rw [HM.out]; omega)
  have hx := hc a (by rw [HM.out]; exact h1)
  have N1 := Lib.hid (getD_yes (l := ns) (a := a) (by rw [HM.out]; exact h1))
  obtain ⟨x, hx2⟩ : ∃ x, ns[a]'(by rw [HM.out]; exact h1) = x := ⟨_, rfl⟩
  rw [hx2] at hx N1
  have hxW : ∀ o1 o2 o3, (((w.alloc o1).alloc o2).alloc o3).cell? ⟨b, o + a, none⟩ = some (.int .i64 x) := fun o1 o2 o3 => ((hB o1 o2 o3).cell (p := ⟨b, o + a, none⟩) hb).trans hx
  clear hc hx2
  by_cases h2 : a < s.size
  ·have q2 : (a : Int) < (s.size : Int) := by omega
   have N2 := Lib.hid (sbK_yes h2)
   by_cases h3 : a < u.size
   ·have q3 : (a : Int) < (u.size : Int) := by omega
    have N3 := Lib.hid (sbK_yes h3)
    have hd := (u[a]'h3).toNat_lt
    have wd : wrap64 ((u[a]'h3).toNat : Int) = ((u[a]'h3).toNat : Int) := by unfold wrap64; omega
    go_wp2
    refine bodyPost_ret (v := .agg #[.int .i64 K, .int .u8 (sbK s a), .int .i64 (ns.getD a 0), .int .i64 (sbK u a), .bool B]) (by rw [N2.out, N1.out, N3.out]; simp [results, Tryz.results25, go_sem]) rfl ⟨rfl, hB _ _ _⟩
   ·have q3 : (u.size : Int) ≤ (a : Int) := by omega
    have N3 := Lib.hid (sbK_no h3)
    go_wp2
    refine bodyPost_ret (v := .agg #[.int .i64 K, .int .u8 (sbK s a), .int .i64 (ns.getD a 0), .int .i64 (sbK u a), .bool B]) (by rw [N2.out, N1.out, N3.out]; simp [results, Tryz.results25, go_sem]) rfl ⟨rfl, hB _ _ _⟩
  ·have q2 : (s.size : Int) ≤ (a : Int) := by omega
   have N2 := Lib.hid (sbK_no h2)
   by_cases h3 : a < u.size
   ·have q3 : (a : Int) < (u.size : Int) := by omega
    have N3 := Lib.hid (sbK_yes h3)
    have hd := (u[a]'h3).toNat_lt
    have wd : wrap64 ((u[a]'h3).toNat : Int) = ((u[a]'h3).toNat : Int) := by unfold wrap64; omega
    go_wp2
    refine bodyPost_ret (v := .agg #[.int .i64 K, .int .u8 (sbK s a), .int .i64 (ns.getD a 0), .int .i64 (sbK u a), .bool B]) (by rw [N2.out, N1.out, N3.out]; simp [results, Tryz.results25, go_sem]) rfl ⟨rfl, hB _ _ _⟩
   ·have q3 : (u.size : Int) ≤ (a : Int) := by omega
    have N3 := Lib.hid (sbK_no h3)
    go_wp2
    refine bodyPost_ret (v := .agg #[.int .i64 K, .int .u8 (sbK s a), .int .i64 (ns.getD a 0), .int .i64 (sbK u a), .bool B]) (by rw [N2.out, N1.out, N3.out]; simp [results, Tryz.results25, go_sem]) rfl ⟨rfl, hB _ _ _⟩
 ·have q1 : (m : Int) ≤ (a : Int) := by omega
  have N1 := Lib.hid (getD_no (l := ns) (a := a) (by rw [HM.out]; exact h1))
  by_cases h2 : a < s.size
  ·have q2 : (a : Int) < (s.size : Int) := by omega
   have N2 := Lib.hid (sbK_yes h2)
   by_cases h3 : a < u.size
   ·have q3 : (a : Int) < (u.size : Int) := by omega
    have N3 := Lib.hid (sbK_yes h3)
    have hd := (u[a]'h3).toNat_lt
    have wd : wrap64 ((u[a]'h3).toNat : Int) = ((u[a]'h3).toNat : Int) := by unfold wrap64; omega
    go_wp2
    refine bodyPost_ret (v := .agg #[.int .i64 K, .int .u8 (sbK s a), .int .i64 (ns.getD a 0), .int .i64 (sbK u a), .bool B]) (by rw [N2.out, N1.out, N3.out]; simp [results, Tryz.results25, go_sem]) rfl ⟨rfl, hB _ _ _⟩
   ·have q3 : (u.size : Int) ≤ (a : Int) := by omega
    have N3 := Lib.hid (sbK_no h3)
    go_wp2
    refine bodyPost_ret (v := .agg #[.int .i64 K, .int .u8 (sbK s a), .int .i64 (ns.getD a 0), .int .i64 (sbK u a), .bool B]) (by rw [N2.out, N1.out, N3.out]; simp [results, Tryz.results25, go_sem]) rfl ⟨rfl, hB _ _ _⟩
  ·have q2 : (s.size : Int) ≤ (a : Int) := by omega
   have N2 := Lib.hid (sbK_no h2)
   by_cases h3 : a < u.size
   ·have q3 : (a : Int) < (u.size : Int) := by omega
    have N3 := Lib.hid (sbK_yes h3)
    have hd := (u[a]'h3).toNat_lt
    have wd : wrap64 ((u[a]'h3).toNat : Int) = ((u[a]'h3).toNat : Int) := by unfold wrap64; omega
    go_wp2
    refine bodyPost_ret (v := .agg #[.int .i64 K, .int .u8 (sbK s a), .int .i64 (ns.getD a 0), .int .i64 (sbK u a), .bool B]) (by rw [N2.out, N1.out, N3.out]; simp [results, Tryz.results25, go_sem]) rfl ⟨rfl, hB _ _ _⟩
   ·have q3 : (u.size : Int) ≤ (a : Int) := by omega
    have N3 := Lib.hid (sbK_no h3)
    go_wp2
    refine bodyPost_ret (v := .agg #[.int .i64 K, .int .u8 (sbK s a), .int .i64 (ns.getD a 0), .int .i64 (sbK u a), .bool B]) (by rw [N2.out, N1.out, N3.out]; simp [results, Tryz.results25, go_sem]) rfl ⟨rfl, hB _ _ _⟩
theorem isPtK_eq (c : Int) : isPtK c = isPt c := by
 cases h : isPt c with
 | true => exact decide_eq_true (by have := (isPt_iff c).1 h; omega)
 | false => exact decide_eq_false (by have := (isPt_no c).1 h; omega)
theorem put_len (c : Int) : decide (0 < ((putL c).length : Int)) = isPtK c := by
 rw [isPtK_eq]
 cases h : isPt c with
 | true =>
   have := (cnt_bd c).1
   rw [putL_length h]
   exact decide_eq_true (by omega)
 | false => rw [putL_no h]; rfl
theorem txK_no {c : Int} (h : c < 32 ∨ (127 ≤ c ∧ c ≤ 159) ∨ (57344 ≤ c ∧ c ≤ 63743)) : txK c = false := by
 unfold txK
 rcases h with h | h | h <;> simp [h]
theorem txK_is {c : Int} (h : ¬ (c < 32 ∨ (127 ≤ c ∧ c ≤ 159) ∨ (57344 ≤ c ∧ c ≤ 63743))) : txK c = isPtK c := by
 unfold txK
 rw [show decide (c < 32) = false from decide_eq_false (by omega), show (decide (127 ≤ c) && decide (c ≤ 159)) = false by simp; omega, show (decide (57344 ≤ c) && decide (c ≤ 63743)) = false by simp; omega]
 rfl
set_option maxRecDepth 100000 in
set_option maxHeartbeats 4000000 in
theorem isText_any (c : Int) (w : World) (hs : Siz w) : Calls Tryz.prog 26 #[.int .i64 c] w fun e w' => e = .returned (.bool (txK c)) ∧ Below w.heap.size w w' := by
 have HP := Lib.hid (Put_any c w hs)
 have HL := Lib.hid (put_len c)
 by_cases h1 : c < 32
 ·have E := Lib.hid (txK_no (.inl h1))
  go_enter Tryz.func26, Tryz.ntmps26
  go_wp2_with fail
  go_ret
  exact ⟨ret_b E.out.symm, Below.refl _ _⟩
 by_cases h2 : c < 127
 ·have E := Lib.hid (txK_is (c := c) (by omega))
  have j1 : 32 ≤ c := by omega
  clear h1
  go_enter Tryz.func26, Tryz.ntmps26
  go_wp2_with fail
  refine HP.out.mono ?_
  rintro e w1 ⟨A, cp, rfl, _, hb⟩
  have hl := HL.out
  go_wp2_with fail
  go_ret
  exact ⟨ret_b (by rw [E.out, ← hl]; simp [show ¬ c < 32 by omega]), hb⟩
 by_cases h3 : c ≤ 159
 ·have E := Lib.hid (txK_no (c := c) (.inr (.inl ⟨by omega, h3⟩)))
  have j1 : 32 ≤ c := by omega
  have j2 : 127 ≤ c := by omega
  clear h1 h2
  go_enter Tryz.func26, Tryz.ntmps26
  go_wp2_with fail
  go_ret
  exact ⟨ret_b E.out.symm, Below.refl _ _⟩
 by_cases h4 : c < 57344
 ·have E := Lib.hid (txK_is (c := c) (by omega))
  have j1 : 32 ≤ c := by omega
  have j2 : 127 ≤ c := by omega
  have j3 : 159 < c := by omega
  clear h1 h2 h3
  go_enter Tryz.func26, Tryz.ntmps26
  go_wp2_with fail
  refine HP.out.mono ?_
  rintro e w1 ⟨A, cp, rfl, _, hb⟩
  have hl := HL.out
  go_wp2_with fail
  go_ret
  exact ⟨ret_b (by rw [E.out, ← hl]; simp [show ¬ c < 32 by omega, show ¬ c ≤ 159 by omega]), hb⟩
 have j1 : 32 ≤ c := by omega
 have j2 : 127 ≤ c := by omega
 have j3 : 159 < c := by omega
 have j4 : 57344 ≤ c := by omega
 by_cases h5 : c ≤ 63743
 ·have E := Lib.hid (txK_no (c := c) (.inr (.inr ⟨j4, h5⟩)))
  clear h1 h2 h3 h4
  go_enter Tryz.func26, Tryz.ntmps26
  go_wp2_with fail
  go_ret
  exact ⟨ret_b E.out.symm, Below.refl _ _⟩
 ·have E := Lib.hid (txK_is (c := c) (by omega))
  have j5 : 63743 < c := by omega
  clear h1 h2 h3 h4 h5
  go_enter Tryz.func26, Tryz.ntmps26
  go_wp2_with fail
  refine HP.out.mono ?_
  rintro e w1 ⟨A, cp, rfl, _, hb⟩
  have hl := HL.out
  go_wp2_with fail
  go_ret
  exact ⟨ret_b (by rw [E.out, ← hl]; simp [show ¬ c < 32 by omega, show ¬ c ≤ 159 by omega, show ¬ c ≤ 63743 by omega]), hb⟩
theorem entry_ro (r : Ro) (hr : r ∈ roL) (a : Nat) (c : Int) (hc : c = r.first + (a : Int)) (hc2 : c ≤ r.last) (A : Option Addr) (cp : Nat) (w : World) (hR : Rd w A (is_ r.nums)) :
 Calls Tryz.prog 25 #[.agg #[.int .i64 r.first, .int .i64 r.last, .int .i64 r.kind, .string ⟨r.finals.toArray⟩, .slice A r.nums.length cp, .string ⟨r.chars.toArray⟩, .bool r.keys], .int .i64 c] w fun e w' => e = .returned (enV (entK r a)) ∧ Below w.heap.size w w' := by
 obtain ⟨⟨b1, b2, b3⟩, b4, b5, b6⟩ := ro_bd r hr
 subst hc
 refine (entry_any r.first r.last r.kind ⟨r.finals.toArray⟩ r.nums r.nums.length rfl ⟨r.chars.toArray⟩ r.keys A cp a (by omega) b1 (by omega) b4 b5 b6 w hR).mono ?_
 rintro e w' ⟨rfl, hb⟩
 refine ⟨?_, hb⟩
 rw [sbK_eq, sbK_eq]
 rfl
def fmV (f : Fm) : Value := .agg #[.string ⟨f.letter.toArray⟩, .bool f.body, .bool f.inter, .int .u8 (f.first.toNat : Int), .string ⟨f.en.toArray⟩]
def kindB (k : Int) : Bool := decide (k = 1 ∨ k = 2 ∨ k = 3 ∨ k = 4 ∨ k = 5)
theorem fm_0 {k : Int} (h1 : k ≠ 1) (h2 : k ≠ 2) (h3 : k ≠ 3) (h4 : k ≠ 4) (h5 : k ≠ 5) : formF k = ⟨[], false, false, 0, []⟩ := by
 unfold formF; rw [if_neg h1, if_neg h2, if_neg h3, if_neg h4, if_neg h5]
set_option maxRecDepth 100000 in
set_option maxHeartbeats 2000000 in
theorem formOf_any (k : Int) (w : World) :
 Calls Tryz.prog 27 #[.int .i64 k] w fun e w' => e = .returned (.tuple #[fmV (formF k), .bool (kindB k)]) ∧ Below w.heap.size w w' := by
 by_cases h1 : k = 1
 ·subst h1
  go_enter Tryz.func27, Tryz.ntmps27
  go_wp2
  exact bodyPost_ret (v := .tuple #[fmV (formF 1), .bool (kindB 1)]) (by simp [results, Tryz.results27, go_sem, fmV, formF, kindB]) rfl ⟨rfl, (Below.refl _ _).alloc (Nat.le_refl _) _⟩
 ·by_cases h2 : k = 2
  ·subst h2
   go_enter Tryz.func27, Tryz.ntmps27
   go_wp2
   exact bodyPost_ret (v := .tuple #[fmV (formF 2), .bool (kindB 2)]) (by simp [results, Tryz.results27, go_sem, fmV, formF, kindB]) rfl ⟨rfl, (Below.refl _ _).alloc (Nat.le_refl _) _⟩
  ·by_cases h3 : k = 3
   ·subst h3
    go_enter Tryz.func27, Tryz.ntmps27
    go_wp2
    exact bodyPost_ret (v := .tuple #[fmV (formF 3), .bool (kindB 3)]) (by simp [results, Tryz.results27, go_sem, fmV, formF, kindB]) rfl ⟨rfl, (Below.refl _ _).alloc (Nat.le_refl _) _⟩
   ·by_cases h4 : k = 4
    ·subst h4
     go_enter Tryz.func27, Tryz.ntmps27
     go_wp2
     exact bodyPost_ret (v := .tuple #[fmV (formF 4), .bool (kindB 4)]) (by simp [results, Tryz.results27, go_sem, fmV, formF, kindB]) rfl ⟨rfl, (Below.refl _ _).alloc (Nat.le_refl _) _⟩
    ·by_cases h5 : k = 5
     ·subst h5
      go_enter Tryz.func27, Tryz.ntmps27
      go_wp2
      exact bodyPost_ret (v := .tuple #[fmV (formF 5), .bool (kindB 5)]) (by simp [results, Tryz.results27, go_sem, fmV, formF, kindB]) rfl ⟨rfl, (Below.refl _ _).alloc (Nat.le_refl _) _⟩
     ·have E := Lib.hid (fm_0 h1 h2 h3 h4 h5)
      have EB := Lib.hid (show kindB k = false by unfold kindB; exact decide_eq_false (by omega))
      have t1 : (k == 1) = false := beq_false_of_ne h1
      have t2 : (k == 2) = false := beq_false_of_ne h2
      have t3 : (k == 3) = false := beq_false_of_ne h3
      have t4 : (k == 4) = false := beq_false_of_ne h4
      have t5 : (k == 5) = false := beq_false_of_ne h5
      clear h1 h2 h3 h4 h5
      go_enter Tryz.func27, Tryz.ntmps27
      go_wp2
      rw [E.out, EB.out]
      exact bodyPost_ret (v := .tuple #[fmV ⟨[], false, false, 0, []⟩, .bool false]) (by simp [results, Tryz.results27, go_sem, fmV]) rfl ⟨rfl, (Below.refl _ _).alloc (Nat.le_refl _) _⟩
theorem char_str (c : UInt8) (h : c.toNat < 128) : Utf8.encode (c.toNat : Int) = ⟨[c].toArray⟩ := by
 have v : Utf8.valid (c.toNat : Int) = true := by simp [Utf8.valid]; omega
 simp [Utf8.encode, v, h]
set_option maxRecDepth 100000 in
set_option maxHeartbeats 2000000 in
theorem pwithin_str (s : ByteArray) (a b : Nat) (q : Bool) (w : World) (hl : s.size ≤ 4294967296) (hq : s.data.toList.all (btw a b) = q) :
 Calls Tryz.prog 65 #[.string s, .int .u8 a, .int .u8 b] w fun e w' => e = .returned (.bool q) ∧ w = w' := by
 have HQ := Lib.hid hq
 clear hq
 go_enter Tryz.func65, Tryz.ntmps65
 go_wp2
 go_loop [10] (fun i => ∃ k : Nat, k ≤ s.size ∧ i = .int .i64 k ∧ (s.data.toList.take k).all (btw a b) = true) (fun i => s.size - (intOf i).toNat)
 case atStart => exact ⟨0, Nat.zero_le _, rfl, rfl⟩
 case round =>
  obtain ⟨k, hk, rfl, hall⟩ := hrel
  have HA := Lib.hid hall
  clear hall
  by_cases hlt : k < s.size
  ·have hlt2 : k < s.data.toList.length := by simpa using hlt
   have hby := byte_at s k hlt
   have HB := Lib.hid hby
   have hd := (s[k]'hlt).toNat_lt
   have k0 : (0 : Int) ≤ (k : Int) := by omega
   have k1 : (k : Int) < (s.size : Int) := by omega
   clear hby
   by_cases h1 : (s[k]'hlt).toNat < a
   ·have E := Lib.hid (HQ.out.symm.trans (all_no (p := btw a b) hlt2 ((btw_no a b _).2 (by rw [← HB.out]; omega))))
    go_wp2
    go_ret
    exact ⟨ret_b E.out.symm, rfl⟩
   ·by_cases h2 : b < (s[k]'hlt).toNat
    ·have E := Lib.hid (HQ.out.symm.trans (all_no (p := btw a b) hlt2 ((btw_no a b _).2 (by rw [← HB.out]; omega))))
     go_wp2
     go_ret
     exact ⟨ret_b E.out.symm, rfl⟩
    ·have E := Lib.hid (show (s.data.toList.take (k + 1)).all (btw a b) = true by rw [List.take_succ_eq_append_getElem hlt2, List.all_append, HA.out, ← HB.out]; simp [(btw_iff a b _).2 ⟨Nat.le_of_not_lt h1, Nat.le_of_not_lt h2⟩])
     go_wp2
     go_round
     case rel => exact ⟨k + 1, by omega, by go_num, E.out⟩
     case measure => simp [intOf]; omega
  ·have E := Lib.hid (show q = true by have := HA.out; rw [List.take_of_length_le (by simp; omega)] at this; exact HQ.out.symm.trans this)
   go_wp2
   go_ret
   exact ⟨ret_b E.out.symm, rfl⟩
theorem pwithin_any (l : List UInt8) (a b : Nat) (q : Bool) (w : World) (hl : l.length ≤ 4294967296) (hq : l.all (btw a b) = q) :
 Calls Tryz.prog 65 #[.string ⟨l.toArray⟩, .int .u8 a, .int .u8 b] w fun e w' => e = .returned (.bool q) ∧ w = w' := by
 exact pwithin_str ⟨l.toArray⟩ a b q w hl hq
theorem fm1 : fmV (formF 1) = .agg #[.string ⟨#[91]⟩, .bool true, .bool true, .int .u8 64, .string ⟨#[]⟩] := rfl
theorem fm2 : fmV (formF 2) = .agg #[.string ⟨#[79]⟩, .bool false, .bool false, .int .u8 64, .string ⟨#[]⟩] := rfl
theorem fm3 : fmV (formF 3) = .agg #[.string ⟨#[80]⟩, .bool true, .bool true, .int .u8 64, .string ⟨#[27, 92]⟩] := rfl
theorem fm4 : fmV (formF 4) = .agg #[.string ⟨#[93]⟩, .bool false, .bool false, .int .u8 0, .string ⟨#[27, 92]⟩] := rfl
theorem fm5 : fmV (formF 5) = .agg #[.string ⟨#[]⟩, .bool false, .bool true, .int .u8 48, .string ⟨#[]⟩] := rfl
theorem priv_ne {c : UInt8} (h : c ≠ 0) : ((c.toNat : Int) == 0) = false := beq_false_of_ne (fun e => h (UInt8.toNat_inj.1 (by show c.toNat = 0; omega)))
set_option maxRecDepth 100000 in
set_option maxHeartbeats 4000000 in
theorem holds_any (s : Sq) (A : Option Addr) (c : Nat) (q : Bool) (w : World) (hk : s.kind = 1 ∨ s.kind = 2 ∨ s.kind = 3 ∨ s.kind = 4 ∨ s.kind = 5) (hq : bareOk s = q) :
 Calls Tryz.prog 62 #[fmV (formF s.kind), sqV s A c] w fun e w' => e = .returned (.bool q) ∧ Below w.heap.size w w' := by
 obtain ⟨k, pv, ps, it, f, d⟩ := s
 have hB : ∀ (x y : Obj), Below w.heap.size w ((w.alloc x).alloc y) := fun x y => ((Below.refl _ w).alloc (Nat.le_refl _) _).alloc (by simp) _
 dsimp only at hk ⊢
 unfold sqV
 dsimp only
 rcases hk with rfl | rfl | rfl | rfl | rfl
 ·rw [fm1]
  cases d with
  | nil =>
    obtain rfl : true = q := by rw [← hq]; simp [bareOk]
    clear hq
    go_enter Tryz.func62, Tryz.ntmps62
    go_wp2
    go_ret
    exact ⟨rfl, hB _ _⟩
  | cons x d =>
    obtain rfl : false = q := by rw [← hq]; simp [bareOk]
    clear hq
    go_enter Tryz.func62, Tryz.ntmps62
    go_wp2
    go_ret
    exact ⟨rfl, hB _ _⟩
 ·rw [fm2]
  by_cases h1 : pv = 0
  ·subst h1
   cases ps with
   | nil =>
     cases it with
     | nil =>
       cases d with
       | nil =>
         obtain rfl : true = q := by rw [← hq]; simp [bareOk]
         clear hq
         go_enter Tryz.func62, Tryz.ntmps62
         go_wp2
         go_ret
         exact ⟨rfl, hB _ _⟩
       | cons x d =>
         obtain rfl : false = q := by rw [← hq]; simp [bareOk]
         clear hq
         go_enter Tryz.func62, Tryz.ntmps62
         go_wp2
         go_ret
         exact ⟨rfl, hB _ _⟩
     | cons x it =>
       obtain rfl : false = q := by rw [← hq]; simp [bareOk]
       clear hq
       go_enter Tryz.func62, Tryz.ntmps62
       go_wp2
       go_ret
       exact ⟨rfl, hB _ _⟩
   | cons x ps =>
     obtain rfl : false = q := by rw [← hq]; simp [bareOk]
     clear hq
     obtain ⟨n, hn⟩ : ∃ n, (x :: ps).length = n := ⟨_, rfl⟩
     have hn2 : 0 < n := by rw [← hn]; simp
     have t1 : ((n : Int) == 0) = false := beq_false_of_ne (by omega)
     rw [hn]
     clear hn
     go_enter Tryz.func62, Tryz.ntmps62
     go_wp2
     go_ret
     exact ⟨rfl, hB _ _⟩
  ·obtain rfl : false = q := by rw [← hq]; simp [bareOk, h1]
   have t1 := priv_ne h1
   clear hq h1
   go_enter Tryz.func62, Tryz.ntmps62
   go_wp2
   go_ret
   exact ⟨rfl, hB _ _⟩
 ·rw [fm3]
  obtain rfl : true = q := by rw [← hq]; simp [bareOk]
  clear hq
  go_enter Tryz.func62, Tryz.ntmps62
  go_wp2
  go_ret
  exact ⟨rfl, hB _ _⟩
 ·rw [fm4]
  by_cases h1 : pv = 0
  ·subst h1
   cases ps with
   | nil =>
     cases it with
     | nil =>
       obtain rfl : true = q := by rw [← hq]; simp [bareOk]
       clear hq
       go_enter Tryz.func62, Tryz.ntmps62
       go_wp2
       go_ret
       exact ⟨rfl, hB _ _⟩
     | cons x it =>
       obtain rfl : false = q := by rw [← hq]; simp [bareOk]
       clear hq
       go_enter Tryz.func62, Tryz.ntmps62
       go_wp2
       go_ret
       exact ⟨rfl, hB _ _⟩
   | cons x ps =>
     obtain rfl : false = q := by rw [← hq]; simp [bareOk]
     clear hq
     obtain ⟨n, hn⟩ : ∃ n, (x :: ps).length = n := ⟨_, rfl⟩
     have hn2 : 0 < n := by rw [← hn]; simp
     have t1 : ((n : Int) == 0) = false := beq_false_of_ne (by omega)
     rw [hn]
     clear hn
     go_enter Tryz.func62, Tryz.ntmps62
     go_wp2
     go_ret
     exact ⟨rfl, hB _ _⟩
  ·obtain rfl : false = q := by rw [← hq]; simp [bareOk, h1]
   have t1 := priv_ne h1
   clear hq h1
   go_enter Tryz.func62, Tryz.ntmps62
   go_wp2
   go_ret
   exact ⟨rfl, hB _ _⟩
 ·rw [fm5]
  by_cases h1 : pv = 0
  ·subst h1
   cases ps with
   | nil =>
     cases d with
     | nil =>
       obtain rfl : true = q := by rw [← hq]; simp [bareOk]
       clear hq
       go_enter Tryz.func62, Tryz.ntmps62
       go_wp2
       go_ret
       exact ⟨rfl, hB _ _⟩
     | cons x d =>
       obtain rfl : false = q := by rw [← hq]; simp [bareOk]
       clear hq
       go_enter Tryz.func62, Tryz.ntmps62
       go_wp2
       go_ret
       exact ⟨rfl, hB _ _⟩
   | cons x ps =>
     obtain rfl : false = q := by rw [← hq]; simp [bareOk]
     clear hq
     obtain ⟨n, hn⟩ : ∃ n, (x :: ps).length = n := ⟨_, rfl⟩
     have hn2 : 0 < n := by rw [← hn]; simp
     have t1 : ((n : Int) == 0) = false := beq_false_of_ne (by omega)
     rw [hn]
     clear hn
     go_enter Tryz.func62, Tryz.ntmps62
     go_wp2
     go_ret
     exact ⟨rfl, hB _ _⟩
  ·obtain rfl : false = q := by rw [← hq]; simp [bareOk, h1]
   have t1 := priv_ne h1
   clear hq h1
   go_enter Tryz.func62, Tryz.ntmps62
   go_wp2
   go_ret
   exact ⟨rfl, hB _ _⟩
theorem idx_mem (l : List UInt8) (c : UInt8) : (0 ≤ Lib.indexByte l c) ↔ c ∈ l := by
 induction l with
 | nil => simp [Lib.indexByte]
 | cons b l ih =>
   have := Lib.indexByte_ge l c
   unfold Lib.indexByte
   by_cases h : b = c
   ·subst h; simp
   ·have h2 : ¬ c = b := fun e => h e.symm
    rw [if_neg (by simpa using h)]
    simp only [List.mem_cons, h2, false_or, ← ih]
    by_cases h3 : Lib.indexByte l c = -1
    ·rw [if_pos (by simpa using h3)]; omega
    ·rw [if_neg (by simpa using h3)]; omega
theorem idx_in (c : UInt8) : (0 ≤ Lib.indexByte [79, 80, 88, 91, 93, 92, 94, 95] c) ↔ ([79, 80, 88, 91, 93, 92, 94, 95] : List UInt8).contains c = true := by
 rw [idx_mem, List.contains_iff_mem]
set_option maxRecDepth 100000 in
set_option maxHeartbeats 4000000 in
theorem ends_any (s : Sq) (A : Option Addr) (c : Nat) (q : Bool) (w : World) (hk : s.kind = 1 ∨ s.kind = 2 ∨ s.kind = 3 ∨ s.kind = 4 ∨ s.kind = 5) (hq : lastOk s = q) :
 Calls Tryz.prog 63 #[fmV (formF s.kind), sqV s A c] w fun e w' => e = .returned (.bool q) ∧ Below w.heap.size w w' := by
 have hB : ∀ (x y : Obj), Below w.heap.size w ((w.alloc x).alloc y) := fun x y => ((Below.refl _ w).alloc (Nat.le_refl _) _).alloc (by simp) _
 obtain ⟨q1, q5, q4, q0⟩ := last_q hq
 obtain ⟨k, pv, ps, it, f, d⟩ := s
 dsimp only at hk q1 q5 q4 ⊢
 have hf := f.toNat_lt
 unfold sqV
 dsimp only
 have key : (k = 1 ∨ k = 2 ∨ k = 3) ∨ k = 4 ∨ k = 5 := by omega
 clear hk q0
 rcases key with h | rfl | rfl
 ·have E := Lib.hid (q1 h)
  clear q1 q5 q4 hq
  obtain ⟨n, hn⟩ : ∃ n, f.toNat = n := ⟨_, rfl⟩
  rw [hn] at E hf ⊢
  clear hn
  rcases h with rfl | rfl | rfl
  ·rw [fm1]
   go_enter Tryz.func63, Tryz.ntmps63
   go_wp2
   all_goals
    go_ret
    refine ⟨ret_b ?_, hB _ _⟩
    rw [E.out, Bool.eq_iff_iff]
    simp
    omega
  ·rw [fm2]
   go_enter Tryz.func63, Tryz.ntmps63
   go_wp2
   all_goals
    go_ret
    refine ⟨ret_b ?_, hB _ _⟩
    rw [E.out, Bool.eq_iff_iff]
    simp
    omega
  ·rw [fm3]
   go_enter Tryz.func63, Tryz.ntmps63
   go_wp2
   all_goals
    go_ret
    refine ⟨ret_b ?_, hB _ _⟩
    rw [E.out, Bool.eq_iff_iff]
    simp
    omega
 ·have E := Lib.hid (q4 rfl)
  clear q1 q5 q4 hq
  obtain ⟨n, hn⟩ : ∃ n, f.toNat = n := ⟨_, rfl⟩
  rw [hn] at E hf ⊢
  clear hn
  rw [fm4]
  go_enter Tryz.func63, Tryz.ntmps63
  go_wp2
  all_goals
   go_ret
   refine ⟨ret_b ?_, hB _ _⟩
   rw [E.out, Bool.eq_iff_iff]
   simp
 ·obtain ⟨e1, e2⟩ := q5 rfl
  clear q1 q5 q4
  rw [fm5]
  cases it with
  | cons x it =>
    have E := Lib.hid (show q = (decide (48 ≤ f.toNat) && decide (f.toNat ≤ 126)) by
     by_cases h1 : 48 ≤ f.toNat
     ·by_cases h2 : f.toNat ≤ 126
      ·rw [(e2 h1 h2).1 (by simp)]; simp [h1, h2]
      ·rw [e1 (by omega)]; simp [h2]
     ·rw [e1 (by omega)]; simp [h1])
    clear e1 e2 hq
    obtain ⟨n, hn⟩ : ∃ n, f.toNat = n := ⟨_, rfl⟩
    rw [hn] at E hf ⊢
    clear hn
    go_enter Tryz.func63, Tryz.ntmps63
    go_wp2
    all_goals
     go_ret
     refine ⟨ret_b ?_, hB _ _⟩
     rw [E.out, Bool.eq_iff_iff]
     simp
     omega
  | nil =>
    clear e1 e2
    obtain ⟨x, hx⟩ : ∃ x, Lib.indexByte [79, 80, 88, 91, 93, 92, 94, 95] f = x := ⟨_, rfl⟩
    have hi := idx_in f
    rw [hx] at hi
    have HX := Lib.hid (show Lib.indexByte (⟨#[79, 80, 88, 91, 93, 92, 94, 95]⟩ : ByteArray).data.toList ((f.toNat : Int)).toNat.toUInt8 = x by rw [← hx]; congr 1; rw [Int.toNat_natCast]; simp)
    clear hx
    have HF := Lib.hid (show lastOk ⟨5, pv, ps, [], f, d⟩ = (btw 48 126 f && !([79, 80, 88, 91, 93, 92, 94, 95] : List UInt8).contains f) by simp [lastOk])
    by_cases h0 : 0 ≤ x
    ·have E := Lib.hid (show q = false by rw [← hq, HF.out, hi.1 h0]; simp)
     clear hq hi HF
     go_enter Tryz.func63, Tryz.ntmps63
     go_wp2_with fail
     refine (Tryz.strings_IndexByte _ _ _).mono ?_
     rw [HX.out]
     rintro e w1 ⟨rfl, rfl⟩
     go_wp2_with fail
     go_ret
     exact ⟨ret_b E.out.symm, hB _ _⟩
    ·have hc : ([79, 80, 88, 91, 93, 92, 94, 95] : List UInt8).contains f = false := by
      cases hh : ([79, 80, 88, 91, 93, 92, 94, 95] : List UInt8).contains f with
      | false => rfl
      | true => exact absurd (hi.2 hh) h0
     have E := Lib.hid (show q = (decide (48 ≤ f.toNat) && decide (f.toNat ≤ 126)) by rw [← hq, HF.out, hc]; simp [btw])
     clear hq hi HF hc
     obtain ⟨n, hn⟩ : ∃ n, f.toNat = n := ⟨_, rfl⟩
     rw [hn] at E hf HX ⊢
     clear hn
     go_enter Tryz.func63, Tryz.ntmps63
     go_wp2_with fail
     refine (Tryz.strings_IndexByte _ _ _).mono ?_
     rw [HX.out]
     rintro e w1 ⟨rfl, rfl⟩
     go_wp2_with fail
     all_goals
      go_ret
      refine ⟨ret_b ?_, hB _ _⟩
      rw [E.out, Bool.eq_iff_iff]
      simp
      omega
set_option maxHeartbeats 400000 in
theorem text_any (n : Int) (w : World) (h0 : -9223372036854775808 ≤ n) (h1 : n ≤ 9223372036854775807) (htab : Lib.TabIs Tryz.prog w "internal/strconv.uint64pow10" .u64 Lib.pow10Tab) :
 Calls Tryz.prog 137 #[.int .i64 n] w fun e w' => e = .returned (.string ⟨(textL n).toArray⟩) ∧ Below w.heap.size w w' := by
 by_cases hn : n < 0
 ·have HE := Lib.hid (show textL n = [] from if_pos hn)
  go_enter Tryz.func137, Tryz.ntmps137
  go_wp2
  go_ret
  exact ⟨ret_s HE.out.symm, Below.refl _ _⟩
 ·have HE := Lib.hid (show textL n = Lib.itoa n by unfold textL Lib.itoa; rw [if_neg hn, if_neg hn])
  go_enter Tryz.func137, Tryz.ntmps137
  go_wp2_with (go_at_call 148; refine (Tryz.strconv_Itoa n h0 h1 w htab).mono ?_; rintro e w' ⟨rfl, k, os, rfl⟩)
  go_ret
  exact ⟨ret_s HE.out.symm, below_grow (below_drewN (Below.refl _ _) k) (by simp) os⟩
def Tab (w : World) : Prop := Lib.TabIs Tryz.prog w "internal/strconv.uint64pow10" .u64 Lib.pow10Tab
theorem Tab.below {w w' : World} (h : Tab w) (hb : Below w.heap.size w w') : Tab w' := Lib.tabBelow_of_tabIs h w' hb
end Go.Proofs.YtceipblcdcgljaaGreatDoor
namespace Go.Proofs.YtceipblcdcgljaaGreatDoor
open Go.RowKit Go.Maps
theorem wpList_ins1 {P : Program} {ops : Array Oper} {Q : Exit → Act → World → Prop} {T K E : TypeId} (KK : Keyed P K) (hT : P.underlying T = some (.map K E)) {a : Act} {b : Nat} {o : Oper} {rest : List Oper} {k : Lit} {v key : Value} {m x y : Operand} (hop : o.op = .insert T m x y) (hg : o.guard = none) (hd : o.dst = none) (hm : a.eval m = .map (some b)) (hx : a.eval x = key) (hkey : keyOf P K key = some k) (hv : a.eval y = v) {n : Nat} {D : DataW Value} {w : World} (hown : w.ownsMap P K hel b n D) (hn : n < maxLen)
 (hK : ∀ w', w'.ownsMap P K hel b (n + 1) (D.put k (.held v)) → w.grownBy w' (some b) → wpList P ops Q rest a w') : wpList P ops Q (o :: rest) a w := by
 obtain ⟨w', hrun, h1, h2⟩ := hown.store KK hT hn hkey (show hel v = some (.held v, []) from rfl)
 refine wpList_plain hg fun K hKK => ?_
 unfold Oper.wp
 have e : (execOp a.eval o).run P w = .ok .skip w' := by
  unfold execOp
  rw [hop]
  simp [hm, hx, hv, hrun, Result.andThen]
 rw [e, Oper.upon_skip, hd]
 exact hKK _ _ (hK _ h1 h2.grown)
def lfmV (f : FuncId) (b : Bool) : Value := .agg #[.func (.func f) #[] #[], .bool b]
def lformsL : List (Lit × DataW Value) := [(.int .i64 1, .held (lfmV 115 true)), (.int .i64 2, .held (lfmV 116 true)), (.int .i64 3, .held (lfmV 117 false)), (.int .i64 4, .held (lfmV 118 false)), (.int .i64 5, .held (lfmV 119 false))]
def LFormsE (w : World) (v : Value) (w' : World) : Prop := ∃ b n, v = .map (some b) ∧ w'.ownsMap Tryz.prog 3 hel b n (.map lformsL) ∧ w.heap.size ≤ b
theorem lforms_puts : ((((((.map [] : DataW Value).put (.int .i64 1) (.held (lfmV 115 true))).put (.int .i64 2) (.held (lfmV 116 true))).put (.int .i64 3) (.held (lfmV 117 false))).put (.int .i64 4) (.held (lfmV 118 false))).put (.int .i64 5) (.held (lfmV 119 false))) = .map lformsL := by kernel_rfl
set_option maxRecDepth 100000 in
set_option maxHeartbeats 8000000 in
theorem lforms_any (w : World) : Calls Tryz.prog 78 #[] w fun e w' => ∃ v, e = .returned v ∧ LFormsE w v w' ∧ Below w.heap.size w w' := by
 have hmf : ∀ (fn : Fn) (first cap : Array Value) (w : World), (Instr.makeFunc fn first cap).run Tryz.prog w = .ok (.func fn first cap) w := fun _ _ _ _ => rfl
 go_enter Tryz.func78, Tryz.ntmps78
 go_wp2_with fail
 rename_i K hK
 rw [run_makeMap, Result.andThen_ok, Oper.upon_value]
 refine hK _ _ ?_
 have hown0 := World.ownsMap_made w Tryz.prog 3 hel
 have hb0 : Below w.heap.size w (w.alloc (.map #[] 0)) := (Below.refl _ w).alloc (Nat.le_refl _) _
 obtain ⟨b, hb⟩ : ∃ b, w.heap.size = b := ⟨_, rfl⟩
 have hsz : b ≤ (w.alloc (.map #[] 0)).heap.size := by simp; omega
 rw [hb] at hown0 hb0 ⊢
 obtain ⟨w0, hw0⟩ : ∃ w0, w.alloc (.map #[] 0) = w0 := ⟨_, rfl⟩
 rw [hw0] at hown0 hb0 hsz ⊢
 clear hw0 hK
 go_wp2_with (first
  | (refine wpList_ins1 (T := 111) (K := 3) (E := 109) (b := b) (k := .int .i64 1) (v := lfmV 115 true) (int_keyed Tryz.underlying3) Tryz.underlying111 rfl rfl rfl (by kernel_rfl) rfl (by kernel_rfl) (by kernel_rfl) hown0 (by decide) ?_; intro w1 hown1 hg1)
  | (refine wpList_ins1 (T := 111) (K := 3) (E := 109) (b := b) (k := .int .i64 2) (v := lfmV 116 true) (int_keyed Tryz.underlying3) Tryz.underlying111 rfl rfl rfl (by kernel_rfl) rfl (by kernel_rfl) (by kernel_rfl) hown1 (by decide) ?_; intro w2 hown2 hg2)
  | (refine wpList_ins1 (T := 111) (K := 3) (E := 109) (b := b) (k := .int .i64 3) (v := lfmV 117 false) (int_keyed Tryz.underlying3) Tryz.underlying111 rfl rfl rfl (by kernel_rfl) rfl (by kernel_rfl) (by kernel_rfl) hown2 (by decide) ?_; intro w3 hown3 hg3)
  | (refine wpList_ins1 (T := 111) (K := 3) (E := 109) (b := b) (k := .int .i64 4) (v := lfmV 118 false) (int_keyed Tryz.underlying3) Tryz.underlying111 rfl rfl rfl (by kernel_rfl) rfl (by kernel_rfl) (by kernel_rfl) hown3 (by decide) ?_; intro w4 hown4 hg4)
  | (refine wpList_ins1 (T := 111) (K := 3) (E := 109) (b := b) (k := .int .i64 5) (v := lfmV 119 false) (int_keyed Tryz.underlying3) Tryz.underlying111 rfl rfl rfl (by kernel_rfl) rfl (by kernel_rfl) (by kernel_rfl) hown4 (by decide) ?_; intro w5 hown5 hg5))
 have hB := below_but10 hb0 (((((hg1.trans hg2).trans hg3).trans hg4).trans hg5)) hsz (Nat.le_refl _)
 go_ret
 rw [lforms_puts] at hown5
 exact ⟨_, rfl, ⟨b, _, rfl, hown5, by omega⟩, hb ▸ hB⟩
theorem lforms_in {w3 W : World} (h : w3.heap.size ≤ W.heap.size) : Calls Tryz.prog 78 #[] W fun e w' => ∃ v, e = .returned v ∧ LFormsE w3 v w' ∧ Below W.heap.size W w' :=
 (lforms_any W).mono fun _ _ ⟨v, hx, ⟨bm, nm, h1, h2, h3⟩, hb⟩ => ⟨v, hx, ⟨bm, nm, h1, h2, Nat.le_trans h h3⟩, hb⟩
theorem lforms_zero (w : World) : (zeroValue 109).run Tryz.prog w = .ok (.agg #[.nilFunc, .bool false]) w := by kernel_rfl
def lformAt (k : Int) : Value × Bool := if k = 1 then (lfmV 115 true, true) else if k = 2 then (lfmV 116 true, true) else if k = 3 then (lfmV 117 false, true) else if k = 4 then (lfmV 118 false, true) else if k = 5 then (lfmV 119 false, true) else (.agg #[.nilFunc, .bool false], false)
theorem lforms_at {k : Int} (h0 : 0 ≤ k) (h1 : k < 8) : (DataW.map lformsL : DataW Value).atKey (.int .i64 k) (.held (.agg #[.nilFunc, .bool false])) = .held (lformAt k).1 ∧ Maps.has (DataW.map lformsL : DataW Value) (.int .i64 k) = (lformAt k).2 := by
 obtain ⟨n, rfl⟩ := Int.eq_ofNat_of_zero_le h0
 have h : ∀ q : Fin 8, (DataW.map lformsL : DataW Value).atKey (.int .i64 ((q.1 : Nat) : Int)) (.held (.agg #[.nilFunc, .bool false])) = .held (lformAt ((q.1 : Nat) : Int)).1 ∧ Maps.has (DataW.map lformsL : DataW Value) (.int .i64 ((q.1 : Nat) : Int)) = (lformAt ((q.1 : Nat) : Int)).2 := by
  intro q
  match q with
  | ⟨0, _⟩ | ⟨1, _⟩ | ⟨2, _⟩ | ⟨3, _⟩ | ⟨4, _⟩ | ⟨5, _⟩ | ⟨6, _⟩ | ⟨7, _⟩ => exact ⟨by kernel_rfl, by kernel_rfl⟩
 exact h ⟨n, by omega⟩
theorem lforms_look {w : World} {b n : Nat} {k : Int} {v : Value} {q : Bool} (h : w.ownsMap Tryz.prog 3 hel b n (.map lformsL)) (h0 : 0 ≤ k) (h1 : k < 8) (hv : lformAt k = (v, q)) :
 (Instr.lookup 111 (.map (some b)) (.int .i64 k) true).run Tryz.prog w = .ok (.tuple #[v, .bool q]) w := by
 obtain ⟨ha, hq⟩ := lforms_at h0 h1
 have hwf : (Lit.int .i64 k).wf = true := WalkArith.wf_i64 ⟨by omega, by omega⟩
 rw [hv] at ha hq
 obtain ⟨v1, p1, r1, e1⟩ := h.look_ok (int_keyed Tryz.underlying3) Tryz.underlying111 (lforms_zero w) (show hel (.agg #[.nilFunc, .bool false]) = some (.held (.agg #[.nilFunc, .bool false]), []) from rfl) (keyOf_int_mk Tryz.underlying3 hwf)
 rw [ha] at e1
 have e1' : v1 = v := by simpa [hel] using congrArg (Option.map Prod.fst) e1
 rw [e1', hq] at r1
 exact r1
end Go.Proofs.YtceipblcdcgljaaGreatDoor
