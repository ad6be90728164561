/-
  Layer 11's mathematics: old forms: what a functional key's, a text's, and a plain key's are. Layer 16's mathematics: what a mouse's event sends, and back. Regions that draw their order (RegK's state), whose operations make what the run alone tells out of what it told ahead: an append onto a slice without room, a struct built, a name given. Cut out of WpQ: what names no function of any dump. Layer 15, walked: the document's button, May, wanted and Tell.
-/
import Derived.Test.YtjlhhelikiegdaaGreatDoorG06
import Derived.Test.YtjlhhelikiegdaaGreatDoorG19
import Derived.Test.YtjlhhelikiegdaaGreatDoorG24
import Derived.Laws.Slices
namespace Go.Proofs.YtjlhhelikiegdaaGreatDoor
theorem byt_btw {f : Int} {a b : Nat} (h0 : (a : Int) ≤ f) (h1 : f ≤ (b : Int)) (hb : b < 256) : btw a b (byt f) = true := by
 have h := byt_nat f (by omega) (by omega)
 rw [btw_iff]
 omega
theorem par_nums {l : List Int} (hl : l.length ≤ 16) (hn : ∀ n ∈ l, 0 ≤ n ∧ n ≤ 1114111) : parOk (l.map fun n => [n]) = true := by
 unfold parOk
 simp only [Bool.and_eq_true, decide_eq_true_eq, List.all_eq_true]
 refine ⟨⟨by rw [List.length_map]; exact hl, fun h => ?_⟩, fun p hp => ?_⟩
 ·have : (-1 : Int) ∈ l := by
   match l, h with
   | [x], h =>
     simp at h
     simp [h]
  have := (hn _ this).1
  omega
 ·obtain ⟨n, hn', rfl⟩ := List.mem_map.1 hp
  have := hn n hn'
  exact ⟨⟨by simp, by simp⟩, fun m hm => by rw [List.mem_singleton.1 hm]; exact ⟨by omega, by omega⟩⟩
def FormE (e : En) : Prop := (e.kind = 4 → 1 ≤ e.num ∧ e.num ≤ 100) ∧ (e.kind = 3 → 65 ≤ e.fin ∧ e.fin ≤ 90) ∧ (e.kind = 5 → 65 ≤ e.fin ∧ e.fin ≤ 122)
instance (e : En) : Decidable (FormE e) := by unfold FormE; infer_instance
def numbM (b : Int) : Int := if b = 0 then 3 else if b ≤ 3 then b - 1 else if b ≤ 7 then 60 + b else 120 + b
def marksM (mode : Int) (e : Ms) : Int := (if e.typ = 4 then 32 else 0) + (if mode ≠ 9 then 4 * (e.mods % 8) else 0)
def codeM (mode : Int) (e : Ms) : Int := if mayT e = true then numbM e.btn + marksM mode e else 0
def lostM (mode : Int) (e : Ms) : Int := if e.typ = 3 then 3 + marksM mode e else codeM mode e
def sqP (priv : UInt8) (f : Int) (l : List Int) : Sq := ⟨1, priv, l.map fun n => [n], [], byt f, []⟩
def seqP (priv : UInt8) (f : Int) (l : List Int) : List UInt8 := if mayS (sqP priv f l) = 0 then putS (sqP priv f l) else []
def encM (mode coding : Int) (e : Ms) : List UInt8 :=
 if mayT e = false then []
 else if coding = 1006 then seqP 60 (if e.typ = 3 then 109 else 77) [codeM mode e, e.x, e.y]
 else if coding = 1015 then seqP 0 77 [32 + lostM mode e, e.x, e.y]
 else if coding = 1005 then (if 2015 < e.x ∨ 2015 < e.y then [] else [27, 91, 77] ++ putL (32 + lostM mode e) ++ putL (32 + e.x) ++ putL (32 + e.y))
 else if 223 < e.x ∨ 223 < e.y then [] else [27, 91, 77, byt (32 + lostM mode e), byt (32 + e.x), byt (32 + e.y)]
def guessM (n x y : Int) (rel : Bool) : Ms :=
 ⟨(if 128 ≤ n - n / 4 % 16 * 4 then n - n / 4 % 16 * 4 - 120 else if 64 ≤ n - n / 4 % 16 * 4 then n - n / 4 % 16 * 4 - 60 else if n - n / 4 % 16 * 4 < 3 then n - n / 4 % 16 * 4 + 1 else 0), (if rel = true then 3 else if n / 32 % 2 = 1 then 4 else 1), x, y, n / 4 % 8⟩
def decS (s : Sq) (l : List UInt8) : Ms × Bool :=
 if s.params.length ≠ 3 then (⟨0, 0, 0, 0, 0⟩, false)
 else if 255 < argL s.params 0 0 ∨ mayT (guessM (argL s.params 0 0) (argL s.params 1 0) (argL s.params 2 0) (s.final == 109)) = false ∨ encM 1003 1006 (guessM (argL s.params 0 0) (argL s.params 1 0) (argL s.params 2 0) (s.final == 109)) ≠ l then (⟨0, 0, 0, 0, 0⟩, false)
 else (guessM (argL s.params 0 0) (argL s.params 1 0) (argL s.params 2 0) (s.final == 109), true)
def decM (l : List UInt8) : Ms × Bool :=
 match takeS l with
 | some (s, _) => decS s l
 | none => (⟨0, 0, 0, 0, 0⟩, false)
theorem may_rng {e : Ms} (h : mayT e = true) : (0 ≤ e.btn ∧ e.btn ≤ 11) ∧ (0 ≤ e.mods ∧ e.mods ≤ 255) ∧ (e.typ = 1 → 1 ≤ e.btn) ∧ (e.typ = 3 → 1 ≤ e.btn ∧ (e.btn ≤ 3 ∨ 8 ≤ e.btn)) ∧ (e.typ = 4 → e.btn ≤ 3 ∨ 8 ≤ e.btn) := by
 have ht := may_typ15 h
 unfold mayT heldT at h
 split at h
 ·cases h
 ·rename_i hr
  rcases ht with ht | ht | ht <;> simp [ht] at h <;> refine ⟨?_, ?_, ?_, ?_, ?_⟩ <;> omega
theorem numb_rng {b : Int} (h0 : 0 ≤ b) (h1 : b ≤ 11) : (0 ≤ numbM b ∧ numbM b ≤ 131) ∧ (numbM b = 3 ↔ b = 0) ∧ (numbM b % 64 ≤ 3) := by
 unfold numbM
 split
 ·subst_vars; simp
 ·split
  ·omega
  ·split <;> omega
theorem marks_eq {mode : Int} (hm : mode ≠ 9) (e : Ms) : marksM mode e = (if e.typ = 4 then 32 else 0) + 4 * (e.mods % 8) := by unfold marksM; rw [if_pos hm]
theorem code_eq {mode : Int} {e : Ms} (h : mayT e = true) : codeM mode e = numbM e.btn + marksM mode e := if_pos h
theorem mcode_rng {mode : Int} {e : Ms} (h : mayT e = true) : 0 ≤ codeM mode e ∧ codeM mode e ≤ 191 := by
 obtain ⟨⟨b0, b1⟩, ⟨m0, m1⟩, _⟩ := may_rng h
 obtain ⟨⟨n0, n1⟩, _⟩ := numb_rng b0 b1
 rw [code_eq h]
 unfold marksM
 split <;> split <;> omega
theorem lost_rng {mode : Int} {e : Ms} (h : mayT e = true) : 0 ≤ lostM mode e ∧ lostM mode e ≤ 191 := by
 obtain ⟨_, ⟨m0, m1⟩, _⟩ := may_rng h
 unfold lostM
 split
 ·unfold marksM
  split <;> split <;> omega
 ·exact mcode_rng h
theorem seqp_may {priv : UInt8} {f : Int} {l : List Int} (hp : privOk priv = true) (h0 : 64 ≤ f) (h1 : f ≤ 126) (hl : l.length ≤ 16) (hn : ∀ n ∈ l, 0 ≤ n ∧ n ≤ 1114111) : mayS (sqP priv f l) = 0 := by
 have hpp := par_nums hl hn
 have hb := byt_btw (f := f) (a := 64) (b := 126) h0 h1 (by decide)
 have ho : okS (sqP priv f l) = true := by
  unfold okS sqP
  simp [lastOk, bareOk, hpp, hb, hp]
 unfold mayS
 rw [if_neg (by simp [sqP]), if_pos ho]
theorem seqp_is {priv : UInt8} {f : Int} {l : List Int} (h : mayS (sqP priv f l) = 0) : seqP priv f l = putS (sqP priv f l) := if_pos h
theorem enc_1006 (mode : Int) {e : Ms} (h : mayT e = true) : mayS (sqP 60 (if e.typ = 3 then 109 else 77) [codeM mode e, e.x, e.y]) = 0 ∧ encM mode 1006 e = putS (sqP 60 (if e.typ = 3 then 109 else 77) [codeM mode e, e.x, e.y]) := by
 have hc := mcode_rng (mode := mode) h
 have hx := may_cell h
 have hm : mayS (sqP 60 (if e.typ = 3 then 109 else 77) [codeM mode e, e.x, e.y]) = 0 := seqp_may (by decide) (by split <;> decide) (by split <;> decide) (by simp) (fun n hn => by
  simp only [List.mem_cons, List.not_mem_nil, or_false] at hn
  rcases hn with rfl | rfl | rfl <;> omega)
 refine ⟨hm, ?_⟩
 unfold encM
 rw [if_neg (by rw [h]; decide), if_pos rfl, seqp_is hm]
theorem enc_1015 (mode : Int) {e : Ms} (h : mayT e = true) : mayS (sqP 0 77 [32 + lostM mode e, e.x, e.y]) = 0 ∧ encM mode 1015 e = putS (sqP 0 77 [32 + lostM mode e, e.x, e.y]) := by
 have hc := lost_rng (mode := mode) h
 have hx := may_cell h
 have hm : mayS (sqP 0 77 [32 + lostM mode e, e.x, e.y]) = 0 := seqp_may (by decide) (by decide) (by decide) (by simp) (fun n hn => by
  simp only [List.mem_cons, List.not_mem_nil, or_false] at hn
  rcases hn with rfl | rfl | rfl <;> omega)
 refine ⟨hm, ?_⟩
 unfold encM
 rw [if_neg (by rw [h]; decide), if_neg (by decide), if_pos rfl, seqp_is hm]
theorem may_mod {e : Ms} (h : mayT e = true) {n : Int} (h0 : 0 ≤ n) (h1 : n ≤ 255) : mayT { e with mods := n } = true := by
 unfold mayT at h ⊢
 split at h
 ·cases h
 ·rename_i hr
  rw [if_neg (by simp only; omega)]
  exact h
theorem code_mod {mode : Int} (hm : mode ≠ 9) {e : Ms} (h : mayT e = true) : codeM mode { e with mods := e.mods % 8 } = codeM mode e ∧ lostM mode { e with mods := e.mods % 8 } = lostM mode e := by
 obtain ⟨_, ⟨m0, m1⟩, _⟩ := may_rng h
 have h' := may_mod h (n := e.mods % 8) (by omega) (by omega)
 have hk : marksM mode { e with mods := e.mods % 8 } = marksM mode e := by
  rw [marks_eq hm, marks_eq hm]
  simp only
  omega
 have hc : codeM mode { e with mods := e.mods % 8 } = codeM mode e := by rw [code_eq h', code_eq h, hk]
 refine ⟨hc, ?_⟩
 unfold lostM
 rw [hk, hc]
theorem enc_mod {e : Ms} (h : mayT e = true) (c : Int) : encM 1003 c { e with mods := e.mods % 8 } = encM 1003 c e := by
 obtain ⟨_, ⟨m0, m1⟩, _⟩ := may_rng h
 have h' := may_mod h (n := e.mods % 8) (by omega) (by omega)
 obtain ⟨h1, h2⟩ := code_mod (mode := 1003) (by decide) h
 unfold encM
 rw [h, h', h1, h2]
theorem guess_code {e : Ms} (h : mayT e = true) : guessM (codeM 1003 e) e.x e.y (decide (e.typ = 3)) = { e with mods := e.mods % 8 } := by
 obtain ⟨⟨b0, b1⟩, ⟨m0, m1⟩, t1, t3, t4⟩ := may_rng h
 have ht := may_typ15 h
 obtain ⟨n, hn⟩ : ∃ n, codeM 1003 e = n := ⟨_, rfl⟩
 have hc : n = numbM e.btn + ((if e.typ = 4 then 32 else 0) + 4 * (e.mods % 8)) := by rw [← hn, code_eq h, marks_eq (by decide)]
 rw [hn]
 obtain ⟨btn, typ, x, y, mods⟩ := e
 simp only at *
 unfold guessM
 obtain ⟨q, hq⟩ : ∃ q, numbM btn = q := ⟨_, rfl⟩
 rw [hq] at hc
 have hnb : (btn = 0 ∧ q = 3) ∨ (1 ≤ btn ∧ btn ≤ 3 ∧ q = btn - 1) ∨ (4 ≤ btn ∧ btn ≤ 7 ∧ q = 60 + btn) ∨ (8 ≤ btn ∧ q = 120 + btn) := by
  unfold numbM at hq
  repeat' split at hq
  all_goals omega
 have hr : 0 ≤ mods % 8 ∧ mods % 8 < 8 := by omega
 have hmo : n / 4 % 8 = mods % 8 := by split at hc <;> omega
 have hbb : n - n / 4 % 16 * 4 = q := by split at hc <;> omega
 have htt : (if decide (typ = 3) = true then 3 else if n / 32 % 2 = 1 then 4 else 1) = typ := by
  rcases ht with rfl | rfl | rfl
  ·rw [if_neg (by decide), if_neg (by simp at hc; omega)]
  ·rfl
  ·rw [if_neg (by decide), if_pos (by simp at hc; omega)]
 rw [hmo, hbb, htt]
 congr 1
 rcases hnb with ⟨h1, h2⟩ | ⟨h1, h2, h3⟩ | ⟨h1, h2, h3⟩ | ⟨h1, h2⟩
 ·rw [if_neg (by omega), if_neg (by omega), if_neg (by omega)]; omega
 ·rw [if_neg (by omega), if_neg (by omega), if_pos (by omega)]; omega
 ·rw [if_neg (by omega), if_pos (by omega)]; omega
 ·rw [if_pos (by omega)]; omega
theorem args3 (a b c : Int) (h : 0 ≤ a ∧ 0 ≤ b ∧ 0 ≤ c) : argL ([a, b, c].map fun n => [n]) 0 0 = a ∧ argL ([a, b, c].map fun n => [n]) 1 0 = b ∧ argL ([a, b, c].map fun n => [n]) 2 0 = c := by
 unfold argL
 refine ⟨?_, ?_, ?_⟩
 ·rw [if_neg (by simp)]
  show (if a < 0 then (0 : Int) else a) = a
  rw [if_neg (by omega)]
 ·rw [if_neg (by simp)]
  show (if b < 0 then (0 : Int) else b) = b
  rw [if_neg (by omega)]
 ·rw [if_neg (by simp)]
  show (if c < 0 then (0 : Int) else c) = c
  rw [if_neg (by omega)]
theorem mou_back {e : Ms} (h : mayT e = true) : decM (encM 1003 1006 e) = ({ e with mods := e.mods % 8 }, true) := by
 obtain ⟨hm, he⟩ := enc_1006 1003 h
 have hc := mcode_rng (mode := 1003) h
 have hx := may_cell h
 obtain ⟨_, ⟨m0, m1⟩, _⟩ := may_rng h
 have ht := takeS_put hm []
 rw [List.append_nil, ← he] at ht
 obtain ⟨a0, a1, a2⟩ := args3 (codeM 1003 e) e.x e.y ⟨hc.1, by omega, by omega⟩
 have hf : ((sqP 60 (if e.typ = 3 then 109 else 77) [codeM 1003 e, e.x, e.y]).final == 109) = decide (e.typ = 3) := by
  show (byt (if e.typ = 3 then 109 else 77) == 109) = _
  by_cases h3 : e.typ = 3
  ·rw [if_pos h3, decide_eq_true h3]; decide
  ·rw [if_neg h3, decide_eq_false h3]; decide
 have hg := guess_code h
 unfold decM
 rw [ht]
 show decS _ _ = _
 unfold decS
 rw [hf]
 show (if ([codeM 1003 e, e.x, e.y].map fun n => [n]).length ≠ 3 then _ else if 255 < argL ([codeM 1003 e, e.x, e.y].map fun n => [n]) 0 0 ∨ mayT (guessM (argL ([codeM 1003 e, e.x, e.y].map fun n => [n]) 0 0) (argL ([codeM 1003 e, e.x, e.y].map fun n => [n]) 1 0) (argL ([codeM 1003 e, e.x, e.y].map fun n => [n]) 2 0) (decide (e.typ = 3))) = false ∨ encM 1003 1006 (guessM (argL ([codeM 1003 e, e.x, e.y].map fun n => [n]) 0 0) (argL ([codeM 1003 e, e.x, e.y].map fun n => [n]) 1 0) (argL ([codeM 1003 e, e.x, e.y].map fun n => [n]) 2 0) (decide (e.typ = 3))) ≠ encM 1003 1006 e then _ else (guessM (argL ([codeM 1003 e, e.x, e.y].map fun n => [n]) 0 0) (argL ([codeM 1003 e, e.x, e.y].map fun n => [n]) 1 0) (argL ([codeM 1003 e, e.x, e.y].map fun n => [n]) 2 0) (decide (e.typ = 3)), true)) = _
 rw [a0, a1, a2, hg, if_neg (by simp), if_neg]
 rintro (h1 | h1 | h1)
 ·omega
 ·rw [may_mod h (by omega) (by omega)] at h1; cases h1
 ·exact h1 (enc_mod h 1006)
theorem enc_1005 (mode : Int) {e : Ms} (h : mayT e = true) : encM mode 1005 e = if 2015 < e.x ∨ 2015 < e.y then [] else [27, 91, 77] ++ putL (32 + lostM mode e) ++ putL (32 + e.x) ++ putL (32 + e.y) := by
 unfold encM
 rw [if_neg (by rw [h]; decide), if_neg (by decide), if_neg (by decide), if_pos rfl]
theorem enc_0 (mode : Int) {e : Ms} (h : mayT e = true) : encM mode 0 e = if 223 < e.x ∨ 223 < e.y then [] else [27, 91, 77, byt (32 + lostM mode e), byt (32 + e.x), byt (32 + e.y)] := by
 unfold encM
 rw [if_neg (by rw [h]; decide), if_neg (by decide), if_neg (by decide), if_neg (by decide)]
theorem enc_no {e : Ms} (h : mayT e = false) (mode c : Int) : encM mode c e = [] := if_pos h
end Go.Proofs.YtjlhhelikiegdaaGreatDoor
namespace Go.Proofs.YtjlhhelikiegdaaGreatDoor
open Go.RowKit
section
section
variable {P : Program} {ops : Array Oper} {md : Region.Mode} {w1 : World} {K : List Fact} {ix iz : Nat} {R0 R1 : (Tmp → Value) → World → World → Prop} {aF : (Tmp → Value) → Act} {i : Nat} {o : Oper}
theorem goesK_any {d : Tmp} (hst : ∀ f ∈ K, f.ok) (hah : Ahead md ops ix i) (hio : ops[i]? = some o) (hx : i ≠ ix) (hz : i ≠ iz) {F : Value → World → Prop} (p : Nat) (hat : K[p]? = some ⟨i, d, F⟩) (huq : ((List.range K.length).all fun q => q == p || ((K[q]?).map fun f => f.i != i && f.d != d).getD true) = true) (hw : ∀ g, Region.wanted o (yielded ops (aF g).tmps) = true) (h0 : o.dst = some d) (hd : ∀ g, (aF g).tmps[d]? = some (g d))
 (hr : ∀ g w, Below w1.heap.size w1 w → (∀ (q : Nat) (f : Fact), K[q]? = some f → edgeB md ops i f.i = true → f.F (g f.d) w) → ∃ v w', (execOp (aF g).eval o).run P w = .ok (.value v) w' ∧ F v w' ∧ Below w.heap.size w w') :
 GoesM P md ops aF (SK md ops w1 K ix iz R0 R1) i o := fun l g w hsz hf hrd hS => by
 rw [if_pos (hw g)]
 have hfx := hah l hsz hS.shut hf
 obtain ⟨h1, h2⟩ := hS.pre hfx
 obtain ⟨v, w', hrun, hme, hb⟩ := hr g w h1 fun q f' hf' he => h2 f' (List.mem_of_getElem? hf') (by
  unfold edgeB at he
  rw [hio] at he
  obtain ⟨e, he, hb⟩ := Array.any_eq_true'.1 he
  simp only [Bool.and_eq_true, beq_iff_eq] at hb
  rw [← hb.2]
  exact hrd e he hb.1)
 exact .inl ⟨v, w', .inl hrun, upd g d v, .inr ⟨d, _, h0, rfl⟩, (fun d' h' => by rw [h0] at h'; cases h'; rw [hd, upd_at]), hS.ghost hst (hS.shut.step hio hrd) hb hx hz hfx (only_me hat huq hme) (only_ot hat huq)⟩
theorem goesK_name {d d' : Tmp} {i' p' : Nat} (hst : ∀ f ∈ K, f.ok) (hah : Ahead md ops ix i) (hio : ops[i]? = some o) (hx : i ≠ ix) (hz : i ≠ iz) {F : Value → World → Prop} (p : Nat) (hat : K[p]? = some ⟨i, d, F⟩) (hat' : K[p']? = some ⟨i', d', F⟩) (hed : edgeB md ops i i' = true) (huq : ((List.range K.length).all fun q => q == p || ((K[q]?).map fun f => f.i != i && f.d != d).getD true) = true) (hw : ∀ g, Region.wanted o (yielded ops (aF g).tmps) = true) (h0 : o.dst = some d) (hd : ∀ g, (aF g).tmps[d]? = some (g d))
 (hr : ∀ g w, (execOp (aF g).eval o).run P w = .ok (.value (g d')) w) :
 GoesM P md ops aF (SK md ops w1 K ix iz R0 R1) i o :=
 goesK_any hst hah hio hx hz p hat huq hw h0 hd fun g w _ hK => ⟨g d', w, hr g w, hK p' _ hat' hed, Below.refl _ _⟩
end
end
theorem may_small {s : Sq} (h : mayS s = 0) : s.priv.toNat < 128 ∧ s.final.toNat < 128 ∧ (putS s).length ≤ 20000 ∧ (s.kind = 1 ∨ s.kind = 2 ∨ s.kind = 3 ∨ s.kind = 4 ∨ s.kind = 5) := by
 obtain ⟨hdl, hv, hp, hil, hi, hd, hl, hb⟩ := ok_parts h
 have hk : s.kind = 1 ∨ s.kind = 2 ∨ s.kind = 3 ∨ s.kind = 4 ∨ s.kind = 5 := by
  unfold lastOk at hl
  split at hl
  ·omega
  ·split at hl
   ·omega
   ·simp only [Bool.and_eq_true, decide_eq_true_eq] at hl; omega
 refine ⟨?_, ?_, ?_, hk⟩
 ·simp only [privOk, Bool.or_eq_true, decide_eq_true_eq] at hv
  rcases hv with hv | hv
  ·rw [hv]; decide
  ·have := (btw_iff _ _ _).1 hv; omega
 ·unfold lastOk at hl
  split at hl
  ·have := (btw_iff _ _ _).1 hl; omega
  ·split at hl
   ·simp only [Bool.and_eq_true] at hl
    have := (btw_iff _ _ _).1 hl.1; omega
   ·simp only [Bool.and_eq_true, decide_eq_true_eq] at hl
    rw [hl.2]; decide
 ·have h3 := body_len hp hil
  unfold putS
  (repeat' split) <;> simp <;> omega
set_option maxRecDepth 100000 in
set_option maxHeartbeats 4000000 in
theorem rheld_any (n : Int) (w : World) : Calls Tryz.prog 42 #[.int .i64 n] w fun e w' => e = .returned (.bool (heldT n)) ∧ Below w.heap.size w w' := by
 obtain ⟨R, hR⟩ : ∃ R, heldT n = R := ⟨_, rfl⟩
 rw [hR]
 have HC := Lib.hid hR
 clear hR
 by_cases a : 1 ≤ n
 ·by_cases b : n ≤ 3
  ·have HF := Lib.hid (show true = R by rw [← HC.out]; unfold heldT; rw [decide_eq_true ⟨a, b⟩]; rfl)
   clear HC
   go_enter Tryz.func42, Tryz.ntmps42
   go_wp2_with fail
   go_ret
   exact ⟨ret_bl HF.out, Below.refl _ _⟩
  ·by_cases c : 8 ≤ n
   ·by_cases d : n ≤ 11
    ·have HF := Lib.hid (show true = R by rw [← HC.out]; unfold heldT; rw [decide_eq_true (show 8 ≤ n ∧ n ≤ 11 from ⟨c, d⟩), Bool.or_true])
     clear HC
     go_enter Tryz.func42, Tryz.ntmps42
     go_wp2_with fail
     go_ret
     exact ⟨ret_bl HF.out, Below.refl _ _⟩
    ·have HF := Lib.hid (show false = R by rw [← HC.out]; unfold heldT; rw [decide_eq_false (by omega), decide_eq_false (by omega)]; rfl)
     clear HC
     go_enter Tryz.func42, Tryz.ntmps42
     go_wp2_with fail
     go_ret
     exact ⟨ret_bl HF.out, Below.refl _ _⟩
   ·have HF := Lib.hid (show false = R by rw [← HC.out]; unfold heldT; rw [decide_eq_false (by omega), decide_eq_false (by omega)]; rfl)
    clear HC
    go_enter Tryz.func42, Tryz.ntmps42
    go_wp2_with fail
    go_ret
    exact ⟨ret_bl HF.out, Below.refl _ _⟩
 ·have c : ¬ 8 ≤ n := by omega
  have HF := Lib.hid (show false = R by rw [← HC.out]; unfold heldT; rw [decide_eq_false (by omega), decide_eq_false (by omega)]; rfl)
  clear HC
  go_enter Tryz.func42, Tryz.ntmps42
  go_wp2_with fail
  go_ret
  exact ⟨ret_bl HF.out, Below.refl _ _⟩
set_option maxRecDepth 100000 in
set_option maxHeartbeats 4000000 in
theorem rmay15_any (e : Ms) (w : World) : Calls Tryz.prog 14 #[msV e] w fun x w' => x = .returned (.bool (mayT e)) ∧ Below w.heap.size w w' := by
 obtain ⟨R, hR⟩ : ∃ R, mayT e = R := ⟨_, rfl⟩
 rw [hR]
 have HC := Lib.hid (show R = mayT e from hR.symm)
 clear hR
 obtain ⟨btn, typ, x, y, md⟩ := e
 have HC := Lib.hid (HC.out.trans (show mayT ⟨btn, typ, x, y, md⟩ = if x < 1 ∨ 65535 < x ∨ y < 1 ∨ 65535 < y ∨ md < 0 ∨ 255 < md then false else if typ = 1 then decide (1 ≤ btn ∧ btn ≤ 11) else if typ = 3 then heldT btn else decide (typ = 4) && (decide (btn = 0) || heldT btn) from rfl))
 have HH : Hid (∀ W, Calls Tryz.prog 42 #[.int .i64 btn] W fun e w' => e = .returned (.bool (heldT btn)) ∧ Below W.heap.size W w') := Lib.hid fun W => rheld_any btn W
 obtain ⟨q, hq⟩ : ∃ q, heldT btn = q := ⟨_, rfl⟩
 rw [hq] at HC HH
 clear hq
 rw [msV]
 have hB := (Below.refl w.heap.size w).alloc (Nat.le_refl _) (.cells #[.int .i64 btn, .int .i64 typ, .int .i64 x, .int .i64 y, .int .i64 md] 23)
 have k0 := Blk.new w 23 #[.int .i64 btn, .int .i64 typ, .int .i64 x, .int .i64 y, .int .i64 md]
 obtain ⟨a0, a1, a2, a3, a4⟩ := Blk.cells5 k0
 simp only
 by_cases h0 : x < 1
 ·have HE := Lib.hid (show R = false from HC.out.trans (if_pos (.inl h0)))
  clear HC
  go_enter Tryz.func14, Tryz.ntmps14
  go_wp2_with fail
  go_ret
  exact ⟨ret_bl HE.out.symm, hB⟩
 by_cases h1 : 65535 < x
 ·have HE := Lib.hid (show R = false from HC.out.trans (if_pos (.inr (.inl h1))))
  clear HC
  go_enter Tryz.func14, Tryz.ntmps14
  go_wp2_with fail
  go_ret
  exact ⟨ret_bl HE.out.symm, hB⟩
 by_cases h2 : y < 1
 ·have HE := Lib.hid (show R = false from HC.out.trans (if_pos (.inr (.inr (.inl h2)))))
  clear HC
  go_enter Tryz.func14, Tryz.ntmps14
  go_wp2_with fail
  go_ret
  exact ⟨ret_bl HE.out.symm, hB⟩
 by_cases h3 : 65535 < y
 ·have HE := Lib.hid (show R = false from HC.out.trans (if_pos (.inr (.inr (.inr (.inl h3))))))
  clear HC
  go_enter Tryz.func14, Tryz.ntmps14
  go_wp2_with fail
  go_ret
  exact ⟨ret_bl HE.out.symm, hB⟩
 by_cases h4 : md < 0
 ·have HE := Lib.hid (show R = false from HC.out.trans (if_pos (.inr (.inr (.inr (.inr (.inl h4)))))))
  clear HC
  go_enter Tryz.func14, Tryz.ntmps14
  go_wp2_with fail
  go_ret
  exact ⟨ret_bl HE.out.symm, hB⟩
 by_cases h5 : 255 < md
 ·have HE := Lib.hid (show R = false from HC.out.trans (if_pos (.inr (.inr (.inr (.inr (.inr (h5))))))))
  clear HC
  go_enter Tryz.func14, Tryz.ntmps14
  go_wp2_with fail
  go_ret
  exact ⟨ret_bl HE.out.symm, hB⟩
 have HC := Lib.hid (HC.out.trans (if_neg (by omega)))
 by_cases t1 : typ = 1
 ·subst t1
  have HC := Lib.hid (HC.out.trans (if_pos rfl))
  by_cases b1 : 1 ≤ btn
  ·by_cases b2 : btn ≤ 11
   ·have HE := Lib.hid (HC.out.trans (decide_eq_true ⟨b1, b2⟩))
    clear HC
    go_enter Tryz.func14, Tryz.ntmps14
    go_wp2_with fail
    go_ret
    exact ⟨ret_bl HE.out.symm, hB⟩
   ·have HE := Lib.hid (HC.out.trans (decide_eq_false (fun h => b2 h.2)))
    clear HC
    go_enter Tryz.func14, Tryz.ntmps14
    go_wp2_with fail
    go_ret
    exact ⟨ret_bl HE.out.symm, hB⟩
  ·have HE := Lib.hid (HC.out.trans (decide_eq_false (fun h => b1 h.1)))
   clear HC
   go_enter Tryz.func14, Tryz.ntmps14
   go_wp2_with fail
   go_ret
   exact ⟨ret_bl HE.out.symm, hB⟩
 ·have HC := Lib.hid (HC.out.trans (if_neg t1))
  have u1 : (typ == 1) = false := beq_false_of_ne t1
  clear t1
  by_cases t3 : typ = 3
  ·subst t3
   have HE := Lib.hid (HC.out.trans (if_pos rfl))
   clear HC
   go_enter Tryz.func14, Tryz.ntmps14
   go_wp2_with fail
   refine (HH.out _).mono ?_
   rintro z w1 ⟨rfl, hb1⟩
   go_wp2_with fail
   go_ret
   exact ⟨ret_bl HE.out.symm, hB.trans (hb1.mono hB.size)⟩
  ·have HC := Lib.hid (HC.out.trans (if_neg t3))
   have u3 : (typ == 3) = false := beq_false_of_ne t3
   clear t3
   by_cases t4 : typ = 4
   ·subst t4
    have HC := Lib.hid (HC.out.trans (by rw [decide_eq_true rfl, Bool.true_and]))
    by_cases b0 : btn = 0
    ·subst b0
     have HE := Lib.hid (HC.out.trans (by rw [decide_eq_true rfl, Bool.true_or]))
     clear HC
     go_enter Tryz.func14, Tryz.ntmps14
     go_wp2_with fail
     go_ret
     exact ⟨ret_bl HE.out.symm, hB⟩
    ·have v0 : (btn == 0) = false := beq_false_of_ne b0
     have HE := Lib.hid (HC.out.trans (by rw [decide_eq_false b0, Bool.false_or]))
     clear HC b0
     go_enter Tryz.func14, Tryz.ntmps14
     go_wp2_with fail
     refine (HH.out _).mono ?_
     rintro z w1 ⟨rfl, hb1⟩
     go_wp2_with fail
     go_ret
     exact ⟨ret_bl HE.out.symm, hB.trans (hb1.mono hB.size)⟩
   ·have HE := Lib.hid (HC.out.trans (by rw [decide_eq_false t4, Bool.false_and]))
    have u4 : (typ == 4) = false := beq_false_of_ne t4
    clear HC t4
    go_enter Tryz.func14, Tryz.ntmps14
    go_wp2_with fail
    go_ret
    exact ⟨ret_bl HE.out.symm, hB⟩
end Go.Proofs.YtjlhhelikiegdaaGreatDoor
