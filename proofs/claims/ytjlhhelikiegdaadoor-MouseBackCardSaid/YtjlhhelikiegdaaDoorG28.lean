/-
  Layer 16's mathematics: what a mouse's event sends, and back.
-/
import Derived.Test.YtjlhhelikiegdaaDoorG13
import Derived.Test.YtjlhhelikiegdaaDoorG26
namespace Go.Proofs.YtjlhhelikiegdaaDoor
def numbM (b : Int) : Int := if b = 0 then 3 else if b ≤ 3 then b - 1 else if b ≤ 7 then 60 + b else 120 + b
def marksM (mode : Int) (e : Ms) : Int := (if e.typ = 4 then 32 else 0) + (if mode ≠ 9 then 4 * (e.mods % 8) else 0)
def codeM (mode : Int) (e : Ms) : Int := if mayT e = true then numbM e.btn + marksM mode e else 0
def lostM (mode : Int) (e : Ms) : Int := if e.typ = 3 then 3 + marksM mode e else codeM mode e
def sqP (priv : UInt8) (f : Int) (l : List Int) : Sq := ⟨1, priv, l.map fun n => [n], [], byt f, []⟩
def seqP (priv : UInt8) (f : Int) (l : List Int) : List UInt8 := if mayS (sqP priv f l) = 0 then putS (sqP priv f l) else []
def encM (mode coding : Int) (e : Ms) : List UInt8 :=
 if mayT e = false then []
 else if coding = 1006 then seqP 60 (if e.typ = 3 then 109 else 77) [codeM mode e, e.x, e.y]
 else if coding = 1015 then seqP 0 77 [32 + lostM mode e, e.x, e.y]
 else if coding = 1005 then (if 2015 < e.x ∨ 2015 < e.y then [] else [27, 91, 77] ++ putL (32 + lostM mode e) ++ putL (32 + e.x) ++ putL (32 + e.y))
 else if 223 < e.x ∨ 223 < e.y then [] else [27, 91, 77, byt (32 + lostM mode e), byt (32 + e.x), byt (32 + e.y)]
def guessM (n x y : Int) (rel : Bool) : Ms :=
 ⟨(if 128 ≤ n - n / 4 % 16 * 4 then n - n / 4 % 16 * 4 - 120 else if 64 ≤ n - n / 4 % 16 * 4 then n - n / 4 % 16 * 4 - 60 else if n - n / 4 % 16 * 4 < 3 then n - n / 4 % 16 * 4 + 1 else 0), (if rel = true then 3 else if n / 32 % 2 = 1 then 4 else 1), x, y, n / 4 % 8⟩
def decS (s : Sq) (l : List UInt8) : Ms × Bool :=
 if s.params.length ≠ 3 then (⟨0, 0, 0, 0, 0⟩, false)
 else if 255 < argL s.params 0 0 ∨ mayT (guessM (argL s.params 0 0) (argL s.params 1 0) (argL s.params 2 0) (s.final == 109)) = false ∨ encM 1003 1006 (guessM (argL s.params 0 0) (argL s.params 1 0) (argL s.params 2 0) (s.final == 109)) ≠ l then (⟨0, 0, 0, 0, 0⟩, false)
 else (guessM (argL s.params 0 0) (argL s.params 1 0) (argL s.params 2 0) (s.final == 109), true)
def decM (l : List UInt8) : Ms × Bool :=
 match takeS l with
 | some (s, _) => decS s l
 | none => (⟨0, 0, 0, 0, 0⟩, false)
theorem may_rng {e : Ms} (h : mayT e = true) : (0 ≤ e.btn ∧ e.btn ≤ 11) ∧ (0 ≤ e.mods ∧ e.mods ≤ 255) ∧ (e.typ = 1 → 1 ≤ e.btn) ∧ (e.typ = 3 → 1 ≤ e.btn ∧ (e.btn ≤ 3 ∨ 8 ≤ e.btn)) ∧ (e.typ = 4 → e.btn ≤ 3 ∨ 8 ≤ e.btn) := by
 have ht := may_typ15 h
 unfold mayT heldT at h
 split at h
 ·cases h
 ·rename_i hr
  rcases ht with ht | ht | ht <;> simp [ht] at h <;> refine ⟨?_, ?_, ?_, ?_, ?_⟩ <;> omega
theorem numb_rng {b : Int} (h0 : 0 ≤ b) (h1 : b ≤ 11) : (0 ≤ numbM b ∧ numbM b ≤ 131) ∧ (numbM b = 3 ↔ b = 0) ∧ (numbM b % 64 ≤ 3) := by
 unfold numbM
 split
 ·subst_vars; simp
 ·split
  ·omega
  ·split <;> omega
theorem numb_inj {a b : Int} (a0 : 0 ≤ a) (a1 : a ≤ 11) (b0 : 0 ≤ b) (b1 : b ≤ 11) (h : numbM a = numbM b) : a = b := by
 unfold numbM at h
 repeat' split at h
 all_goals omega
theorem marks_eq {mode : Int} (hm : mode ≠ 9) (e : Ms) : marksM mode e = (if e.typ = 4 then 32 else 0) + 4 * (e.mods % 8) := by unfold marksM; rw [if_pos hm]
theorem code_eq {mode : Int} {e : Ms} (h : mayT e = true) : codeM mode e = numbM e.btn + marksM mode e := if_pos h
theorem mcode_rng {mode : Int} {e : Ms} (h : mayT e = true) : 0 ≤ codeM mode e ∧ codeM mode e ≤ 191 := by
 obtain ⟨⟨b0, b1⟩, ⟨m0, m1⟩, _⟩ := may_rng h
 obtain ⟨⟨n0, n1⟩, _⟩ := numb_rng b0 b1
 rw [code_eq h]
 unfold marksM
 split <;> split <;> omega
theorem lost_rng {mode : Int} {e : Ms} (h : mayT e = true) : 0 ≤ lostM mode e ∧ lostM mode e ≤ 191 := by
 obtain ⟨_, ⟨m0, m1⟩, _⟩ := may_rng h
 unfold lostM
 split
 ·unfold marksM
  split <;> split <;> omega
 ·exact mcode_rng h
theorem seqp_may {priv : UInt8} {f : Int} {l : List Int} (hp : privOk priv = true) (h0 : 64 ≤ f) (h1 : f ≤ 126) (hl : l.length ≤ 16) (hn : ∀ n ∈ l, 0 ≤ n ∧ n ≤ 1114111) : mayS (sqP priv f l) = 0 := by
 have hpp := par_nums hl hn
 have hb := byt_btw (f := f) (a := 64) (b := 126) h0 h1 (by decide)
 have ho : okS (sqP priv f l) = true := by
  unfold okS sqP
  simp [lastOk, bareOk, hpp, hb, hp]
 unfold mayS
 rw [if_neg (by simp [sqP]), if_pos ho]
theorem seqp_is {priv : UInt8} {f : Int} {l : List Int} (h : mayS (sqP priv f l) = 0) : seqP priv f l = putS (sqP priv f l) := if_pos h
theorem enc_1006 (mode : Int) {e : Ms} (h : mayT e = true) : mayS (sqP 60 (if e.typ = 3 then 109 else 77) [codeM mode e, e.x, e.y]) = 0 ∧ encM mode 1006 e = putS (sqP 60 (if e.typ = 3 then 109 else 77) [codeM mode e, e.x, e.y]) := by
 have hc := mcode_rng (mode := mode) h
 have hx := may_cell h
 have hm : mayS (sqP 60 (if e.typ = 3 then 109 else 77) [codeM mode e, e.x, e.y]) = 0 := seqp_may (by decide) (by split <;> decide) (by split <;> decide) (by simp) (fun n hn => by
  simp only [List.mem_cons, List.not_mem_nil, or_false] at hn
  rcases hn with rfl | rfl | rfl <;> omega)
 refine ⟨hm, ?_⟩
 unfold encM
 rw [if_neg (by rw [h]; decide), if_pos rfl, seqp_is hm]
theorem enc_1015 (mode : Int) {e : Ms} (h : mayT e = true) : mayS (sqP 0 77 [32 + lostM mode e, e.x, e.y]) = 0 ∧ encM mode 1015 e = putS (sqP 0 77 [32 + lostM mode e, e.x, e.y]) := by
 have hc := lost_rng (mode := mode) h
 have hx := may_cell h
 have hm : mayS (sqP 0 77 [32 + lostM mode e, e.x, e.y]) = 0 := seqp_may (by decide) (by decide) (by decide) (by simp) (fun n hn => by
  simp only [List.mem_cons, List.not_mem_nil, or_false] at hn
  rcases hn with rfl | rfl | rfl <;> omega)
 refine ⟨hm, ?_⟩
 unfold encM
 rw [if_neg (by rw [h]; decide), if_neg (by decide), if_pos rfl, seqp_is hm]
theorem may_mod {e : Ms} (h : mayT e = true) {n : Int} (h0 : 0 ≤ n) (h1 : n ≤ 255) : mayT { e with mods := n } = true := by
 unfold mayT at h ⊢
 split at h
 ·cases h
 ·rename_i hr
  rw [if_neg (by simp only; omega)]
  exact h
theorem code_mod {mode : Int} (hm : mode ≠ 9) {e : Ms} (h : mayT e = true) : codeM mode { e with mods := e.mods % 8 } = codeM mode e ∧ lostM mode { e with mods := e.mods % 8 } = lostM mode e := by
 obtain ⟨_, ⟨m0, m1⟩, _⟩ := may_rng h
 have h' := may_mod h (n := e.mods % 8) (by omega) (by omega)
 have hk : marksM mode { e with mods := e.mods % 8 } = marksM mode e := by
  rw [marks_eq hm, marks_eq hm]
  simp only
  omega
 have hc : codeM mode { e with mods := e.mods % 8 } = codeM mode e := by rw [code_eq h', code_eq h, hk]
 refine ⟨hc, ?_⟩
 unfold lostM
 rw [hk, hc]
theorem enc_mod {e : Ms} (h : mayT e = true) (c : Int) : encM 1003 c { e with mods := e.mods % 8 } = encM 1003 c e := by
 obtain ⟨_, ⟨m0, m1⟩, _⟩ := may_rng h
 have h' := may_mod h (n := e.mods % 8) (by omega) (by omega)
 obtain ⟨h1, h2⟩ := code_mod (mode := 1003) (by decide) h
 unfold encM
 rw [h, h', h1, h2]
theorem guess_code {e : Ms} (h : mayT e = true) : guessM (codeM 1003 e) e.x e.y (decide (e.typ = 3)) = { e with mods := e.mods % 8 } := by
 obtain ⟨⟨b0, b1⟩, ⟨m0, m1⟩, t1, t3, t4⟩ := may_rng h
 have ht := may_typ15 h
 obtain ⟨n, hn⟩ : ∃ n, codeM 1003 e = n := ⟨_, rfl⟩
 have hc : n = numbM e.btn + ((if e.typ = 4 then 32 else 0) + 4 * (e.mods % 8)) := by rw [← hn, code_eq h, marks_eq (by decide)]
 rw [hn]
 obtain ⟨btn, typ, x, y, mods⟩ := e
 simp only at *
 unfold guessM
 obtain ⟨q, hq⟩ : ∃ q, numbM btn = q := ⟨_, rfl⟩
 rw [hq] at hc
 have hnb : (btn = 0 ∧ q = 3) ∨ (1 ≤ btn ∧ btn ≤ 3 ∧ q = btn - 1) ∨ (4 ≤ btn ∧ btn ≤ 7 ∧ q = 60 + btn) ∨ (8 ≤ btn ∧ q = 120 + btn) := by
  unfold numbM at hq
  repeat' split at hq
  all_goals omega
 have hr : 0 ≤ mods % 8 ∧ mods % 8 < 8 := by omega
 have hmo : n / 4 % 8 = mods % 8 := by split at hc <;> omega
 have hbb : n - n / 4 % 16 * 4 = q := by split at hc <;> omega
 have htt : (if decide (typ = 3) = true then 3 else if n / 32 % 2 = 1 then 4 else 1) = typ := by
  rcases ht with rfl | rfl | rfl
  ·rw [if_neg (by decide), if_neg (by simp at hc; omega)]
  ·rfl
  ·rw [if_neg (by decide), if_pos (by simp at hc; omega)]
 rw [hmo, hbb, htt]
 congr 1
 rcases hnb with ⟨h1, h2⟩ | ⟨h1, h2, h3⟩ | ⟨h1, h2, h3⟩ | ⟨h1, h2⟩
 ·rw [if_neg (by omega), if_neg (by omega), if_neg (by omega)]; omega
 ·rw [if_neg (by omega), if_neg (by omega), if_pos (by omega)]; omega
 ·rw [if_neg (by omega), if_pos (by omega)]; omega
 ·rw [if_pos (by omega)]; omega
theorem args3 (a b c : Int) (h : 0 ≤ a ∧ 0 ≤ b ∧ 0 ≤ c) : argL ([a, b, c].map fun n => [n]) 0 0 = a ∧ argL ([a, b, c].map fun n => [n]) 1 0 = b ∧ argL ([a, b, c].map fun n => [n]) 2 0 = c := by
 unfold argL
 refine ⟨?_, ?_, ?_⟩
 ·rw [if_neg (by simp)]
  show (if a < 0 then (0 : Int) else a) = a
  rw [if_neg (by omega)]
 ·rw [if_neg (by simp)]
  show (if b < 0 then (0 : Int) else b) = b
  rw [if_neg (by omega)]
 ·rw [if_neg (by simp)]
  show (if c < 0 then (0 : Int) else c) = c
  rw [if_neg (by omega)]
theorem mou_back {e : Ms} (h : mayT e = true) : decM (encM 1003 1006 e) = ({ e with mods := e.mods % 8 }, true) := by
 obtain ⟨hm, he⟩ := enc_1006 1003 h
 have hc := mcode_rng (mode := 1003) h
 have hx := may_cell h
 obtain ⟨_, ⟨m0, m1⟩, _⟩ := may_rng h
 have ht := takeS_put hm []
 rw [List.append_nil, ← he] at ht
 obtain ⟨a0, a1, a2⟩ := args3 (codeM 1003 e) e.x e.y ⟨hc.1, by omega, by omega⟩
 have hf : ((sqP 60 (if e.typ = 3 then 109 else 77) [codeM 1003 e, e.x, e.y]).final == 109) = decide (e.typ = 3) := by
  show (byt (if e.typ = 3 then 109 else 77) == 109) = _
  by_cases h3 : e.typ = 3
  ·rw [if_pos h3, decide_eq_true h3]; decide
  ·rw [if_neg h3, decide_eq_false h3]; decide
 have hg := guess_code h
 unfold decM
 rw [ht]
 show decS _ _ = _
 unfold decS
 rw [hf]
 show (if ([codeM 1003 e, e.x, e.y].map fun n => [n]).length ≠ 3 then _ else if 255 < argL ([codeM 1003 e, e.x, e.y].map fun n => [n]) 0 0 ∨ mayT (guessM (argL ([codeM 1003 e, e.x, e.y].map fun n => [n]) 0 0) (argL ([codeM 1003 e, e.x, e.y].map fun n => [n]) 1 0) (argL ([codeM 1003 e, e.x, e.y].map fun n => [n]) 2 0) (decide (e.typ = 3))) = false ∨ encM 1003 1006 (guessM (argL ([codeM 1003 e, e.x, e.y].map fun n => [n]) 0 0) (argL ([codeM 1003 e, e.x, e.y].map fun n => [n]) 1 0) (argL ([codeM 1003 e, e.x, e.y].map fun n => [n]) 2 0) (decide (e.typ = 3))) ≠ encM 1003 1006 e then _ else (guessM (argL ([codeM 1003 e, e.x, e.y].map fun n => [n]) 0 0) (argL ([codeM 1003 e, e.x, e.y].map fun n => [n]) 1 0) (argL ([codeM 1003 e, e.x, e.y].map fun n => [n]) 2 0) (decide (e.typ = 3)), true)) = _
 rw [a0, a1, a2, hg, if_neg (by simp), if_neg]
 rintro (h1 | h1 | h1)
 ·omega
 ·rw [may_mod h (by omega) (by omega)] at h1; cases h1
 ·exact h1 (enc_mod h 1006)
theorem mou_apart {e f : Ms} (h : mayT e = true) (g : mayT f = true) : encM 1003 1006 e = encM 1003 1006 f ↔ ({ e with mods := e.mods % 8 } : Ms) = { f with mods := f.mods % 8 } := by
 constructor
 ·intro he
  have := mou_back h
  rw [he, mou_back g] at this
  exact (Prod.mk.inj this).1.symm
 ·intro he
  rw [← enc_mod h 1006, he, enc_mod g 1006]
theorem mix16 {q r t u m n : Int} (q0 : 0 ≤ q) (q1 : q ≤ 131) (q2 : q % 64 ≤ 3) (r0 : 0 ≤ r) (r1 : r ≤ 131) (r2 : r % 64 ≤ 3) (ht : t = 0 ∨ t = 32) (hu : u = 0 ∨ u = 32) (hm : 0 ≤ m ∧ m < 8) (hn : 0 ≤ n ∧ n < 8) (h : q + (t + 4 * m) = r + (u + 4 * n)) : q = r ∧ t = u ∧ m = n := by
 rcases ht with rfl | rfl <;> rcases hu with rfl | rfl <;> omega
theorem lost_inj {e f : Ms} (h : mayT e = true) (g : mayT f = true) : lostM 1003 e = lostM 1003 f ↔ (e.typ = f.typ ∧ e.mods % 8 = f.mods % 8 ∧ (e.typ = 3 ∨ e.btn = f.btn)) := by
 have key : ∀ {e : Ms}, mayT e = true → ∃ q, 0 ≤ q ∧ q ≤ 131 ∧ q % 64 ≤ 3 ∧ (e.typ = 3 → q = 3) ∧ (e.typ = 1 → q ≠ 3) ∧ (e.typ ≠ 3 → q = numbM e.btn) ∧ lostM 1003 e = q + ((if e.typ = 4 then 32 else 0) + 4 * (e.mods % 8)) := by
  intro e h
  obtain ⟨⟨b0, b1⟩, ⟨m0, m1⟩, t1, t3, t4⟩ := may_rng h
  obtain ⟨⟨n0, n1⟩, n3, n4⟩ := numb_rng b0 b1
  by_cases h3 : e.typ = 3
  ·refine ⟨3, by omega, by omega, by omega, fun _ => rfl, fun h1 => by omega, fun h => absurd h3 h, ?_⟩
   unfold lostM
   rw [if_pos h3, marks_eq (by decide)]
  ·refine ⟨numbM e.btn, n0, n1, n4, fun h => absurd h h3, fun h1 => by have := t1 h1; omega, fun _ => rfl, ?_⟩
   unfold lostM
   rw [if_neg h3, code_eq h, marks_eq (by decide)]
 obtain ⟨q, q0, q1, q2, q3, q4, q5, hq⟩ := key h
 obtain ⟨r, r0, r1, r2, r3, r4, r5, hr⟩ := key g
 obtain ⟨⟨b0, b1⟩, ⟨m0, m1⟩, _⟩ := may_rng h
 obtain ⟨⟨c0, c1⟩, ⟨n0, n1⟩, _⟩ := may_rng g
 have te := may_typ15 h
 have tf := may_typ15 g
 rw [hq, hr]
 obtain ⟨t, ht⟩ : ∃ t : Int, (if e.typ = 4 then 32 else 0) = t := ⟨_, rfl⟩
 obtain ⟨u, hu⟩ : ∃ t : Int, (if f.typ = 4 then 32 else 0) = t := ⟨_, rfl⟩
 have ht2 : (e.typ = 4 ∧ t = 32) ∨ (e.typ ≠ 4 ∧ t = 0) := by rw [← ht]; by_cases x : e.typ = 4 <;> simp [x]
 have hu2 : (f.typ = 4 ∧ u = 32) ∨ (f.typ ≠ 4 ∧ u = 0) := by rw [← hu]; by_cases x : f.typ = 4 <;> simp [x]
 rw [ht, hu]
 clear hq hr ht hu
 constructor
 ·intro hh
  obtain ⟨hqr, htu, hm⟩ := mix16 q0 q1 q2 r0 r1 r2 (t := t) (u := u) (by omega) (by omega) (m := e.mods % 8) (n := f.mods % 8) (by omega) (by omega) hh
  have ht : e.typ = f.typ := by
   rcases te with te | te | te <;> rcases tf with tf | tf | tf
   ·omega
   ·exact absurd (by rw [hqr]; exact r3 tf) (q4 te)
   ·omega
   ·exact absurd (by rw [← hqr]; exact q3 te) (r4 tf)
   ·omega
   ·omega
   ·omega
   ·omega
   ·omega
  refine ⟨ht, hm, ?_⟩
  by_cases h3 : e.typ = 3
  ·exact .inl h3
  ·right
   have h1 := q5 h3
   have h2 := r5 (by omega)
   exact numb_inj b0 b1 c0 c1 (by omega)
 ·rintro ⟨ht, hm, hb⟩
  have hqr : q = r := by
   by_cases h3 : e.typ = 3
   ·rw [q3 h3, r3 (by omega)]
   ·rw [q5 h3, r5 (by omega)]
    rcases hb with hb | hb
    ·exact absurd hb h3
    ·rw [hb]
  have htu : t = u := by omega
  rw [hqr, htu, hm]
theorem put_cat {a b : Int} (ha : isPt a = true) (hb : isPt b = true) {m n : List UInt8} (h : putL a ++ m = putL b ++ n) : a = b ∧ m = n := by
 have h1 := take_put ha m
 have h2 := take_put hb n
 rw [h, h2] at h1
 have hab : b = a := (Prod.mk.inj h1).1
 subst hab
 exact ⟨rfl, List.append_cancel_left h⟩
theorem pt_low {a : Int} (h0 : 0 ≤ a) (h1 : a ≤ 3000) : isPt a = true := (isPt_iff a).2 ⟨h0, by omega, by omega⟩
theorem byt_inj16 {a b : Int} (a0 : 0 ≤ a) (a1 : a < 256) (b0 : 0 ≤ b) (b1 : b < 256) (h : byt a = byt b) : a = b := by
 rw [← byt_nat a a0 a1, h, byt_nat b b0 b1]
theorem enc_1005 (mode : Int) {e : Ms} (h : mayT e = true) : encM mode 1005 e = if 2015 < e.x ∨ 2015 < e.y then [] else [27, 91, 77] ++ putL (32 + lostM mode e) ++ putL (32 + e.x) ++ putL (32 + e.y) := by
 unfold encM
 rw [if_neg (by rw [h]; decide), if_neg (by decide), if_neg (by decide), if_pos rfl]
theorem enc_0 (mode : Int) {e : Ms} (h : mayT e = true) : encM mode 0 e = if 223 < e.x ∨ 223 < e.y then [] else [27, 91, 77, byt (32 + lostM mode e), byt (32 + e.x), byt (32 + e.y)] := by
 unfold encM
 rw [if_neg (by rw [h]; decide), if_neg (by decide), if_neg (by decide), if_neg (by decide)]
theorem mou_lost {e f : Ms} (h : mayT e = true) (g : mayT f = true) {c : Int} (hc : c = 0 ∨ c = 1005 ∨ c = 1015) (he : encM 1003 c e ≠ []) (hf : encM 1003 c f ≠ []) : encM 1003 c e = encM 1003 c f ↔ (e.typ = f.typ ∧ e.mods % 8 = f.mods % 8 ∧ (e.typ = 3 ∨ e.btn = f.btn)) ∧ e.x = f.x ∧ e.y = f.y := by
 obtain ⟨⟨x0, x1⟩, y0, y1⟩ := may_cell h
 obtain ⟨⟨u0, u1⟩, v0, v1⟩ := may_cell g
 obtain ⟨l0, l1⟩ := lost_rng (mode := 1003) h
 obtain ⟨k0, k1⟩ := lost_rng (mode := 1003) g
 rw [← lost_inj h g]
 rcases hc with rfl | rfl | rfl
 ·rw [enc_0 _ h] at he ⊢
  rw [enc_0 _ g] at hf ⊢
  by_cases p : 223 < e.x ∨ 223 < e.y
  ·rw [if_pos p] at he; exact absurd rfl he
  by_cases q : 223 < f.x ∨ 223 < f.y
  ·rw [if_pos q] at hf; exact absurd rfl hf
  rw [if_neg p, if_neg q]
  constructor
  ·intro hh
   simp only [List.cons.injEq, true_and, and_true] at hh
   have h1 := byt_inj16 (by omega) (by omega) (by omega) (by omega) hh.1
   have h2 := byt_inj16 (by omega) (by omega) (by omega) (by omega) hh.2.1
   have h3 := byt_inj16 (by omega) (by omega) (by omega) (by omega) hh.2.2
   omega
  ·rintro ⟨h1, h2, h3⟩
   rw [h1, h2, h3]
 ·rw [enc_1005 _ h] at he ⊢
  rw [enc_1005 _ g] at hf ⊢
  by_cases p : 2015 < e.x ∨ 2015 < e.y
  ·rw [if_pos p] at he; exact absurd rfl he
  by_cases q : 2015 < f.x ∨ 2015 < f.y
  ·rw [if_pos q] at hf; exact absurd rfl hf
  rw [if_neg p, if_neg q]
  constructor
  ·intro hh
   simp only [List.append_assoc] at hh
   have hh := List.append_cancel_left hh
   obtain ⟨h1, hh⟩ := put_cat (pt_low (by omega) (by omega)) (pt_low (by omega) (by omega)) hh
   obtain ⟨h2, hh⟩ := put_cat (pt_low (by omega) (by omega)) (pt_low (by omega) (by omega)) hh
   obtain ⟨h3, _⟩ := put_cat (a := 32 + e.y) (b := 32 + f.y) (m := []) (n := []) (pt_low (by omega) (by omega)) (pt_low (by omega) (by omega)) (by rw [hh])
   omega
  ·rintro ⟨h1, h2, h3⟩
   rw [h1, h2, h3]
 ·obtain ⟨hm, h1⟩ := enc_1015 1003 h
  obtain ⟨gm, g1⟩ := enc_1015 1003 g
  rw [h1, g1]
  constructor
  ·intro hh
   have := putS_inj hm gm hh
   unfold sqP at this
   simp only [Sq.mk.injEq, List.map_cons, List.map_nil, List.cons.injEq, true_and, and_true] at this
   omega
  ·rintro ⟨a, b, c⟩
   rw [a, b, c]
theorem mou_range (mode : Int) {e : Ms} (h : mayT e = true) : ((encM mode 0 e).length = 6 ↔ (e.x ≤ 223 ∧ e.y ≤ 223)) ∧ ((encM mode 0 e).length = 6 ∨ (encM mode 0 e).length = 0) ∧ (6 ≤ (encM mode 1005 e).length ↔ (e.x ≤ 2015 ∧ e.y ≤ 2015)) ∧ 0 < (encM mode 1015 e).length ∧ 0 < (encM mode 1006 e).length := by
 obtain ⟨⟨x0, x1⟩, y0, y1⟩ := may_cell h
 obtain ⟨l0, l1⟩ := lost_rng (mode := mode) h
 have n1 := putS_ne (s := sqP 0 77 [32 + lostM mode e, e.x, e.y])
 have n2 := putS_ne (s := sqP 60 (if e.typ = 3 then 109 else 77) [codeM mode e, e.x, e.y])
 refine ⟨?_, ?_, ?_, by rw [(enc_1015 mode h).2]; omega, by rw [(enc_1006 mode h).2]; omega⟩
 ·rw [enc_0 _ h]
  split
  ·simp; omega
  ·simp; omega
 ·rw [enc_0 _ h]
  split <;> simp
 ·rw [enc_1005 _ h]
  split
  ·simp; omega
  ·have p1 := putL_length (pt_low (a := 32 + lostM mode e) (by omega) (by omega))
   have p2 := putL_length (pt_low (a := 32 + e.x) (by omega) (by omega))
   have p3 := putL_length (pt_low (a := 32 + e.y) (by omega) (by omega))
   have c1 := (cnt_bd (32 + lostM mode e)).1
   have c2 := (cnt_bd (32 + e.x)).1
   have c3 := (cnt_bd (32 + e.y)).1
   simp only [List.length_append, List.length_cons, List.length_nil]
   omega
theorem enc_no {e : Ms} (h : mayT e = false) (mode c : Int) : encM mode c e = [] := if_pos h
theorem mou_old (c : Int) {e : Ms} (h : mayT e = true) {n : Int} (h0 : 0 ≤ n) (h1 : n ≤ 255) : encM 9 c e = encM 9 c { e with mods := n } := by
 have h' := may_mod h h0 h1
 have hk : marksM 9 { e with mods := n } = marksM 9 e := by unfold marksM; simp
 have hc : codeM 9 { e with mods := n } = codeM 9 e := by rw [code_eq h', code_eq h, hk]
 have hl : lostM 9 { e with mods := n } = lostM 9 e := by unfold lostM; rw [hk, hc]
 unfold encM
 rw [h, h', hc, hl]
end Go.Proofs.YtjlhhelikiegdaaDoor
