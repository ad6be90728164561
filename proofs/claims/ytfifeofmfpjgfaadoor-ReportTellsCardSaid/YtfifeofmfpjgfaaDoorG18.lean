/-
  Cut out of RepM: what names no function of any dump. Layer 16's mathematics: what a mouse's event sends, and back. Layer 19's mathematics: what the host is told. Stage 11, the landed legacy: its event as a value; has, put, single, and a sequence of numbers.
  Cut out of LegPw. Layer 8, the document's Push, walked.
  Cut out of StkP. A region that draws its order, with an append onto a row of one's own (and a store behind it). Stage 18: styles compared.
-/
import Derived.Test.YtfifeofmfpjgfaaDoorG04
import Derived.Test.YtfifeofmfpjgfaaDoorG07
import Derived.Test.YtfifeofmfpjgfaaDoorG08
import Derived.Test.YtfifeofmfpjgfaaDoorG09
import Derived.Test.YtfifeofmfpjgfaaDoorG11
import Derived.Test.YtfifeofmfpjgfaaDoorG12
import Derived.Test.YtfifeofmfpjgfaaDoorG14
import Derived.Test.YtfifeofmfpjgfaaDoorG17
namespace Go.Proofs.YtfifeofmfpjgfaaDoor
theorem pok_of {l : List (List Int)} (h : parOk l = true) : l.length ≤ 16 ∧ ∀ p ∈ l, pOk p := by
 unfold parOk at h
 simp only [Bool.and_eq_true, decide_eq_true_eq, List.all_eq_true] at h
 exact ⟨h.1.1, fun p hp => ⟨⟨(h.2 p hp).1.1, (h.2 p hp).1.2⟩, (h.2 p hp).2⟩⟩
def sqP (priv : UInt8) (f : Int) (l : List Int) : Sq := ⟨1, priv, l.map fun n => [n], [], byt f, []⟩
theorem seqp_may {priv : UInt8} {f : Int} {l : List Int} (hp : privOk priv = true) (h0 : 64 ≤ f) (h1 : f ≤ 126) (hl : l.length ≤ 16) (hn : ∀ n ∈ l, 0 ≤ n ∧ n ≤ 1114111) : mayS (sqP priv f l) = 0 := by
 have hpp := par_nums hl hn
 have hb := byt_btw (f := f) (a := 64) (b := 126) h0 h1 (by decide)
 have ho : okS (sqP priv f l) = true := by
  unfold okS sqP
  simp [lastOk, bareOk, hpp, hb, hp]
 unfold mayS
 rw [if_neg (by simp [sqP]), if_pos ho]
structure Sc where
 rows : Int
 cols : Int
 row : Int
 col : Int
 top : Int
 bottom : Int
 left : Int
 right : Int
 shape : Int
 style : Sy
def factR (n : Int) : Int := min (max n 0) 65535
theorem fact_rng (n : Int) : 0 ≤ factR n ∧ factR n ≤ 65535 := by unfold factR; omega
def twoR (a b : Int) : List UInt8 := textL (factR a) ++ (59 :: textL (factR b))
def saidR (s : Sc) (ask : List UInt8) : List UInt8 :=
 if ask = [109] then (if mayY s.style = true then parL (parY s.style) ++ [109] else [])
 else if ask = [114] then twoR s.top s.bottom ++ [114]
 else if ask = [115] then twoR s.left s.right ++ [115]
 else if ask = [32, 113] then textL (factR s.shape) ++ [32, 113]
 else if ask = [34, 112] then [54, 50, 59, 49, 34, 112] else []
def setR (s : Sc) (ask : List UInt8) : Sq := ⟨3, 0, [[if saidR s ask = [] then 0 else 1]], [36], 114, saidR s ask⟩
def placeR (s : Sc) (p : Bool) : Sq := if p = true then sqP 63 82 [factR s.row, factR s.col, 1] else sqP 0 82 [factR s.row, factR s.col]
def modeR (m : Mo) (p : Bool) (n : Int) : Sq := ⟨1, if p = true then 63 else 0, [[factR n], [getM m p n]], [36], 121, []⟩
def attrR (c : UInt8) : Sq := if c = 0 then sqP 63 99 [62, 22] else if c = 62 then sqP 62 99 [41, 1, 0] else if c = 61 then ⟨3, 0, [], [33], 124, [48, 48, 48, 48, 48, 48, 48, 48]⟩ else ⟨0, 0, [], [], 0, []⟩
def versR : Sq := ⟨3, 62, [], [], 124, [99, 108, 97, 118, 105, 101, 114, 40, 49, 41]⟩
def flagsR (f : Int) : Sq := sqP 63 117 [flg f]
def fineR : Sq := sqP 0 110 [0]
theorem isD_btw {c : UInt8} (h : isD c = true) : btw 32 126 c = true := by
 unfold isD at h
 unfold btw
 simp only [Bool.and_eq_true, decide_eq_true_eq] at h ⊢
 omega
theorem text_ok (n : Int) : (textL n).all (btw 32 126) = true := List.all_eq_true.2 fun c hc => isD_btw (text_all_isD n c hc)
theorem rpart_ok : ∀ p : List Int, (partL p).all (btw 32 126) = true
 | [] => rfl
 | [n] => text_ok n
 | n :: m :: p => by
   show (textL n ++ (58 :: partL (m :: p))).all _ = true
   rw [List.all_append, text_ok, List.all_cons, rpart_ok (m :: p)]
   rfl
theorem parl_ok : ∀ l : List (List Int), (parL l).all (btw 32 126) = true
 | [] => rfl
 | [p] => rpart_ok p
 | p :: q :: l => by
   show (partL p ++ (59 :: parL (q :: l))).all _ = true
   rw [List.all_append, rpart_ok, List.all_cons, parl_ok (q :: l)]
   rfl
theorem two_ok (a b : Int) : (twoR a b).all (btw 32 126) = true := by
 unfold twoR
 rw [List.all_append, text_ok, List.all_cons, text_ok]
 rfl
theorem said_ok (s : Sc) (ask : List UInt8) : (saidR s ask).all (btw 32 126) = true := by
 unfold saidR
 repeat' split
 all_goals first
  | rfl
  | (rw [List.all_append, parl_ok]; rfl)
  | (rw [List.all_append, two_ok]; rfl)
  | (rw [List.all_append, text_ok]; rfl)
  | decide
theorem said_known (s : Sc) {ask : List UInt8} (h : ask ≠ [109] ∧ ask ≠ [114] ∧ ask ≠ [115] ∧ ask ≠ [32, 113] ∧ ask ≠ [34, 112]) : saidR s ask = [] := by
 unfold saidR
 rw [if_neg h.1, if_neg h.2.1, if_neg h.2.2.1, if_neg h.2.2.2.1, if_neg h.2.2.2.2]
theorem set_refused (s : Sc) {a b : List UInt8} (ha : saidR s a = []) (hb : saidR s b = []) : setR s a = setR s b := by unfold setR; rw [ha, hb]
theorem fact_text (n : Int) : (textL (factR n)).length ≤ 21 := textL_length _ (by have := (fact_rng n).2; omega)
theorem two_len (a b : Int) : (twoR a b).length ≤ 43 := by
 have h1 := fact_text a
 have h2 := fact_text b
 unfold twoR
 simp only [List.length_append, List.length_cons]
 omega
theorem said_len (s : Sc) (ask : List UInt8) : (saidR s ask).length ≤ 4096 := by
 have t1 := two_len s.top s.bottom
 have t2 := two_len s.left s.right
 have t3 := fact_text s.shape
 unfold saidR
 split
 ·split
  ·rename_i hm
   obtain ⟨h1, h2⟩ := pok_of (spar_ok hm).1
   have := parl_len _ h2
   simp only [List.length_append, List.length_singleton]
   omega
  ·simp
 ·split
  ·simp only [List.length_append, List.length_singleton]; omega
  ·split
   ·simp only [List.length_append, List.length_singleton]; omega
   ·split
    ·simp only [List.length_append, List.length_cons, List.length_nil]; omega
    ·split <;> simp
theorem set_may19 (s : Sc) (ask : List UInt8) : mayS (setR s ask) = 0 := by
 have hl := said_len s ask
 have hd := said_ok s ask
 obtain ⟨v, hv⟩ : ∃ v : Int, (if saidR s ask = [] then (0 : Int) else 1) = v := ⟨_, rfl⟩
 have hv2 : 0 ≤ v ∧ v ≤ 1 := by rw [← hv]; split <;> omega
 have hp : parOk [[v]] = true := par_nums (l := [v]) (by simp) (fun n hn => by rw [List.mem_singleton.1 hn]; omega)
 have ho : okS ⟨3, 0, [[v]], [36], 114, saidR s ask⟩ = true := by
  unfold okS
  have h1 : btw 32 47 36 = true := by decide
  have h2 : btw 64 126 114 = true := by decide
  simp [privOk, lastOk, bareOk, hp, hd, h1, h2]
 unfold setR
 rw [hv]
 unfold mayS
 rw [if_neg (by show ¬ 4096 < (saidR s ask).length; omega), if_pos ho]
theorem place_may (s : Sc) (p : Bool) : mayS (placeR s p) = 0 := by
 have h1 := fact_rng s.row
 have h2 := fact_rng s.col
 unfold placeR
 split
 ·exact seqp_may (by decide) (by decide) (by decide) (by simp) (fun n hn => by
   simp only [List.mem_cons, List.not_mem_nil, or_false] at hn
   rcases hn with rfl | rfl | rfl <;> omega)
 ·exact seqp_may (by decide) (by decide) (by decide) (by simp) (fun n hn => by
   simp only [List.mem_cons, List.not_mem_nil, or_false] at hn
   rcases hn with rfl | rfl <;> omega)
theorem flags_may (f : Int) : mayS (flagsR f) = 0 := by
 have h := flg_rng f
 exact seqp_may (by decide) (by decide) (by decide) (by simp) (fun n hn => by rw [List.mem_singleton.1 hn]; omega)
theorem mode_may (m : Mo) (p : Bool) (n : Int) : mayS (modeR m p n) = 0 := by
 have h1 := fact_rng n
 have h2 := get_rng m p n
 have hp : parOk [[factR n], [getM m p n]] = true := par_nums (l := [factR n, getM m p n]) (by simp) (fun n hn => by
  simp only [List.mem_cons, List.not_mem_nil, or_false] at hn
  rcases hn with rfl | rfl <;> omega)
 have hq : privOk (if p = true then 63 else 0) = true := by cases p <;> decide
 have ho : okS (modeR m p n) = true := by
  unfold okS modeR
  have h3 : btw 32 47 36 = true := by decide
  have h4 : btw 64 126 121 = true := by decide
  simp [lastOk, bareOk, hp, hq, h3, h4]
 unfold mayS
 rw [if_neg (by simp [modeR]), if_pos ho]
theorem rest_may : mayS fineR = 0 ∧ mayS versR = 0 ∧ mayS (attrR 0) = 0 ∧ mayS (attrR 62) = 0 ∧ mayS (attrR 61) = 0 := by decide +kernel
theorem set_style {s t : Sc} (hs : mayY s.style = true) (ht : mayY t.style = true) : setR s [109] = setR t [109] ↔ s.style = t.style := by
 have e : ∀ {s : Sc}, mayY s.style = true → saidR s [109] = parL (parY s.style) ++ [109] := fun {s} h => by
  unfold saidR
  rw [if_pos rfl, if_pos h]
 constructor
 ·intro h
  have := congrArg Sq.data h
  have h2 : saidR s [109] = saidR t [109] := this
  rw [e hs, e ht] at h2
  exact (sty_text hs ht).1 (List.append_cancel_right h2)
 ·intro h
  unfold setR
  rw [e hs, e ht, h]
theorem place_same (s t : Sc) (p : Bool) : (placeR s p = placeR t p ↔ factR s.row = factR t.row ∧ factR s.col = factR t.col) ∧ placeR s p ≠ placeR s (!p) := by
 constructor
 ·unfold placeR sqP
  cases p <;> simp
 ·cases p
  ·intro h
   have := congrArg Sq.priv h
   simp [placeR, sqP] at this
  ·intro h
   have := congrArg Sq.priv h
   simp [placeR, sqP] at this
end Go.Proofs.YtfifeofmfpjgfaaDoor
namespace Go.Proofs.YtfifeofmfpjgfaaDoor
open Go.RowKit
theorem Blk.wp_get {P : Program} {ops : Array Oper} {rest : List Oper} {op : Oper} {a : Act} {w : World} {g : Nat} {t : TypeId} {cs : Array Value} {td : TypeDesc} {Q : Exit → Act → World → Prop} (h : Blk w g t cs) (hu : P.underlying t = some td) (hr : td.isRow = true) (hi : (P.info? t).map (·.size) = some cs.size) (hgd : op.guard = none) (x : Operand) (ho : op.op = .load t x) (hx : a.eval x = .pointer (some ⟨g, 0, none⟩))
 (hK : wpList P ops Q rest (a.put op.dst (.agg cs)) w) : wpList P ops Q (op :: rest) a w :=
 wpList_load_mid hgd t x ho g 0 hx cs.toList td h.range hu hr (by rw [hi, Array.length_toList]) hK
def StkE (S : Nat → Prop) (x : St) (w : World) (e : Ending) (w' : World) : Prop := ∃ A k c, e = .returned (stV x.now A k c) ∧ (x.kept.length = k ∧ k ≤ c) ∧ RdOff w' S A (is_ x.kept) ∧ Below w.heap.size w w'
theorem Tryd.intinfo8 : (Tryd.prog.info? 3).map (fun i => (i.zero, i.size, i.bytes)) = some (some (.int .i64 0), 1, 8) := by kernel_rfl
theorem is_one8 (l : List Int) : ∀ u ∈ is_ l, u.oneCell' = true := ints_one l
theorem is_len (l : List Int) : (is_ l).length = l.length := by simp [is_]
theorem below_step8 {w w1 w2 : World} {n : Nat} (h : Below n w w1) (h' : Below w1.heap.size w1 w2) (hn : n ≤ w1.heap.size) : Below n w w2 := h.trans (h'.mono hn)
section
section
variable {P : Program} {ops : Array Oper} {md : Region.Mode} {w1 : World} {K : List Fact} {ix iz : Nat} {R1 : (Tmp → Value) → World → World → Prop} {aF : (Tmp → Value) → Act} {i : Nat} {o : Oper}
end
end
theorem sy_same (a0 a1 a2 a3 a4 a5 a6 : Bool) (a7 a8 a9 : Int) (p q : Operand) (w : World) : (do eqGuard .eql 23 p q (.agg #[.bool a0, .bool a1, .bool a2, .bool a3, .bool a4, .bool a5, .bool a6, .int .i64 a7, .int .i64 a8, .int .i64 a9]) (.agg #[.bool a0, .bool a1, .bool a2, .bool a3, .bool a4, .bool a5, .bool a6, .int .i64 a7, .int .i64 a8, .int .i64 a9]); binOp .eql 23 (.agg #[.bool a0, .bool a1, .bool a2, .bool a3, .bool a4, .bool a5, .bool a6, .int .i64 a7, .int .i64 a8, .int .i64 a9]) (.agg #[.bool a0, .bool a1, .bool a2, .bool a3, .bool a4, .bool a5, .bool a6, .int .i64 a7, .int .i64 a8, .int .i64 a9]) : Sem Value).run Tryd.prog w = .ok (.bool true) w := by
 go_simp
theorem sy_diff (a0 a1 a2 a3 a4 a5 a6 b0 b1 b2 b3 b4 b5 b6 : Bool) (a7 a8 a9 b7 b8 b9 : Int) (h : ¬ (a0 = b0 ∧ a1 = b1 ∧ a2 = b2 ∧ a3 = b3 ∧ a4 = b4 ∧ a5 = b5 ∧ a6 = b6 ∧ a7 = b7 ∧ a8 = b8 ∧ a9 = b9)) (p q : Operand) (w : World) : (do eqGuard .eql 23 p q (.agg #[.bool a0, .bool a1, .bool a2, .bool a3, .bool a4, .bool a5, .bool a6, .int .i64 a7, .int .i64 a8, .int .i64 a9]) (.agg #[.bool b0, .bool b1, .bool b2, .bool b3, .bool b4, .bool b5, .bool b6, .int .i64 b7, .int .i64 b8, .int .i64 b9]); binOp .eql 23 (.agg #[.bool a0, .bool a1, .bool a2, .bool a3, .bool a4, .bool a5, .bool a6, .int .i64 a7, .int .i64 a8, .int .i64 a9]) (.agg #[.bool b0, .bool b1, .bool b2, .bool b3, .bool b4, .bool b5, .bool b6, .int .i64 b7, .int .i64 b8, .int .i64 b9]) : Sem Value).run Tryd.prog w = .ok (.bool false) w := by
 by_cases h0 : a0 = b0
 ·by_cases h1 : a1 = b1
  ·by_cases h2 : a2 = b2
   ·by_cases h3 : a3 = b3
    ·by_cases h4 : a4 = b4
     ·by_cases h5 : a5 = b5
      ·by_cases h6 : a6 = b6
       ·by_cases h7 : a7 = b7
        ·by_cases h8 : a8 = b8
         ·by_cases h9 : a9 = b9
          ·exact absurd ⟨h0, h1, h2, h3, h4, h5, h6, h7, h8, h9⟩ h
          ·subst h0 h1 h2 h3 h4 h5 h6 h7 h8
           clear h
           have t : (a9 == b9) = false := beq_false_of_ne h9
           go_simp
         ·subst h0 h1 h2 h3 h4 h5 h6 h7
          clear h
          have t : (a8 == b8) = false := beq_false_of_ne h8
          go_simp
        ·subst h0 h1 h2 h3 h4 h5 h6
         clear h
         have t : (a7 == b7) = false := beq_false_of_ne h7
         go_simp
       ·subst h0 h1 h2 h3 h4 h5
        clear h
        have t : (a6 == b6) = false := beq_false_of_ne h6
        go_simp
      ·subst h0 h1 h2 h3 h4
       clear h
       have t : (a5 == b5) = false := beq_false_of_ne h5
       go_simp
     ·subst h0 h1 h2 h3
      clear h
      have t : (a4 == b4) = false := beq_false_of_ne h4
      go_simp
    ·subst h0 h1 h2
     clear h
     have t : (a3 == b3) = false := beq_false_of_ne h3
     go_simp
   ·subst h0 h1
    clear h
    have t : (a2 == b2) = false := beq_false_of_ne h2
    go_simp
  ·subst h0
   clear h
   have t : (a1 == b1) = false := beq_false_of_ne h1
   go_simp
 ·clear h
  have t : (a0 == b0) = false := beq_false_of_ne h0
  go_simp
theorem sy_eql (s t : Sy) (r : Bool) (h : r = true ↔ s = t) (p q : Operand) (w : World) : (do eqGuard .eql 23 p q (syV s) (syV t); binOp .eql 23 (syV s) (syV t) : Sem Value).run Tryd.prog w = .ok (.bool r) w := by
 obtain ⟨a0, a1, a2, a3, a4, a5, a6, a7, a8, a9⟩ := s
 obtain ⟨b0, b1, b2, b3, b4, b5, b6, b7, b8, b9⟩ := t
 cases r with
 | true =>
   have e := h.1 rfl
   simp only [Sy.mk.injEq] at e
   obtain ⟨rfl, rfl, rfl, rfl, rfl, rfl, rfl, rfl, rfl, rfl⟩ := e
   exact sy_same _ _ _ _ _ _ _ _ _ _ _ _ _
 | false =>
   exact sy_diff _ _ _ _ _ _ _ _ _ _ _ _ _ _ _ _ _ _ _ _ (fun ⟨e0, e1, e2, e3, e4, e5, e6, e7, e8, e9⟩ => by
    have := h.2 (by subst e0 e1 e2 e3 e4 e5 e6 e7 e8 e9; rfl)
    cases this) _ _ _
end Go.Proofs.YtfifeofmfpjgfaaDoor
