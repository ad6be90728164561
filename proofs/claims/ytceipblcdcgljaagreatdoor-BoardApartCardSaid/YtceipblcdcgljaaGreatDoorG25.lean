/-
  Stage 14, the landed board: Clears, the ways (a map of closures), Key. Stage 11, the landed legacy: a key of the pad. Stage 11, the landed legacy: Key, whatever the event.
-/
import Derived.Test.YtceipblcdcgljaaGreatDoorG02
import Derived.Test.YtceipblcdcgljaaGreatDoorG07
import Derived.Test.YtceipblcdcgljaaGreatDoorG11
import Derived.Test.YtceipblcdcgljaaGreatDoorG12
import Derived.Test.YtceipblcdcgljaaGreatDoorG15
import Derived.Test.YtceipblcdcgljaaGreatDoorG18
import Derived.Test.YtceipblcdcgljaaGreatDoorG23
import Derived.Test.YtceipblcdcgljaaGreatDoorG24
namespace Go.Proofs.YtceipblcdcgljaaGreatDoor
open Go.RowKit Go.Maps
theorem brd_and (x : Nat) : x &&& 9 = 0 ↔ x % 2 = 0 ∧ x / 8 % 2 = 0 := by
 have h9 : (9 : Nat) = 2 ^ 0 ||| 2 ^ 3 := by decide
 have h0 := kip_and x 0
 have h3 := kip_and x 3
 rw [Nat.testBit_eq_decide_div_mod_eq] at h0 h3
 rw [h9, Nat.and_or_distrib_left, Nat.or_eq_zero_iff, h0, h3]
 simp
theorem brd_clears {f : Int} (h2 : f ≤ 9223372036854775807) : (bits .and .i64 (max f 0) 9 != 0) = clearsK f := by
 obtain ⟨x, hx⟩ := Int.eq_ofNat_of_zero_le (show 0 ≤ max f 0 by omega)
 have hl : x < 2 ^ 63 := by omega
 unfold clearsK flg
 have hb : bits .and .i64 (x : Int) 9 = ((x &&& 9 : Nat) : Int) := (bits_nat .i64 63 (by decide) (fun n a b => by rw [IntKind.wrap_i64]; omega) x 9 hl (by decide)).1
 rw [hx, hb]
 have hz := brd_and x
 rw [Bool.eq_iff_iff, bne_iff_ne, Bool.or_eq_true, beq_iff_eq, beq_iff_eq]
 have e : ((x &&& 9 : Nat) : Int) ≠ 0 ↔ ¬ (x &&& 9 = 0) := by omega
 rw [e, hz]
 omega
set_option maxRecDepth 100000 in
set_option maxHeartbeats 4000000 in
theorem bclears_any (f : Int) (hf : in10 f) (w : World) : Calls Tryz.prog 12 #[.int .i64 f] w fun e w' => e = .returned (.bool (clearsK f)) ∧ Below w.heap.size w w' := by
 have hc := brd_clears (f := f) hf.2
 have HM := Lib.hid hc
 by_cases hn : f < 0
 ·rw [show max f 0 = 0 by omega] at hc
  have HC := Lib.hid hc
  clear hc
  go_enter Tryz.func12, Tryz.ntmps12
  go_wp2_with fail
  go_ret
  exact ⟨by first | (rw [← HC.out]; rfl) | (rw [← HM.out]; rfl), Below.refl _ _⟩
 ·rw [show max f 0 = f by omega] at hc
  have HC := Lib.hid hc
  clear hc
  go_enter Tryz.func12, Tryz.ntmps12
  go_wp2_with fail
  go_ret
  exact ⟨by first | (rw [← HC.out]; rfl) | (rw [← HM.out]; rfl), Below.refl _ _⟩
theorem kbool14 : Keyed Tryz.prog 4 := bool_keyed Tryz.underlying4
theorem keyb14 (q : Bool) : keyOf Tryz.prog 4 (.bool q) = some (.bool q) := keyOf_bool_mk Tryz.underlying4 q
def bway1 (bf bk : Nat) : Value := .func (.func 31) #[] #[.pointer (some ⟨bf, 0, none⟩), .pointer (some ⟨bk, 0, none⟩)]
def bway2 (bm bk : Nat) : Value := .func (.func 33) #[] #[.pointer (some ⟨bm, 0, none⟩), .pointer (some ⟨bk, 0, none⟩)]
def bwaysL (bm bf bk : Nat) : List (Lit × DataW Value) := [(.bool false, .held (bway2 bm bk)), (.bool true, .held (bway1 bf bk))]
def BwaysE (m : Mo) (f : Int) (k : Ky) (w : World) (e : Ending) (w' : World) : Prop := ∃ bm bf bk b n, e = .returned (.map (some b)) ∧ Blk w' bm 23 (moC m) ∧ Blk w' bf 3 #[.int .i64 f] ∧ Blk w' bk 25 (kyC k) ∧ w'.ownsMap Tryz.prog 4 hel b n (.map (bwaysL bm bf bk)) ∧ Below w.heap.size w w'
theorem below_but14 {B b : Nat} {a w w' : World} (h : Below B a w) (hg : w.grownBy w' (some b)) (hB : B ≤ w.heap.size) (hb : B ≤ b) : Below B a w' :=
 ⟨hg.os.trans h.os, hg.tape.trans h.tape, hg.output.trans h.output, Nat.le_trans h.size hg.size, fun k hk => (hg.block k (Nat.lt_of_lt_of_le hk hB) (fun e => by injection e with e; omega)).trans (h.block k hk)⟩
theorem own_below14 {w w' : World} {K : TypeId} {b n : Nat} {D : DataW Value} (h : w.ownsMap Tryz.prog K hel b n D) (hb : Below w.heap.size w w') : w'.ownsMap Tryz.prog K hel b n D := by
 have hlt := h.lt
 obtain ⟨es, clock, h1, h2⟩ := h
 exact ⟨es, clock, (hb.block b hlt).trans h1, h2⟩
set_option maxRecDepth 100000 in
set_option maxHeartbeats 4000000 in
theorem bways_any (m : Mo) (f : Int) (k : Ky) (w : World) : Calls Tryz.prog 18 #[moV m, .int .i64 f, kyV k] w (BwaysE m f k w) := by
 have hB1 : Below w.heap.size w (w.alloc (.cells (moC m) 23)) := (Below.refl _ w).alloc (Nat.le_refl _) _
 have k1 := Blk.new w 23 (moC m)
 obtain ⟨w1, hw1⟩ : ∃ w1, w.alloc (.cells (moC m) 23) = w1 := ⟨_, rfl⟩
 rw [hw1] at hB1 k1
 have hB2 := hB1.alloc hB1.size (.cells #[.int .i64 f] 3)
 have k2 := Blk.new w1 3 #[.int .i64 f]
 have s1 : w.heap.size + 1 = w1.heap.size := by rw [← hw1]; simp
 replace k1 := k1.alloc (.cells #[.int .i64 f] 3)
 obtain ⟨w2, hw2⟩ : ∃ w2, w1.alloc (.cells #[.int .i64 f] 3) = w2 := ⟨_, rfl⟩
 rw [hw2] at hB2 k1 k2
 have hB3 := hB2.alloc hB2.size (.cells (kyC k) 25)
 have k3 := Blk.new w2 25 (kyC k)
 have s2 : w1.heap.size + 1 = w2.heap.size := by rw [← hw2]; simp
 replace k1 := k1.alloc (.cells (kyC k) 25)
 replace k2 := k2.alloc (.cells (kyC k) 25)
 obtain ⟨w3, hw3⟩ : ∃ w3, w2.alloc (.cells (kyC k) 25) = w3 := ⟨_, rfl⟩
 rw [hw3] at hB3 k1 k2 k3
 have s3 : w2.heap.size + 1 = w3.heap.size := by rw [← hw3]; simp
 have hB4 := hB3.alloc hB3.size (.map #[] 0)
 replace k1 := k1.alloc (.map #[] 0)
 replace k2 := k2.alloc (.map #[] 0)
 replace k3 := k3.alloc (.map #[] 0)
 have o0 := World.ownsMap_made w3 Tryz.prog 4 hel
 have hmm := @run_makeMap Tryz.prog
 obtain ⟨w4, r4, o4, t4⟩ := o0.store kbool14 Tryz.underlying47 (by decide) (keyb14 true) (show hel (bway1 w1.heap.size w2.heap.size) = some (.held (bway1 w1.heap.size w2.heap.size), []) from rfl)
 obtain ⟨w5, r5, o5, t5⟩ := o4.store kbool14 Tryz.underlying47 (by decide) (keyb14 false) (show hel (bway2 w.heap.size w2.heap.size) = some (.held (bway2 w.heap.size w2.heap.size), []) from rfl)
 have hb4 := below_but14 hB4 t4.grown hB4.size hB3.size
 have hb5 := below_but14 hb4 t5.grown hb4.size hB3.size
 replace k1 := (k1.grown t4.grown (by simp; omega)).grown t5.grown (by simp; omega)
 replace k2 := (k2.grown t4.grown (by simp; omega)).grown t5.grown (by simp; omega)
 replace k3 := (k3.grown t4.grown (by simp; omega)).grown t5.grown (by simp; omega)
 rw [bway1] at r4
 rw [bway2] at r5
 clear o0 o4 t4 t5 hB1 hB2 hB3 hB4 hb4
 have O := Lib.hid o5
 have K1 := Lib.hid k1
 have K2 := Lib.hid k2
 have K3 := Lib.hid k3
 clear o5 k1 k2 k3
 rw [moV, kyV]
 unfold moC at hw1
 unfold kyC at hw3
 go_enter Tryz.func18, Tryz.ntmps18
 go_wp2_with fail
 refine bodyPost_ret (v := .map (some w3.heap.size)) (by simp [results, Tryz.results18, go_sem]) rfl ⟨w.heap.size, w1.heap.size, w2.heap.size, w3.heap.size, _, rfl, K1.out, K2.out, K3.out, O.out, hb5⟩
theorem bways_look {w : World} {bm bf bk b n : Nat} (q : Bool) (h : w.ownsMap Tryz.prog 4 hel b n (.map (bwaysL bm bf bk))) :
 (Instr.lookup 47 (.map (some b)) (.bool q) false).run Tryz.prog w = .ok (if q = true then bway1 bf bk else bway2 bm bk) w := by
 obtain ⟨v1, p1, h1, e1⟩ := h.lookup kbool14 Tryz.underlying47 (show (zeroValue 46).run Tryz.prog w = .ok .nilFunc w by kernel_rfl) (show hel .nilFunc = some (.held .nilFunc, []) from rfl) (keyb14 q)
 have e2 : (DataW.map (bwaysL bm bf bk)).atKey (.bool q) (.held .nilFunc) = .held (if q = true then bway1 bf bk else bway2 bm bk) := by cases q <;> kernel_rfl
 rw [e2] at e1
 have e1' : v1 = if q = true then bway1 bf bk else bway2 bm bk := by simpa [hel] using congrArg (Option.map Prod.fst) e1
 rw [e1'] at h1
 exact h1
set_option maxRecDepth 100000 in
set_option maxHeartbeats 4000000 in
theorem bway1_any {bf bk : Nat} {f : Int} {k : Ky} {rm : Bool} {L : List UInt8} {w : World} (hf : Blk w bf 3 #[.int .i64 f]) (hk : Blk w bk 25 (kyC k)) (HK : ∀ W, Below w.heap.size w W → Calls Tryz.prog 32 #[.int .i64 f, kyV k] W (OutT rm L W)) : Calls Tryz.prog 31 #[.pointer (some ⟨bf, 0, none⟩), .pointer (some ⟨bk, 0, none⟩)] w (OutT rm L w) := by
 have c0 := hf.cell 0
 obtain ⟨a0, a1, a2, a3, a4, a5⟩ := Blk.cells6 hk
 have HH := Lib.hid HK
 clear HK
 unfold kyV at HH
 go_enter Tryz.func31, Tryz.ntmps31
 go_wp2_with fail
 refine (HH.out _ (Below.refl _ _)).mono ?_
 rintro e w1 ⟨A, n, c, rfl, hn, hc, hr, hb⟩
 go_wp2_with fail
 refine bodyPost_ret (v := .slice A n c) (by simp [results, Tryz.results31, go_sem]) rfl ⟨A, n, c, rfl, hn, hc, hr, hb⟩
set_option maxRecDepth 100000 in
set_option maxHeartbeats 4000000 in
theorem bway2_any {bm bk : Nat} {m : Mo} {k : Ky} {rm q : Bool} {Lo L M : List UInt8} {no : Nat} {w : World} (hM1 : q = true → Lo = M) (hM2 : q = false → L = M) (hn : Lo.length = no) (hm : Blk w bm 23 (moC m)) (hk : Blk w bk 25 (kyC k)) (HO : ∀ W, Below w.heap.size w W → Calls Tryz.prog 34 #[moV m, kyV k] W (OutCq Lo no q W)) (HL : q = false → ∀ W, Below w.heap.size w W → Calls Tryz.prog 35 #[moV m, kyV k] W (OutT rm L W)) : Calls Tryz.prog 33 #[.pointer (some ⟨bm, 0, none⟩), .pointer (some ⟨bk, 0, none⟩)] w (OutT rm M w) := by
 have H1 := Lib.hid hM1
 have H2 := Lib.hid hM2
 clear hM1 hM2
 obtain ⟨a0, a1, a2, a3, a4, a5⟩ := Blk.cells6 hk
 obtain ⟨b0, b1, b2, b3, b4, b5, b6, b7, b8, b9⟩ := Blk.cells10 hm
 have HN := Lib.hid hn
 have HH := Lib.hid HO
 have HG := Lib.hid HL
 clear HO HL hn
 unfold kyV moV at HH HG
 have hB0 := Below.refl w.heap.size w
 go_enter Tryz.func33, Tryz.ntmps33
 go_wp2_with fail
 refine (HH.out _ (Below.refl _ _)).mono ?_
 rintro e w1 ⟨A, c, rfl, hc, hr, hb⟩
 cases q with
 | true =>
   obtain rfl : Lo = M := H1.out rfl
   clear HG HH H1 H2
   go_wp2_with fail
   refine bodyPost_ret (v := .slice A no c) (by simp [results, Tryz.results33, go_sem]) rfl ⟨A, no, c, rfl, HN.out, fun _ => hc, hr, hb⟩
 | false =>
   have hL := Lib.hid (HG.out rfl)
   obtain rfl : L = M := H2.out rfl
   clear HG HH H1 H2 hr hc a0 a1 a2 a3 a4 a5 b0 b1 b2 b3 b4 b5 b6 b7 b8 b9
   obtain ⟨a0, a1, a2, a3, a4, a5⟩ := Blk.cells6 (hk.below hb hk.lt)
   obtain ⟨b0, b1, b2, b3, b4, b5, b6, b7, b8, b9⟩ := Blk.cells10 (hm.below hb hm.lt)
   go_wp2_with fail
   refine (hL.out _ hb).mono ?_
   rintro e w2 ⟨A2, n2, c2, rfl, hn2, hc2, hr2, hb2⟩
   go_wp2_with fail
   refine bodyPost_ret (v := .slice A2 n2 c2) (by simp [results, Tryz.results33, go_sem]) rfl ⟨A2, n2, c2, rfl, hn2, hc2, hr2, hb.trans (hb2.mono hb.size)⟩
set_option maxRecDepth 100000 in
set_option maxHeartbeats 8000000 in
theorem bkey_lock (m : Mo) (hl : m.lock = true) (f : Int) (k : Ky) (w : World) : Calls Tryz.prog 10 #[moV m, .int .i64 f, kyV k] w (OutT true [] w) := by
 obtain ⟨m1, m2, m3, m4, m5, m6, m7, m8, m9, m10⟩ := m
 subst hl
 rw [moV, kyV]
 have k0 := Blk.new w 23 #[.bool m1, .bool m2, .bool m3, .bool m4, .bool m5, .bool true, .bool m7, .int .i64 m8, .int .i64 m9, .int .i64 m10]
 have hB : Below w.heap.size w ((w.alloc (.cells #[.bool m1, .bool m2, .bool m3, .bool m4, .bool m5, .bool true, .bool m7, .int .i64 m8, .int .i64 m9, .int .i64 m10] 23)).alloc (.cells #[.int .i64 k.code, .int .i64 k.mods, .int .i64 k.typ, .int .i64 k.shift, .int .i64 k.base, .string k.text] 25)) := ((Below.refl w.heap.size w).alloc (Nat.le_refl _) _).alloc (by simp) _
 replace k0 := k0.alloc (.cells #[.int .i64 k.code, .int .i64 k.mods, .int .i64 k.typ, .int .i64 k.shift, .int .i64 k.base, .string k.text] 25)
 have c5 := k0.cell 5
 go_enter Tryz.func10, Tryz.ntmps10
 go_wp2_with fail
 refine bodyPost_ret (v := .slice none 0 0) (by simp [results, Tryz.results10, go_sem]) rfl (OutT.nil rfl hB)
set_option maxRecDepth 100000 in
set_option maxHeartbeats 8000000 in
theorem bkey_open (m : Mo) (hl : m.lock = false) (f : Int) (k : Ky) (hf : in10 f) {rm q : Bool} {Lo Ll L M : List UInt8} {no : Nat} (hn : Lo.length = no) (h1 : clearsK f = true → L = M) (h2 : clearsK f = false → q = true → Lo = M) (h3 : clearsK f = false → q = false → Ll = M) (w : World) (HK : clearsK f = true → ∀ W, Below w.heap.size w W → Calls Tryz.prog 32 #[.int .i64 f, kyV k] W (OutT rm L W)) (HO : ∀ W, Below w.heap.size w W → Calls Tryz.prog 34 #[moV m, kyV k] W (OutCq Lo no q W)) (HL : clearsK f = false → q = false → ∀ W, Below w.heap.size w W → Calls Tryz.prog 35 #[moV m, kyV k] W (OutT rm Ll W)) : Calls Tryz.prog 10 #[moV m, .int .i64 f, kyV k] w (OutT rm M w) := by
 obtain ⟨mm, hmm⟩ : ∃ x, m = x := ⟨_, rfl⟩
 have hW := bways_any m f k
 have hC := bclears_any f hf
 rw [hmm] at HO HL hW
 have HW := Lib.hid hW
 have HN := Lib.hid hn
 have HKK := Lib.hid HK
 have HOO := Lib.hid HO
 have HLL := Lib.hid HL
 have H1 := Lib.hid h1
 have H2 := Lib.hid h2
 have H3 := Lib.hid h3
 have HC := Lib.hid hC
 clear hW hC HK HO HL h1 h2 h3 hn
 obtain ⟨p, hp⟩ : ∃ p, clearsK f = p := ⟨_, rfl⟩
 rw [hp] at HKK HLL H1 H2 H3 HC
 clear hp hf
 obtain ⟨m1, m2, m3, m4, m5, m6, m7, m8, m9, m10⟩ := m
 subst hl
 rw [← hmm] at HW
 have HM := Lib.hid hmm
 clear hmm
 rw [moV, kyV]
 rw [moV, kyV] at HW
 have k0 := Blk.new w 23 #[.bool m1, .bool m2, .bool m3, .bool m4, .bool m5, .bool false, .bool m7, .int .i64 m8, .int .i64 m9, .int .i64 m10]
 have hB : Below w.heap.size w ((w.alloc (.cells #[.bool m1, .bool m2, .bool m3, .bool m4, .bool m5, .bool false, .bool m7, .int .i64 m8, .int .i64 m9, .int .i64 m10] 23)).alloc (.cells #[.int .i64 k.code, .int .i64 k.mods, .int .i64 k.typ, .int .i64 k.shift, .int .i64 k.base, .string k.text] 25)) := ((Below.refl w.heap.size w).alloc (Nat.le_refl _) _).alloc (by simp) _
 have y0 : Blk ((w.alloc (.cells #[.bool m1, .bool m2, .bool m3, .bool m4, .bool m5, .bool false, .bool m7, .int .i64 m8, .int .i64 m9, .int .i64 m10] 23)).alloc (.cells #[.int .i64 k.code, .int .i64 k.mods, .int .i64 k.typ, .int .i64 k.shift, .int .i64 k.base, .string k.text] 25)) (w.heap.size + 1) 25 #[.int .i64 k.code, .int .i64 k.mods, .int .i64 k.typ, .int .i64 k.shift, .int .i64 k.base, .string k.text] := by
  have := Blk.new (w.alloc (.cells #[.bool m1, .bool m2, .bool m3, .bool m4, .bool m5, .bool false, .bool m7, .int .i64 m8, .int .i64 m9, .int .i64 m10] 23)) 25 #[.int .i64 k.code, .int .i64 k.mods, .int .i64 k.typ, .int .i64 k.shift, .int .i64 k.base, .string k.text]
  rwa [World.size_alloc] at this
 replace k0 := k0.alloc (.cells #[.int .i64 k.code, .int .i64 k.mods, .int .i64 k.typ, .int .i64 k.shift, .int .i64 k.base, .string k.text] 25)
 obtain ⟨b0, b1, b2, b3, b4, b5, b6, b7, b8, b9⟩ := Blk.cells10 k0
 obtain ⟨a0, a1, a2, a3, a4, a5⟩ := Blk.cells6 y0
 go_enter Tryz.func10, Tryz.ntmps10
 go_wp2_with fail
 refine (HW.out _).mono ?_
 rintro e w1 ⟨bm, bf, bk, b, n, rfl, q1, q2, q3, hown, hb1⟩
 have hB1 := hB.trans (hb1.mono hB.size)
 clear HW hB hb1 k0 y0 a0 a1 a2 a3 a4 a5 b0 b1 b2 b3 b4 b5 b6 b7 b8 b9
 rw [HM.out] at q1
 have Q1 := Lib.hid q1
 have Q2 := Lib.hid q2
 have Q3 := Lib.hid q3
 have HO := Lib.hid hown
 clear q1 q2 q3 hown
 go_wp2_with fail
 refine (HC.out _).mono ?_
 rintro e w2 ⟨rfl, hb2⟩
 have hB2 := hB1.trans (hb2.mono hB1.size)
 have hl := bways_look p (own_below14 HO.out hb2)
 have q1 := Q1.out.below hb2 Q1.out.lt
 have q2 := Q2.out.below hb2 Q2.out.lt
 have q3 := Q3.out.below hb2 Q3.out.lt
 clear HC HO Q1 Q2 Q3 hB1 hb2
 cases p with
 | true =>
   have hcall := bway1_any (L := L) (rm := rm) q2 q3 fun W hW => HKK.out rfl W (hB2.trans (hW.mono hB2.size))
   obtain rfl : L = M := H1.out rfl
   rw [if_pos rfl, bway1] at hl
   clear q1 q2 q3 HKK HOO HLL H1 H2 H3 HN
   go_wp2_with fail
   refine hcall.mono ?_
   rintro e w3 ⟨A3, n3, c3, rfl, hn3, hc3, hr3, hb3⟩
   go_wp2_with fail
   refine bodyPost_ret (v := .slice A3 n3 c3) (by simp [results, Tryz.results10, go_sem]) rfl ⟨A3, n3, c3, rfl, hn3, hc3, hr3, hB2.trans (hb3.mono hB2.size)⟩
 | false =>
   have hcall := bway2_any (L := Ll) (rm := rm) (q := q) (M := M) (H2.out rfl) (H3.out rfl) HN.out q1 q3 (fun W hW => HOO.out W (hB2.trans (hW.mono hB2.size))) (fun hq W hW => HLL.out rfl hq W (hB2.trans (hW.mono hB2.size)))
   rw [if_neg (by decide), bway2] at hl
   clear q1 q2 q3 HKK HOO HLL H1 H2 H3 HN
   go_wp2_with fail
   refine hcall.mono ?_
   rintro e w3 ⟨A3, n3, c3, rfl, hn3, hc3, hr3, hb3⟩
   go_wp2_with fail
   refine bodyPost_ret (v := .slice A3 n3 c3) (by simp [results, Tryz.results10, go_sem]) rfl ⟨A3, n3, c3, rfl, hn3, hc3, hr3, hB2.trans (hb3.mono hB2.size)⟩
end Go.Proofs.YtceipblcdcgljaaGreatDoor
namespace Go.Proofs.YtceipblcdcgljaaGreatDoor
open Go.RowKit
set_option maxRecDepth 100000 in
set_option maxHeartbeats 8000000 in
theorem lpad_seq (m : Mo) (k : Ky) (e : En) (o : Int) (f0 : 64 ≤ e.fin) (f1 : e.fin ≤ 126) (hq : m.keypad = true ∧ o = 0) (L : List UInt8) (n : Nat) (hL : putS (sqN 2 e.fin []) = L) (hn : L.length = n) (w : World) (hT : Tab w) :
 Calls Tryz.prog 119 #[.agg (evC m k e o)] w (OutR false L n w) := by
 obtain ⟨hk, rfl⟩ := hq
 have hB : Below w.heap.size w (w.alloc (.cells (evC m k e 0) 106)) := (Below.refl _ _).alloc (Nat.le_refl _) _
 have k0 := Blk.new w 106 (evC m k e 0)
 obtain ⟨a16, a17, a18, a19, a20⟩ := ev_ent k0
 have a21 := ev_old k0
 obtain ⟨a10, a11, a12, a13, a14, a15⟩ := ev_key k0
 obtain ⟨c0, c1, c2, c3, c4, c5, c6, c7, c8, c9⟩ := ev_mo k0
 have HG : Hid (∀ W, Tab W → Calls Tryz.prog 140 #[.int .u8 e.fin] W (OutC L W)) := Lib.hid fun W hW => by rw [← hL]; exact lsingle_any e.fin f0 f1 W hW
 have HT := Lib.hid hT
 have HN := Lib.hid hn
 clear f0 f1 hL hT hn
 rw [hk] at c1
 clear hk
 go_enter Tryz.func119, Tryz.ntmps119
 go_wp2_with fail
 refine (HG.out _ (HT.out.below hB)).mono ?_
 rintro x w1 ⟨A1, d1, rfl, _, hr1, hb1⟩
 go_wp2_with fail
 go_ret
 exact ⟨A1, d1, by rw [← HN.out]; rfl, (fun h => by cases h), hr1, hB.trans (hb1.mono hB.size)⟩
set_option maxRecDepth 100000 in
set_option maxHeartbeats 8000000 in
theorem lpad_key (m : Mo) (k : Ky) (e : En) (o : Int) (hq : ¬ (o = 0 ∧ m.keypad = true)) (L : List UInt8) (n : Nat) (w : World) {Inv : World → Prop} (hI : ∀ W, Below w.heap.size w W → Inv W)
 (hS : ∀ W, Inv W → Calls Tryz.prog 35 #[moV m, kyV ⟨e.char, k.mods, k.typ, 0, k.base, k.text⟩] W (OutR false L n W)) :
 Calls Tryz.prog 119 #[.agg (evC m k e o)] w (OutR false L n w) := by
 have hB : Below w.heap.size w (w.alloc (.cells (evC m k e o) 106)) := (Below.refl _ _).alloc (Nat.le_refl _) _
 have k0 := Blk.new w 106 (evC m k e o)
 obtain ⟨a16, a17, a18, a19, a20⟩ := ev_ent k0
 have a21 := ev_old k0
 obtain ⟨a10, a11, a12, a13, a14, a15⟩ := ev_key k0
 obtain ⟨c0, c1, c2, c3, c4, c5, c6, c7, c8, c9⟩ := ev_mo k0
 have HS : Hid (∀ W, Inv W → Calls Tryz.prog 35 #[.agg #[.bool m.cursor, .bool m.keypad, .bool m.back, .bool m.focus, .bool m.paste, .bool m.lock, .bool m.line, .int .i64 m.mouse, .int .i64 m.coding, .int .i64 m.other], .agg #[.int .i64 e.char, .int .i64 k.mods, .int .i64 k.typ, .int .i64 0, .int .i64 k.base, .string k.text]] W (OutR false L n W)) := Lib.hid hS
 have HI := Lib.hid hI
 clear hS hI
 by_cases ho : o = 0
 ·have hk : m.keypad = false := by cases h : m.keypad with | true => exact absurd ⟨ho, h⟩ hq | false => rfl
  subst ho
  rw [hk] at c1
  clear hk hq
  go_enter Tryz.func119, Tryz.ntmps119
  go_upto_region 4 with (fail)
  have hB1 := hB.alloc hB.size (.cells #[.int .i64 k.code, .int .i64 k.mods, .int .i64 k.typ, .int .i64 k.shift, .int .i64 k.base, .string k.text] 25)
  have k1 := k0.alloc (.cells #[.int .i64 k.code, .int .i64 k.mods, .int .i64 k.typ, .int .i64 k.shift, .int .i64 k.base, .string k.text] 25)
  have kk := Blk.new (w.alloc (.cells (evC m k e 0) 106)) 25 #[.int .i64 k.code, .int .i64 k.mods, .int .i64 k.typ, .int .i64 k.shift, .int .i64 k.base, .string k.text]
  rw [World.size_alloc] at kk
  obtain ⟨W1, hW1⟩ : ∃ W1, ((w.alloc (.cells (evC m k e 0) 106)).alloc (.cells #[.int .i64 k.code, .int .i64 k.mods, .int .i64 k.typ, .int .i64 k.shift, .int .i64 k.base, .string k.text] 25)) = W1 := ⟨_, rfl⟩
  rw [hW1] at hB1 k1 kk ⊢
  clear hW1 k0 hB a16 a17 a18 a19 a20 a21 a10 a11 a12 a13 a14 a15 c0 c1 c2 c3 c4 c5 c6 c7 c8 c9
  obtain ⟨_, _, _, a19, _⟩ := ev_ent k1
  obtain ⟨b0, b1, b2, b3, b4, b5⟩ := Blk.cells6 kk
  have fz0 := kk.frozen 0
  have q1 : Blk (W1.setCell ⟨w.heap.size + 1, 0, none⟩ (.int .i64 e.char)) (w.heap.size + 1) 25 #[.int .i64 e.char, .int .i64 k.mods, .int .i64 k.typ, .int .i64 k.shift, .int .i64 k.base, .string k.text] := kk.set 0 _
  have fz3 := q1.frozen 3
  have b3' := (Blk.cells6 q1).2.2.2.1
  have q2 : Blk ((W1.setCell ⟨w.heap.size + 1, 0, none⟩ (.int .i64 e.char)).setCell ⟨w.heap.size + 1, 3, none⟩ (.int .i64 0)) (w.heap.size + 1) 25 #[.int .i64 e.char, .int .i64 k.mods, .int .i64 k.typ, .int .i64 0, .int .i64 k.base, .string k.text] := q1.set 3 _
  have e2 := (k1.far (a := ⟨w.heap.size + 1, 0, none⟩) (by show w.heap.size ≠ w.heap.size + 1; omega) (.int .i64 e.char)).far (a := ⟨w.heap.size + 1, 3, none⟩) (by show w.heap.size ≠ w.heap.size + 1; omega) (.int .i64 0)
  have hB2 := (hB1.setCell (p := ⟨w.heap.size + 1, 0, none⟩) (Nat.le_succ _) (.int .i64 e.char)).setCell (p := ⟨w.heap.size + 1, 3, none⟩) (Nat.le_succ _) (.int .i64 0)
  go_upto_region 5 with (fail)
  obtain ⟨W2, hW2⟩ : ∃ W2, (W1.setCell ⟨w.heap.size + 1, 0, none⟩ (.int .i64 e.char)).setCell ⟨w.heap.size + 1, 3, none⟩ (.int .i64 0) = W2 := ⟨_, rfl⟩
  rw [hW2] at q2 e2 hB2 ⊢
  clear hW2 q1 fz0 fz3 b3' k1 kk hB1 a19 b0 b1 b2 b3 b4 b5
  obtain ⟨b0, b1, b2, b3, b4, b5⟩ := Blk.cells6 q2
  obtain ⟨c0, c1, c2, c3, c4, c5, c6, c7, c8, c9⟩ := ev_mo e2
  go_wp2_with fail
  refine (HS.out _ (HI.out _ hB2)).mono ?_
  rintro x w3 ⟨A3, d3, rfl, _, hr3, hb3⟩
  go_wp2_with fail
  go_ret
  exact ⟨A3, d3, rfl, (fun h => by cases h), hr3, hB2.trans (hb3.mono hB2.size)⟩
 ·have tn : (o == 0) = false := beq_false_of_ne ho
  clear hq ho
  go_enter Tryz.func119, Tryz.ntmps119
  go_upto_region 4 with (fail)
  have hB1 := hB.alloc hB.size (.cells #[.int .i64 k.code, .int .i64 k.mods, .int .i64 k.typ, .int .i64 k.shift, .int .i64 k.base, .string k.text] 25)
  have k1 := k0.alloc (.cells #[.int .i64 k.code, .int .i64 k.mods, .int .i64 k.typ, .int .i64 k.shift, .int .i64 k.base, .string k.text] 25)
  have kk := Blk.new (w.alloc (.cells (evC m k e o) 106)) 25 #[.int .i64 k.code, .int .i64 k.mods, .int .i64 k.typ, .int .i64 k.shift, .int .i64 k.base, .string k.text]
  rw [World.size_alloc] at kk
  obtain ⟨W1, hW1⟩ : ∃ W1, ((w.alloc (.cells (evC m k e o) 106)).alloc (.cells #[.int .i64 k.code, .int .i64 k.mods, .int .i64 k.typ, .int .i64 k.shift, .int .i64 k.base, .string k.text] 25)) = W1 := ⟨_, rfl⟩
  rw [hW1] at hB1 k1 kk ⊢
  clear hW1 k0 hB a16 a17 a18 a19 a20 a21 a10 a11 a12 a13 a14 a15 c0 c1 c2 c3 c4 c5 c6 c7 c8 c9
  obtain ⟨_, _, _, a19, _⟩ := ev_ent k1
  obtain ⟨b0, b1, b2, b3, b4, b5⟩ := Blk.cells6 kk
  have fz0 := kk.frozen 0
  have q1 : Blk (W1.setCell ⟨w.heap.size + 1, 0, none⟩ (.int .i64 e.char)) (w.heap.size + 1) 25 #[.int .i64 e.char, .int .i64 k.mods, .int .i64 k.typ, .int .i64 k.shift, .int .i64 k.base, .string k.text] := kk.set 0 _
  have fz3 := q1.frozen 3
  have b3' := (Blk.cells6 q1).2.2.2.1
  have q2 : Blk ((W1.setCell ⟨w.heap.size + 1, 0, none⟩ (.int .i64 e.char)).setCell ⟨w.heap.size + 1, 3, none⟩ (.int .i64 0)) (w.heap.size + 1) 25 #[.int .i64 e.char, .int .i64 k.mods, .int .i64 k.typ, .int .i64 0, .int .i64 k.base, .string k.text] := q1.set 3 _
  have e2 := (k1.far (a := ⟨w.heap.size + 1, 0, none⟩) (by show w.heap.size ≠ w.heap.size + 1; omega) (.int .i64 e.char)).far (a := ⟨w.heap.size + 1, 3, none⟩) (by show w.heap.size ≠ w.heap.size + 1; omega) (.int .i64 0)
  have hB2 := (hB1.setCell (p := ⟨w.heap.size + 1, 0, none⟩) (Nat.le_succ _) (.int .i64 e.char)).setCell (p := ⟨w.heap.size + 1, 3, none⟩) (Nat.le_succ _) (.int .i64 0)
  go_upto_region 5 with (fail)
  obtain ⟨W2, hW2⟩ : ∃ W2, (W1.setCell ⟨w.heap.size + 1, 0, none⟩ (.int .i64 e.char)).setCell ⟨w.heap.size + 1, 3, none⟩ (.int .i64 0) = W2 := ⟨_, rfl⟩
  rw [hW2] at q2 e2 hB2 ⊢
  clear hW2 q1 fz0 fz3 b3' k1 kk hB1 a19 b0 b1 b2 b3 b4 b5
  obtain ⟨b0, b1, b2, b3, b4, b5⟩ := Blk.cells6 q2
  obtain ⟨c0, c1, c2, c3, c4, c5, c6, c7, c8, c9⟩ := ev_mo e2
  go_wp2_with fail
  refine (HS.out _ (HI.out _ hB2)).mono ?_
  rintro x w3 ⟨A3, d3, rfl, _, hr3, hb3⟩
  go_wp2_with fail
  go_ret
  exact ⟨A3, d3, rfl, (fun h => by cases h), hr3, hB2.trans (hb3.mono hB2.size)⟩
def Inv11 (w : World) : Prop := Siz w ∧ Rws w ∧ Tab w
theorem Inv11.below {w w' : World} (h : Inv11 w) (hb : Below w.heap.size w w') : Inv11 w' := ⟨h.1.below' hb, h.2.1.below hb, h.2.2.below hb⟩
theorem rest_two {c : Int} (h : restN c = 2) : c = 9 ∨ c = 13 ∨ c = 27 ∨ c = 127 := by
 unfold restN at h
 repeat' split at h
 all_goals first | omega | simp at h
theorem lplain_code {c : Int} (h : (lookE c).kind = 2) : c = 9 ∨ c = 13 ∨ c = 27 ∨ c = 127 := by
 by_cases hc : c < 57344 ∨ 57455 ≤ c
 ·rw [look_out hc] at h
  exact rest_two h
 ·obtain ⟨k, rfl⟩ : ∃ k : Fin 111, c = 57344 + k.1 := ⟨⟨(c - 57344).toNat, by omega⟩, by simp; omega⟩
  have := code_all k
  omega
theorem pad_fin : ∀ k : Fin 111, (lookE (57344 + (k.1 : Int))).kind = 5 → (lookE (lookE (57344 + (k.1 : Int))).char).kind = 1 ∨ (lookE (lookE (57344 + (k.1 : Int))).char).kind = 2 := by decide +kernel
theorem pad_char {c : Int} (h : (lookE c).kind = 5) : (lookE (lookE c).char).kind = 1 ∨ (lookE (lookE c).char).kind = 2 := by
 by_cases hc : c < 57344 ∨ 57455 ≤ c
 ·rw [look_out hc] at h
  have := rest_rng c
  simp only at h
  omega
 ·obtain ⟨k, rfl⟩ : ∃ k : Fin 111, c = 57344 + k.1 := ⟨⟨(c - 57344).toNat, by omega⟩, by simp; omega⟩
  exact pad_fin k h
theorem outR_weak {rm : Bool} {L : List UInt8} {n : Nat} {P : Program} {f : FuncId} {args : Array Value} {w : World} (h : Calls P f args w (OutR rm L n w)) : Calls P f args w (OutR false L n w) :=
 h.mono fun e w' ⟨A, c, he, _, hr, hb⟩ => ⟨A, c, he, (fun h => by cases h), hr, hb⟩
theorem outR_is {rm : Bool} {L M : List UInt8} {n p : Nat} (hl : L = M) (hn : n = p) {P : Program} {f : FuncId} {args : Array Value} {w : World} (h : Calls P f args w (OutR rm M p w)) : Calls P f args w (OutR rm L n w) := by subst hl hn; exact h
theorem lkey_func (m : Mo) (k : Ky) (hk : okK k) (hs : k.text.size ≤ 4294967296) (hm : mayK k = true) (h3 : k.typ ≠ 3) (hK : (lookE k.code).kind = 3 ∨ (lookE k.code).kind = 4) (w : World) (hv : Inv11 w) :
 Calls Tryz.prog 35 #[moV m, kyV k] w (OutR true (legL m k) (legL m k).length w) := by
 obtain ⟨o0, o1⟩ := lold_rng k.mods
 obtain ⟨_, hfp⟩ := func_put m (c := k.code) (o := oldN k.mods) hK o0 o1
 have hL : legL m k = putS (funcQ m (lookE k.code) (oldN k.mods)) := by
  rw [leg_yes hm h3, ← hfp]
  unfold legG legE
  rw [if_neg (by omega), if_neg (by omega), if_neg (by omega), if_pos hK]
 have hI : ∀ W, Below w.heap.size w W → Inv11 W := fun W hW => hv.below hW
 obtain ⟨f4, f3, _⟩ := form_e k.code
 rcases hK with hK | hK
 ·refine outR_is hL (by rw [hL]) (lkey_letter m k hk hs hm h3 _ _ rfl rfl hK true _ _ w hI (fun W hW => ?_) hv.1 hv.2.1)
  exact outR_C rfl (lletter_any m k _ _ (by omega) (f3 hK).1 (fin_83 hK) o0 o1 W hW.2.2)
 ·refine outR_is hL (by rw [hL]) (lkey_number m k hk hs hm h3 _ _ rfl rfl hK true _ _ w hI (fun W hW => ?_) hv.1 hv.2.1)
  exact outR_C rfl (lnumber_any m k _ _ hK (f4 hK).1 (f4 hK).2 o0 o1 W hW.2.2)
theorem lkey_flat (m : Mo) (k : Ky) (hk : okK k) (hs : k.text.size ≤ 4294967296) (h5 : (lookE k.code).kind ≠ 5) (w : World) (hv : Inv11 w) :
 Calls Tryz.prog 35 #[moV m, kyV k] w (OutR false (legL m k) (legL m k).length w) := by
 by_cases hno : mayK k = false ∨ k.typ = 3
 ·exact outR_is (leg_no hno) (by rw [leg_no hno]; rfl) (lkey_no m k hs hno false w hv.1 hv.2.1)
 ·have hm : mayK k = true := by cases h : mayK k with | true => rfl | false => exact absurd (.inl h) hno
  have h3 : k.typ ≠ 3 := fun h => hno (.inr h)
  obtain ⟨p1, p2, p4⟩ := old_has k.mods
  have hI : ∀ W, Below w.heap.size w W → Inv11 W := fun W hW => hv.below hW
  obtain ⟨r0, r8⟩ := look_rng k.code
  have k0 := ((may_parts k).1 hm).1.1
  by_cases hF : (lookE k.code).kind = 3 ∨ (lookE k.code).kind = 4
  ·exact outR_weak (lkey_func m k hk hs hm h3 hF w hv)
  ·have hE : legL m k = legE m (lookE k.code) k.code k.shift (oldN k.mods) (hasN k.mods 1) (hasN k.mods 2) (hasN k.mods 4) k.text.data.toList := by
    rw [leg_yes hm h3]
    unfold legG
    rw [if_neg h5]
   by_cases h1 : (lookE k.code).kind = 1
   ·have hsm := shownG_len k.code k.shift (hasN k.mods 1) (hasN k.mods 4) k.text.data.toList
    have hsz : k.text.data.toList.length ≤ 4294967296 := by rw [Array.length_toList]; exact hs
    have HS : ∀ W, Inv11 W → Calls Tryz.prog 115 #[.agg (evC m k (lookE k.code) (oldN k.mods))] W (OutR false (shownG k.code k.shift (hasN k.mods 1) (hasN k.mods 4) k.text.data.toList) _ W) := fun W hW => outR_O rfl (ltext_any m k _ _ _ p4 hk hs W hW.1)
    have hL : legL m k = aheadG (hasN k.mods 2) (shownG k.code k.shift (hasN k.mods 1) (hasN k.mods 4) k.text.data.toList) := by rw [hE]; exact if_pos h1
    cases h2 : hasN k.mods 2 with
    | true =>
      rw [h2] at hL p2
      exact outR_is (hL.trans (if_pos rfl)) (by rw [hL]; rfl) (lkey_text_on m k hk hs hm h3 _ _ rfl rfl h1 p2 false _ _ rfl (by omega) w hI HS hv.1 hv.2.1)
    | false =>
      rw [h2] at hL p2
      exact outR_is (hL.trans (if_neg (by decide))) (by rw [hL]; rfl) (lkey_text_off m k hk hs hm h3 _ _ rfl rfl h1 p2 false _ _ w hI HS hv.1 hv.2.1)
   ·by_cases hp : (lookE k.code).kind = 2
    ·have hsm := plainG_len m k.code (hasN k.mods 1) (hasN k.mods 4)
     have HS : ∀ W, Inv11 W → Calls Tryz.prog 116 #[.agg (evC m k (lookE k.code) (oldN k.mods))] W (OutR false (plainG m k.code (hasN k.mods 1) (hasN k.mods 4)) _ W) := fun W hW => outR_O rfl (lplain_any m k _ _ (lplain_code hp) _ _ p1 p4 W hW.2.2)
     have hL : legL m k = aheadG (hasN k.mods 2) (plainG m k.code (hasN k.mods 1) (hasN k.mods 4)) := by rw [hE]; unfold legE; rw [if_neg h1, if_pos hp]
     cases h2 : hasN k.mods 2 with
     | true =>
       rw [h2] at hL p2
       exact outR_is (hL.trans (if_pos rfl)) (by rw [hL]; rfl) (lkey_plain_on m k hk hs hm h3 _ _ rfl rfl hp p2 false _ _ rfl (by omega) w hI HS hv.1 hv.2.1)
     | false =>
       rw [h2] at hL p2
       exact outR_is (hL.trans (if_neg (by decide))) (by rw [hL]; rfl) (lkey_plain_off m k hk hs hm h3 _ _ rfl rfl hp p2 false _ _ w hI HS hv.1 hv.2.1)
    ·have hL : legL m k = [] := by rw [hE]; unfold legE; rw [if_neg h1, if_neg hp, if_neg hF]
     refine outR_is hL (by rw [hL]; rfl) (lkey_none m k hk hs hm h3 _ _ _ rfl rfl rfl r0 r8 ?_ false w hv.1 hv.2.1)
     unfold lformAt
     rw [if_neg h1, if_neg hp, if_neg (by omega), if_neg (by omega), if_neg h5]
theorem lkey_any (m : Mo) (k : Ky) (hk : okK k) (hs : k.text.size ≤ 4294967296) (w : World) (hv : Inv11 w) :
 Calls Tryz.prog 35 #[moV m, kyV k] w (OutR false (legL m k) (legL m k).length w) := by
 by_cases h5 : (lookE k.code).kind = 5
 ·by_cases hno : mayK k = false ∨ k.typ = 3
  ·exact outR_is (leg_no hno) (by rw [leg_no hno]; rfl) (lkey_no m k hs hno false w hv.1 hv.2.1)
  ·have hm : mayK k = true := by cases h : mayK k with | true => rfl | false => exact absurd (.inl h) hno
   have h3 : k.typ ≠ 3 := fun h => hno (.inr h)
   have hI : ∀ W, Below w.heap.size w W → Inv11 W := fun W hW => hv.below hW
   obtain ⟨_, _, f5⟩ := form_e k.code
   obtain ⟨g0, g1⟩ := f5 h5
   have hch := pad_char h5
   have hcr := (char_e k.code).1
   have hL : legL m k = if m.keypad = true ∧ oldN k.mods = 0 then seqB 2 (lookE k.code).fin [] else legE m (lookE (lookE k.code).char) (lookE k.code).char 0 (oldN k.mods) (hasN k.mods 1) (hasN k.mods 2) (hasN k.mods 4) k.text.data.toList := by
    rw [leg_yes hm h3]
    unfold legG
    rw [if_pos h5]
   obtain ⟨⟨_, b, c, d, e⟩, _, f, g⟩ := (may_parts k).1 hm
   have hm' : mayK ⟨(lookE k.code).char, k.mods, k.typ, 0, k.base, k.text⟩ = true := (may_parts _).2 ⟨⟨by show (lookE (lookE k.code).char).kind ≠ 0; omega, b, c, d, e⟩, .inl rfl, f, g⟩
   have hk' : okK ⟨(lookE k.code).char, k.mods, k.typ, 0, k.base, k.text⟩ := ⟨⟨by show -9223372036854775808 ≤ (lookE k.code).char; omega, by show (lookE k.code).char ≤ 9223372036854775807; omega⟩, hk.mods, hk.typ, in_lit11 (c := 0) (by decide), hk.base⟩
   have hL' : legL m ⟨(lookE k.code).char, k.mods, k.typ, 0, k.base, k.text⟩ = legE m (lookE (lookE k.code).char) (lookE k.code).char 0 (oldN k.mods) (hasN k.mods 1) (hasN k.mods 2) (hasN k.mods 4) k.text.data.toList := by
    rw [leg_yes hm' h3]
    unfold legG
    rw [if_neg (by show (lookE (lookE k.code).char).kind ≠ 5; omega)]
   by_cases hq : m.keypad = true ∧ oldN k.mods = 0
   ·have hL2 : legL m k = putS (sqN 2 (lookE k.code).fin []) := by rw [hL, if_pos hq]; exact seqB_is (may_ss3 (by omega) (by omega))
    refine lkey_pad m k hk hs hm h3 _ _ rfl rfl h5 false _ _ w hI (fun W hW => ?_) hv.1 hv.2.1
    exact lpad_seq m k _ _ (by omega) (by omega) hq _ _ hL2.symm rfl W hW.2.2
   ·have hL2 : legL m k = legL m ⟨(lookE k.code).char, k.mods, k.typ, 0, k.base, k.text⟩ := by rw [hL, hL', if_neg hq]
    refine lkey_pad m k hk hs hm h3 _ _ rfl rfl h5 false _ _ w hI (fun W hW => ?_) hv.1 hv.2.1
    refine lpad_key m k _ _ (fun h => hq ⟨h.2, h.1⟩) _ _ W (Inv := Inv11) (fun W' hW' => hW.below hW') (fun W' hW' => ?_)
    rw [hL2]
    exact lkey_flat m _ hk' hs (by show (lookE (lookE k.code).char).kind ≠ 5; omega) W' hW'
 ·exact lkey_flat m k hk hs h5 w hv
end Go.Proofs.YtceipblcdcgljaaGreatDoor
