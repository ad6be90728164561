/-
  Stage 16, the landed mouse, walked: bytes.Equal, a sequence as bytes, the ways to send an event as closures.
-/
import Derived.Test.YtjlhhelikiegdaaGreatDoorG19
import Derived.Test.YtjlhhelikiegdaaGreatDoorG24
import Derived.Test.YtjlhhelikiegdaaGreatDoorG30
import Derived.Test.YtjlhhelikiegdaaGreatDoorG31
import Derived.Test.YtjlhhelikiegdaaGreatDoorG32
import Derived.Test.YtjlhhelikiegdaaGreatDoorG37
namespace Go.Proofs.YtjlhhelikiegdaaGreatDoor
open Go.RowKit
def OutR (L : List UInt8) (n : Nat) (w : World) (e : Ending) (w' : World) : Prop := ∃ A c, e = .returned (.slice A n c) ∧ n ≤ c ∧ Rd w' A (bs L) ∧ Below w.heap.size w w'
def OutO (L : List UInt8) (n : Nat) (w : World) (e : Ending) (w' : World) : Prop := ∃ A c, e = .returned (.slice A n c) ∧ Own w' w.heap.size 5 1 (.slice A n c) n (bs L) ∧ Below w.heap.size w w'
theorem outO_R {L : List UInt8} {n : Nat} {w w' : World} {e : Ending} (h : OutO L n w e w') : OutR L n w e w' := by
 obtain ⟨A, c, rfl, ho, hb⟩ := h
 exact ⟨A, c, rfl, ho.cap.1, ho.rd, hb⟩
theorem outR_f {L : List UInt8} {n : Nat} {w : World} {f : FuncId} {args : Array Value} (h : Calls Tryz.prog f args w (OutR L n w)) : Calls Tryz.prog f args w fun e w' => ∃ v, e = .returned v ∧ FSl L n v w' ∧ Below w.heap.size w w' :=
 h.mono fun _ _ ⟨A, c, he, hc, hr, hb⟩ => ⟨_, he, ⟨A, c, rfl, hc, hr⟩, hb⟩
theorem outO_f {L : List UInt8} {n B : Nat} {w : World} {f : FuncId} {args : Array Value} (hB : B ≤ w.heap.size) (h : Calls Tryz.prog f args w (OutO L n w)) : Calls Tryz.prog f args w fun e w' => ∃ v, e = .returned v ∧ FOwn B L n v w' ∧ Below w.heap.size w w' :=
 h.mono fun _ _ ⟨A, c, he, ho, hb⟩ => ⟨_, he, ⟨A, c, rfl, ho.mono hB⟩, hb⟩
theorem outO_b {L : List UInt8} {w : World} {f : FuncId} {args : Array Value} (h : Calls Tryz.prog f args w (OutO L L.length w)) : Calls Tryz.prog f args w fun e w' => ∃ v, e = .returned v ∧ FB L v w' ∧ Below w.heap.size w w' :=
 h.mono fun _ _ ⟨A, c, he, ho, hb⟩ => ⟨_, he, ⟨A, c, rfl, ho.rd⟩, hb⟩
set_option maxRecDepth 100000 in
set_option maxHeartbeats 16000000 in
theorem mequal_any (A B : Option Addr) (c d n m : Nat) (a b : List UInt8) (q : Bool) (hn : a.length = n) (hm : b.length = m) (hq : (a == b) = q) (w : World) (ha : Rd w A (bs a)) (hb : Rd w B (bs b)) : Calls Tryz.prog 27 #[.slice A n c, .slice B m d] w fun e w' => e = .returned (.bool q) ∧ Below w.heap.size w w' := by
 subst hn hm
 refine (Tryz.bytes_Equal_all A B _ c _ d (a.map fun x => (x.toNat : Int)) (b.map fun x => (x.toNat : Int)) w (by simp) (by simp) (bytesIn_of ha) (bytesIn_of hb)).mono ?_
 rintro e w' ⟨rfl, rfl⟩
 refine ⟨?_, Below.refl _ _⟩
 have e : ∀ k : List UInt8, Lib.bytesOf (k.map fun x => (x.toNat : Int)) = k := fun k => by
  unfold Lib.bytesOf
  rw [List.map_map]
  calc k.map ((fun n : Int => UInt8.ofNat n.toNat) ∘ fun x : UInt8 => (x.toNat : Int)) = k.map id := List.map_congr_left (fun x _ => by simp)
   _ = k := List.map_id k
 rw [e, e, ← hq]
set_option maxRecDepth 100000 in
set_option maxHeartbeats 16000000 in
theorem msequence_any (a f : UInt8) (l : List Int) (n m : Nat) (L : List UInt8) (hn : l.length = n) (hl : n ≤ 4294967296) (hs : mayS (numS a f l) = 0) (hL : putS (numS a f l) = L) (hm : L.length = m) (A : Option Addr) (c : Nat) (w : World) (ht : Tab w) (hr : Rd w A (is_ l)) : Calls Tryz.prog 35 #[.int .u8 (a.toNat : Int), .int .u8 (f.toNat : Int), .slice A n c] w (OutO L m w) := by
 subst hm
 subst hL
 go_enter Tryz.func35, Tryz.ntmps35
 go_wp2_with fail
 refine (num_any a f A n c l w hn hl hr).mono ?_
 rintro e w1 ⟨⟨B, d, rfl, hr'⟩, hb⟩
 go_wp2_with fail
 refine (pput_own (numS a f l) B d w1 hs (ht.below hb) hr').mono ?_
 rintro e w2 ⟨⟨C, k, rfl, h1, h2, h3⟩, hb2⟩
 go_wp2_with fail
 go_ret
 exact ⟨C, k, rfl, h3.mono hb.size, hb.trans (hb2.mono hb.size)⟩
set_option maxRecDepth 100000 in
set_option maxHeartbeats 16000000 in
theorem mfits_any (greatest btn typ x y mods : Int) (q : Bool) (hq : decide (max x y ≤ greatest) = q) {g : Nat} (w : World) (k : Blk w g 23 #[.int .i64 btn, .int .i64 typ, .int .i64 x, .int .i64 y, .int .i64 mods]) : Calls Tryz.prog 33 #[.int .i64 greatest, .pointer (some ⟨g, 0, none⟩)] w fun e w' => e = .returned (.bool q) ∧ Below w.heap.size w w' := by
 obtain ⟨a0, a1, a2, a3, a4⟩ := Blk.cells5 k
 by_cases h : max x y ≤ greatest
 ·have HF := Lib.hid (show true = q by rw [← hq, decide_eq_true h])
  have h2 : decide (max x y ≤ greatest) = true := decide_eq_true h
  clear hq
  go_enter Tryz.func33, Tryz.ntmps33
  go_wp2_with fail
  go_ret
  exact ⟨by first | exact ret_bl HF.out | (rw [← HF.out, ← h2]; rfl), Below.refl _ _⟩
 ·have HF := Lib.hid (show false = q by rw [← hq, decide_eq_false h])
  have h2 : decide (max x y ≤ greatest) = false := decide_eq_false h
  clear hq
  go_enter Tryz.func33, Tryz.ntmps33
  go_wp2_with fail
  go_ret
  exact ⟨by first | exact ret_bl HF.out | (rw [← HF.out, ← h2]; rfl), Below.refl _ _⟩
set_option maxRecDepth 100000 in
set_option maxHeartbeats 16000000 in
theorem mwhenb_any (b : Bool) (xs : List Value) (L2 : List UInt8) (n n2 : Nat) (h : b = true → xs = bs L2 ∧ n = n2) (h2 : b = false → L2 = [] ∧ n2 = 0) (A : Option Addr) (c : Nat) (hc : n ≤ c) (w : World) (hr : Rd w A xs) : Calls Tryz.prog 38 #[.bool b, .slice A n c] w (OutR L2 n2 w) := by
 cases b with
 | true =>
   obtain ⟨rfl, rfl⟩ := h rfl
   clear h h2
   go_enter Tryz.func38, Tryz.ntmps38
   go_wp2_with fail
   go_ret
   exact ⟨A, c, rfl, hc, hr, Below.refl _ _⟩
 | false =>
   obtain ⟨rfl, rfl⟩ := h2 rfl
   clear h h2
   go_enter Tryz.func38, Tryz.ntmps38
   go_wp2_with fail
   go_ret
   exact ⟨none, 0, rfl, Nat.le_refl _, Rd.nil _ _, Below.refl _ _⟩
theorem add32_run {ev : Operand → Value} {o : Oper} {k : Tmp} {x : Int} (ho : o.op = .binOp .add 3 (.const (.int .i64 32)) (.tmp k) 3) (hx : ev (.tmp k) = .int .i64 x) (hc : ev (.const (.int .i64 32)) = .int .i64 32) (h : IntKind.i64.wrap (32 + x) = 32 + x) (w : World) : (execOp ev o).run Tryz.prog w = .ok (.value (.int .i64 (32 + x))) w := by
 unfold execOp
 simp only [ho, hx, hc]
 rw [show (32 + x) = IntKind.i64.wrap (32 + x) from h.symm]
 kernel_rfl
set_option maxRecDepth 100000 in
set_option maxHeartbeats 16000000 in
theorem mway2_any (mode btn typ x y mods : Int) (f : UInt8) (C : Int) (hC : codeM mode ⟨btn, typ, x, y, mods⟩ = C) (L : List UInt8) (m : Nat) (hs : mayS (numS 60 f [C, x, y]) = 0) (hL : putS (numS 60 f [C, x, y]) = L) (hm : L.length = m) {gf gm ge : Nat} (w : World) (ht : Tab w) (kf : Blk w gf 5 #[.int .u8 (f.toNat : Int)]) (km : Blk w gm 3 #[.int .i64 mode]) (ke : Blk w ge 23 #[.int .i64 btn, .int .i64 typ, .int .i64 x, .int .i64 y, .int .i64 mods]) : Calls Tryz.prog 34 #[.pointer (some ⟨gf, 0, none⟩), .pointer (some ⟨gm, 0, none⟩), .pointer (some ⟨ge, 0, none⟩)] w (OutR L m w) := by
 have HC : Hid (∀ W, Calls Tryz.prog 8 #[.int .i64 mode, .agg #[.int .i64 btn, .int .i64 typ, .int .i64 x, .int .i64 y, .int .i64 mods]] W (NumE C W)) := Lib.hid fun W => mcode_any mode btn typ x y mods C hC W
 have HS : Hid (∀ A c W, Tab W → Rd W A (is_ [C, x, y]) → Calls Tryz.prog 35 #[.int .u8 60, .int .u8 (f.toNat : Int), .slice A 3 c] W (OutO L m W)) := Lib.hid fun A c W a b => msequence_any 60 f [C, x, y] 3 m L rfl (by decide) hs hL hm A c W a b
 clear hC hs hL hm
 have le : ∀ W, Below w.heap.size w W → Blk W ge 23 #[.int .i64 btn, .int .i64 typ, .int .i64 x, .int .i64 y, .int .i64 mods] := fun W hW => ke.below hW ke.lt
 have lf : ∀ W, Below w.heap.size w W → Blk W gf 5 #[.int .u8 (f.toNat : Int)] := fun W hW => kf.below hW kf.lt
 have lm : ∀ W, Below w.heap.size w W → Blk W gm 3 #[.int .i64 mode] := fun W hW => km.below hW km.lt
 have hst : ∀ f ∈ ([⟨8, 12, FRow 3 (is_ [C, x, y])⟩, ⟨9, 13, FSl L m⟩, ⟨10, 3, FSl L m⟩] : List Fact), f.ok := List.forall_mem_cons.2 ⟨frow_ok _ _ _ _, List.forall_mem_cons.2 ⟨fsl_ok _ _ _ _, List.forall_mem_cons.2 ⟨fsl_ok _ _ _ _, fun _ h => by cases h⟩⟩⟩
 go_enter Tryz.func34, Tryz.ntmps34
 go_upto_region 1 with (fail)
 refine wp_region_told (w1 := w) (K := [⟨8, 12, FRow 3 (is_ [C, x, y])⟩, ⟨9, 13, FSl L m⟩, ⟨10, 3, FSl L m⟩]) (ix := 1000) (R0 := fun _ _ _ => True) (R1 := fun _ _ _ => True) [12, 13, 3] (⟨#[.pointer (some ⟨gf, 0, none⟩), .pointer (some ⟨gm, 0, none⟩), .pointer (some ⟨ge, 0, none⟩), undef, .int .u8 (f.toNat : Int), .int .i64 mode, .agg #[.int .i64 btn, .int .i64 typ, .int .i64 x, .int .i64 y, .int .i64 mods], .int .i64 C, .pointer (some ⟨ge, 2, none⟩), .int .i64 x, .pointer (some ⟨ge, 3, none⟩), .int .i64 y, undef, undef], []⟩) (fun g => ⟨#[.pointer (some ⟨gf, 0, none⟩), .pointer (some ⟨gm, 0, none⟩), .pointer (some ⟨ge, 0, none⟩), (g 3), .int .u8 (f.toNat : Int), .int .i64 mode, .agg #[.int .i64 btn, .int .i64 typ, .int .i64 x, .int .i64 y, .int .i64 mods], .int .i64 C, .pointer (some ⟨ge, 2, none⟩), .int .i64 x, .pointer (some ⟨ge, 3, none⟩), .int .i64 y, (g 12), (g 13)], []⟩) [.int .u8 (f.toNat : Int), .int .i64 mode, .agg #[.int .i64 btn, .int .i64 typ, .int .i64 x, .int .i64 y, .int .i64 mods], .int .i64 C, .pointer (some ⟨ge, 2, none⟩), .int .i64 x, .pointer (some ⟨ge, 3, none⟩), .int .i64 y, undef, undef, undef] (by kernel_rfl) (by kernel_rfl) (by kernel_rfl) (fun g => by kernel_rfl) (by kernel_rfl) (Below.refl _ _).drew (by decide) (by kernel_rfl)
  (goes_cons (gkC hst (fun W hW => (lf W hW).cell 0))
  (goes_cons (gkC hst (fun W hW => (lm W hW).cell 0))
  (goes_cons (gkL hst (fun W hW => le W hW) Tryz.underlying23)
  (goes_cons (gkK (fun g => #[.int .i64 mode, .agg #[.int .i64 btn, .int .i64 typ, .int .i64 x, .int .i64 y, .int .i64 mods]]) hst (fun g W hW hin => HC.out W))
  (goes_cons (gkP (fun _ => .pointer (some ⟨ge, 2, none⟩)))
  (goes_cons (gkC hst (fun W hW => (le W hW).cell 2))
  (goes_cons (gkP (fun _ => .pointer (some ⟨ge, 3, none⟩)))
  (goes_cons (gkC hst (fun W hW => (le W hW).cell 3))
  (goes_cons (goesK_any hst (ahead_none (by decide)) rfl (by decide) (by decide) 0 rfl (by kernel_rfl) (fun g => by kernel_rfl) rfl (fun g => by kernel_rfl) (fun g W hW hin => made3i rfl C x y rfl rfl rfl))
  (goes_cons (goesK_ghost (args := fun g => #[.int .u8 60, .int .u8 (f.toNat : Int), g 12]) hst (ahead_none (by decide)) rfl (by decide) (by decide) 1 rfl (by kernel_rfl) (fun g => by kernel_rfl) rfl (fun g => by kernel_rfl) (fun g w => by kernel_rfl) (fun g W hW hin => by obtain ⟨A, c, hv, hr⟩ := hin 0 _ rfl (by kernel_rfl); simp only at hv; rw [hv]; exact outR_f ((HS.out A c W (ht.below hW) hr).mono fun _ _ h => outO_R h)))
  (goes_cons (goesK_name (p' := 1) hst (ahead_none (by decide)) rfl (by decide) (by decide) 2 rfl rfl (by kernel_rfl) (by kernel_rfl) (fun g => by kernel_rfl) rfl (fun g => by kernel_rfl) (fun g w => by kernel_rfl)) goes_nil))))))))))) ?_
 intro g W hW hK
 obtain ⟨A9, c9, h3, hc9, hr9⟩ := hK 2 _ rfl
 simp only at h3
 simp only [h3]
 generalize g 12 = v12
 generalize g 13 = v13
 clear hK le lf lm hst h3
 go_wp2_with fail
 go_ret
 exact ⟨A9, c9, rfl, hc9, hr9, hW⟩
set_option maxRecDepth 100000 in
set_option maxHeartbeats 16000000 in
theorem mway3_any (btn typ x y mods C : Int) (L : List UInt8) (m : Nat) (hs : mayS (numS 0 77 [C, x, y]) = 0) (hL : putS (numS 0 77 [C, x, y]) = L) (hm : L.length = m) {gc ge : Nat} (w : World) (ht : Tab w) (kc : Blk w gc 3 #[.int .i64 C]) (ke : Blk w ge 23 #[.int .i64 btn, .int .i64 typ, .int .i64 x, .int .i64 y, .int .i64 mods]) : Calls Tryz.prog 36 #[.pointer (some ⟨gc, 0, none⟩), .pointer (some ⟨ge, 0, none⟩)] w (OutR L m w) := by
 have HS : Hid (∀ A c W, Tab W → Rd W A (is_ [C, x, y]) → Calls Tryz.prog 35 #[.int .u8 0, .int .u8 77, .slice A 3 c] W (OutO L m W)) := Lib.hid fun A c W a b => msequence_any 0 77 [C, x, y] 3 m L rfl (by decide) hs hL hm A c W a b
 clear hs hL hm
 have c0 := kc.cell 0
 obtain ⟨a0, a1, a2, a3, a4⟩ := Blk.cells5 ke
 have hB := (Below.refl w.heap.size w).alloc (Nat.le_refl _) (.cells #[.int .i64 C, .int .i64 x, .int .i64 y] 3)
 go_enter Tryz.func36, Tryz.ntmps36
 go_wp2_with fail
 refine (HS.out _ _ _ (ht.below hB) (rd_is w [C, x, y] _ _ _ rfl)).mono ?_
 rintro e w1 h
 obtain ⟨A9, c9, rfl, hc9, hr9, hb9⟩ := outO_R h
 clear h
 go_wp2_with fail
 go_ret
 exact ⟨A9, c9, rfl, hc9, hr9, hB.trans (hb9.mono hB.size)⟩
set_option maxRecDepth 100000 in
set_option maxHeartbeats 16000000 in
theorem mway4_any (btn typ x y mods cc : Int) (hx : 1 ≤ x ∧ x ≤ 65535) (hy : 1 ≤ y ∧ y ≤ 65535) (q : Bool) (hq : decide (max x y ≤ 2015) = q) (T L : List UInt8) (n m : Nat) (hT : ([27, 91, 77] ++ putL cc ++ putL (32 + x) ++ putL (32 + y)) = T) (hn : T.length = n) (hn2 : n ≤ 4294967296) (h1 : q = true → T = L ∧ n = m) (h2 : q = false → L = [] ∧ m = 0) {gf gc ge : Nat} (w : World) (ht : Tab w) (hz : Siz w) (kf : Blk w gf 54 #[.func (.func 33) #[] #[.pointer (some ⟨ge, 0, none⟩)]]) (kc : Blk w gc 3 #[.int .i64 cc]) (ke : Blk w ge 23 #[.int .i64 btn, .int .i64 typ, .int .i64 x, .int .i64 y, .int .i64 mods]) : Calls Tryz.prog 37 #[.pointer (some ⟨gf, 0, none⟩), .pointer (some ⟨gc, 0, none⟩), .pointer (some ⟨ge, 0, none⟩)] w (OutR L m w) := by
 have HF : Hid (∀ W, Blk W ge 23 #[.int .i64 btn, .int .i64 typ, .int .i64 x, .int .i64 y, .int .i64 mods] → Calls Tryz.prog 33 #[.int .i64 2015, .pointer (some ⟨ge, 0, none⟩)] W fun e w' => e = .returned (.bool q) ∧ Below W.heap.size W w') := Lib.hid fun W k => mfits_any 2015 btn typ x y mods q hq W k
 have HS : Hid (∀ W, Below w.heap.size w W → Calls Tryz.prog 35 #[.int .u8 0, .int .u8 77, .slice none 0 0] W (OutO [27, 91, 77] 3 W)) := Lib.hid fun W hW => msequence_any 0 77 [] 0 3 [27, 91, 77] rfl (by decide) (by decide) (by decide) rfl none 0 W (ht.below hW) (Rd.nil _ _)
 have HP : Hid (∀ r W, Below w.heap.size w W → Calls Tryz.prog 40 #[.int .i64 r] W (Out (putL r) W)) := Lib.hid fun r W hW => Put_any r W (hz.below' hW)
 have HCC : Hid (∀ A c W, RdBs W A [[27, 91, 77], putL cc, putL (32 + x), putL (32 + y)] → Calls Tryz.prog 39 #[.slice A 4 c] W fun e w' => ∃ B d, e = .returned (.slice B n d) ∧ Own w' W.heap.size 5 1 (.slice B n d) n (bs T) ∧ Below W.heap.size W w') := Lib.hid fun A c W hr => concat_any A c [[27, 91, 77], putL cc, putL (32 + x), putL (32 + y)] T 4 n rfl (by decide) (by rw [← hT]; simp) hn hn2 W hr
 have HW : Hid (∀ A c, n ≤ c → ∀ W, Rd W A (bs T) → Calls Tryz.prog 38 #[.bool q, .slice A n c] W (OutR L m W)) := Lib.hid fun A c hc W hr => mwhenb_any q (bs T) L n m (fun e => ⟨by rw [(h1 e).1], (h1 e).2⟩) h2 A c hc W hr
 clear hT hn hn2 h1 h2 hq
 have le : ∀ W, Below w.heap.size w W → Blk W ge 23 #[.int .i64 btn, .int .i64 typ, .int .i64 x, .int .i64 y, .int .i64 mods] := fun W hW => ke.below hW ke.lt
 have lf : ∀ W, Below w.heap.size w W → Blk W gf 54 #[.func (.func 33) #[] #[.pointer (some ⟨ge, 0, none⟩)]] := fun W hW => kf.below hW kf.lt
 have lc : ∀ W, Below w.heap.size w W → Blk W gc 3 #[.int .i64 cc] := fun W hW => kc.below hW kc.lt
 have hst : ∀ f ∈ ([⟨2, 6, FB [27, 91, 77]⟩, ⟨4, 8, FB (putL cc)⟩, ⟨8, 12, FB (putL (32 + x))⟩, ⟨12, 16, FB (putL (32 + y))⟩, ⟨13, 17, FBs 4 [[27, 91, 77], putL cc, putL (32 + x), putL (32 + y)]⟩, ⟨14, 18, FSl T n⟩, ⟨15, 19, FSl L m⟩, ⟨16, 3, FSl L m⟩] : List Fact), f.ok := List.forall_mem_cons.2 ⟨fb_ok _ _ _, List.forall_mem_cons.2 ⟨fb_ok _ _ _, List.forall_mem_cons.2 ⟨fb_ok _ _ _, List.forall_mem_cons.2 ⟨fb_ok _ _ _, List.forall_mem_cons.2 ⟨fbs_ok _ _ _ _, List.forall_mem_cons.2 ⟨fsl_ok _ _ _ _, List.forall_mem_cons.2 ⟨fsl_ok _ _ _ _, List.forall_mem_cons.2 ⟨fsl_ok _ _ _ _, fun _ h => by cases h⟩⟩⟩⟩⟩⟩⟩⟩
 go_enter Tryz.func37, Tryz.ntmps37
 go_upto_region 1 with (fail)
 refine wp_region_told (w1 := w) (K := [⟨2, 6, FB [27, 91, 77]⟩, ⟨4, 8, FB (putL cc)⟩, ⟨8, 12, FB (putL (32 + x))⟩, ⟨12, 16, FB (putL (32 + y))⟩, ⟨13, 17, FBs 4 [[27, 91, 77], putL cc, putL (32 + x), putL (32 + y)]⟩, ⟨14, 18, FSl T n⟩, ⟨15, 19, FSl L m⟩, ⟨16, 3, FSl L m⟩]) (ix := 1000) (R0 := fun _ _ _ => True) (R1 := fun _ _ _ => True) [6, 8, 12, 16, 17, 18, 19, 3] (⟨#[.pointer (some ⟨gf, 0, none⟩), .pointer (some ⟨gc, 0, none⟩), .pointer (some ⟨ge, 0, none⟩), undef, .func (.func 33) #[] #[.pointer (some ⟨ge, 0, none⟩)], .bool q, undef, .int .i64 cc, undef, .pointer (some ⟨ge, 2, none⟩), .int .i64 x, .int .i64 (32 + x), undef, .pointer (some ⟨ge, 3, none⟩), .int .i64 y, .int .i64 (32 + y), undef, undef, undef, undef], []⟩) (fun g => ⟨#[.pointer (some ⟨gf, 0, none⟩), .pointer (some ⟨gc, 0, none⟩), .pointer (some ⟨ge, 0, none⟩), (g 3), .func (.func 33) #[] #[.pointer (some ⟨ge, 0, none⟩)], .bool q, (g 6), .int .i64 cc, (g 8), .pointer (some ⟨ge, 2, none⟩), .int .i64 x, .int .i64 (32 + x), (g 12), .pointer (some ⟨ge, 3, none⟩), .int .i64 y, .int .i64 (32 + y), (g 16), (g 17), (g 18), (g 19)], []⟩) [.func (.func 33) #[] #[.pointer (some ⟨ge, 0, none⟩)], .bool q, undef, .int .i64 cc, undef, .pointer (some ⟨ge, 2, none⟩), .int .i64 x, .int .i64 (32 + x), undef, .pointer (some ⟨ge, 3, none⟩), .int .i64 y, .int .i64 (32 + y), undef, undef, undef, undef, undef] (by kernel_rfl) (by kernel_rfl) (by kernel_rfl) (fun g => by kernel_rfl) (by kernel_rfl) (Below.refl _ _).drew (by decide) (by kernel_rfl)
  (goes_cons (gkC hst (fun W hW => (lf W hW).cell 0))
  (goes_cons (gkK (fun g => #[.int .i64 2015, .pointer (some ⟨ge, 0, none⟩)]) hst (fun g W hW hin => HF.out W (le W hW)))
  (goes_cons (gkG (fun g => #[.int .u8 0, .int .u8 77, .slice none 0 0]) hst 0 (fun g W hW hin => outO_b (L := [27, 91, 77]) (HS.out W hW)))
  (goes_cons (gkC hst (fun W hW => (lc W hW).cell 0))
  (goes_cons (gkG (fun g => #[.int .i64 cc]) hst 1 (fun g W hW hin => fb_out (HP.out (cc) W hW)))
  (goes_cons (gkP (fun _ => .pointer (some ⟨ge, 2, none⟩)))
  (goes_cons (gkC hst (fun W hW => (le W hW).cell 2))
  (goes_cons (gkP (fun _ => .int .i64 (32 + x)) (h := (fun g w => add32_run rfl rfl rfl (by rw [IntKind.wrap_i64]; omega) w)))
  (goes_cons (gkG (fun g => #[.int .i64 (32 + x)]) hst 2 (fun g W hW hin => fb_out (HP.out (32 + x) W hW)))
  (goes_cons (gkP (fun _ => .pointer (some ⟨ge, 3, none⟩)))
  (goes_cons (gkC hst (fun W hW => (le W hW).cell 3))
  (goes_cons (gkP (fun _ => .int .i64 (32 + y)) (h := (fun g w => add32_run rfl rfl rfl (by rw [IntKind.wrap_i64]; omega) w)))
  (goes_cons (gkG (fun g => #[.int .i64 (32 + y)]) hst 3 (fun g W hW hin => fb_out (HP.out (32 + y) W hW)))
  (goes_cons (goesK_any hst (ahead_none (by decide)) rfl (by decide) (by decide) 4 rfl (by kernel_rfl) (fun g => by kernel_rfl) rfl (fun g => by kernel_rfl) (fun g W hW hin => made4s rfl (g 6) (g 8) (g 12) (g 16) rfl rfl rfl rfl (hin 0 _ rfl (by kernel_rfl)) (hin 1 _ rfl (by kernel_rfl)) (hin 2 _ rfl (by kernel_rfl)) (hin 3 _ rfl (by kernel_rfl))))
  (goes_cons (goesK_ghost (args := fun g => #[g 17]) hst (ahead_none (by decide)) rfl (by decide) (by decide) 5 rfl (by kernel_rfl) (fun g => by kernel_rfl) rfl (fun g => by kernel_rfl) (fun g w => by kernel_rfl) (fun g W hW hin => by obtain ⟨A, c, hv, hr⟩ := hin 4 _ rfl (by kernel_rfl); simp only at hv; rw [hv]; exact outR_f ((HCC.out A c W hr).mono fun _ _ ⟨B, d, he, ho, hb⟩ => ⟨B, d, he, ho.cap.1, ho.rd, hb⟩)))
  (goes_cons (gkG (fun g => #[.bool q, g 18]) hst 6 (fun g W hW hin => by obtain ⟨A, c, hv, hc, hr⟩ := hin 5 _ rfl (by kernel_rfl); simp only at hv; rw [hv]; exact outR_f (HW.out A c hc W hr)))
  (goes_cons (goesK_name (p' := 6) hst (ahead_none (by decide)) rfl (by decide) (by decide) 7 rfl rfl (by kernel_rfl) (by kernel_rfl) (fun g => by kernel_rfl) rfl (fun g => by kernel_rfl) (fun g w => by kernel_rfl)) goes_nil))))))))))))))))) ?_
 intro g W hW hK
 obtain ⟨A9, c9, h3, hc9, hr9⟩ := hK 7 _ rfl
 simp only at h3
 simp only [h3]
 generalize g 6 = v6
 generalize g 8 = v8
 generalize g 12 = v12
 generalize g 16 = v16
 generalize g 17 = v17
 generalize g 18 = v18
 generalize g 19 = v19
 clear hK le lf lc hst h3
 go_wp2_with fail
 go_ret
 exact ⟨A9, c9, rfl, hc9, hr9, hW⟩
theorem u8_three {a b c : Int} : ∀ u ∈ [Value.int .u8 a, .int .u8 b, .int .u8 c], u.oneCell' = true := fun u hu => by
 simp only [List.mem_cons, List.not_mem_nil, or_false] at hu
 rcases hu with rfl | rfl | rfl <;> rfl
set_option maxRecDepth 100000 in
set_option maxHeartbeats 16000000 in
theorem mway5_any (btn typ x y mods cc : Int) (hx : 1 ≤ x ∧ x ≤ 65535) (hy : 1 ≤ y ∧ y ≤ 65535) (q : Bool) (hq : decide (max x y ≤ 223) = q) (L : List UInt8) (m : Nat) (h1 : q = true → bs [27, 91, 77] ++ [.int .u8 (IntKind.u8.wrap cc), .int .u8 (IntKind.u8.wrap (32 + x)), .int .u8 (IntKind.u8.wrap (32 + y))] = bs L ∧ 3 + 3 = m) (h2 : q = false → L = [] ∧ m = 0) {gf gc ge : Nat} (w : World) (ht : Tab w) (kf : Blk w gf 54 #[.func (.func 33) #[] #[.pointer (some ⟨ge, 0, none⟩)]]) (kc : Blk w gc 3 #[.int .i64 cc]) (ke : Blk w ge 23 #[.int .i64 btn, .int .i64 typ, .int .i64 x, .int .i64 y, .int .i64 mods]) : Calls Tryz.prog 41 #[.pointer (some ⟨gf, 0, none⟩), .pointer (some ⟨gc, 0, none⟩), .pointer (some ⟨ge, 0, none⟩)] w (OutR L m w) := by
 obtain ⟨i0, hi0, hz0, hz1, hz2⟩ : ∃ i, Tryz.prog.info? 5 = some i ∧ i.zero = some (.int .u8 0) ∧ i.size = 1 ∧ i.bytes = 1 := ⟨_, rfl, rfl, rfl, rfl⟩
 have HF : Hid (∀ W, Blk W ge 23 #[.int .i64 btn, .int .i64 typ, .int .i64 x, .int .i64 y, .int .i64 mods] → Calls Tryz.prog 33 #[.int .i64 223, .pointer (some ⟨ge, 0, none⟩)] W fun e w' => e = .returned (.bool q) ∧ Below W.heap.size W w') := Lib.hid fun W k => mfits_any 223 btn typ x y mods q hq W k
 have HS : Hid (∀ W, Below w.heap.size w W → Calls Tryz.prog 35 #[.int .u8 0, .int .u8 77, .slice none 0 0] W (OutO [27, 91, 77] 3 W)) := Lib.hid fun W hW => msequence_any 0 77 [] 0 3 [27, 91, 77] rfl (by decide) (by decide) (by decide) rfl none 0 W (ht.below hW) (Rd.nil _ _)
 have HW : Hid (∀ A c, 3 + 3 ≤ c → ∀ W, Rd W A (bs [27, 91, 77] ++ [.int .u8 (IntKind.u8.wrap cc), .int .u8 (IntKind.u8.wrap (32 + x)), .int .u8 (IntKind.u8.wrap (32 + y))]) → Calls Tryz.prog 38 #[.bool q, .slice A (3 + 3) c] W (OutR L m W)) := Lib.hid fun A c hc W hr => mwhenb_any q _ L (3 + 3) m h1 h2 A c hc W hr
 clear h1 h2 hq
 have le : ∀ W, Below w.heap.size w W → Blk W ge 23 #[.int .i64 btn, .int .i64 typ, .int .i64 x, .int .i64 y, .int .i64 mods] := fun W hW => ke.below hW ke.lt
 have lf : ∀ W, Below w.heap.size w W → Blk W gf 54 #[.func (.func 33) #[] #[.pointer (some ⟨ge, 0, none⟩)]] := fun W hW => kf.below hW kf.lt
 have lc : ∀ W, Below w.heap.size w W → Blk W gc 3 #[.int .i64 cc] := fun W hW => kc.below hW kc.lt
 have hst : ∀ f ∈ ([⟨2, 6, FOwn w.heap.size [27, 91, 77] 3⟩, ⟨13, 17, FRow 3 [.int .u8 (IntKind.u8.wrap cc), .int .u8 (IntKind.u8.wrap (32 + x)), .int .u8 (IntKind.u8.wrap (32 + y))]⟩] : List Fact), f.ok := List.forall_mem_cons.2 ⟨fown_ok _ _ _ _ _, List.forall_mem_cons.2 ⟨frow_ok _ _ _ _, fun _ h => by cases h⟩⟩
 go_enter Tryz.func41, Tryz.ntmps41
 go_upto_region 1 with (fail)
 refine wp_region_name (w1 := w) (K := [⟨2, 6, FOwn w.heap.size [27, 91, 77] 3⟩, ⟨13, 17, FRow 3 [.int .u8 (IntKind.u8.wrap cc), .int .u8 (IntKind.u8.wrap (32 + x)), .int .u8 (IntKind.u8.wrap (32 + y))]⟩]) (ix := 14) (iz := 15) (R0 := fun g _ W => Own W w.heap.size 5 1 (g 18) (3 + 3) (bs [27, 91, 77] ++ [.int .u8 (IntKind.u8.wrap cc), .int .u8 (IntKind.u8.wrap (32 + x)), .int .u8 (IntKind.u8.wrap (32 + y))]) ∧ Below w.heap.size w W) (R1 := fun g _ W => FSl L m (g 19) W ∧ Below w.heap.size w W) [6, 17, 18, 19, 3] (⟨#[.pointer (some ⟨gf, 0, none⟩), .pointer (some ⟨gc, 0, none⟩), .pointer (some ⟨ge, 0, none⟩), undef, .func (.func 33) #[] #[.pointer (some ⟨ge, 0, none⟩)], .bool q, undef, .int .i64 cc, .int .u8 (IntKind.u8.wrap cc), .pointer (some ⟨ge, 2, none⟩), .int .i64 x, .int .i64 (32 + x), .int .u8 (IntKind.u8.wrap (32 + x)), .pointer (some ⟨ge, 3, none⟩), .int .i64 y, .int .i64 (32 + y), .int .u8 (IntKind.u8.wrap (32 + y)), undef, undef, undef], []⟩) (fun g => ⟨#[.pointer (some ⟨gf, 0, none⟩), .pointer (some ⟨gc, 0, none⟩), .pointer (some ⟨ge, 0, none⟩), (g 3), .func (.func 33) #[] #[.pointer (some ⟨ge, 0, none⟩)], .bool q, (g 6), .int .i64 cc, .int .u8 (IntKind.u8.wrap cc), .pointer (some ⟨ge, 2, none⟩), .int .i64 x, .int .i64 (32 + x), .int .u8 (IntKind.u8.wrap (32 + x)), .pointer (some ⟨ge, 3, none⟩), .int .i64 y, .int .i64 (32 + y), .int .u8 (IntKind.u8.wrap (32 + y)), (g 17), (g 18), (g 19)], []⟩) [.func (.func 33) #[] #[.pointer (some ⟨ge, 0, none⟩)], .bool q, undef, .int .i64 cc, .int .u8 (IntKind.u8.wrap cc), .pointer (some ⟨ge, 2, none⟩), .int .i64 x, .int .i64 (32 + x), .int .u8 (IntKind.u8.wrap (32 + x)), .pointer (some ⟨ge, 3, none⟩), .int .i64 y, .int .i64 (32 + y), .int .u8 (IntKind.u8.wrap (32 + y)), undef, undef, undef, undef] (by kernel_rfl) (by kernel_rfl) (by kernel_rfl) (fun g => by kernel_rfl) (by kernel_rfl) (Below.refl _ _).drew (by decide) 16 3 19 rfl rfl (by decide) (by decide) (by decide) (by kernel_rfl) (fun g => by kernel_rfl) (fun g => by kernel_rfl) (fun g w => by kernel_rfl) (by kernel_rfl) (fun g ws W v => ⟨fun h => by simpa only [upd_ne g v (show (18 : Nat) ≠ 3 by decide)] using h, fun h => by simpa only [upd_ne g v (show (19 : Nat) ≠ 3 by decide)] using h⟩) (goesX_all (ops := _)
  (goesX_cons (gkC hst (fun W hW => (lf W hW).cell 0) (hah := ahead_path [2, 1, 0] (by kernel_rfl) (by decide)))
  (goesX_cons (gkK (fun g => #[.int .i64 223, .pointer (some ⟨ge, 0, none⟩)]) hst (fun g W hW hin => HF.out W (le W hW)) (hah := ahead_path [2, 1] (by kernel_rfl) (by decide)))
  (goesX_cons (gkG (fun g => #[.int .u8 0, .int .u8 77, .slice none 0 0]) hst 0 (fun g W hW hin => outO_f hW.size (HS.out W hW)) (hah := ahead_path [2] (by kernel_rfl) (by decide)))
  (goesX_cons (gkC hst (fun W hW => (lc W hW).cell 0) (hah := ahead_path [13, 4, 3] (by kernel_rfl) (by decide)))
  (goesX_cons (gkP (fun g => .int .u8 (IntKind.u8.wrap cc)))
  (goesX_cons (gkP (fun g => .pointer (some ⟨ge, 2, none⟩)))
  (goesX_cons (gkC hst (fun W hW => (le W hW).cell 2) (hah := ahead_path [13, 8, 7, 6, 5] (by kernel_rfl) (by decide)))
  (goesX_cons (gkP (fun g => .int .i64 (32 + x)) (h := (fun g w => add32_run rfl rfl rfl (by rw [IntKind.wrap_i64]; omega) w)))
  (goesX_cons (gkP (fun g => .int .u8 (IntKind.u8.wrap (32 + x))))
  (goesX_cons (gkP (fun g => .pointer (some ⟨ge, 3, none⟩)))
  (goesX_cons (gkC hst (fun W hW => (le W hW).cell 3) (hah := ahead_path [13, 12, 11, 10, 9] (by kernel_rfl) (by decide)))
  (goesX_cons (gkP (fun g => .int .i64 (32 + y)) (h := (fun g w => add32_run rfl rfl rfl (by rw [IntKind.wrap_i64]; omega) w)))
  (goesX_cons (gkP (fun g => .int .u8 (IntKind.u8.wrap (32 + y))))
  (goesX_cons (goesK_any hst (ahead_path [13] (by kernel_rfl) (by decide)) rfl (by decide) (by decide) 1 rfl (by kernel_rfl) (fun g => by kernel_rfl) rfl (fun g => by kernel_rfl) (fun g W hW hin => made3b rfl (IntKind.u8.wrap cc) (IntKind.u8.wrap (32 + x)) (IntKind.u8.wrap (32 + y)) rfl rfl rfl))
  (goesX_cons (goesK_append rfl (by decide) rfl (by kernel_rfl) (by kernel_rfl) (fun g => by kernel_rfl) rfl (fun g => by kernel_rfl) (fun g W hW hK => app_ex (n := 3) (m := 3) rfl rfl rfl (hK 0 _ rfl) (hK 1 _ rfl) rfl u8_three (by decide) hW.size (fun v w' o b => ⟨by rw [upd_at]; exact o, hW.trans b⟩)))
  (goesX_cons (goesK_last (args := fun g => #[.bool q, g 18]) rfl (by decide) rfl (by kernel_rfl) (by kernel_rfl) (fun g => by kernel_rfl) rfl (fun g => by kernel_rfl) (fun g w => by kernel_rfl) (fun g ws W hW hK hR => by obtain ⟨o1, hB⟩ := hR; obtain ⟨A, c, e1, r1⟩ := o1.form; rw [e1] at o1 ⊢; exact (HW.out A c o1.cap.1 W r1).mono fun e w' ⟨A', c', he, hc, hr, hb⟩ => ⟨_, he, ⟨A', c', by rw [upd_at], hc, hr⟩, hB.trans (hb.mono hB.size)⟩))
  (goesX_skip trivial)))))))))))))))))) ?_
 intro g ws W _ _ hR hgd
 obtain ⟨⟨A9, c9, h3, hc9, hr9⟩, hB9⟩ := hR
 simp only [hgd, h3]
 generalize g 6 = v6
 generalize g 17 = v17
 generalize g 18 = v18
 clear le lf lc hst h3
 go_wp2_with fail
 go_ret
 exact ⟨A9, c9, rfl, hc9, hr9, hB9⟩
end Go.Proofs.YtjlhhelikiegdaaGreatDoor
