/-
  Stage 13, the landed kitty: the numbers that its event's sequence tells. Stage 11, the landed legacy: Key where nothing is sent.
-/
import Derived.Test.YtceipblcdcgljaaGreatDoorG11
import Derived.Test.YtceipblcdcgljaaGreatDoorG13
import Derived.Test.YtceipblcdcgljaaGreatDoorG15
import Derived.Test.YtceipblcdcgljaaGreatDoorG18
import Derived.Test.YtceipblcdcgljaaGreatDoorG20
import Derived.Test.YtceipblcdcgljaaGreatDoorG23
import Derived.BigQuiet
namespace Go.Proofs.YtceipblcdcgljaaGreatDoor
open Go.RowKit
def OutJ (L : List Int) (n : Nat) (w : World) (e : Ending) (w' : World) : Prop := ∃ A c, e = .returned (.slice A n c) ∧ Rd w' A (is_ L) ∧ Below w.heap.size w w'
theorem OutJ.none {L : List Int} {n : Nat} (h : L = []) (hn : L.length = n) {w w' : World} (hb : Below w.heap.size w w') : OutJ L n w (.returned (.slice none 0 0)) w' := by
 subst h hn
 exact ⟨_, _, rfl, Rd.nil _ _, hb⟩
theorem OutJ.new {L M : List Int} {n m g : Nat} (h : L = M) (hn : L.length = n) (hm : M.length = m) {xs : Array Value} (hx : is_ M = xs.toList) {w w1 : World} {t : TypeId} (hg : w1.heap.size = g) (hb : Below w.heap.size w w1) : OutJ L n w (.returned (.slice (some ⟨g, 0, .none⟩) m m)) (w1.alloc (.cells xs t)) := by
 subst h hn hm hg
 exact ⟨_, _, rfl, by rw [hx]; exact Rd.block (heap_alloc_new w1 _) (List.take_length ..), hb.alloc hb.size _⟩
theorem OutJ.of {L M : List Int} {n m : Nat} (h : L = M) (hn : L.length = n) (hm : M.length = m) {w w' : World} {A : Option Addr} {c : Nat} (hr : Rd w' A (is_ M)) (hb : Below w.heap.size w w') : OutJ L n w (.returned (.slice A m c)) w' := by
 subst h hn hm
 exact ⟨A, c, rfl, hr, hb⟩
def FI (L : List Int) (n : Nat) (v : Value) (w : World) : Prop := ∃ A c, v = .slice A n c ∧ Rd w A (is_ L)
theorem fi_ok (i : Nat) (d : Tmp) (L : List Int) (n : Nat) : (⟨i, d, FI L n⟩ : Fact).ok := fun _ _ _ ⟨A, c, e, h⟩ hb => ⟨A, c, e, h.below hb⟩
theorem fi_out {L : List Int} {n : Nat} {P : Program} {w : World} {f : FuncId} {args : Array Value} (h : Calls P f args w (OutJ L n w)) : Calls P f args w fun e w' => ∃ v, e = .returned v ∧ FI L n v w' ∧ Below w.heap.size w w' :=
 h.mono fun _ _ ⟨A, c, he, hr, hb⟩ => ⟨_, he, ⟨A, c, rfl, hr⟩, hb⟩
theorem fi_two {ev : Operand → Value} {o : Oper} {x y : Operand} {a b : Int} (ho : o.op = .buildSlice 57 2 #[(0, x), (1, y)]) (hx : ev x = .int .i64 a) (hy : ev y = .int .i64 b) (w : World) :
 ∃ v w', (execOp ev o).run Tryz.prog w = .ok (.value v) w' ∧ FI [a, b] 2 v w' ∧ Below w.heap.size w w' := by
 refine ⟨.slice (some ⟨w.heap.size, 0, none⟩) 2 2, w.alloc (.cells #[.int .i64 a, .int .i64 b] 3), ?_, ⟨_, _, rfl, Rd.block (heap_alloc_new w _) rfl⟩, (Below.refl _ _).alloc (Nat.le_refl _) _⟩
 unfold execOp
 simp only [ho]
 rw [show Array.map (fun x => (x.fst, ev x.snd)) #[(0, x), (1, y)] = #[(0, .int .i64 a), (1, .int .i64 b)] by simp [hx, hy]]
 kernel_rfl
def othB13 (ts b1 tb tc : Bool) (sh ba : Int) : List Int := if (tb && tc) = true then [if (ts && b1) = true then sh else -1, ba] else if (ts && b1) = true then [sh] else []
theorem oth_b13 {s b c : Int} {t : Bool} (hs : 0 ≤ s) : altK s b c t = othB13 (s != 0) t (b != 0) (b != c) s b := by
 rw [kip_others hs]
 unfold othB13
 by_cases h1 : s = 0 <;> by_cases h2 : b = 0 <;> by_cases h3 : b = c <;> cases t <;> simp [h1, h2, h3] <;> omega
set_option maxRecDepth 100000 in
set_option maxHeartbeats 8000000 in
theorem kothers_any (k : Ky) (s K : Int) (hsh : 0 ≤ k.shift) (b1 : Bool) (h1 : (bits .and .i64 k.mods 1 != 0) = b1) (L : List Int) (hL : altK k.shift k.base k.code b1 = L) (n : Nat) (hn : L.length = n) (w : World) : Calls Tryz.prog 106 #[evV13 k s K] w (OutJ L n w) := by
 rw [oth_b13 hsh] at hL
 obtain ⟨code, mods, typ, shift, base, text⟩ := k
 simp only [evV13] at hL hsh h1 ⊢
 have ts1 : (shift != -1) = true := by rw [bne_iff_ne]; omega
 obtain ⟨ts, hts⟩ : ∃ x, (shift != 0) = x := ⟨_, rfl⟩
 obtain ⟨tb, htb⟩ : ∃ x, (base != 0) = x := ⟨_, rfl⟩
 obtain ⟨tc, htc⟩ : ∃ x, (base != code) = x := ⟨_, rfl⟩
 rw [hts, htb, htc] at hL
 have HL := Lib.hid hL
 have HN := Lib.hid hn
 clear hL hn hsh
 have k0 := Blk.new w 95 #[.int .i64 code, .int .i64 mods, .int .i64 typ, .int .i64 shift, .int .i64 base, .string text, .int .i64 s, .int .i64 K]
 have hB0 : Below w.heap.size w (w.alloc (.cells #[.int .i64 code, .int .i64 mods, .int .i64 typ, .int .i64 shift, .int .i64 base, .string text, .int .i64 s, .int .i64 K] 95)) := (Below.refl _ _).alloc (Nat.le_refl _) _
 obtain ⟨a0, a1, a2, a3, a4, a5, a6, a7⟩ := Blk.cells8 k0
 cases ts with
 | true =>
   cases b1 with
   | true =>
     cases tb with
     | true =>
       cases tc with
       | true =>
         go_enter Tryz.func106, Tryz.ntmps106
         go_wp2_with fail
         go_ret
         exact OutJ.new (M := [shift, base]) HL.out.symm HN.out rfl rfl (by simp [World.size_alloc]) hB0
       | false =>
         go_enter Tryz.func106, Tryz.ntmps106
         go_wp2_with fail
         go_ret
         exact OutJ.new (M := [shift]) HL.out.symm HN.out rfl rfl (by simp [World.size_alloc]) hB0
     | false =>
       go_enter Tryz.func106, Tryz.ntmps106
       go_wp2_with fail
       go_ret
       exact OutJ.new (M := [shift]) HL.out.symm HN.out rfl rfl (by simp [World.size_alloc]) hB0
   | false =>
     cases tb with
     | true =>
       cases tc with
       | true =>
         go_enter Tryz.func106, Tryz.ntmps106
         go_wp2_with fail
         go_ret
         exact OutJ.new (M := [-1, base]) HL.out.symm HN.out rfl rfl (by simp [World.size_alloc]) hB0
       | false =>
         go_enter Tryz.func106, Tryz.ntmps106
         go_wp2_with fail
         go_ret
         exact OutJ.none HL.out.symm HN.out hB0
     | false =>
       go_enter Tryz.func106, Tryz.ntmps106
       go_wp2_with fail
       go_ret
       exact OutJ.none HL.out.symm HN.out hB0
 | false =>
   cases tb with
   | true =>
     cases tc with
     | true =>
       go_enter Tryz.func106, Tryz.ntmps106
       go_wp2_with fail
       go_ret
       exact OutJ.new (M := [-1, base]) HL.out.symm HN.out rfl rfl (by simp [World.size_alloc]) hB0
     | false =>
       go_enter Tryz.func106, Tryz.ntmps106
       go_wp2_with fail
       go_ret
       exact OutJ.none HL.out.symm HN.out hB0
   | false =>
     go_enter Tryz.func106, Tryz.ntmps106
     go_wp2_with fail
     go_ret
     exact OutJ.none HL.out.symm HN.out hB0
def staB (b2 ty tm : Bool) (p y : Int) : List Int := if (b2 && ty) = true then [p, y] else if tm = true then [p] else [-1]
set_option maxRecDepth 100000 in
set_option maxHeartbeats 8000000 in
theorem kstate_any (k : Ky) (s K : Int) (m0 : 0 ≤ k.mods) (m1 : k.mods ≤ 255) (b2 : Bool) (h2 : (bits .and .i64 s 2 != 0) = b2) (L : List Int) (hL : staB b2 (k.typ != 1) (k.mods != 0) (1 + k.mods) k.typ = L) (n : Nat) (hn : L.length = n) (w : World) : Calls Tryz.prog 108 #[evV13 k s K] w (OutJ L n w) := by
 have H2 : Hid (∀ W, Calls Tryz.prog 68 #[.int .i64 s, .int .i64 2] W fun e w' => e = .returned (.bool b2) ∧ Below W.heap.size W w') := Lib.hid fun W => khas_any s 2 b2 h2 W
 obtain ⟨p, hp⟩ : ∃ x, 1 + k.mods = x := ⟨_, rfl⟩
 have HPR : Hid (∀ W, Calls Tryz.prog 76 #[.int .i64 k.mods] W fun e w' => e = .returned (.int .i64 p) ∧ Below W.heap.size W w') := Lib.hid fun W => by have := pparam_any k.mods W; rwa [kip_param m0 m1, hp] at this
 rw [hp] at hL
 clear hp m0 m1 h2
 obtain ⟨code, mods, typ, shift, base, text⟩ := k
 simp only [evV13] at hL HPR ⊢
 obtain ⟨ty, hty⟩ : ∃ x, (typ != 1) = x := ⟨_, rfl⟩
 obtain ⟨tm, htm⟩ : ∃ x, (mods != 0) = x := ⟨_, rfl⟩
 rw [hty, htm] at hL
 have HL := Lib.hid hL
 have HN := Lib.hid hn
 clear hL hn
 have k0 := Blk.new w 95 #[.int .i64 code, .int .i64 mods, .int .i64 typ, .int .i64 shift, .int .i64 base, .string text, .int .i64 s, .int .i64 K]
 have hB0 : Below w.heap.size w (w.alloc (.cells #[.int .i64 code, .int .i64 mods, .int .i64 typ, .int .i64 shift, .int .i64 base, .string text, .int .i64 s, .int .i64 K] 95)) := (Below.refl _ _).alloc (Nat.le_refl _) _
 obtain ⟨a0, a1, a2, a3, a4, a5, a6, a7⟩ := Blk.cells8 k0
 go_enter Tryz.func108, Tryz.ntmps108
 go_wp2_with fail
 refine (H2.out _).mono ?_
 rintro e w1 ⟨rfl, hb1⟩
 have k1 := k0.below hb1 k0.lt
 have hB1 := hB0.trans (hb1.mono hB0.size)
 clear k0 hB0 hb1 a0 a1 a2 a3 a4 a5 a6 a7
 obtain ⟨a0, a1, a2, a3, a4, a5, a6, a7⟩ := Blk.cells8 k1
 cases b2 with
 | true =>
   cases ty with
   | true =>
     have HE := Lib.hid (show [p, typ] = L from HL.out)
     have le : ∀ W, Below w1.heap.size w1 W → Blk W w.heap.size 95 #[.int .i64 code, .int .i64 mods, .int .i64 typ, .int .i64 shift, .int .i64 base, .string text, .int .i64 s, .int .i64 K] := fun W hW => k1.below hW k1.lt
     have hst : ∀ f ∈ ([⟨7, 20, FI [p, typ] 2⟩, ⟨8, 2, FI [p, typ] 2⟩] : List Fact), f.ok := List.forall_mem_cons.2 ⟨fi_ok _ _ _ _, List.forall_mem_cons.2 ⟨fi_ok _ _ _ _, fun _ h => by cases h⟩⟩
     go_wp2_with fail
     refine wp_region_told (w1 := w1) (K := [⟨7, 20, FI [p, typ] 2⟩, ⟨8, 2, FI [p, typ] 2⟩]) (ix := 1000) (R0 := fun _ _ _ => True) (R1 := fun _ _ _ => True) [20, 2] (⟨#[.agg #[.int .i64 code, .int .i64 mods, .int .i64 typ, .int .i64 shift, .int .i64 base, .string text, .int .i64 s, .int .i64 K], .pointer (some ⟨w.heap.size, 0, none⟩), undef, .bool true, .pointer (some ⟨w.heap.size, 6, none⟩), .int .i64 s, .bool true, .bool true, .pointer (some ⟨w.heap.size, 0, none⟩), .pointer (some ⟨w.heap.size, 2, none⟩), .int .i64 typ, .bool true, .bool true, .pointer (some ⟨w.heap.size, 0, none⟩), .pointer (some ⟨w.heap.size, 1, none⟩), .int .i64 mods, .int .i64 p, .pointer (some ⟨w.heap.size, 0, none⟩), .pointer (some ⟨w.heap.size, 2, none⟩), .int .i64 typ, undef, undef, undef, undef, undef, undef, undef, undef, undef, undef, undef, undef], []⟩) (fun g => ⟨#[.agg #[.int .i64 code, .int .i64 mods, .int .i64 typ, .int .i64 shift, .int .i64 base, .string text, .int .i64 s, .int .i64 K], .pointer (some ⟨w.heap.size, 0, none⟩), (g 2), .bool true, .pointer (some ⟨w.heap.size, 6, none⟩), .int .i64 s, .bool true, .bool true, .pointer (some ⟨w.heap.size, 0, none⟩), .pointer (some ⟨w.heap.size, 2, none⟩), .int .i64 typ, .bool true, .bool true, .pointer (some ⟨w.heap.size, 0, none⟩), .pointer (some ⟨w.heap.size, 1, none⟩), .int .i64 mods, .int .i64 p, .pointer (some ⟨w.heap.size, 0, none⟩), .pointer (some ⟨w.heap.size, 2, none⟩), .int .i64 typ, (g 20), undef, undef, undef, undef, undef, undef, undef, undef, undef, undef, undef], []⟩) [.pointer (some ⟨w.heap.size, 0, none⟩), .pointer (some ⟨w.heap.size, 1, none⟩), .int .i64 mods, .int .i64 p, .pointer (some ⟨w.heap.size, 0, none⟩), .pointer (some ⟨w.heap.size, 2, none⟩), .int .i64 typ, undef, undef] (by kernel_rfl) (by kernel_rfl) (by kernel_rfl) (fun g => by kernel_rfl) (by kernel_rfl) (Below.refl _ _).drew (by decide) (by kernel_rfl)
      (goes_cons (gkP (fun _ => .pointer (some ⟨w.heap.size, 0, none⟩)))
      (goes_cons (gkP (fun _ => .pointer (some ⟨w.heap.size, 1, none⟩)))
      (goes_cons (gkC hst (fun W hW => (le W hW).cell 1))
      (goes_cons (gkK (fun g => #[.int .i64 mods]) hst (fun g W hW hin => HPR.out W))
      (goes_cons (gkP (fun _ => .pointer (some ⟨w.heap.size, 0, none⟩)))
      (goes_cons (gkP (fun _ => .pointer (some ⟨w.heap.size, 2, none⟩)))
      (goes_cons (gkC hst (fun W hW => (le W hW).cell 2))
      (goes_cons (goesK_any hst (ahead_none (by decide)) rfl (by decide) (by decide) 0 rfl (by kernel_rfl) (fun g => by kernel_rfl) rfl (fun g => by kernel_rfl) (fun g W hW hin => fi_two rfl rfl rfl W))
      (goes_cons (goesK_name (p' := 0) hst (ahead_none (by decide)) rfl (by decide) (by decide) 1 rfl rfl (by kernel_rfl) (by kernel_rfl) (fun g => by kernel_rfl) rfl (fun g => by kernel_rfl) (fun g w => by kernel_rfl)) goes_nil))))))))) ?_
     intro g W hW hK
     obtain ⟨A, c, h2, hr⟩ := hK 1 _ rfl
     have h2 : (g 2 : Value) = .slice A 2 c := h2
     have hB2 := hB1.trans (hW.mono hB1.size)
     simp only [h2]
     generalize g 20 = v20
     clear hK le hst h2
     go_wp2_with fail
     go_ret
     exact ⟨A, c, by rw [← HN.out, ← HE.out]; rfl, by rw [← HE.out]; exact hr, hB2⟩
   | false =>
     cases tm with
     | true =>
       have HE := Lib.hid (show [p] = L from HL.out)
       go_wp2_with fail
       refine (HPR.out _).mono ?_
       rintro e w2 ⟨rfl, hb2⟩
       have hB2 := hB1.trans (hb2.mono hB1.size)
       go_wp2_with fail
       go_ret
       exact OutJ.new HE.out.symm HN.out rfl rfl rfl hB2
     | false =>
       have HE := Lib.hid (show [-1] = L from HL.out)
       go_wp2_with fail
       go_ret
       exact OutJ.new HE.out.symm HN.out rfl rfl rfl hB1
 | false =>
   cases tm with
   | true =>
     have HE := Lib.hid (show [p] = L from HL.out)
     go_wp2_with fail
     refine (HPR.out _).mono ?_
     rintro e w2 ⟨rfl, hb2⟩
     have hB2 := hB1.trans (hb2.mono hB1.size)
     go_wp2_with fail
     go_ret
     exact OutJ.new HE.out.symm HN.out rfl rfl rfl hB2
   | false =>
     have HE := Lib.hid (show [-1] = L from HL.out)
     go_wp2_with fail
     go_ret
     exact OutJ.new HE.out.symm HN.out rfl rfl rfl hB1
set_option maxRecDepth 100000 in
set_option maxHeartbeats 8000000 in
theorem kpoints_any (k : Ky) (s K : Int) (hs : k.text.size ≤ 4294967296) (b16 : Bool) (h16 : (bits .and .i64 s 16 != 0) = b16) (ks : List Int) (hks : allL k.text.data.toList = some ks) (L : List Int) (hL : (if (!b16 || k.typ == 3) = true then [] else ks) = L) (n : Nat) (hn : L.length = n) (w : World) (hz : Siz w) : Calls Tryz.prog 109 #[evV13 k s K] w (OutJ L n w) := by
 have H16 : Hid (∀ W, Calls Tryz.prog 68 #[.int .i64 s, .int .i64 16] W fun e w' => e = .returned (.bool b16) ∧ Below W.heap.size W w') := Lib.hid fun W => khas_any s 16 b16 h16 W
 have hm : k.text.size ≤ maxLen := by simp only [maxLen]; omega
 obtain ⟨code, mods, typ, shift, base, text⟩ := k
 simp only [evV13] at hL hm hs hks ⊢
 have HA : Hid (∀ A c W, Siz W → text.data.toList.length ≤ c → Rd W A (bs text.data.toList) → Calls Tryz.prog 129 #[.slice A text.data.toList.length c] W fun e w' => ∃ A2 c2, e = .returned (.tuple #[.slice A2 ks.length c2, .bool true]) ∧ Rd w' A2 (is_ ks) ∧ Below W.heap.size W w') := Lib.hid fun A c W hz hc hr => by
  have := all_any A c text.data.toList W hz (by rw [Array.length_toList]; exact hs) hc hr
  rw [hks] at this
  exact this
 obtain ⟨t3, h3⟩ : ∃ x, (typ == 3) = x := ⟨_, rfl⟩
 rw [h3] at hL
 have HL := Lib.hid hL
 have HN := Lib.hid hn
 have HZ := Lib.hid hz
 clear hL hn hks hs h16 hz
 have k0 := Blk.new w 95 #[.int .i64 code, .int .i64 mods, .int .i64 typ, .int .i64 shift, .int .i64 base, .string text, .int .i64 s, .int .i64 K]
 have hB0 : Below w.heap.size w (w.alloc (.cells #[.int .i64 code, .int .i64 mods, .int .i64 typ, .int .i64 shift, .int .i64 base, .string text, .int .i64 s, .int .i64 K] 95)) := (Below.refl _ _).alloc (Nat.le_refl _) _
 obtain ⟨a0, a1, a2, a3, a4, a5, a6, a7⟩ := Blk.cells8 k0
 go_enter Tryz.func109, Tryz.ntmps109
 go_wp2_with fail
 refine (H16.out _).mono ?_
 rintro e w1 ⟨rfl, hb1⟩
 have k1 := k0.below hb1 k0.lt
 have hB1 := hB0.trans (hb1.mono hB0.size)
 clear k0 hB0 hb1 a0 a1 a2 a3 a4 a5 a6 a7
 obtain ⟨a0, a1, a2, a3, a4, a5, a6, a7⟩ := Blk.cells8 k1
 cases b16 with
 | false =>
   go_wp2_with fail
   go_ret
   exact OutJ.none HL.out.symm HN.out hB1
 | true =>
   cases t3 with
   | true =>
     go_wp2_with fail
     go_ret
     exact OutJ.none HL.out.symm HN.out hB1
   | false =>
     have HE := Lib.hid (show ks = L from HL.out)
     have hs1 := hB1.size
     go_wp2_with (first
      | ((with_reducible refine list_conv _ rfl (.tmp 18) 9 27 rfl w.heap.size 5 text ?_ Tryz.underlying9 Tryz.underlying27 Tryz.underlying5 hm hs1 ?_); rfl; intro v1 w2 own1 hg1; obtain ⟨A1, c1, rfl, hr1⟩ := own1.form; have hc1 := own1.capT; have hB2 := hB1.trans ((below_none hg1).mono hB1.size); clear hg1))
     refine (HA.out A1 c1 w2 (HZ.out.below' hB2) hc1 hr1).mono ?_
     rintro e w3 ⟨A2, c2, rfl, hr2, hb3⟩
     have hB3 := hB2.trans (hb3.mono hB2.size)
     go_wp2_with fail
     go_ret
     exact OutJ.of HE.out.symm HN.out rfl hr2 hB3
set_option maxRecDepth 100000 in
set_option maxHeartbeats 8000000 in
theorem kform_any (c : Int) (w : World) (hz : Siz w) (hR : Rws w) : Calls Tryz.prog 105 #[.int .i64 c] w fun e w' => e = .returned (frmV (frmK c)) ∧ Below w.heap.size w w' := by
 have hlk := plook_any c w hz hR
 obtain ⟨⟨K, F, N, C, B⟩, hE⟩ : ∃ E, lookE c = E := ⟨_, rfl⟩
 have hv := frm_val hE
 rw [hE] at hlk
 obtain ⟨R, hR⟩ : ∃ R, frmK c = R := ⟨_, rfl⟩
 rw [hR] at hv ⊢
 have HV := Lib.hid hv
 clear hv hR hE
 have hlk2 : Calls Tryz.prog 15 #[.int .i64 c] w fun e w' => e = .returned (.agg #[.int .i64 K, .int .u8 F, .int .i64 N, .int .i64 C, .bool B]) ∧ Below w.heap.size w w' := hlk
 clear hlk
 go_enter Tryz.func105, Tryz.ntmps105
 go_wp2_with fail
 refine hlk2.mono ?_
 clear hlk2
 rintro e w1 ⟨rfl, hb1⟩
 have hB := hb1.alloc hb1.size (.cells #[.int .i64 K, .int .u8 F, .int .i64 N, .int .i64 C, .bool B] 36)
 have k0 := Blk.new w1 36 #[.int .i64 K, .int .u8 F, .int .i64 N, .int .i64 C, .bool B]
 clear hb1
 go_upto_region 2 with (fail)
 generalize hW : w1.alloc (.cells #[.int .i64 K, .int .u8 F, .int .i64 N, .int .i64 C, .bool B] 36) = W at *
 clear hW
 have a0 := k0.cell 0
 have a1 := k0.cell 1
 have a2 := k0.cell 2
 have a4 := k0.cell 4
 by_cases h0 : K = 0
 ·subst h0
  have HR := Lib.hid (show R = (0, 0) by rw [HV.out]; rfl)
  go_wp2_with fail
  go_ret2
  exact ⟨by rw [HR.out]; rfl, hB⟩
 have t0 : (K == 0) = false := beq_false_of_ne h0
 by_cases h1 : c = 57366
 ·have HR := Lib.hid (show R = (13, 126) by rw [HV.out, if_neg h0, if_pos h1])
  subst h1
  clear h0
  go_wp2_with fail
  go_ret2
  exact ⟨by rw [HR.out]; rfl, hB⟩
 have t1 : (c == 57366) = false := beq_false_of_ne h1
 by_cases h3 : K = 3
 ·subst h3
  cases B with
  | false =>
    have HR := Lib.hid (show R = (1, F) by rw [HV.out, if_neg h0, if_neg h1, if_pos ⟨rfl, rfl⟩])
    clear h0 h1
    go_wp2_with fail
    go_quiet (fail)
    go_wp2_with fail
    go_ret2
    exact ⟨by rw [HR.out]; rfl, below_drewN hB _⟩
  | true =>
    have HR := Lib.hid (show R = (c, 117) by rw [HV.out, if_neg h0, if_neg h1, if_neg (by simp), if_neg (by simp)])
    clear h0 h1
    go_wp2_with fail
    go_ret2
    exact ⟨by rw [HR.out]; rfl, hB⟩
 have t3 : (K == 3) = false := beq_false_of_ne h3
 by_cases h4 : K = 4
 ·subst h4
  cases B with
  | false =>
    have HR := Lib.hid (show R = (N, 126) by rw [HV.out, if_neg h0, if_neg h1, if_neg (by simp), if_pos ⟨rfl, rfl⟩])
    clear h0 h1 h3
    go_wp2_with fail
    go_ret2
    exact ⟨by rw [HR.out]; rfl, hB⟩
  | true =>
    have HR := Lib.hid (show R = (c, 117) by rw [HV.out, if_neg h0, if_neg h1, if_neg (by simp), if_neg (by simp)])
    clear h0 h1 h3
    go_wp2_with fail
    go_ret2
    exact ⟨by rw [HR.out]; rfl, hB⟩
 have t4 : (K == 4) = false := beq_false_of_ne h4
 have HR := Lib.hid (show R = (c, 117) by rw [HV.out, if_neg h0, if_neg h1, if_neg (fun e => h3 e.1), if_neg (fun e => h4 e.1)])
 clear h0 h1 h3 h4
 go_wp2_with fail
 go_ret2
 exact ⟨by rw [HR.out]; rfl, hB⟩
theorem outR_nil {w w' : World} (rm : Bool) (hb : Below w.heap.size w w') : OutR rm [] 0 w (.returned (.slice none 0 0)) w' := ⟨none, 0, rfl, fun _ => Nat.le_refl _, Rd.nil _ _, hb⟩
set_option maxRecDepth 100000 in
set_option maxHeartbeats 8000000 in
theorem lkey_none (m : Mo) (k : Ky) (hk : okK k) (hs : k.text.size ≤ 4294967296) (hm : mayK k = true) (h3 : k.typ ≠ 3) (e : En) (o K : Int) (he : lookE k.code = e) (ho : oldN k.mods = o) (hK : e.kind = K) (K0 : 0 ≤ K) (K8 : K < 8) (hV : lformAt K = (.agg #[.nilFunc, .bool false], false)) (rm : Bool) (w : World) (hz : Siz w) (hR : Rws w) :
 Calls Tryz.prog 35 #[moV m, kyV k] w (OutR rm [] 0 w) := by
 have HV := Lib.hid hV
 have HC : Hid (∀ W {b : Nat}, Blk W b 106 (evC m k e o) → W.cell? ⟨b, 16, none⟩ = some (.int .i64 K)) := Lib.hid fun W b h => by rw [← hK]; exact (ev_ent h).1
 clear hV
 have HM : Hid (∀ W, Siz W → Rws W → Calls Tryz.prog 66 #[.agg #[.int .i64 k.code, .int .i64 k.mods, .int .i64 k.typ, .int .i64 k.shift, .int .i64 k.base, .string k.text]] W fun e w' => e = .returned (.bool true) ∧ Below W.heap.size W w') := Lib.hid fun W h1 h2 => by rw [← hm]; exact pmods_may k hs W h1 h2
 have HO : Hid (∀ W, Calls Tryz.prog 77 #[.int .i64 k.mods] W fun e w' => e = .returned (.int .i64 o) ∧ Below W.heap.size W w') := Lib.hid fun W => by rw [← ho]; exact pold_any k.mods W hk.mods
 have HL : Hid (∀ W, Siz W → Rws W → Calls Tryz.prog 15 #[.int .i64 k.code] W fun x w' => x = .returned (.agg #[.int .i64 e.kind, .int .u8 e.fin, .int .i64 e.num, .int .i64 e.char, .bool e.keys]) ∧ Below W.heap.size W w') := Lib.hid fun W h1 h2 => by have := plook_any k.code W h1 h2; rw [he] at this; exact this
 have t3 : (k.typ == 3) = false := beq_false_of_ne h3
 have b0 : Below w.heap.size w (w.alloc (.cells #[.bool m.cursor, .bool m.keypad, .bool m.back, .bool m.focus, .bool m.paste, .bool m.lock, .bool m.line, .int .i64 m.mouse, .int .i64 m.coding, .int .i64 m.other] 23)) := (Below.refl _ w).alloc (Nat.le_refl _) _
 have b1 := b0.alloc b0.size (.cells #[.int .i64 k.code, .int .i64 k.mods, .int .i64 k.typ, .int .i64 k.shift, .int .i64 k.base, .string k.text] 25)
 have hB := b1.alloc b1.size (.cells #[.slice none 0 0] 27)
 have kM := ((Blk.new w 23 #[.bool m.cursor, .bool m.keypad, .bool m.back, .bool m.focus, .bool m.paste, .bool m.lock, .bool m.line, .int .i64 m.mouse, .int .i64 m.coding, .int .i64 m.other]).alloc (.cells #[.int .i64 k.code, .int .i64 k.mods, .int .i64 k.typ, .int .i64 k.shift, .int .i64 k.base, .string k.text] 25)).alloc (.cells #[.slice none 0 0] 27)
 have kK := (Blk.new (w.alloc (.cells #[.bool m.cursor, .bool m.keypad, .bool m.back, .bool m.focus, .bool m.paste, .bool m.lock, .bool m.line, .int .i64 m.mouse, .int .i64 m.coding, .int .i64 m.other] 23)) 25 #[.int .i64 k.code, .int .i64 k.mods, .int .i64 k.typ, .int .i64 k.shift, .int .i64 k.base, .string k.text]).alloc (.cells #[.slice none 0 0] 27)
 have kR := Blk.new ((w.alloc (.cells #[.bool m.cursor, .bool m.keypad, .bool m.back, .bool m.focus, .bool m.paste, .bool m.lock, .bool m.line, .int .i64 m.mouse, .int .i64 m.coding, .int .i64 m.other] 23)).alloc (.cells #[.int .i64 k.code, .int .i64 k.mods, .int .i64 k.typ, .int .i64 k.shift, .int .i64 k.base, .string k.text] 25)) 27 #[.slice none 0 0]
 obtain ⟨W1, hW1⟩ : ∃ W1, ((w.alloc (.cells #[.bool m.cursor, .bool m.keypad, .bool m.back, .bool m.focus, .bool m.paste, .bool m.lock, .bool m.line, .int .i64 m.mouse, .int .i64 m.coding, .int .i64 m.other] 23)).alloc (.cells #[.int .i64 k.code, .int .i64 k.mods, .int .i64 k.typ, .int .i64 k.shift, .int .i64 k.base, .string k.text] 25)).alloc (.cells #[.slice none 0 0] 27) = W1 := ⟨_, rfl⟩
 rw [hW1] at hB kM kK kR
 simp only [World.size_alloc] at kM kK kR
 obtain ⟨a0, a1, a2, a3, a4, a5⟩ := Blk.cells6 kK
 rw [moV, kyV]
 go_enter_defers Tryz.func35, Tryz.ntmps35
 go_wp2_with fail
 refine (HM.out _ (hz.below' hB) (hR.below hB)).mono ?_
 rintro x w2 ⟨rfl, hb2⟩
 have hB2 := hB.trans (hb2.mono hB.size)
 replace kM := kM.below hb2 kM.lt
 replace kK := kK.below hb2 kK.lt
 replace kR := kR.below hb2 kR.lt
 clear hB hb2 a0 a1 a2 a3 a4 a5 HM hW1 b0 b1
 obtain ⟨a0, a1, a2, a3, a4, a5⟩ := Blk.cells6 kK
 go_upto_region 3 with (fail)
 have hst : ∀ f ∈ [(⟨9, 5, FNew w2 106 #[.bool false, .bool false, .bool false, .bool false, .bool false, .bool false, .bool false, .int .i64 0, .int .i64 0, .int .i64 0, .int .i64 0, .int .i64 0, .int .i64 0, .int .i64 0, .int .i64 0, .string ⟨#[]⟩, .int .i64 0, .int .u8 0, .int .i64 0, .int .i64 0, .bool false, .int .i64 0]⟩ : Fact)], f.ok := fun f hf => by rw [List.mem_singleton] at hf; subst hf; exact fnew_ok _ _ _ _ _
 refine wp_region_last (w1 := w2) (K := [⟨9, 5, FNew w2 106 #[.bool false, .bool false, .bool false, .bool false, .bool false, .bool false, .bool false, .int .i64 0, .int .i64 0, .int .i64 0, .int .i64 0, .int .i64 0, .int .i64 0, .int .i64 0, .int .i64 0, .string ⟨#[]⟩, .int .i64 0, .int .u8 0, .int .i64 0, .int .i64 0, .bool false, .int .i64 0]⟩]) (ix := 10) (iz := 10) (R0 := fun _ _ _ => True) (R1 := fun g _ w => Below w2.heap.size w2 w ∧ FNew w2 106 (evC m k e o) (g 5) w) [5] (⟨#[.agg #[.bool m.cursor, .bool m.keypad, .bool m.back, .bool m.focus, .bool m.paste, .bool m.lock, .bool m.line, .int .i64 m.mouse, .int .i64 m.coding, .int .i64 m.other], .agg #[.int .i64 k.code, .int .i64 k.mods, .int .i64 k.typ, .int .i64 k.shift, .int .i64 k.base, .string k.text], .pointer (some ⟨w.heap.size, 0, none⟩), .pointer (some ⟨w.heap.size + 1, 0, none⟩), .pointer (some ⟨w.heap.size + 1 + 1, 0, none⟩), undef, undef, undef, .agg #[.int .i64 k.code, .int .i64 k.mods, .int .i64 k.typ, .int .i64 k.shift, .int .i64 k.base, .string k.text], .bool true, .bool false, .bool false, .pointer (some ⟨w.heap.size + 1, 2, none⟩), .int .i64 k.typ, .bool false, .bool false, .agg #[.bool m.cursor, .bool m.keypad, .bool m.back, .bool m.focus, .bool m.paste, .bool m.lock, .bool m.line, .int .i64 m.mouse, .int .i64 m.coding, .int .i64 m.other], .agg #[.int .i64 k.code, .int .i64 k.mods, .int .i64 k.typ, .int .i64 k.shift, .int .i64 k.base, .string k.text], .pointer (some ⟨w.heap.size + 1, 0, none⟩), .int .i64 k.code, .agg #[.int .i64 e.kind, .int .u8 e.fin, .int .i64 e.num, .int .i64 e.char, .bool e.keys], .pointer (some ⟨w.heap.size + 1, 1, none⟩), .int .i64 k.mods, .int .i64 o, .agg (evC m k e o), undef, undef, undef, undef, undef, undef, undef, undef, undef, undef, undef, undef, undef, undef, undef], []⟩) (fun g => ⟨#[.agg #[.bool m.cursor, .bool m.keypad, .bool m.back, .bool m.focus, .bool m.paste, .bool m.lock, .bool m.line, .int .i64 m.mouse, .int .i64 m.coding, .int .i64 m.other], .agg #[.int .i64 k.code, .int .i64 k.mods, .int .i64 k.typ, .int .i64 k.shift, .int .i64 k.base, .string k.text], .pointer (some ⟨w.heap.size, 0, none⟩), .pointer (some ⟨w.heap.size + 1, 0, none⟩), .pointer (some ⟨w.heap.size + 1 + 1, 0, none⟩), (g 5), undef, undef, .agg #[.int .i64 k.code, .int .i64 k.mods, .int .i64 k.typ, .int .i64 k.shift, .int .i64 k.base, .string k.text], .bool true, .bool false, .bool false, .pointer (some ⟨w.heap.size + 1, 2, none⟩), .int .i64 k.typ, .bool false, .bool false, .agg #[.bool m.cursor, .bool m.keypad, .bool m.back, .bool m.focus, .bool m.paste, .bool m.lock, .bool m.line, .int .i64 m.mouse, .int .i64 m.coding, .int .i64 m.other], .agg #[.int .i64 k.code, .int .i64 k.mods, .int .i64 k.typ, .int .i64 k.shift, .int .i64 k.base, .string k.text], .pointer (some ⟨w.heap.size + 1, 0, none⟩), .int .i64 k.code, .agg #[.int .i64 e.kind, .int .u8 e.fin, .int .i64 e.num, .int .i64 e.char, .bool e.keys], .pointer (some ⟨w.heap.size + 1, 1, none⟩), .int .i64 k.mods, .int .i64 o, .agg (evC m k e o), undef, undef, undef, undef, undef, undef, undef, undef, undef, undef, undef, undef, undef, undef, undef], []⟩) [.agg #[.bool m.cursor, .bool m.keypad, .bool m.back, .bool m.focus, .bool m.paste, .bool m.lock, .bool m.line, .int .i64 m.mouse, .int .i64 m.coding, .int .i64 m.other], .agg #[.int .i64 k.code, .int .i64 k.mods, .int .i64 k.typ, .int .i64 k.shift, .int .i64 k.base, .string k.text], .pointer (some ⟨w.heap.size + 1, 0, none⟩), .int .i64 k.code, .agg #[.int .i64 e.kind, .int .u8 e.fin, .int .i64 e.num, .int .i64 e.char, .bool e.keys], .pointer (some ⟨w.heap.size + 1, 1, none⟩), .int .i64 k.mods, .int .i64 o, .agg (evC m k e o), undef, undef] (by kernel_rfl) (by kernel_rfl) (by kernel_rfl) (fun g => by kernel_rfl) (by kernel_rfl) (Below.refl _ _).drew (by decide)
  (goes_cons (gkL hst (fun W hW => kM.below hW kM.lt) Tryz.underlying23 (hah := ahead_path [8, 0] (by kernel_rfl) (by decide)))
  (goes_cons (gkL hst (fun W hW => kK.below hW kK.lt) Tryz.underlying25 (hah := ahead_path [8, 1] (by kernel_rfl) (by decide)))
  (goes_cons (gkP (fun g => .pointer (some ⟨w.heap.size + 1, 0, none⟩)))
  (goes_cons (gkC hst (fun W hW => (kK.below hW kK.lt).cell 0) (hah := ahead_path [8, 4, 3] (by kernel_rfl) (by decide)))
  (goes_cons (gkK (fun g => #[.int .i64 k.code]) hst (fun g W hW hin => HL.out W (hz.below' (hB2.trans (hW.mono hB2.size))) (hR.below (hB2.trans (hW.mono hB2.size)))) (hah := ahead_path [8, 4] (by kernel_rfl) (by decide)))
  (goes_cons (gkP (fun g => .pointer (some ⟨w.heap.size + 1, 1, none⟩)))
  (goes_cons (gkC hst (fun W hW => (kK.below hW kK.lt).cell 1) (hah := ahead_path [8, 7, 6] (by kernel_rfl) (by decide)))
  (goes_cons (gkK (fun g => #[.int .i64 k.mods]) hst (fun g W hW hin => HO.out W) (hah := ahead_path [8, 7] (by kernel_rfl) (by decide)))
  (goes_cons (gkP (fun g => .agg (evC m k e o)))
  (goes_cons (goesK_new hst (ahead_path [9] (by kernel_rfl) (by decide)) rfl (by decide) (by decide) 0 rfl (by kernel_rfl) (fun g => by kernel_rfl) rfl (fun g => by kernel_rfl) (fun g w => by kernel_rfl))
  (goes_cons (goesP_put rfl rfl rfl (fun f hf => by rw [List.mem_singleton] at hf; subst hf; exact ⟨show (9 : Nat) ≠ 10 by decide, [9], by kernel_rfl, show (9 : Nat) ∈ [9] by decide⟩) 0 rfl (fun g => by kernel_rfl) rfl rfl (fun g => by kernel_rfl) (fun g => by kernel_rfl) rfl (by kernel_rfl) (by kernel_rfl)) goes_nil))))))))))) ?_
 rintro g _ w3 _ _ ⟨hb3, b5, g5, s5, k5⟩
 rw [g5]
 clear g5 hst
 have hB3 := hB2.trans (hb3.mono hB2.size)
 have s5w : w.heap.size ≤ b5 := Nat.le_trans hB2.size s5
 have rb5 : w.heap.size + 1 + 1 < b5 := Nat.lt_of_lt_of_le kR.lt s5
 replace kR := kR.below hb3 kR.lt
 clear hB2 hb3 kM kK a0 a1 a2 a3 a4 a5 HO HL
 go_upto_region 4 with (fail)
 have hst : ∀ f ∈ [(⟨0, 26, fun v w => LFormsE w3 v w⟩ : Fact), ⟨8, 6, FNew w3 109 #[.nilFunc, .bool false]⟩], f.ok := List.forall_mem_cons.2 ⟨lforms_ok _ _ _, List.forall_mem_cons.2 ⟨fnew_ok _ _ _ _ _, fun _ h => by cases h⟩⟩
 refine wp_region_last (w1 := w3) (K := [⟨0, 26, fun v w => LFormsE w3 v w⟩, ⟨8, 6, FNew w3 109 #[.nilFunc, .bool false]⟩]) (ix := 9) (iz := 9) (R0 := fun _ _ _ => True) (R1 := fun g _ w => Below w3.heap.size w3 w ∧ FNew w3 109 #[.nilFunc, .bool false] (g 6) w) [26, 6] (⟨#[.agg #[.bool m.cursor, .bool m.keypad, .bool m.back, .bool m.focus, .bool m.paste, .bool m.lock, .bool m.line, .int .i64 m.mouse, .int .i64 m.coding, .int .i64 m.other], .agg #[.int .i64 k.code, .int .i64 k.mods, .int .i64 k.typ, .int .i64 k.shift, .int .i64 k.base, .string k.text], .pointer (some ⟨w.heap.size, 0, none⟩), .pointer (some ⟨w.heap.size + 1, 0, none⟩), .pointer (some ⟨w.heap.size + 1 + 1, 0, none⟩), .pointer (some ⟨b5, 0, none⟩), undef, .bool false, .agg #[.int .i64 k.code, .int .i64 k.mods, .int .i64 k.typ, .int .i64 k.shift, .int .i64 k.base, .string k.text], .bool true, .bool false, .bool false, .pointer (some ⟨w.heap.size + 1, 2, none⟩), .int .i64 k.typ, .bool false, .bool false, .agg #[.bool m.cursor, .bool m.keypad, .bool m.back, .bool m.focus, .bool m.paste, .bool m.lock, .bool m.line, .int .i64 m.mouse, .int .i64 m.coding, .int .i64 m.other], .agg #[.int .i64 k.code, .int .i64 k.mods, .int .i64 k.typ, .int .i64 k.shift, .int .i64 k.base, .string k.text], .pointer (some ⟨w.heap.size + 1, 0, none⟩), .int .i64 k.code, .agg #[.int .i64 e.kind, .int .u8 e.fin, .int .i64 e.num, .int .i64 e.char, .bool e.keys], .pointer (some ⟨w.heap.size + 1, 1, none⟩), .int .i64 k.mods, .int .i64 o, .agg (evC m k e o), .tuple #[.agg #[.nilFunc, .bool false], .bool false], undef, .pointer (some ⟨b5, 16, none⟩), .pointer (some ⟨b5, 16, none⟩), .int .i64 K, .tuple #[.agg #[.nilFunc, .bool false], .bool false], .agg #[.nilFunc, .bool false], .bool false, undef, undef, undef, undef, undef, undef, undef], []⟩) (fun g => ⟨#[.agg #[.bool m.cursor, .bool m.keypad, .bool m.back, .bool m.focus, .bool m.paste, .bool m.lock, .bool m.line, .int .i64 m.mouse, .int .i64 m.coding, .int .i64 m.other], .agg #[.int .i64 k.code, .int .i64 k.mods, .int .i64 k.typ, .int .i64 k.shift, .int .i64 k.base, .string k.text], .pointer (some ⟨w.heap.size, 0, none⟩), .pointer (some ⟨w.heap.size + 1, 0, none⟩), .pointer (some ⟨w.heap.size + 1 + 1, 0, none⟩), .pointer (some ⟨b5, 0, none⟩), (g 6), .bool false, .agg #[.int .i64 k.code, .int .i64 k.mods, .int .i64 k.typ, .int .i64 k.shift, .int .i64 k.base, .string k.text], .bool true, .bool false, .bool false, .pointer (some ⟨w.heap.size + 1, 2, none⟩), .int .i64 k.typ, .bool false, .bool false, .agg #[.bool m.cursor, .bool m.keypad, .bool m.back, .bool m.focus, .bool m.paste, .bool m.lock, .bool m.line, .int .i64 m.mouse, .int .i64 m.coding, .int .i64 m.other], .agg #[.int .i64 k.code, .int .i64 k.mods, .int .i64 k.typ, .int .i64 k.shift, .int .i64 k.base, .string k.text], .pointer (some ⟨w.heap.size + 1, 0, none⟩), .int .i64 k.code, .agg #[.int .i64 e.kind, .int .u8 e.fin, .int .i64 e.num, .int .i64 e.char, .bool e.keys], .pointer (some ⟨w.heap.size + 1, 1, none⟩), .int .i64 k.mods, .int .i64 o, .agg (evC m k e o), .tuple #[.agg #[.nilFunc, .bool false], .bool false], (g 26), .pointer (some ⟨b5, 16, none⟩), .pointer (some ⟨b5, 16, none⟩), .int .i64 K, .tuple #[.agg #[.nilFunc, .bool false], .bool false], .agg #[.nilFunc, .bool false], .bool false, undef, undef, undef, undef, undef, undef, undef], []⟩) [undef, .pointer (some ⟨b5, 16, none⟩), .pointer (some ⟨b5, 16, none⟩), .int .i64 K, .tuple #[.agg #[.nilFunc, .bool false], .bool false], .tuple #[.agg #[.nilFunc, .bool false], .bool false], .agg #[.nilFunc, .bool false], .bool false, undef, undef, .bool false] (by kernel_rfl) (by kernel_rfl) (by kernel_rfl) (fun g => by kernel_rfl) (by kernel_rfl) (Below.refl _ _).drew (by decide)
  (goes_cons (gkG (fun g => #[]) hst 0 (fun g W hW hin => lforms_in hW.size) (hah := ahead_path [6, 5, 4, 0] (by kernel_rfl) (by decide)))
  (goes_cons (gkP (fun g => .pointer (some ⟨b5, 16, none⟩)))
  (goes_cons (gkP (fun g => .pointer (some ⟨b5, 16, none⟩)))
  (goes_cons (gkC hst (fun W hW => HC.out W (k5.below hW k5.lt)) (hah := ahead_path [6, 5, 4, 3] (by kernel_rfl) (by decide)))
  (goes_cons (goesK_know (.tuple #[.agg #[.nilFunc, .bool false], .bool false]) hst (ahead_path [6, 5, 4] (by kernel_rfl) (by decide)) rfl (by decide) (by decide) (by kernel_rfl) (fun g => by kernel_rfl) rfl (fun g => by kernel_rfl) (fun g w hW hin => know_look rfl rfl (by kernel_rfl) (hin 0 _ rfl (by kernel_rfl)) K0 K8 HV.out))
  (goes_cons (gkP (fun g => .tuple #[.agg #[.nilFunc, .bool false], .bool false]))
  (goes_cons (gkP (fun g => .agg #[.nilFunc, .bool false]))
  (goes_cons (gkP (fun g => .bool false))
  (goes_cons (goesK_new hst (ahead_path [8] (by kernel_rfl) (by decide)) rfl (by decide) (by decide) 1 rfl (by kernel_rfl) (fun g => by kernel_rfl) rfl (fun g => by kernel_rfl) (fun g w => by kernel_rfl))
  (goes_cons (goesP_put rfl rfl rfl (List.forall_mem_cons.2 ⟨⟨show (0 : Nat) ≠ 9 by decide, [6, 5, 4, 0], by kernel_rfl, show (0 : Nat) ∈ [6, 5, 4, 0] by decide⟩, List.forall_mem_cons.2 ⟨⟨show (8 : Nat) ≠ 9 by decide, [8], by kernel_rfl, show (8 : Nat) ∈ [8] by decide⟩, fun _ h => by cases h⟩⟩) 1 rfl (fun g => by kernel_rfl) rfl rfl (fun g => by kernel_rfl) (fun g => by kernel_rfl) rfl (by kernel_rfl) (by kernel_rfl))
  (goes_cons (gkP (fun g => .bool false)) goes_nil))))))))))) ?_
 rintro g _ w4 _ _ ⟨hb4, b6, g6, s6, k6⟩
 rw [g6]
 obtain ⟨G26, _⟩ : ∃ v, g 26 = v := ⟨_, rfl⟩
 clear g6 hst
 have hB4 := hB3.trans (hb4.mono hB3.size)
 have rb6 : w.heap.size + 1 + 1 < b6 := Nat.lt_of_lt_of_le kR.lt s6
 replace kR := kR.below hb4 kR.lt
 replace k5 := k5.below hb4 k5.lt
 clear hB3 hb4
 have cR : w4.cell? ⟨w.heap.size + 1 + 1, 0, none⟩ = some (.slice none 0 0) := kR.cell 0
 have fR := kR.frozen 0
 have kR' : Blk (w4.setCell ⟨w.heap.size + 1 + 1, 0, none⟩ (.slice none 0 0)) (w.heap.size + 1 + 1) 27 #[.slice none 0 0] := kR.set 0 _
 have hB6 : Below w.heap.size w (w4.setCell ⟨w.heap.size + 1 + 1, 0, none⟩ (.slice none 0 0)) := hB4.setCell (p := ⟨w.heap.size + 1 + 1, 0, none⟩) (by show w.heap.size ≤ w.heap.size + 1 + 1; omega) _
 go_wp2_with fail
 exact leaves_end (A := none) (n := 0) (c := 0) rfl kR' (outR_nil rm hB6)
set_option maxRecDepth 100000 in
set_option maxHeartbeats 8000000 in
theorem lkey_no (m : Mo) (k : Ky) (hs : k.text.size ≤ 4294967296) (h : mayK k = false ∨ k.typ = 3) (rm : Bool) (w : World) (hz : Siz w) (hR : Rws w) :
 Calls Tryz.prog 35 #[moV m, kyV k] w (OutR rm [] 0 w) := by
 obtain ⟨q, hq⟩ : ∃ q, mayK k = q := ⟨_, rfl⟩
 rw [hq] at h
 have HM : Hid (∀ W, Siz W → Rws W → Calls Tryz.prog 66 #[.agg #[.int .i64 k.code, .int .i64 k.mods, .int .i64 k.typ, .int .i64 k.shift, .int .i64 k.base, .string k.text]] W fun e w' => e = .returned (.bool q) ∧ Below W.heap.size W w') := Lib.hid fun W h1 h2 => by rw [← hq]; exact pmods_may k hs W h1 h2
 clear hq hs
 have b0 : Below w.heap.size w (w.alloc (.cells #[.bool m.cursor, .bool m.keypad, .bool m.back, .bool m.focus, .bool m.paste, .bool m.lock, .bool m.line, .int .i64 m.mouse, .int .i64 m.coding, .int .i64 m.other] 23)) := (Below.refl _ w).alloc (Nat.le_refl _) _
 have b1 := b0.alloc b0.size (.cells #[.int .i64 k.code, .int .i64 k.mods, .int .i64 k.typ, .int .i64 k.shift, .int .i64 k.base, .string k.text] 25)
 have hB := b1.alloc b1.size (.cells #[.slice none 0 0] 27)
 have kK := (Blk.new (w.alloc (.cells #[.bool m.cursor, .bool m.keypad, .bool m.back, .bool m.focus, .bool m.paste, .bool m.lock, .bool m.line, .int .i64 m.mouse, .int .i64 m.coding, .int .i64 m.other] 23)) 25 #[.int .i64 k.code, .int .i64 k.mods, .int .i64 k.typ, .int .i64 k.shift, .int .i64 k.base, .string k.text]).alloc (.cells #[.slice none 0 0] 27)
 have kR := Blk.new ((w.alloc (.cells #[.bool m.cursor, .bool m.keypad, .bool m.back, .bool m.focus, .bool m.paste, .bool m.lock, .bool m.line, .int .i64 m.mouse, .int .i64 m.coding, .int .i64 m.other] 23)).alloc (.cells #[.int .i64 k.code, .int .i64 k.mods, .int .i64 k.typ, .int .i64 k.shift, .int .i64 k.base, .string k.text] 25)) 27 #[.slice none 0 0]
 obtain ⟨W1, hW1⟩ : ∃ W1, ((w.alloc (.cells #[.bool m.cursor, .bool m.keypad, .bool m.back, .bool m.focus, .bool m.paste, .bool m.lock, .bool m.line, .int .i64 m.mouse, .int .i64 m.coding, .int .i64 m.other] 23)).alloc (.cells #[.int .i64 k.code, .int .i64 k.mods, .int .i64 k.typ, .int .i64 k.shift, .int .i64 k.base, .string k.text] 25)).alloc (.cells #[.slice none 0 0] 27) = W1 := ⟨_, rfl⟩
 rw [hW1] at hB kK kR
 simp only [World.size_alloc] at kK kR
 obtain ⟨a0, a1, a2, a3, a4, a5⟩ := Blk.cells6 kK
 rw [moV, kyV]
 go_enter_defers Tryz.func35, Tryz.ntmps35
 go_wp2_with fail
 refine (HM.out _ (hz.below' hB) (hR.below hB)).mono ?_
 rintro x w2 ⟨rfl, hb2⟩
 have hB2 := hB.trans (hb2.mono hB.size)
 replace kK := kK.below hb2 kK.lt
 replace kR := kR.below hb2 kR.lt
 clear hB hb2 a0 a1 a2 a3 a4 a5 HM hW1 b0 b1
 have a2 := kK.cell 2
 have cR : w2.cell? ⟨w.heap.size + 1 + 1, 0, none⟩ = some (.slice none 0 0) := kR.cell 0
 have fR := kR.frozen 0
 have kR' : Blk (w2.setCell ⟨w.heap.size + 1 + 1, 0, none⟩ (.slice none 0 0)) (w.heap.size + 1 + 1) 27 #[.slice none 0 0] := kR.set 0 _
 have hB6 : Below w.heap.size w (w2.setCell ⟨w.heap.size + 1 + 1, 0, none⟩ (.slice none 0 0)) := hB2.setCell (p := ⟨w.heap.size + 1 + 1, 0, none⟩) (by show w.heap.size ≤ w.heap.size + 1 + 1; omega) _
 cases q with
 | false =>
   clear h
   go_wp2_with fail
   exact leaves_end (A := none) (n := 0) (c := 0) rfl kR' (outR_nil rm hB6)
 | true =>
   have h3 : k.typ = 3 := h.resolve_left (by decide)
   have a2' : w2.cell? ⟨w.heap.size + 1, 2, none⟩ = some (.int .i64 3) := by rw [← h3]; exact a2
   clear a2 h
   go_wp2_with fail
   exact leaves_end (A := none) (n := 0) (c := 0) rfl kR' (outR_nil rm hB6)
end Go.Proofs.YtceipblcdcgljaaGreatDoor
