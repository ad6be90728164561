/-
  Layer 13: what a law needs of the program; and the example that each statement asks. Stage 13, the landed kitty: its event's mathematics. A drawn region that lays one new block and stores known cells into it, last; and whose calls answer what the run alone tells.
-/
import Derived.Test.YtdfojkbgdoiglaaDoorG15
import Derived.Test.YtdfojkbgdoiglaaDoorG18
import Derived.Test.YtdfojkbgdoiglaaDoorG21
import Derived.Laws.BitsLemmas
namespace Go.Proofs.YtdfojkbgdoiglaaDoor
open Go.RowKit
structure KitC (Inv : World → Prop) : Prop where
 invB : ∀ {w w' : World}, Inv w → Below w.heap.size w w' → Inv w'
 key : ∀ (f : Int) (k : Ky) (w : World), Inv w → in10 f → okK k → k.text.size ≤ 4294967296 → Calls Tryd.prog 8 #[.int .i64 f, kyV k] w (Out (kitL f k) w)
 form : ∀ (c : Int) (w : World), Inv w → in10 c → Calls Tryd.prog 12 #[.int .i64 c] w fun e w' => e = .returned (frmV (frmK c)) ∧ Below w.heap.size w w'
variable {Inv : World → Prop}
theorem KitC.key_at (H : KitC Inv) (f : Int) (k : Ky) {L : List UInt8} (hL : kitL f k = L) {n : Nat} (hn : L.length = n) (hf : in10 f) (hk : okK k) (hs : k.text.size ≤ 4294967296) (w : World) (hi : Inv w) :
 Calls Tryd.prog 8 #[.int .i64 f, kyV k] w (OutN L n w) := by
 subst hL
 exact (H.key f k w hi hf hk hs).mono fun e w' h => outN hn h
theorem KitC.form_at (H : KitC Inv) {c n f : Int} (h : frmK c = (n, f)) (w : World) (hi : Inv w) (hc : in10 c) : Calls Tryd.prog 12 #[.int .i64 c] w fun e w' => e = .returned (.tuple #[.int .i64 n, .int .u8 f]) ∧ Below w.heap.size w w' := by
 have := H.form c w hi hc
 rw [h] at this
 exact this
theorem in_lit13 {c : Int} (h : (decide (-9223372036854775808 ≤ c) && decide (c ≤ 9223372036854775807)) = true) : in10 c := by
 simpa [in10] using h
theorem ok_lit13 {code mods typ : Int} (h1 : in10 code) (h2 : in10 mods) (h3 : in10 typ) (text : ByteArray) : okK ⟨code, mods, typ, 0, 0, text⟩ := ⟨h1, h2, h3, in_lit13 (c := 0) (by decide), in_lit13 (c := 0) (by decide)⟩
theorem ex_kit : kitL 1 ⟨99, 4, 1, 0, 0, ByteArray.empty⟩ = [27, 91, 57, 57, 59, 53, 117] ∧ kitL 8 ⟨97, 0, 1, 0, 0, ByteArray.empty⟩ = [27, 91, 57, 55, 117] ∧ kitL 2 ⟨57352, 0, 3, 0, 0, ByteArray.empty⟩ = [27, 91, 49, 59, 49, 58, 51, 65] ∧ frmK 57366 = (13, 126) := by decide +kernel
set_option maxRecDepth 100000 in
set_option maxHeartbeats 8000000 in
theorem kitAwake (H : KitC Inv) (w0 : World) (hv0 : Inv w0) : Calls Tryd.prog 6 #[] w0 fun e w' => e = .returned (.bool true) ∧ Below w0.heap.size w0 w' := by
 go_enter Tryd.func6, Tryd.ntmps6
 go_wp2_with fail
 refine (H.key_at 1 ⟨99, 4, 1, 0, 0, ByteArray.empty⟩ ex_kit.1 (n := 7) rfl (in_lit13 (by decide)) (ok_lit13 (in_lit13 (by decide)) (in_lit13 (by decide)) (in_lit13 (by decide)) _) (by decide) _ hv0).mono ?_
 rintro e w1 ⟨A1, c1, rfl, hr1, hb1⟩
 have hv1 := H.invB hv0 hb1
 go_wp2_with fail
 refine (H.key_at 8 ⟨97, 0, 1, 0, 0, ByteArray.empty⟩ ex_kit.2.1 (n := 5) rfl (in_lit13 (by decide)) (ok_lit13 (in_lit13 (by decide)) (in_lit13 (by decide)) (in_lit13 (by decide)) _) (by decide) _ hv1).mono ?_
 rintro e w2 ⟨A2, c2, rfl, hr2, hb2⟩
 have hr12 := hr1.below hb2
 have hB2 := hb1.trans (hb2.mono hb1.size)
 clear hr1 hb1 hb2 hv1
 go_wp2_with fail
 refine (H.key_at 2 ⟨57352, 0, 3, 0, 0, ByteArray.empty⟩ ex_kit.2.2.1 (n := 8) rfl (in_lit13 (by decide)) (ok_lit13 (in_lit13 (by decide)) (in_lit13 (by decide)) (in_lit13 (by decide)) _) (by decide) _ (H.invB hv0 hB2)).mono ?_
 rintro e w3 ⟨A3, c3, rfl, hr3, hb3⟩
 have hr13 := hr12.below hb3
 have hr23 := hr2.below hb3
 have hB3 := hB2.trans (hb3.mono hB2.size)
 clear hr12 hr2 hb3 hB2
 go_wp2_with fail
 refine (H.form_at ex_kit.2.2.2 _ (H.invB hv0 hB3) (in_lit13 (by decide))).mono ?_
 rintro e w4 ⟨rfl, hb4⟩
 have s1 := str_bs13 (n := 7) (c := c1) rfl (hr13.below hb4)
 have s2 := str_bs13 (n := 5) (c := c2) rfl (hr23.below hb4)
 have s3 := str_bs13 (n := 8) (c := c3) rfl (hr3.below hb4)
 have hB4 := hB3.trans (hb4.mono hB3.size)
 clear hr13 hr23 hr3 hb4 hB3
 go_wp2_with fail
 go_ret
 exact ⟨rfl, hB4⟩
end Go.Proofs.YtdfojkbgdoiglaaDoor
namespace Go.Proofs.YtdfojkbgdoiglaaDoor
open Go.RowKit
theorem kip_and (x i : Nat) : x &&& 2 ^ i = 0 ↔ x.testBit i = false := by
 constructor
 ·intro h
  have := congrArg (·.testBit i) h
  simpa [Nat.testBit_and] using this
 ·intro h
  refine Nat.eq_of_testBit_eq fun j => ?_
  rw [Nat.testBit_and, Nat.testBit_two_pow, Nat.zero_testBit]
  by_cases e : i = j
  ·subst e; rw [h]; rfl
  ·simp [e]
theorem kip_bit (x i : Nat) (hi : i < 6) (hx : x < 2 ^ 63) : (bits .and .i64 (x : Int) ((2 ^ i : Nat) : Int) != 0) = (x / 2 ^ i % 2 == 1) := by
 have hl : 2 ^ i < 2 ^ 63 := Nat.pow_lt_pow_right (by decide) (by omega)
 have hz := kip_and x i
 rw [(bits_nat .i64 63 (by decide) (fun n a b => by rw [IntKind.wrap_i64]; omega) x (2 ^ i) hx hl).1]
 rw [Nat.testBit_eq_decide_div_mod_eq] at hz
 rw [Bool.eq_iff_iff, bne_iff_ne, beq_iff_eq]
 have h2 : ((x &&& 2 ^ i : Nat) : Int) ≠ 0 ↔ ¬ (x &&& 2 ^ i = 0) := by omega
 rw [h2, hz]
 simp
theorem kip_has {f d : Int} (h2 : f ≤ 9223372036854775807) (hd : d = 2 ∨ d = 4 ∨ d = 8 ∨ d = 16) : (bits .and .i64 (max f 0) d != 0) = flagK f d := by
 obtain ⟨x, hx⟩ := Int.eq_ofNat_of_zero_le (show 0 ≤ max f 0 by omega)
 have hl : x < 2 ^ 63 := by omega
 unfold flagK flg
 rw [hx]
 rcases hd with rfl | rfl | rfl | rfl
 ·refine (kip_bit x 1 (by decide) hl).trans ?_
  rw [Bool.eq_iff_iff]; simp only [beq_iff_eq]; omega
 ·refine (kip_bit x 2 (by decide) hl).trans ?_
  rw [Bool.eq_iff_iff]; simp only [beq_iff_eq]; omega
 ·refine (kip_bit x 3 (by decide) hl).trans ?_
  rw [Bool.eq_iff_iff]; simp only [beq_iff_eq]; omega
 ·refine (kip_bit x 4 (by decide) hl).trans ?_
  rw [Bool.eq_iff_iff]; simp only [beq_iff_eq]; omega
theorem kip_shift {m : Int} (h0 : 0 ≤ m) (h1 : m ≤ 255) : (bits .and .i64 m 1 != 0) = hasN m 1 := by
 obtain ⟨n, rfl⟩ := Int.eq_ofNat_of_zero_le h0
 have : ∀ n : Fin 256, (bits .and .i64 ((n.1 : Nat) : Int) 1 != 0) = hasN ((n.1 : Nat) : Int) 1 := by decide +kernel
 exact this ⟨n, by omega⟩
theorem kip_none {m : Int} (h0 : 0 ≤ m) (h1 : m ≤ 255) : (bits .andNot .i64 m 193 == 0) = decide (m - m / 64 * 64 ≤ 1) ∧ (bits .andNot .i64 m 192 == 0) = (m - m / 64 * 64 == 0) := by
 obtain ⟨n, rfl⟩ := Int.eq_ofNat_of_zero_le h0
 have : ∀ n : Fin 256, (bits .andNot .i64 ((n.1 : Nat) : Int) 193 == 0) = decide (((n.1 : Nat) : Int) - ((n.1 : Nat) : Int) / 64 * 64 ≤ 1) ∧ (bits .andNot .i64 ((n.1 : Nat) : Int) 192 == 0) = (((n.1 : Nat) : Int) - ((n.1 : Nat) : Int) / 64 * 64 == 0) := by decide +kernel
 exact this ⟨n, by omega⟩
def typesK (k : Ky) : Bool := (lookE k.code).kind == 1 || keyedK k.code
def goesK (f : Int) (k : Ky) : Bool := if k.typ = 3 ∧ flagK f 2 = false then false else if flagK f 8 = true then true else (lookE k.code).kind != 7 && !(k.typ == 3 && typesK k)
theorem kip_sent (f : Int) {k : Ky} (hm : mayK k = true) : sentK f k = goesK f k := by
 unfold sentK goesK typesK
 rw [if_neg (by rw [hm]; decide)]
 cases h2 : flagK f 2 <;> cases h8 : flagK f 8 <;> by_cases h3 : k.typ = 3 <;> by_cases h1 : (lookE k.code).kind = 1 <;> by_cases h7 : (lookE k.code).kind = 7 <;> cases hk : keyedK k.code <;> simp_all
theorem kip_keyed {c : Int} (h : keyedK c = true) : c = 9 ∨ c = 13 ∨ c = 127 := by
 unfold keyedK at h
 simpa [or_assoc] using h
theorem kip_plain {k : Ky} (hm : mayK k = true) (h : astextK k = true) : plainK k = if (lookE k.code).kind = 1 ∧ k.text.data.toList ≠ [] then k.text.data.toList else putL (shownK k) := by
 obtain ⟨⟨_, m0, m1, _, _⟩, _⟩ := (may_parts k).1 hm
 unfold astextK at h
 unfold plainK
 by_cases h1 : (lookE k.code).kind = 1
 ·rw [if_neg (by rw [(text_low h1).2]; decide)]
  by_cases ht : k.text.data.toList = []
  ·rw [if_neg (fun hh => hh ht), if_neg (fun hh => hh.2 ht)]
  ·rw [if_pos ht, if_pos ⟨h1, ht⟩]
 ·rw [if_neg h1] at h
  simp only [Bool.and_eq_true, beq_iff_eq] at h
  obtain ⟨hk, hz⟩ := h
  rw [if_pos hk, if_neg (fun hh => h1 hh.1)]
  have hs : shownK k = k.code := by
   unfold shownK
   refine if_pos ?_
   unfold hasN
   rw [beq_eq_false_iff_ne]
   omega
  rw [hs]
  rcases kip_keyed hk with e | e | e <;> rw [e] <;> decide +kernel
theorem kip_text {f : Int} {k : Ky} (h8 : flagK f 8 = false) (h : goesK f k = true) : (flagK f 8 = false ∧ k.typ ≠ 3 ∧ astextK k = true) ↔ astextK k = true := by
 refine ⟨fun hh => hh.2.2, fun ha => ⟨h8, fun h3 => ?_, ha⟩⟩
 unfold goesK typesK at h
 unfold astextK at ha
 rw [h8, h3] at h
 by_cases h1 : (lookE k.code).kind = 1
 ·rw [h1] at h
  simp at h
 ·rw [if_neg h1] at ha
  simp only [Bool.and_eq_true, beq_iff_eq] at ha
  rw [ha.1] at h
  simp at h
theorem kip_others {s b c : Int} {t : Bool} (hs : 0 ≤ s) : altK s b c t = if b ≠ 0 ∧ b ≠ c then [if s ≠ 0 ∧ t = true then s else -1, b] else if (if s ≠ 0 ∧ t = true then s else -1) ≠ -1 then [if s ≠ 0 ∧ t = true then s else -1] else [] := by
 unfold altK
 by_cases h1 : s ≠ 0 ∧ t = true
 ·simp only [if_pos h1]
  rw [if_pos (show s ≠ -1 by omega), if_neg (show ¬ ((b ≠ 0 ∧ b ≠ c) ∧ ¬ (s ≠ 0 ∧ t = true)) from fun h => h.2 h1)]
  by_cases h2 : b ≠ 0 ∧ b ≠ c
  ·rw [if_pos h2, if_pos h2]; rfl
  ·rw [if_neg h2, if_neg h2]; rfl
 ·simp only [if_neg h1]
  by_cases h2 : b ≠ 0 ∧ b ≠ c
  ·rw [if_pos ⟨h2, h1⟩, if_pos h2, if_pos h2]; rfl
  ·rw [if_neg (fun h => h2 h.1), if_neg h2, if_neg h2]; rfl
def thirdK (f : Int) (k : Ky) : List Int := if flagK f 16 = false ∨ k.typ = 3 then [] else ptsK k
def trimK (A B P : List Int) : List (List Int) := if P ≠ [] then [A, B, P] else if B ≠ [-1] then [A, B] else if A ≠ [1] then [A] else []
theorem kip_params (f : Int) {k : Ky} (hm : mayK k = true) : paramsK f k = trimK (firstK f k) (secondK f k) (thirdK f k) := by
 obtain ⟨_, _, _, hc⟩ := (may_parts k).1 hm
 obtain ⟨ks, k1, _, _, k4⟩ := clean_pts hc
 have hn : k.text.data.toList = [] ↔ ptsK k = [] := by
  rw [pts_is k1]
  constructor
  ·intro h
   rw [h] at k1
   have : allL [] = some [] := by decide +kernel
   rw [this] at k1
   exact (Option.some.inj k1).symm
  ·intro h
   rw [h] at k4
   exact k4.symm
 have h3 : thirdK f k = if toldK f k then ptsK k else [] := by
  unfold thirdK
  by_cases ht : toldK f k
  ·rw [if_pos ht, if_neg (fun h => h.elim (fun h => by rw [ht.1] at h; cases h) ht.2.1)]
  ·rw [if_neg ht]
   split
   next => rfl
   next h =>
    by_cases he : k.text.data.toList = []
    ·exact hn.1 he
    ·exact absurd ⟨by simpa using fun h16 => h (.inl h16), fun h3 => h (.inr h3), he⟩ ht
 unfold paramsK trimK
 rw [h3]
 by_cases ht : toldK f k
 ·rw [if_pos ht, if_pos ht, if_pos (fun h => ht.2.2 (hn.2 h))]
 ·rw [if_neg ht, if_neg ht, if_neg (show ¬ (([] : List Int) ≠ []) from fun h => h rfl)]
theorem kip_param {m : Int} (h0 : 0 ≤ m) (h1 : m ≤ 255) : paramN m = 1 + m := by
 unfold paramN
 rw [if_neg (by omega)]
 omega
end Go.Proofs.YtdfojkbgdoiglaaDoor
namespace Go.Proofs.YtdfojkbgdoiglaaDoor
open Go.RowKit
section
variable {P : Program} {ops : Array Oper} {md : Region.Mode} {w1 : World} {K : List Fact} {ix iz : Nat} {R0 : (Tmp → Value) → World → World → Prop} {aF : (Tmp → Value) → Act} {i : Nat} {o : Oper}
def FNew (w1 : World) (ty : TypeId) (z : Array Value) (v : Value) (w : World) : Prop := ∃ b, v = .pointer (some ⟨b, 0, none⟩) ∧ w1.heap.size ≤ b ∧ Blk w b ty z
theorem fnew_ok (w1 : World) (i : Nat) (d : Tmp) (ty : TypeId) (z : Array Value) : (⟨i, d, FNew w1 ty z⟩ : Fact).ok := fun _ _ _ ⟨b, e, h1, h2⟩ hb => ⟨b, e, h1, h2.below hb h2.lt⟩
theorem goesK_new {d : Tmp} {ty : TypeId} {z : Array Value} (hst : ∀ f ∈ K, f.ok) (hah : Ahead md ops ix i) (hio : ops[i]? = some o) (hx : i ≠ ix) (hz : i ≠ iz) (p : Nat) (hat : K[p]? = some ⟨i, d, FNew w1 ty z⟩) (huq : ((List.range K.length).all fun q => q == p || ((K[q]?).map fun f => f.i != i && f.d != d).getD true) = true) (hw : ∀ g, Region.wanted o (yielded ops (aF g).tmps) = true) (h0 : o.dst = some d) (hd : ∀ g, (aF g).tmps[d]? = some (g d)) {R1 : (Tmp → Value) → World → World → Prop}
 (hr : ∀ g w, (execOp (aF g).eval o).run P w = .ok (.value (.pointer (some ⟨w.heap.size, 0, none⟩))) (w.alloc (.cells z ty))) : GoesM P md ops aF (SK md ops w1 K ix iz R0 R1) i o :=
 goesK_make hst hah hio hx hz p hat huq hw h0 hd (fun w => .pointer (some ⟨w.heap.size, 0, none⟩)) (fun w => w.alloc (.cells z ty)) hr fun w hb => ⟨⟨w.heap.size, rfl, hb.size, Blk.new w ty z⟩, (Below.refl _ w).alloc (Nat.le_refl _) _⟩
theorem goesP_put {ty : TypeId} {x y : Operand} {d : Tmp} {j : Nat} {z cs : Array Value} (hi : i = ix) (hxz : ix = iz) (hio : ops[i]? = some o) (hall : ∀ f ∈ K, f.i ≠ i ∧ ∃ js, pathB md ops ix js = true ∧ f.i ∈ js) (p : Nat) (hat : K[p]? = some ⟨j, d, FNew w1 ty z⟩) (hw : ∀ g, Region.wanted o (yielded ops (aF g).tmps) = true) (hop : o.op = .store ty x y) (ho : o.dst = none) (hx : ∀ g, (aF g).eval x = g d) (hy : ∀ g, (aF g).eval y = .agg cs) (hs : cs.size = z.size) (hin : (P.info? ty).map (·.size) = some z.size) (h1 : cs.toList.all (·.oneCell') = true) :
 GoesM P md ops aF (SK md ops w1 K ix iz R0 (fun g _ w => Below w1.heap.size w1 w ∧ FNew w1 ty cs (g d) w)) i o := fun l g w hsz hf hrd hS => by
 subst hxz hi
 rw [if_pos (hw g)]
 obtain ⟨b1, h2⟩ := hS.pre hf
 have hsh := hS.shut.step hio hrd
 have hlt : i < l.size := by rw [hsz]; exact (Array.getElem?_eq_some_iff.1 hio).1
 have hfs : ∀ f ∈ K, f.F (g f.d) w := fun f hf' => h2 f hf' (by
  obtain ⟨hne, js, hp, hm⟩ := hall f hf'
  have := hsh.path i js (getD_self hlt) hp f.i hm
  rwa [getD_set_ne false (fun e => hne e.symm)] at this)
 obtain ⟨b, g1, g2, g3⟩ : FNew w1 ty z (g d) w := hfs _ (List.mem_of_getElem? hat)
 have hrun := g3.run_set (P := P) cs hs hin h1
 refine .inl ⟨undef, w.setCells b 0 cs.toList, .inr ⟨?_, rfl⟩, g, .inl rfl, (fun d' h' => by rw [ho] at h'; cases h'), hsh, ?_, ?_, fun _ => ⟨w, b1, hfs, b1.grown (grown_setCells b _ 0 w) b1.size (fun k e => by cases e; exact g2), b, g1, g2, g3.setAll hs⟩, fun h => h⟩
 ·unfold execOp
  simp only [hop, hx, hy, g1, Sem.run_bind, hrun, Result.andThen_ok, Sem.run_pure]
 ·rw [getD_self hlt]; intro h; cases h
 ·rw [getD_self hlt]; intro _ h; cases h
end
end Go.Proofs.YtdfojkbgdoiglaaDoor
