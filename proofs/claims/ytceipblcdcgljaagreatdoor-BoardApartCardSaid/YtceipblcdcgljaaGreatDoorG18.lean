/-
  Layer 14's mathematics: what a key sends, in whichever form. Layer 9: the document's own answers: Look. Layer 12: words for what its calls leave. Stage 13, the landed kitty: its event's mathematics. A call that tells bytes: the slice, and, where that is known, its room. Regions that draw their order (RegK's state), whose operations make what the run alone tells out of what it told ahead: an append onto a slice without room, a struct built, a name given.
-/
import Derived.Test.YtceipblcdcgljaaGreatDoorG07
import Derived.Test.YtceipblcdcgljaaGreatDoorG09
import Derived.Test.YtceipblcdcgljaaGreatDoorG11
import Derived.Test.YtceipblcdcgljaaGreatDoorG12
import Derived.Test.YtceipblcdcgljaaGreatDoorG13
import Derived.Test.YtceipblcdcgljaaGreatDoorG15
import Derived.Test.YtceipblcdcgljaaGreatDoorG17
import Derived.Laws.BitsLemmas
import Derived.Laws.Slices
namespace Go.Proofs.YtceipblcdcgljaaGreatDoor
def clearsK (f : Int) : Bool := flg f % 2 == 1 || flg f / 8 % 2 == 1
def brdL (m : Mo) (f : Int) (k : Ky) : List UInt8 :=
 if m.lock = true then [] else if clearsK f = true then kitL f k else if isO m.other k = true then othL m.other k else legL m k
theorem brd_lock {m : Mo} (h : m.lock = true) (f : Int) (k : Ky) : brdL m f k = [] := if_pos h
theorem brd_clear {m : Mo} (h : m.lock = false) {f : Int} (hf : clearsK f = true) (k : Ky) : brdL m f k = kitL f k := by
 unfold brdL
 rw [if_neg (by rw [h]; decide), if_pos hf]
theorem brd_modes {m : Mo} (h : m.lock = false) {f : Int} (hf : clearsK f = false) (k : Ky) : brdL m f k = if isO m.other k = true then othL m.other k else legL m k := by
 unfold brdL
 rw [if_neg (by rw [h]; decide), if_neg (by rw [hf]; decide)]
theorem brd_apart {m n : Mo} (hm : m.lock = false) (hn : n.lock = false) (a b : Int) (k : Ky) : (clearsK a = true → brdL m a k = brdL n a k) ∧ (clearsK a = false → clearsK b = false → brdL m a k = brdL m b k) := by
 refine ⟨fun h => ?_, fun h g => ?_⟩
 ·rw [brd_clear hm h, brd_clear hn h]
 ·rw [brd_modes hm h, brd_modes hm g]
theorem kit_none {f : Int} {k : Ky} (h : mayK k = false) : kitL f k = [] := by
 unfold kitL sentK
 rw [if_pos (if_pos h)]
theorem isO_none {o : Int} {k : Ky} (h : mayK k = false) : isO o k = false := by
 cases e : isO o k with
 | false => rfl
 | true => rw [(isO_parts e).1] at h; cases h
theorem brd_none (m : Mo) (f : Int) {k : Ky} (h : mayK k = false) : brdL m f k = [] := by
 unfold brdL
 rw [isO_none h, kit_none h, leg_no (.inl h)]
 simp
theorem flg_flg (f : Int) : flg (flg f) = flg f := flg_id (flg_rng f)
theorem brd_flags (m : Mo) (f : Int) (k : Ky) : brdL m f k = brdL m (flg f) k ∧ clearsK f = clearsK (flg f) := by
 have hf : ∀ one, flagK (flg f) one = flagK f one := fun one => by unfold flagK; rw [flg_flg]
 have hc : clearsK (flg f) = clearsK f := by unfold clearsK; rw [flg_flg]
 have hk : kitL (flg f) k = kitL f k := by
  have h1 : sentK (flg f) k = sentK f k := by unfold sentK; rw [hf, hf]
  have h2 : firstK (flg f) k = firstK f k := by unfold firstK; rw [hf]
  have h3 : secondK (flg f) k = secondK f k := by unfold secondK; rw [hf]
  have h4 : toldK (flg f) k ↔ toldK f k := by unfold toldK; rw [hf]
  have h5 : paramsK (flg f) k = paramsK f k := by
   unfold paramsK
   rw [h2, h3]
   by_cases h : toldK f k
   ·rw [if_pos h, if_pos (h4.2 h)]
   ·rw [if_neg h, if_neg (fun g => h (h4.1 g))]
  have h6 : putK (flg f) k = putK f k := by unfold putK sqK; rw [h5]
  unfold kitL
  rw [h1, h6, hf]
 refine ⟨?_, hc.symm⟩
 unfold brdL
 rw [hc, hk]
theorem brd_whole (m : Mo) (f : Int) {k : Ky} (h1 : (lookE k.code).kind ≠ 1) (h2 : (lookE k.code).kind ≠ 2) (h5 : (lookE k.code).kind ≠ 5) (hn : brdL m f k ≠ []) : ∃ s, takeS (brdL m f k) = some (s, (brdL m f k).length) := by
 have hm : mayK k = true := by
  cases e : mayK k with
  | true => rfl
  | false => exact absurd (brd_none m f e) hn
 have whole : ∀ s : Sq, mayS s = 0 → brdL m f k = putS s → ∃ s, takeS (brdL m f k) = some (s, (brdL m f k).length) := fun s hs he => by
  have := takeS_put hs []
  rw [List.append_nil] at this
  exact ⟨s, by rw [he]; exact this⟩
 cases hl : m.lock with
 | true => exact absurd (brd_lock hl f k) hn
 | false =>
   cases hc : clearsK f with
   | true =>
     rw [brd_clear hl hc] at hn
     have hk : keyedK k.code = false := by
      cases e : keyedK k.code with
      | false => rfl
      | true =>
        exfalso
        unfold keyedK at e
        simp only [Bool.or_eq_true, beq_iff_eq] at e
        apply h2
        rcases e with (e | e) | e <;> rw [e] <;> decide +kernel
     have ha : astextK k = false := by
      unfold astextK
      rw [if_neg h1, hk]
      rfl
     have he : kitL f k = putK f k := by
      unfold kitL at hn ⊢
      by_cases hs : sentK f k = false
      ·rw [if_pos hs] at hn; exact absurd rfl hn
      ·rw [if_neg hs, if_neg (by rw [ha]; simp)]
     have hp := may_kit f hm
     exact whole _ hp (by rw [brd_clear hl hc, he]; exact if_pos hp)
   | false =>
     have ho : isO m.other k = false := by
      cases e : isO m.other k with
      | false => rfl
      | true =>
        have := (isO_parts e).2.2.2.1
        omega
     have hb : brdL m f k = legL m k := by rw [brd_modes hl hc, ho]; rfl
     rw [hb] at hn
     have h3 : k.typ ≠ 3 := fun e => hn (leg_no (.inr e))
     have hg : legL m k = legE m (lookE k.code) k.code k.shift (oldN k.mods) (hasN k.mods 1) (hasN k.mods 2) (hasN k.mods 4) k.text.data.toList := by
      rw [leg_yes hm h3]
      unfold legG
      rw [if_neg h5]
     by_cases hF : (lookE k.code).kind = 3 ∨ (lookE k.code).kind = 4
     ·obtain ⟨o0, o1⟩ := old_rng k.mods
      obtain ⟨hp, he⟩ := func_put m (c := k.code) (o := oldN k.mods) hF o0 o1
      exact whole _ hp (by rw [hb, hg]; unfold legE; rw [if_neg h1, if_neg h2, if_pos hF]; exact he)
     ·exact absurd (by rw [hg]; unfold legE; rw [if_neg h1, if_neg h2, if_neg hF]) hn
theorem brd_types (m : Mo) {f : Int} (hf : flagK f 2 = false) {k : Ky} (h : mayK k = true) : brdL m f { k with typ := 2 } = brdL m f { k with typ := 1 } ∧ brdL m f { k with typ := 3 } = [] := by
 have hm2 := may_typ h (t := 2) (by decide) (by decide)
 have hm1 := may_typ h (t := 1) (by decide) (by decide)
 have hm3 := may_typ h (t := 3) (by decide) (by decide)
 have hk2 : kitL f { k with typ := 2 } = kitL f { k with typ := 1 } := by
  have s2 : secondK f { k with typ := 2 } = secondK f { k with typ := 1 } := by unfold secondK; rw [hf]; simp
  have t2 : toldK f { k with typ := 2 } ↔ toldK f { k with typ := 1 } := by unfold toldK; simp
  have p2 : paramsK f { k with typ := 2 } = paramsK f { k with typ := 1 } := by
   unfold paramsK
   rw [s2]
   by_cases g : toldK f { k with typ := 1 }
   ·rw [if_pos g, if_pos (t2.2 g)]; rfl
   ·rw [if_neg g, if_neg (fun x => g (t2.1 x))]; rfl
  have u2 : putK f { k with typ := 2 } = putK f { k with typ := 1 } := by unfold putK sqK; rw [p2]
  have v2 : sentK f { k with typ := 2 } = sentK f { k with typ := 1 } := by
   unfold sentK
   rw [hm2, hm1]
   simp
  unfold kitL
  rw [u2, v2]
  simp [astextK, plainK, shownK]
 have hk3 : kitL f { k with typ := 3 } = [] := by
  unfold kitL sentK
  rw [hm3, hf]
  simp
 have o3 : isO m.other { k with typ := 3 } = false := by
  cases e : isO m.other { k with typ := 3 } with
  | false => rfl
  | true => exact absurd rfl (isO_parts e).2.1
 have o2 : isO m.other { k with typ := 2 } = isO m.other { k with typ := 1 } := by
  unfold isO
  rw [hm2, hm1]
  simp [lessK, shownK]
 have q2 : othL m.other { k with typ := 2 } = othL m.other { k with typ := 1 } := by
  unfold othL
  rw [o2]
  simp [charK, shownK]
 refine ⟨?_, ?_⟩
 ·unfold brdL
  rw [hk2, o2, q2, leg_repeat m h]
 ·unfold brdL
  rw [hk3, o3, leg_no (.inr rfl)]
  simp
end Go.Proofs.YtceipblcdcgljaaGreatDoor
namespace Go.Proofs.YtceipblcdcgljaaGreatDoor
open Go.RowKit
theorem below_step9 {n : Nat} {w a b : World} (h : Below n w a) (h2 : Below a.heap.size a b) (hn : n ≤ a.heap.size) : Below n w b := h.trans (h2.mono hn)
set_option maxRecDepth 100000 in
set_option maxHeartbeats 16000000 in
theorem rlook_any (c : Int) (w : World) : Calls Tryz.prog 22 #[.int .i64 c] w fun e w' => e = .returned (enV (lookE c)) ∧ Below w.heap.size w w' := by
 have hB : ∀ (x : Obj), Below w.heap.size w (w.alloc x) := fun x => (Below.refl _ w).alloc (Nat.le_refl _) _
 obtain ⟨L, hL⟩ : ∃ L, letterN c = L := ⟨_, rfl⟩
 obtain ⟨N, hN⟩ : ∃ N, numberN c = N := ⟨_, rfl⟩
 obtain ⟨k, hk⟩ : ∃ k, decide (57399 ≤ c) = k := ⟨_, rfl⟩
 have HL : Hid (∀ W, Calls Tryz.prog 52 #[.int .i64 c] W fun e w' => e = .returned (.int .u8 L) ∧ w' = W) := Lib.hid fun W => by rw [← hL]; exact rletter_any c W
 have HN : Hid (∀ W, Calls Tryz.prog 53 #[.int .i64 c] W fun e w' => e = .returned (.int .i64 N) ∧ w' = W) := Lib.hid fun W => by rw [← hN]; exact rnumber_any c W
 have HR := Lib.hid (rrest_any c)
 cases tL : (L == 0) with
 | false =>
   have hl : L ≠ 0 := ne_of_beq_false tL
   have E := Lib.hid (show lookE c = ⟨3, L, 0, 0, k⟩ by unfold lookE; rw [hL, if_pos hl, hk])
   clear hl hL hN
   go_enter Tryz.func22, Tryz.ntmps22
   go_wp2_with fail
   refine (HL.out _).mono ?_
   rintro e w1 ⟨rfl, rfl⟩
   go_wp2_with fail
   refine (HL.out _).mono ?_
   rintro e w1 ⟨rfl, rfl⟩
   go_wp2_with fail
   refine bodyPost_ret (v := enV ⟨3, L, 0, 0, k⟩) (by simp [results, Tryz.results22, go_sem, enV]) rfl ⟨by rw [E.out], hB _⟩
 | true =>
   have hl : L = 0 := eq_of_beq tL
   cases tN : (N == 0) with
   | false =>
     have hn : N ≠ 0 := ne_of_beq_false tN
     have E := Lib.hid (show lookE c = ⟨4, 0, N, 0, k⟩ by unfold lookE; rw [hL, if_neg (by rw [hl]; decide), hN, if_pos hn, hk])
     clear hl hn hL hN
     go_enter Tryz.func22, Tryz.ntmps22
     go_wp2_with fail
     refine (HL.out _).mono ?_
     rintro e w1 ⟨rfl, rfl⟩
     go_wp2_with fail
     refine (HN.out _).mono ?_
     rintro e w1 ⟨rfl, rfl⟩
     go_wp2_with fail
     refine (HN.out _).mono ?_
     rintro e w1 ⟨rfl, rfl⟩
     go_wp2_with fail
     refine bodyPost_ret (v := enV ⟨4, 0, N, 0, k⟩) (by simp [results, Tryz.results22, go_sem, enV]) rfl ⟨by rw [E.out], hB _⟩
   | true =>
     have hn : N = 0 := eq_of_beq tN
     by_cases hp : 57399 ≤ c ∧ c ≤ 57416
     ·obtain ⟨P, hP⟩ : ∃ P, padE c = P := ⟨_, rfl⟩
      have E := Lib.hid (show lookE c = P by unfold lookE; rw [hL, if_neg (by rw [hl]; decide), hN, if_neg (by rw [hn]; decide), if_pos hp, hP])
      have HP := Lib.hid (rpad_any c hp.1 hp.2)
      rw [hP, enV] at HP
      have p1 := hp.1
      have p2 := hp.2
      clear hl hn hL hN hp hP hk
      have q0 := Blk.new w 53 #[.int .i64 0, .int .u8 0, .int .i64 0, .int .i64 0, .bool false]
      have hq := hB (.cells #[.int .i64 0, .int .u8 0, .int .i64 0, .int .i64 0, .bool false] 53)
      go_enter Tryz.func22, Tryz.ntmps22
      go_wp2_with fail
      refine (HL.out _).mono ?_
      rintro e w1 ⟨rfl, rfl⟩
      go_wp2_with fail
      refine (HN.out _).mono ?_
      rintro e w1 ⟨rfl, rfl⟩
      go_wp2_with fail
      refine (HP.out _).mono ?_
      rintro e w1 ⟨rfl, hb⟩
      have q1 := q0.below hb q0.lt
      have hbe := below_step9 hq hb hq.size
      have z0 := q1.frozen 0
      have z1 := q1.frozen 1
      have z2 := q1.frozen 2
      have z3 := q1.frozen 3
      have z4 := q1.frozen 4
      have y0 := q1.cell 0
      have y1 := q1.cell 1
      have y2 := q1.cell 2
      have y3 := q1.cell 3
      have y4 := q1.cell 4
      go_wp2_with fail
      refine bodyPost_ret (v := enV P) ?_ rfl ⟨by rw [E.out], ?_⟩
      ·simp [results, Tryz.results22, go_sem, enV, *]
      ·exact ((((hbe.setCell (p := ⟨w.heap.size, 0, none⟩) (Nat.le_refl _) _).setCell (p := ⟨w.heap.size, 1, none⟩) (Nat.le_refl _) _).setCell (p := ⟨w.heap.size, 2, none⟩) (Nat.le_refl _) _).setCell (p := ⟨w.heap.size, 3, none⟩) (Nat.le_refl _) _).setCell (p := ⟨w.heap.size, 4, none⟩) (Nat.le_refl _) _
     ·obtain ⟨R, hR⟩ : ∃ R, restN c = R := ⟨_, rfl⟩
      have E := Lib.hid (show lookE c = ⟨R, 0, 0, 0, false⟩ by unfold lookE; rw [hL, if_neg (by rw [hl]; decide), hN, if_neg (by rw [hn]; decide), if_neg hp, hR])
      rw [hR] at HR
      have hp' : c < 57399 ∨ 57416 < c := by omega
      clear hl hn hL hN hp hR hk
      rcases hp' with p1 | p1
      all_goals
       try have p2 : 57399 ≤ c := by omega
       have q0 := Blk.new w 53 #[.int .i64 0, .int .u8 0, .int .i64 0, .int .i64 0, .bool false]
       have hq := hB (.cells #[.int .i64 0, .int .u8 0, .int .i64 0, .int .i64 0, .bool false] 53)
       go_enter Tryz.func22, Tryz.ntmps22
       go_wp2_with fail
       refine (HL.out _).mono ?_
       rintro e w1 ⟨rfl, rfl⟩
       go_wp2_with fail
       refine (HN.out _).mono ?_
       rintro e w1 ⟨rfl, rfl⟩
       go_wp2_with fail
       refine (HR.out _).mono ?_
       rintro e w1 ⟨rfl, hb⟩
       have q1 := q0.below hb q0.lt
       have hbe := below_step9 hq hb hq.size
       have z0 := q1.frozen 0
       have z1 := q1.frozen 1
       have z2 := q1.frozen 2
       have z3 := q1.frozen 3
       have z4 := q1.frozen 4
       have y0 := q1.cell 0
       have y1 := q1.cell 1
       have y2 := q1.cell 2
       have y3 := q1.cell 3
       have y4 := q1.cell 4
       go_wp2_with fail
       refine bodyPost_ret (v := enV ⟨R, 0, 0, 0, false⟩) ?_ rfl ⟨by rw [E.out], ?_⟩
       ·simp [results, Tryz.results22, go_sem, enV, *]
       ·exact ((((hbe.setCell (p := ⟨w.heap.size, 0, none⟩) (Nat.le_refl _) _).setCell (p := ⟨w.heap.size, 1, none⟩) (Nat.le_refl _) _).setCell (p := ⟨w.heap.size, 2, none⟩) (Nat.le_refl _) _).setCell (p := ⟨w.heap.size, 3, none⟩) (Nat.le_refl _) _).setCell (p := ⟨w.heap.size, 4, none⟩) (Nat.le_refl _) _
def OutB (L : List UInt8) (n : Nat) (q : Bool) (w : World) (e : Ending) (w' : World) : Prop := ∃ A c, e = .returned (.tuple #[.slice A n c, .bool q]) ∧ Rd w' A (bs L) ∧ Below w.heap.size w w'
def OutCq (L : List UInt8) (n : Nat) (q : Bool) (w : World) (e : Ending) (w' : World) : Prop := ∃ A c, e = .returned (.tuple #[.slice A n c, .bool q]) ∧ n ≤ c ∧ Rd w' A (bs L) ∧ Below w.heap.size w w'
def BkE (x : Int × Int × Bool) (w : World) (e : Ending) (w' : World) : Prop := e = .returned (.tuple #[.int .i64 x.1, .int .i64 x.2.1, .bool x.2.2]) ∧ Below w.heap.size w w'
theorem BkE.no {x : Int × Int × Bool} (h : x = (0, 0, false)) {w w' : World} (hb : Below w.heap.size w w') : BkE x w (.returned (.tuple #[.int .i64 0, .int .i64 0, .bool false])) w' := by
 subst h
 exact ⟨rfl, hb⟩
theorem BkE.yes {x : Int × Int × Bool} {c p : Int} (h : x = (c, p, true)) {w w' : World} (hb : Below w.heap.size w w') : BkE x w (.returned (.tuple #[.int .i64 c, .int .i64 p, .bool true])) w' := by
 subst h
 exact ⟨rfl, hb⟩
theorem kip_and (x i : Nat) : x &&& 2 ^ i = 0 ↔ x.testBit i = false := by
 constructor
 ·intro h
  have := congrArg (·.testBit i) h
  simpa [Nat.testBit_and] using this
 ·intro h
  refine Nat.eq_of_testBit_eq fun j => ?_
  rw [Nat.testBit_and, Nat.testBit_two_pow, Nat.zero_testBit]
  by_cases e : i = j
  ·subst e; rw [h]; rfl
  ·simp [e]
theorem kip_bit (x i : Nat) (hi : i < 6) (hx : x < 2 ^ 63) : (bits .and .i64 (x : Int) ((2 ^ i : Nat) : Int) != 0) = (x / 2 ^ i % 2 == 1) := by
 have hl : 2 ^ i < 2 ^ 63 := Nat.pow_lt_pow_right (by decide) (by omega)
 have hz := kip_and x i
 rw [(bits_nat .i64 63 (by decide) (fun n a b => by rw [IntKind.wrap_i64]; omega) x (2 ^ i) hx hl).1]
 rw [Nat.testBit_eq_decide_div_mod_eq] at hz
 rw [Bool.eq_iff_iff, bne_iff_ne, beq_iff_eq]
 have h2 : ((x &&& 2 ^ i : Nat) : Int) ≠ 0 ↔ ¬ (x &&& 2 ^ i = 0) := by omega
 rw [h2, hz]
 simp
theorem kip_has {f d : Int} (h2 : f ≤ 9223372036854775807) (hd : d = 2 ∨ d = 4 ∨ d = 8 ∨ d = 16) : (bits .and .i64 (max f 0) d != 0) = flagK f d := by
 obtain ⟨x, hx⟩ := Int.eq_ofNat_of_zero_le (show 0 ≤ max f 0 by omega)
 have hl : x < 2 ^ 63 := by omega
 unfold flagK flg
 rw [hx]
 rcases hd with rfl | rfl | rfl | rfl
 ·refine (kip_bit x 1 (by decide) hl).trans ?_
  rw [Bool.eq_iff_iff]; simp only [beq_iff_eq]; omega
 ·refine (kip_bit x 2 (by decide) hl).trans ?_
  rw [Bool.eq_iff_iff]; simp only [beq_iff_eq]; omega
 ·refine (kip_bit x 3 (by decide) hl).trans ?_
  rw [Bool.eq_iff_iff]; simp only [beq_iff_eq]; omega
 ·refine (kip_bit x 4 (by decide) hl).trans ?_
  rw [Bool.eq_iff_iff]; simp only [beq_iff_eq]; omega
theorem kip_shift {m : Int} (h0 : 0 ≤ m) (h1 : m ≤ 255) : (bits .and .i64 m 1 != 0) = hasN m 1 := by
 obtain ⟨n, rfl⟩ := Int.eq_ofNat_of_zero_le h0
 have : ∀ n : Fin 256, (bits .and .i64 ((n.1 : Nat) : Int) 1 != 0) = hasN ((n.1 : Nat) : Int) 1 := by decide +kernel
 exact this ⟨n, by omega⟩
theorem kip_none {m : Int} (h0 : 0 ≤ m) (h1 : m ≤ 255) : (bits .andNot .i64 m 193 == 0) = decide (m - m / 64 * 64 ≤ 1) ∧ (bits .andNot .i64 m 192 == 0) = (m - m / 64 * 64 == 0) := by
 obtain ⟨n, rfl⟩ := Int.eq_ofNat_of_zero_le h0
 have : ∀ n : Fin 256, (bits .andNot .i64 ((n.1 : Nat) : Int) 193 == 0) = decide (((n.1 : Nat) : Int) - ((n.1 : Nat) : Int) / 64 * 64 ≤ 1) ∧ (bits .andNot .i64 ((n.1 : Nat) : Int) 192 == 0) = (((n.1 : Nat) : Int) - ((n.1 : Nat) : Int) / 64 * 64 == 0) := by decide +kernel
 exact this ⟨n, by omega⟩
def typesK (k : Ky) : Bool := (lookE k.code).kind == 1 || keyedK k.code
def goesK (f : Int) (k : Ky) : Bool := if k.typ = 3 ∧ flagK f 2 = false then false else if flagK f 8 = true then true else (lookE k.code).kind != 7 && !(k.typ == 3 && typesK k)
theorem kip_sent (f : Int) {k : Ky} (hm : mayK k = true) : sentK f k = goesK f k := by
 unfold sentK goesK typesK
 rw [if_neg (by rw [hm]; decide)]
 cases h2 : flagK f 2 <;> cases h8 : flagK f 8 <;> by_cases h3 : k.typ = 3 <;> by_cases h1 : (lookE k.code).kind = 1 <;> by_cases h7 : (lookE k.code).kind = 7 <;> cases hk : keyedK k.code <;> simp_all
theorem kip_keyed {c : Int} (h : keyedK c = true) : c = 9 ∨ c = 13 ∨ c = 127 := by
 unfold keyedK at h
 simpa [or_assoc] using h
theorem kip_plain {k : Ky} (hm : mayK k = true) (h : astextK k = true) : plainK k = if (lookE k.code).kind = 1 ∧ k.text.data.toList ≠ [] then k.text.data.toList else putL (shownK k) := by
 obtain ⟨⟨_, m0, m1, _, _⟩, _⟩ := (may_parts k).1 hm
 unfold astextK at h
 unfold plainK
 by_cases h1 : (lookE k.code).kind = 1
 ·rw [if_neg (by rw [(text_low h1).2]; decide)]
  by_cases ht : k.text.data.toList = []
  ·rw [if_neg (fun hh => hh ht), if_neg (fun hh => hh.2 ht)]
  ·rw [if_pos ht, if_pos ⟨h1, ht⟩]
 ·rw [if_neg h1] at h
  simp only [Bool.and_eq_true, beq_iff_eq] at h
  obtain ⟨hk, hz⟩ := h
  rw [if_pos hk, if_neg (fun hh => h1 hh.1)]
  have hs : shownK k = k.code := by
   unfold shownK
   refine if_pos ?_
   unfold hasN
   rw [beq_eq_false_iff_ne]
   omega
  rw [hs]
  rcases kip_keyed hk with e | e | e <;> rw [e] <;> decide +kernel
theorem kip_text {f : Int} {k : Ky} (h8 : flagK f 8 = false) (h : goesK f k = true) : (flagK f 8 = false ∧ k.typ ≠ 3 ∧ astextK k = true) ↔ astextK k = true := by
 refine ⟨fun hh => hh.2.2, fun ha => ⟨h8, fun h3 => ?_, ha⟩⟩
 unfold goesK typesK at h
 unfold astextK at ha
 rw [h8, h3] at h
 by_cases h1 : (lookE k.code).kind = 1
 ·rw [h1] at h
  simp at h
 ·rw [if_neg h1] at ha
  simp only [Bool.and_eq_true, beq_iff_eq] at ha
  rw [ha.1] at h
  simp at h
theorem kip_others {s b c : Int} {t : Bool} (hs : 0 ≤ s) : altK s b c t = if b ≠ 0 ∧ b ≠ c then [if s ≠ 0 ∧ t = true then s else -1, b] else if (if s ≠ 0 ∧ t = true then s else -1) ≠ -1 then [if s ≠ 0 ∧ t = true then s else -1] else [] := by
 unfold altK
 by_cases h1 : s ≠ 0 ∧ t = true
 ·simp only [if_pos h1]
  rw [if_pos (show s ≠ -1 by omega), if_neg (show ¬ ((b ≠ 0 ∧ b ≠ c) ∧ ¬ (s ≠ 0 ∧ t = true)) from fun h => h.2 h1)]
  by_cases h2 : b ≠ 0 ∧ b ≠ c
  ·rw [if_pos h2, if_pos h2]; rfl
  ·rw [if_neg h2, if_neg h2]; rfl
 ·simp only [if_neg h1]
  by_cases h2 : b ≠ 0 ∧ b ≠ c
  ·rw [if_pos ⟨h2, h1⟩, if_pos h2, if_pos h2]; rfl
  ·rw [if_neg (fun h => h2 h.1), if_neg h2, if_neg h2]; rfl
def thirdK (f : Int) (k : Ky) : List Int := if flagK f 16 = false ∨ k.typ = 3 then [] else ptsK k
def trimK (A B P : List Int) : List (List Int) := if P ≠ [] then [A, B, P] else if B ≠ [-1] then [A, B] else if A ≠ [1] then [A] else []
theorem kip_params (f : Int) {k : Ky} (hm : mayK k = true) : paramsK f k = trimK (firstK f k) (secondK f k) (thirdK f k) := by
 obtain ⟨_, _, _, hc⟩ := (may_parts k).1 hm
 obtain ⟨ks, k1, _, _, k4⟩ := clean_pts hc
 have hn : k.text.data.toList = [] ↔ ptsK k = [] := by
  rw [pts_is k1]
  constructor
  ·intro h
   rw [h] at k1
   have : allL [] = some [] := by decide +kernel
   rw [this] at k1
   exact (Option.some.inj k1).symm
  ·intro h
   rw [h] at k4
   exact k4.symm
 have h3 : thirdK f k = if toldK f k then ptsK k else [] := by
  unfold thirdK
  by_cases ht : toldK f k
  ·rw [if_pos ht, if_neg (fun h => h.elim (fun h => by rw [ht.1] at h; cases h) ht.2.1)]
  ·rw [if_neg ht]
   split
   next => rfl
   next h =>
    by_cases he : k.text.data.toList = []
    ·exact hn.1 he
    ·exact absurd ⟨by simpa using fun h16 => h (.inl h16), fun h3 => h (.inr h3), he⟩ ht
 unfold paramsK trimK
 rw [h3]
 by_cases ht : toldK f k
 ·rw [if_pos ht, if_pos ht, if_pos (fun h => ht.2.2 (hn.2 h))]
 ·rw [if_neg ht, if_neg ht, if_neg (show ¬ (([] : List Int) ≠ []) from fun h => h rfl)]
theorem kip_param {m : Int} (h0 : 0 ≤ m) (h1 : m ≤ 255) : paramN m = 1 + m := by
 unfold paramN
 rw [if_neg (by omega)]
 omega
def OutT (rm : Bool) (L : List UInt8) (w : World) (e : Ending) (w' : World) : Prop := ∃ A n c, e = .returned (.slice A n c) ∧ L.length = n ∧ (rm = true → n ≤ c) ∧ Rd w' A (bs L) ∧ Below w.heap.size w w'
theorem OutT.nil {rm : Bool} {L : List UInt8} (h : L = []) {w w' : World} (hb : Below w.heap.size w w') : OutT rm L w (.returned (.slice none 0 0)) w' := by
 subst h
 exact ⟨none, 0, 0, rfl, rfl, fun _ => Nat.le_refl _, Rd.nil _ _, hb⟩
theorem OutT.step {rm : Bool} {L : List UInt8} {w w1 w' : World} {e : Ending} (hb : Below w.heap.size w w1) (h : OutT rm L w1 e w') : OutT rm L w e w' := by
 obtain ⟨A, n, c, he, hn, hc, hr, hb'⟩ := h
 exact ⟨A, n, c, he, hn, hc, hr, hb.trans (hb'.mono hb.size)⟩
theorem outT_out {rm : Bool} {L : List UInt8} {w w' : World} {e : Ending} (h : OutT rm L w e w') : Out L w e w' := by
 obtain ⟨A, n, c, he, hn, _, hr, hb⟩ := h
 subst hn
 exact ⟨A, c, he, hr, hb⟩
theorem outT_C {rm : Bool} (hrm : rm = true) {L : List UInt8} {w w' : World} {e : Ending} (h : OutT rm L w e w') : OutC L w e w' := by
 obtain ⟨A, n, c, he, hn, hc, hr, hb⟩ := h
 subst hn
 exact ⟨A, c, he, hc hrm, hr, hb⟩
section
section
variable {P : Program} {ops : Array Oper} {md : Region.Mode} {w1 : World} {K : List Fact} {ix iz : Nat} {R0 R1 : (Tmp → Value) → World → World → Prop} {aF : (Tmp → Value) → Act} {i : Nat} {o : Oper}
theorem goesK_any {d : Tmp} (hst : ∀ f ∈ K, f.ok) (hah : Ahead md ops ix i) (hio : ops[i]? = some o) (hx : i ≠ ix) (hz : i ≠ iz) {F : Value → World → Prop} (p : Nat) (hat : K[p]? = some ⟨i, d, F⟩) (huq : ((List.range K.length).all fun q => q == p || ((K[q]?).map fun f => f.i != i && f.d != d).getD true) = true) (hw : ∀ g, Region.wanted o (yielded ops (aF g).tmps) = true) (h0 : o.dst = some d) (hd : ∀ g, (aF g).tmps[d]? = some (g d))
 (hr : ∀ g w, Below w1.heap.size w1 w → (∀ (q : Nat) (f : Fact), K[q]? = some f → edgeB md ops i f.i = true → f.F (g f.d) w) → ∃ v w', (execOp (aF g).eval o).run P w = .ok (.value v) w' ∧ F v w' ∧ Below w.heap.size w w') :
 GoesM P md ops aF (SK md ops w1 K ix iz R0 R1) i o := fun l g w hsz hf hrd hS => by
 rw [if_pos (hw g)]
 have hfx := hah l hsz hS.shut hf
 obtain ⟨h1, h2⟩ := hS.pre hfx
 obtain ⟨v, w', hrun, hme, hb⟩ := hr g w h1 fun q f' hf' he => h2 f' (List.mem_of_getElem? hf') (by
  unfold edgeB at he
  rw [hio] at he
  obtain ⟨e, he, hb⟩ := Array.any_eq_true'.1 he
  simp only [Bool.and_eq_true, beq_iff_eq] at hb
  rw [← hb.2]
  exact hrd e he hb.1)
 exact .inl ⟨v, w', .inl hrun, upd g d v, .inr ⟨d, _, h0, rfl⟩, (fun d' h' => by rw [h0] at h'; cases h'; rw [hd, upd_at]), hS.ghost hst (hS.shut.step hio hrd) hb hx hz hfx (only_me hat huq hme) (only_ot hat huq)⟩
theorem goesK_name {d d' : Tmp} {i' p' : Nat} (hst : ∀ f ∈ K, f.ok) (hah : Ahead md ops ix i) (hio : ops[i]? = some o) (hx : i ≠ ix) (hz : i ≠ iz) {F : Value → World → Prop} (p : Nat) (hat : K[p]? = some ⟨i, d, F⟩) (hat' : K[p']? = some ⟨i', d', F⟩) (hed : edgeB md ops i i' = true) (huq : ((List.range K.length).all fun q => q == p || ((K[q]?).map fun f => f.i != i && f.d != d).getD true) = true) (hw : ∀ g, Region.wanted o (yielded ops (aF g).tmps) = true) (h0 : o.dst = some d) (hd : ∀ g, (aF g).tmps[d]? = some (g d))
 (hr : ∀ g w, (execOp (aF g).eval o).run P w = .ok (.value (g d')) w) :
 GoesM P md ops aF (SK md ops w1 K ix iz R0 R1) i o :=
 goesK_any hst hah hio hx hz p hat huq hw h0 hd fun g w _ hK => ⟨g d', w, hr g w, hK p' _ hat' hed, Below.refl _ _⟩
end
end
end Go.Proofs.YtceipblcdcgljaaGreatDoor
