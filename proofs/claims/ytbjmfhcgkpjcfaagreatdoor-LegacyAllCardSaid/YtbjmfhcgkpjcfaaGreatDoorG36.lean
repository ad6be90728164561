/-
  Layer 11, walked: the document's functional keys, and Key. Layer 10, the landed mods: Old and Shown. Stage 11, the landed legacy: a text's key. Layer 2, walked: All. Layer 9, the landed keys, walked: whether a code is a text's, and Look.
-/
import Derived.Test.YtbjmfhcgkpjcfaaGreatDoorG07
import Derived.Test.YtbjmfhcgkpjcfaaGreatDoorG13
import Derived.Test.YtbjmfhcgkpjcfaaGreatDoorG25
import Derived.Test.YtbjmfhcgkpjcfaaGreatDoorG30
import Derived.Test.YtbjmfhcgkpjcfaaGreatDoorG32
import Derived.Test.YtbjmfhcgkpjcfaaGreatDoorG35
import Derived.Laws.BitsLemmas
namespace Go.Proofs.YtbjmfhcgkpjcfaaGreatDoor
open Go.RowKit

/-- The sequence of a literal's numbers. -/
theorem seq_lit {w W : World} (kind f : Int) (f0 : 0 ≤ f) (f1 : f < 256) (L : List Int) (cs : Array Value) (hcs : cs = (is_ L).toArray) (n : Nat) (hn : L.length = n) (hl : n ≤ 30) (g : Nat) (hg : W.heap.size = g) (hb : Below w.heap.size w W) :
    Calls Tryz.prog 17 #[.int .i64 kind, .int .u8 f, .slice (some ⟨g, 0, none⟩) n n] (W.alloc (.cells cs 3)) (Out (seqB kind f L) w) := by
  subst hg hcs
  refine (rseq11_any kind f f0 f1 _ L n n hn hl _ (Rd.block (heap_alloc_new W _) (by simp))).mono ?_
  intro e w' h
  exact out_step (hb.alloc hb.size _) h
/-- The sequence of no number. -/
theorem seq_none {w W : World} (kind f : Int) (f0 : 0 ≤ f) (f1 : f < 256) (hb : Below w.heap.size w W) :
    Calls Tryz.prog 17 #[.int .i64 kind, .int .u8 f, .slice none 0 0] W (Out (seqB kind f []) w) :=
  (rseq11_any kind f f0 f1 none [] 0 0 rfl (by decide) W (Rd.nil _ _)).mono fun _ _ h => out_step hb h
set_option maxRecDepth 100000 in
set_option maxHeartbeats 4000000 in
theorem rfunc_any (m : Mo) (e : En) (o : Int) (f0 : 0 ≤ e.fin) (f1 : e.fin < 256) (o0 : 0 ≤ o) (o1 : o < 8) (w : World) :
    Calls Tryz.prog 21 #[moV m, enV e, .int .i64 o] w (Out (funcG m e o) w) := by
  have hB0 : Below w.heap.size w ((w.alloc (.cells #[.bool m.cursor, .bool m.keypad, .bool m.back, .bool m.focus, .bool m.paste, .bool m.lock, .bool m.line, .int .i64 m.mouse, .int .i64 m.coding, .int .i64 m.other] 23)).alloc (.cells #[.int .i64 e.kind, .int .u8 e.fin, .int .i64 e.num, .int .i64 e.char, .bool e.keys] 45)) := ((Below.refl _ w).alloc (Nat.le_refl _) _).alloc (by simp) _
  have k2 := (Blk.new w 23 #[.bool m.cursor, .bool m.keypad, .bool m.back, .bool m.focus, .bool m.paste, .bool m.lock, .bool m.line, .int .i64 m.mouse, .int .i64 m.coding, .int .i64 m.other]).alloc (.cells #[.int .i64 e.kind, .int .u8 e.fin, .int .i64 e.num, .int .i64 e.char, .bool e.keys] 45)
  have k3 := Blk.new (w.alloc (.cells #[.bool m.cursor, .bool m.keypad, .bool m.back, .bool m.focus, .bool m.paste, .bool m.lock, .bool m.line, .int .i64 m.mouse, .int .i64 m.coding, .int .i64 m.other] 23)) 45 #[.int .i64 e.kind, .int .u8 e.fin, .int .i64 e.num, .int .i64 e.char, .bool e.keys]
  rw [World.size_alloc] at k3
  obtain ⟨R, hR⟩ : ∃ R, funcG m e o = R := ⟨_, rfl⟩
  have HG := Lib.hid (show R = if e.kind = 4 then (if o = 0 then seqB 1 126 [e.num] else seqB 1 126 [e.num, 1 + o]) else if 0 < o then seqB 1 e.fin [1, 1 + o] else if (m.cursor || decide (80 ≤ e.fin)) = true then seqB 2 e.fin [] else seqB 1 e.fin [] by rw [← hR]; rfl)
  rw [hR, moV, enV]
  clear hR
  obtain ⟨K, F, N, C, B⟩ := e
  obtain ⟨m0, m1, m2, m3, m4, m5, m6, m7, m8, m9⟩ := m
  simp only at hB0 k2 k3 HG f0 f1 ⊢
  obtain ⟨a0, a1, a2, a3, a4⟩ := Blk.cells5 k3
  have c0 := k2.cell 0
  by_cases h4 : K = 4
  · subst h4
    have HA := Lib.hid (HG.out.trans (if_pos rfl))
    clear HG
    by_cases ho : o = 0
    · subst ho
      have E := Lib.hid (HA.out.trans (if_pos rfl))
      clear HA o0 o1
      go_enter Tryz.func21, Tryz.ntmps21
      go_wp2_with fail
      refine (seq_lit 1 126 (by decide) (by decide) [N] _ rfl 1 rfl (by decide) _ (by simp) hB0).mono ?_
      rintro e w2 ⟨A, c, rfl, hr2, hb2⟩
      go_wp2_with fail
      go_ret
      exact out_is E.out ⟨A, c, rfl, hr2, hb2⟩
    · have to_ : (o == 0) = false := beq_false_of_ne ho
      have E := Lib.hid (HA.out.trans (if_neg ho))
      clear HA ho
      go_enter Tryz.func21, Tryz.ntmps21
      go_wp2_with fail
      refine (seq_lit 1 126 (by decide) (by decide) [N, 1 + o] _ rfl 2 rfl (by decide) _ (by simp) hB0).mono ?_
      rintro e w2 ⟨A, c, rfl, hr2, hb2⟩
      go_wp2_with fail
      go_ret
      exact out_is E.out ⟨A, c, rfl, hr2, hb2⟩
  · have t4 : (K == 4) = false := beq_false_of_ne h4
    have HA := Lib.hid (HG.out.trans (if_neg h4))
    clear HG h4
    by_cases ho : 0 < o
    · have E := Lib.hid (HA.out.trans (if_pos ho))
      clear HA
      go_enter Tryz.func21, Tryz.ntmps21
      go_wp2_with fail
      refine (seq_lit 1 F f0 f1 [1, 1 + o] _ rfl 2 rfl (by decide) _ (by simp) hB0).mono ?_
      rintro e w2 ⟨A, c, rfl, hr2, hb2⟩
      go_wp2_with fail
      go_ret
      exact out_is E.out ⟨A, c, rfl, hr2, hb2⟩
    · obtain rfl : o = 0 := by omega
      have HB := Lib.hid (HA.out.trans (if_neg ho))
      clear HA ho o0 o1
      cases m0 with
      | true =>
        have E := Lib.hid (HB.out.trans (if_pos rfl))
        clear HB
        go_enter Tryz.func21, Tryz.ntmps21
        go_wp2_with fail
        refine (seq_none 2 F f0 f1 hB0).mono ?_
        rintro e w2 ⟨A, c, rfl, hr2, hb2⟩
        go_wp2_with fail
        go_ret
        exact out_is E.out ⟨A, c, rfl, hr2, hb2⟩
      | false =>
        by_cases hF : 80 ≤ F
        · have E := Lib.hid (HB.out.trans (if_pos (by simp [hF])))
          clear HB
          go_enter Tryz.func21, Tryz.ntmps21
          go_wp2_with fail
          refine (seq_none 2 F f0 f1 hB0).mono ?_
          rintro e w2 ⟨A, c, rfl, hr2, hb2⟩
          go_wp2_with fail
          go_ret
          exact out_is E.out ⟨A, c, rfl, hr2, hb2⟩
        · have hF2 : F < 80 := by omega
          have E := Lib.hid (HB.out.trans (if_neg (by simp [hF2])))
          clear HB hF
          go_enter Tryz.func21, Tryz.ntmps21
          go_wp2_with fail
          refine (seq_none 1 F f0 f1 hB0).mono ?_
          rintro e w2 ⟨A, c, rfl, hr2, hb2⟩
          go_wp2_with fail
          go_ret
          exact out_is E.out ⟨A, c, rfl, hr2, hb2⟩
end Go.Proofs.YtbjmfhcgkpjcfaaGreatDoor
namespace Go.Proofs.YtbjmfhcgkpjcfaaGreatDoor
open Go.RowKit

theorem mask7 {x : Int} (h0 : 0 ≤ x) (h1 : x ≤ 9223372036854775807) : bits .and .i64 x 7 = x % 8 :=
  bits_mask .i64 63 (by decide) (fun n a b => by rw [IntKind.wrap_i64]; omega) 3 (by decide) x h0 (by omega)
theorem mask1 {x : Int} (h0 : 0 ≤ x) (h1 : x ≤ 9223372036854775807) : bits .and .i64 x 1 = x % 2 :=
  bits_mask .i64 63 (by decide) (fun n a b => by rw [IntKind.wrap_i64]; omega) 1 (by decide) x h0 (by omega)
set_option maxRecDepth 100000 in
theorem pold_any (n : Int) (w : World) (hn : in10 n) : Calls Tryz.prog 10 #[.int .i64 n] w fun e w' => e = .returned (.int .i64 (oldN n)) ∧ Below w.heap.size w w' := by
  obtain ⟨N, hN⟩ : ∃ N, max n 0 = N := ⟨_, rfl⟩
  have hmax := max0 n N hN (P := Tryz.prog)
  obtain ⟨F, hF⟩ : ∃ F, oldN n = F := ⟨_, rfl⟩
  have hm : bits .and .i64 N 7 = F := by
    have h2 := hn.2
    rw [mask7 (by omega) (by omega), ← hF, ← hN]
    rfl
  rw [hF]
  clear hF hN hn
  go_enter Tryz.func10, Tryz.ntmps10
  go_wp2
  go_ret
  exact ⟨rfl, by first | exact Below.refl _ _ | exact below_drewN (Below.refl _ _) _⟩
set_option maxRecDepth 100000 in
set_option maxHeartbeats 4000000 in
theorem pshown_any (k : Ky) (hk : okK k) (w : World) : Calls Tryz.prog 48 #[kyV k] w fun e w' => e = .returned (.int .i64 (shownK k)) ∧ Below w.heap.size w w' := by
  have hB := ky_box w k
  have hold := pold_any k.mods (w.alloc (.cells (kyC k) 25)) hk.mods
  have k0 := Blk.new w 25 (kyC k)
  have hsh : shownK k = if hasN k.mods 1 = false then k.code else if k.shift ≠ 0 then k.shift else if 97 ≤ k.code ∧ k.code ≤ 122 then k.code - 32 else k.code := rfl
  obtain ⟨F, hF⟩ : ∃ F, oldN k.mods = F := ⟨_, rfl⟩
  have hr : 0 ≤ F ∧ F < 8 := by rw [← hF]; unfold oldN; omega
  obtain ⟨N, hN⟩ : ∃ N, bits .and .i64 F 1 = N := ⟨_, rfl⟩
  have hN2 : N = F % 2 := by rw [← hN]; exact mask1 hr.1 (by omega)
  obtain ⟨p, hp⟩ : ∃ p, hasN k.mods 1 = p := ⟨_, rfl⟩
  have hz : (N == 0) = !p := by
    rw [← hp]
    unfold hasN
    rw [Int.ediv_one, hN2, ← hF]
    unfold oldN
    have e : max k.mods 0 % 8 % 2 = max k.mods 0 % 2 := by omega
    rw [e]
    rcases Int.emod_two_eq (max k.mods 0) with h | h <;> rw [h] <;> rfl
  have hc := hk.code
  rw [hF] at hold
  rw [hp] at hsh
  clear hk hp hF hr hN2
  rw [kyV]
  rw [kyC] at hB hold k0
  obtain ⟨code, mods, typ, shift, base, text⟩ := k
  simp only at hB hold k0 hsh hc ⊢
  go_enter Tryz.func48, Tryz.ntmps48
  have a0 := k0.cell 0
  have a1 := k0.cell 1
  have a3 := k0.cell 3
  have HSH := Lib.hid hsh
  clear hsh
  go_wp2_with fail
  refine hold.mono ?_
  clear hold
  rintro e w1 ⟨rfl, hb1⟩
  have k1 := k0.below hb1 k0.lt
  have hB1 := hB.trans (hb1.mono hB.size)
  clear k0 hB hb1 a0 a1 a3
  have a0 := k1.cell 0
  have a3 := k1.cell 3
  cases p with
  | false =>
    have hz2 : (N == 0) = true := hz
    clear hz
    go_wp2_with fail
    go_ret
    exact ⟨ret_i (by rw [HSH.out]; rfl), hB1⟩
  | true =>
    have hz2 : (N == 0) = false := hz
    clear hz
    by_cases h3 : shift = 0
    · subst h3
      by_cases h4 : 97 ≤ code
      · by_cases h5 : code ≤ 122
        · have e1 : IntKind.i64.wrap (code - 97) = code - 97 := by rw [IntKind.wrap_i64]; omega
          have e2 : IntKind.i64.wrap (code - 97 + 65) = code - 32 := by rw [IntKind.wrap_i64]; omega
          go_wp2_with fail
          go_ret
          exact ⟨ret_i (by rw [HSH.out, if_neg (by decide), if_neg (fun h => h rfl), if_pos ⟨h4, h5⟩]), hB1⟩
        · have h6 : 122 < code := by omega
          go_wp2_with fail
          go_ret
          exact ⟨ret_i (by rw [HSH.out, if_neg (by decide), if_neg (fun h => h rfl), if_neg (by omega)]), hB1⟩
      · have h6 : code < 97 := by omega
        go_wp2_with fail
        go_ret
        exact ⟨ret_i (by rw [HSH.out, if_neg (by decide), if_neg (fun h => h rfl), if_neg (by omega)]), hB1⟩
    · have h5 : (shift == 0) = false := beq_false_of_ne h3
      have h6 : (shift != 0) = true := by simp [bne, h5]
      have H3 := Lib.hid h3
      clear h3
      go_wp2_with fail
      go_ret
      exact ⟨ret_i (by rw [HSH.out, if_neg (by decide), if_pos H3.out]), hB1⟩

end Go.Proofs.YtbjmfhcgkpjcfaaGreatDoor
namespace Go.Proofs.YtbjmfhcgkpjcfaaGreatDoor
open Go.RowKit

set_option maxRecDepth 100000 in
set_option maxHeartbeats 8000000 in
theorem ltext_any (m : Mo) (k : Ky) (e : En) (o : Int) (q : Bool) (hq : (bits .and .i64 o 4 != 0) = q) (hk : okK k) (hs : k.text.size ≤ 4294967296) (w : World) (hz : Siz w) :
    Calls Tryz.prog 28 #[.agg (evC m k e o)] w (Out (shownG k.code k.shift (hasN k.mods 1) q k.text.data.toList) w) := by
  have hB : Below w.heap.size w (w.alloc (.cells (evC m k e o) 37)) := (Below.refl _ _).alloc (Nat.le_refl _) _
  have k0 := Blk.new w 37 (evC m k e o)
  have HH : Hid (∀ W, Calls Tryz.prog 13 #[.agg (evC m k e o), .int .i64 4] W fun x w' => x = .returned (.bool q) ∧ Below W.heap.size W w') := Lib.hid fun W => phas_any m k e o 4 q hq W
  have HSH : Hid (∀ W, Calls Tryz.prog 48 #[.agg #[.int .i64 k.code, .int .i64 k.mods, .int .i64 k.typ, .int .i64 k.shift, .int .i64 k.base, .string k.text]] W fun e w' => e = .returned (.int .i64 (shownC k.code k.shift (hasN k.mods 1))) ∧ Below W.heap.size W w') := Lib.hid fun W => by rw [← shownK_eq]; exact pshown_any k hk W
  obtain ⟨X, hX⟩ : ∃ X, shownC k.code k.shift (hasN k.mods 1) = X := ⟨_, rfl⟩
  have hXr : in10 X := by
    rw [← hX]
    unfold shownC
    have h1 := hk.code
    have h2 := hk.shift
    unfold in10 at *
    split
    · exact h1
    · split
      · exact h2
      · split <;> omega
  obtain ⟨R, hR⟩ : ∃ R, shownG k.code k.shift (hasN k.mods 1) q k.text.data.toList = R := ⟨_, rfl⟩
  have HG := Lib.hid (show R = if q = false ∧ k.text.data.toList ≠ [] then k.text.data.toList else if (q && (foldN X).2) = true then [byt (foldN X).1] else putL X by rw [← hR]; unfold shownG; rw [hX])
  rw [hR]
  rw [hX] at HSH
  clear hk hX hR hq
  obtain ⟨⟨G, b⟩, hF⟩ : ∃ G, foldN X = G := ⟨_, rfl⟩
  have HF : Hid (∀ W, Calls Tryz.prog 49 #[.int .i64 X] W fun e w' => e = .returned (.tuple #[.int .i64 G, .bool b]) ∧ Below W.heap.size W w') := Lib.hid fun W => by
    have := pfold_any X W hXr
    rwa [hF] at this
  have hrng := (fold_rng X).1
  rw [hF] at hrng HG
  simp only at hrng HG
  clear hF hXr
  have HZ := Lib.hid hz
  clear hz
  have hm : k.text.size ≤ maxLen := by simp only [maxLen]; omega
  obtain ⟨a10, a11, a12, a13, a14, a15⟩ := ev_key k0
  go_enter Tryz.func28, Tryz.ntmps28
  go_wp2_with fail
  refine (HSH.out _).mono ?_
  rintro e w2 ⟨rfl, hb2⟩
  have hB2 := hB.trans (hb2.mono hB.size)
  have k2 := k0.below hb2 k0.lt
  clear k0 hB hb2 a10 a11 a12 a13 a14 a15
  go_wp2_with (with_reducible refine Blk.wp_get k2 Tryz.underlying37 rfl (by kernel_rfl) rfl (.tmp 1) rfl rfl ?_)
  refine (HH.out _).mono ?_
  rintro e w3 ⟨rfl, hb3⟩
  have hB3 := hB2.trans (hb3.mono hB2.size)
  have k3 := k2.below hb3 k2.lt
  clear k2 hB2 hb3
  obtain ⟨a10, a11, a12, a13, a14, a15⟩ := ev_key k3
  cases q with
  | false =>
    by_cases hne : k.text.data.toList = []
    · have te : k.text = ⟨#[]⟩ := by apply ByteArray.ext; simpa using hne
      have HE := Lib.hid (HG.out.trans ((if_neg (fun h => h.2 hne)).trans (if_neg (by simp))))
      rw [te] at a15
      clear HG hm hs te hne
      go_wp2_with fail
      refine (Put_any X _ (HZ.out.below' hB3)).mono ?_
      rintro e w9 ⟨A, c, rfl, hr9, hb9⟩
      go_wp2_with fail
      go_ret
      exact out_is HE.out ⟨A, c, rfl, hr9, hB3.trans (hb9.mono hB3.size)⟩
    · have HE := Lib.hid (HG.out.trans (if_pos ⟨rfl, hne⟩))
      obtain ⟨text, htx⟩ : ∃ t, k.text = t := ⟨_, rfl⟩
      rw [htx] at a15 hne hm HE hs
      have tl : text.toList.isEmpty = false := text_full hne
      clear HG hne htx
      have hs1 := hB3.size
      go_wp2_with (first | ((with_reducible refine list_conv _ rfl (.tmp 26) 9 27 rfl w.heap.size 5 text ?_ Tryz.underlying9 Tryz.underlying27 Tryz.underlying5 hm hs1 ?_); rfl; intro v2 w4 hown2 hg2))
      go_ret
      exact out_is HE.out (out_own hown2 (hB3.trans ((below_none hg2).mono hB3.size)))
  | true =>
    cases b with
    | true =>
      obtain ⟨f0, f1⟩ := hrng rfl
      have g1 : G < 256 := by omega
      have HE := Lib.hid (HG.out.trans ((if_neg (fun h => by cases h.1)).trans (if_pos rfl)))
      clear HG hrng
      go_wp2_with fail
      refine (HF.out _).mono ?_
      rintro e w4 ⟨rfl, hb4⟩
      have hB4 := hB3.trans (hb4.mono hB3.size)
      clear hB3 hb4 k3 a10 a11 a12 a13 a14 a15
      have hw8 : IntKind.u8.wrap G = G := IntWalk.u8_in G ⟨f0, by omega⟩
      go_wp2_with fail
      go_ret
      exact out_is HE.out (out_one G f0 g1 hB4)
    | false =>
      have HE := Lib.hid (HG.out.trans ((if_neg (fun h => by cases h.1)).trans (if_neg (by simp))))
      clear HG hrng
      go_wp2_with fail
      refine (HF.out _).mono ?_
      rintro e w4 ⟨rfl, hb4⟩
      have hB4 := hB3.trans (hb4.mono hB3.size)
      clear hB3 hb4 k3 a10 a11 a12 a13 a14 a15
      go_wp2_with fail
      refine (Put_any X _ (HZ.out.below' hB4)).mono ?_
      rintro e w9 ⟨A, c, rfl, hr9, hb9⟩
      go_wp2_with fail
      go_ret
      exact out_is HE.out ⟨A, c, rfl, hr9, hB4.trans (hb9.mono hB4.size)⟩
end Go.Proofs.YtbjmfhcgkpjcfaaGreatDoor
namespace Go.Proofs.YtbjmfhcgkpjcfaaGreatDoor
open Go.RowKit Go.Shelf
attribute [local go_sem] Oper.semAt_some

set_option maxRecDepth 100000 in
set_option maxHeartbeats 4000000 in
theorem all_any (A : Option Addr) (c : Nat) (t : List UInt8) (w : World) (hs : Siz w) (ht : t.length ≤ 4294967296) (htc : t.length ≤ c) (hr : Rd w A (bs t)) :
    Calls Tryz.prog 44 #[.slice A t.length c] w (Al (allL t) w) := by
  obtain ⟨i0, hi, hz0, hz1, hz2⟩ := info_parts Tryz.intinfo
  have hg0 : 1 < w.heap.size := by obtain ⟨_, _, hh⟩ := hs; exact (Array.getElem?_eq_some_iff.1 hh).1
  have hpl := ptsL_le t
  refine (callsIn_wide (n := 3)).1 ?_
  refine callsIn_of_wp_marks Tryz.func44 rfl trivial ?_ rfl
  simp only [Tryz.ntmps44, List.size_toArray, List.length_cons, List.length_nil, Nat.reduceAdd, Nat.reduceSub, Array.replicate_succ, Array.replicate_zero, List.push_toArray, List.append_toArray, List.nil_append, List.cons_append]
  gi_wp2_with fail
  refine ⟨trivial, ?_⟩
  gi_at_call 58
  refine (callsIn_wide.2 (points_any A t.length c _)).mono ?_
  rintro e w1 ⟨rfl, rfl⟩
  gi_wp2_with fail
  have r0 := Boxed.new w 53 (.slice none 0 0)
  have r1 := Boxed.new (w.alloc (.cells #[.slice none 0 0] 53)) 4 (.bool false)
  have r2 := Boxed.new ((w.alloc (.cells #[.slice none 0 0] 53)).alloc (.cells #[.bool false] 4)) 53 (.slice none 0 0)
  have bx := Blk.new (((w.alloc (.cells #[.slice none 0 0] 53)).alloc (.cells #[.bool false] 4)).alloc (.cells #[.slice none 0 0] 53)) 27 #[.slice A t.length c]
  simp only [World.size_alloc] at r1 r2 bx
  have hB0 : Below w.heap.size w ((((w.alloc (.cells #[.slice none 0 0] 53)).alloc (.cells #[.bool false] 4)).alloc (.cells #[.slice none 0 0] 53)).alloc (.cells #[.slice A t.length c] 27)) :=
    ((((Below.refl _ w).alloc (Nat.le_refl _) _).alloc (by simp) _).alloc (by simp; omega) _).alloc (by simp; omega) _
  refine wpIn_rangeFunc_ownG rfl (by omega) (gf := 70) (lb := #[.pointer (some ⟨w.heap.size + 1 + 1 + 1, 0, none⟩)]) rfl trivial (enters_of Tryz.func70 (by kernel_rfl) rfl)
    (pts_stops 2 (by omega) (w.heap.size + 1 + 1 + 1) w.heap.size c A t ht htc hg0 _ (by simp; omega) bx (hs.below' hB0) ((RdIn.of hr).below hB0)) kp2_t (kp2_b (by simp; omega) (by simp)) (Below.refl _ _) (fun _ => rfl)
    (fun (pre : List (Int × Bool)) W => (((((∃ v, Boxed W (w.heap.size + 1 + 1) 53 v ∧ W.ownsRow w.heap.size 3 1 v pre.length (is_ (pre.map (·.1))) ∧ True) ∧ Boxed W w.heap.size 53 (.slice none 0 0)) ∧ Boxed W (w.heap.size + 1) 4 (.bool false)) ∧ Boxed W (w.heap.size + 1 + 1 + 1) 27 (.slice A t.length c)) ∧ (∀ y ∈ pre, y.2 = true)) ∧ Below w.heap.size w W)
    (fun j (pre : List (Int × Bool)) W => ((Boxed W w.heap.size 53 (.slice none 0 0) ∧ Boxed W (w.heap.size + 1) 4 (.bool false)) ∧ (j = .ret ∧ ∃ y ∈ pre, y.2 = false)) ∧ Below w.heap.size w W)
    (OwnFrom.and (OwnFrom.and (OwnFrom.and (OwnFrom.and (OwnFrom.and (Go.Own.from (holdsRow_own w.heap.size (w.heap.size + 1 + 1) 53 3 1 (fun pre : List (Int × Bool) => pre.length) (fun pre => is_ (pre.map (·.1))) (fun _ _ => True)) _) (Go.Own.from (boxed_own w.heap.size 53 fun _ => .slice none 0 0) _)) (Go.Own.from (boxed_own (w.heap.size + 1) 4 fun _ => .bool false) _)) (Go.Own.from (boxed_own (w.heap.size + 1 + 1 + 1) 27 fun _ => .slice A t.length c) _)) (ownFrom_pure _ fun (pre : List (Int × Bool)) => ∀ y ∈ pre, y.2 = true)) (ownFrom_below (Nat.le_refl _) (by simp; omega)))
    (fun j => OwnFrom.and (OwnFrom.and (OwnFrom.and (Go.Own.from (boxed_own w.heap.size 53 fun _ => .slice none 0 0) _) (Go.Own.from (boxed_own (w.heap.size + 1) 4 fun _ => .bool false) _)) (ownFrom_pure _ fun (pre : List (Int × Bool)) => j = .ret ∧ ∃ y ∈ pre, y.2 = false)) (ownFrom_below (Nat.le_refl _) (by simp; omega)))
    ⟨⟨⟨⟨⟨⟨_, r2.alloc _, World.ownsRow_nil _ _ _ _, trivial⟩, ((r0.alloc _).alloc _).alloc _⟩, (r1.alloc _).alloc _⟩, bx⟩, by simp⟩, hB0⟩
    (fun x => { tmps := #[.slice A t.length c, undef, .pointer (some ⟨w.heap.size, 0, none⟩), .pointer (some ⟨w.heap.size + 1, 0, none⟩), .pointer (some ⟨w.heap.size + 1 + 1, 0, none⟩), .int .i64 x.1, .bool x.2, .slice A t.length c, .func (.func 70) #[] #[.pointer (some ⟨w.heap.size + 1 + 1 + 1, 0, none⟩)], .int .i64 x.1, .bool x.2, undef, undef, undef, undef, undef, undef, undef], defers := [] }) ?assign ?body ?done ?stop
  case assign =>
    intro l x W K hK
    gi_wp2
    exact hK
  case body =>
    rintro l pre ⟨r, ok⟩ W ⟨⟨⟨⟨⟨⟨v, hv, hrow, _⟩, b0⟩, b1⟩, b3⟩, hall⟩, hB⟩ hlt
    have hc := hv.cell
    have c0 := b0.cell
    have f0 := b0.frozen
    have c1 := b1.cell
    have f1 := b1.frozen
    cases ok with
    | true =>
      have h63 : pre.length + 1 ≤ maxLen := by simp only [maxLen]; omega
      have hlim : (pre.length + 1) * 8 ≤ 140737488355328 := by omega
      gi_wp2_with (gi_at_builtin; refine wpListIn_append_own _ rfl _ _ 53 rfl w.heap.size 3 i0 (.int .i64 0) 1 8 Tryz.underlying53 hi hz0 hz1 hz2 rfl (by decide) _ _ _ rfl (hrow.alloc _) ⟨W.heap.size, 0, none⟩ 1 1 [.int .i64 r] rfl rfl (cell_one_new _ _ _) (by simp [Value.oneCell']) h63 hlim (by have := hB.size; simp; omega) ?_; intro v' w1 hown' hgrow _; obtain ⟨g', cap', rfl⟩ := ownsRow_succ hown'; obtain ⟨hv1, hv2, hr2, hk2, hb2⟩ := hv.appended (by decide) hrow hB.size (by omega) hown' hgrow; have hc1 := hv1.cell; have hf1 := hv1.frozen)
      have d0 : Boxed (w1.setCell ⟨w.heap.size + 1 + 1, 0, none⟩ (.slice (some ⟨g', 0, none⟩) (pre.length + 1) cap')) w.heap.size 53 (.slice none 0 0) := ((b0.alloc _).kept hgrow (b0.not_row (by decide) hrow)).other (by omega) _
      have d1 : Boxed (w1.setCell ⟨w.heap.size + 1 + 1, 0, none⟩ (.slice (some ⟨g', 0, none⟩) (pre.length + 1) cap')) (w.heap.size + 1) 4 (.bool false) := ((b1.alloc _).kept hgrow (b1.not_row (by decide) hrow)).other (by omega) _
      have d3 : Boxed (w1.setCell ⟨w.heap.size + 1 + 1, 0, none⟩ (.slice (some ⟨g', 0, none⟩) (pre.length + 1) cap')) (w.heap.size + 1 + 1 + 1) 27 (.slice A t.length c) := ((b3.alloc _).kept hgrow (b3.not_row (by decide) hrow)).other (by omega) _
      refine ⟨hk2.from _, ⟨hb2, Eq.trans d3 (Eq.symm b3)⟩, ⟨⟨⟨⟨⟨_, hv2, ?_, trivial⟩, d0⟩, d1⟩, d3⟩, fun y hy => (List.mem_append.1 hy).elim (hall y) (fun e => by simp at e; subst e; rfl)⟩, hB.trans hb2⟩
      simpa [is_] using hr2
    | false =>
      gi_wp2
      exact ⟨((KeepsOthers.setCell _ _ _).trans (KeepsOthers.setCell _ _ _)).from _, ⟨⟨(Boxed.set _ b0).other (by omega) _, Boxed.set _ (b1.other (by omega) _)⟩, rfl, ⟨(r, false), by simp, rfl⟩⟩, (hB.setCell (p := ⟨w.heap.size, 0, none⟩) (Nat.le_refl _) _).setCell (p := ⟨w.heap.size + 1, 0, none⟩) (by simp) _⟩
  case done =>
    rintro D ys W hD rfl ⟨⟨⟨⟨⟨⟨v, hv, hrow, _⟩, b0⟩, b1⟩, b3⟩, hall⟩, hB⟩ hK
    have E := Lib.hid (allL_some hall)
    obtain ⟨A2, c2, rfl, _⟩ := own_form hrow
    have hc := hv.cell
    have c0 := b0.cell
    have f0 := b0.frozen
    have c1 := b1.cell
    have f1 := b1.frozen
    gi_wp2
    have hK' := ((KeepsOthers.setCell W ⟨w.heap.size, 0, none⟩ (.slice A2 (ptsL t).length c2)).trans (KeepsOthers.setCell _ ⟨w.heap.size + 1, 0, none⟩ (.bool true))).same D _ hK rfl
    refine ⟨by simp, .inl ⟨_, _, rfl, run_takeDeferred hK', ?_⟩⟩
    have e0 : Boxed ((W.setCell ⟨w.heap.size, 0, none⟩ (.slice A2 (ptsL t).length c2)).setCell ⟨w.heap.size + 1, 0, none⟩ (.bool true)) w.heap.size 53 (.slice A2 (ptsL t).length c2) := (Boxed.set _ b0).other (by omega) _
    have e1 : Boxed ((W.setCell ⟨w.heap.size, 0, none⟩ (.slice A2 (ptsL t).length c2)).setCell ⟨w.heap.size + 1, 0, none⟩ (.bool true)) (w.heap.size + 1) 4 (.bool true) := Boxed.set _ (b1.other (by omega) _)
    have hr1 := (hrow.kept (grownBy_setCell' W w.heap.size (.slice A2 (ptsL t).length c2)) (.inr (b0.not_row (by decide) hrow).symm))
    have hr2 := hr1.kept (grownBy_setCell' _ (w.heap.size + 1) (.bool true)) (.inr ((b1.other (B' := w.heap.size) (by omega) _).not_row (by decide) hr1).symm)
    have hr3 := ownsRow_putObj hr2 (.deferred none) hK' rfl
    have hc5 := cell_kept e0.cell (grownBy_putObj' _ D (.deferred none)) (fun r e => by cases e; exact ⟨_, hK', rfl⟩)
    have hc6 := cell_kept e1.cell (grownBy_putObj' _ D (.deferred none)) (fun r e => by cases e; exact ⟨_, hK', rfl⟩)
    refine ⟨.tuple #[.slice A2 (ptsL t).length c2, .bool true], ?_, Al.yes E.out (by simp) (Own.of hr3).rd (((hB.setCell (p := ⟨w.heap.size, 0, none⟩) (Nat.le_refl _) _).setCell (p := ⟨w.heap.size + 1, 0, none⟩) (by simp) _).trans (belowK_b (w := w) (Nat.le_refl _) _ D _ _ (by simp at hD; omega) hK' rfl rfl))⟩
    simp [results, Tryz.f44, go_sem, hc5, hc6]
  case stop =>
    rintro D j pre W hD hpre ⟨⟨⟨b0, b1⟩, rfl, ⟨y, hy, hy2⟩⟩, hB⟩ hK
    have E := Lib.hid (allL_none (all_false hpre hy hy2))
    gi_wp2
    refine ⟨by simp, .inl ⟨_, _, rfl, run_takeDeferred hK, ?_⟩⟩
    have hc5 := cell_kept b0.cell (grownBy_putObj' _ D (.deferred none)) (fun r e => by cases e; exact ⟨_, hK, rfl⟩)
    have hc6 := cell_kept b1.cell (grownBy_putObj' _ D (.deferred none)) (fun r e => by cases e; exact ⟨_, hK, rfl⟩)
    refine ⟨.tuple #[.slice none 0 0, .bool false], ?_, Al.no E.out (hB.trans (belowK_b (w := w) (Nat.le_refl _) W D _ _ (by simp at hD; omega) hK rfl rfl))⟩
    simp [results, Tryz.f44, go_sem, hc5, hc6]
end Go.Proofs.YtbjmfhcgkpjcfaaGreatDoor
namespace Go.Proofs.YtbjmfhcgkpjcfaaGreatDoor
open Go.RowKit

theorem isPtK_eq (c : Int) : isPtK c = isPt c := by
  cases h : isPt c with
  | true => exact decide_eq_true (by have := (isPt_iff c).1 h; omega)
  | false => exact decide_eq_false (by have := (isPt_no c).1 h; omega)
theorem put_len (c : Int) : decide (0 < ((putL c).length : Int)) = isPtK c := by
  rw [isPtK_eq]
  cases h : isPt c with
  | true =>
    have := (cnt_bd c).1
    rw [putL_length h]
    exact decide_eq_true (by omega)
  | false => rw [putL_no h]; rfl
theorem txK_no {c : Int} (h : c < 32 ∨ (127 ≤ c ∧ c ≤ 159) ∨ (57344 ≤ c ∧ c ≤ 63743)) : txK c = false := by
  unfold txK
  rcases h with h | h | h <;> simp [h]
theorem txK_is {c : Int} (h : ¬ (c < 32 ∨ (127 ≤ c ∧ c ≤ 159) ∨ (57344 ≤ c ∧ c ≤ 63743))) : txK c = isPtK c := by
  unfold txK
  rw [show decide (c < 32) = false from decide_eq_false (by omega), show (decide (127 ≤ c) && decide (c ≤ 159)) = false by simp; omega, show (decide (57344 ≤ c) && decide (c ≤ 63743)) = false by simp; omega]
  rfl
set_option maxRecDepth 100000 in
set_option maxHeartbeats 4000000 in
theorem isText_any (c : Int) (w : World) (hs : Siz w) : Calls Tryz.prog 27 #[.int .i64 c] w fun e w' => e = .returned (.bool (txK c)) ∧ Below w.heap.size w w' := by
  have HP := Lib.hid (Put_any c w hs)
  have HL := Lib.hid (put_len c)
  by_cases h1 : c < 32
  · have E := Lib.hid (txK_no (.inl h1))
    go_enter Tryz.func27, Tryz.ntmps27
    go_wp2_with fail
    go_ret
    exact ⟨ret_b E.out.symm, Below.refl _ _⟩
  by_cases h2 : c < 127
  · have E := Lib.hid (txK_is (c := c) (by omega))
    have j1 : 32 ≤ c := by omega
    clear h1
    go_enter Tryz.func27, Tryz.ntmps27
    go_wp2_with fail
    refine HP.out.mono ?_
    rintro e w1 ⟨A, cp, rfl, _, hb⟩
    have hl := HL.out
    go_wp2_with fail
    go_ret
    exact ⟨ret_b (by rw [E.out, ← hl]; simp [show ¬ c < 32 by omega]), hb⟩
  by_cases h3 : c ≤ 159
  · have E := Lib.hid (txK_no (c := c) (.inr (.inl ⟨by omega, h3⟩)))
    have j1 : 32 ≤ c := by omega
    have j2 : 127 ≤ c := by omega
    clear h1 h2
    go_enter Tryz.func27, Tryz.ntmps27
    go_wp2_with fail
    go_ret
    exact ⟨ret_b E.out.symm, Below.refl _ _⟩
  by_cases h4 : c < 57344
  · have E := Lib.hid (txK_is (c := c) (by omega))
    have j1 : 32 ≤ c := by omega
    have j2 : 127 ≤ c := by omega
    have j3 : 159 < c := by omega
    clear h1 h2 h3
    go_enter Tryz.func27, Tryz.ntmps27
    go_wp2_with fail
    refine HP.out.mono ?_
    rintro e w1 ⟨A, cp, rfl, _, hb⟩
    have hl := HL.out
    go_wp2_with fail
    go_ret
    exact ⟨ret_b (by rw [E.out, ← hl]; simp [show ¬ c < 32 by omega, show ¬ c ≤ 159 by omega]), hb⟩
  have j1 : 32 ≤ c := by omega
  have j2 : 127 ≤ c := by omega
  have j3 : 159 < c := by omega
  have j4 : 57344 ≤ c := by omega
  by_cases h5 : c ≤ 63743
  · have E := Lib.hid (txK_no (c := c) (.inr (.inr ⟨j4, h5⟩)))
    clear h1 h2 h3 h4
    go_enter Tryz.func27, Tryz.ntmps27
    go_wp2_with fail
    go_ret
    exact ⟨ret_b E.out.symm, Below.refl _ _⟩
  · have E := Lib.hid (txK_is (c := c) (by omega))
    have j5 : 63743 < c := by omega
    clear h1 h2 h3 h4 h5
    go_enter Tryz.func27, Tryz.ntmps27
    go_wp2_with fail
    refine HP.out.mono ?_
    rintro e w1 ⟨A, cp, rfl, _, hb⟩
    have hl := HL.out
    go_wp2_with fail
    go_ret
    exact ⟨ret_b (by rw [E.out, ← hl]; simp [show ¬ c < 32 by omega, show ¬ c ≤ 159 by omega, show ¬ c ≤ 63743 by omega]), hb⟩

/-- A row's entry, of a code of the row. -/
theorem entry_ro (r : Ro) (hr : r ∈ roL) (a : Nat) (c : Int) (hc : c = r.first + (a : Int)) (hc2 : c ≤ r.last) (A : Option Addr) (cp : Nat) (w : World) (hR : Rd w A (is_ r.nums)) :
    Calls Tryz.prog 26 #[.agg #[.int .i64 r.first, .int .i64 r.last, .int .i64 r.kind, .string ⟨r.finals.toArray⟩, .slice A r.nums.length cp, .string ⟨r.chars.toArray⟩, .bool r.keys], .int .i64 c] w fun e w' => e = .returned (enV (entK r a)) ∧ Below w.heap.size w w' := by
  obtain ⟨⟨b1, b2, b3⟩, b4, b5, b6⟩ := ro_bd r hr
  subst hc
  refine (entry_any r.first r.last r.kind ⟨r.finals.toArray⟩ r.nums r.nums.length rfl ⟨r.chars.toArray⟩ r.keys A cp a (by omega) b1 (by omega) b4 b5 b6 w hR).mono ?_
  rintro e w' ⟨rfl, hb⟩
  refine ⟨?_, hb⟩
  rw [sbK_eq, sbK_eq]
  rfl
end Go.Proofs.YtbjmfhcgkpjcfaaGreatDoor
