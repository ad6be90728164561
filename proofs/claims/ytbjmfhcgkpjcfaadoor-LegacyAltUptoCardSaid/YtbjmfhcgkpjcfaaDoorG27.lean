/-
  Layer 9: the document's own answers: Look. Stage 11, the landed legacy: a text's key. Layer 3, walked: the program's reader: run.
-/
import Derived.Test.YtbjmfhcgkpjcfaaDoorG17
import Derived.Test.YtbjmfhcgkpjcfaaDoorG18
import Derived.Test.YtbjmfhcgkpjcfaaDoorG21
import Derived.Test.YtbjmfhcgkpjcfaaDoorG25
import Derived.Test.YtbjmfhcgkpjcfaaDoorG26
namespace Go.Proofs.YtbjmfhcgkpjcfaaDoor
open Go.RowKit

theorem below_step9 {n : Nat} {w a b : World} (h : Below n w a) (h2 : Below a.heap.size a b) (hn : n ≤ a.heap.size) : Below n w b := h.trans (h2.mono hn)
set_option maxRecDepth 100000 in
set_option maxHeartbeats 16000000 in
theorem rlook_any (c : Int) (w : World) : Calls Tryd.prog 15 #[.int .i64 c] w fun e w' => e = .returned (enV (lookE c)) ∧ Below w.heap.size w w' := by
  have hB : ∀ (x : Obj), Below w.heap.size w (w.alloc x) := fun x => (Below.refl _ w).alloc (Nat.le_refl _) _
  obtain ⟨L, hL⟩ : ∃ L, letterN c = L := ⟨_, rfl⟩
  obtain ⟨N, hN⟩ : ∃ N, numberN c = N := ⟨_, rfl⟩
  obtain ⟨k, hk⟩ : ∃ k, decide (57399 ≤ c) = k := ⟨_, rfl⟩
  have HL : Hid (∀ W, Calls Tryd.prog 30 #[.int .i64 c] W fun e w' => e = .returned (.int .u8 L) ∧ w' = W) := Lib.hid fun W => by rw [← hL]; exact rletter_any c W
  have HN : Hid (∀ W, Calls Tryd.prog 31 #[.int .i64 c] W fun e w' => e = .returned (.int .i64 N) ∧ w' = W) := Lib.hid fun W => by rw [← hN]; exact rnumber_any c W
  have HR := Lib.hid (rrest_any c)
  cases tL : (L == 0) with
  | false =>
    have hl : L ≠ 0 := ne_of_beq_false tL
    have E := Lib.hid (show lookE c = ⟨3, L, 0, 0, k⟩ by unfold lookE; rw [hL, if_pos hl, hk])
    clear hl hL hN
    go_enter Tryd.func15, Tryd.ntmps15
    go_wp2_with fail
    refine (HL.out _).mono ?_
    rintro e w1 ⟨rfl, rfl⟩
    go_wp2_with fail
    refine (HL.out _).mono ?_
    rintro e w1 ⟨rfl, rfl⟩
    go_wp2_with fail
    refine bodyPost_ret (v := enV ⟨3, L, 0, 0, k⟩) (by simp [results, Tryd.results15, go_sem, enV]) rfl ⟨by rw [E.out], hB _⟩
  | true =>
    have hl : L = 0 := eq_of_beq tL
    cases tN : (N == 0) with
    | false =>
      have hn : N ≠ 0 := ne_of_beq_false tN
      have E := Lib.hid (show lookE c = ⟨4, 0, N, 0, k⟩ by unfold lookE; rw [hL, if_neg (by rw [hl]; decide), hN, if_pos hn, hk])
      clear hl hn hL hN
      go_enter Tryd.func15, Tryd.ntmps15
      go_wp2_with fail
      refine (HL.out _).mono ?_
      rintro e w1 ⟨rfl, rfl⟩
      go_wp2_with fail
      refine (HN.out _).mono ?_
      rintro e w1 ⟨rfl, rfl⟩
      go_wp2_with fail
      refine (HN.out _).mono ?_
      rintro e w1 ⟨rfl, rfl⟩
      go_wp2_with fail
      refine bodyPost_ret (v := enV ⟨4, 0, N, 0, k⟩) (by simp [results, Tryd.results15, go_sem, enV]) rfl ⟨by rw [E.out], hB _⟩
    | true =>
      have hn : N = 0 := eq_of_beq tN
      by_cases hp : 57399 ≤ c ∧ c ≤ 57416
      · obtain ⟨P, hP⟩ : ∃ P, padE c = P := ⟨_, rfl⟩
        have E := Lib.hid (show lookE c = P by unfold lookE; rw [hL, if_neg (by rw [hl]; decide), hN, if_neg (by rw [hn]; decide), if_pos hp, hP])
        have HP := Lib.hid (rpad_any c hp.1 hp.2)
        rw [hP, enV] at HP
        have p1 := hp.1
        have p2 := hp.2
        clear hl hn hL hN hp hP hk
        have q0 := Blk.new w 46 #[.int .i64 0, .int .u8 0, .int .i64 0, .int .i64 0, .bool false]
        have hq := hB (.cells #[.int .i64 0, .int .u8 0, .int .i64 0, .int .i64 0, .bool false] 46)
        go_enter Tryd.func15, Tryd.ntmps15
        go_wp2_with fail
        refine (HL.out _).mono ?_
        rintro e w1 ⟨rfl, rfl⟩
        go_wp2_with fail
        refine (HN.out _).mono ?_
        rintro e w1 ⟨rfl, rfl⟩
        go_wp2_with fail
        refine (HP.out _).mono ?_
        rintro e w1 ⟨rfl, hb⟩
        have q1 := q0.below hb q0.lt
        have hbe := below_step9 hq hb hq.size
        have z0 := q1.frozen 0
        have z1 := q1.frozen 1
        have z2 := q1.frozen 2
        have z3 := q1.frozen 3
        have z4 := q1.frozen 4
        have y0 := q1.cell 0
        have y1 := q1.cell 1
        have y2 := q1.cell 2
        have y3 := q1.cell 3
        have y4 := q1.cell 4
        go_wp2_with fail
        refine bodyPost_ret (v := enV P) ?_ rfl ⟨by rw [E.out], ?_⟩
        · simp [results, Tryd.results15, go_sem, enV, *]
        · exact ((((hbe.setCell (p := ⟨w.heap.size, 0, none⟩) (Nat.le_refl _) _).setCell (p := ⟨w.heap.size, 1, none⟩) (Nat.le_refl _) _).setCell (p := ⟨w.heap.size, 2, none⟩) (Nat.le_refl _) _).setCell (p := ⟨w.heap.size, 3, none⟩) (Nat.le_refl _) _).setCell (p := ⟨w.heap.size, 4, none⟩) (Nat.le_refl _) _
      · obtain ⟨R, hR⟩ : ∃ R, restN c = R := ⟨_, rfl⟩
        have E := Lib.hid (show lookE c = ⟨R, 0, 0, 0, false⟩ by unfold lookE; rw [hL, if_neg (by rw [hl]; decide), hN, if_neg (by rw [hn]; decide), if_neg hp, hR])
        rw [hR] at HR
        have hp' : c < 57399 ∨ 57416 < c := by omega
        clear hl hn hL hN hp hR hk
        rcases hp' with p1 | p1
        all_goals
          try have p2 : 57399 ≤ c := by omega
          have q0 := Blk.new w 46 #[.int .i64 0, .int .u8 0, .int .i64 0, .int .i64 0, .bool false]
          have hq := hB (.cells #[.int .i64 0, .int .u8 0, .int .i64 0, .int .i64 0, .bool false] 46)
          go_enter Tryd.func15, Tryd.ntmps15
          go_wp2_with fail
          refine (HL.out _).mono ?_
          rintro e w1 ⟨rfl, rfl⟩
          go_wp2_with fail
          refine (HN.out _).mono ?_
          rintro e w1 ⟨rfl, rfl⟩
          go_wp2_with fail
          refine (HR.out _).mono ?_
          rintro e w1 ⟨rfl, hb⟩
          have q1 := q0.below hb q0.lt
          have hbe := below_step9 hq hb hq.size
          have z0 := q1.frozen 0
          have z1 := q1.frozen 1
          have z2 := q1.frozen 2
          have z3 := q1.frozen 3
          have z4 := q1.frozen 4
          have y0 := q1.cell 0
          have y1 := q1.cell 1
          have y2 := q1.cell 2
          have y3 := q1.cell 3
          have y4 := q1.cell 4
          go_wp2_with fail
          refine bodyPost_ret (v := enV ⟨R, 0, 0, 0, false⟩) ?_ rfl ⟨by rw [E.out], ?_⟩
          · simp [results, Tryd.results15, go_sem, enV, *]
          · exact ((((hbe.setCell (p := ⟨w.heap.size, 0, none⟩) (Nat.le_refl _) _).setCell (p := ⟨w.heap.size, 1, none⟩) (Nat.le_refl _) _).setCell (p := ⟨w.heap.size, 2, none⟩) (Nat.le_refl _) _).setCell (p := ⟨w.heap.size, 3, none⟩) (Nat.le_refl _) _).setCell (p := ⟨w.heap.size, 4, none⟩) (Nat.le_refl _) _
end Go.Proofs.YtbjmfhcgkpjcfaaDoor
namespace Go.Proofs.YtbjmfhcgkpjcfaaDoor
open Go.RowKit

set_option maxRecDepth 100000 in
set_option maxHeartbeats 8000000 in
theorem ltext_any (m : Mo) (k : Ky) (e : En) (o : Int) (q : Bool) (hq : (bits .and .i64 o 4 != 0) = q) (hk : okK k) (hs : k.text.size ≤ 4294967296) (w : World) (hz : Siz w) :
    Calls Tryd.prog 39 #[.agg (evC m k e o)] w (Out (shownG k.code k.shift (hasN k.mods 1) q k.text.data.toList) w) := by
  have hB : Below w.heap.size w (w.alloc (.cells (evC m k e o) 52)) := (Below.refl _ _).alloc (Nat.le_refl _) _
  have k0 := Blk.new w 52 (evC m k e o)
  have HH : Hid (∀ W, Calls Tryd.prog 22 #[.agg (evC m k e o), .int .i64 4] W fun x w' => x = .returned (.bool q) ∧ Below W.heap.size W w') := Lib.hid fun W => phas_any m k e o 4 q hq W
  have HSH : Hid (∀ W, Calls Tryd.prog 58 #[.agg #[.int .i64 k.code, .int .i64 k.mods, .int .i64 k.typ, .int .i64 k.shift, .int .i64 k.base, .string k.text]] W fun e w' => e = .returned (.int .i64 (shownC k.code k.shift (hasN k.mods 1))) ∧ Below W.heap.size W w') := Lib.hid fun W => by rw [← shownK_eq]; exact pshown_any k hk W
  obtain ⟨X, hX⟩ : ∃ X, shownC k.code k.shift (hasN k.mods 1) = X := ⟨_, rfl⟩
  have hXr : in10 X := by
    rw [← hX]
    unfold shownC
    have h1 := hk.code
    have h2 := hk.shift
    unfold in10 at *
    split
    · exact h1
    · split
      · exact h2
      · split <;> omega
  obtain ⟨R, hR⟩ : ∃ R, shownG k.code k.shift (hasN k.mods 1) q k.text.data.toList = R := ⟨_, rfl⟩
  have HG := Lib.hid (show R = if q = false ∧ k.text.data.toList ≠ [] then k.text.data.toList else if (q && (foldN X).2) = true then [byt (foldN X).1] else putL X by rw [← hR]; unfold shownG; rw [hX])
  rw [hR]
  rw [hX] at HSH
  clear hk hX hR hq
  obtain ⟨⟨G, b⟩, hF⟩ : ∃ G, foldN X = G := ⟨_, rfl⟩
  have HF : Hid (∀ W, Calls Tryd.prog 59 #[.int .i64 X] W fun e w' => e = .returned (.tuple #[.int .i64 G, .bool b]) ∧ Below W.heap.size W w') := Lib.hid fun W => by
    have := pfold_any X W hXr
    rwa [hF] at this
  have hrng := (fold_rng X).1
  rw [hF] at hrng HG
  simp only at hrng HG
  clear hF hXr
  have HZ := Lib.hid hz
  clear hz
  have hm : k.text.size ≤ maxLen := by simp only [maxLen]; omega
  obtain ⟨a10, a11, a12, a13, a14, a15⟩ := ev_key k0
  go_enter Tryd.func39, Tryd.ntmps39
  go_wp2_with fail
  refine (HSH.out _).mono ?_
  rintro e w2 ⟨rfl, hb2⟩
  have hB2 := hB.trans (hb2.mono hB.size)
  have k2 := k0.below hb2 k0.lt
  clear k0 hB hb2 a10 a11 a12 a13 a14 a15
  go_wp2_with (with_reducible refine Blk.wp_get k2 Tryd.underlying52 rfl (by kernel_rfl) rfl (.tmp 1) rfl rfl ?_)
  refine (HH.out _).mono ?_
  rintro e w3 ⟨rfl, hb3⟩
  have hB3 := hB2.trans (hb3.mono hB2.size)
  have k3 := k2.below hb3 k2.lt
  clear k2 hB2 hb3
  obtain ⟨a10, a11, a12, a13, a14, a15⟩ := ev_key k3
  cases q with
  | false =>
    by_cases hne : k.text.data.toList = []
    · have te : k.text = ⟨#[]⟩ := by apply ByteArray.ext; simpa using hne
      have HE := Lib.hid (HG.out.trans ((if_neg (fun h => h.2 hne)).trans (if_neg (by simp))))
      rw [te] at a15
      clear HG hm hs te hne
      go_wp2_with fail
      refine (Put_any X _ (HZ.out.below' hB3)).mono ?_
      rintro e w9 ⟨A, c, rfl, hr9, hb9⟩
      go_wp2_with fail
      go_ret
      exact out_is HE.out ⟨A, c, rfl, hr9, hB3.trans (hb9.mono hB3.size)⟩
    · have HE := Lib.hid (HG.out.trans (if_pos ⟨rfl, hne⟩))
      obtain ⟨text, htx⟩ : ∃ t, k.text = t := ⟨_, rfl⟩
      rw [htx] at a15 hne hm HE hs
      have tl : text.toList.isEmpty = false := text_full hne
      clear HG hne htx
      have hs1 := hB3.size
      go_wp2_with (first | ((with_reducible refine list_conv _ rfl (.tmp 26) 9 28 rfl w.heap.size 5 text ?_ Tryd.underlying9 Tryd.underlying28 Tryd.underlying5 hm hs1 ?_); rfl; intro v2 w4 hown2 hg2))
      go_ret
      exact out_is HE.out (out_own hown2 (hB3.trans ((below_none hg2).mono hB3.size)))
  | true =>
    cases b with
    | true =>
      obtain ⟨f0, f1⟩ := hrng rfl
      have g1 : G < 256 := by omega
      have HE := Lib.hid (HG.out.trans ((if_neg (fun h => by cases h.1)).trans (if_pos rfl)))
      clear HG hrng
      go_wp2_with fail
      refine (HF.out _).mono ?_
      rintro e w4 ⟨rfl, hb4⟩
      have hB4 := hB3.trans (hb4.mono hB3.size)
      clear hB3 hb4 k3 a10 a11 a12 a13 a14 a15
      have hw8 : IntKind.u8.wrap G = G := IntWalk.u8_in G ⟨f0, by omega⟩
      go_wp2_with fail
      go_ret
      exact out_is HE.out (out_one G f0 g1 hB4)
    | false =>
      have HE := Lib.hid (HG.out.trans ((if_neg (fun h => by cases h.1)).trans (if_neg (by simp))))
      clear HG hrng
      go_wp2_with fail
      refine (HF.out _).mono ?_
      rintro e w4 ⟨rfl, hb4⟩
      have hB4 := hB3.trans (hb4.mono hB3.size)
      clear hB3 hb4 k3 a10 a11 a12 a13 a14 a15
      go_wp2_with fail
      refine (Put_any X _ (HZ.out.below' hB4)).mono ?_
      rintro e w9 ⟨A, c, rfl, hr9, hb9⟩
      go_wp2_with fail
      go_ret
      exact out_is HE.out ⟨A, c, rfl, hr9, hB4.trans (hb9.mono hB4.size)⟩
end Go.Proofs.YtbjmfhcgkpjcfaaDoor
namespace Go.Proofs.YtbjmfhcgkpjcfaaDoor
open Go.RowKit

/-- Where the box stands. -/
def atOf (w : World) (g : Nat) : Nat := match w.cell? ⟨g, 1, none⟩ with | some (.int _ i) => i.toNat | _ => 0
theorem atOf_blk {w : World} {g : Nat} {t : TypeId} {A : Option Addr} {n c k : Nat} {x0 x1 x2 x3 x4 x5 : Value} (h : Blk w g t (tkC A n c k x0 x1 x2 x3 x4 x5)) : atOf w g = k := by
  unfold atOf
  rw [show w.cell? ⟨g, 1, none⟩ = some (.int .i64 (k : Int)) from h.cell 1]
  simp

set_option maxRecDepth 100000 in
set_option maxHeartbeats 8000000 in
theorem run2_any (g : Nat) (A : Option Addr) (c a b m : Nat) (l r u : List UInt8) (x0 x1 x2 x3 x4 x5 : Value) (w : World) (hu : runF a b m r = u) (hlc : l.length ≤ c) (hl : l.length ≤ 4294967296) (hm : m ≤ 4294967296) (h : Rdr w g A c l x0 x1 x2 x3 x4 x5 r) :
    Calls Tryd.prog 48 #[.pointer (some ⟨g, 0, none⟩), .int .u8 a, .int .u8 b, .int .i64 m] w fun e w' => e = .returned (.string ⟨u.toArray⟩) ∧ Rdr w' g A c l x0 x1 x2 x3 x4 x5 (r.drop u.length) ∧ w.grownBy w' (some g) := by
  obtain ⟨at_, hat, hr, hrd, hblk⟩ := h
  have hlt := hblk.lt
  have c0 : w.cell? ⟨g, 0, none⟩ = some (.slice A l.length c) := hblk.cell 0
  have c1 : w.cell? ⟨g, 1, none⟩ = some (.int .i64 (at_ : Int)) := hblk.cell 1
  have HU := Lib.hid hu
  have HR := Lib.hid hr
  clear hu hr
  go_enter Tryd.func48, Tryd.ntmps48
  go_wp2_with fail
  go_loopw [] (fun wr => ∃ k : Nat, k ≤ m ∧ at_ + k ≤ l.length ∧ (r.take k).all (btw a b) = true ∧ RdIn g wr A (bs l) ∧ Blk wr g 66 (tkC A l.length c (at_ + k) x0 x1 x2 x3 x4 x5) ∧ w.grownBy wr (some g)) (fun wr => l.length - atOf wr g)
  case atStart => exact ⟨0, Nat.zero_le _, hat, rfl, hrd, hblk, World.grownBy.refl _ _⟩
  case round =>
    obtain ⟨k, hkm, hkl, hall, hrd1, hblk1, hg1⟩ := hrel
    have hlt1 := hblk1.lt
    obtain ⟨p, hp⟩ : ∃ p, at_ + k = p := ⟨_, rfl⟩
    have HP := Lib.hid hp
    rw [hp] at hkl hblk1
    clear hp
    have d0 : wr.cell? ⟨g, 0, none⟩ = some (.slice A l.length c) := hblk1.cell 0
    have d1 : wr.cell? ⟨g, 1, none⟩ = some (.int .i64 (p : Int)) := hblk1.cell 1
    have fz1 := hblk1.frozen 1
    have HA := Lib.hid hall
    clear hall c0 c1
    have hrl := Lib.hid (show r.length = l.length - at_ by rw [← HR.out, List.length_drop])
    have hke : k ≤ r.length := by rw [hrl.out]; have := HP.out; omega
    by_cases h1 : p < l.length
    · have k1 : (p : Int) < (l.length : Int) := by omega
      have ew : IntKind.i64.wrap ((p : Int) - (at_ : Int)) = (k : Int) := by rw [IntWalk.i64_in _ (by have := HP.out; omega)]; have := HP.out; omega
      have ew0 : (p : Int) - (at_ : Int) = (k : Int) := by have := HP.out; omega
      obtain ⟨b2, o2, hA, hb2, hcc⟩ := hrd1 (by rw [bs_length]; omega)
      cases hA
      have hcp := hcc p _ (bs_get l p h1)
      have hB8 : B8 (l[p]'h1) = .int .u8 ((l[p]'h1).toNat : Int) := rfl
      rw [hB8] at hcp
      obtain ⟨x, hx⟩ : ∃ x, l[p]'h1 = x := ⟨_, rfl⟩
      rw [hx] at hcp
      have hxl := x.toNat_lt
      have hkr : k < r.length := by rw [hrl.out]; have := HP.out; omega
      have HX := Lib.hid (show r[k]'hkr = x by
        rw [← hx]
        have : ∀ (t : List UInt8) (h : k < t.length) (h2 : t = l.drop at_), t[k]'h = l[p]'h1 := fun t h h2 => by subst h2; rw [List.getElem_drop]; simp only [HP.out]
        exact this r hkr HR.out.symm)
      clear hx hcc hB8
      by_cases h2 : k < m
      · have k2 : (k : Int) < (m : Int) := by omega
        by_cases h3 : a ≤ x.toNat
        · by_cases h4 : x.toNat ≤ b
          · have HN := Lib.hid (show (r.take (k + 1)).all (btw a b) = true by
              rw [List.take_succ_eq_append_getElem hkr, List.all_append, HA.out, HX.out]; simp [(btw_iff a b x).2 ⟨h3, h4⟩])
            go_wp2_with fail
            go_quiet (fail)
            go_wp2_with fail
            have hgs := grown_setCell g 1 (Value.int IntKind.i64 ((p : Int) + 1)) (wr.drewN nq)
            have hgd : wr.grownBy (wr.drewN nq) (some g) := ⟨rfl, rfl, rfl, Nat.le_refl _, fun _ _ _ => rfl⟩
            have hb3 : Blk ((wr.drewN nq).setCell ⟨g, 1, none⟩ (Value.int IntKind.i64 ((p : Int) + 1))) g 66 (tkC (some ⟨b2, o2, none⟩) l.length c (p + 1) x0 x1 x2 x3 x4 x5) := by
              have := (hblk1.drewN nq).set 1 (.int .i64 ((p : Int) + 1))
              exact this
            refine ⟨⟨k + 1, h2, by have := HP.out; omega, HN.out, RdIn.grown hrd1 (grown_trans hgd hgs) hlt1, ?_, grown_trans hg1 (grown_trans hgd hgs)⟩, ?_⟩
            · rw [show at_ + (k + 1) = p + 1 by have := HP.out; omega]; exact hb3
            · rw [atOf_blk hb3, atOf_blk hblk1]; omega
          · have h4 : b < x.toNat := by omega
            have HE := Lib.hid (show u = r.take k from HU.out.symm.trans (runF_end (by omega) hkm HA.out (.inr (.inr ⟨hkr, by rw [HX.out, btw_no]; omega⟩))))
            go_wp2_with fail
            go_quiet (fail)
            obtain ⟨A', hcut, hrd2⟩ := cut2_run (P := Tryd.prog) (T := 28) (e := 5) (by kernel_rfl) Tryd.underlying28 Tryd.sizeOf5 (some ⟨b2, o2, none⟩) l.length c at_ p (by omega) hkl hlc
            have hpk : p - at_ = k := by have := HP.out; omega
            rw [hpk] at hcut hrd2
            have hcv : ∀ a n, (convert 28 9 (.slice A' k (c - at_))).run Tryd.prog ((wr.drewN a).drewN n) = .ok (.string ⟨u.toArray⟩) ((wr.drewN a).drewN n) := fun a n => by
              have h2 := (hrd2 g wr l rfl hrd1).rd (Nat.le_of_lt hlt1)
              have e2 : (l.drop at_).take k = u := by rw [HR.out]; exact HE.out.symm
              rw [e2] at h2
              exact conv_str (w := (wr.drewN a).drewN n) Tryd.underlying28 Tryd.underlying5 (by rw [HE.out, List.length_take]; omega) h2 9 Tryd.underlying9
            clear hrd2 hpk
            go_wp2_with fail
            have hblk2 := hblk1.drewN nq
            have hrdW : RdIn g (wr.drewN nq) (some ⟨b2, o2, none⟩) (bs l) := hrd1
            have hgW : w.grownBy (wr.drewN nq) (some g) := ⟨hg1.os, hg1.tape, hg1.output, hg1.size, hg1.block⟩
            have hcv2 : ∀ n, (convert 28 9 (.slice A' k (c - at_))).run Tryd.prog ((wr.drewN nq).drewN n) = .ok (.string ⟨u.toArray⟩) ((wr.drewN nq).drewN n) := fun n => hcv nq n
            have hcv0 : (convert 28 9 (.slice A' k (c - at_))).run Tryd.prog (wr.drewN nq) = .ok (.string ⟨u.toArray⟩) (wr.drewN nq) := hcv nq 0
            clear hcv d0 d1 fz1 hg1 hrd1 hblk1
            generalize wr.drewN nq = W at *
            have e0 : W.cell? ⟨g, 0, none⟩ = some (.slice (some ⟨b2, o2, none⟩) l.length c) := hblk2.cell 0
            have e1 : W.cell? ⟨g, 1, none⟩ = some (.int .i64 (p : Int)) := hblk2.cell 1
            go_quiet (fail)
            go_wp2_with fail
            go_ret
            refine ⟨rfl, ⟨p, hkl, ?_, hrdW, hblk2.drewN _⟩, ⟨hgW.os, hgW.tape, hgW.output, hgW.size, hgW.block⟩⟩
            rw [HE.out, List.length_take, Nat.min_eq_left hke, ← HR.out, List.drop_drop, HP.out]
        · have h3 : x.toNat < a := by omega
          have HE := Lib.hid (show u = r.take k from HU.out.symm.trans (runF_end (by omega) hkm HA.out (.inr (.inr ⟨hkr, by rw [HX.out, btw_no]; omega⟩))))
          go_wp2_with fail
          go_quiet (fail)
          obtain ⟨A', hcut, hrd2⟩ := cut2_run (P := Tryd.prog) (T := 28) (e := 5) (by kernel_rfl) Tryd.underlying28 Tryd.sizeOf5 (some ⟨b2, o2, none⟩) l.length c at_ p (by omega) hkl hlc
          have hpk : p - at_ = k := by have := HP.out; omega
          rw [hpk] at hcut hrd2
          have hcv : ∀ a n, (convert 28 9 (.slice A' k (c - at_))).run Tryd.prog ((wr.drewN a).drewN n) = .ok (.string ⟨u.toArray⟩) ((wr.drewN a).drewN n) := fun a n => by
            have h2 := (hrd2 g wr l rfl hrd1).rd (Nat.le_of_lt hlt1)
            have e2 : (l.drop at_).take k = u := by rw [HR.out]; exact HE.out.symm
            rw [e2] at h2
            exact conv_str (w := (wr.drewN a).drewN n) Tryd.underlying28 Tryd.underlying5 (by rw [HE.out, List.length_take]; omega) h2 9 Tryd.underlying9
          clear hrd2 hpk
          go_wp2_with fail
          have hblk2 := hblk1.drewN nq
          have hrdW : RdIn g (wr.drewN nq) (some ⟨b2, o2, none⟩) (bs l) := hrd1
          have hgW : w.grownBy (wr.drewN nq) (some g) := ⟨hg1.os, hg1.tape, hg1.output, hg1.size, hg1.block⟩
          have hcv2 : ∀ n, (convert 28 9 (.slice A' k (c - at_))).run Tryd.prog ((wr.drewN nq).drewN n) = .ok (.string ⟨u.toArray⟩) ((wr.drewN nq).drewN n) := fun n => hcv nq n
          have hcv0 : (convert 28 9 (.slice A' k (c - at_))).run Tryd.prog (wr.drewN nq) = .ok (.string ⟨u.toArray⟩) (wr.drewN nq) := hcv nq 0
          clear hcv d0 d1 fz1 hg1 hrd1 hblk1
          generalize wr.drewN nq = W at *
          have e0 : W.cell? ⟨g, 0, none⟩ = some (.slice (some ⟨b2, o2, none⟩) l.length c) := hblk2.cell 0
          have e1 : W.cell? ⟨g, 1, none⟩ = some (.int .i64 (p : Int)) := hblk2.cell 1
          go_quiet (fail)
          go_wp2_with fail
          go_ret
          refine ⟨rfl, ⟨p, hkl, ?_, hrdW, hblk2.drewN _⟩, ⟨hgW.os, hgW.tape, hgW.output, hgW.size, hgW.block⟩⟩
          rw [HE.out, List.length_take, Nat.min_eq_left hke, ← HR.out, List.drop_drop, HP.out]
      · have k2 : (m : Int) ≤ (k : Int) := by omega
        have HE := Lib.hid (show u = r.take k from HU.out.symm.trans (runF_end (by omega) hkm HA.out (.inl (by omega))))
        go_wp2_with fail
        go_quiet (fail)
        obtain ⟨A', hcut, hrd2⟩ := cut2_run (P := Tryd.prog) (T := 28) (e := 5) (by kernel_rfl) Tryd.underlying28 Tryd.sizeOf5 (some ⟨b2, o2, none⟩) l.length c at_ p (by omega) hkl hlc
        have hpk : p - at_ = k := by have := HP.out; omega
        rw [hpk] at hcut hrd2
        have hcv : ∀ a n, (convert 28 9 (.slice A' k (c - at_))).run Tryd.prog ((wr.drewN a).drewN n) = .ok (.string ⟨u.toArray⟩) ((wr.drewN a).drewN n) := fun a n => by
          have h2 := (hrd2 g wr l rfl hrd1).rd (Nat.le_of_lt hlt1)
          have e2 : (l.drop at_).take k = u := by rw [HR.out]; exact HE.out.symm
          rw [e2] at h2
          exact conv_str (w := (wr.drewN a).drewN n) Tryd.underlying28 Tryd.underlying5 (by rw [HE.out, List.length_take]; omega) h2 9 Tryd.underlying9
        clear hrd2 hpk
        go_wp2_with fail
        have hblk2 := hblk1.drewN nq
        have hrdW : RdIn g (wr.drewN nq) (some ⟨b2, o2, none⟩) (bs l) := hrd1
        have hgW : w.grownBy (wr.drewN nq) (some g) := ⟨hg1.os, hg1.tape, hg1.output, hg1.size, hg1.block⟩
        have hcv2 : ∀ n, (convert 28 9 (.slice A' k (c - at_))).run Tryd.prog ((wr.drewN nq).drewN n) = .ok (.string ⟨u.toArray⟩) ((wr.drewN nq).drewN n) := fun n => hcv nq n
        have hcv0 : (convert 28 9 (.slice A' k (c - at_))).run Tryd.prog (wr.drewN nq) = .ok (.string ⟨u.toArray⟩) (wr.drewN nq) := hcv nq 0
        clear hcv d0 d1 fz1 hg1 hrd1 hblk1
        generalize wr.drewN nq = W at *
        have e0 : W.cell? ⟨g, 0, none⟩ = some (.slice (some ⟨b2, o2, none⟩) l.length c) := hblk2.cell 0
        have e1 : W.cell? ⟨g, 1, none⟩ = some (.int .i64 (p : Int)) := hblk2.cell 1
        go_quiet (fail)
        go_wp2_with fail
        go_ret
        refine ⟨rfl, ⟨p, hkl, ?_, hrdW, hblk2.drewN _⟩, ⟨hgW.os, hgW.tape, hgW.output, hgW.size, hgW.block⟩⟩
        rw [HE.out, List.length_take, Nat.min_eq_left hke, ← HR.out, List.drop_drop, HP.out]
    · have k1 : (l.length : Int) ≤ (p : Int) := by omega
      have hrl2 := hrl.out
      have hpp := HP.out
      have HE := Lib.hid (show u = r.take k from HU.out.symm.trans (runF_end (by omega) hkm HA.out (.inr (.inl (by omega)))))
      clear hrl2 hpp
      go_wp2_with fail
      go_quiet (fail)
      obtain ⟨A', hcut, hrd2⟩ := cut2_run (P := Tryd.prog) (T := 28) (e := 5) (by kernel_rfl) Tryd.underlying28 Tryd.sizeOf5 A l.length c at_ p (by omega) hkl hlc
      have hpk : p - at_ = k := by have := HP.out; omega
      rw [hpk] at hcut hrd2
      have hcv : ∀ a n, (convert 28 9 (.slice A' k (c - at_))).run Tryd.prog ((wr.drewN a).drewN n) = .ok (.string ⟨u.toArray⟩) ((wr.drewN a).drewN n) := fun a n => by
        have h2 := (hrd2 g wr l rfl hrd1).rd (Nat.le_of_lt hlt1)
        have e2 : (l.drop at_).take k = u := by rw [HR.out]; exact HE.out.symm
        rw [e2] at h2
        exact conv_str (w := (wr.drewN a).drewN n) Tryd.underlying28 Tryd.underlying5 (by rw [HE.out, List.length_take]; omega) h2 9 Tryd.underlying9
      clear hrd2 hpk
      go_wp2_with fail
      have hblk2 := hblk1.drewN nq
      have hrdW : RdIn g (wr.drewN nq) A (bs l) := hrd1
      have hgW : w.grownBy (wr.drewN nq) (some g) := ⟨hg1.os, hg1.tape, hg1.output, hg1.size, hg1.block⟩
      have hcv2 : ∀ n, (convert 28 9 (.slice A' k (c - at_))).run Tryd.prog ((wr.drewN nq).drewN n) = .ok (.string ⟨u.toArray⟩) ((wr.drewN nq).drewN n) := fun n => hcv nq n
      have hcv0 : (convert 28 9 (.slice A' k (c - at_))).run Tryd.prog (wr.drewN nq) = .ok (.string ⟨u.toArray⟩) (wr.drewN nq) := hcv nq 0
      clear hcv d0 d1 fz1 hg1 hrd1 hblk1
      generalize wr.drewN nq = W at *
      have e0 : W.cell? ⟨g, 0, none⟩ = some (.slice A l.length c) := hblk2.cell 0
      have e1 : W.cell? ⟨g, 1, none⟩ = some (.int .i64 (p : Int)) := hblk2.cell 1
      go_quiet (fail)
      go_wp2_with fail
      go_ret
      refine ⟨rfl, ⟨p, hkl, ?_, hrdW, hblk2.drewN _⟩, ⟨hgW.os, hgW.tape, hgW.output, hgW.size, hgW.block⟩⟩
      rw [HE.out, List.length_take, Nat.min_eq_left hke, ← HR.out, List.drop_drop, HP.out]
end Go.Proofs.YtbjmfhcgkpjcfaaDoor
