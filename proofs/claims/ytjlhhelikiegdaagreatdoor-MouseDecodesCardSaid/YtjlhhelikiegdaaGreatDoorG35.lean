/-
  Layer 3, walked: the program's taker: params.
-/
import Derived.Test.YtjlhhelikiegdaaGreatDoorG34
import Derived.Deep.Cut
namespace Go.Proofs.YtjlhhelikiegdaaGreatDoor
open Go.RowKit
theorem Rows.box {w w' : World} {B g : Nat} {A : Option Addr} {c : Nat} {l r : List UInt8} {x0 x1 x2 x3 x4 x5 : Value} {e : TypeId} {xs : List Value} {ps : List (List Int)} (h : Rows w B e xs ps) (hR : Rdr w g A c l x0 x1 x2 x3 x4 x5 r) (hne : e ≠ 64) (hg : w.grownBy w' (some g)) : Rows w' B e xs ps := by
 obtain ⟨_, _, _, _, hb⟩ := hR
 exact h.keep (Nat.le_refl _) fun k _ ⟨cur, fz, hh⟩ => hg.block k (Array.getElem?_eq_some_iff.1 hh).1 (fun e => tag_ne hb hh hne (by injection e))
def ParamsPost (g : Nat) (A : Option Addr) (c : Nat) (l r' : List UInt8) (ps : List (List Int)) (x0 x1 x2 x3 x4 x5 : Value) (w : World) (e : Ending) (w' : World) : Prop :=
 (∃ A' c', e = .returned (.slice A' ps.length c') ∧ RdPN g w' A' ps) ∧ Rdr w' g A c l x0 x1 x2 x3 x4 x5 r' ∧ w.grownBy w' (some g)
theorem params_post {g : Nat} {A : Option Addr} {c n c2 : Nat} {l r' : List UInt8} {p : List (List Int)} {x0 x1 x2 x3 x4 x5 : Value} {w w' : World} {A2 : Option Addr} (hn : p.length = n) (h1 : RdPN g w' A2 p) (h2 : Rdr w' g A c l x0 x1 x2 x3 x4 x5 r') (h3 : w.grownBy w' (some g)) :
 ParamsPost g A c l r' p x0 x1 x2 x3 x4 x5 w (.returned (.slice A2 n c2)) w' := ⟨⟨A2, c2, by rw [hn], h1⟩, h2, h3⟩
set_option maxRecDepth 100000 in
set_option maxHeartbeats 8000000 in
theorem params2_any (g : Nat) (A : Option Addr) (c : Nat) (l r r' : List UInt8) (ps : List (List Int)) (x0 x1 x2 x3 x4 x5 : Value) (w : World) (hn : paramsF r = (ps, r')) (hlc : l.length ≤ c) (hl : l.length ≤ 4294967296) (ht : TabIn g w) (h : Rdr w g A c l x0 x1 x2 x3 x4 x5 r) :
 Calls Tryz.prog 62 #[.pointer (some ⟨g, 0, none⟩)] w (ParamsPost g A c l r' ps x0 x1 x2 x3 x4 x5 w) := by
 obtain ⟨j0, hj, hy0, hy1, hy2⟩ : ∃ i, Tryz.prog.info? 38 = some i ∧ i.zero = some (.slice none 0 0) ∧ i.size = 1 ∧ i.bytes = 24 := ⟨_, rfl, rfl, rfl, rfl⟩
 have hlt := h.lt
 obtain ⟨p1, hp1⟩ : ∃ p1, (partsF r).1 = p1 := ⟨_, rfl⟩
 obtain ⟨r1, hr1⟩ : ∃ r1, (partsF r).2 = r1 := ⟨_, rfl⟩
 have HF := Lib.hid (show partsF r = (p1, r1) by rw [← hp1, ← hr1])
 obtain ⟨qs, hqs⟩ : ∃ qs, (paramsGo 15 [p1] r1).1 = qs := ⟨_, rfl⟩
 have HP := Lib.hid (show paramsGo 15 [p1] r1 = (qs, r') by
  have : (paramsF r).2 = r' := by rw [hn]
  rw [← this, ← hqs, ← hp1, ← hr1]; rfl)
 have HQ := Lib.hid (show noneL qs = ps by
  have : (paramsF r).1 = ps := by rw [hn]
  rw [← this, ← hqs, ← hp1, ← hr1]; rfl)
 clear hn hp1 hr1 hqs
 go_enter Tryz.func62, Tryz.ntmps62
 go_wp2_with fail
 refine (parts2_any g A c l r r1 p1 x0 x1 x2 x3 x4 x5 _ HF.out hlc hl ht h).mono ?_
 rintro e w1 ⟨⟨A1, c1, rfl, hri1⟩, h1, hg1⟩
 have ht1 := ht.grown hg1 hlt
 obtain ⟨n1, hn1⟩ : ∃ n1, p1.length = n1 := ⟨_, rfl⟩
 have HN1 := Lib.hid hn1
 rw [hn1]
 clear h ht hn1
 go_wp2_with fail
 have ho1 := own_lit (w1.alloc (.cells #[.slice A1 n1 c1] 38)) w1.heap.size 38 w1.heap.size (.slice A1 n1 c1) (Nat.le_refl _) (heap_alloc_new w1 _)
 have h1' := h1.below ((Below.refl _ w1).alloc (Nat.le_refl _) (.cells #[.slice A1 n1 c1] 38)) h1.lt
 have hg1' : w.grownBy (w1.alloc (.cells #[.slice A1 n1 c1] 38)) (some g) := grown_trans hg1 (World.grownBy_alloc w1 _ _)
 have ht1' := ht1.below (((Below.refl g w1).alloc (Nat.le_of_lt h1.lt) (.cells #[.slice A1 n1 c1] 38)))
 have hws : w.heap.size ≤ w1.heap.size := hg1.size
 have hrs1 : Rows (w1.alloc (.cells #[.slice A1 n1 c1] 38)) w1.heap.size 3 ([] ++ [.slice A1 n1 c1]) ([] ++ [p1]) :=
  Rows.snoc2 ⟨rfl, fun k hk => absurd hk (by simp)⟩ HN1.out.symm (hri1.keep (Nat.le_refl _) (fun q hq _ => Below.heap_alloc w1 _ q hq))
 rw [List.nil_append, List.nil_append] at hrs1
 clear h1 hg1 ht1 hri1 HN1
 go_loopw [3] (fun v wr => ∃ (acc : List (List Int)) (rr : List UInt8) (f B : Nat) (xs : List Value), acc.length + f = 16 ∧ Own wr B 38 1 v acc.length xs ∧ (∃ B2, B2 ≤ wr.heap.size ∧ Rows wr B2 3 xs acc) ∧ Rdr wr g A c l x0 x1 x2 x3 x4 x5 rr ∧ TabIn g wr ∧ w.grownBy wr (some g) ∧ (w.heap.size ≤ B ∧ B ≤ wr.heap.size) ∧ Hid (paramsGo f acc rr = (qs, r'))) (fun v _ => match v with | .slice _ n _ => 16 - n | _ => 0)
 case atStart => exact ⟨[p1], r1, 15, w1.heap.size, _, rfl, ho1, ⟨w1.heap.size, by simp, hrs1⟩, h1', ht1', hg1', ⟨hws, by simp⟩, HP⟩
 case round =>
  obtain ⟨acc, rr, f, B, xs, hf, ho, ⟨B2, hB3, hrs⟩, hR, hT, hG, ⟨hB, hB2⟩, HE⟩ := hrel
  clear ho1 h1' hg1' ht1' HP hrs1
  obtain ⟨n, hn⟩ : ∃ n, acc.length = n := ⟨_, rfl⟩
  rw [hn] at ho hf
  have HN := Lib.hid hn
  clear hn
  obtain ⟨A2, c2, rfl, _⟩ := ho.form
  by_cases h8 : n < 16
  ·obtain ⟨f', rfl⟩ : ∃ f', f = f' + 1 := ⟨f - 1, by omega⟩
   cases hs : skipB [59] rr with
   | true =>
     have HS := Lib.hid hs
     clear hs
     obtain ⟨p2, hp2⟩ : ∃ p2, (partsF (rr.drop 1)).1 = p2 := ⟨_, rfl⟩
     obtain ⟨r2, hr2⟩ : ∃ r2, (partsF (rr.drop 1)).2 = r2 := ⟨_, rfl⟩
     have HF2 := Lib.hid (show partsF (rr.drop 1) = (p2, r2) by rw [← hp2, ← hr2])
     have HE2 := Lib.hid (show paramsGo f' (acc ++ [p2]) r2 = (qs, r') by
      have := HE.out
      unfold paramsGo at this
      rw [if_pos HS.out, hp2, hr2] at this
      exact this)
     clear hp2 hr2 HE
     go_wp2_with fail
     refine (skip_yes g A c l [59] rr x0 x1 x2 x3 x4 x5 _ HS.out hlc hl (by simp) hR).mono ?_
     rintro e w2 ⟨rfl, hR2, hG2⟩
     have hT2 := hT.grown hG2 hR.lt
     have ho2 := ho.kept hG2 (.inr (rdr_apart hR ho (by decide)))
     have hrs2 := hrs.box hR (by decide) hG2
     have hG2' := grown_trans hG hG2
     have hs2 := Nat.le_trans hB2 hG2.size
     have hb2s := Nat.le_trans hB3 hG2.size
     clear hR hT ho hG2 hG hrs
     go_wp2_with fail
     refine (parts2_any g A c l (rr.drop 1) r2 p2 x0 x1 x2 x3 x4 x5 _ HF2.out hlc hl hT2 hR2).mono ?_
     rintro e w3 ⟨⟨A3, c3, rfl, hri3⟩, hR3, hG3⟩
     obtain ⟨n3, hn3⟩ : ∃ n3, p2.length = n3 := ⟨_, rfl⟩
     have HN3 := Lib.hid hn3
     rw [hn3]
     clear hn3
     have hT3 := hT2.grown hG3 hR2.lt
     have ho3 := ho2.kept hG3 (.inr (rdr_apart hR2 ho2 (by decide)))
     have hrs3 := hrs2.box hR2 (by decide) hG3
     have hG3' := grown_trans hG2' hG3
     have hs3 := Nat.le_trans hs2 hG3.size
     have hb3s := Nat.le_trans hb2s hG3.size
     clear hR2 hT2 ho2 hG3 hG2' hrs2
     have hown4 := ho3.alloc (.cells #[.slice A3 n3 c3] 38)
     have hR4 := hR3.below ((Below.refl _ w3).alloc (Nat.le_refl _) (.cells #[.slice A3 n3 c3] 38)) hR3.lt
     have hT4 := hT3.below (((Below.refl g w3).alloc (Nat.le_of_lt hR3.lt) (.cells #[.slice A3 n3 c3] 38)))
     have hG4 : w.grownBy (w3.alloc (.cells #[.slice A3 n3 c3] 38)) (some g) := grown_trans hG3' (World.grownBy_alloc w3 _ _)
     have hrd4 : Rd (w3.alloc (.cells #[.slice A3 n3 c3] 38)) (some ⟨w3.heap.size, 0, none⟩) [.slice A3 n3 c3] := Rd.block (heap_alloc_new w3 _) (by simp)
     have hrs4 := ((hrs3.keep (Nat.le_refl B2) (fun q hq _ => Below.heap_alloc w3 (.cells #[.slice A3 n3 c3] 38) q (by omega))).keep (B' := w3.heap.size) hb3s (fun _ _ _ => rfl)).snoc2 HN3.out.symm (c := c3) (hri3.keep (Nat.le_refl _) (fun q hq _ => Below.heap_alloc w3 (.cells #[.slice A3 n3 c3] 38) q hq))
     have h63 : n + 1 ≤ maxLen := by simp only [maxLen]; omega
     have hlim : (n + 1) * 24 ≤ 140737488355328 := by omega
     have hbs4 : B ≤ (w3.alloc (.cells #[.slice A3 n3 c3] 38)).heap.size := by simp; omega
     have hws3 : w3.heap.size ≤ (w3.alloc (.cells #[.slice A3 n3 c3] 38)).heap.size := by simp
     clear hR3 hT3 ho3 hG3' hrs3 hri3
     go_wp2_with (first | (at_builtin; refine list_app _ rfl (.tmp 16) (.tmp 19) 42 rfl B 38 j0 _ 1 24 Tryz.underlying42 hj hy0 hy1 hy2 rfl Nat.one_pos _ _ _ rfl hown4 _ 1 1 [.slice A3 n3 c3] rfl rfl hrd4 (sl_one _ _ _) h63 hlim hbs4 ?_; intro v5 w5 hown5 hg5))
     have hR5 := hR4.app hown4 (by omega) (by decide) hg5
     have hT5 := hT4.app hown4 (by omega) (Nat.le_of_lt hR4.lt) hg5
     have hG5 := grown_own hG4 hown4 hB hg5
     have hrs5 := hrs4.keep (B' := w3.heap.size) (Nat.le_refl _) (keep_out hown4 (by decide) hg5)
     have hnn := HN.out
     obtain ⟨A5, c5, rfl, _⟩ := hown5.form
     have HL5 := Lib.hid (show (acc ++ [p2]).length = n + 1 by rw [List.length_append, hnn]; rfl)
     have hs5 : B ≤ w5.heap.size := Nat.le_trans hbs4 hg5.size
     have hs6 : w3.heap.size ≤ w5.heap.size := Nat.le_trans hws3 hg5.size
     clear hnn hg5 hown4 hR4 hT4 hG4 hrd4 hrs4
     go_wp2_with fail
     go_roundw
     case rel => exact ⟨acc ++ [p2], r2, f', B, _, by rw [HL5.out]; omega, by rw [HL5.out]; exact hown5, ⟨w3.heap.size, hs6, hrs5⟩, hR5, hT5, hG5, ⟨hB, hs5⟩, HE2⟩
     case measure => simp; omega
   | false =>
     have HS := Lib.hid hs
     clear hs
     have hE := HE.out
     unfold paramsGo at hE
     rw [if_neg (by rw [HS.out]; simp)] at hE
     injection hE with e1 e2
     subst e1
     subst e2
     clear HE
     go_wp2_with fail
     refine (skip_no g A c l [59] rr x0 x1 x2 x3 x4 x5 _ HS.out hlc hl (by simp) hR).mono ?_
     rintro e w2 ⟨rfl, hR2, hG2⟩
     have ho2 := ho.kept hG2 (.inr (rdr_apart hR ho (by decide)))
     have hrs2 := hrs.box hR (by decide) hG2
     have hG2' := grown_trans hG hG2
     have hR2b := hR2
     obtain ⟨_, _, _, _, hblk2⟩ := hR2b
     obtain ⟨A3, c3, h3, hrow⟩ := hrs2.rdpn ho2 hblk2 (by decide) (by decide)
     cases h3
     clear hblk2
     cases hq : decide (acc = [[-1]]) with
     | true =>
       have HQQ := Lib.hid hq
       have hps := HQ.out
       unfold noneL at hps
       rw [if_pos (of_decide_eq_true hq)] at hps
       subst hps
       clear hq
       go_wp2_with fail
       refine (isNone_any A2 n c2 acc true _ HN.out HQQ.out (by omega) hrow.rdp).mono ?_
       rintro e w3 ⟨rfl, rfl⟩
       go_wp2_with fail
       go_ret
       exact params_post rfl (RdPN.nil _ _ _) hR2 hG2'
     | false =>
       have HQQ := Lib.hid hq
       have hps := HQ.out
       unfold noneL at hps
       rw [if_neg (of_decide_eq_false hq)] at hps
       subst hps
       clear hq
       go_wp2_with fail
       refine (isNone_any A2 n c2 acc false _ HN.out HQQ.out (by omega) hrow.rdp).mono ?_
       rintro e w3 ⟨rfl, rfl⟩
       go_wp2_with fail
       go_ret
       exact params_post HN.out hrow hR2 hG2'
  ·have h8' : 16 ≤ n := by omega
   obtain rfl : f = 0 := by omega
   have hE := HE.out
   unfold paramsGo at hE
   injection hE with e1 e2
   subst e1
   subst e2
   clear HE h8
   have hR2b := hR
   obtain ⟨_, _, _, _, hblk2⟩ := hR2b
   obtain ⟨A3, c3, h3, hrow⟩ := hrs.rdpn ho hblk2 (by decide) (by decide)
   cases h3
   clear hblk2
   cases hq : decide (acc = [[-1]]) with
   | true =>
     exfalso
     have := congrArg List.length (of_decide_eq_true hq)
     rw [HN.out] at this
     simp at this
     omega
   | false =>
     have HQQ := Lib.hid hq
     have hps := HQ.out
     unfold noneL at hps
     rw [if_neg (of_decide_eq_false hq)] at hps
     subst hps
     clear hq
     go_wp2_with fail
     refine (isNone_any A2 n c2 acc false _ HN.out HQQ.out (by omega) hrow.rdp).mono ?_
     rintro e w3 ⟨rfl, rfl⟩
     go_wp2_with fail
     go_ret
     exact params_post HN.out hrow hR hG
end Go.Proofs.YtjlhhelikiegdaaGreatDoor
