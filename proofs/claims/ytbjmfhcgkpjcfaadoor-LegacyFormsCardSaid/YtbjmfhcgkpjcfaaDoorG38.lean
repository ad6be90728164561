/-
  Stage 11, the landed legacy: Key, whatever the event; what the laws need of it. Layer 3, walked: the program's taker: parts, params.
-/
import Derived.Test.YtbjmfhcgkpjcfaaDoorG09
import Derived.Test.YtbjmfhcgkpjcfaaDoorG11
import Derived.Test.YtbjmfhcgkpjcfaaDoorG16
import Derived.Test.YtbjmfhcgkpjcfaaDoorG18
import Derived.Test.YtbjmfhcgkpjcfaaDoorG33
import Derived.Test.YtbjmfhcgkpjcfaaDoorG35
import Derived.Test.YtbjmfhcgkpjcfaaDoorG37
import Derived.Deep.Cut
namespace Go.Proofs.YtbjmfhcgkpjcfaaDoor
open Go.RowKit

/-- What later calls ask of the world. -/
def Inv11 (w : World) : Prop := Siz w ∧ Rws w ∧ Tab w
theorem Inv11.below {w w' : World} (h : Inv11 w) (hb : Below w.heap.size w w') : Inv11 w' := ⟨h.1.below' hb, h.2.1.below hb, h.2.2.below hb⟩
theorem rest_two {c : Int} (h : restN c = 2) : c = 9 ∨ c = 13 ∨ c = 27 ∨ c = 127 := by
  unfold restN at h
  repeat' split at h
  all_goals first | omega | simp at h
theorem lplain_code {c : Int} (h : (lookE c).kind = 2) : c = 9 ∨ c = 13 ∨ c = 27 ∨ c = 127 := by
  by_cases hc : c < 57344 ∨ 57455 ≤ c
  · rw [look_out hc] at h
    exact rest_two h
  · obtain ⟨k, rfl⟩ : ∃ k : Fin 111, c = 57344 + k.1 := ⟨⟨(c - 57344).toNat, by omega⟩, by simp; omega⟩
    have := code_all k
    omega
theorem pad_fin : ∀ k : Fin 111, (lookE (57344 + (k.1 : Int))).kind = 5 → (lookE (lookE (57344 + (k.1 : Int))).char).kind = 1 ∨ (lookE (lookE (57344 + (k.1 : Int))).char).kind = 2 := by decide +kernel
theorem pad_char {c : Int} (h : (lookE c).kind = 5) : (lookE (lookE c).char).kind = 1 ∨ (lookE (lookE c).char).kind = 2 := by
  by_cases hc : c < 57344 ∨ 57455 ≤ c
  · rw [look_out hc] at h
    have := rest_rng c
    simp only at h
    omega
  · obtain ⟨k, rfl⟩ : ∃ k : Fin 111, c = 57344 + k.1 := ⟨⟨(c - 57344).toNat, by omega⟩, by simp; omega⟩
    exact pad_fin k h
theorem outR_weak {rm : Bool} {L : List UInt8} {n : Nat} {P : Program} {f : FuncId} {args : Array Value} {w : World} (h : Calls P f args w (OutR rm L n w)) : Calls P f args w (OutR false L n w) :=
  h.mono fun e w' ⟨A, c, he, _, hr, hb⟩ => ⟨A, c, he, (fun h => by cases h), hr, hb⟩
theorem outR_is {rm : Bool} {L M : List UInt8} {n p : Nat} (hl : L = M) (hn : n = p) {P : Program} {f : FuncId} {args : Array Value} {w : World} (h : Calls P f args w (OutR rm M p w)) : Calls P f args w (OutR rm L n w) := by subst hl hn; exact h
/-- A functional key, with the room. -/
theorem lkey_func (m : Mo) (k : Ky) (hk : okK k) (hs : k.text.size ≤ 4294967296) (hm : mayK k = true) (h3 : k.typ ≠ 3) (hK : (lookE k.code).kind = 3 ∨ (lookE k.code).kind = 4) (w : World) (hv : Inv11 w) :
    Calls Tryd.prog 9 #[moV m, kyV k] w (OutR true (legL m k) (legL m k).length w) := by
  obtain ⟨o0, o1⟩ := lold_rng k.mods
  obtain ⟨_, hfp⟩ := func_put m (c := k.code) (o := oldN k.mods) hK o0 o1
  have hL : legL m k = putS (funcQ m (lookE k.code) (oldN k.mods)) := by
    rw [leg_yes hm h3, ← hfp]
    unfold legG legE
    rw [if_neg (by omega), if_neg (by omega), if_neg (by omega), if_pos hK]
  have hI : ∀ W, Below w.heap.size w W → Inv11 W := fun W hW => hv.below hW
  obtain ⟨f4, f3, _⟩ := form_e k.code
  rcases hK with hK | hK
  · refine outR_is hL (by rw [hL]) (lkey_letter m k hk hs hm h3 _ _ rfl rfl hK true _ _ w hI (fun W hW => ?_) hv.1 hv.2.1)
    exact outR_C rfl (lletter_any m k _ _ (by omega) (f3 hK).1 (fin_83 hK) o0 o1 W hW.2.2)
  · refine outR_is hL (by rw [hL]) (lkey_number m k hk hs hm h3 _ _ rfl rfl hK true _ _ w hI (fun W hW => ?_) hv.1 hv.2.1)
    exact outR_C rfl (lnumber_any m k _ _ hK (f4 hK).1 (f4 hK).2 o0 o1 W hW.2.2)
theorem lkey_flat (m : Mo) (k : Ky) (hk : okK k) (hs : k.text.size ≤ 4294967296) (h5 : (lookE k.code).kind ≠ 5) (w : World) (hv : Inv11 w) :
    Calls Tryd.prog 9 #[moV m, kyV k] w (OutR false (legL m k) (legL m k).length w) := by
  by_cases hno : mayK k = false ∨ k.typ = 3
  · exact outR_is (leg_no hno) (by rw [leg_no hno]; rfl) (lkey_no m k hs hno false w hv.1 hv.2.1)
  · have hm : mayK k = true := by cases h : mayK k with | true => rfl | false => exact absurd (.inl h) hno
    have h3 : k.typ ≠ 3 := fun h => hno (.inr h)
    obtain ⟨p1, p2, p4⟩ := old_has k.mods
    have hI : ∀ W, Below w.heap.size w W → Inv11 W := fun W hW => hv.below hW
    obtain ⟨r0, r8⟩ := look_rng k.code
    have k0 := ((may_parts k).1 hm).1.1
    by_cases hF : (lookE k.code).kind = 3 ∨ (lookE k.code).kind = 4
    · exact outR_weak (lkey_func m k hk hs hm h3 hF w hv)
    · have hE : legL m k = legE m (lookE k.code) k.code k.shift (oldN k.mods) (hasN k.mods 1) (hasN k.mods 2) (hasN k.mods 4) k.text.data.toList := by
        rw [leg_yes hm h3]
        unfold legG
        rw [if_neg h5]
      by_cases h1 : (lookE k.code).kind = 1
      · have hsm := shownG_len k.code k.shift (hasN k.mods 1) (hasN k.mods 4) k.text.data.toList
        have hsz : k.text.data.toList.length ≤ 4294967296 := by rw [Array.length_toList]; exact hs
        have HS : ∀ W, Inv11 W → Calls Tryd.prog 39 #[.agg (evC m k (lookE k.code) (oldN k.mods))] W (OutR false (shownG k.code k.shift (hasN k.mods 1) (hasN k.mods 4) k.text.data.toList) _ W) := fun W hW => outR_O rfl (ltext_any m k _ _ _ p4 hk hs W hW.1)
        have hL : legL m k = aheadG (hasN k.mods 2) (shownG k.code k.shift (hasN k.mods 1) (hasN k.mods 4) k.text.data.toList) := by rw [hE]; exact if_pos h1
        cases h2 : hasN k.mods 2 with
        | true =>
          rw [h2] at hL p2
          exact outR_is (hL.trans (if_pos rfl)) (by rw [hL]; rfl) (lkey_text_on m k hk hs hm h3 _ _ rfl rfl h1 p2 false _ _ rfl (by omega) w hI HS hv.1 hv.2.1)
        | false =>
          rw [h2] at hL p2
          exact outR_is (hL.trans (if_neg (by decide))) (by rw [hL]; rfl) (lkey_text_off m k hk hs hm h3 _ _ rfl rfl h1 p2 false _ _ w hI HS hv.1 hv.2.1)
      · by_cases hp : (lookE k.code).kind = 2
        · have hsm := plainG_len m k.code (hasN k.mods 1) (hasN k.mods 4)
          have HS : ∀ W, Inv11 W → Calls Tryd.prog 40 #[.agg (evC m k (lookE k.code) (oldN k.mods))] W (OutR false (plainG m k.code (hasN k.mods 1) (hasN k.mods 4)) _ W) := fun W hW => outR_O rfl (lplain_any m k _ _ (lplain_code hp) _ _ p1 p4 W hW.2.2)
          have hL : legL m k = aheadG (hasN k.mods 2) (plainG m k.code (hasN k.mods 1) (hasN k.mods 4)) := by rw [hE]; unfold legE; rw [if_neg h1, if_pos hp]
          cases h2 : hasN k.mods 2 with
          | true =>
            rw [h2] at hL p2
            exact outR_is (hL.trans (if_pos rfl)) (by rw [hL]; rfl) (lkey_plain_on m k hk hs hm h3 _ _ rfl rfl hp p2 false _ _ rfl (by omega) w hI HS hv.1 hv.2.1)
          | false =>
            rw [h2] at hL p2
            exact outR_is (hL.trans (if_neg (by decide))) (by rw [hL]; rfl) (lkey_plain_off m k hk hs hm h3 _ _ rfl rfl hp p2 false _ _ w hI HS hv.1 hv.2.1)
        · have hL : legL m k = [] := by rw [hE]; unfold legE; rw [if_neg h1, if_neg hp, if_neg hF]
          refine outR_is hL (by rw [hL]; rfl) (lkey_none m k hk hs hm h3 _ _ _ rfl rfl rfl r0 r8 ?_ false w hv.1 hv.2.1)
          unfold lformAt
          rw [if_neg h1, if_neg hp, if_neg (by omega), if_neg (by omega), if_neg h5]
theorem lkey_any (m : Mo) (k : Ky) (hk : okK k) (hs : k.text.size ≤ 4294967296) (w : World) (hv : Inv11 w) :
    Calls Tryd.prog 9 #[moV m, kyV k] w (OutR false (legL m k) (legL m k).length w) := by
  by_cases h5 : (lookE k.code).kind = 5
  · by_cases hno : mayK k = false ∨ k.typ = 3
    · exact outR_is (leg_no hno) (by rw [leg_no hno]; rfl) (lkey_no m k hs hno false w hv.1 hv.2.1)
    · have hm : mayK k = true := by cases h : mayK k with | true => rfl | false => exact absurd (.inl h) hno
      have h3 : k.typ ≠ 3 := fun h => hno (.inr h)
      have hI : ∀ W, Below w.heap.size w W → Inv11 W := fun W hW => hv.below hW
      obtain ⟨_, _, f5⟩ := form_e k.code
      obtain ⟨g0, g1⟩ := f5 h5
      have hch := pad_char h5
      have hcr := (char_e k.code).1
      have hL : legL m k = if m.keypad = true ∧ oldN k.mods = 0 then seqB 2 (lookE k.code).fin [] else legE m (lookE (lookE k.code).char) (lookE k.code).char 0 (oldN k.mods) (hasN k.mods 1) (hasN k.mods 2) (hasN k.mods 4) k.text.data.toList := by
        rw [leg_yes hm h3]
        unfold legG
        rw [if_pos h5]
      obtain ⟨⟨_, b, c, d, e⟩, _, f, g⟩ := (may_parts k).1 hm
      have hm' : mayK ⟨(lookE k.code).char, k.mods, k.typ, 0, k.base, k.text⟩ = true := (may_parts _).2 ⟨⟨by show (lookE (lookE k.code).char).kind ≠ 0; omega, b, c, d, e⟩, .inl rfl, f, g⟩
      have hk' : okK ⟨(lookE k.code).char, k.mods, k.typ, 0, k.base, k.text⟩ := ⟨⟨by show -9223372036854775808 ≤ (lookE k.code).char; omega, by show (lookE k.code).char ≤ 9223372036854775807; omega⟩, hk.mods, hk.typ, in_lit11 (c := 0) (by decide), hk.base⟩
      have hL' : legL m ⟨(lookE k.code).char, k.mods, k.typ, 0, k.base, k.text⟩ = legE m (lookE (lookE k.code).char) (lookE k.code).char 0 (oldN k.mods) (hasN k.mods 1) (hasN k.mods 2) (hasN k.mods 4) k.text.data.toList := by
        rw [leg_yes hm' h3]
        unfold legG
        rw [if_neg (by show (lookE (lookE k.code).char).kind ≠ 5; omega)]
      by_cases hq : m.keypad = true ∧ oldN k.mods = 0
      · have hL2 : legL m k = putS (sqN 2 (lookE k.code).fin []) := by rw [hL, if_pos hq]; exact seqB_is (may_ss3 (by omega) (by omega))
        refine lkey_pad m k hk hs hm h3 _ _ rfl rfl h5 false _ _ w hI (fun W hW => ?_) hv.1 hv.2.1
        exact lpad_seq m k _ _ (by omega) (by omega) hq _ _ hL2.symm rfl W hW.2.2
      · have hL2 : legL m k = legL m ⟨(lookE k.code).char, k.mods, k.typ, 0, k.base, k.text⟩ := by rw [hL, hL', if_neg hq]
        refine lkey_pad m k hk hs hm h3 _ _ rfl rfl h5 false _ _ w hI (fun W hW => ?_) hv.1 hv.2.1
        refine lpad_key m k _ _ (fun h => hq ⟨h.2, h.1⟩) _ _ W (Inv := Inv11) (fun W' hW' => hW.below hW') (fun W' hW' => ?_)
        rw [hL2]
        exact lkey_flat m _ hk' hs (by show (lookE (lookE k.code).char).kind ≠ 5; omega) W' hW'
  · exact lkey_flat m k hk hs h5 w hv
theorem legC : LegC Inv11 where
  invB := fun h hb => h.below hb
  key := fun m k w hv hk hs => (lkey_any m k hk hs w hv).mono fun _ _ ⟨A, c, he, _, hr, hb⟩ => ⟨A, c, he, hr, hb⟩
  look := fun c w hv _ => plook_any c w hv.1 hv.2.1
end Go.Proofs.YtbjmfhcgkpjcfaaDoor
namespace Go.Proofs.YtbjmfhcgkpjcfaaDoor
open Go.RowKit

theorem rdr_apart {w : World} {g : Nat} {A : Option Addr} {c : Nat} {l r : List UInt8} {x0 x1 x2 x3 x4 x5 : Value} (h : Rdr w g A c l x0 x1 x2 x3 x4 x5 r) {base n : Nat} {e : TypeId} {v : Value} {xs : List Value} (ho : Own w base e 1 v n xs) (hne : e ≠ 66) : v.ownBlock ≠ some g := by
  obtain ⟨_, _, _, _, hb⟩ := h
  exact ho.no_cells hb hne
theorem Rdr.app {w w' : World} {g : Nat} {A : Option Addr} {c : Nat} {l r : List UInt8} {x0 x1 x2 x3 x4 x5 : Value} (h : Rdr w g A c l x0 x1 x2 x3 x4 x5 r) {base n : Nat} {e : TypeId} {v : Value} {xs : List Value} (ho : Own w base e 1 v n xs) (hb : g < base) (hne : e ≠ 66) (hg : w.grownBy w' v.ownBlock) : Rdr w' g A c l x0 x1 x2 x3 x4 x5 r := by
  have hap := rdr_apart h ho hne
  obtain ⟨p, h1, h2, h3, h4⟩ := h
  refine ⟨p, h1, h2, fun hp => ?_, h4.grown hg hap⟩
  obtain ⟨b, o, rfl, hlt, hc⟩ := h3 hp
  exact ⟨b, o, rfl, hlt, fun k u hu => (World.cell?_of_block (w := w) (a := ⟨b, o + k, none⟩) (hg.block b (by have := h4.lt; omega) (fun e => by have := (ho.lt b e.symm).1; omega))).trans (hc k u hu)⟩
theorem TabIn.app {g : Nat} {w w' : World} (h : TabIn g w) {base n : Nat} {e : TypeId} {v : Value} {xs : List Value} (ho : Own w base e 1 v n xs) (hb : g ≤ base) (hw : g ≤ w.heap.size) (hg : w.grownBy w' v.ownBlock) : TabIn g w' :=
  h.below ((Below.refl g w).grown hg hw (fun k hk => Nat.le_trans hb (ho.lt k hk).1))
/-- Grown in the box, and in blocks of the call's own. -/
theorem grown_own {w w1 w2 : World} {g B n : Nat} {e : TypeId} {v : Value} {xs : List Value} (h : w.grownBy w1 (some g)) (ho : Own w1 B e 1 v n xs) (hB : w.heap.size ≤ B) (hg : w1.grownBy w2 v.ownBlock) : w.grownBy w2 (some g) :=
  ⟨hg.os.trans h.os, hg.tape.trans h.tape, hg.output.trans h.output, Nat.le_trans h.size hg.size, fun k hk hr => (hg.block k (Nat.lt_of_lt_of_le hk h.size) (fun e => by have := (ho.lt k e.symm).1; omega)).trans (h.block k hk hr)⟩

/-- What parts tells. -/
def PartsPost (g : Nat) (A : Option Addr) (c : Nat) (l r' : List UInt8) (p : List Int) (x0 x1 x2 x3 x4 x5 : Value) (w : World) (e : Ending) (w' : World) : Prop :=
  (∃ A' c', e = .returned (.slice A' p.length c') ∧ RowI w' w'.heap.size 3 A' p) ∧ Rdr w' g A c l x0 x1 x2 x3 x4 x5 r' ∧ w.grownBy w' (some g)
theorem parts_post {g : Nat} {A : Option Addr} {c n c2 : Nat} {l r' : List UInt8} {p : List Int} {x0 x1 x2 x3 x4 x5 : Value} {w w' : World} {A2 : Option Addr} (hn : p.length = n) (h1 : RowI w' w'.heap.size 3 A2 p) (h2 : Rdr w' g A c l x0 x1 x2 x3 x4 x5 r') (h3 : w.grownBy w' (some g)) :
    PartsPost g A c l r' p x0 x1 x2 x3 x4 x5 w (.returned (.slice A2 n c2)) w' := ⟨⟨A2, c2, by rw [hn], h1⟩, h2, h3⟩

set_option maxRecDepth 100000 in
set_option maxHeartbeats 8000000 in
theorem parts2_any (g : Nat) (A : Option Addr) (c : Nat) (l r r' : List UInt8) (p : List Int) (x0 x1 x2 x3 x4 x5 : Value) (w : World) (hn : partsF r = (p, r')) (hlc : l.length ≤ c) (hl : l.length ≤ 4294967296) (ht : TabIn g w) (h : Rdr w g A c l x0 x1 x2 x3 x4 x5 r) :
    Calls Tryd.prog 67 #[.pointer (some ⟨g, 0, none⟩)] w (PartsPost g A c l r' p x0 x1 x2 x3 x4 x5 w) := by
  obtain ⟨i0, hi, hz0, hz1, hz2⟩ : ∃ i, Tryd.prog.info? 3 = some i ∧ i.zero = some (.int .i64 0) ∧ i.size = 1 ∧ i.bytes = 8 := ⟨_, rfl, rfl, rfl, rfl⟩
  have hlt := h.lt
  obtain ⟨n1, hn1⟩ : ∃ n1, (partF r).1 = n1 := ⟨_, rfl⟩
  obtain ⟨r1, hr1⟩ : ∃ r1, (partF r).2 = r1 := ⟨_, rfl⟩
  have HF := Lib.hid (show partF r = (n1, r1) by rw [← hn1, ← hr1])
  have HP := Lib.hid (show partsGo 7 [n1] r1 = (p, r') by rw [← hn, ← hn1, ← hr1]; rfl)
  clear hn hn1 hr1
  go_enter Tryd.func67, Tryd.ntmps67
  go_wp2_with fail
  refine (part2_any g A c l r r1 n1 x0 x1 x2 x3 x4 x5 _ HF.out hlc hl ht h).mono ?_
  rintro e w1 ⟨rfl, h1, hg1⟩
  have ht1 := ht.grown hg1 hlt
  clear h ht
  go_wp2_with fail
  have ho1 := own_lit (w1.alloc (.cells #[.int .i64 n1] 3)) w1.heap.size 3 w1.heap.size (.int .i64 n1) (Nat.le_refl _) (heap_alloc_new w1 _)
  have h1' := h1.below ((Below.refl _ w1).alloc (Nat.le_refl _) (.cells #[.int .i64 n1] 3)) h1.lt
  have hg1' : w.grownBy (w1.alloc (.cells #[.int .i64 n1] 3)) (some g) := grown_trans hg1 (World.grownBy_alloc w1 _ _)
  have ht1' := ht1.below (((Below.refl g w1).alloc (Nat.le_of_lt h1.lt) (.cells #[.int .i64 n1] 3)))
  have hws : w.heap.size ≤ w1.heap.size := hg1.size
  clear h1 hg1 ht1
  go_loopw [3] (fun v wr => ∃ (acc : List Int) (rr : List UInt8) (f B : Nat), acc.length + f = 8 ∧ Own wr B 3 1 v acc.length (is_ acc) ∧ Rdr wr g A c l x0 x1 x2 x3 x4 x5 rr ∧ TabIn g wr ∧ w.grownBy wr (some g) ∧ (w.heap.size ≤ B ∧ B ≤ wr.heap.size) ∧ Hid (partsGo f acc rr = (p, r'))) (fun v _ => match v with | .slice _ n _ => 8 - n | _ => 0)
  case atStart => exact ⟨[n1], r1, 7, w1.heap.size, rfl, ho1, h1', ht1', hg1', ⟨hws, by simp⟩, HP⟩
  case round =>
    obtain ⟨acc, rr, f, B, hf, ho, hR, hT, hG, ⟨hB, hB2⟩, HE⟩ := hrel
    clear ho1 h1' hg1' ht1' HP
    obtain ⟨n, hn⟩ : ∃ n, acc.length = n := ⟨_, rfl⟩
    rw [hn] at ho hf
    have HN := Lib.hid hn
    clear hn
    obtain ⟨A2, c2, rfl, _⟩ := ho.form
    by_cases h8 : n < 8
    · obtain ⟨f', rfl⟩ : ∃ f', f = f' + 1 := ⟨f - 1, by omega⟩
      cases hs : skipB [58] rr with
      | true =>
        have HS := Lib.hid hs
        clear hs
        obtain ⟨n2, hn2⟩ : ∃ n2, (partF (rr.drop 1)).1 = n2 := ⟨_, rfl⟩
        obtain ⟨r2, hr2⟩ : ∃ r2, (partF (rr.drop 1)).2 = r2 := ⟨_, rfl⟩
        have HF2 := Lib.hid (show partF (rr.drop 1) = (n2, r2) by rw [← hn2, ← hr2])
        have HE2 := Lib.hid (show partsGo f' (acc ++ [n2]) r2 = (p, r') by
          have := HE.out
          unfold partsGo at this
          rw [if_pos HS.out, hn2, hr2] at this
          exact this)
        clear hn2 hr2 HE
        go_wp2_with fail
        refine (skip_yes g A c l [58] rr x0 x1 x2 x3 x4 x5 _ HS.out hlc hl (by simp) hR).mono ?_
        rintro e w2 ⟨rfl, hR2, hG2⟩
        have hT2 := hT.grown hG2 hR.lt
        have ho2 := ho.kept hG2 (.inr (rdr_apart hR ho (by decide)))
        have hG2' := grown_trans hG hG2
        have hs2 := Nat.le_trans hB2 hG2.size
        clear hR hT ho hG2 hG
        go_wp2_with fail
        refine (part2_any g A c l (rr.drop 1) r2 n2 x0 x1 x2 x3 x4 x5 _ HF2.out hlc hl hT2 hR2).mono ?_
        rintro e w3 ⟨rfl, hR3, hG3⟩
        have hT3 := hT2.grown hG3 hR2.lt
        have ho3 := ho2.kept hG3 (.inr (rdr_apart hR2 ho2 (by decide)))
        have hG3' := grown_trans hG2' hG3
        have hs3 := Nat.le_trans hs2 hG3.size
        clear hR2 hT2 ho2 hG3 hG2'
        have hown4 := ho3.alloc (.cells #[.int .i64 n2] 3)
        have hR4 := hR3.below ((Below.refl _ w3).alloc (Nat.le_refl _) (.cells #[.int .i64 n2] 3)) hR3.lt
        have hT4 := hT3.below (((Below.refl g w3).alloc (Nat.le_of_lt hR3.lt) (.cells #[.int .i64 n2] 3)))
        have hG4 : w.grownBy (w3.alloc (.cells #[.int .i64 n2] 3)) (some g) := grown_trans hG3' (World.grownBy_alloc w3 _ _)
        have hrd4 : Rd (w3.alloc (.cells #[.int .i64 n2] 3)) (some ⟨w3.heap.size, 0, none⟩) [.int .i64 n2] := Rd.block (heap_alloc_new w3 _) (by simp)
        have h63 : n + 1 ≤ maxLen := by simp only [maxLen]; omega
        have hlim : (n + 1) * 8 ≤ 140737488355328 := by omega
        have hbs4 : B ≤ (w3.alloc (.cells #[.int .i64 n2] 3)).heap.size := by simp; omega
        have hone4 : ∀ u ∈ [Value.int IntKind.i64 n2], u.oneCell' = true := fun u hu => by rw [List.mem_singleton] at hu; subst hu; rfl
        clear hR3 hT3 ho3 hG3'
        go_wp2_with (first | (at_builtin; refine list_app _ rfl (.tmp 18) (.tmp 23) 60 rfl B 3 i0 _ 1 8 Tryd.underlying60 hi hz0 hz1 hz2 rfl Nat.one_pos _ _ _ rfl hown4 _ 1 1 [.int .i64 n2] rfl rfl hrd4 hone4 h63 hlim hbs4 ?_; intro v5 w5 hown5 hg5))
        have hR5 := hR4.app hown4 (by omega) (by decide) hg5
        have hT5 := hT4.app hown4 (by omega) (Nat.le_of_lt hR4.lt) hg5
        have hG5 := grown_own hG4 hown4 hB hg5
        rw [← is_snoc] at hown5
        have hnn := HN.out
        obtain ⟨A5, c5, rfl, _⟩ := hown5.form
        have HL5 := Lib.hid (show (acc ++ [n2]).length = n + 1 by rw [List.length_append, hnn]; rfl)
        have hs5 : B ≤ w5.heap.size := Nat.le_trans hbs4 hg5.size
        clear hnn hg5 hown4 hR4 hT4 hG4 hrd4
        go_wp2_with fail
        go_roundw
        case rel => exact ⟨acc ++ [n2], r2, f', B, by rw [HL5.out]; omega, by rw [HL5.out]; exact hown5, hR5, hT5, hG5, ⟨hB, hs5⟩, HE2⟩
        case measure => simp; omega
      | false =>
        have HS := Lib.hid hs
        clear hs
        have hE := HE.out
        unfold partsGo at hE
        rw [if_neg (by rw [HS.out]; simp)] at hE
        injection hE with e1 e2
        subst e1
        subst e2
        clear HE
        go_wp2_with fail
        refine (skip_no g A c l [58] rr x0 x1 x2 x3 x4 x5 _ HS.out hlc hl (by simp) hR).mono ?_
        rintro e w2 ⟨rfl, hR2, hG2⟩
        have ho2 := ho.kept hG2 (.inr (rdr_apart hR ho (by decide)))
        obtain ⟨hnn, A3, c3, h3, hrow⟩ := own_row ho2
        cases h3
        clear hnn
        go_wp2_with fail
        go_ret
        exact parts_post HN.out hrow hR2 (grown_trans hG hG2)
    · have h8' : 8 ≤ n := by omega
      obtain rfl : f = 0 := by omega
      have hE := HE.out
      unfold partsGo at hE
      injection hE with e1 e2
      subst e1
      subst e2
      clear HE h8
      obtain ⟨hnn, A3, c3, h3, hrow⟩ := own_row ho
      cases h3
      clear hnn
      go_wp2_with fail
      go_ret
      exact parts_post HN.out hrow hR hG
end Go.Proofs.YtbjmfhcgkpjcfaaDoor
