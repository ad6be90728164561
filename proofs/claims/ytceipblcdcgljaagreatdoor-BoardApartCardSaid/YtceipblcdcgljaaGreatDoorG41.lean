/-
  Layer 14, the laws' walks over the bundle: BoardFlags. Cut out of LegV: what names no function of any dump. Layer 18's mathematics: how characters look, and the parameters that tell it. Cut out of RepM: what names no function of any dump. Cut out of RepM: what names no function of any dump. Cut out of TopM: what names no function of any dump. Numbers in figures, walked: the program's Text and Take. (For layers that don't load layer 1's own texts.) Layer 3, walked: the program's reader: skip, run, one, part. Layer 3, walked: the program's reader: run.
-/
import Derived.Test.YtceipblcdcgljaaGreatDoorG01
import Derived.Test.YtceipblcdcgljaaGreatDoorG02
import Derived.Test.YtceipblcdcgljaaGreatDoorG03
import Derived.Test.YtceipblcdcgljaaGreatDoorG04
import Derived.Test.YtceipblcdcgljaaGreatDoorG07
import Derived.Test.YtceipblcdcgljaaGreatDoorG11
import Derived.Test.YtceipblcdcgljaaGreatDoorG12
import Derived.Test.YtceipblcdcgljaaGreatDoorG18
import Derived.Test.YtceipblcdcgljaaGreatDoorG28
import Derived.Deep.Cut
import Derived.Test.YtceipblcdcgljaaGreatDoorShelf
import Derived.Deep.QuietTactic
import Derived.BigQuiet
import Derived.Lib.AppendIntMem
import Derived.Deep.RegionHeld
import Derived.Deep.RegionHeld3
namespace Go.Proofs.YtceipblcdcgljaaGreatDoor
open Go.RowKit
section
variable {Inv : World → Prop}
set_option maxRecDepth 100000 in
set_option maxHeartbeats 16000000 in
theorem boardFlags_walk (H : BrdC Inv) (m : Mo) (_ : okM m) (flags : Int) (f0 : -9223372036854775808 ≤ flags) (f1 : flags ≤ 9223372036854775807) (k : Ky) (hk : okK k) (hs : k.text.size ≤ maxLen) (w : World) (hv : Inv w) : Calls Tryz.prog 7 #[moV m, .int .i64 flags, kyV k] w fun e w' => e = .returned (.bool true) ∧ Below w.heap.size w w' := by
 obtain ⟨L, hL⟩ : ∃ L, brdL m flags k = L := ⟨_, rfl⟩
 obtain ⟨q, hq⟩ : ∃ q, clearsK flags = q := ⟨_, rfl⟩
 obtain ⟨F, hF⟩ : ∃ F, flg flags = F := ⟨_, rfl⟩
 have hrng := flg_rng flags
 obtain ⟨e1, e2⟩ := brd_flags m flags k
 rw [hF] at hrng e1 e2
 have inF : in10 F := ⟨by omega, by omega⟩
 have HKA0 : Hid (k.text.size ≤ 4294967296 → ∀ W, Inv W → Calls Tryz.prog 10 #[moV m, .int .i64 flags, kyV k] W (Out L W)) := Lib.hid fun h W hW => by rw [← hL]; exact H.key m flags k W hW ⟨f0, f1⟩ hk h
 have HKB0 : Hid (k.text.size ≤ 4294967296 → ∀ W, Inv W → Calls Tryz.prog 10 #[moV m, .int .i64 F, kyV k] W (Out L W)) := Lib.hid fun h W hW => by rw [← hL, e1]; exact H.key m F k W hW inF hk h
 have HCA : Hid (∀ W, Inv W → Calls Tryz.prog 12 #[.int .i64 flags] W fun e w' => e = .returned (.bool q) ∧ Below W.heap.size W w') := Lib.hid fun W hW => by rw [← hq]; exact H.clears flags W hW ⟨f0, f1⟩
 have HCB : Hid (∀ W, Inv W → Calls Tryz.prog 12 #[.int .i64 F] W fun e w' => e = .returned (.bool q) ∧ Below W.heap.size W w') := Lib.hid fun W hW => by rw [← hq, e2]; exact H.clears F W hW inF
 have HFL : Hid (∀ W, Calls Tryz.prog 17 #[.int .i64 flags] W fun e w' => e = .returned (.int .i64 F) ∧ Below W.heap.size W w') := Lib.hid fun W => by rw [← hF]; exact rflags_any flags W
 clear hL hk hq f0 f1 hF hrng e1 e2 inF
 simp only [moV, kyV] at HKA0 HKB0 hs ⊢
 obtain ⟨code, mods, typ, shift, base, text⟩ := k
 obtain ⟨m0, m1, m2, m3, m4, m5, m6, m7, m8, m9⟩ := m
 have hB : Below w.heap.size w ((w.alloc (.cells #[.bool m0, .bool m1, .bool m2, .bool m3, .bool m4, .bool m5, .bool m6, .int .i64 m7, .int .i64 m8, .int .i64 m9] 23)).alloc (.cells #[.int .i64 code, .int .i64 mods, .int .i64 typ, .int .i64 shift, .int .i64 base, .string text] 25)) := ((Below.refl _ w).alloc (Nat.le_refl _) _).alloc (by simp) _
 have a0 := (Blk.new w 23 #[.bool m0, .bool m1, .bool m2, .bool m3, .bool m4, .bool m5, .bool m6, .int .i64 m7, .int .i64 m8, .int .i64 m9]).alloc (.cells #[.int .i64 code, .int .i64 mods, .int .i64 typ, .int .i64 shift, .int .i64 base, .string text] 25)
 have b0 := Blk.new (w.alloc (.cells #[.bool m0, .bool m1, .bool m2, .bool m3, .bool m4, .bool m5, .bool m6, .int .i64 m7, .int .i64 m8, .int .i64 m9] 23)) 25 #[.int .i64 code, .int .i64 mods, .int .i64 typ, .int .i64 shift, .int .i64 base, .string text]
 rw [World.size_alloc] at b0
 have hv0 := H.invB hv hB
 simp only at HKA0 HKB0 hs
 have HSZ := Lib.hid hs
 clear hs
 go_enter Tryz.func7, Tryz.ntmps7
 go_wp2_with fail
 refine (brdAwake H _ hv0).mono ?_
 rintro e w1 ⟨rfl, hb1⟩
 have a1 := a0.below hb1 a0.lt
 have b1 := b0.below hb1 b0.lt
 have hB1 := hB.trans (hb1.mono hB.size)
 have hv1 := H.invB hv hB1
 clear hv0 a0 b0 hB hb1
 have c5 := b1.cell 5
 have hsz : (text.size : Int) ≤ 9223372036854775807 := by
  have := HSZ.out
  simp only [maxLen] at this
  omega
 by_cases h : 100 < text.size
 ·have t1 : decide (100 < (text.size : Int)) = true := decide_eq_true (by omega)
  clear h
  go_wp2_with fail
  go_ret
  exact ⟨rfl, hB1⟩
 have t1 : decide (100 < (text.size : Int)) = false := decide_eq_false (by omega)
 have hsm : text.size ≤ 4294967296 := by omega
 clear h
 have HKA := Lib.hid (HKA0.out hsm)
 have HKB := Lib.hid (HKB0.out hsm)
 go_wp2_with fail
 refine (HFL.out _).mono ?_
 rintro e w2 ⟨rfl, hb2⟩
 have a2 := a1.below hb2 a1.lt
 have b2 := b1.below hb2 b1.lt
 have hB2 := hB1.trans (hb2.mono hB1.size)
 have hv2 := H.invB hv hB2
 clear hv1 a1 b1 hB1 hb2 c5 HFL
 have HV : Hid (∀ W, Below w2.heap.size w2 W → Inv W) := Lib.hid fun W hW => H.invB hv2 hW
 have la : ∀ W, Below w2.heap.size w2 W → Blk W w.heap.size 23 #[.bool m0, .bool m1, .bool m2, .bool m3, .bool m4, .bool m5, .bool m6, .int .i64 m7, .int .i64 m8, .int .i64 m9] := fun W hW => a2.below hW a2.lt
 have lb : ∀ W, Below w2.heap.size w2 W → Blk W (w.heap.size + 1) 25 #[.int .i64 code, .int .i64 mods, .int .i64 typ, .int .i64 shift, .int .i64 base, .string text] := fun W hW => b2.below hW b2.lt
 have hst : ∀ f ∈ ([⟨5, 22, FB L⟩, ⟨10, 27, FB L⟩] : List Fact), f.ok := List.forall_mem_cons.2 ⟨fb_ok _ _ _, List.forall_mem_cons.2 ⟨fb_ok _ _ _, fun _ h => by cases h⟩⟩
 go_wp2_with fail
 refine wp_region_told (w1 := w2) (K := [⟨5, 22, FB L⟩, ⟨10, 27, FB L⟩]) (ix := 1000) (R0 := fun _ _ _ => True) (R1 := fun _ _ _ => True) [22, 27] (⟨#[.agg #[.bool m0, .bool m1, .bool m2, .bool m3, .bool m4, .bool m5, .bool m6, .int .i64 m7, .int .i64 m8, .int .i64 m9], .int .i64 flags, .agg #[.int .i64 code, .int .i64 mods, .int .i64 typ, .int .i64 shift, .int .i64 base, .string text], .pointer (some ⟨w.heap.size, 0, none⟩), undef, .pointer (some ⟨w.heap.size + 1, 0, none⟩), .bool true, .bool true, .int .i64 F, .bool true, .pointer (some ⟨w.heap.size + 1, 5, none⟩), .string text, .int .i64 (text.size : Int), .bool false, undef, .int .i64 flags, .int .i64 F, .bool true, .bool true, .agg #[.bool m0, .bool m1, .bool m2, .bool m3, .bool m4, .bool m5, .bool m6, .int .i64 m7, .int .i64 m8, .int .i64 m9], .int .i64 flags, .agg #[.int .i64 code, .int .i64 mods, .int .i64 typ, .int .i64 shift, .int .i64 base, .string text], undef, .string ⟨L.toArray⟩, .agg #[.bool m0, .bool m1, .bool m2, .bool m3, .bool m4, .bool m5, .bool m6, .int .i64 m7, .int .i64 m8, .int .i64 m9], .int .i64 F, .agg #[.int .i64 code, .int .i64 mods, .int .i64 typ, .int .i64 shift, .int .i64 base, .string text], undef, .string ⟨L.toArray⟩, .bool true, .bool true, .bool true, .int .i64 flags, .bool q, .int .i64 F, .bool q, .bool true, .bool true], []⟩) (fun g => ⟨#[.agg #[.bool m0, .bool m1, .bool m2, .bool m3, .bool m4, .bool m5, .bool m6, .int .i64 m7, .int .i64 m8, .int .i64 m9], .int .i64 flags, .agg #[.int .i64 code, .int .i64 mods, .int .i64 typ, .int .i64 shift, .int .i64 base, .string text], .pointer (some ⟨w.heap.size, 0, none⟩), undef, .pointer (some ⟨w.heap.size + 1, 0, none⟩), .bool true, .bool true, .int .i64 F, .bool true, .pointer (some ⟨w.heap.size + 1, 5, none⟩), .string text, .int .i64 (text.size : Int), .bool false, undef, .int .i64 flags, .int .i64 F, .bool true, .bool true, .agg #[.bool m0, .bool m1, .bool m2, .bool m3, .bool m4, .bool m5, .bool m6, .int .i64 m7, .int .i64 m8, .int .i64 m9], .int .i64 flags, .agg #[.int .i64 code, .int .i64 mods, .int .i64 typ, .int .i64 shift, .int .i64 base, .string text], (g 22), .string ⟨L.toArray⟩, .agg #[.bool m0, .bool m1, .bool m2, .bool m3, .bool m4, .bool m5, .bool m6, .int .i64 m7, .int .i64 m8, .int .i64 m9], .int .i64 F, .agg #[.int .i64 code, .int .i64 mods, .int .i64 typ, .int .i64 shift, .int .i64 base, .string text], (g 27), .string ⟨L.toArray⟩, .bool true, .bool true, .bool true, .int .i64 flags, .bool q, .int .i64 F, .bool q, .bool true, .bool true], []⟩) [.bool true, .bool true, .agg #[.bool m0, .bool m1, .bool m2, .bool m3, .bool m4, .bool m5, .bool m6, .int .i64 m7, .int .i64 m8, .int .i64 m9], .int .i64 flags, .agg #[.int .i64 code, .int .i64 mods, .int .i64 typ, .int .i64 shift, .int .i64 base, .string text], undef, .string ⟨L.toArray⟩, .agg #[.bool m0, .bool m1, .bool m2, .bool m3, .bool m4, .bool m5, .bool m6, .int .i64 m7, .int .i64 m8, .int .i64 m9], .int .i64 F, .agg #[.int .i64 code, .int .i64 mods, .int .i64 typ, .int .i64 shift, .int .i64 base, .string text], undef, .string ⟨L.toArray⟩, .bool true, .bool true, .bool true, .int .i64 flags, .bool q, .int .i64 F, .bool q, .bool true, .bool true, .bool true] (by kernel_rfl) (by kernel_rfl) (by kernel_rfl) (fun g => by kernel_rfl) (by kernel_rfl) (Below.refl _ _).drew (by decide) (by kernel_rfl)
  (goes_cons (gkP (fun _ => .bool true))
  (goes_cons (gkP (fun _ => .bool true))
  (goes_cons (gkL hst la Tryz.underlying23)
  (goes_cons (gkP (fun _ => .int .i64 flags))
  (goes_cons (gkL hst lb Tryz.underlying25)
  (goes_cons (gkG (fun g => #[.agg #[.bool m0, .bool m1, .bool m2, .bool m3, .bool m4, .bool m5, .bool m6, .int .i64 m7, .int .i64 m8, .int .i64 m9], .int .i64 flags, .agg #[.int .i64 code, .int .i64 mods, .int .i64 typ, .int .i64 shift, .int .i64 base, .string text]]) hst 0 (fun g W hW hin => fb_out (HKA.out W (HV.out W hW))))
  (goes_cons (goesK_str 0 rfl (by kernel_rfl) Tryz.underlying27 Tryz.underlying5 Tryz.underlying9 hst (ahead_none (by decide)) rfl (by decide) (by decide) (by kernel_rfl) (fun g => by kernel_rfl) rfl (fun g => by kernel_rfl) rfl (fun g => by kernel_rfl))
  (goes_cons (gkL hst la Tryz.underlying23)
  (goes_cons (gkP (fun _ => .int .i64 F))
  (goes_cons (gkL hst lb Tryz.underlying25)
  (goes_cons (gkG (fun g => #[.agg #[.bool m0, .bool m1, .bool m2, .bool m3, .bool m4, .bool m5, .bool m6, .int .i64 m7, .int .i64 m8, .int .i64 m9], .int .i64 F, .agg #[.int .i64 code, .int .i64 mods, .int .i64 typ, .int .i64 shift, .int .i64 base, .string text]]) hst 1 (fun g W hW hin => fb_out (HKB.out W (HV.out W hW))))
  (goes_cons (goesK_str 1 rfl (by kernel_rfl) Tryz.underlying27 Tryz.underlying5 Tryz.underlying9 hst (ahead_none (by decide)) rfl (by decide) (by decide) (by kernel_rfl) (fun g => by kernel_rfl) rfl (fun g => by kernel_rfl) rfl (fun g => by kernel_rfl))
  (goes_cons (goesK_bin (v := .bool true) (xv := .string ⟨L.toArray⟩) (yv := .string ⟨L.toArray⟩) rfl (by decide) (by decide) (by kernel_rfl) (fun g => by kernel_rfl) rfl (fun g => by kernel_rfl) rfl (fun g => by kernel_rfl) (fun g => by kernel_rfl) (fun w => by go_simp))
  (goes_cons (gkP (fun _ => .bool true))
  (goes_cons (gkP (fun _ => .bool true))
  (goes_cons (gkP (fun _ => .int .i64 flags))
  (goes_cons (gkK (fun g => #[.int .i64 flags]) hst (fun g W hW hin => HCA.out W (HV.out W hW)))
  (goes_cons (gkP (fun _ => .int .i64 F))
  (goes_cons (gkK (fun g => #[.int .i64 F]) hst (fun g W hW hin => HCB.out W (HV.out W hW)))
  (goes_cons (gkB (.bool true) (.bool q) (.bool q) (fun w => by cases q <;> kernel_rfl))
  (goes_cons (gkP (fun _ => .bool true))
  (goes_cons (gkP (fun _ => .bool true)) goes_nil)))))))))))))))))))))) ?_
 intro g W hW _
 go_wp2_with fail
 go_ret
 exact ⟨rfl, hB2.trans (hW.mono hB2.size)⟩
end
def notU8 : Value → Bool
 | .int .u8 _ => false
 | _ => true
theorem Rd.off_key {w : World} {A : Option Addr} {L : List UInt8} {g : Nat} {t : TypeId} {cs : Array Value} (h : Rd w A (bs L)) (hk : Blk w g t cs) (hc : cs.toList.all notU8 = true) : RdOff w (fun k => k = g) A (bs L) := fun hp => by
 obtain ⟨b, o, rfl, hb, hx⟩ := h hp
 refine ⟨b, o, rfl, hb, fun e => ?_, hx⟩
 subst e
 have h0 := hx 0 _ (List.getElem?_eq_getElem hp)
 rw [Nat.add_zero, hk.cell o] at h0
 obtain ⟨c, _, hcv⟩ := List.mem_map.1 (List.getElem_mem (l := bs L) hp)
 rw [← hcv] at h0
 have := List.all_eq_true.1 hc _ (Array.mem_def.1 (Array.mem_of_getElem? h0))
 cases this
end Go.Proofs.YtceipblcdcgljaaGreatDoor
namespace Go.Proofs.YtceipblcdcgljaaGreatDoor
def pOk (p : List Int) : Prop := (1 ≤ p.length ∧ p.length ≤ 8) ∧ ∀ n ∈ p, -1 ≤ n ∧ n ≤ 1114111
theorem rpart_len : ∀ (p : List Int), (∀ n ∈ p, -1 ≤ n ∧ n ≤ 1114111) → (partL p).length ≤ 22 * p.length
 | [], _ => Nat.zero_le _
 | [n], h => by
   have := textL_length n (by have := (h n (by simp)).2; omega)
   show (textL n).length ≤ _
   simp
   omega
 | n :: m :: p, h => by
   have h1 := textL_length n (by have := (h n (by simp)).2; omega)
   have h2 := rpart_len (m :: p) (fun x hx => h x (List.mem_cons_of_mem _ hx))
   show (textL n ++ (58 :: partL (m :: p))).length ≤ _
   simp only [List.length_append, List.length_cons] at h2 ⊢
   omega
theorem parl_len : ∀ (l : List (List Int)), (∀ p ∈ l, pOk p) → (parL l).length ≤ 177 * l.length
 | [], _ => Nat.zero_le _
 | [p], h => by
   obtain ⟨⟨_, h8⟩, hn⟩ := h p (by simp)
   have := rpart_len p hn
   show (partL p).length ≤ _
   simp
   omega
 | p :: q :: l, h => by
   obtain ⟨⟨_, h8⟩, hn⟩ := h p (by simp)
   have h1 := rpart_len p hn
   have h2 := parl_len (q :: l) (fun x hx => h x (List.mem_cons_of_mem _ hx))
   show (partL p ++ (59 :: parL (q :: l))).length ≤ _
   simp only [List.length_append, List.length_cons] at h2 ⊢
   omega
theorem pok_of {l : List (List Int)} (h : parOk l = true) : l.length ≤ 16 ∧ ∀ p ∈ l, pOk p := by
 unfold parOk at h
 simp only [Bool.and_eq_true, decide_eq_true_eq, List.all_eq_true] at h
 exact ⟨h.1.1, fun p hp => ⟨⟨(h.2 p hp).1.1, (h.2 p hp).1.2⟩, (h.2 p hp).2⟩⟩
theorem seq_len {s : Sq} (h : mayS s = 0) (hd : s.data = []) (hi : s.inter = []) : (putS s).length ≤ 177 * s.params.length + 6 := by
 obtain ⟨_, _, hp, _⟩ := ok_parts h
 have h1 := parl_len s.params (pok_of hp).2
 have h2 : (privL s.priv).length ≤ 1 := by unfold privL; split <;> simp
 have hb : (bodyL s).length ≤ 177 * s.params.length + 1 := by
  unfold bodyL
  rw [hi]
  simp only [List.length_append, List.length_nil]
  omega
 unfold putS
 rw [hd, hi]
 repeat' split
 all_goals simp only [List.length_cons, List.length_append, List.length_nil]
 all_goals omega
theorem kit_len (f : Int) {k : Ky} (h : mayK k = true) : (kitL f k).length ≤ 600 := by
 unfold kitL
 split
 ·simp
 ·split
  ·unfold plainK
   split
   ·simp
   ·split
    ·obtain ⟨ks, _, k2, _, k4⟩ := clean_pts ((may_parts k).1 h).2.2.2
     rw [← k4]
     have := catL_length ks
     omega
    ·have := putL_le (shownK k)
     omega
  ·rw [putK_is f h]
   have h1 := seq_len (may_kit f h) rfl rfl
   have h2 : (sqK f k).params.length ≤ 3 := by
    show (paramsK f k).length ≤ 3
    unfold paramsK
    repeat' split
    all_goals simp
   omega
theorem seqB_len (kind f : Int) (l : List Int) (hl : l.length ≤ 3) : (seqB kind f l).length ≤ 600 := by
 unfold seqB
 split
 ·rename_i h
  have h1 := seq_len h rfl rfl
  have : (sqN kind f l).params.length = l.length := by show (l.map fun n => [n]).length = _; rw [List.length_map]
  omega
 ·simp
theorem oth_le (o : Int) (k : Ky) : (othL o k).length ≤ 600 := by
 unfold othL
 split
 ·exact seqB_len _ _ _ (by simp)
 ·simp
theorem text_le {k : Ky} (h : mayK k = true) : k.text.data.toList.length ≤ 32 := by
 obtain ⟨ks, _, k2, _, k4⟩ := clean_pts ((may_parts k).1 h).2.2.2
 rw [← k4]
 have := catL_length ks
 omega
theorem legE_le (m : Mo) (e : En) (code shift o : Int) (s1 a2 c4 : Bool) (text : List UInt8) (h : text.length ≤ 32) : (legE m e code shift o s1 a2 c4 text).length ≤ 600 := by
 have ha : ∀ l : List UInt8, (aheadG a2 l).length ≤ l.length + 1 := fun l => by unfold aheadG; split <;> simp
 unfold legE
 split
 ·have := ha (shownG code shift s1 c4 text)
  have := shownG_len code shift s1 c4 text
  omega
 ·split
  ·have := ha (plainG m code s1 c4)
   have := plainG_len m code s1 c4
   omega
  ·split
   ·unfold funcG
    repeat' split
    all_goals exact seqB_len _ _ _ (by simp)
   ·simp
theorem leg_le (m : Mo) {k : Ky} (h : mayK k = true) : (legL m k).length ≤ 600 := by
 have ht := text_le h
 unfold legL
 split
 ·simp
 ·unfold legG
  split
  ·split
   ·exact seqB_len _ _ _ (by simp)
   ·exact legE_le _ _ _ _ _ _ _ _ _ ht
  ·exact legE_le _ _ _ _ _ _ _ _ _ ht
theorem brd_le (m : Mo) (f : Int) (k : Ky) : (brdL m f k).length ≤ 600 := by
 cases h : mayK k with
 | false => rw [brd_none m f h]; simp
 | true =>
   unfold brdL
   split
   ·simp
   ·split
    ·exact kit_len f h
    ·split
     ·exact oth_le _ _
     ·exact leg_le m h
end Go.Proofs.YtceipblcdcgljaaGreatDoor
namespace Go.Proofs.YtceipblcdcgljaaGreatDoor
open Go.RowKit
def figV (c : Int) : Int := if 48 ≤ c ∧ c ≤ 57 then c - 48 else if 65 ≤ c ∧ c ≤ 70 then c - 55 else if 97 ≤ c ∧ c ≤ 102 then c - 87 else 99
set_option maxHeartbeats 400000 in
theorem figures_any (n : Int) (w : World) :
 Calls Tryz.prog 150 #[.int .i64 n] w fun e w' => e = .returned (.func (.func 156) #[] #[.pointer (some ⟨w.heap.size, 0, none⟩)]) ∧ w' = w.alloc (.cells #[.int .i64 n] 3) := by
 have hmf : ∀ (fn : Fn) (first cap : Array Value) (w : World), (Instr.makeFunc fn first cap).run Tryz.prog w = .ok (.func fn first cap) w := fun _ _ _ _ => rfl
 go_enter Tryz.func150, Tryz.ntmps150
 go_wp2
 go_ret
 exact ⟨rfl, rfl⟩
def figA (c n : Int) : Int := if figV c < n then figV c else 0
def figB (c n : Int) : Bool := decide (figV c < n)
set_option maxHeartbeats 1000000 in
theorem figure_any (c n : Int) (a : Addr) (w : World) (h0 : 0 ≤ c) (h1 : c ≤ 2147483647) (hn0 : 1 ≤ n) (hn1 : n ≤ 36) (hc : w.cell? a = some (.int .i64 n)) :
 Calls Tryz.prog 156 #[.int .i32 c, .pointer (some a)] w fun e w' =>
  e = .returned (.tuple #[.int .i64 (figA c n), .bool (figB c n)]) ∧ w' = w := by
 go_enter Tryz.func156, Tryz.ntmps156
 go_wp2
 all_goals go_ret2
 all_goals
  refine ⟨ret_ib ?_ ?_, rfl⟩
  ·unfold figA figV
   (repeat' split) <;> omega
  ·unfold figB figV
   (repeat' split) <;> first | (rw [eq_comm, decide_eq_true_eq]; omega) | (rw [eq_comm, decide_eq_false_iff_not]; omega)
def digs (l : List UInt8) : Nat := (l.takeWhile isD).length
def satk (l : List UInt8) (k : Nat) : Nat := (l.take k).foldl dstep 0
theorem take_snoc (l : List UInt8) (k : Nat) (h : k < l.length) : l.take (k + 1) = l.take k ++ [l[k]] := by
 rw [List.take_succ_eq_append_getElem h]
theorem satk_succ (l : List UInt8) (k : Nat) (h : k < l.length) : satk l (k + 1) = dstep (satk l k) l[k] := by
 unfold satk; rw [take_snoc l k h, List.foldl_append]; rfl
theorem satk_le (l : List UInt8) : ∀ k, satk l k ≤ 1114111 := by
 intro k
 unfold satk
 generalize l.take k = t
 cases ht : t.reverse with
 | nil => rw [List.reverse_eq_nil_iff] at ht; subst ht; simp
 | cons c r =>
   have : t = r.reverse ++ [c] := by rw [← List.reverse_reverse t, ht]; simp
   rw [this, List.foldl_append]
   exact dstep_le _ _
theorem takeWhile_of_all {p : UInt8 → Bool} : ∀ (l : List UInt8) (k : Nat), k ≤ l.length → (∀ j (h : j < l.length), j < k → p l[j] = true) → (∀ h : k < l.length, p l[k] = false) → l.takeWhile p = l.take k
 | [], k, hk, _, _ => by simp at hk; subst hk; rfl
 | c :: r, 0, _, _, hn => by
   have := hn (by simp)
   simp at this
   simp [this]
 | c :: r, k + 1, hk, ha, hn => by
   have h0 := ha 0 (by simp) (by omega)
   simp at h0
   rw [List.takeWhile_cons_of_pos h0, List.take_succ_cons]
   congr 1
   refine takeWhile_of_all r k (by simpa using hk) (fun j h hj => ?_) (fun h => ?_)
   ·exact ha (j + 1) (by rw [List.length_cons]; omega) (by omega)
   ·exact hn (by rw [List.length_cons]; omega)
theorem digs_at (l : List UInt8) (k : Nat) (hk : k ≤ l.length) (ha : ∀ j (h : j < l.length), j < k → isD l[j] = true) (hn : ∀ h : k < l.length, isD l[k] = false) : digs l = k ∧ satv l = satk l k := by
 unfold digs satv satk
 rw [takeWhile_of_all l k hk ha hn]
 exact ⟨by rw [List.length_take]; omega, rfl⟩
theorem fig_digit (c : UInt8) (h : isD c = true) : figB (c.toNat : Int) 10 = true ∧ figA (c.toNat : Int) 10 = (c.toNat : Int) - 48 := by
 have h' : 48 ≤ c.toNat ∧ c.toNat ≤ 57 := of_decide_eq_true h
 have hv : figV (c.toNat : Int) = (c.toNat : Int) - 48 := by unfold figV; rw [if_pos (by omega)]
 unfold figB figA
 rw [hv]
 exact ⟨decide_eq_true (by omega), if_pos (by omega)⟩
theorem fig_other (c : UInt8) (h : isD c = false) : figB (c.toNat : Int) 10 = false := by
 have h' : ¬ (48 ≤ c.toNat ∧ c.toNat ≤ 57) := of_decide_eq_false h
 unfold figB
 rw [decide_eq_false_iff_not]
 unfold figV
 rw [if_neg (by omega)]
 split
 ·omega
 ·split <;> omega
set_option maxHeartbeats 1000000 in
theorem figtake_any (A : Option Addr) (c : Nat) (l : List UInt8) (w : World) (hl : l.length ≤ 4294967296) (hr : Rd w A (bs l)) :
 Calls Tryz.prog 141 #[.slice A l.length c] w fun e w' => e = .returned (.tuple #[.int .i64 (satv l), .int .i64 (digs l)]) ∧ Below w.heap.size w w' := by
 have hr1 := hr.alloc (.cells #[.int .i64 10] 3)
 have hb1 : Below w.heap.size w (w.alloc (.cells #[.int .i64 10] 3)) := (Below.refl _ _).alloc (Nat.le_refl _) _
 have hbox : (w.alloc (.cells #[.int .i64 10] 3)).cell? ⟨w.heap.size, 0, none⟩ = some (.int .i64 10) := by
  rw [World.cell?_alloc_at _ _ _ _ rfl]; rfl
 go_enter Tryz.func141, Tryz.ntmps141
 go_wp2_with (go_at_call 150; refine (figures_any 10 _).mono ?_; rintro e w' ⟨rfl, rfl⟩)
 go_loop [5, 6, 14] (fun n u i => ∃ k : Nat, k ≤ l.length ∧ i = .int .i64 k ∧ u = .int .i64 k ∧ n = .int .i64 (satk l k) ∧ Hid (∀ j (h : j < l.length), j < k → isD l[j] = true)) (fun _ _ i => l.length - (intOf i).toNat)
 case atStart => exact ⟨0, Nat.zero_le _, rfl, rfl, rfl, fun j _ h => absurd h (by omega)⟩
 case round =>
  obtain ⟨k, hk, rfl, rfl, rfl, hall⟩ := hrel
  have hsk := satk_le l k
  by_cases hlt : k < l.length
  ·obtain ⟨b, o, rfl, hb, hcell⟩ := hr1.at_ (by omega)
   have hck := hcell k hlt
   have hlo := (l[k]).toNat_lt
   clear hcell
   cases hd : isD l[k] with
   | true =>
     obtain ⟨f1, f2⟩ := fig_digit _ hd
     have H1 := Lib.hid f1
     have H2 := Lib.hid f2
     have HS := Lib.hid (satk_succ l k hlt)
     have HD := Lib.hid hd
     have h5 : 48 ≤ (l[k]).toNat ∧ (l[k]).toNat ≤ 57 := of_decide_eq_true hd
     clear f1 f2 hd
     go_wp2_with (go_at_call 156; refine (figure_any _ 10 _ _ (by omega) (by omega) (by omega) (by omega) hbox).mono ?_; rintro e w' ⟨rfl, rfl⟩; rw [H1.out, H2.out])
     go_round
     case rel =>
      refine ⟨k + 1, by omega, by go_num, by go_num, ?_, ?_⟩
      ·rw [HS.out]
       unfold dstep
       congr 1
       first | omega | (split <;> omega)
      ·intro j h hj
       by_cases e : j = k
       ·subst e; exact HD.out
       ·exact hall.out j h (by omega)
     case measure => simp [intOf]; omega
   | false =>
     have H1 := Lib.hid (fig_other _ hd)
     have HE := Lib.hid (digs_at l k hk hall.out fun _ => hd)
     clear hd
     go_wp2_with (go_at_call 156; refine (figure_any _ 10 _ _ (by omega) (by omega) (by omega) (by omega) hbox).mono ?_; rintro e w' ⟨rfl, rfl⟩; rw [H1.out])
     go_ret2
     exact ⟨ret_ii (by rw [HE.out.2]) (by rw [HE.out.1]), hb1⟩
  ·have HE := Lib.hid (digs_at l k hk hall.out fun h => absurd h hlt)
   go_wp2
   go_ret2
   exact ⟨ret_ii (by rw [HE.out.2]) (by rw [HE.out.1]), hb1⟩
theorem take_at (A : Option Addr) (c : Nat) (l : List UInt8) (n : Nat) (w : World) (hn : l.length = n) (hl : l.length ≤ 4294967296) (hr : Rd w A (bs l)) :
 Calls Tryz.prog 141 #[.slice A n c] w fun e w' => e = .returned (.tuple #[.int .i64 (satv l), .int .i64 (digs l)]) ∧ Below w.heap.size w w' := by
 subst hn
 exact figtake_any A c l w hl hr
def tkC (A : Option Addr) (n c at_ : Nat) (x0 x1 x2 x3 x4 x5 : Value) : Array Value := #[.slice A n c, .int .i64 (at_ : Int), x0, x1, x2, x3, x4, x5]
def Rdr (w : World) (g : Nat) (A : Option Addr) (c : Nat) (l : List UInt8) (x0 x1 x2 x3 x4 x5 : Value) (r : List UInt8) : Prop :=
 ∃ at_ : Nat, at_ ≤ l.length ∧ l.drop at_ = r ∧ RdIn g w A (bs l) ∧ Blk w g 63 (tkC A l.length c at_ x0 x1 x2 x3 x4 x5)
theorem bytesIn_of {w : World} {A : Option Addr} {l : List UInt8} (h : Rd w A (bs l)) : Lib.BytesIn w A l.length (l.map fun x => (x.toNat : Int)) := fun hn => by
 obtain ⟨b, o, rfl, _, hc⟩ := h.at_ hn
 refine ⟨b, o, rfl, fun i hi => ?_⟩
 rw [hc i hi]
 simp [List.getD, List.getElem?_eq_getElem hi]
theorem hasp_any (A1 A2 : Option Addr) (n c m d : Nat) (l t : List UInt8) (q : Bool) (w : World) (hl : l.length = n) (ht : t.length = m) (hc : n ≤ c) (hq : skipB t l = q) (h1 : Rd w A1 (bs l)) (h2 : Rd w A2 (bs t)) :
 Calls Tryz.prog 58 #[.slice A1 n c, .slice A2 m d] w fun e w' => e = .returned (.bool q) ∧ w = w' := by
 subst hl
 subst ht
 refine (Tryz.bytes_HasPrefix_all A1 A2 _ c _ d (l.map fun x => (x.toNat : Int)) (t.map fun x => (x.toNat : Int)) w (by simp) (by simp) hc (bytesIn_of h1) (bytesIn_of h2)).mono ?_
 rintro e w' ⟨rfl, rfl⟩
 refine ⟨?_, rfl⟩
 have e : ∀ k : List UInt8, Lib.bytesOf (k.map fun x => (x.toNat : Int)) = k := fun k => by
  unfold Lib.bytesOf
  rw [List.map_map]
  calc k.map ((fun n : Int => UInt8.ofNat n.toNat) ∘ fun x : UInt8 => (x.toNat : Int)) = k.map id := List.map_congr_left (fun x _ => by simp)
   _ = k := List.map_id k
 rw [e, e, ← hq]
 rfl
set_option maxRecDepth 100000 in
set_option maxHeartbeats 4000000 in
theorem skip_any (g : Nat) (A : Option Addr) (c : Nat) (l t r : List UInt8) (x0 x1 x2 x3 x4 x5 : Value) (q : Bool) (w : World) (hq : skipB t r = q) (hlc : l.length ≤ c) (hl : l.length ≤ 4294967296) (ht : t.length ≤ 4294967296) (h : Rdr w g A c l x0 x1 x2 x3 x4 x5 r) :
 Calls Tryz.prog 28 #[.pointer (some ⟨g, 0, none⟩), .string ⟨t.toArray⟩] w fun e w' => e = .returned (.bool q) ∧ Rdr w' g A c l x0 x1 x2 x3 x4 x5 (if q = true then r.drop t.length else r) ∧ w.grownBy w' (some g) := by
 obtain ⟨at_, hat, hr, hrd, hblk⟩ := h
 have hlt := hblk.lt
 obtain ⟨A', hcut, hrd2⟩ := cut_run (P := Tryz.prog) (T := 27) (e := 5) (by kernel_rfl) Tryz.underlying27 Tryz.sizeOf5 A l.length c at_ hat hlc
 have hrd3 := hrd2 g w l rfl hrd
 obtain ⟨C, X, hX⟩ := conv_all Tryz.prog 9 27 5 t Tryz.underlying9 Tryz.underlying27 Tryz.underlying5 (by simp only [maxLen]; omega)
 have hV := fun W => (hX W).1
 have HX := Lib.hid (fun W => (hX W).2.2)
 have c0 : w.cell? ⟨g, 0, none⟩ = some (.slice A l.length c) := hblk.cell 0
 have c1 : w.cell? ⟨g, 1, none⟩ = some (.int .i64 (at_ : Int)) := hblk.cell 1
 have fz := hblk.frozen 1
 have HQ := Lib.hid hq
 have HR := Lib.hid hr
 clear hq hr hX
 have n0 : (0 : Int) ≤ (at_ : Int) := by omega
 have n1 : (at_ : Int) ≤ (l.length : Int) := by omega
 go_enter Tryz.func28, Tryz.ntmps28
 go_wp2_with fail
 have HB : Hid (∀ W, Below w.heap.size w W → Below w.heap.size w (X W)) := Lib.hid fun W hb => hb.trans ((HX.out W).2.mono hb.size)
 have HS : Hid (∀ W, Below w.heap.size w W → W.cell? ⟨g, 0, none⟩ = some (.slice A l.length c) ∧ W.cell? ⟨g, 1, none⟩ = some (.int .i64 (at_ : Int)) ∧ Below w.heap.size w W) := Lib.hid fun W hb => ⟨(hb.cell (p := ⟨g, 0, none⟩) hlt).trans c0, (hb.cell (p := ⟨g, 1, none⟩) hlt).trans c1, hb⟩
 have HR3 : Hid (∀ W, Below w.heap.size w W → Rd W A' (bs (l.drop at_))) := Lib.hid fun W hb => ((hrd3.rd (Nat.le_of_lt hlt))).below hb
 have HL := Lib.hid (show (l.drop at_).length = l.length - at_ from List.length_drop)
 have HQ2 := Lib.hid (show skipB t (l.drop at_) = q by rw [HR.out]; exact HQ.out)
 have hlc2 : l.length - at_ ≤ c - at_ := by omega
 have hat2 := hat
 clear hrd2 hrd3
 go_region_held (fun w' => w'.cell? ⟨g, 0, none⟩ = some (.slice A l.length c) ∧ w'.cell? ⟨g, 1, none⟩ = some (.int .i64 (at_ : Int)) ∧ Below w.heap.size w w') (first | exact HS.out _ (Below.refl _ _).drew | exact HS.out _ (HB.out _ (Below.refl _ _).drew)) (first | (go_at_call 58; refine (hasp_any A' _ _ _ _ _ (l.drop at_) t q _ HL.out rfl hlc2 HQ2.out (HR3.out _ (HB.out _ (Below.refl _ _).drew)) (HX.out _).1).mono ?_; rintro e w2 ⟨rfl, rfl⟩))
 have hbX := HB.out _ (Below.refl w.heap.size w).drew
 clear hcut hV HX HS HB HR3 HL hlc2 HQ2
 generalize X w.drew = W1 at *
 clear X
 have hblk1 := hblk.below hbX hlt
 have hrd1 := hrd.below (hbX.mono (Nat.le_of_lt hlt))
 have d1 : W1.cell? ⟨g, 1, none⟩ = some (.int .i64 (at_ : Int)) := hblk1.cell 1
 have fz1 := hblk1.frozen 1
 have hg1 := grown_below (some g) hbX
 clear c0 c1 fz
 cases q with
 | false =>
   go_wp2_with fail
   go_ret
   exact ⟨rfl, ⟨at_, hat, HR.out, hrd1, hblk1⟩, hg1⟩
 | true =>
   have hp := skipB_some HQ.out
   have hlen := congrArg List.length hp
   rw [List.length_append, ← HR.out, List.length_drop] at hlen
   have hle : at_ + t.length ≤ l.length := by omega
   have HP := Lib.hid (show l.drop (at_ + t.length) = r.drop t.length by rw [← HR.out, List.drop_drop])
   clear hp hlen
   go_wp2_with fail
   go_ret
   refine ⟨rfl, ⟨at_ + t.length, hle, HP.out, ?_, ?_⟩, ?_⟩
   ·exact RdIn.grown hrd1 (grown_setCell g 1 _ W1) hblk1.lt
   ·have := hblk1.set 1 (.int .i64 ((at_ + t.length : Nat) : Int))
    rw [Int.natCast_add] at this
    exact this
   ·exact grown_trans hg1 (grown_setCell g 1 _ W1)
def atOf (w : World) (g : Nat) : Nat := match w.cell? ⟨g, 1, none⟩ with | some (.int _ i) => i.toNat | _ => 0
theorem atOf_blk {w : World} {g : Nat} {t : TypeId} {A : Option Addr} {n c k : Nat} {x0 x1 x2 x3 x4 x5 : Value} (h : Blk w g t (tkC A n c k x0 x1 x2 x3 x4 x5)) : atOf w g = k := by
 unfold atOf
 rw [show w.cell? ⟨g, 1, none⟩ = some (.int .i64 (k : Int)) from h.cell 1]
 simp
set_option maxRecDepth 100000 in
set_option maxHeartbeats 8000000 in
theorem run2_any (g : Nat) (A : Option Addr) (c a b m : Nat) (l r u : List UInt8) (x0 x1 x2 x3 x4 x5 : Value) (w : World) (hu : runF a b m r = u) (hlc : l.length ≤ c) (hl : l.length ≤ 4294967296) (hm : m ≤ 4294967296) (h : Rdr w g A c l x0 x1 x2 x3 x4 x5 r) :
 Calls Tryz.prog 61 #[.pointer (some ⟨g, 0, none⟩), .int .u8 a, .int .u8 b, .int .i64 m] w fun e w' => e = .returned (.string ⟨u.toArray⟩) ∧ Rdr w' g A c l x0 x1 x2 x3 x4 x5 (r.drop u.length) ∧ w.grownBy w' (some g) := by
 obtain ⟨at_, hat, hr, hrd, hblk⟩ := h
 have hlt := hblk.lt
 have c0 : w.cell? ⟨g, 0, none⟩ = some (.slice A l.length c) := hblk.cell 0
 have c1 : w.cell? ⟨g, 1, none⟩ = some (.int .i64 (at_ : Int)) := hblk.cell 1
 have HU := Lib.hid hu
 have HR := Lib.hid hr
 clear hu hr
 go_enter Tryz.func61, Tryz.ntmps61
 go_wp2_with fail
 go_loopw [] (fun wr => ∃ k : Nat, k ≤ m ∧ at_ + k ≤ l.length ∧ (r.take k).all (btw a b) = true ∧ RdIn g wr A (bs l) ∧ Blk wr g 63 (tkC A l.length c (at_ + k) x0 x1 x2 x3 x4 x5) ∧ w.grownBy wr (some g)) (fun wr => l.length - atOf wr g)
 case atStart => exact ⟨0, Nat.zero_le _, hat, rfl, hrd, hblk, World.grownBy.refl _ _⟩
 case round =>
  obtain ⟨k, hkm, hkl, hall, hrd1, hblk1, hg1⟩ := hrel
  have hlt1 := hblk1.lt
  obtain ⟨p, hp⟩ : ∃ p, at_ + k = p := ⟨_, rfl⟩
  have HP := Lib.hid hp
  rw [hp] at hkl hblk1
  clear hp
  have d0 : wr.cell? ⟨g, 0, none⟩ = some (.slice A l.length c) := hblk1.cell 0
  have d1 : wr.cell? ⟨g, 1, none⟩ = some (.int .i64 (p : Int)) := hblk1.cell 1
  have fz1 := hblk1.frozen 1
  have HA := Lib.hid hall
  clear hall c0 c1
  have hrl := Lib.hid (show r.length = l.length - at_ by rw [← HR.out, List.length_drop])
  have hke : k ≤ r.length := by rw [hrl.out]; have := HP.out; omega
  by_cases h1 : p < l.length
  ·have k1 : (p : Int) < (l.length : Int) := by omega
   have ew : IntKind.i64.wrap ((p : Int) - (at_ : Int)) = (k : Int) := by rw [IntWalk.i64_in _ (by have := HP.out; omega)]; have := HP.out; omega
   have ew0 : (p : Int) - (at_ : Int) = (k : Int) := by have := HP.out; omega
   obtain ⟨b2, o2, hA, hb2, hcc⟩ := hrd1 (by rw [bs_length]; omega)
   cases hA
   have hcp := hcc p _ (bs_get l p h1)
   have hB8 : B8 (l[p]'h1) = .int .u8 ((l[p]'h1).toNat : Int) := rfl
   rw [hB8] at hcp
   obtain ⟨x, hx⟩ : ∃ x, l[p]'h1 = x := ⟨_, rfl⟩
   rw [hx] at hcp
   have hxl := x.toNat_lt
   have hkr : k < r.length := by rw [hrl.out]; have := HP.out; omega
   have HX := Lib.hid (show r[k]'hkr = x by
    rw [← hx]
    have : ∀ (t : List UInt8) (h : k < t.length) (h2 : t = l.drop at_), t[k]'h = l[p]'h1 := fun t h h2 => by subst h2; rw [List.getElem_drop]; simp only [HP.out]
    exact this r hkr HR.out.symm)
   clear hx hcc hB8
   by_cases h2 : k < m
   ·have k2 : (k : Int) < (m : Int) := by omega
    by_cases h3 : a ≤ x.toNat
    ·by_cases h4 : x.toNat ≤ b
     ·have HN := Lib.hid (show (r.take (k + 1)).all (btw a b) = true by
       rw [List.take_succ_eq_append_getElem hkr, List.all_append, HA.out, HX.out]; simp [(btw_iff a b x).2 ⟨h3, h4⟩])
      go_wp2_with fail
      go_quiet (fail)
      go_wp2_with fail
      have hgs := grown_setCell g 1 (Value.int IntKind.i64 ((p : Int) + 1)) (wr.drewN nq)
      have hgd : wr.grownBy (wr.drewN nq) (some g) := ⟨rfl, rfl, rfl, Nat.le_refl _, fun _ _ _ => rfl⟩
      have hb3 : Blk ((wr.drewN nq).setCell ⟨g, 1, none⟩ (Value.int IntKind.i64 ((p : Int) + 1))) g 63 (tkC (some ⟨b2, o2, none⟩) l.length c (p + 1) x0 x1 x2 x3 x4 x5) := by
       have := (hblk1.drewN nq).set 1 (.int .i64 ((p : Int) + 1))
       exact this
      refine ⟨⟨k + 1, h2, by have := HP.out; omega, HN.out, RdIn.grown hrd1 (grown_trans hgd hgs) hlt1, ?_, grown_trans hg1 (grown_trans hgd hgs)⟩, ?_⟩
      ·rw [show at_ + (k + 1) = p + 1 by have := HP.out; omega]; exact hb3
      ·rw [atOf_blk hb3, atOf_blk hblk1]; omega
     ·have h4 : b < x.toNat := by omega
      have HE := Lib.hid (show u = r.take k from HU.out.symm.trans (runF_end (by omega) hkm HA.out (.inr (.inr ⟨hkr, by rw [HX.out, btw_no]; omega⟩))))
      go_wp2_with fail
      go_quiet (fail)
      obtain ⟨A', hcut, hrd2⟩ := cut2_run (P := Tryz.prog) (T := 27) (e := 5) (by kernel_rfl) Tryz.underlying27 Tryz.sizeOf5 (some ⟨b2, o2, none⟩) l.length c at_ p (by omega) hkl hlc
      have hpk : p - at_ = k := by have := HP.out; omega
      rw [hpk] at hcut hrd2
      have hcv : ∀ a n, (convert 27 9 (.slice A' k (c - at_))).run Tryz.prog ((wr.drewN a).drewN n) = .ok (.string ⟨u.toArray⟩) ((wr.drewN a).drewN n) := fun a n => by
       have h2 := (hrd2 g wr l rfl hrd1).rd (Nat.le_of_lt hlt1)
       have e2 : (l.drop at_).take k = u := by rw [HR.out]; exact HE.out.symm
       rw [e2] at h2
       exact conv_str (w := (wr.drewN a).drewN n) Tryz.underlying27 Tryz.underlying5 (by rw [HE.out, List.length_take]; omega) h2 9 Tryz.underlying9
      clear hrd2 hpk
      go_wp2_with fail
      have hblk2 := hblk1.drewN nq
      have hrdW : RdIn g (wr.drewN nq) (some ⟨b2, o2, none⟩) (bs l) := hrd1
      have hgW : w.grownBy (wr.drewN nq) (some g) := ⟨hg1.os, hg1.tape, hg1.output, hg1.size, hg1.block⟩
      have hcv2 : ∀ n, (convert 27 9 (.slice A' k (c - at_))).run Tryz.prog ((wr.drewN nq).drewN n) = .ok (.string ⟨u.toArray⟩) ((wr.drewN nq).drewN n) := fun n => hcv nq n
      have hcv0 : (convert 27 9 (.slice A' k (c - at_))).run Tryz.prog (wr.drewN nq) = .ok (.string ⟨u.toArray⟩) (wr.drewN nq) := hcv nq 0
      clear hcv d0 d1 fz1 hg1 hrd1 hblk1
      generalize wr.drewN nq = W at *
      have e0 : W.cell? ⟨g, 0, none⟩ = some (.slice (some ⟨b2, o2, none⟩) l.length c) := hblk2.cell 0
      have e1 : W.cell? ⟨g, 1, none⟩ = some (.int .i64 (p : Int)) := hblk2.cell 1
      go_quiet (fail)
      go_wp2_with fail
      go_ret
      refine ⟨rfl, ⟨p, hkl, ?_, hrdW, hblk2.drewN _⟩, ⟨hgW.os, hgW.tape, hgW.output, hgW.size, hgW.block⟩⟩
      rw [HE.out, List.length_take, Nat.min_eq_left hke, ← HR.out, List.drop_drop, HP.out]
    ·have h3 : x.toNat < a := by omega
     have HE := Lib.hid (show u = r.take k from HU.out.symm.trans (runF_end (by omega) hkm HA.out (.inr (.inr ⟨hkr, by rw [HX.out, btw_no]; omega⟩))))
     go_wp2_with fail
     go_quiet (fail)
     obtain ⟨A', hcut, hrd2⟩ := cut2_run (P := Tryz.prog) (T := 27) (e := 5) (by kernel_rfl) Tryz.underlying27 Tryz.sizeOf5 (some ⟨b2, o2, none⟩) l.length c at_ p (by omega) hkl hlc
     have hpk : p - at_ = k := by have := HP.out; omega
     rw [hpk] at hcut hrd2
     have hcv : ∀ a n, (convert 27 9 (.slice A' k (c - at_))).run Tryz.prog ((wr.drewN a).drewN n) = .ok (.string ⟨u.toArray⟩) ((wr.drewN a).drewN n) := fun a n => by
      have h2 := (hrd2 g wr l rfl hrd1).rd (Nat.le_of_lt hlt1)
      have e2 : (l.drop at_).take k = u := by rw [HR.out]; exact HE.out.symm
      rw [e2] at h2
      exact conv_str (w := (wr.drewN a).drewN n) Tryz.underlying27 Tryz.underlying5 (by rw [HE.out, List.length_take]; omega) h2 9 Tryz.underlying9
     clear hrd2 hpk
     go_wp2_with fail
     have hblk2 := hblk1.drewN nq
     have hrdW : RdIn g (wr.drewN nq) (some ⟨b2, o2, none⟩) (bs l) := hrd1
     have hgW : w.grownBy (wr.drewN nq) (some g) := ⟨hg1.os, hg1.tape, hg1.output, hg1.size, hg1.block⟩
     have hcv2 : ∀ n, (convert 27 9 (.slice A' k (c - at_))).run Tryz.prog ((wr.drewN nq).drewN n) = .ok (.string ⟨u.toArray⟩) ((wr.drewN nq).drewN n) := fun n => hcv nq n
     have hcv0 : (convert 27 9 (.slice A' k (c - at_))).run Tryz.prog (wr.drewN nq) = .ok (.string ⟨u.toArray⟩) (wr.drewN nq) := hcv nq 0
     clear hcv d0 d1 fz1 hg1 hrd1 hblk1
     generalize wr.drewN nq = W at *
     have e0 : W.cell? ⟨g, 0, none⟩ = some (.slice (some ⟨b2, o2, none⟩) l.length c) := hblk2.cell 0
     have e1 : W.cell? ⟨g, 1, none⟩ = some (.int .i64 (p : Int)) := hblk2.cell 1
     go_quiet (fail)
     go_wp2_with fail
     go_ret
     refine ⟨rfl, ⟨p, hkl, ?_, hrdW, hblk2.drewN _⟩, ⟨hgW.os, hgW.tape, hgW.output, hgW.size, hgW.block⟩⟩
     rw [HE.out, List.length_take, Nat.min_eq_left hke, ← HR.out, List.drop_drop, HP.out]
   ·have k2 : (m : Int) ≤ (k : Int) := by omega
    have HE := Lib.hid (show u = r.take k from HU.out.symm.trans (runF_end (by omega) hkm HA.out (.inl (by omega))))
    go_wp2_with fail
    go_quiet (fail)
    obtain ⟨A', hcut, hrd2⟩ := cut2_run (P := Tryz.prog) (T := 27) (e := 5) (by kernel_rfl) Tryz.underlying27 Tryz.sizeOf5 (some ⟨b2, o2, none⟩) l.length c at_ p (by omega) hkl hlc
    have hpk : p - at_ = k := by have := HP.out; omega
    rw [hpk] at hcut hrd2
    have hcv : ∀ a n, (convert 27 9 (.slice A' k (c - at_))).run Tryz.prog ((wr.drewN a).drewN n) = .ok (.string ⟨u.toArray⟩) ((wr.drewN a).drewN n) := fun a n => by
     have h2 := (hrd2 g wr l rfl hrd1).rd (Nat.le_of_lt hlt1)
     have e2 : (l.drop at_).take k = u := by rw [HR.out]; exact HE.out.symm
     rw [e2] at h2
     exact conv_str (w := (wr.drewN a).drewN n) Tryz.underlying27 Tryz.underlying5 (by rw [HE.out, List.length_take]; omega) h2 9 Tryz.underlying9
    clear hrd2 hpk
    go_wp2_with fail
    have hblk2 := hblk1.drewN nq
    have hrdW : RdIn g (wr.drewN nq) (some ⟨b2, o2, none⟩) (bs l) := hrd1
    have hgW : w.grownBy (wr.drewN nq) (some g) := ⟨hg1.os, hg1.tape, hg1.output, hg1.size, hg1.block⟩
    have hcv2 : ∀ n, (convert 27 9 (.slice A' k (c - at_))).run Tryz.prog ((wr.drewN nq).drewN n) = .ok (.string ⟨u.toArray⟩) ((wr.drewN nq).drewN n) := fun n => hcv nq n
    have hcv0 : (convert 27 9 (.slice A' k (c - at_))).run Tryz.prog (wr.drewN nq) = .ok (.string ⟨u.toArray⟩) (wr.drewN nq) := hcv nq 0
    clear hcv d0 d1 fz1 hg1 hrd1 hblk1
    generalize wr.drewN nq = W at *
    have e0 : W.cell? ⟨g, 0, none⟩ = some (.slice (some ⟨b2, o2, none⟩) l.length c) := hblk2.cell 0
    have e1 : W.cell? ⟨g, 1, none⟩ = some (.int .i64 (p : Int)) := hblk2.cell 1
    go_quiet (fail)
    go_wp2_with fail
    go_ret
    refine ⟨rfl, ⟨p, hkl, ?_, hrdW, hblk2.drewN _⟩, ⟨hgW.os, hgW.tape, hgW.output, hgW.size, hgW.block⟩⟩
    rw [HE.out, List.length_take, Nat.min_eq_left hke, ← HR.out, List.drop_drop, HP.out]
  ·have k1 : (l.length : Int) ≤ (p : Int) := by omega
   have hrl2 := hrl.out
   have hpp := HP.out
   have HE := Lib.hid (show u = r.take k from HU.out.symm.trans (runF_end (by omega) hkm HA.out (.inr (.inl (by omega)))))
   clear hrl2 hpp
   go_wp2_with fail
   go_quiet (fail)
   obtain ⟨A', hcut, hrd2⟩ := cut2_run (P := Tryz.prog) (T := 27) (e := 5) (by kernel_rfl) Tryz.underlying27 Tryz.sizeOf5 A l.length c at_ p (by omega) hkl hlc
   have hpk : p - at_ = k := by have := HP.out; omega
   rw [hpk] at hcut hrd2
   have hcv : ∀ a n, (convert 27 9 (.slice A' k (c - at_))).run Tryz.prog ((wr.drewN a).drewN n) = .ok (.string ⟨u.toArray⟩) ((wr.drewN a).drewN n) := fun a n => by
    have h2 := (hrd2 g wr l rfl hrd1).rd (Nat.le_of_lt hlt1)
    have e2 : (l.drop at_).take k = u := by rw [HR.out]; exact HE.out.symm
    rw [e2] at h2
    exact conv_str (w := (wr.drewN a).drewN n) Tryz.underlying27 Tryz.underlying5 (by rw [HE.out, List.length_take]; omega) h2 9 Tryz.underlying9
   clear hrd2 hpk
   go_wp2_with fail
   have hblk2 := hblk1.drewN nq
   have hrdW : RdIn g (wr.drewN nq) A (bs l) := hrd1
   have hgW : w.grownBy (wr.drewN nq) (some g) := ⟨hg1.os, hg1.tape, hg1.output, hg1.size, hg1.block⟩
   have hcv2 : ∀ n, (convert 27 9 (.slice A' k (c - at_))).run Tryz.prog ((wr.drewN nq).drewN n) = .ok (.string ⟨u.toArray⟩) ((wr.drewN nq).drewN n) := fun n => hcv nq n
   have hcv0 : (convert 27 9 (.slice A' k (c - at_))).run Tryz.prog (wr.drewN nq) = .ok (.string ⟨u.toArray⟩) (wr.drewN nq) := hcv nq 0
   clear hcv d0 d1 fz1 hg1 hrd1 hblk1
   generalize wr.drewN nq = W at *
   have e0 : W.cell? ⟨g, 0, none⟩ = some (.slice A l.length c) := hblk2.cell 0
   have e1 : W.cell? ⟨g, 1, none⟩ = some (.int .i64 (p : Int)) := hblk2.cell 1
   go_quiet (fail)
   go_wp2_with fail
   go_ret
   refine ⟨rfl, ⟨p, hkl, ?_, hrdW, hblk2.drewN _⟩, ⟨hgW.os, hgW.tape, hgW.output, hgW.size, hgW.block⟩⟩
   rw [HE.out, List.length_take, Nat.min_eq_left hke, ← HR.out, List.drop_drop, HP.out]
end Go.Proofs.YtceipblcdcgljaaGreatDoor
