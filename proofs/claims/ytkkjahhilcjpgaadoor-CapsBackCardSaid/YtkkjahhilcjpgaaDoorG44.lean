/-
  Stage 20's law CapsBack, walked.
-/
import Derived.Test.YtkkjahhilcjpgaaDoorG20
import Derived.Test.YtkkjahhilcjpgaaDoorG33
import Derived.Test.YtkkjahhilcjpgaaDoorG41
import Derived.Test.YtkkjahhilcjpgaaDoorG43
import Derived.Deep.Cut
namespace Go.Proofs.YtkkjahhilcjpgaaDoor
open Go.RowKit Go.Shelf
def nm20 (x : UInt8) : List UInt8 × List UInt8 := namesC.getD (x.toNat % 12) ([], [])
def F20 (small : Bool) (n : List UInt8) : List UInt8 := if small = true then (hexL n).map low else hexL n
def lowJ (H : List UInt8) (j : Nat) : List UInt8 := (H.take j).map low ++ H.drop j
theorem lowJ_len (H : List UInt8) (j : Nat) : (lowJ H j).length = H.length := by
 unfold lowJ
 simp
 omega
theorem lowJ_get {H : List UInt8} {j : Nat} (hj : j < H.length) : (lowJ H j)[j]? = some H[j] := by
 unfold lowJ
 rw [List.getElem?_append_right (by simp; omega)]
 simp [Nat.min_eq_left (Nat.le_of_lt hj), hj]
theorem lowJ_form {H : List UInt8} {j : Nat} (hj : j < H.length) : lowJ H (j + 1) = (H.take j).map low ++ low H[j] :: H.drop (j + 1) := by
 unfold lowJ
 rw [List.take_succ_eq_append_getElem hj, List.map_append, List.append_assoc]
 rfl
theorem lowJ_here {H : List UInt8} {j : Nat} (hj : j < H.length) : lowJ H j = (H.take j).map low ++ H[j] :: H.drop (j + 1) := by
 unfold lowJ
 rw [List.drop_eq_getElem_cons hj]
theorem lowJ_succ {H : List UInt8} {j : Nat} (hj : j < H.length) : lowJ H (j + 1) = (lowJ H j).set j (low H[j]) := by
 rw [lowJ_form hj, lowJ_here hj]
 have hl : ((H.take j).map low).length = j := by simp; omega
 rw [List.set_append_right _ _ (by omega), hl, Nat.sub_self, List.set_cons_zero]
theorem lowJ_same {H : List UInt8} {j : Nat} (hj : j < H.length) (h : low H[j] = H[j]) : lowJ H (j + 1) = lowJ H j := by
 rw [lowJ_form hj, lowJ_here hj, h]
theorem lowJ_all (H : List UInt8) : lowJ H H.length = H.map low := by
 unfold lowJ
 simp
theorem bs_set (l : List UInt8) (j : Nat) (c : UInt8) : bs (l.set j c) = (bs l).set j (.int .u8 (c.toNat : Int)) := by
 unfold bs
 rw [List.map_set]
 rfl
theorem names_cnt20 : namesL20.length = 12 := by decide +kernel
theorem nm_mem (x : UInt8) : nm20 x ∈ namesC := by
 unfold nm20
 have h : x.toNat % 12 < namesC.length := Nat.mod_lt _ (by decide)
 rw [List.getD_eq_getElem?_getD, List.getElem?_eq_getElem h]
 exact List.getElem_mem h
theorem nm_get (x : UInt8) : (ss_ namesL20)[x.toNat % 12]? = some (.string ⟨(nm20 x).1.toArray⟩) := by
 have h : x.toNat % 12 < namesC.length := Nat.mod_lt _ (by decide)
 unfold nm20 ss_ namesL20
 rw [List.getD_eq_getElem?_getD, List.getElem?_map, List.getElem?_map, List.getElem?_eq_getElem h]
 rfl
theorem prs_get : ∀ (L : List (List UInt8 × List UInt8)) (i : Nat) (h : i < L.length), (prs20 L)[i * 2]? = some (.string ⟨(L[i]).1.toArray⟩) ∧ (prs20 L)[i * 2 + 1]? = some (.string ⟨(L[i]).2.toArray⟩)
 | q :: L, 0, _ => ⟨rfl, rfl⟩
 | q :: L, i + 1, h => by
   have := prs_get L i (by simpa using h)
   have e : prs20 (q :: L) = .string ⟨q.1.toArray⟩ :: .string ⟨q.2.toArray⟩ :: prs20 L := rfl
   rw [e, show (i + 1) * 2 = i * 2 + 1 + 1 by omega]
   simpa using this
def askB (small : Bool) (l : List UInt8) (k : Nat) : List UInt8 := joinC ((l.take k).map fun x => F20 small (nm20 x).1)
theorem askB_succ (small : Bool) {l : List UInt8} {k : Nat} (hk : k < l.length) : askB small l (k + 1) = (if k = 0 then [] else askB small l k ++ [59]) ++ F20 small (nm20 l[k]).1 := by
 unfold askB
 rw [List.take_succ_eq_append_getElem hk, List.map_append, List.map_singleton, join_add]
 by_cases h0 : k = 0
 ·subst h0; simp
 ·rw [if_neg (by simp; exact ⟨h0, fun e => by subst e; simp at hk⟩), if_neg h0]
theorem back_all (small : Bool) {l : List UInt8} (h0 : l ≠ []) (h1 : l.length ≤ 20) : readS (ansS (askB small l l.length)) = some (l.map nm20) := by
 have := caps_back small (qs := l.map nm20) (by simpa using h0) (by simpa using h1) (fun q hq => by obtain ⟨x, _, rfl⟩ := List.mem_map.1 hq; exact nm_mem x)
 rw [List.map_map] at this
 unfold askB
 rw [List.take_length]
 exact this
theorem nm_hex (small : Bool) (x : UInt8) : (F20 small (nm20 x).1).length ≤ 12 ∧ 0 < (hexL (nm20 x).1).length := by
 have h := names_know _ (nm_mem x)
 have h2 : ∀ q ∈ namesC, 0 < q.1.length := by decide +kernel
 have h3 := h2 _ (nm_mem x)
 unfold F20
 split <;> simp [hexL_length] <;> omega
theorem askB_len (small : Bool) (l : List UInt8) (k : Nat) (hk : k ≤ 20) : (askB small l k).length ≤ 260 := by
 unfold askB
 have := join_len (ps := (l.take k).map fun x => F20 small (nm20 x).1) (m := 12) (fun p hp => by obtain ⟨x, _, rfl⟩ := List.mem_map.1 hp; exact (nm_hex small x).1)
 rw [List.length_map, List.length_take] at this
 have : min k l.length ≤ 20 := by omega
 omega
set_option maxRecDepth 100000 in
set_option maxHeartbeats 16000000 in
theorem capsBack_walk (A : Option Addr) (l : List UInt8) (c : Nat) (_hk : l.length ≤ c) (small : Bool) (w : World) (hr : Rd w A (bs l)) : Calls Tryd.prog 5 #[.slice A l.length c, .bool small] w fun e w' => e = .returned (.bool true) ∧ Below w.heap.size w w' := by
 obtain ⟨i0, hi, hz0, hz1, hz2⟩ := info_parts Tryd.u8info
 by_cases hl0 : l.length = 0
 ·have v0 : ((l.length : Int) == 0) = true := by rw [hl0]; rfl
  have v1 : ¬ ((20 : Int) < (l.length : Int)) := by omega
  clear hl0
  go_enter Tryd.func5, Tryd.ntmps5
  go_wp2_with fail
  refine (capAwake _).mono ?_
  rintro e w1 ⟨rfl, hb1⟩
  go_wp2_with fail
  go_ret
  exact ⟨rfl, hb1⟩
 by_cases hl20 : 20 < l.length
 ·have v1 : (20 : Int) < (l.length : Int) := by omega
  clear hl0
  go_enter Tryd.func5, Tryd.ntmps5
  go_wp2_with fail
  refine (capAwake _).mono ?_
  rintro e w1 ⟨rfl, hb1⟩
  go_wp2_with fail
  go_ret
  exact ⟨rfl, hb1⟩
 have v1 : ¬ ((20 : Int) < (l.length : Int)) := by omega
 have v0 : ((l.length : Int) == 0) = false := beq_false_of_ne (by omega)
 have HBA := Lib.hid (back_all small (l := l) (fun e => hl0 (by rw [e]; rfl)) (by omega))
 have HL := Lib.hid (show 0 < l.length ∧ l.length ≤ 20 by omega)
 obtain ⟨n, hn⟩ : ∃ n, l.length = n := ⟨_, rfl⟩
 rw [hn] at v0 v1 HL HBA ⊢
 have HN := Lib.hid hn
 clear hl0 hl20 hn
 go_enter Tryd.func5, Tryd.ntmps5
 go_wp2_with fail
 refine (capAwake _).mono ?_
 rintro e w1 ⟨rfl, hb1⟩
 go_wp2_with fail
 refine (pNames20_any _).mono ?_
 rintro e w2 ⟨A2, c2, rfl, hrd, hb2⟩
 have hB2 := hb1.trans (hb2.mono hb1.size)
 clear hb1 hb2
 go_wp2_with fail
 obtain ⟨b2, o2, rfl, hl2, hcell⟩ := hrd (by simp [ss_, names_cnt20])
 go_loopw [7, 8] (fun v z wr => ∃ (k : Nat) (Q : List UInt8), k ≤ n ∧ z = .int .i64 k ∧ Hid (Q = askB small l k) ∧ Own wr w2.heap.size 5 1 v Q.length (bs Q) ∧ Below w2.heap.size w2 wr) (fun _ z _ => n - (intOf z).toNat)
 case atStart => exact ⟨0, [], Nat.zero_le _, rfl, Lib.hid rfl, Own.nil_ _ _ _ _, Below.refl _ _⟩
 case round =>
  obtain ⟨k, Q, hk, rfl, HQ, hown, hbw⟩ := hrel
  have hB := hB2.trans (hbw.mono hB2.size)
  have hQl : Q.length ≤ 260 := by rw [HQ.out]; exact askB_len small l k (by have := HL.out; omega)
  by_cases hlt : k < n
  ·have v2 : (k : Int) < (n : Int) := by omega
   have v3 : IntKind.i64.wrap ((k : Int) + 1) = (k : Int) + 1 := by rw [IntKind.wrap_i64]; have := HL.out; omega
   have v4 : (0 : Int) ≤ (k : Int) := by omega
   have hkl : k < l.length := by rw [HN.out]; exact hlt
   obtain ⟨x, hx⟩ : ∃ x, l[k] = x := ⟨_, rfl⟩
   obtain ⟨b, o, rfl, hbl, hcl⟩ := (hr.below hB) (by simp [bs]; omega)
   have hck := hcl k (.int .u8 (x.toNat : Int)) (by simp [bs, B8, hkl, hx])
   have hxl := x.toNat_lt
   have e3 : IntKind.i64.wrap (x.toNat : Int) = (x.toNat : Int) := IntWalk.i64_in _ (by omega)
   have e1 : (x.toNat : Int).tmod 12 = ((x.toNat % 12 : Nat) : Int) := by rw [Int.tmod_eq_emod_of_nonneg (by omega)]; omega
   have e4 : IntKind.i64.wrap ((x.toNat % 12 : Nat) : Int) = ((x.toNat % 12 : Nat) : Int) := IntWalk.i64_in _ (by omega)
   obtain ⟨m, hm⟩ : ∃ m, x.toNat % 12 = m := ⟨_, rfl⟩
   have hm12 : (m : Int) < 12 := by omega
   have hm0 : (0 : Int) ≤ (m : Int) := by omega
   have hcm := (hbw.cell (p := ⟨b2, o2 + m, none⟩) hl2).trans (hcell m _ (hm ▸ nm_get x))
   rw [hm] at e1 e4
   obtain ⟨N, hN⟩ : ∃ N, (nm20 x).1 = N := ⟨_, rfl⟩
   rw [hN] at hcm
   have hnx := nm_hex small x
   rw [hN, hexL_length] at hnx
   have HSU := Lib.hid (askB_succ small hkl)
   rw [hx, hN] at HSU
   have hms : (⟨N.toArray⟩ : ByteArray).size ≤ maxLen := show N.length ≤ maxLen by
    have := (names_know _ (nm_mem x)).2.2.1
    rw [hN] at this
    simp only [maxLen]; omega
   have hs0 : wr.heap.size ≤ wr.heap.size := Nat.le_refl _
   have hNl : N.length ≤ 6 := by
    have := (names_know _ (nm_mem x)).2.2.1
    rw [hN] at this
    exact this
   clear hcl hx hxl hm hN
   go_wp2_with (first | ((with_reducible refine list_conv _ rfl (.tmp 47) 9 33 rfl wr.heap.size 5 ⟨N.toArray⟩ ?_ Tryd.underlying9 Tryd.underlying33 Tryd.underlying5 hms hs0 ?_); rfl; intro v5 w5 own5 hg5; obtain ⟨A5, c5, rfl, hr5⟩ := own5.form; have hB5 := below_none20 hg5; clear hg5 own5))
   refine (rhex_any _ _ N _ (by omega) hr5).mono ?_
   rintro e w6 ⟨rfl, hb6⟩
   have hB6 := hB5.trans (hb6.mono hB5.size)
   obtain ⟨H, hH⟩ : ∃ H, hexL N = H := ⟨_, rfl⟩
   have hFH : F20 small N = if small = true then H.map low else H := by unfold F20; rw [hH]
   rw [hFH] at HSU
   rw [← hexL_length, hH] at hnx
   rw [hH]
   have hHl : H.length ≤ 12 := by have := hnx.1; rw [hFH] at this; split at this <;> simpa using this
   have hHx : ∀ c ∈ H, c.toNat ≤ 70 := fun c hc => by
    have h3 := hexL_hex N c (hH ▸ hc)
    simp only [hexC, btw, Bool.or_eq_true, Bool.and_eq_true, decide_eq_true_eq] at h3
    omega
   have HHX := Lib.hid hHx
   have HHP := Lib.hid hnx.2
   have hmh : (⟨H.toArray⟩ : ByteArray).size ≤ maxLen := show H.length ≤ maxLen by simp only [maxLen]; omega
   have hs6 : w6.heap.size ≤ w6.heap.size := Nat.le_refl _
   clear hH hFH hnx hms hr5 hb6 hB5 hHx e1 e3 e4 hm12 hm0 hck hcm hbl v0 v1
   go_upto_region 12 with (first | ((with_reducible refine list_conv _ rfl (.tmp 49) 9 33 rfl w6.heap.size 5 ⟨H.toArray⟩ ?_ Tryd.underlying9 Tryd.underlying33 Tryd.underlying5 hmh hs6 ?_); rfl; intro v7 w7 own7 hg7))
   have hB7 := hB6.trans ((below_none20 hg7).mono hB6.size)
   have hl7 : w6.heap.size ≤ w7.heap.size := hg7.size
   obtain ⟨g, cap, rfl, hgb, hgl, hgc⟩ := own7.some_ HHP.out
   replace own7 : Own w7 w6.heap.size 5 1 (.slice (some ⟨g, 0, none⟩) H.length cap) H.length (bs H) := own7
   have own8 := hown.behind hB7
   have hb8 := hbw.trans (hB7.mono hbw.size)
   have hgw : wr.heap.size ≤ g := Nat.le_trans hB6.size hgb
   have hgQ : u7.ownBlock ≠ some g := fun e => by have := (hown.lt g e).2; omega
   rw [show (⟨H.toArray⟩ : ByteArray).size = H.length from rfl]
   have HG := Lib.hid hgb
   have HO8 := Lib.hid own8
   have HB8 := Lib.hid hb8
   have HGQ := Lib.hid hgQ
   have HQW : Hid (∀ g, u7.ownBlock = some g → g < wr.heap.size) := Lib.hid fun g hg => (hown.lt g hg).2
   have HW2 : Hid (w2.heap.size ≤ wr.heap.size) := Lib.hid hbw.size
   have HLW : Hid (wr.heap.size ≤ w6.heap.size) := Lib.hid hB6.size
   clear hg7 hB6 hB7 hB hown hbw own8 hb8 hgQ hgb hl7 hgl hgc hgw
   obtain ⟨Z, hZ⟩ : ∃ Z, (if small = true then H.map low else H) = Z := ⟨_, rfl⟩
   rw [hZ] at HSU
   have HHL := Lib.hid hHl
   cases small with
   | false =>
     obtain rfl : H = Z := by simpa using hZ
     go_wp2_with fail
     go_loopw [10] (fun z wi => z = .int .i64 0 ∧ Own wi w6.heap.size 5 1 (.slice (some ⟨g, 0, none⟩) H.length cap) H.length (bs H) ∧ Below w6.heap.size w7 wi) (fun z _ => 0)
     case atStart => exact ⟨rfl, own7, Below.refl _ _⟩
     case round =>
      obtain ⟨rfl, hoj, hbj⟩ := hrel
      have x1 : (0 : Int) < (H.length : Int) := by have := HHP.out; omega
      have own9 := HO8.out.below (hbj.mono HLW.out) HQW.out
      have hb9 := HB8.out.trans (hbj.mono (Nat.le_trans HW2.out HLW.out))
      have hb99 := hb9.size
      have hsj := hb9.size
      clear hbj
      by_cases hk0 : k = 0
      ·have y1 : ¬ ((0 : Int) < (k : Int)) := by omega
       have hQ0 : Q = [] := by rw [HQ.out, hk0]; rfl
       have hrd := hoj.rd
       have h63 : Q.length + H.length ≤ maxLen := by have := HHL.out; simp only [maxLen]; omega
       have hlim : (Q.length + H.length) * 1 ≤ 140737488355328 := by have := HHL.out; omega
       clear hoj
       go_wp2_with (at_builtin; refine list_app _ rfl (.tmp 78) (.tmp 79) 33 rfl w2.heap.size 5 i0 _ 1 1 Tryd.underlying33 hi hz0 hz1 hz2 rfl Nat.one_pos _ _ _ rfl own9 _ H.length cap (bs (H)) rfl (by simp [bs_length]) hrd (bs_one _) h63 hlim hsj ?_; intro v8 w8 o8 hg8)
       rw [← bs_append] at o8
       exact ⟨⟨k + 1, Q ++ (H), by omega, by go_num, Lib.hid (by rw [HSU.out, if_pos hk0, hQ0]), by rw [List.length_append]; simpa using o8, hb9.grown hg8 hsj (fun g hg => (own9.lt g hg).1)⟩, by simp [intOf] <;> omega⟩
      ·have y1 : (0 : Int) < (k : Int) := by omega
       have p1 := own9.alloc (.cells #[.int .u8 59] 5)
       have pr : Rd (wr.alloc (.cells #[.int .u8 59] 5)) (some ⟨wr.heap.size, 0, none⟩) (bs [59]) := Rd.block (heap_alloc_new wr _) rfl
       have ps : w2.heap.size ≤ (wr.alloc (.cells #[.int .u8 59] 5)).heap.size := by simp; omega
       have hbA := hb9.alloc hb9.size (.cells #[.int .u8 59] 5)
       have g63 : Q.length + 1 ≤ maxLen := by simp only [maxLen]; omega
       have glim : (Q.length + 1) * 1 ≤ 140737488355328 := by omega
       have ho9 := hoj.alloc (.cells #[.int .u8 59] 5)
       clear hoj own9 hsj
       go_upto_region 19 with (at_builtin; refine list_app _ rfl (.tmp 75) (.tmp 76) 33 rfl w2.heap.size 5 i0 _ 1 1 Tryd.underlying33 hi hz0 hz1 hz2 rfl Nat.one_pos _ _ _ rfl p1 _ 1 1 (bs [59]) rfl rfl pr (bs_one [59]) g63 glim ps ?_; intro v9 w9 o9 hg9)
       rw [← bs_append] at o9
       have hrd := (ho9.kept hg9 (.inr fun e => HGQ.out e.symm)).rd
       have hbB := hbA.grown hg9 ps (fun g hg => (p1.lt g hg).1)
       have h63 : Q.length + 1 + H.length ≤ maxLen := by have := HHL.out; simp only [maxLen]; omega
       have hlim : (Q.length + 1 + H.length) * 1 ≤ 140737488355328 := by have := HHL.out; omega
       have hs9 := hbB.size
       clear ho9 p1 pr ps hbA hg9 g63 glim
       go_wp2_with (at_builtin; refine list_app _ rfl (.tmp 78) (.tmp 79) 33 rfl w2.heap.size 5 i0 _ 1 1 Tryd.underlying33 hi hz0 hz1 hz2 rfl Nat.one_pos _ _ _ rfl o9 _ H.length cap (bs (H)) rfl (by simp [bs_length]) hrd (bs_one _) h63 hlim hs9 ?_; intro v8 w8 o8 hg8)
       rw [← bs_append] at o8
       exact ⟨⟨k + 1, (Q ++ [59]) ++ (H), by omega, by go_num, Lib.hid (by rw [HSU.out, if_neg hk0, HQ.out]), by rw [List.length_append]; simpa using o8, hbB.grown hg8 hs9 (fun g hg => (o9.lt g hg).1)⟩, by simp [intOf] <;> omega⟩
   | true =>
     obtain rfl : H.map low = Z := by simpa using hZ
     go_wp2_with fail
     go_loopw [10] (fun z wi => ∃ j : Nat, j ≤ H.length ∧ z = .int .i64 j ∧ Own wi w6.heap.size 5 1 (.slice (some ⟨g, 0, none⟩) H.length cap) H.length (bs (lowJ H j)) ∧ Below w6.heap.size w7 wi) (fun z _ => H.length - (intOf z).toNat)
     case atStart => exact ⟨0, Nat.zero_le _, rfl, own7, Below.refl _ _⟩
     case round =>
      obtain ⟨j, hj, rfl, hoj, hbj⟩ := hrel
      by_cases hjl : j < H.length
      ·have x1 : (j : Int) < (H.length : Int) := by omega
       have x2 : (0 : Int) ≤ (j : Int) := by omega
       have x3 : IntKind.i64.wrap ((j : Int) + 1) = (j : Int) + 1 := by rw [IntKind.wrap_i64]; omega
       obtain ⟨d, hd⟩ : ∃ d, H[j] = d := ⟨_, rfl⟩
       have hd70 := HHX.out H[j] (List.getElem_mem hjl)
       rw [hd] at hd70
       have hgl := lowJ_get hjl
       have hbl : j < (bs (lowJ H j)).length := by rw [bs_length, lowJ_len]; exact hjl
       have hcd := hoj.cellAt j hbl
       have hfd := hoj.frozenAt j hbl
       have hval : (bs (lowJ H j))[j] = .int .u8 (d.toNat : Int) := by
        have : (bs (lowJ H j))[j]? = some (.int .u8 (d.toNat : Int)) := by
         unfold bs
         rw [List.getElem?_map, hgl, hd]
         rfl
        rw [List.getElem?_eq_getElem hbl] at this
        injection this
       rw [hval] at hcd
       clear hval hgl
       by_cases h65 : 65 ≤ d.toNat
       ·have x4 : (65 : Int) ≤ (d.toNat : Int) := by omega
        have x5 : IntKind.u8.wrap ((d.toNat : Int) + 32) = ((low d).toNat : Int) := by
         have : (low d).toNat = d.toNat + 32 := by
          unfold low
          rw [if_pos h65, UInt8.toNat_add]
          have : (32 : UInt8).toNat = 32 := rfl
          omega
         rw [this, IntKind.wrap_u8]
         omega
        have hoz := hoj.stored j (.int .u8 ((low d).toNat : Int))
        rw [← bs_set, ← hd, ← lowJ_succ hjl, hd] at hoz
        have hbz := hbj.setCell (p := ⟨g, j, none⟩) HG.out (.int .u8 ((low d).toNat : Int))
        clear hd hoj hbj h65
        go_wp2_with fail
        go_roundw
        case rel => exact ⟨j + 1, by omega, by go_num, hoz, hbz⟩
        case measure => simp [intOf]; omega
       ·have x4 : ¬ ((65 : Int) ≤ (d.toNat : Int)) := by omega
        have hld : low H[j] = H[j] := by unfold low; rw [if_neg (by rw [hd]; exact h65)]
        rw [← lowJ_same hjl hld] at hoj
        clear hd h65 hld
        go_wp2_with fail
        go_roundw
        case rel => exact ⟨j + 1, by omega, by go_num, hoj, hbj⟩
        case measure => simp [intOf]; omega
      ·have x1 : ¬ ((j : Int) < (H.length : Int)) := by omega
       obtain rfl : j = H.length := by omega
       rw [lowJ_all] at hoj
       have own9 := HO8.out.below (hbj.mono HLW.out) HQW.out
       have hb9 := HB8.out.trans (hbj.mono (Nat.le_trans HW2.out HLW.out))
       have hb99 := hb9.size
       have hsj := hb9.size
       clear hbj
       by_cases hk0 : k = 0
       ·have y1 : ¬ ((0 : Int) < (k : Int)) := by omega
        have hQ0 : Q = [] := by rw [HQ.out, hk0]; rfl
        have hrd := hoj.rd
        have h63 : Q.length + H.length ≤ maxLen := by have := HHL.out; simp only [maxLen]; omega
        have hlim : (Q.length + H.length) * 1 ≤ 140737488355328 := by have := HHL.out; omega
        clear hoj
        go_wp2_with (at_builtin; refine list_app _ rfl (.tmp 78) (.tmp 79) 33 rfl w2.heap.size 5 i0 _ 1 1 Tryd.underlying33 hi hz0 hz1 hz2 rfl Nat.one_pos _ _ _ rfl own9 _ H.length cap (bs (H.map low)) rfl (by simp [bs_length]) hrd (bs_one _) h63 hlim hsj ?_; intro v8 w8 o8 hg8)
        rw [← bs_append] at o8
        exact ⟨⟨k + 1, Q ++ (H.map low), by omega, by go_num, Lib.hid (by rw [HSU.out, if_pos hk0, hQ0]), by rw [List.length_append]; simpa using o8, hb9.grown hg8 hsj (fun g hg => (own9.lt g hg).1)⟩, by simp [intOf] <;> omega⟩
       ·have y1 : (0 : Int) < (k : Int) := by omega
        have p1 := own9.alloc (.cells #[.int .u8 59] 5)
        have pr : Rd (wr.alloc (.cells #[.int .u8 59] 5)) (some ⟨wr.heap.size, 0, none⟩) (bs [59]) := Rd.block (heap_alloc_new wr _) rfl
        have ps : w2.heap.size ≤ (wr.alloc (.cells #[.int .u8 59] 5)).heap.size := by simp; omega
        have hbA := hb9.alloc hb9.size (.cells #[.int .u8 59] 5)
        have g63 : Q.length + 1 ≤ maxLen := by simp only [maxLen]; omega
        have glim : (Q.length + 1) * 1 ≤ 140737488355328 := by omega
        have ho9 := hoj.alloc (.cells #[.int .u8 59] 5)
        clear hoj own9 hsj
        go_upto_region 19 with (at_builtin; refine list_app _ rfl (.tmp 75) (.tmp 76) 33 rfl w2.heap.size 5 i0 _ 1 1 Tryd.underlying33 hi hz0 hz1 hz2 rfl Nat.one_pos _ _ _ rfl p1 _ 1 1 (bs [59]) rfl rfl pr (bs_one [59]) g63 glim ps ?_; intro v9 w9 o9 hg9)
        rw [← bs_append] at o9
        have hrd := (ho9.kept hg9 (.inr fun e => HGQ.out e.symm)).rd
        have hbB := hbA.grown hg9 ps (fun g hg => (p1.lt g hg).1)
        have h63 : Q.length + 1 + H.length ≤ maxLen := by have := HHL.out; simp only [maxLen]; omega
        have hlim : (Q.length + 1 + H.length) * 1 ≤ 140737488355328 := by have := HHL.out; omega
        have hs9 := hbB.size
        clear ho9 p1 pr ps hbA hg9 g63 glim
        go_wp2_with (at_builtin; refine list_app _ rfl (.tmp 78) (.tmp 79) 33 rfl w2.heap.size 5 i0 _ 1 1 Tryd.underlying33 hi hz0 hz1 hz2 rfl Nat.one_pos _ _ _ rfl o9 _ H.length cap (bs (H.map low)) rfl (by simp [bs_length]) hrd (bs_one _) h63 hlim hs9 ?_; intro v8 w8 o8 hg8)
        rw [← bs_append] at o8
        exact ⟨⟨k + 1, (Q ++ [59]) ++ (H.map low), by omega, by go_num, Lib.hid (by rw [HSU.out, if_neg hk0, HQ.out]), by rw [List.length_append]; simpa using o8, hbB.grown hg8 hs9 (fun g hg => (o9.lt g hg).1)⟩, by simp [intOf] <;> omega⟩
  ·obtain rfl : k = n := by omega
   have v2 : ¬ ((k : Int) < (k : Int)) := by omega
   obtain ⟨A6, c6, rfl, hr6⟩ := hown.form
   have hcv := conv20w (n := Q.length) (c := c6) rfl hr6
   obtain ⟨S, hS⟩ : ∃ S, ansS Q = S := ⟨_, rfl⟩
   have HAN := Lib.hid (pAnswer20_any Q (by omega))
   have hsm := ans_small Q
   have hsd : (ansS Q).data.length ≤ 1000000 := by obtain ⟨g, d, h1, h2, _⟩ := ans_form Q; rw [h1]; simp only; omega
   have hrs := HBA.out
   rw [← HQ.out, hS] at hrs
   rw [hS] at HAN hsm hsd
   have HRE : Hid (∀ (W : World) A c, RdP W A S.params → Calls Tryd.prog 17 #[sqV S A c] W fun e w' => ∃ b o d, e = .returned (.tuple #[.slice (some ⟨b, o, none⟩) k d, .bool true]) ∧ b < w'.heap.size ∧ (∀ i (hi : i < l.length), w'.cell? ⟨b, o + i * 2, none⟩ = some (.string ⟨(nm20 l[i]).1.toArray⟩) ∧ w'.cell? ⟨b, o + i * 2 + 1, none⟩ = some (.string ⟨(nm20 l[i]).2.toArray⟩)) ∧ Below W.heap.size W w') := Lib.hid fun W A c hr => by
    refine (pRead20_any S A c W hsm.1 hsm.2 hsd hr).mono ?_
    rintro e w' ⟨hb, h⟩
    rw [hrs] at h
    obtain ⟨B, d, rfl, hr2⟩ := h
    obtain ⟨b, o, rfl, hbl, hc⟩ := hr2 (by rw [prs_len, List.length_map, HN.out]; have := HL.out; omega)
    refine ⟨b, o, d, by rw [List.length_map, HN.out], hbl, fun i hi => ?_, hb⟩
    have := prs_get (l.map nm20) i (by simpa using hi)
    rw [List.getElem_map] at this
    exact ⟨hc _ _ this.1, by have := hc _ _ this.2; rwa [← Nat.add_assoc] at this⟩
   have HBW := Lib.hid hbw
   clear hcv hown hQl hrs hsm hsd hS hlt hk hbw
   have hcv := conv20w (n := Q.length) (c := c6) rfl hr6
   clear hr6
   go_wp2_with fail
   refine (HAN.out _).mono ?_
   rintro e w7 ⟨A7, c7, rfl, hr7, hb7⟩
   have hB7 := hB.trans (hb7.mono hB.size)
   have hW7 := HBW.out.trans (hb7.mono HBW.out.size)
   clear hb7 hB hcv
   go_wp2_with fail
   refine (HRE.out _ _ _ hr7).mono ?_
   rintro e w8 ⟨b8, o8, d8, rfl, hbl8, hc8, hb8⟩
   have hB8 := hB7.trans (hb8.mono hB7.size)
   have hW8 := hW7.trans (hb8.mono hW7.size)
   have HC8 := Lib.hid hc8
   have HB8 := Lib.hid hB8
   have HW8 := Lib.hid hW8
   clear hb8 hB7 hW7 hr7 hc8 hB8 hW8
   go_wp2_with fail
   go_loopw [13] (fun z wi => ∃ i : Nat, i ≤ k ∧ z = .int .i64 i ∧ Below w8.heap.size w8 wi) (fun z _ => k - (intOf z).toNat)
   case atStart => exact ⟨0, Nat.zero_le _, rfl, Below.refl _ _⟩
   case round =>
    obtain ⟨i, hik, rfl, hbi⟩ := hrel
    have hBi := HB8.out.trans (hbi.mono HB8.out.size)
    by_cases hlt : i < k
    ·have v2 : (i : Int) < (k : Int) := by omega
     have v3 : IntKind.i64.wrap ((i : Int) + 1) = (i : Int) + 1 := by rw [IntKind.wrap_i64]; have := HL.out; omega
     have v4 : (0 : Int) ≤ (i : Int) := by omega
     have hkl : i < l.length := by rw [HN.out]; exact hlt
     obtain ⟨g0, g1⟩ := HC8.out i hkl
     obtain ⟨x, hx⟩ : ∃ x, l[i] = x := ⟨_, rfl⟩
     rw [hx] at g0 g1
     obtain ⟨b, o, rfl, hbl, hcl⟩ := (hr.below hBi) (by simp [bs]; omega)
     have hck := hcl i (.int .u8 (x.toNat : Int)) (by simp [bs, B8, hkl, hx])
     have hxl := x.toNat_lt
     have e3 : IntKind.i64.wrap (x.toNat : Int) = (x.toNat : Int) := IntWalk.i64_in _ (by omega)
     have e1 : (x.toNat : Int).tmod 12 = ((x.toNat % 12 : Nat) : Int) := by rw [Int.tmod_eq_emod_of_nonneg (by omega)]; omega
     have e4 : IntKind.i64.wrap ((x.toNat % 12 : Nat) : Int) = ((x.toNat % 12 : Nat) : Int) := IntWalk.i64_in _ (by omega)
     obtain ⟨m, hm⟩ : ∃ m, x.toNat % 12 = m := ⟨_, rfl⟩
     have hm12 : (m : Int) < 12 := by omega
     have hm0 : (0 : Int) ≤ (m : Int) := by omega
     have hcm := ((HW8.out.trans (hbi.mono HW8.out.size)).cell (p := ⟨b2, o2 + m, none⟩) hl2).trans (hcell m _ (hm ▸ nm_get x))
     rw [hm] at e1 e4
     have hkn := names_know _ (nm_mem x)
     have HLO := Lib.hid (pLook20_any (nm20 x).1 (by have := hkn.2.2.1; simp only [maxLen]; omega))
     have hcv : capV (nm20 x).1 = (nm20 x).2 := by unfold capV; rw [hkn.1]; rfl
     rw [hcv, hkn.1] at HLO
     obtain ⟨N, hN⟩ : ∃ N, (nm20 x).1 = N := ⟨_, rfl⟩
     obtain ⟨V, hV⟩ : ∃ V, (nm20 x).2 = V := ⟨_, rfl⟩
     rw [hN] at hcm HLO g0
     rw [hV] at HLO g1
     clear hcl hx hxl hm hN hV hkn hcv
     go_wp2_with fail
     refine (HLO.out _).mono ?_
     rintro e w9 ⟨rfl, hb9⟩
     have hbj := hbi.trans (hb9.mono hbi.size)
     have f0 := (hbj.cell (p := ⟨b8, o8 + i * 2, none⟩) hbl8).trans g0
     have f1 := (hbj.cell (p := ⟨b8, o8 + i * 2 + 1, none⟩) hbl8).trans g1
     clear hb9 hbi hck hcm g0 g1 e1 e3 e4
     go_wp2_with fail
     exact ⟨⟨i + 1, by omega, by go_num, hbj⟩, by simp [intOf] <;> omega⟩
    ·have v2 : ¬ ((i : Int) < (k : Int)) := by omega
     go_wp2_with fail
     go_ret
     exact ⟨rfl, hBi⟩
end Go.Proofs.YtkkjahhilcjpgaaDoor
