/-
  Layer 3, walked: a sequence's body, the document's.
-/
import Derived.Test.YtfifeofmfpjgfaaDoorG11
import Derived.Test.YtfifeofmfpjgfaaDoorG13
import Derived.Test.YtfifeofmfpjgfaaDoorG14
namespace Go.Proofs.YtfifeofmfpjgfaaDoor
open Go.RowKit
set_option maxRecDepth 100000 in
set_option maxHeartbeats 4000000 in
theorem body_any (s : Sq) (A : Option Addr) (c : Nat) (w : World) (hp : parOk s.params = true) (hi : s.inter.length ≤ 4294967296) (hr : RdP w A s.params) :
 Calls Tryd.prog 45 #[sqV s A c] w fun e w' => e = .returned (.string ⟨(bodyL s).toArray⟩) ∧ Below w.heap.size w w' := by
 obtain ⟨hl16, hl8⟩ := parOk_lens hp
 have hB : Below w.heap.size w (w.alloc (.cells #[.int .i64 s.kind, .int .u8 (s.priv.toNat : Int), .slice A s.params.length c, .string ⟨s.inter.toArray⟩, .int .u8 (s.final.toNat : Int), .string ⟨s.data.toArray⟩] 30)) := (Below.refl _ _).alloc (Nat.le_refl _) _
 have HB := Lib.hid (show bodyL s = privL s.priv ++ parL s.params ++ s.inter from rfl)
 obtain ⟨bd, hbd⟩ : ∃ b, bodyL s = b := ⟨_, rfl⟩
 rw [hbd]
 have HBD := Lib.hid hbd
 clear hbd
 by_cases h0 : s.priv = 0
 ·have HV := Lib.hid (show privL s.priv = [] from if_pos h0)
  have t1 : ((s.priv.toNat : Int) == 0) = true := by rw [h0]; rfl
  have t2 : ((s.priv.toNat : Int) != 0) = false := by rw [h0]; rfl
  clear h0
  unfold sqV
  go_enter Tryd.func45, Tryd.ntmps45
  go_wp2_with fail
  obtain ⟨W1, hW1⟩ : ∃ W1, W1 = w.alloc (.cells #[.int .i64 s.kind, .int .u8 (s.priv.toNat : Int), .slice A s.params.length c, .string ⟨s.inter.toArray⟩, .int .u8 (s.final.toNat : Int), .string ⟨s.data.toArray⟩] 30) := ⟨_, rfl⟩
  have hcell : ∀ i, W1.cell? ⟨w.heap.size, i, none⟩ = (#[.int .i64 s.kind, .int .u8 (s.priv.toNat : Int), .slice A s.params.length c, .string ⟨s.inter.toArray⟩, .int .u8 (s.final.toNat : Int), .string ⟨s.data.toArray⟩] : Array Value)[i]? := fun i => by
   rw [hW1]; exact cell_of_row _ _ _ _ _ _ (heap_alloc_new w _)
  have c2 : W1.cell? ⟨w.heap.size, 2, none⟩ = some (.slice A s.params.length c) := hcell 2
  have c3 : W1.cell? ⟨w.heap.size, 3, none⟩ = some (.string ⟨s.inter.toArray⟩) := hcell 3
  have hs1 : w.heap.size < W1.heap.size := by rw [hW1]; simp
  have hr1 : RdP W1 A s.params := by rw [hW1]; exact hr.alloc _
  rw [← hW1] at hB
  clear hcell hr
  rw [← hW1]
  clear hW1
  go_loopw [3, 4] (fun t i wr => ∃ (k : Nat) (L : List UInt8), k ≤ s.params.length ∧ i = .int .i64 k ∧ t = .string ⟨L.toArray⟩ ∧ L = ([] : List UInt8) ++ parL (s.params.take k) ∧ Below W1.heap.size W1 wr) (fun _ i _ => s.params.length - (intOf i).toNat)
  case atStart => exact ⟨0, _, Nat.zero_le _, rfl, rfl, by simp [parL], Below.refl _ _⟩
  case round =>
   obtain ⟨k, L, hk, rfl, rfl, hL, hbw⟩ := hrel
   have HL := Lib.hid hL
   have hLl : L.length ≤ 3000 := by
    rw [hL, List.length_append]
    have := parL_len (s.params.take k) (fun p hp => hl8 p (List.mem_of_mem_take hp))
    have h2 : (s.params.take k).length ≤ 16 := Nat.le_trans (List.length_take_le' _ _) hl16
    have h3 : (([] : List UInt8) : List UInt8).length ≤ 1 := by simp
    omega
   clear hL
   have d2 := (hbw.cell (p := ⟨w.heap.size, 2, none⟩) hs1).trans c2
   have d3 := (hbw.cell (p := ⟨w.heap.size, 3, none⟩) hs1).trans c3
   by_cases hlt : k < s.params.length
   ·obtain ⟨b, o, hA, hb, hcc⟩ := hr1 (by omega)
    cases hA
    obtain ⟨A', c', hck, hrk⟩ := hcc k hlt
    obtain ⟨n, hn⟩ : ∃ n, (s.params[k]'hlt).length = n := ⟨_, rfl⟩
    rw [hn] at hck
    have hl8k := hl8 _ (List.getElem_mem hlt)
    have hn8 : n ≤ 8 := hn ▸ hl8k.1
    have HN := Lib.hid hn
    have HP := Lib.hid (hl8k.2)
    clear hn hcc hl8k
    have dk := (hbw.cell (p := ⟨b, o + k, none⟩) hb).trans hck
    have hbs : b < wr.heap.size := Nat.lt_of_lt_of_le hb hbw.size
    by_cases hk0 : k = 0
    ·have hk1 : ¬ 0 < k := by omega
     obtain ⟨L0, hL0⟩ : ∃ L0, L ++ [] = L0 := ⟨_, rfl⟩
     rw [List.append_nil] at hL0
     subst hL0
     have HT := Lib.hid (show ([] : List UInt8) ++ parL (s.params.take (k + 1)) = L ++ partL (s.params[k]'hlt) by rw [parL_take hlt, HL.out, if_pos hk0, List.append_nil, ← List.append_assoc])
     have hLl2 : L.length ≤ 3001 := by omega
     clear hk0
     go_wp2_with fail
     go_loopw [3, 5] (fun t i wr2 => ∃ (j : Nat) (M : List UInt8), j ≤ n ∧ i = .int .i64 j ∧ t = .string ⟨M.toArray⟩ ∧ M = L ++ partL ((s.params[k]'hlt).take j) ∧ Below W1.heap.size W1 wr2) (fun _ i _ => n - (intOf i).toNat)
     case atStart => exact ⟨0, _, Nat.zero_le _, rfl, rfl, by simp [partL], hbw⟩
     case round =>
      obtain ⟨j, M, hj, rfl, rfl, hM, hbw2⟩ := hrel
      have HM := Lib.hid hM
      have hMl : M.length ≤ 4000 := by
       rw [hM, List.length_append]
       have := partL_len ((s.params[k]'hlt).take j) (fun x hx => HP.out x (List.mem_of_mem_take hx))
       have h2 : ((s.params[k]'hlt).take j).length ≤ 8 := by rw [List.length_take, HN.out]; omega
       omega
      clear hM
      have e2 := (hbw2.cell (p := ⟨w.heap.size, 2, none⟩) hs1).trans c2
      have ek := (hbw2.cell (p := ⟨b, o + k, none⟩) hb).trans hck
      have hbs2 : b < wr.heap.size := Nat.lt_of_lt_of_le hb hbw2.size
      have hws2 : w.heap.size < wr.heap.size := Nat.lt_of_lt_of_le hs1 hbw2.size
      clear d2 d3 dk
      by_cases hjl : j < n
      ·have hjl2 : j < (s.params[k]'hlt).length := by rw [HN.out]; exact hjl
       obtain ⟨b2, o2, rfl, hb2, hc2⟩ := hrk.int_at (by omega)
       obtain ⟨x, hx⟩ : ∃ x, (s.params[k]'hlt)[j]'hjl2 = x := ⟨_, rfl⟩
       have hcj := (hbw2.cell (p := ⟨b2, o2 + j, none⟩) hb2).trans (hc2 j hjl2)
       rw [hx] at hcj
       have hx0 := HP.out _ (List.getElem_mem hjl2)
       rw [hx] at hx0
       obtain ⟨hx1, hx2⟩ := hx0
       have HX := Lib.hid hx
       have hbs3 : b2 < wr.heap.size := Nat.lt_of_lt_of_le hb2 hbw2.size
       clear hc2 hx
       have hxl := textL_length x (by omega)
       by_cases hj0 : j = 0
       ·have hj1 : ¬ 0 < j := by omega
        have eT := str_cat M (textL x) _ rfl
        have HR := Lib.hid (show M ++ textL x = L ++ partL ((s.params[k]'hlt).take (j + 1)) by rw [partL_take hjl2, HM.out, if_pos hj0, List.append_nil, HX.out, ← List.append_assoc])
        clear hj0
        go_wp2_with fail
        refine (rtext_any (x.toNat + 1) x _ (by omega) (by omega) (by omega)).mono ?_
        rintro e w' ⟨rfl, hb'⟩
        go_wp2
        go_round
        case rel => exact ⟨j + 1, _, by omega, by go_num, rfl, HR.out, hbw2.trans (hb'.mono hbw2.size)⟩
        case measure => simp [intOf]; omega
       ·have hj1 : 0 < j := by omega
        have eC : (⟨M.toArray⟩ : ByteArray) ++ (⟨#[58]⟩ : ByteArray) = ⟨(M ++ ([58] : List UInt8)).toArray⟩ := str_cat M [58] _ rfl
        have eT := str_cat (M ++ ([58] : List UInt8)) (textL x) _ rfl
        have HR := Lib.hid (show M ++ ([58] : List UInt8) ++ textL x = L ++ partL ((s.params[k]'hlt).take (j + 1)) by rw [partL_take hjl2, HM.out, if_neg hj0, HX.out, ← List.append_assoc, ← List.append_assoc])
        go_wp2_with fail
        refine (rtext_any (x.toNat + 1) x _ (by omega) (by omega) (by omega)).mono ?_
        rintro e w' ⟨rfl, hb'⟩
        go_wp2
        go_round
        case rel => exact ⟨j + 1, _, by omega, by go_num, rfl, (by rw [← HR.out]; simp), hbw2.trans (hb'.mono hbw2.size)⟩
        case measure => simp [intOf]; omega
      ·have hjn : j = n := by omega
       have HR := Lib.hid (show M = ([] : List UInt8) ++ parL (s.params.take (k + 1)) by rw [HT.out, HM.out, List.take_of_length_le (by rw [HN.out]; omega)])
       clear hjn
       go_wp2
       go_round
       case rel => exact ⟨k + 1, _, by omega, by go_num, rfl, HR.out, hbw2⟩
       case measure => simp [intOf]; omega
    ·have hk1 : 0 < k := by omega
     have eS : (⟨L.toArray⟩ : ByteArray) ++ (⟨#[59]⟩ : ByteArray) = ⟨(L ++ [59]).toArray⟩ := str_cat L [59] _ rfl
     obtain ⟨L0, hL0⟩ : ∃ L0, L ++ [59] = L0 := ⟨_, rfl⟩
     rw [hL0] at eS
     have HT := Lib.hid (show ([] : List UInt8) ++ parL (s.params.take (k + 1)) = L0 ++ partL (s.params[k]'hlt) by rw [parL_take hlt, ← hL0, HL.out, if_neg hk0, ← List.append_assoc, ← List.append_assoc])
     have hLl2 : L0.length ≤ 3001 := by rw [← hL0, List.length_append, List.length_singleton]; omega
     clear hL0
     go_wp2_with fail
     go_loopw [3, 5] (fun t i wr2 => ∃ (j : Nat) (M : List UInt8), j ≤ n ∧ i = .int .i64 j ∧ t = .string ⟨M.toArray⟩ ∧ M = L0 ++ partL ((s.params[k]'hlt).take j) ∧ Below W1.heap.size W1 wr2) (fun _ i _ => n - (intOf i).toNat)
     case atStart => exact ⟨0, _, Nat.zero_le _, rfl, rfl, by simp [partL], hbw⟩
     case round =>
      obtain ⟨j, M, hj, rfl, rfl, hM, hbw2⟩ := hrel
      have HM := Lib.hid hM
      have hMl : M.length ≤ 4000 := by
       rw [hM, List.length_append]
       have := partL_len ((s.params[k]'hlt).take j) (fun x hx => HP.out x (List.mem_of_mem_take hx))
       have h2 : ((s.params[k]'hlt).take j).length ≤ 8 := by rw [List.length_take, HN.out]; omega
       omega
      clear hM
      have e2 := (hbw2.cell (p := ⟨w.heap.size, 2, none⟩) hs1).trans c2
      have ek := (hbw2.cell (p := ⟨b, o + k, none⟩) hb).trans hck
      have hbs2 : b < wr.heap.size := Nat.lt_of_lt_of_le hb hbw2.size
      have hws2 : w.heap.size < wr.heap.size := Nat.lt_of_lt_of_le hs1 hbw2.size
      clear d2 d3 dk
      by_cases hjl : j < n
      ·have hjl2 : j < (s.params[k]'hlt).length := by rw [HN.out]; exact hjl
       obtain ⟨b2, o2, rfl, hb2, hc2⟩ := hrk.int_at (by omega)
       obtain ⟨x, hx⟩ : ∃ x, (s.params[k]'hlt)[j]'hjl2 = x := ⟨_, rfl⟩
       have hcj := (hbw2.cell (p := ⟨b2, o2 + j, none⟩) hb2).trans (hc2 j hjl2)
       rw [hx] at hcj
       have hx0 := HP.out _ (List.getElem_mem hjl2)
       rw [hx] at hx0
       obtain ⟨hx1, hx2⟩ := hx0
       have HX := Lib.hid hx
       have hbs3 : b2 < wr.heap.size := Nat.lt_of_lt_of_le hb2 hbw2.size
       clear hc2 hx
       have hxl := textL_length x (by omega)
       by_cases hj0 : j = 0
       ·have hj1 : ¬ 0 < j := by omega
        have eT := str_cat M (textL x) _ rfl
        have HR := Lib.hid (show M ++ textL x = L0 ++ partL ((s.params[k]'hlt).take (j + 1)) by rw [partL_take hjl2, HM.out, if_pos hj0, List.append_nil, HX.out, ← List.append_assoc])
        clear hj0
        go_wp2_with fail
        refine (rtext_any (x.toNat + 1) x _ (by omega) (by omega) (by omega)).mono ?_
        rintro e w' ⟨rfl, hb'⟩
        go_wp2
        go_round
        case rel => exact ⟨j + 1, _, by omega, by go_num, rfl, HR.out, hbw2.trans (hb'.mono hbw2.size)⟩
        case measure => simp [intOf]; omega
       ·have hj1 : 0 < j := by omega
        have eC : (⟨M.toArray⟩ : ByteArray) ++ (⟨#[58]⟩ : ByteArray) = ⟨(M ++ ([58] : List UInt8)).toArray⟩ := str_cat M [58] _ rfl
        have eT := str_cat (M ++ ([58] : List UInt8)) (textL x) _ rfl
        have HR := Lib.hid (show M ++ ([58] : List UInt8) ++ textL x = L0 ++ partL ((s.params[k]'hlt).take (j + 1)) by rw [partL_take hjl2, HM.out, if_neg hj0, HX.out, ← List.append_assoc, ← List.append_assoc])
        go_wp2_with fail
        refine (rtext_any (x.toNat + 1) x _ (by omega) (by omega) (by omega)).mono ?_
        rintro e w' ⟨rfl, hb'⟩
        go_wp2
        go_round
        case rel => exact ⟨j + 1, _, by omega, by go_num, rfl, (by rw [← HR.out]; simp), hbw2.trans (hb'.mono hbw2.size)⟩
        case measure => simp [intOf]; omega
      ·have hjn : j = n := by omega
       have HR := Lib.hid (show M = ([] : List UInt8) ++ parL (s.params.take (k + 1)) by rw [HT.out, HM.out, List.take_of_length_le (by rw [HN.out]; omega)])
       clear hjn
       go_wp2
       go_round
       case rel => exact ⟨k + 1, _, by omega, by go_num, rfl, HR.out, hbw2⟩
       case measure => simp [intOf]; omega
   ·have eF := str_cat L s.inter _ rfl
    have HR := Lib.hid (show bd = L ++ s.inter by rw [← HBD.out, HB.out, HV.out, HL.out, List.take_of_length_le (by omega)])
    have hLi : L.length + s.inter.length ≤ 4294970296 := by omega
    go_wp2
    go_ret
    exact ⟨ret_s HR.out.symm, hB.trans (hbw.mono (by omega))⟩
 ·have HV := Lib.hid (show privL s.priv = [s.priv] from if_neg h0)
  have hn : s.priv.toNat ≠ 0 := fun e => h0 (UInt8.toNat_inj.1 e)
  have t1 : ((s.priv.toNat : Int) == 0) = false := beq_false_of_ne (by omega)
  have t2 : ((s.priv.toNat : Int) != 0) = true := by simp [bne, t1]
  have hcv := conv_one (P := Tryd.prog) Tryd.underlying48 Tryd.underlying5 Tryd.underlying9 (s.priv.toNat : Int) (by omega) (by have := s.priv.toNat_lt; omega)
  clear h0
  unfold sqV
  go_enter Tryd.func45, Tryd.ntmps45
  go_wp2_with fail
  obtain ⟨W1, hW1⟩ : ∃ W1, W1 = w.alloc (.cells #[.int .i64 s.kind, .int .u8 (s.priv.toNat : Int), .slice A s.params.length c, .string ⟨s.inter.toArray⟩, .int .u8 (s.final.toNat : Int), .string ⟨s.data.toArray⟩] 30) := ⟨_, rfl⟩
  have hcell : ∀ i, W1.cell? ⟨w.heap.size, i, none⟩ = (#[.int .i64 s.kind, .int .u8 (s.priv.toNat : Int), .slice A s.params.length c, .string ⟨s.inter.toArray⟩, .int .u8 (s.final.toNat : Int), .string ⟨s.data.toArray⟩] : Array Value)[i]? := fun i => by
   rw [hW1]; exact cell_of_row _ _ _ _ _ _ (heap_alloc_new w _)
  have c2 : W1.cell? ⟨w.heap.size, 2, none⟩ = some (.slice A s.params.length c) := hcell 2
  have c3 : W1.cell? ⟨w.heap.size, 3, none⟩ = some (.string ⟨s.inter.toArray⟩) := hcell 3
  have hs1 : w.heap.size < W1.heap.size := by rw [hW1]; simp
  have hr1 : RdP W1 A s.params := by rw [hW1]; exact hr.alloc _
  rw [← hW1] at hB
  clear hcell hr
  rw [← hW1]
  clear hW1
  go_loopw [3, 4] (fun t i wr => ∃ (k : Nat) (L : List UInt8), k ≤ s.params.length ∧ i = .int .i64 k ∧ t = .string ⟨L.toArray⟩ ∧ L = [s.priv] ++ parL (s.params.take k) ∧ Below W1.heap.size W1 wr) (fun _ i _ => s.params.length - (intOf i).toNat)
  case atStart => exact ⟨0, _, Nat.zero_le _, rfl, rfl, by simp [parL], (Below.refl _ _).alloc (Nat.le_refl _) _⟩
  case round =>
   obtain ⟨k, L, hk, rfl, rfl, hL, hbw⟩ := hrel
   have HL := Lib.hid hL
   have hLl : L.length ≤ 3000 := by
    rw [hL, List.length_append]
    have := parL_len (s.params.take k) (fun p hp => hl8 p (List.mem_of_mem_take hp))
    have h2 : (s.params.take k).length ≤ 16 := Nat.le_trans (List.length_take_le' _ _) hl16
    have h3 : ([s.priv] : List UInt8).length ≤ 1 := by simp
    omega
   clear hL
   have d2 := (hbw.cell (p := ⟨w.heap.size, 2, none⟩) hs1).trans c2
   have d3 := (hbw.cell (p := ⟨w.heap.size, 3, none⟩) hs1).trans c3
   by_cases hlt : k < s.params.length
   ·obtain ⟨b, o, hA, hb, hcc⟩ := hr1 (by omega)
    cases hA
    obtain ⟨A', c', hck, hrk⟩ := hcc k hlt
    obtain ⟨n, hn⟩ : ∃ n, (s.params[k]'hlt).length = n := ⟨_, rfl⟩
    rw [hn] at hck
    have hl8k := hl8 _ (List.getElem_mem hlt)
    have hn8 : n ≤ 8 := hn ▸ hl8k.1
    have HN := Lib.hid hn
    have HP := Lib.hid (hl8k.2)
    clear hn hcc hl8k
    have dk := (hbw.cell (p := ⟨b, o + k, none⟩) hb).trans hck
    have hbs : b < wr.heap.size := Nat.lt_of_lt_of_le hb hbw.size
    by_cases hk0 : k = 0
    ·have hk1 : ¬ 0 < k := by omega
     obtain ⟨L0, hL0⟩ : ∃ L0, L ++ [] = L0 := ⟨_, rfl⟩
     rw [List.append_nil] at hL0
     subst hL0
     have HT := Lib.hid (show [s.priv] ++ parL (s.params.take (k + 1)) = L ++ partL (s.params[k]'hlt) by rw [parL_take hlt, HL.out, if_pos hk0, List.append_nil, ← List.append_assoc])
     have hLl2 : L.length ≤ 3001 := by omega
     clear hk0
     go_wp2_with fail
     go_loopw [3, 5] (fun t i wr2 => ∃ (j : Nat) (M : List UInt8), j ≤ n ∧ i = .int .i64 j ∧ t = .string ⟨M.toArray⟩ ∧ M = L ++ partL ((s.params[k]'hlt).take j) ∧ Below W1.heap.size W1 wr2) (fun _ i _ => n - (intOf i).toNat)
     case atStart => exact ⟨0, _, Nat.zero_le _, rfl, rfl, by simp [partL], hbw⟩
     case round =>
      obtain ⟨j, M, hj, rfl, rfl, hM, hbw2⟩ := hrel
      have HM := Lib.hid hM
      have hMl : M.length ≤ 4000 := by
       rw [hM, List.length_append]
       have := partL_len ((s.params[k]'hlt).take j) (fun x hx => HP.out x (List.mem_of_mem_take hx))
       have h2 : ((s.params[k]'hlt).take j).length ≤ 8 := by rw [List.length_take, HN.out]; omega
       omega
      clear hM
      have e2 := (hbw2.cell (p := ⟨w.heap.size, 2, none⟩) hs1).trans c2
      have ek := (hbw2.cell (p := ⟨b, o + k, none⟩) hb).trans hck
      have hbs2 : b < wr.heap.size := Nat.lt_of_lt_of_le hb hbw2.size
      have hws2 : w.heap.size < wr.heap.size := Nat.lt_of_lt_of_le hs1 hbw2.size
      clear d2 d3 dk
      by_cases hjl : j < n
      ·have hjl2 : j < (s.params[k]'hlt).length := by rw [HN.out]; exact hjl
       obtain ⟨b2, o2, rfl, hb2, hc2⟩ := hrk.int_at (by omega)
       obtain ⟨x, hx⟩ : ∃ x, (s.params[k]'hlt)[j]'hjl2 = x := ⟨_, rfl⟩
       have hcj := (hbw2.cell (p := ⟨b2, o2 + j, none⟩) hb2).trans (hc2 j hjl2)
       rw [hx] at hcj
       have hx0 := HP.out _ (List.getElem_mem hjl2)
       rw [hx] at hx0
       obtain ⟨hx1, hx2⟩ := hx0
       have HX := Lib.hid hx
       have hbs3 : b2 < wr.heap.size := Nat.lt_of_lt_of_le hb2 hbw2.size
       clear hc2 hx
       have hxl := textL_length x (by omega)
       by_cases hj0 : j = 0
       ·have hj1 : ¬ 0 < j := by omega
        have eT := str_cat M (textL x) _ rfl
        have HR := Lib.hid (show M ++ textL x = L ++ partL ((s.params[k]'hlt).take (j + 1)) by rw [partL_take hjl2, HM.out, if_pos hj0, List.append_nil, HX.out, ← List.append_assoc])
        clear hj0
        go_wp2_with fail
        refine (rtext_any (x.toNat + 1) x _ (by omega) (by omega) (by omega)).mono ?_
        rintro e w' ⟨rfl, hb'⟩
        go_wp2
        go_round
        case rel => exact ⟨j + 1, _, by omega, by go_num, rfl, HR.out, hbw2.trans (hb'.mono hbw2.size)⟩
        case measure => simp [intOf]; omega
       ·have hj1 : 0 < j := by omega
        have eC : (⟨M.toArray⟩ : ByteArray) ++ (⟨#[58]⟩ : ByteArray) = ⟨(M ++ ([58] : List UInt8)).toArray⟩ := str_cat M [58] _ rfl
        have eT := str_cat (M ++ ([58] : List UInt8)) (textL x) _ rfl
        have HR := Lib.hid (show M ++ ([58] : List UInt8) ++ textL x = L ++ partL ((s.params[k]'hlt).take (j + 1)) by rw [partL_take hjl2, HM.out, if_neg hj0, HX.out, ← List.append_assoc, ← List.append_assoc])
        go_wp2_with fail
        refine (rtext_any (x.toNat + 1) x _ (by omega) (by omega) (by omega)).mono ?_
        rintro e w' ⟨rfl, hb'⟩
        go_wp2
        go_round
        case rel => exact ⟨j + 1, _, by omega, by go_num, rfl, (by rw [← HR.out]; simp), hbw2.trans (hb'.mono hbw2.size)⟩
        case measure => simp [intOf]; omega
      ·have hjn : j = n := by omega
       have HR := Lib.hid (show M = [s.priv] ++ parL (s.params.take (k + 1)) by rw [HT.out, HM.out, List.take_of_length_le (by rw [HN.out]; omega)])
       clear hjn
       go_wp2
       go_round
       case rel => exact ⟨k + 1, _, by omega, by go_num, rfl, HR.out, hbw2⟩
       case measure => simp [intOf]; omega
    ·have hk1 : 0 < k := by omega
     have eS : (⟨L.toArray⟩ : ByteArray) ++ (⟨#[59]⟩ : ByteArray) = ⟨(L ++ [59]).toArray⟩ := str_cat L [59] _ rfl
     obtain ⟨L0, hL0⟩ : ∃ L0, L ++ [59] = L0 := ⟨_, rfl⟩
     rw [hL0] at eS
     have HT := Lib.hid (show [s.priv] ++ parL (s.params.take (k + 1)) = L0 ++ partL (s.params[k]'hlt) by rw [parL_take hlt, ← hL0, HL.out, if_neg hk0, ← List.append_assoc, ← List.append_assoc])
     have hLl2 : L0.length ≤ 3001 := by rw [← hL0, List.length_append, List.length_singleton]; omega
     clear hL0
     go_wp2_with fail
     go_loopw [3, 5] (fun t i wr2 => ∃ (j : Nat) (M : List UInt8), j ≤ n ∧ i = .int .i64 j ∧ t = .string ⟨M.toArray⟩ ∧ M = L0 ++ partL ((s.params[k]'hlt).take j) ∧ Below W1.heap.size W1 wr2) (fun _ i _ => n - (intOf i).toNat)
     case atStart => exact ⟨0, _, Nat.zero_le _, rfl, rfl, by simp [partL], hbw⟩
     case round =>
      obtain ⟨j, M, hj, rfl, rfl, hM, hbw2⟩ := hrel
      have HM := Lib.hid hM
      have hMl : M.length ≤ 4000 := by
       rw [hM, List.length_append]
       have := partL_len ((s.params[k]'hlt).take j) (fun x hx => HP.out x (List.mem_of_mem_take hx))
       have h2 : ((s.params[k]'hlt).take j).length ≤ 8 := by rw [List.length_take, HN.out]; omega
       omega
      clear hM
      have e2 := (hbw2.cell (p := ⟨w.heap.size, 2, none⟩) hs1).trans c2
      have ek := (hbw2.cell (p := ⟨b, o + k, none⟩) hb).trans hck
      have hbs2 : b < wr.heap.size := Nat.lt_of_lt_of_le hb hbw2.size
      have hws2 : w.heap.size < wr.heap.size := Nat.lt_of_lt_of_le hs1 hbw2.size
      clear d2 d3 dk
      by_cases hjl : j < n
      ·have hjl2 : j < (s.params[k]'hlt).length := by rw [HN.out]; exact hjl
       obtain ⟨b2, o2, rfl, hb2, hc2⟩ := hrk.int_at (by omega)
       obtain ⟨x, hx⟩ : ∃ x, (s.params[k]'hlt)[j]'hjl2 = x := ⟨_, rfl⟩
       have hcj := (hbw2.cell (p := ⟨b2, o2 + j, none⟩) hb2).trans (hc2 j hjl2)
       rw [hx] at hcj
       have hx0 := HP.out _ (List.getElem_mem hjl2)
       rw [hx] at hx0
       obtain ⟨hx1, hx2⟩ := hx0
       have HX := Lib.hid hx
       have hbs3 : b2 < wr.heap.size := Nat.lt_of_lt_of_le hb2 hbw2.size
       clear hc2 hx
       have hxl := textL_length x (by omega)
       by_cases hj0 : j = 0
       ·have hj1 : ¬ 0 < j := by omega
        have eT := str_cat M (textL x) _ rfl
        have HR := Lib.hid (show M ++ textL x = L0 ++ partL ((s.params[k]'hlt).take (j + 1)) by rw [partL_take hjl2, HM.out, if_pos hj0, List.append_nil, HX.out, ← List.append_assoc])
        clear hj0
        go_wp2_with fail
        refine (rtext_any (x.toNat + 1) x _ (by omega) (by omega) (by omega)).mono ?_
        rintro e w' ⟨rfl, hb'⟩
        go_wp2
        go_round
        case rel => exact ⟨j + 1, _, by omega, by go_num, rfl, HR.out, hbw2.trans (hb'.mono hbw2.size)⟩
        case measure => simp [intOf]; omega
       ·have hj1 : 0 < j := by omega
        have eC : (⟨M.toArray⟩ : ByteArray) ++ (⟨#[58]⟩ : ByteArray) = ⟨(M ++ ([58] : List UInt8)).toArray⟩ := str_cat M [58] _ rfl
        have eT := str_cat (M ++ ([58] : List UInt8)) (textL x) _ rfl
        have HR := Lib.hid (show M ++ ([58] : List UInt8) ++ textL x = L0 ++ partL ((s.params[k]'hlt).take (j + 1)) by rw [partL_take hjl2, HM.out, if_neg hj0, HX.out, ← List.append_assoc, ← List.append_assoc])
        go_wp2_with fail
        refine (rtext_any (x.toNat + 1) x _ (by omega) (by omega) (by omega)).mono ?_
        rintro e w' ⟨rfl, hb'⟩
        go_wp2
        go_round
        case rel => exact ⟨j + 1, _, by omega, by go_num, rfl, (by rw [← HR.out]; simp), hbw2.trans (hb'.mono hbw2.size)⟩
        case measure => simp [intOf]; omega
      ·have hjn : j = n := by omega
       have HR := Lib.hid (show M = [s.priv] ++ parL (s.params.take (k + 1)) by rw [HT.out, HM.out, List.take_of_length_le (by rw [HN.out]; omega)])
       clear hjn
       go_wp2
       go_round
       case rel => exact ⟨k + 1, _, by omega, by go_num, rfl, HR.out, hbw2⟩
       case measure => simp [intOf]; omega
   ·have eF := str_cat L s.inter _ rfl
    have HR := Lib.hid (show bd = L ++ s.inter by rw [← HBD.out, HB.out, HV.out, HL.out, List.take_of_length_le (by omega)])
    have hLi : L.length + s.inter.length ≤ 4294970296 := by omega
    go_wp2
    go_ret
    exact ⟨ret_s HR.out.symm, hB.trans (hbw.mono (by omega))⟩
end Go.Proofs.YtfifeofmfpjgfaaDoor
