/-
  Layer 4, walked: Drain.
-/
import Derived.Test.YthilpfgmbikhfaaQuP
import Derived.OwnWalk
import Derived.Deep.RegionLaw
namespace Go.Proofs.Ythilpfgmbikhfaa
open Go.RowKit

/-- What Drain tells (k bytes), and what waits then. -/
def DrainE (S : Nat → Prop) (g room base k : Nat) (l : List UInt8) (d : Nat) (w : World) (e : Ending) (w' : World) : Prop :=
  (∃ A c, e = .returned (.slice A k c) ∧ Own w' w.heap.size 5 1 (.slice A k c) k (bs (l.take k))) ∧ (∃ v', QB w' S g room base v' (l.drop k) d) ∧ Fr w w' S
/-- How many bytes are drained. -/
def drainK (n : Int) (l : List UInt8) : Nat := min n.toNat l.length
theorem drainK_le (n : Int) (l : List UInt8) : drainK n l ≤ l.length := Nat.min_le_right _ _

section
variable {w : World} {S : Nat → Prop} {g room base : Nat} {v : Value} {l : List UInt8} {d : Nat}
theorem drain_nil (n : Int) (w : World) : Calls Try.prog 15 #[.pointer none, .int .i64 n] w fun e w' => e = .returned (.slice none 0 0) ∧ w = w' := by
  go_enter Try.func15, Try.ntmps15
  go_wp2
  go_ret
  exact ⟨rfl, rfl⟩
theorem drain_less (h : QB w S g room base v l d) (n : Int) (hn : n < 1) : Calls Try.prog 15 #[.pointer (some ⟨g, 0, none⟩), .int .i64 n] w (DrainE S g room base 0 l d w) := by
  have t1 : decide (n < 1) = true := by simpa using hn
  have H : DrainE S g room base 0 l d w (.returned (.slice none 0 0)) w := ⟨⟨none, 0, rfl, Own.nil_ _ _ _ _⟩, ⟨v, h⟩, Fr.refl _ _⟩
  have HH := Lib.hid H
  clear h H
  go_enter Try.func15, Try.ntmps15
  go_wp2
  go_ret
  exact HH.out

theorem own_len (A : Option Addr) (m n c d : Nat) : (Value.slice A m c).ownBlock = (Value.slice A n d).ownBlock := by cases A <;> rfl
theorem copy_all {l : List UInt8} {K : Nat} (zs : List Value) (hk : K ≤ l.length) (hz : zs.length = K) : (bs (l.take K)).take K ++ zs.drop K = bs (l.take K) := by
  rw [List.drop_of_length_le (by omega), List.append_nil, List.take_of_length_le (by rw [bs_length, List.length_take]; omega)]
theorem copy_front {l : List UInt8} {m K L : Nat} (hm : l.length = m) (hk : K ≤ m) (hL : m - K = L) : ((bs (l.drop K)).take m ++ (bs l).drop L).take L = bs (l.drop K) := by
  have h1 : (bs (l.drop K)).length = L := by rw [bs_length, List.length_drop]; omega
  rw [List.take_of_length_le (show (bs (l.drop K)).length ≤ m by omega), List.take_left' h1]

set_option maxRecDepth 100000 in
set_option maxHeartbeats 8000000 in
theorem drain_pos (h : QB w S g room base v l d) (n K : Nat) (hn : 1 ≤ n) (hn2 : n ≤ 9223372036854775807) (hK : min n l.length = K) :
    Calls Try.prog 15 #[.pointer (some ⟨g, 0, none⟩), .int .i64 (n : Int)] w (DrainE S g room base K l d w) := by
  obtain ⟨i0, hi, hz0, hz1, hz2⟩ := u8_parts
  have hsz1 : (Try.prog.info? 5).map (·.size) = some 1 := by rw [hi, Option.map_some, hz1]
  have hso : ∀ w, (sizeOf 5).run Try.prog w = .ok 1 w := fun w => by simp [sizeOf, typeInfo, hi, hz1, Result.andThen]
  obtain ⟨c0, c1, c2⟩ := h.cells
  obtain ⟨A0, cv, rfl, hf⟩ := h.row.form
  clear hf
  obtain ⟨hmc, hcm⟩ := h.row.cap
  have hhead := h.row.head
  have hfit := h.fit
  have hroom := h.room_
  have hown := h.row
  have hbox := h.box
  obtain ⟨m, hm⟩ : ∃ m, l.length = m := ⟨_, rfl⟩
  rw [hm] at c1 hmc hfit hown hbox hK
  have hKm : K ≤ m := by omega
  have hKn : K ≤ n := by omega
  obtain ⟨L, hL⟩ : ∃ L, m - K = L := ⟨_, rfl⟩
  have hmin : ∀ (ts : Array TypeId) (t : TypeId) (W : World), (Builtin.min_ ts t #[.int .i64 (n : Int), .int .i64 (m : Int)]).run Try.prog W = .ok (.int .i64 (K : Int)) W := fun ts t W => by
    rw [run_min_int2]
    congr 2
    split <;> omega
  have hcuthm := cuthm_run (P := Try.prog) (T := 28) rfl Try.underlying28 hso hhead m cv K (by omega)
  obtain ⟨A1, hcutl, hrd1⟩ := cutl_run (P := Try.prog) (T := 28) rfl Try.underlying28 hso A0 m cv K hKm hmc
  rw [hL] at hcutl
  obtain ⟨C1, hC1⟩ : ∃ C1, cv - K = C1 := ⟨_, rfl⟩
  rw [hC1] at hcutl
  have hcuth := cuth_run (P := Try.prog) (T := 28) rfl Try.underlying28 hso hhead m cv L (by omega)
  have t1 : decide ((n : Int) < 1) = false := by simp; omega
  have t2 : (0 : Int) ≤ (K : Int) := by omega
  have HH := Lib.hid h
  have HM := Lib.hid hm
  have HL := Lib.hid hL
  have HR := Lib.hid hrd1
  have HS1 := Lib.hid hsz1
  clear h hm hL hK hC1 hrd1 hsz1
  go_enter Try.func15, Try.ntmps15
  go_wp2_with (at_make; refine wpList_make_full _ rfl _ _ 28 rfl w.heap.size 5 i0 _ 1 Try.underlying28 hi hz0 hz1 _ _ _ _ K rfl rfl ?d0 ?d1 ?d2 ?d3 ?d4 ?_)
  case d0 => rfl
  case d1 => rfl
  case d2 => rw [hz2]; omega
  case d3 => simp only [maxLen]; omega
  case d4 => exact Nat.le_refl _
  intro w2 hown2 hg2
  have hsp := hg2.size
  have hb2 := (HH.out.grown hg2 (fun k hk => by cases hk)).box
  rw [HM.out] at hb2
  have e1 := hb2.cell 1
  have hrow2 := hown.fr (Fr.of_grown hg2) (fun k _ e => by cases e)
  have hQ2 := Lib.hid (HH.out.grown hg2 (fun k hk => by cases hk))
  obtain ⟨G, hG⟩ : ∃ G : Nat, w.heap.size = G := ⟨_, rfl⟩
  have hGb : G < w2.heap.size := by rw [← hG]; exact ((Own.of hown2).lt _ rfl).2
  obtain ⟨Z, hot⟩ : ∃ Z, Own w2 w.heap.size 5 1 (.slice (some ⟨w.heap.size, 0, none⟩) K K) K Z := ⟨_, Own.of hown2⟩
  rw [hG] at hot
  have hys := copy_all Z (show K ≤ l.length by rw [HM.out]; exact hKm) (by have := hot.1; omega)
  have hrd2 : Rd w2 A0 (bs (l.take K)) := (hrow2.short K hKm (bs (l.take K)) (by rw [bs, bs, List.map_take])).rd
  have hF2 := Lib.hid (Fr.of_below ((Below.refl _ w).grown hg2 (Nat.le_refl _) (by simp)) S)
  have hGS := Lib.hid (show ¬ S G from fun hs => by have := HH.out.hi G hs; omega)
  have hln : (bs (l.take K)).length = K := by rw [bs_length, List.length_take, HM.out]; omega
  have hgi : goInt (Nat.min K K) = .int .i64 (K : Int) := by rw [show Nat.min K K = K from Nat.min_self K]; rfl
  have HLN := Lib.hid hln
  have HYS := Lib.hid hys
  have HG := Lib.hid hG
  have HSP := Lib.hid hsp
  have hrow2n := hrow2.no_cells hb2 (by decide)
  clear hown2 hg2 hln hys hG hsp c0 c1 c2 hown hbox
  rw [HG.out]
  go_wp2_with (refine list_copy_any _ rfl (.tmp 22) (.tmp 29) 28 rfl G 5 Try.underlying28 HS1.out _ K Z rfl hot A0 K K (bs (l.take K)) rfl HLN.out hrd2 (bs_one _) (K : Int) hgi _ HYS.out ?_; intro w3 hown3 hg3)
  have hQ3 := Lib.hid (hQ2.out.grown hg3 (fun k hk hs => by injection hk with hk; subst hk; exact hGS.out hs))
  have hF3 := Lib.hid (hF2.out.trans (Fr.of_grown hg3) (fun k hk => .inr (by have h2 : some G = some k := hk; injection h2 with h2; have := HG.out; omega)))
  have hb3 := hQ3.out.box
  rw [HM.out] at hb3
  have e3 := hb3.cell 1
  have hrow3 := hQ3.out.row.drew
  rw [HM.out] at hrow3
  have hoff3 : RdOff w3.drew (fun _ => False) A0 (bs l) := RdOff.of_own hrow3 (fun _ _ h => h)
  have hrd3 := (HR.out _ _ _ (by rw [bs_length, HM.out]) hoff3).rd
  have hdr : (bs l).drop K = bs (l.drop K) := by rw [bs, bs, List.map_drop]
  rw [hdr] at hrd3
  have hl3 : (bs (l.drop K)).length = L := by rw [bs_length, List.length_drop, HM.out]; exact HL.out
  have hg4 : goInt (Nat.min L m) = .int .i64 (L : Int) := by rw [show Nat.min L m = L from Nat.min_eq_left (by have := HL.out; omega)]; rfl
  have HL3 := Lib.hid hl3
  have HFR := Lib.hid (copy_front HM.out hKm HL.out)
  have hnb3 := hrow3.no_cells hb3 (by decide)
  clear hdr hl3 hoff3 e1 hrow2 hb2 hrow2n hot hrd2
  obtain ⟨Y, hY⟩ : ∃ Y, (bs (l.drop K)).take m ++ (bs l).drop L = Y := ⟨_, rfl⟩
  rw [hY] at HFR
  have HY := Lib.hid hY
  clear hY
  simp only [Act.put]
  go_region_law (refine step_copy_any _ rfl (.tmp 34) (.tmp 40) 28 rfl base 5 Try.underlying28 HS1.out (.slice A0 m cv) m (bs l) (by simp [Act.eval, Act.put]) hrow3 A1 L C1 (bs (l.drop K)) (by simp [Act.eval, Act.put]) HL3.out hrd3 (bs_one _) (L : Int) hg4 Y HY.out ?_; intro w4 hown4 hg5)
  all_goals
    simp only [Act.put, List.getElem_toArray, List.getElem_cons_succ, List.getElem_cons_zero]
    have hb4 : Blk w4 g 54 #[.int .i64 (room : Int), .slice A0 m cv, .int .i64 (d : Int)] := Blk.grown (w := w3.drew) hb3 hg5 hnb3
    have e4 := hb4.cell 1
    have z4 := hb4.frozen 1
    have hl4 : (l.drop K).length = L := by rw [List.length_drop, HM.out]; exact HL.out
    have HL4 := Lib.hid hl4
    clear hl4 e3
    go_wp2_with fail
    go_ret
    have hsv : ∀ k, (Value.slice A0 m cv).ownBlock = some k → S k := fun k hk => hQ3.out.sv k (by rw [HM.out]; exact hk)
    have hgG : g ≠ G := fun e => hGS.out (by rw [← e]; exact hQ3.out.sg)
    refine ⟨⟨_, _, rfl, ?_⟩, ⟨.slice A0 L cv, ⟨hb4.set 1 _, ?_, hQ3.out.sg, fun k hk => hsv k (by rw [own_len A0 m L cv cv]; exact hk), hQ3.out.lo, fun k hk => ?_, by have := HL4.out; have := HL.out; omega, hroom⟩⟩, ?_⟩
    · rw [HG.out]
      refine ((hown3.drew).fr (Fr.of_grown hg5) (fun k hk e => ?_)).fr (Fr.setCell w4 g 1 _ (fun k => k = g) rfl) (fun k hk e => ?_)
      · have h2 : some G = some k := hk
        injection h2 with h2
        exact hGS.out (by rw [h2]; exact hsv k e)
      · have h2 : some G = some k := hk
        injection h2 with h2
        exact hgG (by rw [← e, h2])
    · rw [HL4.out]
      refine (hown4.short L (by have := HL.out; omega) (bs (l.drop K)) HFR.out).fr (Fr.setCell w4 g 1 _ (fun k => k = g) rfl) (fun k hk e => ?_)
      rw [own_len A0 L m cv cv] at hk
      exact hnb3 (by rw [hk, e])
    · have e : (w4.setCell ⟨g, 1, none⟩ (.slice A0 L cv)).heap.size = w4.heap.size := by simp [World.setCell]
      rw [e]
      exact Nat.lt_of_lt_of_le (hQ3.out.hi k hk) hg5.size
    · refine (hF3.out.trans (w'' := w4) (S' := S) ?_ (fun k hk => .inl hk)).trans (Fr.setCell w4 g 1 _ S hQ3.out.sg) (fun k hk => .inl hk)
      exact (Fr.drewN w3 1 S).trans ((Fr.of_grown hg5).mono (fun k hk => hsv k hk)) (fun k hk => .inl hk)
/-- Drain, whatever is asked. -/
theorem drain_any (h : QB w S g room base v l d) (n : Int) (K : Nat) (hn : n ≤ 9223372036854775807) (hK : drainK n l = K) :
    Calls Try.prog 15 #[.pointer (some ⟨g, 0, none⟩), .int .i64 n] w (DrainE S g room base K l d w) := by
  by_cases h1 : n < 1
  · have : K = 0 := by
      rw [← hK]
      unfold drainK
      rw [show n.toNat = 0 by omega]
      exact Nat.zero_min _
    subst this
    exact drain_less h n h1
  · have e : n = (n.toNat : Int) := by omega
    rw [e]
    exact drain_pos h n.toNat K (by omega) (by omega) hK
end
end Go.Proofs.Ythilpfgmbikhfaa
