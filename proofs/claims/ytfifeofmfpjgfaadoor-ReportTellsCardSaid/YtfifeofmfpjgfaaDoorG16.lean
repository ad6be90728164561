/-
  Layer 3, walked: the document's Put.
-/
import Derived.Test.YtfifeofmfpjgfaaDoorG11
import Derived.Test.YtfifeofmfpjgfaaDoorG15
import Derived.Deep.RegionHeld
namespace Go.Proofs.YtfifeofmfpjgfaaDoor
open Go.RowKit
theorem own_room {w : World} {base : Nat} {e : TypeId} {sz n : Nat} {v : Value} {xs : List Value} (h : Own w base e sz v n xs) : ∃ A c, v = .slice A n c ∧ n ≤ c ∧ Rd w A xs := by
 obtain ⟨A, c, rfl, hr⟩ := h.form
 refine ⟨A, c, rfl, ?_, hr⟩
 rcases h.2 with ⟨h1, h0⟩ | ⟨g, cap, hv, hb, _, hnc, _⟩
 ·omega
 ·injection hv with _ _ h3
  omega
theorem wyes_own {T : List UInt8} {A : Option Addr} {n c : Nat} {w w' : World} (hn : n = T.length) (hc : n ≤ c) (hr : Rd w' A (bs T)) (hb : Below w.heap.size w w') : WYes T w (.returned (.tuple #[.slice A n c, .int .i64 0])) w' := by
 subst hn
 exact ⟨⟨A, c, rfl, hc, hr⟩, hb⟩
set_option maxRecDepth 100000 in
set_option maxHeartbeats 2000000 in
theorem wput_no_wide (s : Sq) (A : Option Addr) (c : Nat) (m : Int) (w : World) (hm : mayS s = m) (h0 : m ≠ 0) (hp : s.params.length ≤ 4294967296) (hi : s.inter.length ≤ 9223372036854775807) (hr : RdP w A s.params) :
 Calls Tryd.prog 27 #[sqV s A c] w (WNo m w) := by
 have hB : Below w.heap.size w (w.alloc (.cells #[.int .i64 s.kind, .int .u8 (s.priv.toNat : Int), .slice A s.params.length c, .string ⟨s.inter.toArray⟩, .int .u8 (s.final.toNat : Int), .string ⟨s.data.toArray⟩] 30)) := (Below.refl _ _).alloc (Nat.le_refl _) _
 have t0 : (m != 0) = true := by simp [bne, beq_false_of_ne h0]
 have HM := Lib.hid hm
 clear hm h0
 unfold sqV
 go_enter Tryd.func27, Tryd.ntmps27
 go_wp2_with fail
 refine (may_wide s A c m _ HM.out hp hi (hr.below hB)).mono ?_
 rintro e w1 ⟨rfl, hb1⟩
 have hb1' := hB.trans (hb1.mono hB.size)
 go_wp2_with fail
 go_ret2
 exact ⟨rfl, hb1'⟩
theorem wput_no (s : Sq) (A : Option Addr) (c : Nat) (m : Int) (w : World) (hm : mayS s = m) (h0 : m ≠ 0) (hp : s.params.length ≤ 4294967296) (hi : s.inter.length ≤ 4294967296) (hr : RdP w A s.params) :
 Calls Tryd.prog 27 #[sqV s A c] w (WNo m w) :=
 wput_no_wide s A c m w hm h0 hp (by omega) hr
set_option maxRecDepth 100000 in
set_option maxHeartbeats 8000000 in
theorem wput_yes (s : Sq) (A : Option Addr) (c : Nat) (w : World) (hm : mayS s = 0) (hr : RdP w A s.params) :
 Calls Tryd.prog 27 #[sqV s A c] w (WYes (putS s) w) := by
 obtain ⟨hd, _, hpo, hi, _, _, hla, _⟩ := ok_parts hm
 have hp16 := (parOk_lens hpo).1
 have HPO := Lib.hid hpo
 have hbl := body_len hpo hi
 have HM := Lib.hid hm
 have hB : Below w.heap.size w (w.alloc (.cells #[.int .i64 s.kind, .int .u8 (s.priv.toNat : Int), .slice A s.params.length c, .string ⟨s.inter.toArray⟩, .int .u8 (s.final.toNat : Int), .string ⟨s.data.toArray⟩] 30)) := (Below.refl _ _).alloc (Nat.le_refl _) _
 have hcv : ∀ (W : World) (g : Nat), W.cell? ⟨g, 0, none⟩ = some (.int .u8 (s.final.toNat : Int)) → (convert 48 9 (.slice (some ⟨g, 0, none⟩) 1 1)).run Tryd.prog W = .ok (.string ⟨#[s.final]⟩) W := by
  have := conv_one (P := Tryd.prog) Tryd.underlying48 Tryd.underlying5 Tryd.underlying9 (s.final.toNat : Int) (by omega) (by have := s.final.toNat_lt; omega)
  simpa using this
 have hkk : s.kind = 1 ∨ s.kind = 2 ∨ s.kind = 3 ∨ s.kind = 4 ∨ s.kind = 5 := by
  by_cases h : s.kind = 1 ∨ s.kind = 2 ∨ s.kind = 3 ∨ s.kind = 5
  ·omega
  ·unfold lastOk at hla
   rw [if_neg (by omega), if_neg (by omega)] at hla
   simp at hla
   omega
 clear hm hpo hla
 rcases hkk with hk | hk | hk | hk | hk
 ·
  have t1 : (s.kind == 1) = true := by rw [hk]; rfl
  have HS := Lib.hid (show putS s = 27 :: 91 :: (bodyL s ++ [s.final]) from if_pos hk)
  have HK := Lib.hid hk
  clear hk
  unfold sqV
  go_enter Tryd.func27, Tryd.ntmps27
  go_wp2_with fail
  refine (may_any s A c 0 _ HM.out (by omega) (by omega) (hr.below hB)).mono ?_
  rintro e w1 ⟨rfl, hb1⟩
  have hcell : ∀ i, w1.cell? ⟨w.heap.size, i, none⟩ = (#[.int .i64 s.kind, .int .u8 (s.priv.toNat : Int), .slice A s.params.length c, .string ⟨s.inter.toArray⟩, .int .u8 (s.final.toNat : Int), .string ⟨s.data.toArray⟩] : Array Value)[i]? := fun i =>
   (hb1.cell (p := ⟨w.heap.size, i, none⟩) (by simp)).trans (cell_of_row _ _ _ _ _ _ (heap_alloc_new w _))
  have c0 : w1.cell? ⟨w.heap.size, 0, none⟩ = some (.int .i64 s.kind) := hcell 0
  have c1 : w1.cell? ⟨w.heap.size, 1, none⟩ = some (.int .u8 (s.priv.toNat : Int)) := hcell 1
  have c2 : w1.cell? ⟨w.heap.size, 2, none⟩ = some (.slice A s.params.length c) := hcell 2
  have c3 : w1.cell? ⟨w.heap.size, 3, none⟩ = some (.string ⟨s.inter.toArray⟩) := hcell 3
  have c4 : w1.cell? ⟨w.heap.size, 4, none⟩ = some (.int .u8 (s.final.toNat : Int)) := hcell 4
  have c5 : w1.cell? ⟨w.heap.size, 5, none⟩ = some (.string ⟨s.data.toArray⟩) := hcell 5
  have hws : w.heap.size < w1.heap.size := by have := hb1.size; simp at this; omega
  have hb1' := hB.trans (hb1.mono hB.size)
  clear hcell
  obtain ⟨B, hBd⟩ : ∃ B, bodyL s = B := ⟨_, rfl⟩
  rw [hBd] at hbl
  have HBd := Lib.hid hBd
  clear hBd
  have e1 : (⟨#[27, 91]⟩ : ByteArray) ++ (⟨B.toArray⟩ : ByteArray) = ⟨([27, 91] ++ B).toArray⟩ := str_cat [27, 91] B _ rfl
  obtain ⟨U, hU⟩ : ∃ U, [27, 91] ++ B = U := ⟨_, rfl⟩
  rw [hU] at e1
  have e2 : (⟨U.toArray⟩ : ByteArray) ++ (⟨#[s.final]⟩ : ByteArray) = ⟨(U ++ [s.final]).toArray⟩ := str_cat U [s.final] _ rfl
  obtain ⟨T, hT⟩ : ∃ T, U ++ [s.final] = T := ⟨_, rfl⟩
  rw [hT] at e2
  have HT := Lib.hid (show T = putS s by rw [HS.out, ← hT, ← hU, HBd.out]; simp)
  have hUl : U.length ≤ 3010 := by rw [← hU, List.length_append, List.length_cons, List.length_singleton]; omega
  have hTl : T.length ≤ 3020 := by rw [← hT, List.length_append, List.length_singleton]; omega
  clear hU hT
  have hms : (⟨T.toArray⟩ : ByteArray).size ≤ maxLen := by show T.toArray.size ≤ _; rw [List.size_toArray]; simp only [maxLen]; omega
  go_wp2_with fail
  refine (body_any s A c _ HPO.out (by omega) (hr.below (hb1'.alloc hb1'.size _))).mono ?_
  rw [HBd.out]
  rintro e w2 ⟨rfl, hb2⟩
  have hb2' := (hb1'.alloc hb1'.size (.cells #[.int .u8 (s.final.toNat : Int)] 5)).trans (hb2.mono (hb1'.alloc hb1'.size _).size)
  have hbs2 := hb2'.size
  go_wp2_with (first
   | ((with_reducible refine list_conv _ rfl (.tmp 23) 9 48 rfl w.heap.size 5 ⟨T.toArray⟩ ?_ Tryd.underlying9 Tryd.underlying48 Tryd.underlying5 hms hbs2 ?_); rfl; intro v3 w3 hown3 hg3))
  have hb3 : Below w.heap.size w w3 := hb2'.grown hg3 hbs2 (by simp)
  obtain ⟨A3, c3, rfl, hc3, hr3⟩ := own_room hown3
  clear hg3 hown3
  go_wp2_with fail
  go_ret2
  rw [← HT.out]
  exact wyes_own (by show T.toArray.size = _; simp) hc3 hr3 hb3
 ·
  have t1 : (s.kind == 1) = false := by rw [hk]; rfl
  have t2 : (s.kind == 2) = true := by rw [hk]; rfl
  have HS := Lib.hid (show putS s = [27, 79, s.final] by unfold putS; simp [hk])
  have HK := Lib.hid hk
  clear hk
  unfold sqV
  go_enter Tryd.func27, Tryd.ntmps27
  go_wp2_with fail
  refine (may_any s A c 0 _ HM.out (by omega) (by omega) (hr.below hB)).mono ?_
  rintro e w1 ⟨rfl, hb1⟩
  have hcell : ∀ i, w1.cell? ⟨w.heap.size, i, none⟩ = (#[.int .i64 s.kind, .int .u8 (s.priv.toNat : Int), .slice A s.params.length c, .string ⟨s.inter.toArray⟩, .int .u8 (s.final.toNat : Int), .string ⟨s.data.toArray⟩] : Array Value)[i]? := fun i =>
   (hb1.cell (p := ⟨w.heap.size, i, none⟩) (by simp)).trans (cell_of_row _ _ _ _ _ _ (heap_alloc_new w _))
  have c0 : w1.cell? ⟨w.heap.size, 0, none⟩ = some (.int .i64 s.kind) := hcell 0
  have c1 : w1.cell? ⟨w.heap.size, 1, none⟩ = some (.int .u8 (s.priv.toNat : Int)) := hcell 1
  have c2 : w1.cell? ⟨w.heap.size, 2, none⟩ = some (.slice A s.params.length c) := hcell 2
  have c3 : w1.cell? ⟨w.heap.size, 3, none⟩ = some (.string ⟨s.inter.toArray⟩) := hcell 3
  have c4 : w1.cell? ⟨w.heap.size, 4, none⟩ = some (.int .u8 (s.final.toNat : Int)) := hcell 4
  have c5 : w1.cell? ⟨w.heap.size, 5, none⟩ = some (.string ⟨s.data.toArray⟩) := hcell 5
  have hws : w.heap.size < w1.heap.size := by have := hb1.size; simp at this; omega
  have hb1' := hB.trans (hb1.mono hB.size)
  clear hcell
  have e1 : (⟨#[27, 79]⟩ : ByteArray) ++ (⟨#[s.final]⟩ : ByteArray) = ⟨([27, 79] ++ [s.final]).toArray⟩ := str_cat [27, 79] [s.final] _ rfl
  obtain ⟨T, hT⟩ : ∃ T, [27, 79] ++ [s.final] = T := ⟨_, rfl⟩
  rw [hT] at e1
  have l1 : T.length = ([27, 79] : List UInt8).length + ([s.final] : List UInt8).length := by rw [← hT, List.length_append]
  simp only [List.length_cons, List.length_nil] at l1
  have HT := Lib.hid (show T = putS s by rw [HS.out, ← hT]; simp)
  clear hT
  have hms : (⟨T.toArray⟩ : ByteArray).size ≤ maxLen := by show T.toArray.size ≤ _; rw [List.size_toArray]; simp only [maxLen]; omega
  have hb2' := hb1'.alloc hb1'.size (.cells #[.int .u8 (s.final.toNat : Int)] 5)
  have hbs2 := hb2'.size
  go_wp2_with (first
   | ((with_reducible refine list_conv _ rfl (.tmp 28) 9 48 rfl w.heap.size 5 ⟨T.toArray⟩ ?_ Tryd.underlying9 Tryd.underlying48 Tryd.underlying5 hms hbs2 ?_); rfl; intro v3 w3 hown3 hg3))
  have hb3 : Below w.heap.size w w3 := hb2'.grown hg3 hbs2 (by simp)
  obtain ⟨A3, c3, rfl, hc3, hr3⟩ := own_room hown3
  clear hg3 hown3
  go_wp2_with fail
  go_ret2
  rw [← HT.out]
  exact wyes_own (by show T.toArray.size = _; simp) hc3 hr3 hb3
 ·
  have t1 : (s.kind == 1) = false := by rw [hk]; rfl
  have t2 : (s.kind == 2) = false := by rw [hk]; rfl
  have t3 : (s.kind == 3) = true := by rw [hk]; rfl
  have HS := Lib.hid (show putS s = 27 :: 80 :: (bodyL s ++ (s.final :: (s.data ++ [27, 92]))) by unfold putS; simp [hk])
  have HK := Lib.hid hk
  clear hk
  unfold sqV
  go_enter Tryd.func27, Tryd.ntmps27
  go_wp2_with fail
  refine (may_any s A c 0 _ HM.out (by omega) (by omega) (hr.below hB)).mono ?_
  rintro e w1 ⟨rfl, hb1⟩
  have hcell : ∀ i, w1.cell? ⟨w.heap.size, i, none⟩ = (#[.int .i64 s.kind, .int .u8 (s.priv.toNat : Int), .slice A s.params.length c, .string ⟨s.inter.toArray⟩, .int .u8 (s.final.toNat : Int), .string ⟨s.data.toArray⟩] : Array Value)[i]? := fun i =>
   (hb1.cell (p := ⟨w.heap.size, i, none⟩) (by simp)).trans (cell_of_row _ _ _ _ _ _ (heap_alloc_new w _))
  have c0 : w1.cell? ⟨w.heap.size, 0, none⟩ = some (.int .i64 s.kind) := hcell 0
  have c1 : w1.cell? ⟨w.heap.size, 1, none⟩ = some (.int .u8 (s.priv.toNat : Int)) := hcell 1
  have c2 : w1.cell? ⟨w.heap.size, 2, none⟩ = some (.slice A s.params.length c) := hcell 2
  have c3 : w1.cell? ⟨w.heap.size, 3, none⟩ = some (.string ⟨s.inter.toArray⟩) := hcell 3
  have c4 : w1.cell? ⟨w.heap.size, 4, none⟩ = some (.int .u8 (s.final.toNat : Int)) := hcell 4
  have c5 : w1.cell? ⟨w.heap.size, 5, none⟩ = some (.string ⟨s.data.toArray⟩) := hcell 5
  have hws : w.heap.size < w1.heap.size := by have := hb1.size; simp at this; omega
  have hb1' := hB.trans (hb1.mono hB.size)
  clear hcell
  obtain ⟨B, hBd⟩ : ∃ B, bodyL s = B := ⟨_, rfl⟩
  rw [hBd] at hbl
  have HBd := Lib.hid hBd
  clear hBd
  have e1 : (⟨#[27, 80]⟩ : ByteArray) ++ (⟨B.toArray⟩ : ByteArray) = ⟨([27, 80] ++ B).toArray⟩ := str_cat [27, 80] B _ rfl
  obtain ⟨U1, hU1⟩ : ∃ U1, [27, 80] ++ B = U1 := ⟨_, rfl⟩
  rw [hU1] at e1
  have l1 : U1.length = ([27, 80] : List UInt8).length + (B : List UInt8).length := by rw [← hU1, List.length_append]
  simp only [List.length_cons, List.length_nil] at l1
  have e2 : (⟨U1.toArray⟩ : ByteArray) ++ (⟨#[s.final]⟩ : ByteArray) = ⟨(U1 ++ [s.final]).toArray⟩ := str_cat U1 [s.final] _ rfl
  obtain ⟨U2, hU2⟩ : ∃ U2, U1 ++ [s.final] = U2 := ⟨_, rfl⟩
  rw [hU2] at e2
  have l2 : U2.length = (U1 : List UInt8).length + ([s.final] : List UInt8).length := by rw [← hU2, List.length_append]
  simp only [List.length_cons, List.length_nil] at l2
  have e3 : (⟨U2.toArray⟩ : ByteArray) ++ (⟨s.data.toArray⟩ : ByteArray) = ⟨(U2 ++ s.data).toArray⟩ := str_cat U2 s.data _ rfl
  obtain ⟨U3, hU3⟩ : ∃ U3, U2 ++ s.data = U3 := ⟨_, rfl⟩
  rw [hU3] at e3
  have l3 : U3.length = (U2 : List UInt8).length + (s.data : List UInt8).length := by rw [← hU3, List.length_append]
  have e4 : (⟨U3.toArray⟩ : ByteArray) ++ (⟨#[27, 92]⟩ : ByteArray) = ⟨(U3 ++ [27, 92]).toArray⟩ := str_cat U3 [27, 92] _ rfl
  obtain ⟨T, hT⟩ : ∃ T, U3 ++ [27, 92] = T := ⟨_, rfl⟩
  rw [hT] at e4
  have l4 : T.length = (U3 : List UInt8).length + ([27, 92] : List UInt8).length := by rw [← hT, List.length_append]
  simp only [List.length_cons, List.length_nil] at l4
  have HT := Lib.hid (show T = putS s by rw [HS.out, ← hT, ← hU3, ← hU2, ← hU1, HBd.out]; simp)
  clear hU1 hU2 hU3 hT
  have hms : (⟨T.toArray⟩ : ByteArray).size ≤ maxLen := by show T.toArray.size ≤ _; rw [List.size_toArray]; simp only [maxLen]; omega
  have hb2 := hb1'.alloc hb1'.size (.cells #[.int .u8 (s.final.toNat : Int)] 5)
  have hws2 : w.heap.size < (w1.alloc (.cells #[.int .u8 (s.final.toNat : Int)] 5)).heap.size := by simp; omega
  have hal : ∀ i, (w1.alloc (.cells #[.int .u8 (s.final.toNat : Int)] 5)).cell? ⟨w.heap.size, i, none⟩ = w1.cell? ⟨w.heap.size, i, none⟩ := fun i =>
   World.cell?_of_block (a := ⟨w.heap.size, i, none⟩) (Below.heap_alloc w1 _ _ hws)
  have d0 := (hal 0).trans c0
  have d1 := (hal 1).trans c1
  have d2 := (hal 2).trans c2
  have d3 := (hal 3).trans c3
  have d4 := (hal 4).trans c4
  have d5 := (hal 5).trans c5
  clear hal hb1'
  go_wp2_with fail
  clear c0 c1 c2 c3 c4 c5 hb1
  generalize w1.alloc (.cells #[.int .u8 (s.final.toNat : Int)] 5) = W2 at *
  have hbs2 := hb2.size
  have hrun : ∃ (V : World → Value) (X : World → World), ∀ W, (convert 9 48 (.string ⟨T.toArray⟩)).run Tryd.prog W = .ok (V W) (X W) ∧ Own (X W) 0 5 1 (V W) (⟨T.toArray⟩ : ByteArray).size (bs T) ∧ W.grownBy (X W) none := by
   have h := fun W => run_conv (P := Tryd.prog) W 0 9 48 5 ⟨T.toArray⟩ Tryd.underlying9 Tryd.underlying48 Tryd.underlying5 hms (Nat.zero_le _)
   exact ⟨fun W => (h W).choose, fun W => (h W).choose_spec.choose, fun W => (h W).choose_spec.choose_spec⟩
  obtain ⟨V, X, hVX⟩ := hrun
  have hV := fun W => (hVX W).1
  have HVX := Lib.hid (fun W => (hVX W).2)
  have hS : ∀ w', Below W2.heap.size W2 w' → Below W2.heap.size W2 w' ∧ w'.cell? ⟨w.heap.size, 0, none⟩ = some (.int .i64 s.kind) ∧ w'.cell? ⟨w.heap.size, 1, none⟩ = some (.int .u8 (s.priv.toNat : Int)) ∧ w'.cell? ⟨w.heap.size, 2, none⟩ = some (.slice A s.params.length c) ∧ w'.cell? ⟨w.heap.size, 3, none⟩ = some (.string ⟨s.inter.toArray⟩) ∧ w'.cell? ⟨w.heap.size, 4, none⟩ = some (.int .u8 (s.final.toNat : Int)) ∧ w'.cell? ⟨w.heap.size, 5, none⟩ = some (.string ⟨s.data.toArray⟩) := fun w' hb =>
   ⟨hb, (hb.cell (p := ⟨w.heap.size, 0, none⟩) hws2).trans d0, (hb.cell (p := ⟨w.heap.size, 1, none⟩) hws2).trans d1, (hb.cell (p := ⟨w.heap.size, 2, none⟩) hws2).trans d2, (hb.cell (p := ⟨w.heap.size, 3, none⟩) hws2).trans d3, (hb.cell (p := ⟨w.heap.size, 4, none⟩) hws2).trans d4, (hb.cell (p := ⟨w.heap.size, 5, none⟩) hws2).trans d5⟩
  have HSS := Lib.hid hS
  clear hVX hS
  go_region_held (fun w' => Below W2.heap.size W2 w' ∧ w'.cell? ⟨w.heap.size, 0, none⟩ = some (.int .i64 s.kind) ∧ w'.cell? ⟨w.heap.size, 1, none⟩ = some (.int .u8 (s.priv.toNat : Int)) ∧ w'.cell? ⟨w.heap.size, 2, none⟩ = some (.slice A s.params.length c) ∧ w'.cell? ⟨w.heap.size, 3, none⟩ = some (.string ⟨s.inter.toArray⟩) ∧ w'.cell? ⟨w.heap.size, 4, none⟩ = some (.int .u8 (s.final.toNat : Int)) ∧ w'.cell? ⟨w.heap.size, 5, none⟩ = some (.string ⟨s.data.toArray⟩)) (first | exact HSS.out _ (Below.refl _ _).drew | exact HSS.out _ (((Below.refl W2.heap.size W2).drew).trans hb3) | exact HSS.out _ ((((Below.refl W2.heap.size W2).drew).trans hb3).grown (HVX.out w3).2 hb3.size (by simp))) (first | (go_at_call 45; refine (body_any s A c _ HPO.out (by omega) (hr.below hb2.drew)).mono ?_; rw [HBd.out]; rintro e w3 ⟨rfl, hb3⟩))
  obtain ⟨ho3, hg3⟩ := HVX.out w3
  have hb3' : Below w.heap.size w w3 := (hb2.drew).trans (hb3.mono hbs2)
  have hb4 : Below w.heap.size w (X w3) := hb3'.grown hg3 hb3'.size (by simp)
  obtain ⟨A3, c3, hv, hc3, hr3⟩ := own_room ho3
  clear hg3 ho3 hV
  rw [hv]
  go_wp2_with fail
  go_ret2
  rw [← HT.out]
  exact wyes_own (by show T.toArray.size = _; simp) hc3 hr3 hb4
 ·
  have t1 : (s.kind == 1) = false := by rw [hk]; rfl
  have t2 : (s.kind == 2) = false := by rw [hk]; rfl
  have t3 : (s.kind == 3) = false := by rw [hk]; rfl
  have t4 : (s.kind == 4) = true := by rw [hk]; rfl
  have HS := Lib.hid (show putS s = 27 :: 93 :: (s.data ++ [27, 92]) by unfold putS; simp [hk])
  have HK := Lib.hid hk
  clear hk
  unfold sqV
  go_enter Tryd.func27, Tryd.ntmps27
  go_wp2_with fail
  refine (may_any s A c 0 _ HM.out (by omega) (by omega) (hr.below hB)).mono ?_
  rintro e w1 ⟨rfl, hb1⟩
  have hcell : ∀ i, w1.cell? ⟨w.heap.size, i, none⟩ = (#[.int .i64 s.kind, .int .u8 (s.priv.toNat : Int), .slice A s.params.length c, .string ⟨s.inter.toArray⟩, .int .u8 (s.final.toNat : Int), .string ⟨s.data.toArray⟩] : Array Value)[i]? := fun i =>
   (hb1.cell (p := ⟨w.heap.size, i, none⟩) (by simp)).trans (cell_of_row _ _ _ _ _ _ (heap_alloc_new w _))
  have c0 : w1.cell? ⟨w.heap.size, 0, none⟩ = some (.int .i64 s.kind) := hcell 0
  have c1 : w1.cell? ⟨w.heap.size, 1, none⟩ = some (.int .u8 (s.priv.toNat : Int)) := hcell 1
  have c2 : w1.cell? ⟨w.heap.size, 2, none⟩ = some (.slice A s.params.length c) := hcell 2
  have c3 : w1.cell? ⟨w.heap.size, 3, none⟩ = some (.string ⟨s.inter.toArray⟩) := hcell 3
  have c4 : w1.cell? ⟨w.heap.size, 4, none⟩ = some (.int .u8 (s.final.toNat : Int)) := hcell 4
  have c5 : w1.cell? ⟨w.heap.size, 5, none⟩ = some (.string ⟨s.data.toArray⟩) := hcell 5
  have hws : w.heap.size < w1.heap.size := by have := hb1.size; simp at this; omega
  have hb1' := hB.trans (hb1.mono hB.size)
  clear hcell
  have e1 : (⟨#[27, 93]⟩ : ByteArray) ++ (⟨s.data.toArray⟩ : ByteArray) = ⟨([27, 93] ++ s.data).toArray⟩ := str_cat [27, 93] s.data _ rfl
  obtain ⟨U1, hU1⟩ : ∃ U1, [27, 93] ++ s.data = U1 := ⟨_, rfl⟩
  rw [hU1] at e1
  have l1 : U1.length = ([27, 93] : List UInt8).length + (s.data : List UInt8).length := by rw [← hU1, List.length_append]
  simp only [List.length_cons, List.length_nil] at l1
  have e2 : (⟨U1.toArray⟩ : ByteArray) ++ (⟨#[27, 92]⟩ : ByteArray) = ⟨(U1 ++ [27, 92]).toArray⟩ := str_cat U1 [27, 92] _ rfl
  obtain ⟨T, hT⟩ : ∃ T, U1 ++ [27, 92] = T := ⟨_, rfl⟩
  rw [hT] at e2
  have l2 : T.length = (U1 : List UInt8).length + ([27, 92] : List UInt8).length := by rw [← hT, List.length_append]
  simp only [List.length_cons, List.length_nil] at l2
  have HT := Lib.hid (show T = putS s by rw [HS.out, ← hT, ← hU1]; simp)
  clear hU1 hT
  have hms : (⟨T.toArray⟩ : ByteArray).size ≤ maxLen := by show T.toArray.size ≤ _; rw [List.size_toArray]; simp only [maxLen]; omega
  have hb2' := hb1'.alloc hb1'.size (.cells #[.int .u8 (s.final.toNat : Int)] 5)
  have hbs2 := hb2'.size
  go_wp2_with (first
   | ((with_reducible refine list_conv _ rfl (.tmp 47) 9 48 rfl w.heap.size 5 ⟨T.toArray⟩ ?_ Tryd.underlying9 Tryd.underlying48 Tryd.underlying5 hms hbs2 ?_); rfl; intro v3 w3 hown3 hg3))
  have hb3 : Below w.heap.size w w3 := hb2'.grown hg3 hbs2 (by simp)
  obtain ⟨A3, c3, rfl, hc3, hr3⟩ := own_room hown3
  clear hg3 hown3
  go_wp2_with fail
  go_ret2
  rw [← HT.out]
  exact wyes_own (by show T.toArray.size = _; simp) hc3 hr3 hb3
 ·
  have t1 : (s.kind == 1) = false := by rw [hk]; rfl
  have t2 : (s.kind == 2) = false := by rw [hk]; rfl
  have t3 : (s.kind == 3) = false := by rw [hk]; rfl
  have t4 : (s.kind == 4) = false := by rw [hk]; rfl
  have HS := Lib.hid (show putS s = 27 :: (s.inter ++ [s.final]) by unfold putS; simp [hk])
  have HK := Lib.hid hk
  clear hk
  unfold sqV
  go_enter Tryd.func27, Tryd.ntmps27
  go_wp2_with fail
  refine (may_any s A c 0 _ HM.out (by omega) (by omega) (hr.below hB)).mono ?_
  rintro e w1 ⟨rfl, hb1⟩
  have hcell : ∀ i, w1.cell? ⟨w.heap.size, i, none⟩ = (#[.int .i64 s.kind, .int .u8 (s.priv.toNat : Int), .slice A s.params.length c, .string ⟨s.inter.toArray⟩, .int .u8 (s.final.toNat : Int), .string ⟨s.data.toArray⟩] : Array Value)[i]? := fun i =>
   (hb1.cell (p := ⟨w.heap.size, i, none⟩) (by simp)).trans (cell_of_row _ _ _ _ _ _ (heap_alloc_new w _))
  have c0 : w1.cell? ⟨w.heap.size, 0, none⟩ = some (.int .i64 s.kind) := hcell 0
  have c1 : w1.cell? ⟨w.heap.size, 1, none⟩ = some (.int .u8 (s.priv.toNat : Int)) := hcell 1
  have c2 : w1.cell? ⟨w.heap.size, 2, none⟩ = some (.slice A s.params.length c) := hcell 2
  have c3 : w1.cell? ⟨w.heap.size, 3, none⟩ = some (.string ⟨s.inter.toArray⟩) := hcell 3
  have c4 : w1.cell? ⟨w.heap.size, 4, none⟩ = some (.int .u8 (s.final.toNat : Int)) := hcell 4
  have c5 : w1.cell? ⟨w.heap.size, 5, none⟩ = some (.string ⟨s.data.toArray⟩) := hcell 5
  have hws : w.heap.size < w1.heap.size := by have := hb1.size; simp at this; omega
  have hb1' := hB.trans (hb1.mono hB.size)
  clear hcell
  have e1 : (⟨#[27]⟩ : ByteArray) ++ (⟨s.inter.toArray⟩ : ByteArray) = ⟨([27] ++ s.inter).toArray⟩ := str_cat [27] s.inter _ rfl
  obtain ⟨U1, hU1⟩ : ∃ U1, [27] ++ s.inter = U1 := ⟨_, rfl⟩
  rw [hU1] at e1
  have l1 : U1.length = ([27] : List UInt8).length + (s.inter : List UInt8).length := by rw [← hU1, List.length_append]
  simp only [List.length_cons, List.length_nil] at l1
  have e2 : (⟨U1.toArray⟩ : ByteArray) ++ (⟨#[s.final]⟩ : ByteArray) = ⟨(U1 ++ [s.final]).toArray⟩ := str_cat U1 [s.final] _ rfl
  obtain ⟨T, hT⟩ : ∃ T, U1 ++ [s.final] = T := ⟨_, rfl⟩
  rw [hT] at e2
  have l2 : T.length = (U1 : List UInt8).length + ([s.final] : List UInt8).length := by rw [← hT, List.length_append]
  simp only [List.length_cons, List.length_nil] at l2
  have HT := Lib.hid (show T = putS s by rw [HS.out, ← hT, ← hU1]; simp)
  clear hU1 hT
  have hms : (⟨T.toArray⟩ : ByteArray).size ≤ maxLen := by show T.toArray.size ≤ _; rw [List.size_toArray]; simp only [maxLen]; omega
  have hb2' := hb1'.alloc hb1'.size (.cells #[.int .u8 (s.final.toNat : Int)] 5)
  have hbs2 := hb2'.size
  go_wp2_with (first
   | ((with_reducible refine list_conv _ rfl (.tmp 53) 9 48 rfl w.heap.size 5 ⟨T.toArray⟩ ?_ Tryd.underlying9 Tryd.underlying48 Tryd.underlying5 hms hbs2 ?_); rfl; intro v3 w3 hown3 hg3))
  have hb3 : Below w.heap.size w w3 := hb2'.grown hg3 hbs2 (by simp)
  obtain ⟨A3, c3, rfl, hc3, hr3⟩ := own_room hown3
  clear hg3 hown3
  go_wp2_with fail
  go_ret2
  rw [← HT.out]
  exact wyes_own (by show T.toArray.size = _; simp) hc3 hr3 hb3
end Go.Proofs.YtfifeofmfpjgfaaDoor
