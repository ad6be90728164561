/-
  Stage 17's laws, walked: PasteSafe.
-/
import Derived.Test.YtgaoijinchakoaaDoorG17
import Derived.Test.YtgaoijinchakoaaDoorG21
import Derived.Test.YtgaoijinchakoaaDoorG41
namespace Go.Proofs.YtgaoijinchakoaaDoor
open Go.RowKit
theorem all_take {ks : List Int} {i : Nat} (h : i < ks.length) : (ks.take (i + 1)).all clnP = ((ks.take i).all clnP && clnP ks[i]) := by
 rw [List.take_add_one, List.getElem?_eq_getElem h, List.all_append]
 simp
theorem safe_bool (q : Bool) : ∀ w : World, (binOp .eql 4 (.bool q) (.bool q)).run Tryd.prog w = .ok (.bool true) w := fun w => by cases q <;> go_simp
set_option maxRecDepth 100000 in
set_option maxHeartbeats 16000000 in
theorem pasteSafe_walk (A : Option Addr) (l : List UInt8) (c : Nat) (hlc : l.length ≤ c) (w : World) (hr : Rd w A (bs l)) (hi : Siz w ∧ Tab w) : Calls Tryd.prog 5 #[.slice A l.length c] w fun e w' => e = .returned (.bool true) ∧ Below w.heap.size w w' := by
 obtain ⟨n, hn⟩ : ∃ n, l.length = n := ⟨_, rfl⟩
 rw [hn] at hlc ⊢
 have HT : Hid (∀ W, Below w.heap.size w W → Tab W) := Lib.hid fun W hW => hi.2.below hW
 have HS : Hid (∀ W, Below w.heap.size w W → Siz W) := Lib.hid fun W hW => hi.1.below' hW
 by_cases h : 300 < n
 ·have h2 : (300 : Int) < (n : Int) := by omega
  go_enter Tryd.func5, Tryd.ntmps5
  go_wp2_with fail
  refine (pasAwake _ hi.2 hi.1).mono ?_
  rintro e w1 ⟨rfl, hb1⟩
  go_wp2_with fail
  go_ret
  exact ⟨rfl, hb1⟩
 have h2 : ¬ ((300 : Int) < (n : Int)) := by omega
 obtain ⟨L, hL⟩ : ∃ L, clnL l = L := ⟨_, rfl⟩
 obtain ⟨ks, hks, _, hok⟩ := cln_all l
 have hmk := all_length hks
 have htw := cln_twice l
 have hle := clnL_le l
 have hif := cln_iff l
 rw [hL] at hks hmk htw hle hif
 obtain ⟨x, hx⟩ : ∃ x, L.length = x := ⟨_, rfl⟩
 obtain ⟨m, hm⟩ : ∃ x, ks.length = x := ⟨_, rfl⟩
 rw [hx, hn] at hle
 obtain ⟨K2, q, hK2, hk2n⟩ : ∃ (K2 : List Int) (q : Bool), (allL l = none ∧ q = false ∧ K2 = [] ∨ allL l = some K2 ∧ q = true) ∧ K2.length ≤ n := by
  cases ha : allL l with
  | none => exact ⟨[], false, .inl ⟨rfl, rfl, rfl⟩, Nat.zero_le _⟩
  | some k => exact ⟨k, true, .inr ⟨rfl, rfl⟩, by rw [← hn]; exact all_length ha⟩
 obtain ⟨m2, hm2⟩ : ∃ x, K2.length = x := ⟨_, rfl⟩
 rw [hm2] at hk2n
 rw [hm, hx] at hmk
 have hz : (q && K2.all clnP) = true ↔ L = l := by
  rw [hif]
  rcases hK2 with ⟨e1, rfl, rfl⟩ | ⟨e1, rfl⟩
  ·simp [e1]
  ·simp [e1]
 have HC : Hid (∀ W, Below w.heap.size w W → Calls Tryd.prog 10 #[.slice A n c] W (OutP L x W)) := Lib.hid fun W hW => by rw [← hx, ← hL]; exact pclean_any A n c l hn W (HS.out W hW) (by omega) hlc (hr.below hW)
 have HCC : Hid (∀ (W : World) (C : Option Addr) (f : Nat), Below w.heap.size w W → x ≤ f → Rd W C (bs L) → Calls Tryd.prog 10 #[.slice C x f] W (OutP L L.length W)) := Lib.hid fun W C f hW hf hr => by
  have := pclean_any C x f L hx W (HS.out W hW) (by omega) hf hr
  rw [htw] at this
  exact this
 have HA1 : Hid (∀ (W : World) (C : Option Addr) (f : Nat), x ≤ f → Rd W C (bs L) → Calls Tryd.prog 20 #[.slice C x f] W fun y w' => ∃ D f', y = .returned (.tuple #[.slice D m f', .bool true]) ∧ Rd w' D (is_ ks) ∧ Below W.heap.size W w') := Lib.hid fun W C f hf hr => by
  rw [← hx] at hf ⊢
  refine (rall_own C f L W (by omega) hf hr).mono ?_
  rw [hks]
  rintro y w' ⟨v, rfl, ho, hb⟩
  obtain ⟨D, f', rfl, hrd⟩ := ho.form
  exact ⟨D, f', by rw [hm], hrd, hb⟩
 have HA2 : Hid (∀ W, Below w.heap.size w W → Calls Tryd.prog 20 #[.slice A n c] W fun y w' => ∃ D f', y = .returned (.tuple #[.slice D m2 f', .bool q]) ∧ Rd w' D (is_ K2) ∧ Below W.heap.size W w') := Lib.hid fun W hW => by
  rw [← hn] at hlc ⊢
  refine (rall_own A c l W (by omega) hlc (hr.below hW)).mono ?_
  rcases hK2 with ⟨e1, rfl, rfl⟩ | ⟨e1, rfl⟩
  ·rw [e1]
   rintro y w' ⟨rfl, hb⟩
   exact ⟨none, 0, by rw [← hm2]; rfl, Rd.nil _ _, hb⟩
  ·rw [e1]
   rintro y w' ⟨v, rfl, ho, hb⟩
   obtain ⟨D, f', rfl, hrd⟩ := ho.form
   exact ⟨D, f', by rw [hm2], hrd, hb⟩
 have HN := Lib.hid hn
 have HX := Lib.hid hx
 have HM := Lib.hid hm
 have HM2 := Lib.hid hm2
 have HOK := Lib.hid hok
 have HZ := Lib.hid hz
 have hmr : m ≤ 300 := by omega
 have hmr2 : m2 ≤ 300 := by omega
 have hsimpZ := safe_bool
 have hsimpL : ∀ w : World, (binOp .leq 3 (.int .i64 (x : Int)) (.int .i64 (n : Int))).run Tryd.prog w = .ok (.bool true) w := fun w => by
  have : decide ((x : Int) ≤ (n : Int)) = true := decide_eq_true (by omega)
  go_simp
 clear hK2 hL hks hmk htw hif hx hm hm2 hz hok hn h hk2n
 go_enter Tryd.func5, Tryd.ntmps5
 go_wp2_with fail
 refine (pasAwake _ hi.2 hi.1).mono ?_
 rintro e w1 ⟨rfl, hb1⟩
 go_wp2_with fail
 refine (HC.out _ hb1).mono ?_
 rintro y w2 ⟨B, f, rfl, ho2, hb2⟩
 have hB2 := hb1.trans (hb2.mono hb1.size)
 have rB := ho2.rd
 have hxf := ho2.cap.1
 clear ho2 hb2
 go_wp2_with fail
 refine (HA1.out _ B f hxf rB).mono ?_
 rintro y w3 ⟨C, f2, rfl, rC, hb3⟩
 have hB3 := hB2.trans (hb3.mono hB2.size)
 replace rB := rB.below hb3
 have hmax : (m : Int) ≤ 300 := by omega
 clear hB2 hb3 HA1 HC hi
 go_wp2_with fail
 go_loopw [7] (fun z wr => ∃ i : Nat, i ≤ m ∧ z = .int .i64 i ∧ Below w3.heap.size w3 wr) (fun z _ => m - (intOf z).toNat)
 case atStart => exact ⟨0, Nat.zero_le _, rfl, Below.refl _ _⟩
 case round =>
  obtain ⟨i, hi, rfl, hBr⟩ := hrel
  by_cases hlt : i < m
  ·have t1 : (i : Int) < (m : Int) := by omega
   have t0 : (0 : Int) ≤ (i : Int) := by omega
   have hrw := rC.below hBr
   obtain ⟨b, o, rfl, hbb, hcc⟩ := hrw.int_at (by have := HM.out; omega)
   have hii : i < ks.length := by have := HM.out; omega
   have hcell := hcc i hii
   have hcl := List.all_eq_true.1 HOK.out.2 _ (List.getElem_mem hii)
   obtain ⟨r, hr1⟩ : ∃ r, ks[i] = r := ⟨_, rfl⟩
   rw [hr1] at hcell hcl
   clear hcc hrw hr1 rC
   by_cases h9 : r = 9
   ·subst h9
    go_wp2_with fail
    go_roundw
    case rel => exact ⟨i + 1, by omega, by go_num, hBr⟩
    case measure => simp [intOf]; omega
   by_cases h10 : r = 10
   ·subst h10
    go_wp2_with fail
    go_roundw
    case rel => exact ⟨i + 1, by omega, by go_num, hBr⟩
    case measure => simp [intOf]; omega
   by_cases h13 : r = 13
   ·subst h13
    go_wp2_with fail
    go_roundw
    case rel => exact ⟨i + 1, by omega, by go_num, hBr⟩
    case measure => simp [intOf]; omega
   by_cases ha : r < 32
   ·exfalso; unfold clnP at hcl; simp [h9, h10, h13] at hcl; omega
   have hb : 32 ≤ r := by omega
   by_cases hc : r < 127
   ·have hd : ¬ (127 ≤ r) := by omega
    go_wp2_with fail
    go_roundw
    case rel => exact ⟨i + 1, by omega, by go_num, hBr⟩
    case measure => simp [intOf]; omega
   have hd : 127 ≤ r := by omega
   by_cases he : r ≤ 159
   ·exfalso; unfold clnP at hcl; simp [h9, h10, h13] at hcl; omega
   have hf : 159 < r := by omega
   go_wp2_with fail
   go_roundw
   case rel => exact ⟨i + 1, by omega, by go_num, hBr⟩
   case measure => simp [intOf]; omega
  ·have t1 : ¬ ((i : Int) < (m : Int)) := by omega
   obtain rfl : m = i := by omega
   have hB4 := hB3.trans (hBr.mono hB3.size)
   replace rB := rB.below hBr
   clear rC hBr
   go_wp2_with fail
   refine (HA2.out _ hB4).mono ?_
   rintro y w5 ⟨D, f3, rfl, rD, hb5⟩
   have hB5 := hB4.trans (hb5.mono hB4.size)
   replace rB := rB.below hb5
   clear hB4 hb5 HA2
   go_wp2_with fail
   go_loopw [11, 12] (fun y z wr => ∃ (i : Nat) (b : Bool), i ≤ m2 ∧ z = .int .i64 i ∧ y = .bool b ∧ Hid ((q && (K2.take i).all clnP) = b) ∧ Below w5.heap.size w5 wr) (fun _ z _ => m2 - (intOf z).toNat)
   case atStart => exact ⟨0, q, Nat.zero_le _, rfl, rfl, Lib.hid (by simp), Below.refl _ _⟩
   case round =>
    obtain ⟨i, b, hi, rfl, rfl, hbq, hBr⟩ := hrel
    by_cases hlt : i < m2
    ·have t1 : (i : Int) < (m2 : Int) := by omega
     have t0 : (0 : Int) ≤ (i : Int) := by omega
     have hrw := rD.below hBr
     obtain ⟨b', o, rfl, hbb, hcc⟩ := hrw.int_at (by have := HM2.out; omega)
     have hii : i < K2.length := by have := HM2.out; omega
     have hcell := hcc i hii
     obtain ⟨r, hr1⟩ : ∃ r, K2[i] = r := ⟨_, rfl⟩
     have HQ : Hid (∀ b', (b && clnP r) = b' → (q && (K2.take (i + 1)).all clnP) = b') := Lib.hid fun b' hb' => by rw [all_take hii, hr1, ← Bool.and_assoc, hbq.out, hb']
     rw [hr1] at hcell
     clear hcc hrw hr1 rD hbq
     cases b with
     | false =>
       clear hcell
       have HF := Lib.hid (HQ.out false rfl)
       clear HQ
       go_wp2_with fail
       go_roundw
       case rel => exact ⟨i + 1, false, by omega, by go_num, rfl, HF, hBr⟩
       case measure => simp [intOf]; omega
     | true =>
       by_cases h9 : r = 9
       ·subst h9
        go_wp2_with fail
        go_roundw
        case rel => exact ⟨i + 1, _, by omega, by go_num, rfl, Lib.hid (HQ.out _ (by first | decide | (simp [clnP, *]; done) | (simp [clnP, *]; omega))), hBr⟩
        case measure => simp [intOf]; omega
       by_cases h10 : r = 10
       ·subst h10
        go_wp2_with fail
        go_roundw
        case rel => exact ⟨i + 1, _, by omega, by go_num, rfl, Lib.hid (HQ.out _ (by first | decide | (simp [clnP, *]; done) | (simp [clnP, *]; omega))), hBr⟩
        case measure => simp [intOf]; omega
       by_cases h13 : r = 13
       ·subst h13
        go_wp2_with fail
        go_roundw
        case rel => exact ⟨i + 1, _, by omega, by go_num, rfl, Lib.hid (HQ.out _ (by first | decide | (simp [clnP, *]; done) | (simp [clnP, *]; omega))), hBr⟩
        case measure => simp [intOf]; omega
       by_cases ha : r < 32
       ·have hb : ¬ (32 ≤ r) := by omega
        go_wp2_with fail
        go_roundw
        case rel => exact ⟨i + 1, _, by omega, by go_num, rfl, Lib.hid (HQ.out _ (by first | decide | (simp [clnP, *]; done) | (simp [clnP, *]; omega))), hBr⟩
        case measure => simp [intOf]; omega
       have hb : 32 ≤ r := by omega
       by_cases hc : r < 127
       ·have hd : ¬ (127 ≤ r) := by omega
        go_wp2_with fail
        go_roundw
        case rel => exact ⟨i + 1, _, by omega, by go_num, rfl, Lib.hid (HQ.out _ (by first | decide | (simp [clnP, *]; done) | (simp [clnP, *]; omega))), hBr⟩
        case measure => simp [intOf]; omega
       have hd : 127 ≤ r := by omega
       by_cases he : r ≤ 159
       ·have hf : ¬ (159 < r) := by omega
        go_wp2_with fail
        go_roundw
        case rel => exact ⟨i + 1, _, by omega, by go_num, rfl, Lib.hid (HQ.out _ (by first | decide | (simp [clnP, *]; done) | (simp [clnP, *]; omega))), hBr⟩
        case measure => simp [intOf]; omega
       have hf : 159 < r := by omega
       go_wp2_with fail
       go_roundw
       case rel => exact ⟨i + 1, _, by omega, by go_num, rfl, Lib.hid (HQ.out _ (by first | decide | (simp [clnP, *]; done) | (simp [clnP, *]; omega))), hBr⟩
       case measure => simp [intOf]; omega
    ·have t1 : ¬ ((i : Int) < (m2 : Int)) := by omega
     obtain rfl : m2 = i := by omega
     have hz := HZ.out
     rw [← HM2.out, List.take_length] at hbq
     rw [hbq.out] at hz
     have HSE := Lib.hid fun x y w => seq_eql L l b hz x y w
     have hB9 := hB5.trans (hBr.mono hB5.size)
     replace rB := rB.below hBr
     have rA := hr.below hB9
     clear hz hbq rD hBr hB5
     have hst : ∀ f ∈ ([⟨6, 133, FB L⟩] : List Fact), f.ok := List.forall_mem_cons.2 ⟨fb_ok _ _ _, fun _ h => by cases h⟩
     go_upto_region 18 with (fail)
     refine wp_region_told (w1 := wr) (K := [⟨6, 133, FB L⟩]) (ix := 1000) (R0 := fun _ _ _ => True) (R1 := fun _ _ _ => True) [133] (⟨#[.slice A n c, undef, .bool true, .bool true, .slice B x f, .slice C m f2, .bool true, .int .i64 (m : Int), u8, .slice D m2 f3, .bool q, .bool b, .int .i64 (m2 : Int), .bool true, .slice A n c, .int .i64 (n : Int), .bool (decide ((300 : Int) < (n : Int))), undef, .slice A n c, .slice B x f, .tuple #[.slice C m f2, .bool true], .slice B x f, .tuple #[.slice C m f2, .bool true], .slice C m f2, .bool true, .int .i64 (m : Int), .slice C m f2, .int .i64 (m : Int), .bool false, u29, u30, u31, u32, u33, u34, u35, u36, u37, u38, u39, u40, u41, u42, u43, u44, u45, u46, u47, u48, u49, u50, u51, u52, u53, u54, u55, u56, u57, u58, u59, u60, u61, u62, u63, u64, u65, u66, u67, u68, u69, u70, u71, .tuple #[.slice D m2 f3, .bool q], .slice A n c, .tuple #[.slice D m2 f3, .bool q], .slice D m2 f3, .bool q, .bool q, .int .i64 (m2 : Int), .slice D m2 f3, .int .i64 (m2 : Int), .bool false, u82, u83, u84, u85, u86, u87, u88, u89, u90, u91, u92, u93, u94, u95, u96, u97, u98, u99, u100, u101, u102, u103, u104, u105, u106, u107, u108, u109, u110, u111, u112, u113, u114, u115, u116, u117, u118, u119, u120, u121, u122, u123, u124, u125, u126, .bool true, .bool true, .bool true, .bool true, .bool true, .slice B x f, undef, .string ⟨L.toArray⟩, .slice B x f, .string ⟨L.toArray⟩, .bool true, .bool true, .bool true, .slice B x f, .string ⟨L.toArray⟩, .slice A n c, .string ⟨l.toArray⟩, .bool b, .bool b, .bool true, .bool true, .bool true, .slice B x f, .int .i64 (x : Int), .slice A n c, .int .i64 (n : Int), .bool true, .bool true], []⟩) (fun g => ⟨#[.slice A n c, undef, .bool true, .bool true, .slice B x f, .slice C m f2, .bool true, .int .i64 (m : Int), u8, .slice D m2 f3, .bool q, .bool b, .int .i64 (m2 : Int), .bool true, .slice A n c, .int .i64 (n : Int), .bool (decide ((300 : Int) < (n : Int))), undef, .slice A n c, .slice B x f, .tuple #[.slice C m f2, .bool true], .slice B x f, .tuple #[.slice C m f2, .bool true], .slice C m f2, .bool true, .int .i64 (m : Int), .slice C m f2, .int .i64 (m : Int), .bool false, u29, u30, u31, u32, u33, u34, u35, u36, u37, u38, u39, u40, u41, u42, u43, u44, u45, u46, u47, u48, u49, u50, u51, u52, u53, u54, u55, u56, u57, u58, u59, u60, u61, u62, u63, u64, u65, u66, u67, u68, u69, u70, u71, .tuple #[.slice D m2 f3, .bool q], .slice A n c, .tuple #[.slice D m2 f3, .bool q], .slice D m2 f3, .bool q, .bool q, .int .i64 (m2 : Int), .slice D m2 f3, .int .i64 (m2 : Int), .bool false, u82, u83, u84, u85, u86, u87, u88, u89, u90, u91, u92, u93, u94, u95, u96, u97, u98, u99, u100, u101, u102, u103, u104, u105, u106, u107, u108, u109, u110, u111, u112, u113, u114, u115, u116, u117, u118, u119, u120, u121, u122, u123, u124, u125, u126, .bool true, .bool true, .bool true, .bool true, .bool true, .slice B x f, (g 133), .string ⟨L.toArray⟩, .slice B x f, .string ⟨L.toArray⟩, .bool true, .bool true, .bool true, .slice B x f, .string ⟨L.toArray⟩, .slice A n c, .string ⟨l.toArray⟩, .bool b, .bool b, .bool true, .bool true, .bool true, .slice B x f, .int .i64 (x : Int), .slice A n c, .int .i64 (n : Int), .bool true, .bool true], []⟩) [.bool true, .bool true, .bool true, .bool true, .bool true, .slice B x f, undef, .string ⟨L.toArray⟩, .slice B x f, .string ⟨L.toArray⟩, .bool true, .bool true, .bool true, .slice B x f, .string ⟨L.toArray⟩, .slice A n c, .string ⟨l.toArray⟩, .bool b, .bool b, .bool true, .bool true, .bool true, .slice B x f, .int .i64 (x : Int), .slice A n c, .int .i64 (n : Int), .bool true, .bool true, .bool true] (by kernel_rfl) (by kernel_rfl) (by kernel_rfl) (fun g => by kernel_rfl) (by kernel_rfl) (Below.refl _ _).drew (by decide) (by kernel_rfl)
      (goes_cons (gkP (fun _ => .bool true))
      (goes_cons (gkP (fun _ => .bool true))
      (goes_cons (gkP (fun _ => .bool true))
      (goes_cons (gkP (fun _ => .bool true))
      (goes_cons (gkP (fun _ => .bool true))
      (goes_cons (gkP (fun _ => .slice B x f))
      (goes_cons (gkG (fun g => #[.slice B x f]) hst 0 (fun g W hW hin => outP_b17 (HCC.out W B f (hB9.trans (hW.mono hB9.size)) hxf (rB.below hW))))
      (goes_cons (goesK_str 0 rfl (by kernel_rfl) Tryd.underlying24 Tryd.underlying5 Tryd.underlying9 hst (ahead_none (by decide)) rfl (by decide) (by decide) (by kernel_rfl) (fun g => by kernel_rfl) rfl (fun g => by kernel_rfl) rfl (fun g => by kernel_rfl))
      (goes_cons (gkP (fun _ => .slice B x f))
      (goes_cons (goesK_conv (c := f) HX.out (fun W hW => rB.below hW) Tryd.underlying24 Tryd.underlying5 Tryd.underlying9 hst (ahead_none (by decide)) rfl (by decide) (by decide) (by kernel_rfl) (fun g => by kernel_rfl) rfl (fun g => by kernel_rfl) rfl (fun g => by kernel_rfl))
      (goes_cons (goesK_bin (v := .bool true) (xv := .string ⟨L.toArray⟩) (yv := .string ⟨L.toArray⟩) rfl (by decide) (by decide) (by kernel_rfl) (fun g => by kernel_rfl) rfl (fun g => by kernel_rfl) rfl (fun g => by kernel_rfl) (fun g => by kernel_rfl) (fun w => by go_simp))
      (goes_cons (gkP (fun _ => .bool true))
      (goes_cons (gkP (fun _ => .bool true))
      (goes_cons (gkP (fun _ => .slice B x f))
      (goes_cons (goesK_conv (c := f) HX.out (fun W hW => rB.below hW) Tryd.underlying24 Tryd.underlying5 Tryd.underlying9 hst (ahead_none (by decide)) rfl (by decide) (by decide) (by kernel_rfl) (fun g => by kernel_rfl) rfl (fun g => by kernel_rfl) rfl (fun g => by kernel_rfl))
      (goes_cons (gkP (fun _ => .slice A n c))
      (goes_cons (goesK_conv (c := c) HN.out (fun W hW => rA.below hW) Tryd.underlying24 Tryd.underlying5 Tryd.underlying9 hst (ahead_none (by decide)) rfl (by decide) (by decide) (by kernel_rfl) (fun g => by kernel_rfl) rfl (fun g => by kernel_rfl) rfl (fun g => by kernel_rfl))
      (goes_cons (gkB (.bool b) (.string ⟨L.toArray⟩) (.string ⟨l.toArray⟩) (HSE.out _ _))
      (goes_cons (gkP (fun _ => .bool b))
      (goes_cons (goesK_bin (v := .bool true) (xv := .bool b) (yv := .bool b) rfl (by decide) (by decide) (by kernel_rfl) (fun g => by kernel_rfl) rfl (fun g => by kernel_rfl) rfl (fun g => by kernel_rfl) (fun g => by kernel_rfl) (hsimpZ b))
      (goes_cons (gkP (fun _ => .bool true))
      (goes_cons (gkP (fun _ => .bool true))
      (goes_cons (gkP (fun _ => .slice B x f))
      (goes_cons (gkP (fun _ => .int .i64 (x : Int)))
      (goes_cons (gkP (fun _ => .slice A n c))
      (goes_cons (gkP (fun _ => .int .i64 (n : Int)))
      (goes_cons (goesK_bin (v := .bool true) (xv := .int .i64 (x : Int)) (yv := .int .i64 (n : Int)) rfl (by decide) (by decide) (by kernel_rfl) (fun g => by kernel_rfl) rfl (fun g => by kernel_rfl) rfl (fun g => by kernel_rfl) (fun g => by kernel_rfl) hsimpL)
      (goes_cons (gkP (fun _ => .bool true))
      (goes_cons (gkP (fun _ => .bool true)) goes_nil))))))))))))))))))))))))))))) ?_
     intro g W hW _
     have hB10 := hB9.trans (hW.mono hB9.size)
     generalize g 133 = v133
     clear hst
     go_wp2_with fail
     go_ret
     exact ⟨rfl, hB10⟩
end Go.Proofs.YtgaoijinchakoaaDoor
