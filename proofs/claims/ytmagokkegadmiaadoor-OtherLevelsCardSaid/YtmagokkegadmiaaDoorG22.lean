/-
  Layer 9, the landed keys, walked: a row's entry. Layer 3, walked: the program's reader: skip, run, one, part. Layer 3, walked: the program's reader: run.
-/
import Derived.Test.YtmagokkegadmiaaDoorG03
import Derived.Test.YtmagokkegadmiaaDoorG07
import Derived.Test.YtmagokkegadmiaaDoorG09
import Derived.Test.YtmagokkegadmiaaDoorG17
import Derived.Test.YtmagokkegadmiaaDoorG20
import Derived.Deep.RegionHeld
import Derived.Deep.RegionHeld3
namespace Go.Proofs.YtmagokkegadmiaaDoor
open Go.RowKit

set_option maxRecDepth 100000 in
set_option maxHeartbeats 4000000 in
theorem entry_any (F L K : Int) (s : ByteArray) (ns : List Int) (m : Nat) (hm : ns.length = m) (u : ByteArray) (B : Bool) (A : Option Addr) (cp a : Nat) (ha : a ≤ 100000) (_hF : 0 ≤ F) (_hF2 : F ≤ 60000) (_hs : s.size ≤ 100) (hm2 : m ≤ 100) (_hu : u.size ≤ 100) (w : World) (hr : Rd w A (is_ ns)) :
    Calls Tryd.prog 35 #[.agg #[.int .i64 F, .int .i64 L, .int .i64 K, .string s, .slice A m cp, .string u, .bool B], .int .i64 (F + (a : Int))] w fun e w' => e = .returned (.agg #[.int .i64 K, .int .u8 (sbK s a), .int .i64 (ns.getD a 0), .int .i64 (sbK u a), .bool B]) ∧ Below w.heap.size w w' := by
  have hB : ∀ x y z, Below w.heap.size w (((w.alloc x).alloc y).alloc z) := fun x y z => (below_two x y).alloc (by simp; omega) _
  go_enter Tryd.func35, Tryd.ntmps35
  have e0 : F + (a : Int) - F = (a : Int) := by omega
  have k0 : (0 : Int) ≤ (a : Int) := by omega
  obtain HM : Hid (ns.length = m) := Lib.hid hm
  clear hm
  by_cases h1 : a < m
  · have q1 : (a : Int) < (m : Int) := by omega
    obtain ⟨b, o, rfl, hb, hc⟩ := hr.int_at (by rw [HM.out]; omega)
    have hx := hc a (by rw [HM.out]; exact h1)
    have N1 := Lib.hid (getD_yes (l := ns) (a := a) (by rw [HM.out]; exact h1))
    obtain ⟨x, hx2⟩ : ∃ x, ns[a]'(by rw [HM.out]; exact h1) = x := ⟨_, rfl⟩
    rw [hx2] at hx N1
    have hxW : ∀ o1 o2 o3, (((w.alloc o1).alloc o2).alloc o3).cell? ⟨b, o + a, none⟩ = some (.int .i64 x) := fun o1 o2 o3 => ((hB o1 o2 o3).cell (p := ⟨b, o + a, none⟩) hb).trans hx
    clear hc hx2
    by_cases h2 : a < s.size
    · have q2 : (a : Int) < (s.size : Int) := by omega
      have N2 := Lib.hid (sbK_yes h2)
      by_cases h3 : a < u.size
      · have q3 : (a : Int) < (u.size : Int) := by omega
        have N3 := Lib.hid (sbK_yes h3)
        have hd := (u[a]'h3).toNat_lt
        have wd : wrap64 ((u[a]'h3).toNat : Int) = ((u[a]'h3).toNat : Int) := by unfold wrap64; omega
        go_wp2
        refine bodyPost_ret (v := .agg #[.int .i64 K, .int .u8 (sbK s a), .int .i64 (ns.getD a 0), .int .i64 (sbK u a), .bool B]) (by rw [N2.out, N1.out, N3.out]; simp [results, Tryd.results35, go_sem]) rfl ⟨rfl, hB _ _ _⟩
      · have q3 : (u.size : Int) ≤ (a : Int) := by omega
        have N3 := Lib.hid (sbK_no h3)
        go_wp2
        refine bodyPost_ret (v := .agg #[.int .i64 K, .int .u8 (sbK s a), .int .i64 (ns.getD a 0), .int .i64 (sbK u a), .bool B]) (by rw [N2.out, N1.out, N3.out]; simp [results, Tryd.results35, go_sem]) rfl ⟨rfl, hB _ _ _⟩
    · have q2 : (s.size : Int) ≤ (a : Int) := by omega
      have N2 := Lib.hid (sbK_no h2)
      by_cases h3 : a < u.size
      · have q3 : (a : Int) < (u.size : Int) := by omega
        have N3 := Lib.hid (sbK_yes h3)
        have hd := (u[a]'h3).toNat_lt
        have wd : wrap64 ((u[a]'h3).toNat : Int) = ((u[a]'h3).toNat : Int) := by unfold wrap64; omega
        go_wp2
        refine bodyPost_ret (v := .agg #[.int .i64 K, .int .u8 (sbK s a), .int .i64 (ns.getD a 0), .int .i64 (sbK u a), .bool B]) (by rw [N2.out, N1.out, N3.out]; simp [results, Tryd.results35, go_sem]) rfl ⟨rfl, hB _ _ _⟩
      · have q3 : (u.size : Int) ≤ (a : Int) := by omega
        have N3 := Lib.hid (sbK_no h3)
        go_wp2
        refine bodyPost_ret (v := .agg #[.int .i64 K, .int .u8 (sbK s a), .int .i64 (ns.getD a 0), .int .i64 (sbK u a), .bool B]) (by rw [N2.out, N1.out, N3.out]; simp [results, Tryd.results35, go_sem]) rfl ⟨rfl, hB _ _ _⟩
  · have q1 : (m : Int) ≤ (a : Int) := by omega
    have N1 := Lib.hid (getD_no (l := ns) (a := a) (by rw [HM.out]; exact h1))
    by_cases h2 : a < s.size
    · have q2 : (a : Int) < (s.size : Int) := by omega
      have N2 := Lib.hid (sbK_yes h2)
      by_cases h3 : a < u.size
      · have q3 : (a : Int) < (u.size : Int) := by omega
        have N3 := Lib.hid (sbK_yes h3)
        have hd := (u[a]'h3).toNat_lt
        have wd : wrap64 ((u[a]'h3).toNat : Int) = ((u[a]'h3).toNat : Int) := by unfold wrap64; omega
        go_wp2
        refine bodyPost_ret (v := .agg #[.int .i64 K, .int .u8 (sbK s a), .int .i64 (ns.getD a 0), .int .i64 (sbK u a), .bool B]) (by rw [N2.out, N1.out, N3.out]; simp [results, Tryd.results35, go_sem]) rfl ⟨rfl, hB _ _ _⟩
      · have q3 : (u.size : Int) ≤ (a : Int) := by omega
        have N3 := Lib.hid (sbK_no h3)
        go_wp2
        refine bodyPost_ret (v := .agg #[.int .i64 K, .int .u8 (sbK s a), .int .i64 (ns.getD a 0), .int .i64 (sbK u a), .bool B]) (by rw [N2.out, N1.out, N3.out]; simp [results, Tryd.results35, go_sem]) rfl ⟨rfl, hB _ _ _⟩
    · have q2 : (s.size : Int) ≤ (a : Int) := by omega
      have N2 := Lib.hid (sbK_no h2)
      by_cases h3 : a < u.size
      · have q3 : (a : Int) < (u.size : Int) := by omega
        have N3 := Lib.hid (sbK_yes h3)
        have hd := (u[a]'h3).toNat_lt
        have wd : wrap64 ((u[a]'h3).toNat : Int) = ((u[a]'h3).toNat : Int) := by unfold wrap64; omega
        go_wp2
        refine bodyPost_ret (v := .agg #[.int .i64 K, .int .u8 (sbK s a), .int .i64 (ns.getD a 0), .int .i64 (sbK u a), .bool B]) (by rw [N2.out, N1.out, N3.out]; simp [results, Tryd.results35, go_sem]) rfl ⟨rfl, hB _ _ _⟩
      · have q3 : (u.size : Int) ≤ (a : Int) := by omega
        have N3 := Lib.hid (sbK_no h3)
        go_wp2
        refine bodyPost_ret (v := .agg #[.int .i64 K, .int .u8 (sbK s a), .int .i64 (ns.getD a 0), .int .i64 (sbK u a), .bool B]) (by rw [N2.out, N1.out, N3.out]; simp [results, Tryd.results35, go_sem]) rfl ⟨rfl, hB _ _ _⟩
end Go.Proofs.YtmagokkegadmiaaDoor
namespace Go.Proofs.YtmagokkegadmiaaDoor
open Go.RowKit

/-- A taker's box: the bytes, where it stands, the sequence's six fields. -/
def tkC (A : Option Addr) (n c at_ : Nat) (x0 x1 x2 x3 x4 x5 : Value) : Array Value := #[.slice A n c, .int .i64 (at_ : Int), x0, x1, x2, x3, x4, x5]
/-- A reader that has so many bytes left. -/
def Rdr (w : World) (g : Nat) (A : Option Addr) (c : Nat) (l : List UInt8) (x0 x1 x2 x3 x4 x5 : Value) (r : List UInt8) : Prop :=
  ∃ at_ : Nat, at_ ≤ l.length ∧ l.drop at_ = r ∧ RdIn g w A (bs l) ∧ Blk w g 74 (tkC A l.length c at_ x0 x1 x2 x3 x4 x5)
theorem bytesIn_of {w : World} {A : Option Addr} {l : List UInt8} (h : Rd w A (bs l)) : Lib.BytesIn w A l.length (l.map fun x => (x.toNat : Int)) := fun hn => by
  obtain ⟨b, o, rfl, _, hc⟩ := h.at_ hn
  refine ⟨b, o, rfl, fun i hi => ?_⟩
  rw [hc i hi]
  simp [List.getD, List.getElem?_eq_getElem hi]
theorem hasp_any (A1 A2 : Option Addr) (n c m d : Nat) (l t : List UInt8) (q : Bool) (w : World) (hl : l.length = n) (ht : t.length = m) (hc : n ≤ c) (hq : skipB t l = q) (h1 : Rd w A1 (bs l)) (h2 : Rd w A2 (bs t)) :
    Calls Tryd.prog 46 #[.slice A1 n c, .slice A2 m d] w fun e w' => e = .returned (.bool q) ∧ w = w' := by
  subst hl
  subst ht
  refine (Tryd.bytes_HasPrefix_all A1 A2 _ c _ d (l.map fun x => (x.toNat : Int)) (t.map fun x => (x.toNat : Int)) w (by simp) (by simp) hc (bytesIn_of h1) (bytesIn_of h2)).mono ?_
  rintro e w' ⟨rfl, rfl⟩
  refine ⟨?_, rfl⟩
  have e : ∀ k : List UInt8, Lib.bytesOf (k.map fun x => (x.toNat : Int)) = k := fun k => by
    unfold Lib.bytesOf
    rw [List.map_map]
    calc k.map ((fun n : Int => UInt8.ofNat n.toNat) ∘ fun x : UInt8 => (x.toNat : Int)) = k.map id := List.map_congr_left (fun x _ => by simp)
      _ = k := List.map_id k
  rw [e, e, ← hq]
  rfl
set_option maxRecDepth 100000 in
set_option maxHeartbeats 4000000 in
theorem skip_any (g : Nat) (A : Option Addr) (c : Nat) (l t r : List UInt8) (x0 x1 x2 x3 x4 x5 : Value) (q : Bool) (w : World) (hq : skipB t r = q) (hlc : l.length ≤ c) (hl : l.length ≤ 4294967296) (ht : t.length ≤ 4294967296) (h : Rdr w g A c l x0 x1 x2 x3 x4 x5 r) :
    Calls Tryd.prog 28 #[.pointer (some ⟨g, 0, none⟩), .string ⟨t.toArray⟩] w fun e w' => e = .returned (.bool q) ∧ Rdr w' g A c l x0 x1 x2 x3 x4 x5 (if q = true then r.drop t.length else r) ∧ w.grownBy w' (some g) := by
  obtain ⟨at_, hat, hr, hrd, hblk⟩ := h
  have hlt := hblk.lt
  obtain ⟨A', hcut, hrd2⟩ := cut_run (P := Tryd.prog) (T := 27) (e := 5) (by kernel_rfl) Tryd.underlying27 Tryd.sizeOf5 A l.length c at_ hat hlc
  have hrd3 := hrd2 g w l rfl hrd
  obtain ⟨C, X, hX⟩ := conv_all Tryd.prog 9 27 5 t Tryd.underlying9 Tryd.underlying27 Tryd.underlying5 (by simp only [maxLen]; omega)
  have hV := fun W => (hX W).1
  have HX := Lib.hid (fun W => (hX W).2.2)
  have c0 : w.cell? ⟨g, 0, none⟩ = some (.slice A l.length c) := hblk.cell 0
  have c1 : w.cell? ⟨g, 1, none⟩ = some (.int .i64 (at_ : Int)) := hblk.cell 1
  have fz := hblk.frozen 1
  have HQ := Lib.hid hq
  have HR := Lib.hid hr
  clear hq hr hX
  have n0 : (0 : Int) ≤ (at_ : Int) := by omega
  have n1 : (at_ : Int) ≤ (l.length : Int) := by omega
  go_enter Tryd.func28, Tryd.ntmps28
  go_wp2_with fail
  have HB : Hid (∀ W, Below w.heap.size w W → Below w.heap.size w (X W)) := Lib.hid fun W hb => hb.trans ((HX.out W).2.mono hb.size)
  have HS : Hid (∀ W, Below w.heap.size w W → W.cell? ⟨g, 0, none⟩ = some (.slice A l.length c) ∧ W.cell? ⟨g, 1, none⟩ = some (.int .i64 (at_ : Int)) ∧ Below w.heap.size w W) := Lib.hid fun W hb => ⟨(hb.cell (p := ⟨g, 0, none⟩) hlt).trans c0, (hb.cell (p := ⟨g, 1, none⟩) hlt).trans c1, hb⟩
  have HR3 : Hid (∀ W, Below w.heap.size w W → Rd W A' (bs (l.drop at_))) := Lib.hid fun W hb => ((hrd3.rd (Nat.le_of_lt hlt))).below hb
  have HL := Lib.hid (show (l.drop at_).length = l.length - at_ from List.length_drop)
  have HQ2 := Lib.hid (show skipB t (l.drop at_) = q by rw [HR.out]; exact HQ.out)
  have hlc2 : l.length - at_ ≤ c - at_ := by omega
  have hat2 := hat
  clear hrd2 hrd3
  go_region_held (fun w' => w'.cell? ⟨g, 0, none⟩ = some (.slice A l.length c) ∧ w'.cell? ⟨g, 1, none⟩ = some (.int .i64 (at_ : Int)) ∧ Below w.heap.size w w') (first | exact HS.out _ (Below.refl _ _).drew | exact HS.out _ (HB.out _ (Below.refl _ _).drew)) (first | (go_at_call 46; refine (hasp_any A' _ _ _ _ _ (l.drop at_) t q _ HL.out rfl hlc2 HQ2.out (HR3.out _ (HB.out _ (Below.refl _ _).drew)) (HX.out _).1).mono ?_; rintro e w2 ⟨rfl, rfl⟩))
  have hbX := HB.out _ (Below.refl w.heap.size w).drew
  clear hcut hV HX HS HB HR3 HL hlc2 HQ2
  generalize X w.drew = W1 at *
  clear X
  have hblk1 := hblk.below hbX hlt
  have hrd1 := hrd.below (hbX.mono (Nat.le_of_lt hlt))
  have d1 : W1.cell? ⟨g, 1, none⟩ = some (.int .i64 (at_ : Int)) := hblk1.cell 1
  have fz1 := hblk1.frozen 1
  have hg1 := grown_below (some g) hbX
  clear c0 c1 fz
  cases q with
  | false =>
    go_wp2_with fail
    go_ret
    exact ⟨rfl, ⟨at_, hat, HR.out, hrd1, hblk1⟩, hg1⟩
  | true =>
    have hp := skipB_some HQ.out
    have hlen := congrArg List.length hp
    rw [List.length_append, ← HR.out, List.length_drop] at hlen
    have hle : at_ + t.length ≤ l.length := by omega
    have HP := Lib.hid (show l.drop (at_ + t.length) = r.drop t.length by rw [← HR.out, List.drop_drop])
    clear hp hlen
    go_wp2_with fail
    go_ret
    refine ⟨rfl, ⟨at_ + t.length, hle, HP.out, ?_, ?_⟩, ?_⟩
    · exact RdIn.grown hrd1 (grown_setCell g 1 _ W1) hblk1.lt
    · have := hblk1.set 1 (.int .i64 ((at_ + t.length : Nat) : Int))
      rw [Int.natCast_add] at this
      exact this
    · exact grown_trans hg1 (grown_setCell g 1 _ W1)
end Go.Proofs.YtmagokkegadmiaaDoor
namespace Go.Proofs.YtmagokkegadmiaaDoor
open Go.RowKit

/-- Where the box stands. -/
def atOf (w : World) (g : Nat) : Nat := match w.cell? ⟨g, 1, none⟩ with | some (.int _ i) => i.toNat | _ => 0
theorem atOf_blk {w : World} {g : Nat} {t : TypeId} {A : Option Addr} {n c k : Nat} {x0 x1 x2 x3 x4 x5 : Value} (h : Blk w g t (tkC A n c k x0 x1 x2 x3 x4 x5)) : atOf w g = k := by
  unfold atOf
  rw [show w.cell? ⟨g, 1, none⟩ = some (.int .i64 (k : Int)) from h.cell 1]
  simp

set_option maxRecDepth 100000 in
set_option maxHeartbeats 8000000 in
theorem run2_any (g : Nat) (A : Option Addr) (c a b m : Nat) (l r u : List UInt8) (x0 x1 x2 x3 x4 x5 : Value) (w : World) (hu : runF a b m r = u) (hlc : l.length ≤ c) (hl : l.length ≤ 4294967296) (hm : m ≤ 4294967296) (h : Rdr w g A c l x0 x1 x2 x3 x4 x5 r) :
    Calls Tryd.prog 49 #[.pointer (some ⟨g, 0, none⟩), .int .u8 a, .int .u8 b, .int .i64 m] w fun e w' => e = .returned (.string ⟨u.toArray⟩) ∧ Rdr w' g A c l x0 x1 x2 x3 x4 x5 (r.drop u.length) ∧ w.grownBy w' (some g) := by
  obtain ⟨at_, hat, hr, hrd, hblk⟩ := h
  have hlt := hblk.lt
  have c0 : w.cell? ⟨g, 0, none⟩ = some (.slice A l.length c) := hblk.cell 0
  have c1 : w.cell? ⟨g, 1, none⟩ = some (.int .i64 (at_ : Int)) := hblk.cell 1
  have HU := Lib.hid hu
  have HR := Lib.hid hr
  clear hu hr
  go_enter Tryd.func49, Tryd.ntmps49
  go_wp2_with fail
  go_loopw [] (fun wr => ∃ k : Nat, k ≤ m ∧ at_ + k ≤ l.length ∧ (r.take k).all (btw a b) = true ∧ RdIn g wr A (bs l) ∧ Blk wr g 74 (tkC A l.length c (at_ + k) x0 x1 x2 x3 x4 x5) ∧ w.grownBy wr (some g)) (fun wr => l.length - atOf wr g)
  case atStart => exact ⟨0, Nat.zero_le _, hat, rfl, hrd, hblk, World.grownBy.refl _ _⟩
  case round =>
    obtain ⟨k, hkm, hkl, hall, hrd1, hblk1, hg1⟩ := hrel
    have hlt1 := hblk1.lt
    obtain ⟨p, hp⟩ : ∃ p, at_ + k = p := ⟨_, rfl⟩
    have HP := Lib.hid hp
    rw [hp] at hkl hblk1
    clear hp
    have d0 : wr.cell? ⟨g, 0, none⟩ = some (.slice A l.length c) := hblk1.cell 0
    have d1 : wr.cell? ⟨g, 1, none⟩ = some (.int .i64 (p : Int)) := hblk1.cell 1
    have fz1 := hblk1.frozen 1
    have HA := Lib.hid hall
    clear hall c0 c1
    have hrl := Lib.hid (show r.length = l.length - at_ by rw [← HR.out, List.length_drop])
    have hke : k ≤ r.length := by rw [hrl.out]; have := HP.out; omega
    by_cases h1 : p < l.length
    · have k1 : (p : Int) < (l.length : Int) := by omega
      have ew : IntKind.i64.wrap ((p : Int) - (at_ : Int)) = (k : Int) := by rw [IntWalk.i64_in _ (by have := HP.out; omega)]; have := HP.out; omega
      have ew0 : (p : Int) - (at_ : Int) = (k : Int) := by have := HP.out; omega
      obtain ⟨b2, o2, hA, hb2, hcc⟩ := hrd1 (by rw [bs_length]; omega)
      cases hA
      have hcp := hcc p _ (bs_get l p h1)
      have hB8 : B8 (l[p]'h1) = .int .u8 ((l[p]'h1).toNat : Int) := rfl
      rw [hB8] at hcp
      obtain ⟨x, hx⟩ : ∃ x, l[p]'h1 = x := ⟨_, rfl⟩
      rw [hx] at hcp
      have hxl := x.toNat_lt
      have hkr : k < r.length := by rw [hrl.out]; have := HP.out; omega
      have HX := Lib.hid (show r[k]'hkr = x by
        rw [← hx]
        have : ∀ (t : List UInt8) (h : k < t.length) (h2 : t = l.drop at_), t[k]'h = l[p]'h1 := fun t h h2 => by subst h2; rw [List.getElem_drop]; simp only [HP.out]
        exact this r hkr HR.out.symm)
      clear hx hcc hB8
      by_cases h2 : k < m
      · have k2 : (k : Int) < (m : Int) := by omega
        by_cases h3 : a ≤ x.toNat
        · by_cases h4 : x.toNat ≤ b
          · have HN := Lib.hid (show (r.take (k + 1)).all (btw a b) = true by
              rw [List.take_succ_eq_append_getElem hkr, List.all_append, HA.out, HX.out]; simp [(btw_iff a b x).2 ⟨h3, h4⟩])
            go_wp2_with fail
            go_quiet (fail)
            go_wp2_with fail
            have hgs := grown_setCell g 1 (Value.int IntKind.i64 ((p : Int) + 1)) (wr.drewN nq)
            have hgd : wr.grownBy (wr.drewN nq) (some g) := ⟨rfl, rfl, rfl, Nat.le_refl _, fun _ _ _ => rfl⟩
            have hb3 : Blk ((wr.drewN nq).setCell ⟨g, 1, none⟩ (Value.int IntKind.i64 ((p : Int) + 1))) g 74 (tkC (some ⟨b2, o2, none⟩) l.length c (p + 1) x0 x1 x2 x3 x4 x5) := by
              have := (hblk1.drewN nq).set 1 (.int .i64 ((p : Int) + 1))
              exact this
            refine ⟨⟨k + 1, h2, by have := HP.out; omega, HN.out, RdIn.grown hrd1 (grown_trans hgd hgs) hlt1, ?_, grown_trans hg1 (grown_trans hgd hgs)⟩, ?_⟩
            · rw [show at_ + (k + 1) = p + 1 by have := HP.out; omega]; exact hb3
            · rw [atOf_blk hb3, atOf_blk hblk1]; omega
          · have h4 : b < x.toNat := by omega
            have HE := Lib.hid (show u = r.take k from HU.out.symm.trans (runF_end (by omega) hkm HA.out (.inr (.inr ⟨hkr, by rw [HX.out, btw_no]; omega⟩))))
            go_wp2_with fail
            go_quiet (fail)
            obtain ⟨A', hcut, hrd2⟩ := cut2_run (P := Tryd.prog) (T := 27) (e := 5) (by kernel_rfl) Tryd.underlying27 Tryd.sizeOf5 (some ⟨b2, o2, none⟩) l.length c at_ p (by omega) hkl hlc
            have hpk : p - at_ = k := by have := HP.out; omega
            rw [hpk] at hcut hrd2
            have hcv : ∀ a n, (convert 27 9 (.slice A' k (c - at_))).run Tryd.prog ((wr.drewN a).drewN n) = .ok (.string ⟨u.toArray⟩) ((wr.drewN a).drewN n) := fun a n => by
              have h2 := (hrd2 g wr l rfl hrd1).rd (Nat.le_of_lt hlt1)
              have e2 : (l.drop at_).take k = u := by rw [HR.out]; exact HE.out.symm
              rw [e2] at h2
              exact conv_str (w := (wr.drewN a).drewN n) Tryd.underlying27 Tryd.underlying5 (by rw [HE.out, List.length_take]; omega) h2 9 Tryd.underlying9
            clear hrd2 hpk
            go_wp2_with fail
            have hblk2 := hblk1.drewN nq
            have hrdW : RdIn g (wr.drewN nq) (some ⟨b2, o2, none⟩) (bs l) := hrd1
            have hgW : w.grownBy (wr.drewN nq) (some g) := ⟨hg1.os, hg1.tape, hg1.output, hg1.size, hg1.block⟩
            have hcv2 : ∀ n, (convert 27 9 (.slice A' k (c - at_))).run Tryd.prog ((wr.drewN nq).drewN n) = .ok (.string ⟨u.toArray⟩) ((wr.drewN nq).drewN n) := fun n => hcv nq n
            have hcv0 : (convert 27 9 (.slice A' k (c - at_))).run Tryd.prog (wr.drewN nq) = .ok (.string ⟨u.toArray⟩) (wr.drewN nq) := hcv nq 0
            clear hcv d0 d1 fz1 hg1 hrd1 hblk1
            generalize wr.drewN nq = W at *
            have e0 : W.cell? ⟨g, 0, none⟩ = some (.slice (some ⟨b2, o2, none⟩) l.length c) := hblk2.cell 0
            have e1 : W.cell? ⟨g, 1, none⟩ = some (.int .i64 (p : Int)) := hblk2.cell 1
            go_quiet (fail)
            go_wp2_with fail
            go_ret
            refine ⟨rfl, ⟨p, hkl, ?_, hrdW, hblk2.drewN _⟩, ⟨hgW.os, hgW.tape, hgW.output, hgW.size, hgW.block⟩⟩
            rw [HE.out, List.length_take, Nat.min_eq_left hke, ← HR.out, List.drop_drop, HP.out]
        · have h3 : x.toNat < a := by omega
          have HE := Lib.hid (show u = r.take k from HU.out.symm.trans (runF_end (by omega) hkm HA.out (.inr (.inr ⟨hkr, by rw [HX.out, btw_no]; omega⟩))))
          go_wp2_with fail
          go_quiet (fail)
          obtain ⟨A', hcut, hrd2⟩ := cut2_run (P := Tryd.prog) (T := 27) (e := 5) (by kernel_rfl) Tryd.underlying27 Tryd.sizeOf5 (some ⟨b2, o2, none⟩) l.length c at_ p (by omega) hkl hlc
          have hpk : p - at_ = k := by have := HP.out; omega
          rw [hpk] at hcut hrd2
          have hcv : ∀ a n, (convert 27 9 (.slice A' k (c - at_))).run Tryd.prog ((wr.drewN a).drewN n) = .ok (.string ⟨u.toArray⟩) ((wr.drewN a).drewN n) := fun a n => by
            have h2 := (hrd2 g wr l rfl hrd1).rd (Nat.le_of_lt hlt1)
            have e2 : (l.drop at_).take k = u := by rw [HR.out]; exact HE.out.symm
            rw [e2] at h2
            exact conv_str (w := (wr.drewN a).drewN n) Tryd.underlying27 Tryd.underlying5 (by rw [HE.out, List.length_take]; omega) h2 9 Tryd.underlying9
          clear hrd2 hpk
          go_wp2_with fail
          have hblk2 := hblk1.drewN nq
          have hrdW : RdIn g (wr.drewN nq) (some ⟨b2, o2, none⟩) (bs l) := hrd1
          have hgW : w.grownBy (wr.drewN nq) (some g) := ⟨hg1.os, hg1.tape, hg1.output, hg1.size, hg1.block⟩
          have hcv2 : ∀ n, (convert 27 9 (.slice A' k (c - at_))).run Tryd.prog ((wr.drewN nq).drewN n) = .ok (.string ⟨u.toArray⟩) ((wr.drewN nq).drewN n) := fun n => hcv nq n
          have hcv0 : (convert 27 9 (.slice A' k (c - at_))).run Tryd.prog (wr.drewN nq) = .ok (.string ⟨u.toArray⟩) (wr.drewN nq) := hcv nq 0
          clear hcv d0 d1 fz1 hg1 hrd1 hblk1
          generalize wr.drewN nq = W at *
          have e0 : W.cell? ⟨g, 0, none⟩ = some (.slice (some ⟨b2, o2, none⟩) l.length c) := hblk2.cell 0
          have e1 : W.cell? ⟨g, 1, none⟩ = some (.int .i64 (p : Int)) := hblk2.cell 1
          go_quiet (fail)
          go_wp2_with fail
          go_ret
          refine ⟨rfl, ⟨p, hkl, ?_, hrdW, hblk2.drewN _⟩, ⟨hgW.os, hgW.tape, hgW.output, hgW.size, hgW.block⟩⟩
          rw [HE.out, List.length_take, Nat.min_eq_left hke, ← HR.out, List.drop_drop, HP.out]
      · have k2 : (m : Int) ≤ (k : Int) := by omega
        have HE := Lib.hid (show u = r.take k from HU.out.symm.trans (runF_end (by omega) hkm HA.out (.inl (by omega))))
        go_wp2_with fail
        go_quiet (fail)
        obtain ⟨A', hcut, hrd2⟩ := cut2_run (P := Tryd.prog) (T := 27) (e := 5) (by kernel_rfl) Tryd.underlying27 Tryd.sizeOf5 (some ⟨b2, o2, none⟩) l.length c at_ p (by omega) hkl hlc
        have hpk : p - at_ = k := by have := HP.out; omega
        rw [hpk] at hcut hrd2
        have hcv : ∀ a n, (convert 27 9 (.slice A' k (c - at_))).run Tryd.prog ((wr.drewN a).drewN n) = .ok (.string ⟨u.toArray⟩) ((wr.drewN a).drewN n) := fun a n => by
          have h2 := (hrd2 g wr l rfl hrd1).rd (Nat.le_of_lt hlt1)
          have e2 : (l.drop at_).take k = u := by rw [HR.out]; exact HE.out.symm
          rw [e2] at h2
          exact conv_str (w := (wr.drewN a).drewN n) Tryd.underlying27 Tryd.underlying5 (by rw [HE.out, List.length_take]; omega) h2 9 Tryd.underlying9
        clear hrd2 hpk
        go_wp2_with fail
        have hblk2 := hblk1.drewN nq
        have hrdW : RdIn g (wr.drewN nq) (some ⟨b2, o2, none⟩) (bs l) := hrd1
        have hgW : w.grownBy (wr.drewN nq) (some g) := ⟨hg1.os, hg1.tape, hg1.output, hg1.size, hg1.block⟩
        have hcv2 : ∀ n, (convert 27 9 (.slice A' k (c - at_))).run Tryd.prog ((wr.drewN nq).drewN n) = .ok (.string ⟨u.toArray⟩) ((wr.drewN nq).drewN n) := fun n => hcv nq n
        have hcv0 : (convert 27 9 (.slice A' k (c - at_))).run Tryd.prog (wr.drewN nq) = .ok (.string ⟨u.toArray⟩) (wr.drewN nq) := hcv nq 0
        clear hcv d0 d1 fz1 hg1 hrd1 hblk1
        generalize wr.drewN nq = W at *
        have e0 : W.cell? ⟨g, 0, none⟩ = some (.slice (some ⟨b2, o2, none⟩) l.length c) := hblk2.cell 0
        have e1 : W.cell? ⟨g, 1, none⟩ = some (.int .i64 (p : Int)) := hblk2.cell 1
        go_quiet (fail)
        go_wp2_with fail
        go_ret
        refine ⟨rfl, ⟨p, hkl, ?_, hrdW, hblk2.drewN _⟩, ⟨hgW.os, hgW.tape, hgW.output, hgW.size, hgW.block⟩⟩
        rw [HE.out, List.length_take, Nat.min_eq_left hke, ← HR.out, List.drop_drop, HP.out]
    · have k1 : (l.length : Int) ≤ (p : Int) := by omega
      have hrl2 := hrl.out
      have hpp := HP.out
      have HE := Lib.hid (show u = r.take k from HU.out.symm.trans (runF_end (by omega) hkm HA.out (.inr (.inl (by omega)))))
      clear hrl2 hpp
      go_wp2_with fail
      go_quiet (fail)
      obtain ⟨A', hcut, hrd2⟩ := cut2_run (P := Tryd.prog) (T := 27) (e := 5) (by kernel_rfl) Tryd.underlying27 Tryd.sizeOf5 A l.length c at_ p (by omega) hkl hlc
      have hpk : p - at_ = k := by have := HP.out; omega
      rw [hpk] at hcut hrd2
      have hcv : ∀ a n, (convert 27 9 (.slice A' k (c - at_))).run Tryd.prog ((wr.drewN a).drewN n) = .ok (.string ⟨u.toArray⟩) ((wr.drewN a).drewN n) := fun a n => by
        have h2 := (hrd2 g wr l rfl hrd1).rd (Nat.le_of_lt hlt1)
        have e2 : (l.drop at_).take k = u := by rw [HR.out]; exact HE.out.symm
        rw [e2] at h2
        exact conv_str (w := (wr.drewN a).drewN n) Tryd.underlying27 Tryd.underlying5 (by rw [HE.out, List.length_take]; omega) h2 9 Tryd.underlying9
      clear hrd2 hpk
      go_wp2_with fail
      have hblk2 := hblk1.drewN nq
      have hrdW : RdIn g (wr.drewN nq) A (bs l) := hrd1
      have hgW : w.grownBy (wr.drewN nq) (some g) := ⟨hg1.os, hg1.tape, hg1.output, hg1.size, hg1.block⟩
      have hcv2 : ∀ n, (convert 27 9 (.slice A' k (c - at_))).run Tryd.prog ((wr.drewN nq).drewN n) = .ok (.string ⟨u.toArray⟩) ((wr.drewN nq).drewN n) := fun n => hcv nq n
      have hcv0 : (convert 27 9 (.slice A' k (c - at_))).run Tryd.prog (wr.drewN nq) = .ok (.string ⟨u.toArray⟩) (wr.drewN nq) := hcv nq 0
      clear hcv d0 d1 fz1 hg1 hrd1 hblk1
      generalize wr.drewN nq = W at *
      have e0 : W.cell? ⟨g, 0, none⟩ = some (.slice A l.length c) := hblk2.cell 0
      have e1 : W.cell? ⟨g, 1, none⟩ = some (.int .i64 (p : Int)) := hblk2.cell 1
      go_quiet (fail)
      go_wp2_with fail
      go_ret
      refine ⟨rfl, ⟨p, hkl, ?_, hrdW, hblk2.drewN _⟩, ⟨hgW.os, hgW.tape, hgW.output, hgW.size, hgW.block⟩⟩
      rw [HE.out, List.length_take, Nat.min_eq_left hke, ← HR.out, List.drop_drop, HP.out]
end Go.Proofs.YtmagokkegadmiaaDoor
