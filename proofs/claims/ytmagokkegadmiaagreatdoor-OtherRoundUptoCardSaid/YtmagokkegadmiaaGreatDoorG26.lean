/-
  Layer 3, walked: the document's run: how many bytes from a place on are from one to another one. Layer 9, the landed keys: its table of rows in memory. Layer 9, the landed keys, walked: a row's entry. In a drawn region whose calls answer what the run alone tells: a value that is known by these answers; bytes that such an answer is, made a string. Layer 3, walked: the program's taker: parts, params. Layer 3, walked: the program's taker: params.
-/
import Derived.Test.YtmagokkegadmiaaGreatDoorG02
import Derived.Test.YtmagokkegadmiaaGreatDoorG03
import Derived.Test.YtmagokkegadmiaaGreatDoorG07
import Derived.Test.YtmagokkegadmiaaGreatDoorG09
import Derived.Test.YtmagokkegadmiaaGreatDoorG10
import Derived.Test.YtmagokkegadmiaaGreatDoorG13
import Derived.Test.YtmagokkegadmiaaGreatDoorG14
import Derived.Test.YtmagokkegadmiaaGreatDoorG15
import Derived.Test.YtmagokkegadmiaaGreatDoorG24
import Derived.Test.YtmagokkegadmiaaGreatDoorG25
import Derived.Deep.Cut
namespace Go.Proofs.YtmagokkegadmiaaGreatDoor
open Go.RowKit

theorem tw_len {p : UInt8 → Bool} : ∀ (l : List UInt8) (n : Nat), n ≤ l.length → (l.take n).all p = true → (∀ h : n < l.length, p l[n] = false) → (l.takeWhile p).length = n
  | [], n, h, _, _ => by simp at h; simp [h]
  | c :: l, 0, _, _, hn => by
    have := hn (by simp)
    rw [List.takeWhile_cons_of_neg (by simpa using this)]; rfl
  | c :: l, n + 1, h, ha, hn => by
    rw [List.take_succ_cons, List.all_cons, Bool.and_eq_true] at ha
    rw [List.takeWhile_cons_of_pos ha.1, List.length_cons, tw_len l n (by simpa using h) ha.2 (fun h' => by have := hn (by simpa using h'); simpa using this)]

/-- How many from a place on. -/
def runL (l : List UInt8) (at_ a b : Nat) : Nat := ((l.drop at_).takeWhile (btw a b)).length
theorem run_end {l : List UInt8} {at_ a b n : Nat} (h : at_ + n ≤ l.length) (ha : ((l.drop at_).take n).all (btw a b) = true) (hn : ∀ h : at_ + n < l.length, btw a b l[at_ + n] = false) : runL l at_ a b = n :=
  tw_len _ n (by rw [List.length_drop]; omega) ha (fun h' => by rw [List.getElem_drop]; rw [List.length_drop] at h'; exact hn (by omega))
theorem run_more {l : List UInt8} {at_ a b n : Nat} (h : at_ + n < l.length) (ha : ((l.drop at_).take n).all (btw a b) = true) (hn : btw a b l[at_ + n] = true) : ((l.drop at_).take (n + 1)).all (btw a b) = true := by
  have h' : n < (l.drop at_).length := by rw [List.length_drop]; omega
  rw [List.take_succ_eq_append_getElem h', List.all_append, ha, List.getElem_drop]
  simp [hn]
theorem run_le (l : List UInt8) (at_ a b : Nat) (h : at_ ≤ l.length) : at_ + runL l at_ a b ≤ l.length := by
  have := (List.takeWhile_sublist (btw a b) (l := l.drop at_)).length_le
  rw [List.length_drop] at this
  unfold runL
  omega

set_option maxRecDepth 100000 in
set_option maxHeartbeats 2000000 in
theorem run_str (s : ByteArray) (at_ a b n0 : Nat) (w : World) (hl : s.size ≤ 4294967296) (hat : at_ ≤ s.size) (hq : runL s.data.toList at_ a b = n0) :
    Calls Tryz.prog 83 #[.string s, .int .i64 at_, .int .u8 a, .int .u8 b] w fun e w' => e = .returned (.int .i64 n0) ∧ w = w' := by
  have HQ := Lib.hid hq
  clear hq
  go_enter Tryz.func83, Tryz.ntmps83
  go_wp2
  go_loop [9] (fun i => ∃ n : Nat, at_ + n ≤ s.size ∧ i = .int .i64 n ∧ ((s.data.toList.drop at_).take n).all (btw a b) = true) (fun i => s.size - (intOf i).toNat)
  case atStart => exact ⟨0, by omega, rfl, by simp⟩
  case round =>
    obtain ⟨n, hn, rfl, hall⟩ := hrel
    have HA := Lib.hid hall
    clear hall
    obtain ⟨m, hm⟩ : ∃ m, at_ + n = m := ⟨_, rfl⟩
    have ew : IntKind.i64.wrap ((at_ : Int) + (n : Int)) = (m : Int) := by rw [← hm]; have := IntWalk.i64_in ((at_ : Int) + (n : Int)) (by omega); rw [this]; omega
    by_cases hlt : m < s.size
    · have hlt2 : at_ + n < s.data.toList.length := by rw [hm]; simpa using hlt
      have hby := byte_at s m hlt
      have HB := Lib.hid (show s[m]'hlt = s.data.toList[at_ + n]'hlt2 by rw [hby]; congr 1; exact hm.symm)
      have hd := (s[m]'hlt).toNat_lt
      have k0 : (0 : Int) ≤ (m : Int) := by omega
      have k1 : (m : Int) < (s.size : Int) := by omega
      have HM := Lib.hid hm
      clear hby
      by_cases h1 : (s[m]'hlt).toNat < a
      · have E := Lib.hid (HQ.out.symm.trans (run_end (by omega) HA.out (fun h => (btw_no a b _).2 (by rw [← HB.out]; omega))))
        clear hm
        go_wp2
        go_ret
        exact ⟨ret_i (by rw [E.out]), rfl⟩
      · by_cases h2 : b < (s[m]'hlt).toNat
        · have E := Lib.hid (HQ.out.symm.trans (run_end (by omega) HA.out (fun h => (btw_no a b _).2 (by rw [← HB.out]; omega))))
          clear hm
          go_wp2
          go_ret
          exact ⟨ret_i (by rw [E.out]), rfl⟩
        · have E := Lib.hid (run_more hlt2 HA.out ((btw_iff a b _).2 (by rw [← HB.out]; omega)))
          clear hm
          go_wp2
          go_round
          case rel => exact ⟨n + 1, by have := HM.out; omega, by go_num, E.out⟩
          case measure => have := HM.out; simp [intOf]; omega
    · have E := Lib.hid (HQ.out.symm.trans (run_end (by simpa using hn) HA.out (fun h => absurd h (by simp; omega))))
      clear hm
      go_wp2
      go_ret
      exact ⟨ret_i (by rw [E.out]), rfl⟩
theorem run_any (l : List UInt8) (at_ a b n0 : Nat) (w : World) (hl : l.length ≤ 4294967296) (hat : at_ ≤ l.length) (hq : runL l at_ a b = n0) :
    Calls Tryz.prog 83 #[.string ⟨l.toArray⟩, .int .i64 at_, .int .u8 a, .int .u8 b] w fun e w' => e = .returned (.int .i64 n0) ∧ w = w' :=
  run_str ⟨l.toArray⟩ at_ a b n0 w hl hat hq
end Go.Proofs.YtmagokkegadmiaaGreatDoor
namespace Go.Proofs.YtmagokkegadmiaaGreatDoor
open Go.RowKit

/-- A row as seven cells. -/
def roC (r : Ro) (A : Option Addr) (c : Nat) : List Value := [.int .i64 r.first, .int .i64 r.last, .int .i64 r.kind, .string ⟨r.finals.toArray⟩, .slice A r.nums.length c, .string ⟨r.chars.toArray⟩, .bool r.keys]
/-- A slice of rows, below a block. -/
def RdRo (n₁ : Nat) (w : World) (b o : Nat) (rs : List Ro) : Prop :=
  ∀ k (hk : k < rs.length), ∃ A' c', RdIn n₁ w A' (is_ rs[k].nums) ∧ ∀ i u, (roC rs[k] A' c')[i]? = some u → w.cell? ⟨b, o + k * 7 + i, none⟩ = some u
/-- The package's table, below a block. -/
def RwsIn (n₁ : Nat) (w : World) : Prop :=
  ∃ b o c t fz, w.heap[0]? = some (.cells #[.slice (some ⟨b, o, none⟩) 22 c] t fz) ∧ 0 < n₁ ∧ b < n₁ ∧ RdRo n₁ w b o roL
def Rws (w : World) : Prop := RwsIn w.heap.size w
section
variable {n₁ n₂ : Nat} {w w' : World} {b o : Nat} {rs : List Ro}
theorem RdRo.below (h : RdRo n₁ w b o rs) (hb : Below n₁ w w') (hl : b < n₁) : RdRo n₁ w' b o rs := fun k hk => by
  obtain ⟨A', c', h1, h2⟩ := h k hk
  exact ⟨A', c', h1.below hb, fun i u hu => (hb.cell (p := ⟨b, o + k * 7 + i, none⟩) hl).trans (h2 i u hu)⟩
theorem RdRo.kpx {X : Nat → Prop} (h : RdRo n₁ w b o rs) (hk : KpX X w w') (hX : ∀ k, X k → n₁ ≤ k) (hl : b < n₁) : RdRo n₁ w' b o rs := fun k hk2 => by
  obtain ⟨A', c', h1, h2⟩ := h k hk2
  refine ⟨A', c', h1.kpx hk hX, fun i u hu => (World.cell?_of_block (w := w) (a := ⟨b, o + k * 7 + i, none⟩) ?_).trans (h2 i u hu)⟩
  obtain ⟨ob, e1, e2⟩ := cells_is (h2 i u hu)
  exact (hk.2 b ob e1 e2 (fun hx => by have := hX b hx; omega)).trans e1.symm
theorem RwsIn.below (h : RwsIn n₁ w) (hb : Below n₁ w w') : RwsIn n₁ w' := by
  obtain ⟨b, o, c, t, fz, h1, h2, h3, h4⟩ := h
  exact ⟨b, o, c, t, fz, (hb.block _ h2).trans h1, h2, h3, h4.below hb h3⟩
theorem RwsIn.kpx {X : Nat → Prop} (h : RwsIn n₁ w) (hk : KpX X w w') (hX : ∀ k, X k → n₁ ≤ k) : RwsIn n₁ w' := by
  obtain ⟨b, o, c, t, fz, h1, h2, h3, h4⟩ := h
  exact ⟨b, o, c, t, fz, hk.2 _ _ h1 rfl (fun hx => by have := hX _ hx; omega), h2, h3, h4.kpx hk hX h3⟩
theorem RdIn.mono {A : Option Addr} {xs : List Value} (h : RdIn n₁ w A xs) (hn : n₁ ≤ n₂) : RdIn n₂ w A xs := fun hp => by
  obtain ⟨b, o, rfl, hb, hc⟩ := h hp
  exact ⟨b, o, rfl, by omega, hc⟩
theorem RwsIn.mono (h : RwsIn n₁ w) (hn : n₁ ≤ n₂) : RwsIn n₂ w := by
  obtain ⟨b, o, c, t, fz, h1, h2, h3, h4⟩ := h
  refine ⟨b, o, c, t, fz, h1, by omega, by omega, fun k hk => ?_⟩
  obtain ⟨A', c', e1, e2⟩ := h4 k hk
  exact ⟨A', c', e1.mono hn, e2⟩
theorem Rws.below (h : Rws w) (hb : Below w.heap.size w w') : Rws w' := (RwsIn.below h hb).mono hb.size
/-- A row that a round reads. -/
theorem RdRo.at_ (h : RdRo n₁ w b o rs) {k : Nat} (hk : k < rs.length) {r : Ro} (hr : rs[k] = r) : ∃ A' c', RdIn n₁ w A' (is_ r.nums) ∧
    w.cell? ⟨b, o + k * 7, none⟩ = some (.int .i64 r.first) ∧ w.cell? ⟨b, o + k * 7 + 1, none⟩ = some (.int .i64 r.last) ∧ w.cell? ⟨b, o + k * 7 + 2, none⟩ = some (.int .i64 r.kind) ∧ w.cell? ⟨b, o + k * 7 + 3, none⟩ = some (.string ⟨r.finals.toArray⟩) ∧ w.cell? ⟨b, o + k * 7 + 4, none⟩ = some (.slice A' r.nums.length c') ∧ w.cell? ⟨b, o + k * 7 + 5, none⟩ = some (.string ⟨r.chars.toArray⟩) ∧ w.cell? ⟨b, o + k * 7 + 6, none⟩ = some (.bool r.keys) := by
  obtain ⟨A', c', h1, h2⟩ := h k hk
  subst hr
  exact ⟨A', c', h1, h2 0 _ rfl, h2 1 _ rfl, h2 2 _ rfl, h2 3 _ rfl, h2 4 _ rfl, h2 5 _ rfl, h2 6 _ rfl⟩
end
def sbK (s : ByteArray) (a : Nat) : Int := if h : a < s.size then ((s[a]'h).toNat : Int) else 0
theorem sbK_eq (l : List UInt8) (a : Nat) : sbK ⟨l.toArray⟩ a = byL l a := by
  unfold sbK byL
  by_cases h : a < l.length
  · rw [dif_pos (show a < (⟨l.toArray⟩ : ByteArray).size from h)]
    rw [List.getD_eq_getElem?_getD, List.getElem?_eq_getElem h]
    rfl
  · rw [dif_neg (show ¬ a < (⟨l.toArray⟩ : ByteArray).size from h)]
    rw [List.getD_eq_getElem?_getD, List.getElem?_eq_none (by omega)]
    rfl
theorem sbK_yes {s : ByteArray} {a : Nat} (h : a < s.size) : sbK s a = ((s[a]'h).toNat : Int) := by unfold sbK; rw [dif_pos h]
theorem sbK_no {s : ByteArray} {a : Nat} (h : ¬ a < s.size) : sbK s a = 0 := by unfold sbK; rw [dif_neg h]
theorem getD_yes {l : List Int} {a : Nat} (h : a < l.length) : l.getD a 0 = l[a] := by rw [List.getD_eq_getElem?_getD, List.getElem?_eq_getElem h]; rfl
theorem getD_no {l : List Int} {a : Nat} (h : ¬ a < l.length) : l.getD a 0 = 0 := by rw [List.getD_eq_getElem?_getD, List.getElem?_eq_none (by omega)]; rfl
end Go.Proofs.YtmagokkegadmiaaGreatDoor
namespace Go.Proofs.YtmagokkegadmiaaGreatDoor
open Go.RowKit

set_option maxRecDepth 100000 in
set_option maxHeartbeats 4000000 in
theorem entry_any (F L K : Int) (s : ByteArray) (ns : List Int) (m : Nat) (hm : ns.length = m) (u : ByteArray) (B : Bool) (A : Option Addr) (cp a : Nat) (ha : a ≤ 100000) (_hF : 0 ≤ F) (_hF2 : F ≤ 60000) (_hs : s.size ≤ 100) (hm2 : m ≤ 100) (_hu : u.size ≤ 100) (w : World) (hr : Rd w A (is_ ns)) :
    Calls Tryz.prog 35 #[.agg #[.int .i64 F, .int .i64 L, .int .i64 K, .string s, .slice A m cp, .string u, .bool B], .int .i64 (F + (a : Int))] w fun e w' => e = .returned (.agg #[.int .i64 K, .int .u8 (sbK s a), .int .i64 (ns.getD a 0), .int .i64 (sbK u a), .bool B]) ∧ Below w.heap.size w w' := by
  have hB : ∀ x y z, Below w.heap.size w (((w.alloc x).alloc y).alloc z) := fun x y z => (below_two x y).alloc (by simp; omega) _
  go_enter Tryz.func35, Tryz.ntmps35
  have e0 : F + (a : Int) - F = (a : Int) := by omega
  have k0 : (0 : Int) ≤ (a : Int) := by omega
  obtain HM : Hid (ns.length = m) := Lib.hid hm
  clear hm
  by_cases h1 : a < m
  · have q1 : (a : Int) < (m : Int) := by omega
    obtain ⟨b, o, rfl, hb, hc⟩ := hr.int_at (by rw [HM.out]; omega)
    have hx := hc a (by rw [HM.out]; exact h1)
    have N1 := Lib.hid (getD_yes (l := ns) (a := a) (by rw [HM.out]; exact h1))
    obtain ⟨x, hx2⟩ : ∃ x, ns[a]'(by rw [HM.out]; exact h1) = x := ⟨_, rfl⟩
    rw [hx2] at hx N1
    have hxW : ∀ o1 o2 o3, (((w.alloc o1).alloc o2).alloc o3).cell? ⟨b, o + a, none⟩ = some (.int .i64 x) := fun o1 o2 o3 => ((hB o1 o2 o3).cell (p := ⟨b, o + a, none⟩) hb).trans hx
    clear hc hx2
    by_cases h2 : a < s.size
    · have q2 : (a : Int) < (s.size : Int) := by omega
      have N2 := Lib.hid (sbK_yes h2)
      by_cases h3 : a < u.size
      · have q3 : (a : Int) < (u.size : Int) := by omega
        have N3 := Lib.hid (sbK_yes h3)
        have hd := (u[a]'h3).toNat_lt
        have wd : wrap64 ((u[a]'h3).toNat : Int) = ((u[a]'h3).toNat : Int) := by unfold wrap64; omega
        go_wp2
        refine bodyPost_ret (v := .agg #[.int .i64 K, .int .u8 (sbK s a), .int .i64 (ns.getD a 0), .int .i64 (sbK u a), .bool B]) (by rw [N2.out, N1.out, N3.out]; simp [results, Tryz.results35, go_sem]) rfl ⟨rfl, hB _ _ _⟩
      · have q3 : (u.size : Int) ≤ (a : Int) := by omega
        have N3 := Lib.hid (sbK_no h3)
        go_wp2
        refine bodyPost_ret (v := .agg #[.int .i64 K, .int .u8 (sbK s a), .int .i64 (ns.getD a 0), .int .i64 (sbK u a), .bool B]) (by rw [N2.out, N1.out, N3.out]; simp [results, Tryz.results35, go_sem]) rfl ⟨rfl, hB _ _ _⟩
    · have q2 : (s.size : Int) ≤ (a : Int) := by omega
      have N2 := Lib.hid (sbK_no h2)
      by_cases h3 : a < u.size
      · have q3 : (a : Int) < (u.size : Int) := by omega
        have N3 := Lib.hid (sbK_yes h3)
        have hd := (u[a]'h3).toNat_lt
        have wd : wrap64 ((u[a]'h3).toNat : Int) = ((u[a]'h3).toNat : Int) := by unfold wrap64; omega
        go_wp2
        refine bodyPost_ret (v := .agg #[.int .i64 K, .int .u8 (sbK s a), .int .i64 (ns.getD a 0), .int .i64 (sbK u a), .bool B]) (by rw [N2.out, N1.out, N3.out]; simp [results, Tryz.results35, go_sem]) rfl ⟨rfl, hB _ _ _⟩
      · have q3 : (u.size : Int) ≤ (a : Int) := by omega
        have N3 := Lib.hid (sbK_no h3)
        go_wp2
        refine bodyPost_ret (v := .agg #[.int .i64 K, .int .u8 (sbK s a), .int .i64 (ns.getD a 0), .int .i64 (sbK u a), .bool B]) (by rw [N2.out, N1.out, N3.out]; simp [results, Tryz.results35, go_sem]) rfl ⟨rfl, hB _ _ _⟩
  · have q1 : (m : Int) ≤ (a : Int) := by omega
    have N1 := Lib.hid (getD_no (l := ns) (a := a) (by rw [HM.out]; exact h1))
    by_cases h2 : a < s.size
    · have q2 : (a : Int) < (s.size : Int) := by omega
      have N2 := Lib.hid (sbK_yes h2)
      by_cases h3 : a < u.size
      · have q3 : (a : Int) < (u.size : Int) := by omega
        have N3 := Lib.hid (sbK_yes h3)
        have hd := (u[a]'h3).toNat_lt
        have wd : wrap64 ((u[a]'h3).toNat : Int) = ((u[a]'h3).toNat : Int) := by unfold wrap64; omega
        go_wp2
        refine bodyPost_ret (v := .agg #[.int .i64 K, .int .u8 (sbK s a), .int .i64 (ns.getD a 0), .int .i64 (sbK u a), .bool B]) (by rw [N2.out, N1.out, N3.out]; simp [results, Tryz.results35, go_sem]) rfl ⟨rfl, hB _ _ _⟩
      · have q3 : (u.size : Int) ≤ (a : Int) := by omega
        have N3 := Lib.hid (sbK_no h3)
        go_wp2
        refine bodyPost_ret (v := .agg #[.int .i64 K, .int .u8 (sbK s a), .int .i64 (ns.getD a 0), .int .i64 (sbK u a), .bool B]) (by rw [N2.out, N1.out, N3.out]; simp [results, Tryz.results35, go_sem]) rfl ⟨rfl, hB _ _ _⟩
    · have q2 : (s.size : Int) ≤ (a : Int) := by omega
      have N2 := Lib.hid (sbK_no h2)
      by_cases h3 : a < u.size
      · have q3 : (a : Int) < (u.size : Int) := by omega
        have N3 := Lib.hid (sbK_yes h3)
        have hd := (u[a]'h3).toNat_lt
        have wd : wrap64 ((u[a]'h3).toNat : Int) = ((u[a]'h3).toNat : Int) := by unfold wrap64; omega
        go_wp2
        refine bodyPost_ret (v := .agg #[.int .i64 K, .int .u8 (sbK s a), .int .i64 (ns.getD a 0), .int .i64 (sbK u a), .bool B]) (by rw [N2.out, N1.out, N3.out]; simp [results, Tryz.results35, go_sem]) rfl ⟨rfl, hB _ _ _⟩
      · have q3 : (u.size : Int) ≤ (a : Int) := by omega
        have N3 := Lib.hid (sbK_no h3)
        go_wp2
        refine bodyPost_ret (v := .agg #[.int .i64 K, .int .u8 (sbK s a), .int .i64 (ns.getD a 0), .int .i64 (sbK u a), .bool B]) (by rw [N2.out, N1.out, N3.out]; simp [results, Tryz.results35, go_sem]) rfl ⟨rfl, hB _ _ _⟩
end Go.Proofs.YtmagokkegadmiaaGreatDoor
namespace Go.Proofs.YtmagokkegadmiaaGreatDoor
open Go.RowKit

section
variable {P : Program} {ops : Array Oper} {md : Region.Mode} {w1 : World} {K : List Fact} {ix iz : Nat} {R0 R1 : (Tmp → Value) → World → World → Prop} {aF : (Tmp → Value) → Act} {i : Nat} {o : Oper}
theorem goesK_know (v : Value) (hst : ∀ f ∈ K, f.ok) (hah : Ahead md ops ix i) (hio : ops[i]? = some o) (hx : i ≠ ix) (hz : i ≠ iz) (hni : (K.all fun f => f.i != i) = true) (hw : ∀ g, Region.wanted o (yielded ops (aF g).tmps) = true) {d0 : Tmp} (h0 : o.dst = some d0) (hd : ∀ g, (aF g).tmps[d0]? = some v)
    (h : ∀ g w, Below w1.heap.size w1 w → (∀ (q : Nat) (f : Fact), K[q]? = some f → edgeB md ops i f.i = true → f.F (g f.d) w) → (execOp (aF g).eval o).run P w = .ok (.value v) w) :
    GoesM P md ops aF (SK md ops w1 K ix iz R0 R1) i o := fun l g w hsz hf hrd hS => by
  rw [if_pos (hw g)]
  have hfx := hah l hsz hS.shut hf
  obtain ⟨h1, h2⟩ := hS.pre hfx
  refine .inl ⟨v, w, .inl (h g w h1 fun q f' hf' he => h2 f' (List.mem_of_getElem? hf') ?_), g, .inl rfl, (fun d' h' => by rw [h0] at h'; cases h'; exact hd g), hS.quiet hst (hS.shut.step hio hrd) (Below.refl _ _) hx hz hni hfx⟩
  unfold edgeB at he
  rw [hio] at he
  obtain ⟨e, he, hb⟩ := Array.any_eq_true'.1 he
  simp only [Bool.and_eq_true, beq_iff_eq] at hb
  rw [← hb.2]
  exact hrd e he hb.1
/-- What a call that tells bytes answers. -/
def FB (L : List UInt8) (v : Value) (w : World) : Prop := ∃ A c, v = .slice A L.length c ∧ Rd w A (bs L)
theorem fb_ok (i : Nat) (d : Tmp) (L : List UInt8) : (⟨i, d, FB L⟩ : Fact).ok := fun _ _ _ ⟨A, c, e, h⟩ hb => ⟨A, c, e, h.below hb⟩
theorem fb_out {L : List UInt8} {w : World} {f : FuncId} {args : Array Value} (h : Calls P f args w (Out L w)) : Calls P f args w fun e w' => ∃ v, e = .returned v ∧ FB L v w' ∧ Below w.heap.size w w' :=
  h.mono fun _ _ ⟨A, c, he, hr, hb⟩ => ⟨_, he, ⟨A, c, rfl, hr⟩, hb⟩
theorem goesK_str {L : List UInt8} {src dst e : TypeId} {x : Operand} {j : Nat} {d : Tmp} (p : Nat) (hat : K[p]? = some ⟨j, d, FB L⟩) (hed : edgeB md ops i j = true) (hsrc : P.underlying src = some (.slice e)) (he : P.underlying e = some (.int .u8)) (hdst : P.underlying dst = some .string)
    (hst : ∀ f ∈ K, f.ok) (hah : Ahead md ops ix i) (hio : ops[i]? = some o) (hx : i ≠ ix) (hz : i ≠ iz) (hni : (K.all fun f => f.i != i) = true) (hw : ∀ g, Region.wanted o (yielded ops (aF g).tmps) = true) {d0 : Tmp} (h0 : o.dst = some d0) (hd : ∀ g, (aF g).tmps[d0]? = some (.string ⟨L.toArray⟩))
    (ho : o.op = .convert src dst x) (hxv : ∀ g, (aF g).eval x = g d) : GoesM P md ops aF (SK md ops w1 K ix iz R0 R1) i o :=
  goesK_know _ hst hah hio hx hz hni hw h0 hd fun g w _ hin => by
    obtain ⟨A, c, hv, hr⟩ := hin p _ hat hed
    simp only at hv
    unfold execOp
    simp only [ho, hxv, hv, Sem.run_bind, Sem.run_pure, conv_str hsrc he rfl hr dst hdst, Result.andThen_ok]
/-- Bytes that are known, made a string. -/
theorem goesK_conv {L : List UInt8} {n c : Nat} {A : Option Addr} {src dst e : TypeId} {x : Operand} (hn : L.length = n) (hrd : ∀ W, Below w1.heap.size w1 W → Rd W A (bs L)) (hsrc : P.underlying src = some (.slice e)) (he : P.underlying e = some (.int .u8)) (hdst : P.underlying dst = some .string)
    (hst : ∀ f ∈ K, f.ok) (hah : Ahead md ops ix i) (hio : ops[i]? = some o) (hx : i ≠ ix) (hz : i ≠ iz) (hni : (K.all fun f => f.i != i) = true) (hw : ∀ g, Region.wanted o (yielded ops (aF g).tmps) = true) {d0 : Tmp} (h0 : o.dst = some d0) (hd : ∀ g, (aF g).tmps[d0]? = some (.string ⟨L.toArray⟩))
    (ho : o.op = .convert src dst x) (hxv : ∀ g, (aF g).eval x = .slice A n c) : GoesM P md ops aF (SK md ops w1 K ix iz R0 R1) i o :=
  goesK_know _ hst hah hio hx hz hni hw h0 hd fun g w hb _ => by
    unfold execOp
    simp only [ho, hxv, Sem.run_bind, Sem.run_pure, conv_str hsrc he hn (hrd w hb) dst hdst, Result.andThen_ok]
/-- How many bytes such an answer has. -/
theorem goesK_len {L : List UInt8} {j : Nat} {d : Tmp} (p : Nat) (hat : K[p]? = some ⟨j, d, FB L⟩) (hed : edgeB md ops i j = true)
    (hst : ∀ f ∈ K, f.ok) (hah : Ahead md ops ix i) (hio : ops[i]? = some o) (hx : i ≠ ix) (hz : i ≠ iz) (hni : (K.all fun f => f.i != i) = true) (hw : ∀ g, Region.wanted o (yielded ops (aF g).tmps) = true) {d0 : Tmp} (h0 : o.dst = some d0) (hd : ∀ g, (aF g).tmps[d0]? = some (.int .i64 (L.length : Int)))
    (hr : ∀ (g : Tmp → Value) (A : Option Addr) (c : Nat) (w : World), g d = .slice A L.length c → (execOp (aF g).eval o).run P w = .ok (.value (.int .i64 (L.length : Int))) w) : GoesM P md ops aF (SK md ops w1 K ix iz R0 R1) i o :=
  goesK_know _ hst hah hio hx hz hni hw h0 hd fun g w _ hin => by
    obtain ⟨A, c, hv, _⟩ := hin p _ hat hed
    exact hr g A c w hv
end
end Go.Proofs.YtmagokkegadmiaaGreatDoor
namespace Go.Proofs.YtmagokkegadmiaaGreatDoor
open Go.RowKit

theorem rdr_apart {w : World} {g : Nat} {A : Option Addr} {c : Nat} {l r : List UInt8} {x0 x1 x2 x3 x4 x5 : Value} (h : Rdr w g A c l x0 x1 x2 x3 x4 x5 r) {base n : Nat} {e : TypeId} {v : Value} {xs : List Value} (ho : Own w base e 1 v n xs) (hne : e ≠ 91) : v.ownBlock ≠ some g := by
  obtain ⟨_, _, _, _, hb⟩ := h
  exact ho.no_cells hb hne
theorem Rdr.app {w w' : World} {g : Nat} {A : Option Addr} {c : Nat} {l r : List UInt8} {x0 x1 x2 x3 x4 x5 : Value} (h : Rdr w g A c l x0 x1 x2 x3 x4 x5 r) {base n : Nat} {e : TypeId} {v : Value} {xs : List Value} (ho : Own w base e 1 v n xs) (hb : g < base) (hne : e ≠ 91) (hg : w.grownBy w' v.ownBlock) : Rdr w' g A c l x0 x1 x2 x3 x4 x5 r := by
  have hap := rdr_apart h ho hne
  obtain ⟨p, h1, h2, h3, h4⟩ := h
  refine ⟨p, h1, h2, fun hp => ?_, h4.grown hg hap⟩
  obtain ⟨b, o, rfl, hlt, hc⟩ := h3 hp
  exact ⟨b, o, rfl, hlt, fun k u hu => (World.cell?_of_block (w := w) (a := ⟨b, o + k, none⟩) (hg.block b (by have := h4.lt; omega) (fun e => by have := (ho.lt b e.symm).1; omega))).trans (hc k u hu)⟩
theorem TabIn.app {g : Nat} {w w' : World} (h : TabIn g w) {base n : Nat} {e : TypeId} {v : Value} {xs : List Value} (ho : Own w base e 1 v n xs) (hb : g ≤ base) (hw : g ≤ w.heap.size) (hg : w.grownBy w' v.ownBlock) : TabIn g w' :=
  h.below ((Below.refl g w).grown hg hw (fun k hk => Nat.le_trans hb (ho.lt k hk).1))
/-- Grown in the box, and in blocks of the call's own. -/
theorem grown_own {w w1 w2 : World} {g B n : Nat} {e : TypeId} {v : Value} {xs : List Value} (h : w.grownBy w1 (some g)) (ho : Own w1 B e 1 v n xs) (hB : w.heap.size ≤ B) (hg : w1.grownBy w2 v.ownBlock) : w.grownBy w2 (some g) :=
  ⟨hg.os.trans h.os, hg.tape.trans h.tape, hg.output.trans h.output, Nat.le_trans h.size hg.size, fun k hk hr => (hg.block k (Nat.lt_of_lt_of_le hk h.size) (fun e => by have := (ho.lt k e.symm).1; omega)).trans (h.block k hk hr)⟩

/-- What parts tells. -/
def PartsPost (g : Nat) (A : Option Addr) (c : Nat) (l r' : List UInt8) (p : List Int) (x0 x1 x2 x3 x4 x5 : Value) (w : World) (e : Ending) (w' : World) : Prop :=
  (∃ A' c', e = .returned (.slice A' p.length c') ∧ RowI w' w'.heap.size 3 A' p) ∧ Rdr w' g A c l x0 x1 x2 x3 x4 x5 r' ∧ w.grownBy w' (some g)
theorem parts_post {g : Nat} {A : Option Addr} {c n c2 : Nat} {l r' : List UInt8} {p : List Int} {x0 x1 x2 x3 x4 x5 : Value} {w w' : World} {A2 : Option Addr} (hn : p.length = n) (h1 : RowI w' w'.heap.size 3 A2 p) (h2 : Rdr w' g A c l x0 x1 x2 x3 x4 x5 r') (h3 : w.grownBy w' (some g)) :
    PartsPost g A c l r' p x0 x1 x2 x3 x4 x5 w (.returned (.slice A2 n c2)) w' := ⟨⟨A2, c2, by rw [hn], h1⟩, h2, h3⟩

set_option maxRecDepth 100000 in
set_option maxHeartbeats 8000000 in
theorem parts2_any (g : Nat) (A : Option Addr) (c : Nat) (l r r' : List UInt8) (p : List Int) (x0 x1 x2 x3 x4 x5 : Value) (w : World) (hn : partsF r = (p, r')) (hlc : l.length ≤ c) (hl : l.length ≤ 4294967296) (ht : TabIn g w) (h : Rdr w g A c l x0 x1 x2 x3 x4 x5 r) :
    Calls Tryz.prog 101 #[.pointer (some ⟨g, 0, none⟩)] w (PartsPost g A c l r' p x0 x1 x2 x3 x4 x5 w) := by
  obtain ⟨i0, hi, hz0, hz1, hz2⟩ : ∃ i, Tryz.prog.info? 3 = some i ∧ i.zero = some (.int .i64 0) ∧ i.size = 1 ∧ i.bytes = 8 := ⟨_, rfl, rfl, rfl, rfl⟩
  have hlt := h.lt
  obtain ⟨n1, hn1⟩ : ∃ n1, (partF r).1 = n1 := ⟨_, rfl⟩
  obtain ⟨r1, hr1⟩ : ∃ r1, (partF r).2 = r1 := ⟨_, rfl⟩
  have HF := Lib.hid (show partF r = (n1, r1) by rw [← hn1, ← hr1])
  have HP := Lib.hid (show partsGo 7 [n1] r1 = (p, r') by rw [← hn, ← hn1, ← hr1]; rfl)
  clear hn hn1 hr1
  go_enter Tryz.func101, Tryz.ntmps101
  go_wp2_with fail
  refine (part2_any g A c l r r1 n1 x0 x1 x2 x3 x4 x5 _ HF.out hlc hl ht h).mono ?_
  rintro e w1 ⟨rfl, h1, hg1⟩
  have ht1 := ht.grown hg1 hlt
  clear h ht
  go_wp2_with fail
  have ho1 := own_lit (w1.alloc (.cells #[.int .i64 n1] 3)) w1.heap.size 3 w1.heap.size (.int .i64 n1) (Nat.le_refl _) (heap_alloc_new w1 _)
  have h1' := h1.below ((Below.refl _ w1).alloc (Nat.le_refl _) (.cells #[.int .i64 n1] 3)) h1.lt
  have hg1' : w.grownBy (w1.alloc (.cells #[.int .i64 n1] 3)) (some g) := grown_trans hg1 (World.grownBy_alloc w1 _ _)
  have ht1' := ht1.below (((Below.refl g w1).alloc (Nat.le_of_lt h1.lt) (.cells #[.int .i64 n1] 3)))
  have hws : w.heap.size ≤ w1.heap.size := hg1.size
  clear h1 hg1 ht1
  go_loopw [3] (fun v wr => ∃ (acc : List Int) (rr : List UInt8) (f B : Nat), acc.length + f = 8 ∧ Own wr B 3 1 v acc.length (is_ acc) ∧ Rdr wr g A c l x0 x1 x2 x3 x4 x5 rr ∧ TabIn g wr ∧ w.grownBy wr (some g) ∧ (w.heap.size ≤ B ∧ B ≤ wr.heap.size) ∧ Hid (partsGo f acc rr = (p, r'))) (fun v _ => match v with | .slice _ n _ => 8 - n | _ => 0)
  case atStart => exact ⟨[n1], r1, 7, w1.heap.size, rfl, ho1, h1', ht1', hg1', ⟨hws, by simp⟩, HP⟩
  case round =>
    obtain ⟨acc, rr, f, B, hf, ho, hR, hT, hG, ⟨hB, hB2⟩, HE⟩ := hrel
    clear ho1 h1' hg1' ht1' HP
    obtain ⟨n, hn⟩ : ∃ n, acc.length = n := ⟨_, rfl⟩
    rw [hn] at ho hf
    have HN := Lib.hid hn
    clear hn
    obtain ⟨A2, c2, rfl, _⟩ := ho.form
    by_cases h8 : n < 8
    · obtain ⟨f', rfl⟩ : ∃ f', f = f' + 1 := ⟨f - 1, by omega⟩
      cases hs : skipB [58] rr with
      | true =>
        have HS := Lib.hid hs
        clear hs
        obtain ⟨n2, hn2⟩ : ∃ n2, (partF (rr.drop 1)).1 = n2 := ⟨_, rfl⟩
        obtain ⟨r2, hr2⟩ : ∃ r2, (partF (rr.drop 1)).2 = r2 := ⟨_, rfl⟩
        have HF2 := Lib.hid (show partF (rr.drop 1) = (n2, r2) by rw [← hn2, ← hr2])
        have HE2 := Lib.hid (show partsGo f' (acc ++ [n2]) r2 = (p, r') by
          have := HE.out
          unfold partsGo at this
          rw [if_pos HS.out, hn2, hr2] at this
          exact this)
        clear hn2 hr2 HE
        go_wp2_with fail
        refine (skip_yes g A c l [58] rr x0 x1 x2 x3 x4 x5 _ HS.out hlc hl (by simp) hR).mono ?_
        rintro e w2 ⟨rfl, hR2, hG2⟩
        have hT2 := hT.grown hG2 hR.lt
        have ho2 := ho.kept hG2 (.inr (rdr_apart hR ho (by decide)))
        have hG2' := grown_trans hG hG2
        have hs2 := Nat.le_trans hB2 hG2.size
        clear hR hT ho hG2 hG
        go_wp2_with fail
        refine (part2_any g A c l (rr.drop 1) r2 n2 x0 x1 x2 x3 x4 x5 _ HF2.out hlc hl hT2 hR2).mono ?_
        rintro e w3 ⟨rfl, hR3, hG3⟩
        have hT3 := hT2.grown hG3 hR2.lt
        have ho3 := ho2.kept hG3 (.inr (rdr_apart hR2 ho2 (by decide)))
        have hG3' := grown_trans hG2' hG3
        have hs3 := Nat.le_trans hs2 hG3.size
        clear hR2 hT2 ho2 hG3 hG2'
        have hown4 := ho3.alloc (.cells #[.int .i64 n2] 3)
        have hR4 := hR3.below ((Below.refl _ w3).alloc (Nat.le_refl _) (.cells #[.int .i64 n2] 3)) hR3.lt
        have hT4 := hT3.below (((Below.refl g w3).alloc (Nat.le_of_lt hR3.lt) (.cells #[.int .i64 n2] 3)))
        have hG4 : w.grownBy (w3.alloc (.cells #[.int .i64 n2] 3)) (some g) := grown_trans hG3' (World.grownBy_alloc w3 _ _)
        have hrd4 : Rd (w3.alloc (.cells #[.int .i64 n2] 3)) (some ⟨w3.heap.size, 0, none⟩) [.int .i64 n2] := Rd.block (heap_alloc_new w3 _) (by simp)
        have h63 : n + 1 ≤ maxLen := by simp only [maxLen]; omega
        have hlim : (n + 1) * 8 ≤ 140737488355328 := by omega
        have hbs4 : B ≤ (w3.alloc (.cells #[.int .i64 n2] 3)).heap.size := by simp; omega
        have hone4 : ∀ u ∈ [Value.int IntKind.i64 n2], u.oneCell' = true := fun u hu => by rw [List.mem_singleton] at hu; subst hu; rfl
        clear hR3 hT3 ho3 hG3'
        go_wp2_with (first | (at_builtin; refine list_app _ rfl (.tmp 18) (.tmp 23) 56 rfl B 3 i0 _ 1 8 Tryz.underlying56 hi hz0 hz1 hz2 rfl Nat.one_pos _ _ _ rfl hown4 _ 1 1 [.int .i64 n2] rfl rfl hrd4 hone4 h63 hlim hbs4 ?_; intro v5 w5 hown5 hg5))
        have hR5 := hR4.app hown4 (by omega) (by decide) hg5
        have hT5 := hT4.app hown4 (by omega) (Nat.le_of_lt hR4.lt) hg5
        have hG5 := grown_own hG4 hown4 hB hg5
        rw [← is_snoc] at hown5
        have hnn := HN.out
        obtain ⟨A5, c5, rfl, _⟩ := hown5.form
        have HL5 := Lib.hid (show (acc ++ [n2]).length = n + 1 by rw [List.length_append, hnn]; rfl)
        have hs5 : B ≤ w5.heap.size := Nat.le_trans hbs4 hg5.size
        clear hnn hg5 hown4 hR4 hT4 hG4 hrd4
        go_wp2_with fail
        go_roundw
        case rel => exact ⟨acc ++ [n2], r2, f', B, by rw [HL5.out]; omega, by rw [HL5.out]; exact hown5, hR5, hT5, hG5, ⟨hB, hs5⟩, HE2⟩
        case measure => simp; omega
      | false =>
        have HS := Lib.hid hs
        clear hs
        have hE := HE.out
        unfold partsGo at hE
        rw [if_neg (by rw [HS.out]; simp)] at hE
        injection hE with e1 e2
        subst e1
        subst e2
        clear HE
        go_wp2_with fail
        refine (skip_no g A c l [58] rr x0 x1 x2 x3 x4 x5 _ HS.out hlc hl (by simp) hR).mono ?_
        rintro e w2 ⟨rfl, hR2, hG2⟩
        have ho2 := ho.kept hG2 (.inr (rdr_apart hR ho (by decide)))
        obtain ⟨hnn, A3, c3, h3, hrow⟩ := own_row ho2
        cases h3
        clear hnn
        go_wp2_with fail
        go_ret
        exact parts_post HN.out hrow hR2 (grown_trans hG hG2)
    · have h8' : 8 ≤ n := by omega
      obtain rfl : f = 0 := by omega
      have hE := HE.out
      unfold partsGo at hE
      injection hE with e1 e2
      subst e1
      subst e2
      clear HE h8
      obtain ⟨hnn, A3, c3, h3, hrow⟩ := own_row ho
      cases h3
      clear hnn
      go_wp2_with fail
      go_ret
      exact parts_post HN.out hrow hR hG
end Go.Proofs.YtmagokkegadmiaaGreatDoor
namespace Go.Proofs.YtmagokkegadmiaaGreatDoor
open Go.RowKit

theorem Rows.box {w w' : World} {B g : Nat} {A : Option Addr} {c : Nat} {l r : List UInt8} {x0 x1 x2 x3 x4 x5 : Value} {e : TypeId} {xs : List Value} {ps : List (List Int)} (h : Rows w B e xs ps) (hR : Rdr w g A c l x0 x1 x2 x3 x4 x5 r) (hne : e ≠ 91) (hg : w.grownBy w' (some g)) : Rows w' B e xs ps := by
  obtain ⟨_, _, _, _, hb⟩ := hR
  exact h.keep (Nat.le_refl _) fun k _ ⟨cur, fz, hh⟩ => hg.block k (Array.getElem?_eq_some_iff.1 hh).1 (fun e => tag_ne hb hh hne (by injection e))
/-- What params tells. -/
def ParamsPost (g : Nat) (A : Option Addr) (c : Nat) (l r' : List UInt8) (ps : List (List Int)) (x0 x1 x2 x3 x4 x5 : Value) (w : World) (e : Ending) (w' : World) : Prop :=
  (∃ A' c', e = .returned (.slice A' ps.length c') ∧ RdPN g w' A' ps) ∧ Rdr w' g A c l x0 x1 x2 x3 x4 x5 r' ∧ w.grownBy w' (some g)
theorem params_post {g : Nat} {A : Option Addr} {c n c2 : Nat} {l r' : List UInt8} {p : List (List Int)} {x0 x1 x2 x3 x4 x5 : Value} {w w' : World} {A2 : Option Addr} (hn : p.length = n) (h1 : RdPN g w' A2 p) (h2 : Rdr w' g A c l x0 x1 x2 x3 x4 x5 r') (h3 : w.grownBy w' (some g)) :
    ParamsPost g A c l r' p x0 x1 x2 x3 x4 x5 w (.returned (.slice A2 n c2)) w' := ⟨⟨A2, c2, by rw [hn], h1⟩, h2, h3⟩

set_option maxRecDepth 100000 in
set_option maxHeartbeats 8000000 in
theorem params2_any (g : Nat) (A : Option Addr) (c : Nat) (l r r' : List UInt8) (ps : List (List Int)) (x0 x1 x2 x3 x4 x5 : Value) (w : World) (hn : paramsF r = (ps, r')) (hlc : l.length ≤ c) (hl : l.length ≤ 4294967296) (ht : TabIn g w) (h : Rdr w g A c l x0 x1 x2 x3 x4 x5 r) :
    Calls Tryz.prog 81 #[.pointer (some ⟨g, 0, none⟩)] w (ParamsPost g A c l r' ps x0 x1 x2 x3 x4 x5 w) := by
  obtain ⟨j0, hj, hy0, hy1, hy2⟩ : ∃ i, Tryz.prog.info? 56 = some i ∧ i.zero = some (.slice none 0 0) ∧ i.size = 1 ∧ i.bytes = 24 := ⟨_, rfl, rfl, rfl, rfl⟩
  have hlt := h.lt
  obtain ⟨p1, hp1⟩ : ∃ p1, (partsF r).1 = p1 := ⟨_, rfl⟩
  obtain ⟨r1, hr1⟩ : ∃ r1, (partsF r).2 = r1 := ⟨_, rfl⟩
  have HF := Lib.hid (show partsF r = (p1, r1) by rw [← hp1, ← hr1])
  obtain ⟨qs, hqs⟩ : ∃ qs, (paramsGo 15 [p1] r1).1 = qs := ⟨_, rfl⟩
  have HP := Lib.hid (show paramsGo 15 [p1] r1 = (qs, r') by
    have : (paramsF r).2 = r' := by rw [hn]
    rw [← this, ← hqs, ← hp1, ← hr1]; rfl)
  have HQ := Lib.hid (show noneL qs = ps by
    have : (paramsF r).1 = ps := by rw [hn]
    rw [← this, ← hqs, ← hp1, ← hr1]; rfl)
  clear hn hp1 hr1 hqs
  go_enter Tryz.func81, Tryz.ntmps81
  go_wp2_with fail
  refine (parts2_any g A c l r r1 p1 x0 x1 x2 x3 x4 x5 _ HF.out hlc hl ht h).mono ?_
  rintro e w1 ⟨⟨A1, c1, rfl, hri1⟩, h1, hg1⟩
  have ht1 := ht.grown hg1 hlt
  obtain ⟨n1, hn1⟩ : ∃ n1, p1.length = n1 := ⟨_, rfl⟩
  have HN1 := Lib.hid hn1
  rw [hn1]
  clear h ht hn1
  go_wp2_with fail
  have ho1 := own_lit (w1.alloc (.cells #[.slice A1 n1 c1] 56)) w1.heap.size 56 w1.heap.size (.slice A1 n1 c1) (Nat.le_refl _) (heap_alloc_new w1 _)
  have h1' := h1.below ((Below.refl _ w1).alloc (Nat.le_refl _) (.cells #[.slice A1 n1 c1] 56)) h1.lt
  have hg1' : w.grownBy (w1.alloc (.cells #[.slice A1 n1 c1] 56)) (some g) := grown_trans hg1 (World.grownBy_alloc w1 _ _)
  have ht1' := ht1.below (((Below.refl g w1).alloc (Nat.le_of_lt h1.lt) (.cells #[.slice A1 n1 c1] 56)))
  have hws : w.heap.size ≤ w1.heap.size := hg1.size
  have hrs1 : Rows (w1.alloc (.cells #[.slice A1 n1 c1] 56)) w1.heap.size 3 ([] ++ [.slice A1 n1 c1]) ([] ++ [p1]) :=
    Rows.snoc2 ⟨rfl, fun k hk => absurd hk (by simp)⟩ HN1.out.symm (hri1.keep (Nat.le_refl _) (fun q hq _ => Below.heap_alloc w1 _ q hq))
  rw [List.nil_append, List.nil_append] at hrs1
  clear h1 hg1 ht1 hri1 HN1
  go_loopw [3] (fun v wr => ∃ (acc : List (List Int)) (rr : List UInt8) (f B : Nat) (xs : List Value), acc.length + f = 16 ∧ Own wr B 56 1 v acc.length xs ∧ (∃ B2, B2 ≤ wr.heap.size ∧ Rows wr B2 3 xs acc) ∧ Rdr wr g A c l x0 x1 x2 x3 x4 x5 rr ∧ TabIn g wr ∧ w.grownBy wr (some g) ∧ (w.heap.size ≤ B ∧ B ≤ wr.heap.size) ∧ Hid (paramsGo f acc rr = (qs, r'))) (fun v _ => match v with | .slice _ n _ => 16 - n | _ => 0)
  case atStart => exact ⟨[p1], r1, 15, w1.heap.size, _, rfl, ho1, ⟨w1.heap.size, by simp, hrs1⟩, h1', ht1', hg1', ⟨hws, by simp⟩, HP⟩
  case round =>
    obtain ⟨acc, rr, f, B, xs, hf, ho, ⟨B2, hB3, hrs⟩, hR, hT, hG, ⟨hB, hB2⟩, HE⟩ := hrel
    clear ho1 h1' hg1' ht1' HP hrs1
    obtain ⟨n, hn⟩ : ∃ n, acc.length = n := ⟨_, rfl⟩
    rw [hn] at ho hf
    have HN := Lib.hid hn
    clear hn
    obtain ⟨A2, c2, rfl, _⟩ := ho.form
    by_cases h8 : n < 16
    · obtain ⟨f', rfl⟩ : ∃ f', f = f' + 1 := ⟨f - 1, by omega⟩
      cases hs : skipB [59] rr with
      | true =>
        have HS := Lib.hid hs
        clear hs
        obtain ⟨p2, hp2⟩ : ∃ p2, (partsF (rr.drop 1)).1 = p2 := ⟨_, rfl⟩
        obtain ⟨r2, hr2⟩ : ∃ r2, (partsF (rr.drop 1)).2 = r2 := ⟨_, rfl⟩
        have HF2 := Lib.hid (show partsF (rr.drop 1) = (p2, r2) by rw [← hp2, ← hr2])
        have HE2 := Lib.hid (show paramsGo f' (acc ++ [p2]) r2 = (qs, r') by
          have := HE.out
          unfold paramsGo at this
          rw [if_pos HS.out, hp2, hr2] at this
          exact this)
        clear hp2 hr2 HE
        go_wp2_with fail
        refine (skip_yes g A c l [59] rr x0 x1 x2 x3 x4 x5 _ HS.out hlc hl (by simp) hR).mono ?_
        rintro e w2 ⟨rfl, hR2, hG2⟩
        have hT2 := hT.grown hG2 hR.lt
        have ho2 := ho.kept hG2 (.inr (rdr_apart hR ho (by decide)))
        have hrs2 := hrs.box hR (by decide) hG2
        have hG2' := grown_trans hG hG2
        have hs2 := Nat.le_trans hB2 hG2.size
        have hb2s := Nat.le_trans hB3 hG2.size
        clear hR hT ho hG2 hG hrs
        go_wp2_with fail
        refine (parts2_any g A c l (rr.drop 1) r2 p2 x0 x1 x2 x3 x4 x5 _ HF2.out hlc hl hT2 hR2).mono ?_
        rintro e w3 ⟨⟨A3, c3, rfl, hri3⟩, hR3, hG3⟩
        obtain ⟨n3, hn3⟩ : ∃ n3, p2.length = n3 := ⟨_, rfl⟩
        have HN3 := Lib.hid hn3
        rw [hn3]
        clear hn3
        have hT3 := hT2.grown hG3 hR2.lt
        have ho3 := ho2.kept hG3 (.inr (rdr_apart hR2 ho2 (by decide)))
        have hrs3 := hrs2.box hR2 (by decide) hG3
        have hG3' := grown_trans hG2' hG3
        have hs3 := Nat.le_trans hs2 hG3.size
        have hb3s := Nat.le_trans hb2s hG3.size
        clear hR2 hT2 ho2 hG3 hG2' hrs2
        have hown4 := ho3.alloc (.cells #[.slice A3 n3 c3] 56)
        have hR4 := hR3.below ((Below.refl _ w3).alloc (Nat.le_refl _) (.cells #[.slice A3 n3 c3] 56)) hR3.lt
        have hT4 := hT3.below (((Below.refl g w3).alloc (Nat.le_of_lt hR3.lt) (.cells #[.slice A3 n3 c3] 56)))
        have hG4 : w.grownBy (w3.alloc (.cells #[.slice A3 n3 c3] 56)) (some g) := grown_trans hG3' (World.grownBy_alloc w3 _ _)
        have hrd4 : Rd (w3.alloc (.cells #[.slice A3 n3 c3] 56)) (some ⟨w3.heap.size, 0, none⟩) [.slice A3 n3 c3] := Rd.block (heap_alloc_new w3 _) (by simp)
        have hrs4 := ((hrs3.keep (Nat.le_refl B2) (fun q hq _ => Below.heap_alloc w3 (.cells #[.slice A3 n3 c3] 56) q (by omega))).keep (B' := w3.heap.size) hb3s (fun _ _ _ => rfl)).snoc2 HN3.out.symm (c := c3) (hri3.keep (Nat.le_refl _) (fun q hq _ => Below.heap_alloc w3 (.cells #[.slice A3 n3 c3] 56) q hq))
        have h63 : n + 1 ≤ maxLen := by simp only [maxLen]; omega
        have hlim : (n + 1) * 24 ≤ 140737488355328 := by omega
        have hbs4 : B ≤ (w3.alloc (.cells #[.slice A3 n3 c3] 56)).heap.size := by simp; omega
        have hws3 : w3.heap.size ≤ (w3.alloc (.cells #[.slice A3 n3 c3] 56)).heap.size := by simp
        clear hR3 hT3 ho3 hG3' hrs3 hri3
        go_wp2_with (first | (at_builtin; refine list_app _ rfl (.tmp 16) (.tmp 19) 50 rfl B 56 j0 _ 1 24 Tryz.underlying50 hj hy0 hy1 hy2 rfl Nat.one_pos _ _ _ rfl hown4 _ 1 1 [.slice A3 n3 c3] rfl rfl hrd4 (sl_one _ _ _) h63 hlim hbs4 ?_; intro v5 w5 hown5 hg5))
        have hR5 := hR4.app hown4 (by omega) (by decide) hg5
        have hT5 := hT4.app hown4 (by omega) (Nat.le_of_lt hR4.lt) hg5
        have hG5 := grown_own hG4 hown4 hB hg5
        have hrs5 := hrs4.keep (B' := w3.heap.size) (Nat.le_refl _) (keep_out hown4 (by decide) hg5)
        have hnn := HN.out
        obtain ⟨A5, c5, rfl, _⟩ := hown5.form
        have HL5 := Lib.hid (show (acc ++ [p2]).length = n + 1 by rw [List.length_append, hnn]; rfl)
        have hs5 : B ≤ w5.heap.size := Nat.le_trans hbs4 hg5.size
        have hs6 : w3.heap.size ≤ w5.heap.size := Nat.le_trans hws3 hg5.size
        clear hnn hg5 hown4 hR4 hT4 hG4 hrd4 hrs4
        go_wp2_with fail
        go_roundw
        case rel => exact ⟨acc ++ [p2], r2, f', B, _, by rw [HL5.out]; omega, by rw [HL5.out]; exact hown5, ⟨w3.heap.size, hs6, hrs5⟩, hR5, hT5, hG5, ⟨hB, hs5⟩, HE2⟩
        case measure => simp; omega
      | false =>
        have HS := Lib.hid hs
        clear hs
        have hE := HE.out
        unfold paramsGo at hE
        rw [if_neg (by rw [HS.out]; simp)] at hE
        injection hE with e1 e2
        subst e1
        subst e2
        clear HE
        go_wp2_with fail
        refine (skip_no g A c l [59] rr x0 x1 x2 x3 x4 x5 _ HS.out hlc hl (by simp) hR).mono ?_
        rintro e w2 ⟨rfl, hR2, hG2⟩
        have ho2 := ho.kept hG2 (.inr (rdr_apart hR ho (by decide)))
        have hrs2 := hrs.box hR (by decide) hG2
        have hG2' := grown_trans hG hG2
        have hR2b := hR2
        obtain ⟨_, _, _, _, hblk2⟩ := hR2b
        obtain ⟨A3, c3, h3, hrow⟩ := hrs2.rdpn ho2 hblk2 (by decide) (by decide)
        cases h3
        clear hblk2
        cases hq : decide (acc = [[-1]]) with
        | true =>
          have HQQ := Lib.hid hq
          have hps := HQ.out
          unfold noneL at hps
          rw [if_pos (of_decide_eq_true hq)] at hps
          subst hps
          clear hq
          go_wp2_with fail
          refine (isNone_any A2 n c2 acc true _ HN.out HQQ.out (by omega) hrow.rdp).mono ?_
          rintro e w3 ⟨rfl, rfl⟩
          go_wp2_with fail
          go_ret
          exact params_post rfl (RdPN.nil _ _ _) hR2 hG2'
        | false =>
          have HQQ := Lib.hid hq
          have hps := HQ.out
          unfold noneL at hps
          rw [if_neg (of_decide_eq_false hq)] at hps
          subst hps
          clear hq
          go_wp2_with fail
          refine (isNone_any A2 n c2 acc false _ HN.out HQQ.out (by omega) hrow.rdp).mono ?_
          rintro e w3 ⟨rfl, rfl⟩
          go_wp2_with fail
          go_ret
          exact params_post HN.out hrow hR2 hG2'
    · have h8' : 16 ≤ n := by omega
      obtain rfl : f = 0 := by omega
      have hE := HE.out
      unfold paramsGo at hE
      injection hE with e1 e2
      subst e1
      subst e2
      clear HE h8
      have hR2b := hR
      obtain ⟨_, _, _, _, hblk2⟩ := hR2b
      obtain ⟨A3, c3, h3, hrow⟩ := hrs.rdpn ho hblk2 (by decide) (by decide)
      cases h3
      clear hblk2
      cases hq : decide (acc = [[-1]]) with
      | true =>
        exfalso
        have := congrArg List.length (of_decide_eq_true hq)
        rw [HN.out] at this
        simp at this
        omega
      | false =>
        have HQQ := Lib.hid hq
        have hps := HQ.out
        unfold noneL at hps
        rw [if_neg (of_decide_eq_false hq)] at hps
        subst hps
        clear hq
        go_wp2_with fail
        refine (isNone_any A2 n c2 acc false _ HN.out HQQ.out (by omega) hrow.rdp).mono ?_
        rintro e w3 ⟨rfl, rfl⟩
        go_wp2_with fail
        go_ret
        exact params_post HN.out hrow hR hG
end Go.Proofs.YtmagokkegadmiaaGreatDoor
