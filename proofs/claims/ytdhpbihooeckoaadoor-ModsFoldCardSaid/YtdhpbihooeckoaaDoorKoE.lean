/-
  Layer 9, the landed keys, walked: a row's entry.
-/
import Derived.Test.YtdhpbihooeckoaaDoorKoR
namespace Go.Proofs.YtdhpbihooeckoaaDoor
open Go.RowKit

set_option maxRecDepth 100000 in
set_option maxHeartbeats 4000000 in
theorem entry_any (F L K : Int) (s : ByteArray) (ns : List Int) (m : Nat) (hm : ns.length = m) (u : ByteArray) (B : Bool) (A : Option Addr) (cp a : Nat) (ha : a ≤ 100000) (_hF : 0 ≤ F) (_hF2 : F ≤ 60000) (_hs : s.size ≤ 100) (hm2 : m ≤ 100) (_hu : u.size ≤ 100) (w : World) (hr : Rd w A (is_ ns)) :
    Calls Tryd.prog 32 #[.agg #[.int .i64 F, .int .i64 L, .int .i64 K, .string s, .slice A m cp, .string u, .bool B], .int .i64 (F + (a : Int))] w fun e w' => e = .returned (.agg #[.int .i64 K, .int .u8 (sbK s a), .int .i64 (ns.getD a 0), .int .i64 (sbK u a), .bool B]) ∧ Below w.heap.size w w' := by
  have hB : ∀ x y z, Below w.heap.size w (((w.alloc x).alloc y).alloc z) := fun x y z => (below_two x y).alloc (by simp; omega) _
  go_enter Tryd.func32, Tryd.ntmps32
  have e0 : F + (a : Int) - F = (a : Int) := by omega
  have k0 : (0 : Int) ≤ (a : Int) := by omega
  obtain HM : Hid (ns.length = m) := Lib.hid hm
  clear hm
  by_cases h1 : a < m
  · have q1 : (a : Int) < (m : Int) := by omega
    obtain ⟨b, o, rfl, hb, hc⟩ := hr.int_at (by rw [HM.out]; omega)
    have hx := hc a (by rw [HM.out]; exact h1)
    have N1 := Lib.hid (getD_yes (l := ns) (a := a) (by rw [HM.out]; exact h1))
    obtain ⟨x, hx2⟩ : ∃ x, ns[a]'(by rw [HM.out]; exact h1) = x := ⟨_, rfl⟩
    rw [hx2] at hx N1
    have hxW : ∀ o1 o2 o3, (((w.alloc o1).alloc o2).alloc o3).cell? ⟨b, o + a, none⟩ = some (.int .i64 x) := fun o1 o2 o3 => ((hB o1 o2 o3).cell (p := ⟨b, o + a, none⟩) hb).trans hx
    clear hc hx2
    by_cases h2 : a < s.size
    · have q2 : (a : Int) < (s.size : Int) := by omega
      have N2 := Lib.hid (sbK_yes h2)
      by_cases h3 : a < u.size
      · have q3 : (a : Int) < (u.size : Int) := by omega
        have N3 := Lib.hid (sbK_yes h3)
        have hd := (u[a]'h3).toNat_lt
        have wd : wrap64 ((u[a]'h3).toNat : Int) = ((u[a]'h3).toNat : Int) := by unfold wrap64; omega
        go_wp2
        refine bodyPost_ret (v := .agg #[.int .i64 K, .int .u8 (sbK s a), .int .i64 (ns.getD a 0), .int .i64 (sbK u a), .bool B]) (by rw [N2.out, N1.out, N3.out]; simp [results, Tryd.results32, go_sem]) rfl ⟨rfl, hB _ _ _⟩
      · have q3 : (u.size : Int) ≤ (a : Int) := by omega
        have N3 := Lib.hid (sbK_no h3)
        go_wp2
        refine bodyPost_ret (v := .agg #[.int .i64 K, .int .u8 (sbK s a), .int .i64 (ns.getD a 0), .int .i64 (sbK u a), .bool B]) (by rw [N2.out, N1.out, N3.out]; simp [results, Tryd.results32, go_sem]) rfl ⟨rfl, hB _ _ _⟩
    · have q2 : (s.size : Int) ≤ (a : Int) := by omega
      have N2 := Lib.hid (sbK_no h2)
      by_cases h3 : a < u.size
      · have q3 : (a : Int) < (u.size : Int) := by omega
        have N3 := Lib.hid (sbK_yes h3)
        have hd := (u[a]'h3).toNat_lt
        have wd : wrap64 ((u[a]'h3).toNat : Int) = ((u[a]'h3).toNat : Int) := by unfold wrap64; omega
        go_wp2
        refine bodyPost_ret (v := .agg #[.int .i64 K, .int .u8 (sbK s a), .int .i64 (ns.getD a 0), .int .i64 (sbK u a), .bool B]) (by rw [N2.out, N1.out, N3.out]; simp [results, Tryd.results32, go_sem]) rfl ⟨rfl, hB _ _ _⟩
      · have q3 : (u.size : Int) ≤ (a : Int) := by omega
        have N3 := Lib.hid (sbK_no h3)
        go_wp2
        refine bodyPost_ret (v := .agg #[.int .i64 K, .int .u8 (sbK s a), .int .i64 (ns.getD a 0), .int .i64 (sbK u a), .bool B]) (by rw [N2.out, N1.out, N3.out]; simp [results, Tryd.results32, go_sem]) rfl ⟨rfl, hB _ _ _⟩
  · have q1 : (m : Int) ≤ (a : Int) := by omega
    have N1 := Lib.hid (getD_no (l := ns) (a := a) (by rw [HM.out]; exact h1))
    by_cases h2 : a < s.size
    · have q2 : (a : Int) < (s.size : Int) := by omega
      have N2 := Lib.hid (sbK_yes h2)
      by_cases h3 : a < u.size
      · have q3 : (a : Int) < (u.size : Int) := by omega
        have N3 := Lib.hid (sbK_yes h3)
        have hd := (u[a]'h3).toNat_lt
        have wd : wrap64 ((u[a]'h3).toNat : Int) = ((u[a]'h3).toNat : Int) := by unfold wrap64; omega
        go_wp2
        refine bodyPost_ret (v := .agg #[.int .i64 K, .int .u8 (sbK s a), .int .i64 (ns.getD a 0), .int .i64 (sbK u a), .bool B]) (by rw [N2.out, N1.out, N3.out]; simp [results, Tryd.results32, go_sem]) rfl ⟨rfl, hB _ _ _⟩
      · have q3 : (u.size : Int) ≤ (a : Int) := by omega
        have N3 := Lib.hid (sbK_no h3)
        go_wp2
        refine bodyPost_ret (v := .agg #[.int .i64 K, .int .u8 (sbK s a), .int .i64 (ns.getD a 0), .int .i64 (sbK u a), .bool B]) (by rw [N2.out, N1.out, N3.out]; simp [results, Tryd.results32, go_sem]) rfl ⟨rfl, hB _ _ _⟩
    · have q2 : (s.size : Int) ≤ (a : Int) := by omega
      have N2 := Lib.hid (sbK_no h2)
      by_cases h3 : a < u.size
      · have q3 : (a : Int) < (u.size : Int) := by omega
        have N3 := Lib.hid (sbK_yes h3)
        have hd := (u[a]'h3).toNat_lt
        have wd : wrap64 ((u[a]'h3).toNat : Int) = ((u[a]'h3).toNat : Int) := by unfold wrap64; omega
        go_wp2
        refine bodyPost_ret (v := .agg #[.int .i64 K, .int .u8 (sbK s a), .int .i64 (ns.getD a 0), .int .i64 (sbK u a), .bool B]) (by rw [N2.out, N1.out, N3.out]; simp [results, Tryd.results32, go_sem]) rfl ⟨rfl, hB _ _ _⟩
      · have q3 : (u.size : Int) ≤ (a : Int) := by omega
        have N3 := Lib.hid (sbK_no h3)
        go_wp2
        refine bodyPost_ret (v := .agg #[.int .i64 K, .int .u8 (sbK s a), .int .i64 (ns.getD a 0), .int .i64 (sbK u a), .bool B]) (by rw [N2.out, N1.out, N3.out]; simp [results, Tryd.results32, go_sem]) rfl ⟨rfl, hB _ _ _⟩
end Go.Proofs.YtdhpbihooeckoaaDoor
