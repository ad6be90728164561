/-
  Layer 9: the document's own answers: the parts of Look. A sequence of numbers, as a value, and the document's Put of it.
  Cut out of SqnW. Cut out of WirF: what names no function of any dump. Cut out of WirY: what names no function of any dump. Layer 3, walked: the document's bare. Layer 2, the mathematics of following bytes. What All answers. A call that tells bytes: the slice, with its room. Cut out of WpQ: what names no function of any dump. Words for what Put and Take tell, the document's and the program's. Layer 3, walked: the program's reader: skip, run, one, part.
  Cut out of RdA.
-/
import Derived.Test.YtbjmfhcgkpjcfaaGreatDoorG01
import Derived.Test.YtbjmfhcgkpjcfaaGreatDoorG02
import Derived.Test.YtbjmfhcgkpjcfaaGreatDoorG03
import Derived.Test.YtbjmfhcgkpjcfaaGreatDoorG04
import Derived.Test.YtbjmfhcgkpjcfaaGreatDoorG05
import Derived.Test.YtbjmfhcgkpjcfaaGreatDoorG07
import Derived.Test.YtbjmfhcgkpjcfaaGreatDoorG09
import Derived.Deep.Cut
import Derived.Deep.RegionHeld
namespace Go.Proofs.YtbjmfhcgkpjcfaaGreatDoor
open Go.RowKit

theorem ret_i9 {k : IntKind} {a b : Int} (h : a = b) : Ending.returned (.int k a) = .returned (.int k b) := by rw [h]
set_option maxRecDepth 100000 in
set_option maxHeartbeats 8000000 in
theorem rletter_any (c : Int) (w : World) : Calls Tryz.prog 35 #[.int .i64 c] w fun e w' => e = .returned (.int .u8 (letterN c)) ∧ w' = w := by
  go_enter Tryz.func35, Tryz.ntmps35
  go_wp2
  all_goals
    go_ret
    refine ⟨ret_i9 ?_, rfl⟩
    simp only [beq_iff_eq, beq_eq_false_iff_ne, ne_eq] at *
    first
      | (subst_vars; decide +kernel)
      | (unfold letterN
         repeat' split
         all_goals omega)
set_option maxRecDepth 100000 in
set_option maxHeartbeats 8000000 in
theorem rnumber_any (c : Int) (w : World) : Calls Tryz.prog 36 #[.int .i64 c] w fun e w' => e = .returned (.int .i64 (numberN c)) ∧ w' = w := by
  go_enter Tryz.func36, Tryz.ntmps36
  go_wp2
  all_goals
    go_ret
    refine ⟨ret_i9 ?_, rfl⟩
    simp only [beq_iff_eq, beq_eq_false_iff_ne, ne_eq] at *
    first
      | (subst_vars; decide +kernel)
      | (unfold numberN
         repeat' split
         all_goals omega)
end Go.Proofs.YtbjmfhcgkpjcfaaGreatDoor
namespace Go.Proofs.YtbjmfhcgkpjcfaaGreatDoor
open Go.RowKit

theorem sqn_v {kind f : Int} {l : List Int} {n : Nat} (hn : l.length = n) (f0 : 0 ≤ f) (f1 : f < 256) (A : Option Addr) (c : Nat) : sqV (sqN kind f l) A c = .agg #[.int .i64 kind, .int .u8 0, .slice A n c, .string ⟨#[]⟩, .int .u8 f, .string ⟨#[]⟩] := by
  have h : (sqN kind f l).params.length = n := by show (l.map fun n => [n]).length = n; rw [List.length_map]; exact hn
  unfold sqV
  rw [h]
  show Value.agg #[.int .i64 kind, .int .u8 0, .slice A n c, .string ⟨#[]⟩, .int .u8 ((byt f).toNat : Int), .string ⟨#[]⟩] = _
  rw [byt_nat f f0 f1]
end Go.Proofs.YtbjmfhcgkpjcfaaGreatDoor
namespace Go.Proofs.YtbjmfhcgkpjcfaaGreatDoor
open Go.RowKit

/-- Bytes and no error; no bytes and an error. -/
def WYes (T : List UInt8) (w : World) (e : Ending) (w' : World) : Prop := (∃ A c, e = .returned (.tuple #[.slice A T.length c, .int .i64 0]) ∧ T.length ≤ c ∧ Rd w' A (bs T)) ∧ Below w.heap.size w w'
def WNo (m : Int) (w : World) (e : Ending) (w' : World) : Prop := e = .returned (.tuple #[.slice none 0 0, .int .i64 m]) ∧ Below w.heap.size w w'
theorem body_len {s : Sq} (hp : parOk s.params = true) (hi : s.inter.length ≤ 2) : (bodyL s).length ≤ 3000 := by
  obtain ⟨h1, h2⟩ := parOk_lens hp
  have h3 := parL_len s.params h2
  have h4 : (privL s.priv).length ≤ 1 := by unfold privL; split <;> simp
  unfold bodyL
  rw [List.length_append, List.length_append]
  omega
end Go.Proofs.YtbjmfhcgkpjcfaaGreatDoor
namespace Go.Proofs.YtbjmfhcgkpjcfaaGreatDoor
open Go.RowKit

theorem may_1 {s : Sq} (h : s.data.length ≤ 4096) (h1 : okS s = false) : mayS s = 1 := by
  unfold mayS; rw [if_neg (by omega), if_neg (by rw [h1]; decide)]
theorem may_0 {s : Sq} (h : s.data.length ≤ 4096) (h1 : okS s = true) : mayS s = 0 := by
  unfold mayS; rw [if_neg (by omega), if_pos h1]
theorem may_4 {s : Sq} (h : 4096 < s.data.length) : mayS s = 4 := by unfold mayS; rw [if_pos h]
end Go.Proofs.YtbjmfhcgkpjcfaaGreatDoor
namespace Go.Proofs.YtbjmfhcgkpjcfaaGreatDoor
open Go.RowKit

set_option maxRecDepth 100000 in
set_option maxHeartbeats 4000000 in
theorem bare_any (s : Sq) (A : Option Addr) (c : Nat) (q : Bool) (w : World) (hq : bareOk s = q) :
    Calls Tryz.prog 68 #[sqV s A c] w fun e w' => e = .returned (.bool q) ∧ Below w.heap.size w w' := by
  obtain ⟨k, pv, ps, it, f, d⟩ := s
  unfold sqV
  dsimp only
  have key : (k = 2 ∨ k = 4 ∨ k = 5) ∧ pv ≠ 0 ∧ q = false ∨ (k = 2 ∨ k = 4 ∨ k = 5) ∧ pv = 0 ∧ ps ≠ [] ∧ q = false ∨ (k = 2 ∨ k = 4) ∧ pv = 0 ∧ ps = [] ∧ it ≠ [] ∧ q = false ∨
      (k = 2 ∧ pv = 0 ∧ ps = [] ∧ it = [] ∨ k = 5 ∧ pv = 0 ∧ ps = []) ∧ q = decide (d = []) ∨ k = 4 ∧ pv = 0 ∧ ps = [] ∧ it = [] ∧ q = true ∨ k = 3 ∧ q = true ∨ (k ≠ 2 ∧ k ≠ 3 ∧ k ≠ 4 ∧ k ≠ 5) ∧ q = decide (d = []) := by
    subst hq
    unfold bareOk
    dsimp only
    by_cases k2 : k = 2
    · subst k2
      by_cases h1 : pv = 0 <;> by_cases h2 : ps = [] <;> by_cases h3 : it = [] <;> simp [h1, h2, h3]
    · by_cases k4 : k = 4
      · subst k4
        by_cases h1 : pv = 0 <;> by_cases h2 : ps = [] <;> by_cases h3 : it = [] <;> simp [h1, h2, h3]
      · by_cases k5 : k = 5
        · subst k5
          by_cases h1 : pv = 0 <;> by_cases h2 : ps = [] <;> simp [h1, h2]
        · by_cases k3 : k = 3
          · subst k3; simp
          · simp [k2, k3, k4, k5]
  clear hq
  rcases key with ⟨hk, hp, rfl⟩ | ⟨hk, rfl, hp, rfl⟩ | ⟨hk, rfl, rfl, hi, rfl⟩ | ⟨⟨rfl, rfl, rfl, rfl⟩ | ⟨rfl, rfl, rfl⟩, hq⟩ | ⟨rfl, rfl, rfl, rfl, rfl⟩ | ⟨rfl, rfl⟩ | ⟨⟨k2, k3, k4, k5⟩, hq⟩
  · have hn : pv.toNat ≠ 0 := fun e => hp (UInt8.toNat_inj.1 e)
    have t1 : ((pv.toNat : Int) == 0) = false := beq_false_of_ne (by omega)
    have t2 : ((pv.toNat : Int) != 0) = true := by simp [bne, t1]
    clear hp
    rcases hk with rfl | rfl | rfl
    all_goals
      go_enter Tryz.func68, Tryz.ntmps68
      go_wp2
      go_ret
      exact ⟨rfl, (Below.refl _ _).alloc (Nat.le_refl _) _⟩
  · have hn : 0 < ps.length := List.length_pos_iff.2 hp
    have hn2 : (0 : Int) < (ps.length : Int) := by omega
    clear hp
    rcases hk with rfl | rfl | rfl
    all_goals
      go_enter Tryz.func68, Tryz.ntmps68
      go_wp2
      go_ret
      exact ⟨rfl, (Below.refl _ _).alloc (Nat.le_refl _) _⟩
  · cases it with
    | nil => exact absurd rfl hi
    | cons x it =>
      clear hi
      rcases hk with rfl | rfl
      all_goals
        go_enter Tryz.func68, Tryz.ntmps68
        go_wp2
        go_ret
        exact ⟨rfl, (Below.refl _ _).alloc (Nat.le_refl _) _⟩
  · cases d with
    | nil =>
      obtain rfl : true = q := hq.symm
      clear hq
      go_enter Tryz.func68, Tryz.ntmps68
      go_wp2
      go_ret
      exact ⟨rfl, (Below.refl _ _).alloc (Nat.le_refl _) _⟩
    | cons x d =>
      obtain rfl : false = q := hq.symm
      clear hq
      go_enter Tryz.func68, Tryz.ntmps68
      go_wp2
      go_ret
      exact ⟨rfl, (Below.refl _ _).alloc (Nat.le_refl _) _⟩
  · cases d with
    | nil =>
      obtain rfl : true = q := hq.symm
      clear hq
      go_enter Tryz.func68, Tryz.ntmps68
      go_wp2
      go_ret
      exact ⟨rfl, (Below.refl _ _).alloc (Nat.le_refl _) _⟩
    | cons x d =>
      obtain rfl : false = q := hq.symm
      clear hq
      go_enter Tryz.func68, Tryz.ntmps68
      go_wp2
      go_ret
      exact ⟨rfl, (Below.refl _ _).alloc (Nat.le_refl _) _⟩
  · cases d
    all_goals
      go_enter Tryz.func68, Tryz.ntmps68
      go_wp2
      go_ret
      exact ⟨rfl, (Below.refl _ _).alloc (Nat.le_refl _) _⟩
  · cases d
    all_goals
      go_enter Tryz.func68, Tryz.ntmps68
      go_wp2
      go_ret
      exact ⟨rfl, (Below.refl _ _).alloc (Nat.le_refl _) _⟩
  · have t2 : (k == 2) = false := beq_false_of_ne k2
    have t3 : (k == 3) = false := beq_false_of_ne k3
    have t4 : (k == 4) = false := beq_false_of_ne k4
    have t5 : (k == 5) = false := beq_false_of_ne k5
    clear k2 k3 k4 k5
    cases d with
    | nil =>
      obtain rfl : true = q := hq.symm
      clear hq
      go_enter Tryz.func68, Tryz.ntmps68
      go_wp2
      go_ret
      exact ⟨rfl, (Below.refl _ _).alloc (Nat.le_refl _) _⟩
    | cons x d =>
      obtain rfl : false = q := hq.symm
      clear hq
      go_enter Tryz.func68, Tryz.ntmps68
      go_wp2
      go_ret
      exact ⟨rfl, (Below.refl _ _).alloc (Nat.le_refl _) _⟩
end Go.Proofs.YtbjmfhcgkpjcfaaGreatDoor
namespace Go.Proofs.YtbjmfhcgkpjcfaaGreatDoor

def accL (x : Int) : List UInt8 → Option Int
  | [] => some x
  | c :: t => if fol c = true then accL (x * 64 + ((c.toNat : Int) - 128)) t else none
theorem accL_append (x : Int) (t u : List UInt8) : accL x (t ++ u) = (accL x t).bind fun y => accL y u := by
  induction t generalizing x with
  | nil => rfl
  | cons c t ih =>
    by_cases hf : fol c = true
    · have e1 : ∀ t, accL x (c :: t) = accL (x * 64 + ((c.toNat : Int) - 128)) t := fun t => if_pos hf
      rw [List.cons_append, e1, e1]
      exact ih _
    · have e1 : ∀ t, accL x (c :: t) = none := fun t => if_neg hf
      rw [List.cons_append, e1, e1]
      rfl
theorem accL_step (x : Int) (l : List UInt8) (k : Nat) (h : k < l.length) (y : Int) (hy : accL x (l.take k) = some y) :
    accL x (l.take (k + 1)) = if fol l[k] = true then some (y * 64 + ((l[k].toNat : Int) - 128)) else none := by
  rw [List.take_succ_eq_append_getElem h, accL_append, hy]
  rfl
theorem accL_none (x : Int) (l : List UInt8) (k j : Nat) (hk : k ≤ j) (h : accL x (l.take k) = none) : accL x (l.take j) = none := by
  have e : l.take j = l.take k ++ (l.drop k).take (j - k) := by
    rw [← List.take_add, show k + (j - k) = j by omega]
  rw [e, accL_append, h]; rfl
theorem accL_bd : ∀ (t : List UInt8) (x y : Int), 0 ≤ x → accL x t = some y → 0 ≤ y := by
  intro t
  induction t with
  | nil => intro x y h0 h; injection h with h; omega
  | cons c t ih =>
    intro x y h0 h
    unfold accL at h
    split at h
    · rename_i hf
      have := (fol_iff c).1 hf
      exact ih _ y (by omega) h
    · cases h
theorem accL_up (x : Int) (l : List UInt8) (k : Nat) (hk : k ≤ 3) (h0 : 0 ≤ x) (h1 : x < 256) (y : Int) (h : accL x (l.take k) = some y) : 0 ≤ y ∧ y < 67108864 := by
  refine ⟨accL_bd _ _ _ h0 h, ?_⟩
  have step : ∀ (t : List UInt8) (x y B : Int), x < B → accL x t = some y → y < B * 64 ^ t.length := by
    intro t
    induction t with
    | nil => intro x y B hB h; injection h with h; simp; omega
    | cons c t ih =>
      intro x y B hB h
      unfold accL at h
      split at h
      · rename_i hf
        have := (fol_iff c).1 hf
        have h2 := ih _ y (B * 64) (by omega) h
        rw [List.length_cons, show B * 64 ^ (t.length + 1) = B * 64 * 64 ^ t.length by rw [Int.pow_succ]; simp only [Int.mul_assoc]; rw [Int.mul_comm (64 ^ t.length)]]
        exact h2
      · cases h
  have hs := step _ x y 256 h1 h
  have hl : (l.take k).length ≤ 3 := Nat.le_trans (List.length_take_le _ _) hk
  have : (l.take k).length = 0 ∨ (l.take k).length = 1 ∨ (l.take k).length = 2 ∨ (l.take k).length = 3 := by omega
  rcases this with e | e | e | e <;> (rw [e] at hs; simp at hs; omega)

end Go.Proofs.YtbjmfhcgkpjcfaaGreatDoor
namespace Go.Proofs.YtbjmfhcgkpjcfaaGreatDoor
open Go.RowKit

theorem Tryz.intinfo : (Tryz.prog.info? 3).map (fun i => (i.zero, i.size, i.bytes)) = some (some (.int .i64 0), 1, 8) := by kernel_rfl

/-- What All answers. -/
def Al (o : Option (List Int)) (w : World) (e : Ending) (w' : World) : Prop :=
  match o with
  | some k => ∃ A c, e = .returned (.tuple #[.slice A k.length c, .bool true]) ∧ Rd w' A (is_ k) ∧ Below w.heap.size w w'
  | none => e = .returned (.tuple #[.slice none 0 0, .bool false]) ∧ Below w.heap.size w w'
theorem Al.yes {o : Option (List Int)} {k : List Int} {n : Nat} (h : o = some k) (hn : k.length = n) {w w' : World} {A : Option Addr} {c : Nat} (hr : Rd w' A (is_ k)) (hb : Below w.heap.size w w') : Al o w (.returned (.tuple #[.slice A n c, .bool true])) w' := by
  subst h hn
  exact ⟨A, c, rfl, hr, hb⟩
theorem Al.no {o : Option (List Int)} (h : o = none) {w w' : World} (hb : Below w.heap.size w w') : Al o w (.returned (.tuple #[.slice none 0 0, .bool false])) w' := by
  subst h
  exact ⟨rfl, hb⟩
/-- The same, with the row that it made. -/
def AlO (o : Option (List Int)) (w : World) (e : Ending) (w' : World) : Prop :=
  match o with
  | some k => ∃ v, e = .returned (.tuple #[v, .bool true]) ∧ Own w' w.heap.size 3 1 v k.length (is_ k) ∧ Below w.heap.size w w'
  | none => e = .returned (.tuple #[.slice none 0 0, .bool false]) ∧ Below w.heap.size w w'
theorem AlO.yes {o : Option (List Int)} {k : List Int} (h : o = some k) {w w' : World} {v : Value} (hr : Own w' w.heap.size 3 1 v k.length (is_ k)) (hb : Below w.heap.size w w') : AlO o w (.returned (.tuple #[v, .bool true])) w' := by
  subst h
  exact ⟨v, rfl, hr, hb⟩
theorem AlO.no {o : Option (List Int)} (h : o = none) {w w' : World} (hb : Below w.heap.size w w') : AlO o w (.returned (.tuple #[.slice none 0 0, .bool false])) w' := by
  subst h
  exact ⟨rfl, hb⟩
theorem AlO.al {o : Option (List Int)} {w w' : World} {e : Ending} (h : AlO o w e w') : Al o w e w' := by
  cases o with
  | none => exact h
  | some k =>
    obtain ⟨v, rfl, ho, hb⟩ := h
    obtain ⟨A, c, rfl, hr⟩ := ho.form
    exact ⟨A, c, rfl, hr, hb⟩
end Go.Proofs.YtbjmfhcgkpjcfaaGreatDoor
namespace Go.Proofs.YtbjmfhcgkpjcfaaGreatDoor
open Go.RowKit

/-- A slice of bytes handed back, with its room. -/
def OutC (L : List UInt8) (w : World) (e : Ending) (w' : World) : Prop := ∃ A c, e = .returned (.slice A L.length c) ∧ L.length ≤ c ∧ Rd w' A (bs L) ∧ Below w.heap.size w w'
theorem outC_out {L : List UInt8} {w w' : World} {e : Ending} (h : OutC L w e w') : Out L w e w' := by
  obtain ⟨A, c, he, _, hr, hb⟩ := h
  exact ⟨A, c, he, hr, hb⟩
theorem outC_step {L : List UInt8} {w w1 w' : World} {e : Ending} (hb : Below w.heap.size w w1) (h : OutC L w1 e w') : OutC L w e w' := by
  obtain ⟨A, c, he, hc, hr, hb'⟩ := h
  exact ⟨A, c, he, hc, hr, hb.trans (hb'.mono hb.size)⟩
theorem outC_is {L M : List UInt8} {w w' : World} {e : Ending} (hl : L = M) (h : OutC M w e w') : OutC L w e w' := hl ▸ h
end Go.Proofs.YtbjmfhcgkpjcfaaGreatDoor
namespace Go.Proofs.YtbjmfhcgkpjcfaaGreatDoor
open Go.RowKit

theorem may_small {s : Sq} (h : mayS s = 0) : s.priv.toNat < 128 ∧ s.final.toNat < 128 ∧ (putS s).length ≤ 20000 ∧ (s.kind = 1 ∨ s.kind = 2 ∨ s.kind = 3 ∨ s.kind = 4 ∨ s.kind = 5) := by
  obtain ⟨hdl, hv, hp, hil, hi, hd, hl, hb⟩ := ok_parts h
  have hk : s.kind = 1 ∨ s.kind = 2 ∨ s.kind = 3 ∨ s.kind = 4 ∨ s.kind = 5 := by
    unfold lastOk at hl
    split at hl
    · omega
    · split at hl
      · omega
      · simp only [Bool.and_eq_true, decide_eq_true_eq] at hl; omega
  refine ⟨?_, ?_, ?_, hk⟩
  · simp only [privOk, Bool.or_eq_true, decide_eq_true_eq] at hv
    rcases hv with hv | hv
    · rw [hv]; decide
    · have := (btw_iff _ _ _).1 hv; omega
  · unfold lastOk at hl
    split at hl
    · have := (btw_iff _ _ _).1 hl; omega
    · split at hl
      · simp only [Bool.and_eq_true] at hl
        have := (btw_iff _ _ _).1 hl.1; omega
      · simp only [Bool.and_eq_true, decide_eq_true_eq] at hl
        rw [hl.2]; decide
  · have h3 := body_len hp hil
    unfold putS
    (repeat' split) <;> simp <;> omega
end Go.Proofs.YtbjmfhcgkpjcfaaGreatDoor
namespace Go.Proofs.YtbjmfhcgkpjcfaaGreatDoor
open Go.RowKit

/-- Put, whatever it tells. -/
def PutE (m : Int) (T : List UInt8) (w : World) (e : Ending) (w' : World) : Prop :=
  (∃ A c, e = .returned (.tuple #[.slice A T.length c, .int .i64 m]) ∧ T.length ≤ c ∧ Rd w' A (bs T)) ∧ Below w.heap.size w w'
def putE (s : Sq) : List UInt8 := if mayS s = 0 then putS s else []
theorem putE_0 {s : Sq} (h : mayS s = 0) : putE s = putS s := if_pos h
theorem putE_no {s : Sq} (h : mayS s ≠ 0) : putE s = [] := if_neg h
/-- A slice cut behind a place. -/
theorem cut_hi {P : Program} {T e : TypeId} (he : P.elem T = e) (hT : P.underlying T = some (.slice e)) (hs : ∀ w, (sizeOf e).run P w = .ok 1 w) (A : Option Addr) (n c hi : Nat) (hh : hi ≤ n) (hn : n ≤ c) :
    ∃ A', (∀ w : World, (Instr.slice T (.slice A n c) none (some (.int .i64 (hi : Int))) none).run P w = .ok (.slice A' hi c) w) ∧
      ∀ (w : World) (l : List UInt8), l.length = n → Rd w A (bs l) → Rd w A' (bs (l.take hi)) := by
  subst he
  refine ⟨if c = 0 then A else A.map (·.add (0 * 1)), fun w => ?_, fun w l hl hr => ?_⟩
  · rw [run_slice_h w T A n c hT .i64 (hi : Int) (by omega) (by omega), hs]
    simp [Result.andThen, sliced]
  · intro hp
    rw [bs_length, List.length_take] at hp
    obtain ⟨b, o, rfl, hb, hc⟩ := hr (by rw [bs_length]; omega)
    rw [if_neg (by omega)]
    refine ⟨b, o, ?_, hb, fun i u hu => ?_⟩
    · rw [Option.map_some, addr_add_at, Nat.zero_mul, Nat.add_zero]
    · apply hc
      have hi : i < hi := by
        have := (List.getElem?_eq_some_iff.1 hu).1
        rw [bs_length, List.length_take] at this
        omega
      simp only [bs, List.map_take, List.getElem?_take, if_pos hi] at hu
      exact hu

def seqC (s : Sq) (A : Option Addr) (c : Nat) : Array Value := #[.int .i64 s.kind, .int .u8 (s.priv.toNat : Int), .slice A s.params.length c, .string ⟨s.inter.toArray⟩, .int .u8 (s.final.toNat : Int), .string ⟨s.data.toArray⟩]
def zeroS : Value := .agg #[.int .i64 0, .int .u8 0, .slice none 0 0, .string ⟨#[]⟩, .int .u8 0, .string ⟨#[]⟩]
theorem rdp_drew {w : World} {A : Option Addr} {ps : List (List Int)} (h : RdP w A ps) : RdP w.drew A ps := h
end Go.Proofs.YtbjmfhcgkpjcfaaGreatDoor
namespace Go.Proofs.YtbjmfhcgkpjcfaaGreatDoor
open Go.RowKit

/-- A string made bytes, at whatever world. -/
theorem conv_all (P : Program) (src dst e : TypeId) (t : List UInt8) (hs : P.underlying src = some .string) (hd : P.underlying dst = some (.slice e)) (he : P.underlying e = some (.int .u8)) (hm : t.length ≤ maxLen) :
    ∃ (C : World → Nat) (X : World → World), ∀ W, (convert src dst (.string ⟨t.toArray⟩)).run P W = .ok (.slice (some ⟨W.heap.size, 0, none⟩) t.length (C W)) (X W) ∧ t.length ≤ C W ∧
      Rd (X W) (some ⟨W.heap.size, 0, none⟩) (bs t) ∧ Below W.heap.size W (X W) := by
  refine ⟨fun W => grownCap W t.length 0 e, fun W => W.drew.alloc (.cells (bytesRow ⟨t.toArray⟩ (grownCap W t.length 0 e)) e ((bytesRow ⟨t.toArray⟩ (grownCap W t.length 0 e)).size, (bytesRow ⟨t.toArray⟩ (grownCap W t.length 0 e)).size + 1)), fun W => ⟨?_, grownCap_ge W t.length 0 e, ?_, ?_⟩⟩
  · have := run_bytes_of_string (P := P) W src dst e ⟨t.toArray⟩ hs hd he
    rw [this]
    rfl
  · obtain ⟨v', w', hr, ho, hg⟩ := run_conv (P := P) W 0 src dst e ⟨t.toArray⟩ hs hd he hm (Nat.zero_le _)
    rw [run_bytes_of_string (P := P) W src dst e ⟨t.toArray⟩ hs hd he] at hr
    injection hr with h1 h2
    subst h1
    subst h2
    exact ho.rd
  · exact ((Below.refl _ W).drew).alloc (by simp) _
end Go.Proofs.YtbjmfhcgkpjcfaaGreatDoor
