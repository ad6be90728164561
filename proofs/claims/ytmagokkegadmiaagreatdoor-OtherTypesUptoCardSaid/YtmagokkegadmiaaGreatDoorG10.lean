/-
  Layer 10, walked: the document's Old. Layer 9: the document's own answers: the parts of Look. Layer 2, the mathematics of following bytes. Cut out of WirY: what names no function of any dump. Layer 2, walked: what a code point is; the sizes, in their array. Layer 3, walked: the program's isNone and paramsMay. Layer 10, the landed mods: Param and Of.
  Cut out of MdtQ. Cut out of Same: what names no function of any dump.
-/
import Derived.Test.YtmagokkegadmiaaGreatDoorG01
import Derived.Test.YtmagokkegadmiaaGreatDoorG03
import Derived.Test.YtmagokkegadmiaaGreatDoorG07
import Derived.Test.YtmagokkegadmiaaGreatDoorG09
import Derived.BigQuiet
import Derived.Deep.QuietTactic
import Derived.Test.YtmagokkegadmiaaGreatDoorShelf
namespace Go.Proofs.YtmagokkegadmiaaGreatDoor
open Go.RowKit

set_option maxRecDepth 100000 in
theorem rold_any (n : Int) (w : World) : Calls Tryz.prog 16 #[.int .i64 n] w fun e w' => e = .returned (.int .i64 (oldN n)) ∧ Below w.heap.size w w' := by
  obtain ⟨N, hN⟩ : ∃ N, max n 0 = N := ⟨_, rfl⟩
  have hmax := max0 n N hN (P := Tryz.prog)
  obtain ⟨F, hF⟩ : ∃ F, oldN n = F := ⟨_, rfl⟩
  have hm : Int.tmod N 8 = F := by
    rw [Int.tmod_eq_emod_of_nonneg (by omega), ← hF, ← hN]
    rfl
  rw [hF]
  clear hF hN
  go_enter Tryz.func16, Tryz.ntmps16
  go_wp2
  go_ret
  exact ⟨rfl, by first | exact Below.refl _ _ | exact below_drewN (Below.refl _ _) _⟩
end Go.Proofs.YtmagokkegadmiaaGreatDoor
namespace Go.Proofs.YtmagokkegadmiaaGreatDoor
open Go.RowKit

theorem ret_i9 {k : IntKind} {a b : Int} (h : a = b) : Ending.returned (.int k a) = .returned (.int k b) := by rw [h]
set_option maxRecDepth 100000 in
set_option maxHeartbeats 8000000 in
theorem rletter_any (c : Int) (w : World) : Calls Tryz.prog 47 #[.int .i64 c] w fun e w' => e = .returned (.int .u8 (letterN c)) ∧ w' = w := by
  go_enter Tryz.func47, Tryz.ntmps47
  go_wp2
  all_goals
    go_ret
    refine ⟨ret_i9 ?_, rfl⟩
    simp only [beq_iff_eq, beq_eq_false_iff_ne, ne_eq] at *
    first
      | (subst_vars; decide +kernel)
      | (unfold letterN
         repeat' split
         all_goals omega)
set_option maxRecDepth 100000 in
set_option maxHeartbeats 8000000 in
theorem rnumber_any (c : Int) (w : World) : Calls Tryz.prog 48 #[.int .i64 c] w fun e w' => e = .returned (.int .i64 (numberN c)) ∧ w' = w := by
  go_enter Tryz.func48, Tryz.ntmps48
  go_wp2
  all_goals
    go_ret
    refine ⟨ret_i9 ?_, rfl⟩
    simp only [beq_iff_eq, beq_eq_false_iff_ne, ne_eq] at *
    first
      | (subst_vars; decide +kernel)
      | (unfold numberN
         repeat' split
         all_goals omega)
end Go.Proofs.YtmagokkegadmiaaGreatDoor
namespace Go.Proofs.YtmagokkegadmiaaGreatDoor

def accL (x : Int) : List UInt8 → Option Int
  | [] => some x
  | c :: t => if fol c = true then accL (x * 64 + ((c.toNat : Int) - 128)) t else none
theorem accL_append (x : Int) (t u : List UInt8) : accL x (t ++ u) = (accL x t).bind fun y => accL y u := by
  induction t generalizing x with
  | nil => rfl
  | cons c t ih =>
    by_cases hf : fol c = true
    · have e1 : ∀ t, accL x (c :: t) = accL (x * 64 + ((c.toNat : Int) - 128)) t := fun t => if_pos hf
      rw [List.cons_append, e1, e1]
      exact ih _
    · have e1 : ∀ t, accL x (c :: t) = none := fun t => if_neg hf
      rw [List.cons_append, e1, e1]
      rfl
theorem accL_step (x : Int) (l : List UInt8) (k : Nat) (h : k < l.length) (y : Int) (hy : accL x (l.take k) = some y) :
    accL x (l.take (k + 1)) = if fol l[k] = true then some (y * 64 + ((l[k].toNat : Int) - 128)) else none := by
  rw [List.take_succ_eq_append_getElem h, accL_append, hy]
  rfl
theorem accL_none (x : Int) (l : List UInt8) (k j : Nat) (hk : k ≤ j) (h : accL x (l.take k) = none) : accL x (l.take j) = none := by
  have e : l.take j = l.take k ++ (l.drop k).take (j - k) := by
    rw [← List.take_add, show k + (j - k) = j by omega]
  rw [e, accL_append, h]; rfl
theorem accL_bd : ∀ (t : List UInt8) (x y : Int), 0 ≤ x → accL x t = some y → 0 ≤ y := by
  intro t
  induction t with
  | nil => intro x y h0 h; injection h with h; omega
  | cons c t ih =>
    intro x y h0 h
    unfold accL at h
    split at h
    · rename_i hf
      have := (fol_iff c).1 hf
      exact ih _ y (by omega) h
    · cases h
theorem accL_up (x : Int) (l : List UInt8) (k : Nat) (hk : k ≤ 3) (h0 : 0 ≤ x) (h1 : x < 256) (y : Int) (h : accL x (l.take k) = some y) : 0 ≤ y ∧ y < 67108864 := by
  refine ⟨accL_bd _ _ _ h0 h, ?_⟩
  have step : ∀ (t : List UInt8) (x y B : Int), x < B → accL x t = some y → y < B * 64 ^ t.length := by
    intro t
    induction t with
    | nil => intro x y B hB h; injection h with h; simp; omega
    | cons c t ih =>
      intro x y B hB h
      unfold accL at h
      split at h
      · rename_i hf
        have := (fol_iff c).1 hf
        have h2 := ih _ y (B * 64) (by omega) h
        rw [List.length_cons, show B * 64 ^ (t.length + 1) = B * 64 * 64 ^ t.length by rw [Int.pow_succ]; simp only [Int.mul_assoc]; rw [Int.mul_comm (64 ^ t.length)]]
        exact h2
      · cases h
  have hs := step _ x y 256 h1 h
  have hl : (l.take k).length ≤ 3 := Nat.le_trans (List.length_take_le _ _) hk
  have : (l.take k).length = 0 ∨ (l.take k).length = 1 ∨ (l.take k).length = 2 ∨ (l.take k).length = 3 := by omega
  rcases this with e | e | e | e <;> (rw [e] at hs; simp at hs; omega)

end Go.Proofs.YtmagokkegadmiaaGreatDoor
namespace Go.Proofs.YtmagokkegadmiaaGreatDoor
open Go.RowKit

theorem may_1 {s : Sq} (h : s.data.length ≤ 4096) (h1 : okS s = false) : mayS s = 1 := by
  unfold mayS; rw [if_neg (by omega), if_neg (by rw [h1]; decide)]
theorem may_0 {s : Sq} (h : s.data.length ≤ 4096) (h1 : okS s = true) : mayS s = 0 := by
  unfold mayS; rw [if_neg (by omega), if_pos h1]
theorem may_4 {s : Sq} (h : 4096 < s.data.length) : mayS s = 4 := by unfold mayS; rw [if_pos h]
end Go.Proofs.YtmagokkegadmiaaGreatDoor
namespace Go.Proofs.YtmagokkegadmiaaGreatDoor
open Go.RowKit

set_option maxHeartbeats 1000000 in
theorem isPt_any (r : Int) (w : World) : Calls Tryz.prog 86 #[.int .i64 r] w fun e w' => e = .returned (.bool (isPt r)) ∧ w = w' := by
  by_cases h0 : 0 ≤ r
  · by_cases h1 : r ≤ 1114111
    · by_cases h2 : r < 55296
      · go_enter Tryz.func86, Tryz.ntmps86
        go_wp2
        go_ret
        exact ⟨ret_b (((isPt_iff r).2 (by omega)).symm), rfl⟩
      · by_cases h3 : 57343 < r
        · go_enter Tryz.func86, Tryz.ntmps86
          go_wp2
          go_ret
          exact ⟨ret_b (((isPt_iff r).2 (by omega)).symm), rfl⟩
        · go_enter Tryz.func86, Tryz.ntmps86
          go_wp2
          go_ret
          exact ⟨ret_b (((isPt_no r).2 (by omega)).symm), rfl⟩
    · go_enter Tryz.func86, Tryz.ntmps86
      go_wp2
      go_ret
      exact ⟨ret_b (((isPt_no r).2 (by omega)).symm), rfl⟩
  · go_enter Tryz.func86, Tryz.ntmps86
    go_wp2
    go_ret
    exact ⟨ret_b (((isPt_no r).2 (by omega)).symm), rfl⟩

/-- The array of sizes, as it was laid. -/
def sizC : Array Value := #[.int .i64 1, .int .i64 0, .int .i64 0, .int .i64 2, .int .i64 128, .int .i64 192, .int .i64 3, .int .i64 2048, .int .i64 224, .int .i64 4, .int .i64 65536, .int .i64 240]
def Siz (w : World) : Prop := ∃ t fz, w.heap[1]? = some (.cells sizC t fz)
theorem Siz.below {w w' : World} {B : Nat} (h : Siz w) (hb : Below B w w') (hB : w.heap.size ≤ B) : Siz w' := by
  obtain ⟨t, fz, hh⟩ := h
  have := (Array.getElem?_eq_some_iff.1 hh).1
  exact ⟨t, fz, (hb.block _ (by omega)).trans hh⟩
theorem Siz.below' {w w' : World} (h : Siz w) (hb : Below w.heap.size w w') : Siz w' := h.below hb (Nat.le_refl _)

/-- A size, by its place. -/
def szA : Nat → Array Value
  | 0 => #[.int .i64 1, .int .i64 0, .int .i64 0]
  | 1 => #[.int .i64 2, .int .i64 128, .int .i64 192]
  | 2 => #[.int .i64 3, .int .i64 2048, .int .i64 224]
  | _ => #[.int .i64 4, .int .i64 65536, .int .i64 240]
/-- The place of a code point's size, of those up to place k; and of a first byte's. -/
def ixP (r : Int) (k : Nat) : Nat := if 3 < k ∧ 65536 ≤ r then 3 else if 2 < k ∧ 2048 ≤ r then 2 else if 1 < k ∧ 128 ≤ r then 1 else 0
def ixF (r : Int) (k : Nat) : Nat := if 3 < k ∧ 240 ≤ r then 3 else if 2 < k ∧ 224 ≤ r then 2 else if 1 < k ∧ 192 ≤ r then 1 else 0
end Go.Proofs.YtmagokkegadmiaaGreatDoor
namespace Go.Proofs.YtmagokkegadmiaaGreatDoor
open Go.RowKit

theorem none_key (ps : List (List Int)) : ps.length ≠ 1 ∧ decide (ps = [[-1]]) = false ∨ ∃ (h : ps.length = 1), ((ps[0]'(by omega)).length ≠ 1 ∧ decide (ps = [[-1]]) = false ∨ ∃ (h2 : (ps[0]'(by omega)).length = 1), ((ps[0]'(by omega))[0]'(by omega) ≠ -1 ∧ decide (ps = [[-1]]) = false ∨ (ps[0]'(by omega))[0]'(by omega) = -1 ∧ decide (ps = [[-1]]) = true)) := by
  by_cases h1 : ps.length = 1
  · refine .inr ⟨h1, ?_⟩
    match ps, h1 with
    | [p], _ =>
      by_cases h2 : p.length = 1
      · refine .inr ⟨h2, ?_⟩
        match p, h2 with
        | [x], _ =>
          by_cases h3 : x = -1
          · exact .inr ⟨h3, by rw [h3]; rfl⟩
          · exact .inl ⟨h3, decide_eq_false (by simpa using h3)⟩
      · exact .inl ⟨h2, decide_eq_false (fun e => h2 (by injection e with e; rw [e]; rfl))⟩
  · exact .inl ⟨h1, decide_eq_false (fun e => h1 (by rw [e]; rfl))⟩

set_option maxRecDepth 100000 in
set_option maxHeartbeats 4000000 in
theorem isNone_any (A : Option Addr) (n c : Nat) (ps : List (List Int)) (q : Bool) (w : World) (hn : ps.length = n) (hq : decide (ps = [[-1]]) = q) (hl : n ≤ 4294967296) (hr : RdP w A ps) :
    Calls Tryz.prog 93 #[.slice A n c] w fun e w' => e = .returned (.bool q) ∧ w = w' := by
  subst hn
  rcases none_key ps with ⟨h1, h⟩ | ⟨h1, ⟨h2, h⟩ | ⟨h2, ⟨h3, h⟩ | ⟨h3, h⟩⟩⟩
  all_goals
    rw [h] at hq
    subst hq
    clear h
  · have t1 : ((ps.length : Int) == 1) = false := beq_false_of_ne (by omega)
    clear h1
    go_enter Tryz.func93, Tryz.ntmps93
    go_wp2
    go_ret
    exact ⟨rfl, rfl⟩
  · obtain ⟨b, o, hA, hb, hcc⟩ := hr (by omega)
    obtain ⟨A', c', hck, hrk⟩ := hcc 0 (by omega)
    rw [Nat.add_zero] at hck
    cases hA
    obtain ⟨m, hm⟩ : ∃ m, (ps[0]'(by omega)).length = m := ⟨_, rfl⟩
    rw [hm] at hck h2
    clear hm hcc hrk
    have t1 : ((ps.length : Int) == 1) = true := beq_iff_eq.2 (by omega)
    have p0 : 0 < ps.length := by omega
    have t2 : ((m : Int) == 1) = false := beq_false_of_ne (by omega)
    clear h1 h2
    go_enter Tryz.func93, Tryz.ntmps93
    go_wp2
    go_ret
    exact ⟨rfl, rfl⟩
  all_goals
    obtain ⟨b, o, hA, hb, hcc⟩ := hr (by omega)
    obtain ⟨A', c', hck, hrk⟩ := hcc 0 (by omega)
    rw [Nat.add_zero] at hck
    obtain ⟨b2, o2, hA2, hb2, hc2⟩ := hrk.int_at (by omega)
    have hc3 := hc2 0 (by omega)
    rw [Nat.add_zero] at hc3
    cases hA
    cases hA2
    obtain ⟨x, hx⟩ : ∃ x, (ps[0]'(by omega))[0]'(by omega) = x := ⟨_, rfl⟩
    rw [hx] at hc3 h3
    rw [h2] at hck
    have t1 : ((ps.length : Int) == 1) = true := beq_iff_eq.2 (by omega)
    have p0 : 0 < ps.length := by omega
    clear hx hc2 hcc hrk h2 h1
  · have t3 : (x == -1) = false := beq_false_of_ne h3
    clear h3
    go_enter Tryz.func93, Tryz.ntmps93
    go_wp2
    go_ret
    exact ⟨rfl, rfl⟩
  · subst h3
    go_enter Tryz.func93, Tryz.ntmps93
    go_wp2
    go_ret
    exact ⟨rfl, rfl⟩

theorem fold_min (l : List Int) : ∀ a m : Int, m ≤ l.foldl min a ↔ m ≤ a ∧ ∀ x ∈ l, m ≤ x := by
  induction l with
  | nil => intro a m; simp
  | cons c l ih =>
    intro a m
    rw [List.foldl_cons, ih]
    simp only [List.mem_cons, forall_eq_or_imp]
    exact ⟨fun h => ⟨by omega, by omega, h.2⟩, fun h => ⟨by omega, h.2.2⟩⟩
theorem fold_max (l : List Int) : ∀ a m : Int, l.foldl max a ≤ m ↔ a ≤ m ∧ ∀ x ∈ l, x ≤ m := by
  induction l with
  | nil => intro a m; simp
  | cons c l ih =>
    intro a m
    rw [List.foldl_cons, ih]
    simp only [List.mem_cons, forall_eq_or_imp]
    exact ⟨fun h => ⟨by omega, by omega, h.2⟩, fun h => ⟨by omega, h.2.2⟩⟩
theorem part_minmax {p : List Int} (h : 1 ≤ p.length) : p.all numOk = true ↔ -1 ≤ Lib.minOf p ∧ Lib.maxOf p ≤ 1114111 := by
  match p, h with
  | a :: p, _ =>
    unfold Lib.minOf Lib.maxOf
    rw [fold_min, fold_max]
    simp only [List.headD_cons, List.all_eq_true, numOk_iff]
    constructor
    · intro h
      exact ⟨⟨(h a (List.mem_cons_self ..)).1, fun x hx => (h x hx).1⟩, (h a (List.mem_cons_self ..)).2, fun x hx => (h x hx).2⟩
    · intro h x hx
      exact ⟨h.1.2 x hx, h.2.2 x hx⟩

set_option maxRecDepth 100000 in
set_option maxHeartbeats 4000000 in
theorem pparams_any (A : Option Addr) (c : Nat) (ps : List (List Int)) (q : Bool) (w : World) (hq : parOk ps = q) (hl : ps.length ≤ 4294967296) (hp : ∀ p ∈ ps, p.length ≤ 4294967296) (hr : RdP w A ps) :
    Calls Tryz.prog 69 #[.slice A ps.length c] w fun e w' => e = .returned (.bool q) ∧ w = w' := by
  by_cases h16 : 16 < ps.length
  · obtain rfl : false = q := (par_long h16).symm.trans hq
    clear hq
    go_enter Tryz.func69, Tryz.ntmps69
    go_wp2
    go_ret
    exact ⟨rfl, rfl⟩
  · have HQ := Lib.hid hq
    clear hq
    cases hN : decide (ps = [[-1]]) with
    | true =>
      have HN := Lib.hid hN
      have he := of_decide_eq_true hN
      obtain rfl : false = q := by rw [← HQ.out, he]; rfl
      clear hN he
      go_enter Tryz.func69, Tryz.ntmps69
      go_wp2_with fail
      refine (isNone_any A _ c ps true _ rfl HN.out hl hr).mono ?_
      rintro e w1 ⟨rfl, rfl⟩
      go_wp2_with fail
      go_ret
      exact ⟨rfl, rfl⟩
    | false =>
      have HN := Lib.hid hN
      have HNE := Lib.hid (of_decide_eq_false hN)
      clear hN
      go_enter Tryz.func69, Tryz.ntmps69
      go_wp2_with fail
      refine (isNone_any A _ c ps false _ rfl HN.out hl hr).mono ?_
      rintro e w1 ⟨rfl, rfl⟩
      go_wp2_with fail
      go_loop [14] (fun i => ∃ k : Nat, k ≤ ps.length ∧ i = .int .i64 k ∧ (ps.take k).all partB = true) (fun i => ps.length - (intOf i).toNat)
      case atStart => exact ⟨0, Nat.zero_le _, rfl, rfl⟩
      case round =>
        obtain ⟨k, hk, rfl, hall⟩ := hrel
        have HA := Lib.hid hall
        clear hall
        by_cases hlt : k < ps.length
        · obtain ⟨b, o, hA, hb, hcc⟩ := hr (by omega)
          cases hA
          obtain ⟨A', c', hck, hrk⟩ := hcc k hlt
          obtain ⟨p, hp'⟩ : ∃ p, (ps[k]'hlt) = p := ⟨_, rfl⟩
          have hpl := hp _ (List.getElem_mem hlt)
          rw [hp'] at hck hrk hpl
          have HP := Lib.hid hp'
          clear hp' hcc
          obtain ⟨n, hn⟩ : ∃ n, p.length = n := ⟨_, rfl⟩
          rw [hn] at hck hpl
          have HLN := Lib.hid hn
          clear hn
          by_cases hs : 1 ≤ n ∧ n ≤ 8
          · obtain ⟨n1, n8⟩ := hs
            obtain ⟨b2, o2, hA2, hb2, hc2⟩ := hrk.int_at (by rw [HLN.out]; omega)
            cases hA2
            have HC2 := Lib.hid (fun j (hj : j < p.length) => (hc2 j hj).trans (show some (Value.int .i64 p[j]) = some (.int .i64 (p.getD j 0)) by rw [List.getD_eq_getElem?_getD, List.getElem?_eq_getElem hj]; rfl))
            clear hc2
            have HT := Lib.hid (show p.take n = p from List.take_of_length_le (by rw [HLN.out]; omega))
            have HM := Lib.hid (part_minmax (p := p) (by rw [HLN.out]; omega))
            obtain ⟨mn, hmn⟩ : ∃ mn, Lib.minOf (p.take n) = mn := ⟨_, rfl⟩
            obtain ⟨mx, hmx⟩ : ∃ mx, Lib.maxOf (p.take n) = mx := ⟨_, rfl⟩
            have HMN := Lib.hid hmn
            have HMX := Lib.hid hmx
            clear hmn hmx
            by_cases m1 : -1 ≤ mn
            · by_cases m2 : mx ≤ 1114111
              · have E := Lib.hid (show (ps.take (k + 1)).all partB = true by
                  rw [List.take_succ_eq_append_getElem hlt, List.all_append, HA.out, HP.out]
                  simp only [List.all_cons, List.all_nil, Bool.and_true, Bool.true_and]
                  refine partB_yes (by rw [HLN.out]; omega) (by rw [HLN.out]; omega) (HM.out.2 ?_)
                  have e1 := HMN.out
                  have e2 := HMX.out
                  rw [HT.out] at e1 e2
                  rw [e1, e2]
                  exact ⟨m1, m2⟩)
                go_wp2_with fail
                refine (Tryz.slices_Min_int _ _ n _ p _ (by omega) (by rw [HLN.out]; omega) (by omega) HC2.out).mono ?_
                rw [HMN.out]
                rintro e w1 ⟨rfl, rfl⟩
                go_wp2_with fail
                refine (Tryz.slices_Max_int _ _ n _ p _ (by omega) (by rw [HLN.out]; omega) (by omega) HC2.out).mono ?_
                rw [HMX.out]
                rintro e w1 ⟨rfl, rfl⟩
                go_wp2_with fail
                go_round
                case rel => exact ⟨k + 1, by omega, by go_num, E.out⟩
                case measure => simp [intOf]; omega
              · have E := Lib.hid (show false = q by
                  rw [← HQ.out]
                  refine (par_no hlt ?_).symm
                  rw [HP.out]
                  cases hB : partB p with
                  | false => rfl
                  | true =>
                    exfalso
                    unfold partB at hB
                    simp only [Bool.and_eq_true] at hB
                    have := (HM.out.1 hB.2).2
                    have e2 := HMX.out
                    rw [HT.out] at e2
                    omega)
                go_wp2_with fail
                refine (Tryz.slices_Min_int _ _ n _ p _ (by omega) (by rw [HLN.out]; omega) (by omega) HC2.out).mono ?_
                rw [HMN.out]
                rintro e w1 ⟨rfl, rfl⟩
                go_wp2_with fail
                refine (Tryz.slices_Max_int _ _ n _ p _ (by omega) (by rw [HLN.out]; omega) (by omega) HC2.out).mono ?_
                rw [HMX.out]
                rintro e w1 ⟨rfl, rfl⟩
                go_wp2_with fail
                go_ret
                exact ⟨ret_b E.out, rfl⟩
            · have E := Lib.hid (show false = q by
                rw [← HQ.out]
                refine (par_no hlt ?_).symm
                rw [HP.out]
                cases hB : partB p with
                | false => rfl
                | true =>
                  exfalso
                  unfold partB at hB
                  simp only [Bool.and_eq_true] at hB
                  have := (HM.out.1 hB.2).1
                  have e2 := HMN.out
                  rw [HT.out] at e2
                  omega)
              go_wp2_with fail
              refine (Tryz.slices_Min_int _ _ n _ p _ (by omega) (by rw [HLN.out]; omega) (by omega) HC2.out).mono ?_
              rw [HMN.out]
              rintro e w1 ⟨rfl, rfl⟩
              go_wp2_with fail
              go_ret
              exact ⟨ret_b E.out, rfl⟩
          · have E := Lib.hid (show false = q by
              rw [← HQ.out]
              refine (par_no hlt ?_).symm
              rw [HP.out]
              exact part_len (by rw [HLN.out]; exact hs))
            by_cases n1 : n < 1
            · clear hs
              go_wp2_with fail
              go_ret
              exact ⟨ret_b E.out, rfl⟩
            · have n8 : 8 < n := by omega
              clear hs
              go_wp2_with fail
              go_ret
              exact ⟨ret_b E.out, rfl⟩
        · have E := Lib.hid (show true = q by
            have := HA.out
            rw [List.take_of_length_le (by omega)] at this
            rw [← HQ.out]
            exact (parOk_yes (by omega) HNE.out this).symm)
          go_wp2_with fail
          go_ret
          exact ⟨ret_b E.out, rfl⟩
end Go.Proofs.YtmagokkegadmiaaGreatDoor
namespace Go.Proofs.YtmagokkegadmiaaGreatDoor
open Go.RowKit

set_option maxRecDepth 100000 in
theorem pparam_any (n : Int) (w : World) : Calls Tryz.prog 21 #[.int .i64 n] w fun e w' => e = .returned (.int .i64 (paramN n)) ∧ Below w.heap.size w w' := by
  cases hq : areN n with
  | true =>
    have hr : 0 ≤ n ∧ n ≤ 255 := by simpa [areN] using hq
    have hp : paramN n = n + 1 := by unfold paramN; rw [if_neg (by omega)]
    have hw : IntKind.i64.wrap (n + 1) = n + 1 := by rw [IntKind.wrap_i64]; omega
    have hcall := fun W => are_at hq W
    rw [hp]
    clear hp hr hq
    go_enter Tryz.func21, Tryz.ntmps21
    go_wp2_with fail
    refine (hcall _).mono ?_
    clear hcall
    rintro e w1 ⟨rfl, hb1⟩
    go_wp2_with fail
    go_ret
    exact ⟨rfl, hb1⟩
  | false =>
    have hr : ¬ (0 ≤ n ∧ n ≤ 255) := by simpa [areN] using hq
    have hp : paramN n = 1 := by unfold paramN; rw [if_pos (by omega)]
    have hcall := fun W => are_at hq W
    rw [hp]
    clear hp hr hq
    go_enter Tryz.func21, Tryz.ntmps21
    go_wp2_with fail
    refine (hcall _).mono ?_
    clear hcall
    rintro e w1 ⟨rfl, hb1⟩
    go_wp2_with fail
    go_ret
    exact ⟨rfl, hb1⟩
end Go.Proofs.YtmagokkegadmiaaGreatDoor
namespace Go.Proofs.YtmagokkegadmiaaGreatDoor
open Go.RowKit

/-- All in both is the same. -/
def sameB (s t : Sq) : Bool := decide (s.kind = t.kind) && decide (s.priv = t.priv) && decide (s.params = t.params) && decide (s.inter = t.inter) && decide (s.final = t.final) && decide (s.data = t.data)
theorem sameB_iff (s t : Sq) : sameB s t = true ↔ s = t := by
  obtain ⟨a, b, c, d, e, f⟩ := s
  obtain ⟨a', b', c', d', e', f'⟩ := t
  simp only [sameB, Bool.and_eq_true, decide_eq_true_eq, Sq.mk.injEq]
  constructor
  · rintro ⟨⟨⟨⟨⟨h1, h2⟩, h3⟩, h4⟩, h5⟩, h6⟩
    exact ⟨h1, h2, h3, h4, h5, h6⟩
  · rintro ⟨h1, h2, h3, h4, h5, h6⟩
    exact ⟨⟨⟨⟨⟨h1, h2⟩, h3⟩, h4⟩, h5⟩, h6⟩
theorem byte_ne {a b : UInt8} (h : a ≠ b) : ((a.toNat : Int) == (b.toNat : Int)) = false ∧ ((a.toNat : Int) != (b.toNat : Int)) = true := by
  have h1 : a.toNat ≠ b.toNat := fun e => h (UInt8.toNat_inj.1 e)
  have h2 : ((a.toNat : Int) == (b.toNat : Int)) = false := beq_false_of_ne (by omega)
  exact ⟨h2, by simp [bne, h2]⟩
theorem str_ne {a b : List UInt8} (h : a ≠ b) : (⟨a.toArray⟩ : ByteArray) ≠ ⟨b.toArray⟩ := fun e => h (by injection e with e; simpa using e)
end Go.Proofs.YtmagokkegadmiaaGreatDoor
