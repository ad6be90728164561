/-
  Layer 10, the landed mods: whether a number is modifiers. Layer 2, the mathematics of following bytes. Layer 3, walked: the program's isNone and paramsMay. A region that draws its order, with an append onto a row of one's own (and a store behind it). Cut out of Same: what names no function of any dump.
-/
import Derived.Test.YtmagokkegadmiaaDoorG01
import Derived.Test.YtmagokkegadmiaaDoorG04
import Derived.Test.YtmagokkegadmiaaDoorG07
import Derived.Test.YtmagokkegadmiaaDoorG12
import Derived.Test.YtmagokkegadmiaaDoorG13
import Derived.Test.YtmagokkegadmiaaDoorShelf
namespace Go.Proofs.YtmagokkegadmiaaDoor
open Go.RowKit

def areN (n : Int) : Bool := decide (0 ≤ n) && decide (n ≤ 255)
set_option maxRecDepth 100000 in
theorem are_any (n : Int) (w : World) : Calls Tryd.prog 27 #[.int .i64 n] w fun e w' => e = .returned (.bool (areN n)) ∧ Below w.heap.size w w' := by
  obtain ⟨R, hR⟩ : ∃ R, areN n = R := ⟨_, rfl⟩
  rw [hR]
  have HR := Lib.hid hR
  clear hR
  by_cases h0 : 0 ≤ n
  · by_cases h1 : n ≤ 255
    · have HF := Lib.hid (show true = R by rw [← HR.out]; simp [areN, h0, h1])
      go_enter Tryd.func27, Tryd.ntmps27
      go_wp2_with fail
      go_ret
      exact ⟨ret_b HF.out, Below.refl _ _⟩
    · have HF := Lib.hid (show false = R by rw [← HR.out]; simp [areN, h1])
      go_enter Tryd.func27, Tryd.ntmps27
      go_wp2_with fail
      go_ret
      exact ⟨ret_b HF.out, Below.refl _ _⟩
  · have HF := Lib.hid (show false = R by rw [← HR.out]; simp [areN, h0])
    go_enter Tryd.func27, Tryd.ntmps27
    go_wp2_with fail
    go_ret
    exact ⟨ret_b HF.out, Below.refl _ _⟩
theorem are_at {n : Int} {q : Bool} (h : areN n = q) (w : World) : Calls Tryd.prog 27 #[.int .i64 n] w fun e w' => e = .returned (.bool q) ∧ Below w.heap.size w w' := by
  rw [← h]
  exact are_any n w
end Go.Proofs.YtmagokkegadmiaaDoor
namespace Go.Proofs.YtmagokkegadmiaaDoor

def accL (x : Int) : List UInt8 → Option Int
  | [] => some x
  | c :: t => if fol c = true then accL (x * 64 + ((c.toNat : Int) - 128)) t else none
theorem accL_append (x : Int) (t u : List UInt8) : accL x (t ++ u) = (accL x t).bind fun y => accL y u := by
  induction t generalizing x with
  | nil => rfl
  | cons c t ih =>
    by_cases hf : fol c = true
    · have e1 : ∀ t, accL x (c :: t) = accL (x * 64 + ((c.toNat : Int) - 128)) t := fun t => if_pos hf
      rw [List.cons_append, e1, e1]
      exact ih _
    · have e1 : ∀ t, accL x (c :: t) = none := fun t => if_neg hf
      rw [List.cons_append, e1, e1]
      rfl
theorem accL_step (x : Int) (l : List UInt8) (k : Nat) (h : k < l.length) (y : Int) (hy : accL x (l.take k) = some y) :
    accL x (l.take (k + 1)) = if fol l[k] = true then some (y * 64 + ((l[k].toNat : Int) - 128)) else none := by
  rw [List.take_succ_eq_append_getElem h, accL_append, hy]
  rfl
theorem accL_none (x : Int) (l : List UInt8) (k j : Nat) (hk : k ≤ j) (h : accL x (l.take k) = none) : accL x (l.take j) = none := by
  have e : l.take j = l.take k ++ (l.drop k).take (j - k) := by
    rw [← List.take_add, show k + (j - k) = j by omega]
  rw [e, accL_append, h]; rfl
theorem accL_bd : ∀ (t : List UInt8) (x y : Int), 0 ≤ x → accL x t = some y → 0 ≤ y := by
  intro t
  induction t with
  | nil => intro x y h0 h; injection h with h; omega
  | cons c t ih =>
    intro x y h0 h
    unfold accL at h
    split at h
    · rename_i hf
      have := (fol_iff c).1 hf
      exact ih _ y (by omega) h
    · cases h
theorem accL_up (x : Int) (l : List UInt8) (k : Nat) (hk : k ≤ 3) (h0 : 0 ≤ x) (h1 : x < 256) (y : Int) (h : accL x (l.take k) = some y) : 0 ≤ y ∧ y < 67108864 := by
  refine ⟨accL_bd _ _ _ h0 h, ?_⟩
  have step : ∀ (t : List UInt8) (x y B : Int), x < B → accL x t = some y → y < B * 64 ^ t.length := by
    intro t
    induction t with
    | nil => intro x y B hB h; injection h with h; simp; omega
    | cons c t ih =>
      intro x y B hB h
      unfold accL at h
      split at h
      · rename_i hf
        have := (fol_iff c).1 hf
        have h2 := ih _ y (B * 64) (by omega) h
        rw [List.length_cons, show B * 64 ^ (t.length + 1) = B * 64 * 64 ^ t.length by rw [Int.pow_succ]; simp only [Int.mul_assoc]; rw [Int.mul_comm (64 ^ t.length)]]
        exact h2
      · cases h
  have hs := step _ x y 256 h1 h
  have hl : (l.take k).length ≤ 3 := Nat.le_trans (List.length_take_le _ _) hk
  have : (l.take k).length = 0 ∨ (l.take k).length = 1 ∨ (l.take k).length = 2 ∨ (l.take k).length = 3 := by omega
  rcases this with e | e | e | e <;> (rw [e] at hs; simp at hs; omega)

end Go.Proofs.YtmagokkegadmiaaDoor
namespace Go.Proofs.YtmagokkegadmiaaDoor
open Go.RowKit

theorem none_key (ps : List (List Int)) : ps.length ≠ 1 ∧ decide (ps = [[-1]]) = false ∨ ∃ (h : ps.length = 1), ((ps[0]'(by omega)).length ≠ 1 ∧ decide (ps = [[-1]]) = false ∨ ∃ (h2 : (ps[0]'(by omega)).length = 1), ((ps[0]'(by omega))[0]'(by omega) ≠ -1 ∧ decide (ps = [[-1]]) = false ∨ (ps[0]'(by omega))[0]'(by omega) = -1 ∧ decide (ps = [[-1]]) = true)) := by
  by_cases h1 : ps.length = 1
  · refine .inr ⟨h1, ?_⟩
    match ps, h1 with
    | [p], _ =>
      by_cases h2 : p.length = 1
      · refine .inr ⟨h2, ?_⟩
        match p, h2 with
        | [x], _ =>
          by_cases h3 : x = -1
          · exact .inr ⟨h3, by rw [h3]; rfl⟩
          · exact .inl ⟨h3, decide_eq_false (by simpa using h3)⟩
      · exact .inl ⟨h2, decide_eq_false (fun e => h2 (by injection e with e; rw [e]; rfl))⟩
  · exact .inl ⟨h1, decide_eq_false (fun e => h1 (by rw [e]; rfl))⟩

set_option maxRecDepth 100000 in
set_option maxHeartbeats 4000000 in
theorem isNone_any (A : Option Addr) (n c : Nat) (ps : List (List Int)) (q : Bool) (w : World) (hn : ps.length = n) (hq : decide (ps = [[-1]]) = q) (hl : n ≤ 4294967296) (hr : RdP w A ps) :
    Calls Tryd.prog 56 #[.slice A n c] w fun e w' => e = .returned (.bool q) ∧ w = w' := by
  subst hn
  rcases none_key ps with ⟨h1, h⟩ | ⟨h1, ⟨h2, h⟩ | ⟨h2, ⟨h3, h⟩ | ⟨h3, h⟩⟩⟩
  all_goals
    rw [h] at hq
    subst hq
    clear h
  · have t1 : ((ps.length : Int) == 1) = false := beq_false_of_ne (by omega)
    clear h1
    go_enter Tryd.func56, Tryd.ntmps56
    go_wp2
    go_ret
    exact ⟨rfl, rfl⟩
  · obtain ⟨b, o, hA, hb, hcc⟩ := hr (by omega)
    obtain ⟨A', c', hck, hrk⟩ := hcc 0 (by omega)
    rw [Nat.add_zero] at hck
    cases hA
    obtain ⟨m, hm⟩ : ∃ m, (ps[0]'(by omega)).length = m := ⟨_, rfl⟩
    rw [hm] at hck h2
    clear hm hcc hrk
    have t1 : ((ps.length : Int) == 1) = true := beq_iff_eq.2 (by omega)
    have p0 : 0 < ps.length := by omega
    have t2 : ((m : Int) == 1) = false := beq_false_of_ne (by omega)
    clear h1 h2
    go_enter Tryd.func56, Tryd.ntmps56
    go_wp2
    go_ret
    exact ⟨rfl, rfl⟩
  all_goals
    obtain ⟨b, o, hA, hb, hcc⟩ := hr (by omega)
    obtain ⟨A', c', hck, hrk⟩ := hcc 0 (by omega)
    rw [Nat.add_zero] at hck
    obtain ⟨b2, o2, hA2, hb2, hc2⟩ := hrk.int_at (by omega)
    have hc3 := hc2 0 (by omega)
    rw [Nat.add_zero] at hc3
    cases hA
    cases hA2
    obtain ⟨x, hx⟩ : ∃ x, (ps[0]'(by omega))[0]'(by omega) = x := ⟨_, rfl⟩
    rw [hx] at hc3 h3
    rw [h2] at hck
    have t1 : ((ps.length : Int) == 1) = true := beq_iff_eq.2 (by omega)
    have p0 : 0 < ps.length := by omega
    clear hx hc2 hcc hrk h2 h1
  · have t3 : (x == -1) = false := beq_false_of_ne h3
    clear h3
    go_enter Tryd.func56, Tryd.ntmps56
    go_wp2
    go_ret
    exact ⟨rfl, rfl⟩
  · subst h3
    go_enter Tryd.func56, Tryd.ntmps56
    go_wp2
    go_ret
    exact ⟨rfl, rfl⟩

theorem fold_min (l : List Int) : ∀ a m : Int, m ≤ l.foldl min a ↔ m ≤ a ∧ ∀ x ∈ l, m ≤ x := by
  induction l with
  | nil => intro a m; simp
  | cons c l ih =>
    intro a m
    rw [List.foldl_cons, ih]
    simp only [List.mem_cons, forall_eq_or_imp]
    exact ⟨fun h => ⟨by omega, by omega, h.2⟩, fun h => ⟨by omega, h.2.2⟩⟩
theorem fold_max (l : List Int) : ∀ a m : Int, l.foldl max a ≤ m ↔ a ≤ m ∧ ∀ x ∈ l, x ≤ m := by
  induction l with
  | nil => intro a m; simp
  | cons c l ih =>
    intro a m
    rw [List.foldl_cons, ih]
    simp only [List.mem_cons, forall_eq_or_imp]
    exact ⟨fun h => ⟨by omega, by omega, h.2⟩, fun h => ⟨by omega, h.2.2⟩⟩
theorem part_minmax {p : List Int} (h : 1 ≤ p.length) : p.all numOk = true ↔ -1 ≤ Lib.minOf p ∧ Lib.maxOf p ≤ 1114111 := by
  match p, h with
  | a :: p, _ =>
    unfold Lib.minOf Lib.maxOf
    rw [fold_min, fold_max]
    simp only [List.headD_cons, List.all_eq_true, numOk_iff]
    constructor
    · intro h
      exact ⟨⟨(h a (List.mem_cons_self ..)).1, fun x hx => (h x hx).1⟩, (h a (List.mem_cons_self ..)).2, fun x hx => (h x hx).2⟩
    · intro h x hx
      exact ⟨h.1.2 x hx, h.2.2 x hx⟩

set_option maxRecDepth 100000 in
set_option maxHeartbeats 4000000 in
theorem pparams_any (A : Option Addr) (c : Nat) (ps : List (List Int)) (q : Bool) (w : World) (hq : parOk ps = q) (hl : ps.length ≤ 4294967296) (hp : ∀ p ∈ ps, p.length ≤ 4294967296) (hr : RdP w A ps) :
    Calls Tryd.prog 42 #[.slice A ps.length c] w fun e w' => e = .returned (.bool q) ∧ w = w' := by
  by_cases h16 : 16 < ps.length
  · obtain rfl : false = q := (par_long h16).symm.trans hq
    clear hq
    go_enter Tryd.func42, Tryd.ntmps42
    go_wp2
    go_ret
    exact ⟨rfl, rfl⟩
  · have HQ := Lib.hid hq
    clear hq
    cases hN : decide (ps = [[-1]]) with
    | true =>
      have HN := Lib.hid hN
      have he := of_decide_eq_true hN
      obtain rfl : false = q := by rw [← HQ.out, he]; rfl
      clear hN he
      go_enter Tryd.func42, Tryd.ntmps42
      go_wp2_with fail
      refine (isNone_any A _ c ps true _ rfl HN.out hl hr).mono ?_
      rintro e w1 ⟨rfl, rfl⟩
      go_wp2_with fail
      go_ret
      exact ⟨rfl, rfl⟩
    | false =>
      have HN := Lib.hid hN
      have HNE := Lib.hid (of_decide_eq_false hN)
      clear hN
      go_enter Tryd.func42, Tryd.ntmps42
      go_wp2_with fail
      refine (isNone_any A _ c ps false _ rfl HN.out hl hr).mono ?_
      rintro e w1 ⟨rfl, rfl⟩
      go_wp2_with fail
      go_loop [14] (fun i => ∃ k : Nat, k ≤ ps.length ∧ i = .int .i64 k ∧ (ps.take k).all partB = true) (fun i => ps.length - (intOf i).toNat)
      case atStart => exact ⟨0, Nat.zero_le _, rfl, rfl⟩
      case round =>
        obtain ⟨k, hk, rfl, hall⟩ := hrel
        have HA := Lib.hid hall
        clear hall
        by_cases hlt : k < ps.length
        · obtain ⟨b, o, hA, hb, hcc⟩ := hr (by omega)
          cases hA
          obtain ⟨A', c', hck, hrk⟩ := hcc k hlt
          obtain ⟨p, hp'⟩ : ∃ p, (ps[k]'hlt) = p := ⟨_, rfl⟩
          have hpl := hp _ (List.getElem_mem hlt)
          rw [hp'] at hck hrk hpl
          have HP := Lib.hid hp'
          clear hp' hcc
          obtain ⟨n, hn⟩ : ∃ n, p.length = n := ⟨_, rfl⟩
          rw [hn] at hck hpl
          have HLN := Lib.hid hn
          clear hn
          by_cases hs : 1 ≤ n ∧ n ≤ 8
          · obtain ⟨n1, n8⟩ := hs
            obtain ⟨b2, o2, hA2, hb2, hc2⟩ := hrk.int_at (by rw [HLN.out]; omega)
            cases hA2
            have HC2 := Lib.hid (fun j (hj : j < p.length) => (hc2 j hj).trans (show some (Value.int .i64 p[j]) = some (.int .i64 (p.getD j 0)) by rw [List.getD_eq_getElem?_getD, List.getElem?_eq_getElem hj]; rfl))
            clear hc2
            have HT := Lib.hid (show p.take n = p from List.take_of_length_le (by rw [HLN.out]; omega))
            have HM := Lib.hid (part_minmax (p := p) (by rw [HLN.out]; omega))
            obtain ⟨mn, hmn⟩ : ∃ mn, Lib.minOf (p.take n) = mn := ⟨_, rfl⟩
            obtain ⟨mx, hmx⟩ : ∃ mx, Lib.maxOf (p.take n) = mx := ⟨_, rfl⟩
            have HMN := Lib.hid hmn
            have HMX := Lib.hid hmx
            clear hmn hmx
            by_cases m1 : -1 ≤ mn
            · by_cases m2 : mx ≤ 1114111
              · have E := Lib.hid (show (ps.take (k + 1)).all partB = true by
                  rw [List.take_succ_eq_append_getElem hlt, List.all_append, HA.out, HP.out]
                  simp only [List.all_cons, List.all_nil, Bool.and_true, Bool.true_and]
                  refine partB_yes (by rw [HLN.out]; omega) (by rw [HLN.out]; omega) (HM.out.2 ?_)
                  have e1 := HMN.out
                  have e2 := HMX.out
                  rw [HT.out] at e1 e2
                  rw [e1, e2]
                  exact ⟨m1, m2⟩)
                go_wp2_with fail
                refine (Tryd.slices_Min_int _ _ n _ p _ (by omega) (by rw [HLN.out]; omega) (by omega) HC2.out).mono ?_
                rw [HMN.out]
                rintro e w1 ⟨rfl, rfl⟩
                go_wp2_with fail
                refine (Tryd.slices_Max_int _ _ n _ p _ (by omega) (by rw [HLN.out]; omega) (by omega) HC2.out).mono ?_
                rw [HMX.out]
                rintro e w1 ⟨rfl, rfl⟩
                go_wp2_with fail
                go_round
                case rel => exact ⟨k + 1, by omega, by go_num, E.out⟩
                case measure => simp [intOf]; omega
              · have E := Lib.hid (show false = q by
                  rw [← HQ.out]
                  refine (par_no hlt ?_).symm
                  rw [HP.out]
                  cases hB : partB p with
                  | false => rfl
                  | true =>
                    exfalso
                    unfold partB at hB
                    simp only [Bool.and_eq_true] at hB
                    have := (HM.out.1 hB.2).2
                    have e2 := HMX.out
                    rw [HT.out] at e2
                    omega)
                go_wp2_with fail
                refine (Tryd.slices_Min_int _ _ n _ p _ (by omega) (by rw [HLN.out]; omega) (by omega) HC2.out).mono ?_
                rw [HMN.out]
                rintro e w1 ⟨rfl, rfl⟩
                go_wp2_with fail
                refine (Tryd.slices_Max_int _ _ n _ p _ (by omega) (by rw [HLN.out]; omega) (by omega) HC2.out).mono ?_
                rw [HMX.out]
                rintro e w1 ⟨rfl, rfl⟩
                go_wp2_with fail
                go_ret
                exact ⟨ret_b E.out, rfl⟩
            · have E := Lib.hid (show false = q by
                rw [← HQ.out]
                refine (par_no hlt ?_).symm
                rw [HP.out]
                cases hB : partB p with
                | false => rfl
                | true =>
                  exfalso
                  unfold partB at hB
                  simp only [Bool.and_eq_true] at hB
                  have := (HM.out.1 hB.2).1
                  have e2 := HMN.out
                  rw [HT.out] at e2
                  omega)
              go_wp2_with fail
              refine (Tryd.slices_Min_int _ _ n _ p _ (by omega) (by rw [HLN.out]; omega) (by omega) HC2.out).mono ?_
              rw [HMN.out]
              rintro e w1 ⟨rfl, rfl⟩
              go_wp2_with fail
              go_ret
              exact ⟨ret_b E.out, rfl⟩
          · have E := Lib.hid (show false = q by
              rw [← HQ.out]
              refine (par_no hlt ?_).symm
              rw [HP.out]
              exact part_len (by rw [HLN.out]; exact hs))
            by_cases n1 : n < 1
            · clear hs
              go_wp2_with fail
              go_ret
              exact ⟨ret_b E.out, rfl⟩
            · have n8 : 8 < n := by omega
              clear hs
              go_wp2_with fail
              go_ret
              exact ⟨ret_b E.out, rfl⟩
        · have E := Lib.hid (show true = q by
            have := HA.out
            rw [List.take_of_length_le (by omega)] at this
            rw [← HQ.out]
            exact (parOk_yes (by omega) HNE.out this).symm)
          go_wp2_with fail
          go_ret
          exact ⟨ret_b E.out, rfl⟩
end Go.Proofs.YtmagokkegadmiaaDoor
namespace Go.Proofs.YtmagokkegadmiaaDoor
open Go.RowKit

section
variable {P : Program} {ops : Array Oper} {md : Region.Mode} {w1 : World} {K : List Fact} {ix iz : Nat} {R1 : (Tmp → Value) → World → World → Prop} {aF : (Tmp → Value) → Act} {i : Nat} {o : Oper}
theorem run_storeAt_one {t : TypeId} {a : Addr} {v u : Value} {w : World} (hs : ∀ w, (sizeOf t).run P w = .ok 1 w) (hv : v.cells = #[v]) (h1 : v.oneCell' = true) (hc : w.cell? a = some u) (hf : w.frozen? a = false) :
    (Instr.storeAt t (.pointer (some a)) v).run P w = .ok () (w.setCell a v) := by
  have hst : (store a v).run P w = .ok () (w.setCell a v) := by
    rw [run_store P w a v _ h1, hc]
    simp [hf]
  have ha : a.add 0 = a := by unfold Addr.add; split <;> simp_all
  simp [Instr.storeAt, Instr.sureAddr, storeVar, hv, hs, storeCells, ha, hst, Result.andThen]
/-- The row behind the append. -/
def AppR (base : Nat) (te : TypeId) (d : Tmp) (n : Nat) (xs : List Value) (v0 : Value) (g : Tmp → Value) (ws w : World) : Prop := Own w base te 1 (g d) n xs ∧ ws.grownBy w v0.ownBlock
theorem goesK_app {t te : TypeId} {s x : Operand} {ti : TypeInfo} {z : Value} {bytes base n0 m : Nat} {v0 : Value} {xs0 news : List Value} {d : Tmp} (hi : i = ix) (hxz : ix ≠ iz) (hio : ops[i]? = some o) (hall : (K.all fun f => edgeB md ops ix f.i) = true) (hdf : (K.all fun f => f.d != d) = true) (hw : ∀ g, Region.wanted o (yielded ops (aF g).tmps) = true) (ho : o.dst = some d) (hd : ∀ g, (aF g).tmps[d]? = some (g d))
    (hop : o.op = .call { callee := .builtin .append, args := #[s, x], argTypes := #[t, t] }) (ht : P.underlying t = some (.slice te)) (hti : P.info? te = some ti) (hz : ti.zero = some z) (hsize : ti.size = 1) (hby : ti.bytes = bytes) (hzs : z.cells.size = 1)
    (he : ∀ g, (aF g).eval s = v0) (hown : Own w1 base te 1 v0 n0 xs0) (hbs : base ≤ w1.heap.size) (hl : news.length = m) (h1 : ∀ u ∈ news, u.oneCell' = true) (h63 : n0 + m ≤ maxLen) (hlim : (n0 + m) * bytes ≤ 140737488355328)
    (hx : ∀ g w, Below w1.heap.size w1 w → (∀ (q : Nat) (f : Fact), K[q]? = some f → f.F (g f.d) w) → ∃ A c, (aF g).eval x = .slice A m c ∧ Rd w A news) :
    GoesM P md ops aF (SK md ops w1 K ix iz (AppR base te d (n0 + m) (xs0 ++ news) v0) R1) i o :=
  goesK_append hi hxz hio hall hdf hw ho hd fun g w hW hK => by
    obtain ⟨A, c, e, hR⟩ := hx g w hW hK
    obtain ⟨v', w', r1, r2, r3⟩ := run_app_op (P := P) (a := aF g) hop base te ti z bytes ht hti hz hsize hby hzs (he g) (hown.behind hW) e hl hR h1 h63 hlim (Nat.le_trans hbs hW.size)
    exact ⟨v', w', r1, by rw [upd_at]; exact r2, r3⟩
/-- The row's slice, stored into a cell of a known block. -/
theorem goesK_put {t te tb : TypeId} {x y : Operand} {base n q b : Nat} {v0 u : Value} {xs : List Value} {es : Array Value} {n0 : Nat} {xs0 : List Value} {d : Tmp} (hi : i = iz) (hxz : ix ≠ iz) (hio : ops[i]? = some o) (hax : edgeB md ops iz ix = true) (hni : (K.all fun f => f.i != iz) = true) (hw : ∀ g, Region.wanted o (yielded ops (aF g).tmps) = true) (ho : o.dst = none)
    (hop : o.op = .store t x y) (hx : ∀ g, (aF g).eval x = .pointer (some ⟨b, q, none⟩)) (hy : ∀ g, (aF g).eval y = g d) (hs : ∀ w, (sizeOf t).run P w = .ok 1 w) (hown : Own w1 base te 1 v0 n0 xs0) (hk : Blk w1 b tb es) (hq : es[q]? = some u) (hne : te ≠ tb) :
    GoesM P md ops aF (SK md ops w1 K ix iz (AppR base te d n xs v0) (fun g ws w => ∃ wm, AppR base te d n xs v0 g ws wm ∧ w = wm.setCell ⟨b, q, none⟩ (g d))) i o :=
  goesK_then hi hxz hio hax hni hw ho (fun g w => w.setCell ⟨b, q, none⟩ (g d)) fun g ws w hW _ hR => by
    obtain ⟨A2, c2, e2, _⟩ := hR.1.form
    have kw := (hk.below hW hk.lt).grown hR.2 ((hown.behind hW).no_cells (hk.below hW hk.lt) hne)
    refine ⟨?_, w, hR, rfl⟩
    have hc := kw.cell q
    rw [hq] at hc
    unfold execOp
    simp only [hop, hx, hy, e2, Sem.run_bind, run_storeAt_one (P := P) (t := t) (v := .slice A2 n c2) hs rfl rfl hc (kw.frozen q), Result.andThen_ok, Sem.run_pure]
/-- A struct that the run alone tells, stored whole into a known block, last of all. -/
theorem goesK_box {t : TypeId} {x y : Operand} {b : Nat} {es : Array Value} {d : Tmp} (hi : i = ix) (hxz : ix = iz) (hio : ops[i]? = some o) (hall : (K.all fun f => edgeB md ops ix f.i) = true) (hw : ∀ g, Region.wanted o (yielded ops (aF g).tmps) = true) (ho : o.dst = none)
    (hop : o.op = .store t x y) (hx : ∀ g, (aF g).eval x = .pointer (some ⟨b, 0, none⟩)) (hy : ∀ g, (aF g).eval y = g d) (hk : Blk w1 b t es) (hin : (P.info? t).map (·.size) = some es.size)
    (hf : ∀ (g : Tmp → Value) (w : World), Below w1.heap.size w1 w → (∀ (q : Nat) (f : Fact), K[q]? = some f → f.F (g f.d) w) → ∃ cs : Array Value, g d = .agg cs ∧ cs.size = es.size ∧ cs.toList.all (·.oneCell') = true) :
    GoesM P md ops aF (SK md ops w1 K ix iz (fun _ _ _ => True) (fun g ws w => ∃ cs : Array Value, g d = .agg cs ∧ w = ws.setCells b 0 cs.toList)) i o :=
  goesK_store hi hxz hio hall hw ho (fun g w => w.setCells b 0 (match g d with | .agg cs => cs.toList | _ => [])) fun g w hW hK => by
    obtain ⟨cs, e, h1, h2⟩ := hf g w hW hK
    have kw := hk.below hW hk.lt
    have hrun := kw.run_set (P := P) cs h1 hin h2
    refine ⟨?_, cs, e, by rw [e]⟩
    unfold execOp
    simp only [hop, hx, hy, e, Sem.run_bind, hrun, Result.andThen_ok, Sem.run_pure]
theorem setCells_fr (b : Nat) (vs : List Value) (w : World) : Fr w (w.setCells b 0 vs) (fun k => k = b) := (Fr.of_grown (grown_setCells b vs 0 w)).mono fun k hk => by
  cases hk
  rfl
end
end Go.Proofs.YtmagokkegadmiaaDoor
namespace Go.Proofs.YtmagokkegadmiaaDoor
open Go.RowKit

/-- All in both is the same. -/
def sameB (s t : Sq) : Bool := decide (s.kind = t.kind) && decide (s.priv = t.priv) && decide (s.params = t.params) && decide (s.inter = t.inter) && decide (s.final = t.final) && decide (s.data = t.data)
theorem sameB_iff (s t : Sq) : sameB s t = true ↔ s = t := by
  obtain ⟨a, b, c, d, e, f⟩ := s
  obtain ⟨a', b', c', d', e', f'⟩ := t
  simp only [sameB, Bool.and_eq_true, decide_eq_true_eq, Sq.mk.injEq]
  constructor
  · rintro ⟨⟨⟨⟨⟨h1, h2⟩, h3⟩, h4⟩, h5⟩, h6⟩
    exact ⟨h1, h2, h3, h4, h5, h6⟩
  · rintro ⟨h1, h2, h3, h4, h5, h6⟩
    exact ⟨⟨⟨⟨⟨h1, h2⟩, h3⟩, h4⟩, h5⟩, h6⟩
theorem byte_ne {a b : UInt8} (h : a ≠ b) : ((a.toNat : Int) == (b.toNat : Int)) = false ∧ ((a.toNat : Int) != (b.toNat : Int)) = true := by
  have h1 : a.toNat ≠ b.toNat := fun e => h (UInt8.toNat_inj.1 e)
  have h2 : ((a.toNat : Int) == (b.toNat : Int)) = false := beq_false_of_ne (by omega)
  exact ⟨h2, by simp [bne, h2]⟩
theorem str_ne {a b : List UInt8} (h : a ≠ b) : (⟨a.toArray⟩ : ByteArray) ≠ ⟨b.toArray⟩ := fun e => h (by injection e with e; simpa using e)
end Go.Proofs.YtmagokkegadmiaaDoor
