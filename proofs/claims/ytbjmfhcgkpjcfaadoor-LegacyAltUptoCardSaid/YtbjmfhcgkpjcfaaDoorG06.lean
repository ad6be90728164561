/-
  From a walk to a law's row, for all laws: arguments read behind the call as they read before, out of the frame alone; a slice of bytes is opened as a list. Layer 2, the mathematics of following bytes. Numbers in figures, walked: the program's Text and Take. (For layers that don't load layer 1's own texts.)
  Cut out of FigT. Layer 3, walked: the program's reader: skip, run, one, part.
  Cut out of RdA. Layer 2's mathematics: how the program reckons the code point with which bytes begin. Numbers in figures, walked: the program's Text and Take. (For layers that don't load layer 1's own texts.)
-/
import Derived.Test.YtbjmfhcgkpjcfaaDoorG01
import Derived.Test.YtbjmfhcgkpjcfaaDoorG02
import Derived.Test.YtbjmfhcgkpjcfaaDoorG03
import Derived.Test.YtbjmfhcgkpjcfaaDoorG05
import Derived.Deep.DeepHandedRow
import Derived.Lib.LaidTab
import Derived.SizedLaws
import Derived.Test.YtbjmfhcgkpjcfaaDoorShelf
import Derived.Deep.QuietTactic
import Derived.BigQuiet
import Derived.Lib.AppendIntMem
import Derived.Deep.RegionHeld
namespace Go.Proofs.YtbjmfhcgkpjcfaaDoor
open Go.RowKit Go.WideShapes Go.ChangeShapes Go.ChangeAt Go.ChangeMaps

section
variable {H : Type} {enc : TypeId × Value → H} {P : Program}
theorem trodAll_below (hl : laidOutB P = true) {W W' : World} (hb : Below W.heap.size W W') : ∀ {ts : List TypeId} {vs : List Value} {ds : List (DataW H)} {ps : List MemPlace},
    (ts.all fun t => P.readableRec t && decide (t < P.types.size)) = true → (∀ x ∈ ps, x.block < W.heap.size) → DataW.TrodAll enc P W 0 (fun _ => true) true ts vs ds ps →
    DataW.TrodAll enc P W' 0 (fun b => decide (b < W.heap.size)) true ts vs ds ps
  | [], [], [], _, _, _, h => h
  | t :: ts, v :: vs, d :: ds, ps, hr, hlt, h => by
    obtain ⟨p, q, h1, h2, rfl⟩ := h
    simp only [List.all_cons, Bool.and_eq_true, decide_eq_true_eq] at hr
    exact ⟨p, q, Below.trod hl hr.1.1 hr.1.2 h1 hb (fun x hx => hlt x (List.mem_append_left _ hx)), trodAll_below hl hb hr.2 (fun x hx => hlt x (List.mem_append_right _ hx)) h2, rfl⟩

/-- A law's end: true, and what came in reads as it did. -/
theorem law_end (hl : laidOutB P = true) {f : Func} {s : ChangeSpec} {W W' : World} {args : Array Value} {ds : List (DataW H)} {before : List MemPlace} {T : TypeId} (hT : P.underlying T = some .bool)
    (hv : s.vars = []) (hrt : f.resultTypes = #[T]) (hread : (f.params.toList.all fun t => P.readableRec t && decide (t < P.types.size)) = true)
    (hW : DataW.Whole enc P f.params.toList s.vars false W args.toList ds [] before) (hA : DataW.TrodAll enc P W 0 (fun _ => true) true f.params.toList args.toList ds before)
    (hs : s.fn H (ds ++ []) = { results := [.lit (.bool true)], args := ds }) (hb : Below W.heap.size W W') :
    s.post enc P f false true false false W args (.bool true) W' := by
  have hlt : ∀ p ∈ before, p.block < W.heap.size := fun p hp => hW.lt p hp
  refine ⟨ds, [], before, [], before, [], hW, ?_, ?_, ?_, World.keptBut_mono (fun p hp => ⟨hp, .inr (.inl hp)⟩) (hb.frame (· ∈ before)), fun hd => absurd hd (by simp)⟩
  · rw [hs, hrt]; exact trodAll_mk1 (shut_bool hT _)
  · rw [hs]; exact trodAll_below hl hb hread hlt hA
  · rw [hs, hv]; exact rfl

/-- A slice of bytes that came in. -/
theorem open_bytes {t e : TypeId} (ht : P.underlying t = some (.slice e)) (he : P.underlying e = some (.int .u8)) (hc : P.cellsOf e = 1) {r : Reach} {b0 : Nat} {W : World} {v : Value} {d : DataW H} {ps : List MemPlace}
    (hval : Value.okWide P W r b0 t v) (h : DataW.Trod enc P W 0 (fun _ => true) true t v d ps) : ∃ A l c, v = .slice A (l : List UInt8).length c ∧ Rd W A (bs l) := by
  obtain ⟨a0, len, cap, rfl⟩ := okWide_slice ht hval
  obtain ⟨fuel, hf⟩ := h
  rcases open_ints ht he hc hf with ⟨hcs, _⟩ | ⟨a, len', cap', zs, hcs, _, hl, _, hz, _, hcell, hwf⟩
  · simp [Value.cells] at hcs
    obtain ⟨rfl, rfl, rfl⟩ := hcs
    exact ⟨none, [], 0, rfl, Rd.nil _ _⟩
  · simp [Value.cells] at hcs
    obtain ⟨rfl, rfl, rfl⟩ := hcs
    simp only [if_true] at hz
    refine ⟨some a, (zs.take len).map (fun z => UInt8.ofNat z.toNat), cap, ?_, fun hp => ?_⟩
    · congr 1
      rw [List.length_map, List.length_take]
      omega
    · rw [bs_length, List.length_map, List.length_take] at hp
      obtain ⟨b, off, rfl, hc2⟩ := ints_at hcell (by omega)
      have h0 := hc2 0 (by omega)
      refine ⟨b, off, rfl, World.block_lt_of_cell? W _ h0, fun k u hu => ?_⟩
      have hk : k < len := by
        have := (List.getElem?_eq_some_iff.1 hu).1
        rw [bs_length, List.length_map, List.length_take] at this
        omega
      rw [hc2 k (by omega)]
      have hkz : k < zs.length := by omega
      have hw := hwf _ (List.getElem_mem hkz)
      have hbd := bounds_u8 hw
      rw [← hu]
      simp only [bs, List.map_map, List.getElem?_map, List.getElem?_take, if_pos hk, List.getElem?_eq_getElem hkz, Option.map_some, Function.comp_apply, B8, List.getD, Option.getD_some]
      have e : ((UInt8.ofNat (zs[k]).toNat).toNat : Int) = zs[k] := by
        rw [UInt8.toNat_ofNat_of_lt' (by show (zs[k]).toNat < 256; omega)]; omega
      rw [e]

/-- The same, and how many places it takes as data. -/
theorem open_bytes_sized {t e : TypeId} (ht : P.underlying t = some (.slice e)) (he : P.underlying e = some (.int .u8)) (hc : P.cellsOf e = 1) {r : Reach} {b0 : Nat} {W : World} {v : Value} {d : DataW H} {ps : List MemPlace}
    (hval : Value.okWide P W r b0 t v) (h : DataW.Trod enc P W 0 (fun _ => true) true t v d ps) : ∃ A l c, v = .slice A (l : List UInt8).length c ∧ Rd W A (bs l) ∧ (l = [] ∨ ∃ elems spare, d = .slice elems spare ∧ l.length ≤ elems.length + spare.length) := by
  obtain ⟨A, l, c, rfl, hr⟩ := open_bytes ht he hc hval h
  refine ⟨A, l, c, rfl, hr, ?_⟩
  obtain ⟨fuel, hf⟩ := h
  rcases open_ints ht he hc hf with ⟨hcs, _⟩ | ⟨a, len', cap', zs, hcs, _, hl, _, hz, hx, _, _⟩
  · simp [Value.cells] at hcs
    exact .inl hcs.2.1
  · simp [Value.cells] at hcs
    obtain ⟨rfl, h2, rfl⟩ := hcs
    simp only [if_true] at hz
    simp only [Prod.mk.injEq] at hx
    refine .inr ⟨_, _, hx.1, ?_⟩
    simp only [lits, List.length_map, List.length_take, List.length_drop]
    omega
theorem bytes_reach {ts : List TypeId} {ds : List (DataW H)} (hR : (DataW.weightsEach P ts ds).all (· ≤ reachBytes) = true) {j : Nat} {t e : TypeId} {d : DataW H} {l : List UInt8} (ht : ts[j]? = some t) (hd : ds[j]? = some d) (hu : P.underlying t = some (.slice e)) (hb : P.bytesOf e = 1)
    (h : l = [] ∨ ∃ elems spare, d = .slice elems spare ∧ l.length ≤ elems.length + spare.length) : l.length ≤ 140737488351232 := by
  rcases h with rfl | ⟨elems, spare, rfl, hl⟩
  · simp
  · have := sized_slice hR ht hd hu
    rw [hb] at this
    have hr : reachBytes = 140737488351232 := by decide
    omega
end
end Go.Proofs.YtbjmfhcgkpjcfaaDoor
namespace Go.Proofs.YtbjmfhcgkpjcfaaDoor

def accL (x : Int) : List UInt8 → Option Int
  | [] => some x
  | c :: t => if fol c = true then accL (x * 64 + ((c.toNat : Int) - 128)) t else none
theorem accL_append (x : Int) (t u : List UInt8) : accL x (t ++ u) = (accL x t).bind fun y => accL y u := by
  induction t generalizing x with
  | nil => rfl
  | cons c t ih =>
    by_cases hf : fol c = true
    · have e1 : ∀ t, accL x (c :: t) = accL (x * 64 + ((c.toNat : Int) - 128)) t := fun t => if_pos hf
      rw [List.cons_append, e1, e1]
      exact ih _
    · have e1 : ∀ t, accL x (c :: t) = none := fun t => if_neg hf
      rw [List.cons_append, e1, e1]
      rfl
theorem accL_step (x : Int) (l : List UInt8) (k : Nat) (h : k < l.length) (y : Int) (hy : accL x (l.take k) = some y) :
    accL x (l.take (k + 1)) = if fol l[k] = true then some (y * 64 + ((l[k].toNat : Int) - 128)) else none := by
  rw [List.take_succ_eq_append_getElem h, accL_append, hy]
  rfl
theorem accL_none (x : Int) (l : List UInt8) (k j : Nat) (hk : k ≤ j) (h : accL x (l.take k) = none) : accL x (l.take j) = none := by
  have e : l.take j = l.take k ++ (l.drop k).take (j - k) := by
    rw [← List.take_add, show k + (j - k) = j by omega]
  rw [e, accL_append, h]; rfl
theorem accL_bd : ∀ (t : List UInt8) (x y : Int), 0 ≤ x → accL x t = some y → 0 ≤ y := by
  intro t
  induction t with
  | nil => intro x y h0 h; injection h with h; omega
  | cons c t ih =>
    intro x y h0 h
    unfold accL at h
    split at h
    · rename_i hf
      have := (fol_iff c).1 hf
      exact ih _ y (by omega) h
    · cases h
theorem accL_up (x : Int) (l : List UInt8) (k : Nat) (hk : k ≤ 3) (h0 : 0 ≤ x) (h1 : x < 256) (y : Int) (h : accL x (l.take k) = some y) : 0 ≤ y ∧ y < 67108864 := by
  refine ⟨accL_bd _ _ _ h0 h, ?_⟩
  have step : ∀ (t : List UInt8) (x y B : Int), x < B → accL x t = some y → y < B * 64 ^ t.length := by
    intro t
    induction t with
    | nil => intro x y B hB h; injection h with h; simp; omega
    | cons c t ih =>
      intro x y B hB h
      unfold accL at h
      split at h
      · rename_i hf
        have := (fol_iff c).1 hf
        have h2 := ih _ y (B * 64) (by omega) h
        rw [List.length_cons, show B * 64 ^ (t.length + 1) = B * 64 * 64 ^ t.length by rw [Int.pow_succ]; simp only [Int.mul_assoc]; rw [Int.mul_comm (64 ^ t.length)]]
        exact h2
      · cases h
  have hs := step _ x y 256 h1 h
  have hl : (l.take k).length ≤ 3 := Nat.le_trans (List.length_take_le _ _) hk
  have : (l.take k).length = 0 ∨ (l.take k).length = 1 ∨ (l.take k).length = 2 ∨ (l.take k).length = 3 := by omega
  rcases this with e | e | e | e <;> (rw [e] at hs; simp at hs; omega)

end Go.Proofs.YtbjmfhcgkpjcfaaDoor
namespace Go.Proofs.YtbjmfhcgkpjcfaaDoor
open Go.RowKit

set_option maxHeartbeats 400000 in
theorem text_any (n : Int) (w : World) (h0 : -9223372036854775808 ≤ n) (h1 : n ≤ 9223372036854775807) (htab : Lib.TabIs Tryd.prog w "internal/strconv.uint64pow10" .u64 Lib.pow10Tab) :
    Calls Tryd.prog 87 #[.int .i64 n] w fun e w' => e = .returned (.string ⟨(textL n).toArray⟩) ∧ Below w.heap.size w w' := by
  by_cases hn : n < 0
  · have HE := Lib.hid (show textL n = [] from if_pos hn)
    go_enter Tryd.func87, Tryd.ntmps87
    go_wp2
    go_ret
    exact ⟨ret_s HE.out.symm, Below.refl _ _⟩
  · have HE := Lib.hid (show textL n = Lib.itoa n by unfold textL Lib.itoa; rw [if_neg hn, if_neg hn])
    go_enter Tryd.func87, Tryd.ntmps87
    go_wp2_with (go_at_call 92; refine (Tryd.strconv_Itoa n h0 h1 w htab).mono ?_; rintro e w' ⟨rfl, k, os, rfl⟩)
    go_ret
    exact ⟨ret_s HE.out.symm, below_grow (below_drewN (Below.refl _ _) k) (by simp) os⟩
def Tab (w : World) : Prop := Lib.TabIs Tryd.prog w "internal/strconv.uint64pow10" .u64 Lib.pow10Tab
theorem Tab.below {w w' : World} (h : Tab w) (hb : Below w.heap.size w w') : Tab w' := Lib.tabBelow_of_tabIs h w' hb
end Go.Proofs.YtbjmfhcgkpjcfaaDoor
namespace Go.Proofs.YtbjmfhcgkpjcfaaDoor
open Go.RowKit

/-- A string made bytes, at whatever world. -/
theorem conv_all (P : Program) (src dst e : TypeId) (t : List UInt8) (hs : P.underlying src = some .string) (hd : P.underlying dst = some (.slice e)) (he : P.underlying e = some (.int .u8)) (hm : t.length ≤ maxLen) :
    ∃ (C : World → Nat) (X : World → World), ∀ W, (convert src dst (.string ⟨t.toArray⟩)).run P W = .ok (.slice (some ⟨W.heap.size, 0, none⟩) t.length (C W)) (X W) ∧ t.length ≤ C W ∧
      Rd (X W) (some ⟨W.heap.size, 0, none⟩) (bs t) ∧ Below W.heap.size W (X W) := by
  refine ⟨fun W => grownCap W t.length 0 e, fun W => W.drew.alloc (.cells (bytesRow ⟨t.toArray⟩ (grownCap W t.length 0 e)) e ((bytesRow ⟨t.toArray⟩ (grownCap W t.length 0 e)).size, (bytesRow ⟨t.toArray⟩ (grownCap W t.length 0 e)).size + 1)), fun W => ⟨?_, grownCap_ge W t.length 0 e, ?_, ?_⟩⟩
  · have := run_bytes_of_string (P := P) W src dst e ⟨t.toArray⟩ hs hd he
    rw [this]
    rfl
  · obtain ⟨v', w', hr, ho, hg⟩ := run_conv (P := P) W 0 src dst e ⟨t.toArray⟩ hs hd he hm (Nat.zero_le _)
    rw [run_bytes_of_string (P := P) W src dst e ⟨t.toArray⟩ hs hd he] at hr
    injection hr with h1 h2
    subst h1
    subst h2
    exact ho.rd
  · exact ((Below.refl _ W).drew).alloc (by simp) _
end Go.Proofs.YtbjmfhcgkpjcfaaDoor
namespace Go.Proofs.YtbjmfhcgkpjcfaaDoor

/-- What the program reckons is what is told. -/
structure Fst (a : UInt8) (j : Nat) (lead : Int) : Prop where
  short : ∀ l : List UInt8, l.length < j → takeL (a :: l) = (0, 0)
  none_ : ∀ l : List UInt8, j ≤ l.length → accL ((a.toNat : Int) - lead) (l.take j) = none → takeL (a :: l) = (0, 0)
  no : ∀ (l : List UInt8) (x : Int), j ≤ l.length → accL ((a.toNat : Int) - lead) (l.take j) = some x → ¬ (isPt x = true ∧ ixP x 4 = j) → takeL (a :: l) = (0, 0)
  yes : ∀ (l : List UInt8) (x : Int), j ≤ l.length → accL ((a.toNat : Int) - lead) (l.take j) = some x → isPt x = true → ixP x 4 = j → takeL (a :: l) = (x, j + 1)

theorem ix0 (x : Int) : ixP x 4 = 0 ↔ x < 128 := by unfold ixP; (repeat' split) <;> omega
theorem ix1 (x : Int) : ixP x 4 = 1 ↔ 128 ≤ x ∧ x < 2048 := by unfold ixP; (repeat' split) <;> omega
theorem ix2 (x : Int) : ixP x 4 = 2 ↔ 2048 ≤ x ∧ x < 65536 := by unfold ixP; (repeat' split) <;> omega
theorem ix3 (x : Int) : ixP x 4 = 3 ↔ 65536 ≤ x := by unfold ixP; (repeat' split) <;> omega

theorem fst_split (a : UInt8) : ∃ (j : Nat) (least lead : Int), j ≤ 3 ∧ ixF a.toNat 4 = j ∧ szA (ixF a.toNat 4) = #[.int .i64 ((j : Int) + 1), .int .i64 least, .int .i64 lead] ∧ 0 ≤ lead ∧ lead ≤ a.toNat ∧ Fst a j lead := by
  have ha := a.toNat_lt
  by_cases a1 : a.toNat < 192
  · have e : ixF a.toNat 4 = 0 := by unfold ixF; (repeat' split) <;> omega
    refine ⟨0, 0, 0, by omega, e, by rw [e]; rfl, by omega, by omega, ⟨fun l h => absurd h (by omega), fun l _ h => ?_, fun l x _ h hn => ?_, fun l x _ h hp hi => ?_⟩⟩
    · cases h
    · obtain rfl : (a.toNat : Int) = x := by have := Option.some.inj h; omega
      simp only [takeL]
      rw [if_pos a1]
      by_cases a2 : a.toNat < 128
      · exact absurd ⟨(isPt_iff _).2 (by omega), (ix0 _).2 (by omega)⟩ hn
      · rw [if_neg a2]
    · obtain rfl : (a.toNat : Int) = x := by have := Option.some.inj h; omega
      have := (ix0 _).1 hi
      simp only [takeL]
      rw [if_pos a1, if_pos (by omega)]
      rfl
  · by_cases a2 : a.toNat < 224
    · have e : ixF a.toNat 4 = 1 := by unfold ixF; (repeat' split) <;> omega
      refine ⟨1, 128, 192, by omega, e, by rw [e]; rfl, by omega, by omega, ⟨fun l h => ?_, fun l hl h => ?_, fun l x hl h hn => ?_, fun l x hl h hp hi => ?_⟩⟩
      · match l, h with
        | [], _ => simp only [takeL]; rw [if_neg a1, if_pos a2]
      · match l, hl with
        | b :: l, _ =>
          simp only [takeL]; rw [if_neg a1, if_pos a2]
          by_cases f1 : fol b = true
          · simp [accL, f1] at h
          · rw [if_neg (fun hh => f1 hh.1)]
      · match l, hl with
        | b :: l, _ =>
          simp only [takeL]; rw [if_neg a1, if_pos a2]
          by_cases f1 : fol b = true
          · have hx : num2 a b = x := by simpa [accL, f1, num2] using h
            have e0 : num2 a b = ((a.toNat : Int) - 192) * 64 + ((b.toNat : Int) - 128) := rfl
            have := (fol_iff b).1 f1
            rw [hx]
            rw [if_neg (fun hh => hn ⟨hh.2.1, (ix1 x).2 (by omega)⟩)]
          · rw [if_neg (fun hh => f1 hh.1)]
      · match l, hl with
        | b :: l, _ =>
          simp only [takeL]; rw [if_neg a1, if_pos a2]
          by_cases f1 : fol b = true
          · have hx : num2 a b = x := by simpa [accL, f1, num2] using h
            rw [hx, if_pos ⟨f1, hp, ((ix1 x).1 hi).1⟩]
          · simp [accL, f1] at h
    · by_cases a3 : a.toNat < 240
      · have e : ixF a.toNat 4 = 2 := by unfold ixF; (repeat' split) <;> omega
        refine ⟨2, 2048, 224, by omega, e, by rw [e]; rfl, by omega, by omega, ⟨fun l h => ?_, fun l hl h => ?_, fun l x hl h hn => ?_, fun l x hl h hp hi => ?_⟩⟩
        · match l, h with
          | [], _ => simp only [takeL]; rw [if_neg a1, if_neg a2, if_pos a3]
          | [_], _ => simp only [takeL]; rw [if_neg a1, if_neg a2, if_pos a3]
        · match l, hl with
          | b :: c :: l, _ =>
            simp only [takeL]; rw [if_neg a1, if_neg a2, if_pos a3]
            by_cases f1 : fol b = true
            · by_cases f2 : fol c = true
              · simp [accL, f1, f2] at h
              · rw [if_neg (fun hh => f2 hh.2.1)]
            · rw [if_neg (fun hh => f1 hh.1)]
        · match l, hl with
          | b :: c :: l, _ =>
            simp only [takeL]; rw [if_neg a1, if_neg a2, if_pos a3]
            by_cases f1 : fol b = true
            · by_cases f2 : fol c = true
              · have hx : num3 a b c = x := by simpa [accL, f1, f2, num3] using h
                have e0 : num3 a b c = (((a.toNat : Int) - 224) * 64 + ((b.toNat : Int) - 128)) * 64 + ((c.toNat : Int) - 128) := rfl
                have := (fol_iff b).1 f1
                have := (fol_iff c).1 f2
                rw [hx]
                rw [if_neg (fun hh => hn ⟨hh.2.2.1, (ix2 x).2 (by omega)⟩)]
              · rw [if_neg (fun hh => f2 hh.2.1)]
            · rw [if_neg (fun hh => f1 hh.1)]
        · match l, hl with
          | b :: c :: l, _ =>
            simp only [takeL]; rw [if_neg a1, if_neg a2, if_pos a3]
            by_cases f1 : fol b = true
            · by_cases f2 : fol c = true
              · have hx : num3 a b c = x := by simpa [accL, f1, f2, num3] using h
                rw [hx, if_pos ⟨f1, f2, hp, ((ix2 x).1 hi).1⟩]
              · simp [accL, f1, f2] at h
            · simp [accL, f1] at h
      · have e : ixF a.toNat 4 = 3 := by unfold ixF; (repeat' split) <;> omega
        refine ⟨3, 65536, 240, by omega, e, by rw [e]; rfl, by omega, by omega, ⟨fun l h => ?_, fun l hl h => ?_, fun l x hl h hn => ?_, fun l x hl h hp hi => ?_⟩⟩
        · match l, h with
          | [], _ => simp only [takeL]; rw [if_neg a1, if_neg a2, if_neg a3]
          | [_], _ => simp only [takeL]; rw [if_neg a1, if_neg a2, if_neg a3]
          | [_, _], _ => simp only [takeL]; rw [if_neg a1, if_neg a2, if_neg a3]
        · match l, hl with
          | b :: c :: d :: l, _ =>
            simp only [takeL]; rw [if_neg a1, if_neg a2, if_neg a3]
            by_cases f1 : fol b = true
            · by_cases f2 : fol c = true
              · by_cases f3 : fol d = true
                · simp [accL, f1, f2, f3] at h
                · rw [if_neg (fun hh => f3 hh.2.2.1)]
              · rw [if_neg (fun hh => f2 hh.2.1)]
            · rw [if_neg (fun hh => f1 hh.1)]
        · match l, hl with
          | b :: c :: d :: l, _ =>
            simp only [takeL]; rw [if_neg a1, if_neg a2, if_neg a3]
            by_cases f1 : fol b = true
            · by_cases f2 : fol c = true
              · by_cases f3 : fol d = true
                · have hx : num4 a b c d = x := by simpa [accL, f1, f2, f3, num4] using h
                  rw [hx]
                  rw [if_neg (fun hh => hn ⟨hh.2.2.2.1, (ix3 x).2 hh.2.2.2.2⟩)]
                · rw [if_neg (fun hh => f3 hh.2.2.1)]
              · rw [if_neg (fun hh => f2 hh.2.1)]
            · rw [if_neg (fun hh => f1 hh.1)]
        · match l, hl with
          | b :: c :: d :: l, _ =>
            simp only [takeL]; rw [if_neg a1, if_neg a2, if_neg a3]
            by_cases f1 : fol b = true
            · by_cases f2 : fol c = true
              · by_cases f3 : fol d = true
                · have hx : num4 a b c d = x := by simpa [accL, f1, f2, f3, num4] using h
                  rw [hx, if_pos ⟨f1, f2, f3, hp, ((ix3 x).1 hi)⟩]
                · simp [accL, f1, f2, f3] at h
              · simp [accL, f1, f2] at h
            · simp [accL, f1] at h
end Go.Proofs.YtbjmfhcgkpjcfaaDoor
namespace Go.Proofs.YtbjmfhcgkpjcfaaDoor
open Go.RowKit

/-- What a character is worth as a figure of sixteen; 99: it is none. -/
def figV (c : Int) : Int := if 48 ≤ c ∧ c ≤ 57 then c - 48 else if 65 ≤ c ∧ c ≤ 70 then c - 55 else if 97 ≤ c ∧ c ≤ 102 then c - 87 else 99

set_option maxHeartbeats 400000 in
theorem figures_any (n : Int) (w : World) :
    Calls Tryd.prog 91 #[.int .i64 n] w fun e w' => e = .returned (.func (.func 96) #[] #[.pointer (some ⟨w.heap.size, 0, none⟩)]) ∧ w' = w.alloc (.cells #[.int .i64 n] 3) := by
  have hmf : ∀ (fn : Fn) (first cap : Array Value) (w : World), (Instr.makeFunc fn first cap).run Tryd.prog w = .ok (.func fn first cap) w := fun _ _ _ _ => rfl
  go_enter Tryd.func91, Tryd.ntmps91
  go_wp2
  go_ret
  exact ⟨rfl, rfl⟩

def figA (c n : Int) : Int := if figV c < n then figV c else 0
def figB (c n : Int) : Bool := decide (figV c < n)

set_option maxHeartbeats 1000000 in
/-- The closure: what the character is worth, if that is below the base. -/
theorem figure_any (c n : Int) (a : Addr) (w : World) (h0 : 0 ≤ c) (h1 : c ≤ 2147483647) (hn0 : 1 ≤ n) (hn1 : n ≤ 36) (hc : w.cell? a = some (.int .i64 n)) :
    Calls Tryd.prog 96 #[.int .i32 c, .pointer (some a)] w fun e w' =>
      e = .returned (.tuple #[.int .i64 (figA c n), .bool (figB c n)]) ∧ w' = w := by
  go_enter Tryd.func96, Tryd.ntmps96
  go_wp2
  all_goals go_ret2
  all_goals
    refine ⟨ret_ib ?_ ?_, rfl⟩
    · unfold figA figV
      (repeat' split) <;> omega
    · unfold figB figV
      (repeat' split) <;> first | (rw [eq_comm, decide_eq_true_eq]; omega) | (rw [eq_comm, decide_eq_false_iff_not]; omega)

/-- How many figures bytes begin with. -/
def digs (l : List UInt8) : Nat := (l.takeWhile isD).length
def satk (l : List UInt8) (k : Nat) : Nat := (l.take k).foldl dstep 0
theorem take_snoc (l : List UInt8) (k : Nat) (h : k < l.length) : l.take (k + 1) = l.take k ++ [l[k]] := by
  rw [List.take_succ_eq_append_getElem h]
theorem satk_zero (l : List UInt8) : satk l 0 = 0 := rfl
theorem satk_succ (l : List UInt8) (k : Nat) (h : k < l.length) : satk l (k + 1) = dstep (satk l k) l[k] := by
  unfold satk; rw [take_snoc l k h, List.foldl_append]; rfl
theorem satk_le (l : List UInt8) : ∀ k, satk l k ≤ 1114111 := by
  intro k
  unfold satk
  generalize l.take k = t
  cases ht : t.reverse with
  | nil => rw [List.reverse_eq_nil_iff] at ht; subst ht; simp
  | cons c r =>
    have : t = r.reverse ++ [c] := by rw [← List.reverse_reverse t, ht]; simp
    rw [this, List.foldl_append]
    exact dstep_le _ _

theorem takeWhile_of_all {p : UInt8 → Bool} : ∀ (l : List UInt8) (k : Nat), k ≤ l.length → (∀ j (h : j < l.length), j < k → p l[j] = true) → (∀ h : k < l.length, p l[k] = false) → l.takeWhile p = l.take k
  | [], k, hk, _, _ => by simp at hk; subst hk; rfl
  | c :: r, 0, _, _, hn => by
    have := hn (by simp)
    simp at this
    simp [this]
  | c :: r, k + 1, hk, ha, hn => by
    have h0 := ha 0 (by simp) (by omega)
    simp at h0
    rw [List.takeWhile_cons_of_pos h0, List.take_succ_cons]
    congr 1
    refine takeWhile_of_all r k (by simpa using hk) (fun j h hj => ?_) (fun h => ?_)
    · exact ha (j + 1) (by rw [List.length_cons]; omega) (by omega)
    · exact hn (by rw [List.length_cons]; omega)
theorem digs_at (l : List UInt8) (k : Nat) (hk : k ≤ l.length) (ha : ∀ j (h : j < l.length), j < k → isD l[j] = true) (hn : ∀ h : k < l.length, isD l[k] = false) : digs l = k ∧ satv l = satk l k := by
  unfold digs satv satk
  rw [takeWhile_of_all l k hk ha hn]
  exact ⟨by rw [List.length_take]; omega, rfl⟩
theorem fig_digit (c : UInt8) (h : isD c = true) : figB (c.toNat : Int) 10 = true ∧ figA (c.toNat : Int) 10 = (c.toNat : Int) - 48 := by
  have h' : 48 ≤ c.toNat ∧ c.toNat ≤ 57 := of_decide_eq_true h
  have hv : figV (c.toNat : Int) = (c.toNat : Int) - 48 := by unfold figV; rw [if_pos (by omega)]
  unfold figB figA
  rw [hv]
  exact ⟨decide_eq_true (by omega), if_pos (by omega)⟩
theorem fig_other (c : UInt8) (h : isD c = false) : figB (c.toNat : Int) 10 = false := by
  have h' : ¬ (48 ≤ c.toNat ∧ c.toNat ≤ 57) := of_decide_eq_false h
  unfold figB
  rw [decide_eq_false_iff_not]
  unfold figV
  rw [if_neg (by omega)]
  split
  · omega
  · split <;> omega

set_option maxHeartbeats 1000000 in
theorem figtake_any (A : Option Addr) (c : Nat) (l : List UInt8) (w : World) (hl : l.length ≤ 4294967296) (hr : Rd w A (bs l)) :
    Calls Tryd.prog 86 #[.slice A l.length c] w fun e w' => e = .returned (.tuple #[.int .i64 (satv l), .int .i64 (digs l)]) ∧ Below w.heap.size w w' := by
  have hr1 := hr.alloc (.cells #[.int .i64 10] 3)
  have hb1 : Below w.heap.size w (w.alloc (.cells #[.int .i64 10] 3)) := (Below.refl _ _).alloc (Nat.le_refl _) _
  have hbox : (w.alloc (.cells #[.int .i64 10] 3)).cell? ⟨w.heap.size, 0, none⟩ = some (.int .i64 10) := by
    rw [World.cell?_alloc_at _ _ _ _ rfl]; rfl
  go_enter Tryd.func86, Tryd.ntmps86
  go_wp2_with (go_at_call 91; refine (figures_any 10 _).mono ?_; rintro e w' ⟨rfl, rfl⟩)
  go_loop [5, 6, 14] (fun n u i => ∃ k : Nat, k ≤ l.length ∧ i = .int .i64 k ∧ u = .int .i64 k ∧ n = .int .i64 (satk l k) ∧ Hid (∀ j (h : j < l.length), j < k → isD l[j] = true)) (fun _ _ i => l.length - (intOf i).toNat)
  case atStart => exact ⟨0, Nat.zero_le _, rfl, rfl, rfl, fun j _ h => absurd h (by omega)⟩
  case round =>
    obtain ⟨k, hk, rfl, rfl, rfl, hall⟩ := hrel
    have hsk := satk_le l k
    by_cases hlt : k < l.length
    · obtain ⟨b, o, rfl, hb, hcell⟩ := hr1.at_ (by omega)
      have hck := hcell k hlt
      have hlo := (l[k]).toNat_lt
      clear hcell
      cases hd : isD l[k] with
      | true =>
        obtain ⟨f1, f2⟩ := fig_digit _ hd
        have H1 := Lib.hid f1
        have H2 := Lib.hid f2
        have HS := Lib.hid (satk_succ l k hlt)
        have HD := Lib.hid hd
        have h5 : 48 ≤ (l[k]).toNat ∧ (l[k]).toNat ≤ 57 := of_decide_eq_true hd
        clear f1 f2 hd
        go_wp2_with (go_at_call 96; refine (figure_any _ 10 _ _ (by omega) (by omega) (by omega) (by omega) hbox).mono ?_; rintro e w' ⟨rfl, rfl⟩; rw [H1.out, H2.out])
        go_round
        case rel =>
          refine ⟨k + 1, by omega, by go_num, by go_num, ?_, ?_⟩
          · rw [HS.out]
            unfold dstep
            congr 1
            first | omega | (split <;> omega)
          · intro j h hj
            by_cases e : j = k
            · subst e; exact HD.out
            · exact hall.out j h (by omega)
        case measure => simp [intOf]; omega
      | false =>
        have H1 := Lib.hid (fig_other _ hd)
        have HE := Lib.hid (digs_at l k hk hall.out fun _ => hd)
        clear hd
        go_wp2_with (go_at_call 96; refine (figure_any _ 10 _ _ (by omega) (by omega) (by omega) (by omega) hbox).mono ?_; rintro e w' ⟨rfl, rfl⟩; rw [H1.out])
        go_ret2
        exact ⟨ret_ii (by rw [HE.out.2]) (by rw [HE.out.1]), hb1⟩
    · have HE := Lib.hid (digs_at l k hk hall.out fun h => absurd h hlt)
      go_wp2
      go_ret2
      exact ⟨ret_ii (by rw [HE.out.2]) (by rw [HE.out.1]), hb1⟩

theorem take_at (A : Option Addr) (c : Nat) (l : List UInt8) (n : Nat) (w : World) (hn : l.length = n) (hl : l.length ≤ 4294967296) (hr : Rd w A (bs l)) :
    Calls Tryd.prog 86 #[.slice A n c] w fun e w' => e = .returned (.tuple #[.int .i64 (satv l), .int .i64 (digs l)]) ∧ Below w.heap.size w w' := by
  subst hn
  exact figtake_any A c l w hl hr
end Go.Proofs.YtbjmfhcgkpjcfaaDoor
