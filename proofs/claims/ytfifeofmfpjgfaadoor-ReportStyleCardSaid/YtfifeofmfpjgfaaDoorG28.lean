/-
  Stage 19, the landed report, walked: the map of settings, and what is found in it.
-/
import Derived.Test.YtfifeofmfpjgfaaDoorG12
import Derived.Test.YtfifeofmfpjgfaaDoorG17
import Derived.Test.YtfifeofmfpjgfaaDoorG27
import Derived.StringKeys
namespace Go.Proofs.YtfifeofmfpjgfaaDoor
open Go.RowKit Go.Maps
theorem wpList_upd1 {P : Program} {ops : Array Oper} {Q : Exit → Act → World → Prop} {T K E : TypeId} (KK : Keyed P K) (hT : P.underlying T = some (.map K E)) {a : Act} {b : Nat} {o : Oper} {rest : List Oper} {k : Lit} {v key : Value} {m x y : Operand} (hop : o.op = .mapUpdate T m x y) (hg : o.guard = none) (hd : o.dst = none) (hm : a.eval m = .map (some b)) (hx : a.eval x = key) (hkey : keyOf P K key = some k) (hv : a.eval y = v) {n : Nat} {D : DataW Value} {w : World} (hown : w.ownsMap P K hel b n D) (hn : n < maxLen)
 (hK : ∀ w', w'.ownsMap P K hel b (n + 1) (D.put k (.held v)) → w.grownBy w' (some b) → wpList P ops Q rest a w') : wpList P ops Q (o :: rest) a w := by
 obtain ⟨w', hrun, h1, h2⟩ := hown.store KK hT hn hkey (show hel v = some (.held v, []) from rfl)
 refine wpList_plain hg fun K hKK => ?_
 unfold Oper.wp
 have e : (execOp a.eval o).run P w = .ok .skip w' := by
  unfold execOp
  rw [hop]
  simp [hm, hx, hv, hrun, Result.andThen]
 rw [e, Oper.upon_skip, hd]
 exact hKK _ _ (hK _ h1 h2.grown)
def setD0 (g : Nat) : DataW Value := (((((.map [] : DataW Value).put (.string [114]) (.held (.func (.func 46) #[] #[.pointer (some ⟨g, 0, none⟩)]))).put (.string [115]) (.held (.func (.func 48) #[] #[.pointer (some ⟨g, 0, none⟩)]))).put (.string [32, 113]) (.held (.func (.func 49) #[] #[.pointer (some ⟨g, 0, none⟩)]))).put (.string [34, 112]) (.held (.func (.func 50) #[] #[])))
def setD (q : Bool) (g : Nat) : DataW Value := if q = true then (setD0 g).put (.string [109]) (.held (.func (.func 52) #[] #[.pointer (some ⟨g, 0, none⟩)])) else setD0 g
def cloAt (q : Bool) (g : Nat) (ask : List UInt8) : Value × Bool :=
 if ask = [109] then (if q = true then ((.func (.func 52) #[] #[.pointer (some ⟨g, 0, none⟩)]), true) else (.nilFunc, false))
 else if ask = [114] then ((.func (.func 46) #[] #[.pointer (some ⟨g, 0, none⟩)]), true)
 else if ask = [115] then ((.func (.func 48) #[] #[.pointer (some ⟨g, 0, none⟩)]), true)
 else if ask = [32, 113] then ((.func (.func 49) #[] #[.pointer (some ⟨g, 0, none⟩)]), true)
 else if ask = [34, 112] then ((.func (.func 50) #[] #[]), true) else (.nilFunc, false)
theorem setD_at (q : Bool) (g : Nat) (ask : List UInt8) : (setD q g).atKey (.string ask) (.held .nilFunc) = .held (cloAt q g ask).1 ∧ Maps.has (setD q g) (.string ask) = (cloAt q g ask).2 := by
 have hne : ∀ {l : List UInt8}, ask ≠ l → (Lit.string ask) ≠ .string l := fun h e => h (by injection e)
 by_cases h0 : ask = [109]
 ·subst h0
  cases q <;> exact ⟨by kernel_rfl, by kernel_rfl⟩
 ·have e : (setD q g).atKey (.string ask) (.held .nilFunc) = (setD0 g).atKey (.string ask) (.held .nilFunc) ∧ Maps.has (setD q g) (.string ask) = Maps.has (setD0 g) (.string ask) := by
   cases q
   ·exact ⟨rfl, rfl⟩
   ·exact ⟨atKey_put_other (D := setD0 g) (hne h0) (.held (.func (.func 52) #[] #[.pointer (some ⟨g, 0, none⟩)])) _, has_put_other (D := setD0 g) (hne h0) (.held (.func (.func 52) #[] #[.pointer (some ⟨g, 0, none⟩)]))⟩
  rw [e.1, e.2]
  by_cases h1 : ask = [114]
  ·subst h1
   exact ⟨by kernel_rfl, by kernel_rfl⟩
  ·by_cases h2 : ask = [115]
   ·subst h2
    exact ⟨by kernel_rfl, by kernel_rfl⟩
   ·by_cases h3 : ask = [32, 113]
    ·subst h3
     exact ⟨by kernel_rfl, by kernel_rfl⟩
    ·by_cases h4 : ask = [34, 112]
     ·subst h4
      exact ⟨by kernel_rfl, by kernel_rfl⟩
     ·unfold setD0 cloAt
      rw [if_neg h0, if_neg h1, if_neg h2, if_neg h3, if_neg h4, atKey_put_other (hne h4), atKey_put_other (hne h3), atKey_put_other (hne h2), atKey_put_other (hne h1), has_put_other (hne h4), has_put_other (hne h3), has_put_other (hne h2), has_put_other (hne h1)]
      exact ⟨rfl, rfl⟩
theorem zeroFr (w : World) : (zeroValue 56).run Tryd.prog w = .ok .nilFunc w := by kernel_rfl
theorem set_look {w : World} {b n g : Nat} {q r : Bool} {ask : List UInt8} {v : Value} (h : w.ownsMap Tryd.prog 9 hel b n (setD q g)) (hl : ask.length ≤ maxLen) (hv : cloAt q g ask = (v, r)) :
 (Instr.lookup 58 (.map (some b)) (.string ⟨ask.toArray⟩) true).run Tryd.prog w = .ok (.tuple #[v, .bool r]) w := by
 obtain ⟨ha, hq⟩ := setD_at q g ask
 rw [hv] at ha hq
 have hk : keyOf Tryd.prog 9 (.string ⟨ask.toArray⟩) = some (.string ask) := Go.WideMaps.keyOf_string_mk Tryd.underlying9 (s := ⟨ask.toArray⟩) (by simpa [ByteArray.size] using hl)
 obtain ⟨v1, p1, r1, e1⟩ := h.look_ok (string_keyed Tryd.underlying9) Tryd.underlying58 (zeroFr w) (show hel .nilFunc = some (.held .nilFunc, []) from rfl) hk
 rw [ha] at e1
 have e1' : v1 = v := by simpa [hel] using congrArg (Option.map Prod.fst) e1
 rw [e1', hq] at r1
 exact r1
def SetsE (s : Sc) (q : Bool) (w : World) (e : Ending) (w' : World) : Prop := ∃ b n, e = .returned (.map (some b)) ∧ w'.ownsMap Tryd.prog 9 hel b n (setD q w.heap.size) ∧ Blk w' w.heap.size 25 (scC s) ∧ Below w.heap.size w w'
theorem below_but19 {B b : Nat} {a w w' : World} (h : Below B a w) (hg : w.grownBy w' (some b)) (hB : B ≤ w.heap.size) (hb : B ≤ b) : Below B a w' :=
 ⟨hg.os.trans h.os, hg.tape.trans h.tape, hg.output.trans h.output, Nat.le_trans h.size hg.size, fun k hk => (hg.block k (Nat.lt_of_lt_of_le hk hB) (fun e => by injection e with e; omega)).trans (h.block k hk)⟩
set_option maxRecDepth 100000 in
set_option maxHeartbeats 16000000 in
theorem psettings_any (s : Sc) (q : Bool) (hq : mayY s.style = q) (w : World) : Calls Tryd.prog 33 #[scV s] w (SetsE s q w) := by
 have hmf : ∀ (fn : Fn) (first cap : Array Value) (w : World), (Instr.makeFunc fn first cap).run Tryd.prog w = .ok (.func fn first cap) w := fun _ _ _ _ => rfl
 have HM : Hid (∀ W, Calls Tryd.prog 51 #[syV s.style] W fun e w' => e = .returned (.bool q) ∧ Below W.heap.size W w') := Lib.hid fun W => smay_any s.style q hq W
 clear hq
 obtain ⟨s0, s1, s2, s3, s4, s5, s6, s7, s8, ⟨s9, s10, s11, s12, s13, s14, s15, s16, s17, s18⟩⟩ := s
 unfold SetsE scV scC
 unfold syV at HM
 simp only at HM ⊢
 have kb := Blk.new w 25 #[.int .i64 s0, .int .i64 s1, .int .i64 s2, .int .i64 s3, .int .i64 s4, .int .i64 s5, .int .i64 s6, .int .i64 s7, .int .i64 s8, .bool s9, .bool s10, .bool s11, .bool s12, .bool s13, .bool s14, .bool s15, .int .i64 s16, .int .i64 s17, .int .i64 s18]
 have hB0 := (Below.refl w.heap.size w).alloc (Nat.le_refl _) (.cells #[.int .i64 s0, .int .i64 s1, .int .i64 s2, .int .i64 s3, .int .i64 s4, .int .i64 s5, .int .i64 s6, .int .i64 s7, .int .i64 s8, .bool s9, .bool s10, .bool s11, .bool s12, .bool s13, .bool s14, .bool s15, .int .i64 s16, .int .i64 s17, .int .i64 s18] 25)
 go_enter Tryd.func33, Tryd.ntmps33
 go_wp2_with fail
 rename_i K hK
 rw [run_makeMap, Result.andThen_ok, Oper.upon_value]
 refine hK _ _ ?_
 have hown0 := World.ownsMap_made (w.alloc (.cells #[.int .i64 s0, .int .i64 s1, .int .i64 s2, .int .i64 s3, .int .i64 s4, .int .i64 s5, .int .i64 s6, .int .i64 s7, .int .i64 s8, .bool s9, .bool s10, .bool s11, .bool s12, .bool s13, .bool s14, .bool s15, .int .i64 s16, .int .i64 s17, .int .i64 s18] 25)) Tryd.prog 9 hel
 have k0 := kb.alloc (.map #[] 0)
 have hb0 := hB0.alloc hB0.size (.map #[] 0)
 obtain ⟨b, hb⟩ : ∃ b, (w.alloc (.cells #[.int .i64 s0, .int .i64 s1, .int .i64 s2, .int .i64 s3, .int .i64 s4, .int .i64 s5, .int .i64 s6, .int .i64 s7, .int .i64 s8, .bool s9, .bool s10, .bool s11, .bool s12, .bool s13, .bool s14, .bool s15, .int .i64 s16, .int .i64 s17, .int .i64 s18] 25)).heap.size = b := ⟨_, rfl⟩
 have hgb : w.heap.size + 1 = b := by rw [← hb]; simp
 have hsz : b < ((w.alloc (.cells #[.int .i64 s0, .int .i64 s1, .int .i64 s2, .int .i64 s3, .int .i64 s4, .int .i64 s5, .int .i64 s6, .int .i64 s7, .int .i64 s8, .bool s9, .bool s10, .bool s11, .bool s12, .bool s13, .bool s14, .bool s15, .int .i64 s16, .int .i64 s17, .int .i64 s18] 25)).alloc (.map #[] 0)).heap.size := by simp at hb ⊢; omega
 rw [hb] at hown0 ⊢
 obtain ⟨w0, hw0⟩ : ∃ w0, (w.alloc (.cells #[.int .i64 s0, .int .i64 s1, .int .i64 s2, .int .i64 s3, .int .i64 s4, .int .i64 s5, .int .i64 s6, .int .i64 s7, .int .i64 s8, .bool s9, .bool s10, .bool s11, .bool s12, .bool s13, .bool s14, .bool s15, .int .i64 s16, .int .i64 s17, .int .i64 s18] 25)).alloc (.map #[] 0) = w0 := ⟨_, rfl⟩
 rw [hw0] at hown0 hb0 hsz k0 ⊢
 obtain ⟨g, hg⟩ : ∃ g, w.heap.size = g := ⟨_, rfl⟩
 have HG := Lib.hid hg
 rw [hg] at k0 hgb ⊢
 clear hw0 hK hb kb hB0 hg
 go_upto_region 2 with (first
  | (refine wpList_ins1 (T := 58) (K := 9) (E := 56) (b := b) (k := .string [114]) (key := .string ⟨#[114]⟩) (v := (.func (.func 46) #[] #[.pointer (some ⟨g, 0, none⟩)])) (string_keyed Tryd.underlying9) Tryd.underlying58 rfl rfl rfl (by kernel_rfl) rfl (Go.WideMaps.keyOf_string_mk Tryd.underlying9 (s := ⟨#[114]⟩) (by decide)) (by kernel_rfl) hown0 (by decide) ?_; intro w1 hown1 hg1)
  | (refine wpList_ins1 (T := 58) (K := 9) (E := 56) (b := b) (k := .string [115]) (key := .string ⟨#[115]⟩) (v := (.func (.func 48) #[] #[.pointer (some ⟨g, 0, none⟩)])) (string_keyed Tryd.underlying9) Tryd.underlying58 rfl rfl rfl (by kernel_rfl) rfl (Go.WideMaps.keyOf_string_mk Tryd.underlying9 (s := ⟨#[115]⟩) (by decide)) (by kernel_rfl) hown1 (by decide) ?_; intro w2 hown2 hg2)
  | (refine wpList_ins1 (T := 58) (K := 9) (E := 56) (b := b) (k := .string [32, 113]) (key := .string ⟨#[32, 113]⟩) (v := (.func (.func 49) #[] #[.pointer (some ⟨g, 0, none⟩)])) (string_keyed Tryd.underlying9) Tryd.underlying58 rfl rfl rfl (by kernel_rfl) rfl (Go.WideMaps.keyOf_string_mk Tryd.underlying9 (s := ⟨#[32, 113]⟩) (by decide)) (by kernel_rfl) hown2 (by decide) ?_; intro w3 hown3 hg3)
  | (refine wpList_ins1 (T := 58) (K := 9) (E := 56) (b := b) (k := .string [34, 112]) (key := .string ⟨#[34, 112]⟩) (v := (.func (.func 50) #[] #[])) (string_keyed Tryd.underlying9) Tryd.underlying58 rfl rfl rfl (by kernel_rfl) rfl (Go.WideMaps.keyOf_string_mk Tryd.underlying9 (s := ⟨#[34, 112]⟩) (by decide)) (by kernel_rfl) hown3 (by decide) ?_; intro w4 hown4 hg4))
 have hg := ((hg1.trans hg2).trans hg3).trans hg4
 have k4 := k0.grown hg (by intro e; injection e with e; omega)
 have hb4 := below_but19 hb0 hg hb0.size (by have := HG.out; omega)
 have hown : w4.ownsMap Tryd.prog 9 hel b 4 (setD0 g) := hown4
 clear hown0 hown1 hown2 hown3 hown4 hg1 hg2 hg3 hg4 hg hb0 k0 hsz
 have c9 : w4.cell? ⟨g, 9, none⟩ = some (.bool s9) := k4.cell 9
 have c10 : w4.cell? ⟨g, 10, none⟩ = some (.bool s10) := k4.cell 10
 have c11 : w4.cell? ⟨g, 11, none⟩ = some (.bool s11) := k4.cell 11
 have c12 : w4.cell? ⟨g, 12, none⟩ = some (.bool s12) := k4.cell 12
 have c13 : w4.cell? ⟨g, 13, none⟩ = some (.bool s13) := k4.cell 13
 have c14 : w4.cell? ⟨g, 14, none⟩ = some (.bool s14) := k4.cell 14
 have c15 : w4.cell? ⟨g, 15, none⟩ = some (.bool s15) := k4.cell 15
 have c16 : w4.cell? ⟨g, 16, none⟩ = some (.int .i64 s16) := k4.cell 16
 have c17 : w4.cell? ⟨g, 17, none⟩ = some (.int .i64 s17) := k4.cell 17
 have c18 : w4.cell? ⟨g, 18, none⟩ = some (.int .i64 s18) := k4.cell 18
 go_wp2_with fail
 refine (HM.out _).mono ?_
 rintro e w5 ⟨rfl, hb5⟩
 have hown5 := hown.kept (grown_below none hb5) (by simp)
 have k5 := k4.below hb5 k4.lt
 have hB5 := hb4.trans (hb5.mono hb4.size)
 clear c9 c10 c11 c12 c13 c14 c15 c16 c17 c18 hown k4 hb4 hb5 HM
 cases q with
 | false =>
   go_wp2_with fail
   go_ret
   refine ⟨b, 4, rfl, ?_, ?_, hB5⟩
   ·rw [HG.out]; exact hown5
   ·rw [HG.out]; exact k5
 | true =>
   go_wp2_with (first
    | (refine wpList_upd1 (T := 58) (K := 9) (E := 56) (b := b) (k := .string [109]) (key := .string ⟨#[109]⟩) (v := (.func (.func 52) #[] #[.pointer (some ⟨g, 0, none⟩)])) (string_keyed Tryd.underlying9) Tryd.underlying58 rfl rfl rfl (by kernel_rfl) rfl (Go.WideMaps.keyOf_string_mk Tryd.underlying9 (s := ⟨#[109]⟩) (by decide)) (by kernel_rfl) hown5 (by decide) ?_; intro w6 hown6 hg6))
   have k6 := k5.grown hg6 (by intro e; injection e with e; omega)
   have hB6 := below_but19 hB5 hg6 hB5.size (by have := HG.out; omega)
   go_ret
   refine ⟨b, 5, rfl, ?_, ?_, hB6⟩
   ·rw [HG.out]; exact hown6
   ·rw [HG.out]; exact k6
end Go.Proofs.YtfifeofmfpjgfaaDoor
