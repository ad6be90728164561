/-
  Layer 12: words for what its calls leave. Layer 12: what a law needs of the program; and the example that each statement asks. Layer 9, the landed keys, walked: whether a code is a text's, and Look. Layer 2: what the callers of the iterator share. Layer 2, walked: All. Layer 10, the landed mods: whether a text may be that of a key's event. Layer 10, the landed mods: Old and Shown.
-/
import Derived.Test.YtmagokkegadmiaaGreatDoorG03
import Derived.Test.YtmagokkegadmiaaGreatDoorG09
import Derived.Test.YtmagokkegadmiaaGreatDoorG12
import Derived.Test.YtmagokkegadmiaaGreatDoorG15
import Derived.Test.YtmagokkegadmiaaGreatDoorG21
import Derived.Test.YtmagokkegadmiaaGreatDoorG26
import Derived.Test.YtmagokkegadmiaaGreatDoorG27
import Derived.Lib.SlBytesConst
import Derived.WalkLawsBesides
import Derived.Laws.BitsLemmas
namespace Go.Proofs.YtmagokkegadmiaaGreatDoor
open Go.RowKit

/-- What a call leaves that tells bytes, and whether there are any. -/
def OutB (L : List UInt8) (n : Nat) (q : Bool) (w : World) (e : Ending) (w' : World) : Prop := ∃ A c, e = .returned (.tuple #[.slice A n c, .bool q]) ∧ Rd w' A (bs L) ∧ Below w.heap.size w w'
/-- The same, with the room. -/
def OutC (L : List UInt8) (n : Nat) (q : Bool) (w : World) (e : Ending) (w' : World) : Prop := ∃ A c, e = .returned (.tuple #[.slice A n c, .bool q]) ∧ n ≤ c ∧ Rd w' A (bs L) ∧ Below w.heap.size w w'
/-- Three numbers, and whether. -/
def BkE (x : Int × Int × Bool) (w : World) (e : Ending) (w' : World) : Prop := e = .returned (.tuple #[.int .i64 x.1, .int .i64 x.2.1, .bool x.2.2]) ∧ Below w.heap.size w w'
theorem BkE.no {x : Int × Int × Bool} (h : x = (0, 0, false)) {w w' : World} (hb : Below w.heap.size w w') : BkE x w (.returned (.tuple #[.int .i64 0, .int .i64 0, .bool false])) w' := by
  subst h
  exact ⟨rfl, hb⟩
theorem BkE.yes {x : Int × Int × Bool} {c p : Int} (h : x = (c, p, true)) {w w' : World} (hb : Below w.heap.size w w') : BkE x w (.returned (.tuple #[.int .i64 c, .int .i64 p, .bool true])) w' := by
  subst h
  exact ⟨rfl, hb⟩
theorem str_bs {w : World} {A : Option Addr} {L : List UInt8} {n c : Nat} (hn : L.length = n) (h : Rd w A (bs L)) : (convert 27 9 (.slice A n c)).run Tryz.prog w = .ok (.string ⟨L.toArray⟩) w :=
  conv_str (P := Tryz.prog) Tryz.underlying27 Tryz.underlying5 hn h _ Tryz.underlying9
theorem rd_lits12 (w : World) (l : List UInt8) (L : Array Value) (t : TypeId) (z : Nat × Nat) (h : bs l = L.toList) : Rd (w.alloc (.cells L t z)) (some ⟨w.heap.size, 0, none⟩) (bs l) :=
  Rd.block (heap_alloc_new w _) (by rw [h]; exact List.take_of_length_le (Nat.le_refl _))
/-- Any key has at most so many bytes. -/
theorem oth_len (o : Int) (k : Ky) : (othL o k).length ≤ 20000 := by
  unfold othL
  split
  · unfold othB seqB
    split
    · exact (may_small (by assumption)).2.2.1
    · simp
  · simp
end Go.Proofs.YtmagokkegadmiaaGreatDoor
namespace Go.Proofs.YtmagokkegadmiaaGreatDoor
open Go.RowKit

structure OthC (Inv : World → Prop) : Prop where
  invB : ∀ {w w' : World}, Inv w → Below w.heap.size w w' → Inv w'
  key : ∀ (m : Mo) (k : Ky) (w : World), Inv w → okK k → k.text.size ≤ 4294967296 → Calls Tryz.prog 9 #[moV m, kyV k] w (OutC (othL m.other k) (othL m.other k).length (isO m.other k) w)
  back : ∀ (A : Option Addr) (n c : Nat) (l : List UInt8) (w : World), Inv w → l.length = n → n ≤ c → n ≤ 4294967 → Rd w A (bs l) → Calls Tryz.prog 11 #[.slice A n c] w (BkE (backO l) w)
variable {Inv : World → Prop}
theorem OthC.key_at (H : OthC Inv) (m : Mo) (k : Ky) {o : Int} (ho : m.other = o) {L : List UInt8} (hL : othL o k = L) {n : Nat} (hn : L.length = n) {q : Bool} (hq : isO o k = q) (hk : okK k) (hs : k.text.size ≤ 4294967296) (w : World) (hi : Inv w) :
    Calls Tryz.prog 9 #[moV m, kyV k] w (OutC L n q w) := by
  subst ho hL hn hq
  exact H.key m k w hi hk hs
theorem OthC.back_at (H : OthC Inv) (A : Option Addr) (c : Nat) (l : List UInt8) {n : Nat} {x y : Int} {q : Bool} (hx : backO l = (x, y, q)) (w : World) (hi : Inv w) (hn : l.length = n) (hc : n ≤ c) (hl : n ≤ 4294967) (hr : Rd w A (bs l)) :
    Calls Tryz.prog 11 #[.slice A n c] w fun e w' => e = .returned (.tuple #[.int .i64 x, .int .i64 y, .bool q]) ∧ Below w.heap.size w w' := by
  have := H.back A n c l w hi hn hc hl hr
  rw [hx] at this
  exact this
theorem in_lit12 {c : Int} (h : (decide (-9223372036854775808 ≤ c) && decide (c ≤ 9223372036854775807)) = true) : in10 c := by
  simpa [in10] using h
theorem ok_lit12 {code mods typ : Int} (h1 : in10 code) (h2 : in10 mods) (h3 : in10 typ) (text : ByteArray) : okK ⟨code, mods, typ, 0, 0, text⟩ := ⟨h1, h2, h3, in_lit12 (c := 0) (by decide), in_lit12 (c := 0) (by decide)⟩
theorem ex_key : othL 2 ⟨105, 4, 1, 0, 0, ByteArray.empty⟩ = [27, 91, 50, 55, 59, 53, 59, 49, 48, 53, 126] ∧ isO 2 ⟨105, 4, 1, 0, 0, ByteArray.empty⟩ = true ∧ othL 1 ⟨105, 4, 1, 0, 0, ByteArray.empty⟩ = [] ∧ isO 1 ⟨105, 4, 1, 0, 0, ByteArray.empty⟩ = false := by decide +kernel
theorem ex_back : backO [27, 91, 50, 55, 59, 53, 59, 49, 48, 53, 126] = (105, 4, true) := by decide +kernel
set_option maxRecDepth 100000 in
set_option maxHeartbeats 8000000 in
theorem othAwake (H : OthC Inv) (w0 : World) (hv0 : Inv w0) : Calls Tryz.prog 8 #[] w0 fun e w' => e = .returned (.bool true) ∧ Below w0.heap.size w0 w' := by
  have kc := fun (w : World) (C : Array Value) (n c : Nat) => Lib.run_convert_bytes_const (P := Tryz.prog) w 27 5 C n c Tryz.underlying27 Tryz.underlying5
  go_enter Tryz.func8, Tryz.ntmps8
  go_wp2_with fail
  refine (H.key_at { mo0 with other := 2 } ⟨105, 4, 1, 0, 0, ByteArray.empty⟩ (o := 2) rfl ex_key.1 (n := 11) rfl ex_key.2.1 (ok_lit12 (in_lit12 (by decide)) (in_lit12 (by decide)) (in_lit12 (by decide)) _) (by decide) _ hv0).mono ?_
  rintro e w1 ⟨A1, c1, rfl, _, hr1, hb1⟩
  have hv1 := H.invB hv0 hb1
  go_wp2_with fail
  have hB2 := hb1.alloc hb1.size (.cells #[.int .u8 27, .int .u8 91, .int .u8 50, .int .u8 55, .int .u8 59, .int .u8 53, .int .u8 59, .int .u8 49, .int .u8 48, .int .u8 53, .int .u8 126] 5 (11, 12))
  have hr2 := hr1.alloc (.cells #[.int .u8 27, .int .u8 91, .int .u8 50, .int .u8 55, .int .u8 59, .int .u8 53, .int .u8 59, .int .u8 49, .int .u8 48, .int .u8 53, .int .u8 126] 5 (11, 12))
  refine (H.back_at _ 11 [27, 91, 50, 55, 59, 53, 59, 49, 48, 53, 126] ex_back _ (H.invB hv0 hB2) rfl (by decide) (by decide) (rd_lits12 w1 _ _ _ _ rfl)).mono ?_
  rintro e w2 ⟨rfl, hb2⟩
  have hB3 := hB2.trans (hb2.mono hB2.size)
  have hr3 := hr2.below hb2
  clear hb1 hr1 hb2 hr2 hB2 hv1
  go_wp2_with fail
  refine (H.key_at { mo0 with other := 1 } ⟨105, 4, 1, 0, 0, ByteArray.empty⟩ (o := 1) rfl ex_key.2.2.1 (n := 0) rfl ex_key.2.2.2 (ok_lit12 (in_lit12 (by decide)) (in_lit12 (by decide)) (in_lit12 (by decide)) _) (by decide) _ (H.invB hv0 hB3)).mono ?_
  rintro e w3 ⟨A3, c3, rfl, _, hr4, hb3⟩
  have s1 := str_bs (n := 11) (c := c1) rfl (hr3.below hb3)
  have hB4 := hB3.trans (hb3.mono hB3.size)
  clear hr3 hr4 hb3 hB3
  go_wp2_with fail
  go_ret
  exact ⟨rfl, hB4⟩
end Go.Proofs.YtmagokkegadmiaaGreatDoor
namespace Go.Proofs.YtmagokkegadmiaaGreatDoor
open Go.RowKit

theorem isPtK_eq (c : Int) : isPtK c = isPt c := by
  cases h : isPt c with
  | true => exact decide_eq_true (by have := (isPt_iff c).1 h; omega)
  | false => exact decide_eq_false (by have := (isPt_no c).1 h; omega)
theorem put_len (c : Int) : decide (0 < ((putL c).length : Int)) = isPtK c := by
  rw [isPtK_eq]
  cases h : isPt c with
  | true =>
    have := (cnt_bd c).1
    rw [putL_length h]
    exact decide_eq_true (by omega)
  | false => rw [putL_no h]; rfl
theorem txK_no {c : Int} (h : c < 32 ∨ (127 ≤ c ∧ c ≤ 159) ∨ (57344 ≤ c ∧ c ≤ 63743)) : txK c = false := by
  unfold txK
  rcases h with h | h | h <;> simp [h]
theorem txK_is {c : Int} (h : ¬ (c < 32 ∨ (127 ≤ c ∧ c ≤ 159) ∨ (57344 ≤ c ∧ c ≤ 63743))) : txK c = isPtK c := by
  unfold txK
  rw [show decide (c < 32) = false from decide_eq_false (by omega), show (decide (127 ≤ c) && decide (c ≤ 159)) = false by simp; omega, show (decide (57344 ≤ c) && decide (c ≤ 63743)) = false by simp; omega]
  rfl
set_option maxRecDepth 100000 in
set_option maxHeartbeats 4000000 in
theorem isText_any (c : Int) (w : World) (hs : Siz w) : Calls Tryz.prog 36 #[.int .i64 c] w fun e w' => e = .returned (.bool (txK c)) ∧ Below w.heap.size w w' := by
  have HP := Lib.hid (Put_any c w hs)
  have HL := Lib.hid (put_len c)
  by_cases h1 : c < 32
  · have E := Lib.hid (txK_no (.inl h1))
    go_enter Tryz.func36, Tryz.ntmps36
    go_wp2_with fail
    go_ret
    exact ⟨ret_b E.out.symm, Below.refl _ _⟩
  by_cases h2 : c < 127
  · have E := Lib.hid (txK_is (c := c) (by omega))
    have j1 : 32 ≤ c := by omega
    clear h1
    go_enter Tryz.func36, Tryz.ntmps36
    go_wp2_with fail
    refine HP.out.mono ?_
    rintro e w1 ⟨A, cp, rfl, _, hb⟩
    have hl := HL.out
    go_wp2_with fail
    go_ret
    exact ⟨ret_b (by rw [E.out, ← hl]; simp [show ¬ c < 32 by omega]), hb⟩
  by_cases h3 : c ≤ 159
  · have E := Lib.hid (txK_no (c := c) (.inr (.inl ⟨by omega, h3⟩)))
    have j1 : 32 ≤ c := by omega
    have j2 : 127 ≤ c := by omega
    clear h1 h2
    go_enter Tryz.func36, Tryz.ntmps36
    go_wp2_with fail
    go_ret
    exact ⟨ret_b E.out.symm, Below.refl _ _⟩
  by_cases h4 : c < 57344
  · have E := Lib.hid (txK_is (c := c) (by omega))
    have j1 : 32 ≤ c := by omega
    have j2 : 127 ≤ c := by omega
    have j3 : 159 < c := by omega
    clear h1 h2 h3
    go_enter Tryz.func36, Tryz.ntmps36
    go_wp2_with fail
    refine HP.out.mono ?_
    rintro e w1 ⟨A, cp, rfl, _, hb⟩
    have hl := HL.out
    go_wp2_with fail
    go_ret
    exact ⟨ret_b (by rw [E.out, ← hl]; simp [show ¬ c < 32 by omega, show ¬ c ≤ 159 by omega]), hb⟩
  have j1 : 32 ≤ c := by omega
  have j2 : 127 ≤ c := by omega
  have j3 : 159 < c := by omega
  have j4 : 57344 ≤ c := by omega
  by_cases h5 : c ≤ 63743
  · have E := Lib.hid (txK_no (c := c) (.inr (.inr ⟨j4, h5⟩)))
    clear h1 h2 h3 h4
    go_enter Tryz.func36, Tryz.ntmps36
    go_wp2_with fail
    go_ret
    exact ⟨ret_b E.out.symm, Below.refl _ _⟩
  · have E := Lib.hid (txK_is (c := c) (by omega))
    have j5 : 63743 < c := by omega
    clear h1 h2 h3 h4 h5
    go_enter Tryz.func36, Tryz.ntmps36
    go_wp2_with fail
    refine HP.out.mono ?_
    rintro e w1 ⟨A, cp, rfl, _, hb⟩
    have hl := HL.out
    go_wp2_with fail
    go_ret
    exact ⟨ret_b (by rw [E.out, ← hl]; simp [show ¬ c < 32 by omega, show ¬ c ≤ 159 by omega, show ¬ c ≤ 63743 by omega]), hb⟩

/-- A row's entry, of a code of the row. -/
theorem entry_ro (r : Ro) (hr : r ∈ roL) (a : Nat) (c : Int) (hc : c = r.first + (a : Int)) (hc2 : c ≤ r.last) (A : Option Addr) (cp : Nat) (w : World) (hR : Rd w A (is_ r.nums)) :
    Calls Tryz.prog 35 #[.agg #[.int .i64 r.first, .int .i64 r.last, .int .i64 r.kind, .string ⟨r.finals.toArray⟩, .slice A r.nums.length cp, .string ⟨r.chars.toArray⟩, .bool r.keys], .int .i64 c] w fun e w' => e = .returned (enV (entK r a)) ∧ Below w.heap.size w w' := by
  obtain ⟨⟨b1, b2, b3⟩, b4, b5, b6⟩ := ro_bd r hr
  subst hc
  refine (entry_any r.first r.last r.kind ⟨r.finals.toArray⟩ r.nums r.nums.length rfl ⟨r.chars.toArray⟩ r.keys A cp a (by omega) b1 (by omega) b4 b5 b6 w hR).mono ?_
  rintro e w' ⟨rfl, hb⟩
  refine ⟨?_, hb⟩
  rw [sbK_eq, sbK_eq]
  rfl
end Go.Proofs.YtmagokkegadmiaaGreatDoor
namespace Go.Proofs.YtmagokkegadmiaaGreatDoor
open Go.RowKit Go.Shelf
attribute [local go_sem] Oper.semAt_some

theorem kp2_t {n₁ B : Nat} {X Y Z : World} (h : Kp2 n₁ B X Y) (k : Kp2 n₁ B Y Z) : Kp2 n₁ B X Z := ⟨h.1.trans k.1, k.2.trans h.2⟩
theorem kp2_b {n₁ B : Nat} {w : World} (hn : n₁ ≤ w.heap.size) (hB : B < w.heap.size) (W : World) (l : Nat) (o o' : Obj) (hl : w.heap.size ≤ l) (h : W.heap[l]? = some o) (hc : o.isCells = false) (hw : o.isWalk = false) : Kp2 n₁ B W (W.putObj l o') :=
  ⟨belowK_b hn W l o o' hl h hc hw, World.putObj_heap_other (by omega)⟩
theorem kp2_refl (n₁ B : Nat) (w : World) : Kp2 n₁ B w w := ⟨Below.refl _ _, rfl⟩

/-- What points tells is told to every loop. -/
theorem pts_stops (n : Nat) (hn : 1 ≤ n) (Bs n₁ c : Nat) (A : Option Addr) (t : List UInt8) (ht : t.length ≤ 4294967296) (htc : t.length ≤ c) (hg0 : 1 < n₁) (w : World) (hn₁ : n₁ ≤ w.heap.size)
    (hbox : Blk w Bs 27 #[.slice A t.length c]) (hs : Siz w) (hr : RdIn n₁ w A (bs t)) :
    SeqStopsK Fence.wide n Tryz.prog 113 #[.pointer (some ⟨Bs, 0, none⟩)] (fun x : Int × Bool => #[.int .i64 x.1, .bool x.2]) (Kp2 n₁ Bs) (fun ys => ys = ptsL t) (fun pre => pre <+: ptsL t) (ptsL t).length w := fun l J Jx W hW hJ _ hY h0 =>
  pts1_in n hn l Bs n₁ W.heap.size c A t ht htc hg0 J Jx hJ hY W (hbox.below hW hbox.lt) (hs.below' hW) (hr.below (hW.mono hn₁)) (Nat.le_trans hn₁ hW.size) h0

theorem all_false {p q : List (Int × Bool)} (h : p <+: q) {y : Int × Bool} (hy : y ∈ p) (h2 : y.2 = false) : q.all (·.2) = false := by
  rw [List.all_eq_false]
  exact ⟨y, h.subset hy, by simp [h2]⟩
theorem allL_none {t : List UInt8} (h : (ptsL t).all (·.2) = false) : allL t = none := by unfold allL allOf; rw [h]; rfl
theorem allL_some {t : List UInt8} (h : ∀ y ∈ ptsL t, y.2 = true) : allL t = some ((ptsL t).map (·.1)) := by
  unfold allL allOf
  rw [if_pos (List.all_eq_true.2 h)]
end Go.Proofs.YtmagokkegadmiaaGreatDoor
namespace Go.Proofs.YtmagokkegadmiaaGreatDoor
open Go.RowKit Go.Shelf
attribute [local go_sem] Oper.semAt_some

set_option maxRecDepth 100000 in
set_option maxHeartbeats 4000000 in
theorem all_any (A : Option Addr) (c : Nat) (t : List UInt8) (w : World) (hs : Siz w) (ht : t.length ≤ 4294967296) (htc : t.length ≤ c) (hr : Rd w A (bs t)) :
    Calls Tryz.prog 88 #[.slice A t.length c] w (Al (allL t) w) := by
  obtain ⟨i0, hi, hz0, hz1, hz2⟩ := info_parts Tryz.intinfo
  have hg0 : 1 < w.heap.size := by obtain ⟨_, _, hh⟩ := hs; exact (Array.getElem?_eq_some_iff.1 hh).1
  have hpl := ptsL_le t
  refine (callsIn_wide (n := 3)).1 ?_
  refine callsIn_of_wp_marks Tryz.func88 rfl trivial ?_ rfl
  simp only [Tryz.ntmps88, List.size_toArray, List.length_cons, List.length_nil, Nat.reduceAdd, Nat.reduceSub, Array.replicate_succ, Array.replicate_zero, List.push_toArray, List.append_toArray, List.nil_append, List.cons_append]
  gi_wp2_with fail
  refine ⟨trivial, ?_⟩
  gi_at_call 105
  refine (callsIn_wide.2 (points_any A t.length c _)).mono ?_
  rintro e w1 ⟨rfl, rfl⟩
  gi_wp2_with fail
  have r0 := Boxed.new w 56 (.slice none 0 0)
  have r1 := Boxed.new (w.alloc (.cells #[.slice none 0 0] 56)) 4 (.bool false)
  have r2 := Boxed.new ((w.alloc (.cells #[.slice none 0 0] 56)).alloc (.cells #[.bool false] 4)) 56 (.slice none 0 0)
  have bx := Blk.new (((w.alloc (.cells #[.slice none 0 0] 56)).alloc (.cells #[.bool false] 4)).alloc (.cells #[.slice none 0 0] 56)) 27 #[.slice A t.length c]
  simp only [World.size_alloc] at r1 r2 bx
  have hB0 : Below w.heap.size w ((((w.alloc (.cells #[.slice none 0 0] 56)).alloc (.cells #[.bool false] 4)).alloc (.cells #[.slice none 0 0] 56)).alloc (.cells #[.slice A t.length c] 27)) :=
    ((((Below.refl _ w).alloc (Nat.le_refl _) _).alloc (by simp) _).alloc (by simp; omega) _).alloc (by simp; omega) _
  refine wpIn_rangeFunc_ownG rfl (by omega) (gf := 113) (lb := #[.pointer (some ⟨w.heap.size + 1 + 1 + 1, 0, none⟩)]) rfl trivial (enters_of Tryz.func113 (by kernel_rfl) rfl)
    (pts_stops 2 (by omega) (w.heap.size + 1 + 1 + 1) w.heap.size c A t ht htc hg0 _ (by simp; omega) bx (hs.below' hB0) ((RdIn.of hr).below hB0)) kp2_t (kp2_b (by simp; omega) (by simp)) (Below.refl _ _) (fun _ => rfl)
    (fun (pre : List (Int × Bool)) W => (((((∃ v, Boxed W (w.heap.size + 1 + 1) 56 v ∧ W.ownsRow w.heap.size 3 1 v pre.length (is_ (pre.map (·.1))) ∧ True) ∧ Boxed W w.heap.size 56 (.slice none 0 0)) ∧ Boxed W (w.heap.size + 1) 4 (.bool false)) ∧ Boxed W (w.heap.size + 1 + 1 + 1) 27 (.slice A t.length c)) ∧ (∀ y ∈ pre, y.2 = true)) ∧ Below w.heap.size w W)
    (fun j (pre : List (Int × Bool)) W => ((Boxed W w.heap.size 56 (.slice none 0 0) ∧ Boxed W (w.heap.size + 1) 4 (.bool false)) ∧ (j = .ret ∧ ∃ y ∈ pre, y.2 = false)) ∧ Below w.heap.size w W)
    (OwnFrom.and (OwnFrom.and (OwnFrom.and (OwnFrom.and (OwnFrom.and (Go.Own.from (holdsRow_own w.heap.size (w.heap.size + 1 + 1) 56 3 1 (fun pre : List (Int × Bool) => pre.length) (fun pre => is_ (pre.map (·.1))) (fun _ _ => True)) _) (Go.Own.from (boxed_own w.heap.size 56 fun _ => .slice none 0 0) _)) (Go.Own.from (boxed_own (w.heap.size + 1) 4 fun _ => .bool false) _)) (Go.Own.from (boxed_own (w.heap.size + 1 + 1 + 1) 27 fun _ => .slice A t.length c) _)) (ownFrom_pure _ fun (pre : List (Int × Bool)) => ∀ y ∈ pre, y.2 = true)) (ownFrom_below (Nat.le_refl _) (by simp; omega)))
    (fun j => OwnFrom.and (OwnFrom.and (OwnFrom.and (Go.Own.from (boxed_own w.heap.size 56 fun _ => .slice none 0 0) _) (Go.Own.from (boxed_own (w.heap.size + 1) 4 fun _ => .bool false) _)) (ownFrom_pure _ fun (pre : List (Int × Bool)) => j = .ret ∧ ∃ y ∈ pre, y.2 = false)) (ownFrom_below (Nat.le_refl _) (by simp; omega)))
    ⟨⟨⟨⟨⟨⟨_, r2.alloc _, World.ownsRow_nil _ _ _ _, trivial⟩, ((r0.alloc _).alloc _).alloc _⟩, (r1.alloc _).alloc _⟩, bx⟩, by simp⟩, hB0⟩
    (fun x => { tmps := #[.slice A t.length c, undef, .pointer (some ⟨w.heap.size, 0, none⟩), .pointer (some ⟨w.heap.size + 1, 0, none⟩), .pointer (some ⟨w.heap.size + 1 + 1, 0, none⟩), .int .i64 x.1, .bool x.2, .slice A t.length c, .func (.func 113) #[] #[.pointer (some ⟨w.heap.size + 1 + 1 + 1, 0, none⟩)], .int .i64 x.1, .bool x.2, undef, undef, undef, undef, undef, undef, undef], defers := [] }) ?assign ?body ?done ?stop
  case assign =>
    intro l x W K hK
    gi_wp2
    exact hK
  case body =>
    rintro l pre ⟨r, ok⟩ W ⟨⟨⟨⟨⟨⟨v, hv, hrow, _⟩, b0⟩, b1⟩, b3⟩, hall⟩, hB⟩ hlt
    have hc := hv.cell
    have c0 := b0.cell
    have f0 := b0.frozen
    have c1 := b1.cell
    have f1 := b1.frozen
    cases ok with
    | true =>
      have h63 : pre.length + 1 ≤ maxLen := by simp only [maxLen]; omega
      have hlim : (pre.length + 1) * 8 ≤ 140737488355328 := by omega
      gi_wp2_with (gi_at_builtin; refine wpListIn_append_own _ rfl _ _ 56 rfl w.heap.size 3 i0 (.int .i64 0) 1 8 Tryz.underlying56 hi hz0 hz1 hz2 rfl (by decide) _ _ _ rfl (hrow.alloc _) ⟨W.heap.size, 0, none⟩ 1 1 [.int .i64 r] rfl rfl (cell_one_new _ _ _) (by simp [Value.oneCell']) h63 hlim (by have := hB.size; simp; omega) ?_; intro v' w1 hown' hgrow _; obtain ⟨g', cap', rfl⟩ := ownsRow_succ hown'; obtain ⟨hv1, hv2, hr2, hk2, hb2⟩ := hv.appended (by decide) hrow hB.size (by omega) hown' hgrow; have hc1 := hv1.cell; have hf1 := hv1.frozen)
      have d0 : Boxed (w1.setCell ⟨w.heap.size + 1 + 1, 0, none⟩ (.slice (some ⟨g', 0, none⟩) (pre.length + 1) cap')) w.heap.size 56 (.slice none 0 0) := ((b0.alloc _).kept hgrow (b0.not_row (by decide) hrow)).other (by omega) _
      have d1 : Boxed (w1.setCell ⟨w.heap.size + 1 + 1, 0, none⟩ (.slice (some ⟨g', 0, none⟩) (pre.length + 1) cap')) (w.heap.size + 1) 4 (.bool false) := ((b1.alloc _).kept hgrow (b1.not_row (by decide) hrow)).other (by omega) _
      have d3 : Boxed (w1.setCell ⟨w.heap.size + 1 + 1, 0, none⟩ (.slice (some ⟨g', 0, none⟩) (pre.length + 1) cap')) (w.heap.size + 1 + 1 + 1) 27 (.slice A t.length c) := ((b3.alloc _).kept hgrow (b3.not_row (by decide) hrow)).other (by omega) _
      refine ⟨hk2.from _, ⟨hb2, Eq.trans d3 (Eq.symm b3)⟩, ⟨⟨⟨⟨⟨_, hv2, ?_, trivial⟩, d0⟩, d1⟩, d3⟩, fun y hy => (List.mem_append.1 hy).elim (hall y) (fun e => by simp at e; subst e; rfl)⟩, hB.trans hb2⟩
      simpa [is_] using hr2
    | false =>
      gi_wp2
      exact ⟨((KeepsOthers.setCell _ _ _).trans (KeepsOthers.setCell _ _ _)).from _, ⟨⟨(Boxed.set _ b0).other (by omega) _, Boxed.set _ (b1.other (by omega) _)⟩, rfl, ⟨(r, false), by simp, rfl⟩⟩, (hB.setCell (p := ⟨w.heap.size, 0, none⟩) (Nat.le_refl _) _).setCell (p := ⟨w.heap.size + 1, 0, none⟩) (by simp) _⟩
  case done =>
    rintro D ys W hD rfl ⟨⟨⟨⟨⟨⟨v, hv, hrow, _⟩, b0⟩, b1⟩, b3⟩, hall⟩, hB⟩ hK
    have E := Lib.hid (allL_some hall)
    obtain ⟨A2, c2, rfl, _⟩ := own_form hrow
    have hc := hv.cell
    have c0 := b0.cell
    have f0 := b0.frozen
    have c1 := b1.cell
    have f1 := b1.frozen
    gi_wp2
    have hK' := ((KeepsOthers.setCell W ⟨w.heap.size, 0, none⟩ (.slice A2 (ptsL t).length c2)).trans (KeepsOthers.setCell _ ⟨w.heap.size + 1, 0, none⟩ (.bool true))).same D _ hK rfl
    refine ⟨by simp, .inl ⟨_, _, rfl, run_takeDeferred hK', ?_⟩⟩
    have e0 : Boxed ((W.setCell ⟨w.heap.size, 0, none⟩ (.slice A2 (ptsL t).length c2)).setCell ⟨w.heap.size + 1, 0, none⟩ (.bool true)) w.heap.size 56 (.slice A2 (ptsL t).length c2) := (Boxed.set _ b0).other (by omega) _
    have e1 : Boxed ((W.setCell ⟨w.heap.size, 0, none⟩ (.slice A2 (ptsL t).length c2)).setCell ⟨w.heap.size + 1, 0, none⟩ (.bool true)) (w.heap.size + 1) 4 (.bool true) := Boxed.set _ (b1.other (by omega) _)
    have hr1 := (hrow.kept (grownBy_setCell' W w.heap.size (.slice A2 (ptsL t).length c2)) (.inr (b0.not_row (by decide) hrow).symm))
    have hr2 := hr1.kept (grownBy_setCell' _ (w.heap.size + 1) (.bool true)) (.inr ((b1.other (B' := w.heap.size) (by omega) _).not_row (by decide) hr1).symm)
    have hr3 := ownsRow_putObj hr2 (.deferred none) hK' rfl
    have hc5 := cell_kept e0.cell (grownBy_putObj' _ D (.deferred none)) (fun r e => by cases e; exact ⟨_, hK', rfl⟩)
    have hc6 := cell_kept e1.cell (grownBy_putObj' _ D (.deferred none)) (fun r e => by cases e; exact ⟨_, hK', rfl⟩)
    refine ⟨.tuple #[.slice A2 (ptsL t).length c2, .bool true], ?_, Al.yes E.out (by simp) (Own.of hr3).rd (((hB.setCell (p := ⟨w.heap.size, 0, none⟩) (Nat.le_refl _) _).setCell (p := ⟨w.heap.size + 1, 0, none⟩) (by simp) _).trans (belowK_b (w := w) (Nat.le_refl _) _ D _ _ (by simp at hD; omega) hK' rfl rfl))⟩
    simp [results, Tryz.f88, go_sem, hc5, hc6]
  case stop =>
    rintro D j pre W hD hpre ⟨⟨⟨b0, b1⟩, rfl, ⟨y, hy, hy2⟩⟩, hB⟩ hK
    have E := Lib.hid (allL_none (all_false hpre hy hy2))
    gi_wp2
    refine ⟨by simp, .inl ⟨_, _, rfl, run_takeDeferred hK, ?_⟩⟩
    have hc5 := cell_kept b0.cell (grownBy_putObj' _ D (.deferred none)) (fun r e => by cases e; exact ⟨_, hK, rfl⟩)
    have hc6 := cell_kept b1.cell (grownBy_putObj' _ D (.deferred none)) (fun r e => by cases e; exact ⟨_, hK, rfl⟩)
    refine ⟨.tuple #[.slice none 0 0, .bool false], ?_, Al.no E.out (hB.trans (belowK_b (w := w) (Nat.le_refl _) W D _ _ (by simp at hD; omega) hK rfl rfl))⟩
    simp [results, Tryz.f88, go_sem, hc5, hc6]
end Go.Proofs.YtmagokkegadmiaaGreatDoor
namespace Go.Proofs.YtmagokkegadmiaaGreatDoor
open Go.RowKit

/-- A control character. -/
def ctl (r : Int) : Bool := decide (r < 32) || decide (127 ≤ r) && decide (r ≤ 159)
theorem clean_any (ks : List Int) : cleanP ks = !(ks.any ctl) := by
  unfold cleanP
  rw [List.not_any_eq_all_not]
  rfl
/-- What has more than 32 bytes has more than 8 code points. -/
theorem clean_long {l : List UInt8} (h : 32 < l.length) : cleanL l = false := by
  unfold cleanL
  cases ho : allL l with
  | none => rfl
  | some ks =>
    obtain ⟨_, h2⟩ := text_all_n l.length l (Nat.le_refl _) ks ho
    have h3 := catL_length ks
    rw [h2] at h3
    show (decide (ks.length ≤ 8) && cleanP ks) = false
    rw [decide_eq_false (by omega), Bool.false_and]

set_option maxRecDepth 100000 in
set_option maxHeartbeats 4000000 in
theorem ctl_any (r : Int) (w : World) : Calls Tryz.prog 89 #[.int .i64 r] w fun e w' => e = .returned (.bool (ctl r)) ∧ Below w.heap.size w w' := by
  obtain ⟨R, hR⟩ : ∃ R, ctl r = R := ⟨_, rfl⟩
  rw [hR]
  have HC := Lib.hid hR
  clear hR
  by_cases h1 : r < 32
  · have HF := Lib.hid (show true = R by rw [← HC.out]; simp [ctl, h1])
    go_enter Tryz.func89, Tryz.ntmps89
    go_wp2_with fail
    go_ret
    exact ⟨ret_b HF.out, Below.refl _ _⟩
  · by_cases h2 : 127 ≤ r
    · by_cases h3 : r ≤ 159
      · have HF := Lib.hid (show true = R by rw [← HC.out]; simp [ctl, h1, h2, h3])
        go_enter Tryz.func89, Tryz.ntmps89
        go_wp2_with fail
        go_ret
        exact ⟨ret_b HF.out, Below.refl _ _⟩
      · have HF := Lib.hid (show false = R by rw [← HC.out]; simp [ctl, h1, h3])
        go_enter Tryz.func89, Tryz.ntmps89
        go_wp2_with fail
        go_ret
        exact ⟨ret_b HF.out, Below.refl _ _⟩
    · have HF := Lib.hid (show false = R by rw [← HC.out]; simp [ctl, h1, h2])
      go_enter Tryz.func89, Tryz.ntmps89
      go_wp2_with fail
      go_ret
      exact ⟨ret_b HF.out, Below.refl _ _⟩

set_option maxRecDepth 100000 in
set_option maxHeartbeats 4000000 in
theorem idxf_any (A : Option Addr) (c : Nat) (l : List Int) (w : World) (hl : l.length ≤ 4294967296) (hr : Rd w A (is_ l)) :
    Calls Tryz.prog 106 #[.slice A l.length c, .func (.func 89) #[] #[]] w fun e w' => (∃ i : Int, e = .returned (.int .i64 i) ∧ decide (0 ≤ i) = l.any ctl ∧ -1 ≤ i ∧ i ≤ 4294967296) ∧ Below w.heap.size w w' := by
  obtain ⟨n, hn⟩ : ∃ n, l.length = n := ⟨_, rfl⟩
  have HN := Lib.hid hn
  rw [hn] at hl ⊢
  clear hn
  go_enter Tryz.func106, Tryz.ntmps106
  go_wp2
  go_loopw [5, 8] (fun _ z wr => ∃ i : Nat, i ≤ n ∧ z = .int .i64 i ∧ (l.take i).any ctl = false ∧ Below w.heap.size w wr) (fun _ z _ => n - (intOf z).toNat)
  case atStart => exact ⟨0, Nat.zero_le _, rfl, rfl, Below.refl _ _⟩
  case round =>
    obtain ⟨i, hi, rfl, hcl, hbw⟩ := hrel
    have HCL := Lib.hid hcl
    clear hcl
    by_cases hlt : i < n
    · have hil : i < l.length := by rw [HN.out]; exact hlt
      obtain ⟨b, o, rfl, hbl, hcc⟩ := (hr.below hbw).int_at (by omega)
      have hci := hcc i hil
      have HS := Lib.hid (List.take_succ_eq_append_getElem hil)
      have HM := Lib.hid (List.getElem_mem hil)
      obtain ⟨x, hx⟩ : ∃ x, l[i]'hil = x := ⟨_, rfl⟩
      rw [hx] at hci HS HM
      have g0 : (0 : Int) ≤ (i : Int) := by omega
      have g1 : (i : Int) < (n : Int) := by omega
      clear hcc hx
      obtain ⟨q, hq⟩ : ∃ q, ctl x = q := ⟨_, rfl⟩
      have hcall : ∀ W : World, Calls Tryz.prog 89 #[.int .i64 x] W fun e w' => e = .returned (.bool q) ∧ Below W.heap.size W w' := fun W => by rw [← hq]; exact ctl_any x W
      have HQ := Lib.hid hq
      clear hq
      go_wp2_with fail
      refine (hcall _).mono ?_
      rintro e w2 ⟨rfl, hb2⟩
      have hB2 := hbw.trans (hb2.mono hbw.size)
      clear hcall hb2
      cases q with
      | true =>
        go_wp2_with fail
        go_ret
        refine ⟨⟨_, rfl, ?_, by omega, by omega⟩, hB2⟩
        rw [decide_eq_true g0]
        exact (List.any_eq_true.2 ⟨x, HM.out, HQ.out⟩).symm
      | false =>
        go_wp2_with fail
        go_roundw
        case rel => exact ⟨i + 1, by omega, by go_num, by rw [HS.out, List.any_append, HCL.out]; simp [HQ.out], hB2⟩
        case measure => simp [intOf]; omega
    · have HE := Lib.hid (show l.any ctl = false by
        have h1 := HCL.out
        have h2 := HN.out
        rwa [List.take_of_length_le (by omega)] at h1)
      go_wp2_with fail
      go_ret
      exact ⟨⟨_, rfl, by rw [HE.out]; rfl, by decide, by decide⟩, hbw⟩
theorem has_any (A : Option Addr) (n c : Nat) (l : List Int) (hn : l.length = n) (q : Bool) (hq : l.any ctl = q) (w : World) (hl : n ≤ 4294967296) (hr : Rd w A (is_ l)) :
    Calls Tryz.prog 90 #[.slice A n c, .func (.func 89) #[] #[]] w fun e w' => e = .returned (.bool q) ∧ Below w.heap.size w w' := by
  have hcall := idxf_any A c l w (by omega) hr
  rw [hn, hq] at hcall
  clear hq hn
  go_enter Tryz.func90, Tryz.ntmps90
  go_wp2_with fail
  refine hcall.mono ?_
  clear hcall
  rintro e w1 ⟨⟨i, rfl, hd, h1, h2⟩, hb1⟩
  have HD := Lib.hid hd
  clear hd
  go_wp2_with fail
  go_ret
  exact ⟨ret_b HD.out, hb1⟩

set_option maxRecDepth 100000 in
set_option maxHeartbeats 8000000 in
theorem pkeytext_any (s : ByteArray) (hs : s.size ≤ 4294967296) (w : World) (hz : Siz w) : Calls Tryz.prog 63 #[.string s] w fun e w' => e = .returned (.bool (cleanB s)) ∧ Below w.heap.size w w' := by
  have hms : s.size ≤ maxLen := by simp only [maxLen]; omega
  have hlen : s.data.toList.length = s.size := Array.length_toList
  obtain ⟨R, hR⟩ : ∃ R, cleanB s = R := ⟨_, rfl⟩
  by_cases h32 : 32 < s.size
  · have HF := Lib.hid (show false = R by rw [← hR]; exact (clean_long (by omega)).symm)
    rw [hR]
    have t1 : decide (32 < (s.size : Int)) = true := decide_eq_true (by omega)
    clear hR hlen
    go_enter Tryz.func63, Tryz.ntmps63
    go_wp2_with fail
    go_ret
    exact ⟨ret_b HF.out, Below.refl _ _⟩
  obtain ⟨o, ho⟩ : ∃ o, allL s.data.toList = o := ⟨_, rfl⟩
  have HC := Lib.hid (show cleanO o = R by rw [← hR, ← ho]; rfl)
  obtain ⟨l, hl⟩ : ∃ l, s.data.toList = l := ⟨_, rfl⟩
  rw [hl] at hlen ho
  have HL := Lib.hid hl
  have HO := Lib.hid ho
  have HLN := Lib.hid hlen
  rw [hR]
  have HSZ := Lib.hid hs
  have t1 : decide (32 < (s.size : Int)) = false := decide_eq_false (by omega)
  clear hR hl ho hlen hs h32
  go_enter Tryz.func63, Tryz.ntmps63
  go_wp2_with (first
    | ((with_reducible refine list_conv _ rfl (.tmp 10) 9 27 rfl w.heap.size 5 s ?_ Tryz.underlying9 Tryz.underlying27 Tryz.underlying5 hms (Nat.le_refl _) ?_); rfl; intro v1 w1 own1 hg1; obtain ⟨A1, c1, rfl, hr1⟩ := own1.form; have hc1 := own1.capT; have hB1 := below_none hg1; clear hg1))
  rw [HL.out] at hr1
  have hall := all_any A1 c1 l w1 (hz.below' hB1) (by rw [HLN.out]; exact HSZ.out) (by rw [HLN.out]; exact hc1) hr1
  rw [HLN.out, HO.out] at hall
  refine hall.mono ?_
  clear hall hr1 own1
  intro e w2 hA
  cases o with
  | none =>
    obtain ⟨rfl, hb2⟩ := hA
    have hB2 := hB1.trans (hb2.mono hB1.size)
    have HCF := Lib.hid (show false = R from HC.out)
    go_wp2_with fail
    go_ret
    exact ⟨ret_b HCF.out, hB2⟩
  | some ks =>
    have HCT := Lib.hid (show (decide (ks.length ≤ 8) && cleanP ks) = R from HC.out)
    clear HC
    obtain ⟨A2, c2, rfl, hr2, hb2⟩ := hA
    have hB2 := hB1.trans (hb2.mono hB1.size)
    clear hB1 hb2
    by_cases h8 : 8 < ks.length
    · have t2 : decide ((ks.length : Int) ≤ 8) = false := decide_eq_false (by omega)
      have HE := Lib.hid (show decide (ks.length ≤ 8) = false from decide_eq_false (by omega))
      go_wp2_with fail
      go_ret
      exact ⟨ret_b (by rw [← HCT.out, HE.out]; rfl), hB2⟩
    · have t2 : decide ((ks.length : Int) ≤ 8) = true := decide_eq_true (by omega)
      have HE := Lib.hid (show decide (ks.length ≤ 8) = true from decide_eq_true (by omega))
      obtain ⟨q, hq⟩ : ∃ q, ks.any ctl = q := ⟨_, rfl⟩
      have HQ := Lib.hid (show (!q) = R by rw [← HCT.out, HE.out, Bool.true_and, clean_any, hq])
      have hcall := has_any A2 ks.length c2 ks rfl q hq w2 (by omega) hr2
      obtain ⟨n, hn⟩ : ∃ n, ks.length = n := ⟨_, rfl⟩
      rw [hn] at t2 hcall ⊢
      clear hn h8 hq HE
      go_wp2_with fail
      refine hcall.mono ?_
      clear hcall
      rintro e w3 ⟨rfl, hb3⟩
      have hB3 := hB2.trans (hb3.mono hB2.size)
      cases q with
      | true =>
        have HF := Lib.hid (show false = R from HQ.out)
        go_wp2_with fail
        go_ret
        exact ⟨ret_b HF.out, hB3⟩
      | false =>
        have HF := Lib.hid (show true = R from HQ.out)
        go_wp2_with fail
        go_ret
        exact ⟨ret_b HF.out, hB3⟩
end Go.Proofs.YtmagokkegadmiaaGreatDoor
namespace Go.Proofs.YtmagokkegadmiaaGreatDoor
open Go.RowKit

theorem mask7 {x : Int} (h0 : 0 ≤ x) (h1 : x ≤ 9223372036854775807) : bits .and .i64 x 7 = x % 8 :=
  bits_mask .i64 63 (by decide) (fun n a b => by rw [IntKind.wrap_i64]; omega) 3 (by decide) x h0 (by omega)
theorem mask1 {x : Int} (h0 : 0 ≤ x) (h1 : x ≤ 9223372036854775807) : bits .and .i64 x 1 = x % 2 :=
  bits_mask .i64 63 (by decide) (fun n a b => by rw [IntKind.wrap_i64]; omega) 1 (by decide) x h0 (by omega)
set_option maxRecDepth 100000 in
theorem pold_any (n : Int) (w : World) (hn : in10 n) : Calls Tryz.prog 30 #[.int .i64 n] w fun e w' => e = .returned (.int .i64 (oldN n)) ∧ Below w.heap.size w w' := by
  obtain ⟨N, hN⟩ : ∃ N, max n 0 = N := ⟨_, rfl⟩
  have hmax := max0 n N hN (P := Tryz.prog)
  obtain ⟨F, hF⟩ : ∃ F, oldN n = F := ⟨_, rfl⟩
  have hm : bits .and .i64 N 7 = F := by
    have h2 := hn.2
    rw [mask7 (by omega) (by omega), ← hF, ← hN]
    rfl
  rw [hF]
  clear hF hN hn
  go_enter Tryz.func30, Tryz.ntmps30
  go_wp2
  go_ret
  exact ⟨rfl, by first | exact Below.refl _ _ | exact below_drewN (Below.refl _ _) _⟩
set_option maxRecDepth 100000 in
set_option maxHeartbeats 4000000 in
theorem pshown_any (k : Ky) (hk : okK k) (w : World) : Calls Tryz.prog 38 #[kyV k] w fun e w' => e = .returned (.int .i64 (shownK k)) ∧ Below w.heap.size w w' := by
  have hB := ky_box w k
  have hold := pold_any k.mods (w.alloc (.cells (kyC k) 25)) hk.mods
  have k0 := Blk.new w 25 (kyC k)
  have hsh : shownK k = if hasN k.mods 1 = false then k.code else if k.shift ≠ 0 then k.shift else if 97 ≤ k.code ∧ k.code ≤ 122 then k.code - 32 else k.code := rfl
  obtain ⟨F, hF⟩ : ∃ F, oldN k.mods = F := ⟨_, rfl⟩
  have hr : 0 ≤ F ∧ F < 8 := by rw [← hF]; unfold oldN; omega
  obtain ⟨N, hN⟩ : ∃ N, bits .and .i64 F 1 = N := ⟨_, rfl⟩
  have hN2 : N = F % 2 := by rw [← hN]; exact mask1 hr.1 (by omega)
  obtain ⟨p, hp⟩ : ∃ p, hasN k.mods 1 = p := ⟨_, rfl⟩
  have hz : (N == 0) = !p := by
    rw [← hp]
    unfold hasN
    rw [Int.ediv_one, hN2, ← hF]
    unfold oldN
    have e : max k.mods 0 % 8 % 2 = max k.mods 0 % 2 := by omega
    rw [e]
    rcases Int.emod_two_eq (max k.mods 0) with h | h <;> rw [h] <;> rfl
  have hc := hk.code
  rw [hF] at hold
  rw [hp] at hsh
  clear hk hp hF hr hN2
  rw [kyV]
  rw [kyC] at hB hold k0
  obtain ⟨code, mods, typ, shift, base, text⟩ := k
  simp only at hB hold k0 hsh hc ⊢
  go_enter Tryz.func38, Tryz.ntmps38
  have a0 := k0.cell 0
  have a1 := k0.cell 1
  have a3 := k0.cell 3
  have HSH := Lib.hid hsh
  clear hsh
  go_wp2_with fail
  refine hold.mono ?_
  clear hold
  rintro e w1 ⟨rfl, hb1⟩
  have k1 := k0.below hb1 k0.lt
  have hB1 := hB.trans (hb1.mono hB.size)
  clear k0 hB hb1 a0 a1 a3
  have a0 := k1.cell 0
  have a3 := k1.cell 3
  cases p with
  | false =>
    have hz2 : (N == 0) = true := hz
    clear hz
    go_wp2_with fail
    go_ret
    exact ⟨ret_i (by rw [HSH.out]; rfl), hB1⟩
  | true =>
    have hz2 : (N == 0) = false := hz
    clear hz
    by_cases h3 : shift = 0
    · subst h3
      by_cases h4 : 97 ≤ code
      · by_cases h5 : code ≤ 122
        · have e1 : IntKind.i64.wrap (code - 97) = code - 97 := by rw [IntKind.wrap_i64]; omega
          have e2 : IntKind.i64.wrap (code - 97 + 65) = code - 32 := by rw [IntKind.wrap_i64]; omega
          go_wp2_with fail
          go_ret
          exact ⟨ret_i (by rw [HSH.out, if_neg (by decide), if_neg (fun h => h rfl), if_pos ⟨h4, h5⟩]), hB1⟩
        · have h6 : 122 < code := by omega
          go_wp2_with fail
          go_ret
          exact ⟨ret_i (by rw [HSH.out, if_neg (by decide), if_neg (fun h => h rfl), if_neg (by omega)]), hB1⟩
      · have h6 : code < 97 := by omega
        go_wp2_with fail
        go_ret
        exact ⟨ret_i (by rw [HSH.out, if_neg (by decide), if_neg (fun h => h rfl), if_neg (by omega)]), hB1⟩
    · have h5 : (shift == 0) = false := beq_false_of_ne h3
      have h6 : (shift != 0) = true := by simp [bne, h5]
      have H3 := Lib.hid h3
      clear h3
      go_wp2_with fail
      go_ret
      exact ⟨ret_i (by rw [HSH.out, if_neg (by decide), if_pos H3.out]), hB1⟩

end Go.Proofs.YtmagokkegadmiaaGreatDoor
