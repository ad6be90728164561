/-
  Layer 5: the landed parser: Feed; all that a law needs of it.
-/
import Derived.Test.YtdpdgdidfikphaaDoorHpJ
namespace Go.Proofs.YtdpdgdidfikphaaDoor
open Go.RowKit

theorem Held.less {w : World} {S S' : Nat → Prop} {R : World → Prop} (h : Held w S R) (hS : ∀ k, k < w.heap.size → S' k → S k) : Held w S' R := by
  obtain ⟨F, hF, hR⟩ := h
  exact ⟨F, fun k hk => ⟨(hF k hk).1, fun hs => (hF k hk).2 (hS k (hF k hk).1 hs)⟩, hR⟩
theorem RowQ.all {w : World} {S : Nat → Prop} {B n c : Nat} {A : Option Addr} {ls : List Sq} {f : Nat → Option Addr × Nat} (h : RowQ w S B (.slice A n c) ls f) (hn : ls.length = n) : Held w S fun W => RdF W A ls f := by
  subst hn
  have h1 : Held w S fun W => Rd W A (flatQ ls f) := ⟨fun k => (Value.slice A ls.length c).ownBlock = some k, fun k hk => ⟨(h.own.lt k hk).2, h.apart k hk⟩, fun w' _ hk => (h.own.keep hk).rd⟩
  exact (h1.and (h.held.less fun k _ hs => .inl hs)).imp fun w' h => h
theorem Own.roomy {w : World} {base : Nat} {e : TypeId} {sz n c : Nat} {A : Option Addr} {xs : List Value} (h : Own w base e sz (.slice A n c) n xs) : n ≤ c := by
  rcases h.2 with ⟨hv, h0⟩ | ⟨g, cap, hv, hb, hh, hnc, _⟩
  · omega
  · injection hv with h1 h2 h3
    omega

/-- What goes on through the loop of Feed. -/
structure FeedR (w : World) (S : Nat → Prop) (g base : Nat) (p : HP) (l : List UInt8) (k : Nat) (v : Value) (a : Nat) (wr : World) (S1 : Nat → Prop) (b1 : PB) (vp vd : Value) (r : Nat → Value) (ls : List Sq) (f : Nat → Option Addr × Nat) : Prop where
  box : BoxP wr S1 g base b1 vp vd r
  rel : Rel b1 (feedH p (l.take k)).1
  told : (feedH p (l.take k)).2 = ls
  len : ls.length = a
  row : RowQ wr (fun j => S1 j ∨ (j < w.heap.size ∧ ¬ S j)) w.heap.size v ls f
  wid : Wid w S S1
  fr : Fr w wr S
theorem FeedR.skip {w wr wt : World} {S S1 St : Nat → Prop} {g base k a : Nat} {p : HP} {l : List UInt8} {v vp vd vp2 vd2 : Value} {b1 b2 : PB} {r r2 : Nat → Value} {ls : List Sq} {f : Nat → Option Addr × Nat} (h : FeedR w S g base p l k v a wr S1 b1 vp vd r ls f) (hk : k < l.length)
    (hb : BoxP wt St g base b2 vp2 vd2 r2) (hw : Wid wr S1 St) (hf : Fr wr wt S1) (hr : Rel b2 (oneH (feedH p (l.take k)).1 l[k]).1) (ht : (oneH (feedH p (l.take k)).1 l[k]).2 = []) : FeedR w S g base p l (k + 1) v a wt St b2 vp2 vd2 r2 ls f := by
  have e : l.take (k + 1) = l.take k ++ [l[k]] := by rw [List.take_succ_eq_append_getElem hk]
  have e2 := feed_snoc p (l.take k) l[k]
  refine ⟨hb, by rw [e, e2]; exact hr, by rw [e, e2]; dsimp only; rw [ht, List.append_nil, h.told], h.len, h.row.fr (hf.mono fun _ h => .inl h) (fun j hj => ?_), h.wid.trans hw h.fr.size, h.fr.trans hf h.wid⟩
  rcases hj with hj | hj
  · rcases hw j hj with h1 | h1
    · exact .inl (.inl h1)
    · exact .inr h1
  · exact .inl (.inr hj)
/-- Behind an end: the row, and what was told. -/
theorem FeedR.ended {w wr wt we : World} {S S1 St : Nat → Prop} {g base k a : Nat} {p : HP} {l : List UInt8} {v vp vd vp2 vd2 : Value} {b1 b2 : PB} {r r2 : Nat → Value} {ls : List Sq} {f : Nat → Option Addr × Nat} (h : FeedR w S g base p l k v a wr S1 b1 vp vd r ls f) (hk : k < l.length)
    (hb : BoxP wt St g base b2 vp2 vd2 r2) (hw : Wid wr S1 St) (hf : Fr wr wt S1) (he : oneH (feedH p (l.take k)).1 l[k] = (hp0, endP b2)) {e : Ending} (hE : EndE St g base b2 wt e we) :
    ∃ A c, e = .returned (.tuple #[sqV b2.sq A c, .bool (!b2.spoilt && (mayS b2.sq == 0))]) ∧ BoxP we (fun k => k = g) g base pb0 (.slice none 0 0) (.slice none 0 0) (fun _ => .slice none 0 0) ∧ RowQ we (fun j => j = g ∨ (j < w.heap.size ∧ ¬ S j)) w.heap.size v ls f ∧
      Held we (fun j => (j = g ∨ (j < w.heap.size ∧ ¬ S j)) ∨ v.ownBlock = some j) (fun W => SqIn W b2.sq A c) ∧ Wid w S (fun k => k = g) ∧ Fr w we S ∧ feedH p (l.take (k + 1)) = (hp0, ls ++ endP b2) := by
  obtain ⟨A, c, rfl, hb0, hf2, hd⟩ := hE
  have hwt : Wid w S St := h.wid.trans hw h.fr.size
  have row1 : RowQ wt (fun j => St j ∨ (j < w.heap.size ∧ ¬ S j)) w.heap.size v ls f := h.row.fr (hf.mono fun _ h => .inl h) (fun j hj => by
    rcases hj with hj | hj
    · rcases hw j hj with h1 | h1
      · exact .inl (.inl h1)
      · exact .inr h1
    · exact .inl (.inr hj))
  have row2 : RowQ we (fun j => j = g ∨ (j < w.heap.size ∧ ¬ S j)) w.heap.size v ls f := row1.fr (hf2.mono fun _ h => .inl h) (fun j hj => by
    rcases hj with hj | hj
    · exact .inl (.inl (by rw [hj]; exact hb.sg))
    · exact .inl (.inr hj))
  have hft : Fr w wt S := h.fr.trans hf h.wid
  refine ⟨A, c, rfl, hb0, row2, hd.less fun j _ hj => ?_, fun j hj => ?_, hft.trans hf2 hwt, ?_⟩
  · rintro ⟨h1, h2⟩
    rcases hj with (hj | hj) | hj
    · exact h2 hj
    · rcases hwt j h1 with h3 | h3
      · exact hj.2 h3
      · omega
    · exact row1.apart j hj (.inl h1)
  · rcases hwt g hb.sg with h1 | h1
    · exact .inl (by rw [hj]; exact h1)
    · exact .inr (by rw [hj]; exact h1)
  · have e : l.take (k + 1) = l.take k ++ [l[k]] := by rw [List.take_succ_eq_append_getElem hk]
    rw [e, feed_snoc, he, h.told]
theorem end_is (b : PB) : endP b = if (!b.spoilt && (mayS b.sq == 0)) = true then [b.sq] else [] := by
  unfold endP
  cases b.spoilt with
  | true => rfl
  | false =>
    by_cases h : mayS b.sq = 0
    · simp [h]
    · simp [h]

set_option maxRecDepth 100000 in
set_option maxHeartbeats 16000000 in
theorem bfeed_any {w : World} {S : Nat → Prop} {g base : Nat} {p : HP} {b0 : PB} {vp0 vd0 : Value} {r0 : Nat → Value} (A : Option Addr) (n c : Nat) (l : List UInt8) (h : BoxP w S g base b0 vp0 vd0 r0) (hrel : Rel b0 p) (htab : ∀ w', Below base w w' → Tab w') (hn : l.length = n) (hl : n ≤ 1048576) (hr : RdOff w S A (bs l)) :
    Calls Tryd.prog 9 #[.pointer (some ⟨g, 0, none⟩), .slice A n c] w fun e w' => ∃ S' b1 A' c' f, e = .returned (.slice A' (feedH p l).2.length c') ∧ (feedH p l).2.length ≤ c' ∧ PBx w' S' g base b1 ∧ Rel b1 (feedH p l).1 ∧ Wid w S S' ∧ Fr w w' S ∧ Held w' (fun k => (k < w.heap.size ∧ ¬ S k) ∨ S' k) fun W => RdF W A' (feedH p l).2 f := by
  obtain ⟨j0, hj, hy0, hy1, hy2⟩ : ∃ i, Tryd.prog.info? 32 = some i ∧ i.zero = some (.agg #[.int .i64 0, .int .u8 0, .slice none 0 0, .string ⟨#[]⟩, .int .u8 0, .string ⟨#[]⟩]) ∧ i.size = 6 ∧ i.bytes = 80 := ⟨_, rfl, rfl, rfl, rfl⟩
  have base_ : base ≤ w.heap.size := Nat.le_trans (h.lo _ h.sg) (Nat.le_of_lt (h.hi _ h.sg))
  have start : FeedR w S g base p l 0 (.slice none 0 0) 0 w S b0 vp0 vd0 r0 [] (fun _ => (none, 0)) := ⟨h, hrel, rfl, rfl, RowQ.nil _ _ _ _, Wid.refl _ _, Fr.refl _ _⟩
  have HTab := Lib.hid htab
  have HN := Lib.hid hn
  have hlo := h.lo
  have HLO := Lib.hid hlo
  clear h hrel htab hn hlo
  go_enter Tryd.func9, Tryd.ntmps9
  go_wp2_with fail
  go_loopw [5, 14] (fun y i wr => ∃ (k a : Nat) (v : Value) (S1 : Nat → Prop) (b1 : PB) (vp vd : Value) (r : Nat → Value) (ls : List Sq) (f : Nat → Option Addr × Nat), k ≤ n ∧ i = .int .i64 k ∧ v = y ∧ FeedR w S g base p l k v a wr S1 b1 vp vd r ls f) (fun _ i _ => n - (intOf i).toNat)
  case atStart => exact ⟨0, 0, _, S, b0, vp0, vd0, r0, [], _, Nat.zero_le _, rfl, rfl, start⟩
  case round =>
    obtain ⟨k, a, v, S1, b1, vp, vd, r, ls, f, hkn, rfl, rfl, hR⟩ := hrel
    clear start
    by_cases hlt : k < n
    · have hkl : k < l.length := by rw [HN.out]; exact hlt
      have hrr := hr.fr hR.fr hR.wid
      obtain ⟨bb, oo, hB, hbb, hcc⟩ := hrr.rd.at_ (by omega)
      have hck := hcc k hkl
      cases hB
      obtain ⟨x, hx⟩ : ∃ x, l[k]'hkl = x := ⟨_, rfl⟩
      rw [hx] at hck
      have HR := Lib.hid hR
      have htab2 := Lib.hid (show ∀ w', Below base wr w' → Tab w' from fun w' hb => HTab.out w' ((hR.fr.below base_ HLO.out).trans hb))
      have hstep := take_step hR.rel hR.box.fit x
      have HX := Lib.hid hx
      clear hR hcc hrr hx
      rcases hstep with ⟨h1, h2, h3⟩ | ⟨h1, h2⟩
      · have HQ := Lib.hid h1
        have H2 := Lib.hid h2
        have H3 := Lib.hid h3
        clear h1 h2 h3
        go_wp2_with fail
        refine (btake_any HR.out.box x htab2.out).mono ?_
        rw [HQ.out]
        rintro e wt ⟨rfl, St, ⟨vp2, vd2, r2, hbt⟩, hwt, hft⟩
        have hR2 := HR.out.skip hkl hbt hwt hft (by rw [HX.out]; exact H2.out) (by rw [HX.out]; exact H3.out)
        have HR2 := Lib.hid hR2
        clear hbt hwt hft hR2
        go_wp2_with fail
        go_roundw
        case rel => exact ⟨k + 1, a, _, _, _, _, _, _, _, _, by omega, by go_num, rfl, HR2.out⟩
        case measure => simp [intOf]; omega
      · have HQ := Lib.hid h1
        have H2 := Lib.hid h2
        clear h1 h2
        go_wp2_with fail
        refine (btake_any HR.out.box x htab2.out).mono ?_
        rw [HQ.out]
        rintro e wt ⟨rfl, St, ⟨vp2, vd2, r2, hbt⟩, hwt, hft⟩
        have HB := Lib.hid hbt
        have HWT := Lib.hid hwt
        have HFT := Lib.hid hft
        clear hbt hwt hft
        go_wp2_with fail
        refine (bend_any HB.out).mono ?_
        obtain ⟨b2, hb2⟩ : ∃ b2, (takeP b1 x).1 = b2 := ⟨_, rfl⟩
        rw [hb2] at HB H2 ⊢
        intro e we hE
        obtain ⟨A2, c2, rfl, hb0, row2, hd2, hw2, hf2, hfd⟩ := HR.out.ended hkl HB.out HWT.out HFT.out (by rw [HX.out]; exact H2.out) hE
        have hlen := HR.out.len
        have HTold := Lib.hid HR.out.told
        rw [end_is] at hfd
        obtain ⟨q, hq⟩ : ∃ q, (!b2.spoilt && (mayS b2.sq == 0)) = q := ⟨_, rfl⟩
        rw [hq] at hfd ⊢
        obtain ⟨s, hs⟩ : ∃ s, b2.sq = s := ⟨_, rfl⟩
        rw [hs] at hd2 hfd ⊢
        obtain ⟨Av, cv, hv, _⟩ := row2.own.form
        rw [hlen] at hv
        subst hv
        have HLen := Lib.hid hlen
        clear hlen
        clear hq hs HB H2 HR htab2 HWT HFT HQ
        have ka : Fr we (we.alloc (.cells #[.int .i64 s.kind, .int .u8 (s.priv.toNat : Int), .slice A2 s.params.length c2, .string ⟨s.inter.toArray⟩, .int .u8 (s.final.toNat : Int), .string ⟨s.data.toArray⟩] 32)) (fun _ => False) := Fr.of_below ((Below.refl _ we).alloc (Nat.le_refl _) _) _
        have kx := Blk.new we 32 #[.int .i64 s.kind, .int .u8 (s.priv.toNat : Int), .slice A2 s.params.length c2, .string ⟨s.inter.toArray⟩, .int .u8 (s.final.toNat : Int), .string ⟨s.data.toArray⟩]
        obtain ⟨x0, x1, x2, x3, x4, x5⟩ := Blk.cells6 kx
        have hba := hb0.fr ka (fun _ _ h => h)
        have rowa := row2.fr (ka.mono fun _ h => h.elim) (Wid.refl _ _)
        have hda := hd2.go ka (fun _ h => h.elim) (fun _ h => .inl h)
        have hfa := hf2.trans ka (fun _ h => h.elim)
        clear ka kx hb0 row2 hd2 hf2 hE
        unfold sqV
        cases q with
        | false =>
          have hR2 : FeedR w S g base p l (k + 1) (.slice Av a cv) a (we.alloc (.cells #[.int .i64 s.kind, .int .u8 (s.priv.toNat : Int), .slice A2 s.params.length c2, .string ⟨s.inter.toArray⟩, .int .u8 (s.final.toNat : Int), .string ⟨s.data.toArray⟩] 32)) (fun k => k = g) pb0 (.slice none 0 0) (.slice none 0 0) (fun _ => .slice none 0 0) ls f :=
            ⟨hba, by rw [hfd]; exact Rel.idle, by rw [hfd]; simp, HLen.out, rowa, hw2, hfa⟩
          have HR2 := Lib.hid hR2
          clear hR2 hba rowa hda hfa hfd hw2
          go_wp2_with fail
          go_roundw
          case rel => exact ⟨k + 1, a, _, _, _, _, _, _, _, _, by omega, by go_num, rfl, HR2.out⟩
          case measure => simp [intOf]; omega
        | true =>
          obtain ⟨wa, hwa⟩ : ∃ wa, we.alloc (.cells #[.int .i64 s.kind, .int .u8 (s.priv.toNat : Int), .slice A2 s.params.length c2, .string ⟨s.inter.toArray⟩, .int .u8 (s.final.toNat : Int), .string ⟨s.data.toArray⟩] 32) = wa := ⟨_, rfl⟩
          have sa : wa.heap.size = we.heap.size + 1 := by rw [← hwa]; simp
          rw [hwa] at x0 x1 x2 x3 x4 x5 hba rowa hda hfa
          have kb : Fr wa (wa.alloc (.cells #[.int .i64 s.kind, .int .u8 (s.priv.toNat : Int), .slice A2 s.params.length c2, .string ⟨s.inter.toArray⟩, .int .u8 (s.final.toNat : Int), .string ⟨s.data.toArray⟩] 32)) (fun _ => False) := Fr.of_below ((Below.refl _ wa).alloc (Nat.le_refl _) _) _
          have hbb := hba.fr kb (fun _ _ h => h)
          have rowb := rowa.fr (kb.mono fun _ h => h.elim) (Wid.refl _ _)
          have hdb := hda.go kb (fun _ h => h.elim) (fun _ h => .inl h)
          have hfb := hfa.trans kb (fun _ h => h.elim)
          have rdb : Rd (wa.alloc (.cells #[.int .i64 s.kind, .int .u8 (s.priv.toNat : Int), .slice A2 s.params.length c2, .string ⟨s.inter.toArray⟩, .int .u8 (s.final.toNat : Int), .string ⟨s.data.toArray⟩] 32)) (some ⟨wa.heap.size, 0, none⟩) (sqC s A2 c2) := Rd.block (heap_alloc_new wa _) rfl
          have ownb := rowb.own
          rw [HLen.out] at ownb
          have hal : a ≤ 1048576 := by
            have h3 := feed_len p (l.take k)
            rw [List.length_take] at h3
            have h4 := congrArg List.length HTold.out
            have := HLen.out
            omega
          have h63 : a + 1 ≤ maxLen := by simp only [maxLen]; omega
          have hlim : (a + 1) * 80 ≤ 140737488355328 := by omega
          have hbs : w.heap.size ≤ (wa.alloc (.cells #[.int .i64 s.kind, .int .u8 (s.priv.toNat : Int), .slice A2 s.params.length c2, .string ⟨s.inter.toArray⟩, .int .u8 (s.final.toNat : Int), .string ⟨s.data.toArray⟩] 32)).heap.size := hfb.size
          have one6 : ∀ u ∈ sqC s A2 c2, u.oneCell' = true := fun u hu => flatQ_one [s] (fun _ => (A2, c2)) u (by rw [flatQ]; exact List.mem_append.2 (.inl hu))
          subst hwa
          simp only [World.size_alloc] at rdb
          clear hba rowa hda hfa kb sa
          go_wp2_with (at_builtin; (refine list_appB _ rfl (.tmp 28) (.tmp 30) 26 rfl w.heap.size 32 j0 _ 6 80 Tryd.underlying26 hj hy0 hy1 hy2 rfl (by decide) (.slice Av a cv) a (flatQ ls f) rfl ownb (some ⟨we.heap.size + 1, 0, none⟩) 1 1 (sqC s A2 c2) rfl rfl rdb one6 h63 hlim hbs ?_; intro v7 w7 own7 hg7 hk7))
          have hmb : Held (((we.alloc (.cells #[.int .i64 s.kind, .int .u8 (s.priv.toNat : Int), .slice A2 s.params.length c2, .string ⟨s.inter.toArray⟩, .int .u8 (s.final.toNat : Int), .string ⟨s.data.toArray⟩] 32))).alloc (.cells #[.int .i64 s.kind, .int .u8 (s.priv.toNat : Int), .slice A2 s.params.length c2, .string ⟨s.inter.toArray⟩, .int .u8 (s.final.toNat : Int), .string ⟨s.data.toArray⟩] 32)) (fun j => (j = g ∨ (j < w.heap.size ∧ ¬ S j)) ∨ (Value.slice Av a cv).ownBlock = some j) (fun W => ∀ y (hy : y < [s].length), SqIn W [s][y] ((fun _ => (A2, c2) : Nat → Option Addr × Nat) y).1 ((fun _ => (A2, c2) : Nat → Option Addr × Nat) y).2) := hdb.imp fun W hW y hy => by
            match y, hy with
            | 0, _ => exact hW
          have own7' : Own w7 w.heap.size 32 6 v7 (a + 1) (flatQ ls f ++ flatQ [s] (fun _ => (A2, c2))) := by
            rw [flatQ, flatQ, List.append_nil]
            exact own7
          have row7 := rowb.app (fun j hj' => by
            rcases hj' with h1 | h1
            · exact hbb.hi j h1
            · exact Nat.lt_of_lt_of_le h1.1 hfb.size) hmb (by rw [HLen.out]; rfl) own7' hg7 hk7
          have hb7 := hbb.fr (Fr.of_grown hg7) (fun j hj' hv' => rowb.apart j hv' (.inl hj'))
          have hf7 : Fr w w7 S := hfb.trans (Fr.of_grown hg7) (fun j hv' => .inr (ownb.lt j hv').1)
          have hR2 : FeedR w S g base p l (k + 1) v7 (a + 1) w7 (fun k => k = g) pb0 (.slice none 0 0) (.slice none 0 0) (fun _ => .slice none 0 0) (ls ++ [s]) (joinF ls.length f (fun _ => (A2, c2))) :=
            ⟨hb7, by rw [hfd]; exact Rel.idle, by rw [hfd]; simp, by rw [List.length_append, HLen.out]; rfl, row7, hw2, hf7⟩
          have HR2 := Lib.hid hR2
          clear hR2 hmb own7' row7 hb7 hf7 hg7 hk7 own7 hbb rowb hdb hfb ownb hfd hw2 one6 rdb
          go_roundw
          case rel => exact ⟨k + 1, a + 1, _, _, _, _, _, _, _, _, by omega, by go_num, rfl, HR2.out⟩
          case measure => simp [intOf]; omega
    · have hkn : k = n := by omega
      have ht : l.take k = l := List.take_of_length_le (by rw [HN.out]; omega)
      obtain ⟨hbox, hrl, htd, hln, hrow, hwd, hfr⟩ := hR
      rw [ht] at hrl htd
      obtain ⟨Av, cv, hv, _⟩ := hrow.own.form
      rw [hln] at hv
      subst hv
      have hcap := hrow.own
      rw [hln] at hcap
      have FIN := Lib.hid (show ∃ S' b1 A' c' f, Ending.returned (.slice Av a cv) = .returned (.slice A' (feedH p l).2.length c') ∧ (feedH p l).2.length ≤ c' ∧ PBx wr S' g base b1 ∧ Rel b1 (feedH p l).1 ∧ Wid w S S' ∧ Fr w wr S ∧ Held wr (fun k => (k < w.heap.size ∧ ¬ S k) ∨ S' k) fun W => RdF W A' (feedH p l).2 f from
        ⟨S1, b1, Av, cv, f, by rw [htd, hln], by rw [htd, hln]; exact hcap.roomy, ⟨_, _, _, hbox⟩, hrl, hwd, hfr, by
          rw [htd]
          exact (hrow.all hln).less fun j _ hj' => hj'.elim .inr .inl⟩)
      clear hbox hrl htd hln hrow hwd hfr hcap ht
      go_wp2_with fail
      go_ret
      exact FIN.out
theorem beforeB {w w' : World} {base : Nat} (hb : base ≤ w.heap.size) {T : Nat → Prop} (hf : Fr w w' T) (hT : ∀ k, T k → base ≤ k) : Below base w w' := hf.below hb hT
/-- The parser in memory, as the laws ask of it. -/
def HBp : HBox := fun w S g base p => (∃ b, Rel b p ∧ PBx w S g base b) ∧ ∀ w', Below base w w' → Tab w'
theorem hostC : HostC HBp Tab where
  invB := fun h hb => h.below hb
  fr := fun ⟨⟨b, hr, vp, vd, r, h⟩, ht⟩ hf hn hT => ⟨⟨b, hr, vp, vd, r, h.fr hf hn⟩, fun w' hb => ht w' ((hf.below (Nat.le_trans (h.lo _ h.sg) (Nat.le_of_lt (h.hi _ h.sg))) hT).trans hb)⟩
  lo := fun ⟨⟨_, _, _, _, _, h⟩, _⟩ => h.lo
  hi := fun ⟨⟨_, _, _, _, _, h⟩, _⟩ => h.hi
  new := fun w0 w hi hb => (bnew_any w w0.heap.size hb.size).mono fun e w' ⟨g, he, h, hg, hbw⟩ => by
    subst he
    exact ⟨fun k => k = g, g, rfl, ⟨⟨pb0, Rel.idle, _, _, _, h⟩, fun w2 hb2 => hi.below (hb.trans ((hbw.mono hb.size).trans hb2))⟩, fun k hk => by rw [hk]; exact hg, hbw⟩
  feed := fun {w S g base p} A n c b ⟨⟨b0, hr, vp, vd, r, h⟩, ht⟩ hn hl hrd => (bfeed_any A n c b h hr ht hn hl hrd).mono fun e w' ⟨S', b1, A', c', f, he, hc, hb1, hrel, hw, hf, hd⟩ => by
    subst he
    exact ⟨S', A', c', f, rfl, hc, ⟨⟨b1, hrel, hb1⟩, fun w2 hb2 => ht w2 ((hf.below (Nat.le_trans (h.lo _ h.sg) (Nat.le_of_lt (h.hi _ h.sg))) h.lo).trans hb2)⟩, hw, hf, hd⟩
  idle := fun ⟨⟨b, hr, vp, vd, r, h⟩, _⟩ => (bidle_any h).mono fun e w' ⟨he, hw⟩ => by
    subst he hw
    exact ⟨by rw [show decide (b.kind = 0) = decide (_ = 0) from decide_eq_decide.2 hr.kind], rfl⟩
end Go.Proofs.YtdpdgdidfikphaaDoor
