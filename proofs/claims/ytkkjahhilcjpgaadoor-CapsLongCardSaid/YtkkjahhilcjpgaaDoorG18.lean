/-
  Layer 20's mathematics: names, what they stand for, and what is answered to them.
-/
import Derived.Test.YtkkjahhilcjpgaaDoorG13
import Derived.Test.YtkkjahhilcjpgaaDoorG16
import Derived.Test.YtkkjahhilcjpgaaDoorG17
namespace Go.Proofs.YtkkjahhilcjpgaaDoor
def namesC : List (List UInt8 × List UInt8) := [([67, 111], [50, 53, 54]), ([82, 71, 66], [56]), ([84, 78], [99, 108, 97, 118, 105, 101, 114]), ([99, 111, 108, 111, 114, 115], [50, 53, 54]), ([107, 98, 115], [127]), ([107, 99, 117, 98, 49], [27, 79, 68]), ([107, 99, 117, 100, 49], [27, 79, 66]), ([107, 99, 117, 102, 49], [27, 79, 67]), ([107, 99, 117, 117, 49], [27, 79, 65]), ([107, 100, 99, 104, 49], [27, 91, 51, 126]), ([107, 102, 49], [27, 79, 80]), ([110, 97, 109, 101], [99, 108, 97, 118, 105, 101, 114])]
def lookC (n : List UInt8) : Option (List UInt8) := (namesC.find? fun q => q.1 == n).map (·.2)
def splitC : List UInt8 → List (List UInt8)
 | [] => [[]]
 | c :: l => if c = 59 then [] :: splitC l else match splitC l with
   | [] => [[c]]
   | p :: ps => (c :: p) :: ps
def joinC : List (List UInt8) → List UInt8
 | [] => []
 | [p] => p
 | p :: q :: ps => p ++ 59 :: joinC (q :: ps)
def pairC (n v : List UInt8) : List UInt8 := hexL n ++ 61 :: hexL v
def oneC (p : List UInt8) : Option (List UInt8) := match unhexL p with
 | none => none
 | some n => (lookC n).map (pairC n)
def ansGo : List (List UInt8) → Option (List (List UInt8))
 | [] => some []
 | p :: ps => match oneC p with
   | none => none
   | some q => (ansGo ps).map (q :: ·)
def ansD (data : List UInt8) : Option (List UInt8) := match ansGo (splitC data) with
 | none => none
 | some ps => if 4096 < (joinC ps).length then none else some (joinC ps)
def ansQ (d : Option (List UInt8)) : Sq := match d with
 | none => ⟨3, 0, [[0]], [43], 114, []⟩
 | some d => ⟨3, 0, [[1]], [43], 114, d⟩
def ansS (data : List UInt8) : Sq := ansQ (ansD data)
def eqC : List UInt8 → Option (List UInt8 × List UInt8)
 | [] => none
 | c :: l => if c = 61 then some ([], l) else (eqC l).map fun q => (c :: q.1, q.2)
def readP (p : List UInt8) : Option (List UInt8 × List UInt8) := match eqC p with
 | none => none
 | some (a, b) => match unhexL a, unhexL b with
   | some n, some v => if pairC n v = p then some (n, v) else none
   | _, _ => none
def readGo : List (List UInt8) → Option (List (List UInt8 × List UInt8))
 | [] => some []
 | p :: ps => match readP p with
   | none => none
   | some q => (readGo ps).map (q :: ·)
def readS (s : Sq) : Option (List (List UInt8 × List UInt8)) := if sameB s ⟨3, 0, [[1]], [43], 114, s.data⟩ = true then readGo (splitC s.data) else none
def hexC (c : UInt8) : Bool := btw 48 57 c || btw 65 70 c
theorem hexD_hex : ∀ k : Fin 16, hexC (hexD k.1) = true := by decide
theorem hexL_hex (l : List UInt8) : ∀ c ∈ hexL l, hexC c = true := fun c hc => by
 unfold hexL at hc
 obtain ⟨x, _, hc⟩ := List.mem_flatMap.1 hc
 have hx := x.toNat_lt
 simp only [List.mem_cons, List.not_mem_nil, or_false] at hc
 rcases hc with rfl | rfl
 ·exact hexD_hex ⟨x.toNat / 16, by omega⟩
 ·exact hexD_hex ⟨x.toNat % 16, by omega⟩
theorem hex_not {c : UInt8} (h : hexC c = true) : c ≠ 59 ∧ c ≠ 61 := by
 constructor <;> rintro rfl <;> exact absurd h (by decide)
theorem split_one : ∀ {p : List UInt8}, (∀ c ∈ p, c ≠ 59) → splitC p = [p]
 | [], _ => rfl
 | c :: p, h => by
   have ih := split_one (p := p) fun x hx => h x (List.mem_cons_of_mem _ hx)
   unfold splitC
   rw [if_neg (h c (List.mem_cons_self ..)), ih]
theorem split_app : ∀ {p : List UInt8} (_ : ∀ c ∈ p, c ≠ 59) (l : List UInt8), splitC (p ++ 59 :: l) = p :: splitC l
 | [], _, l => by
   show splitC (59 :: l) = _
   rw [splitC, if_pos rfl]
 | c :: p, h, l => by
   have ih := split_app (p := p) (fun x hx => h x (List.mem_cons_of_mem _ hx)) l
   show splitC (c :: (p ++ 59 :: l)) = _
   rw [splitC, if_neg (h c (List.mem_cons_self ..)), ih]
theorem split_join : ∀ {ps : List (List UInt8)}, ps ≠ [] → (∀ p ∈ ps, ∀ c ∈ p, c ≠ 59) → splitC (joinC ps) = ps
 | [], h, _ => absurd rfl h
 | [p], _, h => split_one (h p (List.mem_cons_self ..))
 | p :: q :: ps, _, h => by
   have ih := split_join (ps := q :: ps) (by simp) fun x hx => h x (List.mem_cons_of_mem _ hx)
   rw [joinC, split_app (h p (List.mem_cons_self ..)), ih]
theorem pair_hex (n v : List UInt8) : ∀ c ∈ pairC n v, c ≠ 59 ∧ (hexC c = true ∨ c = 61) := fun c hc => by
 unfold pairC at hc
 rw [List.mem_append, List.mem_cons] at hc
 rcases hc with h | rfl | h
 ·exact ⟨(hex_not (hexL_hex n c h)).1, .inl (hexL_hex n c h)⟩
 ·exact ⟨by decide, .inr rfl⟩
 ·exact ⟨(hex_not (hexL_hex v c h)).1, .inl (hexL_hex v c h)⟩
theorem eq_pair : ∀ {a : List UInt8} (_ : ∀ c ∈ a, c ≠ 61) (b : List UInt8), eqC (a ++ 61 :: b) = some (a, b)
 | [], _, b => by
   show eqC (61 :: b) = _
   rw [eqC, if_pos rfl]
 | c :: a, h, b => by
   have ih := eq_pair (a := a) (fun x hx => h x (List.mem_cons_of_mem _ hx)) b
   show eqC (c :: (a ++ 61 :: b)) = _
   rw [eqC, if_neg (h c (List.mem_cons_self ..)), ih]
   rfl
theorem read_pair (n v : List UInt8) : readP (pairC n v) = some (n, v) := by
 unfold readP
 rw [show eqC (pairC n v) = some (hexL n, hexL v) from eq_pair (fun c hc => (hex_not (hexL_hex n c hc)).2) _]
 simp only [unhex_hex]
 exact if_pos trivial
theorem read_all : ∀ qs : List (List UInt8 × List UInt8), readGo (qs.map fun q => pairC q.1 q.2) = some qs
 | [] => rfl
 | q :: qs => by
   rw [List.map_cons, readGo, read_pair, read_all qs]
   rfl
theorem one_some {p q : List UInt8} (h : oneC p = some q) : ∃ n v, unhexL p = some n ∧ lookC n = some v ∧ q = pairC n v := by
 unfold oneC at h
 cases hu : unhexL p with
 | none => rw [hu] at h; cases h
 | some n =>
   rw [hu] at h
   simp only at h
   cases hl : lookC n with
   | none => rw [hl] at h; cases h
   | some v =>
     rw [hl] at h
     simp only [Option.map_some, Option.some.injEq] at h
     exact ⟨n, v, rfl, hl, h.symm⟩
theorem one_is {p n v : List UInt8} (h : unhexL p = some n) (hl : lookC n = some v) : oneC p = some (pairC n v) := by
 unfold oneC
 rw [h]
 simp only [hl, Option.map_some]
theorem ans_some : ∀ {ps qs : List (List UInt8)}, ansGo ps = some qs → qs.length = ps.length ∧ ∀ q ∈ qs, ∃ n v, q = pairC n v
 | [], qs, h => by
   simp only [ansGo, Option.some.injEq] at h
   subst h
   exact ⟨rfl, fun q hq => by cases hq⟩
 | p :: ps, qs, h => by
   rw [ansGo] at h
   cases ho : oneC p with
   | none => rw [ho] at h; cases h
   | some q =>
     rw [ho] at h
     simp only at h
     cases hg : ansGo ps with
     | none => rw [hg] at h; cases h
     | some r =>
       rw [hg] at h
       simp only [Option.map_some, Option.some.injEq] at h
       subst h
       obtain ⟨h1, h2⟩ := ans_some hg
       obtain ⟨n, v, _, _, e⟩ := one_some ho
       exact ⟨by simp [h1], fun x hx => by
        rcases List.mem_cons.1 hx with rfl | hx
        ·exact ⟨n, v, e⟩
        ·exact h2 x hx⟩
theorem join_mem : ∀ {ps : List (List UInt8)} {c : UInt8}, c ∈ joinC ps → c = 59 ∨ ∃ p ∈ ps, c ∈ p
 | [], c, h => by cases h
 | [p], c, h => .inr ⟨p, List.mem_cons_self .., h⟩
 | p :: q :: ps, c, h => by
   rw [joinC, List.mem_append, List.mem_cons] at h
   rcases h with h | rfl | h
   ·exact .inr ⟨p, List.mem_cons_self .., h⟩
   ·exact .inl rfl
   ·rcases join_mem h with h | ⟨x, hx, h⟩
    ·exact .inl h
    ·exact .inr ⟨x, List.mem_cons_of_mem _ hx, h⟩
theorem ans_safe {data d : List UInt8} (h : ansD data = some d) : d.length ≤ 4096 ∧ ∀ c ∈ d, hexC c = true ∨ c = 61 ∨ c = 59 := by
 unfold ansD at h
 cases hg : ansGo (splitC data) with
 | none => rw [hg] at h; cases h
 | some ps =>
   rw [hg] at h
   simp only at h
   split at h
   ·cases h
   ·simp only [Option.some.injEq] at h
    subst h
    refine ⟨by omega, fun c hc => ?_⟩
    rcases join_mem hc with rfl | ⟨p, hp, hc⟩
    ·exact .inr (.inr rfl)
    ·obtain ⟨n, v, rfl⟩ := (ans_some hg).2 p hp
     rcases (pair_hex n v c hc).2 with h | h
     ·exact .inl h
     ·exact .inr (.inl h)
theorem hex_print {c : UInt8} (h : hexC c = true ∨ c = 61 ∨ c = 59) : btw 32 126 c = true := by
 rcases h with h | rfl | rfl
 ·have : ∀ k : Fin 256, hexC (UInt8.ofNat k.1) = true → btw 32 126 (UInt8.ofNat k.1) = true := by decide +kernel
  have h2 : btw 32 126 (UInt8.ofNat c.toNat) = true := this ⟨c.toNat, c.toNat_lt⟩ (by show hexC (UInt8.ofNat c.toNat) = true; rw [UInt8.ofNat_toNat]; exact h)
  rwa [UInt8.ofNat_toNat] at h2
 ·decide
 ·decide
theorem ans_may (data : List UInt8) : mayS (ansS data) = 0 := by
 unfold ansS
 cases h : ansD data with
 | none => decide
 | some d =>
   obtain ⟨h1, h2⟩ := ans_safe h
   have h3 : d.all (btw 32 126) = true := List.all_eq_true.2 fun c hc => hex_print (h2 c hc)
   unfold ansQ mayS
   simp only
   rw [if_neg (by omega)]
   refine if_pos ?_
   unfold okS
   simp only [h3]
   simp [privOk, parOk, btw, lastOk, bareOk]
theorem ans_known (f : UInt8 → UInt8) (hf : ∀ n : List UInt8, unhexL ((hexL n).map f) = some n) : ∀ {qs : List (List UInt8 × List UInt8)}, (∀ q ∈ qs, lookC q.1 = some q.2) → ansGo (qs.map fun q => (hexL q.1).map f) = some (qs.map fun q => pairC q.1 q.2)
 | [], _ => rfl
 | q :: qs, h => by
   rw [List.map_cons, ansGo, one_is (hf q.1) (h q (List.mem_cons_self ..)), ans_known f hf (qs := qs) fun x hx => h x (List.mem_cons_of_mem _ hx)]
   rfl
theorem join_len : ∀ {ps : List (List UInt8)} {m : Nat}, (∀ p ∈ ps, p.length ≤ m) → (joinC ps).length ≤ ps.length * (m + 1)
 | [], m, _ => by simp [joinC]
 | [p], m, h => by
   have := h p (List.mem_cons_self ..)
   simp only [joinC, List.length_cons, List.length_nil]
   omega
 | p :: q :: ps, m, h => by
   have h1 := h p (List.mem_cons_self ..)
   have ih := join_len (ps := q :: ps) (m := m) fun x hx => h x (List.mem_cons_of_mem _ hx)
   rw [joinC, List.length_append, List.length_cons]
   rw [show (p :: q :: ps).length = (q :: ps).length + 1 from rfl, Nat.add_mul, Nat.one_mul]
   omega
theorem names_know : ∀ q ∈ namesC, lookC q.1 = some q.2 ∧ q.2 ≠ [] ∧ q.1.length ≤ 6 ∧ q.2.length ≤ 7 := by decide +kernel
theorem low_hex {c : UInt8} (h : hexC c = true) : low c ≠ 59 := by
 have : ∀ k : Fin 256, hexC (UInt8.ofNat k.1) = true → low (UInt8.ofNat k.1) ≠ 59 := by decide +kernel
 have h2 : low (UInt8.ofNat c.toNat) ≠ 59 := this ⟨c.toNat, c.toNat_lt⟩ (by show hexC (UInt8.ofNat c.toNat) = true; rw [UInt8.ofNat_toNat]; exact h)
 rwa [UInt8.ofNat_toNat] at h2
theorem caps_back (small : Bool) {qs : List (List UInt8 × List UInt8)} (h0 : qs ≠ []) (hl : qs.length ≤ 20) (h : ∀ q ∈ qs, q ∈ namesC) : readS (ansS (joinC (qs.map fun q => if small = true then (hexL q.1).map low else hexL q.1))) = some qs := by
 have hk : ∀ q ∈ qs, lookC q.1 = some q.2 := fun q hq => (names_know q (h q hq)).1
 have hsp : splitC (joinC (qs.map fun q => if small = true then (hexL q.1).map low else hexL q.1)) = qs.map fun q => if small = true then (hexL q.1).map low else hexL q.1 := split_join (by simpa using h0) fun p hp c hc => by
  obtain ⟨q, _, rfl⟩ := List.mem_map.1 hp
  split at hc
  ·obtain ⟨x, hx, rfl⟩ := List.mem_map.1 hc
   exact low_hex (hexL_hex _ x hx)
  ·exact (hex_not (hexL_hex _ c hc)).1
 have hgo : ansGo (qs.map fun q => if small = true then (hexL q.1).map low else hexL q.1) = some (qs.map fun q => pairC q.1 q.2) := by
  cases small with
  | true => exact ans_known low unhex_low hk
  | false =>
    have := ans_known id (fun n => by rw [List.map_id]; exact unhex_hex n) hk
    simpa using this
 have hlen : (joinC (qs.map fun q => pairC q.1 q.2)).length ≤ 4096 := by
  have := join_len (ps := qs.map fun q => pairC q.1 q.2) (m := 27) fun p hp => by
   obtain ⟨q, hq, rfl⟩ := List.mem_map.1 hp
   obtain ⟨_, _, h1, h2⟩ := names_know q (h q hq)
   unfold pairC
   rw [List.length_append, List.length_cons, hexL_length, hexL_length]
   omega
  rw [List.length_map] at this
  omega
 have hd : ansD (joinC (qs.map fun q => if small = true then (hexL q.1).map low else hexL q.1)) = some (joinC (qs.map fun q => pairC q.1 q.2)) := by
  unfold ansD
  rw [hsp, hgo]
  exact if_neg (by omega)
 unfold ansS
 rw [hd]
 unfold ansQ readS
 simp only
 rw [if_pos ((sameB_iff _ _).2 rfl), split_join (by simpa using h0) (fun p hp c hc => by obtain ⟨q, _, rfl⟩ := List.mem_map.1 hp; exact (pair_hex _ _ c hc).1), read_all]
theorem ans_rep (n : Nat) : ansGo (List.replicate n [52, 51, 54, 70]) = some (List.replicate n [52, 51, 54, 70, 61, 51, 50, 51, 53, 51, 54]) := by
 induction n with
 | zero => rfl
 | succ n ih =>
   rw [List.replicate_succ, List.replicate_succ, ansGo, show oneC [52, 51, 54, 70] = some [52, 51, 54, 70, 61, 51, 50, 51, 53, 51, 54] by decide +kernel, ih]
   rfl
theorem join_rep (p : List UInt8) : ∀ n : Nat, 0 < n → (joinC (List.replicate n p)).length = n * (p.length + 1) - 1
 | 0, h => by omega
 | 1, _ => by simp [joinC]
 | n + 2, _ => by
   have ih := join_rep p (n + 1) (by omega)
   rw [List.replicate_succ, List.replicate_succ, joinC, List.length_append, List.length_cons, ← List.replicate_succ, ih]
   have : (n + 2) * (p.length + 1) = (n + 1) * (p.length + 1) + (p.length + 1) := by rw [show n + 2 = n + 1 + 1 from rfl, Nat.add_mul, Nat.one_mul]
   have h1 : 1 ≤ (n + 1) * (p.length + 1) := Nat.mul_pos (by omega) (by omega)
   omega
theorem ans_odd (ps : List (List UInt8)) : ansGo (ps ++ [[48, 48]]) = none := by
 induction ps with
 | nil => decide +kernel
 | cons p ps ih =>
   rw [List.cons_append, ansGo]
   cases oneC p with
   | none => rfl
   | some q => simp only [ih, Option.map_none]
theorem join_snoc : ∀ (ps : List (List UInt8)) (_ : ps ≠ []) (p : List UInt8), joinC (ps ++ [p]) = joinC ps ++ 59 :: p
 | [], h, _ => absurd rfl h
 | [q], _, p => rfl
 | q :: r :: ps, _, p => by
   have ih := join_snoc (r :: ps) (by simp) p
   show joinC (q :: r :: (ps ++ [p])) = _
   rw [joinC]
   rw [List.cons_append] at ih
   rw [ih, joinC, List.append_assoc]
   rfl
theorem caps_long (n : Nat) (h : 0 < n) (odd : Bool) :
 ansD (joinC (List.replicate n [52, 51, 54, 70]) ++ (if odd = true then [59, 48, 48] else [])) = if odd = true ∨ 4096 < 12 * n - 1 then none else some (joinC (List.replicate n [52, 51, 54, 70, 61, 51, 50, 51, 53, 51, 54])) := by
 have hne : List.replicate n ([52, 51, 54, 70] : List UInt8) ≠ [] := fun e => by
  have := congrArg List.length e
  simp at this
  omega
 cases odd with
 | true =>
   rw [if_pos rfl, if_pos (.inl rfl)]
   have hj := join_snoc (List.replicate n [52, 51, 54, 70]) hne [48, 48]
   rw [← hj]
   unfold ansD
   rw [split_join (by simp) (fun p hp c hc => by
    rw [List.mem_append] at hp
    rcases hp with hp | hp
    ·rw [(List.mem_replicate.1 hp).2] at hc
     revert c
     decide
    ·rw [List.mem_singleton] at hp
     subst hp
     revert c
     decide), ans_odd]
 | false =>
   rw [if_neg (by decide), List.append_nil]
   unfold ansD
   rw [split_join hne (fun p hp c hc => by
    rw [(List.mem_replicate.1 hp).2] at hc
    revert c
    decide), ans_rep]
   have hl := join_rep [52, 51, 54, 70, 61, 51, 50, 51, 53, 51, 54] n h
   simp only [List.length_cons, List.length_nil, Nat.zero_add] at hl
   simp only [Bool.false_eq_true, false_or]
   rw [hl]
   by_cases hs : 4096 < 12 * n - 1
   ·rw [if_pos (by omega), if_pos hs]
   ·rw [if_neg (by omega), if_neg hs]
theorem look_in (n : List UInt8) : (lookC n).isSome = namesC.any fun q => q.1 == n := by
 unfold lookC
 rw [Option.isSome_map, Bool.eq_iff_iff, List.find?_isSome, List.any_eq_true]
end Go.Proofs.YtkkjahhilcjpgaaDoor
