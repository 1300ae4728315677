/- A dynamic block's header, plainly; and what a writer's step leaves as it is. -/
import Derived.Test.YtpgkmbakohfpkaaBRef2
import Derived.Test.YtpgkmbakohfpkaaQBitsW2
namespace Go.Proofs.Ytpgkmbakohfpkaa
open Go.RowKit Go.Lib

/-- In which order the lengths stand. -/
def orderL : List Nat := [16, 17, 18, 0, 8, 7, 9, 6, 10, 5, 11, 4, 12, 3, 13, 2, 14, 1, 15]
theorem orderL_cs : orderCs = natCs orderL := rfl
theorem orderL_lt : ∀ k, k < 19 → orderL.getD k 0 < 19 := by decide
theorem orderL_get (k : Nat) (h : k < 19) : orderL[k]? = some (orderL.getD k 0) := getD_some orderL k h

/-- How often symbols stand in runs. -/
def cntR (rs : List (Int × Int)) (s : Nat) : Nat := rs.countP (fun r => r.1 == (s : Int))
def runWs (rs : List (Int × Int)) : List Nat := (List.range 19).map (cntR rs)
theorem runWs_length (rs : List (Int × Int)) : (runWs rs).length = 19 := by simp [runWs]
theorem runWs_get (rs : List (Int × Int)) (i : Nat) (h : i < 19) : (runWs rs)[i]? = some (cntR rs i) := by
  unfold runWs
  rw [List.getElem?_map, List.getElem?_range h]
  rfl
theorem runWs_nil : runWs [] = List.replicate 19 0 := by decide
theorem runWs_snoc (rs : List (Int × Int)) (s : Nat) (e : Int) (h : s < 19) : runWs (rs ++ [((s : Int), e)]) = (runWs rs).set s (cntR rs s + 1) := by
  refine set_map_range (cntR rs) (cntR (rs ++ [((s : Int), e)])) 19 s _ h ?_ ?_
  · unfold cntR
    rw [List.countP_append, List.countP_singleton]
    simp
  · intro i hi
    unfold cntR
    have hb : (((s : Nat) : Int) == (i : Int)) = false := by simp; omega
    rw [List.countP_append, List.countP_singleton]
    show _ + (if (((s : Nat) : Int) == (i : Int)) = true then 1 else 0) = _
    rw [hb]
    simp
theorem cntR_le (rs : List (Int × Int)) (s : Nat) : cntR rs s ≤ rs.length := List.countP_le_length

/-- How many of the lengths are told. -/
def ordN (hl : List Nat) : Nat → Nat
  | 0 => 0
  | k + 1 => if 4 < k + 1 ∧ hl.getD (orderL.getD k 0) 0 = 0 then ordN hl k else k + 1
theorem ordN_le (hl : List Nat) : ∀ k, ordN hl k ≤ k
  | 0 => Nat.le_refl _
  | k + 1 => by
    unfold ordN
    split
    · exact Nat.le_succ_of_le (ordN_le hl k)
    · exact Nat.le_refl _
theorem ordN_four (hl : List Nat) : ∀ k, 4 ≤ k → 4 ≤ ordN hl k
  | 0, h => by omega
  | k + 1, h => by
    unfold ordN
    split
    · exact ordN_four hl k (by omega)
    · exact h
theorem ordN_step (hl : List Nat) (k : Nat) (h : 4 < k + 1) (h2 : hl.getD (orderL.getD k 0) 0 = 0) : ordN hl (k + 1) = ordN hl k := by rw [ordN, if_pos ⟨h, h2⟩]
theorem ordN_stop (hl : List Nat) (k : Nat) (h : ¬ (4 < k + 1 ∧ hl.getD (orderL.getD k 0) 0 = 0)) : ordN hl (k + 1) = k + 1 := by rw [ordN, if_neg h]

def runBits (hl : List Nat) (r : Int × Int) : List Bool := highBits (codeN hl r.1.toNat : Int) (hl.getD r.1.toNat 0) ++ lowBits r.2 (xBits r.1)
def ordBits (hl : List Nat) (k : Nat) : List Bool := (orderL.take k).flatMap fun o => lowBits (hl.getD o 0 : Int) 3
def runsBits (hl : List Nat) (rs : List (Int × Int)) : List Bool := rs.flatMap (runBits hl)
/-- The header's bits. -/
def headBits (a b : Nat) (rs : List (Int × Int)) (hl : List Nat) : List Bool :=
  lowBits ((a - 257 : Nat) : Int) 5 ++ (lowBits ((b - 1 : Nat) : Int) 5 ++ (lowBits ((ordN hl 19 - 4 : Nat) : Int) 4 ++ (ordBits hl (ordN hl 19) ++ runsBits hl rs)))
def HeadRel (x y : List Nat) (bs : List Bool) : Prop := ∃ rs hl, FoldRes ((x ++ y).map fun (n : Nat) => (n : Int)) rs ∧ LimTo (runWs rs) 7 hl ∧ bs = headBits x.length y.length rs hl
theorem HeadRel.uniq {x y : List Nat} {a b : List Bool} (h : HeadRel x y a) (k : HeadRel x y b) : a = b := by
  obtain ⟨rs, hl, h1, h2, rfl⟩ := h
  obtain ⟨rs', hl', k1, k2, rfl⟩ := k
  have e := h1.uniq k1
  subst e
  rw [h2.uniq k2]

theorem ordBits_succ (hl : List Nat) (k : Nat) (h : k < 19) : ordBits hl (k + 1) = ordBits hl k ++ lowBits (hl.getD (orderL.getD k 0) 0 : Int) 3 := by
  unfold ordBits
  rw [List.take_add_one, orderL_get k h]
  simp
theorem runsBits_snoc (hl : List Nat) (rs : List (Int × Int)) (r : Int × Int) : runsBits hl (rs ++ [r]) = runsBits hl rs ++ runBits hl r := by simp [runsBits]
theorem ordBits_le (hl : List Nat) (k : Nat) (h : k ≤ 19) : (ordBits hl k).length ≤ 57 := by
  have key : ∀ k, k ≤ 19 → (ordBits hl k).length = 3 * k := by
    intro k
    induction k with
    | zero => intro _; rfl
    | succ k ih =>
      intro hk
      rw [ordBits_succ hl k (by omega), List.length_append, ih (by omega), lowBits_length]
      omega
  rw [key k h]
  omega
theorem xBits_le (s : Int) : xBits s ≤ 7 := by
  unfold xBits
  split
  · omega
  · split
    · omega
    · split <;> omega
theorem runsBits_le (hl : List Nat) (hm : ∀ z ∈ hl, z ≤ 15) (rs : List (Int × Int)) : (runsBits hl rs).length ≤ 22 * rs.length := by
  induction rs with
  | nil => exact Nat.le_refl _
  | cons r rs ih =>
    show (runBits hl r ++ runsBits hl rs).length ≤ _
    rw [List.length_append, List.length_cons]
    have h1 : (runBits hl r).length ≤ 22 := by
      unfold runBits highBits
      rw [List.length_append, List.length_reverse, lowBits_length, lowBits_length]
      have := xBits_le r.1
      have h2 : hl.getD r.1.toNat 0 ≤ 15 := by
        rw [List.getD_eq_getElem?_getD]
        cases hq : hl[r.1.toNat]? with
        | none => exact Nat.zero_le _
        | some z => exact hm z (List.mem_of_getElem? hq)
      omega
    omega

/-- Runs of a fold are runs. -/
theorem folds_ok : ∀ (rs : List (Int × Int)) (p : Option Int) (l : List Int), Folds p l rs → (∀ x ∈ l, 0 ≤ x ∧ x ≤ 15) → ∀ r ∈ rs, 0 ≤ r.1 ∧ r.1 ≤ 18
  | [], _, _, _, _, r, hr => by cases hr
  | r0 :: rs, p, l, h, hv, r, hr => by
    obtain ⟨x, t, hl, h1, h2⟩ := h
    rcases List.mem_cons.1 hr with e | e
    · rw [e, h1]
      have hx := hv x (by rw [hl]; exact List.mem_cons_self ..)
      unfold stepF
      split
      · exact ⟨by show (0 : Int) ≤ 18; omega, by show (18 : Int) ≤ 18; omega⟩
      · split
        · exact ⟨by show (0 : Int) ≤ 17; omega, by show (17 : Int) ≤ 18; omega⟩
        · split
          · exact ⟨by show (0 : Int) ≤ 16; omega, by show (16 : Int) ≤ 18; omega⟩
          · exact ⟨hx.1, by show x ≤ 18; omega⟩
    · exact folds_ok rs (some x) _ h2 (fun z hz => hv z (List.mem_of_mem_drop hz)) r e
theorem foldRes_ok {l : List Int} {rs : List (Int × Int)} (h : FoldRes l rs) : ∀ r ∈ rs, 0 ≤ r.1 ∧ r.1 ≤ 18 := by
  rcases h with ⟨h1, h2⟩ | ⟨_, rfl⟩
  · exact folds_ok rs none l h2 ((lenB_iff l).1 h1)
  · intro r hr; cases hr

theorem codesL_get (ls : List Nat) (i : Nat) (h : i < ls.length) : (codesL ls)[i]? = some (codeN ls i) := by
  unfold codesL
  rw [List.getElem?_map, List.getElem?_range h]
  rfl
/-- What Codes gives of lengths that make a code. -/
theorem codes_res {W w' : World} {ls : List Nat} {r : Value} (h : CodesRes W (ls.map fun (x : Nat) => (x : Int)) r w') (hm : MakesC ls) :
    ∃ g c, r = .tuple #[.slice g ls.length c, .int .i64 0] ∧ w'.ownsRow W.heap.size 3 1 (.slice g ls.length c) ls.length (natCs (codesL ls)) := by
  have hg : goodB (ls.map fun (x : Nat) => (x : Int)) = true := (goodB_iff _).2 ⟨fun x hx => by
    obtain ⟨y, hy, rfl⟩ := List.mem_map.1 hx
    have := hm.each y hy
    omega, by rw [nat_back]; exact hm⟩
  rcases h with ⟨h1, _⟩ | ⟨_, v, rfl, h3⟩
  · rw [hg] at h1; cases h1
  · rw [nat_back, List.length_map] at h3
    rcases len_form h3 with ⟨e1, e2⟩ | ⟨g, c, e1⟩
    · rw [e1] at h3 ⊢
      exact ⟨none, 0, by rw [e2], by rw [e2] at h3 ⊢; exact h3⟩
    · rw [e1] at h3 ⊢
      exact ⟨_, c, rfl, h3⟩
/-- What Lengths gives, with any limit. -/
theorem lim_res {W w' : World} {ws : List Nat} {m : Nat} {r : Value} (h : LenRes W (ws.map fun (x : Nat) => (x : Int)) (m : Int) r w') (h1 : 1 ≤ m) (h2 : m ≤ 15) (hl : ws.length ≤ 512) (hc : ws.length ≤ 2 ^ m) (hx : ∀ x ∈ ws, x ≤ 1000000) :
    ∃ g c out, r = .tuple #[.slice g ws.length c, .int .i64 0] ∧ LimTo ws m out ∧ w'.ownsRow W.heap.size 3 1 (.slice g ws.length c) ws.length (natCs out) := by
  have hg : GoodW (ws.map fun (x : Nat) => (x : Int)) (m : Int) := goodW_nat ws m h1 h2 hl hx hc
  rcases h with ⟨h1, _⟩ | ⟨_, v, out, rfl, h2, h3⟩
  · exact absurd hg h1
  · rw [nat_back, Int.toNat_natCast] at h2
    rw [List.length_map] at h3
    rcases len_form h3 with ⟨e1, e2⟩ | ⟨g, c, e1⟩
    · rw [e1] at h3 ⊢
      exact ⟨none, 0, out, by rw [e2], h2, by rw [e2] at h3 ⊢; exact h3⟩
    · rw [e1] at h3 ⊢
      exact ⟨_, c, out, rfl, h2, h3⟩

/-- A block that a writer does not turn. -/
def FreeB (p : Nat) (v : Value) (w : World) (b : Nat) : Prop := b < w.heap.size ∧ b ≠ p ∧ v.ownBlock ≠ some b
section
variable {p b : Nat} {v v' : Value} {w w' : World}
theorem FreeB.step (h : FreeB p v w b) (s : Step p v v' w w') : FreeB p v' w' b := by
  refine ⟨Nat.lt_of_lt_of_le h.1 s.size, h.2.1, ?_⟩
  rcases s.own with e | e
  · rw [e]; exact h.2.2
  · intro e2
    have := e b e2
    have := h.1
    omega
theorem FreeB.cell (h : FreeB p v w b) (s : Step p v v' w w') (o : Nat) : w'.cell? ⟨b, o, none⟩ = w.cell? ⟨b, o, none⟩ :=
  World.cell?_of_block (a := ⟨b, o, none⟩) (s.block b h.1 h.2.1 (fun e => h.2.2 e.symm))
theorem Step.ofBelow (h : Below w.heap.size w w') : Step p v v w w' := ⟨h.os, h.tape, h.output, h.size, fun k hk _ _ => h.block k hk, .inl rfl⟩
theorem Step.drewN (w : World) (n : Nat) : Step p v v w (w.drewN n) := ⟨rfl, rfl, rfl, Nat.le_refl _, fun _ _ _ _ => rfl, .inl rfl⟩
end
/-- Numbers that a writer does not turn; runs; tokens. -/
structure KN (p : Nat) (v : Value) (w : World) (a : Option Addr) (l : List Nat) : Prop where
  arg : ArgN w a l
  free : ∀ b off, a = some ⟨b, off, none⟩ → FreeB p v w b
structure KR (p : Nat) (v : Value) (w : World) (a : Option Addr) (l : List (Int × Int)) : Prop where
  arg : ArgR w a l
  free : ∀ b off, a = some ⟨b, off, none⟩ → FreeB p v w b
structure KT (p : Nat) (v : Value) (w : World) (a : Option Addr) (l : List (Nat × Int × Int)) : Prop where
  arg : ArgT w a l
  free : l ≠ [] → ∀ b off, a = some ⟨b, off, none⟩ → FreeB p v w b
section
variable {p : Nat} {v v' : Value} {w w' : World} {a : Option Addr}
theorem KN.step {l : List Nat} (h : KN p v w a l) (s : Step p v v' w w') : KN p v' w' a l := by
  refine ⟨fun i x hx => ?_, fun b off e => (h.free b off e).step s⟩
  obtain ⟨b, off, h1, h2, h3⟩ := h.arg i x hx
  exact ⟨b, off, h1, Nat.lt_of_lt_of_le h2 s.size, by rw [(h.free b off h1).cell s]; exact h3⟩
theorem KR.step {l : List (Int × Int)} (h : KR p v w a l) (s : Step p v v' w w') : KR p v' w' a l := by
  refine ⟨fun i x y hx => ?_, fun b off e => (h.free b off e).step s⟩
  obtain ⟨b, off, h1, h2, h3, h4⟩ := h.arg i x y hx
  exact ⟨b, off, h1, Nat.lt_of_lt_of_le h2 s.size, by rw [(h.free b off h1).cell s]; exact h3, by rw [(h.free b off h1).cell s]; exact h4⟩
theorem KT.step {l : List (Nat × Int × Int)} (h : KT p v w a l) (s : Step p v v' w w') : KT p v' w' a l := by
  refine ⟨fun i t hx => ?_, fun hne b off e => (h.free hne b off e).step s⟩
  have hne : l ≠ [] := List.ne_nil_of_mem (List.mem_of_getElem? hx)
  obtain ⟨b, off, h1, h2, h3, h4, h5⟩ := h.arg i t hx
  exact ⟨b, off, h1, Nat.lt_of_lt_of_le h2 s.size, by rw [(h.free hne b off h1).cell s]; exact h3, by rw [(h.free hne b off h1).cell s]; exact h4, by rw [(h.free hne b off h1).cell s]; exact h5⟩
/-- Tokens that are older than the writer. -/
theorem KT.fresh {W : World} {l : List (Nat × Int × Int)} (h : ArgT W a l) (b : Below W.heap.size W w) (hp : W.heap.size ≤ p) (hv : ∀ k, v.ownBlock = some k → W.heap.size ≤ k) : KT p v w a l := by
  refine ⟨h.below b (Nat.le_refl _), fun hne g off e => ?_⟩
  obtain ⟨t, l', rfl⟩ := List.exists_cons_of_ne_nil hne
  obtain ⟨b', off', h1, h2, _⟩ := h 0 t rfl
  rw [e] at h1
  injection h1 with h1
  injection h1 with h1
  subst h1
  have := b.size
  exact ⟨by omega, by omega, fun e2 => by have := hv g e2; omega⟩
end
theorem Wr.old {w : World} {p : Nat} {v : Value} {bs : List Bool} (h : Wr w p v bs) : p < w.heap.size ∧ ∀ k, v.ownBlock = some k → k < w.heap.size := by
  obtain ⟨out, h1, _⟩ := h
  exact ⟨(Array.getElem?_eq_some_iff.1 h1.box).1, fun k hk => (h1.own.lt k hk).2⟩
theorem Wr.below {w w' : World} {p : Nat} {v : Value} {bs : List Bool} (h : Wr w p v bs) (b : Below w.heap.size w w') : Wr w' p v bs := by
  obtain ⟨hp, _⟩ := h.old
  obtain ⟨out, h1, h2⟩ := h
  exact ⟨out, ⟨by rw [b.block p hp]; exact h1.box, own_below h1.own b (Nat.le_refl _), h1.ne⟩, h2⟩
/-- What is new is no writer's. -/
theorem free_new {W w : World} {p b : Nat} {v : Value} (hp : p < W.heap.size) (hv : ∀ k, v.ownBlock = some k → k < W.heap.size) (h1 : W.heap.size ≤ b) (h2 : b < w.heap.size) : FreeB p v w b :=
  ⟨h2, by omega, fun e => by have := hv b e; omega⟩

end Go.Proofs.Ytpgkmbakohfpkaa
