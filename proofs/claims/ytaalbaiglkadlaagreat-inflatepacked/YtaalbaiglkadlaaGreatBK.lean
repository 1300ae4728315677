import Derived.Test.YtaalbaiglkadlaaGreatBR
import Derived.Test.YtaalbaiglkadlaaGreatBHead
import Derived.Deep.DeepCutAuto
import Derived.Deep.CutBlock
/- A block's bits, plainly. -/
namespace Go.Proofs.YtaalbaiglkadlaaGreat
open Go.RowKit Go.Lib

/-- A token's bits. -/
def tokBits (la lb : List Nat) (t : Nat × Int × Int) : List Bool :=
  if t.2.1 ≤ 0 then highBits (codeN la t.1 : Int) (la.getD t.1 0)
  else highBits (codeN la (257 + lnT t.2.1) : Int) (la.getD (257 + lnT t.2.1) 0) ++ (lowBits (t.2.1 - (lenBase (lnT t.2.1) : Int)) (lenBits (lnT t.2.1)) ++ (highBits (codeN lb (dsT t.2.2) : Int) (lb.getD (dsT t.2.2) 0) ++ lowBits (t.2.2 - (distBase (dsT t.2.2) : Int)) (distBits (dsT t.2.2))))
def toksBits (la lb : List Nat) (l : List (Nat × Int × Int)) : List Bool := l.flatMap (tokBits la lb)
def bodyBits (la lb : List Nat) (l : List (Nat × Int × Int)) : List Bool := toksBits la lb l ++ highBits (codeN la 256 : Int) (la.getD 256 0)
/-- A block of tokens. -/
def BlockRel (l : List (Nat × Int × Int)) (kind : Int) (last : Bool) (ob : List Bool) : Prop :=
  (kind = 2 ∧ ∃ hb, HeadRel (ownLit l) (ownDist l) hb ∧ ob = [last] ++ (lowBits 2 2 ++ (hb ++ bodyBits (ownLit l) (ownDist l) l))) ∨
  (kind ≠ 2 ∧ ob = [last] ++ (lowBits 1 2 ++ bodyBits plainL plainD l))
theorem BlockRel.uniq {l : List (Nat × Int × Int)} {kind : Int} {last : Bool} {a b : List Bool} (h : BlockRel l kind last a) (k : BlockRel l kind last b) : a = b := by
  rcases h with ⟨h1, hb, h2, rfl⟩ | ⟨h1, rfl⟩
  · rcases k with ⟨_, kb, k2, rfl⟩ | ⟨k1, _⟩
    · rw [h2.uniq k2]
    · exact absurd h1 k1
  · rcases k with ⟨k1, _⟩ | ⟨_, rfl⟩
    · exact absurd k1 h1
    · rfl
/-- What last says does not tell the number of bits. -/
theorem BlockRel.len {l : List (Nat × Int × Int)} {kind : Int} {p q : Bool} {a b : List Bool} (h : BlockRel l kind p a) (k : BlockRel l kind q b) : a.length = b.length := by
  rcases h with ⟨h1, hb, h2, rfl⟩ | ⟨h1, rfl⟩
  · rcases k with ⟨_, kb, k2, rfl⟩ | ⟨k1, _⟩
    · rw [h2.uniq k2]; simp only [List.length_append, List.length_singleton]
    · exact absurd h1 k1
  · rcases k with ⟨k1, _⟩ | ⟨_, rfl⟩
    · exact absurd k1 h1
    · simp only [List.length_append, List.length_singleton]

theorem toks_snoc (la lb : List Nat) (l : List (Nat × Int × Int)) (t : Nat × Int × Int) : toksBits la lb (l ++ [t]) = toksBits la lb l ++ tokBits la lb t := by simp [toksBits]

/-- Lengths that serve for these tokens. -/
structure CodesOk (la lb : List Nat) (l : List (Nat × Int × Int)) : Prop where
  ma : MakesC la
  mb : MakesC lb
  la1 : 256 < la.length
  la2 : la.length ≤ 300
  lb1 : 1 ≤ lb.length
  lb2 : lb.length ≤ 300
  fit : ∀ t ∈ l, symT t < la.length ∧ (0 < t.2.1 → farT t < lb.length)

theorem makes_plainL : MakesC plainL := ⟨by decide +kernel, .inl (by decide +kernel)⟩
theorem makes_plainD : MakesC plainD := ⟨by decide +kernel, .inl (by decide +kernel)⟩
theorem plainL_length : plainL.length = 288 := by simp [plainL]
theorem plainD_length : plainD.length = 32 := by simp [plainD]
theorem plain_ok (l : List (Nat × Int × Int)) (hr : ∀ t ∈ l, RightT t) : CodesOk plainL plainD l := by
  refine ⟨makes_plainL, makes_plainD, by rw [plainL_length]; omega, by rw [plainL_length]; omega, by rw [plainD_length]; omega, by rw [plainD_length]; omega, fun t ht => ?_⟩
  rw [plainL_length, plainD_length]
  have := symT_lt (hr t ht)
  have := farT_lt t
  exact ⟨by omega, fun _ => by omega⟩
theorem lens_getD (ws : List Nat) (i : Nat) (h : i < ws.length) : (lens ws).getD i 0 = lenF ws i := by
  unfold lens
  rw [List.getD_eq_getElem?_getD, List.getElem?_map, List.getElem?_range h]
  rfl
theorem cut_has (l : List Nat) (least i : Nat) (h : l.getD i 0 ≠ 0) : i < (cutL l least).length := by
  refine Classical.byContradiction fun hn => h ?_
  rw [← cutL_get l least i, List.getD_eq_getElem?_getD, List.getElem?_eq_none (by omega)]
  rfl
theorem small_short (ws : List Nat) (h : ws.sum < 2584) : shortL ws 15 := (shortL_iff ws 15).2 (fun s => lens_fib ws h s)
theorem lit_stands (l : List (Nat × Int × Int)) (hl : l.length ≤ 2000) (s : Nat) (hs : s < 286) : (lens (litWs l)).getD s 0 ≠ 0 ↔ 0 < wL l s := by
  have hsum := litWs_sum l
  have hd : (litWs l).getD s 0 = wL l s := by rw [List.getD_eq_getElem?_getD, litWs_get l s hs]; rfl
  have he := lenF_each (litWs l) (small_short _ (by omega)) s (by rw [litWs_length]; exact hs)
  rw [hd] at he
  rw [lens_getD _ _ (by rw [litWs_length]; exact hs)]
  constructor
  · intro h
    refine Classical.byContradiction fun h2 => h (he.1 (by omega))
  · intro h
    have := (he.2 (by omega)).1
    omega
theorem dist_stands (l : List (Nat × Int × Int)) (hl : l.length ≤ 2000) (s : Nat) (hs : s < 30) : (lens (distWs l)).getD s 0 ≠ 0 ↔ 0 < wD l s := by
  have hsum := distWs_sum l
  have hd : (distWs l).getD s 0 = wD l s := by rw [List.getD_eq_getElem?_getD, distWs_get l s hs]; rfl
  have he := lenF_each (distWs l) (small_short _ (by omega)) s (by rw [distWs_length]; exact hs)
  rw [hd] at he
  rw [lens_getD _ _ (by rw [distWs_length]; exact hs)]
  constructor
  · intro h
    refine Classical.byContradiction fun h2 => h (he.1 (by omega))
  · intro h
    have := (he.2 (by omega)).1
    omega
theorem ownLit_len (l : List (Nat × Int × Int)) : 257 ≤ (ownLit l).length ∧ (ownLit l).length ≤ 286 := by
  unfold ownLit
  rw [cutL_length, lens_length, litWs_length]
  exact ⟨cutN_least _ _ _ (by omega), cutN_le _ _ _⟩
theorem ownDist_len (l : List (Nat × Int × Int)) : 1 ≤ (ownDist l).length ∧ (ownDist l).length ≤ 30 := by
  unfold ownDist
  rw [cutL_length, lens_length, distWs_length]
  exact ⟨cutN_least _ _ _ (by omega), cutN_le _ _ _⟩
theorem own_ok (l : List (Nat × Int × Int)) (hr : ∀ t ∈ l, RightT t) (hl : l.length ≤ 2000) : CodesOk (ownLit l) (ownDist l) l := by
  have hs1 := litWs_sum l
  have hs2 := distWs_sum l
  have h1 := ownLit_len l
  have h2 := ownDist_len l
  refine ⟨(makes_lens _ (small_short _ (by omega))).cut 257, (makes_lens _ (small_short _ (by omega))).cut 1, by omega, by omega, h2.1, by omega, fun t ht => ⟨?_, fun hm => ?_⟩⟩
  · refine cut_has _ _ _ ((lit_stands l hl _ (symT_lt (hr t ht))).2 ?_)
    unfold wL
    have : 0 < l.countP (fun x => symT x == symT t) := List.countP_pos_iff.2 ⟨t, ht, by simp⟩
    omega
  · refine cut_has _ _ _ ((dist_stands l hl _ (farT_lt t)).2 ?_)
    unfold wD
    exact List.countP_pos_iff.2 ⟨t, ht, by unfold isM; simp [hm]⟩

theorem getD_le {l : List Nat} {m : Nat} (h : ∀ x ∈ l, x ≤ m) (k : Nat) : l.getD k 0 ≤ m := by
  rw [List.getD_eq_getElem?_getD]
  cases hq : l[k]? with
  | none => exact Nat.zero_le _
  | some z => exact h z (List.mem_of_getElem? hq)
theorem tokBits_le {la lb : List Nat} (ha : ∀ x ∈ la, x ≤ 15) (hb : ∀ x ∈ lb, x ≤ 15) (t : Nat × Int × Int) : (tokBits la lb t).length ≤ 48 := by
  unfold tokBits highBits
  have h1 := (len_small (lnT t.2.1) (lnT_le _)).2.2
  have h2 := (dist_small (dsT t.2.2) (dsT_le _)).2.2
  have h3 := getD_le ha t.1
  have h4 := getD_le ha (257 + lnT t.2.1)
  have h5 := getD_le hb (dsT t.2.2)
  split
  · rw [List.length_reverse, lowBits_length]; omega
  · simp only [List.length_append, List.length_reverse, lowBits_length]; omega
theorem toksBits_le {la lb : List Nat} (ha : ∀ x ∈ la, x ≤ 15) (hb : ∀ x ∈ lb, x ≤ 15) : ∀ l : List (Nat × Int × Int), (toksBits la lb l).length ≤ 48 * l.length
  | [] => Nat.le_refl _
  | t :: l => by
    have ih := toksBits_le ha hb l
    have h1 := tokBits_le ha hb t
    show (tokBits la lb t ++ toksBits la lb l).length ≤ _
    rw [List.length_append, List.length_cons]
    omega
theorem headRel_le {x y : List Nat} {hb : List Bool} (h : HeadRel x y hb) (hl : (x ++ y).length ≤ 400) : hb.length ≤ 10000 := by
  obtain ⟨rs, hl', h1, h2, rfl⟩ := h
  have hr := h1.length
  rw [List.length_map] at hr
  have hm := (halfJ_short15 h2 (by omega)).2.2
  have h3 := runsBits_le hl' (fun z hz => by have := hm z hz; omega) rs
  have h4 := ordBits_le hl' (ordN hl' 19) (ordN_le hl' 19)
  unfold headBits
  simp only [List.length_append, lowBits_length]
  omega

end Go.Proofs.YtaalbaiglkadlaaGreat

/- Contract of the document's 'Write' of layer 9. -/
namespace Go.Proofs.YtaalbaiglkadlaaGreat
open Go.RowKit Go.Lib

def lastI (b : Bool) : Int := if b = true then 1 else 0
theorem lastI_odd (b : Bool) : decide (lastI b % 2 = 1) = b := by cases b <;> rfl

end Go.Proofs.YtaalbaiglkadlaaGreat
