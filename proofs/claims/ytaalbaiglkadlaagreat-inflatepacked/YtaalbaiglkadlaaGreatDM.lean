import Derived.Test.YtaalbaiglkadlaaGreatBS
import Derived.Test.YtaalbaiglkadlaaGreatDSlice
/- Streams, plainly: blocks one behind the other; how long a stream is; stored ones. Nothing of the program is named here, but by what is imported. -/
namespace Go.Proofs.YtaalbaiglkadlaaGreat
open Go.RowKit Go.Lib

/-- How many bytes tokens stand for. -/
def covT (t : Nat × Int × Int) : Nat := if t.2.1 ≤ 1 then 1 else t.2.1.toNat
def covL (l : List (Nat × Int × Int)) : Nat := (l.map covT).sum
theorem covL_nil : covL [] = 0 := rfl
theorem covL_append (a b : List (Nat × Int × Int)) : covL (a ++ b) = covL a + covL b := by unfold covL; rw [List.map_append, List.sum_append]
theorem covL_snoc (a : List (Nat × Int × Int)) (t : Nat × Int × Int) : covL (a ++ [t]) = covL a + covT t := by rw [covL_append]; show _ + (covT t + 0) = _; omega
/-- One more block. -/
def StepRel (s : ByteArray) (bs : List Bool) (i : Nat) (part : List (Nat × Int × Int)) (c : Int) (last : Bool) (bs' : List Bool) : Prop :=
  (c = 0 ∧ bs' = storeAll bs (subB s i (covL part)) last) ∨ (c ≠ 0 ∧ ∃ ob, BlockRel part c last ob ∧ bs' = bs ++ ob)
theorem StepRel.uniq {s : ByteArray} {bs : List Bool} {i : Nat} {part : List (Nat × Int × Int)} {c : Int} {last : Bool} {x y : List Bool} (h : StepRel s bs i part c last x) (k : StepRel s bs i part c last y) : x = y := by
  rcases h with ⟨h1, rfl⟩ | ⟨h1, ob, h2, rfl⟩
  · rcases k with ⟨_, rfl⟩ | ⟨k1, _⟩
    · rfl
    · exact absurd h1 k1
  · rcases k with ⟨k1, _⟩ | ⟨_, ob', k2, rfl⟩
    · exact absurd k1 h1
    · rw [h2.uniq k2]
/-- Blocks of 512 tokens, k at most. -/
def Blocks (s : ByteArray) : Nat → List Bool → Nat → List (Nat × Int × Int) → List Bool → Prop
  | 0, _, _, _, _ => False
  | k + 1, bs, i, l, out => ∃ c bs', ChooseRel (l.take 512) (covL (l.take 512) : Int) (bs.length : Int) c ∧ StepRel s bs i (l.take 512) c (decide (l.length ≤ 512)) bs' ∧
      ((l.length ≤ 512 ∧ out = bs') ∨ (512 < l.length ∧ Blocks s k bs' (i + covL (l.take 512)) (l.drop 512) out))
theorem Blocks.uniq {s : ByteArray} : ∀ (k m : Nat) (bs : List Bool) (i : Nat) (l : List (Nat × Int × Int)) (x y : List Bool), Blocks s k bs i l x → Blocks s m bs i l y → x = y
  | 0, _, _, _, _, _, _, h, _ => h.elim
  | _ + 1, 0, _, _, _, _, _, _, h => h.elim
  | k + 1, m + 1, bs, i, l, x, y, h, g => by
    obtain ⟨c, b1, h1, h2, h3⟩ := h
    obtain ⟨c', b2, g1, g2, g3⟩ := g
    have e := h1.uniq g1
    subst e
    have e := h2.uniq g2
    subst e
    rcases h3 with ⟨h4, rfl⟩ | ⟨h4, h5⟩
    · rcases g3 with ⟨_, rfl⟩ | ⟨g4, _⟩
      · rfl
      · omega
    · rcases g3 with ⟨g4, _⟩ | ⟨_, g5⟩
      · omega
      · exact Blocks.uniq k m _ _ _ _ _ h5 g5

theorem subB_size (s : ByteArray) (i n : Nat) (h : i + n ≤ s.size) : (subB s i n).size = n := by
  show (((s.data.toList.drop i).take n).toArray).size = n
  have : s.data.toList.length = s.size := by rw [Array.length_toList]; rfl
  rw [List.size_toArray, List.length_take, List.length_drop]
  omega
/-- A block is no longer than a stored one. -/
theorem StepRel.le {s : ByteArray} {bs : List Bool} {i : Nat} {part : List (Nat × Int × Int)} {c : Int} {last : Bool} {x : List Bool} (h : StepRel s bs i part c last x) (hc : ChooseRel part (covL part : Int) (bs.length : Int) c) (hi : i + covL part ≤ s.size) (hs : s.size ≤ 65535) :
    x.length ≤ bs.length + 8 * covL part + 42 ∧ bs.length + 10 ≤ x.length := by
  rcases h with ⟨h1, rfl⟩ | ⟨h1, ob, h2, rfl⟩
  · rw [storeAll_length, subB_size s i _ hi]
    omega
  · have hz : ∃ z, SizeRel part (covL part : Int) c (bs.length : Int) z ∧ z ≤ (ob.length : Int) ∧ (ob.length : Int) ≤ z := by
      obtain ⟨f, r, d, hf, hr, hd, hch⟩ := hc
      have hcr := choose_range ⟨f, r, d, hf, hr, hd, hch⟩
      have h12 : c = 1 ∨ c = 2 := by omega
      rcases h12 with e | e
      · rcases hf with ⟨e0, _⟩ | ⟨_, ob2, g2, g3, rfl⟩
        · exact absurd e0 (by decide)
        · rw [e] at h2
          have := g2.len h2
          exact ⟨_, .inr ⟨h1, ob2, by rw [e]; exact g2, g3, rfl⟩, by omega, by omega⟩
      · rcases hd with ⟨e0, _⟩ | ⟨_, ob2, g2, g3, rfl⟩
        · exact absurd e0 (by decide)
        · rw [e] at h2
          have := g2.len h2
          exact ⟨_, .inr ⟨h1, ob2, by rw [e]; exact g2, g3, rfl⟩, by omega, by omega⟩
    obtain ⟨z, hz1, hz2, hz3⟩ := hz
    have hl := choose_least (by omega) (by omega) hc hz1
    rw [List.length_append]
    have hge : 10 ≤ ob.length := by
      rcases h2 with ⟨_, hb, hh, rfl⟩ | ⟨_, rfl⟩
      · have := headRel_ge hh
        simp only [List.length_append, List.length_singleton, lowBits_length]
        omega
      · unfold bodyBits highBits
        have e256 : plainL.getD 256 0 = 7 := by decide +kernel
        simp only [List.length_append, List.length_singleton, lowBits_length, List.length_reverse, e256]
        omega
    omega
/-- A stream is never much longer than its text. -/
theorem Blocks.le {s : ByteArray} (hs : s.size ≤ 65535) : ∀ (k : Nat) (bs : List Bool) (i : Nat) (l : List (Nat × Int × Int)) (x : List Bool), Blocks s k bs i l x → i + covL l ≤ s.size → x.length ≤ bs.length + 8 * covL l + 42 * (l.length / 512 + 1) ∧ bs.length + 10 ≤ x.length
  | 0, _, _, _, _, h, _ => h.elim
  | k + 1, bs, i, l, x, h, hi => by
    obtain ⟨c, b1, h1, h2, h3⟩ := h
    have hsum : covL l = covL (l.take 512) + covL (l.drop 512) := by rw [← covL_append, List.take_append_drop]
    have h4 := h2.le h1 (by omega) hs
    rcases h3 with ⟨h5, rfl⟩ | ⟨h5, h6⟩
    · have : l.length / 512 ≤ 1 := by omega
      omega
    · have ih := Blocks.le hs k b1 _ _ x h6 (by omega)
      rw [List.length_drop] at ih
      have : (l.length - 512) / 512 + 1 ≤ l.length / 512 := by omega
      omega

theorem low16 (n : Nat) (h : n ≤ 65535) : lowBits (n : Int) 16 = bytesBits [UInt8.ofNat (n % 256), UInt8.ofNat (n / 256)] := by
  have e1 : (UInt8.ofNat (n % 256)).toNat = n % 256 := by simp
  have e2 : (UInt8.ofNat (n / 256)).toNat = n / 256 := by simp; omega
  apply List.ext_getElem?
  intro i
  have hb := bytesBits_getD [UInt8.ofNat (n % 256), UInt8.ofNat (n / 256)] i
  by_cases hi : i < 16
  · rw [lowBits_get _ _ _ hi]
    have hl : i < (bytesBits [UInt8.ofNat (n % 256), UInt8.ofNat (n / 256)]).length := by rw [bytesBits_length]; exact hi
    rw [List.getD_eq_getElem?_getD, List.getElem?_eq_getElem hl] at hb
    rw [List.getElem?_eq_getElem hl]
    congr 1
    rw [show (bytesBits [UInt8.ofNat (n % 256), UInt8.ofNat (n / 256)])[i] = _ from hb]
    have e3 : ((n : Int) / 2 ^ i % 2 = 1) ↔ (n / 2 ^ i % 2 = 1) := by
      have e : ((n : Int) / 2 ^ i % 2) = ((n / 2 ^ i % 2 : Nat) : Int) := by
        rw [Int.natCast_emod, Int.natCast_ediv, Int.natCast_pow]
        rfl
      rw [e]
      omega
    rw [decide_eq_decide.2 e3, ← Nat.testBit_eq_decide_div_mod_eq]
    by_cases h8 : i < 8
    · rw [show i / 8 = 0 by omega, show i % 8 = i by omega]
      show _ = (UInt8.ofNat (n % 256)).toNat.testBit i
      rw [e1, show (256 : Nat) = 2 ^ 8 from rfl, Nat.testBit_mod_two_pow, decide_eq_true h8, Bool.true_and]
    · rw [show i / 8 = 1 by omega, show i % 8 = i - 8 by omega]
      show _ = (UInt8.ofNat (n / 256)).toNat.testBit (i - 8)
      rw [e2, show (256 : Nat) = 2 ^ 8 from rfl, Nat.testBit_div_two_pow]
      congr 1
      omega
  · rw [List.getElem?_eq_none (by rw [lowBits_length]; omega), List.getElem?_eq_none (by rw [bytesBits_length]; show 8 * 2 ≤ i; omega)]
theorem bytesBits_append (a b : List UInt8) : bytesBits (a ++ b) = bytesBits a ++ bytesBits b := by
  induction a with
  | nil => rfl
  | cons x a ih => rw [List.cons_append, bytesBits, ih, bytesBits, List.append_assoc]
/-- One stored block alone. -/
theorem store_alone (s : ByteArray) (h : s.size ≤ 65535) : storeAll [] s true = bytesBits ([1, UInt8.ofNat (s.size % 256), UInt8.ofNat (s.size / 256), UInt8.ofNat ((65535 - s.size) % 256), UInt8.ofNat ((65535 - s.size) / 256)] ++ s.data.toList) := by
  unfold storeAll
  have e1 : alignBits ([] ++ [true] ++ lowBits 0 2) = bytesBits [1] := by decide +kernel
  rw [e1, low16 s.size h, show (65535 : Int) - (s.size : Int) = ((65535 - s.size : Nat) : Int) by omega, low16 (65535 - s.size) (by omega)]
  rw [align_done _ (by simp only [List.length_append, bytesBits_length]; show (8 * 1 + 8 * 2 + 8 * 2) % 8 = 0; rfl)]
  rw [← bytesBits_append, ← bytesBits_append, ← bytesBits_append]
  rfl

end Go.Proofs.YtaalbaiglkadlaaGreat

/- Streams under way, for any writer: tokens cut into parts, blocks one behind the other; what Pack gives. -/
namespace Go.Proofs.YtaalbaiglkadlaaGreat
open Go.RowKit Go.Lib

/-- What a text, by a level, is packed to, and the error's number. -/
def PackRel (s : ByteArray) (level : Int) (t : List UInt8) (er : Int) : Prop :=
  ((level < 0 ∨ 9 < level) ∧ t = [] ∧ er = 1) ∨ (level = 0 ∧ Packs (storeAll [] s true) t ∧ er = 0) ∨
    (1 ≤ level ∧ level ≤ 9 ∧ er = 0 ∧ ∃ ts bits k, Toks (bAt s) s.size level 0 ts ∧ Blocks s k [] 0 (ts.map castT) bits ∧ Packs bits t)
theorem PackRel.uniq {s : ByteArray} {level : Int} {t t2 : List UInt8} {er er2 : Int} (h : PackRel s level t er) (g : PackRel s level t2 er2) : t = t2 ∧ er = er2 := by
  rcases h with ⟨h1, h2, h3⟩ | ⟨h1, h2, h3⟩ | ⟨h1, h2, h3, ts, bits, k, h4, h5, h6⟩
  · rcases g with ⟨g1, g2, g3⟩ | ⟨g1, g2, g3⟩ | ⟨g1, g2, g3, _⟩
    · exact ⟨h2.trans g2.symm, h3.trans g3.symm⟩
    · omega
    · omega
  · rcases g with ⟨g1, g2, g3⟩ | ⟨g1, g2, g3⟩ | ⟨g1, g2, g3, _⟩
    · omega
    · exact ⟨h2.uniq g2, h3.trans g3.symm⟩
    · omega
  · rcases g with ⟨g1, g2, g3⟩ | ⟨g1, g2, g3⟩ | ⟨g1, g2, g3, ts', bits', k', g4, g5, g6⟩
    · omega
    · omega
    · have e := Toks.uniq 0 ts ts' h4 g4
      subst e
      have e := Blocks.uniq k k' _ _ _ _ _ h5 g5
      subst e
      exact ⟨h6.uniq g6, h3.trans g3.symm⟩
/-- What Pack gives. -/
def PackPost (W : World) (s : ByteArray) (level : Int) (e : Ending) (w' : World) : Prop := ∃ t er, e = .returned (.tuple #[.string ⟨(t : List UInt8).toArray⟩, .int .i64 er]) ∧ PackRel s level t er ∧ Below W.heap.size W w'

theorem cov_takes (t : Nat × Nat × Nat) : covT (castT t) = takes t := by
  unfold covT castT takes
  dsimp only
  split
  · split
    · rfl
    · omega
  · split
    · omega
    · omega
/-- Tokens come to the whole text. -/
theorem toks_cov (s : ByteArray) (level : Int) : ∀ (ts : List (Nat × Nat × Nat)) (i : Nat), Toks (bAt s) s.size level i ts → i + covL (ts.map castT) = s.size
  | [], i, h => by
    have h : i = s.size := h
    rw [List.map_nil, covL_nil]
    omega
  | t :: ts, i, h => by
    obtain ⟨_, _, h3⟩ := h
    have ih := toks_cov s level ts _ h3
    rw [List.map_cons, show castT t :: ts.map castT = [castT t] ++ ts.map castT from rfl, covL_append]
    have e : covL [castT t] = covT (castT t) := by show covT (castT t) + 0 = _; omega
    rw [e, cov_takes]
    omega
theorem cov_ge : ∀ (l : List (Nat × Int × Int)), l.length ≤ covL l
  | [] => Nat.le_refl _
  | t :: l => by
    have ih := cov_ge l
    have e : covL (t :: l) = covT t + covL l := rfl
    have h : 1 ≤ covT t := by unfold covT; split <;> omega
    rw [e, List.length_cons]
    omega

theorem ArgT.take {w : World} {a : Option Addr} {l : List (Nat × Int × Int)} (h : ArgT w a l) (k : Nat) : ArgT w a (l.take k) := by
  intro i t hx
  rw [List.getElem?_take] at hx
  split at hx
  · exact h i t hx
  · cases hx
theorem KT.take {p : Nat} {v : Value} {w : World} {a : Option Addr} {l : List (Nat × Int × Int)} (h : KT p v w a l) (k : Nat) : KT p v w a (l.take k) :=
  ⟨h.arg.take k, fun hne => h.free (fun e => hne (by rw [e]; exact List.take_nil))⟩
theorem KT.left {p : Nat} {v : Value} {w : World} {a : Option Addr} {l : List (Nat × Int × Int)} (h : KT p v w a l) (c k : Nat) (hc : k < l.length → c ≠ k) : KT p v w (leftA a c k) (l.drop k) := by
  by_cases hk : k < l.length
  · obtain ⟨t0, ht0⟩ : ∃ t, l[k]? = some t := ⟨_, List.getElem?_eq_getElem hk⟩
    obtain ⟨b, off, rfl, _⟩ := h.arg k t0 ht0
    have hne : l ≠ [] := List.ne_nil_of_mem (List.mem_of_getElem? ht0)
    have hl : leftA (some ⟨b, off, none⟩) c k = some ⟨b, off + k * 3, none⟩ := by
      unfold leftA
      rw [if_neg (hc hk)]
      simp only [Option.map, Addr.add]
      split
      · rename_i e; rw [e, Nat.add_zero]
      · rfl
    rw [hl]
    refine ⟨fun i t hx => ?_, fun _ b2 off2 e => ?_⟩
    · rw [List.getElem?_drop] at hx
      obtain ⟨b2, off2, e, h1, h2, h3, h4⟩ := h.arg _ t hx
      injection e with e
      injection e with e1 e2
      subst e1 e2
      have e3 : off + (k + i) * 3 = off + k * 3 + i * 3 := by omega
      rw [e3] at h2 h3 h4
      exact ⟨b, off + k * 3, rfl, h1, h2, h3, h4⟩
    · injection e with e
      injection e with e1 _
      subst e1
      exact h.free hne b off rfl
  · rw [List.drop_of_length_le (by omega)]
    exact ⟨fun i t hx => by simp at hx, fun hne => absurd rfl hne⟩
theorem leftA_nil (a : Option Addr) (c k : Nat) (h : leftA a c k = none) : a = none := by
  unfold leftA at h
  split at h
  · exact h
  · cases a with
    | none => rfl
    | some x => cases h

/-- Blocks under way: R tells what a writer holds; L are all tokens, LL those that are left, at i of the text. -/
structure DW (R : World → Nat → Value → List Bool → Prop) (w W : World) (s : ByteArray) (L : List (Nat × Int × Int)) (p : Nat) (v : Value) (a : Option Addr) (c : Nat) (LL : List (Nat × Int × Int)) (i : Nat) (bs : List Bool) : Prop where
  wr : R w p v bs
  kt : KT p v w a LL
  bel : Below W.heap.size W w
  new : W.heap.size ≤ p ∧ ∀ k, v.ownBlock = some k → W.heap.size ≤ k
  blk : ∀ k out, Blocks s k bs i LL out → ∃ k', Blocks s k' [] 0 L out
  cov : i + covL LL = s.size
  len : bs.length ≤ 50 * i
  right : ∀ t ∈ LL, RightT t
  cap : LL.length ≤ c
  nil : a = none → c = 0
section
variable {R : World → Nat → Value → List Bool → Prop} {w w' W : World} {s : ByteArray} {L LL : List (Nat × Int × Int)} {p i c : Nat} {v v' : Value} {a : Option Addr} {bs b1 : List Bool} {kd : Int}
/-- In a later world, nothing old being turned. -/
theorem DW.below (h : DW R w W s L p v a c LL i bs) (b : Below w.heap.size w w') (hR : R w' p v bs) : DW R w' W s L p v a c LL i bs :=
  ⟨hR, h.kt.step (Step.ofBelow b), h.bel.trans (b.mono h.bel.size), h.new, h.blk, h.cov, h.len, h.right, h.cap, h.nil⟩
theorem DW.sum (h : DW R w W s L p v a c LL i bs) (n : Nat) : i + covL (LL.take n) + covL (LL.drop n) = s.size := by
  have h1 := h.cov
  have h2 : covL LL = covL (LL.take n) + covL (LL.drop n) := by rw [← covL_append, List.take_append_drop]
  omega
/-- Behind a block that is not the last. -/
theorem DW.next (h : DW R w W s L p v a c LL i bs) (hs : s.size ≤ 65535) (hl : 512 < LL.length) (hc : ChooseRel (LL.take 512) (covL (LL.take 512) : Int) (bs.length : Int) kd) (hb : StepRel s bs i (LL.take 512) kd false b1) (hR : R w' p v' b1) (st : Step p v v' w w') :
    DW R w' W s L p v' (leftA a c 512) (c - 512) (LL.drop 512) (i + covL (LL.take 512)) b1 := by
  have hsum := h.sum 512
  have hcap := h.cap
  refine ⟨hR, (h.kt.step st).left c 512 (fun _ => by omega), st.new h.bel h.new.1 h.new.2, ⟨h.new.1, fun k hk => ?_⟩, fun k out hB => ?_, by omega, ?_, fun t ht => h.right t (List.mem_of_mem_drop ht), by rw [List.length_drop]; omega, fun e => ?_⟩
  · rcases st.own with e | e
    · rw [e] at hk; exact h.new.2 k hk
    · have := e k hk
      have := h.bel.size
      omega
  · refine h.blk (k + 1) out ⟨kd, b1, hc, ?_, .inr ⟨hl, hB⟩⟩
    rw [decide_eq_false (by omega)]
    exact hb
  · have h1 := (hb.le hc (by omega) hs).1
    have h2 := h.len
    have h3 := cov_ge (LL.take 512)
    rw [List.length_take] at h3
    omega
  · have := h.nil (leftA_nil a c 512 e)
    omega
/-- Behind the last block. -/
theorem DW.done (h : DW R w W s L p v a c LL i bs) (hl : LL.length ≤ 512) (hc : ChooseRel (LL.take 512) (covL (LL.take 512) : Int) (bs.length : Int) kd) (hb : StepRel s bs i (LL.take 512) kd true b1) : ∃ k, Blocks s k [] 0 L b1 := by
  refine h.blk 1 b1 ⟨kd, b1, hc, ?_, .inl ⟨hl, rfl⟩⟩
  rw [decide_eq_true hl]
  exact hb
end
/-- How long a slice is. -/
def lenV : Value → Nat
  | .slice _ n _ => n
  | _ => 0

end Go.Proofs.YtaalbaiglkadlaaGreat
