/- Ahead of the document's 'Open' of layer 11: a stream's reading by steps. -/
import Derived.Test.YtaalbaiglkadlaaGreatID
import Derived.Test.YtaalbaiglkadlaaGreatMA
namespace Go.Proofs.YtaalbaiglkadlaaGreat
open Go.RowKit Go.Lib

/-- What there is fits. -/
def Fits (limit : Int) (o : List Nat) : Prop := o = [] ∨ (o.length : Int) ≤ limit
theorem raw_fits {limit : Int} {out o : List Nat} {B : Nat → Nat} {T i j : Nat} (h : rawP limit out B T i = .ok (o, j)) : Fits limit o := .inr (rawP_len h).2
theorem pour_fits {lit dist : List Nat} {limit : Int} {B : Nat → Nat} {T : Nat} : ∀ f out i o j, pourP lit dist limit f out B T i = .ok (o, j) → Fits limit out → Fits limit o
  | 0, _, _, _, _, h, _ => by cases h
  | f + 1, out, i, o, j, h, hf => by
    unfold pourP at h
    obtain ⟨x, m, h1, h2⟩ := bindP_inv h
    by_cases h256 : x = 256
    · rw [if_pos h256] at h2
      injection h2 with h2
      injection h2 with h2 _
      rw [← h2]
      exact hf
    · rw [if_neg h256] at h2
      by_cases hlt : x < 256
      · rw [if_pos hlt] at h2
        by_cases hlim : limit ≤ (out.length : Int)
        · rw [if_pos hlim] at h2
          cases h2
        · rw [if_neg hlim] at h2
          refine pour_fits f _ _ _ _ h2 (.inr ?_)
          rw [List.length_append]
          show ((out.length + 1 : Nat) : Int) ≤ limit
          omega
      · rw [if_neg hlt] at h2
        obtain ⟨o2, m2, h3, h4⟩ := bindP_inv h2
        refine pour_fits f _ _ _ _ h4 (.inr ?_)
        unfold matchP at h3
        by_cases h285 : 285 < x
        · rw [if_pos h285] at h3
          cases h3
        · rw [if_neg h285] at h3
          obtain ⟨x1, m3, _, h5⟩ := bindP_inv h3
          obtain ⟨d, m4, _, h6⟩ := bindP_inv h5
          by_cases h29 : 29 < d
          · rw [if_pos h29] at h6
            cases h6
          · rw [if_neg h29] at h6
            obtain ⟨y, m5, _, h7⟩ := bindP_inv h6
            obtain ⟨_, h8, h9, _⟩ := copyP_inv h7
            rw [h9, copyN_length]
            omega

/-- A block behind its head. -/
def blockK (limit : Int) (out : List Nat) (last kind : Nat) : Ps (Nat × List Nat) :=
  if kind = 0 then bindP (rawP limit out) fun o => pureP (last, o) else if kind = 3 then failP 3 else
    bindP (codesP kind) fun ab => bindP (chkP (goodB ab.1 && goodB ab.2) 4) fun _ => bindP (pourP (ab.1.map Int.toNat) (ab.2.map Int.toNat) limit 1000000 out) fun o => pureP (last, o)
theorem block_heads {s : ByteArray} {limit : Int} {out : List Nat} {i x1 q1 x2 q2 : Nat} {b1 b2 : Bool} (r1 : RdRel 1 i s false x1 q1 b1) (r2 : RdRel 2 q1 s b1 x2 q2 b2) :
    (b2 = true ∧ blockP limit out (srcB s) (8 * s.size) i = .error 2) ∨ (b2 = false ∧ i + 3 = q2 ∧ blockP limit out (srcB s) (8 * s.size) i = blockK limit out x1 x2 (srcB s) (8 * s.size) q2) := by
  have e : blockP limit out = bindP (rdP 1) fun last => bindP (rdP 2) fun kind => blockK limit out last kind := rfl
  rw [e]
  rcases r1 with ⟨_, rfl, h1⟩ | ⟨_, rfl, h1⟩ | ⟨h, _⟩
  · rcases r2 with ⟨_, rfl, h2⟩ | ⟨_, rfl, h2⟩ | ⟨h, _⟩
    · have g1 := (rdP_inv h1).2.2
      have g2 := (rdP_inv h2).2.2
      exact .inr ⟨rfl, by omega, by rw [bindP_ok h1, bindP_ok h2]⟩
    · exact .inl ⟨rfl, by rw [bindP_ok h1, bindP_err h2]⟩
    · cases h
  · rcases r2 with ⟨h, _⟩ | ⟨h, _⟩ | ⟨_, rfl⟩
    · cases h
    · cases h
    · exact .inl ⟨rfl, bindP_err h1⟩
  · cases h
section
variable {limit e : Int} {out o : List Nat} {last kind : Nat} {ab : List Int × List Int} {B : Nat → Nat} {T i j m f : Nat}
theorem blk_raw_ok (h : rawP limit out B T i = .ok (o, j)) : blockK limit out last 0 B T i = .ok ((last, o), j) := by
  unfold blockK
  rw [if_pos rfl, bindP_ok h]
  rfl
theorem blk_raw_err (h : rawP limit out B T i = .error e) : blockK limit out last 0 B T i = .error e := by
  unfold blockK
  rw [if_pos rfl]
  exact bindP_err h
theorem blk_none : blockK limit out last 3 B T i = .error 3 := rfl
theorem blk_lens_err (h : lensP B T i = .error e) : blockK limit out last 2 B T i = .error e := by
  unfold blockK
  rw [if_neg (by decide), if_neg (by decide)]
  refine bindP_err ?_
  unfold codesP
  rw [if_neg (by decide)]
  exact h
/-- The codes of a block, and what is poured by them. -/
def pourK (limit : Int) (out : List Nat) (last : Nat) (ab : List Int × List Int) : Ps (Nat × List Nat) :=
  bindP (chkP (goodB ab.1 && goodB ab.2) 4) fun _ => bindP (pourP (ab.1.map Int.toNat) (ab.2.map Int.toNat) limit 1000000 out) fun o => pureP (last, o)
theorem blk_plain : blockK limit out last 1 B T i = pourK limit out last (plainL.map fun (x : Nat) => (x : Int), plainD.map fun (x : Nat) => (x : Int)) B T i := by
  unfold blockK codesP pourK
  rw [if_neg (by decide), if_neg (by decide), if_pos rfl]
  generalize plainL.map (fun (x : Nat) => (x : Int)) = a
  generalize plainD.map (fun (x : Nat) => (x : Int)) = b
  rfl
theorem blk_lens (h : lensP B T i = .ok (ab, m)) : blockK limit out last 2 B T i = pourK limit out last ab B T m := by
  unfold blockK
  rw [if_neg (by decide), if_neg (by decide), bindP_ok (a := ab) (j := m)]
  · rfl
  · unfold codesP
    rw [if_neg (by decide)]
    exact h
theorem pk_bad (h : (goodB ab.1 && goodB ab.2) = false) : pourK limit out last ab B T i = .error 4 := by
  unfold pourK
  refine bindP_err ?_
  rw [h]
  rfl
theorem pk_ok (h : (goodB ab.1 && goodB ab.2) = true) (hp : pourP (ab.1.map Int.toNat) (ab.2.map Int.toNat) limit 1000000 out B T i = .ok (o, j)) : pourK limit out last ab B T i = .ok ((last, o), j) := by
  unfold pourK
  rw [bindP_ok (a := ()) (j := i), bindP_ok hp]
  · rfl
  · rw [h]
    rfl
theorem pk_err (h : (goodB ab.1 && goodB ab.2) = true) (hp : pourP (ab.1.map Int.toNat) (ab.2.map Int.toNat) limit 1000000 out B T i = .error e) : pourK limit out last ab B T i = .error e := by
  unfold pourK
  rw [bindP_ok (a := ()) (j := i)]
  · exact bindP_err hp
  · rw [h]
    rfl
theorem opn_err (h : blockP limit out B T i = .error e) : openP limit (f + 1) out B T i = .error e := by
  unfold openP
  exact bindP_err h
theorem opn_last (h : blockP limit out B T i = .ok ((1, o), j)) : openP limit (f + 1) out B T i = .ok (o, j) := by
  unfold openP
  rw [bindP_ok h, if_pos rfl]
  rfl
theorem opn_more (h : blockP limit out B T i = .ok ((last, o), j)) (hl : last ≠ 1) : openP limit (f + 1) out B T i = openP limit f o B T j := by
  conv => lhs; unfold openP
  rw [bindP_ok h, if_neg hl]
end
end Go.Proofs.YtaalbaiglkadlaaGreat
