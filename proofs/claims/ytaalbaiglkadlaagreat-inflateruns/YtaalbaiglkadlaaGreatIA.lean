import Derived.Test.YtaalbaiglkadlaaGreatBK
import Derived.Test.YtaalbaiglkadlaaGreatMA
import Derived.Test.YtaalbaiglkadlaaGreatDM
/- Opening streams, plainly: what bits are read as, from the left; that a stream without its end is too short; that a limit tells. Nothing of the program is named here. -/
namespace Go.Proofs.YtaalbaiglkadlaaGreat

/-- A reading: of the bits B, T of them, from a place on: an error's number, or what is read, and the place behind it. -/
def Ps (α : Type) : Type := (Nat → Nat) → Nat → Nat → Except Int (α × Nat)
section
variable {α β : Type}
def pureP (a : α) : Ps α := fun _ _ i => .ok (a, i)
def failP (e : Int) : Ps α := fun _ _ _ => .error e
def bindP (P : Ps α) (f : α → Ps β) : Ps β := fun B T i =>
  match P B T i with
  | .error e => .error e
  | .ok (a, j) => f a B T j
theorem bindP_ok {P : Ps α} {f : α → Ps β} {B : Nat → Nat} {T i : Nat} {a : α} {j : Nat} (h : P B T i = .ok (a, j)) : bindP P f B T i = f a B T j := by
  unfold bindP
  rw [h]
theorem bindP_err {P : Ps α} {f : α → Ps β} {B : Nat → Nat} {T i : Nat} {e : Int} (h : P B T i = .error e) : bindP P f B T i = .error e := by
  unfold bindP
  rw [h]
theorem bindP_inv {P : Ps α} {f : α → Ps β} {B : Nat → Nat} {T i : Nat} {b : β} {j : Nat} (h : bindP P f B T i = .ok (b, j)) : ∃ a m, P B T i = .ok (a, m) ∧ f a B T m = .ok (b, j) := by
  unfold bindP at h
  cases hp : P B T i with
  | error e => rw [hp] at h; cases h
  | ok x =>
    obtain ⟨a, m⟩ := x
    rw [hp] at h
    exact ⟨a, m, rfl, h⟩
/-- What is read tells itself: with the same bits, and whatever is behind; with fewer it is too short. -/
structure Good (P : Ps α) : Prop where
  lo : ∀ B T i a j, P B T i = .ok (a, j) → i ≤ j
  hi : ∀ B T i a j, P B T i = .ok (a, j) → i ≤ T → j ≤ T
  same : ∀ B T i a j, P B T i = .ok (a, j) → ∀ B' T', (∀ q, q < j → B' q = B q) → j ≤ T' → P B' T' i = .ok (a, j)
  short : ∀ B T i a j, P B T i = .ok (a, j) → ∀ B' T', (∀ q, q < T' → B' q = B q) → i ≤ T' → T' < j → P B' T' i = .error 2
theorem Good.pure (a : α) : Good (pureP a) := by
  refine ⟨fun B T i b j h => ?_, fun B T i b j h hi => ?_, fun B T i b j h B' T' _ _ => ?_, fun B T i b j h B' T' _ hi hj => ?_⟩
  · injection h with h; injection h with _ h; omega
  · injection h with h; injection h with _ h; omega
  · exact h
  · injection h with h; injection h with _ h; omega
theorem Good.fail (e : Int) : Good (failP e : Ps α) := by
  refine ⟨fun B T i b j h => ?_, fun B T i b j h hi => ?_, fun B T i b j h B' T' _ _ => ?_, fun B T i b j h B' T' _ hi hj => ?_⟩ <;> cases h
theorem Good.bind {P : Ps α} {f : α → Ps β} (hP : Good P) (hf : ∀ a, Good (f a)) : Good (bindP P f) := by
  refine ⟨fun B T i b j h => ?_, fun B T i b j h hi => ?_, fun B T i b j h B' T' hB hT => ?_, fun B T i b j h B' T' hB hi hj => ?_⟩
  · obtain ⟨a, m, h1, h2⟩ := bindP_inv h
    exact Nat.le_trans (hP.lo _ _ _ _ _ h1) ((hf a).lo _ _ _ _ _ h2)
  · obtain ⟨a, m, h1, h2⟩ := bindP_inv h
    exact (hf a).hi _ _ _ _ _ h2 (hP.hi _ _ _ _ _ h1 hi)
  · obtain ⟨a, m, h1, h2⟩ := bindP_inv h
    have hm := (hf a).lo _ _ _ _ _ h2
    rw [bindP_ok (hP.same _ _ _ _ _ h1 B' T' (fun q hq => hB q (by omega)) (by omega))]
    exact (hf a).same _ _ _ _ _ h2 B' T' hB hT
  · obtain ⟨a, m, h1, h2⟩ := bindP_inv h
    by_cases hm : T' < m
    · exact bindP_err (hP.short _ _ _ _ _ h1 B' T' hB hi hm)
    · rw [bindP_ok (hP.same _ _ _ _ _ h1 B' T' (fun q hq => hB q (by omega)) (by omega))]
      exact (hf a).short _ _ _ _ _ h2 B' T' hB (by omega) hj
theorem Good.ite {c : Prop} [Decidable c] {P Q : Ps α} (hP : Good P) (hQ : Good Q) : Good (if c then P else Q) := by
  split
  · exact hP
  · exact hQ
end

/-- k bits, the lowest first. -/
def numLo (B : Nat → Nat) (i : Nat) : Nat → Nat
  | 0 => 0
  | k + 1 => numLo B i k + B (i + k) * 2 ^ k
theorem numLo_same {B B' : Nat → Nat} {i : Nat} : ∀ k, (∀ q, q < i + k → B' q = B q) → numLo B' i k = numLo B i k
  | 0, _ => rfl
  | k + 1, h => by
    show numLo B' i k + B' (i + k) * 2 ^ k = numLo B i k + B (i + k) * 2 ^ k
    rw [numLo_same k (fun q hq => h q (by omega)), h (i + k) (by omega)]
def rdP (k : Nat) : Ps Nat := fun B T i => if i + k ≤ T then .ok (numLo B i k, i + k) else .error 2
theorem rdP_inv {k : Nat} {B : Nat → Nat} {T i a j : Nat} (h : rdP k B T i = .ok (a, j)) : i + k ≤ T ∧ a = numLo B i k ∧ j = i + k := by
  unfold rdP at h
  split at h
  · rename_i hk
    injection h with h
    injection h with h1 h2
    exact ⟨hk, h1.symm, h2.symm⟩
  · cases h
theorem Good.rd (k : Nat) : Good (rdP k) := by
  refine ⟨fun B T i b j h => ?_, fun B T i b j h hi => ?_, fun B T i b j h B' T' hB hT => ?_, fun B T i b j h B' T' hB hi hj => ?_⟩
  · have := rdP_inv h; omega
  · have := rdP_inv h; omega
  · obtain ⟨h1, rfl, rfl⟩ := rdP_inv h
    unfold rdP
    rw [if_pos hT, numLo_same k hB]
  · obtain ⟨h1, rfl, rfl⟩ := rdP_inv h
    unfold rdP
    rw [if_neg (by omega)]
def alignP : Ps Unit := fun _ T i => if (i + 7) / 8 * 8 ≤ T then .ok ((), (i + 7) / 8 * 8) else .error 2
theorem Good.align : Good alignP := by
  have inv : ∀ (B : Nat → Nat) (T i : Nat) (a : Unit) (j : Nat), alignP B T i = .ok (a, j) → (i + 7) / 8 * 8 ≤ T ∧ j = (i + 7) / 8 * 8 := by
    intro B T i a j h
    unfold alignP at h
    split at h
    · rename_i hk
      injection h with h
      injection h with _ h2
      exact ⟨hk, h2.symm⟩
    · cases h
  refine ⟨fun B T i b j h => ?_, fun B T i b j h hi => ?_, fun B T i b j h B' T' hB hT => ?_, fun B T i b j h B' T' hB hi hj => ?_⟩
  · have := inv _ _ _ _ _ h; omega
  · have := inv _ _ _ _ _ h; omega
  · obtain ⟨_, rfl⟩ := inv _ _ _ _ _ h
    unfold alignP
    rw [if_pos hT]
  · obtain ⟨_, rfl⟩ := inv _ _ _ _ _ h
    unfold alignP
    rw [if_neg (by omega)]
/-- n bytes. -/
def textP (n : Nat) : Ps (List Nat) := fun B T i => if i + 8 * n ≤ T then .ok ((List.range n).map (fun q => numLo B (i + 8 * q) 8), i + 8 * n) else .error 2
theorem textP_inv {n : Nat} {B : Nat → Nat} {T i : Nat} {t : List Nat} {j : Nat} (h : textP n B T i = .ok (t, j)) : i + 8 * n ≤ T ∧ t = (List.range n).map (fun q => numLo B (i + 8 * q) 8) ∧ j = i + 8 * n := by
  unfold textP at h
  split at h
  · rename_i hk
    injection h with h
    injection h with h1 h2
    exact ⟨hk, h1.symm, h2.symm⟩
  · cases h
theorem Good.text (n : Nat) : Good (textP n) := by
  refine ⟨fun B T i b j h => ?_, fun B T i b j h hi => ?_, fun B T i b j h B' T' hB hT => ?_, fun B T i b j h B' T' hB hi hj => ?_⟩
  · have := textP_inv h; omega
  · have := textP_inv h; omega
  · obtain ⟨h1, rfl, rfl⟩ := textP_inv h
    unfold textP
    rw [if_pos hT]
    congr 2
    refine List.map_congr_left fun q hq => ?_
    have := List.mem_range.1 hq
    exact numLo_same 8 (fun p hp => hB p (by omega))
  · obtain ⟨h1, rfl, rfl⟩ := textP_inv h
    unfold textP
    rw [if_neg (by omega)]
def chkP (b : Bool) (e : Int) : Ps Unit := if b = true then pureP () else failP e
theorem Good.chk (b : Bool) (e : Int) : Good (chkP b e) := Good.ite (Good.pure _) (Good.fail _)

/-- A symbol: n bits more at most, k were read, their number is c. -/
def symQ (ls : List Nat) : Nat → Nat → Nat → Ps Nat
  | 0, _, _ => failP 4
  | n + 1, k, c => bindP (rdP 1) fun b => if 2 * c + b < firstC ls (k + 1) + cn ls (k + 1) then pureP ((symTo ls 16).getD (atC ls (k + 1) + (2 * c + b - firstC ls (k + 1))) 0) else symQ ls n (k + 1) (2 * c + b)
def symP (ls : List Nat) : Ps Nat := symQ ls 15 0 0
theorem Good.symQ (ls : List Nat) : ∀ n k c, Good (symQ ls n k c)
  | 0, _, _ => Good.fail _
  | n + 1, k, c => Good.bind (Good.rd 1) fun b => Good.ite (Good.pure _) (Good.symQ ls n (k + 1) (2 * c + b))
theorem Good.sym (ls : List Nat) : Good (symP ls) := Good.symQ ls 15 0 0

/-- A stored block behind what there is. -/
def rawP (limit : Int) (out : List Nat) : Ps (List Nat) :=
  bindP alignP fun _ => bindP (rdP 16) fun n => bindP (rdP 16) fun m => bindP (chkP (decide (n + m = 65535)) 3) fun _ =>
    bindP (chkP (decide ((n : Int) ≤ limit - (out.length : Int))) 6) fun _ => bindP (textP n) fun t => pureP (out ++ t)
theorem Good.raw (limit : Int) (out : List Nat) : Good (rawP limit out) :=
  Good.bind Good.align fun _ => Good.bind (Good.rd 16) fun _ => Good.bind (Good.rd 16) fun _ => Good.bind (Good.chk _ _) fun _ => Good.bind (Good.chk _ _) fun _ => Good.bind (Good.text _) fun _ => Good.pure _

/-- Numbers of three bits, laid by the order. -/
def firstP : Nat → Nat → List Nat → Ps (List Nat)
  | 0, _, l => pureP l
  | k + 1, i, l => bindP (rdP 3) fun x => firstP k (i + 1) (l.set (orderL.getD i 0) x)
theorem Good.first : ∀ k i l, Good (firstP k i l)
  | 0, _, _ => Good.pure _
  | k + 1, i, l => Good.bind (Good.rd 3) fun x => Good.first k (i + 1) (l.set (orderL.getD i 0) x)
/-- n lengths, as runs. -/
def runsP (hl : List Nat) (n : Nat) : Nat → List Int → Ps (List Int)
  | 0, _ => failP 99
  | f + 1, out => if n ≤ out.length then pureP out else
      bindP (symP hl) fun s => bindP (rdP (xBits (s : Int))) fun e => bindP (chkP (runB (n : Int) out ((s : Int), (e : Int))) 3) fun _ =>
        runsP hl n f (out ++ List.replicate (timesR ((s : Int), (e : Int))).toNat (valR out (s : Int)))
theorem Good.runs (hl : List Nat) (n : Nat) : ∀ f out, Good (runsP hl n f out)
  | 0, _ => Good.fail _
  | f + 1, _ => Good.ite (Good.pure _) (Good.bind (Good.sym hl) fun _ => Good.bind (Good.rd _) fun _ => Good.bind (Good.chk _ _) fun _ => Good.runs hl n f _)
/-- A dynamic block's lengths. -/
def lensP : Ps (List Int × List Int) :=
  bindP (rdP 5) fun a => bindP (rdP 5) fun b => bindP (rdP 4) fun k => bindP (chkP (decide (a + 257 ≤ 286) && decide (b + 1 ≤ 30)) 3) fun _ =>
    bindP (firstP (k + 4) 0 (List.replicate 19 0)) fun fl => bindP (chkP (goodB (fl.map fun (x : Nat) => (x : Int))) 4) fun _ =>
      bindP (runsP fl (a + 257 + (b + 1)) 400 []) fun out => bindP (chkP (decide (out.getD 256 0 ≠ 0)) 4) fun _ => pureP (out.take (a + 257), out.drop (a + 257))
theorem Good.lens : Good lensP :=
  Good.bind (Good.rd 5) fun _ => Good.bind (Good.rd 5) fun _ => Good.bind (Good.rd 4) fun _ => Good.bind (Good.chk _ _) fun _ => Good.bind (Good.first _ _ _) fun _ => Good.bind (Good.chk _ _) fun _ =>
    Good.bind (Good.runs _ _ _ _) fun _ => Good.bind (Good.chk _ _) fun _ => Good.pure _
/-- A match that was read. -/
def copyP (limit : Int) (out : List Nat) (n d : Nat) : Ps (List Nat) :=
  if out.length < d then failP 5 else if limit - (out.length : Int) < (n : Int) then failP 6 else pureP (copyN d n out)
theorem Good.copy (limit : Int) (out : List Nat) (n d : Nat) : Good (copyP limit out n d) := Good.ite (Good.fail _) (Good.ite (Good.fail _) (Good.pure _))
def matchP (dist : List Nat) (limit : Int) (out : List Nat) (s : Nat) : Ps (List Nat) :=
  if 285 < s then failP 4 else bindP (rdP (lenBits (s - 257))) fun x => bindP (symP dist) fun d => if 29 < d then failP 4 else
    bindP (rdP (distBits d)) fun y => copyP limit out (lenBase (s - 257) + x) (distBase d + y)
theorem Good.matchP (dist : List Nat) (limit : Int) (out : List Nat) (s : Nat) : Good (matchP dist limit out s) :=
  Good.ite (Good.fail _) (Good.bind (Good.rd _) fun _ => Good.bind (Good.sym _) fun _ => Good.ite (Good.fail _) (Good.bind (Good.rd _) fun _ => Good.copy _ _ _ _))
/-- A block of symbols behind what there is. -/
def pourP (lit dist : List Nat) (limit : Int) : Nat → List Nat → Ps (List Nat)
  | 0, _ => failP 99
  | f + 1, out => bindP (symP lit) fun s => if s = 256 then pureP out else if s < 256 then (if limit ≤ (out.length : Int) then failP 6 else pourP lit dist limit f (out ++ [s])) else
      bindP (matchP dist limit out s) fun o => pourP lit dist limit f o
theorem Good.pour (lit dist : List Nat) (limit : Int) : ∀ f out, Good (pourP lit dist limit f out)
  | 0, _ => Good.fail _
  | f + 1, _ => Good.bind (Good.sym lit) fun _ => Good.ite (Good.pure _) (Good.ite (Good.ite (Good.fail _) (Good.pour lit dist limit f _)) (Good.bind (Good.matchP _ _ _ _) fun _ => Good.pour lit dist limit f _))
/-- The lengths of a block's codes. -/
def codesP (kind : Nat) : Ps (List Int × List Int) := if kind = 1 then pureP (plainL.map fun (x : Nat) => (x : Int), plainD.map fun (x : Nat) => (x : Int)) else lensP
theorem Good.codes (kind : Nat) : Good (codesP kind) := Good.ite (Good.pure _) Good.lens
/-- A block behind what there is: whether it is the last one. -/
def blockP (limit : Int) (out : List Nat) : Ps (Nat × List Nat) :=
  bindP (rdP 1) fun last => bindP (rdP 2) fun kind => if kind = 0 then bindP (rawP limit out) fun o => pureP (last, o) else if kind = 3 then failP 3 else
    bindP (codesP kind) fun ab => bindP (chkP (goodB ab.1 && goodB ab.2) 4) fun _ => bindP (pourP (ab.1.map Int.toNat) (ab.2.map Int.toNat) limit 1000000 out) fun o => pureP (last, o)
theorem Good.block (limit : Int) (out : List Nat) : Good (blockP limit out) :=
  Good.bind (Good.rd 1) fun _ => Good.bind (Good.rd 2) fun _ => Good.ite (Good.bind (Good.raw _ _) fun _ => Good.pure _) (Good.ite (Good.fail _)
    (Good.bind (Good.codes _) fun _ => Good.bind (Good.chk _ _) fun _ => Good.bind (Good.pour _ _ _ _ _) fun _ => Good.pure _))
/-- A stream. -/
def openP (limit : Int) : Nat → List Nat → Ps (List Nat)
  | 0, _ => failP 99
  | f + 1, out => bindP (blockP limit out) fun lo => if lo.1 = 1 then pureP lo.2 else openP limit f lo.2
theorem Good.open (limit : Int) : ∀ f out, Good (openP limit f out)
  | 0, _ => Good.fail _
  | f + 1, out => Good.bind (Good.block limit out) fun _ => Good.ite (Good.pure _) (Good.open limit f _)

end Go.Proofs.YtaalbaiglkadlaaGreat

/- Opening streams: what a limit tells. Nothing of the program is named here. -/
namespace Go.Proofs.YtaalbaiglkadlaaGreat

/-- x is told by the limit a, y by a greater one: where y is read, x is the same, or beyond the limit; where y is none, x is none. -/
def LimG {α : Type} (sz : α → Nat) (a : Int) (x y : Except Int (α × Nat)) : Prop :=
  (∃ o j, y = .ok (o, j) ∧ (((sz o : Int) ≤ a ∧ x = .ok (o, j)) ∨ (a < (sz o : Int) ∧ x = .error 6))) ∨ (∃ e e', y = .error e ∧ x = .error e')
section
variable {α β : Type} {sz : α → Nat} {sz' : β → Nat} {a : Int}
theorem LimG.errs (e e' : Int) : LimG sz a (.error e') (.error e) := .inr ⟨e, e', rfl, rfl⟩
theorem LimG.bind {P Q : Ps α} {f g : α → Ps β} {B : Nat → Nat} {T i : Nat} (h : LimG sz a (P B T i) (Q B T i)) (hf : ∀ v m, (sz v : Int) ≤ a → LimG sz' a (f v B T m) (g v B T m)) (hg : ∀ v m w j, g v B T m = .ok (w, j) → sz v ≤ sz' w) : LimG sz' a (bindP P f B T i) (bindP Q g B T i) := by
  rcases h with ⟨v, m, h1, h2⟩ | ⟨e, e', h1, h2⟩
  · rw [bindP_ok h1]
    rcases h2 with ⟨h3, h4⟩ | ⟨h3, h4⟩
    · rw [bindP_ok h4]
      exact hf v m h3
    · rw [bindP_err h4]
      cases hy : g v B T m with
      | error e => exact LimG.errs e 6
      | ok w =>
        obtain ⟨w, j⟩ := w
        have := hg v m w j hy
        exact .inl ⟨w, j, rfl, .inr ⟨by omega, rfl⟩⟩
  · rw [bindP_err h1, bindP_err h2]
    exact LimG.errs e e'
theorem LimG.same {P : Ps α} {f g : α → Ps β} {B : Nat → Nat} {T i : Nat} (hf : ∀ v m, LimG sz' a (f v B T m) (g v B T m)) : LimG sz' a (bindP P f B T i) (bindP P g B T i) := by
  cases hp : P B T i with
  | error e => rw [bindP_err hp, bindP_err hp]; exact LimG.errs e e
  | ok v =>
    obtain ⟨v, m⟩ := v
    rw [bindP_ok hp, bindP_ok hp]
    exact hf v m
theorem LimG.pure (v : α) (B : Nat → Nat) (T i : Nat) (h : (sz v : Int) ≤ a) : LimG sz a (pureP v B T i) (pureP v B T i) := .inl ⟨v, i, rfl, .inl ⟨h, rfl⟩⟩
end

theorem copyP_inv {limit : Int} {out : List Nat} {n d : Nat} {B : Nat → Nat} {T i : Nat} {o : List Nat} {j : Nat} (h : copyP limit out n d B T i = .ok (o, j)) : d ≤ out.length ∧ (n : Int) ≤ limit - (out.length : Int) ∧ o = copyN d n out ∧ j = i := by
  unfold copyP at h
  split at h
  · cases h
  · split at h
    · cases h
    · injection h with h
      injection h with h1 h2
      exact ⟨by omega, by omega, h1.symm, h2.symm⟩
theorem copy_lim {a b : Int} (hab : a ≤ b) (out : List Nat) (n d : Nat) (B : Nat → Nat) (T i : Nat) : LimG List.length a (copyP a out n d B T i) (copyP b out n d B T i) := by
  unfold copyP
  by_cases h1 : out.length < d
  · rw [if_pos h1, if_pos h1]
    exact LimG.errs 5 5
  · rw [if_neg h1, if_neg h1]
    by_cases h2 : a - (out.length : Int) < (n : Int)
    · rw [if_pos h2]
      by_cases h3 : b - (out.length : Int) < (n : Int)
      · rw [if_pos h3]
        exact LimG.errs 6 6
      · rw [if_neg h3]
        exact .inl ⟨_, i, rfl, .inr ⟨by rw [copyN_length]; omega, rfl⟩⟩
    · rw [if_neg h2, if_neg (by omega)]
      exact LimG.pure _ B T i (by rw [copyN_length]; omega)
theorem matchP_len {dist : List Nat} {limit : Int} {out : List Nat} {s : Nat} {B : Nat → Nat} {T i : Nat} {o : List Nat} {j : Nat} (h : matchP dist limit out s B T i = .ok (o, j)) : out.length ≤ o.length := by
  unfold matchP at h
  split at h
  · cases h
  · obtain ⟨x, m, _, h⟩ := bindP_inv h
    obtain ⟨d, m2, _, h⟩ := bindP_inv h
    split at h
    · cases h
    · obtain ⟨y, m3, _, h⟩ := bindP_inv h
      obtain ⟨_, _, rfl, _⟩ := copyP_inv h
      rw [copyN_length]
      omega
theorem match_lim {a b : Int} (hab : a ≤ b) (dist : List Nat) (out : List Nat) (s : Nat) (B : Nat → Nat) (T i : Nat) : LimG List.length a (matchP dist a out s B T i) (matchP dist b out s B T i) := by
  unfold matchP
  split
  · exact LimG.errs 4 4
  · refine LimG.same fun x m => LimG.same fun d m2 => ?_
    split
    · exact LimG.errs 4 4
    · exact LimG.same fun y m3 => copy_lim hab out _ _ B T m3
theorem pourP_len (lit dist : List Nat) (limit : Int) (B : Nat → Nat) (T : Nat) : ∀ f out i o j, pourP lit dist limit f out B T i = .ok (o, j) → out.length ≤ o.length
  | 0, _, _, _, _, h => by cases h
  | f + 1, out, i, o, j, h => by
    unfold pourP at h
    obtain ⟨s, m, _, h⟩ := bindP_inv h
    split at h
    · injection h with h
      injection h with h1 _
      rw [h1]
      exact Nat.le_refl _
    · split at h
      · split at h
        · cases h
        · have := pourP_len lit dist limit B T f _ _ _ _ h
          rw [List.length_append] at this
          omega
      · obtain ⟨o2, m2, h1, h2⟩ := bindP_inv h
        exact Nat.le_trans (matchP_len h1) (pourP_len lit dist limit B T f _ _ _ _ h2)
theorem pour_lim {a b : Int} (hab : a ≤ b) (lit dist : List Nat) (B : Nat → Nat) (T : Nat) : ∀ f out i, (out.length : Int) ≤ a → LimG List.length a (pourP lit dist a f out B T i) (pourP lit dist b f out B T i)
  | 0, _, _, _ => LimG.errs 99 99
  | f + 1, out, i, ho => by
    unfold pourP
    refine LimG.same fun s m => ?_
    split
    · exact LimG.pure out B T m ho
    · split
      · by_cases h1 : a ≤ (out.length : Int)
        · rw [if_pos h1]
          by_cases h2 : b ≤ (out.length : Int)
          · rw [if_pos h2]
            exact LimG.errs 6 6
          · rw [if_neg h2]
            cases hy : pourP lit dist b f (out ++ [s]) B T m with
            | error e => exact LimG.errs e 6
            | ok w =>
              obtain ⟨w, j⟩ := w
              have := pourP_len lit dist b B T f _ _ _ _ hy
              rw [List.length_append] at this
              exact .inl ⟨w, j, rfl, .inr ⟨by have : out.length + 1 ≤ w.length := this; omega, rfl⟩⟩
        · rw [if_neg h1, if_neg (by omega)]
          exact pour_lim hab lit dist B T f _ m (by rw [List.length_append]; show ((out.length + 1 : Nat) : Int) ≤ a; omega)
      · exact LimG.bind (match_lim hab dist out s B T m) (fun v m2 hv => pour_lim hab lit dist B T f v m2 hv) (fun v m2 w j hw => pourP_len lit dist b B T f v m2 w j hw)

theorem chkP_inv {c : Bool} {e : Int} {B : Nat → Nat} {T i : Nat} {u : Unit} {j : Nat} (h : chkP c e B T i = .ok (u, j)) : c = true ∧ j = i := by
  unfold chkP at h
  split at h
  · rename_i hc
    injection h with h
    injection h with _ h
    exact ⟨hc, h.symm⟩
  · cases h
theorem rawP_len {limit : Int} {out : List Nat} {B : Nat → Nat} {T i : Nat} {o : List Nat} {j : Nat} (h : rawP limit out B T i = .ok (o, j)) : out.length ≤ o.length ∧ (o.length : Int) ≤ limit := by
  unfold rawP at h
  obtain ⟨_, _, _, h⟩ := bindP_inv h
  obtain ⟨n, _, _, h⟩ := bindP_inv h
  obtain ⟨k, _, _, h⟩ := bindP_inv h
  obtain ⟨_, _, _, h⟩ := bindP_inv h
  obtain ⟨_, _, hc, h⟩ := bindP_inv h
  obtain ⟨t, _, ht, h⟩ := bindP_inv h
  injection h with h
  injection h with h _
  have h1 := of_decide_eq_true (chkP_inv hc).1
  have h2 := (textP_inv ht).2.1
  have h3 : t.length = n := by rw [h2, List.length_map, List.length_range]
  rw [← h, List.length_append, h3]
  omega
theorem raw_lim {a b : Int} (hab : a ≤ b) (out : List Nat) (B : Nat → Nat) (T i : Nat) : LimG List.length a (rawP a out B T i) (rawP b out B T i) := by
  unfold rawP
  refine LimG.same fun _ m => LimG.same fun n m2 => LimG.same fun k m3 => LimG.same fun _ m4 => ?_
  by_cases h1 : (n : Int) ≤ a - (out.length : Int)
  · rw [show decide ((n : Int) ≤ a - (out.length : Int)) = true from decide_eq_true h1, show decide ((n : Int) ≤ b - (out.length : Int)) = true from decide_eq_true (by omega)]
    refine LimG.same fun _ m5 => ?_
    cases ht : textP n B T m5 with
    | error e => rw [bindP_err ht]; exact LimG.errs e e
    | ok w =>
      obtain ⟨t, m6⟩ := w
      rw [bindP_ok ht]
      have h2 := (textP_inv ht).2.1
      have h3 : t.length = n := by rw [h2, List.length_map, List.length_range]
      exact LimG.pure _ B T m6 (by rw [List.length_append, h3]; omega)
  · rw [show decide ((n : Int) ≤ a - (out.length : Int)) = false from decide_eq_false h1]
    have hx : ∀ f : Unit → Ps (List Nat), bindP (chkP false 6) f B T m4 = .error 6 := fun f => bindP_err rfl
    rw [hx]
    cases hy : bindP (chkP (decide ((n : Int) ≤ b - (out.length : Int))) 6) (fun _ => bindP (textP n) fun t => pureP (out ++ t)) B T m4 with
    | error e => exact LimG.errs e 6
    | ok w =>
      obtain ⟨w, j⟩ := w
      obtain ⟨_, _, _, h⟩ := bindP_inv hy
      obtain ⟨t, _, ht, h⟩ := bindP_inv h
      injection h with h
      injection h with h _
      have h2 := (textP_inv ht).2.1
      have h3 : t.length = n := by rw [h2, List.length_map, List.length_range]
      exact .inl ⟨w, j, rfl, .inr ⟨by rw [← h, List.length_append, h3]; omega, rfl⟩⟩

def szB (lo : Nat × List Nat) : Nat := lo.2.length
theorem block_lim {a b : Int} (hab : a ≤ b) (out : List Nat) (B : Nat → Nat) (T i : Nat) (ho : (out.length : Int) ≤ a) : LimG szB a (blockP a out B T i) (blockP b out B T i) := by
  unfold blockP
  refine LimG.same fun last m => LimG.same fun kind m2 => ?_
  split
  · refine LimG.bind (sz := List.length) (raw_lim hab out B T m2) (fun v m3 hv => LimG.pure _ B T m3 hv) (fun v m3 w j hw => ?_)
    injection hw with hw
    injection hw with hw _
    rw [← hw]
    exact Nat.le_refl _
  · split
    · exact LimG.errs 3 3
    · refine LimG.same fun ab m3 => LimG.same fun _ m4 => LimG.bind (sz := List.length) (pour_lim hab _ _ B T _ out m4 ho) (fun v m5 hv => LimG.pure _ B T m5 hv) (fun v m5 w j hw => ?_)
      injection hw with hw
      injection hw with hw _
      rw [← hw]
      exact Nat.le_refl _
theorem blockP_len {limit : Int} {out : List Nat} {B : Nat → Nat} {T i : Nat} {lo : Nat × List Nat} {j : Nat} (h : blockP limit out B T i = .ok (lo, j)) : out.length ≤ lo.2.length := by
  unfold blockP at h
  obtain ⟨last, _, _, h⟩ := bindP_inv h
  obtain ⟨kind, _, _, h⟩ := bindP_inv h
  split at h
  · obtain ⟨o, _, h1, h2⟩ := bindP_inv h
    injection h2 with h2
    injection h2 with h2 _
    rw [← h2]
    exact (rawP_len h1).1
  · split at h
    · cases h
    · obtain ⟨ab, _, _, h⟩ := bindP_inv h
      obtain ⟨_, _, _, h⟩ := bindP_inv h
      obtain ⟨o, _, h1, h2⟩ := bindP_inv h
      injection h2 with h2
      injection h2 with h2 _
      rw [← h2]
      exact pourP_len _ _ _ _ _ _ _ _ _ _ h1
theorem openP_len (limit : Int) (B : Nat → Nat) (T : Nat) : ∀ f out i o j, openP limit f out B T i = .ok (o, j) → out.length ≤ o.length
  | 0, _, _, _, _, h => by cases h
  | f + 1, out, i, o, j, h => by
    unfold openP at h
    obtain ⟨lo, m, h1, h2⟩ := bindP_inv h
    have h3 := blockP_len h1
    split at h2
    · injection h2 with h2
      injection h2 with h2 _
      rw [← h2]
      exact h3
    · exact Nat.le_trans h3 (openP_len limit B T f _ _ _ _ h2)
/-- What a lesser limit tells. -/
theorem open_lim {a b : Int} (hab : a ≤ b) (B : Nat → Nat) (T : Nat) : ∀ f out i, (out.length : Int) ≤ a → LimG List.length a (openP a f out B T i) (openP b f out B T i)
  | 0, _, _, _ => LimG.errs 99 99
  | f + 1, out, i, ho => by
    unfold openP
    refine LimG.bind (sz := szB) (block_lim hab out B T i ho) (fun v m hv => ?_) (fun v m w j hw => ?_)
    · split
      · exact LimG.pure _ B T m hv
      · exact open_lim hab B T f v.2 m hv
    · split at hw
      · injection hw with hw
        injection hw with hw _
        rw [← hw]
        exact Nat.le_refl _
      · exact openP_len b B T f v.2 m w j hw

end Go.Proofs.YtaalbaiglkadlaaGreat

/- Opening streams: what was written is read. Nothing of the program is named here. -/
namespace Go.Proofs.YtaalbaiglkadlaaGreat

/-- Bits lie at a place. -/
structure Lies (B : Nat → Nat) (T i : Nat) (bs : List Bool) : Prop where
  le : i + bs.length ≤ T
  at_ : ∀ j, j < bs.length → B (i + j) = (bs.getD j false).toNat
theorem Lies.left {B : Nat → Nat} {T i : Nat} {a b : List Bool} (h : Lies B T i (a ++ b)) : Lies B T i a := by
  have h1 := h.le
  rw [List.length_append] at h1
  refine ⟨by omega, fun j hj => ?_⟩
  rw [h.at_ j (by rw [List.length_append]; omega), List.getD_eq_getElem?_getD, List.getElem?_append_left hj, ← List.getD_eq_getElem?_getD]
theorem Lies.right {B : Nat → Nat} {T i : Nat} {a b : List Bool} (h : Lies B T i (a ++ b)) : Lies B T (i + a.length) b := by
  have h1 := h.le
  rw [List.length_append] at h1
  refine ⟨by omega, fun j hj => ?_⟩
  rw [Nat.add_assoc, h.at_ (a.length + j) (by rw [List.length_append]; omega), List.getD_eq_getElem?_getD, List.getElem?_append_right (by omega), Nat.add_sub_cancel_left, ← List.getD_eq_getElem?_getD]

theorem highBits_length (v : Int) (k : Nat) : (highBits v k).length = k := by unfold highBits; rw [List.length_reverse, lowBits_length]
theorem high_get (c m t : Nat) (h : t < m) : ((highBits (c : Int) m).getD t false).toNat = c / 2 ^ (m - (t + 1)) % 2 := by
  have hl : t < (highBits (c : Int) m).length := by rw [highBits_length]; exact h
  have h1 : (highBits (c : Int) m)[t]? = some (decide ((c : Int) / 2 ^ (m - (t + 1)) % 2 = 1)) := by
    unfold highBits
    rw [List.getElem?_reverse (by rw [lowBits_length]; exact h), lowBits_length, show m - 1 - t = m - (t + 1) by omega, lowBits_get _ _ _ (by omega)]
  rw [List.getD_eq_getElem?_getD, h1]
  have e : (c : Int) / 2 ^ (m - (t + 1)) % 2 = ((c / 2 ^ (m - (t + 1)) % 2 : Nat) : Int) := by rw [Int.natCast_emod, Int.natCast_ediv, Int.natCast_pow]; rfl
  show (decide _).toNat = _
  rw [e]
  generalize c / 2 ^ (m - (t + 1)) = q
  by_cases hq : q % 2 = 1
  · rw [hq]; rfl
  · have : q % 2 = 0 := by omega
    rw [this]; rfl
theorem high_num (c m : Nat) (hc : c < 2 ^ m) (b : Nat → Nat) (hb : ∀ t, t < m → b t = c / 2 ^ (m - (t + 1)) % 2) : ∀ k, k ≤ m → numH b k = c / 2 ^ (m - k)
  | 0, _ => by show 0 = _; rw [Nat.sub_zero, Nat.div_eq_of_lt hc]
  | k + 1, hk => by
    show 2 * numH b k + b k = _
    rw [high_num c m hc b hb k (by omega), hb k (by omega), show m - k = (m - (k + 1)) + 1 by omega, Nat.pow_succ, ← Nat.div_div_eq_div_mul]
    omega

/-- Low bits are the number. -/
theorem low_get (x k j : Nat) (h : j < k) : ((lowBits (x : Int) k).getD j false).toNat = x / 2 ^ j % 2 := by
  rw [List.getD_eq_getElem?_getD, lowBits_get _ _ _ h]
  have e : (x : Int) / 2 ^ j % 2 = ((x / 2 ^ j % 2 : Nat) : Int) := by rw [Int.natCast_emod, Int.natCast_ediv, Int.natCast_pow]; rfl
  show (decide _).toNat = _
  rw [e]
  generalize x / 2 ^ j = q
  by_cases hq : q % 2 = 1
  · rw [hq]; rfl
  · have : q % 2 = 0 := by omega
    rw [this]; rfl
theorem numLo_mod (B : Nat → Nat) (i x : Nat) : ∀ k, (∀ j, j < k → B (i + j) = x / 2 ^ j % 2) → numLo B i k = x % 2 ^ k
  | 0, _ => by show 0 = _; rw [Nat.pow_zero, Nat.mod_one]
  | k + 1, h => by
    show numLo B i k + B (i + k) * 2 ^ k = _
    rw [numLo_mod B i x k (fun j hj => h j (by omega)), h k (by omega), Nat.pow_succ, Nat.mod_mul]
    rw [Nat.mul_comm (2 ^ k)]
theorem rd_low {B : Nat → Nat} {T i x k : Nat} (h : Lies B T i (lowBits (x : Int) k)) (hx : x < 2 ^ k) : rdP k B T i = .ok (x, i + k) := by
  have h1 := h.le
  rw [lowBits_length] at h1
  unfold rdP
  rw [if_pos h1, numLo_mod B i x k (fun j hj => by rw [h.at_ j (by rw [lowBits_length]; exact hj), low_get x k j hj]), Nat.mod_eq_of_lt hx]

/-- What a symbol is read as. -/
theorem symQ_res (ls : List Nat) (B : Nat → Nat) (T i : Nat) {x : Int} {u : Nat} {bad : Bool} (h : ReadRes ls (fun j => B (i + j)) (T - i) x u bad) : ∀ n k, k + n = 15 → Past ls (fun j => B (i + j)) (k + 1) → i + k ≤ T →
    symQ ls n k (numH (fun j => B (i + j)) k) B T (i + k) = (if 0 ≤ x then .ok (x.toNat, i + u) else if bad = true then .error 2 else .error 4)
  | 0, k, hk, hp, hT => by
    have e15 : k = 15 := by omega
    subst e15
    show (Except.error 4 : Except Int (Nat × Nat)) = _
    rcases h with ⟨m, h1, h2, _⟩ | ⟨_, rfl, _, rfl⟩
    · have := hp m h1.lo (by have := h1.hi; omega)
      have := h1.lt
      omega
    · rw [if_neg (by omega), if_neg]
      rw [decide_eq_true_eq]
      omega
  | n + 1, k, hk, hp, hT => by
    unfold symQ
    by_cases ht : i + k + 1 ≤ T
    · have hr : rdP 1 B T (i + k) = .ok (B (i + k), i + k + 1) := by
        unfold rdP
        rw [if_pos ht]
        show Except.ok (0 + B (i + k + 0) * 2 ^ 0, i + k + 1) = _
        rw [Nat.add_zero, Nat.pow_zero, Nat.mul_one, Nat.zero_add]
      rw [bindP_ok hr]
      have e1 : 2 * numH (fun j => B (i + j)) k + B (i + k) = numH (fun j => B (i + j)) (k + 1) := rfl
      rw [e1]
      by_cases hs : numH (fun j => B (i + j)) (k + 1) < firstC ls (k + 1) + cn ls (k + 1)
      · rw [if_pos hs]
        have hst : Stops ls (fun j => B (i + j)) (k + 1) := ⟨by omega, by omega, hp, hs⟩
        obtain ⟨rfl, rfl, rfl⟩ := h.uniq (.inl ⟨k + 1, hst, by omega, rfl, rfl, rfl⟩)
        rw [if_pos (by omega), Int.toNat_natCast]
        rfl
      · rw [if_neg hs]
        exact symQ_res ls B T i h n (k + 1) (by omega) (hp.next (by omega)) ht
    · have hr : rdP 1 B T (i + k) = .error 2 := by
        unfold rdP
        rw [if_neg ht]
      rw [bindP_err hr]
      rcases h with ⟨m, h1, h2, _⟩ | ⟨_, rfl, _, rfl⟩
      · have := hp m h1.lo (by omega)
        have := h1.lt
        omega
      · rw [if_neg (by omega), if_pos]
        rw [decide_eq_true_eq]
        omega
theorem symP_res (ls : List Nat) (B : Nat → Nat) (T i : Nat) (hi : i ≤ T) {x : Int} {u : Nat} {bad : Bool} (h : ReadRes ls (fun j => B (i + j)) (T - i) x u bad) : symP ls B T i = (if 0 ≤ x then .ok (x.toNat, i + u) else if bad = true then .error 2 else .error 4) :=
  symQ_res ls B T i h 15 0 rfl (fun j h1 h2 => by omega) hi
/-- A symbol that was written is read. -/
theorem sym_high {ls : List Nat} {B : Nat → Nat} {T i s : Nat} (hM : MakesC ls) (hs : s < ls.length) (hz : ls.getD s 0 ≠ 0) (h : Lies B T i (highBits (codeN ls s : Int) (ls.getD s 0))) : symP ls B T i = .ok (s, i + ls.getD s 0) := by
  have h1 := h.le
  rw [highBits_length] at h1
  obtain ⟨_, c2, _⟩ := code_lt hM s hs hz
  obtain ⟨s1, s2⟩ := code_stops hM s hs hz (fun j => B (i + j)) (high_num _ _ c2 _ (fun t ht => by
    show B (i + t) = _
    rw [h.at_ t (by rw [highBits_length]; exact ht)]
    exact high_get _ _ _ ht))
  rw [symP_res ls B T i (by omega) (.inl ⟨ls.getD s 0, s1, by omega, rfl, rfl, rfl⟩), if_pos (by omega), s2, Int.toNat_natCast]

/-- Codes that serve for these tokens, and have a number for each of their symbols. -/
structure Serves (la lb : List Nat) (l : List (Nat × Int × Int)) : Prop where
  ma : MakesC la
  mb : MakesC lb
  la1 : 256 < la.length
  end_ : la.getD 256 0 ≠ 0
  right : ∀ t ∈ l, RightT t
  lit : ∀ t ∈ l, symT t < la.length ∧ la.getD (symT t) 0 ≠ 0
  far : ∀ t ∈ l, 0 < t.2.1 → farT t < lb.length ∧ lb.getD (farT t) 0 ≠ 0
theorem Serves.tail {la lb : List Nat} {t : Nat × Int × Int} {l : List (Nat × Int × Int)} (h : Serves la lb (t :: l)) : Serves la lb l :=
  ⟨h.ma, h.mb, h.la1, h.end_, fun x hx => h.right x (List.mem_cons_of_mem _ hx), fun x hx => h.lit x (List.mem_cons_of_mem _ hx), fun x hx => h.far x (List.mem_cons_of_mem _ hx)⟩
/-- A match that was written is read. -/
theorem match_back {lb : List Nat} {B : Nat → Nat} {T i : Nat} {limit : Int} {out : List Nat} {n d : Int} (hmb : MakesC lb) (hn : 3 ≤ n ∧ n ≤ 258) (hd : 1 ≤ d ∧ d ≤ 32768) (hf : dsT d < lb.length ∧ lb.getD (dsT d) 0 ≠ 0) (h1 : ¬ (out.length : Int) < d) (h2 : ¬ limit - (out.length : Int) < n)
    (h : Lies B T i (lowBits (n - (lenBase (lnT n) : Int)) (lenBits (lnT n)) ++ (highBits (codeN lb (dsT d) : Int) (lb.getD (dsT d) 0) ++ lowBits (d - (distBase (dsT d) : Int)) (distBits (dsT d))))) :
    matchP lb limit out (257 + lnT n) B T i = .ok (copyN d.toNat n.toNat out, i + (lenBits (lnT n) + (lb.getD (dsT d) 0 + distBits (dsT d)))) := by
  have fl := len_fits n.toNat (by omega) (by omega)
  have fd := dist_fits d.toNat (by omega) (by omega)
  have e1 : topS lenBase n.toNat 28 = lnT n := rfl
  have e2 : topS distBase d.toNat 29 = dsT d := rfl
  rw [e1] at fl
  rw [e2] at fd
  have hln := lnT_le n
  have hds := dsT_le d
  have g1 := h.left
  have g2 := h.right.left
  have g3 := h.right.right
  rw [show n - (lenBase (lnT n) : Int) = ((n.toNat - lenBase (lnT n) : Nat) : Int) by omega] at g1
  rw [show d - (distBase (dsT d) : Int) = ((d.toNat - distBase (dsT d) : Nat) : Int) by omega] at g3
  rw [lowBits_length] at g2 g3
  rw [highBits_length] at g3
  unfold matchP
  rw [if_neg (by omega), show 257 + lnT n - 257 = lnT n by omega, bindP_ok (rd_low g1 fl.2), bindP_ok (sym_high hmb hf.1 hf.2 g2), if_neg (by omega), bindP_ok (rd_low g3 fd.2)]
  unfold copyP
  rw [show lenBase (lnT n) + (n.toNat - lenBase (lnT n)) = n.toNat by omega, show distBase (dsT d) + (d.toNat - distBase (dsT d)) = d.toNat by omega, if_neg (by omega), if_neg (by omega)]
  show Except.ok (_, _) = _
  rw [show i + lenBits (lnT n) + lb.getD (dsT d) 0 + distBits (dsT d) = i + (lenBits (lnT n) + (lb.getD (dsT d) 0 + distBits (dsT d))) by omega]
/-- A block's symbols that were written are read. -/
theorem pour_back (la lb : List Nat) (B : Nat → Nat) (T : Nat) (limit : Int) : ∀ (l : List (Nat × Int × Int)) (f : Nat) (out o : List Nat) (i : Nat), l.length < f → Serves la lb l → exF 5 6 limit out l = (o, 0) → Lies B T i (bodyBits la lb l) → pourP la lb limit f out B T i = .ok (o, i + (bodyBits la lb l).length)
  | [], f, out, o, i, hf, hs, hx, h => by
    obtain ⟨f, rfl⟩ : ∃ k, f = k + 1 := ⟨f - 1, by omega⟩
    injection hx with hx _
    subst hx
    have hb : bodyBits la lb [] = highBits (codeN la 256 : Int) (la.getD 256 0) := rfl
    rw [hb] at h ⊢
    unfold pourP
    rw [bindP_ok (sym_high hs.ma hs.la1 hs.end_ h), if_pos rfl, highBits_length]
    rfl
  | t :: l, f, out, o, i, hf, hs, hx, h => by
    obtain ⟨f, rfl⟩ : ∃ k, f = k + 1 := ⟨f - 1, by omega⟩
    have hb : bodyBits la lb (t :: l) = tokBits la lb t ++ bodyBits la lb l := by
      unfold bodyBits toksBits
      rw [List.flatMap_cons, List.append_assoc]
    rw [hb] at h ⊢
    have hR := hs.right t List.mem_cons_self
    have hL := hs.lit t List.mem_cons_self
    have hl := h.left
    have hr := h.right
    rw [List.length_cons] at hf
    unfold exF at hx
    unfold pourP
    by_cases h0 : t.2.1 ≤ 0
    · rw [if_pos h0] at hx
      have htb : tokBits la lb t = highBits (codeN la t.1 : Int) (la.getD t.1 0) := by unfold tokBits; rw [if_pos h0]
      have est : symT t = t.1 := by unfold symT; rw [if_pos h0]
      rw [est] at hL
      rw [htb] at hl hr ⊢
      rw [highBits_length] at hr
      by_cases hlim : limit ≤ (out.length : Int)
      · rw [if_pos hlim] at hx
        injection hx with _ hx
        cases hx
      · rw [if_neg hlim] at hx
        have h256 := hR.1
        rw [bindP_ok (sym_high hs.ma hL.1 hL.2 hl), if_neg (by omega), if_pos h256, if_neg hlim, pour_back la lb B T limit l f _ o _ (by omega) hs.tail hx hr, List.length_append, highBits_length, Nat.add_assoc]
    · rw [if_neg h0] at hx
      have hm := hR.2 (by omega)
      have hF := hs.far t List.mem_cons_self (by omega)
      have htb : tokBits la lb t = highBits (codeN la (257 + lnT t.2.1) : Int) (la.getD (257 + lnT t.2.1) 0) ++ (lowBits (t.2.1 - (lenBase (lnT t.2.1) : Int)) (lenBits (lnT t.2.1)) ++ (highBits (codeN lb (dsT t.2.2) : Int) (lb.getD (dsT t.2.2) 0) ++ lowBits (t.2.2 - (distBase (dsT t.2.2) : Int)) (distBits (dsT t.2.2)))) := by
        unfold tokBits; rw [if_neg h0]
      have est : symT t = 257 + lnT t.2.1 := by unfold symT; rw [if_neg h0]
      rw [est] at hL
      have hlen : (tokBits la lb t).length = la.getD (257 + lnT t.2.1) 0 + (lenBits (lnT t.2.1) + (lb.getD (dsT t.2.2) 0 + distBits (dsT t.2.2))) := by
        rw [htb]
        simp only [List.length_append, highBits_length, lowBits_length]
      rw [hlen] at hr
      rw [htb] at hl
      have hl1 := hl.left
      have hl2 := hl.right
      rw [highBits_length] at hl2
      by_cases hfar : t.2.2 < 1 ∨ (out.length : Int) < t.2.2
      · rw [if_pos hfar] at hx
        injection hx with _ hx
        cases hx
      · rw [if_neg hfar] at hx
        by_cases hlim : limit - (out.length : Int) < t.2.1
        · rw [if_pos hlim] at hx
          injection hx with _ hx
          cases hx
        · rw [if_neg hlim] at hx
          rw [bindP_ok (sym_high hs.ma hL.1 hL.2 hl1), if_neg (by omega), if_neg (by omega), bindP_ok (match_back hs.mb hm.1 hm.2 hF (by omega) hlim hl2)]
          rw [show i + la.getD (257 + lnT t.2.1) 0 + (lenBits (lnT t.2.1) + (lb.getD (dsT t.2.2) 0 + distBits (dsT t.2.2))) = i + (la.getD (257 + lnT t.2.1) 0 + (lenBits (lnT t.2.1) + (lb.getD (dsT t.2.2) 0 + distBits (dsT t.2.2)))) by omega]
          rw [pour_back la lb B T limit l f _ o _ (by omega) hs.tail hx hr, List.length_append, hlen, Nat.add_assoc i]

end Go.Proofs.YtaalbaiglkadlaaGreat

/- Opening streams: headers, blocks and stored blocks that were written are read. Nothing of the program is named here. -/
namespace Go.Proofs.YtaalbaiglkadlaaGreat

theorem half_zero (j : Nat) (ws : List Nat) (i : Nat) : (halfJ j ws).getD i 0 = 0 ↔ ws.getD i 0 = 0 := by
  induction j with
  | zero => exact Iff.rfl
  | succ j ih =>
    rw [← ih]
    show (halves (halfJ j ws)).getD i 0 = 0 ↔ _
    unfold halves
    rw [List.getD_eq_getElem?_getD, List.getD_eq_getElem?_getD, List.getElem?_map]
    cases (halfJ j ws)[i]? with
    | none => simp
    | some x =>
      show (x + 1) / 2 = 0 ↔ x = 0
      omega

/-- The order's bits from a place on. -/
def segBits (hl : List Nat) (i k : Nat) : List Bool := ((orderL.drop i).take k).flatMap fun o => lowBits (hl.getD o 0 : Int) 3
theorem segBits_succ (hl : List Nat) (i k : Nat) (h : i < 19) : segBits hl i (k + 1) = lowBits (hl.getD (orderL.getD i 0) 0 : Int) 3 ++ segBits hl (i + 1) k := by
  have e : orderL.drop i = orderL.getD i 0 :: orderL.drop (i + 1) := by
    have hi : i < orderL.length := h
    rw [List.drop_eq_getElem_cons hi, List.getD_eq_getElem?_getD, List.getElem?_eq_getElem hi]
    rfl
  unfold segBits
  rw [e, List.take_succ_cons, List.flatMap_cons]
/-- The first i of the order are laid. -/
structure OrdAt (hl : List Nat) (i : Nat) (l : List Nat) : Prop where
  len : l.length = 19
  done : ∀ j, j < i → j < 19 → l.getD (orderL.getD j 0) 0 = hl.getD (orderL.getD j 0) 0
  rest : ∀ j, i ≤ j → j < 19 → l.getD (orderL.getD j 0) 0 = 0
theorem orderL_inj : ∀ j, j < 19 → ∀ k, k < 19 → orderL.getD j 0 = orderL.getD k 0 → j = k := by decide
theorem orderL_all : ∀ o, o < 19 → ∃ j, j < 19 ∧ orderL.getD j 0 = o := by decide
theorem first_back (hl : List Nat) (h7 : ∀ o, hl.getD o 0 ≤ 7) (B : Nat → Nat) (T : Nat) : ∀ (k i p : Nat) (l : List Nat), i + k ≤ 19 → OrdAt hl i l → Lies B T p (segBits hl i k) → ∃ l', firstP k i l B T p = .ok (l', p + 3 * k) ∧ OrdAt hl (i + k) l'
  | 0, i, p, l, _, ho, _ => ⟨l, rfl, ho⟩
  | k + 1, i, p, l, hik, ho, h => by
    rw [segBits_succ hl i k (by omega)] at h
    have h1 := h.left
    have h2 := h.right
    rw [lowBits_length] at h2
    have hx := h7 (orderL.getD i 0)
    have ho2 : OrdAt hl (i + 1) (l.set (orderL.getD i 0) (hl.getD (orderL.getD i 0) 0)) := by
      refine ⟨by rw [List.length_set]; exact ho.len, fun j hj hj9 => ?_, fun j hj hj9 => ?_⟩
      · by_cases e : j = i
        · subst e
          rw [List.getD_eq_getElem?_getD, List.getElem?_set_self (by rw [ho.len]; exact orderL_lt j (by omega))]
          rfl
        · rw [List.getD_eq_getElem?_getD, List.getElem?_set_ne (fun e2 => e (orderL_inj i (by omega) j hj9 e2).symm), ← List.getD_eq_getElem?_getD]
          exact ho.done j (by omega) hj9
      · rw [List.getD_eq_getElem?_getD, List.getElem?_set_ne (fun e2 => by have := orderL_inj i (by omega) j hj9 e2; omega), ← List.getD_eq_getElem?_getD]
        exact ho.rest j (by omega) hj9
    obtain ⟨l', g1, g2⟩ := first_back hl h7 B T k (i + 1) (p + 3) _ (by omega) ho2 h2
    refine ⟨l', ?_, by rw [show i + (k + 1) = i + 1 + k by omega]; exact g2⟩
    unfold firstP
    rw [bindP_ok (rd_low h1 (by omega)), g1, show p + 3 + 3 * k = p + 3 * (k + 1) by omega]
theorem ordN_zero (hl : List Nat) : ∀ k j, ordN hl k ≤ j → j < k → hl.getD (orderL.getD j 0) 0 = 0
  | 0, _, _, h => by omega
  | k + 1, j, h1, h2 => by
    unfold ordN at h1
    split at h1
    · rename_i hk
      by_cases e : j = k
      · rw [e]; exact hk.2
      · exact ordN_zero hl k j h1 (by omega)
    · omega
theorem first_all (hl : List Nat) (h19 : hl.length = 19) (h7 : ∀ o, hl.getD o 0 ≤ 7) (B : Nat → Nat) (T p : Nat) (h : Lies B T p (ordBits hl (ordN hl 19))) : firstP (ordN hl 19) 0 (List.replicate 19 0) B T p = .ok (hl, p + 3 * ordN hl 19) := by
  have h9 := ordN_le hl 19
  obtain ⟨l', g1, g2⟩ := first_back hl h7 B T (ordN hl 19) 0 p (List.replicate 19 0) (by omega) ⟨by simp, fun j hj => by omega, fun j _ hj => by
    rw [List.getD_eq_getElem?_getD, List.getElem?_replicate]
    split <;> rfl⟩ h
  rw [Nat.zero_add] at g2
  have e : l' = hl := by
    apply List.ext_getElem?
    intro o
    by_cases ho : o < 19
    · obtain ⟨j, hj, hjo⟩ := orderL_all o ho
      have key : l'.getD o 0 = hl.getD o 0 := by
        by_cases hjn : j < ordN hl 19
        · have := g2.done j hjn hj
          rw [hjo] at this
          exact this
        · have h1 := g2.rest j (by omega) hj
          have h2 := ordN_zero hl 19 j (by omega) hj
          rw [hjo] at h1 h2
          rw [h1, h2]
      have hl1 : o < l'.length := by rw [g2.len]; exact ho
      have hl2 : o < hl.length := by rw [h19]; exact ho
      rw [List.getD_eq_getElem?_getD, List.getD_eq_getElem?_getD, List.getElem?_eq_getElem hl1, List.getElem?_eq_getElem hl2] at key
      rw [List.getElem?_eq_getElem hl1, List.getElem?_eq_getElem hl2]
      exact congrArg some key
    · rw [List.getElem?_eq_none (by rw [g2.len]; omega), List.getElem?_eq_none (by omega)]
  rw [g1, e]

/-- Runs that were written are read. -/
theorem runs_back (hl : List Nat) (hM : MakesC hl) (n : Nat) (B : Nat → Nat) (T : Nat) : ∀ (rs : List (Int × Int)) (f : Nat) (out o : List Int) (p : Nat), unF (n : Int) out rs = some o → rs.length < f → (∀ r ∈ rs, r.1.toNat < hl.length ∧ hl.getD r.1.toNat 0 ≠ 0) → Lies B T p (runsBits hl rs) → runsP hl n f out B T p = .ok (o, p + (runsBits hl rs).length)
  | [], f, out, o, p, hu, hf, _, _ => by
    obtain ⟨f, rfl⟩ : ∃ k, f = k + 1 := ⟨f - 1, by omega⟩
    unfold unF at hu
    split at hu
    · rename_i hn
      injection hu with hu
      subst hu
      unfold runsP
      rw [if_pos (by omega)]
      rfl
    · cases hu
  | r :: rs, f, out, o, p, hu, hf, hr, h => by
    obtain ⟨f, rfl⟩ : ∃ k, f = k + 1 := ⟨f - 1, by omega⟩
    unfold unF at hu
    split at hu
    · rename_i hb
      obtain ⟨g1, g2, g3, g4, g5, g6⟩ := (runB_iff _ _ _).1 hb
      have hc := hr r List.mem_cons_self
      have eb : runsBits hl (r :: rs) = (highBits (codeN hl r.1.toNat : Int) (hl.getD r.1.toNat 0) ++ lowBits r.2 (xBits r.1)) ++ runsBits hl rs := by
        show List.flatMap _ _ = _
        rw [List.flatMap_cons]
        rfl
      rw [eb] at h ⊢
      have h1 := h.left.left
      have h2 := h.left.right
      have h3 := h.right
      rw [highBits_length] at h2
      rw [List.length_append, highBits_length, lowBits_length] at h3
      have e1 : ((r.1.toNat : Nat) : Int) = r.1 := by omega
      have e2 : ((r.2.toNat : Nat) : Int) = r.2 := by omega
      rw [← e2] at h2
      have hpos : 1 ≤ timesR r := by
        unfold timesR
        split; · omega
        split; · omega
        split; · omega
        omega
      unfold runsP
      rw [if_neg (by omega), bindP_ok (sym_high hM hc.1 hc.2 h1), e1, bindP_ok (rd_low h2 (by omega)), e2]
      have hk : chkP (runB (n : Int) out (r.1, r.2)) 3 B T (p + hl.getD r.1.toNat 0 + xBits r.1) = .ok ((), p + hl.getD r.1.toNat 0 + xBits r.1) := by
        have e3 : runB (n : Int) out (r.1, r.2) = true := hb
        rw [e3]
        rfl
      rw [bindP_ok hk]
      rw [List.length_cons] at hf
      have ih := runs_back hl hM n B T rs f _ o _ hu (by omega) (fun x hx => hr x (List.mem_cons_of_mem _ hx)) (by rw [← Nat.add_assoc] at h3; exact h3)
      rw [show ((r.1, r.2) : Int × Int) = r from rfl, ih]
      simp only [List.length_append, highBits_length, lowBits_length]
      congr 2
      omega
    · cases hu

/-- What a header's run has of the code. -/
theorem lim_stands {ws hl : List Nat} {m : Nat} (h : LimTo ws m hl) (hm : m ≤ 15) (s : Nat) (hs : s < ws.length) (hz : ws.getD s 0 ≠ 0) : hl.getD s 0 ≠ 0 := by
  obtain ⟨j, rfl, h2, _⟩ := h
  have he := lenF_each (halfJ j ws) (fun x hx => Nat.le_trans (h2 x hx) hm) s (by rw [halfJ_len]; exact hs)
  rw [lens_getD _ _ (by rw [halfJ_len]; exact hs)]
  have := (he.2 (fun e => hz ((half_zero j ws s).1 e))).1
  omega
theorem lens_back {x y : List Nat} {hb : List Bool} {B : Nat → Nat} {T p : Nat} (hh : HeadRel x y hb) (hx1 : 257 ≤ x.length) (hx2 : x.length ≤ 286) (hy1 : 1 ≤ y.length) (hy2 : y.length ≤ 30) (h15 : ∀ z ∈ x ++ y, z ≤ 15) (h256 : x.getD 256 0 ≠ 0) (h : Lies B T p hb) :
    lensP B T p = .ok ((x.map fun (n : Nat) => (n : Int), y.map fun (n : Nat) => (n : Int)), p + hb.length) := by
  obtain ⟨rs, hl, hf, hlim, rfl⟩ := hh
  obtain ⟨hM, hlen, h7⟩ := halfJ_short15 hlim (by omega)
  rw [runWs_length] at hlen
  have h7' : ∀ o, hl.getD o 0 ≤ 7 := fun o => getD_le h7 o
  have hv : ∀ z ∈ (x ++ y).map fun (n : Nat) => (n : Int), 0 ≤ z ∧ z ≤ 15 := fun z hz => by
    obtain ⟨w, hw, rfl⟩ := List.mem_map.1 hz
    have := h15 w hw
    omega
  have hF : Folds none ((x ++ y).map fun (n : Nat) => (n : Int)) rs := by
    rcases hf with ⟨_, h2⟩ | ⟨h1, _⟩
    · exact h2
    · rw [(lenB_iff _).2 hv] at h1; cases h1
  have hun := back_all _ rs hF hv
  have hrl := Folds.length _ _ _ hF
  rw [List.length_map, List.length_append] at hun hrl
  have hok := foldRes_ok hf
  have h9 := ordN_le hl 19
  have h4 := ordN_four hl 19 (by omega)
  have hst : ∀ r ∈ rs, r.1.toNat < hl.length ∧ hl.getD r.1.toNat 0 ≠ 0 := fun r hr => by
    have hb := hok r hr
    refine ⟨by omega, lim_stands hlim (by omega) _ (by rw [runWs_length]; omega) ?_⟩
    rw [List.getD_eq_getElem?_getD, runWs_get rs _ (by omega)]
    show cntR rs r.1.toNat ≠ 0
    unfold cntR
    have : 0 < rs.countP (fun q => q.1 == ((r.1.toNat : Nat) : Int)) := List.countP_pos_iff.2 ⟨r, hr, by rw [show ((r.1.toNat : Nat) : Int) = r.1 by omega]; exact beq_self_eq_true _⟩
    omega
  have hg : goodB (hl.map fun (n : Nat) => (n : Int)) = true := (goodB_iff _).2 ⟨fun z hz => by
    obtain ⟨w, hw, rfl⟩ := List.mem_map.1 hz
    have := h7 w hw
    omega, by rw [nat_back]; exact hM⟩
  unfold headBits at h ⊢
  have l1 := h.left
  have l2 := h.right.left
  have l3 := h.right.right.left
  have l4 := h.right.right.right.left
  have l5 := h.right.right.right.right
  have hol : (ordBits hl (ordN hl 19)).length = 3 * ordN hl 19 := by
    have key : ∀ k, k ≤ 19 → (ordBits hl k).length = 3 * k := by
      intro k
      induction k with
      | zero => intro _; rfl
      | succ k ih =>
        intro hk
        rw [ordBits_succ hl k (by omega), List.length_append, ih (by omega), lowBits_length]
        omega
    exact key _ h9
  simp only [lowBits_length, hol] at l2 l3 l4 l5
  unfold lensP
  rw [bindP_ok (rd_low l1 (by omega)), bindP_ok (rd_low l2 (by omega)), bindP_ok (rd_low l3 (by omega))]
  have c1 : ∀ q, chkP (decide (x.length - 257 + 257 ≤ 286) && decide (y.length - 1 + 1 ≤ 30)) 3 B T q = .ok ((), q) := fun q => by
    rw [decide_eq_true (by omega), decide_eq_true (by omega)]
    rfl
  rw [bindP_ok (c1 _), show ordN hl 19 - 4 + 4 = ordN hl 19 by omega, bindP_ok (first_all hl hlen h7' B T _ l4)]
  have c2 : ∀ q, chkP (goodB (hl.map fun (n : Nat) => (n : Int))) 4 B T q = .ok ((), q) := fun q => by
    rw [hg]
    rfl
  rw [bindP_ok (c2 _), show x.length - 257 + 257 = x.length by omega, show y.length - 1 + 1 = y.length by omega, bindP_ok (runs_back hl hM (x.length + y.length) B T rs 400 [] _ _ hun (by omega) hst l5)]
  have e256 : ((x ++ y).map fun (n : Nat) => (n : Int)).getD 256 0 = ((x.getD 256 0 : Nat) : Int) := by
    rw [List.getD_eq_getElem?_getD, List.getElem?_map, List.getElem?_append_left (by omega), List.getD_eq_getElem?_getD, List.getElem?_eq_getElem (show 256 < x.length by omega)]
    rfl
  have c3 : ∀ q, chkP (decide (((x ++ y).map fun (n : Nat) => (n : Int)).getD 256 0 ≠ 0)) 4 B T q = .ok ((), q) := fun q => by
    rw [e256, decide_eq_true (by omega)]
    rfl
  rw [bindP_ok (c3 _)]
  show Except.ok ((_, _), _) = _
  rw [List.map_append, List.take_left' (by rw [List.length_map]), List.drop_left' (by rw [List.length_map])]
  simp only [List.length_append, lowBits_length, hol]
  congr 2
  omega

end Go.Proofs.YtaalbaiglkadlaaGreat

/- Opening streams: blocks, stored blocks and streams that were written are opened. Nothing of the program is named here. -/
namespace Go.Proofs.YtaalbaiglkadlaaGreat

theorem plain_serves (l : List (Nat × Int × Int)) (hr : ∀ t ∈ l, RightT t) : Serves plainL plainD l := by
  have hk := plain_ok l hr
  have hL : ∀ s, s < 288 → plainL.getD s 0 ≠ 0 := by decide +kernel
  have hD : ∀ s, s < 32 → plainD.getD s 0 ≠ 0 := by decide +kernel
  refine ⟨hk.ma, hk.mb, hk.la1, hL 256 (by omega), hr, fun t ht => ⟨(hk.fit t ht).1, hL _ ?_⟩, fun t ht h0 => ⟨(hk.fit t ht).2 h0, hD _ ?_⟩⟩
  · have := symT_lt (hr t ht); omega
  · have := farT_lt t; omega
theorem own_serves (l : List (Nat × Int × Int)) (hr : ∀ t ∈ l, RightT t) (hl : l.length ≤ 2000) : Serves (ownLit l) (ownDist l) l := by
  have hk := own_ok l hr hl
  have hlit : ∀ s, s < 286 → 0 < wL l s → (ownLit l).getD s 0 ≠ 0 := fun s hs hw => by
    unfold ownLit
    rw [cutL_get]
    exact (lit_stands l hl s hs).2 hw
  have hfar : ∀ s, s < 30 → 0 < wD l s → (ownDist l).getD s 0 ≠ 0 := fun s hs hw => by
    unfold ownDist
    rw [cutL_get]
    exact (dist_stands l hl s hs).2 hw
  refine ⟨hk.ma, hk.mb, hk.la1, hlit 256 (by omega) (by unfold wL; rw [if_pos rfl]; omega), hr, fun t ht => ⟨(hk.fit t ht).1, hlit _ (symT_lt (hr t ht)) ?_⟩, fun t ht h0 => ⟨(hk.fit t ht).2 h0, hfar _ (farT_lt t) ?_⟩⟩
  · have : 0 < l.countP (fun q => symT q == symT t) := List.countP_pos_iff.2 ⟨t, ht, beq_self_eq_true _⟩
    unfold wL
    omega
  · have : 0 < l.countP (fun q => isM q && (farT q == farT t)) := List.countP_pos_iff.2 ⟨t, ht, by unfold isM; rw [decide_eq_true h0, beq_self_eq_true]; rfl⟩
    unfold wD
    omega
theorem rd_one {B : Nat → Nat} {T i : Nat} {b : Bool} (h : Lies B T i [b]) : rdP 1 B T i = .ok (b.toNat, i + 1) := by
  have h1 := h.le
  rw [List.length_singleton] at h1
  have h2 := h.at_ 0 (by rw [List.length_singleton]; exact Nat.one_pos)
  unfold rdP
  rw [if_pos h1]
  show Except.ok (0 + B (i + 0) * 2 ^ 0, i + 1) = _
  rw [h2, Nat.pow_zero, Nat.mul_one, Nat.zero_add]
  rfl
theorem good_of {ls : List Nat} (h : ∀ x ∈ ls, x ≤ 15) (hM : MakesC ls) : goodB (ls.map fun (n : Nat) => (n : Int)) = true := (goodB_iff _).2 ⟨fun z hz => by
    obtain ⟨w, hw, rfl⟩ := List.mem_map.1 hz
    have := h w hw
    omega, by rw [nat_back]; exact hM⟩
theorem chk_ok {c : Bool} {e : Int} {B : Nat → Nat} {T q : Nat} (h : c = true) : chkP c e B T q = .ok ((), q) := by
  rw [h]
  rfl
/-- A block that was written is read. -/
theorem block_back {l : List (Nat × Int × Int)} {kind : Int} {last : Bool} {ob : List Bool} {B : Nat → Nat} {T i : Nat} {limit : Int} {out o : List Nat} (hb : BlockRel l kind last ob) (hr : ∀ t ∈ l, RightT t) (hl : l.length ≤ 2000) (hx : exF 5 6 limit out l = (o, 0)) (h : Lies B T i ob) :
    blockP limit out B T i = .ok ((last.toNat, o), i + ob.length) := by
  rcases hb with ⟨_, hb, hh, rfl⟩ | ⟨_, rfl⟩
  · have h1 := h.left
    have h2 := h.right.left
    have h3 := h.right.right.left
    have h4 := h.right.right.right
    rw [lowBits_length, List.length_singleton] at h3 h4
    rw [List.length_singleton] at h2
    have hs := own_serves l hr hl
    have hk := own_ok l hr hl
    have hA := ownLit_len l
    have hD := ownDist_len l
    unfold blockP
    rw [bindP_ok (rd_one h1), bindP_ok (rd_low (x := 2) h2 (by decide)), if_neg (by omega), if_neg (by omega)]
    have hc : codesP 2 B T (i + 1 + 2) = .ok (((ownLit l).map fun (n : Nat) => (n : Int), (ownDist l).map fun (n : Nat) => (n : Int)), i + 1 + 2 + hb.length) :=
      lens_back hh hA.1 hA.2 hD.1 hD.2 (fun z hz => by
        rcases List.mem_append.1 hz with e | e
        · exact hk.ma.each z e
        · exact hk.mb.each z e) hs.end_ h3
    rw [bindP_ok hc]
    dsimp only
    rw [bindP_ok (chk_ok (by rw [good_of hk.ma.each hk.ma, good_of hk.mb.each hk.mb]; rfl)), nat_back, nat_back, bindP_ok (pour_back _ _ B T limit l 1000000 out o _ (by omega) hs hx h4)]
    show Except.ok ((_, _), _) = _
    simp only [List.length_append, List.length_singleton, lowBits_length]
    congr 2
    omega
  · have h1 := h.left
    have h2 := h.right.left
    have h3 := h.right.right
    rw [lowBits_length, List.length_singleton] at h3
    rw [List.length_singleton] at h2
    have hs := plain_serves l hr
    unfold blockP
    rw [bindP_ok (rd_one h1), bindP_ok (rd_low (x := 1) h2 (by decide)), if_neg (by omega), if_neg (by omega)]
    have hc : codesP 1 B T (i + 1 + 2) = .ok ((plainL.map fun (n : Nat) => (n : Int), plainD.map fun (n : Nat) => (n : Int)), i + 1 + 2) := rfl
    rw [bindP_ok hc]
    dsimp only
    rw [bindP_ok (chk_ok (by rw [good_of makes_plainL.each makes_plainL, good_of makes_plainD.each makes_plainD]; rfl)), nat_back, nat_back, bindP_ok (pour_back _ _ B T limit l 1000000 out o _ (by omega) hs hx h3)]
    show Except.ok ((_, _), _) = _
    simp only [List.length_append, List.length_singleton, lowBits_length]
    congr 2
    omega
/-- A text's bytes as numbers. -/
def natsB (s : ByteArray) : List Nat := s.data.toList.map UInt8.toNat
theorem natsB_length (s : ByteArray) : (natsB s).length = s.size := by
  unfold natsB
  rw [List.length_map, Array.length_toList]
  rfl
theorem text_back {s : ByteArray} {B : Nat → Nat} {T i : Nat} (h : Lies B T i (bytesBits s.data.toList)) : textP s.size B T i = .ok (natsB s, i + 8 * s.size) := by
  have hsz : s.data.toList.length = s.size := by rw [Array.length_toList]; rfl
  have h1 := h.le
  rw [bytesBits_length, hsz] at h1
  unfold textP
  rw [if_pos h1]
  congr 2
  apply List.ext_getElem?
  intro q
  by_cases hq : q < s.size
  · rw [List.getElem?_map, List.getElem?_range hq]
    unfold natsB
    rw [List.getElem?_map, List.getElem?_eq_getElem (by rw [hsz]; exact hq)]
    show some (numLo B (i + 8 * q) 8) = some (s.data.toList[q].toNat)
    rw [numLo_mod B (i + 8 * q) (s.data.toList[q].toNat) 8 (fun j hj => ?_), Nat.mod_eq_of_lt (show _ < 2 ^ 8 from (s.data.toList[q]).toNat_lt)]
    rw [Nat.add_assoc, h.at_ (8 * q + j) (by rw [bytesBits_length, hsz]; omega), bytesBits_getD, show (8 * q + j) / 8 = q by omega, show (8 * q + j) % 8 = j by omega, List.getD_eq_getElem?_getD, List.getElem?_eq_getElem (by rw [hsz]; exact hq)]
    show (Nat.testBit _ j).toNat = _
    rw [Nat.testBit_eq_decide_div_mod_eq]
    show (decide (s.data.toList[q].toNat / 2 ^ j % 2 = 1)).toNat = _
    generalize s.data.toList[q].toNat / 2 ^ j = z
    by_cases hz : z % 2 = 1
    · rw [hz]; rfl
    · have : z % 2 = 0 := by omega
      rw [this]; rfl
  · rw [List.getElem?_eq_none (by rw [List.length_map, List.length_range]; omega), List.getElem?_eq_none (by rw [natsB_length]; omega)]
/-- A stored block that was written is read. -/
theorem store_back {bs : List Bool} {s : ByteArray} {last : Bool} {B : Nat → Nat} {T : Nat} {limit : Int} {out : List Nat} (hs : s.size ≤ 65535) (hlim : (s.size : Int) ≤ limit - (out.length : Int)) (h : Lies B T 0 (storeAll bs s last)) :
    blockP limit out B T bs.length = .ok ((last.toNat, out ++ natsB s), (storeAll bs s last).length) := by
  have hlen := storeAll_length bs s last
  have hal : ∀ xs : List Bool, alignBits xs = xs ++ List.replicate ((xs.length + 7) / 8 * 8 - xs.length) false := fun _ => rfl
  have hA : alignBits (bs ++ [last] ++ lowBits 0 2) = (bs ++ ([last] ++ lowBits 0 2)) ++ List.replicate ((bs.length + 3 + 7) / 8 * 8 - (bs.length + 3)) false := by
    rw [hal, List.append_assoc bs]
    simp only [List.length_append, List.length_singleton, lowBits_length]
  have hAl : (alignBits (bs ++ [last] ++ lowBits 0 2)).length = (bs.length + 3 + 7) / 8 * 8 := by
    rw [alignBits_length]
    simp only [List.length_append, List.length_singleton, lowBits_length]
  have hdone : storeAll bs s last = alignBits (bs ++ [last] ++ lowBits 0 2) ++ (lowBits (s.size : Int) 16 ++ (lowBits ((65535 - s.size : Nat) : Int) 16 ++ bytesBits s.data.toList)) := by
    unfold storeAll
    rw [align_done _ (by
      simp only [List.length_append, lowBits_length, hAl]
      omega), show (65535 : Int) - (s.size : Int) = ((65535 - s.size : Nat) : Int) by omega]
    simp only [List.append_assoc]
  rw [hdone] at h
  have g := h.left
  rw [hA] at g
  have g1 := g.left.right.left
  have g2 := g.left.right.right
  have k1 := h.right.left
  have k2 := h.right.right.left
  have k3 := h.right.right.right
  simp only [lowBits_length, hAl, Nat.zero_add] at k1 k2 k3
  rw [Nat.zero_add] at g1 g2
  rw [List.length_singleton] at g2
  have hle := h.le
  rw [List.length_append, hAl] at hle
  unfold blockP
  rw [bindP_ok (rd_one g1), bindP_ok (rd_low (x := 0) g2 (by decide)), if_pos rfl]
  have hr : rawP limit out B T (bs.length + 1 + 2) = .ok (out ++ natsB s, (storeAll bs s last).length) := by
    unfold rawP
    have ha : alignP B T (bs.length + 1 + 2) = .ok ((), (bs.length + 3 + 7) / 8 * 8) := by
      unfold alignP
      rw [show bs.length + 1 + 2 = bs.length + 3 from rfl, if_pos (by omega)]
    rw [bindP_ok ha, bindP_ok (rd_low k1 (by omega)), bindP_ok (rd_low k2 (by omega)), bindP_ok (chk_ok (decide_eq_true (by omega))), bindP_ok (chk_ok (decide_eq_true hlim)), bindP_ok (text_back k3)]
    show Except.ok (_, _) = _
    rw [hlen]
  rw [bindP_ok hr]
  rfl

end Go.Proofs.YtaalbaiglkadlaaGreat

/- Opening streams: block by block; what was packed is opened as it was. Nothing of the program is named here. -/
namespace Go.Proofs.YtaalbaiglkadlaaGreat

/-- A stream's bits so far, opened: what there is, by so many blocks. -/
def Opened (limit : Int) (bs : List Bool) (out : List Nat) (m : Nat) : Prop := ∀ (B : Nat → Nat) (T : Nat), Lies B T 0 bs → ∀ f, openP limit (f + m) [] B T 0 = openP limit f out B T bs.length
theorem Opened.nil (limit : Int) : Opened limit [] [] 0 := fun _ _ _ _ => rfl
theorem Opened.step {limit : Int} {bs b1 : List Bool} {out o : List Nat} {m : Nat} (h : Opened limit bs out m) (hp : ∃ e, b1 = bs ++ e) (hb : ∀ B T, Lies B T 0 b1 → blockP limit out B T bs.length = .ok ((0, o), b1.length)) : Opened limit b1 o (m + 1) := by
  intro B T hl f
  obtain ⟨e, rfl⟩ := hp
  rw [show f + (m + 1) = (f + 1) + m by omega, h B T hl.left]
  show bindP _ _ B T _ = _
  rw [bindP_ok (hb B T hl), if_neg (show ¬ (0 : Nat) = 1 by decide)]
/-- The last block. -/
theorem Opened.last {limit : Int} {bs b1 : List Bool} {out o : List Nat} {m : Nat} (h : Opened limit bs out m) (hp : ∃ e, b1 = bs ++ e) (hb : ∀ B T, Lies B T 0 b1 → blockP limit out B T bs.length = .ok ((1, o), b1.length)) (B : Nat → Nat) (T : Nat) (hl : Lies B T 0 b1) (f : Nat) (hf : m < f) : openP limit f [] B T 0 = .ok (o, b1.length) := by
  obtain ⟨e, rfl⟩ := hp
  obtain ⟨g, rfl⟩ : ∃ g, f = (g + 1) + m := ⟨f - m - 1, by omega⟩
  rw [h B T hl.left]
  show bindP _ _ B T _ = _
  rw [bindP_ok (hb B T hl), if_pos rfl]
  rfl
theorem block_at {limit : Int} {bs ob : List Bool} {out o : List Nat} {l : List (Nat × Int × Int)} {kind : Int} {last : Bool} (hb : BlockRel l kind last ob) (hr : ∀ t ∈ l, RightT t) (hl : l.length ≤ 2000) (hx : exF 5 6 limit out l = (o, 0)) : ∀ B T, Lies B T 0 (bs ++ ob) → blockP limit out B T bs.length = .ok ((last.toNat, o), (bs ++ ob).length) := by
  intro B T h
  have h1 := h.right
  rw [Nat.zero_add] at h1
  rw [block_back hb hr hl hx h1, List.length_append]

/-- What tokens come to, part by part. -/
theorem exF_append (eF eL : Nat) (limit : Int) : ∀ (a b : List (Nat × Int × Int)) (out : List Nat), exF eF eL limit out (a ++ b) = (if (exF eF eL limit out a).2 = 0 then exF eF eL limit (exF eF eL limit out a).1 b else exF eF eL limit out a) ∨ eF = 0 ∨ eL = 0
  | [], b, out => by
    left
    show _ = if (0 : Nat) = 0 then _ else _
    rw [if_pos rfl]
    rfl
  | t :: a, b, out => by
    by_cases h0 : eF = 0 ∨ eL = 0
    · exact .inr h0
    · left
      have ih := fun o => (exF_append eF eL limit a b o).resolve_right h0
      rw [List.cons_append]
      simp only [exF]
      split
      · split
        · rw [if_neg (by show ¬ eL = 0; omega)]
        · exact ih _
      · split
        · rw [if_neg (by show ¬ eF = 0; omega)]
        · split
          · rw [if_neg (by show ¬ eL = 0; omega)]
          · exact ih _
theorem exF_split {limit : Int} {a b : List (Nat × Int × Int)} {out o : List Nat} (h : exF 5 6 limit out (a ++ b) = (o, 0)) : ∃ m, exF 5 6 limit out a = (m, 0) ∧ exF 5 6 limit m b = (o, 0) := by
  have h1 := (exF_append 5 6 limit a b out).resolve_right (by omega)
  rw [h1] at h
  split at h
  · rename_i hz
    exact ⟨(exF 5 6 limit out a).1, by rw [← hz], h⟩
  · rename_i hz
    rw [h] at hz
    exact absurd rfl hz
/-- Any limit that is no less than what they come to tells the same. -/
theorem exF_limit {L M : Int} : ∀ (l : List (Nat × Int × Int)) (out o : List Nat), exF 5 6 L out l = (o, 0) → (o.length : Int) ≤ M → out.length ≤ o.length ∧ exF 5 6 M out l = (o, 0)
  | [], out, o, h, _ => by
    injection h with h _
    subst h
    exact ⟨Nat.le_refl _, rfl⟩
  | t :: l, out, o, h, hM => by
    unfold exF at h ⊢
    split at h
    · rename_i h0
      rw [if_pos h0]
      split at h
      · injection h with _ h; cases h
      · have ih := exF_limit l _ o h hM
        rw [List.length_append] at ih
        have : out.length + 1 ≤ o.length := ih.1
        rw [if_neg (by omega)]
        exact ⟨by omega, ih.2⟩
    · rename_i h0
      rw [if_neg h0]
      split at h
      · injection h with _ h; cases h
      · rename_i hf
        rw [if_neg hf]
        split at h
        · injection h with _ h; cases h
        · have ih := exF_limit l _ o h hM
          rw [copyN_length] at ih
          rw [if_neg (by omega)]
          exact ⟨by omega, ih.2⟩

/-- A token of a text, at its place. -/
theorem tok_one (c : Nat → Nat) (n : Nat) (level : Int) (limit : Int) (hl : (n : Int) ≤ limit) (i : Nat) (hi : i < n) (l : List (Nat × Int × Int)) : exF 5 6 limit (preB c i) (castT (tokM c n i level) :: l) = exF 5 6 limit (preB c (i + takes (tokM c n i level))) l := by
  have hk := tok_takes c n i level hi
  obtain ⟨t, ht⟩ : ∃ t, tokM c n i level = t := ⟨_, rfl⟩
  rw [ht] at hk ⊢
  conv => lhs; unfold exF
  rcases tok_cases c n i level with e | ⟨k, d, e, h3, h4, h5, h6, h7, h8, h9⟩
  · rw [ht] at e
    rw [e]
    have e1 : takes (c i, 0, 0) = 1 := rfl
    rw [e1, preB_succ]
    rw [if_pos (show ((castT (c i, 0, 0)).2.1 : Int) ≤ 0 from Int.le_refl _), if_neg (by rw [preB_length]; omega)]
    rfl
  · rw [ht] at e
    rw [e] at hk ⊢
    have e1 : takes (0, k, d) = k := by unfold takes; rw [if_neg (show ¬ k = 0 by omega)]
    rw [e1] at hk ⊢
    have hc := copy_pre c i d h5 h7 k h9 k (Nat.le_refl _)
    rw [Nat.sub_self, Nat.add_zero] at hc
    rw [if_neg (show ¬ ((castT (0, k, d)).2.1 : Int) ≤ 0 by show ¬ (k : Int) ≤ 0; omega), if_neg (by rw [preB_length]; show ¬ ((d : Int) < 1 ∨ (i : Int) < (d : Int)); omega), if_neg (by rw [preB_length]; show ¬ limit - (i : Int) < (k : Int); omega)]
    show exF 5 6 limit (copyN ((d : Int)).toNat ((k : Int)).toNat (preB c i)) _ = _
    rw [Int.toNat_natCast, Int.toNat_natCast, hc]
/-- The first k tokens, and the others. -/
theorem toks_split (s : ByteArray) (level : Int) (limit : Int) (hl : (s.size : Int) ≤ limit) : ∀ (k : Nat) (ts : List (Nat × Nat × Nat)) (i : Nat), Toks (bAt s) s.size level i ts → exF 5 6 limit (preB (bAt s) i) ((ts.take k).map castT) = (preB (bAt s) (i + covL ((ts.take k).map castT)), 0) ∧ Toks (bAt s) s.size level (i + covL ((ts.take k).map castT)) (ts.drop k)
  | 0, ts, i, h => ⟨rfl, h⟩
  | k + 1, [], i, h => ⟨rfl, h⟩
  | k + 1, t :: ts, i, h => by
    obtain ⟨hi, ht, h2⟩ := h
    have ih := toks_split s level limit hl k ts _ h2
    rw [List.take_succ_cons, List.map_cons, List.drop_succ_cons]
    have ec : covL (castT t :: (ts.take k).map castT) = takes t + covL ((ts.take k).map castT) := by
      show covT (castT t) + _ = _
      rw [cov_takes]
      rfl
    rw [ec, ← Nat.add_assoc, ← ih.1]
    refine ⟨?_, ih.2⟩
    rw [ht]
    exact tok_one (bAt s) s.size level limit hl i hi _
theorem nats_pre (s : ByteArray) : natsB s = preB (bAt s) s.size := by
  apply List.ext_getElem?
  intro q
  have hsz : s.data.toList.length = s.size := by rw [Array.length_toList]; rfl
  unfold natsB preB
  rw [List.getElem?_map, List.getElem?_map]
  by_cases hq : q < s.size
  · rw [List.getElem?_range hq, List.getElem?_eq_getElem (by rw [hsz]; exact hq)]
    show some _ = some (bAt s q)
    unfold bAt
    rw [List.getD_eq_getElem?_getD, List.getElem?_eq_getElem (by rw [hsz]; exact hq)]
    rfl
  · rw [List.getElem?_eq_none (by rw [hsz]; omega), List.getElem?_eq_none (by rw [List.length_range]; omega)]
    rfl
theorem pre_sub (s : ByteArray) (i n : Nat) (h : i + n ≤ s.size) : preB (bAt s) i ++ natsB (subB s i n) = preB (bAt s) (i + n) := by
  have hsz : s.data.toList.length = s.size := by rw [Array.length_toList]; rfl
  apply List.ext_getElem?
  intro q
  by_cases hq : q < i
  · rw [List.getElem?_append_left (by rw [preB_length]; exact hq)]
    unfold preB
    rw [List.getElem?_map, List.getElem?_map, List.getElem?_range hq, List.getElem?_range (by omega)]
  · rw [List.getElem?_append_right (by rw [preB_length]; omega), preB_length]
    unfold natsB subB preB
    show (List.map _ ((s.data.toList.drop i).take n))[q - i]? = _
    rw [List.getElem?_map, List.getElem?_take, List.getElem?_map]
    by_cases hq2 : q < i + n
    · rw [if_pos (by omega), List.getElem?_drop, show i + (q - i) = q by omega, List.getElem?_range hq2, List.getElem?_eq_getElem (by rw [hsz]; omega)]
      show some _ = some (bAt s q)
      unfold bAt
      rw [List.getD_eq_getElem?_getD, List.getElem?_eq_getElem (by rw [hsz]; omega)]
      rfl
    · rw [if_neg (by omega), List.getElem?_eq_none (by rw [List.length_range]; omega)]
      rfl
theorem store_pre (bs : List Bool) (s : ByteArray) (last : Bool) : ∃ e, storeAll bs s last = bs ++ e := by
  unfold storeAll alignBits
  simp only [List.append_assoc]
  exact ⟨_, rfl⟩
/-- One more block of a text, opened. -/
theorem step_back {s : ByteArray} {bs b1 : List Bool} {i : Nat} {part : List (Nat × Int × Int)} {c limit : Int} {last : Bool} (hs : s.size ≤ 65535) (hlim : (s.size : Int) ≤ limit) (hst : StepRel s bs i part c last b1) (hi : i + covL part ≤ s.size) (hr : ∀ t ∈ part, RightT t) (hl : part.length ≤ 2000) (hx : exF 5 6 limit (preB (bAt s) i) part = (preB (bAt s) (i + covL part), 0)) :
    (∃ e, b1 = bs ++ e) ∧ ∀ B T, Lies B T 0 b1 → blockP limit (preB (bAt s) i) B T bs.length = .ok ((last.toNat, preB (bAt s) (i + covL part)), b1.length) := by
  rcases hst with ⟨_, rfl⟩ | ⟨_, ob, hb, rfl⟩
  · refine ⟨store_pre _ _ _, fun B T h => ?_⟩
    have hz := subB_size s i _ hi
    rw [store_back (by omega) (by rw [preB_length]; omega) h, pre_sub s i _ hi]
  · exact ⟨⟨ob, rfl⟩, block_at hb hr hl hx⟩
/-- A text's blocks are opened as it was. -/
theorem blocks_back {s : ByteArray} {level limit : Int} (hs : s.size ≤ 65535) (hlim : (s.size : Int) ≤ limit) : ∀ (k : Nat) (bs : List Bool) (i m : Nat) (ts : List (Nat × Nat × Nat)) (out : List Bool), Blocks s k bs i (ts.map castT) out → Toks (bAt s) s.size level i ts → Opened limit bs (preB (bAt s) i) m → ∀ B T, Lies B T 0 out → ∀ f, m + ts.length + 1 ≤ f → openP limit f [] B T 0 = .ok (preB (bAt s) s.size, out.length)
  | 0, _, _, _, _, _, h, _, _, _, _, _, _, _ => h.elim
  | k + 1, bs, i, m, ts, out, h, ht, ho, B, T, hL, f, hf => by
    obtain ⟨c, b1, _, h2, h3⟩ := h
    rw [← List.map_take] at h2 h3
    have hsp := toks_split s level limit hlim 512 ts i ht
    have hcv := toks_cov s level (ts.drop 512) _ hsp.2
    have hrt := toks_right s level ts i ht
    have hst := step_back hs hlim h2 (by omega) (fun t hm => hrt t (by rw [List.map_take] at hm; exact List.mem_of_mem_take hm)) (by rw [List.length_map, List.length_take]; omega) hsp.1
    rw [List.length_map] at h2 h3 hst
    rcases h3 with ⟨h4, rfl⟩ | ⟨h4, h5⟩
    · rw [decide_eq_true h4] at hst
      have e0 : ts.drop 512 = [] := List.drop_of_length_le h4
      rw [e0, List.map_nil, covL_nil] at hcv
      rw [Nat.add_zero] at hcv
      rw [hcv] at hst
      exact ho.last hst.1 hst.2 B T hL f (by omega)
    · rw [decide_eq_false (by omega)] at hst
      rw [← List.map_drop] at h5
      exact blocks_back hs hlim k b1 _ (m + 1) (ts.drop 512) out h5 hsp.2 (ho.step hst.1 hst.2) B T hL f (by rw [List.length_drop]; omega)
/-- What was packed is opened as it was. -/
theorem pack_bits {s : ByteArray} {level : Int} {t : List UInt8} {er : Int} (h : PackRel s level t er) (h0 : 0 ≤ level) (h9 : level ≤ 9) (hs : s.size ≤ 65535) : er = 0 ∧ ∃ bits, Packs bits t ∧ ∀ limit : Int, (s.size : Int) ≤ limit → ∀ B T, Lies B T 0 bits → openP limit 1000000 [] B T 0 = .ok (natsB s, bits.length) := by
  rcases h with ⟨h1, _⟩ | ⟨_, h2, h3⟩ | ⟨_, _, h3, ts, bits, k, h4, h5, h6⟩
  · omega
  · refine ⟨h3, _, h2, fun limit hlim B T hL => ?_⟩
    refine (Opened.nil limit).last (o := natsB s) ⟨_, rfl⟩ (fun B T h => ?_) B T hL 1000000 (by decide)
    have := store_back (bs := []) (out := []) (limit := limit) hs (by show (s.size : Int) ≤ limit - (0 : Int); omega) h
    rw [List.nil_append] at this
    exact this
  · refine ⟨h3, bits, h6, fun limit hlim B T hL => ?_⟩
    rw [nats_pre]
    have hc := toks_cov s level ts 0 h4
    have hg := cov_ge (ts.map castT)
    rw [List.length_map] at hg
    exact blocks_back hs hlim k [] 0 0 ts bits h5 h4 (Opened.nil limit) B T hL 1000000 (by omega)

end Go.Proofs.YtaalbaiglkadlaaGreat
