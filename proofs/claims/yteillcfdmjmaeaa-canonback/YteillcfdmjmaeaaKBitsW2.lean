/- Contracts of the Writer's methods: Turn, Bytes (as of layer 1). -/
import Derived.Test.YteillcfdmjmaeaaKBitsW
import Derived.Test.YteillcfdmjmaeaaPacks
namespace Go.Proofs.Yteillcfdmjmaeaa
open Go.RowKit

/-- A writer lies in block p, with slice v; what was written are the bits bs. -/
def Wr (w : World) (p : Nat) (v : Value) (bs : List Bool) : Prop := ∃ out, WrAt w p v out bs.length ∧ Packs bs out

theorem odd_nat (b : Int) : (b % 2).toNat = (decide (b % 2 = 1)).toNat := by
  by_cases h : b % 2 = 1
  · simp [h]
  · have : b % 2 = 0 := by omega
    simp [this]

theorem wbit_any (p : Nat) (v : Value) (bs : List Bool) (b : Int) (w : World) (h : Wr w p v bs) (hN2 : bs.length ≤ 1000000000000) :
    Calls Try.prog 30 #[.pointer (some ⟨p, 0, none⟩), .int .i64 b] w fun e w' => e = .returned (.tuple #[]) ∧ ∃ v', Wr w' p v' (bs ++ [decide (b % 2 = 1)]) ∧ Step p v v' w w' := by
  obtain ⟨out, hw, hp⟩ := h
  have hl := hp.len
  by_cases h0 : bs.length % 8 = 0
  · refine (wbit_new p v out bs.length b w hw h0 hN2 (by omega)).mono ?_
    rintro e w' ⟨rfl, v', h1, h2⟩
    refine ⟨rfl, v', ⟨_, by simpa using h1, hp.new h0 _ _ ?_⟩, h2⟩
    rw [orBit_nat _ _ _ (by omega), odd_nat]
    simp
  · have hne : out ≠ [] := by intro e; rw [e] at hl; simp at hl; omega
    obtain ⟨o2, x, rfl⟩ : ∃ o2 x, out = o2 ++ [x] := ⟨_, _, (List.dropLast_concat_getLast hne).symm⟩
    refine (wbit_in p v o2 x bs.length b w hw h0 hN2 (by simp at hl; omega)).mono ?_
    rintro e w' ⟨rfl, h1, h2⟩
    refine ⟨rfl, v, ⟨_, by simpa using h1, hp.put h0 _ _ ?_⟩, h2⟩
    rw [orBit_nat _ _ _ (by omega), odd_nat]

/-- The k lowest bits of a number, the lowest first. -/
def lowBits (v : Int) (k : Nat) : List Bool := (List.range k).map fun i => decide (v / 2 ^ i % 2 = 1)

theorem lowBits_length (v : Int) (k : Nat) : (lowBits v k).length = k := by simp [lowBits]

theorem lowBits_succ (v : Int) (k : Nat) : lowBits v (k + 1) = lowBits v k ++ [decide (v / 2 ^ k % 2 = 1)] := by simp [lowBits, List.range_succ]

/-- These, the highest first. -/
def highBits (v : Int) (k : Nat) : List Bool := (lowBits v k).reverse

theorem lowBits_get (v : Int) (k j : Nat) (h : j < k) : (lowBits v k)[j]? = some (decide (v / 2 ^ j % 2 = 1)) := by
  simp [lowBits, List.getElem?_map, List.getElem?_range h]

/-- One more of them, from above. -/
theorem drop_step (v : Int) (k j : Nat) (h : j < k) : ((lowBits v k).drop j).reverse = ((lowBits v k).drop (j + 1)).reverse ++ [decide (v / 2 ^ j % 2 = 1)] := by
  have hl : j < (lowBits v k).length := by rw [lowBits_length]; exact h
  rw [List.drop_eq_getElem_cons hl, List.reverse_cons]
  have := lowBits_get v k j h
  rw [List.getElem?_eq_getElem hl] at this
  injection this with e
  rw [e]

set_option maxHeartbeats 400000 in
theorem wturn_any (p : Nat) (v : Value) (bs : List Bool) (x n : Int) (w : World) (k : Nat) (hk : takenI n = (k : Int)) (h : Wr w p v bs) (hN2 : bs.length ≤ 900000000000) :
    Calls Try.prog 20 #[.pointer (some ⟨p, 0, none⟩), .int .i64 x, .int .i64 n] w fun e w' => e = .returned (.tuple #[]) ∧ ∃ v', Wr w' p v' (bs ++ highBits x k) ∧ Step p v v' w w' := by
  have hk30 : k ≤ 30 := by unfold takenI at hk; split at hk <;> (try split at hk) <;> omega
  have HK := hide hk
  have H := hide h
  clear h hk
  go_enter Try.func20, Try.ntmps20
  go_wp2_with (first | (go_at_call 29; refine (taken_any _ _).mono ?_; rintro e w' ⟨rfl, rfl⟩; rw [HK.out]))
  go_loopw [6] (fun c wr => ∃ (j : Nat) (vj : Value), j ≤ k ∧ c = .int .i64 ((j : Int) - 1) ∧ Hid (Wr wr p vj (bs ++ ((lowBits x k).drop j).reverse)) ∧ Hid (Step p v vj w wr)) (fun c _ => (intOf c + 1).toNat)
  case atStart => exact ⟨k, v, Nat.le_refl _, by go_num, by rw [List.drop_eq_nil_of_le (by rw [lowBits_length]; exact Nat.le_refl _)]; simpa using H, Step.refl _ _ _⟩
  case round =>
    obtain ⟨j, vj, hj, rfl, HR, HO⟩ := hrel
    by_cases hlt : 0 < j
    · obtain ⟨m, rfl⟩ : ∃ m, j = m + 1 := ⟨j - 1, by omega⟩
      have hlen : (bs ++ ((lowBits x k).drop (m + 1)).reverse).length ≤ 1000000000000 := by simp [lowBits_length]; omega
      go_wp2_with (first | (go_at_call 30; refine (wbit_any p vj (bs ++ ((lowBits x k).drop (m + 1)).reverse) _ _ HR.out hlen).mono ?_; rintro e w1 ⟨rfl, v1, hr1, ho1⟩; have HR1 := hide hr1; have HO1 := hide ho1; clear hr1 ho1))
      go_roundw
      case rel =>
        refine ⟨m, v1, by omega, by go_num, ?_, HO.out.trans HO1.out⟩
        rw [drop_step x k m (by omega), ← List.append_assoc]
        exact HR1
      case measure => simp [intOf]
    · have hj0 : j = 0 := by omega
      subst hj0
      go_wp2
      go_end0
      exact ⟨rfl, _, by simpa [highBits] using HR.out, HO.out⟩

theorem pushes (l : List UInt8) : ∀ s : ByteArray, (l.map fun b => (b.toNat : Int)).foldl (fun r n => r.push (UInt8.ofNat n.toNat)) s = ⟨(s.data.toList ++ l).toArray⟩ := by
  induction l with
  | nil => intro s; simp
  | cons x l ih =>
    intro s
    rw [List.map_cons, List.foldl_cons, ih]
    simp [ByteArray.push]

theorem load_row {P : Program} {w : World} {g : Nat} {cur : Array Value} {T : TypeId} {z : Nat × Nat} {out : List UInt8} (hg : w.heap[g]? = some (.cells cur T z)) (ht : cur.toList.take out.length = cellsB out) :
    (loadCells ⟨g, 0, none⟩ out.length).run P w = .ok ((out.map fun b => (b.toNat : Int)).map (Value.int .u8)).toArray w := by
  have h := run_loadCells_list (P := P) (w := w) ⟨g, 0, none⟩ (cellsB out) (by
    intro j u hu
    rw [← ht, List.getElem?_take] at hu
    split at hu
    · have hadd : (⟨g, 0, none⟩ : Addr).add j = ⟨g, j, none⟩ := by unfold Addr.add; split <;> simp_all
      rw [hadd]
      simp only [World.cell?, hg]
      simpa using hu
    · cases hu)
  rw [show (cellsB out).length = out.length by simp [cellsB]] at h
  rw [h]
  simp [cellsB, List.map_map]

theorem WrAt.str {w : World} {p : Nat} {v : Value} {out : List UInt8} {N : Nat} (h : WrAt w p v out N) : (convert 46 9 v).run Try.prog w = .ok (.string ⟨out.toArray⟩) w := by
  by_cases hn : out = []
  · subst hn
    rcases h.own.2 with ⟨hv, h0⟩ | ⟨g, cap, cur, hv, _, hg, h1, h2, h3, h4⟩
    · rw [hv, run_convert_bytes_string _ _ _ _ _ _ _ Try.underlying46 Try.underlying5 Try.underlying9]
      rfl
    · rw [hv, run_convert_bytes_string _ _ _ _ _ _ _ Try.underlying46 Try.underlying5 Try.underlying9, run_bytesToString _ _ _ _ ([].map fun b : UInt8 => (b.toNat : Int)) (load_row hg (by simp [cellsB]))]
      rfl
  · obtain ⟨g, cap, cur, hv, hgp, hg, hl, hm, hs, ht⟩ := h.row hn
    rw [hv, run_convert_bytes_string _ _ _ _ _ _ _ Try.underlying46 Try.underlying5 Try.underlying9, run_bytesToString _ _ _ _ (out.map fun b : UInt8 => (b.toNat : Int)) (load_row hg ht), pushes]
    simp

set_option maxHeartbeats 400000 in
theorem wbytes_any (p : Nat) (v : Value) (bs : List Bool) (w : World) (h : Wr w p v bs) :
    Calls Try.prog 21 #[.pointer (some ⟨p, 0, none⟩)] w fun e w' => (∃ out, e = .returned (.string ⟨out.toArray⟩) ∧ Packs bs out) ∧ w = w' := by
  obtain ⟨out, hw, hp⟩ := h
  have _c0 := hw.c0
  have hcv := hw.str
  clear hw
  go_enter Try.func21, Try.ntmps21
  go_wp2
  go_ret
  exact ⟨⟨out, rfl, hp⟩, rfl⟩

end Go.Proofs.Yteillcfdmjmaeaa
