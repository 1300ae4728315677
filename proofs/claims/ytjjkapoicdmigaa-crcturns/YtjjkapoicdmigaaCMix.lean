/- Facts on three texts mixed byte by byte. -/
import Derived.Test.YtjjkapoicdmigaaCAwake
import Derived.Laws.BytesString
namespace Go.Proofs.Ytjjkapoicdmigaa
open Go.RowKit Go.Lib

theorem pushesC (l : List UInt8) : ∀ s : ByteArray, (l.map fun b => (b.toNat : Int)).foldl (fun r n => r.push (UInt8.ofNat n.toNat)) s = ⟨(s.data.toList ++ l).toArray⟩ := by
  induction l with
  | nil => intro s; simp
  | cons x l ih =>
    intro s
    rw [List.map_cons, List.foldl_cons, ih]
    simp [ByteArray.push]

theorem load_rowC {P : Program} {w : World} {g : Nat} {cur : Array Value} {T : TypeId} {z : Nat × Nat} {out : List UInt8} (hg : w.heap[g]? = some (.cells cur T z)) (ht : cur.toList.take out.length = cellsB out) :
    (loadCells ⟨g, 0, none⟩ out.length).run P w = .ok ((out.map fun b => (b.toNat : Int)).map (Value.int .u8)).toArray w := by
  have h := run_loadCells_list (P := P) (w := w) ⟨g, 0, none⟩ (cellsB out) (by
    intro j u hu
    rw [← ht, List.getElem?_take] at hu
    split at hu
    · have hadd : (⟨g, 0, none⟩ : Addr).add j = ⟨g, j, none⟩ := by unfold Addr.add; split <;> simp_all
      rw [hadd]
      simp only [World.cell?, hg]
      simpa using hu
    · cases hu)
  rw [show (cellsB out).length = out.length by simp [cellsB]] at h
  rw [h]
  simp [cellsB, List.map_map]

/-- A row of bytes as a string. -/
theorem str_rowC {w : World} {g cap : Nat} {cur : Array Value} {T : TypeId} {z : Nat × Nat} {out : List UInt8} (hg : w.heap[g]? = some (.cells cur T z)) (ht : cur.toList.take out.length = cellsB out) :
    (convert 30 9 (.slice (some ⟨g, 0, none⟩) out.length cap)).run Try.prog w = .ok (.string ⟨out.toArray⟩) w := by
  rw [run_convert_bytes_string _ _ _ _ _ _ _ Try.underlying30 Try.underlying5 Try.underlying9, run_bytesToString _ _ _ _ (out.map fun b : UInt8 => (b.toNat : Int)) (load_rowC hg ht), pushesC]
  simp

theorem Try.infoByte : (Try.prog.info? 5).map (fun i => (i.zero, i.size, i.bytes)) = some (some (.int .u8 0), 1, 1) := by kernel_rfl

/-- A row of n bytes, the first j of them those of l, the others 0. -/
def rowC (l : List UInt8) (n j : Nat) : List Value := cellsB (l.take j) ++ List.replicate (n - j) (.int .u8 0)

theorem rowC_made (w : World) (l : List UInt8) (k : Nat) : (w.alloc (.cells (madeCells #[.int .u8 0] k) 5)).heap[w.heap.size]? = some (.cells (rowC l k 0).toArray 5 (0, 0)) := by
  show (w.heap.push _)[w.heap.size]? = _
  rw [Array.getElem?_push_size]
  congr 2
  apply Array.ext (by simp [madeCells, rowC, cellsB])
  intro i h1 h2
  simp [madeCells, rowC, cellsB, Nat.mod_one]

theorem rowC_cell {w : World} {g k j : Nat} {l : List UInt8} {T : TypeId} (hl : l.length = k) (h : w.heap[g]? = some (.cells (rowC l k j).toArray T (0, 0))) (hj : j < k) : w.cell? ⟨g, j, none⟩ = some (.int .u8 0) ∧ w.frozen? ⟨g, j, none⟩ = false := by
  constructor
  · simp only [World.cell?, h]
    have e : (rowC l k j)[j]? = some (.int .u8 0) := by
      unfold rowC
      rw [List.getElem?_append_right (by simp [cellsB]; omega), show (cellsB (l.take j)).length = j by simp [cellsB]; omega, Nat.sub_self, List.getElem?_replicate, if_pos (by omega)]
    simpa using e
  · simp [World.frozen?, h]

theorem rowC_set {w : World} {g k j : Nat} {l : List UInt8} {T : TypeId} (hl : l.length = k) (h : w.heap[g]? = some (.cells (rowC l k j).toArray T (0, 0))) (hj : j < k) (x : UInt8) (hx : l[j]? = some x) :
    (w.setCell ⟨g, j, none⟩ (.int .u8 x.toNat)).heap[g]? = some (.cells (rowC l k (j + 1)).toArray T (0, 0)) := by
  rw [heap_setCell_same _ _ _ _ _ _ _ h]
  congr 2
  rw [List.setIfInBounds_toArray]
  congr 1
  unfold rowC
  have hll : (cellsB (l.take j)).length = j := by simp [cellsB]; omega
  obtain ⟨d, hd⟩ : ∃ d, k - j = d + 1 := ⟨k - j - 1, by omega⟩
  rw [hd, show k - (j + 1) = d by omega, List.set_append_right _ _ (by omega), hll, Nat.sub_self, List.replicate_succ, List.take_add_one, hx]
  simp [cellsB]

theorem rowC_full (l : List UInt8) (n : Nat) (h : l.length = n) : (rowC l n n).toArray.toList.take l.length = cellsB l := by
  subst h
  unfold rowC
  rw [Nat.sub_self, List.replicate_zero, List.append_nil, List.take_of_length_le (Nat.le_refl _)]
  show (cellsB l).take l.length = _
  exact List.take_of_length_le (by simp [cellsB])

theorem xor_i64_nat (a b : Nat) (ha : a < 4294967296) (hb : b < 4294967296) : bits .xor .i64 (a : Int) (b : Int) = ((a ^^^ b : Nat) : Int) := by
  have h1 : (BitVec.ofInt 64 (a : Int)).toNat = a := by rw [BitVec.ofInt_natCast, BitVec.toNat_ofNat]; exact Nat.mod_eq_of_lt (by omega)
  have h2 : (BitVec.ofInt 64 (b : Int)).toNat = b := by rw [BitVec.ofInt_natCast, BitVec.toNat_ofNat]; exact Nat.mod_eq_of_lt (by omega)
  have hx : a ^^^ b < 2 ^ 32 := Nat.xor_lt_two_pow (by omega) (by omega)
  show IntKind.i64.wrap ((BitVec.ofInt 64 (a : Int) ^^^ BitVec.ofInt 64 (b : Int)).toNat : Int) = _
  rw [BitVec.toNat_xor, h1, h2, IntKind.wrap_i64]
  omega

/-- Three texts' first n bytes, mixed. -/
def mixB (a b c : ByteArray) (n : Nat) : List UInt8 := List.zipWith (fun x y => x ^^^ y) (List.zipWith (fun x y => x ^^^ y) (a.data.toList.take n) (b.data.toList.take n)) (c.data.toList.take n)

theorem dlen (a : ByteArray) : a.data.toList.length = a.size := rfl
theorem mixB_length (a b c : ByteArray) (n : Nat) (ha : n ≤ a.size) (hb : n ≤ b.size) (hc : n ≤ c.size) : (mixB a b c n).length = n := by
  unfold mixB
  rw [List.length_zipWith, List.length_zipWith, List.length_take, List.length_take, List.length_take, dlen, dlen, dlen]
  omega

theorem mixB_get (a b c : ByteArray) (n j : Nat) (ha : n ≤ a.size) (hb : n ≤ b.size) (hc : n ≤ c.size) (hj : j < n) :
    (mixB a b c n)[j]? = some (a[j] ^^^ b[j] ^^^ c[j]) := by
  have g : ∀ s : ByteArray, (h : j < s.size) → (s.data.toList.take n)[j]? = some s[j] := by
    intro s h
    rw [List.getElem?_take, if_pos hj, List.getElem?_eq_getElem (by rw [dlen]; exact h)]
    rfl
  unfold mixB
  rw [List.getElem?_zipWith, List.getElem?_zipWith, g a (by omega), g b (by omega), g c (by omega)]

theorem mix_u8 (x y z : UInt8) : bits .xor .u8 (bits .xor .u8 (x.toNat : Int) (y.toNat : Int)) (z.toNat : Int) = ((x ^^^ y ^^^ z).toNat : Int) := by
  have h : x.toNat ^^^ y.toNat < 2 ^ 8 := Nat.xor_lt_two_pow x.toNat_lt y.toNat_lt
  rw [u8_xor_nat _ _ x.toNat_lt y.toNat_lt, u8_xor_nat _ _ h z.toNat_lt, UInt8.toNat_xor, UInt8.toNat_xor]

theorem mix_sum (a b c : ByteArray) (n : Nat) (ha : n ≤ a.size) (hb : n ≤ b.size) (hc : n ≤ c.size) :
    sumN ent (mixB a b c n) = sumN ent (a.data.toList.take n) ^^^ sumN ent (b.data.toList.take n) ^^^ sumN ent (c.data.toList.take n) := by
  refine sum_mix _ _ _ ?_ ?_ <;> simp only [List.length_take, dlen] <;> omega

theorem extract_list (a : ByteArray) (n : Nat) : (a.extract 0 n).data.toList = a.data.toList.take n := by
  rw [ByteArray.data_extract, Array.toList_extract]
  simp

end Go.Proofs.Ytjjkapoicdmigaa
