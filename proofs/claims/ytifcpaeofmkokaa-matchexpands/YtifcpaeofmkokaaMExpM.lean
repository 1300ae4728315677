/- Rows of bytes as texts; what Expand gives. Nothing of the program is named here, but its types. -/
import Derived.Test.YtifcpaeofmkokaaMTok
import Derived.Laws.BytesString
namespace Go.Proofs.Ytifcpaeofmkokaa
open Go.RowKit Go.Lib Go.Deep

theorem Try.infoU8 : (Try.prog.info? 5).map (fun i => (i.zero, i.size, i.bytes)) = some (some (.int .u8 0), 1, 1) := by kernel_rfl

def u8Cs (l : List Nat) : List Value := l.map fun (x : Nat) => Value.int .u8 (x : Int)
theorem u8Cs_len (l : List Nat) : (u8Cs l).length = l.length := by simp [u8Cs]
theorem u8Cs_append (a b : List Nat) : u8Cs a ++ u8Cs b = u8Cs (a ++ b) := by simp [u8Cs]
/-- Bytes as a text. -/
def strOf (l : List Nat) : ByteArray := ⟨(l.map UInt8.ofNat).toArray⟩
theorem strOf_nil : strOf [] = ByteArray.empty := rfl
theorem u8_back (x : Nat) (h : x < 256) : ((UInt8.ofNat x).toNat : Int) = (x : Int) := by
  rw [UInt8.toNat_ofNat']
  omega
theorem pushesM (l : List Nat) : ∀ s : ByteArray, (l.map fun (b : Nat) => (b : Int)).foldl (fun r n => r.push (UInt8.ofNat n.toNat)) s = ⟨(s.data.toList ++ l.map UInt8.ofNat).toArray⟩ := by
  induction l with
  | nil => intro s; simp
  | cons x l ih =>
    intro s
    rw [List.map_cons, List.foldl_cons, ih]
    simp [ByteArray.push]
/-- A row of bytes as a string. -/
theorem str_own {w : World} {B : Nat} {v : Value} {out : List Nat} (h : w.ownsRow B 5 1 v out.length (u8Cs out)) :
    (convert 47 9 v).run Try.prog w = .ok (.string (strOf out)) w := by
  rcases len_form h with ⟨e1, e2⟩ | ⟨g, c, e1⟩
  · subst e1
    rw [List.length_eq_zero_iff.1 e2]
    kernel_rfl
  · subst e1
    have hl : (loadCells ⟨g, 0, none⟩ out.length).run Try.prog w = .ok ((out.map fun (b : Nat) => (b : Int)).map (Value.int .u8)).toArray w := by
      have h2 := run_loadCells_list (P := Try.prog) (w := w) ⟨g, 0, none⟩ (u8Cs out) (by
        intro j u hu
        have hj := (List.getElem?_eq_some_iff.1 hu).1
        rw [u8Cs_len] at hj
        rw [add_noneW, Nat.zero_add, h.cellAt j (by omega)]
        exact hu)
      rw [u8Cs_len] at h2
      rw [h2]
      simp [u8Cs, List.map_map]
    rw [run_convert_bytes_string _ _ _ _ _ _ _ Try.underlying47 Try.underlying5 Try.underlying9, run_bytesToString _ _ _ _ (out.map fun (b : Nat) => (b : Int)) hl, pushesM]
    simp [strOf]

/-- What Expand gives: the text, or the error. -/
def ExPost (W : World) (l : List (Nat × Int × Int)) (limit : Int) (e : Ending) (w' : World) : Prop := e = .returned (.tuple #[.string (strOf (exF 5 6 limit [] l).1), .int .i64 ((exF 5 6 limit [] l).2 : Nat)]) ∧ Below W.heap.size W w'

/-- The bytes under way. -/
structure ExW (w W : World) (l : List (Nat × Int × Int)) (limit : Int) (i : Nat) (out : List Nat) (v : Value) : Prop where
  own : w.ownsRow W.heap.size 5 1 v out.length (u8Cs out)
  bel : Below W.heap.size W w
  ex : exF 5 6 limit [] l = exF 5 6 limit out (l.drop i)
  room : out = [] ∨ (out.length : Int) ≤ limit

theorem ExW.alloc {w W : World} {l : List (Nat × Int × Int)} {limit : Int} {i : Nat} {out : List Nat} {v : Value} (h : ExW w W l limit i out v) (o : Obj) : ExW (w.alloc o) W l limit i out v :=
  ⟨h.own.alloc o, h.bel.alloc h.bel.size o, h.ex, h.room⟩
theorem ExW.step {w W : World} {l : List (Nat × Int × Int)} {limit : Int} {i : Nat} {out : List Nat} {v : Value} (h : ExW w W l limit i out v) (t : Nat × Int × Int) (ht : l[i]? = some t) :
    exF 5 6 limit [] l = (if t.2.1 ≤ 0 then (if limit ≤ (out.length : Int) then ([], 6) else exF 5 6 limit (out ++ [t.1]) (l.drop (i + 1)))
      else if t.2.2 < 1 ∨ (out.length : Int) < t.2.2 then ([], 5)
      else if limit - (out.length : Int) < t.2.1 then ([], 6)
      else exF 5 6 limit (copyN t.2.2.toNat t.2.1.toNat out) (l.drop (i + 1))) := by
  obtain ⟨hi, e⟩ := List.getElem?_eq_some_iff.1 ht
  rw [h.ex, List.drop_eq_getElem_cons hi, e]
  rfl
theorem ExW.next {w' W : World} {l : List (Nat × Int × Int)} {limit : Int} {i : Nat} {out2 : List Nat} {v2 : Value} (he : exF 5 6 limit [] l = exF 5 6 limit out2 (l.drop (i + 1))) (ho : w'.ownsRow W.heap.size 5 1 v2 out2.length (u8Cs out2)) (hb : Below W.heap.size W w') (hr : (out2.length : Int) ≤ limit) : ExW w' W l limit (i + 1) out2 v2 :=
  ⟨ho, hb, he, .inr hr⟩
theorem wrap_lessM (n : Int) (L : Nat) (h1 : -9223372036854775808 ≤ n) (h2 : n ≤ 9223372036854775807) (h : L = 0 ∨ (L : Int) ≤ n) : IntKind.i64.wrap (n - (L : Int)) = n - (L : Int) ∧ wrap64 (n - (L : Int)) = n - (L : Int) := by
  constructor
  · rw [IntKind.wrap_i64]; omega
  · unfold wrap64; omega
theorem one_u8 (x : Int) : ∀ u ∈ [Value.int .u8 x], u.oneCell' = true := by
  intro u hu
  rw [List.mem_singleton.1 hu]
  rfl

end Go.Proofs.Ytifcpaeofmkokaa
