/- Texts and slices of them, as the statements of layer 11 ask. -/
import Derived.Test.YtaalbaiglkadlaaGreatISpec
import Derived.Test.YtaalbaiglkadlaaGreatIB
import Derived.Test.YtaalbaiglkadlaaGreatDSlice
import Derived.Test.YtaalbaiglkadlaaGreatDSmallL
namespace Go.Proofs.YtaalbaiglkadlaaGreat
open Go.RowKit Go.Lib

theorem strOf_len (l : List Nat) : (strOf l).size = l.length := by
  show (l.map UInt8.ofNat).toArray.size = _
  simp
theorem mk_sub (t : List UInt8) (k : Nat) : subB ⟨t.toArray⟩ 0 k = ⟨(t.take k).toArray⟩ := by
  apply ByteArray.ext
  show ((t.toArray.toList.drop 0).take k).toArray = (t.take k).toArray
  rw [List.toList_toArray, List.drop_zero]
theorem mk_append (t : List UInt8) (s : ByteArray) : (⟨t.toArray⟩ : ByteArray) ++ s = ⟨(t ++ s.data.toList).toArray⟩ := by
  apply ByteArray.ext
  apply Array.toList_inj.1
  rw [ByteArray.data_append, Array.toList_append]
theorem sub_extract (s : ByteArray) (n : Nat) : subB s 0 n = s.extract 0 n := by
  rw [← ext_sub, Nat.zero_add]
theorem open_len {s : ByteArray} {L : Int} {o : List Nat} {j : Nat} (h : openR s L = .ok (o, j)) (hL : 0 ≤ L) : (o.length : Int) ≤ L := by
  rcases open_two (s := s) (a := L) (b := L) hL (Int.le_refl _) with ⟨o2, m, g1, g2⟩ | ⟨e, e', g1, _⟩
  · rw [h] at g1
    obtain ⟨ga, gb⟩ := Prod.mk.inj (Except.ok.inj g1)
    rcases g2 with ⟨g3, _⟩ | ⟨_, g4⟩
    · rw [ga]; exact g3
    · rw [h] at g4; cases g4
  · rw [h] at g1; cases g1
theorem open_no {s : ByteArray} {L : Int} (h : openE s L ≠ 0) : openO s L = [] ∧ openN s L = 0 := by
  cases hR : openR s L with
  | ok x =>
    obtain ⟨o, j⟩ := x
    exact absurd (open_ok hR).2.2 h
  | error e => exact ⟨(open_err hR).1, (open_err hR).2.1⟩
/-- What was packed, as it is opened. -/
theorem ends_facts {s : ByteArray} {level : Int} {t : List UInt8} {er : Int} (h : PackRel s level t er) (h0 : 0 ≤ level) (h9 : level ≤ 9) (hs : s.size ≤ 65535) (z : ByteArray) :
    strOf (openO ((⟨t.toArray⟩ : ByteArray) ++ z) (s.size : Int)) = s ∧ openN ((⟨t.toArray⟩ : ByteArray) ++ z) (s.size : Int) = t.length ∧ openE ((⟨t.toArray⟩ : ByteArray) ++ z) (s.size : Int) = 0 := by
  obtain ⟨j, hj, hl⟩ := packed_open h h0 h9 hs (Int.le_refl _) z.data.toList
  rw [← mk_append] at hj
  obtain ⟨h1, h2, h3⟩ := open_ok hj
  exact ⟨by rw [h1, nats_str], by rw [h2, hl], h3⟩
theorem ends_exact {s : ByteArray} {level : Int} {t : List UInt8} {er : Int} (h : PackRel s level t er) (h0 : 0 ≤ level) (h9 : level ≤ 9) (hs : s.size ≤ 65535) :
    strOf (openO (⟨t.toArray⟩ : ByteArray) (s.size : Int)) = s ∧ openN (⟨t.toArray⟩ : ByteArray) (s.size : Int) = t.length ∧ openE (⟨t.toArray⟩ : ByteArray) (s.size : Int) = 0 := by
  obtain ⟨j, hj, hl⟩ := packed_open h h0 h9 hs (Int.le_refl _) []
  rw [List.append_nil] at hj
  obtain ⟨h1, h2, h3⟩ := open_ok hj
  exact ⟨by rw [h1, nats_str], by rw [h2, hl], h3⟩
theorem ends_short {s : ByteArray} {level : Int} {t : List UInt8} {er : Int} (h : PackRel s level t er) (h0 : 0 ≤ level) (h9 : level ≤ 9) (hs : s.size ≤ 65535) (k : Nat) (hk : k < t.length) : openE (subB ⟨t.toArray⟩ 0 k) (s.size : Int) = 2 := by
  rw [mk_sub]
  exact (open_err (packed_short h h0 h9 hs (Int.le_refl _) k hk)).2.2
theorem ends_beyond {s : ByteArray} {level : Int} {t : List UInt8} {er : Int} (h : PackRel s level t er) (h0 : 0 ≤ level) (h9 : level ≤ 9) (hs : s.size ≤ 65535) (h1 : 1 ≤ s.size) : openE (⟨t.toArray⟩ : ByteArray) ((s.size : Int) - 1) = 6 :=
  (open_err (packed_beyond h h0 h9 hs h1)).2.2

end Go.Proofs.YtaalbaiglkadlaaGreat
