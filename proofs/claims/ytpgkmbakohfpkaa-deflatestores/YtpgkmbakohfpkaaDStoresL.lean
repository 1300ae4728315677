/- DeflateStores, the walk: by level 0 a text is five bytes, and it. -/
import Derived.Test.YtpgkmbakohfpkaaDSpec
namespace Go.Proofs.Ytpgkmbakohfpkaa
open Go.RowKit Go.Lib

theorem pack_stores {s : ByteArray} {t : List UInt8} {er : Int} (h : PackRel s 0 t er) (hs : s.size ≤ 65535) : er = 0 ∧ ∃ a b c d, t = [1, a, b, c, d] ++ s.data.toList := by
  rcases h with ⟨h1, _⟩ | ⟨_, h2, h3⟩ | ⟨h1, _⟩
  · omega
  · refine ⟨h3, _, _, _, _, h2.uniq (Packs.of 0 (by rw [List.replicate_zero, List.append_nil]; exact store_alone s hs) ?_)⟩
    rw [store_alone s hs, bytesBits_length]
    omega
  · omega
theorem five_ext (s : ByteArray) (a b c d e : UInt8) (t : List UInt8) (h : t = [a, b, c, d, e] ++ s.data.toList) : (⟨t.toArray⟩ : ByteArray).extract 5 (⟨t.toArray⟩ : ByteArray).size = s := by
  apply ByteArray.ext
  apply Array.toList_inj.1
  rw [ByteArray.data_extract, Array.toList_extract, List.extract_eq_take_drop]
  show (t.drop 5).take _ = _
  have e1 : (⟨t.toArray⟩ : ByteArray).size = t.length := rfl
  rw [e1, h]
  show s.data.toList.take _ = _
  rw [List.take_of_length_le]
  rw [List.length_append]
  show _ ≤ 5 + _ - 5
  omega

set_option maxRecDepth 20000 in
set_option maxHeartbeats 8000000 in
theorem stores_law (C : DSpec) (W : World) (s : ByteArray) (_ws : s.size ≤ maxLen) :
    Calls Try.prog 4 #[.string s] W fun e w' => e = .returned (.bool true) ∧ Below W.heap.size W w' := by
  have HC := hide C
  have HA := hide (awake10_any C)
  obtain ⟨n, hn⟩ : ∃ n, s.size = n := ⟨_, rfl⟩
  have HN := hide hn
  have zn : ((s.size : Nat) : Int) = (n : Int) := by omega
  clear hn _ws
  by_cases hl : 3000 < n
  · have zl : (3000 : Int) < n := by omega
    go_enter Try.func4, Try.ntmps4
    go_wp2_with fail
    refine (HA.out _).mono ?_
    rintro e w1 ⟨rfl, b1⟩
    have B1 := hide b1
    clear b1
    go_wp2
    go_ret
    exact ⟨rfl, B1.out⟩
  · have zl : ¬ (3000 : Int) < n := by omega
    have HS := hide (show s.size ≤ 3000 by rw [HN.out]; omega)
    go_enter Try.func4, Try.ntmps4
    go_wp2_with fail
    refine (HC.out.pack s 0 _ HS.out).mono ?_
    rintro e w1 ⟨t1, e1, rfl, h1, b1⟩
    obtain ⟨rfl, x1, x2, x3, x4, ht⟩ := pack_stores h1 (by have := HS.out; omega)
    have B1 := hide b1
    have hlen : t1.length = 5 + n := by rw [ht, List.length_append, ← HN.out]; rfl
    have zm : (((⟨t1.toArray⟩ : ByteArray).size : Nat) : Int) = 5 + (n : Int) := by
      have e1 : (⟨t1.toArray⟩ : ByteArray).size = t1.length := rfl
      rw [e1, hlen]
      omega
    have hfrom : ∀ w : World, (Instr.slice 9 (.string ⟨t1.toArray⟩) (some (.int .i64 5)) none none).run Try.prog w = .ok (.string s) w := fun w => by
      rw [run_slice_string_l (P := Try.prog) w 9 _ Try.underlying9 .i64 5 (by omega) (by omega)]
      rw [show (5 : Int).toNat = 5 from rfl, five_ext s _ _ _ _ _ t1 ht]
    have hidx : ∀ w : World, (Instr.index 9 (.string ⟨t1.toArray⟩) (.int .i64 0)).run Try.prog w = .ok (.int .u8 1) w := fun w => by
      have h := str_index ⟨t1.toArray⟩ 0 (by omega) w
      have e0 : bAt ⟨t1.toArray⟩ 0 = 1 := by unfold bAt; show (t1.getD 0 0).toNat = 1; rw [ht]; rfl
      rw [e0] at h
      exact h
    generalize (⟨t1.toArray⟩ : ByteArray) = tb at *
    clear h1 b1 ht hlen
    go_wp2_with fail
    refine (HA.out _).mono ?_
    rintro e w3 ⟨rfl, b3⟩
    have B3 := hide (B1.out.trans (b3.mono B1.out.size))
    clear b3
    go_wp2
    go_ret
    exact ⟨rfl, B3.out⟩

end Go.Proofs.Ytpgkmbakohfpkaa
