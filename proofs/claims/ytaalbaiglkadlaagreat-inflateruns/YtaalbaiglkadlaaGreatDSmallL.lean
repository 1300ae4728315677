/- DeflateSmall, the walk: a stream is never longer than its text, and a few bytes. -/
import Derived.Test.YtaalbaiglkadlaaGreatDSpec
namespace Go.Proofs.YtaalbaiglkadlaaGreat
open Go.RowKit Go.Lib

theorem pack_small {s : ByteArray} {level : Int} {t : List UInt8} {er : Int} (h : PackRel s level t er) (h0 : 0 ≤ level) (h9 : level ≤ 9) (hs : s.size ≤ 3000) : er = 0 ∧ 2 ≤ t.length ∧ t.length ≤ s.size + 6 * (s.size / 512 + 1) + 1 := by
  rcases h with ⟨h1, _⟩ | ⟨h1, h2, h3⟩ | ⟨h1, h2, h3, ts, bits, k, h4, h5, h6⟩
  · omega
  · refine ⟨h3, ?_⟩
    have hl := h2.1
    rw [storeAll_length, List.length_nil] at hl
    omega
  · refine ⟨h3, ?_⟩
    have hc := toks_cov s level ts 0 h4
    have hb := Blocks.le (by omega) k [] 0 _ _ h5 (by omega)
    have hg := cov_ge (ts.map castT)
    have hl := h6.1
    rw [List.length_nil] at hb
    have : (ts.map castT).length / 512 ≤ s.size / 512 := Nat.div_le_div_right (by omega)
    omega

end Go.Proofs.YtaalbaiglkadlaaGreat
