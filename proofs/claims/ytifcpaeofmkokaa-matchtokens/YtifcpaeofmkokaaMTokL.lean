/- MatchTokens, the walk: the tokens of any text, by any level, are the document's. -/
import Derived.Test.YtifcpaeofmkokaaMAwake
namespace Go.Proofs.Ytifcpaeofmkokaa
open Go.RowKit Go.Lib

set_option maxRecDepth 20000 in
set_option maxHeartbeats 4000000 in
theorem mtok_walk (W : World) (s : ByteArray) (level : Int) :
    Calls Try.prog 3 #[.string s, .int .i64 level] W fun e w' => e = .returned (.bool true) ∧ Below W.heap.size W w' := by
  by_cases hs : 800 < s.size
  · have hz : (800 : Int) < (s.size : Nat) := by omega
    clear hs
    go_enter Try.func3, Try.ntmps3
    go_wp2_with fail
    refine (mawake_any _).mono ?_
    rintro e w1 ⟨rfl, b1⟩
    have B1 := hide b1
    clear b1
    go_wp2
    go_ret
    exact ⟨rfl, B1.out⟩
  · have hz : ¬ (800 : Int) < (s.size : Nat) := by omega
    have HT := hide (fun w => tokens_any s level w (by omega))
    have HQ := hide (fun w => qtokens_any s level w (by omega))
    have HS := hide hs
    clear hs
    go_enter Try.func3, Try.ntmps3
    go_wp2_with fail
    refine (mawake_any _).mono ?_
    rintro e w1 ⟨rfl, b1⟩
    have B1 := hide b1
    clear b1
    go_wp2_with fail
    refine (HT.out _).mono ?_
    rintro e w2 ⟨a2, c2, ts, rfl, ht2, ha2, _, b2⟩
    have HX2 := hide ha2
    have B2 := hide (B1.out.trans (b2.mono B1.out.size))
    have HK2 := hide ht2
    clear ha2 b2 ht2
    go_wp2_with fail
    refine (HQ.out _).mono ?_
    rintro e w3 ⟨a3, c3, ts3, rfl, ht3, ha3, _, b3⟩
    have ets := Toks.uniq _ _ _ ht3 HK2.out
    subst ets
    have HX2b := hide (HX2.out.below b3 (Nat.le_refl _))
    have HX3 := hide ha3
    have B3 := hide (B2.out.trans (b3.mono B2.out.size))
    have HLN := hide (show ts3.length ≤ 1000000 by have h := Toks.length _ _ ht3; have := HS.out; omega)
    clear ha3 b3 ht3
    have HSM := hide (qtsame_any (ts3.map castT) ts3.length a2 a3 c2 c3 w3 (by rw [List.length_map]) HX2b.out HX3.out HLN.out)
    generalize ts3.length = m at *
    go_wp2_with fail
    refine HSM.out.mono ?_
    rintro e w4 ⟨rfl, b4⟩
    have B4 := hide (B3.out.trans (b4.mono B3.out.size))
    clear b4
    go_wp2
    go_ret
    exact ⟨rfl, B4.out⟩

theorem matchTokens_walk (W : World) (s : ByteArray) (_hs : s.size ≤ maxLen) (level : Int) (_wl : (Lit.int .i64 level).wf = true) :
    Calls Try.prog 3 #[.string s, .int .i64 level] W fun e w' => e = .returned (.bool true) ∧ Below W.heap.size W w' := mtok_walk W s level

end Go.Proofs.Ytifcpaeofmkokaa
