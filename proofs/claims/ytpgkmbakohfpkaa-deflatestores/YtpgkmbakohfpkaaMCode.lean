/- Contracts of the code of layer 8: Tokens and Expand. -/
import Derived.Test.YtpgkmbakohfpkaaMB
import Derived.Test.YtpgkmbakohfpkaaMCodeD
import Derived.Laws.MakeOwn
namespace Go.Proofs.Ytpgkmbakohfpkaa
open Go.RowKit Go.Lib

theorem tokens_cap (s : ByteArray) (level : Int) (W : World) (hs : s.size ≤ 1000000) :
    Calls Try.prog 9 #[.string s, .int .i64 level] W fun e w' => TokCap W s level e w' := tokens8 s level W hs
theorem tokens_any (s : ByteArray) (level : Int) (W : World) (hs : s.size ≤ 1000000) :
    Calls Try.prog 9 #[.string s, .int .i64 level] W fun e w' => TokPost W s level e w' := by
  refine (tokens_cap s level W hs).mono ?_
  intro e w' h
  exact h.post

end Go.Proofs.Ytpgkmbakohfpkaa
