/- ClockBack, the walk, put together. -/
import Derived.Test.YtiiopconhkligaaTBackL
namespace Go.Proofs.Ytiiopconhkligaa
open Go.RowKit

theorem tin_open (d c : Nat) (hd : d < 65536) (hc : c < 65536) : TIn (openT d c) := by
  rw [openT_nat]
  unfold TIn I64
  dsimp only
  omega
theorem clockBack_walk (S : TSpec) (t : Tm) (ht : TIn t) (dt tm : Nat) (hdt : dt < 65536) (htm : tm < 65536) (W : World) :
    Calls Try.prog 4 #[tmV t, .int .u16 dt, .int .u16 tm] W fun e w' => e = .returned (.bool true) ∧ Below W.heap.size W w' := by
  have HA := hide (fun w => awake13 S w)
  have HP1 := hide (fun w => S.pack t w ht)
  have HR := hide (fun w => S.right t w ht)
  have HO2 := hide (fun w => S.opens dt tm w (by unfold I64; omega) (by unfold I64; omega))
  have hz : TIn zeroT := by unfold TIn I64 zeroT; decide
  cases hP : rightT t with
  | true =>
    have hpo := pack_open hP
    have hr := (okO_iff _ _).1 hpo.2
    have HO1 := hide (fun w => S.opens (dateT t) (clockT t) w (by unfold I64; omega) (by unfold I64; omega))
    simp only [hP, if_true] at HP1 HR
    simp only [hpo.1, hpo.2, if_true] at HO1
    cases hZ : okO dt tm with
    | true =>
      have hrv := ((okO_iff _ _).1 hZ).2.2
      have HP2 := hide (fun w => S.pack (openT dt tm) w (tin_open dt tm hdt htm))
      simp only [hrv, if_true, (open_pack dt tm).1, (open_pack dt tm).2] at HP2
      simp only [hZ, if_true] at HO2
      exact clockBack_tt _ _ _ _ _ _ _ _ _ _ _ _ _ _ dt tm hdt htm W HA HP1 HO1 HO2 HP2 HR
    | false =>
      have HP2 := hide (fun w => S.pack zeroT w hz)
      simp only [hZ, Bool.false_eq_true, if_false] at HO2
      exact clockBack_tf _ _ _ _ _ _ _ _ _ _ _ _ _ _ _ _ _ dt tm hdt htm W HA HP1 HO1 HO2 HP2 HR
  | false =>
    have HO1 := hide (fun w => S.opens 0 0 w (by unfold I64; decide) (by unfold I64; decide))
    simp only [hP, Bool.false_eq_true, if_false] at HP1 HR
    cases hZ : okO dt tm with
    | true =>
      have hrv := ((okO_iff _ _).1 hZ).2.2
      have HP2 := hide (fun w => S.pack (openT dt tm) w (tin_open dt tm hdt htm))
      simp only [hrv, if_true, (open_pack dt tm).1, (open_pack dt tm).2] at HP2
      simp only [hZ, if_true] at HO2
      exact clockBack_ft _ _ _ _ _ _ _ _ _ _ _ _ _ _ _ _ _ _ _ _ _ dt tm hdt htm W HA HP1 HO1 HO2 HP2 HR
    | false =>
      have HP2 := hide (fun w => S.pack zeroT w hz)
      simp only [hZ, Bool.false_eq_true, if_false] at HO2
      exact clockBack_ff _ _ _ _ _ _ _ _ _ _ _ _ _ _ _ _ _ _ _ _ _ _ _ _ dt tm hdt htm W HA HP1 HO1 HO2 HP2 HR

end Go.Proofs.Ytiiopconhkligaa
