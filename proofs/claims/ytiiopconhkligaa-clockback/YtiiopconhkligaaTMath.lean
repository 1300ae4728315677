/- Moments, plainly. Nothing of the program is named here. -/
import Derived.Test.YtiiopconhkligaaWorld
namespace Go.Proofs.Ytiiopconhkligaa

structure Tm where
  y : Int
  mo : Int
  d : Int
  h : Int
  mi : Int
  s : Int
def leapI (y : Int) : Bool := decide (y.tmod 4 = 0) && (!decide (y.tmod 100 = 0) || decide (y.tmod 400 = 0))
def daysI (y m : Int) : Int := if m = 4 ∨ m = 6 ∨ m = 9 ∨ m = 11 then 30 else if m = 2 then (if leapI y = true then 29 else 28) else 31
def rightT (t : Tm) : Bool := decide (1980 ≤ t.y) && (decide (t.y ≤ 2107) && (decide (1 ≤ t.mo) && (decide (t.mo ≤ 12) && (decide (1 ≤ t.d) && (decide (t.d ≤ daysI t.y t.mo) && (decide (0 ≤ t.h) && (decide (t.h ≤ 23) && (decide (0 ≤ t.mi) && (decide (t.mi ≤ 59) && (decide (0 ≤ t.s) && (decide (t.s ≤ 58) && decide (t.s.tmod 2 = 0))))))))))))
theorem rightT_iff (t : Tm) : rightT t = true ↔ (1980 ≤ t.y ∧ t.y ≤ 2107) ∧ (1 ≤ t.mo ∧ t.mo ≤ 12) ∧ (1 ≤ t.d ∧ t.d ≤ daysI t.y t.mo) ∧ (0 ≤ t.h ∧ t.h ≤ 23) ∧ (0 ≤ t.mi ∧ t.mi ≤ 59) ∧ (0 ≤ t.s ∧ t.s ≤ 58) ∧ t.s.tmod 2 = 0 := by
  unfold rightT
  simp only [Bool.and_eq_true, decide_eq_true_eq]
  constructor
  · rintro ⟨a, b, c, d, e, f, g, h, i, j, k, l, m⟩
    exact ⟨⟨a, b⟩, ⟨c, d⟩, ⟨e, f⟩, ⟨g, h⟩, ⟨i, j⟩, ⟨k, l⟩, m⟩
  · rintro ⟨⟨a, b⟩, ⟨c, d⟩, ⟨e, f⟩, ⟨g, h⟩, ⟨i, j⟩, ⟨k, l⟩, m⟩
    exact ⟨a, b, c, d, e, f, g, h, i, j, k, l, m⟩
theorem days_range (y m : Int) : 28 ≤ daysI y m ∧ daysI y m ≤ 31 := by
  unfold daysI
  repeat' split
  all_goals omega
def dateT (t : Tm) : Int := (t.y - 1980) * 512 + t.mo * 32 + t.d
def clockT (t : Tm) : Int := t.h * 2048 + t.mi * 32 + t.s.tdiv 2
def openT (d c : Int) : Tm := ⟨1980 + d.tdiv 512, (d.tdiv 32).tmod 16, d.tmod 32, c.tdiv 2048, (c.tdiv 32).tmod 64, (c.tmod 32) * 2⟩
def okO (d c : Int) : Bool := decide (0 ≤ d) && (decide (d ≤ 65535) && (decide (0 ≤ c) && (decide (c ≤ 65535) && rightT (openT d c))))
def zeroT : Tm := ⟨0, 0, 0, 0, 0, 0⟩
theorem okO_iff (d c : Int) : okO d c = true ↔ (0 ≤ d ∧ d ≤ 65535) ∧ (0 ≤ c ∧ c ≤ 65535) ∧ rightT (openT d c) = true := by
  unfold okO
  simp only [Bool.and_eq_true, decide_eq_true_eq]
  constructor
  · rintro ⟨a, b, c, d, e⟩
    exact ⟨⟨a, b⟩, ⟨c, d⟩, e⟩
  · rintro ⟨⟨a, b⟩, ⟨c, d⟩, e⟩
    exact ⟨a, b, c, d, e⟩
/-- In plain quotients. -/
theorem openT_nat (d c : Nat) : openT (d : Int) (c : Int) = ⟨1980 + ((d / 512 : Nat) : Int), ((d / 32 % 16 : Nat) : Int), ((d % 32 : Nat) : Int), ((c / 2048 : Nat) : Int), ((c / 32 % 64 : Nat) : Int), ((c % 32 : Nat) : Int) * 2⟩ := rfl
/-- A moment that may be is packed, and opened, as it was. -/
theorem pack_open {t : Tm} (h : rightT t = true) : openT (dateT t) (clockT t) = t ∧ okO (dateT t) (clockT t) = true := by
  have h0 := h
  rw [rightT_iff] at h
  obtain ⟨hy, hm, hd, hh, hi, hs, h2⟩ := h
  have hr := days_range t.y t.mo
  obtain ⟨y, mo, d, hr2, mi, s⟩ := t
  dsimp only at hy hm hd hh hi hs h2 hr
  obtain ⟨y, rfl⟩ : ∃ n : Nat, y = n := ⟨y.toNat, by omega⟩
  obtain ⟨mo, rfl⟩ : ∃ n : Nat, mo = n := ⟨mo.toNat, by omega⟩
  obtain ⟨d, rfl⟩ : ∃ n : Nat, d = n := ⟨d.toNat, by omega⟩
  obtain ⟨hh2, rfl⟩ : ∃ n : Nat, hr2 = n := ⟨hr2.toNat, by omega⟩
  obtain ⟨mi, rfl⟩ : ∃ n : Nat, mi = n := ⟨mi.toNat, by omega⟩
  obtain ⟨s, rfl⟩ : ∃ n : Nat, s = n := ⟨s.toNat, by omega⟩
  have h2 : ((s % 2 : Nat) : Int) = 0 := h2
  have e1 : dateT ⟨y, mo, d, hh2, mi, s⟩ = (((y - 1980) * 512 + mo * 32 + d : Nat) : Int) := by
    show ((y : Int) - 1980) * 512 + (mo : Int) * 32 + (d : Int) = _
    omega
  have e2 : clockT ⟨y, mo, d, hh2, mi, s⟩ = ((hh2 * 2048 + mi * 32 + s / 2 : Nat) : Int) := by
    show (hh2 : Int) * 2048 + (mi : Int) * 32 + ((s / 2 : Nat) : Int) = _
    omega
  have e3 : openT (dateT ⟨y, mo, d, hh2, mi, s⟩) (clockT ⟨y, mo, d, hh2, mi, s⟩) = ⟨y, mo, d, hh2, mi, s⟩ := by
    rw [e1, e2, openT_nat]
    congr 1 <;> omega
  refine ⟨e3, (okO_iff _ _).2 ⟨?_, ?_, by rw [e3]; exact h0⟩⟩
  · rw [e1]; omega
  · rw [e2]; omega
/-- A date and a clock that are opened are packed as they were. -/
theorem open_pack (d c : Nat) : dateT (openT d c) = d ∧ clockT (openT d c) = c := by
  rw [openT_nat]
  constructor
  · show (1980 + ((d / 512 : Nat) : Int) - 1980) * 512 + ((d / 32 % 16 : Nat) : Int) * 32 + ((d % 32 : Nat) : Int) = d
    omega
  · show ((c / 2048 : Nat) : Int) * 2048 + ((c / 32 % 64 : Nat) : Int) * 32 + (((c % 32 : Nat) : Int) * 2).tdiv 2 = c
    have e : (((c % 32 : Nat) : Int) * 2).tdiv 2 = ((c % 32 : Nat) : Int) := Int.mul_tdiv_cancel _ (by decide)
    rw [e]
    omega

end Go.Proofs.Ytiiopconhkligaa
