/-
  Plain facts of the calendar: lengths of months and years, the number of a day, and that every day of the range is that of one date.
-/
import Derived.Lib.Hide
namespace Go.Proofs.YtlkbdnjpcagopaaDoor.Ca

/-- The days of a year. -/
def yl (y : Int) : Int := if y % 4 = 0 then 366 else 365
/-- The days of a month. -/
def ml (y m : Int) : Int := if m = 2 then (if y % 4 = 0 then 29 else 28) else if m = 4 ∨ m = 6 ∨ m = 9 ∨ m = 11 then 30 else 31
/-- The days between January 1, 2000 and the beginning of a year. -/
def dby (y : Int) : Int := 365 * (y - 2000) + (y - 2000 + 3) / 4
/-- The days of a year before a month. -/
def cum (y m : Int) : Int :=
  if m = 1 then 0 else if m = 2 then 31 else
    (if m = 3 then 59 else if m = 4 then 90 else if m = 5 then 120 else if m = 6 then 151 else if m = 7 then 181 else if m = 8 then 212 else if m = 9 then 243 else if m = 10 then 273 else if m = 11 then 304 else if m = 12 then 334 else 365) + (if y % 4 = 0 then 1 else 0)
/-- A date that exists. -/
structure Ok (y m d : Int) : Prop where
  y1 : 2000 ≤ y
  y2 : y ≤ 2099
  m1 : 1 ≤ m
  m2 : m ≤ 12
  d1 : 1 ≤ d
  d2 : d ≤ ml y m
/-- The number of a day. -/
def dn (y m d : Int) : Int := dby y + cum y m + d - 1

theorem yl_ge (y : Int) : 365 ≤ yl y ∧ yl y ≤ 366 := by unfold yl; split <;> omega
theorem ml_ge (y m : Int) : 28 ≤ ml y m ∧ ml y m ≤ 31 := by unfold ml; repeat' split <;> omega
theorem dby_succ (y : Int) : dby (y + 1) = dby y + yl y := by unfold dby yl; split <;> omega
theorem dby_zero : dby 2000 = 0 := by decide
theorem dby_end : dby 2100 = 36525 := by decide
theorem dby_mono {a b : Int} (h : a ≤ b) : dby a ≤ dby b := by unfold dby; omega
theorem dby_lt {a b : Int} (h : a < b) : dby a + 365 ≤ dby b := by unfold dby; omega
theorem months {m : Int} (h1 : 1 ≤ m) (h2 : m ≤ 12) : m = 1 ∨ m = 2 ∨ m = 3 ∨ m = 4 ∨ m = 5 ∨ m = 6 ∨ m = 7 ∨ m = 8 ∨ m = 9 ∨ m = 10 ∨ m = 11 ∨ m = 12 := by omega
theorem cum_one (y : Int) : cum y 1 = 0 := by unfold cum; simp
theorem cum_end (y : Int) : cum y 13 = yl y := by unfold cum yl; simp; split <;> rfl
theorem cum_succ (y : Int) {m : Int} (h1 : 1 ≤ m) (h2 : m ≤ 12) : cum y (m + 1) = cum y m + ml y m := by
  rcases months h1 h2 with rfl | rfl | rfl | rfl | rfl | rfl | rfl | rfl | rfl | rfl | rfl | rfl <;> simp [cum, ml] <;> split <;> omega
theorem cum_lt (y : Int) : ∀ (k : Nat) {m : Int}, 1 ≤ m → m + k ≤ 13 → cum y m ≤ cum y (m + k) := by
  intro k
  induction k with
  | zero => intro m h1 h2; simp
  | succ k ih =>
    intro m h1 h2
    have := ih h1 (by omega)
    have e := cum_succ y (m := m + k) (by omega) (by omega)
    have g := ml_ge y (m + k)
    rw [show m + ((k + 1 : Nat) : Int) = m + k + 1 by omega]
    omega
theorem cum_mono (y : Int) {a b : Int} (h1 : 1 ≤ a) (h : a ≤ b) (h2 : b ≤ 13) : cum y a ≤ cum y b := by
  have := cum_lt y (b - a).toNat h1 (by omega)
  rwa [show a + ((b - a).toNat : Int) = b by omega] at this
theorem cum_bd (y : Int) {m : Int} (h1 : 1 ≤ m) (h2 : m ≤ 13) : 0 ≤ cum y m ∧ cum y m ≤ 366 := by
  have a := cum_mono y (a := 1) (b := m) (by omega) h1 h2
  have b := cum_mono y (a := m) (b := 13) h1 h2 (by omega)
  have := yl_ge y
  rw [cum_one] at a; rw [cum_end] at b; omega
theorem Ok.in_month {y m d : Int} (h : Ok y m d) : cum y m + d ≤ cum y (m + 1) := by
  have := cum_succ y h.m1 h.m2; have := h.d2; omega
theorem Ok.in_year {y m d : Int} (h : Ok y m d) : 0 ≤ cum y m + d - 1 ∧ cum y m + d ≤ yl y := by
  have a := h.in_month
  have b := cum_mono y (a := m + 1) (b := 13) (by have := h.m1; omega) (by have := h.m2; omega) (by omega)
  have c := cum_bd y h.m1 (by have := h.m2; omega)
  rw [cum_end] at b
  have := h.d1
  omega
theorem Ok.day {y m d : Int} (h : Ok y m d) : dby y ≤ dn y m d ∧ dn y m d < dby (y + 1) := by
  have := h.in_year
  rw [dby_succ]; unfold dn; omega
theorem Ok.range {y m d : Int} (h : Ok y m d) : 0 ≤ dn y m d ∧ dn y m d < 36525 := by
  have a := h.day
  have b := dby_mono h.y1
  have c := dby_mono (a := y + 1) (b := 2100) (by have := h.y2; omega)
  rw [dby_zero] at b; rw [dby_end] at c; omega
/-- The year of a day. -/
def yr (D : Int) : Int := 2000 + 4 * (D / 1461) + (if D % 1461 < 366 then 0 else (D % 1461 - 1) / 365)
theorem yr_is {D : Int} (h1 : 0 ≤ D) (h2 : D < 36525) : 2000 ≤ yr D ∧ yr D ≤ 2099 ∧ dby (yr D) ≤ D ∧ D < dby (yr D + 1) := by
  unfold yr dby
  split <;> omega
theorem month_is (y : Int) {n : Int} (h1 : 0 ≤ n) (h2 : n < yl y) : ∃ m, 1 ≤ m ∧ m ≤ 12 ∧ cum y m ≤ n ∧ n < cum y (m + 1) := by
  have key : ∀ k : Nat, k ≤ 12 → n < cum y (1 + k) → ∃ m, 1 ≤ m ∧ m ≤ 12 ∧ cum y m ≤ n ∧ n < cum y (m + 1) := by
    intro k
    induction k with
    | zero => intro _ h; rw [show (1 : Int) + ((0 : Nat) : Int) = 1 by omega, cum_one] at h; omega
    | succ k ih =>
      intro hk h
      by_cases hc : n < cum y (1 + k)
      · exact ih (by omega) hc
      · exact ⟨1 + k, by omega, by omega, by omega, by rw [show (1 : Int) + k + 1 = 1 + ((k + 1 : Nat) : Int) by omega]; exact h⟩
  exact key 12 (by omega) (by rw [show (1 : Int) + ((12 : Nat) : Int) = 13 by omega, cum_end]; exact h2)
theorem day_is {D : Int} (h1 : 0 ≤ D) (h2 : D < 36525) : ∃ y m d, Ok y m d ∧ dn y m d = D := by
  obtain ⟨a, b, c, e⟩ := yr_is h1 h2
  rw [dby_succ] at e
  obtain ⟨m, m1, m2, p, q⟩ := month_is (yr D) (n := D - dby (yr D)) (by omega) (by omega)
  rw [cum_succ _ m1 m2] at q
  exact ⟨yr D, m, D - dby (yr D) - cum (yr D) m + 1, ⟨a, b, m1, m2, by omega, by omega⟩, by unfold dn; omega⟩
theorem year_one {y z D : Int} (a : dby y ≤ D) (b : D < dby (y + 1)) (c : dby z ≤ D) (d : D < dby (z + 1)) : y = z := by
  rcases Int.lt_trichotomy y z with h | h | h
  · have := dby_mono (a := y + 1) (b := z) (by omega); omega
  · exact h
  · have := dby_mono (a := z + 1) (b := y) (by omega); omega
theorem month_one {y m k n : Int} (m1 : 1 ≤ m) (m2 : m ≤ 12) (k1 : 1 ≤ k) (k2 : k ≤ 12) (a : cum y m ≤ n) (b : n < cum y (m + 1)) (c : cum y k ≤ n) (d : n < cum y (k + 1)) : m = k := by
  rcases Int.lt_trichotomy m k with h | h | h
  · have := cum_mono y (a := m + 1) (b := k) (by omega) (by omega) (by omega); omega
  · exact h
  · have := cum_mono y (a := k + 1) (b := m) (by omega) (by omega) (by omega); omega
theorem Ok.one {y m d z k e : Int} (h : Ok y m d) (g : Ok z k e) (he : dn y m d = dn z k e) : y = z ∧ m = k ∧ d = e := by
  have a := h.day; have b := g.day
  obtain rfl := year_one a.1 a.2 (by rw [he]; exact b.1) (by rw [he]; exact b.2)
  have p := h.in_month; have q := g.in_month
  have := h.d1; have := g.d1
  unfold dn at he
  obtain rfl := month_one (y := y) (n := cum y m + d - 1) h.m1 h.m2 g.m1 g.m2 (by omega) (by omega) (by omega) (by omega)
  exact ⟨rfl, rfl, by omega⟩
/-- An instant's number. -/
def inst (y m d c : Int) : Int := dn y m d * 1440 + c
/-- Every instant is that of one date and one clock. -/
theorem inst_is {n : Int} (h1 : 0 ≤ n) (h2 : n < 52596000) : ∃ y m d c, Ok y m d ∧ 0 ≤ c ∧ c < 1440 ∧ n = inst y m d c := by
  obtain ⟨y, m, d, h, e⟩ := day_is (D := n / 1440) (by omega) (by omega)
  exact ⟨y, m, d, n % 1440, h, by omega, by omega, by unfold inst; omega⟩
theorem inst_range {y m d c : Int} (h : Ok y m d) (h1 : 0 ≤ c) (h2 : c < 1440) : 0 ≤ inst y m d c ∧ inst y m d c < 52596000 ∧ inst y m d c / 1440 = dn y m d ∧ inst y m d c % 1440 = c := by
  have := h.range
  unfold inst; omega
end Go.Proofs.YtlkbdnjpcagopaaDoor.Ca
