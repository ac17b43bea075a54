/-
  Mathematics of a mapping that fits.
-/
import Derived.Test.YtbnhaoimdponkaaEFitW
namespace Go.Proofs.Ytbnhaoimdponkaa
open Go.RowKit

/-- How many ports are shared. -/
def E.sh (x : E.D) : Int := x.hi - x.lo + 1 - x.dy
structure E.Fits (x : E.D) : Prop where
  ni : 1 ≤ E.ni x ∧ E.ni x ≤ 32
  no : 1 ≤ E.no x ∧ E.no x ≤ 4
  meet : A.meet x.b x.k x.c x.j = false
  lo : 1 ≤ x.lo ∧ x.lo ≤ x.hi ∧ x.hi ≤ 65535
  dy : 0 ≤ x.dy ∧ x.dy < x.hi - x.lo + 1
  bl : 1 ≤ x.bl ∧ x.bl ≤ 65535
  nb : x.dy / x.bl ≤ 8
  sh : E.ratio x ≤ E.sh x
theorem E.fits_iff {x : E.D} : E.fit x = true ↔ E.Fits x := by
  unfold E.fit E.m1 E.m2 E.m3 E.m4 E.m5 E.m6 E.m7 E.m8
  simp only [Bool.and_eq_true, decide_eq_true_eq, Bool.not_eq_true', A.may_size]
  constructor
  · rintro ⟨⟨⟨⟨⟨⟨⟨h1, h2⟩, h3⟩, h4⟩, h5⟩, h6⟩, h7⟩, h8⟩
    exact ⟨⟨h1.1, h3.1⟩, ⟨h1.2, h3.2⟩, h2, h4, h5, h6, h7, h8⟩
  · intro h
    exact ⟨⟨⟨⟨⟨⟨⟨⟨h.ni.1, h.no.1⟩, h.meet⟩, ⟨h.ni.2, h.no.2⟩⟩, h.lo⟩, h.dy⟩, h.bl⟩, h.nb⟩, h.sh⟩
def E.each (x : E.D) : Int := if E.fit x then E.sh x / E.ratio x else 0
def E.nb (x : E.D) : Int := if E.fit x then x.dy / x.bl else 0
/-- What the ratio is. -/
theorem E.Fits.ratio {x : E.D} (h : E.Fits x) : 1 ≤ E.ratio x ∧ E.ratio x ≤ 32 ∧ E.ni x ≤ E.ratio x * E.no x ∧ (E.ratio x - 1) * E.no x < E.ni x := by
  have h1 := h.ni
  have h2 := h.no
  have e : E.ratio x = (E.ni x + E.no x - 1) / E.no x := by unfold E.ratio; rw [if_neg (by omega)]
  rw [e]
  generalize E.ni x = p at *
  generalize E.no x = q at *
  have a1 := Int.mul_ediv_add_emod (p + q - 1) q
  have a2 := Int.emod_nonneg (p + q - 1) (show q ≠ 0 by omega)
  have a3 := Int.emod_lt_of_pos (p + q - 1) (show 0 < q by omega)
  generalize (p + q - 1) / q = r at *
  generalize (p + q - 1) % q = m at *
  obtain rfl | rfl | rfl | rfl : q = 1 ∨ q = 2 ∨ q = 3 ∨ q = 4 := by omega
  all_goals omega
theorem E.Fits.each {x : E.D} (h : E.Fits x) : 1 ≤ E.each x ∧ E.ratio x * E.each x ≤ E.sh x ∧ E.sh x < E.ratio x * (E.each x + 1) ∧ E.each x ≤ E.sh x ∧ E.sh x ≤ 65535 ∧ E.each x = E.sh x / E.ratio x := by
  have hr := h.ratio
  have hs := h.sh
  have hl := h.lo
  have hd := h.dy
  have e : E.each x = E.sh x / E.ratio x := by unfold E.each; rw [E.fits_iff.2 h, if_pos rfl]
  have hm : E.sh x ≤ 65535 := by unfold E.sh; omega
  have a1 := Int.mul_ediv_add_emod (E.sh x) (E.ratio x)
  have a2 := Int.emod_nonneg (E.sh x) (show E.ratio x ≠ 0 by omega)
  have a3 := Int.emod_lt_of_pos (E.sh x) (show 0 < E.ratio x by omega)
  have a4 : 1 ≤ E.sh x / E.ratio x := (Int.le_ediv_iff_mul_le (by omega)).2 (by omega)
  have a5 := Int.ediv_le_self (E.ratio x) (show 0 ≤ E.sh x by omega)
  rw [e]
  exact ⟨a4, by omega, by rw [Int.mul_add]; omega, a5, hm, rfl⟩
theorem E.Fits.nb' {x : E.D} (h : E.Fits x) : 0 ≤ E.nb x ∧ E.nb x ≤ 8 ∧ E.nb x * x.bl ≤ x.dy ∧ x.dy < (E.nb x + 1) * x.bl ∧ E.nb x = x.dy / x.bl := by
  have hb := h.bl
  have hd := h.dy
  have hn := h.nb
  have e : E.nb x = x.dy / x.bl := by unfold E.nb; rw [E.fits_iff.2 h, if_pos rfl]
  have a1 := Int.mul_ediv_add_emod x.dy x.bl
  have a2 := Int.emod_nonneg x.dy (show x.bl ≠ 0 by omega)
  have a3 := Int.emod_lt_of_pos x.dy (show 0 < x.bl by omega)
  have a4 := Int.ediv_nonneg hd.1 (show 0 ≤ x.bl by omega)
  rw [e]
  rw [Int.mul_comm] at a1
  exact ⟨a4, hn, by omega, by rw [Int.add_mul]; omega, rfl⟩

def E.baseB (x : E.D) (s : Int) : Bool := E.fit x && decide (0 ≤ s ∧ s < E.ni x)
def E.baseA (x : E.D) (s : Int) : Int := if E.baseB x s then s / E.ratio x else 0
def E.baseF (x : E.D) (s : Int) : Int := if E.baseB x s then x.lo + s % E.ratio x * E.each x else 0
def E.baseT (x : E.D) (s : Int) : Int := if E.baseB x s then E.baseF x s + E.each x - 1 else 0
def E.blkB (x : E.D) (a i : Int) : Bool := decide (0 ≤ a ∧ a < E.no x) && decide (0 ≤ i ∧ i < E.nb x)
def E.blkA (x : E.D) (a i : Int) : Int := if E.blkB x a i then a else 0
def E.blkF (x : E.D) (a i : Int) : Int := if E.blkB x a i then x.hi - x.dy + 1 + i * x.bl else 0
def E.blkT (x : E.D) (a i : Int) : Int := if E.blkB x a i then E.blkF x a i + x.bl - 1 else 0
/-- A port of an address is a subscriber's own. -/
def E.own (x : E.D) (s a p : Int) : Bool := E.baseB x s && decide (E.baseA x s = a ∧ E.baseF x s ≤ p ∧ p ≤ E.baseT x s)
/-- A port of an address is in a block. -/
def E.inb (x : E.D) (a i p : Int) : Bool := E.blkB x a i && decide (E.blkF x a i ≤ p ∧ p ≤ E.blkT x a i)
def E.whoN (x : E.D) (a p : Int) : Int := a * E.ratio x + (p - x.lo) / E.each x
def E.who (x : E.D) (a p : Int) : Int := if E.own x (E.whoN x a p) a p then E.whoN x a p else -1
def E.whichN (x : E.D) (p : Int) : Int := (p - (x.hi - x.dy + 1)) / x.bl
def E.which (x : E.D) (a p : Int) : Int := if E.inb x a (E.whichN x p) p then E.whichN x p else -1

theorem E.baseB_iff {x : E.D} {s : Int} : E.baseB x s = true ↔ E.Fits x ∧ 0 ≤ s ∧ s < E.ni x := by
  unfold E.baseB; rw [Bool.and_eq_true, E.fits_iff, decide_eq_true_iff]
theorem E.nb_pos {x : E.D} {i : Int} (h : 0 ≤ i ∧ i < E.nb x) : E.Fits x := by
  rw [← E.fits_iff]
  cases hf : E.fit x
  · unfold E.nb at h; rw [hf] at h; simp at h; omega
  · rfl
theorem E.blkB_iff {x : E.D} {a i : Int} : E.blkB x a i = true ↔ E.Fits x ∧ (0 ≤ a ∧ a < E.no x) ∧ (0 ≤ i ∧ i < E.nb x) := by
  unfold E.blkB; rw [Bool.and_eq_true, decide_eq_true_iff, decide_eq_true_iff]
  exact ⟨fun h => ⟨E.nb_pos h.2, h.1, h.2⟩, fun h => h.2⟩
/-- A subscriber's own ports: which, and within which bounds. -/
theorem E.base_in {x : E.D} {s : Int} (h : E.baseB x s = true) : E.Fits x ∧ (0 ≤ s ∧ s < E.ni x) ∧ E.baseA x s = s / E.ratio x ∧ E.baseF x s = x.lo + s % E.ratio x * E.each x ∧ E.baseT x s = E.baseF x s + E.each x - 1 ∧
    (0 ≤ E.baseA x s ∧ E.baseA x s < E.no x) ∧ x.lo ≤ E.baseF x s ∧ E.baseF x s ≤ E.baseT x s ∧ E.baseT x s ≤ x.hi - x.dy ∧ E.baseA x s * E.ratio x ≤ s ∧ s < (E.baseA x s + 1) * E.ratio x ∧
    (0 ≤ s % E.ratio x ∧ s % E.ratio x < E.ratio x ∧ 0 ≤ s % E.ratio x * E.each x) := by
  obtain ⟨hf, hs⟩ := E.baseB_iff.1 h
  have e1 : E.baseA x s = s / E.ratio x := by unfold E.baseA; rw [h, if_pos rfl]
  have e2 : E.baseF x s = x.lo + s % E.ratio x * E.each x := by unfold E.baseF; rw [h, if_pos rfl]
  have e3 : E.baseT x s = E.baseF x s + E.each x - 1 := by unfold E.baseT; rw [h, if_pos rfl]
  have hr := hf.ratio
  have he := hf.each
  have a1 := Int.mul_ediv_add_emod s (E.ratio x)
  have a2 := Int.emod_nonneg s (show E.ratio x ≠ 0 by omega)
  have a3 := Int.emod_lt_of_pos s (show 0 < E.ratio x by omega)
  have a4 := Int.ediv_nonneg hs.1 (show 0 ≤ E.ratio x by omega)
  have a5 : s / E.ratio x < E.no x := Int.ediv_lt_of_lt_mul (by omega) (by rw [Int.mul_comm]; omega)
  have a6 : 0 ≤ s % E.ratio x * E.each x := Int.mul_nonneg a2 (by omega)
  have a7 : s % E.ratio x * E.each x ≤ (E.ratio x - 1) * E.each x := Int.mul_le_mul_of_nonneg_right (by omega) (by omega)
  rw [Int.sub_mul, Int.one_mul] at a7
  have hsh : E.sh x = x.hi - x.lo + 1 - x.dy := rfl
  refine ⟨hf, hs, e1, e2, e3, by rw [e1]; exact ⟨a4, a5⟩, by omega, by omega, by omega, ?_, ?_, a2, a3, a6⟩
  · rw [e1, Int.mul_comm]; omega
  · rw [e1, Int.add_mul, Int.one_mul, Int.mul_comm]; omega
theorem E.own_iff {x : E.D} {s a p : Int} : E.own x s a p = true ↔ E.baseB x s = true ∧ E.baseA x s = a ∧ E.baseF x s ≤ p ∧ p ≤ E.baseT x s := by
  unfold E.own; rw [Bool.and_eq_true, decide_eq_true_iff]
theorem E.inb_iff {x : E.D} {a i p : Int} : E.inb x a i p = true ↔ E.blkB x a i = true ∧ E.blkF x a i ≤ p ∧ p ≤ E.blkT x a i := by
  unfold E.inb; rw [Bool.and_eq_true, decide_eq_true_iff]
/-- Whose a port is is reckoned. -/
theorem E.own_who {x : E.D} {s a p : Int} (h : E.own x s a p = true) : E.whoN x a p = s ∧ E.who x a p = s := by
  obtain ⟨hb, h1, h2, h3⟩ := E.own_iff.1 h
  obtain ⟨hf, hs, e1, e2, e3, -, -, -, -, -, -, a2, a3, a6⟩ := E.base_in hb
  have he := hf.each
  have hr := hf.ratio
  have d : (p - x.lo) / E.each x = s % E.ratio x := by
    have e : p - x.lo = (p - E.baseF x s) + s % E.ratio x * E.each x := by omega
    rw [e, Int.add_mul_ediv_right _ _ (by omega), Int.ediv_eq_zero_of_lt (by omega) (by omega)]
    omega
  have n : E.whoN x a p = s := by
    unfold E.whoN
    rw [d, ← h1, e1]
    have := Int.mul_ediv_add_emod s (E.ratio x)
    rw [Int.mul_comm]; exact this
  refine ⟨n, ?_⟩
  unfold E.who
  rw [n, h, if_pos rfl]
theorem E.who_no {x : E.D} {a p : Int} (h : ∀ s, E.own x s a p = false) : E.who x a p = -1 := by
  unfold E.who; rw [h]; simp
theorem E.who_cases (x : E.D) (a p : Int) : (∃ s, E.own x s a p = true ∧ E.who x a p = s) ∨ ((∀ s, E.own x s a p = false) ∧ E.who x a p = -1) := by
  by_cases h : ∃ s, E.own x s a p = true
  · obtain ⟨s, hs⟩ := h
    exact .inl ⟨s, hs, (E.own_who hs).2⟩
  · have h' : ∀ s, E.own x s a p = false := fun s => by
      cases hs : E.own x s a p
      · rfl
      · exact absurd ⟨s, hs⟩ h
    exact .inr ⟨h', E.who_no h'⟩
/-- A block's ports: which, and within which bounds. -/
theorem E.blk_in {x : E.D} {a i : Int} (h : E.blkB x a i = true) : E.Fits x ∧ (0 ≤ a ∧ a < E.no x) ∧ (0 ≤ i ∧ i < E.nb x) ∧ E.blkA x a i = a ∧ E.blkF x a i = x.hi - x.dy + 1 + i * x.bl ∧ E.blkT x a i = E.blkF x a i + x.bl - 1 ∧
    x.hi - x.dy < E.blkF x a i ∧ E.blkF x a i ≤ E.blkT x a i ∧ E.blkT x a i ≤ x.hi ∧ 0 ≤ i * x.bl := by
  obtain ⟨hf, ha, hi⟩ := E.blkB_iff.1 h
  have e1 : E.blkA x a i = a := by unfold E.blkA; rw [h, if_pos rfl]
  have e2 : E.blkF x a i = x.hi - x.dy + 1 + i * x.bl := by unfold E.blkF; rw [h, if_pos rfl]
  have e3 : E.blkT x a i = E.blkF x a i + x.bl - 1 := by unfold E.blkT; rw [h, if_pos rfl]
  have hn := hf.nb'
  have hb := hf.bl
  have a1 : 0 ≤ i * x.bl := Int.mul_nonneg hi.1 (by omega)
  have a2 : i * x.bl ≤ (E.nb x - 1) * x.bl := Int.mul_le_mul_of_nonneg_right (by omega) (by omega)
  rw [Int.sub_mul, Int.one_mul] at a2
  exact ⟨hf, ha, hi, e1, e2, e3, by omega, by omega, by omega, a1⟩
theorem E.inb_which {x : E.D} {a i p : Int} (h : E.inb x a i p = true) : E.whichN x p = i ∧ E.which x a p = i := by
  obtain ⟨hb, h2, h3⟩ := E.inb_iff.1 h
  obtain ⟨hf, _, hi, _, e2, e3, -, -, -, a6⟩ := E.blk_in hb
  have hbl := hf.bl
  have n : E.whichN x p = i := by
    unfold E.whichN
    have e : p - (x.hi - x.dy + 1) = (p - E.blkF x a i) + i * x.bl := by omega
    rw [e, Int.add_mul_ediv_right _ _ (by omega), Int.ediv_eq_zero_of_lt (by omega) (by omega)]
    omega
  refine ⟨n, ?_⟩
  unfold E.which
  rw [n, h, if_pos rfl]
theorem E.which_no {x : E.D} {a p : Int} (h : ∀ i, E.inb x a i p = false) : E.which x a p = -1 := by
  unfold E.which; rw [h]; simp
theorem E.which_cases (x : E.D) (a p : Int) : (∃ i, E.inb x a i p = true ∧ E.which x a p = i) ∨ ((∀ i, E.inb x a i p = false) ∧ E.which x a p = -1) := by
  by_cases h : ∃ s, E.inb x a s p = true
  · obtain ⟨s, hs⟩ := h
    exact .inl ⟨s, hs, (E.inb_which hs).2⟩
  · have h' : ∀ s, E.inb x a s p = false := fun s => by
      cases hs : E.inb x a s p
      · rfl
      · exact absurd ⟨s, hs⟩ h
    exact .inr ⟨h', E.which_no h'⟩
end Go.Proofs.Ytbnhaoimdponkaa
