/-
  Walks of the document's small answers for layer 3: pow, Fits, Size, Width.
-/
import Derived.Test.YtjonpipeopamnaaKUnpack
namespace Go.Proofs.Ytjonpipeopamnaa
open Go.RowKit

theorem pow_any (k : Nat) (w : World) (hk : k ≤ 32) : Calls Try.prog 24 #[.int .i64 k] w fun e w' => e = .returned (.int .i64 (2 ^ k : Nat)) ∧ w = w' := by
  go_enter Try.func24, Try.ntmps24
  go_wp2
  go_loop [3, 4] (fun v i => ∃ o j : Nat, v = .int .i64 o ∧ i = .int .i64 j ∧ j ≤ k ∧ Hid (o = 2 ^ j)) (fun _ i => k - (intOf i).toNat)
  case atStart => exact ⟨1, 0, rfl, rfl, by omega, Lib.hid rfl⟩
  case round =>
    obtain ⟨o, j, rfl, rfl, hj, HO⟩ := hrel
    have ho : o ≤ 2 ^ 32 := by rw [HO.out]; exact Nat.pow_le_pow_right (by decide) (by omega)
    by_cases hlt : j < k
    · go_wp2
      go_round
      case rel => exact ⟨2 * o, j + 1, by go_num, by go_num, by omega, Lib.hid (by rw [HO.out, Nat.pow_succ]; omega)⟩
      case measure => simp [intOf]; omega
    · have hd : decide (j < k) = false := by simp; omega
      have HJ : Hid (j = k) := Lib.hid (by omega)
      go_wp2
      go_ret
      exact ⟨ret_int (by rw [HO.out, HJ.out]; simp), rfl⟩

theorem refSize_any (n v : Int) (w : World) : Calls Try.prog 18 #[.int .i64 n, .int .i64 v] w fun e w' => e = .returned (.int .i64 (K.size n v)) ∧ w = w' := by
  by_cases h : 0 ≤ n ∧ n ≤ 400 ∧ 0 ≤ v ∧ v ≤ 32
  · obtain ⟨m, rfl⟩ : ∃ m : Nat, n = m := ⟨n.toNat, by omega⟩
    obtain ⟨u, rfl⟩ : ∃ m : Nat, v = m := ⟨v.toNat, by omega⟩
    have HS := Lib.hid (K.size_in (n := m) (w := u) (by omega) (by omega))
    have hp : m * u ≤ 400 * 32 := Nat.mul_le_mul (by omega) (by omega)
    obtain ⟨p, hp'⟩ : ∃ p, m * u = p := ⟨_, rfl⟩
    rw [hp'] at hp
    have hpi : (m : Int) * (u : Int) = p := by rw [← hp']; simp
    rw [hp'] at HS
    have hm : m ≤ 400 := by omega
    have hu : u ≤ 32 := by omega
    clear hp' h
    go_enter Try.func18, Try.ntmps18
    go_wp2
    go_ret
    exact ⟨ret_int (by rw [HS.out]; omega), rfl⟩
  · have HS := Lib.hid (K.size_no h)
    have hc : n < 0 ∨ (0 ≤ n ∧ 400 < n) ∨ (0 ≤ n ∧ n ≤ 400 ∧ v < 0) ∨ (0 ≤ n ∧ n ≤ 400 ∧ 0 ≤ v ∧ 32 < v) := by omega
    clear h
    rcases hc with h | ⟨h1, h2⟩ | ⟨h1, h2, h3⟩ | ⟨h1, h2, h3, h4⟩
    all_goals
      go_enter Try.func18, Try.ntmps18
      go_wp2
      go_ret
      exact ⟨ret_int HS.out.symm, rfl⟩

/-- Have all numbers a width? -/
def K.fit (L : List Int) (v : Int) : Bool := decide (0 ≤ v ∧ v ≤ 32 ∧ K.isd (2 ^ v.toNat) L)
theorem K.fit_nat (L : List Int) {v : Nat} (hv : v ≤ 32) : K.fit L v = decide (K.isd (2 ^ v) L) := by
  unfold K.fit
  rw [Int.toNat_natCast, decide_eq_decide]
  exact ⟨fun h => h.2.2, fun h => ⟨by omega, by omega, h⟩⟩

theorem fits_no (a : Option Addr) (len cap : Nat) (L : List Int) (v : Int) (w : World) (h : ¬ (0 ≤ v ∧ v ≤ 32)) :
    Calls Try.prog 23 #[.slice a len cap, .int .i64 v] w fun e w' => e = .returned (.bool (K.fit L v)) ∧ Below w.heap.size w w' := by
  have HF : Hid (K.fit L v = false) := Lib.hid (decide_eq_false (by omega))
  have hc : v < 0 ∨ (0 ≤ v ∧ 32 < v) := by omega
  clear h
  rcases hc with h | ⟨h1, h2⟩
  all_goals
    go_enter Try.func23, Try.ntmps23
    go_wp2
    go_ret
    exact ⟨by rw [HF.out]; rfl, Below.refl _ _⟩

theorem K.isd_take_bad {B : Nat} {L : List Int} {k : Nat} {x : Int} (hk : k < L.length) (hx : L.getD k 0 = x) (h : x < 0 ∨ (B : Int) ≤ x) : ¬ K.isd B L := by
  intro hh
  have hm : x ∈ L := by rw [← hx]; simp [hk]
  have := hh x hm
  omega
theorem K.isd_take_step {B : Nat} {L : List Int} {k : Nat} {x : Int} (ht : K.isd B (L.take k)) (hk : k < L.length) (hx : L.getD k 0 = x) (h0 : 0 ≤ x) (h1 : x < B) : K.isd B (L.take (k + 1)) := by
  rw [take_snoc hk, hx]
  intro d hd
  rcases List.mem_append.1 hd with h | h
  · exact ht d h
  · simp only [List.mem_singleton] at h; subst h; exact ⟨h0, h1⟩

set_option maxRecDepth 100000 in
set_option maxHeartbeats 1000000 in
theorem fits_in (a : Option Addr) (len cap : Nat) (L : List Int) (v : Nat) (w : World) (hl : L.length = len) (hr : RowIn .i64 w a cap L) (hv : v ≤ 32) :
    Calls Try.prog 23 #[.slice a len cap, .int .i64 v] w fun e w' => e = .returned (.bool (K.fit L v)) ∧ Below w.heap.size w w' := by
  have HF := Lib.hid (K.fit_nat L hv)
  obtain ⟨q, hq⟩ : ∃ q : Nat, 2 ^ v = q := ⟨_, rfl⟩
  have HQ := Lib.hid hq
  have hpow : ∀ w : World, Calls Try.prog 24 #[.int .i64 v] w fun e w' => e = .returned (.int .i64 q) ∧ w = w' := fun w => by rw [← hq]; exact pow_any v w hv
  have hlm : len ≤ 9223372036854775807 := by have := hr.1; unfold maxLen at this; omega
  rw [hq] at HF
  have HL := Lib.hid hl
  have HR := Lib.hid hr
  have HP := Lib.hid hpow
  clear hl hr hq hpow
  go_enter Try.func23, Try.ntmps23
  go_wp2
  go_loopw [5] (fun i wr => ∃ k : Nat, i = .int .i64 k ∧ k ≤ len ∧ Hid (K.isd q (L.take k)) ∧ Below w.heap.size w wr) (fun i _ => len - (intOf i).toNat)
  case atStart => exact ⟨0, rfl, by omega, Lib.hid (by simp [K.isd]), Below.refl _ _⟩
  case round =>
    obtain ⟨k, rfl, hkn, HT, hB⟩ := hrel
    by_cases hlt : k < len
    · obtain ⟨b, off, rfl, hb, hc0⟩ := row_at (HR.out) (i := k) (by rw [HL.out]; exact hlt)
      have hc : wr.cell? ⟨b, off + k, none⟩ = some (.int .i64 (L.getD k 0)) := (hB.cell (p := ⟨b, off + k, none⟩) hb).trans hc0
      obtain ⟨x, hx⟩ : ∃ x, L.getD k 0 = x := ⟨_, rfl⟩
      rw [hx] at hc
      have HX := Lib.hid hx
      have hi0 : (0 : Int) ≤ (k : Int) := by omega
      have hi1 : (k : Int) < (len : Int) := by omega
      clear hx hc0
      by_cases h0 : x < 0
      · have d0 : decide (x < 0) = true := by simpa using h0
        have HN := Lib.hid (K.isd_take_bad (B := q) (by rw [HL.out]; exact hlt) HX.out (.inl h0))
        go_wp2
        go_quiet ((go_at_call 24; exact Calls.quiet_of_same ((HP.out _).mono fun _ _ ⟨h1, h2⟩ => ⟨h1, h2.symm⟩)))
        go_wp2
        go_ret
        exact ⟨by rw [HF.out, decide_eq_false HN.out]; rfl, hB.trans (below_drewN _ _ _)⟩
      · have d0 : decide (x < 0) = false := by simpa using h0
        by_cases h1 : (q : Int) ≤ x
        · have d1 : decide ((q : Int) ≤ x) = true := by simpa using h1
          have HN := Lib.hid (K.isd_take_bad (B := q) (by rw [HL.out]; exact hlt) HX.out (.inr h1))
          go_wp2
          go_quiet ((go_at_call 24; exact Calls.quiet_of_same ((HP.out _).mono fun _ _ ⟨h1, h2⟩ => ⟨h1, h2.symm⟩)))
          go_wp2
          go_ret
          exact ⟨by rw [HF.out, decide_eq_false HN.out]; rfl, hB.trans (below_drewN _ _ _)⟩
        · have d1 : decide ((q : Int) ≤ x) = false := by simpa using h1
          have HS := Lib.hid (K.isd_take_step HT.out (by rw [HL.out]; exact hlt) HX.out (by omega) (by omega))
          go_wp2
          go_quiet ((go_at_call 24; exact Calls.quiet_of_same ((HP.out _).mono fun _ _ ⟨h1, h2⟩ => ⟨h1, h2.symm⟩)))
          go_wp2
          go_roundw
          case rel => exact ⟨k + 1, by go_num, by omega, HS, hB.trans (below_drewN _ _ _)⟩
          case measure => simp [intOf]; omega
    · have hd : decide (k < len) = false := by simp; omega
      have ht := HT.out
      rw [List.take_of_length_le (by rw [HL.out]; omega)] at ht
      have HE := Lib.hid ht
      clear ht
      go_wp2
      go_ret
      exact ⟨by rw [HF.out, decide_eq_true HE.out]; rfl, hB⟩

/-- **Fits**, at whatever slice and width. -/
theorem fits_any (a : Option Addr) (len cap : Nat) (L : List Int) (v : Int) (w : World) (hl : L.length = len) (hr : RowIn .i64 w a cap L) :
    Calls Try.prog 23 #[.slice a len cap, .int .i64 v] w fun e w' => e = .returned (.bool (K.fit L v)) ∧ Below w.heap.size w w' := by
  by_cases h : 0 ≤ v ∧ v ≤ 32
  · obtain ⟨u, rfl⟩ : ∃ u : Nat, v = u := ⟨v.toNat, by omega⟩
    exact fits_in a len cap L u w hl hr (by omega)
  · exact fits_no a len cap L v w h

theorem K.width_found {L : List Int} {k : Nat} (hk : k ≤ 32) (h1 : K.isd (2 ^ k) L) (h2 : ∀ j, j < k → ¬ K.isd (2 ^ j) L) : K.width L = k := by
  have h3 := K.isd_mono h1 hk
  obtain ⟨u, hu, hu32⟩ := K.width_in h3
  have h4 := (K.width_le h3 hk).2 h1
  have h5 : K.isd (2 ^ u) L := (K.width_le h3 hu32).1 (by omega)
  have h6 : ¬ u < k := fun h => h2 u h h5
  omega

theorem refWidth_any (a : Option Addr) (len cap : Nat) (L : List Int) (w : World) (hl : L.length = len) (hr : RowIn .i64 w a cap L) :
    Calls Try.prog 16 #[.slice a len cap] w fun e w' => e = .returned (.int .i64 (K.width L)) ∧ Below w.heap.size w w' := by
  have HL := Lib.hid hl
  have HR := Lib.hid hr
  clear hl hr
  go_enter Try.func16, Try.ntmps16
  go_wp2
  go_loopw [3] (fun i wr => ∃ k : Nat, i = .int .i64 k ∧ k ≤ 33 ∧ Hid (∀ j, j < k → ¬ K.isd (2 ^ j) L) ∧ Below w.heap.size w wr) (fun i _ => 33 - (intOf i).toNat)
  case atStart => exact ⟨0, rfl, by omega, Lib.hid (fun j h => by omega), Below.refl _ _⟩
  case round =>
    obtain ⟨k, rfl, hkn, HT, hB⟩ := hrel
    have HB := Lib.hid hB
    clear hB
    by_cases hlt : k ≤ 32
    · obtain ⟨f, hf⟩ : ∃ f, K.fit L k = f := ⟨_, rfl⟩
      have HF := Lib.hid hf
      rw [K.fit_nat L hlt] at hf
      have HD := Lib.hid hf
      clear hf
      have hd : decide ((k : Int) ≤ 32) = true := by simp; omega
      go_wp2_with fail
      refine (fits_any _ len _ L k _ HL.out (HR.out.below HB.out)).mono ?_
      rintro e w2 ⟨rfl, hb2⟩
      rw [HF.out]
      have HB2 := Lib.hid (HB.out.trans (hb2.mono HB.out.size))
      clear hb2
      cases f with
      | true =>
        go_wp2
        go_ret
        exact ⟨ret_int (K.width_found hlt (of_decide_eq_true HD.out) HT.out).symm, HB2.out⟩
      | false =>
        go_wp2
        go_roundw
        case rel =>
          refine ⟨k + 1, by go_num, by omega, Lib.hid fun j hj => ?_, HB2.out⟩
          by_cases hjk : j = k
          · subst hjk; exact of_decide_eq_false HD.out
          · exact HT.out j (by omega)
        case measure => simp [intOf]; omega
    · have hd : decide ((k : Int) ≤ 32) = false := by simp; omega
      have hn : K.width L = -1 := K.width_no (HT.out 32 (by omega))
      have HN := Lib.hid hn
      clear hn
      go_wp2
      go_ret
      exact ⟨ret_int HN.out.symm, HB.out⟩
end Go.Proofs.Ytjonpipeopamnaa
