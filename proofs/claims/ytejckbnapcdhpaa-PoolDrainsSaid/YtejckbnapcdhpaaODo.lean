/-
  The contracts of pool.done and slices.Clone with their answers as letters; pool.seek.
-/
import Derived.Test.YtejckbnapcdhpaaODone
namespace Go.Proofs.Ytejckbnapcdhpaa
open Go.RowKit

theorem clone_is (a : Option Addr) (n c : Nat) (l : List O.Pl) (w : World) (h : QIn w a n c l) (hn : n ≤ 800) :
    Calls Try.prog 28 #[.slice a n c] w fun e w' => ∃ a2 c2, e = .returned (.slice a2 n c2) ∧ Hid (QIn w' a2 n c2 l) ∧ Below w.heap.size w w' := by
  refine (cloneO_any a n c l w (by omega) h).mono ?_
  rintro e w' ⟨v, rfl, ho, hb⟩
  obtain ⟨a2, c2, rfl, ht⟩ := own_pools ho.out h.1
  exact ⟨a2, c2, rfl, Lib.hid ht, hb⟩
theorem done0_is (a : Option Addr) (n c : Nat) (l : List O.Pl) (f n' : Int) (l2 : List O.Pl) (n2 : Nat) (w : World) (h : QIn w a n c l) (hn : n ≤ 800) (hl : l ++ [⟨f, n', 0⟩] = l2) (h2 : l2.length = n2) :
    Calls Try.prog 31 #[.slice a n c, .agg #[.int .i64 0, .int .i64 0, .int .i64 f, .int .i64 n']] w fun e w' => ∃ a2 c2, e = .returned (.slice a2 n2 c2) ∧ Hid (QIn w' a2 n2 c2 l2) ∧ Below w.heap.size w w' := by
  refine (done0_run a n c l 0 f n' w h (by omega)).mono ?_
  rintro e w' ⟨v, q, rfl, hq, ho, hb⟩
  rw [← h.1, O.run0, hl] at hq ho
  obtain rfl : n2 = q := by rw [← h2, hq]
  obtain ⟨a2, c2, rfl, ht⟩ := own_pools ho.out h2
  exact ⟨a2, c2, rfl, Lib.hid ht, hb⟩
theorem done1_is (a : Option Addr) (n c : Nat) (l : List O.Pl) (k : Int) (l2 : List O.Pl) (n2 : Nat) (w : World) (h : QIn w a n c l) (hn : n ≤ 800) (h0 : 0 ≤ k) (h1 : k < n) (hl : l.set k.toNat { O.at' l k with s := 1 } = l2) (h2 : l2.length = n2) :
    Calls Try.prog 31 #[.slice a n c, .agg #[.int .i64 1, .int .i64 k, .int .i64 0, .int .i64 0]] w fun e w' => ∃ a2 c2, e = .returned (.slice a2 n2 c2) ∧ Hid (QIn w' a2 n2 c2 l2) ∧ Below w.heap.size w w' := by
  refine (done1_run a n c l k 0 0 w h (by omega)).mono ?_
  rintro e w' ⟨v, q, rfl, hq, ho, hb⟩
  rw [← h.1, O.run1 0 h0 (by rw [h.1]; exact h1), hl] at hq ho
  obtain rfl : n2 = q := by rw [← h2, hq]
  obtain ⟨a2, c2, rfl, ht⟩ := own_pools ho.out h2
  exact ⟨a2, c2, rfl, Lib.hid ht, hb⟩
theorem done2_is (a : Option Addr) (n c : Nat) (l : List O.Pl) (k n' : Int) (l2 : List O.Pl) (n2 : Nat) (w : World) (h : QIn w a n c l) (hn : n ≤ 800) (h0 : 0 ≤ k) (h1 : k < n) (hl : l.set k.toNat { O.at' l k with n := n' } = l2) (h2 : l2.length = n2) :
    Calls Try.prog 31 #[.slice a n c, .agg #[.int .i64 2, .int .i64 k, .int .i64 0, .int .i64 n']] w fun e w' => ∃ a2 c2, e = .returned (.slice a2 n2 c2) ∧ Hid (QIn w' a2 n2 c2 l2) ∧ Below w.heap.size w w' := by
  refine (done2_run a n c l k 0 n' w h (by omega)).mono ?_
  rintro e w' ⟨v, q, rfl, hq, ho, hb⟩
  rw [← h.1, O.run2 h0 (by rw [h.1]; exact h1), hl] at hq ho
  obtain rfl : n2 = q := by rw [← h2, hq]
  obtain ⟨a2, c2, rfl, ht⟩ := own_pools ho.out h2
  exact ⟨a2, c2, rfl, Lib.hid ht, hb⟩
theorem done3_is (a : Option Addr) (n c : Nat) (l : List O.Pl) (k : Int) (l2 : List O.Pl) (n2 : Nat) (w : World) (h : QIn w a n c l) (hn : n ≤ 800) (h0 : 0 ≤ k) (hl : l.eraseIdx k.toNat = l2) (h2 : l2.length = n2) :
    Calls Try.prog 31 #[.slice a n c, .agg #[.int .i64 3, .int .i64 k, .int .i64 0, .int .i64 0]] w fun e w' => ∃ a2 c2, e = .returned (.slice a2 n2 c2) ∧ Hid (QIn w' a2 n2 c2 l2) ∧ Below w.heap.size w w' := by
  refine (done3_run a n c l k 0 0 w h (by omega)).mono ?_
  rintro e w' ⟨v, q, rfl, hq, ho, hb⟩
  rw [← h.1, O.run3 0 h0, hl] at hq ho
  obtain rfl : n2 = q := by rw [← h2, hq]
  obtain ⟨a2, c2, rfl, ht⟩ := own_pools ho.out h2
  exact ⟨a2, c2, rfl, Lib.hid ht, hb⟩

namespace O
def seek (l : List Pl) (out k : Int) : Int := if may l out = false then 1 else if k < 0 ∨ (l.length : Int) ≤ k then 5 else 0
theorem seek_ok {l : List Pl} {out k : Int} : seek l out k = 0 ↔ may l out = true ∧ 0 ≤ k ∧ k < l.length := by
  unfold seek
  cases may l out
  · simp
  · by_cases h : k < 0 ∨ (l.length : Int) ≤ k
    · simp [h]; omega
    · simp [h]; omega
theorem drain_no {l : List Pl} {out k : Int} (h : seek l out k ≠ 0) : drain l out k = (l, seek l out k) := by
  unfold seek at h ⊢; unfold drain
  by_cases h1 : may l out = false
  · rw [if_pos h1, if_pos h1]
  · rw [if_neg h1] at h; rw [if_neg h1, if_neg h1]
    by_cases h2 : k < 0 ∨ (l.length : Int) ≤ k
    · rw [if_pos h2, if_pos h2]
    · rw [if_neg h2] at h; exact absurd rfl h
theorem drain_yes {l : List Pl} {out k : Int} (h : seek l out k = 0) : drain l out k = if (at' l k).s = 1 then (l, 11) else (l.set k.toNat { at' l k with s := 1 }, 0) := by
  obtain ⟨h1, h2, h3⟩ := seek_ok.1 h
  unfold drain
  rw [if_neg (by rw [h1]; decide), if_neg (by omega)]
theorem size_no {l : List Pl} {out k n : Int} {busy : List Int} (h : seek l out k ≠ 0) : size l out k n busy = (l, seek l out k) := by
  unfold seek at h ⊢; unfold size
  by_cases h1 : may l out = false
  · rw [if_pos h1, if_pos h1]
  · rw [if_neg h1] at h; rw [if_neg h1, if_neg h1]
    by_cases h2 : k < 0 ∨ (l.length : Int) ≤ k
    · rw [if_pos h2, if_pos h2]
    · rw [if_neg h2] at h; exact absurd rfl h
theorem size_yes {l : List Pl} {out k n : Int} {busy : List Int} (h : seek l out k = 0) : size l out k n busy = if below { at' l k with n := n } out = false then (l, 1)
    else if (l.eraseIdx k.toNat).any (fun q => hit { at' l k with n := n } q) = true then (l, 11)
    else if loses (at' l k) { at' l k with n := n } busy = true then (l, 12)
    else (l.set k.toNat { at' l k with n := n }, 0) := by
  obtain ⟨h1, h2, h3⟩ := seek_ok.1 h
  unfold size
  rw [if_neg (by rw [h1]; decide), if_neg (by omega)]
theorem gone_no {l : List Pl} {out k : Int} {busy : List Int} (h : seek l out k ≠ 0) : gone l out k busy = (l, seek l out k) := by
  unfold seek at h ⊢; unfold gone
  by_cases h1 : may l out = false
  · rw [if_pos h1, if_pos h1]
  · rw [if_neg h1] at h; rw [if_neg h1, if_neg h1]
    by_cases h2 : k < 0 ∨ (l.length : Int) ≤ k
    · rw [if_pos h2, if_pos h2]
    · rw [if_neg h2] at h; exact absurd rfl h
theorem gone_yes {l : List Pl} {out k : Int} {busy : List Int} (h : seek l out k = 0) : gone l out k busy = if (at' l k).s = 0 ∨ loses (at' l k) zp busy = true then (l, 12) else (l.eraseIdx k.toNat, 0) := by
  obtain ⟨h1, h2, h3⟩ := seek_ok.1 h
  unfold gone
  rw [if_neg (by rw [h1]; decide), if_neg (by omega)]
end O
set_option maxHeartbeats 400000 in
theorem seek_is (a : Option Addr) (n c : Nat) (l : List O.Pl) (out k sk : Int) (w : World) (h : QIn w a n c l) (hn : n ≤ 800) (hz : O.Sm l) (hs : O.seek l out k = sk) :
    Calls Try.prog 34 #[.slice a n c, .int .i64 out, .int .i64 k] w fun e w' => e = .returned (.int .i64 sk) ∧ Below w.heap.size w w' := by
  obtain ⟨pm, hpm⟩ : ∃ b, O.may l out = b := ⟨_, rfl⟩
  have c1 := may_any a n c l out pm hpm w h (by omega) hz
  have hl := h.1
  cases pm with
  | false =>
    have HE : Hid (sk = 1) := Lib.hid (by rw [← hs]; unfold O.seek; rw [if_pos hpm])
    clear h hz hs hpm
    go_enter Try.func34, Try.ntmps34
    go_wp2_with fail
    refine c1.mono ?_
    rintro e w2 ⟨rfl, hb2⟩
    go_wp2
    go_ret
    exact ⟨by rw [HE.out]; rfl, hb2⟩
  | true =>
    have hs2 : sk = if k < 0 ∨ (n : Int) ≤ k then 5 else 0 := by rw [← hs]; unfold O.seek; rw [if_neg (by rw [hpm]; decide), hl]
    clear h hz hs hpm hl
    go_enter Try.func34, Try.ntmps34
    go_wp2_with fail
    refine c1.mono ?_
    rintro e w2 ⟨rfl, hb2⟩
    by_cases h1 : k < 0
    · have d1 : decide (k < 0) = true := by simpa using h1
      have HE : Hid (sk = 5) := Lib.hid (by rw [hs2, if_pos (.inl h1)])
      clear hs2
      go_wp2
      go_ret
      exact ⟨by rw [HE.out]; rfl, hb2⟩
    · have d1 : decide (k < 0) = false := by simpa using h1
      by_cases h2 : (n : Int) ≤ k
      · have d2 : decide ((n : Int) ≤ k) = true := by simpa using h2
        have HE : Hid (sk = 5) := Lib.hid (by rw [hs2, if_pos (.inr h2)])
        clear hs2
        go_wp2
        go_ret
        exact ⟨by rw [HE.out]; rfl, hb2⟩
      · have d2 : decide ((n : Int) ≤ k) = false := by simpa using h2
        have HE : Hid (sk = 0) := Lib.hid (by rw [hs2, if_neg (by omega)])
        clear hs2
        go_wp2
        go_ret
        exact ⟨by rw [HE.out]; rfl, hb2⟩
end Go.Proofs.Ytejckbnapcdhpaa
