/-
  Walks of slices.Equal and slices.Clone at slices of bytes, whatever they are (nil, too); strings of bytes.
-/
import Derived.Test.YtebiogadkamgcaaBlok
namespace Go.Proofs.Ytebiogadkamgcaa
open Go.RowKit

/-- What Equal returns. -/
def EqualIs (L K : List Int) (w : World) (e : Ending) (w' : World) : Prop := e = .returned (.bool (decide (L = K))) ∧ Below w.heap.size w w'

theorem equal_long (a a' : Option Addr) (n m cap cap' : Nat) (L K : List Int) (w : World) (hl : L.length = n) (hk : K.length = m) (h : n ≠ m) :
    Calls Try.prog 26 #[.slice a n cap, .slice a' m cap'] w (EqualIs L K w) := by
  have HD := Lib.hid (decide_eq_false (fun e : L = K => h (by rw [← hl, ← hk, e])))
  have hd : ((n : Int) != m) = true := by simp; omega
  clear h hl hk
  go_enter Try.func26, Try.ntmps26
  go_wp2
  go_ret
  exact ⟨by rw [HD.out]; rfl, Below.refl _ _⟩

theorem equal_empty (a a' : Option Addr) (cap cap' : Nat) (w : World) :
    Calls Try.prog 26 #[.slice a 0 cap, .slice a' 0 cap'] w (EqualIs [] [] w) := by
  go_enter Try.func26, Try.ntmps26
  go_wp2
  refine wp_loop_rounds 1 ?_
  rw [rounds_succ]
  go_wp2
  go_ret
  exact ⟨rfl, Below.refl _ _⟩

theorem bytes_differ {L K : List Int} {k : Nat} {x y : Int} (hx : L.getD k 0 = x) (hy : K.getD k 0 = y) (h : (x != y) = true) : decide (L = K) = false := by
  refine decide_eq_false fun e => ?_
  rw [← hx, ← hy, e] at h
  simp at h
theorem bytes_step {L K : List Int} {k : Nat} {x y : Int} (hl : k < L.length) (hk : k < K.length) (h : L.take k = K.take k) (hx : L.getD k 0 = x) (hy : K.getD k 0 = y) (he : (x != y) = false) : L.take (k + 1) = K.take (k + 1) := by
  rw [List.take_succ_eq_append_getElem hl, List.take_succ_eq_append_getElem hk, h]
  simp [hl] at hx
  simp [hk] at hy
  simp at he
  rw [hx, hy, he]
theorem bytes_same {L K : List Int} {k : Nat} (hl : L.length ≤ k) (hk : K.length ≤ k) (h : L.take k = K.take k) : decide (L = K) = true := by
  rw [List.take_of_length_le hl, List.take_of_length_le hk] at h
  exact decide_eq_true h

set_option maxRecDepth 100000 in
set_option maxHeartbeats 1000000 in
theorem equal_in (b off b' off' n cap cap' : Nat) (L K : List Int) (w : World) (hl : L.length = n) (hk : K.length = n) (hm : n ≤ 9223372036854775807) (hb : b < w.heap.size) (hb' : b' < w.heap.size)
    (hc : ∀ i, i < L.length → w.cell? ⟨b, off + i, none⟩ = some (.int .u8 (L.getD i 0))) (hc' : ∀ i, i < K.length → w.cell? ⟨b', off' + i, none⟩ = some (.int .u8 (K.getD i 0))) :
    Calls Try.prog 26 #[.slice (some ⟨b, off, none⟩) n cap, .slice (some ⟨b', off', none⟩) n cap'] w (EqualIs L K w) := by
  have HL := Lib.hid hl
  have HK := Lib.hid hk
  clear hl hk
  go_enter Try.func26, Try.ntmps26
  go_wp2
  go_loopw [13] (fun i wr => ∃ k : Nat, i = .int .i64 k ∧ k ≤ n ∧ Hid (L.take k = K.take k) ∧ Below w.heap.size w wr) (fun i _ => n - (intOf i).toNat)
  case atStart => exact ⟨0, rfl, by omega, Lib.hid (by simp), Below.refl _ _⟩
  case round =>
    obtain ⟨k, rfl, hkn, HT, hB⟩ := hrel
    by_cases hlt : k < n
    · obtain ⟨x, hx⟩ : ∃ x, L.getD k 0 = x := ⟨_, rfl⟩
      obtain ⟨y, hy⟩ : ∃ y, K.getD k 0 = y := ⟨_, rfl⟩
      have c1 : wr.cell? ⟨b, off + k, none⟩ = some (.int .u8 x) := by rw [← hx]; exact (hB.cell (p := ⟨b, off + k, none⟩) hb).trans (hc k (by rw [HL.out]; exact hlt))
      have c2 : wr.cell? ⟨b', off' + k, none⟩ = some (.int .u8 y) := by rw [← hy]; exact (hB.cell (p := ⟨b', off' + k, none⟩) hb').trans (hc' k (by rw [HK.out]; exact hlt))
      have HX := Lib.hid hx
      have HY := Lib.hid hy
      clear hx hy hc hc'
      have hi0 : (0 : Int) ≤ (k : Int) := by omega
      have hi1 : (k : Int) < (n : Int) := by omega
      go_wp2
      go_quiet (fail)
      go_wp2
      · have hne : (x != y) = true := by assumption
        go_ret
        exact ⟨by rw [bytes_differ HX.out HY.out hne]; rfl, (hB.trans (below_drewN _ _ _))⟩
      · have heq : (x != y) = false := by assumption
        go_roundw
        case rel => exact ⟨k + 1, by go_num, by omega, Lib.hid (bytes_step (by rw [HL.out]; exact hlt) (by rw [HK.out]; exact hlt) HT.out HX.out HY.out heq), hB.trans (below_drewN _ _ _)⟩
        case measure => simp [intOf]; omega
    · have HE := Lib.hid (bytes_same (by rw [HL.out]; omega) (by rw [HK.out]; omega) HT.out)
      have hd : decide (k < n) = false := by simp; omega
      clear hc hc'
      go_wp2
      go_ret
      exact ⟨by rw [HE.out]; rfl, hB⟩

/-- **Equal**, at whatever two slices of bytes. -/
theorem equal_any (a a' : Option Addr) (n m cap cap' : Nat) (L K : List Int) (w : World) (hl : L.length = n) (hk : K.length = m) (h : RowIn .u8 w a cap L) (h' : RowIn .u8 w a' cap' K) :
    Calls Try.prog 26 #[.slice a n cap, .slice a' m cap'] w (EqualIs L K w) := by
  by_cases hnm : n = m
  · subst hnm
    rcases h.2.2 with rfl | ⟨b, off, rfl, hb, hc⟩
    · obtain rfl : n = 0 := by simpa using hl.symm
      obtain rfl : K = [] := List.eq_nil_of_length_eq_zero hk
      exact equal_empty a a' cap cap' w
    · rcases h'.2.2 with rfl | ⟨b', off', rfl, hb', hc'⟩
      · obtain rfl : n = 0 := by simpa using hk.symm
        obtain rfl : L = [] := List.eq_nil_of_length_eq_zero hl
        exact equal_empty _ _ cap cap' w
      · exact equal_in b off b' off' n cap cap' L K w hl hk (by have := h.1; unfold maxLen at this; omega) hb hb' hc hc'
  · exact equal_long a a' n m cap cap' L K w hl hk hnm

end Go.Proofs.Ytebiogadkamgcaa
