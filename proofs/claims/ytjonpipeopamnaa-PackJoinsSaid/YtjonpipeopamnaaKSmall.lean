/-
  Walks of moorings/pack's small functions: the closure 'outside', the search by it, Size, Width, and bits.Len.
-/
import Derived.Test.YtjonpipeopamnaaKMath
import Derived.Test.YtjonpipeopamnaaKLen
import Derived.Test.YtjonpipeopamnaaBlok
namespace Go.Proofs.Ytjonpipeopamnaa
open Go.RowKit

theorem outside_any (l : Int) (w : World) : Calls Try.prog 20 #[.int .i64 l] w fun e w' => e = .returned (.func (.func 28) #[] #[.pointer (some ⟨w.heap.size, 0, none⟩)]) ∧ w' = w.alloc (.cells #[.int .i64 l] 3) := by
  go_enter Try.func20, Try.ntmps20
  go_wp2
  go_ret
  exact ⟨rfl, rfl⟩

theorem out1_any (n l : Int) (b : Bool) (B : Nat) (w : World) (hb : Blok w B 3 #[.int .i64 l]) (hd : decide (n < 0 ∨ l ≤ n) = b) :
    Calls Try.prog 28 #[.int .i64 n, .pointer (some ⟨B, 0, none⟩)] w fun e w' => e = .returned (.bool b) ∧ w = w' := by
  have c0 : w.cell? ⟨B, 0, none⟩ = some (.int .i64 l) := hb.cell 0
  by_cases h0 : n < 0
  · obtain rfl : b = true := by rw [← hd]; exact decide_eq_true (.inl h0)
    clear hd
    go_enter Try.func28, Try.ntmps28
    go_wp2
    go_ret
    exact ⟨rfl, rfl⟩
  · by_cases h1 : l ≤ n
    · obtain rfl : b = true := by rw [← hd]; exact decide_eq_true (.inr h1)
      clear hd
      go_enter Try.func28, Try.ntmps28
      go_wp2
      go_ret
      exact ⟨rfl, rfl⟩
    · obtain rfl : b = false := by rw [← hd]; exact decide_eq_false (by omega)
      clear hd
      go_enter Try.func28, Try.ntmps28
      go_wp2
      go_ret
      exact ⟨rfl, rfl⟩


/-- Are all numbers from 0 to a limit less 1? -/
def K.lim (l : Int) (L : List Int) : Prop := ∀ d ∈ L, 0 ≤ d ∧ d < l
instance (l : Int) (L : List Int) : Decidable (K.lim l L) := inferInstanceAs (Decidable (∀ d ∈ L, 0 ≤ d ∧ d < l))
theorem K.lim_step {l : Int} {L : List Int} {k : Nat} {x : Int} (h : K.lim l (L.take k)) (hk : k < L.length) (hx : L.getD k 0 = x) (hd : decide (x < 0 ∨ l ≤ x) = false) : K.lim l (L.take (k + 1)) := by
  rw [take_snoc hk, hx]
  intro d hd'
  rcases List.mem_append.1 hd' with h1 | h1
  · exact h d h1
  · simp only [List.mem_singleton] at h1; subst h1
    have := of_decide_eq_false hd
    omega
theorem K.lim_bad {l : Int} {L : List Int} {k : Nat} {x : Int} (hk : k < L.length) (hx : L.getD k 0 = x) (hd : decide (x < 0 ∨ l ≤ x) = true) : ¬ K.lim l L := by
  intro h
  have hm : x ∈ L := by rw [← hx]; simp [hk]
  have := h x hm
  have := of_decide_eq_true hd
  omega

theorem index_any (a : Option Addr) (len cap : Nat) (L : List Int) (l : Int) (B : Nat) (w : World) (hl : L.length = len) (h : RowIn .i64 w a cap L) (hb : Blok w B 3 #[.int .i64 l]) :
    Calls Try.prog 27 #[.slice a len cap, .func (.func 28) #[] #[.pointer (some ⟨B, 0, none⟩)]] w fun e w' => ∃ r : Int, e = .returned (.int .i64 r) ∧ decide (0 ≤ r) = !decide (K.lim l L) ∧ w = w' := by
  have HL := Lib.hid hl
  have HR := Lib.hid h
  have HB := Lib.hid hb
  have hlm : len ≤ 9223372036854775807 := by have := h.1; unfold maxLen at this; omega
  clear hl h hb
  go_enter Try.func27, Try.ntmps27
  go_wp2
  go_loop [8] (fun i => ∃ k : Nat, i = .int .i64 k ∧ k ≤ len ∧ Hid (K.lim l (L.take k))) (fun i => len - (intOf i).toNat)
  case atStart => exact ⟨0, rfl, by omega, Lib.hid (by simp [K.lim])⟩
  case round =>
    obtain ⟨k, rfl, hkn, HT⟩ := hrel
    by_cases hlt : k < len
    · obtain ⟨b, off, rfl, hb, hc⟩ := row_at HR.out (by rw [HL.out]; exact hlt)
      obtain ⟨x, hx⟩ : ∃ x, L.getD k 0 = x := ⟨_, rfl⟩
      rw [hx] at hc
      have HX := Lib.hid hx
      obtain ⟨d, hd⟩ : ∃ d, decide (x < 0 ∨ l ≤ x) = d := ⟨_, rfl⟩
      have HD := Lib.hid hd
      clear hx hd
      go_wp2_with (go_at_call 28; refine (out1_any x l d B _ HB.out HD.out).mono ?_; rintro e w' ⟨rfl, rfl⟩)
      · obtain rfl : d = true := by assumption
        go_ret
        have hb := K.lim_bad (by rw [HL.out]; exact hlt) HX.out HD.out
        exact ⟨k, rfl, by rw [decide_eq_false hb]; simp, rfl⟩
      · obtain rfl : d = false := by assumption
        go_round
        case rel => exact ⟨k + 1, by go_num, by omega, Lib.hid (K.lim_step HT.out (by rw [HL.out]; exact hlt) HX.out HD.out)⟩
        case measure => simp [intOf]; omega
    · have hd : decide (k < len) = false := by simp; omega
      go_wp2
      go_ret
      have ht := HT.out
      rw [List.take_of_length_le (by rw [HL.out]; omega)] at ht
      exact ⟨-1, rfl, by rw [decide_eq_true ht]; rfl, rfl⟩

theorem contains_any (a : Option Addr) (len cap : Nat) (L : List Int) (l : Int) (b : Bool) (B : Nat) (w : World) (hl : L.length = len) (h : RowIn .i64 w a cap L) (hb : Blok w B 3 #[.int .i64 l]) (hd : decide (K.lim l L) = b) :
    Calls Try.prog 19 #[.slice a len cap, .func (.func 28) #[] #[.pointer (some ⟨B, 0, none⟩)]] w fun e w' => e = .returned (.bool (!b)) ∧ w = w' := by
  have HL := Lib.hid hl
  have HR := Lib.hid h
  have HB := Lib.hid hb
  have HD := Lib.hid hd
  clear hl h hb hd
  go_enter Try.func19, Try.ntmps19
  go_wp2_with (go_at_call 27; refine (index_any a len cap L l B _ HL.out HR.out HB.out).mono ?_; rintro e w' ⟨r, rfl, hr, rfl⟩; rw [HD.out] at hr; have HQ := Lib.hid hr; clear hr)
  go_ret
  exact ⟨by rw [← HQ.out]; rfl, rfl⟩

theorem size_any (n v : Int) (w : World) : Calls Try.prog 17 #[.int .i64 n, .int .i64 v] w fun e w' => e = .returned (.int .i64 (K.size n v)) ∧ Below w.heap.size w w' := by
  have B1 : ∀ l : Int, Below w.heap.size w (w.alloc (.cells #[.int .i64 l] 3)) := fun l => (Below.refl _ _).alloc (Nat.le_refl _) _
  have B2 : ∀ l m : Int, Below w.heap.size w ((w.alloc (.cells #[.int .i64 l] 3)).alloc (.cells #[.int .i64 m] 3)) := fun l m => (B1 l).alloc (by simp) _
  have BB : ∀ l m : Int, Blok ((w.alloc (.cells #[.int .i64 l] 3)).alloc (.cells #[.int .i64 m] 3)) (w.heap.size + 1) 3 #[.int .i64 m] := fun l m => by
    have := Blok.new (w.alloc (.cells #[.int .i64 l] 3)) 3 #[.int .i64 m]
    rwa [World.size_alloc] at this
  by_cases h1 : n < 0 ∨ 401 ≤ n
  · have HS := Lib.hid (K.size_no (n := n) (w := v) (by omega))
    have d1 := decide_eq_true h1
    have D1 := Lib.hid d1
    clear h1 d1
    go_enter Try.func17, Try.ntmps17
    go_wp2_with (first
      | (go_at_call 20; refine (outside_any _ _).mono ?_; rintro e w' ⟨rfl, rfl⟩)
      | (go_at_call 28; refine (out1_any n 401 true w.heap.size _ (Blok.new w _ _) D1.out).mono ?_; rintro e w' ⟨rfl, rfl⟩))
    go_ret
    exact ⟨by rw [HS.out]; rfl, B1 _⟩
  · have d1 := decide_eq_false h1
    have D1 := Lib.hid d1
    clear d1
    by_cases h2 : v < 0 ∨ 33 ≤ v
    · have HS := Lib.hid (K.size_no (n := n) (w := v) (by omega))
      have d2 := decide_eq_true h2
      have D2 := Lib.hid d2
      clear h1 h2 d2
      go_enter Try.func17, Try.ntmps17
      go_wp2_with fail
      refine (outside_any _ _).mono ?_
      rintro e w' ⟨rfl, rfl⟩
      go_wp2_with fail
      refine (out1_any n 401 false w.heap.size _ (Blok.new w _ _) D1.out).mono ?_
      rintro e w' ⟨rfl, rfl⟩
      go_wp2_with fail
      refine (outside_any _ _).mono ?_
      rintro e w' ⟨rfl, rfl⟩
      go_wp2_with fail
      refine (out1_any v 33 true _ _ (BB 401 33) D2.out).mono ?_
      rintro e w' ⟨rfl, rfl⟩
      go_wp2
      go_ret
      exact ⟨by rw [HS.out]; rfl, B2 _ _⟩
    · have d2 := decide_eq_false h2
      have D2 := Lib.hid d2
      clear d2
      obtain ⟨m, rfl⟩ : ∃ m : Nat, n = m := ⟨n.toNat, by omega⟩
      obtain ⟨u, rfl⟩ : ∃ m : Nat, v = m := ⟨v.toNat, by omega⟩
      have HS := Lib.hid (K.size_in (n := m) (w := u) (by omega) (by omega))
      have hp : m * u ≤ 400 * 32 := Nat.mul_le_mul (by omega) (by omega)
      clear h1 h2
      obtain ⟨p, hp'⟩ : ∃ p, m * u = p := ⟨_, rfl⟩
      rw [hp'] at hp
      have hpi : (m : Int) * (u : Int) = p := by rw [← hp']; simp
      rw [hp'] at HS
      clear hp'
      go_enter Try.func17, Try.ntmps17
      go_wp2_with fail
      refine (outside_any _ _).mono ?_
      rintro e w' ⟨rfl, rfl⟩
      go_wp2_with fail
      refine (out1_any m 401 false w.heap.size _ (Blok.new w _ _) D1.out).mono ?_
      rintro e w' ⟨rfl, rfl⟩
      go_wp2_with fail
      refine (outside_any _ _).mono ?_
      rintro e w' ⟨rfl, rfl⟩
      go_wp2_with fail
      refine (out1_any u 33 false _ _ (BB 401 33) D2.out).mono ?_
      rintro e w' ⟨rfl, rfl⟩
      go_wp2
      go_ret
      exact ⟨ret_int (by rw [HS.out]; omega), B2 _ _⟩
end Go.Proofs.Ytjonpipeopamnaa
