/-
  Walks of moorings/mooringslaw03: awake, PackSizes, PackWidth: for every input they return true.
-/
import Derived.Test.YtjonpipeopamnaaKUnpack
import Derived.Test.YtjonpipeopamnaaVInts
namespace Go.Proofs.Ytjonpipeopamnaa
open Go.RowKit

theorem ret_bool {a b : Bool} (h : a = b) : Ending.returned (.bool a) = .returned (.bool b) := by rw [h]

theorem three_row (w : World) (x y z : Int) (k : IntKind) (t : TypeId) (hx : (Lit.int k x).wf = true) (hy : (Lit.int k y).wf = true) (hz : (Lit.int k z).wf = true) : RowIn k (w.alloc (.cells #[.int k x, .int k y, .int k z] t)) (some ⟨w.heap.size, 0, none⟩) 3 [x, y, z] :=
  (Blok.new w t #[.int k x, .int k y, .int k z]).row (L := [x, y, z]) (by simp [hx, hy, hz]) (by simp) (by simp [maxLen])

theorem pack123 : K.pack [1, 2, 3] 2 = some [57] := (K.pack_some (w := 2)).2 ⟨by decide, by decide, by decide, by decide⟩
theorem unpack57 : K.unpack [57] 3 2 = some [1, 2, 3] := (K.unpack_some (n := 3) (w := 2) (by decide)).2 ⟨pack123, rfl⟩
theorem width123 : K.width [1, 2, 3] = 2 := by decide
theorem size32 : K.size 3 2 = 1 := by decide

theorem pack123_any (a : Option Addr) (cap : Nat) (w : World) (h : RowIn .i64 w a cap [1, 2, 3]) : Calls Try.prog 10 #[.slice a 3 cap, .int .i64 2] w fun e w' => ∃ a' cap', e = .returned (.tuple #[.slice a' 1 cap', .bool true]) ∧ Hid (RowIn .u8 w' a' cap' [57]) ∧ Below w.heap.size w w' :=
  (packRow_any a 3 cap _ 2 w rfl h).mono fun e w' ⟨a', cap', n', he, hn, hr, hb⟩ => by
    rw [pack123] at he hn hr
    have := hn.out
    simp at this
    subst this
    exact ⟨a', cap', he, hr, hb⟩
theorem unpack57_any (a : Option Addr) (cap : Nat) (w : World) (h : RowIn .u8 w a cap [57]) : Calls Try.prog 12 #[.slice a 1 cap, .int .i64 3, .int .i64 2] w fun e w' => ∃ a' cap', e = .returned (.tuple #[.slice a' 3 cap', .bool true]) ∧ Hid (RowIn .i64 w' a' cap' [1, 2, 3]) ∧ Below w.heap.size w w' :=
  (unpackRow_any a 1 cap _ 3 2 w rfl h).mono fun e w' ⟨a', cap', n', he, hn, hr, hb⟩ => by
    rw [unpack57] at he hn hr
    have := hn.out
    simp at this
    subst this
    exact ⟨a', cap', he, hr, hb⟩
theorem width123_any (a : Option Addr) (cap : Nat) (w : World) (h : RowIn .i64 w a cap [1, 2, 3]) : Calls Try.prog 15 #[.slice a 3 cap] w fun e w' => e = .returned (.int .i64 2) ∧ Below w.heap.size w w' := by
  have := width_any a 3 cap _ w rfl h
  rwa [width123] at this
theorem size32_any (w : World) : Calls Try.prog 17 #[.int .i64 3, .int .i64 2] w fun e w' => e = .returned (.int .i64 1) ∧ Below w.heap.size w w' := by
  have := size_any 3 2 w
  rwa [size32] at this

set_option maxRecDepth 100000 in
set_option maxHeartbeats 2000000 in
theorem awake_any (w : World) : Calls Try.prog 9 #[] w fun e w' => e = .returned (.bool true) ∧ Below w.heap.size w w' := by
  go_enter Try.func9, Try.ntmps9
  go_wp2_with fail
  refine (pack123_any _ _ _ (three_row w 1 2 3 .i64 3 (by decide) (by decide) (by decide))).mono ?_
  rintro e w1 ⟨a1, c1, rfl, R1, hb1⟩
  go_wp2_with fail
  refine (unpack57_any _ _ _ R1.out).mono ?_
  rintro e w2 ⟨a2, c2, rfl, R2, hb2⟩
  obtain ⟨b, off, rfl, hb, hc⟩ := row_at (i := 0) (R1.out.below hb2) (by simp)
  have hc1 : w2.cell? ⟨b, off, none⟩ = some (.int .u8 57) := hc
  obtain ⟨b2, off2, rfl, hb3, hc3⟩ := row_at (i := 2) R2.out (by simp)
  obtain ⟨_, _, he, _, hc4⟩ := row_at (i := 0) R2.out (by simp)
  cases he
  have hc2 : w2.cell? ⟨b2, off2 + 2, none⟩ = some (.int .i64 3) := hc3
  have hc0 : w2.cell? ⟨b2, off2, none⟩ = some (.int .i64 1) := hc4
  have hcap : 3 ≤ c2 := R2.out.1.1
  have hcap1 : 1 ≤ c1 := R1.out.1.1
  have HB : Hid (Below w.heap.size w w2) := Lib.hid ((((Below.refl _ w).alloc (Nat.le_refl _) _).trans (hb1.mono (by simp))).trans (hb2.mono (by have := hb1.size; simp at this; omega)))
  clear hb1 hb2 hb hc hc3 hc4 hb3
  go_wp2_with fail
  refine (width123_any _ _ _ (three_row w2 1 2 3 .i64 3 (by decide) (by decide) (by decide))).mono ?_
  rintro e w3 ⟨rfl, hb3⟩
  have HB3 : Hid (Below w.heap.size w w3) := Lib.hid ((HB.out.alloc HB.out.size _).trans (hb3.mono (by have := HB.out.size; simp; omega)))
  clear hb3
  go_wp2_with fail
  refine (size32_any _).mono ?_
  rintro e w4 ⟨rfl, hb4⟩
  have HB4 : Hid (Below w.heap.size w w4) := Lib.hid (HB3.out.trans (hb4.mono HB3.out.size))
  clear hb4
  go_wp2
  go_ret
  exact ⟨rfl, HB4.out⟩

theorem size_v (n v s : Int) (h : K.size n v = s) (w : World) : Calls Try.prog 17 #[.int .i64 n, .int .i64 v] w fun e w' => e = .returned (.int .i64 s) ∧ Below w.heap.size w w' := by
  rw [← h]; exact size_any n v w

theorem sizes_no (n v k : Int) (w : World) (h : ¬ (0 ≤ n ∧ n ≤ 400 ∧ 0 ≤ v ∧ v ≤ 32)) : Calls Try.prog 7 #[.int .i64 n, .int .i64 v, .int .i64 k] w fun e w' => e = .returned (.bool true) ∧ Below w.heap.size w w' := by
  have HS := Lib.hid (K.size_no h)
  have hc : n < 0 ∨ (0 ≤ n ∧ 400 < n) ∨ (0 ≤ n ∧ n ≤ 400 ∧ v < 0) ∨ (0 ≤ n ∧ n ≤ 400 ∧ 0 ≤ v ∧ 32 < v) := by omega
  clear h
  rcases hc with h | ⟨h1, h2⟩ | ⟨h1, h2, h3⟩ | ⟨h1, h2, h3, h4⟩
  all_goals
    go_enter Try.func7, Try.ntmps7
    go_wp2_with fail
    refine (awake_any _).mono ?_
    rintro e w1 ⟨rfl, hb1⟩
    have W1 := Lib.hid hb1
    clear hb1
    go_wp2_with fail
    refine (size_v n v (-1) HS.out _).mono ?_
    rintro e w2 ⟨rfl, hb2⟩
    have W2 := Lib.hid (W1.out.trans (hb2.mono W1.out.size))
    clear hb2
    go_wp2
    go_ret
    exact ⟨rfl, W2.out⟩

set_option maxRecDepth 100000 in
set_option maxHeartbeats 2000000 in
theorem sizes_in (n v : Nat) (k : Int) (w : World) (h1 : n ≤ 400) (h2 : v ≤ 32) : Calls Try.prog 7 #[.int .i64 n, .int .i64 v, .int .i64 k] w fun e w' => e = .returned (.bool true) ∧ Below w.heap.size w w' := by
  have HS := Lib.hid (K.size_in h1 h2)
  have hp : n * v ≤ 400 * 32 := Nat.mul_le_mul h1 h2
  obtain ⟨p, hp'⟩ : ∃ p, n * v = p := ⟨_, rfl⟩
  have hpi : (n : Int) * (v : Int) = p := by rw [← hp']; simp
  rw [hp'] at hp HS
  obtain ⟨s, hs⟩ : ∃ s, (p + 7) / 8 = s := ⟨_, rfl⟩
  rw [hs] at HS
  have hk : k < 0 ∨ (0 ≤ k ∧ 400 - (n : Int) < k) ∨ ∃ j : Nat, k = j ∧ n + j ≤ 400 := by
    by_cases h0 : k < 0
    · exact .inl h0
    · by_cases h3 : 400 - (n : Int) < k
      · exact .inr (.inl ⟨by omega, h3⟩)
      · exact .inr (.inr ⟨k.toNat, by omega, by omega⟩)
  rcases hk with h3 | ⟨h3, h4⟩ | ⟨j, rfl, hj⟩
  · go_enter Try.func7, Try.ntmps7
    go_wp2_with fail
    refine (awake_any _).mono ?_
    rintro e w1 ⟨rfl, hb1⟩
    have W1 := Lib.hid hb1
    clear hb1
    go_wp2_with fail
    refine (size_v n v s HS.out _).mono ?_
    rintro e w2 ⟨rfl, hb2⟩
    have W2 := Lib.hid (W1.out.trans (hb2.mono W1.out.size))
    clear hb2
    go_wp2
    go_ret
    exact ⟨rfl, W2.out⟩
  · go_enter Try.func7, Try.ntmps7
    go_wp2_with fail
    refine (awake_any _).mono ?_
    rintro e w1 ⟨rfl, hb1⟩
    have W1 := Lib.hid hb1
    clear hb1
    go_wp2_with fail
    refine (size_v n v s HS.out _).mono ?_
    rintro e w2 ⟨rfl, hb2⟩
    have W2 := Lib.hid (W1.out.trans (hb2.mono W1.out.size))
    clear hb2
    go_wp2
    go_ret
    exact ⟨rfl, W2.out⟩
  · by_cases h8 : j = 8
    · subst h8
      have HS2 : Hid (K.size ((n : Int) + 8) v = (s + v : Nat)) := Lib.hid (by
        have h := K.size_in (n := n + 8) (w := v) (by omega) h2
        rw [Nat.add_mul, hp', show (p + 8 * v + 7) / 8 = s + v by omega] at h
        exact h)
      by_cases hv : v = 32
      · subst hv
        go_enter Try.func7, Try.ntmps7
        go_wp2_with fail
        refine (awake_any _).mono ?_
        rintro e w1 ⟨rfl, hb1⟩
        have W1 := Lib.hid hb1
        clear hb1
        go_wp2_with fail
        refine (size_v _ _ _ HS.out _).mono ?_
        rintro e w2 ⟨rfl, hb2⟩
        have W2 := Lib.hid (W1.out.trans (hb2.mono W1.out.size))
        clear hb2
        go_wp2_with fail
        refine (size_v _ _ _ HS2.out _).mono ?_
        rintro e w3 ⟨rfl, hb3⟩
        have W3 := Lib.hid (W2.out.trans (hb3.mono W2.out.size))
        clear hb3
        go_wp2_with fail
        refine (size_v _ _ _ HS2.out _).mono ?_
        rintro e w4 ⟨rfl, hb4⟩
        have W4 := Lib.hid (W3.out.trans (hb4.mono W3.out.size))
        clear hb4
        go_wp2
        go_ret
        exact ⟨ret_bool (decide_eq_true (by omega)), W4.out⟩
      · have HS3 := Lib.hid (K.size_in (n := n) (w := v + 1) h1 (by omega))
        rw [Nat.mul_add, hp', Nat.mul_one] at HS3
        obtain ⟨s3, hs3⟩ : ∃ s3, (p + n + 7) / 8 = s3 := ⟨_, rfl⟩
        rw [hs3] at HS3
        have HS3' : Hid (K.size n ((v : Int) + 1) = s3) := Lib.hid HS3.out
        have hv' : ¬ (v : Int) = 32 := by omega
        have hs4 : s ≤ s3 := by omega
        clear HS3
        have HS3 := HS3'
        clear HS3'
        go_enter Try.func7, Try.ntmps7
        go_wp2_with fail
        refine (awake_any _).mono ?_
        rintro e w1 ⟨rfl, hb1⟩
        have W1 := Lib.hid hb1
        clear hb1
        go_wp2_with fail
        refine (size_v _ _ _ HS.out _).mono ?_
        rintro e w2 ⟨rfl, hb2⟩
        have W2 := Lib.hid (W1.out.trans (hb2.mono W1.out.size))
        clear hb2
        go_wp2_with fail
        refine (size_v _ _ _ HS2.out _).mono ?_
        rintro e w3 ⟨rfl, hb3⟩
        have W3 := Lib.hid (W2.out.trans (hb3.mono W2.out.size))
        clear hb3
        go_wp2_with fail
        refine (size_v _ _ _ HS3.out _).mono ?_
        rintro e w4 ⟨rfl, hb4⟩
        have W4 := Lib.hid (W3.out.trans (hb4.mono W3.out.size))
        clear hb4
        go_wp2_with fail
        refine (size_v _ _ _ HS2.out _).mono ?_
        rintro e w5 ⟨rfl, hb5⟩
        have W5 := Lib.hid (W4.out.trans (hb5.mono W4.out.size))
        clear hb5
        go_wp2
        go_ret
        exact ⟨ret_bool (decide_eq_true (by omega)), W5.out⟩
    · have hj8 : ((j : Int) != 8) = true := by simp; omega
      obtain ⟨p2, hp2⟩ : ∃ p2, (n + j) * v = p2 := ⟨_, rfl⟩
      obtain ⟨s2, hs2⟩ : ∃ s2, (p2 + 7) / 8 = s2 := ⟨_, rfl⟩
      have hpp : p ≤ p2 := by rw [← hp', ← hp2]; exact Nat.mul_le_mul_right _ (by omega)
      have hss : s ≤ s2 := by omega
      have HS2 : Hid (K.size ((n : Int) + (j : Int)) v = (s2 : Nat)) := Lib.hid (by
        have h := K.size_in (n := n + j) (w := v) hj h2
        rw [hp2, hs2] at h
        exact h)
      clear hp2
      by_cases hv : v = 32
      · subst hv
        go_enter Try.func7, Try.ntmps7
        go_wp2_with fail
        refine (awake_any _).mono ?_
        rintro e w1 ⟨rfl, hb1⟩
        have W1 := Lib.hid hb1
        clear hb1
        go_wp2_with fail
        refine (size_v _ _ _ HS.out _).mono ?_
        rintro e w2 ⟨rfl, hb2⟩
        have W2 := Lib.hid (W1.out.trans (hb2.mono W1.out.size))
        clear hb2
        go_wp2_with fail
        refine (size_v _ _ _ HS2.out _).mono ?_
        rintro e w3 ⟨rfl, hb3⟩
        have W3 := Lib.hid (W2.out.trans (hb3.mono W2.out.size))
        clear hb3
        go_wp2
        go_ret
        exact ⟨ret_bool (decide_eq_true (by omega)), W3.out⟩
      · have HS3 := Lib.hid (K.size_in (n := n) (w := v + 1) h1 (by omega))
        rw [Nat.mul_add, hp', Nat.mul_one] at HS3
        obtain ⟨s3, hs3⟩ : ∃ s3, (p + n + 7) / 8 = s3 := ⟨_, rfl⟩
        rw [hs3] at HS3
        have HS3' : Hid (K.size n ((v : Int) + 1) = s3) := Lib.hid HS3.out
        have hv' : ¬ (v : Int) = 32 := by omega
        have hs4 : s ≤ s3 := by omega
        clear HS3
        have HS3 := HS3'
        clear HS3'
        go_enter Try.func7, Try.ntmps7
        go_wp2_with fail
        refine (awake_any _).mono ?_
        rintro e w1 ⟨rfl, hb1⟩
        have W1 := Lib.hid hb1
        clear hb1
        go_wp2_with fail
        refine (size_v _ _ _ HS.out _).mono ?_
        rintro e w2 ⟨rfl, hb2⟩
        have W2 := Lib.hid (W1.out.trans (hb2.mono W1.out.size))
        clear hb2
        go_wp2_with fail
        refine (size_v _ _ _ HS2.out _).mono ?_
        rintro e w3 ⟨rfl, hb3⟩
        have W3 := Lib.hid (W2.out.trans (hb3.mono W2.out.size))
        clear hb3
        go_wp2_with fail
        refine (size_v _ _ _ HS3.out _).mono ?_
        rintro e w4 ⟨rfl, hb4⟩
        have W4 := Lib.hid (W3.out.trans (hb4.mono W3.out.size))
        clear hb4
        go_wp2
        go_ret
        exact ⟨ret_bool (decide_eq_true (by omega)), W4.out⟩

theorem sizes_any (n v k : Int) (w : World) : Calls Try.prog 7 #[.int .i64 n, .int .i64 v, .int .i64 k] w fun e w' => e = .returned (.bool true) ∧ Below w.heap.size w w' := by
  by_cases h : 0 ≤ n ∧ n ≤ 400 ∧ 0 ≤ v ∧ v ≤ 32
  · obtain ⟨m, rfl⟩ : ∃ m : Nat, n = m := ⟨n.toNat, by omega⟩
    obtain ⟨u, rfl⟩ : ∃ m : Nat, v = m := ⟨v.toNat, by omega⟩
    exact sizes_in m u k w (by omega) (by omega)
  · exact sizes_no n v k w h
end Go.Proofs.Ytjonpipeopamnaa
