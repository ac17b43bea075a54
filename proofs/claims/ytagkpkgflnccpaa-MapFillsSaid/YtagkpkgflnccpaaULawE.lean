/-
  MapFills, at every number.
-/
import Derived.Test.YtagkpkgflnccpaaULaws
namespace Go.Proofs.Ytagkpkgflnccpaa
open Go.RowKit


set_option maxRecDepth 100000 in
set_option maxHeartbeats 1000000 in
theorem MapFills_in (n : Int) (w : World)  :
    Calls Try.prog 6 #[.int .i64 n] w fun e w' => e = .returned (.bool true) ∧ Below w.heap.size w w' := by
  have HB0 := Lib.hid (Below.refl w.heap.size w)
  by_cases h0 : 0 ≤ n
  · have g0 : decide (0 ≤ n) = true := decide_eq_true h0
    by_cases h1 : n ≤ 8
    · have g1 : decide (n ≤ 8) = true := decide_eq_true h1
      obtain ⟨M, rfl⟩ := Int.eq_ofNat_of_zero_le h0
      have hM : M < 9 := by omega
      have hm : U.may (M : Int) 0 = true := by
        have hp := Nat.two_pow_pos M
        have e : ((2 : Int) ^ M) = ((2 ^ M : Nat) : Int) := by simp
        unfold U.may
        rw [Int.toNat_natCast, e]
        simp; omega
      have hn := fun W => new_any M M true W hm (by unfold U.newN; rw [hm]; rfl)
      have HF := Lib.hid (U.fills_all M hM)
      have HE := Lib.hid (U.full_all M hM)
      clear hm h0 h1
      go_enter Try.func6, Try.ntmps6
      go_wp2_with fail
      refine (uawake_any w).mono ?_
      rintro e w1 ⟨rfl, hb⟩
      have HB1 := Lib.hid (HB0.out.trans (hb.mono HB0.out.size))
      have HS1 := Lib.hid hb
      clear hb
      go_wp2_with fail
      refine (hn w1).mono ?_
      rintro e w2 ⟨rfl, hb⟩
      have HB2 := Lib.hid (HB1.out.trans (hb.mono HB1.out.size))
      have HS2 := Lib.hid hb
      clear hb
      have HBB := Lib.hid (HB2.out.trans ((ubox_below w2 M 0).mono HB2.out.size))
      have HKK := Lib.hid (ubox_blok w2 M 0)
      have hsz := HB2.out.size
      go_wp2
      go_loopw [6] (fun iv wr => ∃ (k : Nat) (y : Int), iv = .int .i64 k ∧ k ≤ M ∧ Hid (y = 2 ^ k - 1) ∧ Hid (Blok wr w2.heap.size 23 #[.int .i64 M, .int .i64 y]) ∧ Hid (Below w.heap.size w wr)) (fun iv _ => M - (intOf iv).toNat)
      case atStart => exact ⟨0, 0, rfl, by omega, Lib.hid rfl, Lib.hid HKK.out, Lib.hid HBB.out⟩
      case round =>
        obtain ⟨k, y, rfl, hk, HY, HKr, HBr⟩ := hrel
        have uf0 := u0 HKr.out
        have uf1 := u1 HKr.out
        by_cases hlt : k < M
        · have hf3 := HF.out k hlt
          rw [← HY.out] at hf3
          simp only [Bool.and_eq_true, beq_iff_eq, decide_eq_true_eq] at hf3
          obtain ⟨⟨f1, f2⟩, f3⟩ := hf3
          obtain ⟨z, hz⟩ : ∃ z : Int, 2 ^ (k + 1) - 1 = z := ⟨_, rfl⟩
          rw [hz] at f3
          have hd : decide (k < M) = true := decide_eq_true hlt
          have hfi := fun W => first_any M y k W f1
          have htk := fun W => take_any M y k z true W f2 f3
          have HZ := Lib.hid hz
          clear f1 f2 f3 hz
          go_wp2_with fail
          refine (hfi wr).mono ?_
          clear uf0 uf1
          rintro e w3 ⟨rfl, hb3⟩
          have HK3 := Lib.hid (HKr.out.below hb3 HKr.out.lt)
          have HB3 := Lib.hid (HBr.out.trans (hb3.mono HBr.out.size))
          have uf0 := u0 HK3.out
          have uf1 := u1 HK3.out
          clear hb3
          go_wp2_with fail
          refine (htk w3).mono ?_
          clear uf0 uf1
          rintro e w4 ⟨rfl, hb4⟩
          have HK4 := Lib.hid (HK3.out.below hb4 HK3.out.lt)
          have HB4 := Lib.hid (HB3.out.trans (hb4.mono HB3.out.size))
          have HK5 := Lib.hid (show Blok (w4.alloc (.cells #[.int .i64 M, .int .i64 z] 23)) _ _ _ from HK4.out.alloc _)
          have uf0 := u0 HK5.out
          have uf1 := u1 HK5.out
          have uz0 := HK5.out.frozen 0
          have uz1 := HK5.out.frozen 1
          have HN5 := Lib.hid (Nat.ne_of_lt HK4.out.lt)
          have HV5 := Lib.hid (Blok.new w4 23 #[.int .i64 M, .int .i64 z])
          have vf0 := u0 HV5.out
          have vf1 := u1 HV5.out
          have HB5 := Lib.hid (HB4.out.trans (((Below.refl _ w4).alloc (Nat.le_refl _) (.cells #[.int .i64 M, .int .i64 z] 23)).mono HB4.out.size))
          clear hb4
          go_wp2
          go_roundw
          case rel => exact ⟨k + 1, z, by go_num, by omega, Lib.hid HZ.out.symm, Lib.hid (by have h := (HK5.out.set 0 (.int .i64 M)).set 1 (.int .i64 z); simpa using h), Lib.hid ((HB5.out.setCell (p := ⟨w2.heap.size, 0, none⟩) hsz _).setCell (p := ⟨w2.heap.size, 1, none⟩) hsz _)⟩
          case measure => simp [intOf]; omega
        · have hd : decide (k < M) = false := decide_eq_false hlt
          obtain rfl : M = k := by omega
          have hf3 := HE.out
          rw [← HY.out] at hf3
          simp only [Bool.and_eq_true, beq_iff_eq, decide_eq_true_eq] at hf3
          obtain ⟨⟨f1, f2⟩, f3⟩ := hf3
          have hfi := fun W => first_any M y (-1) W f1
          have hcn := fun W => count_any M y M W f2
          have hfr := fun W => free_any M y W
          rw [f3] at hfr
          clear f1 f2 f3 hlt hk
          have HKu3 := Lib.hid HKr.out
          have HB3 := Lib.hid HBr.out
          go_wp2_with fail
          refine (hfi wr).mono ?_
          clear uf0 uf1
          rintro e w4 ⟨rfl, hb⟩
          have HKu4 := Lib.hid (HKu3.out.below hb HKu3.out.lt)
          have uf0 := u0 HKu4.out
          have uf1 := u1 HKu4.out
          have HB4 := Lib.hid (HB3.out.trans (hb.mono HB3.out.size))
          have HS4 := Lib.hid hb
          clear hb
          go_wp2_with fail
          refine (hcn w4).mono ?_
          clear uf0 uf1
          rintro e w5 ⟨rfl, hb⟩
          have HKu5 := Lib.hid (HKu4.out.below hb HKu4.out.lt)
          have uf0 := u0 HKu5.out
          have uf1 := u1 HKu5.out
          have HB5 := Lib.hid (HB4.out.trans (hb.mono HB4.out.size))
          have HS5 := Lib.hid hb
          clear hb
          go_wp2_with fail
          refine (hfr w5).mono ?_
          clear uf0 uf1
          rintro e w6 ⟨a, cap, j, rfl, hj, -, hb⟩
          have HKu6 := Lib.hid (HKu5.out.below hb HKu5.out.lt)
          have uf0 := u0 HKu6.out
          have uf1 := u1 HKu6.out
          have HB6 := Lib.hid (HB5.out.trans (hb.mono HB5.out.size))
          have HS6 := Lib.hid hb
          clear hb
          obtain rfl : j = 0 := hj.out.symm
          go_wp2
          go_ret
          exact ⟨rfl, HB6.out⟩
    · have g1 : decide (n ≤ 8) = false := decide_eq_false h1
      have hm : U.may n 0 = false := by unfold U.may; simp; omega
      have hn := fun W => new_any n 0 false W hm (by unfold U.newN; rw [hm]; rfl)
      clear hm
      go_enter Try.func6, Try.ntmps6
      go_wp2_with fail
      refine (uawake_any w).mono ?_
      rintro e w1 ⟨rfl, hb⟩
      have HB1 := Lib.hid (HB0.out.trans (hb.mono HB0.out.size))
      have HS1 := Lib.hid hb
      clear hb
      go_wp2_with fail
      refine (hn w1).mono ?_
      rintro e w2 ⟨rfl, hb⟩
      have HB2 := Lib.hid (HB1.out.trans (hb.mono HB1.out.size))
      have HS2 := Lib.hid hb
      clear hb
      have hb := ubox_below w2 0 0
      have HKu3 := Lib.hid (ubox_blok w2 0 0)
      have HB3 := Lib.hid (HB2.out.trans (hb.mono HB2.out.size))
      clear hb
      go_wp2
      go_ret
      exact ⟨rfl, HB3.out⟩
  · have g0 : decide (0 ≤ n) = false := decide_eq_false h0
    have hm : U.may n 0 = false := by unfold U.may; simp; omega
    have hn := fun W => new_any n 0 false W hm (by unfold U.newN; rw [hm]; rfl)
    clear hm
    go_enter Try.func6, Try.ntmps6
    go_wp2_with fail
    refine (uawake_any w).mono ?_
    rintro e w1 ⟨rfl, hb⟩
    have HB1 := Lib.hid (HB0.out.trans (hb.mono HB0.out.size))
    have HS1 := Lib.hid hb
    clear hb
    go_wp2_with fail
    refine (hn w1).mono ?_
    rintro e w2 ⟨rfl, hb⟩
    have HB2 := Lib.hid (HB1.out.trans (hb.mono HB1.out.size))
    have HS2 := Lib.hid hb
    clear hb
    have hb := ubox_below w2 0 0
    have HKu3 := Lib.hid (ubox_blok w2 0 0)
    have HB3 := Lib.hid (HB2.out.trans (hb.mono HB2.out.size))
    clear hb
    go_wp2
    go_ret
    exact ⟨rfl, HB3.out⟩
end Go.Proofs.Ytagkpkgflnccpaa
