/-
  A walk of the package sort's breakPatterns_func.
-/
import Derived.Test.YtmegkfonodcoiaaSLay
namespace Go.Proofs.Ytmegkfonodcoiaa
open Go.RowKit Go.Sort
variable {α : Type} [Inhabited α] {lt : α → α → Bool} {l : Nat} {la lb : Array Value} {s : Nat} {sb : Array Value} {g n : Nat} {Sw : Array α → World → Prop}

/-- So many rounds of breakPatterns, from a place on. -/
def brk (a len m : Nat) : Nat → Nat → UInt64 × Array α → Array α
  | 0, _, st => st.2
  | k + 1, i, st => brk a len m k (i + 1) (breakStep a len m st i)
theorem break_eq {a b L q M : Nat} {d : Array α} (hL : b - a = L) (h8 : 8 ≤ L) (hq : L / 4 = q) (hM : 1 <<< bitsLen L = M) : breakPatterns d a b = brk a L M 3 (a + q * 2 - 1) (UInt64.ofNat L, d) := by
  unfold breakPatterns
  simp only [hL, hq, hM]
  rw [if_pos h8]
  rfl
/-- Where a round's number leads. -/
def oth (L M X : Nat) : Nat := if X &&& (M - 1) ≥ L then (X &&& (M - 1)) - L else X &&& (M - 1)
theorem oth_lt {L M X : Nat} (hM : 0 < M) (h2 : M ≤ 2 * L) : oth L M X < L := by
  unfold oth
  have : X &&& (M - 1) ≤ M - 1 := Nat.and_le_right
  split <;> omega
theorem brk_step {a L M k i : Nat} {R : UInt64} {d : Array α} : brk a L M (k + 1) i (R, d) = brk a L M k (i + 1) (xorNext R, swp d i (a + oth L M (xorNextN R.toNat))) := by
  show brk a L M k (i + 1) (breakStep a L M (R, d) i) = _
  unfold breakStep oth
  simp only [xorNext_toNat]

set_option maxRecDepth 100000 in
set_option maxHeartbeats 1000000 in
theorem break_any (S : SortBy lt l la lb s sb g n Sw) (a b : Nat) (d : Array α) (w : World) (hab : a + 12 < b) (hb : b ≤ n) (h : Sw d w) :
    Calls Try.prog 57 #[.agg #[.func (.func l) la lb, .func (.func s) #[] sb], .int .i64 a, .int .i64 b] w fun e w' => e = .returned (.tuple #[]) ∧ Hid (Sw (breakPatterns d a b) w') ∧ Hid (w.grownBy w' (some g)) := by
  have BX : Hid (Blok (w.alloc (.cells #[.func (.func l) la lb, .func (.func s) #[] sb] 73)) w.heap.size 73 #[.func (.func l) la lb, .func (.func s) #[] sb]) := Lib.hid (Blok.new _ _ _)
  have GX : Hid (w.grownBy (w.alloc (.cells #[.func (.func l) la lb, .func (.func s) #[] sb] 73)) none) := Lib.hid (World.grownBy_alloc _ _ _)
  have hsz : (w.alloc (.cells #[.func (.func l) la lb, .func (.func s) #[] sb] 73)).heap.size = w.heap.size + 1 := by simp
  obtain ⟨L, hL⟩ : ∃ L, b = a + L := ⟨b - a, by omega⟩
  obtain ⟨q, hq⟩ : ∃ q, L / 4 = q := ⟨_, rfl⟩
  obtain ⟨M, hM⟩ : ∃ M, 1 <<< bitsLen L = M := ⟨_, rfl⟩
  have hm := S.most
  have hMp : M = 2 ^ bitsLen L := by rw [← hM, Nat.shiftLeft_eq, Nat.one_mul]
  have hM0 : 0 < M := by rw [hMp]; exact Nat.two_pow_pos _
  have hM2 : M ≤ 2 * L := by rw [hMp]; exact two_pow_bitsLen_le (by omega)
  obtain ⟨w1, hw1⟩ : ∃ w1, (w.alloc (.cells #[.func (.func l) la lb, .func (.func s) #[] sb] 73)).alloc (.cells #[.int .u64 (L : Nat)] 89) = w1 := ⟨_, rfl⟩
  have G1 : Hid (w.grownBy w1 (some g)) := Lib.hid (by rw [← hw1]; exact (grown_none GX.out).trans (World.grownBy_alloc _ _ _))
  have B1 : Hid (Blok w1 w.heap.size 73 #[.func (.func l) la lb, .func (.func s) #[] sb]) := Lib.hid (by rw [← hw1]; exact BX.out.alloc _)
  have P1 : Hid (Blok w1 (w.heap.size + 1) 89 #[.int .u64 (((UInt64.ofNat L).toNat : Nat) : Int)]) := Lib.hid (by
    rw [← hw1, ← hsz, show (UInt64.ofNat L).toNat = L by rw [UInt64.toNat_ofNat']; exact Nat.mod_eq_of_lt (by omega)]; exact Blok.new _ _ _)
  have H1 : Hid (Sw d w1) := Lib.hid (by rw [← hw1]; exact S.keep (S.keep h GX.out (by simp)) (World.grownBy_alloc _ _ none) (by simp))
  have hgw := S.inb h
  have SS := Lib.hid S
  have hg : w.heap.size + 1 ≠ g := by omega
  have hLi : (b : Int) - (a : Int) = (L : Int) := by omega
  have hqi : (L : Int) / 4 = (q : Int) := by omega
  have HR : Hid (brk a L M 3 (a + q * 2 - 1) (UInt64.ofNat L, d) = breakPatterns d a b) := Lib.hid (break_eq (by omega) (by omega) hq hM).symm
  have d8 : decide ((8 : Int) ≤ (L : Int)) = true := by simp; omega
  have hq1 : 2 ≤ q := by omega
  have hq2 : q * 2 + 1 < L := by omega
  have hbL : a + L ≤ n := by omega
  have wL : IntKind.u64.wrap (L : Int) = L := by simp [IntKind.wrap, IntKind.bits, IntKind.signed]; omega
  have hp := pow_any L w1 (by omega)
  rw [hM] at hp
  have HL := Lib.hid hL
  have HQ := Lib.hid hq
  have HMp := Lib.hid hMp
  clear h S hL hq hM hMp GX BX hsz
  have hL8 : 8 ≤ L := by omega
  go_enter Try.func57, Try.ntmps57
  go_wp2_with fail
  refine hp.mono ?_
  rintro e w2 ⟨rfl, rfl⟩
  clear hp
  go_wp2_with fail
  go_loopw [9] (fun i wr => ∃ (t : Nat) (R : UInt64) (dk : Array α), i = .int .i64 ((a + q * 2 - 1 + t : Nat) : Int) ∧ t ≤ 3 ∧ Hid (brk a L M (3 - t) (a + q * 2 - 1 + t) (R, dk) = breakPatterns d a b) ∧ Hid (Sw dk wr) ∧ Hid (Blok wr (w.heap.size + 1) 89 #[.int .u64 ((R.toNat : Nat) : Int)]) ∧ Hid (Blok wr w.heap.size 73 #[.func (.func l) la lb, .func (.func s) #[] sb]) ∧ Hid (w.grownBy wr (some g))) (fun i _ => (a + q * 2 + 2 - intOf i).toNat)
  case atStart => exact ⟨0, UInt64.ofNat L, d, by go_num, by omega, HR, H1, P1, B1, G1⟩
  case round =>
    obtain ⟨t, R, dk, rfl, ht3, HO, HS, HP, HB, HG⟩ := hrel
    obtain ⟨I, hI⟩ : ∃ I, I = a + q * 2 - 1 + t := ⟨_, rfl⟩
    rw [← hI]
    have hIi : (I : Int) = a + q * 2 - 1 + t := by omega
    have hI2 : a + 1 ≤ I ∧ I ≤ a + q * 2 + 2 := by omega
    have HI := Lib.hid hI
    have HIi := Lib.hid hIi
    clear hIi hI
    by_cases hlt : t < 3
    · have d1 : decide ((I : Int) ≤ a + q * 2 + 1) = true := by have := HIi.out; simp; omega
      have hX : R.toNat < 18446744073709551616 := R.toNat_lt
      obtain ⟨X, hXx⟩ : ∃ X, xorNextN R.toNat = X := ⟨_, rfl⟩
      have hX2 : X < 18446744073709551616 := by rw [← hXx]; exact xorNextN_lt _ hX
      have hn := next_any (w.heap.size + 1) R.toNat wr hX (HP.out.cell 0) (HP.out.frozen 0)
      rw [hXx] at hn
      obtain ⟨w3, hw3⟩ : ∃ w3, (wr.setCell ⟨w.heap.size + 1, 0, none⟩ (.int .u64 (X : Nat))).drewN 3 = w3 := ⟨_, rfl⟩
      rw [hw3] at hn
      have g3 : wr.grownBy w3 (some (w.heap.size + 1)) := by rw [← hw3]; exact (grown_set _ _ _ _).trans (grown_drewN _ _ _)
      have HS3 := Lib.hid (SS.out.keep HS.out g3 (by simpa using Ne.symm hg))
      have HB3 := Lib.hid (HB.out.grown g3 (by simp))
      have HP3 : Hid (Blok w3 (w.heap.size + 1) 89 #[.int .u64 (X : Nat)]) := Lib.hid (by rw [← hw3]; simpa using (HP.out.set 0 (.int .u64 (X : Nat))).drewN 3)
      have HG3 : Hid (w.grownBy w3 (some g)) := Lib.hid (HG.out.andThen g3 (fun j hj => .inl (by cases hj; exact Nat.le_succ _)))
      have HX := Lib.hid hXx
      clear g3 hw3 hXx hX
      have c0 := HB3.out.at0
      have c1 := HB3.out.at1
      obtain ⟨O, hO⟩ : ∃ O, X &&& (M - 1) = O := ⟨_, rfl⟩
      have hOM : O ≤ M - 1 := by rw [← hO]; exact Nat.and_le_right
      have eAnd : bits .and .u64 (X : Int) ((M : Int) - 1) = (O : Int) := by
        rw [show ((M : Int) - 1) = ((M - 1 : Nat) : Int) by omega, bits_and_u64_nat _ _ hX2 (by omega), hO]
      have HOO : Hid (∀ o, o = (if O ≥ L then O - L else O) → oth L M (xorNextN R.toNat) = o) := Lib.hid (fun o ho => by unfold oth; rw [HX.out, hO, ho])
      clear hO
      by_cases hLO : L ≤ O
      · have dO : decide ((L : Int) ≤ O) = true := by simp; omega
        obtain ⟨w5, hr, HS5, HG5⟩ := SS.out.swap I (a + (O - L)) HS3.out (by omega) (by omega)
        rw [show ((a + (O - L) : Nat) : Int) = (a : Int) + ((O : Int) - L) by omega] at hr
        have HS5 := Lib.hid HS5
        have HG6 := Lib.hid (HG3.out.trans HG5)
        have HB6 := Lib.hid (HB3.out.grown HG5 (by simp; omega))
        have HP6 := Lib.hid (HP3.out.grown HG5 (by simp; omega))
        clear HG5
        have HO6 : Hid (brk a L M (3 - (t + 1)) (a + q * 2 - 1 + (t + 1)) (xorNext R, swp dk I (a + (O - L))) = breakPatterns d a b) := Lib.hid (by
          rw [← HO.out, show 3 - t = (3 - (t + 1)) + 1 by omega, brk_step, HOO.out (O - L) (by rw [if_pos hLO]), ← HI.out, show a + q * 2 - 1 + (t + 1) = I + 1 by have := HI.out; omega])
        go_wp2_with fail
        refine hn.mono ?_
        rintro e w4 ⟨rfl, rfl⟩
        clear hn
        go_wp2
        go_roundw
        case rel => exact ⟨t + 1, xorNext R, swp dk I (a + (O - L)), by have := HI.out; go_num, by omega, HO6, HS5, by rw [xorNext_toNat, HX.out]; exact HP6, HB6, HG6⟩
        case measure => have := HI.out; simp [intOf] <;> omega
      · have dO : decide ((L : Int) ≤ O) = false := by simp; omega
        obtain ⟨w5, hr, HS5, HG5⟩ := SS.out.swap I (a + (O)) HS3.out (by omega) (by omega)
        rw [show ((a + (O) : Nat) : Int) = (a : Int) + (O : Int) by omega] at hr
        have HS5 := Lib.hid HS5
        have HG6 := Lib.hid (HG3.out.trans HG5)
        have HB6 := Lib.hid (HB3.out.grown HG5 (by simp; omega))
        have HP6 := Lib.hid (HP3.out.grown HG5 (by simp; omega))
        clear HG5
        have HO6 : Hid (brk a L M (3 - (t + 1)) (a + q * 2 - 1 + (t + 1)) (xorNext R, swp dk I (a + (O))) = breakPatterns d a b) := Lib.hid (by
          rw [← HO.out, show 3 - t = (3 - (t + 1)) + 1 by omega, brk_step, HOO.out O (by rw [if_neg hLO]), ← HI.out, show a + q * 2 - 1 + (t + 1) = I + 1 by have := HI.out; omega])
        go_wp2_with fail
        refine hn.mono ?_
        rintro e w4 ⟨rfl, rfl⟩
        clear hn
        go_wp2
        go_roundw
        case rel => exact ⟨t + 1, xorNext R, swp dk I (a + (O)), by have := HI.out; go_num, by omega, HO6, HS5, by rw [xorNext_toNat, HX.out]; exact HP6, HB6, HG6⟩
        case measure => have := HI.out; simp [intOf] <;> omega
    · have d1 : decide ((I : Int) ≤ a + q * 2 + 1) = false := by have := HIi.out; simp; omega
      have HE : Hid (dk = breakPatterns d a b) := Lib.hid (by rw [← HO.out, show 3 - t = 0 by omega]; rfl)
      go_wp2
      go_end0
      exact ⟨rfl, Lib.hid (by rw [← HE.out]; exact HS.out), HG⟩
end Go.Proofs.Ytmegkfonodcoiaa
