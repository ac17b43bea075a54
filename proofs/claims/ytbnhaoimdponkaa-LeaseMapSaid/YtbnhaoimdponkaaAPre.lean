/-
  Walks of moorings/addr.isAddress, May, Size, Nth, Index, Meet, at every prefix.
-/
import Derived.Test.YtbnhaoimdponkaaBlok
import Derived.Lib.QuietBelow
namespace Go.Proofs.Ytbnhaoimdponkaa
open Go.RowKit

/-- How many addresses a prefix of k Bits has, if it may be. -/
def A.sz (k : Int) : Int := ((2 ^ (32 - k).toNat : Nat) : Int)
def A.may (b k : Int) : Bool := decide (0 ≤ k ∧ k ≤ 32 ∧ 0 ≤ b ∧ b < 4294967296 ∧ b % A.sz k = 0)
def A.size (b k : Int) : Int := if A.may b k then A.sz k else 0
theorem A.sz_pos (k : Int) : 0 < A.sz k := by unfold A.sz; exact Int.natCast_pos.2 (Nat.two_pow_pos _)
theorem A.sz_cases {k : Int} (h0 : 0 ≤ k) (h1 : k ≤ 32) : ∃ j : Nat, k = j ∧ j ≤ 32 ∧ A.sz k = ((2 ^ (32 - j) : Nat) : Int) ∧ A.sz k ≤ 4294967296 := by
  refine ⟨k.toNat, by omega, by omega, ?_, ?_⟩
  · unfold A.sz; rw [show (32 - k).toNat = 32 - k.toNat by omega]
  · unfold A.sz
    have : 2 ^ (32 - k).toNat ≤ 2 ^ 32 := Nat.pow_le_pow_right (by decide) (by omega)
    have h2 : (2 : Nat) ^ 32 = 4294967296 := by decide
    omega

/-- What the walk reckons of 1 << (32 - k). -/
theorem A.shl_of {k : Int} (h0 : 0 ≤ k) (h1 : k ≤ 32) : ∃ m q : Nat, IntKind.i64.wrap (32 - k) = m ∧ A.sz k = q ∧ IntKind.i64.wrap (2 ^ min m 64) = (q : Int) ∧ ¬ (q : Int) = 0 ∧ ¬ q = 0 := by
  have h : 2 ^ (32 - k).toNat ≤ 2 ^ 32 := Nat.pow_le_pow_right (by decide) (by omega)
  have hp := Nat.two_pow_pos (32 - k).toNat
  refine ⟨(32 - k).toNat, 2 ^ (32 - k).toNat, ?_, rfl, ?_, by omega, by omega⟩
  · rw [IntWalk.i64_in _ (by omega)]; omega
  · rw [show min (32 - k).toNat 64 = (32 - k).toNat by omega]
    have e : ((2 : Int) ^ (32 - k).toNat) = ((2 ^ (32 - k).toNat : Nat) : Int) := by simp
    rw [e]
    generalize 2 ^ (32 - k).toNat = q at h
    have h2 : (2 : Nat) ^ 32 = 4294967296 := by decide
    exact IntWalk.i64_in _ (by omega)
theorem A.rem_of {b r : Int} {q : Nat} (h0 : 0 ≤ b) (h1 : b < 4294967296) (hr : b % (q : Int) = r) : Int.tmod b q = r ∧ IntKind.i64.wrap r = r := by
  rw [Int.tmod_eq_emod_of_nonneg h0, hr]
  refine ⟨rfl, IntWalk.i64_in _ ?_⟩
  obtain ⟨n, rfl⟩ := Int.eq_ofNat_of_zero_le h0
  have := Nat.mod_le n q
  rw [← Int.natCast_emod] at hr
  omega

/-- A world behind the box of a prefix. -/
def pbox (w : World) (b k : Int) : World := w.alloc (.cells #[.int .i64 b, .int .i64 k] 38)
theorem pbox_below (w : World) (b k : Int) : Below w.heap.size w (pbox w b k) := (Below.refl _ w).alloc (Nat.le_refl _) _

theorem isAddress_any (a : Int) (d : Bool) (w : World) (h : decide (0 ≤ a ∧ a < 4294967296) = d) :
    Calls Try.prog 95 #[.int .i64 a] w fun e w' => e = .returned (.bool d) ∧ w = w' := by
  have HB := Lib.hid h
  clear h
  by_cases h1 : 0 ≤ a
  · have HB2 : Hid (d = decide (a < 4294967296)) := Lib.hid (by rw [← HB.out]; simp [h1])
    go_enter Try.func95, Try.ntmps95
    go_wp2
    go_ret
    exact ⟨by rw [HB2.out]; rfl, rfl⟩
  · have HB2 : Hid (d = false) := Lib.hid (by rw [← HB.out]; simp [h1])
    have h2 : decide (0 ≤ a) = false := by simp [h1]
    go_enter Try.func95, Try.ntmps95
    go_wp2
    go_ret
    exact ⟨by rw [HB2.out]; rfl, rfl⟩

set_option maxHeartbeats 400000 in
theorem may_any (b k : Int) (d : Bool) (w : World) (h : A.may b k = d) :
    Calls Try.prog 67 #[.agg #[.int .i64 b, .int .i64 k]] w fun e w' => e = .returned (.bool d) ∧ Below w.heap.size w w' := by
  have HB := Lib.hid h
  have HBX := Lib.hid (pbox_below w b k)
  clear h
  by_cases h0 : 0 ≤ k
  · have d0 : decide (0 ≤ k) = true := by simp [h0]
    by_cases h1 : k ≤ 32
    · have d1 : decide (k ≤ 32) = true := by simp [h1]
      go_enter Try.func67, Try.ntmps67
      by_cases h2 : 0 ≤ b ∧ b < 4294967296
      · have hA := isAddress_any b true
        obtain ⟨m, q, hm, hsz, hsh, hq0, hq1⟩ := A.shl_of h0 h1
        obtain ⟨r, hr⟩ : ∃ r : Int, b % (q : Int) = r := ⟨_, rfl⟩
        obtain ⟨hr1, hr2⟩ := A.rem_of h2.1 h2.2 hr
        have HF : Hid (d = decide (r = 0)) := Lib.hid (by rw [← HB.out, Bool.eq_iff_iff]; unfold A.may; rw [decide_eq_true_iff, decide_eq_true_iff, hsz, hr]; exact ⟨fun h => h.2.2.2.2, fun h => ⟨h0, h1, h2.1, h2.2, h⟩⟩)
        go_wp2_with fail
        go_quiet ((go_at_call 95; exact Calls.quiet_of_same ((hA _ (by simpa using h2)).mono fun e w' h => ⟨h.1, h.2.symm⟩)))
        go_wp2
        go_ret
        exact ⟨by rw [HF.out]; rfl, HBX.out.trans ((below_drewN _ _ _).mono HBX.out.size)⟩
      · have hA := isAddress_any b false
        have HF : Hid (d = false) := Lib.hid (by rw [← HB.out]; exact decide_eq_false (fun h => h2 ⟨h.2.2.1, h.2.2.2.1⟩))
        go_wp2_with fail
        go_quiet ((go_at_call 95; exact Calls.quiet_of_same ((hA _ (by simpa using h2)).mono fun e w' h => ⟨h.1, h.2.symm⟩)))
        go_wp2
        go_ret
        exact ⟨by rw [HF.out]; rfl, HBX.out.trans ((below_drewN _ _ _).mono HBX.out.size)⟩
    · have HF : Hid (d = false) := Lib.hid (by rw [← HB.out]; exact decide_eq_false (fun h => h1 h.2.1))
      have d1 : decide (k ≤ 32) = false := by simp; omega
      go_enter Try.func67, Try.ntmps67
      go_wp2_with fail
      go_quiet (fail)
      go_wp2
      go_ret
      exact ⟨by rw [HF.out]; rfl, HBX.out.trans ((below_drewN _ _ _).mono HBX.out.size)⟩
  · have HF : Hid (d = false) := Lib.hid (by rw [← HB.out]; exact decide_eq_false (fun h => h0 h.1))
    have d0 : decide (0 ≤ k) = false := by simp; omega
    go_enter Try.func67, Try.ntmps67
    go_wp2_with fail
    go_quiet (fail)
    go_wp2
    go_ret
    exact ⟨by rw [HF.out]; rfl, HBX.out.trans ((below_drewN _ _ _).mono HBX.out.size)⟩

theorem pbox_size (w : World) (b k : Int) : (pbox w b k).heap.size = w.heap.size + 1 := by simp [pbox]
theorem pbox_blok (w : World) (b k : Int) : Blok (pbox w b k) w.heap.size 38 #[.int .i64 b, .int .i64 k] := Blok.new w _ _
theorem pb0 {w : World} {g : Nat} {b k : Int} (h : Blok w g 38 #[.int .i64 b, .int .i64 k]) : w.cell? ⟨g, 0, none⟩ = some (.int .i64 b) := h.cell 0
theorem pb1 {w : World} {g : Nat} {b k : Int} (h : Blok w g 38 #[.int .i64 b, .int .i64 k]) : w.cell? ⟨g, 1, none⟩ = some (.int .i64 k) := h.cell 1
theorem A.may_bits {b k : Int} (h : A.may b k = true) : (0 ≤ k ∧ k ≤ 32) ∧ 0 ≤ b ∧ b < 4294967296 := by
  have := of_decide_eq_true h
  exact ⟨⟨this.1, this.2.1⟩, this.2.2.1, this.2.2.2.1⟩

set_option maxHeartbeats 400000 in
theorem size_any (b k s : Int) (w : World) (h : A.size b k = s) :
    Calls Try.prog 97 #[.agg #[.int .i64 b, .int .i64 k]] w fun e w' => e = .returned (.int .i64 s) ∧ Below w.heap.size w w' := by
  have HB := Lib.hid h
  have HBX := Lib.hid (pbox_below w b k)
  have HBL := Lib.hid (pbox_blok w b k)
  clear h
  cases hd : A.may b k
  · have HF : Hid (s = 0) := Lib.hid (by rw [← HB.out]; unfold A.size; rw [hd]; rfl)
    have hm := may_any b k false (pbox w b k) hd
    clear hd
    go_enter Try.func97, Try.ntmps97
    go_wp2_with fail
    refine hm.mono ?_
    rintro e w1 ⟨rfl, hb1⟩
    go_wp2
    go_ret
    exact ⟨by rw [HF.out]; rfl, HBX.out.trans (hb1.mono (pbox_below w b k).size)⟩
  · obtain ⟨⟨h0, h1⟩, -⟩ := A.may_bits hd
    obtain ⟨m, q, hm1, hsz, hsh, -, -⟩ := A.shl_of h0 h1
    have HF : Hid (s = q) := Lib.hid (by rw [← HB.out]; unfold A.size; rw [hd, if_pos rfl, hsz])
    have hm := may_any b k true (pbox w b k) hd
    clear hd
    go_enter Try.func97, Try.ntmps97
    go_wp2_with fail
    refine hm.mono ?_
    rintro e w1 ⟨rfl, hb1⟩
    have k1 := pb1 (HBL.out.below hb1 (pbox_blok w b k).lt)
    have HB1 := Lib.hid (HBX.out.trans (hb1.mono HBX.out.size))
    clear hb1
    go_wp2
    go_ret
    exact ⟨by rw [HF.out]; rfl, HB1.out⟩

theorem A.size_le {b k : Int} : A.size b k = 0 ∨ (A.may b k = true ∧ 0 ≤ b ∧ b < 4294967296 ∧ 0 < A.size b k ∧ A.size b k ≤ 4294967296) := by
  cases h : A.may b k
  · exact .inl (by unfold A.size; rw [h]; rfl)
  · obtain ⟨⟨h0, h1⟩, h2⟩ := A.may_bits h
    obtain ⟨_, _, _, _, h3⟩ := A.sz_cases h0 h1
    have := A.sz_pos k
    have e : A.size b k = A.sz k := by unfold A.size; rw [h, if_pos rfl]
    exact .inr ⟨rfl, h2.1, h2.2, by omega, by omega⟩
theorem A.size_pos {b k : Int} (h : 0 < A.size b k) : A.may b k = true ∧ 0 ≤ b ∧ b < 4294967296 ∧ A.size b k ≤ 4294967296 := by
  rcases A.size_le (b := b) (k := k) with h1 | h1
  · omega
  · exact ⟨h1.1, h1.2.1, h1.2.2.1, h1.2.2.2.2⟩
theorem A.size_nat (b k : Int) : ∃ q : Nat, A.size b k = q := by
  rcases A.size_le (b := b) (k := k) with h1 | h1
  · exact ⟨0, h1⟩
  · exact ⟨(A.size b k).toNat, by omega⟩

def A.idx (b k a : Int) : Int := if A.may b k = true ∧ b ≤ a ∧ a - b < A.size b k then a - b else -1

set_option maxHeartbeats 400000 in
theorem idx_any (b k a v : Int) (w : World) (hv : A.idx b k a = v) (ha : a ≤ 9223372036854775807) :
    Calls Try.prog 96 #[.agg #[.int .i64 b, .int .i64 k], .int .i64 a] w fun e w' => e = .returned (.int .i64 v) ∧ Below w.heap.size w w' := by
  have HV := Lib.hid hv
  have HBX := Lib.hid (pbox_below w b k)
  have HBL := Lib.hid (pbox_blok w b k)
  have c0 : ∀ d os, (Go.Sort.grow (redrawn (w.alloc (.cells #[.int .i64 b, .int .i64 k] 38)) d) os).cell? ⟨w.heap.size, 0, none⟩ = some (.int .i64 b) := fun d os => cell_regrown (pb0 (pbox_blok w b k)) d os
  have c1 : ∀ d os, (Go.Sort.grow (redrawn (w.alloc (.cells #[.int .i64 b, .int .i64 k] 38)) d) os).cell? ⟨w.heap.size, 1, none⟩ = some (.int .i64 k) := fun d os => cell_regrown (pb1 (pbox_blok w b k)) d os
  clear hv
  have hmay := may_any b k
  cases hd : A.may b k
  · have HF : Hid (v = -1) := Lib.hid (by rw [← HV.out]; unfold A.idx; rw [hd]; rfl)
    go_enter Try.func96, Try.ntmps96
    go_wp2_with fail
    refine wp_region_quiet_below (by kernel_rfl) (by kernel_rfl) ?_
    repeat (go_big_quiet_step (exact Calls.regrown_of (hmay false _ hd)))
    refine wpQuiet_nil ?_
    intro _ hw'
    obtain ⟨⟨dq, osq⟩, hw''⟩ := hw'
    subst hw''
    go_wp2
    go_ret
    exact ⟨by rw [HF.out]; rfl, HBX.out.trans ((below_regrown _ dq osq).mono HBX.out.size)⟩
  · obtain ⟨q, hq⟩ := A.size_nat b k
    obtain ⟨-, g0, g1⟩ := A.may_bits hd
    have hs := size_any b k q
    by_cases h1 : a < b
    · have d1 : decide (a < b) = true := by simp [h1]
      have HF : Hid (v = -1) := Lib.hid (by rw [← HV.out]; unfold A.idx; rw [if_neg (by omega)])
      go_enter Try.func96, Try.ntmps96
      go_wp2_with fail
      refine wp_region_quiet_below (by kernel_rfl) (by kernel_rfl) ?_
      repeat (go_big_quiet_step (exact Calls.regrown_of (hmay true _ hd)))
      refine wpQuiet_nil ?_
      intro _ hw'
      obtain ⟨⟨dq, osq⟩, hw''⟩ := hw'
      subst hw''
      go_wp2
      go_ret
      exact ⟨by rw [HF.out]; rfl, HBX.out.trans ((below_regrown _ dq osq).mono HBX.out.size)⟩
    · have d1 : decide (a < b) = false := by simp; omega
      have hw : IntKind.i64.wrap (a - b) = a - b := IntWalk.i64_in _ (by omega)
      by_cases h2 : a - b < (q : Int)
      · have d2 : decide ((q : Int) ≤ a - b) = false := by simp; omega
        have HF : Hid (v = a - b) := Lib.hid (by rw [← HV.out]; unfold A.idx; rw [if_pos ⟨hd, by omega, by omega⟩])
        go_enter Try.func96, Try.ntmps96
        go_wp2_with fail
        refine wp_region_quiet_below (by kernel_rfl) (by kernel_rfl) ?_
        repeat (go_big_quiet_step (first | exact Calls.regrown_of (hmay true _ hd) | exact Calls.regrown_of (hs _ hq)))
        refine wpQuiet_nil ?_
        intro _ hw'
        obtain ⟨⟨dq, osq⟩, hw''⟩ := hw'
        subst hw''
        go_wp2
        go_ret
        exact ⟨by rw [HF.out]; rfl, HBX.out.trans ((below_regrown _ dq osq).mono HBX.out.size)⟩
      · have d2 : decide ((q : Int) ≤ a - b) = true := by simp; omega
        have HF : Hid (v = -1) := Lib.hid (by rw [← HV.out]; unfold A.idx; rw [if_neg (by omega)])
        go_enter Try.func96, Try.ntmps96
        go_wp2_with fail
        refine wp_region_quiet_below (by kernel_rfl) (by kernel_rfl) ?_
        repeat (go_big_quiet_step (first | exact Calls.regrown_of (hmay true _ hd) | exact Calls.regrown_of (hs _ hq)))
        refine wpQuiet_nil ?_
        intro _ hw'
        obtain ⟨⟨dq, osq⟩, hw''⟩ := hw'
        subst hw''
        go_wp2
        go_ret
        exact ⟨by rw [HF.out]; rfl, HBX.out.trans ((below_regrown _ dq osq).mono HBX.out.size)⟩

def A.meet (b k c j : Int) : Bool := A.may b k && A.may c j && (decide (0 ≤ A.idx b k c) || decide (0 ≤ A.idx c j b))
/-- A world behind the boxes of two prefixes. -/
def pbox2 (w : World) (b k c j : Int) : World := pbox (pbox w b k) c j
theorem pbox2_below (w : World) (b k c j : Int) : Below w.heap.size w (pbox2 w b k c j) := (pbox_below w b k).trans ((pbox_below _ c j).mono (pbox_below w b k).size)
theorem pbox2_size (w : World) (b k c j : Int) : (pbox2 w b k c j).heap.size = w.heap.size + 2 := by simp [pbox2, pbox]
theorem pbox2_a (w : World) (b k c j : Int) : Blok (pbox2 w b k c j) w.heap.size 38 #[.int .i64 b, .int .i64 k] := (pbox_blok w b k).alloc _
theorem pbox2_b (w : World) (b k c j : Int) : Blok (pbox2 w b k c j) (w.heap.size + 1) 38 #[.int .i64 c, .int .i64 j] := by
  have := pbox_blok (pbox w b k) c j
  rwa [pbox_size] at this

set_option maxHeartbeats 800000 in
theorem meet_any (b k c j : Int) (d : Bool) (w : World) (hd : A.meet b k c j = d) (hb : b ≤ 9223372036854775807) (hc : c ≤ 9223372036854775807) :
    Calls Try.prog 69 #[.agg #[.int .i64 b, .int .i64 k], .agg #[.int .i64 c, .int .i64 j]] w fun e w' => e = .returned (.bool d) ∧ Below w.heap.size w w' := by
  have HD := Lib.hid hd
  have HB := Lib.hid (pbox2_below w b k c j)
  have HA := Lib.hid (pbox2_a w b k c j)
  have HC := Lib.hid (pbox2_b w b k c j)
  clear hd
  cases h1 : A.may b k
  · have HF : Hid (d = false) := Lib.hid (by rw [← HD.out]; unfold A.meet; rw [h1]; rfl)
    have hm := may_any b k false (pbox2 w b k c j) h1
    go_enter Try.func69, Try.ntmps69
    go_wp2_with fail
    refine hm.mono ?_
    rintro e w1 ⟨rfl, hb1⟩
    go_wp2
    go_ret
    exact ⟨by rw [HF.out]; rfl, HB.out.trans (hb1.mono HB.out.size)⟩
  · have hm := may_any b k true (pbox2 w b k c j) h1
    go_enter Try.func69, Try.ntmps69
    go_wp2_with fail
    refine hm.mono ?_
    rintro e w1 ⟨rfl, hb1⟩
    have k0 := pb0 (HA.out.below hb1 HA.out.lt)
    have k1 := pb1 (HA.out.below hb1 HA.out.lt)
    have j0 := pb0 (HC.out.below hb1 HC.out.lt)
    have j1 := pb1 (HC.out.below hb1 HC.out.lt)
    have HA1 := Lib.hid (HA.out.below hb1 HA.out.lt)
    have HC1 := Lib.hid (HC.out.below hb1 HC.out.lt)
    have HB1 := Lib.hid (HB.out.trans (hb1.mono HB.out.size))
    clear hb1 hm
    cases h2 : A.may c j
    · have HF : Hid (d = false) := Lib.hid (by rw [← HD.out]; unfold A.meet; rw [h1, h2]; rfl)
      go_wp2_with fail
      refine (may_any c j false w1 h2).mono ?_
      rintro e w2 ⟨rfl, hb2⟩
      go_wp2
      go_ret
      exact ⟨by rw [HF.out]; rfl, HB1.out.trans (hb2.mono HB1.out.size)⟩
    · go_wp2_with fail
      refine (may_any c j true w1 h2).mono ?_
      rintro e w2 ⟨rfl, hb2⟩
      have k0' := pb0 (HA1.out.below hb2 HA1.out.lt)
      have k1' := pb1 (HA1.out.below hb2 HA1.out.lt)
      have j0' := pb0 (HC1.out.below hb2 HC1.out.lt)
      have j1' := pb1 (HC1.out.below hb2 HC1.out.lt)
      have HA2 := Lib.hid (HA1.out.below hb2 HA1.out.lt)
      have HC2 := Lib.hid (HC1.out.below hb2 HC1.out.lt)
      have HB2 := Lib.hid (HB1.out.trans (hb2.mono HB1.out.size))
      clear hb2 k0 k1 j0 j1
      obtain ⟨x, hx⟩ : ∃ x, A.idx b k c = x := ⟨_, rfl⟩
      have HD2 : Hid (d = (decide (0 ≤ x) || decide (0 ≤ A.idx c j b))) := Lib.hid (by rw [← HD.out]; unfold A.meet; rw [h1, h2, hx]; rfl)
      go_wp2_with fail
      refine (idx_any b k c x w2 hx hc).mono ?_
      rintro e w3 ⟨rfl, hb3⟩
      have k0 := pb0 (HA2.out.below hb3 HA2.out.lt)
      have k1 := pb1 (HA2.out.below hb3 HA2.out.lt)
      have j0 := pb0 (HC2.out.below hb3 HC2.out.lt)
      have j1 := pb1 (HC2.out.below hb3 HC2.out.lt)
      have HB3 := Lib.hid (HB2.out.trans (hb3.mono HB2.out.size))
      clear hb3 k0' k1' j0' j1'
      by_cases h3 : 0 ≤ x
      · have HF : Hid (d = true) := Lib.hid (by rw [HD2.out, decide_eq_true h3]; rfl)
        have d3 : decide (0 ≤ x) = true := decide_eq_true h3
        go_wp2
        go_ret
        exact ⟨by rw [HF.out]; rfl, HB3.out⟩
      · have d3 : decide (0 ≤ x) = false := decide_eq_false h3
        obtain ⟨y, hy⟩ : ∃ y, A.idx c j b = y := ⟨_, rfl⟩
        have HF : Hid (d = decide (0 ≤ y)) := Lib.hid (by rw [HD2.out, d3, hy]; rfl)
        go_wp2_with fail
        refine (idx_any c j b y w3 hy hb).mono ?_
        rintro e w4 ⟨rfl, hb4⟩
        go_wp2
        go_ret
        exact ⟨by rw [HF.out]; rfl, HB3.out.trans (hb4.mono HB3.out.size)⟩
end Go.Proofs.Ytbnhaoimdponkaa
