import Derived.Lib.QuietBelow
import Derived.BigQuiet
import Derived.Deep.QuietTactic
import Derived.Test.YtnbkkjcmblfhpaaGreatP0
namespace Go.Proofs.YtnbkkjcmblfhpaaGreat
set_option maxHeartbeats 800000
open Go.RowKit
def A.sz (k : Int) : Int := ((2 ^ (32 - k).toNat : Nat) : Int)
def A.may (b k : Int) : Bool := decide (0 <= k /\ k <= 32 /\ 0 <= b /\ b < 4294967296 /\ b % A.sz k = 0)
def A.size (b k : Int) : Int := if A.may b k then A.sz k else 0
theorem A.sz_pos (k : Int) : 0 < A.sz k := by unfold A.sz; exact Int.natCast_pos.2 (Nat.two_pow_pos _)
theorem A.sz_cases {k : Int} (h0 : 0 <= k) (h1 : k <= 32) : ∃ j : Nat, k = j /\ j <= 32 /\ A.sz k = ((2 ^ (32 - j) : Nat) : Int) /\ A.sz k <= 4294967296 := by
 refine ⟨k.toNat, by omega, by omega, ?_, ?_⟩
 ·unfold A.sz; rw [show (32 - k).toNat = 32 - k.toNat by omega]
 ·unfold A.sz
  have : 2 ^ (32 - k).toNat <= 2 ^ 32 := Nat.pow_le_pow_right (by decide) (by omega)
  have h2 : (2 : Nat) ^ 32 = 4294967296 := by decide
  omega
theorem A.shl_of {k : Int} (h0 : 0 <= k) (h1 : k <= 32) : ∃ m q : Nat, IntKind.i64.wrap (32 - k) = m /\ A.sz k = q /\ IntKind.i64.wrap (2 ^ min m 64) = (q : Int) /\ ¬ (q : Int) = 0 /\ ¬ q = 0 := by
 have h : 2 ^ (32 - k).toNat <= 2 ^ 32 := Nat.pow_le_pow_right (by decide) (by omega)
 have hp := Nat.two_pow_pos (32 - k).toNat
 refine ⟨(32 - k).toNat, 2 ^ (32 - k).toNat, ?_, rfl, ?_, by omega, by omega⟩
 ·rw [IntWalk.i64_in _ (by omega)]; omega
 ·rw [show min (32 - k).toNat 64 = (32 - k).toNat by omega]
  have e : ((2 : Int) ^ (32 - k).toNat) = ((2 ^ (32 - k).toNat : Nat) : Int) := by simp
  rw [e]
  generalize 2 ^ (32 - k).toNat = q at h
  have h2 : (2 : Nat) ^ 32 = 4294967296 := by decide
  exact IntWalk.i64_in _ (by omega)
theorem A.rem_of {b r : Int} {q : Nat} (h0 : 0 <= b) (h1 : b < 4294967296) (hr : b % (q : Int) = r) : Int.tmod b q = r /\ IntKind.i64.wrap r = r := by
 rw [Int.tmod_eq_emod_of_nonneg h0, hr]
 refine ⟨rfl, IntWalk.i64_in _ ?_⟩
 obtain ⟨n, rfl⟩ := Int.eq_ofNat_of_zero_le h0
 have := Nat.mod_le n q
 rw [<- Int.natCast_emod] at hr
 omega
def pbox (w : World) (b k : Int) : World := w.alloc (.cells #[.int .i64 b, .int .i64 k] 28)
theorem zbg (w : World) (b k : Int) : Below w.heap.size w (pbox w b k) := (Below.refl _ w).alloc (Nat.le_refl _) _
theorem zcl (a : Int) (d : Bool) (w : World) (h : decide (0 <= a /\ a < 4294967296) = d) :
  Calls Tryz.prog 251 #[.int .i64 a] w fun e w' => e = .returned (.bool d) /\ w = w' := by
 have HB := Zh h
 clear h
 by_cases h1 : 0 <= a
 ·have HB2 : Hid (d = decide (a < 4294967296)) := Zh (by rw [<- HB.out]; simp [h1])
  go_enter Tryz.func251, Tryz.ntmps251
  go_wp2
  go_ret
  exact ⟨by rw [HB2.out]; rfl, rfl⟩
 ·have HB2 : Hid (d = false) := Zh (by rw [<- HB.out]; simp [h1])
  have h2 : decide (0 <= a) = false := by simp [h1]
  go_enter Tryz.func251, Tryz.ntmps251
  go_wp2
  go_ret
  exact ⟨by rw [HB2.out]; rfl, rfl⟩
theorem za5 (b k : Int) (d : Bool) (w : World) (h : A.may b k = d) :
  Calls Tryz.prog 191 #[.agg #[.int .i64 b, .int .i64 k]] w fun e w' => e = .returned (.bool d) /\ Below w.heap.size w w' := by
 have HB := Zh h
 have HBX := Zh (zbg w b k)
 clear h
 by_cases h0 : 0 <= k
 ·have d0 : decide (0 <= k) = true := by simp [h0]
  by_cases h1 : k <= 32
  ·have d1 : decide (k <= 32) = true := by simp [h1]
   go_enter Tryz.func191, Tryz.ntmps191
   by_cases h2 : 0 <= b /\ b < 4294967296
   ·have hA := zcl b true
    obtain ⟨m, q, hm, hsz, hsh, hq0, hq1⟩ := A.shl_of h0 h1
    obtain ⟨r, hr⟩ : ∃ r : Int, b % (q : Int) = r := ⟨_, rfl⟩
    obtain ⟨hr1, hr2⟩ := A.rem_of h2.1 h2.2 hr
    have HF : Hid (d = decide (r = 0)) := Zh (by rw [<- HB.out, Bool.eq_iff_iff]; unfold A.may; rw [decide_eq_true_iff, decide_eq_true_iff, hsz, hr]; exact ⟨fun h => h.2.2.2.2, fun h => ⟨h0, h1, h2.1, h2.2, h⟩⟩)
    go_wp2_with fail
    go_quiet ((go_at_call 251; exact Calls.quiet_of_same ((hA _ (by simpa using h2)).mono fun e w' h => ⟨h.1, h.2.symm⟩)))
    go_wp2
    go_ret
    exact ⟨by rw [HF.out]; rfl, HBX.out.trans ((zad _ _ _).mono HBX.out.size)⟩
   ·have hA := zcl b false
    have HF : Hid (d = false) := Zh (by rw [<- HB.out]; exact decide_eq_false (fun h => h2 ⟨h.2.2.1, h.2.2.2.1⟩))
    go_wp2_with fail
    go_quiet ((go_at_call 251; exact Calls.quiet_of_same ((hA _ (by simpa using h2)).mono fun e w' h => ⟨h.1, h.2.symm⟩)))
    go_wp2
    go_ret
    exact ⟨by rw [HF.out]; rfl, HBX.out.trans ((zad _ _ _).mono HBX.out.size)⟩
  ·have HF : Hid (d = false) := Zh (by rw [<- HB.out]; exact decide_eq_false (fun h => h1 h.2.1))
   have d1 : decide (k <= 32) = false := by simp; omega
   go_enter Tryz.func191, Tryz.ntmps191
   go_wp2_with fail
   go_quiet (fail)
   go_wp2
   go_ret
   exact ⟨by rw [HF.out]; rfl, HBX.out.trans ((zad _ _ _).mono HBX.out.size)⟩
 ·have HF : Hid (d = false) := Zh (by rw [<- HB.out]; exact decide_eq_false (fun h => h0 h.1))
  have d0 : decide (0 <= k) = false := by simp; omega
  go_enter Tryz.func191, Tryz.ntmps191
  go_wp2_with fail
  go_quiet (fail)
  go_wp2
  go_ret
  exact ⟨by rw [HF.out]; rfl, HBX.out.trans ((zad _ _ _).mono HBX.out.size)⟩
theorem zh0 (w : World) (b k : Int) : (pbox w b k).heap.size = w.heap.size + 1 := by simp [pbox]
theorem zbp (w : World) (b k : Int) : Blok (pbox w b k) w.heap.size 28 #[.int .i64 b, .int .i64 k] := Blok.new w _ _
theorem pb0 {w : World} {g : Nat} {b k : Int} (h : Blok w g 28 #[.int .i64 b, .int .i64 k]) : w.cell? ⟨g, 0, none⟩ = some (.int .i64 b) := h.cell 0
theorem pb1 {w : World} {g : Nat} {b k : Int} (h : Blok w g 28 #[.int .i64 b, .int .i64 k]) : w.cell? ⟨g, 1, none⟩ = some (.int .i64 k) := h.cell 1
theorem A.may_bits {b k : Int} (h : A.may b k = true) : (0 <= k /\ k <= 32) /\ 0 <= b /\ b < 4294967296 := by
 have := of_decide_eq_true h
 exact ⟨⟨this.1, this.2.1⟩, this.2.2.1, this.2.2.2.1⟩
theorem zc8 (b k s : Int) (w : World) (h : A.size b k = s) :
  Calls Tryz.prog 208 #[.agg #[.int .i64 b, .int .i64 k]] w fun e w' => e = .returned (.int .i64 s) /\ Below w.heap.size w w' := by
 have HB := Zh h
 have HBX := Zh (zbg w b k)
 have HBL := Zh (zbp w b k)
 clear h
 cases hd : A.may b k
 ·have HF : Hid (s = 0) := Zh (by rw [<- HB.out]; unfold A.size; rw [hd]; rfl)
  have hm := za5 b k false (pbox w b k) hd
  clear hd
  go_enter Tryz.func208, Tryz.ntmps208
  go_wp2_with fail
  refine hm.mono ?_
  rintro e w1 ⟨rfl, hb1⟩
  go_wp2
  go_ret
  exact ⟨by rw [HF.out]; rfl, HBX.out.trans (hb1.mono (zbg w b k).size)⟩
 ·obtain ⟨⟨h0, h1⟩, -⟩ := A.may_bits hd
  obtain ⟨m, q, hm1, hsz, hsh, -, -⟩ := A.shl_of h0 h1
  have HF : Hid (s = q) := Zh (by rw [<- HB.out]; unfold A.size; rw [hd, if_pos rfl, hsz])
  have hm := za5 b k true (pbox w b k) hd
  clear hd
  go_enter Tryz.func208, Tryz.ntmps208
  go_wp2_with fail
  refine hm.mono ?_
  rintro e w1 ⟨rfl, hb1⟩
  have k1 := pb1 (HBL.out.below hb1 (zbp w b k).lt)
  have HB1 := Zt HBX hb1
  clear hb1
  go_wp2
  go_ret
  exact ⟨by rw [HF.out]; rfl, HB1.out⟩
theorem A.size_le {b k : Int} : A.size b k = 0 \/ (A.may b k = true /\ 0 <= b /\ b < 4294967296 /\ 0 < A.size b k /\ A.size b k <= 4294967296) := by
 cases h : A.may b k
 ·exact .inl (by unfold A.size; rw [h]; rfl)
 ·obtain ⟨⟨h0, h1⟩, h2⟩ := A.may_bits h
  obtain ⟨_, _, _, _, h3⟩ := A.sz_cases h0 h1
  have := A.sz_pos k
  have e : A.size b k = A.sz k := by unfold A.size; rw [h, if_pos rfl]
  exact .inr ⟨rfl, h2.1, h2.2, by omega, by omega⟩
theorem A.size_pos {b k : Int} (h : 0 < A.size b k) : A.may b k = true /\ 0 <= b /\ b < 4294967296 /\ A.size b k <= 4294967296 := by
 rcases A.size_le (b := b) (k := k) with h1 | h1
 ·omega
 ·exact ⟨h1.1, h1.2.1, h1.2.2.1, h1.2.2.2.2⟩
theorem A.size_nat (b k : Int) : ∃ q : Nat, A.size b k = q := by
 rcases A.size_le (b := b) (k := k) with h1 | h1
 ·exact ⟨0, h1⟩
 ·exact ⟨(A.size b k).toNat, by omega⟩
def A.idx (b k a : Int) : Int := if A.may b k = true /\ b <= a /\ a - b < A.size b k then a - b else -1
theorem zh1 (b k a v : Int) (w : World) (hv : A.idx b k a = v) (ha : a <= 9223372036854775807) :
  Calls Tryz.prog 252 #[.agg #[.int .i64 b, .int .i64 k], .int .i64 a] w fun e w' => e = .returned (.int .i64 v) /\ Below w.heap.size w w' := by
 have HV := Zh hv
 have HBX := Zh (zbg w b k)
 have HBL := Zh (zbp w b k)
 have c0 : ∀ d os, (Go.Sort.grow (redrawn (w.alloc (.cells #[.int .i64 b, .int .i64 k] 28)) d) os).cell? ⟨w.heap.size, 0, none⟩ = some (.int .i64 b) := fun d os => cell_regrown (pb0 (zbp w b k)) d os
 have c1 : ∀ d os, (Go.Sort.grow (redrawn (w.alloc (.cells #[.int .i64 b, .int .i64 k] 28)) d) os).cell? ⟨w.heap.size, 1, none⟩ = some (.int .i64 k) := fun d os => cell_regrown (pb1 (zbp w b k)) d os
 clear hv
 have hmay := za5 b k
 cases hd : A.may b k
 ·have HF : Hid (v = -1) := Zh (by rw [<- HV.out]; unfold A.idx; rw [hd]; rfl)
  go_enter Tryz.func252, Tryz.ntmps252
  go_wp2_with fail
  refine wp_region_quiet_below (by kernel_rfl) (by kernel_rfl) ?_
  repeat (go_big_quiet_step (exact Calls.regrown_of (hmay false _ hd)))
  refine wpQuiet_nil ?_
  intro _ hw'
  obtain ⟨⟨dq, osq⟩, hw''⟩ := hw'
  subst hw''
  go_wp2
  go_ret
  exact ⟨by rw [HF.out]; rfl, HBX.out.trans ((below_regrown _ dq osq).mono HBX.out.size)⟩
 ·obtain ⟨q, hq⟩ := A.size_nat b k
  obtain ⟨-, g0, g1⟩ := A.may_bits hd
  have hs := zc8 b k q
  by_cases h1 : a < b
  ·have d1 : decide (a < b) = true := by simp [h1]
   have HF : Hid (v = -1) := Zh (by rw [<- HV.out]; unfold A.idx; rw [if_neg (by omega)])
   go_enter Tryz.func252, Tryz.ntmps252
   go_wp2_with fail
   refine wp_region_quiet_below (by kernel_rfl) (by kernel_rfl) ?_
   repeat (go_big_quiet_step (exact Calls.regrown_of (hmay true _ hd)))
   refine wpQuiet_nil ?_
   intro _ hw'
   obtain ⟨⟨dq, osq⟩, hw''⟩ := hw'
   subst hw''
   go_wp2
   go_ret
   exact ⟨by rw [HF.out]; rfl, HBX.out.trans ((below_regrown _ dq osq).mono HBX.out.size)⟩
  ·have d1 : decide (a < b) = false := by simp; omega
   have hw : IntKind.i64.wrap (a - b) = a - b := IntWalk.i64_in _ (by omega)
   by_cases h2 : a - b < (q : Int)
   ·have d2 : decide ((q : Int) <= a - b) = false := by simp; omega
    have HF : Hid (v = a - b) := Zh (by rw [<- HV.out]; unfold A.idx; rw [if_pos ⟨hd, by omega, by omega⟩])
    go_enter Tryz.func252, Tryz.ntmps252
    go_wp2_with fail
    refine wp_region_quiet_below (by kernel_rfl) (by kernel_rfl) ?_
    repeat (go_big_quiet_step (first | exact Calls.regrown_of (hmay true _ hd) | exact Calls.regrown_of (hs _ hq)))
    refine wpQuiet_nil ?_
    intro _ hw'
    obtain ⟨⟨dq, osq⟩, hw''⟩ := hw'
    subst hw''
    go_wp2
    go_ret
    exact ⟨by rw [HF.out]; rfl, HBX.out.trans ((below_regrown _ dq osq).mono HBX.out.size)⟩
   ·have d2 : decide ((q : Int) <= a - b) = true := by simp; omega
    have HF : Hid (v = -1) := Zh (by rw [<- HV.out]; unfold A.idx; rw [if_neg (by omega)])
    go_enter Tryz.func252, Tryz.ntmps252
    go_wp2_with fail
    refine wp_region_quiet_below (by kernel_rfl) (by kernel_rfl) ?_
    repeat (go_big_quiet_step (first | exact Calls.regrown_of (hmay true _ hd) | exact Calls.regrown_of (hs _ hq)))
    refine wpQuiet_nil ?_
    intro _ hw'
    obtain ⟨⟨dq, osq⟩, hw''⟩ := hw'
    subst hw''
    go_wp2
    go_ret
    exact ⟨by rw [HF.out]; rfl, HBX.out.trans ((below_regrown _ dq osq).mono HBX.out.size)⟩
def A.meet (b k c j : Int) : Bool := A.may b k && A.may c j && (decide (0 <= A.idx b k c) || decide (0 <= A.idx c j b))
def zh2 (w : World) (b k c j : Int) : World := pbox (pbox w b k) c j
theorem zga (w : World) (b k c j : Int) : Below w.heap.size w (zh2 w b k c j) := (zbg w b k).trans ((zbg _ c j).mono (zbg w b k).size)
theorem zlg (w : World) (b k c j : Int) : Blok (zh2 w b k c j) w.heap.size 28 #[.int .i64 b, .int .i64 k] := (zbp w b k).alloc _
theorem zlh (w : World) (b k c j : Int) : Blok (zh2 w b k c j) (w.heap.size + 1) 28 #[.int .i64 c, .int .i64 j] := by
 have := zbp (pbox w b k) c j
 rwa [zh0] at this
theorem zjz (b k c j : Int) (d : Bool) (w : World) (hd : A.meet b k c j = d) (hb : b <= 9223372036854775807) (hc : c <= 9223372036854775807) :
  Calls Tryz.prog 193 #[.agg #[.int .i64 b, .int .i64 k], .agg #[.int .i64 c, .int .i64 j]] w fun e w' => e = .returned (.bool d) /\ Below w.heap.size w w' := by
 have HD := Zh hd
 have HB := Zh (zga w b k c j)
 have HA := Zh (zlg w b k c j)
 have HC := Zh (zlh w b k c j)
 clear hd
 cases h1 : A.may b k
 ·have HF : Hid (d = false) := Zh (by rw [<- HD.out]; unfold A.meet; rw [h1]; rfl)
  have hm := za5 b k false (zh2 w b k c j) h1
  go_enter Tryz.func193, Tryz.ntmps193
  go_wp2_with fail
  refine hm.mono ?_
  rintro e w1 ⟨rfl, hb1⟩
  go_wp2
  go_ret
  exact ⟨by rw [HF.out]; rfl, HB.out.trans (hb1.mono HB.out.size)⟩
 ·have hm := za5 b k true (zh2 w b k c j) h1
  go_enter Tryz.func193, Tryz.ntmps193
  go_wp2_with fail
  refine hm.mono ?_
  rintro e w1 ⟨rfl, hb1⟩
  have k0 := pb0 (HA.out.below hb1 HA.out.lt)
  have k1 := pb1 (HA.out.below hb1 HA.out.lt)
  have j0 := pb0 (HC.out.below hb1 HC.out.lt)
  have j1 := pb1 (HC.out.below hb1 HC.out.lt)
  have HA1 := Zh (HA.out.below hb1 HA.out.lt)
  have HC1 := Zh (HC.out.below hb1 HC.out.lt)
  have HB1 := Zt HB hb1
  clear hb1 hm
  cases h2 : A.may c j
  ·have HF : Hid (d = false) := Zh (by rw [<- HD.out]; unfold A.meet; rw [h1, h2]; rfl)
   go_wp2_with fail
   refine (za5 c j false w1 h2).mono ?_
   rintro e w2 ⟨rfl, hb2⟩
   go_wp2
   go_ret
   exact ⟨by rw [HF.out]; rfl, HB1.out.trans (hb2.mono HB1.out.size)⟩
  ·go_wp2_with fail
   refine (za5 c j true w1 h2).mono ?_
   rintro e w2 ⟨rfl, hb2⟩
   have k0' := pb0 (HA1.out.below hb2 HA1.out.lt)
   have k1' := pb1 (HA1.out.below hb2 HA1.out.lt)
   have j0' := pb0 (HC1.out.below hb2 HC1.out.lt)
   have j1' := pb1 (HC1.out.below hb2 HC1.out.lt)
   have HA2 := Zh (HA1.out.below hb2 HA1.out.lt)
   have HC2 := Zh (HC1.out.below hb2 HC1.out.lt)
   have HB2 := Zt HB1 hb2
   clear hb2 k0 k1 j0 j1
   obtain ⟨x, hx⟩ : ∃ x, A.idx b k c = x := ⟨_, rfl⟩
   have HD2 : Hid (d = (decide (0 <= x) || decide (0 <= A.idx c j b))) := Zh (by rw [<- HD.out]; unfold A.meet; rw [h1, h2, hx]; rfl)
   go_wp2_with fail
   refine (zh1 b k c x w2 hx hc).mono ?_
   rintro e w3 ⟨rfl, hb3⟩
   have k0 := pb0 (HA2.out.below hb3 HA2.out.lt)
   have k1 := pb1 (HA2.out.below hb3 HA2.out.lt)
   have j0 := pb0 (HC2.out.below hb3 HC2.out.lt)
   have j1 := pb1 (HC2.out.below hb3 HC2.out.lt)
   have HB3 := Zt HB2 hb3
   clear hb3 k0' k1' j0' j1'
   by_cases h3 : 0 <= x
   ·have HF : Hid (d = true) := Zh (by rw [HD2.out, decide_eq_true h3]; rfl)
    have d3 : decide (0 <= x) = true := decide_eq_true h3
    go_wp2
    go_ret
    exact ⟨by rw [HF.out]; rfl, HB3.out⟩
   ·have d3 : decide (0 <= x) = false := decide_eq_false h3
    obtain ⟨y, hy⟩ : ∃ y, A.idx c j b = y := ⟨_, rfl⟩
    have HF : Hid (d = decide (0 <= y)) := Zh (by rw [HD2.out, d3, hy]; rfl)
    go_wp2_with fail
    refine (zh1 c j b y w3 hy hb).mono ?_
    rintro e w4 ⟨rfl, hb4⟩
    go_wp2
    go_ret
    exact ⟨by rw [HF.out]; rfl, HB3.out.trans (hb4.mono HB3.out.size)⟩
open Go.RowKit
structure E.D where
 (b k c j lo hi dy bl : Int)
def ebox (w : World) (x : E.D) : World := w.alloc (.cells #[.int .i64 x.b, .int .i64 x.k, .int .i64 x.c, .int .i64 x.j, .int .i64 x.lo, .int .i64 x.hi, .int .i64 x.dy, .int .i64 x.bl] 30)
theorem zaq (w : World) (x : E.D) : Below w.heap.size w (ebox w x) := (Below.refl _ w).alloc (Nat.le_refl _) _
theorem zcm (w : World) (x : E.D) : (ebox w x).heap.size = w.heap.size + 1 := by simp [ebox]
theorem zau (w : World) (x : E.D) : Blok (ebox w x) w.heap.size 30 #[.int .i64 x.b, .int .i64 x.k, .int .i64 x.c, .int .i64 x.j, .int .i64 x.lo, .int .i64 x.hi, .int .i64 x.dy, .int .i64 x.bl] := Blok.new w _ _
theorem e0 {w : World} {g : Nat} {x : E.D} (h : Blok w g 30 #[.int .i64 x.b, .int .i64 x.k, .int .i64 x.c, .int .i64 x.j, .int .i64 x.lo, .int .i64 x.hi, .int .i64 x.dy, .int .i64 x.bl]) : w.cell? ⟨g, 0, none⟩ = some (.int .i64 x.b) := h.cell 0
theorem ce0 {w : World} {g : Nat} {x : E.D} (h : Blok w g 30 #[.int .i64 x.b, .int .i64 x.k, .int .i64 x.c, .int .i64 x.j, .int .i64 x.lo, .int .i64 x.hi, .int .i64 x.dy, .int .i64 x.bl]) : ∀ d os, (Go.Sort.grow (redrawn w d) os).cell? ⟨g, 0, none⟩ = some (.int .i64 x.b) := fun d os => cell_regrown (e0 h) d os
theorem e1 {w : World} {g : Nat} {x : E.D} (h : Blok w g 30 #[.int .i64 x.b, .int .i64 x.k, .int .i64 x.c, .int .i64 x.j, .int .i64 x.lo, .int .i64 x.hi, .int .i64 x.dy, .int .i64 x.bl]) : w.cell? ⟨g, 1, none⟩ = some (.int .i64 x.k) := h.cell 1
theorem ce1 {w : World} {g : Nat} {x : E.D} (h : Blok w g 30 #[.int .i64 x.b, .int .i64 x.k, .int .i64 x.c, .int .i64 x.j, .int .i64 x.lo, .int .i64 x.hi, .int .i64 x.dy, .int .i64 x.bl]) : ∀ d os, (Go.Sort.grow (redrawn w d) os).cell? ⟨g, 1, none⟩ = some (.int .i64 x.k) := fun d os => cell_regrown (e1 h) d os
theorem e2 {w : World} {g : Nat} {x : E.D} (h : Blok w g 30 #[.int .i64 x.b, .int .i64 x.k, .int .i64 x.c, .int .i64 x.j, .int .i64 x.lo, .int .i64 x.hi, .int .i64 x.dy, .int .i64 x.bl]) : w.cell? ⟨g, 2, none⟩ = some (.int .i64 x.c) := h.cell 2
theorem ce2 {w : World} {g : Nat} {x : E.D} (h : Blok w g 30 #[.int .i64 x.b, .int .i64 x.k, .int .i64 x.c, .int .i64 x.j, .int .i64 x.lo, .int .i64 x.hi, .int .i64 x.dy, .int .i64 x.bl]) : ∀ d os, (Go.Sort.grow (redrawn w d) os).cell? ⟨g, 2, none⟩ = some (.int .i64 x.c) := fun d os => cell_regrown (e2 h) d os
theorem e3 {w : World} {g : Nat} {x : E.D} (h : Blok w g 30 #[.int .i64 x.b, .int .i64 x.k, .int .i64 x.c, .int .i64 x.j, .int .i64 x.lo, .int .i64 x.hi, .int .i64 x.dy, .int .i64 x.bl]) : w.cell? ⟨g, 3, none⟩ = some (.int .i64 x.j) := h.cell 3
theorem ce3 {w : World} {g : Nat} {x : E.D} (h : Blok w g 30 #[.int .i64 x.b, .int .i64 x.k, .int .i64 x.c, .int .i64 x.j, .int .i64 x.lo, .int .i64 x.hi, .int .i64 x.dy, .int .i64 x.bl]) : ∀ d os, (Go.Sort.grow (redrawn w d) os).cell? ⟨g, 3, none⟩ = some (.int .i64 x.j) := fun d os => cell_regrown (e3 h) d os
theorem e4 {w : World} {g : Nat} {x : E.D} (h : Blok w g 30 #[.int .i64 x.b, .int .i64 x.k, .int .i64 x.c, .int .i64 x.j, .int .i64 x.lo, .int .i64 x.hi, .int .i64 x.dy, .int .i64 x.bl]) : w.cell? ⟨g, 4, none⟩ = some (.int .i64 x.lo) := h.cell 4
theorem ce4 {w : World} {g : Nat} {x : E.D} (h : Blok w g 30 #[.int .i64 x.b, .int .i64 x.k, .int .i64 x.c, .int .i64 x.j, .int .i64 x.lo, .int .i64 x.hi, .int .i64 x.dy, .int .i64 x.bl]) : ∀ d os, (Go.Sort.grow (redrawn w d) os).cell? ⟨g, 4, none⟩ = some (.int .i64 x.lo) := fun d os => cell_regrown (e4 h) d os
theorem e5 {w : World} {g : Nat} {x : E.D} (h : Blok w g 30 #[.int .i64 x.b, .int .i64 x.k, .int .i64 x.c, .int .i64 x.j, .int .i64 x.lo, .int .i64 x.hi, .int .i64 x.dy, .int .i64 x.bl]) : w.cell? ⟨g, 5, none⟩ = some (.int .i64 x.hi) := h.cell 5
theorem ce5 {w : World} {g : Nat} {x : E.D} (h : Blok w g 30 #[.int .i64 x.b, .int .i64 x.k, .int .i64 x.c, .int .i64 x.j, .int .i64 x.lo, .int .i64 x.hi, .int .i64 x.dy, .int .i64 x.bl]) : ∀ d os, (Go.Sort.grow (redrawn w d) os).cell? ⟨g, 5, none⟩ = some (.int .i64 x.hi) := fun d os => cell_regrown (e5 h) d os
theorem e6 {w : World} {g : Nat} {x : E.D} (h : Blok w g 30 #[.int .i64 x.b, .int .i64 x.k, .int .i64 x.c, .int .i64 x.j, .int .i64 x.lo, .int .i64 x.hi, .int .i64 x.dy, .int .i64 x.bl]) : w.cell? ⟨g, 6, none⟩ = some (.int .i64 x.dy) := h.cell 6
theorem ce6 {w : World} {g : Nat} {x : E.D} (h : Blok w g 30 #[.int .i64 x.b, .int .i64 x.k, .int .i64 x.c, .int .i64 x.j, .int .i64 x.lo, .int .i64 x.hi, .int .i64 x.dy, .int .i64 x.bl]) : ∀ d os, (Go.Sort.grow (redrawn w d) os).cell? ⟨g, 6, none⟩ = some (.int .i64 x.dy) := fun d os => cell_regrown (e6 h) d os
theorem e7 {w : World} {g : Nat} {x : E.D} (h : Blok w g 30 #[.int .i64 x.b, .int .i64 x.k, .int .i64 x.c, .int .i64 x.j, .int .i64 x.lo, .int .i64 x.hi, .int .i64 x.dy, .int .i64 x.bl]) : w.cell? ⟨g, 7, none⟩ = some (.int .i64 x.bl) := h.cell 7
theorem ce7 {w : World} {g : Nat} {x : E.D} (h : Blok w g 30 #[.int .i64 x.b, .int .i64 x.k, .int .i64 x.c, .int .i64 x.j, .int .i64 x.lo, .int .i64 x.hi, .int .i64 x.dy, .int .i64 x.bl]) : ∀ d os, (Go.Sort.grow (redrawn w d) os).cell? ⟨g, 7, none⟩ = some (.int .i64 x.bl) := fun d os => cell_regrown (e7 h) d os
def sbox (w : World) (a f t : Int) : World := w.alloc (.cells #[.int .i64 a, .int .i64 f, .int .i64 t] 246)
theorem zej (w : World) (a f t : Int) : Below w.heap.size w (sbox w a f t) := (Below.refl _ w).alloc (Nat.le_refl _) _
theorem ze7 (w : World) (a f t : Int) : Blok (sbox w a f t) w.heap.size 246 #[.int .i64 a, .int .i64 f, .int .i64 t] := Blok.new w _ _
theorem s0 {w : World} {g : Nat} {a f t : Int} (h : Blok w g 246 #[.int .i64 a, .int .i64 f, .int .i64 t]) : w.cell? ⟨g, 0, none⟩ = some (.int .i64 a) := h.cell 0
theorem s1 {w : World} {g : Nat} {a f t : Int} (h : Blok w g 246 #[.int .i64 a, .int .i64 f, .int .i64 t]) : w.cell? ⟨g, 1, none⟩ = some (.int .i64 f) := h.cell 1
theorem s2 {w : World} {g : Nat} {a f t : Int} (h : Blok w g 246 #[.int .i64 a, .int .i64 f, .int .i64 t]) : w.cell? ⟨g, 2, none⟩ = some (.int .i64 t) := h.cell 2
theorem zj0 {fn : Func} {p : Tmp} (h : fn.results = #[.cell p 246]) {tmps : Array Value} {w : World} (g : Nat) (a f t : Int)
  (hp : tmps.getD p undef = .pointer (some ⟨g, 0, none⟩)) (hg : Blok w g 246 #[.int .i64 a, .int .i64 f, .int .i64 t]) :
  (results fn tmps).run Tryz.prog w = .ok (.agg #[.int .i64 a, .int .i64 f, .int .i64 t]) w := by
 have hp' : tmps[p]?.getD undef = .pointer (some ⟨g, 0, none⟩) := by simpa using hp
 have hl := run_loadVar_row (P := Tryz.prog) w g 246 246 #[.int .i64 a, .int .i64 f, .int .i64 t] (0, 0) _ hg Tryz.underlying246 rfl (by kernel_rfl)
 simp [results, h, hp', asAddr, hl]
theorem zbc {fn : Func} {p u : Tmp} (h : fn.results = #[.cell p 246, .tmp u]) {tmps : Array Value} {w : World} (g : Nat) (a f t : Int) {x : Value}
  (hp : tmps.getD p undef = .pointer (some ⟨g, 0, none⟩)) (hu : tmps.getD u undef = x) (hg : Blok w g 246 #[.int .i64 a, .int .i64 f, .int .i64 t]) :
  (results fn tmps).run Tryz.prog w = .ok (.tuple #[.agg #[.int .i64 a, .int .i64 f, .int .i64 t], x]) w := by
 have hp' : tmps[p]?.getD undef = .pointer (some ⟨g, 0, none⟩) := by simpa using hp
 have hu' : tmps[u]?.getD undef = x := by simpa using hu
 have hl := run_loadVar_row (P := Tryz.prog) w g 246 246 #[.int .i64 a, .int .i64 f, .int .i64 t] (0, 0) _ hg Tryz.underlying246 rfl (by kernel_rfl)
 simp [results, h, hp', hu', asAddr, hl, Result.andThen]
def E.ni (x : E.D) : Int := A.size x.b x.k
def E.no (x : E.D) : Int := A.size x.c x.j
theorem zbd (x : E.D) (s : Int) (w : World) (h : E.ni x = s) : Calls Tryz.prog 195 #[.agg #[.int .i64 x.b, .int .i64 x.k, .int .i64 x.c, .int .i64 x.j, .int .i64 x.lo, .int .i64 x.hi, .int .i64 x.dy, .int .i64 x.bl]] w fun e w' => e = .returned (.int .i64 s) /\ Below w.heap.size w w' := by
 have HB := Zh (zaq w x)
 have hs := zc8 x.b x.k s (ebox w x) h
 clear h
 go_enter Tryz.func195, Tryz.ntmps195
 go_wp2_with fail
 refine hs.mono ?_
 rintro e w1 ⟨rfl, hb1⟩
 go_wp2
 go_ret
 exact ⟨rfl, HB.out.trans (hb1.mono HB.out.size)⟩
theorem zcf (x : E.D) (s : Int) (w : World) (h : E.no x = s) : Calls Tryz.prog 196 #[.agg #[.int .i64 x.b, .int .i64 x.k, .int .i64 x.c, .int .i64 x.j, .int .i64 x.lo, .int .i64 x.hi, .int .i64 x.dy, .int .i64 x.bl]] w fun e w' => e = .returned (.int .i64 s) /\ Below w.heap.size w w' := by
 have HB := Zh (zaq w x)
 have hs := zc8 x.c x.j s (ebox w x) h
 clear h
 go_enter Tryz.func196, Tryz.ntmps196
 go_wp2_with fail
 refine hs.mono ?_
 rintro e w1 ⟨rfl, hb1⟩
 go_wp2
 go_ret
 exact ⟨rfl, HB.out.trans (hb1.mono HB.out.size)⟩
theorem ze8 (x : E.D) (r s : Int) (w : World) (h0 : IntKind.i64.wrap (x.hi - x.lo) = r) (h : IntKind.i64.wrap (r + 1) = s) : Calls Tryz.prog 199 #[.agg #[.int .i64 x.b, .int .i64 x.k, .int .i64 x.c, .int .i64 x.j, .int .i64 x.lo, .int .i64 x.hi, .int .i64 x.dy, .int .i64 x.bl]] w fun e w' => e = .returned (.int .i64 s) /\ Below w.heap.size w w' := by
 have HB := Zh (zaq w x)
 go_enter Tryz.func199, Tryz.ntmps199
 go_wp2
 go_ret
 exact ⟨rfl, HB.out⟩
theorem zeb (x : E.D) (r s : Int) (w : World) (h0 : IntKind.i64.wrap (x.hi - x.dy) = r) (h : IntKind.i64.wrap (r + 1) = s) : Calls Tryz.prog 298 #[.agg #[.int .i64 x.b, .int .i64 x.k, .int .i64 x.c, .int .i64 x.j, .int .i64 x.lo, .int .i64 x.hi, .int .i64 x.dy, .int .i64 x.bl]] w fun e w' => e = .returned (.int .i64 s) /\ Below w.heap.size w w' := by
 have HB := Zh (zaq w x)
 go_enter Tryz.func298, Tryz.ntmps298
 go_wp2
 go_ret
 exact ⟨rfl, HB.out⟩
theorem zek (x : E.D) (r s t : Int) (w : World) (h0 : IntKind.i64.wrap (x.hi - x.lo) = r) (h1 : IntKind.i64.wrap (r + 1) = s) (h : IntKind.i64.wrap (s - x.dy) = t) : Calls Tryz.prog 203 #[.agg #[.int .i64 x.b, .int .i64 x.k, .int .i64 x.c, .int .i64 x.j, .int .i64 x.lo, .int .i64 x.hi, .int .i64 x.dy, .int .i64 x.bl]] w fun e w' => e = .returned (.int .i64 t) /\ Below w.heap.size w w' := by
 have HB := Zh (zaq w x)
 have c0 : ∀ d os, (Go.Sort.grow (redrawn (w.alloc (.cells #[.int .i64 x.b, .int .i64 x.k, .int .i64 x.c, .int .i64 x.j, .int .i64 x.lo, .int .i64 x.hi, .int .i64 x.dy, .int .i64 x.bl] 30)) d) os).cell? ⟨w.heap.size, 0, none⟩ = some (.int .i64 x.b) := ce0 (zau w x)
 have c1 : ∀ d os, (Go.Sort.grow (redrawn (w.alloc (.cells #[.int .i64 x.b, .int .i64 x.k, .int .i64 x.c, .int .i64 x.j, .int .i64 x.lo, .int .i64 x.hi, .int .i64 x.dy, .int .i64 x.bl] 30)) d) os).cell? ⟨w.heap.size, 1, none⟩ = some (.int .i64 x.k) := ce1 (zau w x)
 have c2 : ∀ d os, (Go.Sort.grow (redrawn (w.alloc (.cells #[.int .i64 x.b, .int .i64 x.k, .int .i64 x.c, .int .i64 x.j, .int .i64 x.lo, .int .i64 x.hi, .int .i64 x.dy, .int .i64 x.bl] 30)) d) os).cell? ⟨w.heap.size, 2, none⟩ = some (.int .i64 x.c) := ce2 (zau w x)
 have c3 : ∀ d os, (Go.Sort.grow (redrawn (w.alloc (.cells #[.int .i64 x.b, .int .i64 x.k, .int .i64 x.c, .int .i64 x.j, .int .i64 x.lo, .int .i64 x.hi, .int .i64 x.dy, .int .i64 x.bl] 30)) d) os).cell? ⟨w.heap.size, 3, none⟩ = some (.int .i64 x.j) := ce3 (zau w x)
 have c4 : ∀ d os, (Go.Sort.grow (redrawn (w.alloc (.cells #[.int .i64 x.b, .int .i64 x.k, .int .i64 x.c, .int .i64 x.j, .int .i64 x.lo, .int .i64 x.hi, .int .i64 x.dy, .int .i64 x.bl] 30)) d) os).cell? ⟨w.heap.size, 4, none⟩ = some (.int .i64 x.lo) := ce4 (zau w x)
 have c5 : ∀ d os, (Go.Sort.grow (redrawn (w.alloc (.cells #[.int .i64 x.b, .int .i64 x.k, .int .i64 x.c, .int .i64 x.j, .int .i64 x.lo, .int .i64 x.hi, .int .i64 x.dy, .int .i64 x.bl] 30)) d) os).cell? ⟨w.heap.size, 5, none⟩ = some (.int .i64 x.hi) := ce5 (zau w x)
 have c6 : ∀ d os, (Go.Sort.grow (redrawn (w.alloc (.cells #[.int .i64 x.b, .int .i64 x.k, .int .i64 x.c, .int .i64 x.j, .int .i64 x.lo, .int .i64 x.hi, .int .i64 x.dy, .int .i64 x.bl] 30)) d) os).cell? ⟨w.heap.size, 6, none⟩ = some (.int .i64 x.dy) := ce6 (zau w x)
 have c7 : ∀ d os, (Go.Sort.grow (redrawn (w.alloc (.cells #[.int .i64 x.b, .int .i64 x.k, .int .i64 x.c, .int .i64 x.j, .int .i64 x.lo, .int .i64 x.hi, .int .i64 x.dy, .int .i64 x.bl] 30)) d) os).cell? ⟨w.heap.size, 7, none⟩ = some (.int .i64 x.bl) := ce7 (zau w x)
 have hp := fun W => ze8 x r s W h0 h1
 clear h0 h1
 go_enter Tryz.func203, Tryz.ntmps203
 go_wp2_with fail
 refine wp_region_quiet_below (by kernel_rfl) (by kernel_rfl) ?_
 repeat (go_big_quiet_step (exact Calls.regrown_of (hp _)))
 refine wpQuiet_nil ?_
 intro _ hw'
 obtain ⟨⟨dq, osq⟩, hw''⟩ := hw'
 subst hw''
 go_wp2
 go_ret
 exact ⟨rfl, HB.out.trans ((below_regrown _ dq osq).mono HB.out.size)⟩
theorem zgr (a f n r t : Int) (w : World) (h0 : IntKind.i64.wrap (f + n) = r) (h : IntKind.i64.wrap (r - 1) = t) : Calls Tryz.prog 295 #[.int .i64 a, .int .i64 f, .int .i64 n] w fun e w' => e = .returned (.agg #[.int .i64 a, .int .i64 f, .int .i64 t]) /\ Below w.heap.size w w' := by
 have HB := Zh (zej w a f t)
 go_enter Tryz.func295, Tryz.ntmps295
 go_wp2
 refine bodyPost_ret (zj0 rfl w.heap.size a f t (by kernel_rfl) (ze7 w a f t)) rfl ?_
 exact ⟨rfl, HB.out⟩
open Go.RowKit
theorem A.may_size {b k : Int} : A.may b k = true ↔ 0 < A.size b k := by
 rcases A.size_le (b := b) (k := k) with h | h
 ·refine ⟨fun h1 => ?_, fun h1 => by omega⟩
  have := A.sz_pos k
  unfold A.size at h
  rw [h1, if_pos rfl] at h
  omega
 ·exact ⟨fun _ => h.2.2.2.1, fun _ => h.1⟩
theorem A.not_may {b k : Int} : A.may b k = false ↔ A.size b k = 0 := by
 rcases A.size_le (b := b) (k := k) with h | h
 ·refine ⟨fun _ => h, fun _ => ?_⟩
  rw [Bool.eq_false_iff]
  intro h1
  have := A.may_size.1 h1
  omega
 ·rw [h.1]; exact ⟨fun h1 => (by cases h1), fun h1 => by omega⟩
def E.ratio (x : E.D) : Int := if E.ni x = 0 \/ E.no x = 0 then 0 else (E.ni x + E.no x - 1) / E.no x
theorem E.ni_le (x : E.D) : 0 <= E.ni x /\ E.ni x <= 4294967296 := by
 unfold E.ni; rcases A.size_le (b := x.b) (k := x.k) with h | h <;> omega
theorem E.no_le (x : E.D) : 0 <= E.no x /\ E.no x <= 4294967296 := by
 unfold E.no; rcases A.size_le (b := x.c) (k := x.j) with h | h <;> omega
theorem E.ratio_of {x : E.D} {p q : Int} (hp : E.ni x = p) (hq : E.no x = q) (p0 : ¬ p = 0) (q0 : ¬ q = 0) :
  ∃ s t r, IntKind.i64.wrap (p + q) = s /\ IntKind.i64.wrap (s - 1) = t /\ Int.tdiv t q = r /\ IntKind.i64.wrap r = r /\ E.ratio x = r := by
 have h1 := E.ni_le x
 have h2 := E.no_le x
 rw [hp] at h1
 rw [hq] at h2
 have hr : E.ratio x = (p + q - 1) / q := by unfold E.ratio; rw [hp, hq, if_neg (by omega)]
 have b1 : 0 <= (p + q - 1) / q := Int.ediv_nonneg (by omega) (by omega)
 have b2 : (p + q - 1) / q <= p + q - 1 := Int.ediv_le_self _ (by omega)
 exact ⟨p + q, p + q - 1, (p + q - 1) / q, IntWalk.i64_in _ (by omega), IntWalk.i64_in _ (by omega), Int.tdiv_eq_ediv_of_nonneg (by omega), IntWalk.i64_in _ (by omega), hr⟩
theorem zdj (x : E.D) (r : Int) (w : World) (h : E.ratio x = r) : Calls Tryz.prog 204 #[.agg #[.int .i64 x.b, .int .i64 x.k, .int .i64 x.c, .int .i64 x.j, .int .i64 x.lo, .int .i64 x.hi, .int .i64 x.dy, .int .i64 x.bl]] w fun e w' => e = .returned (.int .i64 r) /\ Below w.heap.size w w' := by
 have HR := Zh h
 have HB := Zh (zaq w x)
 have HK := Zh (zau w x)
 clear h
 cases h1 : A.may x.b x.k
 ·have HF : Hid (r = 0) := Zh (by rw [<- HR.out]; unfold E.ratio; rw [if_pos (.inl (A.not_may.1 h1))])
  have hm := za5 x.b x.k false (ebox w x) h1
  clear h1
  go_enter Tryz.func204, Tryz.ntmps204
  go_wp2_with fail
  refine hm.mono ?_
  rintro e w1 ⟨rfl, hb1⟩
  go_wp2
  go_ret
  exact ⟨by rw [HF.out]; rfl, HB.out.trans (hb1.mono HB.out.size)⟩
 ·cases h2 : A.may x.c x.j
  ·have HF : Hid (r = 0) := Zh (by rw [<- HR.out]; unfold E.ratio; rw [if_pos (.inr (A.not_may.1 h2))])
   have hm := za5 x.b x.k true (ebox w x) h1
   have hn := fun W => za5 x.c x.j false W h2
   clear h1 h2
   go_enter Tryz.func204, Tryz.ntmps204
   go_wp2_with fail
   refine hm.mono ?_
   rintro e w1 ⟨rfl, hb1⟩
   have k0 := e0 (HK.out.below hb1 HK.out.lt)
   have k1 := e1 (HK.out.below hb1 HK.out.lt)
   have k2 := e2 (HK.out.below hb1 HK.out.lt)
   have k3 := e3 (HK.out.below hb1 HK.out.lt)
   have k4 := e4 (HK.out.below hb1 HK.out.lt)
   have k5 := e5 (HK.out.below hb1 HK.out.lt)
   have k6 := e6 (HK.out.below hb1 HK.out.lt)
   have k7 := e7 (HK.out.below hb1 HK.out.lt)
   have HB1 := Zt HB hb1
   clear hb1
   go_wp2_with fail
   refine (hn w1).mono ?_
   rintro e w2 ⟨rfl, hb2⟩
   go_wp2
   go_ret
   exact ⟨by rw [HF.out]; rfl, HB1.out.trans (hb2.mono HB1.out.size)⟩
  ·have hm := za5 x.b x.k true (ebox w x) h1
   have hn := fun W => za5 x.c x.j true W h2
   obtain ⟨p, hp⟩ : ∃ p, E.ni x = p := ⟨_, rfl⟩
   obtain ⟨q, hq⟩ : ∃ q, E.no x = q := ⟨_, rfl⟩
   have p0 : ¬ p = 0 := by rw [<- hp]; have := A.may_size.1 h1; unfold E.ni; omega
   have q0 : ¬ q = 0 := by rw [<- hq]; have := A.may_size.1 h2; unfold E.no; omega
   obtain ⟨s, t, r', a1, a2, a3, a4, a5⟩ := E.ratio_of hp hq p0 q0
   have HF : Hid (r = r') := Zh (by rw [<- HR.out, a5])
   have hs := fun W => zbd x p W hp
   have ht := fun W => zcf x q W hq
   clear h1 h2 hp hq a5
   go_enter Tryz.func204, Tryz.ntmps204
   go_wp2_with fail
   refine hm.mono ?_
   rintro e w1 ⟨rfl, hb1⟩
   have k0 := e0 (HK.out.below hb1 HK.out.lt)
   have k1 := e1 (HK.out.below hb1 HK.out.lt)
   have k2 := e2 (HK.out.below hb1 HK.out.lt)
   have k3 := e3 (HK.out.below hb1 HK.out.lt)
   have k4 := e4 (HK.out.below hb1 HK.out.lt)
   have k5 := e5 (HK.out.below hb1 HK.out.lt)
   have k6 := e6 (HK.out.below hb1 HK.out.lt)
   have k7 := e7 (HK.out.below hb1 HK.out.lt)
   have HB1 := Zt HB hb1
   have HK1 := Zh (HK.out.below hb1 HK.out.lt)
   clear hb1 hm
   go_wp2_with fail
   refine (hn w1).mono ?_
   clear k0 k1 k2 k3 k4 k5 k6 k7
   rintro e w2 ⟨rfl, hb2⟩
   have k0 := e0 (HK1.out.below hb2 HK1.out.lt)
   have k1 := e1 (HK1.out.below hb2 HK1.out.lt)
   have k2 := e2 (HK1.out.below hb2 HK1.out.lt)
   have k3 := e3 (HK1.out.below hb2 HK1.out.lt)
   have k4 := e4 (HK1.out.below hb2 HK1.out.lt)
   have k5 := e5 (HK1.out.below hb2 HK1.out.lt)
   have k6 := e6 (HK1.out.below hb2 HK1.out.lt)
   have k7 := e7 (HK1.out.below hb2 HK1.out.lt)
   have c0 := ce0 (w := w2) (HK1.out.below hb2 HK1.out.lt)
   have c1 := ce1 (w := w2) (HK1.out.below hb2 HK1.out.lt)
   have c2 := ce2 (w := w2) (HK1.out.below hb2 HK1.out.lt)
   have c3 := ce3 (w := w2) (HK1.out.below hb2 HK1.out.lt)
   have c4 := ce4 (w := w2) (HK1.out.below hb2 HK1.out.lt)
   have c5 := ce5 (w := w2) (HK1.out.below hb2 HK1.out.lt)
   have c6 := ce6 (w := w2) (HK1.out.below hb2 HK1.out.lt)
   have c7 := ce7 (w := w2) (HK1.out.below hb2 HK1.out.lt)
   have HB2 := Zt HB1 hb2
   clear hb2 hn
   go_wp2_with fail
   refine wp_region_quiet_below (by kernel_rfl) (by kernel_rfl) ?_
   repeat (go_big_quiet_step (first | exact Calls.regrown_of (hs _) | exact Calls.regrown_of (ht _)))
   refine wpQuiet_nil ?_
   intro _ hw'
   obtain ⟨⟨dq, osq⟩, hw''⟩ := hw'
   subst hw''
   go_wp2
   go_ret
   exact ⟨by rw [HF.out]; rfl, HB2.out.trans ((below_regrown _ dq osq).mono HB2.out.size)⟩
def E.m1 (x : E.D) : Bool := A.may x.b x.k && A.may x.c x.j
def E.m2 (x : E.D) : Bool := !A.meet x.b x.k x.c x.j
def E.m3 (x : E.D) : Bool := decide (E.ni x <= 32) && decide (E.no x <= 4)
def E.m4 (x : E.D) : Bool := decide (1 <= x.lo) && (decide (x.lo <= x.hi) && decide (x.hi <= 65535))
def E.m5 (x : E.D) : Bool := decide (0 <= x.dy) && decide (x.dy < x.hi - x.lo + 1)
def E.m6 (x : E.D) : Bool := decide (1 <= x.bl) && decide (x.bl <= 65535)
def E.m7 (x : E.D) : Bool := decide (x.dy / x.bl <= 8)
def E.m8 (x : E.D) : Bool := decide (E.ratio x <= x.hi - x.lo + 1 - x.dy)
def Must (F : FuncId) (x : E.D) (v : Bool) : Prop := ∀ (w : World) (g : Nat), Blok w g 30 #[.int .i64 x.b, .int .i64 x.k, .int .i64 x.c, .int .i64 x.j, .int .i64 x.lo, .int .i64 x.hi, .int .i64 x.dy, .int .i64 x.bl] -> Calls Tryz.prog F #[.pointer (some ⟨g, 0, none⟩)] w fun e w' => e = .returned (.bool v) /\ Below w.heap.size w w'
theorem zl5 (x : E.D) (v : Bool) (h : E.m1 x = v) : Must 190 x v := by
 intro w g HK0
 have HK := Zh HK0
 have HV := Zh h
 have k0 := e0 HK0
 have k1 := e1 HK0
 have k2 := e2 HK0
 have k3 := e3 HK0
 have k4 := e4 HK0
 have k5 := e5 HK0
 have k6 := e6 HK0
 have k7 := e7 HK0
 clear h HK0
 cases h1 : A.may x.b x.k
 ·have HF : Hid (v = false) := Zh (by rw [<- HV.out]; unfold E.m1; rw [h1]; rfl)
  have hm := za5 x.b x.k false w h1
  clear h1
  go_enter Tryz.func190, Tryz.ntmps190
  go_wp2_with fail
  refine hm.mono ?_
  rintro e w1 ⟨rfl, hb1⟩
  go_wp2
  go_ret
  exact ⟨by rw [HF.out]; rfl, hb1⟩
 ·obtain ⟨u, h2⟩ : ∃ u, A.may x.c x.j = u := ⟨_, rfl⟩
  have HF : Hid (v = u) := Zh (by rw [<- HV.out]; unfold E.m1; rw [h1, h2]; rfl)
  have hm := za5 x.b x.k true w h1
  have hn := fun W => za5 x.c x.j u W h2
  clear h1 h2
  go_enter Tryz.func190, Tryz.ntmps190
  go_wp2_with fail
  refine hm.mono ?_
  rintro e w1 ⟨rfl, hb1⟩
  clear k0 k1 k2 k3 k4 k5 k6 k7
  have k0 := e0 (HK.out.below hb1 HK.out.lt)
  have k1 := e1 (HK.out.below hb1 HK.out.lt)
  have k2 := e2 (HK.out.below hb1 HK.out.lt)
  have k3 := e3 (HK.out.below hb1 HK.out.lt)
  have k4 := e4 (HK.out.below hb1 HK.out.lt)
  have k5 := e5 (HK.out.below hb1 HK.out.lt)
  have k6 := e6 (HK.out.below hb1 HK.out.lt)
  have k7 := e7 (HK.out.below hb1 HK.out.lt)
  have HB1 := Zh hb1
  clear hb1 hm
  go_wp2_with fail
  refine (hn w1).mono ?_
  rintro e w2 ⟨rfl, hb2⟩
  go_wp2
  go_ret
  exact ⟨by rw [HF.out]; rfl, HB1.out.trans (hb2.mono HB1.out.size)⟩
theorem zl6 (x : E.D) (v : Bool) (h : E.m2 x = v) (hb : x.b <= 9223372036854775807) (hc : x.c <= 9223372036854775807) : Must 192 x v := by
 intro w g HK0
 have HV := Zh h
 have k0 := e0 HK0
 have k1 := e1 HK0
 have k2 := e2 HK0
 have k3 := e3 HK0
 have k4 := e4 HK0
 have k5 := e5 HK0
 have k6 := e6 HK0
 have k7 := e7 HK0
 clear h HK0
 obtain ⟨u, h1⟩ : ∃ u, A.meet x.b x.k x.c x.j = u := ⟨_, rfl⟩
 have HF : Hid (v = !u) := Zh (by rw [<- HV.out]; unfold E.m2; rw [h1])
 have hm := zjz x.b x.k x.c x.j u w h1 hb hc
 clear h1
 go_enter Tryz.func192, Tryz.ntmps192
 go_wp2_with fail
 refine hm.mono ?_
 rintro e w1 ⟨rfl, hb1⟩
 go_wp2
 go_ret
 exact ⟨by rw [HF.out]; rfl, hb1⟩
theorem zl7 (x : E.D) (v : Bool) (h : E.m3 x = v) : Must 194 x v := by
 intro w g HK0
 have HK := Zh HK0
 have HV := Zh h
 have k0 := e0 HK0
 have k1 := e1 HK0
 have k2 := e2 HK0
 have k3 := e3 HK0
 have k4 := e4 HK0
 have k5 := e5 HK0
 have k6 := e6 HK0
 have k7 := e7 HK0
 clear h HK0
 obtain ⟨p, hp⟩ : ∃ p, E.ni x = p := ⟨_, rfl⟩
 obtain ⟨q, hq⟩ : ∃ q, E.no x = q := ⟨_, rfl⟩
 have HF : Hid (v = (decide (p <= 32) && decide (q <= 4))) := Zh (by rw [<- HV.out]; unfold E.m3; rw [hp, hq])
 have hm := zbd x p w hp
 have hn := fun W => zcf x q W hq
 clear hp hq
 by_cases d : p <= 32
 ·have d1 : decide (p <= 32) = true := decide_eq_true d
  go_enter Tryz.func194, Tryz.ntmps194
  go_wp2_with fail
  refine hm.mono ?_
  rintro e w1 ⟨rfl, hb1⟩
  clear k0 k1 k2 k3 k4 k5 k6 k7
  have k0 := e0 (HK.out.below hb1 HK.out.lt)
  have k1 := e1 (HK.out.below hb1 HK.out.lt)
  have k2 := e2 (HK.out.below hb1 HK.out.lt)
  have k3 := e3 (HK.out.below hb1 HK.out.lt)
  have k4 := e4 (HK.out.below hb1 HK.out.lt)
  have k5 := e5 (HK.out.below hb1 HK.out.lt)
  have k6 := e6 (HK.out.below hb1 HK.out.lt)
  have k7 := e7 (HK.out.below hb1 HK.out.lt)
  have HB1 := Zh hb1
  clear hb1 hm
  go_wp2_with fail
  refine (hn w1).mono ?_
  rintro e w2 ⟨rfl, hb2⟩
  go_wp2
  go_ret
  exact ⟨by rw [HF.out, d1]; rfl, HB1.out.trans (hb2.mono HB1.out.size)⟩
 ·have d1 : decide (p <= 32) = false := decide_eq_false d
  go_enter Tryz.func194, Tryz.ntmps194
  go_wp2_with fail
  refine hm.mono ?_
  rintro e w1 ⟨rfl, hb1⟩
  go_wp2
  go_ret
  exact ⟨by rw [HF.out, d1]; rfl, hb1⟩
theorem zl8 (x : E.D) (v : Bool) (h : E.m4 x = v) : Must 197 x v := by
 intro w g HK0
 have HV := Zh h
 have k0 := e0 HK0
 have k1 := e1 HK0
 have k2 := e2 HK0
 have k3 := e3 HK0
 have k4 := e4 HK0
 have k5 := e5 HK0
 have k6 := e6 HK0
 have k7 := e7 HK0
 clear h HK0
 by_cases a : 1 <= x.lo
 ·have a' : decide (1 <= x.lo) = true := decide_eq_true a
  by_cases b : x.lo <= x.hi
  ·have b' : decide (x.lo <= x.hi) = true := decide_eq_true b
   have HF : Hid (v = decide (x.hi <= 65535)) := Zh (by rw [<- HV.out]; unfold E.m4; rw [a', b']; rfl)
   go_enter Tryz.func197, Tryz.ntmps197
   go_wp2
   go_ret
   exact ⟨by rw [HF.out]; rfl, Below.refl _ _⟩
  ·have b' : decide (x.lo <= x.hi) = false := decide_eq_false b
   have HF : Hid (v = false) := Zh (by rw [<- HV.out]; unfold E.m4; rw [a', b']; rfl)
   go_enter Tryz.func197, Tryz.ntmps197
   go_wp2
   go_ret
   exact ⟨by rw [HF.out]; rfl, Below.refl _ _⟩
 ·have a' : decide (1 <= x.lo) = false := decide_eq_false a
  have HF : Hid (v = false) := Zh (by rw [<- HV.out]; unfold E.m4; rw [a']; rfl)
  go_enter Tryz.func197, Tryz.ntmps197
  go_wp2
  go_ret
  exact ⟨by rw [HF.out]; rfl, Below.refl _ _⟩
theorem zl9 (x : E.D) (v : Bool) (h : E.m5 x = v) (h4 : E.m4 x = true) : Must 198 x v := by
 intro w g HK0
 have HV := Zh h
 have HK := Zh HK0
 have k0 := e0 HK0
 have k1 := e1 HK0
 have k2 := e2 HK0
 have k3 := e3 HK0
 have k4 := e4 HK0
 have k5 := e5 HK0
 have k6 := e6 HK0
 have k7 := e7 HK0
 have hb : 1 <= x.lo /\ x.lo <= x.hi /\ x.hi <= 65535 := by unfold E.m4 at h4; simpa using h4
 obtain ⟨n, hn⟩ : ∃ n, x.hi - x.lo + 1 = n := ⟨_, rfl⟩
 have hp := fun W => ze8 x (x.hi - x.lo) n W (IntWalk.i64_in _ (by omega)) (by rw [hn]; exact IntWalk.i64_in _ (by omega))
 by_cases a : 0 <= x.dy
 ·have a' : decide (0 <= x.dy) = true := decide_eq_true a
  have HF : Hid (v = decide (x.dy < n)) := Zh (by rw [<- HV.out]; unfold E.m5; rw [a', hn]; rfl)
  have c0 := ce0 (w := w) HK0
  have c1 := ce1 (w := w) HK0
  have c2 := ce2 (w := w) HK0
  have c3 := ce3 (w := w) HK0
  have c4 := ce4 (w := w) HK0
  have c5 := ce5 (w := w) HK0
  have c6 := ce6 (w := w) HK0
  have c7 := ce7 (w := w) HK0
  clear h h4 HK0 hb hn
  go_enter Tryz.func198, Tryz.ntmps198
  go_wp2_with fail
  refine wp_region_quiet_below (by kernel_rfl) (by kernel_rfl) ?_
  repeat (go_big_quiet_step (first | exact Calls.regrown_of (hp _)))
  refine wpQuiet_nil ?_
  intro _ hw'
  obtain ⟨⟨dq, osq⟩, hw''⟩ := hw'
  subst hw''
  go_wp2
  go_ret
  exact ⟨by rw [HF.out]; rfl, below_regrown _ dq osq⟩
 ·have a' : decide (0 <= x.dy) = false := decide_eq_false a
  have HF : Hid (v = false) := Zh (by rw [<- HV.out]; unfold E.m5; rw [a']; rfl)
  have c0 := ce0 (w := w) HK0
  have c1 := ce1 (w := w) HK0
  have c2 := ce2 (w := w) HK0
  have c3 := ce3 (w := w) HK0
  have c4 := ce4 (w := w) HK0
  have c5 := ce5 (w := w) HK0
  have c6 := ce6 (w := w) HK0
  have c7 := ce7 (w := w) HK0
  clear h h4 HK0 hb hn
  go_enter Tryz.func198, Tryz.ntmps198
  go_wp2_with fail
  refine wp_region_quiet_below (by kernel_rfl) (by kernel_rfl) ?_
  repeat (go_big_quiet_step (first | exact Calls.regrown_of (hp _)))
  refine wpQuiet_nil ?_
  intro _ hw'
  obtain ⟨⟨dq, osq⟩, hw''⟩ := hw'
  subst hw''
  go_wp2
  go_ret
  exact ⟨by rw [HF.out]; rfl, below_regrown _ dq osq⟩
theorem zma (x : E.D) (v : Bool) (h : E.m6 x = v) : Must 200 x v := by
 intro w g HK0
 have HV := Zh h
 have k0 := e0 HK0
 have k1 := e1 HK0
 have k2 := e2 HK0
 have k3 := e3 HK0
 have k4 := e4 HK0
 have k5 := e5 HK0
 have k6 := e6 HK0
 have k7 := e7 HK0
 clear h HK0
 by_cases a : 1 <= x.bl
 ·have a' : decide (1 <= x.bl) = true := decide_eq_true a
  have HF : Hid (v = decide (x.bl <= 65535)) := Zh (by rw [<- HV.out]; unfold E.m6; rw [a']; rfl)
  go_enter Tryz.func200, Tryz.ntmps200
  go_wp2
  go_ret
  exact ⟨by rw [HF.out]; rfl, Below.refl _ _⟩
 ·have a' : decide (1 <= x.bl) = false := decide_eq_false a
  have HF : Hid (v = false) := Zh (by rw [<- HV.out]; unfold E.m6; rw [a']; rfl)
  go_enter Tryz.func200, Tryz.ntmps200
  go_wp2
  go_ret
  exact ⟨by rw [HF.out]; rfl, Below.refl _ _⟩
theorem zmb (x : E.D) (v : Bool) (h : E.m7 x = v) (h4 : E.m4 x = true) (h5 : E.m5 x = true) (h6 : E.m6 x = true) : Must 201 x v := by
 intro w g HK0
 have HV := Zh h
 have k0 := e0 HK0
 have k1 := e1 HK0
 have k2 := e2 HK0
 have k3 := e3 HK0
 have k4 := e4 HK0
 have k5 := e5 HK0
 have k6 := e6 HK0
 have k7 := e7 HK0
 have b4 : 1 <= x.lo /\ x.lo <= x.hi /\ x.hi <= 65535 := by unfold E.m4 at h4; simpa using h4
 have b5 : 0 <= x.dy /\ x.dy < x.hi - x.lo + 1 := by unfold E.m5 at h5; simpa using h5
 have b6 : 1 <= x.bl /\ x.bl <= 65535 := by unfold E.m6 at h6; simpa using h6
 obtain ⟨n, hn⟩ : ∃ n, x.dy / x.bl = n := ⟨_, rfl⟩
 have t1 : Int.tdiv x.dy x.bl = n := by rw [Int.tdiv_eq_ediv_of_nonneg b5.1, hn]
 have t2 : IntKind.i64.wrap n = n := IntWalk.i64_in _ (by
  have := Int.ediv_nonneg b5.1 (show 0 <= x.bl by omega)
  have := Int.ediv_le_self x.bl b5.1
  omega)
 have t3 : ¬ x.bl = 0 := by omega
 have HF : Hid (v = decide (n <= 8)) := Zh (by rw [<- HV.out]; unfold E.m7; rw [hn])
 clear h h4 h5 h6 HK0 b4 b5 b6 hn
 go_enter Tryz.func201, Tryz.ntmps201
 go_wp2
 go_ret
 exact ⟨by rw [HF.out]; rfl, Below.refl _ _⟩
theorem zmc (x : E.D) (v : Bool) (h : E.m8 x = v) (h4 : E.m4 x = true) (h5 : E.m5 x = true) : Must 202 x v := by
 intro w g HK0
 have HV := Zh h
 have HK := Zh HK0
 have k0 := e0 HK0
 have k1 := e1 HK0
 have k2 := e2 HK0
 have k3 := e3 HK0
 have k4 := e4 HK0
 have k5 := e5 HK0
 have k6 := e6 HK0
 have k7 := e7 HK0
 have b4 : 1 <= x.lo /\ x.lo <= x.hi /\ x.hi <= 65535 := by unfold E.m4 at h4; simpa using h4
 have b5 : 0 <= x.dy /\ x.dy < x.hi - x.lo + 1 := by unfold E.m5 at h5; simpa using h5
 obtain ⟨n, hn⟩ : ∃ n, x.hi - x.lo + 1 - x.dy = n := ⟨_, rfl⟩
 obtain ⟨r, hr⟩ : ∃ r, E.ratio x = r := ⟨_, rfl⟩
 have hp := fun W => zek x (x.hi - x.lo) (x.hi - x.lo + 1) n W (IntWalk.i64_in _ (by omega)) (IntWalk.i64_in _ (by omega)) (by rw [hn]; exact IntWalk.i64_in _ (by omega))
 have hq := fun W => zdj x r W hr
 have HF : Hid (v = decide (r <= n)) := Zh (by rw [<- HV.out]; unfold E.m8; rw [hn, hr])
 have c0 := ce0 (w := w) HK0
 have c1 := ce1 (w := w) HK0
 have c2 := ce2 (w := w) HK0
 have c3 := ce3 (w := w) HK0
 have c4 := ce4 (w := w) HK0
 have c5 := ce5 (w := w) HK0
 have c6 := ce6 (w := w) HK0
 have c7 := ce7 (w := w) HK0
 clear h h4 h5 HK0 b4 b5 hn hr
 go_enter Tryz.func202, Tryz.ntmps202
 go_wp2_with fail
 refine wp_region_quiet_below (by kernel_rfl) (by kernel_rfl) ?_
 repeat (go_big_quiet_step (first | exact Calls.regrown_of (hp _) | exact Calls.regrown_of (hq _)))
 refine wpQuiet_nil ?_
 intro _ hw'
 obtain ⟨⟨dq, osq⟩, hw''⟩ := hw'
 subst hw''
 go_wp2
 go_ret
 exact ⟨by rw [HF.out]; rfl, below_regrown _ dq osq⟩
end Go.Proofs.YtnbkkjcmblfhpaaGreat
