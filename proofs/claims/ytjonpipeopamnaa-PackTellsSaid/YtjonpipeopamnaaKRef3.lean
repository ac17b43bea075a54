/-
  Walk of the document's Unpack.
-/
import Derived.Test.YtjonpipeopamnaaKRef2
namespace Go.Proofs.Ytjonpipeopamnaa
open Go.RowKit

theorem refUnpack_no (a : Option Addr) (len cap : Nat) (b : List Int) (n v : Int) (w : World) (hl : b.length = len) (hn : K.size n v ≠ len) :
    Calls Try.prog 13 #[.slice a len cap, .int .i64 n, .int .i64 v] w (UnpackIs b n v w) := by
  have HN : Hid (K.unpack b n v = none) := Lib.hid (by
    cases hu : K.unpack b n v with
    | none => rfl
    | some l => have := K.unpack_size hu; omega)
  obtain ⟨s, hs⟩ : ∃ s, K.size n v = s := ⟨_, rfl⟩
  have HS := Lib.hid hs
  rw [hs] at hn
  have hne : (s != (len : Int)) = true := by simpa using hn
  clear hl hs hn
  go_enter Try.func13, Try.ntmps13
  go_wp2_with (go_at_call 18; refine (refSize_any n v _).mono ?_; rintro e w' ⟨rfl, rfl⟩; rw [HS.out])
  go_ret2
  exact .no HN.out (Below.refl _ _)

theorem K.unpack_is {b l : List Int} {n v : Nat} (h : K.unpack b n v = some l) : l = K.dig (2 ^ v) n (K.val 256 b) := by
  unfold K.unpack at h
  rw [Int.toNat_natCast, Int.toNat_natCast] at h
  split at h
  · simpa using h.symm
  · cases h

theorem K.dig_snoc (B n N : Nat) : K.dig B (n + 1) N = K.dig B n N ++ [((N / B ^ n % B : Nat) : Int)] := by
  rw [K.dig_add]; rfl

set_option maxRecDepth 100000 in
set_option maxHeartbeats 2000000 in
theorem refUnpack_in (a : Option Addr) (len cap : Nat) (b : List Int) (n v : Nat) (w : World) (hl : b.length = len) (hr : RowIn .u8 w a cap b) (h4 : n ≤ 400) (hv : v ≤ 32) (hn : (n * v + 7) / 8 = len) :
    Calls Try.prog 13 #[.slice a len cap, .int .i64 n, .int .i64 v] w (UnpackIs b n v w) := by
  obtain ⟨i0, hi, hz0, hz1, hz2⟩ := info_parts info3
  have hbd := K.isd_byte hr.2.1
  obtain ⟨N, hN⟩ : ∃ N, K.val 256 b = N := ⟨_, rfl⟩
  have HS := Lib.hid (K.size_in (n := n) (w := v) h4 hv)
  have hp : n * v ≤ 400 * 32 := Nat.mul_le_mul h4 hv
  obtain ⟨p, hp'⟩ : ∃ p, n * v = p := ⟨_, rfl⟩
  have HPP : Hid (∀ j, j ≤ n → j * v ≤ p) := Lib.hid fun j hj => by rw [← hp']; exact Nat.mul_le_mul_right _ hj
  rw [hp'] at hp HS hn
  obtain ⟨s, hs⟩ : ∃ s, (p + 7) / 8 = s := ⟨_, rfl⟩
  rw [hs] at HS hn
  subst hn
  have HBY : Hid (∀ c, c < s → ∃ y : Nat, b.getD c 0 = (y : Int) ∧ y < 256 ∧ y = N / 256 ^ c % 256) := Lib.hid fun c hc => by
    refine ⟨N / 256 ^ c % 256, ?_, Nat.mod_lt _ (by decide), rfl⟩
    rw [K.val_get hbd (by omega), hN]
  obtain ⟨out, hout⟩ : ∃ l, K.dig (2 ^ v) n N = l := ⟨_, rfl⟩
  have hol : out.length = n := by rw [← hout]; exact K.dig_len _ _ _
  have how : ∀ c ∈ out, (Lit.int .i64 c).wf = true := by rw [← hout]; exact K.wf_isd hv (K.dig_isd (Nat.two_pow_pos v) _ _)
  obtain ⟨sp, hsp⟩ : ∃ q, strOf ((K.pack out v).getD []) = q := ⟨_, rfl⟩
  obtain ⟨sb, hsb⟩ : ∃ q, strOf b = q := ⟨_, rfl⟩
  have F : ((sp.toList == sb.toList) = false ∧ (sp.toList != sb.toList) = true ∧ Hid (K.unpack b n v = none)) ∨ ((sp.toList == sb.toList) = true ∧ (sp.toList != sb.toList) = false ∧ Hid (K.unpack b n v = some out)) := by
    obtain ⟨y, hy⟩ : ∃ y, K.pack out v = some y := ⟨_, K.pack_some.2 ⟨by omega, hv, by rw [← hout]; exact K.dig_isd (Nat.two_pow_pos v) _ _, rfl⟩⟩
    have hyw : ∀ c ∈ y, (Lit.int .u8 c).wf = true := by have := K.pack_wf out v; rwa [hy] at this
    have e : (sp.toList == sb.toList) = decide (y = b) := by rw [← hsp, ← hsb, hy, Option.getD_some, str_beq hyw hr.2.1]
    by_cases hyb : y = b
    · refine .inr ⟨by rw [e]; exact decide_eq_true hyb, by rw [bne, e, decide_eq_true hyb]; rfl, Lib.hid ?_⟩
      rw [hyb] at hy
      exact (K.unpack_some hbd).2 ⟨hy, hol⟩
    · refine .inl ⟨by rw [e]; exact decide_eq_false hyb, by rw [bne, e, decide_eq_false hyb]; rfl, Lib.hid ?_⟩
      cases hu : K.unpack b n v with
      | none => rfl
      | some l =>
        have h1 := K.unpack_is hu
        rw [hN, hout] at h1
        subst h1
        have h2 := ((K.unpack_some hbd).1 hu).1
        rw [hy] at h2
        exact absurd (Option.some.inj h2) hyb
  have HL := Lib.hid hl
  have HR := Lib.hid hr
  have HO := Lib.hid hout
  have HOL := Lib.hid hol
  have HOW := Lib.hid how
  have HSP := Lib.hid hsp
  have HSB := Lib.hid hsb
  clear hl hr hbd hN hout hol how hsp hsb hp'
  have hne : ((s : Int) != (s : Int)) = false := by simp
  go_enter Try.func13, Try.ntmps13
  go_wp2_with (go_at_call 18; refine (refSize_any n v _).mono ?_; rintro e w' ⟨rfl, rfl⟩; rw [HS.out])
  go_loopg [8, 9, 10, 11, 12] n (fun g s8 s9 s10 s11 s12 wr => ∃ (i : Nat) (x : Option Addr) (c : Nat), s8 = .slice x i c ∧ s9 = .int .i64 i ∧ i + g = n ∧ wr.ownsRow w.heap.size 3 1 (.slice x i c) i ((K.dig (2 ^ v) i N).map (Value.int .i64)) ∧ Below w.heap.size w wr)
  case atStart => exact ⟨0, none, 0, rfl, rfl, by omega, World.ownsRow_nil _ _ _ _, Below.refl _ _⟩
  case round =>
    obtain ⟨i, x, c, rfl, rfl, hig, hown, hW⟩ := hrel
    obtain ⟨w0, rfl⟩ : ∃ w0, w0 = wr := ⟨_, rfl⟩
    have HOWN := Lib.hid hown
    have HW := Lib.hid hW
    clear hown hW
    by_cases hlt : i < n
    · have hip := HPP.out (i + 1) (by omega)
      rw [Nat.add_mul, Nat.one_mul] at hip
      obtain ⟨iv, hiv⟩ : ∃ q, i * v = q := ⟨_, rfl⟩
      have hivi : (i : Int) * (v : Int) = iv := by rw [← hiv]; simp
      rw [hiv] at hip
      have HIV := Lib.hid hiv
      clear hiv
      go_wp2
      go_loopg [10, 11, 12] v (fun g s10 s11 s12 wx => ∃ k y : Nat, s10 = .int .i64 y ∧ s11 = .int .i64 k ∧ k + g = v ∧ y < 2 ^ k ∧ Hid (y = N / 2 ^ iv % 2 ^ k) ∧ Hid (Below w0.heap.size w0 wx))
      case atStart => exact ⟨0, 0, rfl, rfl, by omega, by simp, Lib.hid (by rw [Nat.pow_zero, Nat.mod_one]), Lib.hid (Below.refl _ _)⟩
      case round =>
        obtain ⟨k, y, rfl, rfl, hkg, hy, HY, HX⟩ := hrel
        by_cases hkv : k < v
        · obtain ⟨t, ht⟩ : ∃ t, iv + k = t := ⟨_, rfl⟩
          have hti : (iv : Int) + (k : Int) = t := by omega
          obtain ⟨d, hd⟩ : ∃ d, t / 8 = d := ⟨_, rfl⟩
          obtain ⟨r, hr⟩ : ∃ r, t % 8 = r := ⟨_, rfl⟩
          obtain ⟨z, hz, hz2', hz3⟩ := HBY.out d (by omega)
          obtain ⟨pr, hpr⟩ : ∃ q, 2 ^ r = q := ⟨_, rfl⟩
          obtain ⟨pk, hpk⟩ : ∃ q, 2 ^ k = q := ⟨_, rfl⟩
          obtain ⟨q1, hq1⟩ : ∃ q, z / pr = q := ⟨_, rfl⟩
          obtain ⟨β, hβ⟩ : ∃ q, q1 % 2 = q := ⟨_, rfl⟩
          obtain ⟨u, hu⟩ : ∃ q, pk * β = q := ⟨_, rfl⟩
          have hr8 : r < 8 := by omega
          have hds : d < s := by omega
          have hpr8 : pr ≤ 128 := by rw [← hpr]; exact Nat.pow_le_pow_right (n := 2) (by decide) (show r ≤ 7 by omega)
          have hpr0 : 0 < pr := by rw [← hpr]; exact Nat.two_pow_pos r
          have hpk32 : pk ≤ 2 ^ 32 := by rw [← hpk]; exact Nat.pow_le_pow_right (by decide) (by omega)
          have hβ2 : β < 2 := by omega
          have hu32 : u ≤ 2 ^ 32 * 1 := by rw [← hu]; exact Nat.mul_le_mul hpk32 (by omega)
          rw [hpk] at hy
          have hbit : β = K.bit (N / 2 ^ iv) k := by
            have h1 : β = K.bit z r := by unfold K.bit; rw [hpr, hq1, hβ]
            have h2 := K.bit_digit (w := 8) N t (by decide)
            rw [hd, hr] at h2
            rw [h1, hz3, show (256 : Nat) = 2 ^ 8 from rfl, h2, ← ht]
            unfold K.bit
            rw [Nat.pow_add, Nat.div_div_eq_div_mul]
          have HNEW : Hid (y + u = N / 2 ^ iv % 2 ^ (k + 1)) := Lib.hid (by rw [K.mod_succ, ← HY.out, hpk, ← hbit, hu])
          have hyu : y + u < 2 ^ (k + 1) := by rw [HNEW.out]; exact Nat.mod_lt _ (Nat.two_pow_pos _)
          have e1 : (t : Int) / 8 = (d : Int) := by omega
          have e2 : (t : Int) % 8 = (r : Int) := by omega
          have t1 : Int.tdiv (t : Int) 8 = (d : Int) := by rw [Int.tdiv_eq_ediv_of_nonneg (by omega), e1]
          have t2 : Int.tmod (t : Int) 8 = (r : Int) := by rw [Int.tmod_eq_emod_of_nonneg (by omega), e2]
          have hwd : IntKind.i64.wrap (d : Int) = d := by rw [IntKind.wrap_i64]; omega
          have e3 : (z : Int) / (pr : Int) = (q1 : Int) := by rw [← hq1]; simp
          have t3 : Int.tdiv (z : Int) (pr : Int) = (q1 : Int) := by rw [Int.tdiv_eq_ediv_of_nonneg (by omega), e3]
          have hq256 : q1 < 256 := by have := Nat.div_le_self z pr; omega
          have hwq : IntKind.i64.wrap (q1 : Int) = q1 := by rw [IntKind.wrap_i64]; omega
          have e4 : (q1 : Int) % 2 = (β : Int) := by omega
          have t4 : Int.tmod (q1 : Int) 2 = (β : Int) := by rw [Int.tmod_eq_emod_of_nonneg (by omega), e4]
          have e5 : (pk : Int) * (β : Int) = (u : Int) := by rw [← hu]; simp
          have n1 : ¬ pr = 0 := by omega
          have n2 : ¬ (pr : Int) = 0 := by omega
          have hP1 : ∀ w : World, Calls Try.prog 24 #[.int .i64 k] w fun e w' => e = .returned (.int .i64 pk) ∧ w = w' := fun w => by rw [← hpk]; exact pow_any k w (by omega)
          have hP2 : ∀ w : World, Calls Try.prog 24 #[.int .i64 r] w fun e w' => e = .returned (.int .i64 pr) ∧ w = w' := fun w => by rw [← hpr]; exact pow_any r w (by omega)
          have HP1 := Lib.hid hP1
          have HP2 := Lib.hid hP2
          obtain ⟨bb, off, rfl, hbb, hc0⟩ := row_at HR.out (i := d) (by rw [HL.out]; exact hds)
          rw [hz] at hc0
          have hcell : wr.cell? ⟨bb, off + d, none⟩ = some (.int .u8 z) := ((HW.out.trans (HX.out.mono HW.out.size)).cell (p := ⟨bb, off + d, none⟩) hbb).trans hc0
          clear hP1 hP2 hbit hz hz3 hpr hpk hq1 hβ hu hd hr ht hc0
          go_wp2
          go_quiet (first
            | (go_at_call_of 24 (Value.int .i64 (k : Int)); exact Calls.quiet_of_same ((HP1.out _).mono fun _ _ ⟨h1, h2⟩ => ⟨h1, h2.symm⟩))
            | (go_at_call_of 24 (Value.int .i64 (r : Int)); exact Calls.quiet_of_same ((HP2.out _).mono fun _ _ ⟨h1, h2⟩ => ⟨h1, h2.symm⟩)))
          go_wp2
          go_roundg (v - (k + 1))
          case measure => omega
          case rel => exact ⟨k + 1, y + u, by simp, by go_num, by omega, hyu, HNEW, Lib.hid (HX.out.trans (below_drewN _ _ _))⟩
        · obtain rfl : k = v := by omega
          have hd : decide ((k : Int) < (k : Int)) = false := by simp
          have hbs := HX.out.size
          have hown2 := ownsRow_below HOWN.out HX.out
          have hws := HW.out.size
          have HSN : Hid ((K.dig (2 ^ k) i N).map (Value.int .i64) ++ [Value.int .i64 (y : Int)] = (K.dig (2 ^ k) (i + 1) N).map (Value.int .i64)) := Lib.hid (by
            rw [K.dig_snoc, K.pow_w, HIV.out, ← HY.out]; simp)
          go_wp2_with (at_builtin; refine wpList_append_own _ rfl _ _ 22 rfl w.heap.size 3 i0 (.int .i64 0) 1 8 Try.underlying22 hi hz0 hz1 hz2 rfl (by decide) _ _ _ rfl (hown2.alloc _) ⟨wr.heap.size, 0, none⟩ 1 1 [.int .i64 (y : Int)] rfl rfl (cell_one_new _ _ _) (by simp [Value.oneCell']) (by unfold maxLen; omega) (by omega) (by simp; omega) ?_; intro v' w2 hown' hgrow _; obtain ⟨a2, c2, rfl⟩ := ownsRow_form hown')
          go_roundg (n - (i + 1))
          case measure => omega
          case rel => exact ⟨i + 1, a2, c2, rfl, by go_num, by omega, by rw [← HSN.out]; exact hown', below_appended hown2 (by omega) (HW.out.trans (HX.out.mono HW.out.size)) hgrow⟩
    · obtain rfl : i = n := by omega
      have hd : decide ((i : Int) < (i : Int)) = false := by simp
      have hown := HOWN.out
      rw [HO.out] at hown
      have HX := Lib.hid (row3_like hown HOW.out)
      have HOWN2 := Lib.hid hown
      clear hown
      go_wp2_with fail
      refine (refPackRow_any _ i _ out v _ HOL.out HX.out).mono ?_
      rintro e w2 ⟨a2, c2, n2, rfl, l2, r2, hb2⟩
      have HB2 := Lib.hid hb2
      have HW2 := Lib.hid (HW.out.trans (hb2.mono HW.out.size))
      clear hb2
      have cp := conv_row r2.out l2.out
      have cb := conv_row (HR.out.below HW2.out) HL.out
      rw [HSP.out] at cp
      rw [HSB.out] at cb
      rcases F with ⟨e0, e1, HN⟩ | ⟨e0, e1, HN⟩
      · go_wp2
        go_ret2
        exact .no HN.out HW2.out
      · go_wp2
        go_ret2
        refine ⟨_, true, rfl, by rw [HN.out]; rfl, ?_, HW2.out⟩
        rw [HN.out, Option.getD_some, HOL.out]
        exact ownsRow_below HOWN2.out HB2.out

/-- **The document's Unpack**, at whatever slice and numbers. -/
theorem refUnpack_any (a : Option Addr) (len cap : Nat) (b : List Int) (n v : Int) (w : World) (hl : b.length = len) (h : RowIn .u8 w a cap b) :
    Calls Try.prog 13 #[.slice a len cap, .int .i64 n, .int .i64 v] w (UnpackIs b n v w) := by
  by_cases hc : K.size n v = len
  · have hin : 0 ≤ n ∧ n ≤ 400 ∧ 0 ≤ v ∧ v ≤ 32 := by
      by_cases hh : 0 ≤ n ∧ n ≤ 400 ∧ 0 ≤ v ∧ v ≤ 32
      · exact hh
      · rw [K.size_no hh] at hc; omega
    obtain ⟨m, rfl⟩ : ∃ m : Nat, n = m := ⟨n.toNat, by omega⟩
    obtain ⟨u, rfl⟩ : ∃ u : Nat, v = u := ⟨v.toNat, by omega⟩
    rw [K.size_in (by omega) (by omega)] at hc
    exact refUnpack_in a len cap b m u w hl h (by omega) (by omega) (by exact_mod_cast hc)
  · exact refUnpack_no a len cap b n v w hl hc
/-- What the document's Unpack tells, as a slice. -/
theorem refUnpackRow_any (a : Option Addr) (len cap : Nat) (b : List Int) (n v : Int) (w : World) (hl : b.length = len) (h : RowIn .u8 w a cap b) : Calls Try.prog 13 #[.slice a len cap, .int .i64 n, .int .i64 v] w fun e w' =>
    ∃ a' cap' n', e = .returned (.tuple #[.slice a' n' cap', .bool (K.unpack b n v).isSome]) ∧ Hid (((K.unpack b n v).getD []).length = n') ∧ Hid (RowIn .i64 w' a' cap' ((K.unpack b n v).getD [])) ∧ Below w.heap.size w w' :=
  (refUnpack_any a len cap b n v w hl h).mono fun e w' ⟨x, ok, he, hok, ho, hb⟩ => by
    obtain ⟨a', cap', rfl, _, hr⟩ := ownsRow_rowIn ho (K.unpack_wf b n v)
    exact ⟨a', cap', _, by rw [he, hok], rfl, hr, hb⟩
end Go.Proofs.Ytjonpipeopamnaa
