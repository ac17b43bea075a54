/-
  Walk of moorings/pack.Unpack, for every slice of bytes, and every two numbers.
-/
import Derived.Test.YtjonpipeopamnaaKPack
import Derived.Laws.CopyOwn
namespace Go.Proofs.Ytjonpipeopamnaa
open Go.RowKit

/-- What Unpack returns. -/
def UnpackIs (b : List Int) (n v : Int) (w : World) (e : Ending) (w' : World) : Prop :=
  ∃ x ok, e = .returned (.tuple #[x, .bool ok]) ∧ ok = (K.unpack b n v).isSome ∧ w'.ownsRow w.heap.size 3 1 x ((K.unpack b n v).getD []).length (((K.unpack b n v).getD []).map (Value.int .i64)) ∧ Below w.heap.size w w'
theorem UnpackIs.no {b : List Int} {n v : Int} {w w' : World} (h : K.unpack b n v = none) (hb : Below w.heap.size w w') : UnpackIs b n v w (.returned (.tuple #[.slice none 0 0, .bool false])) w' := by
  refine ⟨_, _, rfl, ?_, ?_, hb⟩ <;> rw [h]
  · rfl
  · exact World.ownsRow_nil _ _ _ _

theorem unpack_no (a : Option Addr) (len cap : Nat) (b : List Int) (n v : Int) (w : World) (hl : b.length = len) (hn : K.size n v ≠ len) :
    Calls Try.prog 12 #[.slice a len cap, .int .i64 n, .int .i64 v] w (UnpackIs b n v w) := by
  have HN : Hid (K.unpack b n v = none) := Lib.hid (by
    cases hu : K.unpack b n v with
    | none => rfl
    | some l => have := K.unpack_size hu; omega)
  obtain ⟨s, hs⟩ : ∃ s, K.size n v = s := ⟨_, rfl⟩
  have HS := Lib.hid hs
  rw [hs] at hn
  clear hl hs
  by_cases h0 : s < 0
  · clear hn
    go_enter Try.func12, Try.ntmps12
    go_wp2
    go_step3
    go_wp2_with fail
    refine (size_any _ _ _).mono ?_
    rintro e w1 ⟨rfl, hb⟩
    rw [HS.out]
    have HB := Lib.hid hb
    clear hb
    go_wp2
    (try rw [Exit.noGoto_ret])
    go_ret2
    exact .no HN.out HB.out
  · have hne : (s != (len : Int)) = true := by simpa using hn
    clear hn
    go_enter Try.func12, Try.ntmps12
    go_wp2
    go_step3
    go_wp2_with fail
    refine (size_any _ _ _).mono ?_
    rintro e w1 ⟨rfl, hb⟩
    rw [HS.out]
    have HB := Lib.hid hb
    clear hb
    go_wp2
    (try rw [Exit.noGoto_ret])
    go_ret2
    exact .no HN.out HB.out

theorem bit_to (g at_ o y : Nat) (w : World) (hy : K.bit o (at_ % 8) = y) (ha : at_ < 12800) (ho : o < 256) (hc : w.cell? ⟨g, at_ / 8, none⟩ = some (.int .u8 o)) :
    Calls Try.prog 25 #[.pointer (some ⟨g, 0, none⟩), .int .i64 at_] w fun e w' => e = .returned (.int .i64 (y : Nat)) ∧ w = w' := by
  subst hy
  exact bit_any g at_ o w ha ho hc

theorem i64_or_of {o b k : Nat} (ho : o < 2 ^ k) (hb : b < 2) (hk : k < 32) : bits .or .i64 (o : Int) (wrap64 ((b : Int) * 2 ^ k)) = (o + b * 2 ^ k : Nat) := by
  have h1 : 2 ^ k ≤ 2 ^ 31 := Nat.pow_le_pow_right (by decide) (by omega)
  have h2 : b * 2 ^ k ≤ 1 * 2 ^ 31 := Nat.mul_le_mul (by omega) h1
  have e : ((b : Int) * 2 ^ k) = ((b * 2 ^ k : Nat) : Int) := by simp
  have h3 := i64_or (a := o) (b := b * 2 ^ k) (by omega) (by omega)
  rw [K.or_add ho] at h3
  rw [e, IntWalk.wrap64_in _ (by omega), h3]

/-- A bit of a number is laid. -/
theorem nums_step {N k o b h n v : Nat} {w : World} {t : TypeId} (hB : Blok w h t ((K.dig (2 ^ v) n (N % 2 ^ k)).map (Value.int .i64)).toArray) (hv : 0 < v) (ho : (K.dig (2 ^ v) n (N % 2 ^ k)).getD (k / v) 0 = (o : Int)) (hb : b = K.bit N k) (hk : k / v < n) :
    Blok ((w.setCell ⟨h, k / v, none⟩ (.int .i64 (o + b * 2 ^ (k % v) : Nat))).drew) h t ((K.dig (2 ^ v) n (N % 2 ^ (k + 1))).map (Value.int .i64)).toArray := by
  have h1 := (hB.set (k / v) (.int .i64 (o + b * 2 ^ (k % v) : Nat))).drew
  have h2 := K.dig_step (w := v) hv n N k hk
  rw [ho, ← hb] at h2
  have h3 : (((K.dig (2 ^ v) n (N % 2 ^ k)).map (Value.int .i64)).toArray).setIfInBounds (k / v) (.int .i64 (o + b * 2 ^ (k % v) : Nat)) = ((K.dig (2 ^ v) n (N % 2 ^ (k + 1))).map (Value.int .i64)).toArray := by
    rw [← h2]
    apply Array.ext'
    simp
  rwa [h3] at h1

/-- What holds where Unpack's label stands, m rounds ahead of the end. -/
def UnpackJ (a : Option Addr) (len cap n v s p N : Nat) (w : World) (m : Nat) (a' : Act) (w' : World) : Prop :=
  ∃ (k g h : Nat) (u3 u4 u5 u6 u7 u12 u13 u14 u15 u16 u17 u18 u19 u20 u21 u22 u23 u24 u25 u26 u27 u28 u29 u30 u31 u32 u33 u34 u35 u36 u37 u38 u39 u40 u41 u42 u43 u44 u45 u46 u47 u48 u49 u50 u51 u52 u53 u54 u55 u56 u57 u58 u59 : Value), a' = { tmps := #[.slice a len cap, .int .i64 n, .int .i64 v, u3, u4, u5, u6, u7, .int .i64 s, .pointer (some ⟨g, 0, none⟩), .slice (some ⟨h, 0, none⟩) n n, .int .i64 k, u12, u13, u14, u15, u16, u17, u18, u19, u20, u21, u22, u23, u24, u25, u26, u27, u28, u29, u30, u31, u32, u33, u34, u35, u36, u37, u38, u39, u40, u41, u42, u43, u44, u45, u46, u47, u48, u49, u50, u51, u52, u53, u54, u55, u56, u57, u58, u59], defers := [] } ∧ k + m = 8 * s ∧ w.heap.size ≤ g ∧ w.heap.size ≤ h ∧ g ≠ h ∧ Hid (N % 2 ^ k < 2 ^ p) ∧ Hid (Blok w' g 41 ((K.dig 256 1600 N).map (Value.int .u8)).toArray) ∧ Hid (Blok w' h 3 ((K.dig (2 ^ v) n (N % 2 ^ k)).map (Value.int .i64)).toArray) ∧ Hid (Below w.heap.size w w')

theorem splice_zeros {b : List Int} {s : Nat} (hb : K.isd 256 b) (hl : b.length = s) (hs : s ≤ 1600) : splice ((List.replicate 1600 (0 : Int)).map (Value.int .u8)) 0 (b.map (Value.int .u8)) = (K.dig 256 1600 (K.val 256 b)).map (Value.int .u8) := by
  have h1 := K.dig_add 256 s (1600 - s) (K.val 256 b)
  rw [show s + (1600 - s) = 1600 by omega, ← hl, K.dig_val b hb, Nat.div_eq_of_lt (K.val_lt b hb), K.dig_zero] at h1
  rw [h1]
  unfold splice
  rw [List.take_zero, List.nil_append, Nat.zero_add, List.length_map, ← List.map_drop, List.drop_replicate, List.map_append]

theorem goInt_nat (n : Nat) : goInt (n : Int) = .int .i64 n := rfl
/-- What 'copy' does with the slots. -/
theorem copy_slots (a : Option Addr) (s cap g : Nat) (b : List Int) (w : World) (hg : Blok w g 41 K.zeros) (hr : RowIn .u8 w a cap b) (hl : b.length = s) (hs : s ≤ 1600) :
    ∃ w2, (Builtin.copy_ #[23, 23] 3 #[.slice (some ⟨g, 0, none⟩) 1600 1600, .slice a s cap]).run Try.prog w = .ok (.int .i64 s) w2 ∧ Blok w2 g 41 (splice ((List.replicate 1600 (0 : Int)).map (Value.int .u8)) 0 (b.map (Value.int .u8))).toArray ∧ ∀ (B : Nat) (w0 : World), B ≤ g → Below B w0 w → Below B w0 w2 := by
  have hsz : (Try.prog.info? 5).map (·.size) = some 1 := by kernel_rfl
  have hlz : ((List.replicate 1600 (0 : Int)).map (Value.int .u8)).length = 1600 := by rw [List.length_map, List.length_replicate]
  by_cases h0 : s = 0
  · subst h0
    obtain rfl : b = [] := List.eq_nil_of_length_eq_zero hl
    refine ⟨w, run_copy_none w _ _ _ 5 _ _ _ _ _ _ Try.underlying23 hsz (by simp), ?_, fun _ _ _ h => h⟩
    have e : splice ((List.replicate 1600 (0 : Int)).map (Value.int .u8)) 0 (([] : List Int).map (Value.int .u8)) = (List.replicate 1600 (0 : Int)).map (Value.int .u8) := by
      unfold splice
      rw [List.map_nil, List.take_zero, List.nil_append, List.nil_append, Nat.zero_add, List.length_nil, List.drop_zero]
    rw [e]
    exact hg
  · obtain ⟨q, off, rfl, hq, _⟩ := row_at hr (i := 0) (by omega)
    have hsrc : ∀ (j : Nat) (u : Value), (b.map (Value.int .u8))[j]? = some u → w.cell? ((⟨q, off, none⟩ : Addr).add j) = some u := by
      intro j u hj
      obtain ⟨hj', hv⟩ := List.getElem?_eq_some_iff.1 hj
      rw [List.length_map] at hj'
      obtain ⟨_, _, he, _, hc⟩ := row_at hr (i := j) hj'
      cases he
      rw [WideShapes.add_plain, hc, ← hv]
      simp [hj']
    have hrun := run_copy_row (P := Try.prog) w 23 23 3 5 g 0 1600 1600 ⟨q, off, none⟩ s cap K.zeros 41 (b.map (Value.int .u8)) Try.underlying23 hsz hg (by rw [List.length_map, hl]; exact (Nat.min_eq_left hs).symm) hsrc (by rw [List.length_map, hl, K.zeros, List.size_toArray, hlz]; omega) (ints_one _ _)
    rw [List.length_map, hl] at hrun
    refine ⟨_, hrun, ?_, fun B w0 hB hb => below_setRow hb hB _⟩
    have h1 := setRow_heap w g K.zeros (splice ((List.replicate 1600 (0 : Int)).map (Value.int .u8)) 0 (b.map (Value.int .u8))).toArray 41 (0, 0) hg
    unfold splice at h1 ⊢
    rw [List.length_map, hl] at h1 ⊢
    rw [List.append_assoc]
    exact h1

set_option maxRecDepth 100000 in
set_option maxHeartbeats 1000000 in
theorem unpack_in (a : Option Addr) (len cap : Nat) (b : List Int) (n v : Nat) (w : World) (hl : b.length = len) (hr : RowIn .u8 w a cap b) (h4 : n ≤ 400) (hv : v ≤ 32) (hn : (n * v + 7) / 8 = len) :
    Calls Try.prog 12 #[.slice a len cap, .int .i64 n, .int .i64 v] w (UnpackIs b n v w) := by
  obtain ⟨i0, hi, hz0, hz1, hz2⟩ := info_parts info3
  have hbd := K.isd_byte hr.2.1
  obtain ⟨N, hN⟩ : ∃ N, K.val 256 b = N := ⟨_, rfl⟩
  have HS := Lib.hid (K.size_in (n := n) (w := v) h4 hv)
  have hp : n * v ≤ 400 * 32 := Nat.mul_le_mul h4 hv
  obtain ⟨p, hp'⟩ : ∃ p, n * v = p := ⟨_, rfl⟩
  have hpi : (n : Int) * (v : Int) = p := by rw [← hp']; simp
  rw [hp'] at hp HS hn
  obtain ⟨s, hs⟩ : ∃ s, (p + 7) / 8 = s := ⟨_, rfl⟩
  rw [hs] at HS hn
  subst hn
  have hvl := K.val_lt b hbd
  rw [hN, hl, K.pow_8] at hvl
  have HV := Lib.hid hvl
  have HU : Hid (K.unpack b n v = if N < 2 ^ p then some (K.dig (2 ^ v) n N) else none) := Lib.hid (by
    unfold K.unpack
    rw [Int.toNat_natCast, Int.toNat_natCast, hN, hp', hl, hs]
    by_cases hh : N < 2 ^ p
    · rw [if_pos hh, if_pos ⟨by omega, by omega, by omega, by omega, rfl, hh⟩]
    · rw [if_neg hh, if_neg fun h => hh h.2.2.2.2.2])
  have HSP := Lib.hid (splice_zeros hbd hl (by omega))
  rw [hN] at HSP
  have HL := Lib.hid hl
  have HR := Lib.hid hr
  have HNV := Lib.hid hN
  clear hl hr hbd hvl hN
  have hz := zero_slots
  have hzn := K.zeros_ne
  go_enter Try.func12, Try.ntmps12
  go_wp2
  refine wp_scope_goto 0 (UnpackJ a s cap n v s p N w) rfl ?pass ?first
  case first =>
    intro hpass
    go_wp2_with fail
    refine (size_any _ _ _).mono ?_
    rintro e w1 ⟨rfl, hb⟩
    rw [HS.out]
    have HB := Lib.hid hb
    clear hb
    have hne : ((s : Int) != (s : Int)) = false := by simp
    have HB1 := Lib.hid (HB.out.alloc HB.out.size (.cells K.zeros 41))
    obtain ⟨w2, hrun, hg2, hb2⟩ := copy_slots a s cap w1.heap.size b (w1.alloc (.cells K.zeros 41)) (Blok.new w1 _ _) (HR.out.below HB1.out) HL.out (by omega)
    rw [HSP.out] at hg2
    have HG2 := Lib.hid hg2
    have HB2 := Lib.hid (hb2 w.heap.size w HB.out.size HB1.out)
    clear hg2 hb2
    go_wp2_with (at_make; refine wpList_make_row _ rfl _ _ 22 rfl 3 i0 (.int .i64 0) Try.underlying22 hi hz0 hz1 rfl .i64 .i64 n rfl rfl (by rw [hz2]; omega) (by omega) ?_)
    go_step3
    refine (by assumption : ∀ (a : Act) (w : World), Code.wp _ _ _ a w → _) _ _ ?_
    refine hpass (8 * s) _ _ ⟨0, w1.heap.size, w2.heap.size, _, _, _, _, _, _, _, _, _, _, _, _, _, _, _, _, _, _, _, _, _, _, _, _, _, _, _, _, _, _, _, _, _, _, _, _, _, _, _, _, _, _, _, _, _, _, _, _, _, _, _, _, _, rfl, by omega, HB.out.size, HB2.out.size, ?_, Lib.hid ?_, Lib.hid (HG2.out.alloc _), Lib.hid ?_, Lib.hid (HB2.out.alloc HB2.out.size _)⟩
    · have := HG2.out.lt; omega
    · rw [Nat.pow_zero, Nat.mod_one]; exact Nat.two_pow_pos p
    · rw [Nat.pow_zero, Nat.mod_one, K.dig_zero, ← made_ints]
      exact Blok.new w2 _ _
  case pass =>
    clear hz hzn
    rintro m a' w' ⟨k, g, h, u3, u4, u5, u6, u7, u12, u13, u14, u15, u16, u17, u18, u19, u20, u21, u22, u23, u24, u25, u26, u27, u28, u29, u30, u31, u32, u33, u34, u35, u36, u37, u38, u39, u40, u41, u42, u43, u44, u45, u46, u47, u48, u49, u50, u51, u52, u53, u54, u55, u56, u57, u58, u59, rfl, hkm, hg, hh, hgh, HM, HC, HD, HW⟩
    by_cases hlt : k < 8 * s
    · have hlt' : (k : Int) < (s : Int) * 8 := by omega
      obtain ⟨o, ho⟩ : ∃ o, N / 256 ^ (k / 8) % 256 = o := ⟨_, rfl⟩
      have ho2 : o < 256 := by rw [← ho]; exact Nat.mod_lt _ (by decide)
      have hk8 : k / 8 < 1600 := by omega
      have hcell : w'.cell? ⟨g, k / 8, none⟩ = some (.int .u8 o) := by
        rw [HC.out.cell, ← ho, List.getElem?_toArray, List.getElem?_map]
        have h1 := K.dig_get 256 1600 N (k / 8) hk8
        rw [List.getD_eq_getElem?_getD] at h1
        cases h2 : (K.dig 256 1600 N)[k / 8]? with
        | none =>
          rw [List.getElem?_eq_none_iff, K.dig_len] at h2
          omega
        | some x => rw [h2] at h1; simp at h1; rw [h1]; simp
      have hbit : K.bit o (k % 8) = K.bit N k := by
        rw [← ho]
        exact K.bit_digit (w := 8) N k (by decide)
      obtain ⟨y, hy⟩ : ∃ y, K.bit N k = y := ⟨_, rfl⟩
      rw [hy] at hbit
      have HY := Lib.hid hy
      have hy2 : y < 2 := by rw [← hy]; exact K.bit_lt N k
      clear ho hy
      by_cases hkp : k < p
      · have hv0 : 0 < v := by
          rcases Nat.eq_zero_or_pos v with rfl | h
          · omega
          · exact h
        have hkv : k / v < n := Nat.div_lt_of_lt_mul (by rw [Nat.mul_comm, hp']; exact hkp)
        have hr32 : k % v < 32 := by have := Nat.mod_lt k hv0; omega
        obtain ⟨o2, hq1, hq2⟩ := K.old_lt (w := v) (m := n) N k hkv
        have HQ1 := Lib.hid hq1
        have HKV := Lib.hid hkv
        have hlcell : w'.cell? ⟨h, k / v, none⟩ = some (.int .i64 o2) := by
          rw [HD.out.cell]
          simp [K.dig_len, hkv, ← hq1]
        have hlfroz : w'.frozen? ⟨h, k / v, none⟩ = false := HD.out.frozen _
        have HOR := Lib.hid (i64_or_of hq2 hy2 hr32)
        have HST := Lib.hid fun hh => nums_step (o := o2) (b := y) HD.out hv0 hq1 hh hkv
        rw [HOR.out.symm] at HST
        clear hq1
        obtain ⟨i, hi⟩ : ∃ i, k / v = i := ⟨_, rfl⟩
        obtain ⟨r, hr⟩ : ∃ r, k % v = r := ⟨_, rfl⟩
        have e1 : (k : Int) / (v : Int) = (i : Int) := by rw [← hi]; simp
        have e2 : (k : Int) % (v : Int) = (r : Int) := by rw [← hr]; simp
        have t1 : Int.tdiv (k : Int) (v : Int) = (i : Int) := by rw [Int.tdiv_eq_ediv_of_nonneg (by omega), e1]
        have t2 : Int.tmod (k : Int) (v : Int) = (r : Int) := by rw [Int.tmod_eq_emod_of_nonneg (by omega), e2]
        have hwi : IntKind.i64.wrap (i : Int) = i := by rw [IntKind.wrap_i64]; omega
        have hv1 : ¬ v = 0 := by omega
        have hv2 : ¬ (v : Int) = 0 := by omega
        have HI1 := Lib.hid hi
        have HR1 := Lib.hid hr
        rw [hi] at hkv hlcell hlfroz HST
        rw [hr] at hr32 HST
        clear hi hr
        go_wp2_with (go_at_call 25; refine (bit_to g k o y _ hbit (by omega) ho2 hcell).mono ?_; rintro e w9 ⟨rfl, rfl⟩)
        go_region
        go_wp2
        go_step3
        have h1 : N % 2 ^ (k + 1) < 2 ^ p := Nat.lt_of_lt_of_le (Nat.mod_lt _ (Nat.two_pow_pos _)) (Nat.pow_le_pow_right (by decide) hkp)
        exact ⟨rfl, m - 1, by omega, k + 1, g, h, _, _, _, _, _, _, _, _, _, _, _, _, _, _, _, _, _, _, _, _, _, _, _, _, _, _, _, _, _, _, _, _, _, _, _, _, _, _, _, _, _, _, _, _, _, _, _, _, _, _, _, _, _, rfl, by omega, hg, hh, hgh, Lib.hid h1, Lib.hid (HC.out.far (p := ⟨h, i, none⟩) hgh _).drew, Lib.hid (HST.out HY.out.symm), Lib.hid (HW.out.setCell (p := ⟨h, i, none⟩) hh _).drew⟩
      · have hd : decide ((k : Int) < (p : Int)) = false := by simp; omega
        by_cases hy0 : y = 0
        · subst hy0
          go_wp2_with (go_at_call 25; refine (bit_to g k o 0 _ hbit (by omega) ho2 hcell).mono ?_; rintro e w9 ⟨rfl, rfl⟩)
          go_step3
          have hmod : N % 2 ^ (k + 1) = N % 2 ^ k := by rw [K.mod_succ, HY.out, Nat.mul_zero, Nat.add_zero]
          exact ⟨rfl, m - 1, by omega, k + 1, g, h, _, _, _, _, _, _, _, _, _, _, _, _, _, _, _, _, _, _, _, _, _, _, _, _, _, _, _, _, _, _, _, _, _, _, _, _, _, _, _, _, _, _, _, _, _, _, _, _, _, _, _, _, _, rfl, by omega, hg, hh, hgh, by rw [hmod]; exact HM, HC, by rw [hmod]; exact HD, HW⟩
        · obtain rfl : y = 1 := by omega
          go_wp2_with (go_at_call 25; refine (bit_to g k o 1 _ hbit (by omega) ho2 hcell).mono ?_; rintro e w9 ⟨rfl, rfl⟩)
          simp only [Exit.jump]
          go_ret2
          refine .no ?_ HW.out
          have h1 := K.bit_ge HY.out
          have h2 : 2 ^ p ≤ 2 ^ k := Nat.pow_le_pow_right (by decide) (by omega)
          rw [HU.out, if_neg (by omega)]
    · obtain rfl : k = 8 * s := by omega
      have hd : decide (((8 * s : Nat) : Int) < (s : Int) * 8) = false := by simp; omega
      go_wp2
      simp only [Exit.jump]
      go_ret2
      have hm := HM.out
      have hd2 := HD.out
      rw [Nat.mod_eq_of_lt HV.out] at hm hd2
      refine ⟨_, true, rfl, by rw [HU.out, if_pos hm]; rfl, ?_, HW.out⟩
      rw [HU.out, if_pos hm, Option.getD_some, K.dig_len]
      exact hd2.own hh (by rw [List.length_map, K.dig_len]) (Nat.le_refl _) (by unfold maxLen; omega) (by rw [List.length_map, K.dig_len])

/-- **Unpack**, at whatever slice and numbers. -/
theorem unpack_any (a : Option Addr) (len cap : Nat) (b : List Int) (n v : Int) (w : World) (hl : b.length = len) (h : RowIn .u8 w a cap b) :
    Calls Try.prog 12 #[.slice a len cap, .int .i64 n, .int .i64 v] w (UnpackIs b n v w) := by
  by_cases hc : K.size n v = len
  · have hin : 0 ≤ n ∧ n ≤ 400 ∧ 0 ≤ v ∧ v ≤ 32 := by
      by_cases hh : 0 ≤ n ∧ n ≤ 400 ∧ 0 ≤ v ∧ v ≤ 32
      · exact hh
      · rw [K.size_no hh] at hc; omega
    obtain ⟨m, rfl⟩ : ∃ m : Nat, n = m := ⟨n.toNat, by omega⟩
    obtain ⟨u, rfl⟩ : ∃ u : Nat, v = u := ⟨v.toNat, by omega⟩
    rw [K.size_in (by omega) (by omega)] at hc
    exact unpack_in a len cap b m u w hl h (by omega) (by omega) (by exact_mod_cast hc)
  · exact unpack_no a len cap b n v w hl hc
/-- What Unpack tells, as a slice. -/
theorem unpackRow_any (a : Option Addr) (len cap : Nat) (b : List Int) (n v : Int) (w : World) (hl : b.length = len) (h : RowIn .u8 w a cap b) : Calls Try.prog 12 #[.slice a len cap, .int .i64 n, .int .i64 v] w fun e w' =>
    ∃ a' cap' n', e = .returned (.tuple #[.slice a' n' cap', .bool (K.unpack b n v).isSome]) ∧ Hid (((K.unpack b n v).getD []).length = n') ∧ Hid (RowIn .i64 w' a' cap' ((K.unpack b n v).getD [])) ∧ Below w.heap.size w w' :=
  (unpack_any a len cap b n v w hl h).mono fun e w' ⟨x, ok, he, hok, ho, hb⟩ => by
    obtain ⟨a', cap', rfl, _, hr⟩ := ownsRow_rowIn ho (K.unpack_wf b n v)
    exact ⟨a', cap', _, by rw [he, hok], rfl, hr, hb⟩
end Go.Proofs.Ytjonpipeopamnaa
