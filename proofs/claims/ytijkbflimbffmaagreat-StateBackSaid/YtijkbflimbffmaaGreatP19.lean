import Derived.Laws.CopyOwn
import Derived.Test.YtijkbflimbffmaaGreatP18
import Derived.Test.YtijkbflimbffmaaGreatP17
import Derived.Test.YtijkbflimbffmaaGreatP5
namespace Go.Proofs.YtijkbflimbffmaaGreat
set_option maxHeartbeats 1000000
set_option maxRecDepth 100000
open Go.RowKit
def zn7 (b : List Int) (n v : Int) (w : World) (e : Ending) (w' : World) : Prop :=
 ∃ x ok, e = .returned (.tuple #[x, .bool ok]) /\ ok = (K.unpack b n v).isSome /\ w'.ownsRow w.heap.size 3 1 x ((K.unpack b n v).getD []).length (((K.unpack b n v).getD []).map (Value.int .i64)) /\ Below w.heap.size w w'
theorem zn7.no {b : List Int} {n v : Int} {w w' : World} (h : K.unpack b n v = none) (hb : Below w.heap.size w w') : zn7 b n v w (.returned (.tuple #[.slice none 0 0, .bool false])) w' := by
 refine ⟨_, _, rfl, ?_, ?_, hb⟩ <;> rw [h]
 ·rfl
 ·exact World.ownsRow_nil _ _ _ _
theorem zrm (a : Option Addr) (len cap : Nat) (b : List Int) (n v : Int) (w : World) (hl : b.length = len) (hn : K.size n v ≠ len) :
  Calls Tryz.prog 124 #[.slice a len cap, .int .i64 n, .int .i64 v] w (zn7 b n v w) := by
 have HN : Hid (K.unpack b n v = none) := Zh (by
  cases hu : K.unpack b n v with
  | none => rfl
  | some l => have := K.unpack_size hu; omega)
 obtain ⟨s, hs⟩ : ∃ s, K.size n v = s := ⟨_, rfl⟩
 have HS := Zh hs
 rw [hs] at hn
 clear hl hs
 by_cases h0 : s < 0
 ·clear hn
  go_enter Tryz.func124, Tryz.ntmps124
  go_wp2
  go_step3
  go_wp2_with fail
  refine (znk _ _ _).mono ?_
  rintro e w1 ⟨rfl, hb⟩
  rw [HS.out]
  have HB := Zh hb
  clear hb
  go_wp2
  (try rw [Exit.noGoto_ret])
  go_ret2
  exact .no HN.out HB.out
 ·have hne : (s != (len : Int)) = true := by simpa using hn
  clear hn
  go_enter Tryz.func124, Tryz.ntmps124
  go_wp2
  go_step3
  go_wp2_with fail
  refine (znk _ _ _).mono ?_
  rintro e w1 ⟨rfl, hb⟩
  rw [HS.out]
  have HB := Zh hb
  clear hb
  go_wp2
  (try rw [Exit.noGoto_ret])
  go_ret2
  exact .no HN.out HB.out
theorem zrn (g at_ o y : Nat) (w : World) (hy : K.bit o (at_ % 8) = y) (ha : at_ < 12800) (ho : o < 256) (hc : w.cell? ⟨g, at_ / 8, none⟩ = some (.int .u8 o)) :
  Calls Tryz.prog 193 #[.pointer (some ⟨g, 0, none⟩), .int .i64 at_] w fun e w' => e = .returned (.int .i64 (y : Nat)) /\ w = w' := by
 subst hy
 exact zsx g at_ o w ha ho hc
theorem zro {o b k : Nat} (ho : o < 2 ^ k) (hb : b < 2) (hk : k < 32) : bits .or .i64 (o : Int) (wrap64 ((b : Int) * 2 ^ k)) = (o + b * 2 ^ k : Nat) := by
 have h1 : 2 ^ k <= 2 ^ 31 := Nat.pow_le_pow_right (by decide) (by omega)
 have h2 : b * 2 ^ k <= 1 * 2 ^ 31 := Nat.mul_le_mul (by omega) h1
 have e : ((b : Int) * 2 ^ k) = ((b * 2 ^ k : Nat) : Int) := by simp
 have h3 := ztj (a := o) (b := b * 2 ^ k) (by omega) (by omega)
 rw [K.or_add ho] at h3
 rw [e, IntWalk.wrap64_in _ (by omega), h3]
theorem zrp {N k o b h n v : Nat} {w : World} {t : TypeId} (hB : Blok w h t ((K.dig (2 ^ v) n (N % 2 ^ k)).map (Value.int .i64)).toArray) (hv : 0 < v) (ho : (K.dig (2 ^ v) n (N % 2 ^ k)).getD (k / v) 0 = (o : Int)) (hb : b = K.bit N k) (hk : k / v < n) :
  Blok ((w.setCell ⟨h, k / v, none⟩ (.int .i64 (o + b * 2 ^ (k % v) : Nat))).drew) h t ((K.dig (2 ^ v) n (N % 2 ^ (k + 1))).map (Value.int .i64)).toArray := by
 have h1 := (hB.set (k / v) (.int .i64 (o + b * 2 ^ (k % v) : Nat))).drew
 have h2 := K.dig_step (w := v) hv n N k hk
 rw [ho, <- hb] at h2
 have h3 : (((K.dig (2 ^ v) n (N % 2 ^ k)).map (Value.int .i64)).toArray).setIfInBounds (k / v) (.int .i64 (o + b * 2 ^ (k % v) : Nat)) = ((K.dig (2 ^ v) n (N % 2 ^ (k + 1))).map (Value.int .i64)).toArray := by
  rw [<- h2]
  apply Array.ext'
  simp
 rwa [h3] at h1
def zs2 (a : Option Addr) (len cap n v s p N : Nat) (w : World) (m : Nat) (a' : Act) (w' : World) : Prop :=
 ∃ (k g h : Nat) (u3 u4 u5 u6 u7 u12 u13 u14 u15 u16 u17 u18 u19 u20 u21 u22 u23 u24 u25 u26 u27 u28 u29 u30 u31 u32 u33 u34 u35 u36 u37 u38 u39 u40 u41 u42 u43 u44 u45 u46 u47 u48 u49 u50 u51 u52 u53 u54 u55 u56 u57 u58 u59 : Value), a' = { tmps := #[.slice a len cap, .int .i64 n, .int .i64 v, u3, u4, u5, u6, u7, .int .i64 s, .pointer (some ⟨g, 0, none⟩), .slice (some ⟨h, 0, none⟩) n n, .int .i64 k, u12, u13, u14, u15, u16, u17, u18, u19, u20, u21, u22, u23, u24, u25, u26, u27, u28, u29, u30, u31, u32, u33, u34, u35, u36, u37, u38, u39, u40, u41, u42, u43, u44, u45, u46, u47, u48, u49, u50, u51, u52, u53, u54, u55, u56, u57, u58, u59], defers := [] } /\ k + m = 8 * s /\ w.heap.size <= g /\ w.heap.size <= h /\ g ≠ h /\ Hid (N % 2 ^ k < 2 ^ p) /\ Hid (Blok w' g 201 ((K.dig 256 1600 N).map (Value.int .u8)).toArray) /\ Hid (Blok w' h 3 ((K.dig (2 ^ v) n (N % 2 ^ k)).map (Value.int .i64)).toArray) /\ Hid (Below w.heap.size w w')
theorem zpn {b : List Int} {s : Nat} (hb : K.isd 256 b) (hl : b.length = s) (hs : s <= 1600) : splice ((List.replicate 1600 (0 : Int)).map (Value.int .u8)) 0 (b.map (Value.int .u8)) = (K.dig 256 1600 (K.val 256 b)).map (Value.int .u8) := by
 have h1 := K.dig_add 256 s (1600 - s) (K.val 256 b)
 rw [show s + (1600 - s) = 1600 by omega, <- hl, K.dig_val b hb, Nat.div_eq_of_lt (K.val_lt b hb), K.dig_zero] at h1
 rw [h1]
 unfold splice
 rw [List.take_zero, List.nil_append, Nat.zero_add, List.length_map, <- List.map_drop, List.drop_replicate, List.map_append]
theorem zqs (a : Option Addr) (s cap g : Nat) (b : List Int) (w : World) (hg : Blok w g 201 K.zeros) (hr : zfv .u8 w a cap b) (hl : b.length = s) (hs : s <= 1600) :
  ∃ w2, (Builtin.copy_ #[36, 36] 3 #[.slice (some ⟨g, 0, none⟩) 1600 1600, .slice a s cap]).run Tryz.prog w = .ok (.int .i64 s) w2 /\ Blok w2 g 201 (splice ((List.replicate 1600 (0 : Int)).map (Value.int .u8)) 0 (b.map (Value.int .u8))).toArray /\ ∀ (B : Nat) (w0 : World), B <= g -> Below B w0 w -> Below B w0 w2 := by
 have hsz : (Tryz.prog.info? 5).map (·.size) = some 1 := by kernel_rfl
 have hlz : ((List.replicate 1600 (0 : Int)).map (Value.int .u8)).length = 1600 := by rw [List.length_map, List.length_replicate]
 by_cases h0 : s = 0
 ·subst h0
  obtain rfl : b = [] := List.eq_nil_of_length_eq_zero hl
  refine ⟨w, run_copy_none w _ _ _ 5 _ _ _ _ _ _ Tryz.underlying36 hsz (by simp), ?_, fun _ _ _ h => h⟩
  have e : splice ((List.replicate 1600 (0 : Int)).map (Value.int .u8)) 0 (([] : List Int).map (Value.int .u8)) = (List.replicate 1600 (0 : Int)).map (Value.int .u8) := by
   unfold splice
   rw [List.map_nil, List.take_zero, List.nil_append, List.nil_append, Nat.zero_add, List.length_nil, List.drop_zero]
  rw [e]
  exact hg
 ·obtain ⟨q, off, rfl, hq, _⟩ := zl4 hr (i := 0) (by omega)
  have hsrc : ∀ (j : Nat) (u : Value), (b.map (Value.int .u8))[j]? = some u -> w.cell? ((⟨q, off, none⟩ : Addr).add j) = some u := by
   intro j u hj
   obtain ⟨hj', hv⟩ := List.getElem?_eq_some_iff.1 hj
   rw [List.length_map] at hj'
   obtain ⟨_, _, he, _, hc⟩ := zl4 hr (i := j) hj'
   cases he
   rw [WideShapes.add_plain, hc, <- hv]
   simp [hj']
  have hrun := run_copy_row (P := Tryz.prog) w 36 36 3 5 g 0 1600 1600 ⟨q, off, none⟩ s cap K.zeros 201 (b.map (Value.int .u8)) Tryz.underlying36 hsz hg (by rw [List.length_map, hl]; exact (Nat.min_eq_left hs).symm) hsrc (by rw [List.length_map, hl, K.zeros, List.size_toArray, hlz]; omega) (zoh _ _)
  rw [List.length_map, hl] at hrun
  refine ⟨_, hrun, ?_, fun B w0 hB hb => below_setRow hb hB _⟩
  have h1 := setRow_heap w g K.zeros (splice ((List.replicate 1600 (0 : Int)).map (Value.int .u8)) 0 (b.map (Value.int .u8))).toArray 201 (0, 0) hg
  unfold splice at h1 ⊢
  rw [List.length_map, hl] at h1 ⊢
  rw [List.append_assoc]
  exact h1
theorem zrq (a : Option Addr) (len cap : Nat) (b : List Int) (n v : Nat) (w : World) (hl : b.length = len) (hr : zfv .u8 w a cap b) (h4 : n <= 400) (hv : v <= 32) (hn : (n * v + 7) / 8 = len) :
  Calls Tryz.prog 124 #[.slice a len cap, .int .i64 n, .int .i64 v] w (zn7 b n v w) := by
 obtain ⟨i0, hi, hz0, hz1, hz2⟩ := info_parts zl3
 have hbd := K.isd_byte hr.2.1
 obtain ⟨N, hN⟩ : ∃ N, K.val 256 b = N := ⟨_, rfl⟩
 have HS := Zh (K.size_in (n := n) (w := v) h4 hv)
 have hp : n * v <= 400 * 32 := Nat.mul_le_mul h4 hv
 obtain ⟨p, hp'⟩ : ∃ p, n * v = p := ⟨_, rfl⟩
 have hpi : (n : Int) * (v : Int) = p := by rw [<- hp']; simp
 rw [hp'] at hp HS hn
 obtain ⟨s, hs⟩ : ∃ s, (p + 7) / 8 = s := ⟨_, rfl⟩
 rw [hs] at HS hn
 subst hn
 have hvl := K.val_lt b hbd
 rw [hN, hl, K.pow_8] at hvl
 have HV := Zh hvl
 have HU : Hid (K.unpack b n v = if N < 2 ^ p then some (K.dig (2 ^ v) n N) else none) := Zh (by
  unfold K.unpack
  rw [Int.toNat_natCast, Int.toNat_natCast, hN, hp', hl, hs]
  by_cases hh : N < 2 ^ p
  ·rw [if_pos hh, if_pos ⟨by omega, by omega, by omega, by omega, rfl, hh⟩]
  ·rw [if_neg hh, if_neg fun h => hh h.2.2.2.2.2])
 have HSP := Zh (zpn hbd hl (by omega))
 rw [hN] at HSP
 have HL := Zh hl
 have HR := Zh hr
 have HNV := Zh hN
 clear hl hr hbd hvl hN
 have hz := zo3
 have hzn := K.zeros_ne
 go_enter Tryz.func124, Tryz.ntmps124
 go_wp2
 refine zn6 0 (zs2 a s cap n v s p N w) rfl ?pass ?first
 case first =>
  intro hpass
  go_wp2_with fail
  refine (znk _ _ _).mono ?_
  rintro e w1 ⟨rfl, hb⟩
  rw [HS.out]
  have HB := Zh hb
  clear hb
  have hne : ((s : Int) != (s : Int)) = false := by simp
  have HB1 := Zh (HB.out.alloc HB.out.size (.cells K.zeros 201))
  obtain ⟨w2, hrun, hg2, hb2⟩ := zqs a s cap w1.heap.size b (w1.alloc (.cells K.zeros 201)) (Blok.new w1 _ _) (HR.out.below HB1.out) HL.out (by omega)
  rw [HSP.out] at hg2
  have HG2 := Zh hg2
  have HB2 := Zh (hb2 w.heap.size w HB.out.size HB1.out)
  clear hg2 hb2
  go_wp2_with (at_make; refine wpList_make_row _ rfl _ _ 75 rfl 3 i0 (.int .i64 0) Tryz.underlying75 hi hz0 hz1 rfl .i64 .i64 n rfl rfl (by rw [hz2]; omega) (by omega) ?_)
  go_step3
  refine (by assumption : ∀ (a : Act) (w : World), Code.wp _ _ _ a w -> _) _ _ ?_
  refine hpass (8 * s) _ _ ⟨0, w1.heap.size, w2.heap.size, _, _, _, _, _, _, _, _, _, _, _, _, _, _, _, _, _, _, _, _, _, _, _, _, _, _, _, _, _, _, _, _, _, _, _, _, _, _, _, _, _, _, _, _, _, _, _, _, _, _, _, _, _, rfl, by omega, HB.out.size, HB2.out.size, ?_, Zh ?_, Zh (HG2.out.alloc _), Zh ?_, Zh (HB2.out.alloc HB2.out.size _)⟩
  ·have := HG2.out.lt; omega
  ·rw [Nat.pow_zero, Nat.mod_one]; exact Nat.two_pow_pos p
  ·rw [Nat.pow_zero, Nat.mod_one, K.dig_zero, <- zoj]
   exact Blok.new w2 _ _
 case pass =>
  clear hz hzn
  rintro m a' w' ⟨k, g, h, u3, u4, u5, u6, u7, u12, u13, u14, u15, u16, u17, u18, u19, u20, u21, u22, u23, u24, u25, u26, u27, u28, u29, u30, u31, u32, u33, u34, u35, u36, u37, u38, u39, u40, u41, u42, u43, u44, u45, u46, u47, u48, u49, u50, u51, u52, u53, u54, u55, u56, u57, u58, u59, rfl, hkm, hg, hh, hgh, HM, HC, HD, HW⟩
  by_cases hlt : k < 8 * s
  ·have hlt' : (k : Int) < (s : Int) * 8 := by omega
   obtain ⟨o, ho⟩ : ∃ o, N / 256 ^ (k / 8) % 256 = o := ⟨_, rfl⟩
   have ho2 : o < 256 := by rw [<- ho]; exact Nat.mod_lt _ (by decide)
   have hk8 : k / 8 < 1600 := by omega
   have hcell : w'.cell? ⟨g, k / 8, none⟩ = some (.int .u8 o) := by
    rw [HC.out.cell, <- ho, List.getElem?_toArray, List.getElem?_map]
    have h1 := K.dig_get 256 1600 N (k / 8) hk8
    rw [List.getD_eq_getElem?_getD] at h1
    cases h2 : (K.dig 256 1600 N)[k / 8]? with
    | none =>
     rw [List.getElem?_eq_none_iff, K.dig_len] at h2
     omega
    | some x => rw [h2] at h1; simp at h1; rw [h1]; simp
   have hbit : K.bit o (k % 8) = K.bit N k := by
    rw [<- ho]
    exact K.bit_digit (w := 8) N k (by decide)
   obtain ⟨y, hy⟩ : ∃ y, K.bit N k = y := ⟨_, rfl⟩
   rw [hy] at hbit
   have HY := Zh hy
   have hy2 : y < 2 := by rw [<- hy]; exact K.bit_lt N k
   clear ho hy
   by_cases hkp : k < p
   ·have hv0 : 0 < v := by
     rcases Nat.eq_zero_or_pos v with rfl | h
     ·omega
     ·exact h
    have hkv : k / v < n := Nat.div_lt_of_lt_mul (by rw [Nat.mul_comm, hp']; exact hkp)
    have hr32 : k % v < 32 := by have := Nat.mod_lt k hv0; omega
    obtain ⟨o2, hq1, hq2⟩ := K.old_lt (w := v) (m := n) N k hkv
    have HQ1 := Zh hq1
    have HKV := Zh hkv
    have hlcell : w'.cell? ⟨h, k / v, none⟩ = some (.int .i64 o2) := by
     rw [HD.out.cell]
     simp [K.dig_len, hkv, <- hq1]
    have hlfroz : w'.frozen? ⟨h, k / v, none⟩ = false := HD.out.frozen _
    have HOR := Zh (zro hq2 hy2 hr32)
    have HST := Zh fun hh => zrp (o := o2) (b := y) HD.out hv0 hq1 hh hkv
    rw [HOR.out.symm] at HST
    clear hq1
    obtain ⟨i, hi⟩ : ∃ i, k / v = i := ⟨_, rfl⟩
    obtain ⟨r, hr⟩ : ∃ r, k % v = r := ⟨_, rfl⟩
    have e1 : (k : Int) / (v : Int) = (i : Int) := by rw [<- hi]; simp
    have e2 : (k : Int) % (v : Int) = (r : Int) := by rw [<- hr]; simp
    have t1 : Int.tdiv (k : Int) (v : Int) = (i : Int) := by rw [Int.tdiv_eq_ediv_of_nonneg (by omega), e1]
    have t2 : Int.tmod (k : Int) (v : Int) = (r : Int) := by rw [Int.tmod_eq_emod_of_nonneg (by omega), e2]
    have hwi : IntKind.i64.wrap (i : Int) = i := by rw [IntKind.wrap_i64]; omega
    have hv1 : ¬ v = 0 := by omega
    have hv2 : ¬ (v : Int) = 0 := by omega
    have HI1 := Zh hi
    have HR1 := Zh hr
    rw [hi] at hkv hlcell hlfroz HST
    rw [hr] at hr32 HST
    clear hi hr
    go_wp2_with (go_at_call 193; refine (zrn g k o y _ hbit (by omega) ho2 hcell).mono ?_; rintro e w9 ⟨rfl, rfl⟩)
    go_region
    go_wp2
    go_step3
    have h1 : N % 2 ^ (k + 1) < 2 ^ p := Nat.lt_of_lt_of_le (Nat.mod_lt _ (Nat.two_pow_pos _)) (Nat.pow_le_pow_right (by decide) hkp)
    exact ⟨rfl, m - 1, by omega, k + 1, g, h, _, _, _, _, _, _, _, _, _, _, _, _, _, _, _, _, _, _, _, _, _, _, _, _, _, _, _, _, _, _, _, _, _, _, _, _, _, _, _, _, _, _, _, _, _, _, _, _, _, _, _, _, _, rfl, by omega, hg, hh, hgh, Zh h1, Zh (HC.out.far (p := ⟨h, i, none⟩) hgh _).drew, Zh (HST.out HY.out.symm), Zh (HW.out.setCell (p := ⟨h, i, none⟩) hh _).drew⟩
   ·have hd : decide ((k : Int) < (p : Int)) = false := by simp; omega
    by_cases hy0 : y = 0
    ·subst hy0
     go_wp2_with (go_at_call 193; refine (zrn g k o 0 _ hbit (by omega) ho2 hcell).mono ?_; rintro e w9 ⟨rfl, rfl⟩)
     go_step3
     have hmod : N % 2 ^ (k + 1) = N % 2 ^ k := by rw [K.mod_succ, HY.out, Nat.mul_zero, Nat.add_zero]
     exact ⟨rfl, m - 1, by omega, k + 1, g, h, _, _, _, _, _, _, _, _, _, _, _, _, _, _, _, _, _, _, _, _, _, _, _, _, _, _, _, _, _, _, _, _, _, _, _, _, _, _, _, _, _, _, _, _, _, _, _, _, _, _, _, _, _, rfl, by omega, hg, hh, hgh, by rw [hmod]; exact HM, HC, by rw [hmod]; exact HD, HW⟩
    ·obtain rfl : y = 1 := by omega
     go_wp2_with (go_at_call 193; refine (zrn g k o 1 _ hbit (by omega) ho2 hcell).mono ?_; rintro e w9 ⟨rfl, rfl⟩)
     simp only [Exit.jump]
     go_ret2
     refine .no ?_ HW.out
     have h1 := K.bit_ge HY.out
     have h2 : 2 ^ p <= 2 ^ k := Nat.pow_le_pow_right (by decide) (by omega)
     rw [HU.out, if_neg (by omega)]
  ·obtain rfl : k = 8 * s := by omega
   have hd : decide (((8 * s : Nat) : Int) < (s : Int) * 8) = false := by simp; omega
   go_wp2
   simp only [Exit.jump]
   go_ret2
   have hm := HM.out
   have hd2 := HD.out
   rw [Nat.mod_eq_of_lt HV.out] at hm hd2
   refine ⟨_, true, rfl, by rw [HU.out, if_pos hm]; rfl, ?_, HW.out⟩
   rw [HU.out, if_pos hm, Option.getD_some, K.dig_len]
   exact hd2.own hh (by rw [List.length_map, K.dig_len]) (Nat.le_refl _) (by unfold maxLen; omega) (by rw [List.length_map, K.dig_len])
theorem zo4 (a : Option Addr) (len cap : Nat) (b : List Int) (n v : Int) (w : World) (hl : b.length = len) (h : zfv .u8 w a cap b) :
  Calls Tryz.prog 124 #[.slice a len cap, .int .i64 n, .int .i64 v] w (zn7 b n v w) := by
 by_cases hc : K.size n v = len
 ·have hin : 0 <= n /\ n <= 400 /\ 0 <= v /\ v <= 32 := by
   by_cases hh : 0 <= n /\ n <= 400 /\ 0 <= v /\ v <= 32
   ·exact hh
   ·rw [K.size_no hh] at hc; omega
  obtain ⟨m, rfl⟩ : ∃ m : Nat, n = m := ⟨n.toNat, by omega⟩
  obtain ⟨u, rfl⟩ : ∃ u : Nat, v = u := ⟨v.toNat, by omega⟩
  rw [K.size_in (by omega) (by omega)] at hc
  exact zrq a len cap b m u w hl h (by omega) (by omega) (by exact_mod_cast hc)
 ·exact zrm a len cap b n v w hl hc
end Go.Proofs.YtijkbflimbffmaaGreat
namespace Go.Proofs.YtijkbflimbffmaaGreat
open Go.RowKit
namespace J
theorem apart {w : World} {B B' k k' n n' : Nat} {t t' : TypeId} {v v' : Value} {xs ys : List Value} (h : w.ownsRow B t k v n xs) (h' : w.ownsRow B' t' k' v' n' ys) (ht : t ≠ t') : v.ownBlock = none \/ v.ownBlock ≠ v'.ownBlock := by
 rcases h'.2 with ⟨rfl, _⟩ | ⟨q, cap, cur, rfl, _, hq, _⟩
 ·cases hv : v.ownBlock with
  | none => exact .inl rfl
  | some x => exact .inr (by simp [Value.ownBlock])
 ·exact .inr fun e => za4 h hq (fun e => ht e.symm) e rfl
theorem rd_l {wa w3 : World} {b H nn cn : Nat} {s : Y.St} {A : Y.A9} {an : Option Addr} {N : List Int} (h : Rd wa b H s A an nn cn N) (x : L.Ls) {a3 : Option Addr} {c3 : Nat} (hown : w3.ownsRow H 60 5 (.slice a3 (A.nl + 1) c3) (A.nl + 1) (L.flat s.l ++ L.cells x)) (hg : wa.grownBy w3 (Value.slice A.al A.nl A.cl).ownBlock) (hH : H <= wa.heap.size) :
  Rd (w3.setCell ⟨b, 14, none⟩ (.slice a3 (A.nl + 1) c3)) b H { s with l := s.l ++ [x] } { A with al := a3, nl := A.nl + 1, cl := c3 } an nn cn N /\ Far b H wa (w3.setCell ⟨b, 14, none⟩ (.slice a3 (A.nl + 1) c3)) /\ w3.cell? ⟨b, 14, none⟩ = some (.slice A.al A.nl A.cl) /\ w3.frozen? ⟨b, 14, none⟩ = false := by
 have gst := grown_set w3 b 14 (.slice a3 (A.nl + 1) c3)
 have hb := h.b
 have hne : some b ≠ (Value.slice A.al A.nl A.cl).ownBlock := fun e => by have := (h.o.rl.lt b e.symm).1; omega
 have k3 := h.k.grown hg hne
 have hf : L.flat s.l ++ L.cells x = L.flat (s.l ++ [x]) := by rw [L.flat_append]; simp [L.flat]
 rw [hf] at hown
 refine ⟨⟨?_, ⟨(h.o.rp.kept hg (apart h.o.rp h.o.rl (by decide))).kept gst (.inr fun e => by have := (h.o.rp.lt b e).1; omega), hown.kept gst (.inr fun e => by have := (hown.lt b e).1; omega), (h.o.rh.kept hg (apart h.o.rh h.o.rl (by decide))).kept gst (.inr fun e => by have := (h.o.rh.lt b e).1; omega), h.o.np, by show (s.l ++ [x]).length = _; rw [List.length_append, h.o.nl]; rfl, h.o.nh⟩, (h.n.kept hg (apart h.n h.o.rl (by decide))).kept gst (.inr fun e => by have := (h.n.lt b e).1; omega), hb⟩, (Far.of_grown hg hH (fun r e => ⟨.inl (h.o.rl.lt r e).1, fun o ho => row_cells h.o.rl e ho⟩)).trans (Far.of_grown gst (Nat.le_trans hH hg.size) (fun r e => by cases e; exact ⟨.inr rfl, fun o ho => by rw [show w3.heap[b]? = _ from k3] at ho; cases ho; rfl⟩)), k3.cell 14, k3.frozen 14⟩
 have := k3.set 14 (.slice a3 (A.nl + 1) c3)
 simpa [Y.cs] using this
theorem rd_h {wa w3 : World} {b H nn cn : Nat} {s : Y.St} {A : Y.A9} {an : Option Addr} {N : List Int} (h : Rd wa b H s A an nn cn N) (x : L.T3) {a3 : Option Addr} {c3 : Nat} (hown : w3.ownsRow H 77 3 (.slice a3 (A.nh + 1) c3) (A.nh + 1) (L.flat s.h ++ L.cells x)) (hg : wa.grownBy w3 (Value.slice A.ah A.nh A.ch).ownBlock) (hH : H <= wa.heap.size) :
  Rd (w3.setCell ⟨b, 15, none⟩ (.slice a3 (A.nh + 1) c3)) b H { s with h := s.h ++ [x] } { A with ah := a3, nh := A.nh + 1, ch := c3 } an nn cn N /\ Far b H wa (w3.setCell ⟨b, 15, none⟩ (.slice a3 (A.nh + 1) c3)) /\ w3.cell? ⟨b, 15, none⟩ = some (.slice A.ah A.nh A.ch) /\ w3.frozen? ⟨b, 15, none⟩ = false := by
 have gst := grown_set w3 b 15 (.slice a3 (A.nh + 1) c3)
 have hb := h.b
 have hne : some b ≠ (Value.slice A.ah A.nh A.ch).ownBlock := fun e => by have := (h.o.rh.lt b e.symm).1; omega
 have k3 := h.k.grown hg hne
 have hf : L.flat s.h ++ L.cells x = L.flat (s.h ++ [x]) := by rw [L.flat_append]; simp [L.flat]
 rw [hf] at hown
 refine ⟨⟨?_, ⟨(h.o.rp.kept hg (apart h.o.rp h.o.rh (by decide))).kept gst (.inr fun e => by have := (h.o.rp.lt b e).1; omega), (h.o.rl.kept hg (apart h.o.rl h.o.rh (by decide))).kept gst (.inr fun e => by have := (h.o.rl.lt b e).1; omega), hown.kept gst (.inr fun e => by have := (hown.lt b e).1; omega), h.o.np, h.o.nl, by show (s.h ++ [x]).length = _; rw [List.length_append, h.o.nh]; rfl⟩, (h.n.kept hg (apart h.n h.o.rh (by decide))).kept gst (.inr fun e => by have := (h.n.lt b e).1; omega), hb⟩, (Far.of_grown hg hH (fun r e => ⟨.inl (h.o.rh.lt r e).1, fun o ho => row_cells h.o.rh e ho⟩)).trans (Far.of_grown gst (Nat.le_trans hH hg.size) (fun r e => by cases e; exact ⟨.inr rfl, fun o ho => by rw [show w3.heap[b]? = _ from k3] at ho; cases ho; rfl⟩)), k3.cell 15, k3.frozen 15⟩
 have := k3.set 15 (.slice a3 (A.nh + 1) c3)
 simpa [Y.cs] using this
def mkL (now n : Int) : L.Ls := ⟨n / 32, n % 32 / 8, n % 8, 0, now⟩
def mkH (n : Int) : L.T3 := ⟨n / 8, n % 8, 0⟩
theorem unpack_bd {b l : List Int} {n w : Nat} (hb : ∀ c ∈ b, (Lit.int .u8 c).wf = true) (h : K.unpack b n w = some l) : (∀ x ∈ l, 0 <= x /\ x < 2 ^ w) /\ l.length = n /\ K.pack l w = some b := by
 have h1 := (K.unpack_some (show K.isd 256 b from fun d hd => ⟨(zo9 hb d hd).1, by have := (zo9 hb d hd).2; show d < 256; omega⟩)).1 h
 exact ⟨(K.pack_some.1 h1.1).2.2.1, h1.2, h1.1⟩
end J
theorem znd {P : Program} {ops : Array Oper} {Q : Exit -> Act -> World -> Prop} {j : Nat} {o : Oper} {K : Act -> World -> Prop} {a : Act} {w : World} (ho : ops[j]? = some o) (hw : Region.wanted o (yielded ops a.tmps) = true) (s x : Operand) (t : TypeId)
  (hop : o.op = .call { callee := .builtin .append, args := #[s, x], argTypes := #[t, t] })
  (base : Nat) (e : TypeId) (i : TypeInfo) (z : Value) (size bytes : Nat) (ht : P.underlying t = some (.slice e)) (hi : P.info? e = some i) (hz : i.zero = some z)
  (hsize : i.size = size) (hby : i.bytes = bytes) (hzs : z.cells.size = size) (hsz : 0 < size)
  (v : Value) (n : Nat) (xs : List Value) (hs : a.eval s = v) (hown : w.ownsRow base e size v n xs)
  (ad : Addr) (m c : Nat) (news : List Value) (hx : a.eval x = .slice (some ad) m c) (hl : news.length = m * size) (hnews : ∀ j u, news[j]? = some u -> w.cell? (ad.add j) = some u) (h1 : ∀ u ∈ news, u.oneCell' = true)
  (h63 : n + m <= maxLen) (hbytes : (n + m) * bytes <= 140737488355328) (hbase : base <= w.heap.size)
  (h : ∀ v' w', w'.ownsRow base e size v' (n + m) (xs ++ news) -> w.grownBy w' v.ownBlock -> K (a.put o.dst v') w') : wpOp P ops Q j K a w := by
 refine wpOp_step ho fun K' hK' => ?_
 rw [if_pos hw]
 exact wp_append_own w s x t hop base e i z size bytes ht hi hz hsize hby hzs hsz v n xs hs hown ad m c news hx hl hnews h1 h63 hbytes hbase (fun v' w' h1 h2 _ => hK' _ _ (h v' w' h1 h2))
end Go.Proofs.YtijkbflimbffmaaGreat
namespace Go.Proofs.YtijkbflimbffmaaGreat
set_option maxHeartbeats 1000000
set_option maxRecDepth 100000
open Go.RowKit
theorem zsb (a : Option Addr) (len cap : Nat) (p : Int) (L : List Int) (w : World) (h : p < 0) :
  Calls Tryz.prog 122 #[.slice a len cap, .int .i64 p] w (zpb L p w) := by
 have hg := Zh (zsv (L := L) h)
 go_enter Tryz.func122, Tryz.ntmps122
 go_wp2
 go_step3
 go_wp2
 all_goals (try rw [Exit.noGoto_ret])
 go_ret2
 exact .mk hg.out
theorem zs3 (a : Option Addr) (len cap : Nat) (q : Nat) (L : List Int) (w : World) (hl : L.length <= len) (h : len <= q) :
  Calls Tryz.prog 122 #[.slice a len cap, .int .i64 q] w (zpb L q w) := by
 have hg := Zh (get_none (L := L) (q := q) (by rw [List.drop_eq_nil_of_le (by omega)]; rfl))
 have hd : decide ((q : Int) < len) = false := by simp; omega
 go_enter Tryz.func122, Tryz.ntmps122
 go_wp2
 go_step3
 go_wp2
 go_step3
 go_wp2
 refine wp_loop_rounds 1 ?_
 rw [rounds_succ]
 go_wp2
 (try rw [Exit.noGoto_ret])
 go_ret2
 exact .mk hg.out
theorem ztl (b off len cap q : Nat) (zs : List Int) (w : World) (hz : len <= zs.length) (hm : len <= 9223372036854775807) (hq : q < len)
  (hcells : ∀ i, i < zs.length -> w.cell? ⟨b, off + i, none⟩ = some (.int .u8 (zs.getD i 0))) (hby : ∀ n ∈ zs, (Lit.int .u8 n).wf = true) :
  Calls Tryz.prog 122 #[.slice (some ⟨b, off, none⟩) len cap, .int .i64 q] w (zpb (zs.take len) q w) := by
 have hq0 : ¬ ((q : Int) < 0) := by omega
 go_enter Tryz.func122, Tryz.ntmps122
 go_wp2
 go_step3
 go_wp2
 go_step3
 go_wp2
 go_loop [6, 7, 8] (fun x y i => ∃ (j k : Nat) (acc u : Int), i = .int .i64 k /\ x = .int .i64 acc /\ y = .int .i64 u /\ k <= len /\ j <= 6 /\ 0 <= acc /\ acc < u /\ Hid (At (zs.take len) q j k acc u)) (fun _ _ i => len - (intOf i).toNat)
 case atStart => exact ⟨0, q, 0, 1, rfl, rfl, rfl, by omega, by omega, by omega, by omega, Zh (At.start _ _)⟩
 case round =>
  obtain ⟨j, k, acc, u, rfl, rfl, rfl, hk, hj, ha0, hau, HA⟩ := hrel
  obtain ⟨hu1, hu5, hu6, hu7⟩ := HA.out.unit hj
  by_cases hlt : k < len
  ·have hdr := Zh (znz hlt hz)
   obtain ⟨c, hcc⟩ : ∃ c, zs.getD k 0 = c := ⟨_, rfl⟩
   have hcell := hcells k (by omega)
   have hcm : c ∈ zs := by rw [<- hcc]; simp [show k < zs.length by omega]
   rw [hcc] at hcell
   have hdr := Zh (by have := znz hlt hz; rw [hcc] at this; exact this)
   obtain ⟨hc0, hc1⟩ := bounds_u8 (hby c hcm)
   clear hcc hcm
   obtain ⟨hp0, hp1⟩ := zsw (c := c) hu1
   by_cases hj6 : j < 6
   ·have hu2 := hu5 hj6
    clear hu5 hu6 hu7
    by_cases hc : 128 <= c
    ·have hd1 : decide (128 <= c) = true := by simpa using hc
     go_wp2
     go_round
     case rel => exact ⟨j + 1, k + 1, acc + c % 128 * u, u * 128, by go_num, rfl, rfl, by omega, by omega, by omega, by omega, Zh (HA.out.step hj6 hdr.out hc)⟩
     case measure => simp [intOf]; omega
    ·have hc' : c < 128 := by omega
     have hd1 : decide (128 <= c) = false := by simpa using hc
     by_cases hb : (c = 0 /\ q < k) \/ 1099511627776 < acc + c % 128 * u
     ·have HB := Zh (HA.out.bad hdr.out hc' hb)
      by_cases h0 : c = 0 /\ q < k
      ·have e1 : (c == 0) = true := by simpa using h0.1
       have e2 : q < k := h0.2
       clear h0 hb
       go_wp2
       (try rw [Exit.noGoto_ret])
       go_ret2
       exact .mk HB.out
      ·have e3 : 1099511627776 < acc + c % 128 * u := by omega
       clear hb
       by_cases e1 : c = 0
       ·have e2 : decide (q < k) = false := by simp; omega
        have e1' : (c == 0) = true := by simpa using e1
        clear h0 e1
        go_wp2
        (try rw [Exit.noGoto_ret])
        go_ret2
        exact .mk HB.out
       ·have e1' : (c == 0) = false := by simpa using e1
        clear h0 e1
        go_wp2
        (try rw [Exit.noGoto_ret])
        go_ret2
        exact .mk HB.out
     ·have HB := Zh (HA.out.good hj6 hdr.out hc' hb)
      have e3 : decide (1099511627776 < acc + c % 128 * u) = false := by simp; omega
      by_cases e1 : c = 0
      ·have e2 : decide (q < k) = false := by simp; omega
       have e1' : (c == 0) = true := by simpa using e1
       clear e1 hb
       go_wp2
       (try rw [Exit.noGoto_ret])
       go_ret2
       exact .mk HB.out
      ·have e1' : (c == 0) = false := by simpa using e1
       clear e1 hb
       go_wp2
       (try rw [Exit.noGoto_ret])
       go_ret2
       exact .mk HB.out
   ·have hj' : j = 6 := by omega
    have HB := Zh (HA.out.over (by omega))
    have hu8 := hu6 hj'
    have hd : decide (u <= 1099511627776) = false := by simp; omega
    clear hj' hu6 hu5 hj6 hu8
    go_wp2
    (try rw [Exit.noGoto_ret])
    go_ret2
    exact .mk HB.out
  ·have HB := Zh (HA.out.eob (by simp; omega))
   have hd : decide (k < len) = false := by simp; omega
   clear hu5 hu6
   go_wp2
   (try rw [Exit.noGoto_ret])
   go_ret2
   exact .mk HB.out
theorem zol (a : Option Addr) (len cap : Nat) (p : Int) (L : List Int) (w : World) (hl : L.length = len) (h : zfv .u8 w a cap L) :
  Calls Tryz.prog 122 #[.slice a len cap, .int .i64 p] w (zpb L p w) := by
 by_cases hp : p < 0
 ·exact zsb a len cap p _ w hp
 ·obtain ⟨q, rfl⟩ : ∃ q : Nat, p = q := ⟨p.toNat, by omega⟩
  by_cases hq : len <= q
  ·exact zs3 a len cap q _ w (by omega) hq
  ·rcases h.2.2 with rfl | ⟨b, off, rfl, _, hc⟩
   ·simp at hl; omega
   ·have := ztl b off len cap q L w (by omega) (by have := h.1; unfold maxLen at this; omega) (by omega) hc h.2.1
    rwa [List.take_of_length_le (by omega)] at this
end Go.Proofs.YtijkbflimbffmaaGreat
