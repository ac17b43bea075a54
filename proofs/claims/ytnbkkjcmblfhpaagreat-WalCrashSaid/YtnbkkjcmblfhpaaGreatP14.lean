import Derived.Laws.CopyOwn
import Derived.Test.YtnbkkjcmblfhpaaGreatP13
namespace Go.Proofs.YtnbkkjcmblfhpaaGreat
set_option maxHeartbeats 1000000
set_option maxRecDepth 100000
open Go.RowKit
def zo2 (L : List Int) (v : Int) (w : World) (e : Ending) (w' : World) : Prop :=
 ∃ x ok, e = .returned (.tuple #[x, .bool ok]) /\ ok = (K.pack L v).isSome /\ w'.ownsRow w.heap.size 5 1 x ((K.pack L v).getD []).length (((K.pack L v).getD []).map (Value.int .u8)) /\ Below w.heap.size w w'
theorem zo2.no {L : List Int} {v : Int} {w w' : World} (h : K.pack L v = none) (hb : Below w.heap.size w w') : zo2 L v w (.returned (.tuple #[.slice none 0 0, .bool false])) w' := by
 refine ⟨_, _, rfl, ?_, ?_, hb⟩ <;> rw [h]
 ·rfl
 ·exact World.ownsRow_nil _ _ _ _
def K.zeros : Array Value := ((List.replicate 1600 (0 : Int)).map (Value.int .u8)).toArray
theorem K.zeros_ne : ¬ K.zeros = #[] := by
 intro h
 have := congrArg Array.size h
 rw [K.zeros] at this
 simp only [List.size_toArray, List.length_map, List.length_replicate] at this
 cases this
theorem zqq : (Tryz.prog.info? 239).map (fun i => i.zero) = some (some (.agg K.zeros)) := by kernel_rfl
theorem zo3 (w : World) : (zeroValue 239).run Tryz.prog w = .ok (.agg K.zeros) w := by
 have h := zqq
 rw [Option.map_eq_some_iff] at h
 obtain ⟨i, hi, hz⟩ := h
 simp [zeroValue, typeInfo, hi, hz]
theorem zs0 (a : Option Addr) (len cap : Nat) (L : List Int) (v : Int) (w : World) (hl : L.length = len) (hn : ¬ (len <= 400 /\ 0 <= v /\ v <= 32)) :
  Calls Tryz.prog 154 #[.slice a len cap, .int .i64 v] w (zo2 L v w) := by
 have HN : Hid (K.pack L v = none) := Zh (by unfold K.pack; rw [if_neg (by omega)])
 have HS := Zh (K.size_no (n := len) (w := v) (by omega))
 clear hl hn
 go_enter Tryz.func154, Tryz.ntmps154
 go_wp2
 go_step3
 go_wp2_with fail
 refine (znk _ _ _).mono ?_
 rintro e w1 ⟨rfl, hb⟩
 rw [HS.out]
 have HB := Zh hb
 clear hb
 go_wp2
 (try rw [Exit.noGoto_ret])
 go_ret2
 exact .no HN.out HB.out
theorem zrl {v : Nat} (hv : v <= 32) : wrap64 (2 ^ v) = ((2 ^ v : Nat) : Int) := by
 have h : 2 ^ v <= 2 ^ 32 := Nat.pow_le_pow_right (by decide) hv
 have e : ((2 : Int) ^ v) = ((2 ^ v : Nat) : Int) := by simp
 rw [e]
 generalize 2 ^ v = q at h
 exact IntWalk.wrap64_in _ (by omega)
theorem zsa (a : Option Addr) (len cap : Nat) (L : List Int) (v : Nat) (w : World) (hl : L.length = len) (h : zfv .i64 w a cap L) (h4 : len <= 400) (hv : v <= 32) (hn : ¬ K.isd (2 ^ v) L) :
  Calls Tryz.prog 154 #[.slice a len cap, .int .i64 v] w (zo2 L v w) := by
 have HN : Hid (K.pack L v = none) := Zh (by unfold K.pack; rw [if_neg]; rw [Int.toNat_natCast]; exact fun hh => hn hh.2.2.2)
 have HS := Zh (K.size_in (n := len) (w := v) h4 hv)
 have hd : decide (K.lim ((2 ^ v : Nat) : Int) L) = false := decide_eq_false hn
 have HD := Zh hd
 have HL := Zh hl
 have HR := Zh h
 obtain ⟨s, hs⟩ : ∃ s, (len * v + 7) / 8 = s := ⟨_, rfl⟩
 rw [hs] at HS
 obtain ⟨q, hq⟩ : ∃ q : Nat, 2 ^ v = q := ⟨_, rfl⟩
 have hsh := zrl hv
 rw [hq] at hsh HD
 clear hl h hn hd hs hq
 go_enter Tryz.func154, Tryz.ntmps154
 go_wp2
 go_step3
 go_wp2_with fail
 refine (znk _ _ _).mono ?_
 rintro e w1 ⟨rfl, hb⟩
 rw [HS.out]
 have HB := Zh hb
 clear hb
 go_wp2_with fail
 refine (zne _ _).mono ?_
 rintro e w2 ⟨rfl, rfl⟩
 have HB2 := Zh (HB.out.alloc HB.out.size (.cells #[.int .i64 (q : Int)] 3))
 go_wp2_with fail
 refine (zoe a len cap L q false w1.heap.size _ HL.out (HR.out.below HB2.out) (Blok.new w1 _ _) HD.out).mono ?_
 rintro e w3 ⟨rfl, rfl⟩
 go_wp2
 (try rw [Exit.noGoto_ret])
 go_ret2
 exact .no HN.out HB2.out
theorem ztk (g at_ o b : Nat) (x : Int) (w : World) (hx : x = (b : Nat)) (ha : at_ < 12800) (ho : o < 2 ^ (at_ % 8)) (hb : b < 2) (hc : w.cell? ⟨g, at_ / 8, none⟩ = some (.int .u8 o)) (hf : w.frozen? ⟨g, at_ / 8, none⟩ = false) :
  Calls Tryz.prog 227 #[.pointer (some ⟨g, 0, none⟩), .int .i64 at_, .int .i64 x] w fun e w' => e = .returned (.tuple #[]) /\ w' = (w.setCell ⟨g, at_ / 8, none⟩ (.int .u8 (o + b * 2 ^ (at_ % 8) : Nat))).drew := by
 subst hx
 exact zlo g at_ o b w ha ho hb hc hf
theorem zqr {N k o b g : Nat} {w : World} {t : TypeId} (h : Blok w g t ((K.dig 256 1600 (N % 2 ^ k)).map (Value.int .u8)).toArray) (ho : (K.dig (2 ^ 8) 1600 (N % 2 ^ k)).getD (k / 8) 0 = (o : Int)) (hb : b = K.bit N k) (hk : k < 12800) :
  Blok ((w.drew.setCell ⟨g, k / 8, none⟩ (.int .u8 (o + b * 2 ^ (k % 8) : Nat))).drew) g t ((K.dig 256 1600 (N % 2 ^ (k + 1))).map (Value.int .u8)).toArray := by
 have h1 := (h.drew.set (k / 8) (.int .u8 (o + b * 2 ^ (k % 8) : Nat))).drew
 have h2 := K.dig_step (w := 8) (by decide) 1600 N k (by omega)
 rw [ho, <- hb] at h2
 have h3 : (((K.dig 256 1600 (N % 2 ^ k)).map (Value.int .u8)).toArray).setIfInBounds (k / 8) (.int .u8 (o + b * 2 ^ (k % 8) : Nat)) = ((K.dig 256 1600 (N % 2 ^ (k + 1))).map (Value.int .u8)).toArray := by
  rw [show (256 : Nat) = 2 ^ 8 from rfl, <- h2]
  apply Array.ext'
  simp
 rwa [h3] at h1
def ztv (a : Option Addr) (len cap v s p N : Nat) (w : World) (n : Nat) (a' : Act) (w' : World) : Prop :=
 ∃ (k g : Nat) (u2 u3 u4 u5 u9 u10 u11 u12 u13 u14 u15 u16 u17 u18 u19 u20 u21 u22 u23 u24 u25 u26 u27 u28 u29 u30 u31 u32 u33 u34 u35 u36 u37 u38 u39 u40 u41 u42 u43 u44 u45 : Value), a' = { tmps := #[.slice a len cap, .int .i64 v, u2, u3, u4, u5, .int .i64 s, .pointer (some ⟨g, 0, none⟩), .int .i64 k, u9, u10, u11, u12, u13, u14, u15, u16, u17, u18, u19, u20, u21, u22, u23, u24, u25, u26, u27, u28, u29, u30, u31, u32, u33, u34, u35, u36, u37, u38, u39, u40, u41, u42, u43, u44, u45], defers := [] } /\ k + n = p /\ w.heap.size <= g /\ Hid (Blok w' g 239 ((K.dig 256 1600 (N % 2 ^ k)).map (Value.int .u8)).toArray) /\ Hid (Below w.heap.size w w')
theorem zs1 (a : Option Addr) (len cap : Nat) (L : List Int) (v : Nat) (w : World) (hl : L.length = len) (h : zfv .i64 w a cap L) (h4 : len <= 400) (hv : v <= 32) (hn : K.isd (2 ^ v) L) :
  Calls Tryz.prog 154 #[.slice a len cap, .int .i64 v] w (zo2 L v w) := by
 have HN : Hid (K.pack L v = some (K.dig 256 ((len * v + 7) / 8) (K.val (2 ^ v) L))) := Zh (K.pack_some.2 ⟨by omega, hv, hn, by rw [hl]⟩)
 have HS := Zh (K.size_in (n := len) (w := v) h4 hv)
 have hd : decide (K.lim ((2 ^ v : Nat) : Int) L) = true := decide_eq_true hn
 have HD := Zh hd
 have HL := Zh hl
 have HR := Zh h
 have HI := Zh hn
 have hp : len * v <= 400 * 32 := Nat.mul_le_mul h4 hv
 obtain ⟨p, hp'⟩ : ∃ p, len * v = p := ⟨_, rfl⟩
 have hpi : (len : Int) * (v : Int) = p := by rw [<- hp']; simp
 rw [hp'] at hp HS HN
 obtain ⟨s, hs⟩ : ∃ s, (p + 7) / 8 = s := ⟨_, rfl⟩
 rw [hs] at HS HN
 obtain ⟨q, hq⟩ : ∃ q : Nat, 2 ^ v = q := ⟨_, rfl⟩
 have hsh := zrl hv
 rw [hq] at hsh HD
 have HQ := Zh hq
 clear hl h hn hd hq
 have hz := zo3
 have hzn := K.zeros_ne
 go_enter Tryz.func154, Tryz.ntmps154
 go_wp2
 refine zn6 0 (ztv a len cap v s p (K.val q L) w) rfl ?pass ?first
 case first =>
  intro hpass
  go_wp2_with fail
  refine (znk _ _ _).mono ?_
  rintro e w1 ⟨rfl, hb⟩
  rw [HS.out]
  have HB := Zh hb
  clear hb
  go_wp2_with fail
  refine (zne _ _).mono ?_
  rintro e w2 ⟨rfl, rfl⟩
  have HB2 := Zh (HB.out.alloc HB.out.size (.cells #[.int .i64 (q : Int)] 3))
  go_wp2_with fail
  refine (zoe a len cap L q true w1.heap.size _ HL.out (HR.out.below HB2.out) (Blok.new w1 _ _) HD.out).mono ?_
  rintro e w3 ⟨rfl, rfl⟩
  go_wp2
  go_step3
  refine (by assumption : ∀ (a : Act) (w : World), Code.wp _ _ _ a w -> _) _ _ ?_
  refine hpass p _ _ ⟨0, w1.heap.size + 1, _, _, _, _, _, _, _, _, _, _, _, _, _, _, _, _, _, _, _, _, _, _, _, _, _, _, _, _, _, _, _, _, _, _, _, _, _, _, _, _, _, rfl, by omega, ?_, ?_, ?_⟩
  ·have := HB.out.size; omega
  ·refine Zh ?_
   have h1 := Blok.new (w1.alloc (.cells #[.int .i64 (q : Int)] 3)) 239 K.zeros
   rw [World.size_alloc] at h1
   rw [Nat.pow_zero, Nat.mod_one, K.dig_zero]
   exact h1
  ·exact Zh (HB2.out.alloc HB2.out.size _)
 case pass =>
  clear hz hzn
  rintro n a' w' ⟨k, g, u2, u3, u4, u5, u9, u10, u11, u12, u13, u14, u15, u16, u17, u18, u19, u20, u21, u22, u23, u24, u25, u26, u27, u28, u29, u30, u31, u32, u33, u34, u35, u36, u37, u38, u39, u40, u41, u42, u43, u44, u45, rfl, hkn, hg, HC, HW⟩
  by_cases hlt : k < p
  ·have hv0 : 0 < v := by
    rcases Nat.eq_zero_or_pos v with rfl | h
    ·omega
    ·exact h
   have hkv : k / v < len := Nat.div_lt_of_lt_mul (by rw [Nat.mul_comm, hp']; exact hlt)
   obtain ⟨i, hi⟩ : ∃ i, k / v = i := ⟨_, rfl⟩
   obtain ⟨r, hr⟩ : ∃ r, k % v = r := ⟨_, rfl⟩
   have e1 : (k : Int) / (v : Int) = (i : Int) := by rw [<- hi]; simp
   have e2 : (k : Int) % (v : Int) = (r : Int) := by rw [<- hr]; simp
   have t1 : Int.tdiv (k : Int) (v : Int) = (i : Int) := by rw [Int.tdiv_eq_ediv_of_nonneg (by omega), e1]
   have t2 : Int.tmod (k : Int) (v : Int) = (r : Int) := by rw [Int.tmod_eq_emod_of_nonneg (by omega), e2]
   rw [hi] at hkv
   obtain ⟨b, off, rfl, hb, hc⟩ := zl4 (HR.out.below HW.out) (i := i) (by rw [HL.out]; exact hkv)
   obtain ⟨m, hm, hmq⟩ := K.isd_at HI.out (k := i) (by rw [HL.out]; exact hkv)
   rw [hm] at hc
   have hm32 : m < 4294967296 := Nat.lt_of_lt_of_le hmq (Nat.pow_le_pow_right (by decide) hv)
   have hr32 : r < 32 := by have := Nat.mod_lt k hv0; omega
   have hbit : Hid (bits .and .i64 ((m : Int) / 2 ^ r) 1 = (K.bit m r : Nat)) := Zh (zsz hm32)
   have HM := Zh hm
   obtain ⟨o, ho1, ho2⟩ := K.old_lt (w := 8) (m := 1600) (K.val q L) k (by omega)
   have HO := Zh ho1
   have hcell : w'.cell? ⟨g, k / 8, none⟩ = some (.int .u8 o) := by
    rw [HC.out.cell]
    have : k / 8 < 1600 := by omega
    simp [K.dig_len, this, <- ho1]
   have hfroz : w'.frozen? ⟨g, k / 8, none⟩ = false := HC.out.frozen _
   have hb2 := K.bit_lt m r
   have HI1 := Zh hi
   have HR1 := Zh hr
   have hv1 : ¬ v = 0 := by omega
   have hwi : IntKind.i64.wrap (i : Int) = i := by rw [IntKind.wrap_i64]; omega
   have hv2 : ¬ (v : Int) = 0 := by omega
   clear hm hmq ho1 hi hr
   go_wp2
   go_region_with (go_at_call 227; refine (ztk g k o (K.bit m r) _ _ hbit.out (by omega) ho2 hb2 (show w'.drew.cell? _ = _ from hcell) (show w'.drew.frozen? _ = _ from hfroz)).mono ?_; rintro e w2 ⟨rfl, hw2⟩; have HW2 := Zh hw2; clear hw2)
   go_wp2
   go_step3
   have hbN : K.bit m r = K.bit (K.val q L) k := by
    have := K.val_bit HI.out (k := k) hv0 (by rw [HL.out, HI1.out]; exact hkv)
    rw [HI1.out, HR1.out, HM.out, HQ.out] at this
    exact this
   refine ⟨rfl, n - 1, by omega, k + 1, g, _, _, _, _, _, _, _, _, _, _, _, _, _, _, _, _, _, _, _, _, _, _, _, _, _, _, _, _, _, _, _, _, _, _, _, _, _, _, _, _, _, rfl, by omega, hg, Zh ?_, Zh ?_⟩
   ·rw [HW2.out]
    exact zqr HC.out HO.out hbN (by omega)
   ·rw [HW2.out]
    exact (HW.out.drew.setCell (p := ⟨g, k / 8, none⟩) hg _).drew
  ·obtain rfl : k = p := by omega
   have hval := K.val_lt L HI.out
   rw [HL.out, K.pow_w, hp', HQ.out] at hval
   have hrow := (HC.out.row (cap := 1600) (K.byte_isd (K.dig_isd (by decide) _ _)) (by rw [K.dig_len]; omega) (by unfold maxLen; omega)).take s
   rw [Nat.mod_eq_of_lt hval, K.dig_take (show s <= 1600 by omega)] at hrow
   have HRW := Zh hrow
   have hd : decide ((k : Int) < (k : Int)) = false := by simp
   have hs16 : s <= 1600 := by omega
   have hs17 : (s : Int) <= 1600 := by omega
   clear hrow
   go_wp2_with fail
   refine (zqp _ s 1600 _ _ (by omega) (K.dig_len _ _ _) HRW.out).mono ?_
   rintro e w3 ⟨x, rfl, ho, hb3⟩
   have HOW := Zh ho
   have HB3 := Zh hb3
   clear ho hb3
   go_wp2
   simp only [Exit.jump]
   go_ret2
   refine ⟨_, true, rfl, by rw [HN.out]; rfl, ?_, HW.out.trans (HB3.out.mono HW.out.size)⟩
   rw [HN.out, Option.getD_some, K.dig_len, <- HQ.out] at *
   exact zan HOW.out HW.out.size
theorem zqk (a : Option Addr) (len cap : Nat) (L : List Int) (v : Int) (w : World) (hl : L.length = len) (h : zfv .i64 w a cap L) :
  Calls Tryz.prog 154 #[.slice a len cap, .int .i64 v] w (zo2 L v w) := by
 by_cases hc : len <= 400 /\ 0 <= v /\ v <= 32
 ·obtain ⟨u, rfl⟩ : ∃ u : Nat, v = u := ⟨v.toNat, by omega⟩
  by_cases hi : K.isd (2 ^ u) L
  ·exact zs1 a len cap L u w hl h hc.1 (by omega) hi
  ·exact zsa a len cap L u w hl h hc.1 (by omega) hi
 ·exact zs0 a len cap L v w hl hc
end Go.Proofs.YtnbkkjcmblfhpaaGreat
namespace Go.Proofs.YtnbkkjcmblfhpaaGreat
set_option maxHeartbeats 1000000
set_option maxRecDepth 100000
open Go.RowKit
def zn7 (b : List Int) (n v : Int) (w : World) (e : Ending) (w' : World) : Prop :=
 ∃ x ok, e = .returned (.tuple #[x, .bool ok]) /\ ok = (K.unpack b n v).isSome /\ w'.ownsRow w.heap.size 3 1 x ((K.unpack b n v).getD []).length (((K.unpack b n v).getD []).map (Value.int .i64)) /\ Below w.heap.size w w'
theorem zn7.no {b : List Int} {n v : Int} {w w' : World} (h : K.unpack b n v = none) (hb : Below w.heap.size w w') : zn7 b n v w (.returned (.tuple #[.slice none 0 0, .bool false])) w' := by
 refine ⟨_, _, rfl, ?_, ?_, hb⟩ <;> rw [h]
 ·rfl
 ·exact World.ownsRow_nil _ _ _ _
theorem zrm (a : Option Addr) (len cap : Nat) (b : List Int) (n v : Int) (w : World) (hl : b.length = len) (hn : K.size n v ≠ len) :
  Calls Tryz.prog 187 #[.slice a len cap, .int .i64 n, .int .i64 v] w (zn7 b n v w) := by
 have HN : Hid (K.unpack b n v = none) := Zh (by
  cases hu : K.unpack b n v with
  | none => rfl
  | some l => have := K.unpack_size hu; omega)
 obtain ⟨s, hs⟩ : ∃ s, K.size n v = s := ⟨_, rfl⟩
 have HS := Zh hs
 rw [hs] at hn
 clear hl hs
 by_cases h0 : s < 0
 ·clear hn
  go_enter Tryz.func187, Tryz.ntmps187
  go_wp2
  go_step3
  go_wp2_with fail
  refine (znk _ _ _).mono ?_
  rintro e w1 ⟨rfl, hb⟩
  rw [HS.out]
  have HB := Zh hb
  clear hb
  go_wp2
  (try rw [Exit.noGoto_ret])
  go_ret2
  exact .no HN.out HB.out
 ·have hne : (s != (len : Int)) = true := by simpa using hn
  clear hn
  go_enter Tryz.func187, Tryz.ntmps187
  go_wp2
  go_step3
  go_wp2_with fail
  refine (znk _ _ _).mono ?_
  rintro e w1 ⟨rfl, hb⟩
  rw [HS.out]
  have HB := Zh hb
  clear hb
  go_wp2
  (try rw [Exit.noGoto_ret])
  go_ret2
  exact .no HN.out HB.out
theorem zrn (g at_ o y : Nat) (w : World) (hy : K.bit o (at_ % 8) = y) (ha : at_ < 12800) (ho : o < 256) (hc : w.cell? ⟨g, at_ / 8, none⟩ = some (.int .u8 o)) :
  Calls Tryz.prog 249 #[.pointer (some ⟨g, 0, none⟩), .int .i64 at_] w fun e w' => e = .returned (.int .i64 (y : Nat)) /\ w = w' := by
 subst hy
 exact zsx g at_ o w ha ho hc
theorem zro {o b k : Nat} (ho : o < 2 ^ k) (hb : b < 2) (hk : k < 32) : bits .or .i64 (o : Int) (wrap64 ((b : Int) * 2 ^ k)) = (o + b * 2 ^ k : Nat) := by
 have h1 : 2 ^ k <= 2 ^ 31 := Nat.pow_le_pow_right (by decide) (by omega)
 have h2 : b * 2 ^ k <= 1 * 2 ^ 31 := Nat.mul_le_mul (by omega) h1
 have e : ((b : Int) * 2 ^ k) = ((b * 2 ^ k : Nat) : Int) := by simp
 have h3 := ztj (a := o) (b := b * 2 ^ k) (by omega) (by omega)
 rw [K.or_add ho] at h3
 rw [e, IntWalk.wrap64_in _ (by omega), h3]
theorem zrp {N k o b h n v : Nat} {w : World} {t : TypeId} (hB : Blok w h t ((K.dig (2 ^ v) n (N % 2 ^ k)).map (Value.int .i64)).toArray) (hv : 0 < v) (ho : (K.dig (2 ^ v) n (N % 2 ^ k)).getD (k / v) 0 = (o : Int)) (hb : b = K.bit N k) (hk : k / v < n) :
  Blok ((w.setCell ⟨h, k / v, none⟩ (.int .i64 (o + b * 2 ^ (k % v) : Nat))).drew) h t ((K.dig (2 ^ v) n (N % 2 ^ (k + 1))).map (Value.int .i64)).toArray := by
 have h1 := (hB.set (k / v) (.int .i64 (o + b * 2 ^ (k % v) : Nat))).drew
 have h2 := K.dig_step (w := v) hv n N k hk
 rw [ho, <- hb] at h2
 have h3 : (((K.dig (2 ^ v) n (N % 2 ^ k)).map (Value.int .i64)).toArray).setIfInBounds (k / v) (.int .i64 (o + b * 2 ^ (k % v) : Nat)) = ((K.dig (2 ^ v) n (N % 2 ^ (k + 1))).map (Value.int .i64)).toArray := by
  rw [<- h2]
  apply Array.ext'
  simp
 rwa [h3] at h1
def zs2 (a : Option Addr) (len cap n v s p N : Nat) (w : World) (m : Nat) (a' : Act) (w' : World) : Prop :=
 ∃ (k g h : Nat) (u3 u4 u5 u6 u7 u12 u13 u14 u15 u16 u17 u18 u19 u20 u21 u22 u23 u24 u25 u26 u27 u28 u29 u30 u31 u32 u33 u34 u35 u36 u37 u38 u39 u40 u41 u42 u43 u44 u45 u46 u47 u48 u49 u50 u51 u52 u53 u54 u55 u56 u57 u58 u59 : Value), a' = { tmps := #[.slice a len cap, .int .i64 n, .int .i64 v, u3, u4, u5, u6, u7, .int .i64 s, .pointer (some ⟨g, 0, none⟩), .slice (some ⟨h, 0, none⟩) n n, .int .i64 k, u12, u13, u14, u15, u16, u17, u18, u19, u20, u21, u22, u23, u24, u25, u26, u27, u28, u29, u30, u31, u32, u33, u34, u35, u36, u37, u38, u39, u40, u41, u42, u43, u44, u45, u46, u47, u48, u49, u50, u51, u52, u53, u54, u55, u56, u57, u58, u59], defers := [] } /\ k + m = 8 * s /\ w.heap.size <= g /\ w.heap.size <= h /\ g ≠ h /\ Hid (N % 2 ^ k < 2 ^ p) /\ Hid (Blok w' g 239 ((K.dig 256 1600 N).map (Value.int .u8)).toArray) /\ Hid (Blok w' h 3 ((K.dig (2 ^ v) n (N % 2 ^ k)).map (Value.int .i64)).toArray) /\ Hid (Below w.heap.size w w')
theorem zpn {b : List Int} {s : Nat} (hb : K.isd 256 b) (hl : b.length = s) (hs : s <= 1600) : splice ((List.replicate 1600 (0 : Int)).map (Value.int .u8)) 0 (b.map (Value.int .u8)) = (K.dig 256 1600 (K.val 256 b)).map (Value.int .u8) := by
 have h1 := K.dig_add 256 s (1600 - s) (K.val 256 b)
 rw [show s + (1600 - s) = 1600 by omega, <- hl, K.dig_val b hb, Nat.div_eq_of_lt (K.val_lt b hb), K.dig_zero] at h1
 rw [h1]
 unfold splice
 rw [List.take_zero, List.nil_append, Nat.zero_add, List.length_map, <- List.map_drop, List.drop_replicate, List.map_append]
theorem zqs (a : Option Addr) (s cap g : Nat) (b : List Int) (w : World) (hg : Blok w g 239 K.zeros) (hr : zfv .u8 w a cap b) (hl : b.length = s) (hs : s <= 1600) :
  ∃ w2, (Builtin.copy_ #[51, 51] 3 #[.slice (some ⟨g, 0, none⟩) 1600 1600, .slice a s cap]).run Tryz.prog w = .ok (.int .i64 s) w2 /\ Blok w2 g 239 (splice ((List.replicate 1600 (0 : Int)).map (Value.int .u8)) 0 (b.map (Value.int .u8))).toArray /\ ∀ (B : Nat) (w0 : World), B <= g -> Below B w0 w -> Below B w0 w2 := by
 have hsz : (Tryz.prog.info? 5).map (·.size) = some 1 := by kernel_rfl
 have hlz : ((List.replicate 1600 (0 : Int)).map (Value.int .u8)).length = 1600 := by rw [List.length_map, List.length_replicate]
 by_cases h0 : s = 0
 ·subst h0
  obtain rfl : b = [] := List.eq_nil_of_length_eq_zero hl
  refine ⟨w, run_copy_none w _ _ _ 5 _ _ _ _ _ _ Tryz.underlying51 hsz (by simp), ?_, fun _ _ _ h => h⟩
  have e : splice ((List.replicate 1600 (0 : Int)).map (Value.int .u8)) 0 (([] : List Int).map (Value.int .u8)) = (List.replicate 1600 (0 : Int)).map (Value.int .u8) := by
   unfold splice
   rw [List.map_nil, List.take_zero, List.nil_append, List.nil_append, Nat.zero_add, List.length_nil, List.drop_zero]
  rw [e]
  exact hg
 ·obtain ⟨q, off, rfl, hq, _⟩ := zl4 hr (i := 0) (by omega)
  have hsrc : ∀ (j : Nat) (u : Value), (b.map (Value.int .u8))[j]? = some u -> w.cell? ((⟨q, off, none⟩ : Addr).add j) = some u := by
   intro j u hj
   obtain ⟨hj', hv⟩ := List.getElem?_eq_some_iff.1 hj
   rw [List.length_map] at hj'
   obtain ⟨_, _, he, _, hc⟩ := zl4 hr (i := j) hj'
   cases he
   rw [WideShapes.add_plain, hc, <- hv]
   simp [hj']
  have hrun := run_copy_row (P := Tryz.prog) w 51 51 3 5 g 0 1600 1600 ⟨q, off, none⟩ s cap K.zeros 239 (b.map (Value.int .u8)) Tryz.underlying51 hsz hg (by rw [List.length_map, hl]; exact (Nat.min_eq_left hs).symm) hsrc (by rw [List.length_map, hl, K.zeros, List.size_toArray, hlz]; omega) (zoh _ _)
  rw [List.length_map, hl] at hrun
  refine ⟨_, hrun, ?_, fun B w0 hB hb => below_setRow hb hB _⟩
  have h1 := setRow_heap w g K.zeros (splice ((List.replicate 1600 (0 : Int)).map (Value.int .u8)) 0 (b.map (Value.int .u8))).toArray 239 (0, 0) hg
  unfold splice at h1 ⊢
  rw [List.length_map, hl] at h1 ⊢
  rw [List.append_assoc]
  exact h1
theorem zrq (a : Option Addr) (len cap : Nat) (b : List Int) (n v : Nat) (w : World) (hl : b.length = len) (hr : zfv .u8 w a cap b) (h4 : n <= 400) (hv : v <= 32) (hn : (n * v + 7) / 8 = len) :
  Calls Tryz.prog 187 #[.slice a len cap, .int .i64 n, .int .i64 v] w (zn7 b n v w) := by
 obtain ⟨i0, hi, hz0, hz1, hz2⟩ := info_parts zl3
 have hbd := K.isd_byte hr.2.1
 obtain ⟨N, hN⟩ : ∃ N, K.val 256 b = N := ⟨_, rfl⟩
 have HS := Zh (K.size_in (n := n) (w := v) h4 hv)
 have hp : n * v <= 400 * 32 := Nat.mul_le_mul h4 hv
 obtain ⟨p, hp'⟩ : ∃ p, n * v = p := ⟨_, rfl⟩
 have hpi : (n : Int) * (v : Int) = p := by rw [<- hp']; simp
 rw [hp'] at hp HS hn
 obtain ⟨s, hs⟩ : ∃ s, (p + 7) / 8 = s := ⟨_, rfl⟩
 rw [hs] at HS hn
 subst hn
 have hvl := K.val_lt b hbd
 rw [hN, hl, K.pow_8] at hvl
 have HV := Zh hvl
 have HU : Hid (K.unpack b n v = if N < 2 ^ p then some (K.dig (2 ^ v) n N) else none) := Zh (by
  unfold K.unpack
  rw [Int.toNat_natCast, Int.toNat_natCast, hN, hp', hl, hs]
  by_cases hh : N < 2 ^ p
  ·rw [if_pos hh, if_pos ⟨by omega, by omega, by omega, by omega, rfl, hh⟩]
  ·rw [if_neg hh, if_neg fun h => hh h.2.2.2.2.2])
 have HSP := Zh (zpn hbd hl (by omega))
 rw [hN] at HSP
 have HL := Zh hl
 have HR := Zh hr
 have HNV := Zh hN
 clear hl hr hbd hvl hN
 have hz := zo3
 have hzn := K.zeros_ne
 go_enter Tryz.func187, Tryz.ntmps187
 go_wp2
 refine zn6 0 (zs2 a s cap n v s p N w) rfl ?pass ?first
 case first =>
  intro hpass
  go_wp2_with fail
  refine (znk _ _ _).mono ?_
  rintro e w1 ⟨rfl, hb⟩
  rw [HS.out]
  have HB := Zh hb
  clear hb
  have hne : ((s : Int) != (s : Int)) = false := by simp
  have HB1 := Zh (HB.out.alloc HB.out.size (.cells K.zeros 239))
  obtain ⟨w2, hrun, hg2, hb2⟩ := zqs a s cap w1.heap.size b (w1.alloc (.cells K.zeros 239)) (Blok.new w1 _ _) (HR.out.below HB1.out) HL.out (by omega)
  rw [HSP.out] at hg2
  have HG2 := Zh hg2
  have HB2 := Zh (hb2 w.heap.size w HB.out.size HB1.out)
  clear hg2 hb2
  go_wp2_with (at_make; refine wpList_make_row _ rfl _ _ 74 rfl 3 i0 (.int .i64 0) Tryz.underlying74 hi hz0 hz1 rfl .i64 .i64 n rfl rfl (by rw [hz2]; omega) (by omega) ?_)
  go_step3
  refine (by assumption : ∀ (a : Act) (w : World), Code.wp _ _ _ a w -> _) _ _ ?_
  refine hpass (8 * s) _ _ ⟨0, w1.heap.size, w2.heap.size, _, _, _, _, _, _, _, _, _, _, _, _, _, _, _, _, _, _, _, _, _, _, _, _, _, _, _, _, _, _, _, _, _, _, _, _, _, _, _, _, _, _, _, _, _, _, _, _, _, _, _, _, _, rfl, by omega, HB.out.size, HB2.out.size, ?_, Zh ?_, Zh (HG2.out.alloc _), Zh ?_, Zh (HB2.out.alloc HB2.out.size _)⟩
  ·have := HG2.out.lt; omega
  ·rw [Nat.pow_zero, Nat.mod_one]; exact Nat.two_pow_pos p
  ·rw [Nat.pow_zero, Nat.mod_one, K.dig_zero, <- zoj]
   exact Blok.new w2 _ _
 case pass =>
  clear hz hzn
  rintro m a' w' ⟨k, g, h, u3, u4, u5, u6, u7, u12, u13, u14, u15, u16, u17, u18, u19, u20, u21, u22, u23, u24, u25, u26, u27, u28, u29, u30, u31, u32, u33, u34, u35, u36, u37, u38, u39, u40, u41, u42, u43, u44, u45, u46, u47, u48, u49, u50, u51, u52, u53, u54, u55, u56, u57, u58, u59, rfl, hkm, hg, hh, hgh, HM, HC, HD, HW⟩
  by_cases hlt : k < 8 * s
  ·have hlt' : (k : Int) < (s : Int) * 8 := by omega
   obtain ⟨o, ho⟩ : ∃ o, N / 256 ^ (k / 8) % 256 = o := ⟨_, rfl⟩
   have ho2 : o < 256 := by rw [<- ho]; exact Nat.mod_lt _ (by decide)
   have hk8 : k / 8 < 1600 := by omega
   have hcell : w'.cell? ⟨g, k / 8, none⟩ = some (.int .u8 o) := by
    rw [HC.out.cell, <- ho, List.getElem?_toArray, List.getElem?_map]
    have h1 := K.dig_get 256 1600 N (k / 8) hk8
    rw [List.getD_eq_getElem?_getD] at h1
    cases h2 : (K.dig 256 1600 N)[k / 8]? with
    | none =>
     rw [List.getElem?_eq_none_iff, K.dig_len] at h2
     omega
    | some x => rw [h2] at h1; simp at h1; rw [h1]; simp
   have hbit : K.bit o (k % 8) = K.bit N k := by
    rw [<- ho]
    exact K.bit_digit (w := 8) N k (by decide)
   obtain ⟨y, hy⟩ : ∃ y, K.bit N k = y := ⟨_, rfl⟩
   rw [hy] at hbit
   have HY := Zh hy
   have hy2 : y < 2 := by rw [<- hy]; exact K.bit_lt N k
   clear ho hy
   by_cases hkp : k < p
   ·have hv0 : 0 < v := by
     rcases Nat.eq_zero_or_pos v with rfl | h
     ·omega
     ·exact h
    have hkv : k / v < n := Nat.div_lt_of_lt_mul (by rw [Nat.mul_comm, hp']; exact hkp)
    have hr32 : k % v < 32 := by have := Nat.mod_lt k hv0; omega
    obtain ⟨o2, hq1, hq2⟩ := K.old_lt (w := v) (m := n) N k hkv
    have HQ1 := Zh hq1
    have HKV := Zh hkv
    have hlcell : w'.cell? ⟨h, k / v, none⟩ = some (.int .i64 o2) := by
     rw [HD.out.cell]
     simp [K.dig_len, hkv, <- hq1]
    have hlfroz : w'.frozen? ⟨h, k / v, none⟩ = false := HD.out.frozen _
    have HOR := Zh (zro hq2 hy2 hr32)
    have HST := Zh fun hh => zrp (o := o2) (b := y) HD.out hv0 hq1 hh hkv
    rw [HOR.out.symm] at HST
    clear hq1
    obtain ⟨i, hi⟩ : ∃ i, k / v = i := ⟨_, rfl⟩
    obtain ⟨r, hr⟩ : ∃ r, k % v = r := ⟨_, rfl⟩
    have e1 : (k : Int) / (v : Int) = (i : Int) := by rw [<- hi]; simp
    have e2 : (k : Int) % (v : Int) = (r : Int) := by rw [<- hr]; simp
    have t1 : Int.tdiv (k : Int) (v : Int) = (i : Int) := by rw [Int.tdiv_eq_ediv_of_nonneg (by omega), e1]
    have t2 : Int.tmod (k : Int) (v : Int) = (r : Int) := by rw [Int.tmod_eq_emod_of_nonneg (by omega), e2]
    have hwi : IntKind.i64.wrap (i : Int) = i := by rw [IntKind.wrap_i64]; omega
    have hv1 : ¬ v = 0 := by omega
    have hv2 : ¬ (v : Int) = 0 := by omega
    have HI1 := Zh hi
    have HR1 := Zh hr
    rw [hi] at hkv hlcell hlfroz HST
    rw [hr] at hr32 HST
    clear hi hr
    go_wp2_with (go_at_call 249; refine (zrn g k o y _ hbit (by omega) ho2 hcell).mono ?_; rintro e w9 ⟨rfl, rfl⟩)
    go_region
    go_wp2
    go_step3
    have h1 : N % 2 ^ (k + 1) < 2 ^ p := Nat.lt_of_lt_of_le (Nat.mod_lt _ (Nat.two_pow_pos _)) (Nat.pow_le_pow_right (by decide) hkp)
    exact ⟨rfl, m - 1, by omega, k + 1, g, h, _, _, _, _, _, _, _, _, _, _, _, _, _, _, _, _, _, _, _, _, _, _, _, _, _, _, _, _, _, _, _, _, _, _, _, _, _, _, _, _, _, _, _, _, _, _, _, _, _, _, _, _, _, rfl, by omega, hg, hh, hgh, Zh h1, Zh (HC.out.far (p := ⟨h, i, none⟩) hgh _).drew, Zh (HST.out HY.out.symm), Zh (HW.out.setCell (p := ⟨h, i, none⟩) hh _).drew⟩
   ·have hd : decide ((k : Int) < (p : Int)) = false := by simp; omega
    by_cases hy0 : y = 0
    ·subst hy0
     go_wp2_with (go_at_call 249; refine (zrn g k o 0 _ hbit (by omega) ho2 hcell).mono ?_; rintro e w9 ⟨rfl, rfl⟩)
     go_step3
     have hmod : N % 2 ^ (k + 1) = N % 2 ^ k := by rw [K.mod_succ, HY.out, Nat.mul_zero, Nat.add_zero]
     exact ⟨rfl, m - 1, by omega, k + 1, g, h, _, _, _, _, _, _, _, _, _, _, _, _, _, _, _, _, _, _, _, _, _, _, _, _, _, _, _, _, _, _, _, _, _, _, _, _, _, _, _, _, _, _, _, _, _, _, _, _, _, _, _, _, _, rfl, by omega, hg, hh, hgh, by rw [hmod]; exact HM, HC, by rw [hmod]; exact HD, HW⟩
    ·obtain rfl : y = 1 := by omega
     go_wp2_with (go_at_call 249; refine (zrn g k o 1 _ hbit (by omega) ho2 hcell).mono ?_; rintro e w9 ⟨rfl, rfl⟩)
     simp only [Exit.jump]
     go_ret2
     refine .no ?_ HW.out
     have h1 := K.bit_ge HY.out
     have h2 : 2 ^ p <= 2 ^ k := Nat.pow_le_pow_right (by decide) (by omega)
     rw [HU.out, if_neg (by omega)]
  ·obtain rfl : k = 8 * s := by omega
   have hd : decide (((8 * s : Nat) : Int) < (s : Int) * 8) = false := by simp; omega
   go_wp2
   simp only [Exit.jump]
   go_ret2
   have hm := HM.out
   have hd2 := HD.out
   rw [Nat.mod_eq_of_lt HV.out] at hm hd2
   refine ⟨_, true, rfl, by rw [HU.out, if_pos hm]; rfl, ?_, HW.out⟩
   rw [HU.out, if_pos hm, Option.getD_some, K.dig_len]
   exact hd2.own hh (by rw [List.length_map, K.dig_len]) (Nat.le_refl _) (by unfold maxLen; omega) (by rw [List.length_map, K.dig_len])
theorem zo4 (a : Option Addr) (len cap : Nat) (b : List Int) (n v : Int) (w : World) (hl : b.length = len) (h : zfv .u8 w a cap b) :
  Calls Tryz.prog 187 #[.slice a len cap, .int .i64 n, .int .i64 v] w (zn7 b n v w) := by
 by_cases hc : K.size n v = len
 ·have hin : 0 <= n /\ n <= 400 /\ 0 <= v /\ v <= 32 := by
   by_cases hh : 0 <= n /\ n <= 400 /\ 0 <= v /\ v <= 32
   ·exact hh
   ·rw [K.size_no hh] at hc; omega
  obtain ⟨m, rfl⟩ : ∃ m : Nat, n = m := ⟨n.toNat, by omega⟩
  obtain ⟨u, rfl⟩ : ∃ u : Nat, v = u := ⟨v.toNat, by omega⟩
  rw [K.size_in (by omega) (by omega)] at hc
  exact zrq a len cap b m u w hl h (by omega) (by omega) (by exact_mod_cast hc)
 ·exact zrm a len cap b n v w hl hc
end Go.Proofs.YtnbkkjcmblfhpaaGreat
namespace Go.Proofs.YtnbkkjcmblfhpaaGreat
open Go.RowKit
namespace J
theorem apart {w : World} {B B' k k' n n' : Nat} {t t' : TypeId} {v v' : Value} {xs ys : List Value} (h : w.ownsRow B t k v n xs) (h' : w.ownsRow B' t' k' v' n' ys) (ht : t ≠ t') : v.ownBlock = none \/ v.ownBlock ≠ v'.ownBlock := by
 rcases h'.2 with ⟨rfl, _⟩ | ⟨q, cap, cur, rfl, _, hq, _⟩
 ·cases hv : v.ownBlock with
  | none => exact .inl rfl
  | some x => exact .inr (by simp [Value.ownBlock])
 ·exact .inr fun e => za4 h hq (fun e => ht e.symm) e rfl
theorem rd_l {wa w3 : World} {b H nn cn : Nat} {s : Y.St} {A : Y.A9} {an : Option Addr} {N : List Int} (h : Rd wa b H s A an nn cn N) (x : L.Ls) {a3 : Option Addr} {c3 : Nat} (hown : w3.ownsRow H 104 5 (.slice a3 (A.nl + 1) c3) (A.nl + 1) (L.flat s.l ++ L.cells x)) (hg : wa.grownBy w3 (Value.slice A.al A.nl A.cl).ownBlock) (hH : H <= wa.heap.size) :
  Rd (w3.setCell ⟨b, 14, none⟩ (.slice a3 (A.nl + 1) c3)) b H { s with l := s.l ++ [x] } { A with al := a3, nl := A.nl + 1, cl := c3 } an nn cn N /\ Far b H wa (w3.setCell ⟨b, 14, none⟩ (.slice a3 (A.nl + 1) c3)) /\ w3.cell? ⟨b, 14, none⟩ = some (.slice A.al A.nl A.cl) /\ w3.frozen? ⟨b, 14, none⟩ = false := by
 have gst := zf6 w3 b 14 (.slice a3 (A.nl + 1) c3)
 have hb := h.b
 have hne : some b ≠ (Value.slice A.al A.nl A.cl).ownBlock := fun e => by have := (h.o.rl.lt b e.symm).1; omega
 have k3 := h.k.grown hg hne
 have hf : L.flat s.l ++ L.cells x = L.flat (s.l ++ [x]) := by rw [L.flat_append]; simp [L.flat]
 rw [hf] at hown
 refine ⟨⟨?_, ⟨(h.o.rp.kept hg (apart h.o.rp h.o.rl (by decide))).kept gst (.inr fun e => by have := (h.o.rp.lt b e).1; omega), hown.kept gst (.inr fun e => by have := (hown.lt b e).1; omega), (h.o.rh.kept hg (apart h.o.rh h.o.rl (by decide))).kept gst (.inr fun e => by have := (h.o.rh.lt b e).1; omega), h.o.np, by show (s.l ++ [x]).length = _; rw [List.length_append, h.o.nl]; rfl, h.o.nh⟩, (h.n.kept hg (apart h.n h.o.rl (by decide))).kept gst (.inr fun e => by have := (h.n.lt b e).1; omega), hb⟩, (Far.of_grown hg hH (fun r e => ⟨.inl (h.o.rl.lt r e).1, fun o ho => row_cells h.o.rl e ho⟩)).trans (Far.of_grown gst (Nat.le_trans hH hg.size) (fun r e => by cases e; exact ⟨.inr rfl, fun o ho => by rw [show w3.heap[b]? = _ from k3] at ho; cases ho; rfl⟩)), k3.cell 14, k3.frozen 14⟩
 have := k3.set 14 (.slice a3 (A.nl + 1) c3)
 simpa [Y.cs] using this
theorem rd_h {wa w3 : World} {b H nn cn : Nat} {s : Y.St} {A : Y.A9} {an : Option Addr} {N : List Int} (h : Rd wa b H s A an nn cn N) (x : L.T3) {a3 : Option Addr} {c3 : Nat} (hown : w3.ownsRow H 135 3 (.slice a3 (A.nh + 1) c3) (A.nh + 1) (L.flat s.h ++ L.cells x)) (hg : wa.grownBy w3 (Value.slice A.ah A.nh A.ch).ownBlock) (hH : H <= wa.heap.size) :
  Rd (w3.setCell ⟨b, 15, none⟩ (.slice a3 (A.nh + 1) c3)) b H { s with h := s.h ++ [x] } { A with ah := a3, nh := A.nh + 1, ch := c3 } an nn cn N /\ Far b H wa (w3.setCell ⟨b, 15, none⟩ (.slice a3 (A.nh + 1) c3)) /\ w3.cell? ⟨b, 15, none⟩ = some (.slice A.ah A.nh A.ch) /\ w3.frozen? ⟨b, 15, none⟩ = false := by
 have gst := zf6 w3 b 15 (.slice a3 (A.nh + 1) c3)
 have hb := h.b
 have hne : some b ≠ (Value.slice A.ah A.nh A.ch).ownBlock := fun e => by have := (h.o.rh.lt b e.symm).1; omega
 have k3 := h.k.grown hg hne
 have hf : L.flat s.h ++ L.cells x = L.flat (s.h ++ [x]) := by rw [L.flat_append]; simp [L.flat]
 rw [hf] at hown
 refine ⟨⟨?_, ⟨(h.o.rp.kept hg (apart h.o.rp h.o.rh (by decide))).kept gst (.inr fun e => by have := (h.o.rp.lt b e).1; omega), (h.o.rl.kept hg (apart h.o.rl h.o.rh (by decide))).kept gst (.inr fun e => by have := (h.o.rl.lt b e).1; omega), hown.kept gst (.inr fun e => by have := (hown.lt b e).1; omega), h.o.np, h.o.nl, by show (s.h ++ [x]).length = _; rw [List.length_append, h.o.nh]; rfl⟩, (h.n.kept hg (apart h.n h.o.rh (by decide))).kept gst (.inr fun e => by have := (h.n.lt b e).1; omega), hb⟩, (Far.of_grown hg hH (fun r e => ⟨.inl (h.o.rh.lt r e).1, fun o ho => row_cells h.o.rh e ho⟩)).trans (Far.of_grown gst (Nat.le_trans hH hg.size) (fun r e => by cases e; exact ⟨.inr rfl, fun o ho => by rw [show w3.heap[b]? = _ from k3] at ho; cases ho; rfl⟩)), k3.cell 15, k3.frozen 15⟩
 have := k3.set 15 (.slice a3 (A.nh + 1) c3)
 simpa [Y.cs] using this
def mkL (now n : Int) : L.Ls := ⟨n / 32, n % 32 / 8, n % 8, 0, now⟩
def mkH (n : Int) : L.T3 := ⟨n / 8, n % 8, 0⟩
theorem unpack_bd {b l : List Int} {n w : Nat} (hb : ∀ c ∈ b, (Lit.int .u8 c).wf = true) (h : K.unpack b n w = some l) : (∀ x ∈ l, 0 <= x /\ x < 2 ^ w) /\ l.length = n /\ K.pack l w = some b := by
 have h1 := (K.unpack_some (show K.isd 256 b from fun d hd => ⟨(zo9 hb d hd).1, by have := (zo9 hb d hd).2; show d < 256; omega⟩)).1 h
 exact ⟨(K.pack_some.1 h1.1).2.2.1, h1.2, h1.1⟩
end J
theorem znd {P : Program} {ops : Array Oper} {Q : Exit -> Act -> World -> Prop} {j : Nat} {o : Oper} {K : Act -> World -> Prop} {a : Act} {w : World} (ho : ops[j]? = some o) (hw : Region.wanted o (yielded ops a.tmps) = true) (s x : Operand) (t : TypeId)
  (hop : o.op = .call { callee := .builtin .append, args := #[s, x], argTypes := #[t, t] })
  (base : Nat) (e : TypeId) (i : TypeInfo) (z : Value) (size bytes : Nat) (ht : P.underlying t = some (.slice e)) (hi : P.info? e = some i) (hz : i.zero = some z)
  (hsize : i.size = size) (hby : i.bytes = bytes) (hzs : z.cells.size = size) (hsz : 0 < size)
  (v : Value) (n : Nat) (xs : List Value) (hs : a.eval s = v) (hown : w.ownsRow base e size v n xs)
  (ad : Addr) (m c : Nat) (news : List Value) (hx : a.eval x = .slice (some ad) m c) (hl : news.length = m * size) (hnews : ∀ j u, news[j]? = some u -> w.cell? (ad.add j) = some u) (h1 : ∀ u ∈ news, u.oneCell' = true)
  (h63 : n + m <= maxLen) (hbytes : (n + m) * bytes <= 140737488355328) (hbase : base <= w.heap.size)
  (h : ∀ v' w', w'.ownsRow base e size v' (n + m) (xs ++ news) -> w.grownBy w' v.ownBlock -> K (a.put o.dst v') w') : wpOp P ops Q j K a w := by
 refine wpOp_step ho fun K' hK' => ?_
 rw [if_pos hw]
 exact wp_append_own w s x t hop base e i z size bytes ht hi hz hsize hby hzs hsz v n xs hs hown ad m c news hx hl hnews h1 h63 hbytes hbase (fun v' w' h1 h2 _ => hK' _ _ (h v' w' h1 h2))
end Go.Proofs.YtnbkkjcmblfhpaaGreat
