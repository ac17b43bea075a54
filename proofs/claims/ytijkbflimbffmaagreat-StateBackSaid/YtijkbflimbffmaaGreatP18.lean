import Derived.ScopeJumps
import Derived.Deep.RegionWith
import Derived.Test.YtijkbflimbffmaaGreatP0
import Derived.Test.YtijkbflimbffmaaGreatP17
namespace Go.Proofs.YtijkbflimbffmaaGreat
open Go.RowKit
theorem zpc {P : Nat -> Prop} (h : ∃ n, P n) : ∃ n, P n /\ ∀ m, P m -> n <= m := by
 obtain ⟨n, hn⟩ := h
 induction n using Nat.strongRecOn with
 | _ n ih =>
  by_cases hm : ∃ m, m < n /\ P m
  ·obtain ⟨m, h1, h2⟩ := hm
   exact ih m h1 h2
  ·exact ⟨n, hn, fun m hP => Nat.le_of_not_lt fun hlt => hm ⟨m, hlt, hP⟩⟩
open Classical in
noncomputable def leastM (J : Nat -> Act -> World -> Prop) (a : Act) (w : World) : Nat := if h : ∃ n, J n a w then (zpc h).choose else 0
theorem zrj {J : Nat -> Act -> World -> Prop} {a : Act} {w : World} {n : Nat} (h : J n a w) : leastM J a w <= n := by
 unfold leastM
 rw [dif_pos ⟨n, h⟩]
 exact (zpc (P := fun n => J n a w) ⟨n, h⟩).choose_spec.2 n h
theorem zrk {J : Nat -> Act -> World -> Prop} {a : Act} {w : World} (h : ∃ n, J n a w) : J (leastM J a w) a w := by
 unfold leastM
 rw [dif_pos h]
 exact (zpc h).choose_spec.1
theorem zn6 {P : Program} {a : Act} {w : World} {Q : Exit -> Act -> World -> Prop} {c y : Code} (l : Nat) (J : Nat -> Act -> World -> Prop) (hf : findLabel c l = some (.seq .skip y))
  (pass : ∀ n a w, J n a w -> y.wp P (Exit.jump l (fun a' w' => ∃ n', n' < n /\ J n' a' w') Q) a w)
  (first : (∀ n a w, J n a w -> y.wp P (Exit.jump l (fun a' w' => ∃ n, J n a' w') Q) a w) -> c.wp P (Exit.jump l (fun a' w' => ∃ n, J n a' w') Q) a w) : (Code.scope c).wp P Q a w := by
 refine wp_scope_jumps l (fun a w => ∃ n, J n a w) (leastM J) hf (first fun n a w hJ => wp_mono (pass n a w hJ) ?_) fun a w hJ => wp_seq (wp_skip (wp_mono (pass _ a w (zrk hJ)) ?_))
 ·intro e a' w' h
  cases e with
  | goto l' => obtain ⟨h1, n', _, h2⟩ := h; exact ⟨h1, n', h2⟩
  | _ => exact h
 ·intro e a' w' h
  cases e with
  | goto l' =>
   obtain ⟨h1, n', h2, h3⟩ := h
   exact ⟨h1, ⟨n', h3⟩, Nat.lt_of_le_of_lt (zrj h3) h2⟩
  | _ => exact h
end Go.Proofs.YtijkbflimbffmaaGreat
namespace Go.Proofs.YtijkbflimbffmaaGreat
set_option maxHeartbeats 1000000
set_option maxRecDepth 100000
open Go.RowKit
def zo2 (L : List Int) (v : Int) (w : World) (e : Ending) (w' : World) : Prop :=
 ∃ x ok, e = .returned (.tuple #[x, .bool ok]) /\ ok = (K.pack L v).isSome /\ w'.ownsRow w.heap.size 5 1 x ((K.pack L v).getD []).length (((K.pack L v).getD []).map (Value.int .u8)) /\ Below w.heap.size w w'
theorem zo2.no {L : List Int} {v : Int} {w w' : World} (h : K.pack L v = none) (hb : Below w.heap.size w w') : zo2 L v w (.returned (.tuple #[.slice none 0 0, .bool false])) w' := by
 refine ⟨_, _, rfl, ?_, ?_, hb⟩ <;> rw [h]
 ·rfl
 ·exact World.ownsRow_nil _ _ _ _
def K.zeros : Array Value := ((List.replicate 1600 (0 : Int)).map (Value.int .u8)).toArray
theorem K.zeros_ne : ¬ K.zeros = #[] := by
 intro h
 have := congrArg Array.size h
 rw [K.zeros] at this
 simp only [List.size_toArray, List.length_map, List.length_replicate] at this
 cases this
theorem zqq : (Tryz.prog.info? 201).map (fun i => i.zero) = some (some (.agg K.zeros)) := by kernel_rfl
theorem zo3 (w : World) : (zeroValue 201).run Tryz.prog w = .ok (.agg K.zeros) w := by
 have h := zqq
 rw [Option.map_eq_some_iff] at h
 obtain ⟨i, hi, hz⟩ := h
 simp [zeroValue, typeInfo, hi, hz]
theorem zs0 (a : Option Addr) (len cap : Nat) (L : List Int) (v : Int) (w : World) (hl : L.length = len) (hn : ¬ (len <= 400 /\ 0 <= v /\ v <= 32)) :
  Calls Tryz.prog 107 #[.slice a len cap, .int .i64 v] w (zo2 L v w) := by
 have HN : Hid (K.pack L v = none) := Zh (by unfold K.pack; rw [if_neg (by omega)])
 have HS := Zh (K.size_no (n := len) (w := v) (by omega))
 clear hl hn
 go_enter Tryz.func107, Tryz.ntmps107
 go_wp2
 go_step3
 go_wp2_with fail
 refine (znk _ _ _).mono ?_
 rintro e w1 ⟨rfl, hb⟩
 rw [HS.out]
 have HB := Zh hb
 clear hb
 go_wp2
 (try rw [Exit.noGoto_ret])
 go_ret2
 exact .no HN.out HB.out
theorem zrl {v : Nat} (hv : v <= 32) : wrap64 (2 ^ v) = ((2 ^ v : Nat) : Int) := by
 have h : 2 ^ v <= 2 ^ 32 := Nat.pow_le_pow_right (by decide) hv
 have e : ((2 : Int) ^ v) = ((2 ^ v : Nat) : Int) := by simp
 rw [e]
 generalize 2 ^ v = q at h
 exact IntWalk.wrap64_in _ (by omega)
theorem zsa (a : Option Addr) (len cap : Nat) (L : List Int) (v : Nat) (w : World) (hl : L.length = len) (h : zfv .i64 w a cap L) (h4 : len <= 400) (hv : v <= 32) (hn : ¬ K.isd (2 ^ v) L) :
  Calls Tryz.prog 107 #[.slice a len cap, .int .i64 v] w (zo2 L v w) := by
 have HN : Hid (K.pack L v = none) := Zh (by unfold K.pack; rw [if_neg]; rw [Int.toNat_natCast]; exact fun hh => hn hh.2.2.2)
 have HS := Zh (K.size_in (n := len) (w := v) h4 hv)
 have hd : decide (K.lim ((2 ^ v : Nat) : Int) L) = false := decide_eq_false hn
 have HD := Zh hd
 have HL := Zh hl
 have HR := Zh h
 obtain ⟨s, hs⟩ : ∃ s, (len * v + 7) / 8 = s := ⟨_, rfl⟩
 rw [hs] at HS
 obtain ⟨q, hq⟩ : ∃ q : Nat, 2 ^ v = q := ⟨_, rfl⟩
 have hsh := zrl hv
 rw [hq] at hsh HD
 clear hl h hn hd hs hq
 go_enter Tryz.func107, Tryz.ntmps107
 go_wp2
 go_step3
 go_wp2_with fail
 refine (znk _ _ _).mono ?_
 rintro e w1 ⟨rfl, hb⟩
 rw [HS.out]
 have HB := Zh hb
 clear hb
 go_wp2_with fail
 refine (zne _ _).mono ?_
 rintro e w2 ⟨rfl, rfl⟩
 have HB2 := Zh (HB.out.alloc HB.out.size (.cells #[.int .i64 (q : Int)] 3))
 go_wp2_with fail
 refine (zoe a len cap L q false w1.heap.size _ HL.out (HR.out.below HB2.out) (Blok.new w1 _ _) HD.out).mono ?_
 rintro e w3 ⟨rfl, rfl⟩
 go_wp2
 (try rw [Exit.noGoto_ret])
 go_ret2
 exact .no HN.out HB2.out
theorem ztk (g at_ o b : Nat) (x : Int) (w : World) (hx : x = (b : Nat)) (ha : at_ < 12800) (ho : o < 2 ^ (at_ % 8)) (hb : b < 2) (hc : w.cell? ⟨g, at_ / 8, none⟩ = some (.int .u8 o)) (hf : w.frozen? ⟨g, at_ / 8, none⟩ = false) :
  Calls Tryz.prog 188 #[.pointer (some ⟨g, 0, none⟩), .int .i64 at_, .int .i64 x] w fun e w' => e = .returned (.tuple #[]) /\ w' = (w.setCell ⟨g, at_ / 8, none⟩ (.int .u8 (o + b * 2 ^ (at_ % 8) : Nat))).drew := by
 subst hx
 exact zlo g at_ o b w ha ho hb hc hf
theorem zqr {N k o b g : Nat} {w : World} {t : TypeId} (h : Blok w g t ((K.dig 256 1600 (N % 2 ^ k)).map (Value.int .u8)).toArray) (ho : (K.dig (2 ^ 8) 1600 (N % 2 ^ k)).getD (k / 8) 0 = (o : Int)) (hb : b = K.bit N k) (hk : k < 12800) :
  Blok ((w.drew.setCell ⟨g, k / 8, none⟩ (.int .u8 (o + b * 2 ^ (k % 8) : Nat))).drew) g t ((K.dig 256 1600 (N % 2 ^ (k + 1))).map (Value.int .u8)).toArray := by
 have h1 := (h.drew.set (k / 8) (.int .u8 (o + b * 2 ^ (k % 8) : Nat))).drew
 have h2 := K.dig_step (w := 8) (by decide) 1600 N k (by omega)
 rw [ho, <- hb] at h2
 have h3 : (((K.dig 256 1600 (N % 2 ^ k)).map (Value.int .u8)).toArray).setIfInBounds (k / 8) (.int .u8 (o + b * 2 ^ (k % 8) : Nat)) = ((K.dig 256 1600 (N % 2 ^ (k + 1))).map (Value.int .u8)).toArray := by
  rw [show (256 : Nat) = 2 ^ 8 from rfl, <- h2]
  apply Array.ext'
  simp
 rwa [h3] at h1
def ztv (a : Option Addr) (len cap v s p N : Nat) (w : World) (n : Nat) (a' : Act) (w' : World) : Prop :=
 ∃ (k g : Nat) (u2 u3 u4 u5 u9 u10 u11 u12 u13 u14 u15 u16 u17 u18 u19 u20 u21 u22 u23 u24 u25 u26 u27 u28 u29 u30 u31 u32 u33 u34 u35 u36 u37 u38 u39 u40 u41 u42 u43 u44 u45 : Value), a' = { tmps := #[.slice a len cap, .int .i64 v, u2, u3, u4, u5, .int .i64 s, .pointer (some ⟨g, 0, none⟩), .int .i64 k, u9, u10, u11, u12, u13, u14, u15, u16, u17, u18, u19, u20, u21, u22, u23, u24, u25, u26, u27, u28, u29, u30, u31, u32, u33, u34, u35, u36, u37, u38, u39, u40, u41, u42, u43, u44, u45], defers := [] } /\ k + n = p /\ w.heap.size <= g /\ Hid (Blok w' g 201 ((K.dig 256 1600 (N % 2 ^ k)).map (Value.int .u8)).toArray) /\ Hid (Below w.heap.size w w')
theorem zs1 (a : Option Addr) (len cap : Nat) (L : List Int) (v : Nat) (w : World) (hl : L.length = len) (h : zfv .i64 w a cap L) (h4 : len <= 400) (hv : v <= 32) (hn : K.isd (2 ^ v) L) :
  Calls Tryz.prog 107 #[.slice a len cap, .int .i64 v] w (zo2 L v w) := by
 have HN : Hid (K.pack L v = some (K.dig 256 ((len * v + 7) / 8) (K.val (2 ^ v) L))) := Zh (K.pack_some.2 ⟨by omega, hv, hn, by rw [hl]⟩)
 have HS := Zh (K.size_in (n := len) (w := v) h4 hv)
 have hd : decide (K.lim ((2 ^ v : Nat) : Int) L) = true := decide_eq_true hn
 have HD := Zh hd
 have HL := Zh hl
 have HR := Zh h
 have HI := Zh hn
 have hp : len * v <= 400 * 32 := Nat.mul_le_mul h4 hv
 obtain ⟨p, hp'⟩ : ∃ p, len * v = p := ⟨_, rfl⟩
 have hpi : (len : Int) * (v : Int) = p := by rw [<- hp']; simp
 rw [hp'] at hp HS HN
 obtain ⟨s, hs⟩ : ∃ s, (p + 7) / 8 = s := ⟨_, rfl⟩
 rw [hs] at HS HN
 obtain ⟨q, hq⟩ : ∃ q : Nat, 2 ^ v = q := ⟨_, rfl⟩
 have hsh := zrl hv
 rw [hq] at hsh HD
 have HQ := Zh hq
 clear hl h hn hd hq
 have hz := zo3
 have hzn := K.zeros_ne
 go_enter Tryz.func107, Tryz.ntmps107
 go_wp2
 refine zn6 0 (ztv a len cap v s p (K.val q L) w) rfl ?pass ?first
 case first =>
  intro hpass
  go_wp2_with fail
  refine (znk _ _ _).mono ?_
  rintro e w1 ⟨rfl, hb⟩
  rw [HS.out]
  have HB := Zh hb
  clear hb
  go_wp2_with fail
  refine (zne _ _).mono ?_
  rintro e w2 ⟨rfl, rfl⟩
  have HB2 := Zh (HB.out.alloc HB.out.size (.cells #[.int .i64 (q : Int)] 3))
  go_wp2_with fail
  refine (zoe a len cap L q true w1.heap.size _ HL.out (HR.out.below HB2.out) (Blok.new w1 _ _) HD.out).mono ?_
  rintro e w3 ⟨rfl, rfl⟩
  go_wp2
  go_step3
  refine (by assumption : ∀ (a : Act) (w : World), Code.wp _ _ _ a w -> _) _ _ ?_
  refine hpass p _ _ ⟨0, w1.heap.size + 1, _, _, _, _, _, _, _, _, _, _, _, _, _, _, _, _, _, _, _, _, _, _, _, _, _, _, _, _, _, _, _, _, _, _, _, _, _, _, _, _, _, rfl, by omega, ?_, ?_, ?_⟩
  ·have := HB.out.size; omega
  ·refine Zh ?_
   have h1 := Blok.new (w1.alloc (.cells #[.int .i64 (q : Int)] 3)) 201 K.zeros
   rw [World.size_alloc] at h1
   rw [Nat.pow_zero, Nat.mod_one, K.dig_zero]
   exact h1
  ·exact Zh (HB2.out.alloc HB2.out.size _)
 case pass =>
  clear hz hzn
  rintro n a' w' ⟨k, g, u2, u3, u4, u5, u9, u10, u11, u12, u13, u14, u15, u16, u17, u18, u19, u20, u21, u22, u23, u24, u25, u26, u27, u28, u29, u30, u31, u32, u33, u34, u35, u36, u37, u38, u39, u40, u41, u42, u43, u44, u45, rfl, hkn, hg, HC, HW⟩
  by_cases hlt : k < p
  ·have hv0 : 0 < v := by
    rcases Nat.eq_zero_or_pos v with rfl | h
    ·omega
    ·exact h
   have hkv : k / v < len := Nat.div_lt_of_lt_mul (by rw [Nat.mul_comm, hp']; exact hlt)
   obtain ⟨i, hi⟩ : ∃ i, k / v = i := ⟨_, rfl⟩
   obtain ⟨r, hr⟩ : ∃ r, k % v = r := ⟨_, rfl⟩
   have e1 : (k : Int) / (v : Int) = (i : Int) := by rw [<- hi]; simp
   have e2 : (k : Int) % (v : Int) = (r : Int) := by rw [<- hr]; simp
   have t1 : Int.tdiv (k : Int) (v : Int) = (i : Int) := by rw [Int.tdiv_eq_ediv_of_nonneg (by omega), e1]
   have t2 : Int.tmod (k : Int) (v : Int) = (r : Int) := by rw [Int.tmod_eq_emod_of_nonneg (by omega), e2]
   rw [hi] at hkv
   obtain ⟨b, off, rfl, hb, hc⟩ := zl4 (HR.out.below HW.out) (i := i) (by rw [HL.out]; exact hkv)
   obtain ⟨m, hm, hmq⟩ := K.isd_at HI.out (k := i) (by rw [HL.out]; exact hkv)
   rw [hm] at hc
   have hm32 : m < 4294967296 := Nat.lt_of_lt_of_le hmq (Nat.pow_le_pow_right (by decide) hv)
   have hr32 : r < 32 := by have := Nat.mod_lt k hv0; omega
   have hbit : Hid (bits .and .i64 ((m : Int) / 2 ^ r) 1 = (K.bit m r : Nat)) := Zh (zsz hm32)
   have HM := Zh hm
   obtain ⟨o, ho1, ho2⟩ := K.old_lt (w := 8) (m := 1600) (K.val q L) k (by omega)
   have HO := Zh ho1
   have hcell : w'.cell? ⟨g, k / 8, none⟩ = some (.int .u8 o) := by
    rw [HC.out.cell]
    have : k / 8 < 1600 := by omega
    simp [K.dig_len, this, <- ho1]
   have hfroz : w'.frozen? ⟨g, k / 8, none⟩ = false := HC.out.frozen _
   have hb2 := K.bit_lt m r
   have HI1 := Zh hi
   have HR1 := Zh hr
   have hv1 : ¬ v = 0 := by omega
   have hwi : IntKind.i64.wrap (i : Int) = i := by rw [IntKind.wrap_i64]; omega
   have hv2 : ¬ (v : Int) = 0 := by omega
   clear hm hmq ho1 hi hr
   go_wp2
   go_region_with (go_at_call 188; refine (ztk g k o (K.bit m r) _ _ hbit.out (by omega) ho2 hb2 (show w'.drew.cell? _ = _ from hcell) (show w'.drew.frozen? _ = _ from hfroz)).mono ?_; rintro e w2 ⟨rfl, hw2⟩; have HW2 := Zh hw2; clear hw2)
   go_wp2
   go_step3
   have hbN : K.bit m r = K.bit (K.val q L) k := by
    have := K.val_bit HI.out (k := k) hv0 (by rw [HL.out, HI1.out]; exact hkv)
    rw [HI1.out, HR1.out, HM.out, HQ.out] at this
    exact this
   refine ⟨rfl, n - 1, by omega, k + 1, g, _, _, _, _, _, _, _, _, _, _, _, _, _, _, _, _, _, _, _, _, _, _, _, _, _, _, _, _, _, _, _, _, _, _, _, _, _, _, _, _, _, rfl, by omega, hg, Zh ?_, Zh ?_⟩
   ·rw [HW2.out]
    exact zqr HC.out HO.out hbN (by omega)
   ·rw [HW2.out]
    exact (HW.out.drew.setCell (p := ⟨g, k / 8, none⟩) hg _).drew
  ·obtain rfl : k = p := by omega
   have hval := K.val_lt L HI.out
   rw [HL.out, K.pow_w, hp', HQ.out] at hval
   have hrow := (HC.out.row (cap := 1600) (K.byte_isd (K.dig_isd (by decide) _ _)) (by rw [K.dig_len]; omega) (by unfold maxLen; omega)).take s
   rw [Nat.mod_eq_of_lt hval, K.dig_take (show s <= 1600 by omega)] at hrow
   have HRW := Zh hrow
   have hd : decide ((k : Int) < (k : Int)) = false := by simp
   have hs16 : s <= 1600 := by omega
   have hs17 : (s : Int) <= 1600 := by omega
   clear hrow
   go_wp2_with fail
   refine (zqp _ s 1600 _ _ (by omega) (K.dig_len _ _ _) HRW.out).mono ?_
   rintro e w3 ⟨x, rfl, ho, hb3⟩
   have HOW := Zh ho
   have HB3 := Zh hb3
   clear ho hb3
   go_wp2
   simp only [Exit.jump]
   go_ret2
   refine ⟨_, true, rfl, by rw [HN.out]; rfl, ?_, HW.out.trans (HB3.out.mono HW.out.size)⟩
   rw [HN.out, Option.getD_some, K.dig_len, <- HQ.out] at *
   exact zan HOW.out HW.out.size
theorem zqk (a : Option Addr) (len cap : Nat) (L : List Int) (v : Int) (w : World) (hl : L.length = len) (h : zfv .i64 w a cap L) :
  Calls Tryz.prog 107 #[.slice a len cap, .int .i64 v] w (zo2 L v w) := by
 by_cases hc : len <= 400 /\ 0 <= v /\ v <= 32
 ·obtain ⟨u, rfl⟩ : ∃ u : Nat, v = u := ⟨v.toNat, by omega⟩
  by_cases hi : K.isd (2 ^ u) L
  ·exact zs1 a len cap L u w hl h hc.1 (by omega) hi
  ·exact zsa a len cap L u w hl h hc.1 (by omega) hi
 ·exact zs0 a len cap L v w hl hc
end Go.Proofs.YtijkbflimbffmaaGreat
