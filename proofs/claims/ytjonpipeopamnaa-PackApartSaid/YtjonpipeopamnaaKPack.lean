/-
  Walk of moorings/pack.Pack, for every slice and every width.
-/
import Derived.Test.YtjonpipeopamnaaKBits
import Derived.Test.YtjonpipeopamnaaGoto
namespace Go.Proofs.Ytjonpipeopamnaa
open Go.RowKit

/-- What Pack returns. -/
def PackIs (L : List Int) (v : Int) (w : World) (e : Ending) (w' : World) : Prop :=
  ∃ x ok, e = .returned (.tuple #[x, .bool ok]) ∧ ok = (K.pack L v).isSome ∧ w'.ownsRow w.heap.size 5 1 x ((K.pack L v).getD []).length (((K.pack L v).getD []).map (Value.int .u8)) ∧ Below w.heap.size w w'
theorem PackIs.no {L : List Int} {v : Int} {w w' : World} (h : K.pack L v = none) (hb : Below w.heap.size w w') : PackIs L v w (.returned (.tuple #[.slice none 0 0, .bool false])) w' := by
  refine ⟨_, _, rfl, ?_, ?_, hb⟩ <;> rw [h]
  · rfl
  · exact World.ownsRow_nil _ _ _ _

/-- A new array of slots. -/
def K.zeros : Array Value := ((List.replicate 1600 (0 : Int)).map (Value.int .u8)).toArray
theorem K.zeros_ne : ¬ K.zeros = #[] := by
  intro h
  have := congrArg Array.size h
  rw [K.zeros] at this
  simp only [List.size_toArray, List.length_map, List.length_replicate] at this
  cases this
theorem info_slots : (Try.prog.info? 41).map (fun i => i.zero) = some (some (.agg K.zeros)) := by kernel_rfl
theorem zero_slots (w : World) : (zeroValue 41).run Try.prog w = .ok (.agg K.zeros) w := by
  have h := info_slots
  rw [Option.map_eq_some_iff] at h
  obtain ⟨i, hi, hz⟩ := h
  simp [zeroValue, typeInfo, hi, hz]

theorem pack_no (a : Option Addr) (len cap : Nat) (L : List Int) (v : Int) (w : World) (hl : L.length = len) (hn : ¬ (len ≤ 400 ∧ 0 ≤ v ∧ v ≤ 32)) :
    Calls Try.prog 10 #[.slice a len cap, .int .i64 v] w (PackIs L v w) := by
  have HN : Hid (K.pack L v = none) := Lib.hid (by unfold K.pack; rw [if_neg (by omega)])
  have HS := Lib.hid (K.size_no (n := len) (w := v) (by omega))
  clear hl hn
  go_enter Try.func10, Try.ntmps10
  go_wp2
  go_step3
  go_wp2_with fail
  refine (size_any _ _ _).mono ?_
  rintro e w1 ⟨rfl, hb⟩
  rw [HS.out]
  have HB := Lib.hid hb
  clear hb
  go_wp2
  (try rw [Exit.noGoto_ret])
  go_ret2
  exact .no HN.out HB.out

theorem shl_one {v : Nat} (hv : v ≤ 32) : wrap64 (2 ^ v) = ((2 ^ v : Nat) : Int) := by
  have h : 2 ^ v ≤ 2 ^ 32 := Nat.pow_le_pow_right (by decide) hv
  have e : ((2 : Int) ^ v) = ((2 ^ v : Nat) : Int) := by simp
  rw [e]
  generalize 2 ^ v = q at h
  exact IntWalk.wrap64_in _ (by omega)

theorem pack_bad (a : Option Addr) (len cap : Nat) (L : List Int) (v : Nat) (w : World) (hl : L.length = len) (h : RowIn .i64 w a cap L) (h4 : len ≤ 400) (hv : v ≤ 32) (hn : ¬ K.isd (2 ^ v) L) :
    Calls Try.prog 10 #[.slice a len cap, .int .i64 v] w (PackIs L v w) := by
  have HN : Hid (K.pack L v = none) := Lib.hid (by unfold K.pack; rw [if_neg]; rw [Int.toNat_natCast]; exact fun hh => hn hh.2.2.2)
  have HS := Lib.hid (K.size_in (n := len) (w := v) h4 hv)
  have hd : decide (K.lim ((2 ^ v : Nat) : Int) L) = false := decide_eq_false hn
  have HD := Lib.hid hd
  have HL := Lib.hid hl
  have HR := Lib.hid h
  obtain ⟨s, hs⟩ : ∃ s, (len * v + 7) / 8 = s := ⟨_, rfl⟩
  rw [hs] at HS
  obtain ⟨q, hq⟩ : ∃ q : Nat, 2 ^ v = q := ⟨_, rfl⟩
  have hsh := shl_one hv
  rw [hq] at hsh HD
  clear hl h hn hd hs hq
  go_enter Try.func10, Try.ntmps10
  go_wp2
  go_step3
  go_wp2_with fail
  refine (size_any _ _ _).mono ?_
  rintro e w1 ⟨rfl, hb⟩
  rw [HS.out]
  have HB := Lib.hid hb
  clear hb
  go_wp2_with fail
  refine (outside_any _ _).mono ?_
  rintro e w2 ⟨rfl, rfl⟩
  have HB2 := Lib.hid (HB.out.alloc HB.out.size (.cells #[.int .i64 (q : Int)] 3))
  go_wp2_with fail
  refine (contains_any a len cap L q false w1.heap.size _ HL.out (HR.out.below HB2.out) (Blok.new w1 _ _) HD.out).mono ?_
  rintro e w3 ⟨rfl, rfl⟩
  go_wp2
  (try rw [Exit.noGoto_ret])
  go_ret2
  exact .no HN.out HB2.out

theorem add_to (g at_ o b : Nat) (x : Int) (w : World) (hx : x = (b : Nat)) (ha : at_ < 12800) (ho : o < 2 ^ (at_ % 8)) (hb : b < 2) (hc : w.cell? ⟨g, at_ / 8, none⟩ = some (.int .u8 o)) (hf : w.frozen? ⟨g, at_ / 8, none⟩ = false) :
    Calls Try.prog 21 #[.pointer (some ⟨g, 0, none⟩), .int .i64 at_, .int .i64 x] w fun e w' => e = .returned (.tuple #[]) ∧ w' = (w.setCell ⟨g, at_ / 8, none⟩ (.int .u8 (o + b * 2 ^ (at_ % 8) : Nat))).drew := by
  subst hx
  exact add_any g at_ o b w ha ho hb hc hf

/-- A bit is laid. -/
theorem slots_step {N k o b g : Nat} {w : World} {t : TypeId} (h : Blok w g t ((K.dig 256 1600 (N % 2 ^ k)).map (Value.int .u8)).toArray) (ho : (K.dig (2 ^ 8) 1600 (N % 2 ^ k)).getD (k / 8) 0 = (o : Int)) (hb : b = K.bit N k) (hk : k < 12800) :
    Blok ((w.drew.setCell ⟨g, k / 8, none⟩ (.int .u8 (o + b * 2 ^ (k % 8) : Nat))).drew) g t ((K.dig 256 1600 (N % 2 ^ (k + 1))).map (Value.int .u8)).toArray := by
  have h1 := (h.drew.set (k / 8) (.int .u8 (o + b * 2 ^ (k % 8) : Nat))).drew
  have h2 := K.dig_step (w := 8) (by decide) 1600 N k (by omega)
  rw [ho, ← hb] at h2
  have h3 : (((K.dig 256 1600 (N % 2 ^ k)).map (Value.int .u8)).toArray).setIfInBounds (k / 8) (.int .u8 (o + b * 2 ^ (k % 8) : Nat)) = ((K.dig 256 1600 (N % 2 ^ (k + 1))).map (Value.int .u8)).toArray := by
    rw [show (256 : Nat) = 2 ^ 8 from rfl, ← h2]
    apply Array.ext'
    simp
  rwa [h3] at h1

/-- What holds where Pack's label stands, n rounds ahead of the end. -/
def PackJ (a : Option Addr) (len cap v s p N : Nat) (w : World) (n : Nat) (a' : Act) (w' : World) : Prop :=
  ∃ (k g : Nat) (u2 u3 u4 u5 u9 u10 u11 u12 u13 u14 u15 u16 u17 u18 u19 u20 u21 u22 u23 u24 u25 u26 u27 u28 u29 u30 u31 u32 u33 u34 u35 u36 u37 u38 u39 u40 u41 u42 u43 u44 u45 : Value), a' = { tmps := #[.slice a len cap, .int .i64 v, u2, u3, u4, u5, .int .i64 s, .pointer (some ⟨g, 0, none⟩), .int .i64 k, u9, u10, u11, u12, u13, u14, u15, u16, u17, u18, u19, u20, u21, u22, u23, u24, u25, u26, u27, u28, u29, u30, u31, u32, u33, u34, u35, u36, u37, u38, u39, u40, u41, u42, u43, u44, u45], defers := [] } ∧ k + n = p ∧ w.heap.size ≤ g ∧ Hid (Blok w' g 41 ((K.dig 256 1600 (N % 2 ^ k)).map (Value.int .u8)).toArray) ∧ Hid (Below w.heap.size w w')

set_option maxRecDepth 100000 in
set_option maxHeartbeats 1000000 in
theorem pack_in (a : Option Addr) (len cap : Nat) (L : List Int) (v : Nat) (w : World) (hl : L.length = len) (h : RowIn .i64 w a cap L) (h4 : len ≤ 400) (hv : v ≤ 32) (hn : K.isd (2 ^ v) L) :
    Calls Try.prog 10 #[.slice a len cap, .int .i64 v] w (PackIs L v w) := by
  have HN : Hid (K.pack L v = some (K.dig 256 ((len * v + 7) / 8) (K.val (2 ^ v) L))) := Lib.hid (K.pack_some.2 ⟨by omega, hv, hn, by rw [hl]⟩)
  have HS := Lib.hid (K.size_in (n := len) (w := v) h4 hv)
  have hd : decide (K.lim ((2 ^ v : Nat) : Int) L) = true := decide_eq_true hn
  have HD := Lib.hid hd
  have HL := Lib.hid hl
  have HR := Lib.hid h
  have HI := Lib.hid hn
  have hp : len * v ≤ 400 * 32 := Nat.mul_le_mul h4 hv
  obtain ⟨p, hp'⟩ : ∃ p, len * v = p := ⟨_, rfl⟩
  have hpi : (len : Int) * (v : Int) = p := by rw [← hp']; simp
  rw [hp'] at hp HS HN
  obtain ⟨s, hs⟩ : ∃ s, (p + 7) / 8 = s := ⟨_, rfl⟩
  rw [hs] at HS HN
  obtain ⟨q, hq⟩ : ∃ q : Nat, 2 ^ v = q := ⟨_, rfl⟩
  have hsh := shl_one hv
  rw [hq] at hsh HD
  have HQ := Lib.hid hq
  clear hl h hn hd hq
  have hz := zero_slots
  have hzn := K.zeros_ne
  go_enter Try.func10, Try.ntmps10
  go_wp2
  refine wp_scope_goto 0 (PackJ a len cap v s p (K.val q L) w) rfl ?pass ?first
  case first =>
    intro hpass
    go_wp2_with fail
    refine (size_any _ _ _).mono ?_
    rintro e w1 ⟨rfl, hb⟩
    rw [HS.out]
    have HB := Lib.hid hb
    clear hb
    go_wp2_with fail
    refine (outside_any _ _).mono ?_
    rintro e w2 ⟨rfl, rfl⟩
    have HB2 := Lib.hid (HB.out.alloc HB.out.size (.cells #[.int .i64 (q : Int)] 3))
    go_wp2_with fail
    refine (contains_any a len cap L q true w1.heap.size _ HL.out (HR.out.below HB2.out) (Blok.new w1 _ _) HD.out).mono ?_
    rintro e w3 ⟨rfl, rfl⟩
    go_wp2
    go_step3
    refine (by assumption : ∀ (a : Act) (w : World), Code.wp _ _ _ a w → _) _ _ ?_
    refine hpass p _ _ ⟨0, w1.heap.size + 1, _, _, _, _, _, _, _, _, _, _, _, _, _, _, _, _, _, _, _, _, _, _, _, _, _, _, _, _, _, _, _, _, _, _, _, _, _, _, _, _, _, rfl, by omega, ?_, ?_, ?_⟩
    · have := HB.out.size; omega
    · refine Lib.hid ?_
      have h1 := Blok.new (w1.alloc (.cells #[.int .i64 (q : Int)] 3)) 41 K.zeros
      rw [World.size_alloc] at h1
      rw [Nat.pow_zero, Nat.mod_one, K.dig_zero]
      exact h1
    · exact Lib.hid (HB2.out.alloc HB2.out.size _)
  case pass =>
    clear hz hzn
    rintro n a' w' ⟨k, g, u2, u3, u4, u5, u9, u10, u11, u12, u13, u14, u15, u16, u17, u18, u19, u20, u21, u22, u23, u24, u25, u26, u27, u28, u29, u30, u31, u32, u33, u34, u35, u36, u37, u38, u39, u40, u41, u42, u43, u44, u45, rfl, hkn, hg, HC, HW⟩
    by_cases hlt : k < p
    · have hv0 : 0 < v := by
        rcases Nat.eq_zero_or_pos v with rfl | h
        · omega
        · exact h
      have hkv : k / v < len := Nat.div_lt_of_lt_mul (by rw [Nat.mul_comm, hp']; exact hlt)
      obtain ⟨i, hi⟩ : ∃ i, k / v = i := ⟨_, rfl⟩
      obtain ⟨r, hr⟩ : ∃ r, k % v = r := ⟨_, rfl⟩
      have e1 : (k : Int) / (v : Int) = (i : Int) := by rw [← hi]; simp
      have e2 : (k : Int) % (v : Int) = (r : Int) := by rw [← hr]; simp
      have t1 : Int.tdiv (k : Int) (v : Int) = (i : Int) := by rw [Int.tdiv_eq_ediv_of_nonneg (by omega), e1]
      have t2 : Int.tmod (k : Int) (v : Int) = (r : Int) := by rw [Int.tmod_eq_emod_of_nonneg (by omega), e2]
      rw [hi] at hkv
      obtain ⟨b, off, rfl, hb, hc⟩ := row_at (HR.out.below HW.out) (i := i) (by rw [HL.out]; exact hkv)
      obtain ⟨m, hm, hmq⟩ := K.isd_at HI.out (k := i) (by rw [HL.out]; exact hkv)
      rw [hm] at hc
      have hm32 : m < 4294967296 := Nat.lt_of_lt_of_le hmq (Nat.pow_le_pow_right (by decide) hv)
      have hr32 : r < 32 := by have := Nat.mod_lt k hv0; omega
      have hbit : Hid (bits .and .i64 ((m : Int) / 2 ^ r) 1 = (K.bit m r : Nat)) := Lib.hid (i64_bit hm32)
      have HM := Lib.hid hm
      obtain ⟨o, ho1, ho2⟩ := K.old_lt (w := 8) (m := 1600) (K.val q L) k (by omega)
      have HO := Lib.hid ho1
      have hcell : w'.cell? ⟨g, k / 8, none⟩ = some (.int .u8 o) := by
        rw [HC.out.cell]
        have : k / 8 < 1600 := by omega
        simp [K.dig_len, this, ← ho1]
      have hfroz : w'.frozen? ⟨g, k / 8, none⟩ = false := HC.out.frozen _
      have hb2 := K.bit_lt m r
      have HI1 := Lib.hid hi
      have HR1 := Lib.hid hr
      have hv1 : ¬ v = 0 := by omega
      have hwi : IntKind.i64.wrap (i : Int) = i := by rw [IntKind.wrap_i64]; omega
      have hv2 : ¬ (v : Int) = 0 := by omega
      clear hm hmq ho1 hi hr
      go_wp2
      go_region_with (go_at_call 21; refine (add_to g k o (K.bit m r) _ _ hbit.out (by omega) ho2 hb2 (show w'.drew.cell? _ = _ from hcell) (show w'.drew.frozen? _ = _ from hfroz)).mono ?_; rintro e w2 ⟨rfl, hw2⟩; have HW2 := Lib.hid hw2; clear hw2)
      go_wp2
      go_step3
      have hbN : K.bit m r = K.bit (K.val q L) k := by
        have := K.val_bit HI.out (k := k) hv0 (by rw [HL.out, HI1.out]; exact hkv)
        rw [HI1.out, HR1.out, HM.out, HQ.out] at this
        exact this
      refine ⟨rfl, n - 1, by omega, k + 1, g, _, _, _, _, _, _, _, _, _, _, _, _, _, _, _, _, _, _, _, _, _, _, _, _, _, _, _, _, _, _, _, _, _, _, _, _, _, _, _, _, _, rfl, by omega, hg, Lib.hid ?_, Lib.hid ?_⟩
      · rw [HW2.out]
        exact slots_step HC.out HO.out hbN (by omega)
      · rw [HW2.out]
        exact (HW.out.drew.setCell (p := ⟨g, k / 8, none⟩) hg _).drew
    · obtain rfl : k = p := by omega
      have hval := K.val_lt L HI.out
      rw [HL.out, K.pow_w, hp', HQ.out] at hval
      have hrow := (HC.out.row (cap := 1600) (K.byte_isd (K.dig_isd (by decide) _ _)) (by rw [K.dig_len]; omega) (by unfold maxLen; omega)).take s
      rw [Nat.mod_eq_of_lt hval, K.dig_take (show s ≤ 1600 by omega)] at hrow
      have HRW := Lib.hid hrow
      have hd : decide ((k : Int) < (k : Int)) = false := by simp
      have hs16 : s ≤ 1600 := by omega
      have hs17 : (s : Int) ≤ 1600 := by omega
      clear hrow
      go_wp2_with fail
      refine (clone_any _ s 1600 _ _ (by omega) (K.dig_len _ _ _) HRW.out).mono ?_
      rintro e w3 ⟨x, rfl, ho, hb3⟩
      have HOW := Lib.hid ho
      have HB3 := Lib.hid hb3
      clear ho hb3
      go_wp2
      simp only [Exit.jump]
      go_ret2
      refine ⟨_, true, rfl, by rw [HN.out]; rfl, ?_, HW.out.trans (HB3.out.mono HW.out.size)⟩
      rw [HN.out, Option.getD_some, K.dig_len, ← HQ.out] at *
      exact ownsRow_base HOW.out HW.out.size

/-- **Pack**, at whatever slice and width. -/
theorem pack_any (a : Option Addr) (len cap : Nat) (L : List Int) (v : Int) (w : World) (hl : L.length = len) (h : RowIn .i64 w a cap L) :
    Calls Try.prog 10 #[.slice a len cap, .int .i64 v] w (PackIs L v w) := by
  by_cases hc : len ≤ 400 ∧ 0 ≤ v ∧ v ≤ 32
  · obtain ⟨u, rfl⟩ : ∃ u : Nat, v = u := ⟨v.toNat, by omega⟩
    by_cases hi : K.isd (2 ^ u) L
    · exact pack_in a len cap L u w hl h hc.1 (by omega) hi
    · exact pack_bad a len cap L u w hl h hc.1 (by omega) hi
  · exact pack_no a len cap L v w hl hc
/-- What Pack tells, as a slice. -/
theorem packRow_any (a : Option Addr) (len cap : Nat) (L : List Int) (v : Int) (w : World) (hl : L.length = len) (h : RowIn .i64 w a cap L) : Calls Try.prog 10 #[.slice a len cap, .int .i64 v] w fun e w' =>
    ∃ a' cap' n', e = .returned (.tuple #[.slice a' n' cap', .bool (K.pack L v).isSome]) ∧ Hid (((K.pack L v).getD []).length = n') ∧ Hid (RowIn .u8 w' a' cap' ((K.pack L v).getD [])) ∧ Below w.heap.size w w' :=
  (pack_any a len cap L v w hl h).mono fun e w' ⟨x, ok, he, hok, ho, hb⟩ => by
    obtain ⟨a', cap', rfl, _, hr⟩ := ownsRow_rowIn ho (K.pack_wf L v)
    exact ⟨a', cap', _, by rw [he, hok], rfl, hr, hb⟩
end Go.Proofs.Ytjonpipeopamnaa
