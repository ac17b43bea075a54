/-
  Walk of the document's Pack.
-/
import Derived.Test.YtjonpipeopamnaaKRef1
import Derived.Deep.LoopGhost
namespace Go.Proofs.Ytjonpipeopamnaa
open Go.RowKit

theorem K.pack_fit {L : List Int} {v : Int} (h : K.fit L v = false) : K.pack L v = none := by
  have h1 := of_decide_eq_false h
  unfold K.pack
  rw [if_neg]
  exact fun hh => h1 hh.2

theorem refPack_no (a : Option Addr) (len cap : Nat) (L : List Int) (v : Int) (w : World) (hl : L.length = len) (hr : RowIn .i64 w a cap L) (h : K.fit L v = false ∨ (K.fit L v = true ∧ 400 < len)) :
    Calls Try.prog 11 #[.slice a len cap, .int .i64 v] w (PackIs L v w) := by
  have HN : Hid (K.pack L v = none) := Lib.hid (by
    rcases h with h | ⟨_, h⟩
    · exact K.pack_fit h
    · unfold K.pack; rw [if_neg (by omega)])
  obtain ⟨f, hf⟩ : ∃ f, K.fit L v = f := ⟨_, rfl⟩
  have HF := Lib.hid hf
  have HL := Lib.hid hl
  have HR := Lib.hid hr
  rw [hf] at h
  clear hl hr hf
  rcases h with rfl | ⟨rfl, h4⟩
  all_goals
    go_enter Try.func11, Try.ntmps11
    go_wp2_with fail
    refine (fits_any _ len _ L v _ HL.out HR.out).mono ?_
    rintro e w1 ⟨rfl, hb⟩
    rw [HF.out]
    have HB := Lib.hid hb
    clear hb
    go_wp2
    go_ret2
    exact .no HN.out HB.out

theorem pow_to (k : Nat) (x : Int) (w : World) (hx : x = (k : Nat)) (hk : k ≤ 32) : Calls Try.prog 24 #[.int .i64 x] w fun e w' => e = .returned (.int .i64 (2 ^ k : Nat)) ∧ w = w' := by
  subst hx
  exact pow_any k w hk

/-- A bit is laid, among m bytes. -/
theorem bytes_step {m N k o b g : Nat} {x : Int} {w : World} {t : TypeId} (h : Blok w g t ((K.dig 256 m (N % 2 ^ k)).map (Value.int .u8)).toArray) (ho : (K.dig (2 ^ 8) m (N % 2 ^ k)).getD (k / 8) 0 = (o : Int)) (hb : b = K.bit N k) (hk : k / 8 < m) (hx : x = (o + b * 2 ^ (k % 8) : Nat)) :
    Blok (w.setCell ⟨g, k / 8, none⟩ (.int .u8 x)) g t ((K.dig 256 m (N % 2 ^ (k + 1))).map (Value.int .u8)).toArray := by
  subst hx
  have h1 := h.set (k / 8) (.int .u8 (o + b * 2 ^ (k % 8) : Nat))
  have h2 := K.dig_step (w := 8) (by decide) m N k hk
  rw [ho, ← hb] at h2
  have h3 : (((K.dig 256 m (N % 2 ^ k)).map (Value.int .u8)).toArray).setIfInBounds (k / 8) (.int .u8 (o + b * 2 ^ (k % 8) : Nat)) = ((K.dig 256 m (N % 2 ^ (k + 1))).map (Value.int .u8)).toArray := by
    rw [show (256 : Nat) = 2 ^ 8 from rfl, ← h2]
    apply Array.ext'
    simp
  rwa [h3] at h1

set_option maxRecDepth 100000 in
set_option maxHeartbeats 2000000 in
theorem refPack_in (a : Option Addr) (len cap : Nat) (L : List Int) (v : Nat) (w : World) (hl : L.length = len) (hr : RowIn .i64 w a cap L) (h4 : len ≤ 400) (hv : v ≤ 32) (hn : K.isd (2 ^ v) L) :
    Calls Try.prog 11 #[.slice a len cap, .int .i64 v] w (PackIs L v w) := by
  obtain ⟨i0, hi, hz0, hz1, hz2⟩ := info_parts info5
  obtain ⟨N, hN⟩ : ∃ N, K.val (2 ^ v) L = N := ⟨_, rfl⟩
  have HN : Hid (K.pack L v = some (K.dig 256 ((len * v + 7) / 8) N)) := Lib.hid (K.pack_some.2 ⟨by omega, hv, hn, by rw [hl, hN]⟩)
  have HS := Lib.hid (K.size_in (n := len) (w := v) h4 hv)
  have HF : Hid (K.fit L v = true) := Lib.hid (by rw [K.fit_nat L hv]; exact decide_eq_true hn)
  have HV : Hid (N < 2 ^ (len * v)) := Lib.hid (by have := K.val_lt L hn; rw [hN, K.pow_w, hl] at this; exact this)
  have HBIT : Hid (∀ j k m, j < len → k < v → L.getD j 0 = (m : Nat) → K.bit m k = K.bit N (j * v + k)) := Lib.hid fun j k m hj hk hm => by
    have h1 : (j * v + k) / v = j := by rw [Nat.mul_comm, Nat.mul_add_div (by omega), Nat.div_eq_of_lt hk, Nat.add_zero]
    have h2 : (j * v + k) % v = k := by rw [Nat.mul_comm, Nat.mul_add_mod, Nat.mod_eq_of_lt hk]
    have h3 := K.val_bit hn (k := j * v + k) (by omega) (by rw [h1]; omega)
    rw [h1, h2, hm, hN] at h3
    exact h3
  have HI := Lib.hid hn
  have HL := Lib.hid hl
  have HR := Lib.hid hr
  have hp : len * v ≤ 400 * 32 := Nat.mul_le_mul h4 hv
  obtain ⟨p, hp'⟩ : ∃ p, len * v = p := ⟨_, rfl⟩
  have HPP : Hid (∀ j, j ≤ len → j * v ≤ p) := Lib.hid fun j hj => by rw [← hp']; exact Nat.mul_le_mul_right _ hj
  rw [hp'] at hp HS HN HV
  obtain ⟨s, hs⟩ : ∃ s, (p + 7) / 8 = s := ⟨_, rfl⟩
  rw [hs] at HS HN
  have HP := Lib.hid hp'
  clear hl hr hn hN hp'
  go_enter Try.func11, Try.ntmps11
  go_wp2_with fail
  refine (fits_any _ len _ L v _ HL.out HR.out).mono ?_
  rintro e w1 ⟨rfl, hb⟩
  rw [HF.out]
  have HB := Lib.hid hb
  clear hb
  go_wp2_with (first
    | (go_at_call 18; refine (refSize_any len v _).mono ?_; rintro e w' ⟨rfl, rfl⟩; rw [HS.out])
    | (at_make; refine wpList_make_row _ rfl _ _ 23 rfl 5 i0 (.int .u8 0) Try.underlying23 hi hz0 hz1 rfl .i64 .i64 s rfl rfl (by rw [hz2]; omega) (by omega) ?_))
  have HB0 := Lib.hid (HB.out.alloc HB.out.size (.cells (madeCells #[.int .u8 0] s) 5))
  have HG0 : Hid (Blok (w1.alloc (.cells (madeCells #[.int .u8 0] s) 5)) w1.heap.size 5 ((K.dig 256 s (N % 2 ^ (0 * v))).map (Value.int .u8)).toArray) := Lib.hid (by
    rw [Nat.zero_mul, Nat.pow_zero, Nat.mod_one, K.dig_zero, ← made_ints]
    exact Blok.new w1 _ _)
  have hw1 : w.heap.size ≤ w1.heap.size := HB.out.size
  go_loopg [8, 9, 10, 11] len (fun g s8 s9 s10 s11 wr => ∃ j : Nat, s8 = .int .i64 j ∧ j + g = len ∧ Hid (Blok wr w1.heap.size 5 ((K.dig 256 s (N % 2 ^ (j * v))).map (Value.int .u8)).toArray) ∧ Hid (Below w.heap.size w wr))
  case atStart => exact ⟨0, rfl, by omega, HG0, HB0⟩
  case round =>
    obtain ⟨j, rfl, hj, HC, HW⟩ := hrel
    by_cases hlt : j < len
    · obtain ⟨b, off, rfl, hb, hc⟩ := row_at (HR.out.below HW.out) (i := j) (by rw [HL.out]; exact hlt)
      obtain ⟨m, hm, hmq⟩ := K.isd_at HI.out (k := j) (by rw [HL.out]; exact hlt)
      rw [hm] at hc
      have HM := Lib.hid hm
      have hm32 : m < 4294967296 := Nat.lt_of_lt_of_le hmq (Nat.pow_le_pow_right (by decide) hv)
      have hjp := HPP.out (j + 1) (by omega)
      rw [Nat.add_mul, Nat.one_mul] at hjp
      obtain ⟨jv, hjv⟩ : ∃ q, j * v = q := ⟨_, rfl⟩
      have hjvi : (j : Int) * (v : Int) = jv := by rw [← hjv]; simp
      have HBJ := Lib.hid fun k hk => HBIT.out j k m hlt hk hm
      rw [hjv] at hjp HC HBJ
      have HJV := Lib.hid hjv
      clear hm hjv
      go_wp2
      go_loopg [9, 10, 11] v (fun g s9 s10 s11 wx => ∃ k x : Nat, s9 = .int .i64 x ∧ s10 = .int .i64 k ∧ k + g = v ∧ x < 4294967296 ∧ Hid (x = m / 2 ^ k) ∧ Hid (Blok wx w1.heap.size 5 ((K.dig 256 s (N % 2 ^ (jv + k))).map (Value.int .u8)).toArray) ∧ Hid (Below w.heap.size w wx))
      case atStart => exact ⟨0, m, rfl, rfl, by omega, hm32, Lib.hid (by simp), HC, HW⟩
      case round =>
        obtain ⟨k, x, rfl, rfl, hk, hx32, HX, HD, HY⟩ := hrel
        by_cases hkv : k < v
        · have hbit : x % 2 = K.bit N (jv + k) := by rw [← HBJ.out k hkv, HX.out]; rfl
          obtain ⟨c, hc'⟩ : ∃ c, jv + k = c := ⟨_, rfl⟩
          have hci : (jv : Int) + (k : Int) = c := by omega
          rw [hc'] at HD hbit
          obtain ⟨o, ho1, ho2⟩ := K.old_lt (w := 8) (m := s) N c (by omega)
          obtain ⟨d, hd⟩ : ∃ d, c / 8 = d := ⟨_, rfl⟩
          obtain ⟨r, hr⟩ : ∃ r, c % 8 = r := ⟨_, rfl⟩
          obtain ⟨pw, hpw⟩ : ∃ q, 2 ^ r = q := ⟨_, rfl⟩
          have e1 : (c : Int) / 8 = (d : Int) := by omega
          have e2 : (c : Int) % 8 = (r : Int) := by omega
          have t1 : Int.tdiv (c : Int) 8 = (d : Int) := by rw [Int.tdiv_eq_ediv_of_nonneg (by omega), e1]
          have t2 : Int.tmod (c : Int) 8 = (r : Int) := by rw [Int.tmod_eq_emod_of_nonneg (by omega), e2]
          have hwd : IntKind.i64.wrap (d : Int) = d := by rw [IntKind.wrap_i64]; omega
          have hr8 : r < 8 := by omega
          have hds : d < s := by omega
          have hpw8 : pw ≤ 128 := by rw [← hpw]; exact Nat.pow_le_pow_right (n := 2) (by decide) (show r ≤ 7 by omega)
          have hpow : ∀ w : World, Calls Try.prog 24 #[.int .i64 r] w fun e w' => e = .returned (.int .i64 pw) ∧ w = w' := fun w => by rw [← hpw]; exact pow_any r w (by omega)
          have HPW := Lib.hid hpow
          have hST : ∀ (w : World) (x : Int), Blok w w1.heap.size 5 ((K.dig 256 s (N % 2 ^ c)).map (Value.int .u8)).toArray → 1 = K.bit N c → x = (o + pw : Nat) → Blok (w.setCell ⟨w1.heap.size, d, none⟩ (.int .u8 x)) w1.heap.size 5 ((K.dig 256 s (N % 2 ^ (c + 1))).map (Value.int .u8)).toArray := fun w x hB hb hx => by
            have := bytes_step (x := x) hB ho1 hb (by omega) (by rw [hx, hr, hpw, Nat.one_mul])
            rwa [hd] at this
          have HST := Lib.hid hST
          have hcell : wr.cell? ⟨w1.heap.size, d, none⟩ = some (.int .u8 o) := by
            rw [HD.out.cell]
            have : c / 8 < s := by omega
            rw [← hd]
            simp [K.dig_len, this, ← ho1]
          have hfroz : wr.frozen? ⟨w1.heap.size, d, none⟩ = false := HD.out.frozen _
          have HX2 : Hid (x / 2 = m / 2 ^ (k + 1)) := Lib.hid (by rw [HX.out, Nat.pow_succ, Nat.div_div_eq_div_mul])
          have HCC := Lib.hid hc'
          rw [hr, hpw] at ho2
          clear ho1 hc' hST hpow hd hr hpw
          by_cases hx1 : x % 2 = 1
          · have ht : ((x : Int) % 2 == 1) = true := by simp; omega
            have HB1 : Hid (1 = K.bit N c) := Lib.hid (by rw [← hbit, hx1])
            clear hbit
            go_wp2
            go_region_with (go_at_call 24; refine (HPW.out _).mono ?_; rintro e w' ⟨rfl, rfl⟩)
            all_goals
              go_wp2
              go_roundg (v - (k + 1))
              case measure => omega
              case rel => exact ⟨k + 1, x / 2, by simp, by go_num, by omega, by omega, HX2, Lib.hid (by rw [← Nat.add_assoc, HCC.out]; exact (HST.out _ ((o : Int) + pw) HD.out HB1.out (by simp)).drew), Lib.hid ((HY.out.setCell (p := ⟨w1.heap.size, d, none⟩) hw1 _).drew)⟩
          · have ht : ((x : Int) % 2 == 1) = false := by simp; omega
            have hb0 : K.bit N c = 0 := by rw [← hbit]; omega
            have hmod : N % 2 ^ (c + 1) = N % 2 ^ c := by rw [K.mod_succ, hb0, Nat.mul_zero, Nat.add_zero]
            have HMOD := Lib.hid hmod
            clear hbit hb0 hmod
            go_wp2
            go_roundg (v - (k + 1))
            case measure => omega
            case rel =>
              exact ⟨k + 1, x / 2, by simp, by go_num, by omega, by omega, HX2, Lib.hid (by rw [← Nat.add_assoc, HCC.out, HMOD.out]; exact HD.out), HY⟩
        · obtain rfl : k = v := by omega
          have hd : decide ((k : Int) < (k : Int)) = false := by simp
          go_wp2
          go_roundg (len - (j + 1))
          case measure => omega
          case rel =>
            exact ⟨j + 1, by go_num, by omega, Lib.hid (by rw [Nat.add_mul, Nat.one_mul, HJV.out]; exact HD.out), HY⟩
    · obtain rfl : j = len := by omega
      have hd : decide ((j : Int) < (j : Int)) = false := by simp
      go_wp2
      go_ret2
      have h1 := HC.out
      rw [HP.out, Nat.mod_eq_of_lt HV.out] at h1
      refine ⟨_, true, rfl, by rw [HN.out]; rfl, ?_, HW.out⟩
      rw [HN.out, Option.getD_some, K.dig_len]
      exact h1.own hw1 (by rw [List.length_map, K.dig_len]) (Nat.le_refl _) (by unfold maxLen; omega) (by rw [List.length_map, K.dig_len])

/-- **The document's Pack**, at whatever slice and width. -/
theorem refPack_any (a : Option Addr) (len cap : Nat) (L : List Int) (v : Int) (w : World) (hl : L.length = len) (hr : RowIn .i64 w a cap L) :
    Calls Try.prog 11 #[.slice a len cap, .int .i64 v] w (PackIs L v w) := by
  cases hf : K.fit L v with
  | false => exact refPack_no a len cap L v w hl hr (.inl hf)
  | true =>
    by_cases h4 : 400 < len
    · exact refPack_no a len cap L v w hl hr (.inr ⟨hf, h4⟩)
    · have h1 := of_decide_eq_true hf
      obtain ⟨u, rfl⟩ : ∃ u : Nat, v = u := ⟨v.toNat, by omega⟩
      rw [Int.toNat_natCast] at h1
      exact refPack_in a len cap L u w hl hr (by omega) (by omega) h1.2.2
/-- What the document's Pack tells, as a slice. -/
theorem refPackRow_any (a : Option Addr) (len cap : Nat) (L : List Int) (v : Int) (w : World) (hl : L.length = len) (h : RowIn .i64 w a cap L) : Calls Try.prog 11 #[.slice a len cap, .int .i64 v] w fun e w' =>
    ∃ a' cap' n', e = .returned (.tuple #[.slice a' n' cap', .bool (K.pack L v).isSome]) ∧ Hid (((K.pack L v).getD []).length = n') ∧ Hid (RowIn .u8 w' a' cap' ((K.pack L v).getD [])) ∧ Below w.heap.size w w' :=
  (refPack_any a len cap L v w hl h).mono fun e w' ⟨x, ok, he, hok, ho, hb⟩ => by
    obtain ⟨a', cap', rfl, _, hr⟩ := ownsRow_rowIn ho (K.pack_wf L v)
    exact ⟨a', cap', _, by rw [he, hok], rfl, hr, hb⟩
end Go.Proofs.Ytjonpipeopamnaa
