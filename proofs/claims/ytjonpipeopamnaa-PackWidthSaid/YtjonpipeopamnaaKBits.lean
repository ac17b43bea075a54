/-
  Walks of the slots' methods 'add' and 'bit', of slices.Clone, and of moorings/pack.Width.
-/
import Derived.Test.YtjonpipeopamnaaKSmall
namespace Go.Proofs.Ytjonpipeopamnaa
open Go.RowKit

theorem bit_of {o k : Nat} (ho : o < 256) : bits .and .u8 ((o : Int) / 2 ^ k) 1 = (K.bit o k : Nat) := by
  have e : ((o : Int) / 2 ^ k) = ((o / 2 ^ k : Nat) : Int) := by simp
  have h := Nat.div_le_self o (2 ^ k)
  have := u8_and_nat (o / 2 ^ k) 1 (by omega) (by omega)
  rw [Nat.and_one_is_mod] at this
  rw [e]
  exact this

theorem bit_any (g at_ o : Nat) (w : World) (ha : at_ < 12800) (ho : o < 256) (hc : w.cell? ⟨g, at_ / 8, none⟩ = some (.int .u8 o)) :
    Calls Try.prog 25 #[.pointer (some ⟨g, 0, none⟩), .int .i64 at_] w fun e w' => e = .returned (.int .i64 (K.bit o (at_ % 8) : Nat)) ∧ w = w' := by
  go_enter Try.func25, Try.ntmps25
  go_wp2
  go_ret
  exact ⟨ret_int (by rw [bit_of ho]; exact IntWalk.wrap64_in _ (by have := K.bit_lt o (at_ % 8); omega)), rfl⟩

theorem or_of {o b k : Nat} (ho : o < 2 ^ k) (hb : b < 2) (hk : k < 8) : bits .or .u8 (o : Int) (wrap64 ((b : Int) * 2 ^ k) % 256) = (o + b * 2 ^ k : Nat) := by
  have h1 : 2 ^ k ≤ 2 ^ 7 := Nat.pow_le_pow_right (by decide) (by omega)
  have h2 : b * 2 ^ k ≤ 1 * 2 ^ 7 := Nat.mul_le_mul (by omega) h1
  have e : ((b : Int) * 2 ^ k) = ((b * 2 ^ k : Nat) : Int) := by simp
  have h3 := u8_or_nat o (b * 2 ^ k) (by omega) (by omega)
  rw [K.or_add ho] at h3
  rw [e, IntWalk.wrap64_in _ (by omega), ← h3]
  congr 1
  omega

theorem add_any (g at_ o b : Nat) (w : World) (ha : at_ < 12800) (ho : o < 2 ^ (at_ % 8)) (hb : b < 2) (hc : w.cell? ⟨g, at_ / 8, none⟩ = some (.int .u8 o)) (hf : w.frozen? ⟨g, at_ / 8, none⟩ = false) :
    Calls Try.prog 21 #[.pointer (some ⟨g, 0, none⟩), .int .i64 at_, .int .i64 b] w fun e w' => e = .returned (.tuple #[]) ∧ w' = (w.setCell ⟨g, at_ / 8, none⟩ (.int .u8 (o + b * 2 ^ (at_ % 8) : Nat))).drew := by
  go_enter Try.func21, Try.ntmps21
  go_wp2
  go_region
  rw [or_of ho hb (Nat.mod_lt _ (by decide))]
  go_end0
  exact ⟨rfl, rfl⟩

theorem clone_any (x : Addr) (n cap : Nat) (L : List Int) (w : World) (hn16 : n ≤ 100000) (hl : L.length = n) (h : RowIn .u8 w (some x) cap L) :
    Calls Try.prog 22 #[.slice (some x) n cap] w fun e w' => ∃ v, e = .returned v ∧ w'.ownsRow w.heap.size 5 1 v n (L.map (Value.int .u8)) ∧ Below w.heap.size w w' := by
  obtain ⟨i0, hi, hz0, hz1, hz2⟩ := info_parts info5
  have he : ∀ w : World, (binOp .eql 23 (.slice (some x) n cap) (.slice none 0 0)).run Try.prog w = .ok (.bool false) w := fun _ => rfl
  have hn : n ≤ cap ∧ cap ≤ maxLen := by have := h.1; omega
  have HL := Lib.hid hl
  have HR := Lib.hid h
  clear hl h
  go_enter Try.func22, Try.ntmps22
  go_wp2_with (at_builtin; refine wpList_append_row _ rfl _ _ 23 rfl w.heap.size 5 i0 (.int .u8 0) 1 Try.underlying23 hi hz0 hz1 hz2 rfl _ 0 [] rfl ((Blok.new w 5 #[]).own (xs := []) (Nat.le_refl _) rfl (Nat.le_refl _) (by omega) rfl) .u8 _ n cap L rfl (HR.out.below ((Below.refl _ w).alloc (Nat.le_refl _) _)) HL.out (fun h => by cases h) (by unfold maxLen; omega) (by omega) (by simp) ?_; intro v' w2 hown' hgrow)
  go_ret
  rw [Nat.zero_add] at hown'
  exact ⟨v', rfl, by simpa using hown', ((Below.refl _ w).alloc (Nat.le_refl _) _).grown hgrow (by simp) (fun k ek => by cases ek; exact Nat.le_refl _)⟩

theorem i64_or {a b : Nat} (ha : a < 2 ^ 63) (hb : b < 2 ^ 63) : bits .or .i64 (a : Int) (b : Int) = ((a ||| b : Nat) : Int) :=
  (bits_nat .i64 63 (by decide) (fun n h0 h1 => by rw [IntKind.wrap_i64]; omega) a b ha hb).2
theorem i64_and {a b : Nat} (ha : a < 2 ^ 63) (hb : b < 2 ^ 63) : bits .and .i64 (a : Int) (b : Int) = ((a &&& b : Nat) : Int) :=
  (bits_nat .i64 63 (by decide) (fun n h0 h1 => by rw [IntKind.wrap_i64]; omega) a b ha hb).1
theorem i64_bit {o k : Nat} (ho : o < 4294967296) : bits .and .i64 ((o : Int) / 2 ^ k) 1 = (K.bit o k : Nat) := by
  have e : ((o : Int) / 2 ^ k) = ((o / 2 ^ k : Nat) : Int) := by simp
  have h := Nat.div_le_self o (2 ^ k)
  have := i64_and (a := o / 2 ^ k) (b := 1) (by omega) (by omega)
  rw [Nat.and_one_is_mod] at this
  rw [e]
  exact this

theorem K.lor_step {L : List Int} {k m : Nat} (hk : k < L.length) (hx : L.getD k 0 = (m : Int)) : K.lor (L.take k) ||| m = K.lor (L.take (k + 1)) := by
  rw [take_snoc hk, hx]
  simp [K.lor]
theorem K.lor_take {L : List Int} (h : K.isd (2 ^ 32) L) (k : Nat) : K.lor (L.take k) < 2 ^ 32 :=
  (K.lor_isd 32 (fun n hn => (h n (List.mem_of_mem_take hn)).1)).2 (fun n hn => h n (List.mem_of_mem_take hn))
theorem K.isd_at {B : Nat} {L : List Int} (h : K.isd B L) {k : Nat} (hk : k < L.length) : ∃ m : Nat, L.getD k 0 = (m : Int) ∧ m < B := by
  have hm : L.getD k 0 ∈ L := by simp [hk]
  have := h _ hm
  exact ⟨(L.getD k 0).toNat, by omega, by omega⟩

theorem width_no (a : Option Addr) (len cap : Nat) (L : List Int) (w : World) (hl : L.length = len) (h : RowIn .i64 w a cap L) (hn : ¬ K.isd (2 ^ 32) L) :
    Calls Try.prog 15 #[.slice a len cap] w fun e w' => e = .returned (.int .i64 (K.width L)) ∧ Below w.heap.size w w' := by
  have HW := Lib.hid (K.width_no hn)
  have hd : decide (K.lim 4294967296 L) = false := decide_eq_false hn
  have HD := Lib.hid hd
  have HL := Lib.hid hl
  have B1 : Hid (Below w.heap.size w (w.alloc (.cells #[.int .i64 4294967296] 3))) := Lib.hid ((Below.refl _ _).alloc (Nat.le_refl _) _)
  have HR := Lib.hid (h.below B1.out)
  clear hl h hn hd
  go_enter Try.func15, Try.ntmps15
  go_wp2_with fail
  refine (outside_any _ _).mono ?_
  rintro e w' ⟨rfl, rfl⟩
  go_wp2_with fail
  refine (contains_any a len cap L 4294967296 false w.heap.size _ HL.out HR.out (Blok.new w _ _) HD.out).mono ?_
  rintro e w' ⟨rfl, rfl⟩
  go_wp2
  go_ret
  exact ⟨by rw [HW.out]; rfl, B1.out⟩

theorem width_in (a : Option Addr) (len cap : Nat) (L : List Int) (w : World) (hl : L.length = len) (h : RowIn .i64 w a cap L) (hn : K.isd (2 ^ 32) L) :
    Calls Try.prog 15 #[.slice a len cap] w fun e w' => e = .returned (.int .i64 (K.width L)) ∧ Below w.heap.size w w' := by
  have HW : Hid (K.width L = Lib.bitLen (K.lor L)) := Lib.hid (by unfold K.width; rw [if_pos hn])
  have hd : decide (K.lim 4294967296 L) = true := decide_eq_true hn
  have HD := Lib.hid hd
  have HL := Lib.hid hl
  have HN := Lib.hid hn
  have B1 : Hid (Below w.heap.size w (w.alloc (.cells #[.int .i64 4294967296] 3))) := Lib.hid ((Below.refl _ _).alloc (Nat.le_refl _) _)
  have HR := Lib.hid (h.below B1.out)
  clear hl h hn hd
  go_enter Try.func15, Try.ntmps15
  go_wp2_with fail
  refine (outside_any _ _).mono ?_
  rintro e w' ⟨rfl, rfl⟩
  go_wp2_with fail
  refine (contains_any a len cap L 4294967296 true w.heap.size _ HL.out HR.out (Blok.new w _ _) HD.out).mono ?_
  rintro e w' ⟨rfl, rfl⟩
  have hlm : len ≤ 9223372036854775807 := by have := HR.out.1; have := HL.out; unfold maxLen at *; omega
  go_wp2
  go_loop [3, 11] (fun v i => ∃ k o : Nat, v = .int .i64 o ∧ i = .int .i64 k ∧ k ≤ len ∧ Hid (K.lor (L.take k) = o)) (fun _ i => len - (intOf i).toNat)
  case atStart => exact ⟨0, 0, rfl, rfl, by omega, Lib.hid (by simp [K.lor])⟩
  case round =>
    obtain ⟨k, o, rfl, rfl, hkn, HT⟩ := hrel
    have ho : o < 4294967296 := by rw [← HT.out]; exact K.lor_take HN.out k
    by_cases hlt : k < len
    · obtain ⟨b, off, rfl, hb, hc⟩ := row_at HR.out (by rw [HL.out]; exact hlt)
      obtain ⟨m, hx, hm⟩ := K.isd_at HN.out (k := k) (by rw [HL.out]; exact hlt)
      rw [hx] at hc
      have hor := i64_or (a := o) (b := m) (by omega) (by omega)
      have HX := Lib.hid hx
      clear hx
      go_wp2
      go_round
      case rel => exact ⟨k + 1, o ||| m, rfl, by go_num, by omega, Lib.hid (by rw [← HT.out]; exact (K.lor_step (by rw [HL.out]; exact hlt) HX.out).symm)⟩
      case measure => simp [intOf]; omega
    · have hd : decide (k < len) = false := by simp; omega
      have ht := HT.out
      rw [List.take_of_length_le (by rw [HL.out]; omega)] at ht
      rw [ht] at HW
      clear ht
      go_wp2_with (go_at_call 26; refine (len_any (o : Int) _ (by omega) (by omega)).mono ?_; rintro e w' ⟨rfl, rfl⟩)
      go_ret
      exact ⟨by rw [HW.out]; rfl, B1.out⟩

/-- **Width**, at whatever slice. -/
theorem width_any (a : Option Addr) (len cap : Nat) (L : List Int) (w : World) (hl : L.length = len) (h : RowIn .i64 w a cap L) :
    Calls Try.prog 15 #[.slice a len cap] w fun e w' => e = .returned (.int .i64 (K.width L)) ∧ Below w.heap.size w w' := by
  by_cases hn : K.isd (2 ^ 32) L
  · exact width_in a len cap L w hl h hn
  · exact width_no a len cap L w hl h hn
end Go.Proofs.Ytjonpipeopamnaa
