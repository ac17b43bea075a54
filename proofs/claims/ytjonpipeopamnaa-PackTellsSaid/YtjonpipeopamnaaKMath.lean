/-
  The plain mathematics of packed numbers: a list as the digits of one number, and its digits to another base.
-/
import Derived.Test.YtjonpipeopamnaaKit
import Derived.Lib.BitFns
namespace Go.Proofs.Ytjonpipeopamnaa
open Go.RowKit

/-- The number whose digits to a base a list is, the least one first; n digits of a number. -/
def K.val (B : Nat) : List Int → Nat
  | [] => 0
  | d :: r => d.toNat + B * K.val B r
def K.dig (B : Nat) : Nat → Nat → List Int
  | 0, _ => []
  | n + 1, N => ((N % B : Nat) : Int) :: K.dig B n (N / B)

/-- Are all numbers from 0 to a base less 1? -/
def K.isd (B : Nat) (L : List Int) : Prop := ∀ d ∈ L, 0 ≤ d ∧ d < (B : Int)
instance (B : Nat) (L : List Int) : Decidable (K.isd B L) := inferInstanceAs (Decidable (∀ d ∈ L, 0 ≤ d ∧ d < (B : Int)))

theorem K.dig_len (B : Nat) : ∀ (n N : Nat), (K.dig B n N).length = n
  | 0, _ => rfl
  | n + 1, N => by simp [K.dig, K.dig_len B n]
theorem K.dig_isd {B : Nat} (hB : 0 < B) : ∀ (n N : Nat), K.isd B (K.dig B n N)
  | 0, _ => by simp [K.dig, K.isd]
  | n + 1, N => by
    intro d hd
    rcases List.mem_cons.1 hd with rfl | hd
    · have := Nat.mod_lt N hB; omega
    · exact K.dig_isd hB n (N / B) d hd
theorem K.isd_tail {B : Nat} {d : Int} {r : List Int} (h : K.isd B (d :: r)) : K.isd B r := fun x hx => h x (by simp [hx])
theorem K.dig_val {B : Nat} : ∀ (L : List Int), K.isd B L → K.dig B L.length (K.val B L) = L
  | [], _ => rfl
  | d :: r, h => by
    obtain ⟨h0, h1⟩ := h d (by simp)
    obtain ⟨e, rfl⟩ : ∃ e : Nat, d = e := ⟨d.toNat, by omega⟩
    have he : e < B := by omega
    simp only [List.length_cons, K.dig, K.val, Int.toNat_natCast]
    rw [Nat.add_mul_mod_self_left, Nat.mod_eq_of_lt he, Nat.add_mul_div_left _ _ (by omega), Nat.div_eq_of_lt he, Nat.zero_add, K.dig_val r (K.isd_tail h)]
theorem K.val_dig (B : Nat) : ∀ (n N : Nat), K.val B (K.dig B n N) = N % B ^ n
  | 0, N => by simp [K.dig, K.val, Nat.mod_one]
  | n + 1, N => by
    simp only [K.dig, K.val, Int.toNat_natCast]
    rw [K.val_dig B n, Nat.pow_succ, Nat.mul_comm (B ^ n) B, Nat.mod_mul]
theorem K.val_lt {B : Nat} : ∀ (L : List Int), K.isd B L → K.val B L < B ^ L.length
  | [], _ => by simp [K.val]
  | d :: r, h => by
    obtain ⟨h0, h1⟩ := h d (by simp)
    have ih := K.val_lt r (K.isd_tail h)
    simp only [K.val, List.length_cons, Nat.pow_succ]
    have h2 : d.toNat < B := by omega
    have h3 : B * (K.val B r + 1) ≤ B * B ^ r.length := Nat.mul_le_mul_left _ ih
    rw [Nat.mul_comm (B ^ r.length) B]
    rw [Nat.mul_add] at h3
    omega
theorem K.val_append (B : Nat) : ∀ (L R : List Int), K.val B (L ++ R) = K.val B L + B ^ L.length * K.val B R
  | [], R => by simp [K.val]
  | d :: r, R => by
    simp only [List.cons_append, K.val, List.length_cons, K.val_append B r R, Nat.pow_succ, Nat.mul_add]
    rw [Nat.mul_comm (B ^ r.length) B, Nat.mul_assoc]
    omega
theorem K.dig_mod (B : Nat) : ∀ (n N : Nat), K.dig B n (N % B ^ n) = K.dig B n N
  | 0, _ => rfl
  | n + 1, N => by
    simp only [K.dig]
    rw [Nat.pow_succ, Nat.mul_comm (B ^ n) B, Nat.mod_mul_right_mod, Nat.mod_mul_right_div_self, K.dig_mod B n]
theorem K.dig_add (B : Nat) : ∀ (n m N : Nat), K.dig B (n + m) N = K.dig B n N ++ K.dig B m (N / B ^ n)
  | 0, m, N => by simp [K.dig]
  | n + 1, m, N => by
    rw [Nat.add_right_comm]
    simp only [K.dig, List.cons_append]
    rw [K.dig_add B n m, Nat.div_div_eq_div_mul, Nat.pow_succ, Nat.mul_comm (B ^ n) B]
theorem K.dig_take {B n m N : Nat} (h : n ≤ m) : (K.dig B m N).take n = K.dig B n N := by
  have e := K.dig_add B n (m - n) N
  rw [show n + (m - n) = m by omega] at e
  rw [e, List.take_left' (K.dig_len _ _ _)]
theorem K.dig_get (B : Nat) : ∀ (n N j : Nat), j < n → (K.dig B n N).getD j 0 = ((N / B ^ j % B : Nat) : Int)
  | 0, _, _, h => by omega
  | n + 1, N, 0, _ => by simp [K.dig]
  | n + 1, N, j + 1, h => by
    simp only [K.dig, List.getD_cons_succ]
    rw [K.dig_get B n _ j (by omega), Nat.div_div_eq_div_mul, Nat.pow_succ, Nat.mul_comm (B ^ j) B]
theorem K.dig_zero (B : Nat) : ∀ n, K.dig B n 0 = List.replicate n 0
  | 0 => rfl
  | n + 1 => by simp [K.dig, K.dig_zero B n, List.replicate_succ]
theorem K.val_get {B : Nat} {L : List Int} (h : K.isd B L) {j : Nat} (hj : j < L.length) : (L.getD j 0) = ((K.val B L / B ^ j % B : Nat) : Int) := by
  rw [← K.dig_get B L.length _ j hj, K.dig_val L h]

/-- A number's bit. -/
def K.bit (N at_ : Nat) : Nat := N / 2 ^ at_ % 2
theorem K.bit_lt (N k : Nat) : K.bit N k < 2 := Nat.mod_lt _ (by decide)
theorem K.bit_test (N k : Nat) : K.bit N k = (N.testBit k).toNat := (Nat.toNat_testBit N k).symm
theorem K.bit_ge {N k : Nat} (h : K.bit N k = 1) : 2 ^ k ≤ N := by
  unfold K.bit at h
  rcases Nat.lt_or_ge N (2 ^ k) with h1 | h1
  · rw [Nat.div_eq_of_lt h1] at h; cases h
  · exact h1
theorem K.mod_succ (N k : Nat) : N % 2 ^ (k + 1) = N % 2 ^ k + 2 ^ k * K.bit N k := by rw [Nat.pow_succ, Nat.mod_mul]; rfl
/-- A bit of a number is a bit of one of its digits. -/
theorem K.bit_digit (N : Nat) {w : Nat} (k : Nat) (hw : 0 < w) : K.bit (N / (2 ^ w) ^ (k / w) % 2 ^ w) (k % w) = K.bit N k := by
  have hk := Nat.mod_lt k hw
  rw [← Nat.pow_mul, K.bit_test, K.bit_test, Nat.testBit_mod_two_pow, Nat.testBit_div_two_pow, Nat.mod_add_div]
  simp [hk]
theorem K.val_bit {w : Nat} {L : List Int} (h : K.isd (2 ^ w) L) {k : Nat} (hw : 0 < w) (hk : k / w < L.length) : K.bit (L.getD (k / w) 0).toNat (k % w) = K.bit (K.val (2 ^ w) L) k := by
  rw [K.val_get h hk, Int.toNat_natCast, K.bit_digit _ _ hw]

/-- What a digit is before its bit is laid: below the bit; with it: the same digits of a bit more. -/
theorem K.old_lt {w m : Nat} (N k : Nat) (hk : k / w < m) : ∃ o : Nat, (K.dig (2 ^ w) m (N % 2 ^ k)).getD (k / w) 0 = o ∧ o < 2 ^ (k % w) := by
  refine ⟨_, K.dig_get _ _ _ _ hk, ?_⟩
  have h1 : N % 2 ^ k < 2 ^ (w * (k / w)) * 2 ^ (k % w) := by rw [← Nat.pow_add, Nat.div_add_mod]; exact Nat.mod_lt _ (Nat.two_pow_pos _)
  rw [← Nat.pow_mul]
  exact Nat.lt_of_le_of_lt (Nat.mod_le _ _) (Nat.div_lt_of_lt_mul h1)
theorem K.dig_step {w : Nat} (hw : 0 < w) : ∀ (m N k : Nat), k / w < m → (K.dig (2 ^ w) m (N % 2 ^ k)).set (k / w) (((K.dig (2 ^ w) m (N % 2 ^ k)).getD (k / w) 0) + ((K.bit N k * 2 ^ (k % w) : Nat) : Int)) = K.dig (2 ^ w) m (N % 2 ^ (k + 1))
  | 0, _, _, h => absurd h (Nat.not_lt_zero _)
  | m + 1, N, k, h => by
    by_cases hk : k < w
    · have e0 : k / w = 0 := Nat.div_eq_of_lt hk
      have e1 : k % w = k := Nat.mod_eq_of_lt hk
      have hp : 2 ^ (k + 1) ≤ 2 ^ w := Nat.pow_le_pow_right (by decide) hk
      have hq : 2 ^ k ≤ 2 ^ w := Nat.pow_le_pow_right (by decide) (Nat.le_of_lt hk)
      have h1 := Nat.mod_lt N (Nat.two_pow_pos k)
      have h2 := Nat.mod_lt N (Nat.two_pow_pos (k + 1))
      rw [e0, e1]
      simp only [K.dig, List.set_cons_zero, List.getD_cons_zero]
      rw [Nat.mod_eq_of_lt (show N % 2 ^ k < 2 ^ w by omega), Nat.mod_eq_of_lt (show N % 2 ^ (k + 1) < 2 ^ w by omega), Nat.div_eq_of_lt (show N % 2 ^ k < 2 ^ w by omega), Nat.div_eq_of_lt (show N % 2 ^ (k + 1) < 2 ^ w by omega), K.mod_succ, Nat.mul_comm]
      simp
    · obtain ⟨q, rfl⟩ : ∃ q, k = q + w := ⟨k - w, by omega⟩
      have e0 : (q + w) / w = q / w + 1 := Nat.add_div_right q hw
      have e1 : (q + w) % w = q % w := Nat.add_mod_right q w
      rw [e0] at h
      rw [e0, e1]
      simp only [K.dig, List.set_cons_succ, List.getD_cons_succ]
      have e2 : ∀ j, 2 ^ (j + w) = 2 ^ w * 2 ^ j := fun j => by rw [Nat.add_comm, Nat.pow_add]
      have e3 : K.bit N (q + w) = K.bit (N / 2 ^ w) q := by unfold K.bit; rw [e2, Nat.div_div_eq_div_mul]
      rw [show q + w + 1 = q + 1 + w by omega, e3, e2, e2, Nat.mod_mul_right_mod, Nat.mod_mul_right_mod, Nat.mod_mul_right_div_self, Nat.mod_mul_right_div_self, K.dig_step hw m (N / 2 ^ w) q (by omega)]
theorem K.or_add {o k b : Nat} (ho : o < 2 ^ k) : o ||| b * 2 ^ k = o + b * 2 ^ k := by
  rw [Nat.mul_comm, Nat.or_comm, Nat.add_comm, Nat.two_pow_add_eq_or_of_lt ho]

/-- How many bytes; the bytes of numbers, or none; the numbers of bytes, or none. -/
def K.size (n w : Int) : Int := if 0 ≤ n ∧ n ≤ 400 ∧ 0 ≤ w ∧ w ≤ 32 then (n * w + 7) / 8 else -1
def K.pack (L : List Int) (w : Int) : Option (List Int) :=
  if L.length ≤ 400 ∧ 0 ≤ w ∧ w ≤ 32 ∧ K.isd (2 ^ w.toNat) L then some (K.dig 256 ((L.length * w.toNat + 7) / 8) (K.val (2 ^ w.toNat) L)) else none
def K.unpack (b : List Int) (n w : Int) : Option (List Int) :=
  if 0 ≤ n ∧ n ≤ 400 ∧ 0 ≤ w ∧ w ≤ 32 ∧ b.length = (n.toNat * w.toNat + 7) / 8 ∧ K.val 256 b < 2 ^ (n.toNat * w.toNat) then some (K.dig (2 ^ w.toNat) n.toNat (K.val 256 b)) else none

theorem K.size_in {n w : Nat} (hn : n ≤ 400) (hw : w ≤ 32) : K.size n w = (((n * w + 7) / 8 : Nat) : Int) := by
  unfold K.size; rw [if_pos (by omega)]; simp
theorem K.size_no {n w : Int} (h : ¬ (0 ≤ n ∧ n ≤ 400 ∧ 0 ≤ w ∧ w ≤ 32)) : K.size n w = -1 := by unfold K.size; rw [if_neg h]

theorem K.pack_some {L : List Int} {w : Nat} {b : List Int} : K.pack L w = some b ↔ (L.length ≤ 400 ∧ w ≤ 32 ∧ K.isd (2 ^ w) L ∧ b = K.dig 256 ((L.length * w + 7) / 8) (K.val (2 ^ w) L)) := by
  unfold K.pack
  rw [Int.toNat_natCast]
  constructor
  · intro h
    split at h
    · next hh => exact ⟨hh.1, by omega, hh.2.2.2, by simpa using h.symm⟩
    · cases h
  · rintro ⟨h1, h2, h3, rfl⟩
    rw [if_pos ⟨h1, by omega, by omega, h3⟩]
theorem K.pack_w {L : List Int} {w : Int} {b : List Int} (h : K.pack L w = some b) : ∃ v : Nat, w = v ∧ v ≤ 32 ∧ K.pack L v = some b := by
  have h' := h
  unfold K.pack at h
  split at h
  · next hh =>
    obtain ⟨v, rfl⟩ : ∃ v : Nat, w = v := ⟨w.toNat, by omega⟩
    exact ⟨v, rfl, by omega, h'⟩
  · cases h
theorem K.pack_isSome {L : List Int} {w : Nat} : (K.pack L w).isSome = decide (L.length ≤ 400 ∧ w ≤ 32 ∧ K.isd (2 ^ w) L) := by
  unfold K.pack
  rw [Int.toNat_natCast]
  split
  · next hh => rw [decide_eq_true]; rfl; exact ⟨hh.1, by omega, hh.2.2.2⟩
  · next hh => rw [decide_eq_false]; rfl; intro h; apply hh; exact ⟨h.1, by omega, by omega, h.2.2⟩
theorem K.pack_neg {L : List Int} {w : Int} (h : w < 0 ∨ 32 < w) : K.pack L w = none := by unfold K.pack; rw [if_neg (by omega)]

theorem K.pow_w (w n : Nat) : (2 ^ w) ^ n = 2 ^ (n * w) := by rw [← Nat.pow_mul, Nat.mul_comm]
theorem K.pow_8 (m : Nat) : 256 ^ m = 2 ^ (8 * m) := by rw [show (256 : Nat) = 2 ^ 8 from rfl, ← Nat.pow_mul]

theorem K.unpack_some {b l : List Int} {n w : Nat} (hb : K.isd 256 b) : K.unpack b n w = some l ↔ (K.pack l w = some b ∧ l.length = n) := by
  rw [K.pack_some]
  unfold K.unpack
  rw [Int.toNat_natCast, Int.toNat_natCast]
  constructor
  · intro h
    split at h
    · next hh =>
      obtain ⟨h1, h2, h3, h4, h5, h6⟩ := hh
      have h' : K.dig (2 ^ w) n (K.val 256 b) = l := by simpa using h
      subst h'
      have hv : K.val (2 ^ w) (K.dig (2 ^ w) n (K.val 256 b)) = K.val 256 b := by rw [K.val_dig, K.pow_w, Nat.mod_eq_of_lt h6]
      refine ⟨⟨by rw [K.dig_len]; omega, by omega, K.dig_isd (Nat.two_pow_pos w) _ _, ?_⟩, K.dig_len _ _ _⟩
      rw [hv, K.dig_len, ← h5, K.dig_val b hb]
    · cases h
  · rintro ⟨⟨h1, h2, h3, h4⟩, rfl⟩
    have hlt := K.val_lt l h3
    rw [K.pow_w] at hlt
    have hle : 2 ^ (l.length * w) ≤ 256 ^ ((l.length * w + 7) / 8) := by rw [K.pow_8]; exact Nat.pow_le_pow_right (by decide) (by omega)
    have hv : K.val 256 b = K.val (2 ^ w) l := by rw [h4, K.val_dig, Nat.mod_eq_of_lt (Nat.lt_of_lt_of_le hlt hle)]
    rw [if_pos ⟨by omega, by omega, by omega, by omega, by rw [h4, K.dig_len], by rw [hv]; exact hlt⟩, hv, K.dig_val l h3]
theorem K.unpack_w {b : List Int} {n w : Int} {l : List Int} (h : K.unpack b n w = some l) : ∃ m v : Nat, n = m ∧ w = v ∧ m ≤ 400 ∧ v ≤ 32 ∧ K.unpack b m v = some l := by
  have h' := h
  unfold K.unpack at h
  split at h
  · next hh =>
    obtain ⟨v, rfl⟩ : ∃ v : Nat, w = v := ⟨w.toNat, by omega⟩
    obtain ⟨m, rfl⟩ : ∃ v : Nat, n = v := ⟨n.toNat, by omega⟩
    exact ⟨m, v, rfl, rfl, by omega, by omega, h'⟩
  · cases h
theorem K.unpack_size {b : List Int} {n w : Int} {l : List Int} (h : K.unpack b n w = some l) : K.size n w = b.length := by
  unfold K.unpack at h
  split at h
  · next hh =>
    obtain ⟨v, rfl⟩ : ∃ v : Nat, w = v := ⟨w.toNat, by omega⟩
    obtain ⟨m, rfl⟩ : ∃ v : Nat, n = v := ⟨n.toNat, by omega⟩
    rw [K.size_in (by omega) (by omega)]
    have := hh.2.2.2.2.1
    rw [Int.toNat_natCast, Int.toNat_natCast] at this
    omega
  · cases h

theorem K.isd_byte {b : List Int} (h : ∀ c ∈ b, (Lit.int .u8 c).wf = true) : K.isd 256 b := fun c hc => by have := bounds_u8 (h c hc); omega
theorem K.byte_isd {b : List Int} (h : K.isd 256 b) : ∀ c ∈ b, (Lit.int .u8 c).wf = true := fun c hc => by
  have := h c hc
  exact WalkArith.wf_u8 (by omega)
theorem K.wf_isd {w : Nat} {l : List Int} (hw : w ≤ 32) (h : K.isd (2 ^ w) l) : ∀ c ∈ l, (Lit.int .i64 c).wf = true := fun c hc => by
  have h1 := h c hc
  have h2 : 2 ^ w ≤ 2 ^ 32 := Nat.pow_le_pow_right (by decide) hw
  have h3 : c < 4294967296 := by omega
  exact WalkArith.wf_i64 (by omega)
theorem K.pack_byte {L : List Int} {w : Int} : K.isd 256 ((K.pack L w).getD []) := by
  unfold K.pack
  split
  · exact K.dig_isd (by decide) _ _
  · simp [K.isd]
theorem K.pack_wf (L : List Int) (w : Int) : ∀ c ∈ (K.pack L w).getD [], (Lit.int .u8 c).wf = true := K.byte_isd K.pack_byte
theorem K.unpack_wf (b : List Int) (n w : Int) : ∀ c ∈ (K.unpack b n w).getD [], (Lit.int .i64 c).wf = true := by
  unfold K.unpack
  split
  · next hh => exact K.wf_isd (w := w.toNat) (by omega) (K.dig_isd (Nat.two_pow_pos _) _ _)
  · simp
theorem K.pack_len {L : List Int} {w : Nat} {b : List Int} (h : K.pack L w = some b) : b.length = (L.length * w + 7) / 8 := by
  obtain ⟨_, _, _, rfl⟩ := K.pack_some.1 h
  exact K.dig_len _ _ _

/-- What is packed comes back; lists that pack as the same bytes are the same. -/
theorem K.back {L b : List Int} {w : Nat} (h : K.pack L w = some b) : K.unpack b L.length w = some L := by
  have hb : K.isd 256 b := by have := @K.pack_byte L w; rwa [h] at this
  exact (K.unpack_some hb).2 ⟨h, rfl⟩
theorem K.pack_inj {L M b : List Int} {w : Nat} (h : K.pack L w = some b) (h' : K.pack M w = some b) (hl : L.length = M.length) : L = M := by
  have h1 := K.back h
  have h2 := K.back h'
  rw [hl, h2] at h1
  cases h1; rfl

theorem K.isd_mono {v w : Nat} {L : List Int} (h : K.isd (2 ^ v) L) (hvw : v ≤ w) : K.isd (2 ^ w) L := fun d hd => by
  have h1 := h d hd
  have h2 : 2 ^ v ≤ 2 ^ w := Nat.pow_le_pow_right (by decide) hvw
  omega
theorem K.pack_32 {L b : List Int} {w : Nat} (h : K.pack L w = some b) : ∃ c, K.pack L 32 = some c := by
  obtain ⟨h1, h2, h3, _⟩ := K.pack_some.1 h
  exact ⟨_, (K.pack_some (w := 32)).2 ⟨h1, by omega, K.isd_mono h3 h2, rfl⟩⟩

/-- Of 8 k numbers, and some behind. -/
theorem K.pack_joins {L b : List Int} {w k : Nat} (h : K.pack L w = some b) (hk : 8 * k ≤ L.length) : ∃ x y, K.pack (L.take (8 * k)) w = some x ∧ K.pack (L.drop (8 * k)) w = some y ∧ b = x ++ y := by
  obtain ⟨h1, h2, h3, rfl⟩ := K.pack_some.1 h
  have d1 : K.isd (2 ^ w) (L.take (8 * k)) := fun d hd => h3 d (List.mem_of_mem_take hd)
  have d2 : K.isd (2 ^ w) (L.drop (8 * k)) := fun d hd => h3 d (List.mem_of_mem_drop hd)
  have l1 : (L.take (8 * k)).length = 8 * k := by simp; omega
  refine ⟨_, _, K.pack_some.2 ⟨by rw [l1]; omega, h2, d1, rfl⟩, K.pack_some.2 ⟨by simp; omega, h2, d2, rfl⟩, ?_⟩
  have hs : (8 * k * w + 7) / 8 = k * w := by rw [Nat.mul_assoc]; omega
  have ht : (L.length * w + 7) / 8 = k * w + ((L.length - 8 * k) * w + 7) / 8 := by
    have : L.length * w = 8 * (k * w) + (L.length - 8 * k) * w := by rw [← Nat.mul_assoc, ← Nat.add_mul]; congr 1; omega
    omega
  have hv := K.val_append (2 ^ w) (L.take (8 * k)) (L.drop (8 * k))
  rw [List.take_append_drop, l1] at hv
  have hlt := K.val_lt _ d1
  rw [l1] at hlt
  have hp : (2 ^ w) ^ (8 * k) = 256 ^ (k * w) := by rw [K.pow_w, K.pow_8, Nat.mul_assoc]
  rw [hp] at hv hlt
  rw [l1, hs, ht, K.dig_add, List.length_drop]
  have hm : K.val (2 ^ w) L % 256 ^ (k * w) = K.val (2 ^ w) (L.take (8 * k)) := by rw [hv, Nat.add_mul_mod_self_left, Nat.mod_eq_of_lt hlt]
  have hd : K.val (2 ^ w) L / 256 ^ (k * w) = K.val (2 ^ w) (L.drop (8 * k)) := by rw [hv, Nat.add_mul_div_left _ _ (Nat.pow_pos (by decide)), Nat.div_eq_of_lt hlt, Nat.zero_add]
  rw [hd, ← hm, K.dig_mod]

/-- The width of numbers. -/
def K.lor (L : List Int) : Nat := L.foldl (fun a n => a ||| n.toNat) 0
def K.width (L : List Int) : Int := if K.isd (2 ^ 32) L then (Lib.bitLen (K.lor L) : Int) else -1
theorem K.or_lt (a b w : Nat) : a ||| b < 2 ^ w ↔ a < 2 ^ w ∧ b < 2 ^ w := by
  constructor
  · intro h
    exact ⟨Nat.lt_of_le_of_lt Nat.left_le_or h, Nat.lt_of_le_of_lt Nat.right_le_or h⟩
  · rintro ⟨h1, h2⟩
    exact Nat.or_lt_two_pow h1 h2
theorem K.lor_from (w : Nat) : ∀ (L : List Int) (a : Nat), L.foldl (fun a n => a ||| n.toNat) a < 2 ^ w ↔ a < 2 ^ w ∧ ∀ n ∈ L, n.toNat < 2 ^ w
  | [], a => by simp
  | d :: r, a => by
    rw [List.foldl_cons, K.lor_from w r, K.or_lt]
    simp [and_assoc]
theorem K.lor_isd {L : List Int} (w : Nat) (h : ∀ n ∈ L, 0 ≤ n) : K.lor L < 2 ^ w ↔ K.isd (2 ^ w) L := by
  unfold K.lor
  rw [K.lor_from]
  constructor
  · rintro ⟨_, h2⟩ d hd
    have h0 := h d hd
    have h1 := h2 d hd
    exact ⟨h0, by omega⟩
  · intro h1
    refine ⟨Nat.two_pow_pos w, fun d hd => ?_⟩
    have := h1 d hd
    omega
theorem K.len_aux : ∀ (f x : Nat), x < 2 ^ f → x < 2 ^ Lib.bitLenAux f x
  | 0, x, h => by simpa [Lib.bitLenAux] using h
  | f + 1, x, h => by
    simp only [Lib.bitLenAux]
    split
    · next h0 => subst h0; simp
    · rw [Nat.pow_succ] at h
      have := K.len_aux f (x / 2) (by omega)
      rw [Nat.add_comm, Nat.pow_succ]
      omega
theorem K.len_le {x w : Nat} (hx : x < 2 ^ 64) (hw : w ≤ 64) : Lib.bitLen x ≤ w ↔ x < 2 ^ w := by
  constructor
  · intro h
    have h1 : x < 2 ^ Lib.bitLen x := K.len_aux 64 x hx
    exact Nat.lt_of_lt_of_le h1 (Nat.pow_le_pow_right (by decide) h)
  · exact Lib.bitLen_le x w hw
theorem K.isd_nn {B : Nat} {L : List Int} (h : K.isd B L) : ∀ n ∈ L, 0 ≤ n := fun n hn => (h n hn).1
theorem K.width_le {L : List Int} {w : Nat} (h : K.isd (2 ^ 32) L) (hw : w ≤ 32) : K.width L ≤ w ↔ K.isd (2 ^ w) L := by
  unfold K.width
  rw [if_pos h, ← K.lor_isd w (K.isd_nn h)]
  have h1 := (K.lor_isd 32 (K.isd_nn h)).2 h
  have h2 : K.lor L < 2 ^ 64 := Nat.lt_of_lt_of_le h1 (by decide)
  rw [← K.len_le h2 (by omega)]
  omega
theorem K.width_in {L : List Int} (h : K.isd (2 ^ 32) L) : ∃ v : Nat, K.width L = v ∧ v ≤ 32 := by
  have := (K.width_le h (Nat.le_refl 32)).2 h
  unfold K.width at *
  rw [if_pos h] at *
  exact ⟨_, rfl, by omega⟩
theorem K.width_no {L : List Int} (h : ¬ K.isd (2 ^ 32) L) : K.width L = -1 := by unfold K.width; rw [if_neg h]
end Go.Proofs.Ytjonpipeopamnaa
