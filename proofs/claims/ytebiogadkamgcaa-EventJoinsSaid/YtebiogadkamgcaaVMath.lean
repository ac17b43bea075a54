/-
  The plain mathematics of numbers as bytes: digits to the base of 128, the least first; how a number is read back; and that each undoes the other. It speaks of lists of integers alone, of no program.
-/
namespace Go.Proofs.Ytebiogadkamgcaa.M

/-- The bytes of a number. -/
def puts (n : Nat) : List Int :=
  if n < 128 then [(n : Int)] else ((n % 128 + 128 : Nat) : Int) :: puts (n / 128)
termination_by n
decreasing_by omega

theorem puts_lt {n : Nat} (h : n < 128) : puts n = [(n : Int)] := by rw [puts, if_pos h]
theorem puts_ge {n : Nat} (h : 128 ≤ n) : puts n = ((n % 128 + 128 : Nat) : Int) :: puts (n / 128) := by rw [puts, if_neg (by omega)]

theorem puts_pos (n : Nat) : 0 < (puts n).length := by
  by_cases h : n < 128
  · simp [puts_lt h]
  · simp [puts_ge (Nat.le_of_not_lt h)]

theorem puts_len_le : ∀ (k n : Nat), n < 128 ^ (k + 1) → (puts n).length ≤ k + 1
  | 0, n, h => by rw [puts_lt (by simpa using h)]; simp
  | k + 1, n, h => by
    by_cases h1 : n < 128
    · simp [puts_lt h1]
    · rw [puts_ge (by omega)]
      have := puts_len_le k (n / 128) (by rw [Nat.pow_succ] at h; omega)
      simp; omega

theorem puts_len6 {n : Nat} (h : n ≤ 1099511627776) : (puts n).length ≤ 6 := puts_len_le 5 n (by omega)

theorem puts_mono : ∀ (k m n : Nat), m ≤ k → m ≤ n → (puts m).length ≤ (puts n).length
  | k, m, n, hk, h => by
    by_cases h1 : m < 128
    · have := puts_pos n; simp [puts_lt h1]; omega
    · rw [puts_ge (by omega), puts_ge (by omega : 128 ≤ n)]
      match k, hk with
      | k + 1, hk =>
        have := puts_mono k (m / 128) (n / 128) (by omega) (by omega)
        simp; omega
      | 0, hk => omega

theorem puts_inj : ∀ (k m n : Nat), m ≤ k → puts m = puts n → m = n
  | k, m, n, hk, h => by
    by_cases h1 : m < 128 <;> by_cases h2 : n < 128
    · rw [puts_lt h1, puts_lt h2] at h; simp at h; omega
    · rw [puts_lt h1, puts_ge (by omega)] at h
      have := puts_pos (n / 128); simp at h; rw [h.2] at this; simp at this
    · rw [puts_lt h2, puts_ge (by omega : 128 ≤ m)] at h
      have := puts_pos (m / 128); simp at h; rw [h.2] at this; simp at this
    · rw [puts_ge (by omega : 128 ≤ m), puts_ge (by omega : 128 ≤ n)] at h
      obtain ⟨e1, e2⟩ := List.cons.inj h
      match k, hk with
      | k + 1, hk => have := puts_inj k (m / 128) (n / 128) (by omega) e2; omega
      | 0, hk => omega

theorem puts_byte : ∀ (k n : Nat), n ≤ k → ∀ c ∈ puts n, 0 ≤ c ∧ c ≤ 255
  | k, n, hk => by
    by_cases h1 : n < 128
    · rw [puts_lt h1]; intro c hc; simp at hc; omega
    · rw [puts_ge (by omega)]
      intro c hc
      rcases List.mem_cons.1 hc with rfl | hc
      · omega
      · match k, hk with
        | k + 1, hk => exact puts_byte k (n / 128) (by omega) c hc
        | 0, hk => omega

/-- What a number's bytes are, of any integer: none, if it is no number. -/
def put (n : Int) : List Int := if 0 ≤ n ∧ n ≤ 1099511627776 then puts n.toNat else []

theorem put_yes {n : Int} (h0 : 0 ≤ n) (h1 : n ≤ 1099511627776) : put n = puts n.toNat := by rw [put, if_pos ⟨h0, h1⟩]
theorem put_no {n : Int} (h : ¬ (0 ≤ n ∧ n ≤ 1099511627776)) : put n = [] := by rw [put, if_neg h]
theorem put_len6 (n : Int) : (put n).length ≤ 6 := by
  unfold put; split
  · exact puts_len6 (by omega)
  · simp
theorem put_pos_iff (n : Int) : 0 < (put n).length ↔ (0 ≤ n ∧ n ≤ 1099511627776) := by
  unfold put; split
  · next h => exact ⟨fun _ => h, fun _ => puts_pos _⟩
  · next h => simp [h]

/-- Reading: k digits at most are left; is it the first one; what is summed; the digit's unit; the bytes. The number, and how many bytes it took. -/
def dig : Nat → Bool → Int → Int → List Int → Option (Int × Nat)
  | 0, _, _, _, _ => none
  | _ + 1, _, _, _, [] => none
  | k + 1, first, acc, unit, c :: r =>
    if 128 ≤ c then (dig k false (acc + c % 128 * unit) (unit * 128) r).map fun p => (p.1, p.2 + 1)
    else if (c = 0 ∧ first = false) ∨ 1099511627776 < acc + c % 128 * unit then none
    else some (acc + c % 128 * unit, 1)

/-- The number that stands at the head of bytes. -/
def head (b : List Int) : Option (Int × Nat) := dig 6 true 0 1 b

/-- The number that stands at a place, and the place behind it. -/
def get (b : List Int) (p : Int) : Int × Int :=
  if p < 0 then (0, -1) else match head (b.drop p.toNat) with
    | none => (0, -1)
    | some (n, e) => (n, p + e)

theorem dig_sound : ∀ (k : Nat) (first : Bool) (acc unit : Int) (b : List Int) (n : Int) (e : Nat), 0 < unit → 0 ≤ acc → (∀ c ∈ b, 0 ≤ c ∧ c ≤ 255) → dig k first acc unit b = some (n, e) →
    ∃ m : Nat, n = acc + m * unit ∧ b.take e = puts m ∧ e = (puts m).length ∧ e ≤ b.length ∧ (first = false → 0 < m) ∧ 0 ≤ n ∧ n ≤ 1099511627776
  | 0, _, _, _, _, _, _, _, _, _, h => by simp [dig] at h
  | _ + 1, _, _, _, [], _, _, _, _, _, h => by simp [dig] at h
  | k + 1, first, acc, unit, c :: r, n, e, hu, ha, hb, h => by
    have hc := hb c (by simp)
    unfold dig at h
    split at h
    · next hge =>
      rw [Option.map_eq_some_iff] at h
      obtain ⟨⟨n', e'⟩, h', heq⟩ := h
      simp at heq
      obtain ⟨rfl, rfl⟩ := heq
      have hp : 0 ≤ c % 128 * unit := Int.mul_nonneg (by omega) (by omega)
      obtain ⟨m, hn, ht, hl, hle, hpos, h0, h1⟩ := dig_sound k false _ _ r n' e' (by omega) (by omega) (fun x hx => hb x (by simp [hx])) h'
      have hm := hpos rfl
      refine ⟨(c.toNat - 128) + 128 * m, ?_, ?_, ?_, by simp; omega, fun _ => by omega, h0, h1⟩
      · rw [hn]
        have hcast : (((c.toNat - 128) + 128 * m : Nat) : Int) = c % 128 + 128 * m := by omega
        rw [hcast, Int.add_mul, Int.mul_assoc, Int.mul_comm 128, Int.mul_assoc, Int.add_assoc]
      · rw [puts_ge (by omega), List.take_succ_cons, ht]
        congr 1
        · omega
        · congr 1; omega
      · rw [puts_ge (by omega)]
        have : (c.toNat - 128 + 128 * m) / 128 = m := by omega
        rw [this, hl]; simp
    · next hlt =>
      split at h
      · cases h
      · next hno =>
        simp at h
        obtain ⟨rfl, rfl⟩ := h
        have hcm : c % 128 = c := by omega
        rw [hcm] at hno ⊢
        have hp : 0 ≤ c * unit := Int.mul_nonneg (by omega) (by omega)
        refine ⟨c.toNat, by rw [show ((c.toNat : Nat) : Int) = c by omega], ?_, ?_, by simp, fun hf => ?_, by omega, by omega⟩
        · rw [puts_lt (by omega)]; simp; omega
        · rw [puts_lt (by omega)]; simp
        · by_cases h0 : c = 0
          · exact absurd (.inl ⟨h0, hf⟩) hno
          · omega

theorem dig_puts : ∀ (k m : Nat) (first : Bool) (acc unit : Int) (r : List Int), m < 128 ^ k → 0 < k → 0 < unit → 0 ≤ acc → (first = false → 0 < m) → acc + m * unit ≤ 1099511627776 →
    dig k first acc unit (puts m ++ r) = some (acc + m * unit, (puts m).length)
  | 0, m, _, _, _, _, h, hk, _, _, hf, hle => by omega
  | k + 1, m, first, acc, unit, r, h, _, hu, ha, hf, hle => by
    by_cases h1 : m < 128
    · rw [puts_lt h1]
      have hcm : (m : Int) % 128 = m := by omega
      simp only [List.singleton_append, dig, hcm]
      rw [if_neg (by omega), if_neg]
      · simp
      · rintro (⟨h0, hf'⟩ | hgt)
        · have := hf hf'; omega
        · omega
    · rw [puts_ge (by omega)]
      simp only [List.cons_append, dig]
      rw [if_pos (by omega)]
      have hmod : (((m % 128 + 128 : Nat) : Int)) % 128 = ((m % 128 : Nat) : Int) := by omega
      rw [hmod]
      have hsum : acc + ((m % 128 : Nat) : Int) * unit + ((m / 128 : Nat) : Int) * (unit * 128) = acc + m * unit := by
        have : (m : Int) = ((m % 128 : Nat) : Int) + 128 * ((m / 128 : Nat) : Int) := by omega
        conv => rhs; rw [this]
        rw [Int.add_mul, Int.mul_comm unit 128, ← Int.mul_assoc, Int.mul_comm _ (128 : Int), Int.add_assoc]
      have hp : 0 ≤ ((m % 128 : Nat) : Int) * unit := Int.mul_nonneg (by omega) (by omega)
      rw [dig_puts k (m / 128) false _ _ r (by rw [Nat.pow_succ] at h; omega) (by cases k with | zero => (simp at h; omega) | succ k => omega) (by omega) (by omega) (fun _ => by omega) (by rw [hsum]; exact hle)]
      rw [hsum]; simp
end Go.Proofs.Ytebiogadkamgcaa.M
