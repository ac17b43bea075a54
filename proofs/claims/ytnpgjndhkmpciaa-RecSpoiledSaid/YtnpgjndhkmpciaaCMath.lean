/-
  The plain mathematics of sums of bytes: the register bit by bit (linear, one to one), bursts, seals, one bit that is another.
-/
namespace Go.Proofs.Ytnpgjndhkmpciaa

/-- The register behind one bit more. -/
def C.take (x : BitVec 32) (b : Bool) : BitVec 32 := if (x.msb ^^ b) then (x <<< 1) ^^^ 0x04c11db7#32 else x <<< 1
/-- The register behind the first n bits of f. -/
def C.rn (x : BitVec 32) (f : Nat → Bool) : Nat → BitVec 32
  | 0 => x
  | n + 1 => C.take (C.rn x f n) (f n)

theorem C.take_xor (x y : BitVec 32) (b c : Bool) : C.take (x ^^^ y) (b ^^ c) = C.take x b ^^^ C.take y c := by
  unfold C.take
  rw [BitVec.msb_xor, BitVec.shiftLeft_xor_distrib]
  generalize x <<< 1 = u
  generalize y <<< 1 = v
  have lc : ∀ p q r : BitVec 32, p ^^^ (q ^^^ r) = q ^^^ (p ^^^ r) := fun p q r => by rw [← BitVec.xor_assoc, BitVec.xor_comm p, BitVec.xor_assoc]
  cases x.msb <;> cases y.msb <;> cases b <;> cases c <;> simp [BitVec.xor_assoc]
  all_goals first | exact lc _ _ _ | exact BitVec.xor_comm _ _ | (rw [lc]; simp)

theorem C.rn_xor (x y : BitVec 32) (f g : Nat → Bool) : ∀ n, C.rn (x ^^^ y) (fun j => f j ^^ g j) n = C.rn x f n ^^^ C.rn y g n
  | 0 => rfl
  | n + 1 => by rw [C.rn, C.rn_xor x y f g n, C.take_xor, C.rn, C.rn]

theorem C.take_lsb (x : BitVec 32) (b : Bool) : (C.take x b).getLsbD 0 = (x.msb ^^ b) := by
  unfold C.take
  cases h : (x.msb ^^ b) <;> simp

theorem C.shl_inj {x y : BitVec 32} (h : x <<< 1 = y <<< 1) (hm : x.msb = y.msb) : x = y := by
  apply BitVec.eq_of_getLsbD_eq
  intro i hi
  by_cases h31 : i = 31
  · subst h31
    simpa [BitVec.msb_eq_getLsbD_last] using hm
  · have := congrArg (fun z => z.getLsbD (i + 1)) h
    simp only [BitVec.getLsbD_shiftLeft, show i + 1 < 32 by omega, show ¬ (i + 1 < 1) by omega, Nat.add_sub_cancel] at this
    simpa using this

theorem C.take_inj {x y : BitVec 32} {b : Bool} (h : C.take x b = C.take y b) : x = y := by
  have h0 : (x.msb ^^ b) = (y.msb ^^ b) := by rw [← C.take_lsb, ← C.take_lsb, h]
  have hm : x.msb = y.msb := by cases b <;> simpa using h0
  unfold C.take at h
  rw [h0] at h
  apply C.shl_inj _ hm
  cases hb : (y.msb ^^ b)
  · rw [hb] at h; simpa using h
  · rw [hb] at h
    simp only [if_true] at h
    have := congrArg (fun z => z ^^^ 0x04c11db7#32) h
    simpa [BitVec.xor_assoc] using this

theorem C.rn_inj {x y : BitVec 32} {f : Nat → Bool} : ∀ n, C.rn x f n = C.rn y f n → x = y
  | 0, h => h
  | n + 1, h => C.rn_inj n (C.take_inj h)

theorem C.rn_congr {x : BitVec 32} {f g : Nat → Bool} : ∀ n, (∀ j, j < n → f j = g j) → C.rn x f n = C.rn x g n
  | 0, _ => rfl
  | n + 1, h => by rw [C.rn, C.rn, C.rn_congr n (fun j hj => h j (by omega)), h n (by omega)]

theorem C.rn_add (x : BitVec 32) (f : Nat → Bool) (m : Nat) : ∀ n, C.rn x f (m + n) = C.rn (C.rn x f m) (fun j => f (m + j)) n
  | 0 => rfl
  | n + 1 => by rw [← Nat.add_assoc, C.rn, C.rn_add x f m n, C.rn]

/-- Bits at the top of a register. -/
def C.top (f : Nat → Bool) : Nat → BitVec 32
  | 0 => 0
  | n + 1 => C.top f n ^^^ (if f n then BitVec.twoPow 32 (31 - n) else 0)

theorem C.top_low (f : Nat → Bool) : ∀ (n j : Nat), n ≤ 32 → n ≤ j → j < 32 → (C.top f n).getLsbD (31 - j) = false
  | 0, _, _, _, _ => by simp [C.top]
  | n + 1, j, h1, h2, h3 => by
    rw [C.top, BitVec.getLsbD_xor, C.top_low f n j (by omega) (by omega) h3]
    cases f n
    · simp
    · simp [BitVec.getLsbD_twoPow]; omega
theorem C.top_at (f : Nat → Bool) : ∀ (n j : Nat), n ≤ 32 → j < n → (C.top f n).getLsbD (31 - j) = f j
  | 0, _, _, h => by omega
  | n + 1, j, h1, h2 => by
    rw [C.top, BitVec.getLsbD_xor]
    by_cases hj : j = n
    · subst hj
      rw [C.top_low f j j (by omega) (Nat.le_refl _) (by omega)]
      cases f j
      · simp
      · simp [BitVec.getLsbD_twoPow]; omega
    · rw [C.top_at f n j (by omega) (by omega)]
      cases f n
      · simp
      · rw [if_pos rfl, BitVec.getLsbD_twoPow, decide_eq_false (by omega : ¬ 31 - n = 31 - j)]
        simp

theorem C.rn_two : ∀ n, n < 32 → C.rn (BitVec.twoPow 32 (31 - n)) (fun _ => false) n = BitVec.twoPow 32 31 := by decide +kernel

theorem C.take_two (x : BitVec 32) : C.take (x ^^^ BitVec.twoPow 32 31) false = C.take x true := by
  unfold C.take
  rw [BitVec.msb_xor, BitVec.shiftLeft_xor_distrib]
  have h1 : (BitVec.twoPow 32 31).msb = true := by decide
  have h2 : BitVec.twoPow 32 31 <<< 1 = 0#32 := by decide
  rw [h1, h2]
  simp

/-- Bits taken in are bits put to the register's top ahead, and noughts taken in. -/
theorem C.rn_top (x : BitVec 32) (f : Nat → Bool) : ∀ n, n ≤ 32 → C.rn x f n = C.rn (x ^^^ C.top f n) (fun _ => false) n
  | 0, _ => by simp [C.rn, C.top]
  | n + 1, h => by
    rw [C.rn, C.rn_top x f n (by omega), C.rn, C.top]
    cases f n
    · simp
    · have := C.rn_xor (x ^^^ C.top f n) (BitVec.twoPow 32 (31 - n)) (fun _ => false) (fun _ => false) n
      simp only [Bool.xor_false] at this
      rw [if_pos rfl, ← BitVec.xor_assoc, this, C.rn_two n (by omega), C.take_two]

/-- **A burst**: bits that are others within 32 in a row make another register. -/
theorem C.burst {x : BitVec 32} {f g : Nat → Bool} {at_ n : Nat} (h : ∀ j, j < n → (j < at_ ∨ at_ + 32 ≤ j) → f j = g j) (he : C.rn x f n = C.rn x g n) : ∀ j, j < n → f j = g j := by
  intro j hj
  by_cases hout : j < at_ ∨ at_ + 32 ≤ j
  · exact h j hj hout
  · have hin : at_ ≤ j ∧ j < at_ + 32 := by omega
    obtain ⟨m, hm⟩ : ∃ m, m = min (n - at_) 32 := ⟨_, rfl⟩
    obtain ⟨t, ht⟩ : ∃ t, n = at_ + (m + t) := ⟨n - at_ - m, by omega⟩
    subst ht
    rw [C.rn_add, C.rn_add _ g, C.rn_congr at_ (fun j hj => h j (by omega) (.inl hj)), C.rn_add, C.rn_add _ _ m t] at he
    rw [C.rn_congr (f := fun j => f (at_ + (m + j))) (g := fun j => g (at_ + (m + j))) t (fun j hj => h _ (by omega) (.inr (by omega)))] at he
    have he := C.rn_inj t he
    rw [C.rn_top _ _ m (by omega), C.rn_top _ (fun j => g (at_ + j)) m (by omega)] at he
    have he := C.rn_inj m he
    have he : C.top (fun j => f (at_ + j)) m = C.top (fun j => g (at_ + j)) m := by
      have := congrArg (fun z => C.rn x g at_ ^^^ z) he
      simpa [← BitVec.xor_assoc] using this
    have h1 := C.top_at (fun j => f (at_ + j)) m (j - at_) (by omega) (by omega)
    have h2 := C.top_at (fun j => g (at_ + j)) m (j - at_) (by omega) (by omega)
    rw [he, h2] at h1
    simpa [show at_ + (j - at_) = j by omega] using h1.symm

theorem C.top_self (s : BitVec 32) : C.top (fun j => s.getLsbD (31 - j)) 32 = s := by
  apply BitVec.eq_of_getLsbD_eq
  intro i hi
  have := C.top_at (fun j => s.getLsbD (31 - j)) 32 (31 - i) (by omega) (by omega)
  rwa [show 31 - (31 - i) = i by omega] at this
/-- The register behind its own turned bits is always one. -/
theorem C.rn_self (x : BitVec 32) : C.rn x (fun j => (~~~x).getLsbD (31 - j)) 32 = C.rn (BitVec.allOnes 32) (fun _ => false) 32 := by
  rw [C.rn_top _ _ 32 (by omega), C.top_self]
  congr 1
  apply BitVec.eq_of_getLsbD_eq
  intro i hi
  rw [BitVec.getLsbD_xor, BitVec.getLsbD_not, BitVec.getLsbD_allOnes]
  cases x.getLsbD i <;> simp [hi]

/-! Bytes -/
/-- Bit j of bytes. -/
def C.bit (L : List Int) (j : Nat) : Bool := (L.getD (j / 8) 0).toNat.testBit (7 - j % 8)
def C.wf (L : List Int) : Prop := ∀ c ∈ L, 0 ≤ c ∧ c ≤ 255
/-- The register behind bytes. -/
def C.run (x : BitVec 32) (L : List Int) : BitVec 32 := C.rn x (C.bit L) (8 * L.length)
def C.sum (L : List Int) : BitVec 32 := ~~~ (C.run (BitVec.allOnes 32) L)
def C.more (s : BitVec 32) (L : List Int) : BitVec 32 := ~~~ (C.run (~~~s) L)
theorem C.sum_more (L : List Int) : C.sum L = C.more 0 L := rfl
theorem C.sum_nil : C.sum [] = 0 := by decide
theorem C.more_nil (s : BitVec 32) : C.more s [] = s := by simp [C.more, C.run, C.rn]

theorem C.bit_left (K L : List Int) {j : Nat} (h : j < 8 * K.length) : C.bit (K ++ L) j = C.bit K j := by
  unfold C.bit
  rw [List.getD_eq_getElem?_getD, List.getD_eq_getElem?_getD, List.getElem?_append_left (by omega)]
theorem C.bit_right (K L : List Int) (j : Nat) : C.bit (K ++ L) (8 * K.length + j) = C.bit L j := by
  unfold C.bit
  rw [List.getD_eq_getElem?_getD, List.getD_eq_getElem?_getD, List.getElem?_append_right (by omega), show (8 * K.length + j) / 8 - K.length = j / 8 by omega, show (8 * K.length + j) % 8 = j % 8 by omega]
theorem C.run_append (x : BitVec 32) (K L : List Int) : C.run x (K ++ L) = C.run (C.run x K) L := by
  unfold C.run
  rw [List.length_append, Nat.mul_add, C.rn_add, C.rn_congr _ (fun j hj => C.bit_left K L hj), C.rn_congr _ (fun j _ => C.bit_right K L j)]
theorem C.more_more (s : BitVec 32) (K L : List Int) : C.more (C.more s K) L = C.more s (K ++ L) := by
  unfold C.more
  rw [C.run_append, BitVec.not_not]
theorem C.sum_append (K L : List Int) : C.sum (K ++ L) = C.more (C.sum K) L := by
  rw [C.sum_more, C.sum_more, C.more_more]

theorem C.bits_inj {K L : List Int} (hk : C.wf K) (hl : C.wf L) (hn : K.length = L.length) (h : ∀ j, j < 8 * K.length → C.bit K j = C.bit L j) : K = L := by
  apply List.ext_getElem hn
  intro i h1 h2
  have b1 := hk _ (List.getElem_mem h1)
  have b2 := hl _ (List.getElem_mem h2)
  suffices K[i].toNat = L[i].toNat by omega
  apply Nat.eq_of_testBit_eq
  intro k
  by_cases hk8 : k < 8
  · have := h (8 * i + (7 - k)) (by omega)
    unfold C.bit at this
    rw [show (8 * i + (7 - k)) / 8 = i by omega, show 7 - (8 * i + (7 - k)) % 8 = k by omega] at this
    simpa [h1, h2] using this
  · have p : 2 ^ 8 ≤ 2 ^ k := Nat.pow_le_pow_right (by decide) (by omega)
    rw [Nat.testBit_lt_two_pow (by omega), Nat.testBit_lt_two_pow (by omega)]

/-- Bytes that differ within 32 bits in a row. -/
def C.near (at_ : Nat) (K L : List Int) : Prop := K.length = L.length ∧ C.wf K ∧ ∀ j, (j < at_ ∨ at_ + 32 ≤ j) → C.bit K j = C.bit L j
theorem C.near_run {x : BitVec 32} {at_ : Nat} {K L : List Int} (h : C.near at_ K L) (hl : C.wf L) (he : C.run x K = C.run x L) : K = L := by
  unfold C.run at he
  rw [h.1] at he
  refine C.bits_inj h.2.1 hl h.1 ?_
  rw [h.1]
  exact C.burst (fun j _ ho => h.2.2 j ho) he
theorem C.not_inj {x y : BitVec 32} (h : ~~~x = ~~~y) : x = y := by
  have := congrArg (fun z => ~~~z) h
  simpa using this
theorem C.near_sum {at_ : Nat} {K L : List Int} (h : C.near at_ K L) (hl : C.wf L) : C.sum K = C.sum L ↔ K = L :=
  ⟨fun he => C.near_run h hl (C.not_inj he), fun he => by rw [he]⟩

/-- A sum's four bytes. -/
def C.four (s : BitVec 32) : List Int := [((s.toNat / 16777216 : Nat) : Int), ((s.toNat / 65536 % 256 : Nat) : Int), ((s.toNat / 256 % 256 : Nat) : Int), ((s.toNat % 256 : Nat) : Int)]
theorem C.four_wf (s : BitVec 32) : C.wf (C.four s) := by
  intro c hc
  have := s.isLt
  simp [C.four] at hc
  omega
theorem C.four_at (s : BitVec 32) {q : Nat} (h : q < 4) : ((C.four s).getD q 0).toNat = s.toNat / 2 ^ (8 * (3 - q)) % 256 := by
  have := s.isLt
  match q, h with
  | 0, _ => simp [C.four]; omega
  | 1, _ => simp [C.four]; omega
  | 2, _ => simp [C.four]; omega
  | 3, _ => simp [C.four]; omega
theorem C.bit_four (s : BitVec 32) {j : Nat} (h : j < 32) : C.bit (C.four s) j = s.getLsbD (31 - j) := by
  unfold C.bit
  rw [C.four_at s (by omega), show (256 : Nat) = 2 ^ 8 from rfl, Nat.testBit_mod_two_pow, Nat.testBit_div_two_pow]
  rw [BitVec.getLsbD]
  rw [show 7 - j % 8 + 8 * (3 - j / 8) = 31 - j by omega]
  simp [show 7 - j % 8 < 8 by omega]
def C.seal (L : List Int) : List Int := L ++ C.four (C.sum L)
theorem C.seal_len (L : List Int) : (C.seal L).length = L.length + 4 := by simp [C.seal, C.four]
theorem C.seal_wf {L : List Int} (h : C.wf L) : C.wf (C.seal L) := by
  intro c hc
  rcases List.mem_append.1 hc with hc | hc
  · exact h c hc
  · exact C.four_wf _ c hc
theorem C.run_four (x s : BitVec 32) : C.run x (C.four s) = C.rn x (fun j => s.getLsbD (31 - j)) 32 := C.rn_congr 32 (fun _ hj => C.bit_four s hj)
theorem C.run_seal (L : List Int) : C.run (BitVec.allOnes 32) (C.seal L) = C.rn (BitVec.allOnes 32) (fun _ => false) 32 := by
  rw [C.seal, C.run_append, C.run_four, C.sum, C.rn_self]

/-- What was sealed. -/
def C.open (D : List Int) : Option (List Int) := if 4 ≤ D.length ∧ C.seal (D.take (D.length - 4)) = D then some (D.take (D.length - 4)) else none
theorem C.open_some {D L : List Int} : C.open D = some L ↔ C.seal L = D := by
  unfold C.open
  constructor
  · intro h
    split at h
    · next hh => cases h; exact hh.2
    · cases h
  · rintro rfl
    rw [C.seal_len, Nat.add_sub_cancel]
    have : (C.seal L).take L.length = L := by simp [C.seal]
    rw [this, if_pos ⟨by omega, rfl⟩]
theorem C.open_seal (L : List Int) : C.open (C.seal L) = some L := C.open_some.2 rfl
theorem C.open_short {D : List Int} (h : D.length < 4) : C.open D = none := by
  unfold C.open
  rw [if_neg (by omega)]
theorem C.open_near {at_ : Nat} {K L : List Int} (hl : C.wf L) (h : C.near at_ K (C.seal L)) : (C.open K).isSome = decide (K = C.seal L) := by
  rw [Bool.eq_iff_iff, decide_eq_true_iff]
  constructor
  · intro ho
    obtain ⟨M, hM⟩ := Option.isSome_iff_exists.1 ho
    have hM := C.open_some.1 hM
    refine C.near_run h (C.seal_wf hl) (x := BitVec.allOnes 32) ?_
    rw [C.run_seal, ← hM, C.run_seal]
  · rintro rfl
    rw [C.open_seal]; rfl

/-- A byte of which one bit is another. -/
def C.flip (L : List Int) (at_ : Nat) : List Int := L.set (at_ / 8) (((L.getD (at_ / 8) 0).toNat ^^^ (128 >>> (at_ % 8)) : Nat) : Int)
theorem C.flip_len (L : List Int) (at_ : Nat) : (C.flip L at_).length = L.length := by simp [C.flip]
theorem C.xor_lt {o k : Nat} (ho : o < 256) : o ^^^ (128 >>> k) < 256 := Nat.xor_lt_two_pow (n := 8) ho (by rw [Nat.shiftRight_eq_div_pow]; have := Nat.div_le_self 128 (2 ^ k); omega)
theorem C.flip_wf {L : List Int} (h : C.wf L) (at_ : Nat) (hi : at_ / 8 < L.length) : C.wf (C.flip L at_) := by
  intro c hc
  rcases List.mem_or_eq_of_mem_set hc with hc | rfl
  · exact h c hc
  · have h0 := h (L.getD (at_ / 8) 0) (by simp [hi])
    have := C.xor_lt (o := (L.getD (at_ / 8) 0).toNat) (k := at_ % 8) (by omega)
    omega
theorem C.flip_bit {L : List Int} {at_ : Nat} (hi : at_ / 8 < L.length) (j : Nat) : C.bit (C.flip L at_) j = (C.bit L j ^^ decide (j = at_)) := by
  unfold C.bit C.flip
  by_cases hj : j / 8 = at_ / 8
  · rw [hj]
    simp only [List.getD_eq_getElem?_getD, List.getElem?_set, hi]
    simp only [if_true, Option.getD_some, Int.toNat_natCast, Nat.testBit_xor]
    congr 1
    rw [Nat.testBit_shiftRight, show (128 : Nat) = 2 ^ 7 from rfl, Nat.testBit_two_pow, decide_eq_decide]
    omega
  · have hne : ¬ j = at_ := by rintro rfl; exact hj rfl
    simp [hne, Ne.symm hj]
theorem C.flip_near {K L : List Int} {at_ k : Nat} (h : C.near at_ K L) (h1 : at_ ≤ k) (h2 : k < at_ + 32) (hi : k / 8 < K.length) : C.near at_ (C.flip K k) L := by
  refine ⟨by rw [C.flip_len, h.1], C.flip_wf h.2.1 k hi, fun j hj => ?_⟩
  rw [C.flip_bit hi, h.2.2 j hj, decide_eq_false (by omega)]
  simp
theorem C.near_refl {L : List Int} (h : C.wf L) (at_ : Nat) : C.near at_ L L := ⟨rfl, h, fun _ _ => rfl⟩
theorem C.flip_ne {L : List Int} {at_ : Nat} (hi : at_ / 8 < L.length) : C.flip L at_ ≠ L := by
  intro h
  have := C.flip_bit hi at_
  rw [h] at this
  cases hb : C.bit L at_ <;> simp [hb] at this
theorem C.flip_sum {L : List Int} {at_ : Nat} (h : C.wf L) (hi : at_ / 8 < L.length) : C.sum (C.flip L at_) ≠ C.sum L := fun he =>
  C.flip_ne hi ((C.near_sum (C.flip_near (C.near_refl h at_) (Nat.le_refl _) (by omega) hi) h).1 he)
/-- What one other bit makes of the sum. -/
theorem C.flip_diff {L : List Int} {at_ : Nat} (hi : at_ / 8 < L.length) : C.sum (C.flip L at_) ^^^ C.sum L = C.rn 0 (fun j => decide (j = at_)) (8 * L.length) := by
  unfold C.sum C.run
  rw [C.flip_len, C.rn_congr _ (fun j _ => C.flip_bit hi j)]
  have := C.rn_xor (BitVec.allOnes 32) 0 (C.bit L) (fun j => decide (j = at_)) (8 * L.length)
  rw [show BitVec.allOnes 32 ^^^ 0 = BitVec.allOnes 32 by decide] at this
  rw [this]
  generalize C.rn (BitVec.allOnes 32) (C.bit L) (8 * L.length) = u
  generalize C.rn 0 (fun j => decide (j = at_)) (8 * L.length) = v
  apply BitVec.eq_of_getLsbD_eq
  intro i hi
  simp [hi]
  cases u[i] <;> cases v[i] <;> rfl

theorem C.sum_nine : (C.sum [49, 50, 51, 52, 53, 54, 55, 56, 57]).toNat = 4236843288 := by decide +kernel
theorem C.sum_zero : (C.sum [0]).toNat ≠ 0 := by decide +kernel
end Go.Proofs.Ytnpgjndhkmpciaa
