/-
  The mathematics of addresses as texts, of no program: digits ('dg'), the number of digits ('val'), what a number's text is ('nis', 'nv'), an address's text ('text'), a prefix's ('textAll'), what a text tells ('isA', 'adr', 'isP', 'prB', 'prK'), cut at its points ('splitK').
-/
import Derived.Lib.ItoaNum
import Derived.Lib.Split
namespace Go.Proofs.YtbaneeedoledoaaDoor.A
open Go.Lib

def dg (n : Nat) : List UInt8 := decDigits n
theorem dg_lt {n : Nat} (h : n < 10) : dg n = [UInt8.ofNat (48 + n)] := decDigits_one h
theorem dg_ge {n : Nat} (h : 10 ≤ n) : dg n = dg (n / 10) ++ [UInt8.ofNat (48 + n % 10)] := by
  unfold dg; rw [decDigits, dif_neg (by omega)]
theorem dg_app {n d : Nat} (hn : 0 < n) (hd : d < 10) : dg (10 * n + d) = dg n ++ [UInt8.ofNat (48 + d)] := by
  rw [dg_ge (by omega), show (10 * n + d) / 10 = n by omega, show (10 * n + d) % 10 = d by omega]

def isD (c : UInt8) : Prop := 48 ≤ c.toNat ∧ c.toNat ≤ 57
theorem isD_of {d : Nat} (h : d < 10) : isD (UInt8.ofNat (48 + d)) := by
  unfold isD
  rw [UInt8.toNat_ofNat', Nat.mod_eq_of_lt (by omega)]
  omega
theorem dg_all (n : Nat) : ∀ c ∈ dg n, isD c := by
  induction n using Nat.strongRecOn with
  | _ n ih =>
    by_cases h : n < 10
    · rw [dg_lt h]; intro c hc; rw [List.mem_singleton.1 hc]; exact isD_of h
    · rw [dg_ge (by omega)]
      intro c hc
      rcases List.mem_append.1 hc with hc | hc
      · exact ih (n / 10) (by omega) c hc
      · rw [List.mem_singleton.1 hc]; exact isD_of (by omega)
theorem dg_no (n : Nat) {c : UInt8} (h : ¬ isD c) : c ∉ dg n := fun hc => h (dg_all n c hc)
theorem dg_ne (n : Nat) : dg n ≠ [] := by
  by_cases h : n < 10
  · rw [dg_lt h]; simp
  · rw [dg_ge (by omega)]; simp

/-- The number of digits, as they are read. -/
def val (l : List UInt8) : Nat := l.foldl (fun a c => 10 * a + (c.toNat - 48)) 0
theorem val_nil : val [] = 0 := rfl
theorem val_app (p : List UInt8) (c : UInt8) : val (p ++ [c]) = 10 * val p + (c.toNat - 48) := by simp [val]
theorem val_le (p : List UInt8) : ∀ q, val p ≤ val (p ++ q) := by
  intro q
  induction q generalizing p with
  | nil => simp
  | cons c q ih =>
    rw [show p ++ c :: q = (p ++ [c]) ++ q by simp]
    have := ih (p ++ [c])
    rw [val_app] at this
    omega
theorem val_dg (n : Nat) : val (dg n) = n := by
  induction n using Nat.strongRecOn with
  | _ n ih =>
    by_cases h : n < 10
    · rw [dg_lt h]
      show 10 * 0 + ((UInt8.ofNat (48 + n)).toNat - 48) = n
      rw [UInt8.toNat_ofNat', Nat.mod_eq_of_lt (by omega)]; omega
    · rw [dg_ge (by omega), val_app, ih (n / 10) (by omega), UInt8.toNat_ofNat', Nat.mod_eq_of_lt (by omega)]; omega
theorem dg_inj {a b : Nat} (h : dg a = dg b) : a = b := by rw [← val_dg a, h, val_dg b]
theorem dg_head {n : Nat} (h : n ≠ 0) : ∀ r, dg n ≠ 48 :: r := by
  induction n using Nat.strongRecOn with
  | _ n ih =>
    intro r hr
    by_cases h1 : n < 10
    · rw [dg_lt h1, List.cons.injEq] at hr
      have := congrArg UInt8.toNat hr.1
      rw [UInt8.toNat_ofNat', Nat.mod_eq_of_lt (by omega)] at this
      change 48 + n = 48 at this
      omega
    · rw [dg_ge (by omega)] at hr
      cases hd : dg (n / 10) with
      | nil => exact dg_ne _ hd
      | cons x t =>
        rw [hd, List.cons_append, List.cons.injEq] at hr
        obtain ⟨rfl, _⟩ := hr
        exact ih (n / 10) (by omega) (by omega) t hd
theorem dg_len {n : Nat} (h : n < 1000) : 1 ≤ (dg n).length ∧ (dg n).length ≤ 3 := by
  by_cases h1 : n < 10
  · rw [dg_lt h1]; simp
  · rw [dg_ge (by omega)]
    by_cases h2 : n / 10 < 10
    · rw [dg_lt h2]; simp
    · rw [dg_ge (by omega), dg_lt (by omega)]; simp
theorem dg_len2 {n : Nat} (h : n < 100) : 1 ≤ (dg n).length ∧ (dg n).length ≤ 2 := by
  by_cases h1 : n < 10
  · rw [dg_lt h1]; simp
  · rw [dg_ge (by omega), dg_lt (by omega)]; simp

/-! ### A number's text -/

/-- Are these the digits of a number from 0 to top? -/
def nis (top : Nat) (s : List UInt8) : Bool := decide (s = dg (val s) ∧ val s ≤ top)
/-- That number, or 0. -/
def nv (top : Nat) (s : List UInt8) : Nat := if nis top s then val s else 0
theorem nis_dg {top n : Nat} (h : n ≤ top) : nis top (dg n) = true := by simp [nis, val_dg, h]
theorem nv_dg {top n : Nat} (h : n ≤ top) : nv top (dg n) = n := by simp [nv, nis_dg h, val_dg]
theorem nis_iff {top : Nat} {s : List UInt8} : nis top s = true ↔ ∃ n, n ≤ top ∧ s = dg n := by
  constructor
  · intro h
    have := of_decide_eq_true h
    exact ⟨_, this.2, this.1⟩
  · rintro ⟨n, h, rfl⟩; exact nis_dg h
theorem nv_le (top : Nat) (s : List UInt8) : nv top s ≤ top := by
  unfold nv
  split
  · next h => exact (of_decide_eq_true h).2
  · omega
theorem nv_eq {top : Nat} {s : List UInt8} (h : nis top s = true) : nv top s = val s ∧ s = dg (val s) ∧ val s ≤ top := by
  refine ⟨by simp [nv, h], (of_decide_eq_true h).1, (of_decide_eq_true h).2⟩

/-- What has been read so far is a number's digits, or nothing. -/
def Pre (p : List UInt8) (n top : Nat) : Prop := n = val p ∧ n ≤ top ∧ (p = [] ∨ p = dg n)
theorem Pre.start (top : Nat) : Pre [] 0 top := ⟨rfl, by omega, .inl rfl⟩
theorem Pre.fin {p : List UInt8} {n top : Nat} (h : Pre p n top) : nis top p = decide (p ≠ []) ∧ nv top p = n := by
  rcases h.2.2 with rfl | he
  · have : nis top [] = false := by
      rw [Bool.eq_false_iff]; intro h
      obtain ⟨n, _, h⟩ := nis_iff.1 h
      exact dg_ne n h.symm
    exact ⟨by rw [this]; rfl, by rw [h.1, val_nil]; simp [nv, this]⟩
  · rw [he]
    exact ⟨by rw [nis_dg h.2.1]; simp [dg_ne], nv_dg h.2.1⟩
theorem Pre.digit {p r : List UInt8} {c : UInt8} {top : Nat} (hc : ¬ isD c) : nis top (p ++ c :: r) = false := by
  rw [Bool.eq_false_iff]; intro h
  obtain ⟨m, _, he⟩ := nis_iff.1 h
  exact hc (dg_all m c (by rw [← he]; simp))
theorem Pre.nought {p r : List UInt8} {c : UInt8} {top : Nat} (h : Pre p 0 top) (hp : p ≠ []) : nis top (p ++ c :: r) = false := by
  rw [Bool.eq_false_iff]; intro h'
  obtain ⟨m, _, he⟩ := nis_iff.1 h'
  rcases h.2.2 with h0 | h0
  · exact hp h0
  · rw [h0, dg_lt (by omega)] at he
    by_cases hm : m = 0
    · subst hm
      rw [dg_lt (by omega)] at he
      simp at he
    · exact dg_head hm _ he.symm
theorem Pre.over {p r : List UInt8} {c : UInt8} {n top : Nat} (h : Pre p n top) (hc : top < 10 * n + (c.toNat - 48)) : nis top (p ++ c :: r) = false := by
  rw [Bool.eq_false_iff]; intro h'
  obtain ⟨_, _, h2⟩ := nv_eq h'
  have := val_le (p ++ [c]) r
  rw [val_app, ← h.1, show p ++ [c] ++ r = p ++ c :: r by simp] at this
  omega
theorem Pre.step {p : List UInt8} {c : UInt8} {n top : Nat} (h : Pre p n top) (hd : isD c) (h0 : p = [] ∨ n ≠ 0) (ht : 10 * n + (c.toNat - 48) ≤ top) : Pre (p ++ [c]) (10 * n + (c.toNat - 48)) top := by
  refine ⟨by rw [val_app, ← h.1], ht, .inr ?_⟩
  have hc : UInt8.ofNat (48 + (c.toNat - 48)) = c := by
    apply UInt8.toNat_inj.1
    rw [UInt8.toNat_ofNat', Nat.mod_eq_of_lt (by have := hd.2; omega)]
    have := hd.1; omega
  rcases h.2.2 with h1 | h1
  · subst h1
    have : n = 0 := h.1
    subst this
    rw [dg_lt (by have := hd.2; omega), show 10 * 0 + (c.toNat - 48) = c.toNat - 48 by omega, hc]; rfl
  · rcases h0 with h0 | h0
    · exact absurd (h0 ▸ h1).symm (dg_ne n)
    · rw [dg_app (by omega) (by have := hd.2; omega), hc, ← h1]

/-! ### An address's text -/
def text (a : Nat) : List UInt8 := dg (a / 16777216) ++ 46 :: (dg (a / 65536 % 256) ++ 46 :: (dg (a / 256 % 256) ++ 46 :: dg (a % 256)))
def textAll (b k : Nat) : List UInt8 := text b ++ 47 :: dg k
theorem no46 : ¬ isD 46 := by unfold isD; decide
theorem no47 : ¬ isD 47 := by unfold isD; decide

theorem cut_inj {c : UInt8} : ∀ {p q r s : List UInt8}, p ++ c :: r = q ++ c :: s → c ∉ p → c ∉ q → p = q ∧ r = s
  | [], [], r, s, h, _, _ => by simpa using h
  | [], y :: q, r, s, h, _, hq => by
    simp only [List.nil_append, List.cons_append, List.cons.injEq] at h
    exact absurd (List.mem_cons.2 (.inl h.1)) hq
  | x :: p, [], r, s, h, hp, _ => by
    simp only [List.nil_append, List.cons_append, List.cons.injEq] at h
    exact absurd (List.mem_cons.2 (.inl h.1.symm)) hp
  | x :: p, y :: q, r, s, h, hp, hq => by
    simp only [List.cons_append, List.cons.injEq] at h
    obtain ⟨h1, h2⟩ := cut_inj h.2 (fun e => hp (List.mem_cons_of_mem _ e)) (fun e => hq (List.mem_cons_of_mem _ e))
    exact ⟨by rw [h.1, h1], h2⟩
theorem text_inj {a b : Nat} (h : text a = text b) : a = b := by
  unfold text at h
  obtain ⟨h1, h⟩ := cut_inj h (dg_no _ no46) (dg_no _ no46)
  obtain ⟨h2, h⟩ := cut_inj h (dg_no _ no46) (dg_no _ no46)
  obtain ⟨h3, h4⟩ := cut_inj h (dg_no _ no46) (dg_no _ no46)
  have := dg_inj h1; have := dg_inj h2; have := dg_inj h3; have := dg_inj h4
  omega
theorem text_no47 (a : Nat) : 47 ∉ text a := by
  unfold text
  simp only [List.mem_append, List.mem_cons, not_or]
  exact ⟨dg_no _ no47, by decide, dg_no _ no47, by decide, dg_no _ no47, by decide, dg_no _ no47⟩
theorem textAll_inj {a b j k : Nat} (h : textAll a j = textAll b k) : a = b ∧ j = k := by
  obtain ⟨h1, h2⟩ := cut_inj h (text_no47 a) (text_no47 b)
  exact ⟨text_inj h1, dg_inj h2⟩
theorem text_len {a : Nat} (h : a < 4294967296) : 7 ≤ (text a).length ∧ (text a).length ≤ 15 := by
  have h1 := dg_len (n := a / 16777216) (by omega); have h2 := dg_len (n := a / 65536 % 256) (by omega); have h3 := dg_len (n := a / 256 % 256) (by omega); have h4 := dg_len (n := a % 256) (by omega)
  unfold text
  simp only [List.length_append, List.length_cons]
  omega
theorem textAll_len {a k : Nat} (h : a < 4294967296) (hk : k < 100) : (textAll a k).length ≤ 18 := by
  have h1 := text_len h; have h2 := dg_len2 hk
  unfold textAll
  simp only [List.length_append, List.length_cons]
  omega
theorem text_ne (a : Nat) : text a ≠ [] := by unfold text; simp
theorem textAll_ne (a k : Nat) : textAll a k ≠ [] := by unfold textAll; simp
theorem textAll_text (a b k : Nat) : textAll a k ≠ text b := fun h => text_no47 b (by rw [← h]; unfold textAll; simp)
theorem count_dg (n : Nat) : (dg n).count 46 = 0 := List.count_eq_zero.2 (dg_no n no46)
theorem count_text (a : Nat) : (text a).count 46 = 3 := by
  unfold text
  simp only [List.count_append, List.count_cons, count_dg, beq_self_eq_true, if_true]

/-! ### What a text tells -/
/-- Is it an address's text? -/
noncomputable def isA (s : List UInt8) : Bool := @decide (∃ a, a < 4294967296 ∧ text a = s) (Classical.propDecidable _)
/-- The address, or 0. -/
noncomputable def adr (s : List UInt8) : Nat := if isA s = true then Classical.epsilon (fun a => a < 4294967296 ∧ text a = s) else 0
theorem isA_iff {s : List UInt8} : isA s = true ↔ ∃ a, a < 4294967296 ∧ text a = s := by
  unfold isA; exact @decide_eq_true_iff _ (Classical.propDecidable _)
theorem isA_get {s : List UInt8} (h : isA s = true) : adr s < 4294967296 ∧ text (adr s) = s := by
  unfold adr; rw [if_pos h]
  exact Classical.epsilon_spec (isA_iff.1 h)
theorem isA_text {a : Nat} (h : a < 4294967296) : isA (text a) = true := isA_iff.2 ⟨a, h, rfl⟩
theorem adr_text {a : Nat} (h : a < 4294967296) : adr (text a) = a := text_inj (isA_get (isA_text h)).2
theorem isA_not {s : List UInt8} (h : isA s = false) : adr s = 0 ∧ ∀ a, a < 4294967296 → text a ≠ s := by
  refine ⟨by unfold adr; rw [h]; rfl, fun a ha he => ?_⟩
  rw [isA_iff.2 ⟨a, ha, he⟩] at h
  cases h
theorem isA_no {s : List UInt8} (h : ∀ a, a < 4294967296 → text a ≠ s) : isA s = false := by
  rw [Bool.eq_false_iff]; intro h'
  exact h _ (isA_get h').1 (isA_get h').2
theorem adr_lt (s : List UInt8) : adr s < 4294967296 := by
  cases h : isA s
  · rw [(isA_not h).1]; omega
  · exact (isA_get h).1

/-- May a prefix of this Base and these Bits be? -/
def okP (b k : Nat) : Prop := k ≤ 32 ∧ b < 4294967296 ∧ b % 2 ^ (32 - k) = 0
instance (b k : Nat) : Decidable (okP b k) := by unfold okP; infer_instance
/-- Is it a prefix's text? -/
noncomputable def isP (s : List UInt8) : Bool := @decide (∃ p : Nat × Nat, okP p.1 p.2 ∧ textAll p.1 p.2 = s) (Classical.propDecidable _)
noncomputable def prP (s : List UInt8) : Nat × Nat := if isP s = true then Classical.epsilon (fun p : Nat × Nat => okP p.1 p.2 ∧ textAll p.1 p.2 = s) else (0, 0)
noncomputable def prB (s : List UInt8) : Nat := (prP s).1
noncomputable def prK (s : List UInt8) : Nat := (prP s).2
theorem isP_iff {s : List UInt8} : isP s = true ↔ ∃ p : Nat × Nat, okP p.1 p.2 ∧ textAll p.1 p.2 = s := by
  unfold isP; exact @decide_eq_true_iff _ (Classical.propDecidable _)
theorem isP_get {s : List UInt8} (h : isP s = true) : okP (prB s) (prK s) ∧ textAll (prB s) (prK s) = s := by
  unfold prB prK prP; rw [if_pos h]
  exact Classical.epsilon_spec (isP_iff.1 h)
theorem isP_text {b k : Nat} (h : okP b k) : isP (textAll b k) = true ∧ prB (textAll b k) = b ∧ prK (textAll b k) = k := by
  have h1 := isP_iff.2 ⟨(b, k), h, rfl⟩
  exact ⟨h1, textAll_inj (isP_get h1).2⟩
theorem isP_not {s : List UInt8} (h : isP s = false) : prB s = 0 ∧ prK s = 0 ∧ ∀ b k, okP b k → textAll b k ≠ s := by
  refine ⟨by unfold prB prP; rw [h]; rfl, by unfold prK prP; rw [h]; rfl, fun b k hk he => ?_⟩
  rw [isP_iff.2 ⟨(b, k), hk, he⟩] at h
  cases h
theorem isP_no {s : List UInt8} (h : ∀ b k, okP b k → textAll b k ≠ s) : isP s = false := by
  rw [Bool.eq_false_iff]; intro h'
  exact h _ _ (isP_get h').1 (isP_get h').2

/-! ### Cut at its points -/
/-- Parts, a point between two. -/
def joinL : List (List UInt8) → List UInt8
  | [] => []
  | [p] => p
  | p :: q :: r => p ++ 46 :: joinL (q :: r)
theorem index_one (c : UInt8) : ∀ s : List UInt8, (index s [c] = -1 ∧ c ∉ s) ∨ ∃ p r, s = p ++ c :: r ∧ c ∉ p ∧ index s [c] = p.length
  | [] => .inl ⟨rfl, by simp⟩
  | b :: l => by
    by_cases h : c = b
    · subst h
      exact .inr ⟨[], l, rfl, by simp, by unfold index; simp [List.isPrefixOf]⟩
    · have hp : ([c] : List UInt8).isPrefixOf (b :: l) = false := by simp [List.isPrefixOf, h]
      rcases index_one c l with ⟨h1, h2⟩ | ⟨p, r, rfl, h2, h3⟩
      · refine .inl ⟨by unfold index; rw [hp, h1]; rfl, by simp [h, h2]⟩
      · refine .inr ⟨b :: p, r, rfl, by simp [h, h2], ?_⟩
        unfold index
        rw [hp, h3]
        have : ((p.length : Int) == -1) = false := by rw [beq_eq_false_iff_ne]; omega
        simp [this]
theorem splitK_join : ∀ (k : Nat) (s : List UInt8), joinL (splitK [46] 0 k s) = s
  | 0, s => rfl
  | k + 1, s => by
    unfold splitK
    rcases index_one 46 s with ⟨h1, _⟩ | ⟨p, r, rfl, _, h3⟩
    · rw [h1]; rfl
    · rw [h3]
      have hb : ((p.length : Int) == -1) = false := by rw [beq_eq_false_iff_ne]; omega
      rw [hb]
      simp only [Bool.false_eq_true, if_false, Int.toNat_natCast, Nat.add_zero, List.length_singleton, List.take_left]
      have hd : (p ++ 46 :: r).drop (p.length + 1) = r := by
        rw [show p ++ 46 :: r = (p ++ [46]) ++ r by simp, List.drop_left' (by simp)]
      rw [hd]
      have ih := splitK_join k r
      cases hs : splitK [46] 0 k r with
      | nil =>
        exfalso
        cases k with
        | zero => simp [splitK] at hs
        | succ k => unfold splitK at hs; split at hs <;> cases hs
      | cons q t =>
        show p ++ 46 :: joinL (q :: t) = _
        rw [← hs, ih]
theorem splitK_hit {p r : List UInt8} (h : 46 ∉ p) (k : Nat) : splitK [46] 0 (k + 1) (p ++ 46 :: r) = p :: splitK [46] 0 k r := by
  rcases index_one 46 (p ++ 46 :: r) with ⟨_, h2⟩ | ⟨q, t, he, h2, h3⟩
  · simp at h2
  · obtain ⟨rfl, rfl⟩ := cut_inj he h h2
    rw [splitK, h3]
    have hb : ((p.length : Int) == -1) = false := by rw [beq_eq_false_iff_ne]; omega
    rw [hb]
    simp only [Bool.false_eq_true, if_false, Int.toNat_natCast, Nat.add_zero, List.length_singleton, List.take_left]
    rw [show p ++ 46 :: r = (p ++ [46]) ++ r by simp, List.drop_left' (by simp)]
theorem splitK_miss {p : List UInt8} (h : 46 ∉ p) (k : Nat) : splitK [46] 0 k p = [p] := by
  cases k with
  | zero => rfl
  | succ k =>
    rcases index_one 46 p with ⟨h1, _⟩ | ⟨q, t, rfl, _, _⟩
    · rw [splitK, h1]; rfl
    · simp at h
theorem splitK_text {a : Nat} (h : a < 4294967296) : splitK [46] 0 (min 5 ((text a).length + 1) - 1) (text a) = [dg (a / 16777216), dg (a / 65536 % 256), dg (a / 256 % 256), dg (a % 256)] := by
  have hl := text_len h
  rw [show min 5 ((text a).length + 1) - 1 = 4 by omega]
  unfold text
  rw [splitK_hit (dg_no _ no46), splitK_hit (dg_no _ no46), splitK_hit (dg_no _ no46), splitK_miss (dg_no _ no46)]

/-- The address that four parts are so far. -/
def acc (l : List (List UInt8)) : Nat := l.foldl (fun a p => 256 * a + nv 255 p) 0
theorem acc_app (l : List (List UInt8)) (p : List UInt8) : acc (l ++ [p]) = 256 * acc l + nv 255 p := by simp [acc]
theorem acc_lt4 (p0 p1 p2 p3 : List UInt8) : acc [p0, p1, p2, p3] < 4294967296 := by
  have h0 := nv_le 255 p0; have h1 := nv_le 255 p1; have h2 := nv_le 255 p2; have h3 := nv_le 255 p3
  show 256 * (256 * (256 * (256 * 0 + nv 255 p0) + nv 255 p1) + nv 255 p2) + nv 255 p3 < 4294967296
  omega
theorem parts_text {p0 p1 p2 p3 : List UInt8} (h0 : nis 255 p0 = true) (h1 : nis 255 p1 = true) (h2 : nis 255 p2 = true) (h3 : nis 255 p3 = true) : text (acc [p0, p1, p2, p3]) = joinL [p0, p1, p2, p3] := by
  obtain ⟨e0, d0, b0⟩ := nv_eq h0
  obtain ⟨e1, d1, b1⟩ := nv_eq h1
  obtain ⟨e2, d2, b2⟩ := nv_eq h2
  obtain ⟨e3, d3, b3⟩ := nv_eq h3
  show text (256 * (256 * (256 * (256 * 0 + nv 255 p0) + nv 255 p1) + nv 255 p2) + nv 255 p3) = _
  rw [e0, e1, e2, e3]
  unfold text
  rw [show (256 * (256 * (256 * (256 * 0 + val p0) + val p1) + val p2) + val p3) / 16777216 = val p0 by omega,
    show (256 * (256 * (256 * (256 * 0 + val p0) + val p1) + val p2) + val p3) / 65536 % 256 = val p1 by omega,
    show (256 * (256 * (256 * (256 * 0 + val p0) + val p1) + val p2) + val p3) / 256 % 256 = val p2 by omega,
    show (256 * (256 * (256 * (256 * 0 + val p0) + val p1) + val p2) + val p3) % 256 = val p3 by omega, ← d0, ← d1, ← d2, ← d3]
  rfl
/-- What the parts of a text tell. -/
def parts (s : List UInt8) : List (List UInt8) := splitK [46] 0 (min 5 (s.length + 1) - 1) s
theorem read_four {s : List UInt8} (hl : (parts s).length = 4) (h : ∀ p ∈ parts s, nis 255 p = true) : isA s = true ∧ adr s = acc (parts s) := by
  have hj : joinL (parts s) = s := splitK_join _ s
  match hp : parts s, hl, h with
  | [p0, p1, p2, p3], _, h =>
    have ht := parts_text (h p0 (by simp)) (h p1 (by simp)) (h p2 (by simp)) (h p3 (by simp))
    rw [hp] at hj
    rw [hj] at ht
    have hb := acc_lt4 p0 p1 p2 p3
    exact ⟨by rw [← ht]; exact isA_text hb, by rw [← ht, adr_text hb]⟩
theorem read_len {s : List UInt8} (hl : (parts s).length ≠ 4) : isA s = false ∧ adr s = 0 := by
  have : isA s = false := isA_no fun a ha he => hl (by subst he; unfold parts; rw [splitK_text ha]; rfl)
  exact ⟨this, (isA_not this).1⟩
theorem read_bad {s p : List UInt8} (hp : p ∈ parts s) (h : nis 255 p = false) : isA s = false ∧ adr s = 0 := by
  have : isA s = false := isA_no fun a ha he => by
    subst he
    unfold parts at hp
    rw [splitK_text ha] at hp
    simp only [List.mem_cons, List.mem_nil_iff, or_false] at hp
    rcases hp with rfl | rfl | rfl | rfl <;> rw [nis_dg (by omega)] at h <;> cases h
  exact ⟨this, (isA_not this).1⟩

/-- A prefix's text, cut at its stroke. -/
theorem cut_of (s : List UInt8) : (47 ∉ s ∧ cut s [47] = (s, [], false)) ∨ ∃ p r, s = p ++ 47 :: r ∧ 47 ∉ p ∧ cut s [47] = (p, r, true) := by
  rcases index_one 47 s with ⟨h1, h2⟩ | ⟨p, r, rfl, h2, h3⟩
  · exact .inl ⟨h2, by unfold cut; rw [h1]; rfl⟩
  · refine .inr ⟨p, r, rfl, h2, ?_⟩
    unfold cut
    rw [h3, if_pos (by omega)]
    simp only [Int.toNat_natCast, List.length_singleton, List.take_left]
    rw [show p ++ 47 :: r = (p ++ [47]) ++ r by simp, List.drop_left' (by simp)]
/-- The prefix that the two parts of a text tell, or none. -/
theorem readAll_of (s : List UInt8) :
    isP s = (isA (cut s [47]).1 && nis 32 (cut s [47]).2.1 && decide (okP (adr (cut s [47]).1) (nv 32 (cut s [47]).2.1))) ∧
    prB s = (if isP s then adr (cut s [47]).1 else 0) ∧ prK s = (if isP s then nv 32 (cut s [47]).2.1 else 0) := by
  have key : isP s = true → (isA (cut s [47]).1 = true ∧ nis 32 (cut s [47]).2.1 = true ∧ okP (adr (cut s [47]).1) (nv 32 (cut s [47]).2.1)) ∧ prB s = adr (cut s [47]).1 ∧ prK s = nv 32 (cut s [47]).2.1 := by
    intro h
    obtain ⟨hk, he⟩ := isP_get h
    rcases cut_of s with ⟨h1, _⟩ | ⟨p, r, hs, h2, h3⟩
    · exfalso; apply h1; rw [← he]; unfold textAll; simp
    · rw [h3]
      have he' := he
      unfold textAll at he'
      rw [hs] at he'
      obtain ⟨e1, e2⟩ := cut_inj he' (text_no47 _) h2
      rw [← hs] at e1 e2
      rw [← e1, ← e2]
      refine ⟨⟨isA_text hk.2.1, nis_dg hk.1, ?_⟩, (adr_text hk.2.1).symm, (nv_dg hk.1).symm⟩
      rw [adr_text hk.2.1, nv_dg hk.1]; exact hk
  cases hP : isP s
  · refine ⟨?_, by rw [(isP_not hP).1]; rfl, by rw [(isP_not hP).2.1]; rfl⟩
    symm
    rw [Bool.eq_false_iff]
    intro h
    simp only [Bool.and_eq_true, decide_eq_true_iff] at h
    obtain ⟨⟨ha, hn⟩, hk⟩ := h
    rcases cut_of s with ⟨_, h1⟩ | ⟨p, r, hs, h2, h3⟩
    · rw [h1] at hn
      obtain ⟨n, _, he⟩ := nis_iff.1 hn
      exact dg_ne n he.symm
    · rw [h3] at ha hn hk
      obtain ⟨_, e1⟩ := isA_get ha
      obtain ⟨e2, e3, _⟩ := nv_eq hn
      refine (isP_not hP).2.2 _ _ hk ?_
      show text _ ++ 47 :: dg _ = s
      rw [e1, e2, ← e3, hs]
  · obtain ⟨⟨h1, h2, h3⟩, h4, h5⟩ := key hP
    refine ⟨by rw [h1, h2, decide_eq_true h3]; rfl, h4, h5⟩

/-! ### The numbers of a text, by the document's own answer -/
def numsF (l : List Nat) (c : UInt8) : List Nat :=
  if 48 ≤ c.toNat ∧ c.toNat ≤ 57 then (if l.getLastD 0 < 1000 then l.dropLast ++ [10 * l.getLastD 0 + (c.toNat - 48)] else l) else l ++ [0]
def nums (s : List UInt8) : List Nat := s.foldl numsF [0]
theorem numsF_dg (out : List Nat) {x : Nat} (h : x < 10000) : (dg x).foldl numsF (out ++ [0]) = out ++ [x] := by
  induction x using Nat.strongRecOn with
  | _ x ih =>
    by_cases h1 : x < 10
    · rw [dg_lt h1]
      have hD : 48 ≤ (UInt8.ofNat (48 + x)).toNat ∧ (UInt8.ofNat (48 + x)).toNat ≤ 57 := isD_of h1
      have ht : (UInt8.ofNat (48 + x)).toNat = 48 + x := by rw [UInt8.toNat_ofNat', Nat.mod_eq_of_lt (by omega)]
      simp only [List.foldl_cons, List.foldl_nil]
      unfold numsF
      rw [if_pos hD, ht]
      simp
    · rw [dg_ge (by omega), List.foldl_append, ih (x / 10) (by omega) (by omega)]
      have hD : 48 ≤ (UInt8.ofNat (48 + x % 10)).toNat ∧ (UInt8.ofNat (48 + x % 10)).toNat ≤ 57 := isD_of (d := x % 10) (by omega)
      have ht : (UInt8.ofNat (48 + x % 10)).toNat = 48 + x % 10 := by rw [UInt8.toNat_ofNat', Nat.mod_eq_of_lt (by omega)]
      simp only [List.foldl_cons, List.foldl_nil]
      unfold numsF
      rw [if_pos hD, ht]
      simp only [List.getLastD_concat, List.dropLast_concat]
      rw [if_pos (by omega)]
      congr 2; omega
theorem numsF_no {c : UInt8} (h : ¬ isD c) (out : List Nat) : numsF out c = out ++ [0] := by unfold numsF; exact if_neg h
theorem nums_text {a : Nat} (h : a < 4294967296) : nums (text a) = [a / 16777216, a / 65536 % 256, a / 256 % 256, a % 256] := by
  unfold nums text
  rw [List.foldl_append, List.foldl_cons, show ([0] : List Nat) = [] ++ [0] from rfl, numsF_dg [] (by omega), numsF_no no46,
    List.foldl_append, List.foldl_cons, numsF_dg _ (by omega), numsF_no no46, List.foldl_append, List.foldl_cons, numsF_dg _ (by omega), numsF_no no46, numsF_dg _ (by omega)]
  rfl
theorem nums_textAll {a k : Nat} (h : a < 4294967296) (hk : k < 10000) : nums (textAll a k) = [a / 16777216, a / 65536 % 256, a / 256 % 256, a % 256, k] := by
  unfold textAll
  show (text a ++ 47 :: dg k).foldl numsF [0] = _
  rw [List.foldl_append, List.foldl_cons]
  have := nums_text h
  unfold nums at this
  rw [this, numsF_no no47, numsF_dg _ hk]
  rfl
theorem numsF_ne (l : List Nat) (c : UInt8) (h : l ≠ []) : numsF l c ≠ [] := by
  unfold numsF
  split
  · split <;> simp [h]
  · simp
end Go.Proofs.YtbaneeedoledoaaDoor.A
