/-
  The plain mathematics of records: a record's bytes, what stands at the head of bytes, and all records that stand one behind the other. It speaks of lists of integers alone, of no program.
-/
import Derived.Test.YtnpgjndhkmpciaaVLists
import Derived.Test.YtnpgjndhkmpciaaCMath
namespace Go.Proofs.Ytnpgjndhkmpciaa

/-- A record: its kind, and its body. -/
abbrev R.T := Int × List Int
/-- May it be put? -/
def R.ok (r : R.T) : Prop := 0 ≤ r.1 ∧ r.1 ≤ 255 ∧ r.2.length ≤ 1000
instance (r : R.T) : Decidable (R.ok r) := inferInstanceAs (Decidable (0 ≤ r.1 ∧ r.1 ≤ 255 ∧ r.2.length ≤ 1000))
/-- What a record's sum is made of. -/
def R.pre (r : R.T) : List Int := r.1 :: (M.put r.2.length ++ r.2)
def R.bytes (r : R.T) : List Int := C.seal (R.pre r)
def R.put (r : R.T) : Option (List Int) := if R.ok r then some (R.bytes r) else none

theorem R.put_some {r : R.T} {P : List Int} : R.put r = some P ↔ R.ok r ∧ P = R.bytes r := by
  unfold R.put
  split
  · next h => exact ⟨fun e => ⟨h, by simpa using e.symm⟩, fun e => by rw [e.2]⟩
  · next h => exact ⟨fun e => (by cases e), fun e => absurd e.1 h⟩
theorem R.put_yes {r : R.T} (h : R.ok r) : R.put r = some (R.bytes r) := R.put_some.2 ⟨h, rfl⟩
theorem R.put_no {r : R.T} (h : ¬ R.ok r) : R.put r = none := by unfold R.put; rw [if_neg h]
theorem R.isn {r : R.T} (h : R.ok r) : M.isn (r.2.length : Int) := ⟨by omega, by have := h.2.2; omega⟩
theorem R.pre_len (r : R.T) : (R.pre r).length = 1 + (M.put r.2.length).length + r.2.length := by simp [R.pre]; omega
theorem R.bytes_len (r : R.T) : (R.bytes r).length = 1 + (M.put r.2.length).length + r.2.length + 4 := by rw [R.bytes, C.seal_len, R.pre_len]
theorem R.put_len {r : R.T} (h : R.ok r) : (M.put r.2.length).length = if r.2.length < 128 then 1 else 2 := by
  have h2 := h.2.2
  rw [M.put_yes (by omega) (by omega), Int.toNat_natCast]
  split
  · next hl => rw [M.puts_lt hl]; rfl
  · next hl => rw [M.puts_ge (by omega), M.puts_lt (by omega)]; rfl
theorem R.bytes_big {r : R.T} (h : R.ok r) : 6 ≤ (R.bytes r).length ∧ (R.bytes r).length ≤ 1007 := by
  have := h.2.2
  rw [R.bytes_len, R.put_len h]
  split <;> omega
theorem R.pre_wf {r : R.T} (h : R.ok r) (hb : C.wf r.2) : C.wf (R.pre r) := by
  intro c hc
  rcases List.mem_cons.1 hc with rfl | hc
  · exact ⟨h.1, h.2.1⟩
  · rcases List.mem_append.1 hc with hc | hc
    · have hn := R.isn h
      rw [M.put_yes hn.1 hn.2] at hc
      exact M.puts_byte _ _ (Nat.le_refl _) c hc
    · exact hb c hc
theorem R.bytes_wf {r : R.T} (h : R.ok r) (hb : C.wf r.2) : C.wf (R.bytes r) := C.seal_wf (R.pre_wf h hb)

/-- Do bytes end ahead of a record's length, or in its midst? -/
def R.cut (D : List Int) : Prop := D = [] ∨ (D.tail.length < 6 ∧ ∀ c ∈ D.tail, 128 ≤ c)
instance (D : List Int) : Decidable (R.cut D) := inferInstanceAs (Decidable (D = [] ∨ (D.tail.length < 6 ∧ ∀ c ∈ D.tail, 128 ≤ c)))

/-- What stands at the head of bytes: the error, the record, and how many bytes it takes. -/
def R.head (D : List Int) : Int × R.T × Nat :=
  if R.cut D then (4, (0, []), 0) else
  match M.head D.tail with
  | none => (2, (0, []), 0)
  | some (n, e) =>
    if 1000 < n then (2, (0, []), 0)
    else if D.length < 1 + e + n.toNat + 4 then (4, (0, []), 0)
    else if (C.open (D.take (1 + e + n.toNat + 4))).isSome then (0, (D.headD 0, (D.drop (1 + e)).take n.toNat), 1 + e + n.toNat + 4)
    else (3, (0, []), 0)
/-- What stands at a place: the error, the record, and where it ends. -/
def R.get (L : List Int) (p : Int) : Int × R.T × Int :=
  if p < 0 ∨ (L.length : Int) < p then (2, (0, []), 0)
  else ((R.head (L.drop p.toNat)).1, (R.head (L.drop p.toNat)).2.1, if (R.head (L.drop p.toNat)).1 = 0 then p + (R.head (L.drop p.toNat)).2.2 else 0)

theorem R.get_out {L : List Int} {p : Int} (h : p < 0 ∨ (L.length : Int) < p) : R.get L p = (2, (0, []), 0) := by unfold R.get; rw [if_pos h]
theorem R.get_at {L : List Int} {p : Nat} (h : p ≤ L.length) : R.get L p = ((R.head (L.drop p)).1, (R.head (L.drop p)).2.1, if (R.head (L.drop p)).1 = 0 then (p : Int) + (R.head (L.drop p)).2.2 else 0) := by
  unfold R.get; rw [if_neg (by omega)]; simp
theorem R.get_err {L : List Int} {p : Nat} {e : Int} (h : p ≤ L.length) (he : e ≠ 0) (hh : R.head (L.drop p) = (e, (0, []), 0)) : R.get L p = (e, (0, []), 0) := by
  rw [R.get_at h, hh]; simp [he]
theorem R.get_ok {L : List Int} {p s : Nat} {r : R.T} (h : p ≤ L.length) (hh : R.head (L.drop p) = (0, r, s)) : R.get L p = (0, r, (p : Int) + s) := by
  rw [R.get_at h, hh]; simp

theorem R.head_cut {D : List Int} (h : R.cut D) : R.head D = (4, (0, []), 0) := by unfold R.head; rw [if_pos h]
theorem R.head_none {D : List Int} (h : ¬ R.cut D) (hm : M.head D.tail = none) : R.head D = (2, (0, []), 0) := by unfold R.head; rw [if_neg h, hm]
theorem R.head_big {D : List Int} {n : Int} {e : Nat} (h : ¬ R.cut D) (hm : M.head D.tail = some (n, e)) (hn : 1000 < n) : R.head D = (2, (0, []), 0) := by unfold R.head; rw [if_neg h, hm]; simp [hn]
theorem R.head_few {D : List Int} {n : Int} {e : Nat} (h : ¬ R.cut D) (hm : M.head D.tail = some (n, e)) (hn : ¬ 1000 < n) (hl : D.length < 1 + e + n.toNat + 4) : R.head D = (4, (0, []), 0) := by
  unfold R.head; rw [if_neg h, hm]; simp [hn, hl]
theorem R.head_sum {D : List Int} {n : Int} {e : Nat} (h : ¬ R.cut D) (hm : M.head D.tail = some (n, e)) (hn : ¬ 1000 < n) (hl : ¬ D.length < 1 + e + n.toNat + 4) (ho : (C.open (D.take (1 + e + n.toNat + 4))).isSome = false) : R.head D = (3, (0, []), 0) := by
  unfold R.head; rw [if_neg h, hm]; simp only [if_neg hn, if_neg hl, ho]; rfl
theorem R.head_yes {D : List Int} {n : Int} {e : Nat} (h : ¬ R.cut D) (hm : M.head D.tail = some (n, e)) (hn : ¬ 1000 < n) (hl : ¬ D.length < 1 + e + n.toNat + 4) (ho : (C.open (D.take (1 + e + n.toNat + 4))).isSome = true) :
    R.head D = (0, (D.headD 0, (D.drop (1 + e)).take n.toNat), 1 + e + n.toNat + 4) := by
  unfold R.head; rw [if_neg h, hm]; simp only [if_neg hn, if_neg hl, ho]; rfl

/-- There is an error, or a record. -/
theorem R.head_cases (D : List Int) : (∃ e, e ≠ 0 ∧ R.head D = (e, (0, []), 0)) ∨ ∃ r s, R.head D = (0, r, s) := by
  unfold R.head
  split
  · exact .inl ⟨4, by decide, rfl⟩
  · split
    · exact .inl ⟨2, by decide, rfl⟩
    · split
      · exact .inl ⟨2, by decide, rfl⟩
      · split
        · exact .inl ⟨4, by decide, rfl⟩
        · split
          · exact .inr ⟨_, _, rfl⟩
          · exact .inl ⟨3, by decide, rfl⟩

theorem puts_init : ∀ (k n : Nat), n ≤ k → ∀ c ∈ (M.puts n).take ((M.puts n).length - 1), 128 ≤ c
  | k, n, hk => by
    by_cases h1 : n < 128
    · rw [M.puts_lt h1]; simp
    · rw [M.puts_ge (by omega)]
      have hp := M.puts_pos (n / 128)
      intro c hc
      rw [List.length_cons, Nat.add_sub_cancel] at hc
      obtain ⟨m, hm⟩ : ∃ m, (M.puts (n / 128)).length = m + 1 := ⟨(M.puts (n / 128)).length - 1, by omega⟩
      rw [hm, List.take_succ_cons] at hc
      rcases List.mem_cons.1 hc with rfl | hc
      · omega
      · match k, hk with
        | k + 1, hk => exact puts_init k (n / 128) (by omega) c (by rw [hm]; exact hc)
        | 0, hk => omega
theorem puts_last : ∀ (k n : Nat), n ≤ k → ∃ c ∈ M.puts n, c < 128
  | k, n, hk => by
    by_cases h1 : n < 128
    · rw [M.puts_lt h1]; exact ⟨n, by simp, by omega⟩
    · rw [M.puts_ge (by omega)]
      match k, hk with
      | k + 1, hk =>
        obtain ⟨c, h2, h3⟩ := puts_last k (n / 128) (by omega)
        exact ⟨c, by simp [h2], h3⟩
      | 0, hk => omega

theorem R.not_cut {d : Int} {n : Int} {K : List Int} (hn : M.isn n) : ¬ R.cut (d :: (M.put n ++ K)) := by
  rintro (h | ⟨_, h⟩)
  · cases h
  · obtain ⟨c, hc, h1⟩ := puts_last _ n.toNat (Nat.le_refl _)
    have := h c (by rw [List.tail_cons, M.put_yes hn.1 hn.2]; simp [hc])
    omega

/-- What is put is got. -/
theorem R.head_bytes {r : R.T} (h : R.ok r) (K : List Int) : R.head (R.bytes r ++ K) = (0, r, (R.bytes r).length) := by
  have hn := R.isn h
  have hD : R.bytes r ++ K = r.1 :: (M.put r.2.length ++ (r.2 ++ (C.four (C.sum (R.pre r)) ++ K))) := by simp [R.bytes, C.seal, R.pre]
  have hm : M.head (R.bytes r ++ K).tail = some ((r.2.length : Int), (M.put r.2.length).length) := by rw [hD, List.tail_cons]; exact head_put hn _
  have hs : (R.bytes r).length = 1 + (M.put r.2.length).length + ((r.2.length : Int)).toNat + 4 := by rw [R.bytes_len, Int.toNat_natCast]
  have ht : (R.bytes r ++ K).take (1 + (M.put r.2.length).length + ((r.2.length : Int)).toNat + 4) = C.seal (R.pre r) := by rw [← hs, List.take_left' rfl]; rfl
  rw [R.head_yes (by rw [hD]; exact R.not_cut hn) hm (by have := h.2.2; omega) (by rw [List.length_append, hs]; omega) (by rw [ht, C.open_seal]; rfl)]
  rw [hs, hD]
  congr 2
  have e1 : 1 + (M.put r.2.length).length = (M.put r.2.length).length + 1 := by omega
  rw [e1, List.drop_succ_cons, List.drop_left' rfl, Int.toNat_natCast, List.take_left' rfl]
  rfl

/-- What is got is put as the same bytes. -/
theorem R.head_sound {D : List Int} {r : R.T} {s : Nat} (hw : C.wf D) (h : R.head D = (0, r, s)) : R.ok r ∧ D.take s = R.bytes r ∧ s = (R.bytes r).length ∧ s ≤ D.length ∧ C.wf r.2 := by
  by_cases hc : R.cut D
  · rw [R.head_cut hc] at h; simp at h
  cases hm : M.head D.tail with
  | none => rw [R.head_none hc hm] at h; simp at h
  | some p =>
    obtain ⟨n, e⟩ := p
    by_cases hn : 1000 < n
    · rw [R.head_big hc hm hn] at h; simp at h
    by_cases hl : D.length < 1 + e + n.toNat + 4
    · rw [R.head_few hc hm hn hl] at h; simp at h
    cases ho : (C.open (D.take (1 + e + n.toNat + 4))).isSome with
    | false => rw [R.head_sum hc hm hn hl ho] at h; simp at h
    | true =>
      rw [R.head_yes hc hm hn hl ho] at h
      obtain ⟨O, hO⟩ := Option.isSome_iff_exists.1 ho
      have hO := C.open_some.1 hO
      have hlen := congrArg List.length hO
      rw [C.seal_len, List.length_take, Nat.min_eq_left (by omega)] at hlen
      have hOL : O = D.take (1 + e + n.toNat) := by
        have := congrArg (List.take (1 + e + n.toNat)) hO
        rw [List.take_take, Nat.min_eq_left (by omega)] at this
        rw [← this, C.seal, List.take_left' (by omega)]
      cases D with
      | nil => simp at hl
      | cons d E =>
        rw [List.tail_cons] at hm
        obtain ⟨hi, ht, he, hle, he0⟩ := _root_.Go.Proofs.Ytnpgjndhkmpciaa.head_sound (fun c hc => hw c (by simp [hc])) hm
        simp only [List.length_cons] at hl
        have hb : ((d :: E).drop (1 + e)).take n.toNat = (E.drop e).take n.toNat := by rw [Nat.add_comm 1 e, List.drop_succ_cons]
        simp only [List.headD_cons, Prod.mk.injEq] at h
        obtain ⟨_, rfl, rfl⟩ := h
        rw [hb]
        have hbl : ((E.drop e).take n.toNat).length = n.toNat := by simp; omega
        have hnn : ((n.toNat : Nat) : Int) = n := by have := hi.1; omega
        have hp : R.pre (d, (E.drop e).take n.toNat) = O := by
          rw [hOL, R.pre]
          simp only [hbl, hnn]
          rw [← ht, show 1 + e + n.toNat = (e + n.toNat) + 1 by omega, List.take_succ_cons, List.take_add]
        have hd := hw d (by simp)
        refine ⟨⟨hd.1, hd.2, by simp only [hbl]; omega⟩, ?_, ?_, by simp; omega, fun c hc => hw c (by have := List.mem_of_mem_drop (List.mem_of_mem_take hc); simp [this])⟩
        · rw [R.bytes, hp, hO]
        · rw [R.bytes, hp, C.seal_len]; omega

theorem R.bytes_inj {r s : R.T} (hr : R.ok r) (hs : R.ok s) (h : R.bytes r = R.bytes s) : r = s := by
  have h1 := R.head_bytes hr []
  have h2 := R.head_bytes hs []
  rw [h, h2] at h1
  simp at h1
  exact h1.symm

/-- A beginning of a record is short. -/
theorem R.head_torn {r : R.T} (h : R.ok r) {k : Nat} (hk : k < (R.bytes r).length) : R.head ((R.bytes r).take k) = (4, (0, []), 0) := by
  have hn := R.isn h
  have hp2 := R.put_len h
  have hlen := R.bytes_len r
  have hD : R.bytes r = r.1 :: (M.put r.2.length ++ (r.2 ++ C.four (C.sum (R.pre r)))) := by simp [R.bytes, C.seal, R.pre]
  cases k with
  | zero => exact R.head_cut (.inl (by simp))
  | succ k =>
    by_cases hc : k < (M.put r.2.length).length
    · refine R.head_cut (.inr ⟨?_, ?_⟩)
      · rw [hD, List.take_succ_cons, List.tail_cons, List.length_take]; split at hp2 <;> omega
      · rw [hD, List.take_succ_cons, List.tail_cons, List.take_append_of_le_length (by omega)]
        intro c hcm
        rw [M.put_yes hn.1 hn.2] at hcm hc
        refine puts_init _ (r.2.length : Int).toNat (Nat.le_refl _) c ?_
        have : (M.puts (r.2.length : Int).toNat).take k = ((M.puts (r.2.length : Int).toNat).take ((M.puts (r.2.length : Int).toNat).length - 1)).take k := by rw [List.take_take, Nat.min_eq_left (by omega)]
        rw [this] at hcm
        exact List.mem_of_mem_take hcm
    · have hT : (R.bytes r).take (k + 1) = r.1 :: (M.put r.2.length ++ (r.2 ++ C.four (C.sum (R.pre r))).take (k - (M.put r.2.length).length)) := by
        rw [hD, List.take_succ_cons, List.take_append, List.take_of_length_le (by omega)]
      have hm : M.head ((R.bytes r).take (k + 1)).tail = some ((r.2.length : Int), (M.put r.2.length).length) := by rw [hT, List.tail_cons]; exact head_put hn _
      refine R.head_few (by rw [hT]; exact R.not_cut hn) hm (by have := h.2.2; omega) ?_
      rw [List.length_take, Int.toNat_natCast]; omega

/-! Records one behind the other -/
def R.all (xs : List R.T) : List Int := xs.flatMap R.bytes
theorem R.all_snoc (xs : List R.T) (r : R.T) : R.all (xs ++ [r]) = R.all xs ++ R.bytes r := by simp [R.all]
/-- How far bytes have been read: the records xs, up to the place p. -/
def R.Part (L : List Int) (xs : List R.T) (p : Nat) : Prop := p ≤ L.length ∧ (∀ r ∈ xs, R.ok r) ∧ L.take p = R.all xs
/-- All that there are. -/
def R.Done (L : List Int) (xs : List R.T) (p : Nat) : Prop := R.Part L xs p ∧ (R.head (L.drop p)).1 ≠ 0
theorem R.Part.start (L : List Int) : R.Part L [] 0 := ⟨by omega, by simp, by simp [R.all]⟩
theorem R.Part.step {L : List Int} {xs : List R.T} {p s : Nat} {r : R.T} (hw : C.wf L) (h : R.Part L xs p) (hh : R.head (L.drop p) = (0, r, s)) : R.Part L (xs ++ [r]) (p + s) ∧ 6 ≤ s ∧ C.wf r.2 := by
  obtain ⟨h1, h2, h3, h4, h5⟩ := R.head_sound (fun c hc => hw c (List.mem_of_mem_drop hc)) hh
  obtain ⟨g1, g2, g3⟩ := h
  simp at h4
  refine ⟨⟨by omega, ?_, ?_⟩, by rw [h3]; exact (R.bytes_big h1).1, h5⟩
  · intro x hx
    rcases List.mem_append.1 hx with hx | hx
    · exact g2 x hx
    · simp at hx; rw [hx]; exact h1
  · rw [List.take_add, g3, h2, R.all_snoc]
/-- The records of bytes (f: how many at most are looked for). -/
def R.scan : Nat → List Int → List R.T
  | 0, _ => []
  | f + 1, D => if (R.head D).1 = 0 then (R.head D).2.1 :: R.scan f (D.drop (R.head D).2.2) else []
def R.recs (L : List Int) : List R.T := R.scan L.length L
def R.stop (L : List Int) : Nat := (R.all (R.recs L)).length
theorem R.scan_all : ∀ (xs : List R.T) (f : Nat) (D : List Int), (∀ r ∈ xs, R.ok r) → (R.all xs).length ≤ f → (R.head D).1 ≠ 0 → R.scan f (R.all xs ++ D) = xs
  | [], f, D, _, _, hD => by
    cases f with
    | zero => rfl
    | succ f => rw [R.scan, if_neg (by simpa [R.all] using hD)]
  | r :: xs, f, D, hx, hf, hD => by
    have hr := hx r (by simp)
    have hb := (R.bytes_big hr).1
    have e : R.all (r :: xs) = R.bytes r ++ R.all xs := by simp [R.all]
    rw [e, List.length_append] at hf
    cases f with
    | zero => omega
    | succ f =>
      rw [R.scan, e, List.append_assoc, R.head_bytes hr, if_pos rfl]
      simp only [List.drop_left' rfl]
      rw [R.scan_all xs f D (fun x h => hx x (by simp [h])) (by omega) hD]
theorem R.Done.eq {L : List Int} {xs : List R.T} {p : Nat} (h : R.Done L xs p) : xs = R.recs L ∧ p = R.stop L := by
  obtain ⟨⟨h1, h2, h3⟩, h4⟩ := h
  have e : R.all xs ++ L.drop p = L := by rw [← h3, List.take_append_drop]
  have hl : (R.all xs).length = p := by rw [← h3, List.length_take, Nat.min_eq_left h1]
  have hx : R.recs L = xs := by
    have := R.scan_all xs L.length (L.drop p) h2 (by omega) h4
    rwa [e] at this
  exact ⟨hx.symm, by rw [R.stop, hx, hl]⟩
theorem R.Part.len {L : List Int} {xs : List R.T} {p : Nat} (h : R.Part L xs p) : 6 * xs.length ≤ p := by
  obtain ⟨h1, h2, h3⟩ := h
  have : ∀ xs : List R.T, (∀ r ∈ xs, R.ok r) → 6 * xs.length ≤ (R.all xs).length := by
    intro xs
    induction xs with
    | nil => simp [R.all]
    | cons r xs ih =>
      intro hx
      have := ih (fun x h => hx x (by simp [h]))
      have hb := (R.bytes_big (hx r (by simp))).1
      have e : R.all (r :: xs) = R.bytes r ++ R.all xs := by simp [R.all]
      rw [e, List.length_append, List.length_cons]; omega
  have := this xs h2
  rw [← h3, List.length_take, Nat.min_eq_left h1] at this
  exact this
/-- Whole records, and a beginning of another one. -/
theorem R.torn_done {xs : List R.T} {r : R.T} {k : Nat} (hx : ∀ r ∈ xs, R.ok r) (hr : R.ok r) (hk : k < (R.bytes r).length) : R.Done (R.all xs ++ (R.bytes r).take k) xs (R.all xs).length :=
  ⟨⟨by simp, hx, by simp⟩, by rw [List.drop_left' rfl, R.head_torn hr hk]; decide⟩

/-- A record of whose body, or sum, some bits within 32 in a row are others. -/
theorem R.head_spoiled {r : R.T} (h : R.ok r) (hw : C.wf r.2) {K : List Int} {at_ : Nat} (hn : C.near at_ K (R.bytes r)) (ha : 8 * (1 + (M.put r.2.length).length) ≤ at_) (hne : K ≠ R.bytes r) : R.head K = (3, (0, []), 0) := by
  have hi := R.isn h
  have hlen := R.bytes_len r
  have hwb := R.bytes_wf h hw
  have hD : R.bytes r = (r.1 :: M.put r.2.length) ++ (r.2 ++ C.four (C.sum (R.pre r))) := by simp [R.bytes, C.seal, R.pre]
  have hpre : K.take (1 + (M.put r.2.length).length) = r.1 :: M.put r.2.length := by
    have e : (R.bytes r).take (1 + (M.put r.2.length).length) = r.1 :: M.put r.2.length := by rw [hD, List.take_left' (by simp; omega)]
    rw [← e]
    refine C.bits_inj (fun c hc => hn.2.1 c (List.mem_of_mem_take hc)) (fun c hc => hwb c (List.mem_of_mem_take hc)) (by rw [List.length_take, List.length_take, hn.1]) ?_
    intro j hj
    have hj' : j < 8 * (1 + (M.put r.2.length).length) := by rw [List.length_take] at hj; omega
    have hb := hn.2.2 j (.inl (by omega))
    have t : ∀ X : List Int, X.length = (R.bytes r).length → C.bit (X.take (1 + (M.put r.2.length).length)) j = C.bit X j := by
      intro X hX
      have := C.bit_left (X.take (1 + (M.put r.2.length).length)) (X.drop (1 + (M.put r.2.length).length)) (j := j) (by rw [List.length_take, hX]; omega)
      rwa [List.take_append_drop, eq_comm] at this
    rw [t K hn.1, t _ rfl, hb]
  obtain ⟨E, hE⟩ : ∃ E, K = r.1 :: (M.put r.2.length ++ E) := ⟨K.drop (1 + (M.put r.2.length).length), by
    rw [← List.cons_append, ← hpre, List.take_append_drop]⟩
  have hm : M.head K.tail = some ((r.2.length : Int), (M.put r.2.length).length) := by rw [hE, List.tail_cons]; exact head_put hi _
  have hkl : K.length = 1 + (M.put r.2.length).length + ((r.2.length : Int)).toNat + 4 := by rw [hn.1, hlen, Int.toNat_natCast]
  refine R.head_sum (by rw [hE]; exact R.not_cut hi) hm (by have := h.2.2; omega) (by omega) ?_
  rw [← hkl, List.take_length]
  have := C.open_near (L := R.pre r) (R.pre_wf h hw) hn
  rw [this]
  exact decide_eq_false hne
end Go.Proofs.Ytnpgjndhkmpciaa
