/-
  What the laws of pools say of the document's answers.
-/
import Derived.Test.YtejckbnapcdhpaaORefM
namespace Go.Proofs.Ytejckbnapcdhpaa
namespace O
theorem drop1 {l : List Pl} {q : Pl} {m : Nat} (h : q ∈ l.eraseIdx m) : ∃ i, i ≠ m ∧ l[i]? = some q := by
  obtain ⟨i, hi, hne, rfl⟩ := List.mem_eraseIdx_iff_getElem.1 h
  exact ⟨i, hne, List.getElem?_eq_getElem hi⟩
theorem hit_s (p q : Pl) (s : Int) : hit { p with s := s } q = hit p q := rfl
theorem apart_at {l : List Pl} {i j : Nat} {p q : Pl} (h : Apart l) (hi : l[i]? = some p) (hj : l[j]? = some q) (hne : i ≠ j) : hit p q = false := by
  obtain ⟨a, rfl⟩ := List.getElem?_eq_some_iff.1 hi
  obtain ⟨b, rfl⟩ := List.getElem?_eq_some_iff.1 hj
  rcases Nat.lt_or_gt_of_ne hne with hlt | hlt
  · rw [hit_comm]; exact List.pairwise_iff_getElem.1 h i j a b hlt
  · exact List.pairwise_iff_getElem.1 h j i b a hlt
theorem may_fits {l : List Pl} {out : Int} {i : Nat} {p : Pl} (h : May l out) (hi : l[i]? = some p) : fits p out = true := h.2.2.2.1 p (List.mem_of_getElem? hi)
theorem may_below {l : List Pl} {out : Int} {i : Nat} {p : Pl} (h : May l out) (hi : l[i]? = some p) : below p out = true := fits_below (may_fits h hi)
/-- An address is one pool's. -/
theorem one_has {l : List Pl} {out x : Int} {i j : Nat} {p q : Pl} (h : May l out) (hi : l[i]? = some p) (hj : l[j]? = some q) (hp : has p x = true) (hq : has q x = true) : i = j := by
  refine Decidable.byContradiction fun hne => ?_
  have h1 := apart_at h.2.2.2.2 hi hj hne
  rw [(hit_ex (may_below h hi) (may_below h hj) h.2.1).2 ⟨x, hp, hq⟩] at h1
  cases h1
theorem of_has {l : List Pl} {out x : Int} {i : Nat} {p : Pl} (h : May l out) (hi : l[i]? = some p) (hp : has p x = true) : of l x = i := by
  rcases of_cases l x with ⟨_, h1⟩ | ⟨j, q, h1, h2, h3, _⟩
  · rw [h1 p (List.mem_of_getElem? hi)] at hp; cases hp
  · rw [h1, one_has h hi h2 hp h3]
theorem gives_at {l : List Pl} {out x : Int} {i : Nat} {p : Pl} (h : May l out) (hi : l[i]? = some p) (hp : has p x = true) : gives l x = decide (p.s = 0) := by
  have h1 := of_has h hi hp
  unfold gives
  rw [of_at h1 hi, h1]; simp
theorem gives_none {l : List Pl} {x : Int} (h : ∀ p ∈ l, has p x = false) : gives l x = false := by
  unfold gives; rw [of_none h]; simp
theorem may_set {l : List Pl} {out : Int} {m : Nat} {y : Pl} (h : May l out) (hy : fits y out = true) (hh : ∀ q ∈ l.eraseIdx m, hit y q = false) : May (l.set m y) out := by
  refine ⟨h.1, h.2.1, by rw [List.length_set]; exact h.2.2.1, fun p hp => ?_, ?_⟩
  · rcases List.mem_or_eq_of_mem_set hp with hp | rfl
    · exact h.2.2.2.1 p hp
    · exact hy
  · refine List.pairwise_iff_getElem.2 fun i j hi hj hij => ?_
    rw [List.length_set] at hi hj
    have him : i ≠ m → l[i] ∈ l.eraseIdx m := fun e => List.mem_eraseIdx_iff_getElem.2 ⟨i, hi, e, rfl⟩
    have hjm : j ≠ m → l[j] ∈ l.eraseIdx m := fun e => List.mem_eraseIdx_iff_getElem.2 ⟨j, hj, e, rfl⟩
    rw [List.getElem_set, List.getElem_set]
    by_cases h1 : m = i
    · subst h1
      rw [if_pos rfl, if_neg (by omega), hit_comm]; exact hh _ (hjm (by omega))
    · rw [if_neg h1]
      by_cases h2 : m = j
      · subst h2; rw [if_pos rfl]; exact hh _ (him (by omega))
      · rw [if_neg h2]; exact List.pairwise_iff_getElem.1 h.2.2.2.2 i j hi hj hij
theorem may_erase {l : List Pl} {out : Int} (h : May l out) (m : Nat) : May (l.eraseIdx m) out :=
  ⟨h.1, h.2.1, Nat.le_trans (List.length_eraseIdx_le _ _) h.2.2.1, fun p hp => h.2.2.2.1 p (List.mem_of_mem_eraseIdx hp), h.2.2.2.2.sublist (List.eraseIdx_sublist _ _)⟩
theorem may_snoc {l : List Pl} {out : Int} {p : Pl} (h : May l out) (hp : fits p out = true) (hh : l.any (fun q => hit p q) = false) (h3 : l.length ≠ 3) : May (l ++ [p]) out := by
  refine ⟨h.1, h.2.1, by rw [List.length_append]; have := h.2.2.1; simp; omega, fun q hq => ?_, ?_⟩
  · rcases List.mem_append.1 hq with hq | hq
    · exact h.2.2.2.1 q hq
    · rw [List.mem_singleton.1 hq]; exact hp
  · refine List.pairwise_append.2 ⟨h.2.2.2.2, List.pairwise_singleton _ _, fun q hq r hr => ?_⟩
    rw [List.mem_singleton.1 hr]
    have := List.any_eq_false.1 hh q hq
    simpa using this

/-- What Add answers. -/
theorem add_cases (l : List Pl) (out f n : Int) : (∃ e, add l out f n = (l, e) ∧ e ≠ 0 ∧ (may l out = false → e = 1)) ∨ (add l out f n = (l ++ [⟨f, n, 0⟩], 0) ∧ May l out ∧ below ⟨f, n, 0⟩ out = true ∧ May (l ++ [⟨f, n, 0⟩]) out) := by
  unfold add
  by_cases h1 : may l out = false ∨ below ⟨f, n, 0⟩ out = false
  · rw [if_pos h1]; exact .inl ⟨1, rfl, by decide, fun _ => rfl⟩
  · rw [if_neg h1]
    have hm : May l out := may_iff.1 (by cases h : may l out <;> simp [h] at h1 ⊢)
    have hb : below ⟨f, n, 0⟩ out = true := by cases h : below ⟨f, n, 0⟩ out <;> simp [h] at h1 ⊢
    have hn : ∀ e : Int, may l out = false → e = 1 := fun e h => absurd (Or.inl h) h1
    by_cases h2 : (l.any fun q => hit ⟨f, n, 0⟩ q) = true
    · rw [if_pos h2]; exact .inl ⟨11, rfl, by decide, hn _⟩
    · rw [if_neg h2]
      by_cases h3 : l.length = 3
      · rw [if_pos h3]; exact .inl ⟨9, rfl, by decide, hn _⟩
      · rw [if_neg h3]
        exact .inr ⟨rfl, hm, hb, may_snoc hm (by rw [fits_zero]; exact hb) (by simpa using h2) h3⟩
/-- What Drain answers. -/
theorem drain_cases (l : List Pl) (out k : Int) : (∃ e, drain l out k = (l, e) ∧ e ≠ 0) ∨ (∃ (m : Nat) (x : Pl), k = m ∧ m < l.length ∧ l[m]? = some x ∧ x.s = 0 ∧ drain l out k = (l.set m { x with s := 1 }, 0) ∧ May l out ∧ May (l.set m { x with s := 1 }) out) := by
  by_cases hs : seek l out k = 0
  · obtain ⟨h1, h2, h3⟩ := seek_ok.1 hs
    have hm := may_iff.1 h1
    obtain ⟨m, rfl⟩ : ∃ m : Nat, k = m := ⟨k.toNat, by omega⟩
    have hml : m < l.length := by omega
    have hx := List.getElem?_eq_getElem hml
    rw [drain_yes hs, at_some hx]
    have hsm := may_small hm (List.mem_of_getElem? hx)
    by_cases h4 : l[m].s = 1
    · rw [if_pos h4]; exact .inl ⟨11, rfl, by decide⟩
    · rw [if_neg h4]
      refine .inr ⟨m, l[m], rfl, hml, hx, by omega, by rw [Int.toNat_natCast], hm, may_set hm ?_ fun q hq => ?_⟩
      · have := fits_iff.1 (may_fits hm hx)
        exact fits_iff.2 ⟨this.1, this.2.1, this.2.2.1, by show (0 : Int) ≤ 1; omega, by show (1 : Int) < 2; omega⟩
      · obtain ⟨i, hi, hq⟩ := drop1 hq
        rw [hit_s]; exact apart_at hm.2.2.2.2 hx hq (Ne.symm hi)
  · exact .inl ⟨_, drain_no hs, hs⟩
/-- What Size answers. -/
theorem size_cases (l : List Pl) (out k n : Int) (busy : List Int) : (∃ e, size l out k n busy = (l, e) ∧ e ≠ 0) ∨ (∃ (m : Nat) (x : Pl), k = m ∧ m < l.length ∧ l[m]? = some x ∧ size l out k n busy = (l.set m { x with n := n }, 0) ∧ (∀ y ∈ busy, has x y = true → has { x with n := n } y = true) ∧ May l out ∧ May (l.set m { x with n := n }) out) := by
  by_cases hs : seek l out k = 0
  · obtain ⟨h1, h2, h3⟩ := seek_ok.1 hs
    have hm := may_iff.1 h1
    obtain ⟨m, rfl⟩ : ∃ m : Nat, k = m := ⟨k.toNat, by omega⟩
    have hml : m < l.length := by omega
    have hx := List.getElem?_eq_getElem hml
    rw [size_yes hs, at_some hx, Int.toNat_natCast]
    by_cases h4 : below { l[m] with n := n } out = false
    · rw [if_pos h4]; exact .inl ⟨1, rfl, by decide⟩
    · rw [if_neg h4]
      by_cases h5 : ((l.eraseIdx m).any fun q => hit { l[m] with n := n } q) = true
      · rw [if_pos h5]; exact .inl ⟨11, rfl, by decide⟩
      · rw [if_neg h5]
        by_cases h6 : loses l[m] { l[m] with n := n } busy = true
        · rw [if_pos h6]; exact .inl ⟨12, rfl, by decide⟩
        · rw [if_neg h6]
          refine .inr ⟨m, l[m], rfl, hml, hx, rfl, fun y hy hyx => ?_, hm, may_set hm ?_ fun q hq => ?_⟩
          · have h7 : loses l[m] { l[m] with n := n } busy = false := by simpa using h6
            have := List.any_eq_false.1 h7 y hy
            rw [hyx] at this
            simpa using this
          · rw [fits_n (may_small hm (List.mem_of_getElem? hx))]; simpa using h4
          · have := List.any_eq_false.1 (by simpa using h5 : ((l.eraseIdx m).any fun q => hit { l[m] with n := n } q) = false) q hq
            simpa using this
  · exact .inl ⟨_, size_no hs, hs⟩
/-- What Gone answers. -/
theorem gone_cases (l : List Pl) (out k : Int) (busy : List Int) : (∃ e, gone l out k busy = (l, e) ∧ e ≠ 0 ∧ (may l out = false → e = 1)) ∨ (∃ (m : Nat) (x : Pl), k = m ∧ m < l.length ∧ l[m]? = some x ∧ x.s = 1 ∧ gone l out k busy = (l.eraseIdx m, 0) ∧ (∀ y ∈ busy, has x y = false) ∧ May l out ∧ May (l.eraseIdx m) out) := by
  by_cases hs : seek l out k = 0
  · obtain ⟨h1, h2, h3⟩ := seek_ok.1 hs
    have hm := may_iff.1 h1
    obtain ⟨m, rfl⟩ : ∃ m : Nat, k = m := ⟨k.toNat, by omega⟩
    have hml : m < l.length := by omega
    have hx := List.getElem?_eq_getElem hml
    rw [gone_yes hs, at_some hx, Int.toNat_natCast]
    have hsm := may_small hm (List.mem_of_getElem? hx)
    by_cases h4 : l[m].s = 0 ∨ loses l[m] zp busy = true
    · rw [if_pos h4]; exact .inl ⟨12, rfl, by decide, fun h => by rw [h1] at h; cases h⟩
    · rw [if_neg h4]
      refine .inr ⟨m, l[m], rfl, hml, hx, by omega, rfl, fun y hy => ?_, hm, may_erase hm m⟩
      have h5 : loses l[m] zp busy = false := by
        have := fun h => h4 (.inr h); simpa using this
      rw [loses_zp] at h5
      have := List.any_eq_false.1 h5 y hy
      simpa using this
  · refine .inl ⟨_, gone_no hs, hs, fun h => ?_⟩
    unfold seek; rw [if_pos h]
theorem may_same {l r : List Pl} {out : Int} (h : May l out) (hr : May r out) : may r out = may l out := by rw [may_iff.2 h, may_iff.2 hr]
theorem add_len (l : List Pl) (out f n : Int) : (add l out f n).1.length ≤ l.length + 1 := by
  rcases add_cases l out f n with ⟨e, h, _⟩ | ⟨h, _⟩ <;> rw [h] <;> simp
theorem drain_len (l : List Pl) (out k : Int) : (drain l out k).1.length = l.length := by
  rcases drain_cases l out k with ⟨e, h, _⟩ | ⟨m, x, _, _, _, _, h, _⟩ <;> rw [h] <;> simp
theorem size_len (l : List Pl) (out k n : Int) (b : List Int) : (size l out k n b).1.length = l.length := by
  rcases size_cases l out k n b with ⟨e, h, _⟩ | ⟨m, x, _, _, _, h, _⟩ <;> rw [h] <;> simp
theorem gone_len (l : List Pl) (out k : Int) (b : List Int) : (gone l out k b).1.length ≤ l.length := by
  rcases gone_cases l out k b with ⟨e, h, _⟩ | ⟨m, x, _, _, _, _, h, _⟩ <;> rw [h]
  · exact Nat.le_refl _
  · exact List.length_eraseIdx_le _ _
theorem add_may (l : List Pl) (out f n : Int) : may (add l out f n).1 out = may l out := by
  rcases add_cases l out f n with ⟨e, h, _⟩ | ⟨h, h1, _, h2⟩ <;> rw [h]
  exact may_same h1 h2
theorem drain_may (l : List Pl) (out k : Int) : may (drain l out k).1 out = may l out := by
  rcases drain_cases l out k with ⟨e, h, _⟩ | ⟨m, x, _, _, _, _, h, h1, h2⟩ <;> rw [h]
  exact may_same h1 h2
theorem size_may (l : List Pl) (out k n : Int) (b : List Int) : may (size l out k n b).1 out = may l out := by
  rcases size_cases l out k n b with ⟨e, h, _⟩ | ⟨m, x, _, _, _, h, _, h1, h2⟩ <;> rw [h]
  exact may_same h1 h2
theorem gone_may (l : List Pl) (out k : Int) (b : List Int) : may (gone l out k b).1 out = may l out := by
  rcases gone_cases l out k b with ⟨e, h, _⟩ | ⟨m, x, _, _, _, _, h, _, h1, h2⟩ <;> rw [h]
  exact may_same h1 h2
theorem sm_of {l r : List Pl} {out : Int} (h : Sm l) (hr : r = l ∨ May r out) : Sm r := by
  rcases hr with rfl | hr
  · exact h
  · exact sm_may hr
theorem add_sm {l : List Pl} (out f n : Int) (h : Sm l) : Sm (add l out f n).1 := by
  rcases add_cases l out f n with ⟨e, h1, _⟩ | ⟨h1, _, _, h2⟩ <;> rw [h1]
  · exact h
  · exact sm_may h2
theorem drain_sm {l : List Pl} (out k : Int) (h : Sm l) : Sm (drain l out k).1 := by
  rcases drain_cases l out k with ⟨e, h1, _⟩ | ⟨m, x, _, _, _, _, h1, _, h2⟩ <;> rw [h1]
  · exact h
  · exact sm_may h2
theorem size_sm {l : List Pl} (out k n : Int) (b : List Int) (h : Sm l) : Sm (size l out k n b).1 := by
  rcases size_cases l out k n b with ⟨e, h1, _⟩ | ⟨m, x, _, _, _, h1, _, _, h2⟩ <;> rw [h1]
  · exact h
  · exact sm_may h2
theorem gone_sm {l : List Pl} (out k : Int) (b : List Int) (h : Sm l) : Sm (gone l out k b).1 := by
  rcases gone_cases l out k b with ⟨e, h1, _⟩ | ⟨m, x, _, _, _, _, h1, _, _, h2⟩ <;> rw [h1]
  · exact h
  · exact sm_may h2

/-- A busy address keeps its pool when one is sized. -/
theorem size_busy {l : List Pl} {out k n at' : Int} {busy : List Int} (hm : May l out) (hb : at' ∈ busy) (hw : 0 ≤ of l at') : 0 ≤ of (size l out k n busy).1 at' ∧ gives (size l out k n busy).1 at' = gives l at' := by
  rcases size_cases l out k n busy with ⟨e, h, _⟩ | ⟨m, x, rfl, hml, hx, h, hl, _, h2⟩ <;> rw [h]
  · exact ⟨hw, rfl⟩
  · rcases of_cases l at' with ⟨h3, _⟩ | ⟨i, p, h3, hi, hp, _⟩
    · rw [h3] at hw; omega
    · by_cases him : i = m
      · subst him
        rw [hx] at hi; cases hi
        have h4 : (l.set i { x with n := n })[i]? = some { x with n := n } := by simp [hml]
        have h5 := hl at' hb hp
        show 0 ≤ of (l.set i { x with n := n }) at' ∧ gives (l.set i { x with n := n }) at' = gives l at'
        rw [of_has h2 h4 h5, gives_at h2 h4 h5, gives_at hm hx hp]
        exact ⟨by omega, rfl⟩
      · have h4 : (l.set m { x with n := n })[i]? = some p := by rw [List.getElem?_set_ne (Ne.symm him)]; exact hi
        show 0 ≤ of (l.set m { x with n := n }) at' ∧ gives (l.set m { x with n := n }) at' = gives l at'
        rw [of_has h2 h4 hp, gives_at h2 h4 hp, gives_at hm hi hp]
        exact ⟨by omega, rfl⟩
theorem gone_busy {l : List Pl} {out k at' : Int} {busy : List Int} (hm : May l out) (hb : at' ∈ busy) (hw : 0 ≤ of l at') : 0 ≤ of (gone l out k busy).1 at' ∧ gives (gone l out k busy).1 at' = gives l at' := by
  rcases gone_cases l out k busy with ⟨e, h, _⟩ | ⟨m, x, rfl, hml, hx, _, h, hl, _, h2⟩ <;> rw [h]
  · exact ⟨hw, rfl⟩
  · rcases of_cases l at' with ⟨h3, _⟩ | ⟨i, p, h3, hi, hp, _⟩
    · rw [h3] at hw; omega
    · have him : i ≠ m := by
        rintro rfl
        rw [hx] at hi; cases hi
        rw [hl at' hb] at hp; cases hp
      obtain ⟨h5, rfl⟩ := List.getElem?_eq_some_iff.1 hi
      obtain ⟨j, hj, hjp⟩ := List.mem_iff_getElem.1 (List.mem_eraseIdx_iff_getElem.2 ⟨i, h5, him, rfl⟩ : l[i] ∈ l.eraseIdx m)
      have h4 : (l.eraseIdx m)[j]? = some l[i] := by rw [List.getElem?_eq_getElem hj, hjp]
      show 0 ≤ of (l.eraseIdx m) at' ∧ gives (l.eraseIdx m) at' = gives l at'
      rw [of_has h2 h4 hp, gives_at h2 h4 hp, gives_at hm hi hp]
      exact ⟨by omega, rfl⟩
theorem gone_was {l : List Pl} {out k at' : Int} {busy : List Int} (hb : at' ∈ busy) (he : (gone l out k busy).2 = 0) : ∃ (m : Nat) (x : Pl), k = m ∧ m < l.length ∧ l[m]? = some x ∧ x.s = 1 ∧ (gone l out k busy).1.length + 1 = l.length ∧ of l at' ≠ m := by
  rcases gone_cases l out k busy with ⟨e, h, h1, _⟩ | ⟨m, x, rfl, hml, hx, hs, h, hl, _, h2⟩
  · rw [h] at he; exact absurd he h1
  · refine ⟨m, x, rfl, hml, hx, hs, by rw [h]; show (l.eraseIdx m).length + 1 = _; rw [List.length_eraseIdx, if_pos hml]; omega, fun h3 => ?_⟩
    rcases of_cases l at' with ⟨h4, _⟩ | ⟨i, p, h4, hi, hp, _⟩
    · rw [h4] at h3; omega
    · rw [h4] at h3
      obtain rfl : i = m := by omega
      rw [hx] at hi; cases hi
      rw [hl at' hb] at hp; cases hp
/-- What is added. -/
theorem add_was {l : List Pl} {out f n at' : Int} (he : (add l out f n).2 = 0) : (add l out f n).1 = l ++ [⟨f, n, 0⟩] ∧ (add (l ++ [⟨f, n, 0⟩]) out f n).2 = 11 ∧
    (f ≤ at' → at' < f + n → gives (l ++ [⟨f, n, 0⟩]) at' = true ∧ of (l ++ [⟨f, n, 0⟩]) at' = l.length) ∧ (¬ (f ≤ at' ∧ at' < f + n) → gives (l ++ [⟨f, n, 0⟩]) at' = gives l at') := by
  rcases add_cases l out f n with ⟨e, h, h1, _⟩ | ⟨h, hm, hb, h2⟩
  · rw [h] at he; exact absurd he h1
  · have hb' := below_iff.1 hb
    have hlast : (l ++ [(⟨f, n, 0⟩ : Pl)])[l.length]? = some ⟨f, n, 0⟩ := by simp
    refine ⟨by rw [h], ?_, fun ha hc => ?_, fun hn => ?_⟩
    · unfold add
      rw [if_neg (by rw [may_iff.2 h2, hb]; simp), if_pos]
      refine List.any_eq_true.2 ⟨⟨f, n, 0⟩, List.mem_append.2 (.inr (List.mem_singleton.2 rfl)), ?_⟩
      refine hit_iff.2 (.inl ((has_in hb hm.2.1).2 ⟨Int.le_refl _, ?_⟩))
      have := hb'.2.1
      show f < f + n
      show f < f + n
      have h9 : (1 : Int) ≤ n := this
      omega
    · have hp : has ⟨f, n, 0⟩ at' = true := (has_in hb hm.2.1).2 ⟨ha, hc⟩
      exact ⟨by rw [gives_at h2 hlast hp]; rfl, of_has h2 hlast hp⟩
    · have hp : has ⟨f, n, 0⟩ at' = false := by
        rw [Bool.eq_false_iff]; intro h3; exact hn ((has_in hb hm.2.1).1 h3)
      rcases of_cases l at' with ⟨_, h4⟩ | ⟨i, p, h4, hi, hpp, _⟩
      · rw [gives_none h4, gives_none]
        intro q hq
        rcases List.mem_append.1 hq with hq | hq
        · exact h4 q hq
        · rw [List.mem_singleton.1 hq]; exact hp
      · have hi2 : (l ++ [(⟨f, n, 0⟩ : Pl)])[i]? = some p := by rw [List.getElem?_append_left (List.getElem?_eq_some_iff.1 hi).1]; exact hi
        rw [gives_at hm hi hpp, gives_at h2 hi2 hpp]
/-- What drains. -/
theorem drain_was {l : List Pl} {out k n at' : Int} {busy : List Int} (he : (drain l out k).2 = 0) : ∃ (m : Nat) (a b : List Pl) (e : Int) (y : Pl), k = m ∧ m < l.length ∧ (drain l out k).1 = a ∧ a.length = l.length ∧ size a out k n busy = (b, e) ∧ b.length = l.length ∧ b[m]? = some y ∧ y.s = 1 ∧ (drain a out k).2 = 11 ∧ (of b at' = m → gives b at' = false) ∧ (gone l out k busy).2 = 12 := by
  rcases drain_cases l out k with ⟨e, h, h1⟩ | ⟨m, x, rfl, hml, hx, hs, h, hm, h2⟩
  · rw [h] at he; exact absurd he h1
  · have hat : (l.set m { x with s := 1 })[m]? = some { x with s := 1 } := by simp [hml]
    have hseek : seek (l.set m { x with s := 1 }) out m = 0 := seek_ok.2 ⟨may_iff.2 h2, by omega, by rw [List.length_set]; omega⟩
    have hseek0 : seek l out m = 0 := seek_ok.2 ⟨may_iff.2 hm, by omega, by omega⟩
    have hb : ∃ (b : List Pl) (e : Int) (y : Pl), size (l.set m { x with s := 1 }) out m n busy = (b, e) ∧ b.length = l.length ∧ b[m]? = some y ∧ y.s = 1 := by
      rcases size_cases (l.set m { x with s := 1 }) out m n busy with ⟨e, h3, _⟩ | ⟨m', x', hmm, hml', hx', h3, _⟩
      · exact ⟨_, e, _, h3, by simp, hat, rfl⟩
      · obtain rfl : m = m' := by omega
        rw [hat] at hx'; cases hx'
        exact ⟨_, 0, { x with n := n, s := 1 }, h3, by simp, by simp [hml], rfl⟩
    obtain ⟨b, e, y, hb1, hb2, hb3, hb4⟩ := hb
    refine ⟨m, _, b, e, y, rfl, hml, by rw [h], by simp, hb1, hb2, hb3, hb4, ?_, fun h5 => ?_, ?_⟩
    · rw [drain_yes hseek, at_some hat, if_pos rfl]
    · unfold gives; rw [h5, at_some hb3, hb4]; simp
    · rw [gone_yes hseek0, at_some hx, if_pos (.inl hs)]
/-- What is sized. -/
theorem size_was {l : List Pl} {out k n : Int} (he : (size l out k n []).2 = 0) : ∃ (m : Nat) (x : Pl), k = m ∧ m < l.length ∧ l[m]? = some x ∧ (size l out k n []).1 = l.set m { x with n := n } ∧ size (l.set m { x with n := n }) out k x.n [] = (l, 0) := by
  rcases size_cases l out k n [] with ⟨e, h, h1⟩ | ⟨m, x, rfl, hml, hx, h, _, hm, h2⟩
  · rw [h] at he; exact absurd he h1
  · refine ⟨m, x, rfl, hml, hx, by rw [h], ?_⟩
    have hat : (l.set m { x with n := n })[m]? = some { x with n := n } := by simp [hml]
    have hseek : seek (l.set m { x with n := n }) out m = 0 := seek_ok.2 ⟨may_iff.2 h2, by omega, by rw [List.length_set]; omega⟩
    have hb : below x out = true := may_below hm hx
    rw [size_yes hseek, at_some hat, Int.toNat_natCast]
    show (if below { x with n := x.n } out = false then _ else _) = _
    have hxx : ({ x with n := x.n } : Pl) = x := rfl
    rw [if_neg (by rw [hxx, hb]; decide), if_neg, if_neg]
    · rw [List.set_set]
      have h5 : l.set m x = l := by
        obtain ⟨h6, rfl⟩ := List.getElem?_eq_some_iff.1 hx
        exact List.set_getElem_self h6
      show (l.set m { x with n := x.n }, (0 : Int)) = _
      rw [hxx, h5]
    · simp [loses]
    · have he : (l.set m { x with n := n }).eraseIdx m = l.eraseIdx m := by
        rw [List.eraseIdx_set_eq]
      rw [he]
      show ¬ ((l.eraseIdx m).any fun q => hit { x with n := x.n } q) = true
      rw [hxx]
      intro h7
      obtain ⟨q, hq, h8⟩ := List.any_eq_true.1 h7
      obtain ⟨i, hi, hq⟩ := drop1 hq
      rw [apart_at hm.2.2.2.2 hx hq (Ne.symm hi)] at h8
      cases h8
end O
end Go.Proofs.Ytejckbnapcdhpaa
