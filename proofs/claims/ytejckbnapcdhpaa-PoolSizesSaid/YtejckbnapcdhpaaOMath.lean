/-
  Pools of public addresses: has, below, fits, hit, meet; May, of, gives; add, drain, size, gone.
-/
namespace Go.Proofs.Ytejckbnapcdhpaa
namespace O
structure Pl where
  f : Int
  n : Int
  s : Int
deriving DecidableEq
def zp : Pl := ⟨0, 0, 0⟩
def has (p : Pl) (x : Int) : Bool := decide (0 ≤ p.f ∧ p.f ≤ 4 ∧ 1 ≤ p.n ∧ p.n ≤ 4 ∧ p.f ≤ x ∧ x < p.f + p.n)
def below (p : Pl) (out : Int) : Bool := decide (0 ≤ p.f ∧ 1 ≤ p.n ∧ p.n ≤ out - p.f)
def fits (p : Pl) (out : Int) : Bool := decide (0 ≤ p.f ∧ 1 ≤ p.n ∧ p.n ≤ out - p.f ∧ 0 ≤ p.s ∧ p.s < 2)
def hit (p q : Pl) : Bool := has p q.f || has q p.f
def meet (p q : Pl) : Bool := (List.range 8).any fun i => has p i && has q i
theorem has_iff {p : Pl} {x : Int} : has p x = true ↔ 0 ≤ p.f ∧ p.f ≤ 4 ∧ 1 ≤ p.n ∧ p.n ≤ 4 ∧ p.f ≤ x ∧ x < p.f + p.n := by simp [has]
theorem below_iff {p : Pl} {out : Int} : below p out = true ↔ 0 ≤ p.f ∧ 1 ≤ p.n ∧ p.n ≤ out - p.f := by simp [below]
theorem fits_iff {p : Pl} {out : Int} : fits p out = true ↔ 0 ≤ p.f ∧ 1 ≤ p.n ∧ p.n ≤ out - p.f ∧ 0 ≤ p.s ∧ p.s < 2 := by simp [fits]
theorem hit_iff {p q : Pl} : hit p q = true ↔ has p q.f = true ∨ has q p.f = true := by simp [hit]
theorem hit_comm (p q : Pl) : hit p q = hit q p := by unfold hit; rw [Bool.or_comm]
theorem has_in {p : Pl} {out x : Int} (h : below p out = true) (ho : out ≤ 4) : has p x = true ↔ p.f ≤ x ∧ x < p.f + p.n := by
  rw [below_iff] at h; rw [has_iff]; omega
theorem fits_below {p : Pl} {out : Int} (h : fits p out = true) : below p out = true := by rw [fits_iff] at h; rw [below_iff]; omega
/-- Two that have an address alike. -/
theorem hit_ex {p q : Pl} {out : Int} (hp : below p out = true) (hq : below q out = true) (ho : out ≤ 4) : hit p q = true ↔ ∃ x, has p x = true ∧ has q x = true := by
  have h1 := below_iff.1 hp
  have h2 := below_iff.1 hq
  rw [hit_iff]
  constructor
  · rintro (h | h)
    · exact ⟨q.f, h, (has_in hq ho).2 ⟨by omega, by omega⟩⟩
    · exact ⟨p.f, (has_in hp ho).2 ⟨by omega, by omega⟩, h⟩
  · rintro ⟨x, a, b⟩
    rw [has_in hp ho] at a ⊢
    rw [has_in hq ho] at b ⊢
    omega
theorem meet_hit {p q : Pl} {out : Int} (hp : below p out = true) (hq : below q out = true) (ho : out ≤ 4) : meet p q = hit p q := by
  rw [Bool.eq_iff_iff, hit_ex hp hq ho]
  unfold meet
  rw [List.any_eq_true]
  constructor
  · rintro ⟨i, _, h⟩
    rw [Bool.and_eq_true] at h
    exact ⟨i, h⟩
  · rintro ⟨x, a, b⟩
    have h1 := has_iff.1 a
    refine ⟨x.toNat, List.mem_range.2 (by omega), ?_⟩
    rw [Bool.and_eq_true, Int.toNat_of_nonneg (by omega)]
    exact ⟨a, b⟩

/-- Pools may be. -/
def May (l : List Pl) (out : Int) : Prop := 0 ≤ out ∧ out ≤ 4 ∧ l.length ≤ 3 ∧ (∀ p ∈ l, fits p out = true) ∧ l.Pairwise (fun q p => hit p q = false)
instance (l : List Pl) (out : Int) : Decidable (May l out) := by unfold May; exact inferInstance
def may (l : List Pl) (out : Int) : Bool := decide (May l out)
theorem may_iff {l : List Pl} {out : Int} : may l out = true ↔ May l out := by simp [may]
theorem may_no {l : List Pl} {out : Int} (h : ¬ May l out) : may l out = false := by simpa [may] using h
def of (l : List Pl) (x : Int) : Int := match l.findIdx? (fun p => has p x) with | some i => (i : Int) | none => -1
def at' (l : List Pl) (k : Int) : Pl := l.getD k.toNat zp
def gives (l : List Pl) (x : Int) : Bool := decide (0 ≤ of l x ∧ (at' l (of l x)).s = 0)
theorem of_none {l : List Pl} {x : Int} (h : ∀ p ∈ l, has p x = false) : of l x = -1 := by
  unfold of
  rw [List.findIdx?_eq_none_iff.2 (fun p hp => by rw [h p hp])]
theorem of_some {l : List Pl} {x : Int} {i : Nat} {p : Pl} (hi : l[i]? = some p) (hp : has p x = true) (hb : ∀ q ∈ l.take i, has q x = false) : of l x = i := by
  unfold of
  obtain ⟨h0, h1⟩ := List.getElem?_eq_some_iff.1 hi
  rw [List.findIdx?_eq_some_iff_getElem.2 ⟨h0, by rw [h1]; exact hp, fun j hj => by
    rw [hb (l[j]'(by omega)) (List.mem_take_iff_getElem.2 ⟨j, by omega, rfl⟩)]; decide⟩]
theorem of_cases (l : List Pl) (x : Int) : (of l x = -1 ∧ ∀ p ∈ l, has p x = false) ∨ ∃ (i : Nat) (p : Pl), of l x = i ∧ l[i]? = some p ∧ has p x = true ∧ ∀ q ∈ l.take i, has q x = false := by
  by_cases h : ∀ p ∈ l, has p x = false
  · exact .inl ⟨of_none h, h⟩
  · right
    have h2 : l.findIdx? (fun p => has p x) ≠ none := fun e => h (fun p hp => by simpa using List.findIdx?_eq_none_iff.1 e p hp)
    obtain ⟨i, hi⟩ := Option.ne_none_iff_exists'.1 h2
    obtain ⟨h3, h4, h5⟩ := List.findIdx?_eq_some_iff_getElem.1 hi
    refine ⟨i, l[i], by unfold of; rw [hi], List.getElem?_eq_getElem h3, h4, fun q hq => ?_⟩
    obtain ⟨j, hj, rfl⟩ := List.mem_take_iff_getElem.1 hq
    have := h5 j (by omega)
    simpa using this
theorem of_at {l : List Pl} {x : Int} {i : Nat} {p : Pl} (h : of l x = i) (hi : l[i]? = some p) : at' l (of l x) = p := by
  rw [h]; unfold at'; rw [Int.toNat_natCast, List.getD_eq_getElem?_getD, hi]; rfl
theorem at_some {l : List Pl} {k : Nat} {p : Pl} (h : l[k]? = some p) : at' l k = p := by
  unfold at'; rw [Int.toNat_natCast, List.getD_eq_getElem?_getD, h]; rfl

def loses (was will : Pl) (busy : List Int) : Bool := busy.any fun x => has was x && !has will x
def add (l : List Pl) (out f n : Int) : List Pl × Int :=
  if may l out = false ∨ below ⟨f, n, 0⟩ out = false then (l, 1)
  else if l.any (fun q => hit ⟨f, n, 0⟩ q) = true then (l, 11)
  else if l.length = 3 then (l, 9) else (l ++ [⟨f, n, 0⟩], 0)
def drain (l : List Pl) (out k : Int) : List Pl × Int :=
  if may l out = false then (l, 1)
  else if k < 0 ∨ (l.length : Int) ≤ k then (l, 5)
  else if (at' l k).s = 1 then (l, 11) else (l.set k.toNat { at' l k with s := 1 }, 0)
def size (l : List Pl) (out k n : Int) (busy : List Int) : List Pl × Int :=
  if may l out = false then (l, 1)
  else if k < 0 ∨ (l.length : Int) ≤ k then (l, 5)
  else if below { at' l k with n := n } out = false then (l, 1)
  else if (l.eraseIdx k.toNat).any (fun q => hit { at' l k with n := n } q) = true then (l, 11)
  else if loses (at' l k) { at' l k with n := n } busy = true then (l, 12)
  else (l.set k.toNat { at' l k with n := n }, 0)
def gone (l : List Pl) (out k : Int) (busy : List Int) : List Pl × Int :=
  if may l out = false then (l, 1)
  else if k < 0 ∨ (l.length : Int) ≤ k then (l, 5)
  else if (at' l k).s = 0 ∨ loses (at' l k) zp busy = true then (l, 12)
  else (l.eraseIdx k.toNat, 0)
end O
end Go.Proofs.Ytejckbnapcdhpaa
