/-
  The mathematics of files and disks: what may be, where a file stands, what is done.
-/
namespace Go.Proofs.Ytcabhibbajkpkaa
namespace D
/-- A file: its number, its bytes, how many are sure. -/
abbrev F := Int × List Int × Int
abbrev T := Int × List F
def used (l : List F) : Nat := (l.map (fun f => f.2.1.length)).sum
def fine (f : F) : Prop := 1 ≤ f.1 ∧ f.1 ≤ 1073741824 ∧ 0 ≤ f.2.2 ∧ f.2.2 ≤ (f.2.1.length : Int)
instance (f : F) : Decidable (fine f) := inferInstanceAs (Decidable (_ ∧ _ ∧ _ ∧ _))
def sorted (l : List F) : Prop := l.Pairwise (fun f g => f.1 < g.1)
instance (l : List F) : Decidable (sorted l) := inferInstanceAs (Decidable (List.Pairwise _ l))
def may (d : T) : Prop := (0 ≤ d.1 ∧ d.1 ≤ 65536 ∧ d.2.length ≤ 12) ∧ (∀ f ∈ d.2, fine f) ∧ sorted d.2 ∧ (used d.2 : Int) ≤ d.1
instance (d : T) : Decidable (may d) := inferInstanceAs (Decidable (_ ∧ _ ∧ _ ∧ _))
/-- Few and short enough that nothing wraps around. -/
def small (l : List F) : Prop := l.length ≤ 14 ∧ ∀ f ∈ l, f.2.1.length ≤ 70000

theorem used_nil : used [] = 0 := rfl
theorem used_cons (f : F) (l : List F) : used (f :: l) = f.2.1.length + used l := by simp [used]
theorem used_append (l m : List F) : used (l ++ m) = used l + used m := by simp [used]
theorem used_small : ∀ (l : List F), (∀ f ∈ l, f.2.1.length ≤ 70000) → used l ≤ l.length * 70000
  | [], _ => by simp [used]
  | f :: l, h => by
    have h1 := used_small l (fun g hg => h g (by simp [hg]))
    have h2 := h f (by simp)
    rw [used_cons]
    simp only [List.length_cons]
    omega

/-- The program's way: number by number, with the number ahead and the room that is left. -/
def chk : Int → Int → List F → Bool
  | _, _, [] => true
  | a, r, f :: l => decide (1 ≤ f.1 ∧ f.1 ≤ 1073741824 ∧ a < f.1 ∧ 0 ≤ f.2.2 ∧ f.2.2 ≤ (f.2.1.length : Int) ∧ (f.2.1.length : Int) ≤ r) && chk f.1 (r - f.2.1.length) l
/-- The document's way: without the room. -/
def row : Int → List F → Bool
  | _, [] => true
  | a, f :: l => decide (1 ≤ f.1 ∧ f.1 ≤ 1073741824 ∧ a < f.1 ∧ 0 ≤ f.2.2 ∧ f.2.2 ≤ (f.2.1.length : Int)) && row f.1 l

theorem row_iff : ∀ (l : List F) (a : Int), row a l = true ↔ (∀ f ∈ l, fine f ∧ a < f.1) ∧ sorted l
  | [], a => by simp [row, sorted]
  | f :: l, a => by
    rw [row, Bool.and_eq_true, decide_eq_true_iff, row_iff l f.1]
    constructor
    · rintro ⟨h1, h2, h3⟩
      refine ⟨?_, List.pairwise_cons.2 ⟨fun g hg => (h2 g hg).2, h3⟩⟩
      intro g hg
      rcases List.mem_cons.1 hg with rfl | hg
      · exact ⟨⟨h1.1, h1.2.1, h1.2.2.2.1, h1.2.2.2.2⟩, h1.2.2.1⟩
      · exact ⟨(h2 g hg).1, Int.lt_trans h1.2.2.1 (h2 g hg).2⟩
    · rintro ⟨h1, h2⟩
      have h3 := List.pairwise_cons.1 h2
      have h4 := h1 f (by simp)
      exact ⟨⟨h4.1.1, h4.1.2.1, h4.2, h4.1.2.2.1, h4.1.2.2.2⟩, fun g hg => ⟨(h1 g (by simp [hg])).1, h3.1 g hg⟩, h3.2⟩

theorem chk_row : ∀ (l : List F) (a r : Int), 0 ≤ r → chk a r l = (row a l && decide ((used l : Int) ≤ r))
  | [], a, r, h => by simp [chk, row, used, h]
  | f :: l, a, r, h => by
    rw [chk, row, used_cons]
    by_cases hr : (f.2.1.length : Int) ≤ r
    · rw [chk_row l f.1 (r - f.2.1.length) (by omega)]
      have e1 : decide ((used l : Int) ≤ r - f.2.1.length) = decide (((f.2.1.length + used l : Nat) : Int) ≤ r) := by
        rw [Bool.eq_iff_iff, decide_eq_true_iff, decide_eq_true_iff]; omega
      rw [e1, ← Bool.and_assoc]
      congr 2
      rw [Bool.eq_iff_iff, decide_eq_true_iff, decide_eq_true_iff]
      exact ⟨fun h => ⟨h.1, h.2.1, h.2.2.1, h.2.2.2.1, h.2.2.2.2.1⟩, fun h => ⟨h.1, h.2.1, h.2.2.1, h.2.2.2.1, h.2.2.2.2, hr⟩⟩
    · have e1 : decide (((f.2.1.length + used l : Nat) : Int) ≤ r) = false := decide_eq_false (by omega)
      have e2 : decide (1 ≤ f.1 ∧ f.1 ≤ 1073741824 ∧ a < f.1 ∧ 0 ≤ f.2.2 ∧ f.2.2 ≤ (f.2.1.length : Int) ∧ (f.2.1.length : Int) ≤ r) = false := decide_eq_false (by omega)
      rw [e1, e2]; simp

theorem row_zero (l : List F) : row 0 l = true ↔ (∀ f ∈ l, fine f) ∧ sorted l := by
  rw [row_iff]
  exact ⟨fun h => ⟨fun f hf => (h.1 f hf).1, h.2⟩, fun h => ⟨fun f hf => ⟨h.1 f hf, by have := (h.1 f hf).1; omega⟩, h.2⟩⟩
theorem may_row (d : T) : may d ↔ (0 ≤ d.1 ∧ d.1 ≤ 65536 ∧ d.2.length ≤ 12) ∧ row 0 d.2 = true ∧ (used d.2 : Int) ≤ d.1 := by
  unfold may
  rw [row_zero]
  simp only [and_assoc]
theorem may_chk (d : T) : may d ↔ (0 ≤ d.1 ∧ d.1 ≤ 65536 ∧ d.2.length ≤ 12) ∧ chk 0 d.1 d.2 = true := by
  rw [may_row]
  constructor
  · rintro ⟨h1, h2, h3⟩
    exact ⟨h1, by rw [chk_row _ _ _ h1.1, h2]; simp [h3]⟩
  · rintro ⟨h1, h2⟩
    rw [chk_row _ _ _ h1.1, Bool.and_eq_true, decide_eq_true_iff] at h2
    exact ⟨h1, h2.1, h2.2⟩

def nof : F := (0, [], 0)
/-- Where the file of a number stands. -/
def idx (l : List F) (no : Int) : Option Nat := l.findIdx? (fun f => decide (f.1 = no))
def find (d : T) (no : Int) : Int := if may d then (match idx d.2 no with | some i => (i : Int) | none => -1) else -1
theorem idx_some {l : List F} {no : Int} {i : Nat} (h : idx l no = some i) : i < l.length ∧ (l.getD i nof).1 = no := by
  unfold idx at h
  rw [List.findIdx?_eq_some_iff_getElem] at h
  obtain ⟨h1, h2, _⟩ := h
  exact ⟨h1, by simpa [List.getD_eq_getElem?_getD, h1] using h2⟩
theorem idx_none {l : List F} {no : Int} (h : idx l no = none) : ∀ f ∈ l, f.1 ≠ no := by
  unfold idx at h
  rw [List.findIdx?_eq_none_iff] at h
  intro f hf
  simpa using h f hf
/-- Where the halves meet. -/
def isPlace (l : List F) (no : Int) (p : Nat) : Prop := p ≤ l.length ∧ (∀ k, k < p → (l.getD k nof).1 < no) ∧ (∀ k, p ≤ k → k < l.length → no ≤ (l.getD k nof).1)
theorem getD_lt {l : List F} {k : Nat} (h : k < l.length) : l.getD k nof = l[k] := by simp [h]
theorem sorted_lt {l : List F} (h : sorted l) {i j : Nat} (hij : i < j) (hj : j < l.length) : (l.getD i nof).1 < (l.getD j nof).1 := by
  rw [getD_lt (by omega), getD_lt hj]
  exact List.pairwise_iff_getElem.1 h i j (by omega) hj hij
theorem idx_place {l : List F} {no : Int} {p : Nat} (hs : sorted l) (h : isPlace l no p) : idx l no = if p < l.length ∧ (l.getD p nof).1 = no then some p else none := by
  split
  · rename_i hp
    unfold idx
    rw [List.findIdx?_eq_some_iff_getElem]
    refine ⟨hp.1, by have := hp.2; rw [getD_lt hp.1] at this; simpa using this, fun j hj => ?_⟩
    have := h.2.1 j hj
    rw [getD_lt (by omega)] at this
    simp; omega
  · rename_i hp
    unfold idx
    rw [List.findIdx?_eq_none_iff]
    intro f hf
    obtain ⟨k, hk, rfl⟩ := List.mem_iff_getElem.1 hf
    simp only [decide_eq_false_iff_not]
    intro he
    rw [← getD_lt hk] at he
    by_cases h1 : k < p
    · have := h.2.1 k h1; omega
    · by_cases h2 : k = p
      · subst h2; exact hp ⟨hk, he⟩
      · have h3 := sorted_lt hs (show p < k by omega) hk
        have h4 := h.2.2 p (Nat.le_refl _) (by omega)
        omega
theorem take_place {l : List F} {no : Int} {p : Nat} (h : isPlace l no p) (hn : idx l no = none) : l.filter (fun f => decide (f.1 < no)) = l.take p ∧ l.filter (fun f => decide (no < f.1)) = l.drop p := by
  have h1 : ∀ f ∈ l.take p, f.1 < no := fun f hf => by
    obtain ⟨k, hk, rfl⟩ := List.mem_iff_getElem.1 hf
    have hk' : k < p ∧ k < l.length := by simp at hk; omega
    have := h.2.1 k hk'.1
    rw [getD_lt hk'.2] at this
    simpa [List.getElem_take] using this
  have h2 : ∀ f ∈ l.drop p, no < f.1 := fun f hf => by
    have hne := idx_none hn f (List.mem_of_mem_drop hf)
    obtain ⟨k, hk, rfl⟩ := List.mem_iff_getElem.1 hf
    have hk' : p + k < l.length := by simp at hk; omega
    have := h.2.2 (p + k) (by omega) hk'
    rw [getD_lt hk'] at this
    simp only [List.getElem_drop] at hne ⊢
    omega
  constructor
  · conv => lhs; rw [← List.take_append_drop p l]
    rw [List.filter_append, List.filter_eq_self.2 (fun f hf => by simpa using h1 f hf), List.filter_eq_nil_iff.2 (fun f hf => by have := h2 f hf; simp; omega)]
    simp
  · conv => lhs; rw [← List.take_append_drop p l]
    rw [List.filter_append, List.filter_eq_nil_iff.2 (fun f hf => by have := h1 f hf; simp; omega), List.filter_eq_self.2 (fun f hf => by simpa using h2 f hf)]
    simp

/-- What is done to a file of a number, or why not. -/
def upd (d : T) (no : Int) (g : F → Int × F) : T × Int :=
  if may d then (match idx d.2 no with
    | none => (d, 5)
    | some i => if (g (d.2.getD i nof)).1 = 0 then ((d.1, d.2.set i (g (d.2.getD i nof)).2), 0) else (d, (g (d.2.getD i nof)).1))
  else (d, 1)
theorem upd_ok {d : T} {no : Int} {g : F → Int × F} {j : Nat} {f y : F} (hm : may d) (hj : idx d.2 no = some j) (hf : d.2.getD j nof = f) (hg : g f = (0, y)) : upd d no g = ((d.1, d.2.set j y), 0) := by
  unfold upd
  rw [if_pos hm, hj]
  simp only [hf, hg]
  rfl
theorem upd_err {d : T} {no : Int} {g : F → Int × F} {j : Nat} {f y : F} {e : Int} (hm : may d) (hj : idx d.2 no = some j) (hf : d.2.getD j nof = f) (hg : g f = (e, y)) (he : e ≠ 0) : upd d no g = (d, e) := by
  unfold upd
  rw [if_pos hm, hj]
  simp only [hf, hg]
  rw [if_neg he]
def write (d : T) (no : Int) (b : List Int) : T × Int := upd d no fun f => if d.1 < ((used d.2 + b.length : Nat) : Int) then (9, f) else (0, f.1, f.2.1 ++ b, f.2.2)
def sync (d : T) (no : Int) : T × Int := upd d no fun f => (0, f.1, f.2.1, (f.2.1.length : Int))
def cut (d : T) (no n : Int) : T × Int := upd d no fun f => if n < 0 ∨ (f.2.1.length : Int) < n then (1, f) else (0, f.1, f.2.1.take n.toNat, n)
def drop (d : T) (no : Int) : T × Int :=
  if may d then (match idx d.2 no with | none => (d, 5) | some i => ((d.1, d.2.take i ++ d.2.drop (i + 1)), 0)) else (d, 1)
def make (d : T) (no : Int) : T × Int :=
  if may d ∧ 1 ≤ no ∧ no ≤ 1073741824 then
    (if (idx d.2 no).isSome then (d, 11) else if d.2.length = 12 then (d, 9) else ((d.1, d.2.filter (fun f => decide (f.1 < no)) ++ (no, [], 0) :: d.2.filter (fun f => decide (no < f.1))), 0))
  else (d, 1)
def tear (c : Int) : Int := ((c.toNat ^^^ 165 : Nat) : Int)
/-- Bytes of which the last ones, from a place on, are torn. -/
def torn (b : List Int) (from_ : Nat) : List Int := b.mapIdx fun i c => if from_ ≤ i ∧ b.length ≤ i + 8 then tear c else c
/-- How many of the bytes that are not sure are kept. -/
def kept (keep : Int) (loose : Nat) : Nat := if keep < 0 then 0 else if (loose : Int) < keep then loose else keep.toNat
def left (f : F) (keep : Int) : List Int := f.2.1.take (f.2.2.toNat + kept keep (f.2.1.length - f.2.2.toNat))
def after (f : F) (keep tearing : Int) : F := (f.1, (if tearing % 2 = 0 then left f keep else torn (left f keep) f.2.2.toNat), ((left f keep).length : Int))
def crashed : List F → List Int → List F
  | [], _ => []
  | f :: l, ps => if f.2.2 = (f.2.1.length : Int) then f :: crashed l ps else after f (ps.getD 0 0) (ps.getD 1 0) :: crashed l (ps.drop 2)
def crash (d : T) (ps : List Int) : T := if may d then (d.1, crashed d.2 ps) else d
/-- What is done: 0 Make, 1 Write, 2 Sync, 3 Cut, 4 Drop, else Crash. -/
def op (k no n : Int) (b ps : List Int) (d : T) : T × Int :=
  if k = 0 then make d no else if k = 1 then write d no b else if k = 2 then sync d no else if k = 3 then cut d no n else if k = 4 then drop d no else (crash d ps, 0)
end D
end Go.Proofs.Ytcabhibbajkpkaa
