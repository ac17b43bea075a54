/-
  The plain mathematics of a list's bytes: what bytes tell a list is the list whose bytes they are; it is one alone.
-/
import Derived.Test.YtebiogadkamgcaaVAllM
namespace Go.Proofs.Ytebiogadkamgcaa
open Go.RowKit

/-- A number: from 0 to 2^40. -/
def M.isn (n : Int) : Prop := 0 ≤ n ∧ n ≤ 1099511627776

theorem head_put {n : Int} (h : M.isn n) (r : List Int) : M.head (M.put n ++ r) = some (n, (M.put n).length) := by
  rw [M.put_yes h.1 h.2]
  have h1 := h.1; have h2 := h.2
  have := M.dig_puts 6 n.toNat true 0 1 r (by omega) (by omega) (by omega) (by omega) (by simp) (by omega)
  rw [M.head, this]
  congr 2
  omega

theorem put_pos {n : Int} (h : M.isn n) : 0 < (M.put n).length := (M.put_pos_iff n).2 h

/-- The bytes of a list, and others behind them, being the bytes of another list: that one begins with the first one. -/
theorem flat_prefix : ∀ (l k : List Int) (r : List Int), (∀ n ∈ l, M.isn n) → (∀ n ∈ k, M.isn n) → l.flatMap M.put ++ r = k.flatMap M.put → ∃ t, k = l ++ t ∧ r = t.flatMap M.put
  | [], k, r, _, _, h => ⟨k, rfl, by simpa using h⟩
  | n :: l, [], r, hl, _, h => by
    have := put_pos (hl n (by simp))
    have h' := congrArg List.length h
    simp only [List.flatMap_cons, List.flatMap_nil, List.length_append, List.length_nil] at h'; omega
  | n :: l, m :: k, r, hl, hk, h => by
    have hn := hl n (by simp)
    have hm := hk m (by simp)
    simp only [List.flatMap_cons, List.append_assoc] at h
    have e1 := head_put hn (l.flatMap M.put ++ r)
    rw [h, head_put hm] at e1
    simp at e1
    obtain ⟨rfl, _⟩ := e1
    obtain ⟨t, rfl, ht⟩ := flat_prefix l k r (fun x hx => hl x (by simp [hx])) (fun x hx => hk x (by simp [hx])) (List.append_cancel_left h)
    exact ⟨t, rfl, ht⟩

theorem flat_inj {l k : List Int} (hl : ∀ n ∈ l, M.isn n) (hk : ∀ n ∈ k, M.isn n) (h : l.flatMap M.put = k.flatMap M.put) : l = k := by
  obtain ⟨t, rfl, ht⟩ := flat_prefix l k [] hl hk (by simpa using h)
  cases t with
  | nil => simp
  | cons n t =>
    have := put_pos (hk n (by simp))
    have h' := congrArg List.length ht
    simp only [List.flatMap_cons, List.length_append, List.length_nil] at h'; omega

theorem all_some {l b : List Int} : M.all l = some b ↔ (l.length ≤ 400 ∧ (∀ n ∈ l, M.isn n) ∧ b = l.flatMap M.put) := by
  unfold M.all
  constructor
  · intro h
    split at h
    · next hh => exact ⟨hh.1, hh.2, by simpa using h.symm⟩
    · cases h
  · rintro ⟨h1, h2, rfl⟩
    rw [if_pos ⟨h1, h2⟩]

theorem all_inj {l k b : List Int} (h : M.all l = some b) (h' : M.all k = some b) : l = k := by
  obtain ⟨_, h2, h3⟩ := all_some.1 h
  obtain ⟨_, k2, k3⟩ := all_some.1 h'
  exact flat_inj h2 k2 (h3.symm.trans k3)

open Classical in
/-- The list whose bytes are told, or none. -/
noncomputable def M.read (b : List Int) : Option (List Int) := if h : ∃ l, M.all l = some b then some (Classical.choose h) else none

theorem read_some {l b : List Int} : M.read b = some l ↔ M.all l = some b := by
  unfold M.read
  constructor
  · intro h
    split at h
    · next hh => have e : Classical.choose hh = l := by simpa using h
                 rw [← e]; exact Classical.choose_spec hh
    · cases h
  · intro h
    have hh : ∃ l, M.all l = some b := ⟨l, h⟩
    rw [dif_pos hh]
    congr 1
    exact all_inj (Classical.choose_spec hh) h

theorem read_none {b : List Int} (h : ∀ l, M.all l ≠ some b) : M.read b = none := by
  cases hr : M.read b with
  | none => rfl
  | some l => exact absurd (read_some.1 hr) (h l)

/-- How far bytes have been read: the numbers l, up to the place p. -/
def Part (b l : List Int) (p : Nat) : Prop := p ≤ b.length ∧ (∀ n ∈ l, M.isn n) ∧ b.take p = l.flatMap M.put

theorem Part.start (b : List Int) : Part b [] 0 := ⟨by omega, by simp, by simp⟩

theorem Part.stops {b l k : List Int} {p : Nat} (h : Part b l p) (hp : p < b.length) (hk : M.all k = some b) : ∃ n t, k = l ++ n :: t ∧ M.isn n ∧ M.head (b.drop p) = some (n, (M.put n).length) := by
  obtain ⟨_, h2, h3⟩ := h
  obtain ⟨_, k2, k3⟩ := all_some.1 hk
  have e : l.flatMap M.put ++ b.drop p = k.flatMap M.put := by rw [← h3, List.take_append_drop, k3]
  obtain ⟨t, rfl, ht⟩ := flat_prefix l k _ h2 k2 e
  cases t with
  | nil => have := congrArg List.length ht; simp at this; omega
  | cons n t => exact ⟨n, t, rfl, k2 n (by simp), by rw [ht, List.flatMap_cons]; exact head_put (k2 n (by simp)) _⟩

theorem Part.fail {b l : List Int} {p : Nat} (h : Part b l p) (hp : p < b.length) (hh : M.head (b.drop p) = none) : M.read b = none :=
  read_none fun k hk => by
    obtain ⟨n, t, _, _, e⟩ := h.stops hp hk
    rw [hh] at e; cases e

theorem Part.full {b l : List Int} {p : Nat} (h : Part b l p) (hp : p < b.length) (hl : l.length = 400) : M.read b = none :=
  read_none fun k hk => by
    obtain ⟨n, t, rfl, _, _⟩ := h.stops hp hk
    have := (all_some.1 hk).1
    simp at this; omega

theorem Part.done {b l : List Int} {p : Nat} (h : Part b l p) (hp : b.length ≤ p) (hl : l.length ≤ 400) : M.read b = some l := by
  refine read_some.2 (all_some.2 ⟨hl, h.2.1, ?_⟩)
  rw [← h.2.2, List.take_of_length_le hp]

theorem head_sound {b : List Int} {n : Int} {e : Nat} (hb : ∀ c ∈ b, 0 ≤ c ∧ c ≤ 255) (h : M.head b = some (n, e)) : M.isn n ∧ b.take e = M.put n ∧ e = (M.put n).length ∧ e ≤ b.length ∧ 0 < e := by
  obtain ⟨m, hn, ht, hl, hle, _, h0, h1⟩ := M.dig_sound 6 true 0 1 b n e (by omega) (by omega) hb h
  have hm : n.toNat = m := by omega
  have hp : M.put n = M.puts m := by rw [M.put_yes h0 h1, hm]
  rw [hp]
  exact ⟨⟨h0, h1⟩, ht, hl, hle, by rw [hl]; exact M.puts_pos m⟩

theorem Part.step {b l : List Int} {p : Nat} {n : Int} {e : Nat} (hb : ∀ c ∈ b, 0 ≤ c ∧ c ≤ 255) (h : Part b l p) (hh : M.head (b.drop p) = some (n, e)) : Part b (l ++ [n]) (p + e) ∧ 0 < e ∧ p < b.length ∧ M.isn n := by
  obtain ⟨hn, ht, hl, hle, h0⟩ := head_sound (fun c hc => hb c (List.mem_of_mem_drop hc)) hh
  obtain ⟨h1, h2, h3⟩ := h
  simp at hle
  refine ⟨⟨by omega, ?_, ?_⟩, h0, by omega, hn⟩
  · intro x hx
    rcases List.mem_append.1 hx with hx | hx
    · exact h2 x hx
    · simp at hx; rw [hx]; exact hn
  · rw [List.take_add, h3, ht]; simp

theorem wf_num {n : Int} (h : M.isn n) : (Lit.int .i64 n).wf = true := by
  have h1 := h.1; have h2 := h.2
  simp [Lit.wf, IntKind.min, IntKind.max, IntKind.signed, IntKind.bits]; omega
theorem all_byte {l b : List Int} (h : M.all l = some b) : ∀ c ∈ b, (Lit.int .u8 c).wf = true := by
  obtain ⟨_, _, rfl⟩ := all_some.1 h
  intro c hc
  obtain ⟨n, _, hn⟩ := List.mem_flatMap.1 hc
  exact put_byte hn
theorem all_wf (L : List Int) : ∀ c ∈ (M.all L).getD [], (Lit.int .u8 c).wf = true := by
  cases hr : M.all L with
  | none => simp
  | some b => simpa using all_byte hr

theorem all_append (L K : List Int) (hl : L.length ≤ 200) (hk : K.length ≤ 200) : M.all (L ++ K) = match M.all L, M.all K with | some x, some y => some (x ++ y) | _, _ => none := by
  unfold M.all
  by_cases h1 : ∀ n ∈ L, 0 ≤ n ∧ n ≤ 1099511627776
  · by_cases h2 : ∀ n ∈ K, 0 ≤ n ∧ n ≤ 1099511627776
    · rw [if_pos ⟨by simp; omega, fun n hn => (List.mem_append.1 hn).elim (h1 n) (h2 n)⟩, if_pos ⟨by omega, h1⟩, if_pos ⟨by omega, h2⟩]
      simp
    · rw [if_neg (fun h => h2 (fun n hn => h.2 n (List.mem_append.2 (.inr hn)))), if_neg (c := _ ∧ ∀ n ∈ K, _) (fun h => h2 h.2)]
      split
      · next h3 h4 => cases h4
      · rfl
  · rw [if_neg (fun h => h1 (fun n hn => h.2 n (List.mem_append.2 (.inl hn)))), if_neg (c := _ ∧ ∀ n ∈ L, _) (fun h => h1 h.2)]

theorem read_wf (L : List Int) : ∀ c ∈ (M.read L).getD [], (Lit.int .i64 c).wf = true := by
  cases hr : M.read L with
  | none => simp
  | some b => simpa using fun c hc => wf_num ((all_some.1 (read_some.1 hr)).2.1 c hc)

theorem strOf_all (L : List Int) (hl : L.length ≤ 400) : (strOf ((M.all L).getD [])).size ≤ 2400 := by
  rw [strOf_size]
  cases hr : M.all L with
  | none => simp
  | some b =>
    obtain ⟨_, _, h3⟩ := all_some.1 hr
    have := flat_len L
    rw [h3]
    simp only [Option.getD_some]
    omega

end Go.Proofs.Ytebiogadkamgcaa
