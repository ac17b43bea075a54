/-
  The plain mathematics of lists told step by step: places, and what they undo; the bytes of a list, and the list of bytes.
-/
import Derived.Test.YtcppffccbecjpaaVLists
namespace Go.Proofs.Ytcppffccbecjpaa
open Go.RowKit

/-- A number's place; the number of a place. -/
def Z.zig (n : Int) : Int := if n < -274877906944 ∨ 274877906944 < n then -1 else if n < 0 then 2 * -n - 1 else 2 * n
def Z.zag (k : Int) : Int := if k < 0 ∨ 549755813888 < k then 0 else if k % 2 = 1 then -((k + 1) / 2) else k / 2

theorem Z.zig_in {n : Int} (h : -274877906944 ≤ n ∧ n ≤ 274877906944) : Z.zig n = if n < 0 then 2 * -n - 1 else 2 * n := by unfold Z.zig; rw [if_neg (by omega)]
theorem Z.zig_out {n : Int} (h : ¬ (-274877906944 ≤ n ∧ n ≤ 274877906944)) : Z.zig n = -1 := by unfold Z.zig; rw [if_pos (by omega)]
theorem Z.zig_bd {n : Int} (h : -274877906944 ≤ n ∧ n ≤ 274877906944) : 0 ≤ Z.zig n ∧ Z.zig n ≤ 549755813888 := by rw [Z.zig_in h]; split <;> omega
theorem Z.zag_bd (k : Int) : -274877906944 ≤ Z.zag k ∧ Z.zag k ≤ 274877906944 := by unfold Z.zag; split; omega; split <;> omega
theorem Z.zag_zig {n : Int} (h : -274877906944 ≤ n ∧ n ≤ 274877906944) : Z.zag (Z.zig n) = n := by
  have := Z.zig_bd h
  unfold Z.zag; rw [if_neg (by omega)]; rw [Z.zig_in h] at *
  split <;> split at * <;> omega
theorem Z.zig_zag {k : Int} (h : 0 ≤ k ∧ k ≤ 549755813888) : Z.zig (Z.zag k) = k := by
  have hz : Z.zag k = if k % 2 = 1 then -((k + 1) / 2) else k / 2 := by unfold Z.zag; rw [if_neg (by omega)]
  rw [Z.zig_in (Z.zag_bd k), hz]
  by_cases h2 : k % 2 = 1
  · rw [if_pos h2, if_pos (by omega)]; omega
  · rw [if_neg h2, if_neg (by omega)]; omega

/-- May a number be in a list? -/
def Z.isl (n : Int) : Prop := 0 ≤ n ∧ n < 274877906944
instance (n : Int) : Decidable (Z.isl n) := inferInstanceAs (Decidable (_ ∧ _))

/-- The places of a list's steps, from a number on; the list of places, from a number on, or none. -/
def Z.pl : Int → List Int → List Int
  | _, [] => []
  | p, n :: r => Z.zig (n - p) :: Z.pl n r
def Z.un : Int → List Int → Option (List Int)
  | _, [] => some []
  | p, k :: r => if Z.zig (Z.zag k) = k ∧ Z.isl (p + Z.zag k) then (Z.un (p + Z.zag k) r).map (fun l => (p + Z.zag k) :: l) else none

theorem Z.pl_len : ∀ (p : Int) (L : List Int), (Z.pl p L).length = L.length
  | _, [] => rfl
  | _, n :: r => by simp [Z.pl, Z.pl_len n r]
theorem Z.pl_isn : ∀ (p : Int) (L : List Int), Z.isl p → (∀ n ∈ L, Z.isl n) → ∀ k ∈ Z.pl p L, M.isn k
  | _, [], _, _ => by simp [Z.pl]
  | p, n :: r, hp, h => by
    have hn := h n (by simp)
    unfold Z.isl at hp hn
    intro k hk
    rcases List.mem_cons.1 hk with rfl | hk
    · have := Z.zig_bd (n := n - p) (by omega); unfold M.isn; omega
    · exact Z.pl_isn n r hn (fun x hx => h x (by simp [hx])) k hk

theorem Z.un_some : ∀ (ps : List Int) (p : Int) (l : List Int), Z.isl p → (Z.un p ps = some l ↔ (Z.pl p l = ps ∧ ∀ n ∈ l, Z.isl n))
  | [], p, l, _ => by
    constructor
    · intro h; simp [Z.un] at h; subst h; exact ⟨rfl, by simp⟩
    · rintro ⟨h, _⟩
      cases l with
      | nil => rfl
      | cons n r => simp [Z.pl] at h
  | k :: r, p, l, hp => by
    constructor
    · intro h
      unfold Z.un at h
      split at h
      · next hc =>
        rw [Option.map_eq_some_iff] at h
        obtain ⟨l', hl, rfl⟩ := h
        obtain ⟨h1, h2⟩ := (Z.un_some r _ l' hc.2).1 hl
        refine ⟨?_, ?_⟩
        · simp only [Z.pl, h1]
          rw [show p + Z.zag k - p = Z.zag k by omega, hc.1]
        · intro n hn
          rcases List.mem_cons.1 hn with rfl | hn
          · exact hc.2
          · exact h2 n hn
      · cases h
    · rintro ⟨h1, h2⟩
      cases l with
      | nil => simp [Z.pl] at h1
      | cons n l' =>
        simp only [Z.pl, List.cons.injEq] at h1
        obtain ⟨hk, hr⟩ := h1
        have hn := h2 n (by simp)
        have hd : Z.zag k = n - p := by rw [← hk]; unfold Z.isl at hp hn; exact Z.zag_zig (by omega)
        have he : p + Z.zag k = n := by omega
        unfold Z.un
        rw [he, if_pos ⟨by rw [hd, hk], hn⟩, (Z.un_some r n l' hn).2 ⟨hr, fun x hx => h2 x (by simp [hx])⟩]
        rfl

/-- The bytes of a list, or none; the list of bytes, or none. -/
def Z.steps (L : List Int) : Option (List Int) := if L.length ≤ 400 ∧ ∀ n ∈ L, Z.isl n then some ((Z.pl 0 L).flatMap M.put) else none
noncomputable def Z.sums (b : List Int) : Option (List Int) := (M.read b).bind (Z.un 0)

theorem Z.steps_some {L b : List Int} : Z.steps L = some b ↔ (L.length ≤ 400 ∧ (∀ n ∈ L, Z.isl n) ∧ b = (Z.pl 0 L).flatMap M.put) := by
  unfold Z.steps
  constructor
  · intro h
    split at h
    · next hh => exact ⟨hh.1, hh.2, by simpa using h.symm⟩
    · cases h
  · rintro ⟨h1, h2, rfl⟩
    rw [if_pos ⟨h1, h2⟩]
theorem Z.steps_all {L : List Int} (h1 : L.length ≤ 400) (h2 : ∀ n ∈ L, Z.isl n) : M.all (Z.pl 0 L) = Z.steps L := by
  rw [Z.steps_some.2 ⟨h1, h2, rfl⟩]
  exact all_some.2 ⟨by rw [Z.pl_len]; exact h1, Z.pl_isn 0 L (by unfold Z.isl; omega) h2, rfl⟩
theorem Z.steps_bad {L : List Int} {n : Int} (hm : n ∈ L) (h : ¬ Z.isl n) : Z.steps L = none := by unfold Z.steps; rw [if_neg]; intro hh; exact h (hh.2 n hm)
theorem Z.steps_long {L : List Int} (h : 400 < L.length) : Z.steps L = none := by unfold Z.steps; rw [if_neg]; omega

theorem Z.sums_some {b l : List Int} : Z.sums b = some l ↔ Z.steps l = some b := by
  have h0 : Z.isl 0 := by unfold Z.isl; omega
  unfold Z.sums
  rw [Option.bind_eq_some_iff]
  constructor
  · rintro ⟨ps, h1, h2⟩
    obtain ⟨h3, h4⟩ := (Z.un_some ps 0 l h0).1 h2
    obtain ⟨k1, k2, k3⟩ := all_some.1 (read_some.1 h1)
    subst h3
    exact Z.steps_some.2 ⟨by rw [Z.pl_len] at k1; exact k1, h4, k3⟩
  · intro h
    obtain ⟨h1, h2, h3⟩ := Z.steps_some.1 h
    exact ⟨Z.pl 0 l, read_some.2 (all_some.2 ⟨by rw [Z.pl_len]; exact h1, Z.pl_isn 0 l h0 h2, h3⟩), (Z.un_some _ 0 l h0).2 ⟨rfl, h2⟩⟩

theorem Z.steps_inj {l k b : List Int} (h : Z.steps l = some b) (h' : Z.steps k = some b) : l = k := by
  have h1 := Z.sums_some.2 h
  have h2 := Z.sums_some.2 h'
  rw [h1] at h2; cases h2; rfl

theorem Z.pl_take : ∀ (j : Nat) (p : Int) (L : List Int), Z.pl p (L.take j) = (Z.pl p L).take j
  | 0, _, _ => by simp [Z.pl]
  | _ + 1, _, [] => by simp [Z.pl]
  | j + 1, p, n :: r => by simp [Z.pl, Z.pl_take j n r]

/-- A beginning of a list has a beginning of its bytes. -/
theorem Z.steps_take {L b : List Int} (j : Nat) (h : Z.steps L = some b) : ∃ a, Z.steps (L.take j) = some a ∧ a.length ≤ b.length ∧ b.take a.length = a := by
  obtain ⟨h1, h2, rfl⟩ := Z.steps_some.1 h
  have e : (Z.pl 0 L).flatMap M.put = (Z.pl 0 (L.take j)).flatMap M.put ++ ((Z.pl 0 L).drop j).flatMap M.put := by
    rw [Z.pl_take, ← List.flatMap_append, List.take_append_drop]
  refine ⟨(Z.pl 0 (L.take j)).flatMap M.put, Z.steps_some.2 ⟨?_, fun n hn => h2 n (List.mem_of_mem_take hn), rfl⟩, ?_, ?_⟩
  · simp; omega
  · rw [e, List.length_append]; omega
  · rw [e, List.take_left]

theorem Z.bytes_one {L : List Int} (h : ∀ k ∈ L, 0 ≤ k ∧ k < 128) : (L.flatMap M.put).length = L.length := by
  induction L with
  | nil => rfl
  | cons k r ih =>
    have hk := h k (by simp)
    have := ih (fun x hx => h x (by simp [hx]))
    rw [List.flatMap_cons, List.length_append, this, M.put_yes hk.1 (by omega), M.puts_lt (by omega)]
    simp; omega

theorem Z.steps_byte {L b : List Int} (h : Z.steps L = some b) : ∀ c ∈ b, (Lit.int .u8 c).wf = true := by
  obtain ⟨h1, h2, rfl⟩ := Z.steps_some.1 h
  intro c hc
  obtain ⟨n, _, hn⟩ := List.mem_flatMap.1 hc
  exact put_byte hn
theorem Z.steps_wf (L : List Int) : ∀ c ∈ (Z.steps L).getD [], (Lit.int .u8 c).wf = true := by
  cases hr : Z.steps L with
  | none => simp
  | some b => simpa using Z.steps_byte hr
theorem Z.sums_wf (b : List Int) : ∀ c ∈ (Z.sums b).getD [], (Lit.int .i64 c).wf = true := by
  cases hr : Z.sums b with
  | none => simp
  | some l =>
    have h := (Z.steps_some.1 (Z.sums_some.1 hr)).2.1
    intro c hc
    have := h c (by simpa using hc)
    unfold Z.isl at this
    exact wf_num (by unfold M.isn; omega)
end Go.Proofs.Ytcppffccbecjpaa
