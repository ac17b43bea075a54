/-
  sort.Slice at a slice of timers of the call's own: its list in order, in the same memory.
-/
import Derived.Test.YtmegkfonodcoiaaSRefl
namespace Go.Proofs.Ytmegkfonodcoiaa
open Go.RowKit Go.Sort

/-- In order, but for equal ones. -/
def W.Weak (l : List W.Tm) : Prop := ∀ i j (hi : i < l.length) (hj : j < l.length), i < j → W.lt l[j] l[i] = false

/-- pdqsort_func at nothing, or at one: nothing is compared. -/
theorem pdq_tiny (lf : Fn) (la lb : Array Value) (f n : Nat) (sb : Array Value) (lim : Int) (h : n ≤ 1) (w : World) :
    Calls Try.prog 43 #[.agg #[.func lf la lb, .func (.func f) #[] sb], .int .i64 0, .int .i64 n, .int .i64 lim] w fun e w' => e = .returned (.tuple #[]) ∧ Hid (w.grownBy w' none) :=
  (Go.Proofs.Any.pdqsort_func_tiny (P := Try.prog) { Try.srt6 with } lf la lb f sb n h lim w).mono fun _ _ ⟨he, hw⟩ => ⟨he, Lib.hid (by rw [hw]; exact (World.grownBy_alloc _ _ _).trans (World.grownBy_alloc _ _ _))⟩

set_option maxHeartbeats 400000 in
theorem sortT_any (v : Value) (n B : Nat) (l : List W.Tm) (w : World) (h : w.ownsRow B 40 2 v n (W.flat l)) (hl : l.length = n) (hn : n ≤ 1000) :
    Calls Try.prog 38 #[.iface 55 v, .func (.func 33) #[v] #[]] w fun e w' => e = .returned (.tuple #[]) ∧ ∃ k, Hid (k.Perm l ∧ W.Weak k) ∧ Hid (w'.ownsRow B 40 2 v n (W.flat k)) ∧ Hid (w.grownBy w' v.ownBlock) := by
  by_cases h1 : n ≤ 1
  · have hform : ∃ p c, v = .slice p n c := by
      rcases h.2 with ⟨rfl, h0⟩ | ⟨g, cap, cur, rfl, _⟩
      · exact ⟨none, 0, by rw [h0]⟩
      · exact ⟨_, _, rfl⟩
    obtain ⟨p, c, rfl⟩ := hform
    have hK : ∃ f, Try.prog.funcs.findIdx? (·.name == "internal/reflectlite" ++ ".Swapper$" ++ toString (Lib.swapperK n typeE 25)) = some f := by
      rcases Nat.eq_zero_or_pos n with rfl | hp
      · exact ⟨44, by kernel_rfl⟩
      · obtain rfl : n = 1 := by omega
        exact ⟨45, by kernel_rfl⟩
    obtain ⟨f, hf⟩ := hK
    refine (slice_of_pdq p n c f _ _ _ _ w hn hf rfl (fun w' => w.grownBy w' none) (fun W hW => (pdq_tiny _ _ _ _ _ _ _ h1 W).mono fun e w' ⟨he, hg⟩ => ⟨he, hW.out.trans hg.out⟩)).mono ?_
    rintro e w' ⟨rfl, hg⟩
    exact ⟨rfl, l, Lib.hid ⟨List.Perm.refl _, fun i j hi hj hij => by omega⟩, Lib.hid (ownsRow_below h (none_below hg)), Lib.hid (grown_none hg)⟩
  · obtain ⟨g, c, cur, rfl, hB, hgg, hle, hm, hs, ht⟩ : ∃ g cap cur, v = .slice (some ⟨g, 0, none⟩) n cap ∧ B ≤ g ∧ w.heap[g]? = some (.cells cur 40 (0, 0)) ∧ n ≤ cap ∧ cap ≤ maxLen ∧ cur.size = cap * 2 ∧ cur.toList.take (n * 2) = W.flat l := by
      rcases h.2 with ⟨_, h0⟩ | ⟨g, cap, cur, he, hB, hg, h1, h2, h3, h4⟩
      · omega
      · exact ⟨g, cap, cur, he, hB, hg, h1, h2, h3, h4⟩
    obtain ⟨rest, hrest⟩ : ∃ rest, cur.toList.drop (n * 2) = rest := ⟨_, rfl⟩
    have hcur : cur = (W.flat l ++ rest).toArray := by
      rw [← ht, ← hrest, List.take_append_drop]
    have hsw : SwT g n rest l.toArray w := ⟨by simpa using hl, by show w.heap[g]? = _; rw [hgg, hcur]⟩
    have S := sortBy_T g n c rest (by omega) hle hm
    have hpd := pdq_sorts W.lt swo_lt l.toArray 0 n (Lib.bitLen n) true true (Nat.zero_le _) (by simp [hl]) (.inl rfl)
    obtain ⟨d', hd'⟩ : ∃ d', pdq W.lt l.toArray 0 n (Lib.bitLen n) true true = d' := ⟨_, rfl⟩
    have hlim : Lib.bitLen n ≤ 1000 := by have := Lib.bitLen_le n 62 (by omega) (by omega); omega
    refine (slice_of_pdq (some ⟨g, 0, none⟩) n c 52 _ _ _ _ w hn (by rw [swapK n (by omega)]; kernel_rfl) (by rw [swapK n (by omega), if_neg (by decide)])
      (fun w' => Hid (SwT g n rest d' w') ∧ Hid (w.grownBy w' (some g))) (fun W hW => ?_)).mono ?_
    · refine (pdq_any S swo_lt (n + 1) 0 n (Lib.bitLen n) l.toArray W (by omega) (Nat.zero_le _) (Nat.le_refl _) hlim (S.keep hsw hW.out (by simp))).mono ?_
      rintro e w' ⟨rfl, h1, h2⟩
      rw [hd'] at h1
      exact ⟨rfl, h1, Lib.hid ((grown_none hW.out).trans h2.out)⟩
    · rintro e w' ⟨rfl, h1, h2⟩
      rw [hd'] at hpd
      have hsz := h1.out.1
      have hperm : d'.toList.Perm l := by
        have h3 := hpd.1.2.2
        have e1 : l.toArray.extract 0 n = l.toArray := by rw [← hl]; simp
        have e2 : d'.extract 0 n = d' := by rw [← hsz]; simp
        rw [e1, e2] at h3
        exact h3
      have hk : d'.toList.length = n := by simpa using hsz
      refine ⟨rfl, d'.toList, Lib.hid ⟨hperm, fun i j hi hj hij => ?_⟩, Lib.hid ⟨by rw [W.flat_len, hk], .inr ⟨g, c, _, rfl, hB, h1.out.2, hle, hm, ?_, ?_⟩⟩, h2⟩
      · have h4 := hpd.2 i j (Nat.zero_le _) hij (by rw [hk] at hj; exact hj)
        rw [hk] at hi hj
        rw [getElem!_pos d' i (by omega), getElem!_pos d' j (by omega)] at h4
        simpa using h4
      · have hr : rest.length = cur.size - n * 2 := by rw [← hrest]; simp
        simp only [List.size_toArray, List.length_append, W.flat_len, hk, hr]; omega
      · rw [List.take_append_of_le_length (by rw [W.flat_len, hk]; exact Nat.le_refl _), List.take_of_length_le (by rw [W.flat_len, hk]; exact Nat.le_refl _)]
end Go.Proofs.Ytmegkfonodcoiaa
