/-
  Walks of sort.SliceIsSorted at timers, and of wheel.May.
-/
import Derived.Test.YtmegkfonodcoiaaSTimers
import Derived.Lib.QuietBelow
namespace Go.Proofs.Ytmegkfonodcoiaa
open Go.RowKit

def W.Next (l : List W.Tm) : Prop := ∀ i x y, l[i]? = some x → l[i + 1]? = some y → W.lt y x = false
theorem W.asc_next {l : List W.Tm} (h : W.Ids l) : W.Asc l ↔ W.Next l := by
  constructor
  · intro ha i x y hx hy
    obtain ⟨h1, rfl⟩ := List.getElem?_eq_some_iff.1 hx
    obtain ⟨h2, rfl⟩ := List.getElem?_eq_some_iff.1 hy
    exact W.lt_asymm (ha.next i h2)
  · intro hn
    refine W.asc_of_next fun i hi => ?_
    refine W.lt_total (fun e => ?_) (hn i _ _ (List.getElem?_eq_getElem (by omega)) (List.getElem?_eq_getElem hi))
    have := List.pairwise_iff_getElem.1 h i (i + 1) (by omega) hi (by omega)
    exact this (by rw [← e])
theorem W.weak_asc {l : List W.Tm} (h : W.Ids l) (hw : W.Weak l) : W.Asc l := W.asc_of_weak h.nodup hw
theorem W.find_some {l : List W.Tm} {id : Int} : (W.find l id).isSome = W.has l id := by
  unfold W.find W.has
  rw [List.findIdx?_isSome]
theorem W.idx_has {l : List W.Tm} {id : Int} : decide (0 ≤ W.idx l id) = W.has l id := by
  rw [← W.find_some]
  unfold W.idx
  cases W.find l id <;> simp
theorem W.ids_snoc {l : List W.Tm} {k : Nat} {x : W.Tm} (hx : l[k]? = some x) (hi : W.Ids (l.take k)) (hn : W.has (l.take k) x.1 = false) : W.Ids (l.take (k + 1)) := by
  obtain ⟨h1, h2⟩ := List.getElem?_eq_some_iff.1 hx
  rw [List.take_succ_eq_append_getElem h1, h2]
  refine List.pairwise_append.2 ⟨hi, List.pairwise_singleton _ _, fun a ha b hb => ?_⟩
  simp only [List.mem_singleton] at hb
  subst hb
  exact W.has_false.1 hn a ha
theorem W.ids_bad {l : List W.Tm} {k : Nat} {x : W.Tm} (hx : l[k]? = some x) (hn : W.has (l.take k) x.1 = true) : ¬ W.Ids l := by
  intro hi
  obtain ⟨t, ht, he⟩ := W.has_iff.1 hn
  obtain ⟨j, hj, rfl⟩ := List.mem_iff_getElem.1 ht
  obtain ⟨h1, h2⟩ := List.getElem?_eq_some_iff.1 hx
  simp at hj
  have := List.pairwise_iff_getElem.1 hi j k (by omega) h1 (by omega)
  rw [List.getElem_take] at he
  rw [h2] at this
  exact this he
theorem W.ok_snoc {l : List W.Tm} {k : Nat} {x : W.Tm} {n : Int} (hx : l[k]? = some x) (h : ∀ t ∈ l.take k, W.ok n t = true) (hk : W.ok n x = true) : ∀ t ∈ l.take (k + 1), W.ok n t = true := by
  obtain ⟨h1, h2⟩ := List.getElem?_eq_some_iff.1 hx
  rw [List.take_succ_eq_append_getElem h1, h2]
  intro t ht
  rcases List.mem_append.1 ht with ht | ht
  · exact h t ht
  · simp only [List.mem_singleton] at ht; rw [ht]; exact hk
theorem W.may_no {n : Int} {l : List W.Tm} (h : ¬ W.May n l) : W.may n l = false := decide_eq_false h

set_option maxRecDepth 100000 in
set_option maxHeartbeats 1000000 in
theorem isSorted_any (a : Option Addr) (n c : Nat) (l : List W.Tm) (w : World) (h : TIn w a n c l) (hn : n ≤ 1000) (p : Bool) (hp : p = true ↔ W.Next l) :
    Calls Try.prog 32 #[.iface 22 (.slice a n c), .func (.func 33) #[.slice a n c] #[]] w fun e w' => e = .returned (.bool p) ∧ Below w.heap.size w w' := by
  have e1 := valueOf_at under_slice desc_slice a n c w
  have e3 := fun W hW => len_at under_slice desc_slice Try.underlying22 (by kernel_rfl) ⟨w.heap.size, 0, none⟩ a n c W hW
  have eg : ∀ args w, (callFunc 33 args).run Try.prog w = .ok (.enter 33 args) w := Go.Proofs.enters_of Try.func33 (by kernel_rfl) rfl
  simp only [typeHandle] at e1 e3
  have HT := Lib.hid h
  have HP := Lib.hid hp
  clear h hp
  go_enter Try.func32, Try.ntmps32
  go_wp2_with fail
  rw [show Sem.run Try.prog (callFunc 40 #[.agg #[.pointer (some ⟨0, 22, none⟩), .pointer (some ⟨w.heap.size, 0, none⟩), .int .u64 151]]) _ = _ from e3 _ (by simp), Oper.upon_value]
  obtain ⟨W2, hW2⟩ : ∃ W2, (w.alloc (.cells #[.slice a n c] 22)).alloc (.cells #[.pointer (some ⟨0, 22, none⟩), .pointer (some ⟨w.heap.size, 0, none⟩), .int .u64 151] 64) = W2 := ⟨_, rfl⟩
  have G2 : Hid (Below w.heap.size w W2) := Lib.hid (by rw [← hW2]; exact none_below ((World.grownBy_alloc _ _ _).trans (World.grownBy_alloc _ _ _)))
  rw [hW2]
  clear hW2 e1 e3
  go_wp2_with fail
  go_loopw [7] (fun i wr => ∃ k : Nat, i = .int .i64 ((k : Int) - 1) ∧ k ≤ n ∧ Hid (∀ i x y, k ≤ i + 1 → l[i]? = some x → l[i + 1]? = some y → W.lt y x = false) ∧ Hid (Below w.heap.size w wr)) (fun i _ => (intOf i + 1).toNat)
  case atStart => exact ⟨n, by go_num, by omega, Lib.hid (fun i x y hi hx hy => by have := (List.getElem?_eq_some_iff.1 hy).1; have := HT.out.1; omega), G2⟩
  case round =>
    obtain ⟨k, rfl, hkn, HA, HB⟩ := hrel
    by_cases hk : 2 ≤ k
    · obtain ⟨k, rfl⟩ : ∃ m, k = m + 2 := ⟨k - 2, by omega⟩
      have e1 : ((k + 2 : Nat) : Int) - 1 = ((k + 1 : Nat) : Int) := by omega
      have e2 : ((k + 1 : Nat) : Int) - 1 = (k : Int) := by omega
      rw [e1]
      have d1 : decide ((0 : Int) < ((k + 1 : Nat) : Int)) = true := decide_eq_true (by omega)
      obtain ⟨x, hx⟩ : ∃ x, l[k]? = some x := ⟨_, List.getElem?_eq_getElem (by rw [HT.out.1]; omega)⟩
      obtain ⟨y, hy⟩ : ∃ x, l[k + 1]? = some x := ⟨_, List.getElem?_eq_getElem (by rw [HT.out.1]; omega)⟩
      have HX := Lib.hid hx
      have HY := Lib.hid hy
      obtain ⟨q, hq⟩ : ∃ q, W.lt y x = q := ⟨_, rfl⟩
      have hf := ahead_any a n c (k + 1) k l wr (HT.out.below HB.out) (by omega) (by omega) y x hy hx q hq
      have HQ := Lib.hid hq
      clear hx hy hq
      obtain ⟨K1, hK1⟩ : ∃ K, k + 1 = K := ⟨_, rfl⟩
      rw [hK1] at e1 e2 d1 hf ⊢
      have HK1 := Lib.hid hK1
      clear hK1 e1
      go_wp2_with fail
      refine hf.mono ?_
      rintro e w3 ⟨rfl, hb3⟩
      have HB3 := Lib.hid (HB.out.trans (hb3.mono HB.out.size))
      clear hf hb3
      cases q with
      | true =>
        have HE : Hid (p = false) := Lib.hid (by
          rw [← Bool.not_eq_true, HP.out]
          intro hN
          have := hN k x y HX.out (by rw [HY.out])
          rw [HQ.out] at this; cases this)
        go_wp2
        go_ret
        exact ⟨by rw [HE.out]; rfl, HB3.out⟩
      | false =>
        have HA2 : Hid (∀ i x y, K1 ≤ i + 1 → l[i]? = some x → l[i + 1]? = some y → W.lt y x = false) := Lib.hid (fun i x' y' hi hx hy => by
          by_cases hik : i = k
          · subst hik; rw [HX.out] at hx; rw [HY.out] at hy; cases hx; cases hy; exact HQ.out
          · exact HA.out i x' y' (by have := HK1.out; omega) hx hy)
        go_wp2
        go_roundw
        case rel => exact ⟨K1, by have := HK1.out; go_num, by have := HK1.out; omega, HA2, HB3⟩
        case measure => have := HK1.out; simp [intOf] <;> omega
    · have d1 : decide ((0 : Int) < (k : Int) - 1) = false := by simp; omega
      have HE : Hid (p = true) := Lib.hid (HP.out.2 (fun i x y hx hy => HA.out i x y (by omega) hx hy))
      go_wp2
      go_ret
      exact ⟨by rw [HE.out]; rfl, HB.out⟩
end Go.Proofs.Ytmegkfonodcoiaa
