import Derived.Test.YtonejangijkdmaaGreatQI
import Derived.Test.YtonejangijkdmaaGreatQYZ
import Derived.Test.YtonejangijkdmaaGreatQYHold
namespace Go.Proofs.YtonejangijkdmaaGreat
open Go.RowKit
namespace Y
def Tim (e : Ev) : Prop := 0 <= e.t /\ e.t <= 1073741824 /\ (e.k = 6 -> 0 <= e.p.h /\ e.p.h <= 1048576)
theorem pools_tim {s : St} {r : List O.Pl × Int} {x : Ev} (hx : Tim x) : ∀ e ∈ (ofPools s r x).2.1, Tim e := by
 intro e he
 unfold ofPools at he
 split at he
 ·simp at he; subst he; exact hx
 ·simp [err] at he
theorem step_tim {s : St} (r : Rq) (hm : May s) : ∀ e ∈ (step s r).2.1, Tim e := by
 intro e he
 have hn := hm.2.2.2.1
 have one : ∀ (k a b c : Int) (p : Po), k ≠ 6 -> Tim ⟨k, s.now, a, b, c, p⟩ := fun k a b c p hk => ⟨hn.1, hn.2, fun h => absurd h hk⟩
 by_cases h0 : ¬ May s \/ r.k < 0 \/ 9 <= r.k
 ·unfold step at he; rw [if_pos h0] at he; simp [err] at he
 unfold step at he
 rw [if_neg h0] at he
 split at he
 ·rcases grant_cases (sub := r.s) hm with ⟨e', _, h⟩ | ⟨x, b, _, _, _, _, _, _, _, _, _, h⟩ <;> rw [h] at he
  ·simp [err] at he
  ·simp at he; subst he; exact one _ _ _ _ _ (by decide)
 split at he
 ·unfold refresh at he
  split at he
  ·split at he <;> simp [err] at he
  ·simp [err] at he
 split at he
 ·unfold release at he
  split at he
  ·split at he
   ·simp at he; subst he; exact one _ _ _ _ _ (by decide)
   ·simp [err] at he
  ·simp [err] at he
 split at he
 ·unfold tick at he
  split at he
  ·simp [err] at he
  ·rename_i hn2
   obtain ⟨h1, x, hx, h2, h3, _⟩ := run_evs hm.2.2.2.2.2.1 e he
   have ho := hm.2.2.2.2.2.2.1 x hx
   have hi := hm.2.1.2.2.1
   refine ⟨?_, by omega, fun h => by omega⟩
   have h5 := ho.2.2.2.2.1
   have h6 := ho.2.2.2.2.2.1
   omega
 split at he
 ·exact pools_tim (one _ _ _ _ _ (by decide)) e he
 split at he
 ·exact pools_tim (one _ _ _ _ _ (by decide)) e he
 split at he
 ·exact pools_tim (one _ _ _ _ _ (by decide)) e he
 split at he
 ·exact pools_tim (one _ _ _ _ _ (by decide)) e he
 ·unfold policy at he
  split at he
  ·simp [err] at he
  ·rename_i hp
   split at he
   ·simp [err] at he
   ·simp at he
    subst he
    have hp := Decidable.not_not.1 hp
    exact ⟨hn.1, hn.2, fun _ => ⟨hp.2.2.2.2.1, hp.2.2.2.2.2⟩⟩
theorem script_tim : ∀ (l : List Rq) {s : St}, May s -> ∀ e ∈ (script s l).2, Tim e
 | [], s, _, e, he => by simp [script] at he
 | r :: l, s, hm, e, he => by
  simp only [script, List.mem_append] at he
  rcases he with he | he
  ·exact step_tim r hm e he
  ·exact script_tim l (step_may hm) e he
theorem hold_tim : ∀ (E : List Ev) (h : Int), (0 <= h /\ h <= 1048576) -> (∀ e ∈ E, Tim e) -> 0 <= holdOf h E /\ holdOf h E <= 1048576
 | [], h, hh, _ => hh
 | e :: E, h, hh, he => by
  unfold holdOf
  rw [List.foldl_cons]
  refine hold_tim E _ ?_ (fun x hx => he x (by simp [hx]))
  split
  ·rename_i h6; exact (he e (by simp)).2.2 h6
  ·exact hh
theorem hold_take {E : List Ev} {n : Nat} {e : Ev} (h : E[n]? = some e) (q : Int) : holdOf q (E.take (n + 1)) = if e.k = 6 then e.p.h else holdOf q (E.take n) := by
 rw [List.take_add_one, h, holdOf_app]
 simp [holdOf]
end Y
end Go.Proofs.YtonejangijkdmaaGreat
