import Derived.Test.YtonejangijkdmaaGreatYA
import Derived.Test.YtonejangijkdmaaGreatYK
namespace Go.Proofs.YtonejangijkdmaaGreat
set_option maxRecDepth 100000
set_option maxHeartbeats 2000000
open Go.RowKit
theorem zm3 {P : Program} {w : World} {g : Nat} {t : TypeId} {cs : Array Value} (h : Blok w g t cs) (cs' : Array Value) (hi : (P.info? t).map (·.size) = some cs'.size) (ho : cs.size = cs'.size) (h1 : cs'.all (·.oneCell') = true) :
  (Instr.storeAt t (.pointer (some ⟨g, 0, none⟩)) (.agg cs')).run P w = .ok () (w.setRow g cs') := by
 simp only [Instr.storeAt, Instr.sureAddr, Sem.run_bind, Sem.run_pure, Result.andThen]
 exact run_storeVar_row w g t t cs cs' h hi ho h1
namespace Y
def new (d : E.D) (p : Po) : Option St := if May ⟨d, p, 0, [], [], []⟩ then some ⟨d, p, 0, [], [], []⟩ else none
def script : St -> List Rq -> St × List Ev
 | s, [] => (s, [])
 | s, r :: l => ((script (step s r).1 l).1, (step s r).2.1 ++ (script (step s r).1 l).2)
theorem step_may {s : St} {r : Rq} (hm : May s) : May (step s r).1 := by
 rcases step_good s r with ⟨e, _, h⟩ | ⟨_, h, _⟩
 ·rw [h]; exact hm
 ·exact h
theorem step_no {s : St} {r : Rq} (h : (step s r).2.2.1 ≠ 0) : ∃ e, e ≠ 0 /\ step s r = err s e := by
 rcases step_good s r with h2 | ⟨h2, _⟩
 ·exact h2
 ·exact absurd h2 h
theorem script_may : ∀ (l : List Rq) {s : St}, May s -> May (script s l).1
 | [], _, h => h
 | _ :: l, _, h => script_may l (step_may h)
theorem step_d {s : St} {r : Rq} : (step s r).1.d = s.d := by
 rcases step_good s r with ⟨e, _, h⟩ | ⟨_, _, _, h⟩
 ·rw [h]; rfl
 ·exact h
theorem script_d : ∀ (l : List Rq) {s : St}, (script s l).1.d = s.d
 | [], _ => rfl
 | _ :: l, _ => (script_d l).trans step_d
theorem script_snoc : ∀ (l : List Rq) (s : St) (r : Rq), script s (l ++ [r]) = ((step (script s l).1 r).1, (script s l).2 ++ (step (script s l).1 r).2.1)
 | [], _, _ => by simp [script]
 | q :: l, s, r => by
  rw [List.cons_append]
  show ((script (step s q).1 (l ++ [r])).1, _ ++ (script (step s q).1 (l ++ [r])).2) = _
  rw [script_snoc l (step s q).1 r, <- List.append_assoc]
  rfl
theorem new_is {d : E.D} {p : Po} {s : St} (h : new d p = some s) : s = ⟨d, p, 0, [], [], []⟩ /\ May s := by
 unfold new at h
 split at h
 ·cases h; exact ⟨rfl, by assumption⟩
 ·cases h
end Y
end Go.Proofs.YtonejangijkdmaaGreat
