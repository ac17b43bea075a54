/-
  A range over a function whose iterator tells the round something of the world in which it hands an element on ('G'): what it hands on lies there, say. A loop that no round leaves.
-/
import Derived.Test.YtnpgjndhkmpciaaBlok
import Derived.RangeFuncNested
namespace Go.Proofs.Ytnpgjndhkmpciaa
open Go.RowKit

/-- The contract of an iterator that tells 'G z x W' of each element x in the world W of its round, z being a variable's box of its own, in which it goes on storing: the loop's invariant is one of z, and abides such stores. -/
def SeqTold {α : Type} (F : Fence) (n : Nat) (P : Program) (g : Nat) (lb : Array Value) (encs : α → Array Value) (G : Nat → α → World → Prop) (Kp : Nat → World → World → Prop) (S : List α → Prop) (N : Nat) (w : World) : Prop :=
  ∀ (l : Nat) (J : Nat → List α → World → Prop) (W : World), Below w.heap.size w W → (∀ z, AbidesFrom W.heap.size (J z)) → (∀ z pre V i v, J z pre V → J z pre (V.setCell ⟨z, i, none⟩ v)) →
    (∀ z pre x V, J z pre V → G z x V → pre.length < N → YieldAt F (n - 1) P l (encs x) V fun e V' => e = .returned (.bool true) ∧ J z (pre ++ [x]) V' ∧ Kp z V V') →
    (∀ z, W.heap.size ≤ z → J z [] W) → CallsIn F n P g (#[.func (.yield l) #[] #[]] ++ lb) W fun e V => (∃ v, e = .returned v) ∧ ∃ z xs, S xs ∧ J z xs V

/-- The two blocks of a loop's book-keeping, its record in state st. -/
def Kept (D : Nat) (r : LoopState → Loop) (st : LoopState) (W : World) : Prop := W.heap[D + 1]? = some (.loop (r st)) ∧ W.heap[D]? = some (.deferred (some []))
theorem Kept.from {D : Nat} {r : LoopState → Loop} {st : LoopState} {W W' : World} (h : Kept D r st W) (hk : KeepsFrom D W W') : Kept D r st W' := ⟨hk.same _ _ (by omega) h.1 rfl, hk.same _ _ (Nat.le_refl _) h.2 rfl⟩
theorem Kept.turn {D : Nat} {r : LoopState → Loop} {st : LoopState} {W : World} (h : Kept D r st W) (st' : LoopState) : Kept D r st' (W.putObj (D + 1) (.loop (r st'))) :=
  ⟨World.putObj_heap_same (Array.getElem?_eq_some_iff.1 h.1).1, (World.putObj_heap_other (by omega)).trans h.2⟩

/-- **The loop, where each round is told**: 'A' is what the assignment to the loop's variables leaves, the invariant with it. -/
theorem wpIn_range_told {F : Fence} {n : Nat} {P : Program} {α : Type} {g : Operand} {ps : Array Tmp} {assign body : Code} {Q : Exit → Act → World → Prop} {a : Act} {w : World}
    (hro : F.round = none) (h1 : 1 ≤ n) {gf : Nat} {lb : Array Value} (hg : a.eval g = .func (.func gf) #[] lb) (hFg : F.fn gf) (eg : ∀ args w, (callFunc gf args).run P w = .ok (.enter gf args) w)
    {encs : α → Array Value} {G : Nat → α → World → Prop} {Kp : Nat → World → World → Prop} {S : List α → Prop} {N : Nat} {w0 : World} (hseq : SeqTold F (n - 1) P gf lb encs G Kp S N w0) (hb0 : Below w0.heap.size w0 w) (hps : ∀ x, (encs x).size = ps.size)
    (hKt : ∀ {z : Nat} {X Y Z : World}, Kp z X Y → Kp z Y Z → Kp z X Z) (hKb : ∀ (z : Nat) (W : World) (l : Nat) (o o' : Obj), w.heap.size ≤ l → W.heap[l]? = some o → o.isCells = false → o.isWalk = false → Kp z W (W.putObj l o'))
    (I : Nat → List α → World → Prop) (hI : ∀ z, OwnFrom w.heap.size (I z)) (hIz : ∀ z pre V i v, I z pre V → I z pre (V.setCell ⟨z, i, none⟩ v)) (h0 : ∀ z, w.heap.size ≤ z → I z [] w) (A : Nat → List α × α × Act → World → Prop) (hA : ∀ z, OwnFrom w.heap.size (A z))
    (hassign : ∀ (z l : Nat) (pre : List α) (x : α) (W : World) (K : Act → World → Prop), I z pre W → G z x W → (∀ a' W', KeepsFrom w.heap.size W W' → Kp z W W' → A z (pre, x, a') W' → K a' W') →
      assign.wpIn (F.inRound l) (n - 1 - 1) P (Exit.then K (fun _ _ _ => False)) { tmps := (ps.zip (encs x)).foldl (fun t (p, v) => t.setIfInBounds p v) a.tmps, defers := [] } W)
    (hbody : ∀ (z l : Nat) (pre : List α) (x : α) (a' : Act) (W : World), A z (pre, x, a') W → pre.length < N →
      body.wpIn (F.inRound l) (n - 1 - 1) P (fun e _ W' => e = .normal ∧ KeepsFrom w.heap.size W W' ∧ Kp z W W' ∧ I z (pre ++ [x]) W') a' W)
    (hdone : ∀ (z D : Nat) (xs : List α) (W : World), w.heap.size ≤ D → S xs → I z xs W → W.heap[D]? = some (.deferred (some [])) → Q .normal { a with defers := { target := .collected D, args := #[] } :: a.defers } W) :
    (Code.rangeFunc g ps assign body).wpIn F n P Q a w := by
  refine wpIn_rangeFunc fun fn hfn => ?_
  rw [hro]
  obtain ⟨D, hD⟩ : ∃ D, D = w.heap.size := ⟨_, rfl⟩
  obtain ⟨r, hr⟩ : ∃ r : LoopState → Loop, r = fun st => { state := st, pending := none, fn, tmps := a.tmps, params := ps, assign, body, defers := D } := ⟨_, rfl⟩
  have hkept : Kept D r .ready ((w.alloc (.deferred (some []))).alloc (.loop (r .ready))) := by
    have e1 := World.alloc_heap_new (w.alloc (.deferred (some []))) (.loop (r .ready))
    have e2 := World.alloc_heap_new w (.deferred (some []))
    rw [World.size_alloc, ← hD] at e1
    rw [← hD] at e2
    exact ⟨e1, (Below.heap_alloc _ _ _ (by simp; omega)).trans e2⟩
  have hbel : Below w.heap.size w ((w.alloc (.deferred (some []))).alloc (.loop (r .ready))) := ((Below.refl _ w).alloc (Nat.le_refl _) _).alloc (by simp) _
  have hinv : ∀ z, w.heap.size ≤ z → I z [] ((w.alloc (.deferred (some []))).alloc (.loop (r .ready))) := fun z hz => (hI z).alloc _ ((hI z).alloc _ (h0 z hz))
  have hent : (Instr.enterLoop fn a.tmps ps assign body none).run P w = .ok (D + 1, [{ target := .collected D, args := #[] }]) ((w.alloc (.deferred (some []))).alloc (.loop (r .ready))) := by
    rw [hr, hD]; exact run_enterLoop_outer _ _ _ _ _
  have hsz : w.heap.size ≤ ((w.alloc (.deferred (some []))).alloc (.loop (r .ready))).heap.size ∧ D + 1 < ((w.alloc (.deferred (some []))).alloc (.loop (r .ready))).heap.size := by simp; omega
  generalize (w.alloc (.deferred (some []))).alloc (.loop (r .ready)) = W1 at hkept hbel hinv hent hsz
  -- what abides the caller's invariant abides with the book-keeping beside it
  have hab : ∀ z, AbidesFrom W1.heap.size (fun pre W => I z pre W ∧ Kept D r .ready W) := fun z s X Y row hs hgr hrow => by
    have hw := fun k e => (hrow k e).2
    exact ⟨hI z s X Y row hs.1 hgr (fun k e => ⟨by have := (hrow k e).1; omega, by obtain ⟨o, ho, hoo⟩ := hw k e; exact ⟨o, ho, Obj.not_cells_of_walk hoo⟩⟩),
      (grownBy_keeps hgr hw hs.2.1 rfl).trans hs.2.1, (grownBy_keeps hgr hw hs.2.2 rfl).trans hs.2.2⟩
  refine ⟨D + 1, _, W1, { target := .fn (.func gf) lb, args := #[.func (.yield (D + 1)) #[] #[]] }, W1, gf, #[.func (.yield (D + 1)) #[] #[]] ++ lb, W1, hent, ?_, ?_, ?_, fun _ => h1, ?_⟩
  · simp only [resolve, hg]
    simp [go_sem]
  · intro f' hf'
    simp [Target.leads] at hf'
    exact hf' ▸ hFg
  · simp [invoke, go_sem, eg]
  · refine (hseq (D + 1) (fun z pre W => I z pre W ∧ Kept D r .ready W) W1 (hb0.trans (hbel.mono hb0.size)) hab (fun z pre V i v h => ⟨hIz z pre V i v h.1, h.2.from ((KeepsOthers.setCell V _ v).from D)⟩) ?_ (fun z hz => ⟨hinv z (by omega), hkept⟩)).mono ?_
    · rintro z pre x V ⟨hi, hk⟩ hG hlen
      have hy := run_yield (P := P) (args := encs x) hk.1 (by rw [hr]; exact hps x)
      rw [hr] at hy
      refine ⟨fn, _, assign, body, hy, roundIn_of_wpIn hfn (hassign z _ pre x V _ hi hG fun a' V' hkf hkp hA' => ?_)⟩
      have hk1 := hk.from (hD ▸ hkf)
      have hlt := (Array.getElem?_eq_some_iff.1 hk1.1).1
      refine ⟨V'.putObj (D + 1) (.loop (r .busy)), by have := run_beginRound (P := P) hk1.1 (by rw [hr]); rw [hr] at this ⊢; exact this, ?_⟩
      have hk2 := hk1.turn .busy
      refine wpIn_mono (hbody z _ pre x a' _ ((hA z).putObj _ hA' (by omega) hk1.1 rfl) hlen) ?_
      rintro e a3 V3 ⟨rfl, hkf3, hkp3, hi3⟩
      have hk3 := hk2.from (show KeepsFrom D _ V3 by have h := hkf3; rwa [← hD] at h)
      refine ⟨.bool true, V3.putObj (D + 1) (.loop (r .ready)), by have := run_endRound (P := P) none hk3.1; rw [hr] at this ⊢; exact this, rfl, ⟨(hI z).putObj _ hi3 (by omega) hk3.1 rfl, hk3.turn .ready⟩, ?_⟩
      exact hKt hkp (hKt (hKt (hKb z _ _ _ _ (by omega) hk1.1 rfl rfl) hkp3) (hKb z _ _ _ _ (by omega) hk3.1 rfl rfl))
    · rintro e V ⟨⟨v, rfl⟩, z, xs, hS, hi, hk⟩
      refine ⟨none, _, by have := run_endLoop (P := P) hk.1 (by rw [hr]; simp); rw [hr] at this; exact this, ?_⟩
      exact hdone z D xs _ (by omega) hS ((hI z).putObj _ hi (by omega) hk.1 rfl) ((World.putObj_heap_other (by omega)).trans hk.2)
end Go.Proofs.Ytnpgjndhkmpciaa
