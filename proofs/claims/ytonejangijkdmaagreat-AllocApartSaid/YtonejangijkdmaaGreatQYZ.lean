
import Derived.Test.YtonejangijkdmaaGreatQI
import Derived.Test.YtonejangijkdmaaGreatQYTwice
import Derived.Test.YtonejangijkdmaaGreatYX
import Derived.Test.YtonejangijkdmaaGreatQYD5
namespace Go.Proofs.YtonejangijkdmaaGreat
namespace Y
theorem d_ext {s t : E.D} (h : s.b = t.b /\ s.k = t.k /\ s.c = t.c /\ s.j = t.j /\ s.lo = t.lo /\ s.hi = t.hi /\ s.dy = t.dy /\ s.bl = t.bl) : s = t := by
 cases s; cases t; simp_all
instance : DecidableEq E.D := fun s t => decidable_of_iff (s.b = t.b /\ s.k = t.k /\ s.c = t.c /\ s.j = t.j /\ s.lo = t.lo /\ s.hi = t.hi /\ s.dy = t.dy /\ s.bl = t.bl) ⟨d_ext, fun h => by subst h; exact ⟨rfl, rfl, rfl, rfl, rfl, rfl, rfl, rfl⟩⟩
instance : DecidableEq St := fun s t => decidable_of_iff (s.d = t.d /\ s.p = t.p /\ s.now = t.now /\ s.ps = t.ps /\ s.l = t.l /\ s.h = t.h) ⟨fun h => st_ext h.1 h.2.1 h.2.2.1 h.2.2.2.1 h.2.2.2.2.1 h.2.2.2.2.2, fun h => by subst h; exact ⟨rfl, rfl, rfl, rfl, rfl, rfl⟩⟩
theorem fits_may {w : World} {A : A9} {s : St} (hi : SIn w A s) (hm : May s) (hb : s.d.b <= 9223372036854775807) (hc : s.d.c <= 9223372036854775807) : Fits A s := by
 have h1 := hi.p.1
 have h2 := hi.l.1
 have h3 := hi.h.1
 have h4 := hm.2.2.1.2.2.1
 have h5 := hm.2.2.2.2.1
 have h6 := held_len hm
 exact ⟨by omega, by omega, by omega, sm_of hm.2.2.1, hb, hc⟩
theorem fits_step {w w' : World} {A A' : A9} {s : St} {r : Rq} (hi : SIn w A s) (hf : Fits A s) (hi' : SIn w' A' (step s r).1) : Fits A' (step s r).1 := by
 rcases step_good s r with ⟨e, _, h⟩ | ⟨_, hm, _, hd⟩
 ·rw [h] at hi' ⊢
  have h1 := hi.p.1.symm.trans hi'.p.1
  have h2 := hi.l.1.symm.trans hi'.l.1
  have h3 := hi.h.1.symm.trans hi'.h.1
  exact ⟨h1 ▸ hf.p, h2 ▸ hf.l, h3 ▸ hf.h, hf.sm, hf.b, hf.c⟩
 ·exact fits_may hi' hm (by rw [hd]; exact hf.b) (by rw [hd]; exact hf.c)
theorem run_evlen {n : Int} : ∀ (f : Nat) (s : St), (run n f s).2.length <= f
 | 0, s => Nat.le_refl _
 | f + 1, s => by
  unfold run
  split
  ·simp
  ·simpa using run_evlen f _
theorem pools_evlen {s : St} {r : List O.Pl × Int} {e : Ev} : (ofPools s r e).2.1.length <= 33 := by unfold ofPools; split <;> simp [err]
theorem step_evlen (s : St) (r : Rq) : (step s r).2.1.length <= 33 := by
 by_cases h0 : ¬ May s \/ r.k < 0 \/ 9 <= r.k
 ·unfold step; rw [if_pos h0]; simp [err]
 have hm : May s := Decidable.byContradiction fun e => h0 (.inl e)
 have hl := hm.2.2.2.2.1
 have hg : (grant s r.s).2.1.length <= 33 := by
  rcases grant_cases (sub := r.s) hm with ⟨e, _, h⟩ | ⟨x, b, _, _, _, _, _, _, _, _, _, h⟩ <;> rw [h] <;> simp [err]
 have hr : (refresh s r.s r.a r.b).2.1.length <= 33 := by 
  unfold refresh
  split
  ·split <;> simp [err]
  ·simp [err]
 have hl2 : (release s r.s r.a r.b).2.1.length <= 33 := by 
  unfold release
  split
  ·split <;> simp [err]
  ·simp [err]
 have ht : (tick s r.n).2.1.length <= 33 := by
  unfold tick
  split
  ·simp [err]
  ·have := run_evlen (n := r.n) s.l.length s
   show (run r.n s.l.length s).2.length <= 33
   omega
 have hp : (policy s r.p).2.1.length <= 33 := by 
  unfold policy
  split
  ·simp [err]
  ·split <;> simp [err]
 unfold step
 rw [if_neg h0]
 repeat' split
 all_goals first | assumption | exact pools_evlen
theorem script_evlen : ∀ (l : List Rq) (s : St), (script s l).2.length <= 33 * l.length
 | [], s => by simp [script]
 | r :: l, s => by
  have h1 := step_evlen s r
  have h2 := script_evlen l (step s r).1
  simp only [script, List.length_append, List.length_cons]
  omega
theorem script_take {l : List Rq} {j : Nat} {r : Rq} (h : l[j]? = some r) (s : St) : script s (l.take (j + 1)) = ((step (script s (l.take j)).1 r).1, (script s (l.take j)).2 ++ (step (script s (l.take j)).1 r).2.1) := by
 rw [List.take_add_one, h]
 exact script_snoc _ _ _
end Y
open Go.RowKit
theorem zca (s : Y.St) (ap : Option Addr) (np cp : Nat) (al : Option Addr) (nl cl : Nat) (ah : Option Addr) (nh ch : Nat) (r : Y.Rq) (t : Y.St) (evs : List Y.Ev) (er x y : Int) (ne : Nat) (hst : Y.step s r = (t, evs, er, x, y)) (hne : evs.length = ne) (w : World)
  (h : Y.SIn w ⟨ap, np, cp, al, nl, cl, ah, nh, ch⟩ s) (hf : Y.Fits ⟨ap, np, cp, al, nl, cl, ah, nh, ch⟩ s) (ra : r.k = 4 -> r.a <= 9223372036854775807) :
  Calls Tryz.prog 14 #[.agg #[s.d.b, s.d.k, s.d.c, s.d.j, s.d.lo, s.d.hi, s.d.dy, s.d.bl, s.p.q, s.p.i, s.p.h, s.p.pair, s.now, .slice ap np cp, .slice al nl cl, .slice ah nh ch],
   .agg #[r.k, r.s, r.a, r.b, r.n, r.p.q, r.p.i, r.p.h, r.p.pair]] w fun e w' => ∃ (ap2 : Option Addr) (np2 cp2 : Nat) (al2 : Option Addr) (nl2 cl2 : Nat) (ah2 : Option Addr) (nh2 ch2 : Nat) (ea : Option Addr) (ec : Nat),
   e = .returned (.tuple #[.agg #[t.d.b, t.d.k, t.d.c, t.d.j, t.d.lo, t.d.hi, t.d.dy, t.d.bl, t.p.q, t.p.i, t.p.h, t.p.pair, t.now, .slice ap2 np2 cp2, .slice al2 nl2 cl2, .slice ah2 nh2 ch2], .slice ea ne ec, .agg #[er, x, y]]) /\
   Hid (Y.SIn w' ⟨ap2, np2, cp2, al2, nl2, cl2, ah2, nh2, ch2⟩ t) /\ Hid (VIn w' ea ne ec evs) /\ Hid (Y.Fits ⟨ap2, np2, cp2, al2, nl2, cl2, ah2, nh2, ch2⟩ t) /\ Hid (Y.Up w.heap.size ⟨ap2, np2, cp2, al2, nl2, cl2, ah2, nh2, ch2⟩) /\ Hid (∀ q, ea = some q -> w.heap.size <= q.block) /\ Below w.heap.size w w' := by
 refine (zmq s _ r w h hf ra).mono ?_
 rintro e w' ⟨⟨ap2, np2, cp2, al2, nl2, cl2, ah2, nh2, ch2⟩, ea, ec, rfl, hi, hv, hb, hu, he⟩
 have hf2 := Y.fits_step h hf hi.out
 rw [hst] at hi hv hf2 ⊢
 subst hne
 exact ⟨ap2, np2, cp2, al2, nl2, cl2, ah2, nh2, ch2, ea, ec, rfl, hi, hv, Zh hf2, Zh hu, Zh he, hb⟩
open Go.RowKit
theorem Blok.apart {w : World} {g g' : Nat} {t t' : TypeId} {cs cs' : Array Value} (h : Blok w g t cs) (k : Blok w g' t' cs') (hs : cs.size ≠ cs'.size) : g ≠ g' := by
 intro e
 subst e
 have h1 : w.heap[g]? = some (.cells cs t (0, 0)) := h
 have h2 : w.heap[g]? = some (.cells cs' t' (0, 0)) := k
 rw [h1] at h2
 simp only [Option.some.injEq, Obj.cells.injEq] at h2
 exact hs (by rw [h2.1])
theorem Blok.keep {w w' : World} {g g' : Nat} {t t' : TypeId} {cs cs' : Array Value} (h : Blok w g t cs) (k : Blok w g' t' cs') (hs : cs.size ≠ cs'.size) (hg : w.grownBy w' (some g')) : Blok w' g t cs :=
 h.grown hg (by simpa using h.apart k hs)
theorem Blok.keepNe {w w' : World} {g g' : Nat} {t : TypeId} {cs : Array Value} (h : Blok w g t cs) (hn : g ≠ g') (hg : w.grownBy w' (some g')) : Blok w' g t cs :=
 h.grown hg (by simpa using hn)
theorem box0 {w w1 w2 : World} {t1 : TypeId} {z1 c1 : Array Value} (h1 : w.alloc (.cells z1 t1) = w1) (h3 : w1.setRow w.heap.size c1 = w2) :
  Blok w1 w.heap.size t1 z1 /\ Blok w2 w.heap.size t1 c1 /\ Below w.heap.size w w2 /\ w1.heap.size = w.heap.size + 1 := by
 have e1 : w1.heap.size = w.heap.size + 1 := by rw [<- h1]; simp
 have k1 : Blok w1 w.heap.size t1 z1 := by rw [<- h1]; exact Blok.new w t1 z1
 have g1 : w1.grownBy w2 (some w.heap.size) := by rw [<- h3]; exact zbr _ _ _
 have hb1 : Below w.heap.size w w1 := by rw [<- h1]; exact (Below.refl _ w).alloc (Nat.le_refl _) _
 exact ⟨k1, by rw [<- h3]; exact k1.put _, hb1.grown g1 hb1.size (fun q hq => by cases hq; exact Nat.le_refl _), e1⟩
theorem box1 {w w1 w2 w3 : World} {t1 ts : TypeId} {z1 c1 s0 s1 : Array Value} {g : Nat} (K : Blok w g ts s0) (h1 : w.alloc (.cells z1 t1) = w1) (h2 : w1.setRow g s1 = w2) (h3 : w2.setRow w.heap.size c1 = w3) :
  Blok w1 g ts s0 /\ Blok w2 w.heap.size t1 z1 /\ Blok w3 g ts s1 /\ Blok w3 w.heap.size t1 c1 /\ w.grownBy w3 (some g) /\ g < w.heap.size := by
 have hg := K.lt
 have e1 : w1.heap.size = w.heap.size + 1 := by rw [<- h1]; simp
 have hb1 : Below w.heap.size w w1 := by rw [<- h1]; exact (Below.refl _ w).alloc (Nat.le_refl _) _
 have k0 : Blok w1 g ts s0 := K.below hb1 hg
 have k1 : Blok w1 w.heap.size t1 z1 := by rw [<- h1]; exact Blok.new w t1 z1
 have g1 : w1.grownBy w2 (some g) := by rw [<- h2]; exact zbr _ _ _
 have g2 : w2.grownBy w3 (some w.heap.size) := by rw [<- h3]; exact zbr _ _ _
 have k2 : Blok w2 g ts s1 := by rw [<- h2]; exact k0.put _
 have k3 : Blok w2 w.heap.size t1 z1 := k1.keepNe (by omega) g1
 refine ⟨k0, k3, k2.keepNe (by omega) g2, by rw [<- h3]; exact k3.put _, ?_, hg⟩
 refine ⟨g2.os.trans (g1.os.trans hb1.os), g2.tape.trans (g1.tape.trans hb1.tape), g2.output.trans (g1.output.trans hb1.output), Nat.le_trans hb1.size (Nat.le_trans g1.size g2.size), fun i hi hr => ?_⟩
 have hi1 : i < w1.heap.size := by omega
 have hi2 : i < w2.heap.size := Nat.lt_of_lt_of_le hi1 g1.size
 rw [g2.block i hi2 (by simp; omega), g1.block i hi1 hr, hb1.block i hi]
theorem zbb {H : Nat} {w w' w'' : World} {g : Nat} (h : Below H w w') (hg : w'.grownBy w'' (some g)) (hw : H <= w'.heap.size) (hl : H <= g) : Below H w w'' := h.grown hg hw (fun q hq => by cases hq; exact hl)
theorem Y.as3 {w : World} {g : Nat} {t : TypeId} {a b c : Value} (h : Blok w g t #[a, b, c]) : w.cell? ⟨g, 0, none⟩ = some a /\ w.cell? ⟨g, 1, none⟩ = some b /\ w.cell? ⟨g, 2, none⟩ = some c := ⟨h.cell 0, h.cell 1, h.cell 2⟩
theorem Y.as16 {w : World} {g : Nat} {t : TypeId} {a0 a1 a2 a3 a4 a5 a6 a7 a8 a9 a10 a11 a12 a13 a14 a15 : Value} (h : Blok w g t #[a0, a1, a2, a3, a4, a5, a6, a7, a8, a9, a10, a11, a12, a13, a14, a15]) : w.cell? ⟨g, 0, none⟩ = some a0 /\ w.cell? ⟨g, 1, none⟩ = some a1 /\ w.cell? ⟨g, 2, none⟩ = some a2 /\ w.cell? ⟨g, 3, none⟩ = some a3 /\ w.cell? ⟨g, 4, none⟩ = some a4 /\ w.cell? ⟨g, 5, none⟩ = some a5 /\ w.cell? ⟨g, 6, none⟩ = some a6 /\ w.cell? ⟨g, 7, none⟩ = some a7 /\ w.cell? ⟨g, 8, none⟩ = some a8 /\ w.cell? ⟨g, 9, none⟩ = some a9 /\ w.cell? ⟨g, 10, none⟩ = some a10 /\ w.cell? ⟨g, 11, none⟩ = some a11 /\ w.cell? ⟨g, 12, none⟩ = some a12 /\ w.cell? ⟨g, 13, none⟩ = some a13 /\ w.cell? ⟨g, 14, none⟩ = some a14 /\ w.cell? ⟨g, 15, none⟩ = some a15 := ⟨h.cell 0, h.cell 1, h.cell 2, h.cell 3, h.cell 4, h.cell 5, h.cell 6, h.cell 7, h.cell 8, h.cell 9, h.cell 10, h.cell 11, h.cell 12, h.cell 13, h.cell 14, h.cell 15⟩
end Go.Proofs.YtonejangijkdmaaGreat
