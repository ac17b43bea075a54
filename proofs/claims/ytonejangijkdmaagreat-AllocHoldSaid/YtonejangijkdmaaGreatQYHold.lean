
import Derived.Test.YtonejangijkdmaaGreatQI
import Derived.Test.YtonejangijkdmaaGreatYX
import Derived.Test.YtonejangijkdmaaGreatQYTwice
namespace Go.Proofs.YtonejangijkdmaaGreat
namespace Y
def holdOf (h : Int) (l : List Ev) : Int := l.foldl (fun h e => if e.k = 6 then e.p.h else h) h
theorem holdOf_app (h : Int) (l k : List Ev) : holdOf h (l ++ k) = holdOf (holdOf h l) k := by unfold holdOf; rw [List.foldl_append]
theorem holdOf_none : ∀ {l : List Ev} (h : Int), (∀ e ∈ l, e.k ≠ 6) -> holdOf h l = h
 | [], _, _ => rfl
 | e :: l, h, hl => by
  have h1 := hl e (by simp)
  show holdOf (if e.k = 6 then e.p.h else h) l = h
  rw [if_neg h1]; exact holdOf_none h (fun e he => hl e (by simp [he]))
def Sure (s : St) (a b v : Int) : Prop := v <= s.now \/ ∃ y ∈ s.h, y.a = a /\ y.b = b /\ v <= y.x
structure Inv (h : Int) (s : St) (E : List Ev) : Prop where
 hold : holdOf h E = s.p.h
 sure : ∀ (i : Nat) (e : Ev), E[i]? = some e -> e.k = 1 -> Sure s e.b e.c (e.t + holdOf h (E.take i))
 past : ∀ (i k : Nat) (e g : Ev), i < k -> E[i]? = some e -> E[k]? = some g -> e.k = 1 -> g.k = 0 -> e.b = g.b -> e.c = g.c -> e.t + holdOf h (E.take i) <= g.t
theorem Inv.add {h : Int} {s t : St} {E F : List Ev} (I : Inv h s E) (hold : holdOf s.p.h F = t.p.h) (old : ∀ a b v, Sure s a b v -> Sure t a b v)
  (new : ∀ (i : Nat) (e : Ev), F[i]? = some e -> e.k = 1 -> Sure t e.b e.c (e.t + holdOf s.p.h (F.take i)))
  (grants : ∀ (k : Nat) (g : Ev), F[k]? = some g -> g.k = 0 -> k = 0 /\ ∀ v, Sure s g.b g.c v -> v <= g.t) : Inv h t (E ++ F) := by
 have take1 : ∀ i, i < E.length -> (E ++ F).take i = E.take i := fun i hi => by rw [List.take_append_of_le_length (by omega)]
 have at1 : ∀ i e, i < E.length -> (E ++ F)[i]? = some e -> E[i]? = some e := fun i e hi h => by rw [List.getElem?_append_left hi] at h; exact h
 have at2 : ∀ i e, ¬ i < E.length -> (E ++ F)[i]? = some e -> F[i - E.length]? = some e := fun i e hi h => by rw [List.getElem?_append_right (by omega)] at h; exact h
 have take2 : ∀ i, ¬ i < E.length -> holdOf h ((E ++ F).take i) = holdOf s.p.h (F.take (i - E.length)) := fun i hi => by
  rw [List.take_append, List.take_of_length_le (by omega), holdOf_app, I.hold]
 refine ⟨by rw [holdOf_app, I.hold, hold], fun i e he hk => ?_, fun i k e g hik he hg hk hk2 e1 e2 => ?_⟩
 ·by_cases hi : i < E.length
  ·rw [take1 i hi]; exact old _ _ _ (I.sure i e (at1 i e hi he) hk)
  ·rw [take2 i hi]; exact new _ e (at2 i e hi he) hk
 ·by_cases hkl : k < E.length
  ·rw [take1 i (by omega)]
   exact I.past i k e g hik (at1 i e (by omega) he) (at1 k g hkl hg) hk hk2 e1 e2
  ·obtain ⟨h0, h1⟩ := grants _ g (at2 k g hkl hg) hk2
   have hi : i < E.length := by omega
   rw [take1 i hi]
   refine h1 _ ?_
   rw [<- e1, <- e2]
   exact I.sure i e (at1 i e hi he) hk
theorem Inv.same {h : Int} {s t : St} {E : List Ev} (I : Inv h s E) (hp : t.p.h = s.p.h) (hn : t.now = s.now) (hh : t.h = s.h) : Inv h t E := by
 refine ⟨by rw [hp]; exact I.hold, fun i e he hk => ?_, I.past⟩
 have := I.sure i e he hk
 unfold Sure at *
 rw [hn, hh]; exact this
theorem Inv.one {h : Int} {s t : St} {E : List Ev} {x : Ev} (I : Inv h s E) (hx0 : x.k ≠ 0) (hx1 : x.k ≠ 1) (hold : (if x.k = 6 then x.p.h else s.p.h) = t.p.h) (hn : t.now = s.now) (hh : t.h = s.h) : Inv h t (E ++ [x]) := by
 refine I.add hold (fun a b v hs => by unfold Sure at *; rw [hn, hh]; exact hs) (fun i e he hk => ?_) (fun k g hg hk => ?_)
 ·obtain rfl : e = x := by
   have := List.mem_of_getElem? he; simpa using this
  exact absurd hk hx1
 ·obtain rfl : g = x := by
   have := List.mem_of_getElem? hg; simpa using this
  exact absurd hk hx0
theorem run_evs {n : Int} : ∀ {f : Nat} {s : St}, L.Srt s.l -> ∀ e ∈ (run n f s).2, e.k = 1 /\ ∃ x ∈ s.l, e.t = x.t + s.p.i /\ x.t + s.p.i <= n /\ e.b = x.a /\ e.c = x.b
 | 0, _, _ => fun e he => by simp [run] at he
 | f + 1, s, hs => fun e he => by
  cases h : due s.p.i n s.l with
  | none => rw [run_none h] at he; simp at he
  | some x =>
   rw [run_some h] at he
   obtain ⟨h1, h2, _⟩ := due_some h
   rcases List.mem_cons.1 he with rfl | he
   ·exact ⟨rfl, x, h1, rfl, h2, rfl, rfl⟩
   ·obtain ⟨k1, y, hy, k2⟩ := run_evs (f := f) (free1_srt hs) e he
    exact ⟨k1, y, ((del_mem hs h1).1 hy).1, k2⟩
theorem Inv.pools {h : Int} {s : St} {E : List Ev} {r : List O.Pl × Int} {x : Ev} (I : Inv h s E) (h0 : x.k ≠ 0) (h1 : x.k ≠ 1) (h6 : x.k ≠ 6) : Inv h (ofPools s r x).1 (E ++ (ofPools s r x).2.1) := by
 unfold ofPools
 split
 ·exact I.one h0 h1 (by rw [if_neg h6]) rfl rfl
 ·show Inv h s (E ++ []); rw [List.append_nil]; exact I
theorem Inv.step {h : Int} {s : St} {E : List Ev} (I : Inv h s E) (r : Rq) : Inv h (step s r).1 (E ++ (step s r).2.1) := by
 by_cases he : (Y.step s r).2.2.1 = 0
 rotate_left
 ·obtain ⟨e, _, h2⟩ := step_no he
  rw [h2]
  show Inv h s (E ++ []); rw [List.append_nil]; exact I
 obtain ⟨hm, _⟩ := step_yes he
 have hs := hm.2.2.2.2.2.1
 unfold Y.step at he ⊢
 by_cases hc : ¬ May s \/ r.k < 0 \/ 9 <= r.k
 ·rw [if_pos hc] at he; cases he
 rw [if_neg hc] at he ⊢
 by_cases k0 : r.k = 0
 ·rw [if_pos k0] at he ⊢
  rcases grant_cases hm (sub := r.s) with ⟨e, h1, h2⟩ | ⟨x, b, _, _, _, _, _, _, _, _, hh, h2⟩
  ·rw [h2] at he; exact absurd he h1
  ·rw [h2]
   refine I.add rfl (fun a b v h => h) (fun i e he hk => ?_) (fun k g hg hk => ?_)
   ·have := List.mem_of_getElem? he
    rw [List.mem_singleton] at this
    subst this; cases hk
   ·have h3 := List.mem_of_getElem? hg
    have h4 := (List.getElem?_eq_some_iff.1 hg).1
    rw [List.mem_singleton] at h3
    subst h3
    refine ⟨by simpa using h4, fun v hv => ?_⟩
    rcases hv with hv | ⟨y, hy, e1, e2, _⟩
    ·exact hv
    ·exact absurd ⟨e1, e2⟩ (hh y hy)
 rw [if_neg k0] at he ⊢
 by_cases k1 : r.k = 1
 ·rw [if_pos k1] at he ⊢
  unfold refresh at he ⊢
  cases hg : get s r.a r.b with
  | none => rw [hg] at he; cases he
  | some x =>
   rw [hg] at he
   simp only at he ⊢
   split at he
   ·rename_i hx
    rw [if_pos hx]
    show Inv h _ (E ++ []); rw [List.append_nil]
    exact I.same rfl rfl rfl
   ·cases he
 rw [if_neg k1] at he ⊢
 by_cases k2 : r.k = 2
 ·rw [if_pos k2] at he ⊢
  unfold release at he ⊢
  cases hg : get s r.a r.b with
  | none => rw [hg] at he; cases he
  | some x =>
   rw [hg] at he
   simp only at he ⊢
   split at he
   ·rename_i hx
    rw [if_pos hx]
    obtain ⟨hxl, _, _⟩ := get_some hg
    refine I.add rfl (fun a b v hv => ?_) (fun i e he hk => ?_) (fun k g hg hk => ?_)
    ·rcases hv with hv | ⟨y, hy, e1, e2, e3⟩
     ·exact .inl hv
     ·refine .inr ⟨y, free1_mem.2 (.inr ⟨hy, fun e => ?_⟩), e1, e2, e3⟩
      exact (hm.2.2.2.2.2.2.2.2 y hy).2.2.2 x hxl ⟨e.2.1.symm, e.2.2.symm⟩
    ·have h3 := List.mem_of_getElem? he
     have h4 := (List.getElem?_eq_some_iff.1 he).1
     rw [List.mem_singleton] at h3
     subst h3
     obtain rfl : i = 0 := by simpa using h4
     show Sure _ x.a x.b (s.now + s.p.h)
     by_cases hp : 0 < s.p.h
     ·exact .inr ⟨_, free1_mem.2 (.inl ⟨hp, rfl⟩), rfl, rfl, Int.le_refl _⟩
     ·refine .inl ?_
      show s.now + s.p.h <= s.now; omega
    ·have h3 := List.mem_of_getElem? hg
     rw [List.mem_singleton] at h3
     subst h3; cases hk
   ·cases he
 rw [if_neg k2] at he ⊢
 by_cases k3 : r.k = 3
 ·rw [if_pos k3] at he ⊢
  have hin := tick_in he
  rw [tick_ok hin]
  have hev := run_evs (n := r.n) (f := s.l.length) hs
  obtain ⟨a1, a2, a3, a4⟩ := after_keep s r.n
  have h6 : ∀ e ∈ (run r.n s.l.length s).2, e.k ≠ 6 := fun e he => by rw [(hev e he).1]; decide
  refine I.add (by rw [holdOf_none _ h6, a2]) (fun a b v hv => ?_) (fun i e he hk => ?_) (fun k g hg hk => ?_)
  ·rcases hv with hv | ⟨y, hy, e1, e2, e3⟩
   ·exact .inl (by rw [a3]; omega)
   ·by_cases hyn : r.n < y.x
    ·refine .inr ⟨y, (after_h hs).2 ⟨hyn, .inr ⟨hy, ?_⟩⟩, e1, e2, e3⟩
     rintro ⟨_, x, hx, _, e⟩
     exact (hm.2.2.2.2.2.2.2.2 y hy).2.2.2 x hx ⟨e.1.symm, e.2.symm⟩
    ·exact .inl (by rw [a3]; omega)
  ·have h3 := List.mem_of_getElem? he
   obtain ⟨_, x, hx, e1, e2, e3, e4⟩ := hev e h3
   rw [holdOf_none _ (fun e he => h6 e (List.mem_of_mem_take he)), e1, e3, e4]
   by_cases hp : r.n < x.t + s.p.i + s.p.h
   ·exact .inr ⟨_, (after_h hs).2 ⟨hp, .inl ⟨by omega, x, hx, e2, rfl⟩⟩, rfl, rfl, Int.le_refl _⟩
   ·exact .inl (by rw [a3]; omega)
  ·rw [(hev g (List.mem_of_getElem? hg)).1] at hk; cases hk
 rw [if_neg k3] at he ⊢
 by_cases k4 : r.k = 4
 ·rw [if_pos k4]; exact I.pools (show (2 : Int) ≠ 0 by decide) (show (2 : Int) ≠ 1 by decide) (show (2 : Int) ≠ 6 by decide)
 rw [if_neg k4] at he ⊢
 by_cases k5 : r.k = 5
 ·rw [if_pos k5]; exact I.pools (show (3 : Int) ≠ 0 by decide) (show (3 : Int) ≠ 1 by decide) (show (3 : Int) ≠ 6 by decide)
 rw [if_neg k5] at he ⊢
 by_cases k6 : r.k = 6
 ·rw [if_pos k6]; exact I.pools (show (4 : Int) ≠ 0 by decide) (show (4 : Int) ≠ 1 by decide) (show (4 : Int) ≠ 6 by decide)
 rw [if_neg k6] at he ⊢
 by_cases k7 : r.k = 7
 ·rw [if_pos k7]; exact I.pools (show (5 : Int) ≠ 0 by decide) (show (5 : Int) ≠ 1 by decide) (show (5 : Int) ≠ 6 by decide)
 rw [if_neg k7] at he ⊢
 unfold policy at he ⊢
 by_cases q1 : ¬ MayP r.p
 ·rw [if_pos q1] at he; cases he
 rw [if_neg q1] at he ⊢
 by_cases q2 : ¬ May { s with p := r.p }
 ·rw [if_pos q2] at he; cases he
 rw [if_neg q2]
 exact I.one (show (6 : Int) ≠ 0 by decide) (show (6 : Int) ≠ 1 by decide) (if_pos rfl) rfl rfl
theorem inv_script {h : Int} : ∀ (l : List Rq) {s : St} {E : List Ev}, Inv h s E -> Inv h (script s l).1 (E ++ (script s l).2)
 | [], s, E, I => by show Inv h s (E ++ []); rw [List.append_nil]; exact I
 | r :: l, s, E, I => by
  have := inv_script l (I.step r)
  rw [List.append_assoc] at this
  exact this
theorem inv_new {d : E.D} {p : Po} {s : St} (h : new d p = some s) : Inv p.h s [] := by
 obtain ⟨rfl, _⟩ := new_is h
 exact ⟨rfl, fun i e he => by simp at he, fun i k e g _ he => by simp at he⟩
theorem held_past {d : E.D} {p : Po} {s : St} (h : new d p = some s) (l : List Rq) {i k : Nat} {e g : Ev} (hik : i < k) (he : (script s l).2[i]? = some e) (hg : (script s l).2[k]? = some g) (h1 : e.k = 1) (h2 : g.k = 0) (h3 : g.b = e.b) (h4 : g.c = e.c) :
  e.t + holdOf p.h ((script s l).2.take i) <= g.t := by
 have I := inv_script l (inv_new h)
 rw [List.nil_append] at I
 exact I.past i k e g hik he hg h1 h2 h3.symm h4.symm
theorem apart {s : St} (hm : May s) {i k : Nat} {x y : L.Ls} (hx : s.l[i]? = some x) (hy : s.l[k]? = some y) (hne : i ≠ k) (ha : E.blkA s.d x.a x.b = E.blkA s.d y.a y.b) : E.blkT s.d x.a x.b < E.blkF s.d y.a y.b \/ E.blkT s.d y.a y.b < E.blkF s.d x.a x.b := by
 have hs := hm.2.2.2.2.2.1
 obtain ⟨hfx, _, _, a4, a5, a6, _⟩ := E.blk_in (hm.2.2.2.2.2.2.1 x (List.mem_of_getElem? hx)).2.1
 obtain ⟨_, _, _, b4, b5, b6, _⟩ := E.blk_in (hm.2.2.2.2.2.2.1 y (List.mem_of_getElem? hy)).2.1
 rw [a4, b4] at ha
 have hbl := hfx.bl
 obtain ⟨hi, ei⟩ := List.getElem?_eq_some_iff.1 hx
 obtain ⟨hk, ek⟩ := List.getElem?_eq_some_iff.1 hy
 have hlt : x.b < y.b \/ y.b < x.b := by
  rcases Nat.lt_or_gt_of_ne hne with h | h
  ·have := List.pairwise_iff_getElem.1 hs i k hi hk h
   rw [ei, ek] at this
   unfold L.Lt at this; omega
  ·have := List.pairwise_iff_getElem.1 hs k i hk hi h
   rw [ei, ek] at this
   unfold L.Lt at this; omega
 rcases hlt with h | h
 ·have := Int.mul_le_mul_of_nonneg_right (show x.b + 1 <= y.b by omega) (show 0 <= s.d.bl by omega)
  rw [Int.add_mul, Int.one_mul] at this
  omega
 ·have := Int.mul_le_mul_of_nonneg_right (show y.b + 1 <= x.b by omega) (show 0 <= s.d.bl by omega)
  rw [Int.add_mul, Int.one_mul] at this
  omega
theorem apart_base {s : St} (hm : May s) {i : Nat} {x : L.Ls} {sub : Int} (hx : s.l[i]? = some x) (hb : E.baseB s.d sub = true) : E.baseT s.d sub < E.blkF s.d x.a x.b := by
 obtain ⟨_, _, _, _, _, _, a7, _⟩ := E.blk_in (hm.2.2.2.2.2.2.1 x (List.mem_of_getElem? hx)).2.1
 obtain ⟨_, _, _, _, _, _, _, _, b9, _⟩ := E.base_in hb
 omega
theorem lies {s : St} (hm : May s) {i : Nat} {x : L.Ls} (hx : s.l[i]? = some x) : E.blkB s.d x.a x.b = true /\ s.d.lo <= E.blkF s.d x.a x.b /\ E.blkT s.d x.a x.b <= s.d.hi /\ 0 <= O.of s.ps (E.blkA s.d x.a x.b) := by
 have hk := hm.2.2.2.2.2.2.1 x (List.mem_of_getElem? hx)
 obtain ⟨hf, _, _, a4, a5, a6, a7, a8, a9, _⟩ := E.blk_in hk.2.1
 have := hf.lo
 have := hf.dy
 exact ⟨hk.2.1, by omega, a9, by rw [a4]; exact hk.2.2.1⟩
theorem quota {s : St} (hm : May s) (sub : Int) : ((L.of s.l sub).length : Int) <= s.p.q /\ s.p.q <= 8 /\ ∀ (j : Nat) (v : Int), (L.of s.l sub)[j]? = some v -> ∃ (i : Nat) (x : L.Ls), v = i /\ i < s.l.length /\ s.l[i]? = some x /\ (s.p.pair = true -> E.baseA s.d sub = x.a) := by
 refine ⟨?_, hm.2.1.2.1, fun j v h => ?_⟩
 ·cases he : L.of s.l sub with
  | nil => have := hm.2.1.1; simp; omega
  | cons v r =>
   obtain ⟨i, x, _, hx, hs⟩ := of_at (l := s.l) (sub := sub) (v := v) (j := 0) (by rw [he]; rfl)
   have := (hm.2.2.2.2.2.2.1 x (List.mem_of_getElem? hx)).2.2.2.2.2.2.2.2
   rw [<- he, of_len, <- hs]; exact this
 ·obtain ⟨i, x, e, hx, hs⟩ := of_at h
  refine ⟨i, x, e, (List.getElem?_eq_some_iff.1 hx).1, hx, fun hp => ?_⟩
  rw [<- hs]; exact (hm.2.2.2.2.2.2.1 x (List.mem_of_getElem? hx)).2.2.2.1 hp
end Y
end Go.Proofs.YtonejangijkdmaaGreat
