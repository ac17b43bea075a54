import Derived.Test.YtonejangijkdmaaGreatYA
namespace Go.Proofs.YtonejangijkdmaaGreat
namespace Y
theorem step_tick {s : St} {r : Rq} (hm : May s) (hk : r.k = 3) : step s r = tick s r.n := by
 unfold step
 rw [if_neg (by rintro (h | h | h); exact h hm; omega; omega), if_neg (by omega), if_neg (by omega), if_neg (by omega), if_pos hk]
theorem step_grant {s : St} {r : Rq} (hm : May s) (hk : r.k = 0) : step s r = grant s r.s := by
 unfold step
 rw [if_neg (by rintro (h | h | h); exact h hm; omega; omega), if_pos hk]
theorem step_refresh {s : St} {r : Rq} (hm : May s) (hk : r.k = 1) : step s r = refresh s r.s r.a r.b := by
 unfold step
 rw [if_neg (by rintro (h | h | h); exact h hm; omega; omega), if_neg (by omega), if_pos hk]
theorem step_release {s : St} {r : Rq} (hm : May s) (hk : r.k = 2) : step s r = release s r.s r.a r.b := by
 unfold step
 rw [if_neg (by rintro (h | h | h); exact h hm; omega; omega), if_neg (by omega), if_neg (by omega), if_pos hk]
theorem tick_ok {s : St} {n : Int} (h : s.now <= n /\ n <= 1073741824) : tick s n = (after s n, (run n s.l.length s).2, 0, ((run n s.l.length s).2.length : Int), 0) := by
 unfold tick; rw [if_neg (by omega)]; rfl
theorem tick_in {s : St} {n : Int} (h : (tick s n).2.2.1 = 0) : s.now <= n /\ n <= 1073741824 := by
 unfold tick at h
 by_cases h2 : n < s.now \/ 1073741824 < n
 ·rw [if_pos h2] at h; cases h
 ·omega
theorem st_ext {s t : St} (h1 : s.d = t.d) (h2 : s.p = t.p) (h3 : s.now = t.now) (h4 : s.ps = t.ps) (h5 : s.l = t.l) (h6 : s.h = t.h) : s = t := by
 cases s; cases t; simp_all
theorem tick_twice {s : St} {n m : Int} (hm : May s) (h0 : s.now <= n) (h1 : n <= m) (h2 : m <= 1073741824) :
  tick s m = ((tick (after s n) m).1, (tick s n).2.1 ++ (tick (after s n) m).2.1, 0, (tick s n).2.2.2.1 + (tick (after s n) m).2.2.2.1, 0) /\ (tick (after s n) m).2.2.1 = 0 := by
 obtain ⟨a1, a2, a3, a4⟩ := after_keep s n
 have hs := hm.2.2.2.2.2.1
 have hs2 : L.Srt (after s n).l := run_srt hs
 have hH := hm.2.2.2.2.2.2.2.1
 rw [tick_ok ⟨by omega, h2⟩, tick_ok (s := s) (n := n) ⟨h0, by omega⟩, tick_ok (s := after s n) ⟨by rw [a3]; exact h1, h2⟩]
 have hsp := run_split h1 (f := s.l.length) (s := s) (Nat.le_refl _)
 obtain ⟨e1, e2⟩ := run_same (n := m) (f := s.l.length) (s := (run n s.l.length s).1) (s' := after s n) rfl rfl
 have hlen : (after s n).l.length <= s.l.length := run_len _ _
 have e3 : run m s.l.length (after s n) = run m (after s n).l.length (after s n) := run_fuel hlen (Nat.le_refl _)
 rw [e3] at e1 e2
 have E1 : (run m s.l.length s).2 = (run n s.l.length s).2 ++ (run m (after s n).l.length (after s n)).2 := by rw [hsp]; simp only; rw [e1]
 have E2 : (after s m).l = (after (after s n) m).l := by
  show (run m s.l.length s).1.l = (run m (after s n).l.length (after s n)).1.l
  rw [hsp]; exact e2
 obtain ⟨b1, b2, b3, b4⟩ := after_keep s m
 obtain ⟨c1, c2, c3, c4⟩ := after_keep (after s n) m
 have E3 : after s m = after (after s n) m := by
  refine st_ext (by rw [b1, c1, a1]) (by rw [b2, c2, a2]) (by rw [b3, c3]) (by rw [b4, c4, a4]) E2 ?_
  refine srtH_ext (clean_srt (run_srtH hH) m) (clean_srt (run_srtH (clean_srt (run_srtH hH) n)) m) (fun y => ?_)
  show y ∈ (after s m).h ↔ y ∈ (after (after s n) m).h
  rw [after_h hs, after_h hs2, a2, after_h hs]
  constructor
  ·rintro ⟨hy, hc⟩
   refine ⟨hy, ?_⟩
   rcases hc with ⟨hp, x, hx, hxm, rfl⟩ | ⟨hyh, hno⟩
   ·by_cases hxn : n < x.t + s.p.i
    ·exact .inl ⟨hp, x, (after_mem hs).2 ⟨hx, hxn⟩, hxm, rfl⟩
    ·refine .inr ⟨⟨by omega, .inl ⟨hp, x, hx, by omega, rfl⟩⟩, ?_⟩
     rintro ⟨_, z, hz, _, e1, e2⟩
     obtain ⟨hz1, hz2⟩ := (after_mem hs).1 hz
     have := blk_one hs hz1 hx e1.symm e2.symm
     subst this; omega
   ·refine .inr ⟨⟨by omega, .inr ⟨hyh, ?_⟩⟩, ?_⟩
    ·rintro ⟨hp, x, hx, hxn, e⟩
     exact hno ⟨hp, x, hx, by omega, e⟩
    ·rintro ⟨hp, x, hx, hxn, e⟩
     exact hno ⟨hp, x, ((after_mem hs).1 hx).1, hxn, e⟩
  ·rintro ⟨hy, hc⟩
   refine ⟨hy, ?_⟩
   rcases hc with ⟨hp, x, hx, hxm, rfl⟩ | ⟨⟨_, hyh⟩, hno⟩
   ·exact .inl ⟨hp, x, ((after_mem hs).1 hx).1, hxm, rfl⟩
   ·rcases hyh with ⟨hp, x, hx, hxn, rfl⟩ | ⟨hyh, hno2⟩
    ·exact .inl ⟨hp, x, hx, by omega, rfl⟩
    ·refine .inr ⟨hyh, ?_⟩
     rintro ⟨hp, x, hx, hxm, e⟩
     by_cases hxn : n < x.t + s.p.i
     ·exact hno ⟨hp, x, (after_mem hs).2 ⟨hx, hxn⟩, hxm, e⟩
     ·exact hno2 ⟨hp, x, hx, by omega, e⟩
 rw [E3, E1]
 refine ⟨?_, rfl⟩
 rw [List.length_append]; simp
theorem idle {s : St} {y : L.Ls} {k : Int} {r q : Rq} (hy : y ∈ s.l) (hr : r.k = 1) (hrs : r.s = y.s) (hra : r.a = y.a) (hrb : r.b = y.b) (hq : q.k = 3) (hqn : q.n = (step s r).1.now + k)
  (h1 : (step s r).2.2.1 = 0) (h2 : (step (step s r).1 q).2.2.1 = 0) : decide (0 <= L.find (step (step s r).1 q).1.l y.a y.b) = decide (k < s.p.i) := by
 obtain ⟨hm, hm1, _⟩ := step_yes h1
 have hs := hm.2.2.2.2.2.1
 have hst : step s r = ({ s with l := s.l.map (fresh s y.a y.b) }, [], 0, y.a, y.b) := by
  rw [step_refresh hm hr, hra, hrb]
  unfold refresh
  rw [get_of hs hy rfl rfl]
  simp only
  rw [if_pos hrs.symm]; rfl
 rw [hst] at h2 hm1 hqn ⊢
 simp only at h2 hm1 hqn ⊢
 rw [step_tick hm1 hq] at h2 ⊢
 rw [tick_ok (tick_in h2), hqn]
 simp only
 have hs2 : L.Srt (s.l.map (fresh s y.a y.b)) := fresh_srt hs
 have hfy : fresh s y.a y.b y = { y with t := s.now } := by unfold fresh; rw [if_pos ⟨rfl, rfl⟩]
 by_cases hlt : k < s.p.i
 ·rw [decide_eq_true hlt]
  refine decide_eq_true ?_
  have : ¬ L.find (after { s with l := s.l.map (fresh s y.a y.b) } (s.now + k)).l y.a y.b = -1 := fun e => by
   refine L.find_none.1 e { y with t := s.now } ?_ ⟨rfl, rfl⟩
   refine (after_mem hs2).2 ⟨by rw [<- hfy]; exact List.mem_map.2 ⟨y, hy, rfl⟩, ?_⟩
   show s.now + k < s.now + s.p.i; omega
  have := (L.find_lt (after { s with l := s.l.map (fresh s y.a y.b) } (s.now + k)).l y.a y.b).1
  omega
 ·rw [decide_eq_false hlt]
  refine decide_eq_false ?_
  have : L.find (after { s with l := s.l.map (fresh s y.a y.b) } (s.now + k)).l y.a y.b = -1 := by
   refine L.find_none.2 fun z hz e => ?_
   obtain ⟨hz1, hz2⟩ := (after_mem hs2).1 hz
   have hyz : ({ y with t := s.now } : L.Ls) ∈ s.l.map (fresh s y.a y.b) := by rw [<- hfy]; exact List.mem_map.2 ⟨y, hy, rfl⟩
   have := blk_one hs2 hz1 hyz e.1 e.2
   subst this
   have hz3 : s.now + k < s.now + s.p.i := hz2
   omega
  omega
def Given (s : St) (sub : Int) (r : An) : Prop := (∃ e, e ≠ 0 /\ r = err s e) \/ ∃ x b : Int, 0 <= b /\ block s x = b /\ E.baseB s.d sub = true /\ (cnt s.l sub : Int) < s.p.q /\ (s.p.pair = true -> E.baseA s.d sub = x) /\
  (L.put s.l ⟨sub, x, b, s.now, s.now⟩).2 = true /\ O.gives s.ps x = true /\ L.find s.l x b = -1 /\ (∀ y ∈ s.h, ¬ (y.a = x /\ y.b = b)) /\
  r = ({ s with l := (L.put s.l ⟨sub, x, b, s.now, s.now⟩).1 }, [⟨0, s.now, sub, x, b, zp⟩], 0, x, b)
theorem give_cases {s : St} {sub : Int} (hm : May s) (x : Int) (h1 : E.baseB s.d sub = true) (h2 : (cnt s.l sub : Int) < s.p.q) (h3 : s.p.pair = true -> E.baseA s.d sub = x) : Given s sub (give s sub x) := by
 unfold give
 by_cases hb : block s x < 0
 ·rw [if_pos hb]; exact .inl ⟨7, by decide, rfl⟩
 ·rw [if_neg hb]
  obtain ⟨g1, _, g3, g4⟩ := block_ok hm.1 (x := x) rfl (by omega)
  exact .inr ⟨x, block s x, by omega, rfl, h1, h2, h3, (give_ok hm h1 h2 h3 rfl (by omega)).1, g1, g3, g4, rfl⟩
theorem grant_cases {s : St} {sub : Int} (hm : May s) : Given s sub (grant s sub) := by
 unfold grant
 by_cases h1 : E.baseB s.d sub = false
 ·rw [if_pos h1]; exact .inl ⟨5, by decide, rfl⟩
 rw [if_neg h1]
 by_cases h2 : s.p.q <= cnt s.l sub
 ·rw [if_pos h2]; exact .inl ⟨6, by decide, rfl⟩
 rw [if_neg h2]
 by_cases h3 : s.p.pair = true
 ·rw [if_pos h3]
  by_cases h4 : O.of s.ps (E.baseA s.d sub) < 0
  ·rw [if_pos h4]; exact .inl ⟨7, by decide, rfl⟩
  rw [if_neg h4]
  by_cases h5 : O.gives s.ps (E.baseA s.d sub) = false
  ·rw [if_pos h5]; exact .inl ⟨8, by decide, rfl⟩
  rw [if_neg h5]
  exact give_cases hm _ (by simpa using h1) (by omega) (fun _ => rfl)
 ·rw [if_neg h3]
  exact give_cases hm _ (by simpa using h1) (by omega) (fun e => absurd e h3)
theorem released {s : St} {y : L.Ls} {r q : Rq} (hm : May s) (hy : y ∈ s.l) (hr : r.k = 2) (hrs : r.s = y.s) (hra : r.a = y.a) (hrb : r.b = y.b) (hq : q.k = 1) (hqa : q.a = y.a) (hqb : q.b = y.b) :
  step s r = (free1 s y s.now, [evF y s.now], 0, y.a, y.b) /\ step (free1 s y s.now) r = err (free1 s y s.now) 5 /\ step (free1 s y s.now) q = err (free1 s y s.now) 5 /\
   ((free1 s y s.now).h.any fun z => decide (z = ⟨y.a, y.b, s.now + s.p.h⟩)) = decide (0 < s.p.h) /\ L.find (free1 s y s.now).l y.a y.b = -1 /\ (free1 s y s.now).l.length + 1 = s.l.length := by
 have hs := hm.2.2.2.2.2.1
 have hm1 := free1_may hm hy
 have hno : ∀ x ∈ (free1 s y s.now).l, ¬ (x.a = y.a /\ x.b = y.b) := fun x hx e => by
  obtain ⟨h1, h2⟩ := (del_mem hs hy).1 hx
  exact h2 (blk_one hs h1 hy e.1 e.2)
 have hg := get_none.2 hno
 refine ⟨?_, ?_, ?_, ?_, L.find_none.2 hno, free1_len hy⟩
 ·rw [step_release hm hr, hra, hrb]
  unfold release
  rw [get_of hs hy rfl rfl]
  simp only
  rw [if_pos hrs.symm]
 ·rw [step_release hm1 hr, hra, hrb]
  unfold release; rw [hg]
 ·rw [step_refresh hm1 hq, hqa, hqb]
  unfold refresh; rw [hg]
 ·by_cases hp : 0 < s.p.h
  ·rw [decide_eq_true hp, List.any_eq_true]
   exact ⟨_, free1_mem.2 (.inl ⟨hp, rfl⟩), decide_eq_true rfl⟩
  ·rw [decide_eq_false hp, List.any_eq_false]
   intro z hz e
   have e := of_decide_eq_true e
   subst e
   rcases free1_mem.1 hz with ⟨h, _⟩ | ⟨h, _⟩
   ·exact hp h
   ·exact (hm.2.2.2.2.2.2.2.2 _ h).2.2.2 y hy ⟨rfl, rfl⟩
end Y
end Go.Proofs.YtonejangijkdmaaGreat
