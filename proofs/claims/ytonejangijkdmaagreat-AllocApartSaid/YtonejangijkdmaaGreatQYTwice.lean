
import Derived.Test.YtonejangijkdmaaGreatQI
import Derived.Test.YtonejangijkdmaaGreatYA
namespace Go.Proofs.YtonejangijkdmaaGreat
namespace Y
theorem tick_ok {s : St} {n : Int} (h : s.now <= n /\ n <= 1073741824) : tick s n = (after s n, (run n s.l.length s).2, 0, ((run n s.l.length s).2.length : Int), 0) := by
 unfold tick; rw [if_neg (by omega)]; rfl
theorem tick_in {s : St} {n : Int} (h : (tick s n).2.2.1 = 0) : s.now <= n /\ n <= 1073741824 := by
 unfold tick at h
 by_cases h2 : n < s.now \/ 1073741824 < n
 ·rw [if_pos h2] at h; cases h
 ·omega
theorem st_ext {s t : St} (h1 : s.d = t.d) (h2 : s.p = t.p) (h3 : s.now = t.now) (h4 : s.ps = t.ps) (h5 : s.l = t.l) (h6 : s.h = t.h) : s = t := by
 cases s; cases t; simp_all
def Given (s : St) (sub : Int) (r : An) : Prop := (∃ e, e ≠ 0 /\ r = err s e) \/ ∃ x b : Int, 0 <= b /\ block s x = b /\ E.baseB s.d sub = true /\ (cnt s.l sub : Int) < s.p.q /\ (s.p.pair = true -> E.baseA s.d sub = x) /\
  (L.put s.l ⟨sub, x, b, s.now, s.now⟩).2 = true /\ O.gives s.ps x = true /\ L.find s.l x b = -1 /\ (∀ y ∈ s.h, ¬ (y.a = x /\ y.b = b)) /\
  r = ({ s with l := (L.put s.l ⟨sub, x, b, s.now, s.now⟩).1 }, [⟨0, s.now, sub, x, b, zp⟩], 0, x, b)
theorem give_cases {s : St} {sub : Int} (hm : May s) (x : Int) (h1 : E.baseB s.d sub = true) (h2 : (cnt s.l sub : Int) < s.p.q) (h3 : s.p.pair = true -> E.baseA s.d sub = x) : Given s sub (give s sub x) := by
 unfold give
 by_cases hb : block s x < 0
 ·rw [if_pos hb]; exact .inl ⟨7, by decide, rfl⟩
 ·rw [if_neg hb]
  obtain ⟨g1, _, g3, g4⟩ := block_ok hm.1 (x := x) rfl (by omega)
  exact .inr ⟨x, block s x, by omega, rfl, h1, h2, h3, (give_ok hm h1 h2 h3 rfl (by omega)).1, g1, g3, g4, rfl⟩
theorem grant_cases {s : St} {sub : Int} (hm : May s) : Given s sub (grant s sub) := by
 unfold grant
 by_cases h1 : E.baseB s.d sub = false
 ·rw [if_pos h1]; exact .inl ⟨5, by decide, rfl⟩
 rw [if_neg h1]
 by_cases h2 : s.p.q <= cnt s.l sub
 ·rw [if_pos h2]; exact .inl ⟨6, by decide, rfl⟩
 rw [if_neg h2]
 by_cases h3 : s.p.pair = true
 ·rw [if_pos h3]
  by_cases h4 : O.of s.ps (E.baseA s.d sub) < 0
  ·rw [if_pos h4]; exact .inl ⟨7, by decide, rfl⟩
  rw [if_neg h4]
  by_cases h5 : O.gives s.ps (E.baseA s.d sub) = false
  ·rw [if_pos h5]; exact .inl ⟨8, by decide, rfl⟩
  rw [if_neg h5]
  exact give_cases hm _ (by simpa using h1) (by omega) (fun _ => rfl)
 ·rw [if_neg h3]
  exact give_cases hm _ (by simpa using h1) (by omega) (fun e => absurd e h3)
end Y
end Go.Proofs.YtonejangijkdmaaGreat
