import Derived.Test.YtijkbflimbffmaaGreatP0
import Derived.Test.YtijkbflimbffmaaGreatP5
import Derived.Test.YtijkbflimbffmaaGreatP6
import Derived.Test.YtijkbflimbffmaaGreatP17
namespace Go.Proofs.YtijkbflimbffmaaGreat
open Go.RowKit
def ztr : TypeDesc -> Bool
 | .struct _ => true
 | .array _ _ => true
 | _ => false
theorem zr4 {fn : Func} {p q : Tmp} {t t' t0 t1 : TypeId} (h : fn.results = #[.cell p t, .cell q t']) {tmps : Array Value} {w : World} (g g' : Nat) (cs cs' : Array Value) {d d' : TypeDesc}
  (hp : tmps.getD p undef = .pointer (some ⟨g, 0, none⟩)) (hq : tmps.getD q undef = .pointer (some ⟨g', 0, none⟩)) (hg : Blok w g t0 cs) (hg' : Blok w g' t1 cs') (hu : Tryz.prog.underlying t = some d) (hd : ztr d = true) (hi : (Tryz.prog.info? t).map (·.size) = some cs.size)
  (hu' : Tryz.prog.underlying t' = some d') (hd' : ztr d' = true) (hi' : (Tryz.prog.info? t').map (·.size) = some cs'.size) :
  (results fn tmps).run Tryz.prog w = .ok (.tuple #[.agg cs, .agg cs']) w := by
 have hp' : tmps[p]?.getD undef = .pointer (some ⟨g, 0, none⟩) := by simpa using hp
 have hq' : tmps[q]?.getD undef = .pointer (some ⟨g', 0, none⟩) := by simpa using hq
 have hl := run_loadVar_row (P := Tryz.prog) w g t0 t cs (0, 0) _ hg hu (by cases d <;> first | rfl | cases hd) hi
 have hl' := run_loadVar_row (P := Tryz.prog) w g' t1 t' cs' (0, 0) _ hg' hu' (by cases d' <;> first | rfl | cases hd') hi'
 simp [results, h, hp', hq', asAddr, hl, hl', Result.andThen]
end Go.Proofs.YtijkbflimbffmaaGreat
namespace Go.Proofs.YtijkbflimbffmaaGreat
set_option maxHeartbeats 400000
set_option maxRecDepth 100000
open Go.RowKit
theorem zq9 (t : Int) (v : Bool) (hv : decide (N.tick t) = v) (w : World) :
  Calls Tryz.prog 86 #[.int .i64 t] w fun e w' => e = .returned (.bool v) /\ w' = w := by
 have HV := Zh hv
 clear hv
 go_enter Tryz.func86, Tryz.ntmps86
 go_wp2_with fail
 all_goals (go_ret; refine ⟨?_, rfl⟩; rw [<- HV.out]; first | (rw [decide_eq_false (show ¬ N.tick t by unfold N.tick; omega)]; rfl) | (rw [show decide (N.tick t) = decide (t <= 1073741824) from decide_eq_decide.2 (by unfold N.tick; omega)]; rfl))
theorem zra (k : Int) (h : 0 <= k /\ k <= 6) (w : World) :
  Calls Tryz.prog 87 #[.int .i64 k] w fun e w' => e = .returned (.tuple #[.agg #[.int .i64 0, .int .i64 (N.low k), .int .i64 0], .agg #[.int .i64 (N.hiA k), .int .i64 (N.hiB k), .int .i64 (N.hiC k)]]) /\ Below w.heap.size w w' := by
 have hk : k = 0 \/ k = 1 \/ k = 2 \/ k = 3 \/ k = 4 \/ k = 5 \/ k = 6 := by omega
 clear h
 rcases hk with rfl | rfl | rfl | rfl | rfl | rfl | rfl
 all_goals
  go_enter Tryz.func87, Tryz.ntmps87
  go_wp2_with fail
  go_region
  all_goals
   go_wp2
   refine bodyPost_ret (zr4 rfl w.heap.size (w.heap.size + 1) _ _ rfl rfl ((Blok.new w _ _).alloc _).drew (show Blok (World.drew (World.alloc (w.alloc _) _)) (w.heap.size + 1) _ _ from by simpa using (Blok.new (w.alloc _) _ _).drew) Tryz.underlying131 rfl (by kernel_rfl) Tryz.underlying131 rfl (by kernel_rfl)) (by kernel_rfl) ?_
   exact ⟨rfl, (((Below.refl _ w).alloc (Nat.le_refl _) _).alloc (by simp) _).drew⟩
def N.ecs (e : Y.Ev) : Array Value := #[.int .i64 e.k, .int .i64 e.t, .int .i64 e.a, .int .i64 e.b, .int .i64 e.c, .int .i64 e.p.q, .int .i64 e.p.i, .int .i64 e.p.h, .bool e.p.pair]
end Go.Proofs.YtijkbflimbffmaaGreat
namespace Go.Proofs.YtijkbflimbffmaaGreat
set_option maxHeartbeats 400000
set_option maxRecDepth 100000
open Go.RowKit
theorem zob (e : Y.Ev) (v : Bool) (hv : decide (N.May e) = v) (w : World) :
  Calls Tryz.prog 33 #[.agg (N.ecs e)] w fun x w' => x = .returned (.bool v) /\ Below w.heap.size w w' := by
 obtain ⟨w1, hw1, hb, hk⟩ := Zn w 34 (N.ecs e)
 have HB1 := Zh hb
 have KE1 := Zh hk
 have HV : Hid (decide ((0 <= e.k /\ e.k <= 6) /\ N.tick e.t /\ (0 <= e.a /\ e.a <= N.hiA e.k) /\ (N.low e.k <= e.b /\ e.b <= N.hiB e.k) /\ (0 <= e.c /\ e.c <= N.hiC e.k) /\ (e.k = 6 -> Y.MayP e.p) /\ (¬ e.k = 6 -> e.p = Y.zp)) = v) := Zh (by rw [<- hv]; exact decide_eq_decide.2 (N.may_iff e).symm)
 clear hb hk hv
 unfold N.ecs at *
 obtain ⟨k, t, a, b, c, p⟩ := e
 obtain ⟨q, i, h, pr⟩ := p
 simp only at HV KE1 hw1 ⊢
 have c0 := Zv KE1.out 0 (.int .i64 k)
 have c1 := Zv KE1.out 1 (.int .i64 t)
 have c2 := Zv KE1.out 2 (.int .i64 a)
 have c3 := Zv KE1.out 3 (.int .i64 b)
 have c4 := Zv KE1.out 4 (.int .i64 c)
 go_enter Tryz.func33, Tryz.ntmps33
 by_cases k0 : k < 0
 ·have d0 : decide (k < 0) = true := decide_eq_true k0
  have HE : Hid (v = false) := Zh (by rw [<- HV.out]; exact decide_eq_false fun h => by have := h.1; omega)
  go_wp2_with fail
  go_ret
  exact ⟨by rw [HE.out]; rfl, HB1.out⟩
 by_cases k7 : 7 <= k
 ·have d0 : decide (k < 0) = false := decide_eq_false k0
  have d1 : decide (7 <= k) = true := decide_eq_true k7
  have HE : Hid (v = false) := Zh (by rw [<- HV.out]; exact decide_eq_false fun h => by have := h.1; omega)
  go_wp2_with fail
  go_ret
  exact ⟨by rw [HE.out]; rfl, HB1.out⟩
 have d0 : decide (k < 0) = false := decide_eq_false k0
 have d1 : decide (7 <= k) = false := decide_eq_false k7
 obtain ⟨tk, htk⟩ : ∃ z, decide (N.tick t) = z := ⟨_, rfl⟩
 go_wp2_with fail
 refine (zq9 t tk htk w1).mono ?_
 rintro x w2 ⟨rfl, rfl⟩
 cases tk with
 | false =>
  have HE : Hid (v = false) := Zh (by rw [<- HV.out]; exact decide_eq_false fun h => of_decide_eq_false htk h.2.1)
  go_wp2_with fail
  go_ret
  exact ⟨by rw [HE.out]; rfl, HB1.out⟩
 | true =>
 go_wp2_with fail
 refine (zra k (by omega) w2).mono ?_
 rintro x w3 ⟨rfl, hb⟩
 have HB3 := Zt HB1 hb
 have KE3 := Zk KE1 hb
 clear hb c0 c1 c2 c3 c4 hw1
 obtain ⟨w4, hw4⟩ : ∃ W, w3.alloc (.cells #[.int .i64 0, .int .i64 0, .int .i64 0] 131) = W := ⟨_, rfl⟩
 obtain ⟨w5, hw5⟩ : ∃ W, w4.alloc (.cells #[.int .i64 0, .int .i64 0, .int .i64 0] 131) = W := ⟨_, rfl⟩
 obtain ⟨w6, hw6⟩ : ∃ W, w5.setRow w3.heap.size #[.int .i64 0, .int .i64 (N.low k), .int .i64 0] = W := ⟨_, rfl⟩
 obtain ⟨w7, hw7⟩ : ∃ W, w6.setRow w4.heap.size #[.int .i64 (N.hiA k), .int .i64 (N.hiB k), .int .i64 (N.hiC k)] = W := ⟨_, rfl⟩
 obtain ⟨z1, z2, kl, km, hb, e4⟩ := box2 hw4 hw5 hw6 hw7
 rw [e4] at z2 km
 have HW6 := Zh hw6
 have HW7 : Hid (w6.setRow (w3.heap.size + 1) #[.int .i64 (N.hiA k), .int .i64 (N.hiB k), .int .i64 (N.hiC k)] = w7) := Zh (by rw [<- hw7, e4])
 have HB7 := Zt HB3 hb
 have KE7 := Zk KE3 hb
 have KL7 := Zh kl
 have KM7 := Zh km
 have HZ1 := Zh z1
 have HZ2 := Zh z2
 clear hb kl km z1 z2 hw6 hw7
 obtain ⟨w8, hw8, hb, hk⟩ := Zn w7 131 #[.int .i64 a, .int .i64 b, .int .i64 c]
 have HB8 := Zt HB7 hb
 have KE8 := Zk KE7 hb
 have KL8 := Zk KL7 hb
 have KM8 := Zk KM7 hb
 clear hb
 have c0 := Zv KE3.out 0 (.int .i64 k)
 have c2 := Zv KE7.out 2 (.int .i64 a)
 have c3 := Zv KE7.out 3 (.int .i64 b)
 have c4 := Zv KE7.out 4 (.int .i64 c)
 have p0 := Zv hk 0 (.int .i64 a)
 have p1 := Zv hk 1 (.int .i64 b)
 have p2 := Zv hk 2 (.int .i64 c)
 clear hk
 go_wp2_with (first | (refine Zw HZ1.out HW6.out ?_) | (refine Zw HZ2.out HW7.out ?_))
 have l0 := Zv KL8.out 0 (.int .i64 0)
 have l1 := Zv KL8.out 1 (.int .i64 (N.low k))
 have l2 := Zv KL8.out 2 (.int .i64 0)
 have m0 := Zv KM8.out 0 (.int .i64 (N.hiA k))
 have m1 := Zv KM8.out 1 (.int .i64 (N.hiB k))
 have m2 := Zv KM8.out 2 (.int .i64 (N.hiC k))
 clear c0 c2 c3 c4 p0 p1 p2
 have d0 := Zv KE8.out 0 (.int .i64 k)
 have i0 : ∀ w, (Instr.index 131 (.agg #[.int .i64 a, .int .i64 b, .int .i64 c]) (.int .i64 0)).run Tryz.prog w = .ok (.int .i64 a) w := fun _ => by kernel_rfl
 have i1 : ∀ w, (Instr.index 131 (.agg #[.int .i64 a, .int .i64 b, .int .i64 c]) (.int .i64 1)).run Tryz.prog w = .ok (.int .i64 b) w := fun _ => by kernel_rfl
 have i2 : ∀ w, (Instr.index 131 (.agg #[.int .i64 a, .int .i64 b, .int .i64 c]) (.int .i64 2)).run Tryz.prog w = .ok (.int .i64 c) w := fun _ => by kernel_rfl
 refine wp_loop_rounds 4 ?_
 rw [rounds_succ]
 go_wp2_with fail
 all_goals first | (go_ret; exact ⟨by rw [show v = false from by rw [<- HV.out]; exact decide_eq_false fun hh => by obtain ⟨-, -, g1, g2, g3, -⟩ := hh; omega]; rfl, HB8.out⟩) | skip
 rw [rounds_succ]
 go_wp2_with fail
 all_goals first | (go_ret; exact ⟨by rw [show v = false from by rw [<- HV.out]; exact decide_eq_false fun hh => by obtain ⟨-, -, g1, g2, g3, -⟩ := hh; omega]; rfl, HB8.out⟩) | skip
 rw [rounds_succ]
 go_wp2_with fail
 all_goals first | (go_ret; exact ⟨by rw [show v = false from by rw [<- HV.out]; exact decide_eq_false fun hh => by obtain ⟨-, -, g1, g2, g3, -⟩ := hh; omega]; rfl, HB8.out⟩) | skip
 rw [rounds_succ]
 by_cases k6 : k = 6
 ·subst k6
  have d5 := Zv KE8.out 5 (.int .i64 q)
  have d6 := Zv KE8.out 6 (.int .i64 i)
  have d7 := Zv KE8.out 7 (.int .i64 h)
  have d8 := Zv KE8.out 8 (.bool pr)
  go_wp2_with fail
  refine (zbe ⟨q, i, h, pr⟩ v (by rw [<- HV.out]; rw [decide_eq_decide]; exact ⟨fun g => ⟨by omega, of_decide_eq_true htk, by assumption, by assumption, by assumption, fun _ => g, fun h => absurd trivial h⟩, fun g => g.2.2.2.2.2.1 trivial⟩) w8).mono ?_
  rintro x w9 ⟨rfl, hb⟩
  have HB9 := Zt HB8 hb
  clear hb
  go_wp2_with fail
  go_ret
  exact ⟨rfl, HB9.out⟩
 ·have dk : decide (k = 6) = false := decide_eq_false k6
  have d5 := Zv KE8.out 5 (.int .i64 q)
  have d6 := Zv KE8.out 6 (.int .i64 i)
  have d7 := Zv KE8.out 7 (.int .i64 h)
  have d8 := Zv KE8.out 8 (.bool pr)
  have HV2 : Hid (v = (decide (q = 0) && (decide (i = 0) && (decide (h = 0) && !pr)))) := Zh (by
   rw [<- HV.out, Bool.eq_iff_iff]
   simp only [decide_eq_true_eq, Bool.and_eq_true, Bool.not_eq_true', <- N.zp_iff q i h pr]
   exact ⟨fun g => g.2.2.2.2.2.2 k6, fun g => ⟨by omega, of_decide_eq_true htk, by assumption, by assumption, by assumption, fun h => absurd h k6, fun _ => g⟩⟩)
  go_wp2_with fail
  all_goals (go_ret; refine ⟨?_, HB8.out⟩; rw [HV2.out]; first | (simp_all; done) | rfl)
end Go.Proofs.YtijkbflimbffmaaGreat
namespace Go.Proofs.YtijkbflimbffmaaGreat
open Go.RowKit
namespace J
open Y
theorem sm_may {l : List O.Pl} {out : Int} (h : O.May l out) : O.Sm l := fun x hx => by
 have := O.fits_iff.1 (h.2.2.2.1 x hx); have := h.2.1; omega
theorem hold_len (h : List L.T3) (x : L.T3) : (L.hold h x).length <= h.length + 1 := by
 unfold L.hold L.others
 have h1 := List.length_filter_le (fun y => !L.isOf x.a x.b y) h
 simp only [List.length_append, List.length_cons, List.length_take, List.length_drop]
 omega
theorem pools_few {s : St} {e : Ev} {l : List O.Pl} (h : pools s e = (l, 0)) : O.May l (E.no s.d) := by
 unfold pools at h
 split at h
 ·rcases O.add_cases s.ps (E.no s.d) e.a e.b with ⟨x, h1, h2, _⟩ | ⟨h1, _, _, h2⟩
  ·rw [h1] at h; simp at h; exact absurd h.2 h2
  ·rw [h1] at h; simp at h; rw [<- h]; exact h2
 split at h
 ·rcases O.drain_cases s.ps (E.no s.d) e.a with ⟨x, h1, h2⟩ | ⟨m, y, _, _, _, _, h1, _, h2⟩
  ·rw [h1] at h; simp at h; exact absurd h.2 h2
  ·rw [h1] at h; simp at h; rw [<- h]; exact h2
 split at h
 ·rcases O.size_cases s.ps (E.no s.d) e.a e.b (L.busy s.l) with ⟨x, h1, h2⟩ | ⟨m, y, _, _, _, h1, _, _, h2⟩
  ·rw [h1] at h; simp at h; exact absurd h.2 h2
  ·rw [h1] at h; simp at h; rw [<- h]; exact h2
 ·rcases O.gone_cases s.ps (E.no s.d) e.a (L.busy s.l) with ⟨x, h1, h2, _⟩ | ⟨m, y, _, _, _, _, h1, _, _, h2⟩
  ·rw [h1] at h; simp at h; exact absurd h.2 h2
  ·rw [h1] at h; simp at h; rw [<- h]; exact h2
theorem made_few {s u : St} {e : Ev} (hm : May s) (h : made s e = some u) : u.ps.length <= 4 /\ u.l.length <= 33 /\ u.h.length <= 33 /\ O.Sm u.ps /\ u.d = s.d := by
 have h1 := hm.2.2.1.2.2.1
 have h2 := hm.2.2.2.2.1
 have h3 := held_len hm
 have h4 := sm_may hm.2.2.1
 refine ⟨?_, ?_, ?_, ?_, (made_keep h).1⟩
 all_goals
  unfold made at h
  split at h
  ·split at h <;> cases h
   first | (simp only; have := L.put_len s.l (lsOf e); split at this <;> omega) | (simp only; omega) | exact h4
  split at h
  ·split at h
   ·split at h <;> cases h
    unfold free1
    first | (simp only; have := L.del_len s.l e.b e.c; omega) | exact h4 | skip
    all_goals first | omega | (simp only; split; (rename_i x _ _ _; have := hold_len s.h ⟨x.a, x.b, e.t + s.p.h⟩; omega); omega) | (simp only; rename_i x _ _; have := L.del_len s.l x.a x.b; omega)
   ·cases h
  split at h
  ·cases h
   first | (simp only; omega) | exact h4
  split at h
  ·cases h
   have h5 := pools_few (s := s) (e := e) (l := (pools s e).1) (by ext <;> first | rfl | (simp; assumption) | simp)
   first | exact sm_may h5 | (simp only; have := h5.2.2.1; omega) | (simp only; omega)
  ·cases h
theorem made_fits {w : World} {s u : St} {e : Ev} {A : A9} (hm : May s) (h : made s e = some u) (hi : SIn w A u) : Fits A u := by
 obtain ⟨h1, h2, h3, h4, h5⟩ := made_few hm h
 have e1 := hi.p.1
 have e2 := hi.l.1
 have e3 := hi.h.1
 have hf := E.fits_iff.1 hm.1
 have b1 := size_in hf.ni.1
 have b2 := size_in hf.no.1
 refine ⟨by omega, by omega, by omega, h4, by rw [h5]; omega, by rw [h5]; omega⟩
theorem may_fits {w : World} {s : St} {A : A9} (hm : May s) (hi : SIn w A s) : Fits A s := by
 have h1 := hm.2.2.1.2.2.1
 have h2 := hm.2.2.2.2.1
 have h3 := held_len hm
 have e1 := hi.p.1
 have e2 := hi.l.1
 have e3 := hi.h.1
 have hf := E.fits_iff.1 hm.1
 have b1 := size_in hf.ni.1
 have b2 := size_in hf.no.1
 exact ⟨by omega, by omega, by omega, sm_may hm.2.2.1, by omega, by omega⟩
end J
end Go.Proofs.YtijkbflimbffmaaGreat
