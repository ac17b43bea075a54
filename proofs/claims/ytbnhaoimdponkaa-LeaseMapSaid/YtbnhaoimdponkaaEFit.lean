/-
  What must be so of a mapping, one by one; how many share an address.
-/
import Derived.Test.YtbnhaoimdponkaaEBox
namespace Go.Proofs.Ytbnhaoimdponkaa
open Go.RowKit

theorem A.may_size {b k : Int} : A.may b k = true ↔ 0 < A.size b k := by
  rcases A.size_le (b := b) (k := k) with h | h
  · refine ⟨fun h1 => ?_, fun h1 => by omega⟩
    have := A.sz_pos k
    unfold A.size at h
    rw [h1, if_pos rfl] at h
    omega
  · exact ⟨fun _ => h.2.2.2.1, fun _ => h.1⟩
theorem A.not_may {b k : Int} : A.may b k = false ↔ A.size b k = 0 := by
  rcases A.size_le (b := b) (k := k) with h | h
  · refine ⟨fun _ => h, fun _ => ?_⟩
    rw [Bool.eq_false_iff]
    intro h1
    have := A.may_size.1 h1
    omega
  · rw [h.1]; exact ⟨fun h1 => (by cases h1), fun h1 => by omega⟩
def E.ratio (x : E.D) : Int := if E.ni x = 0 ∨ E.no x = 0 then 0 else (E.ni x + E.no x - 1) / E.no x
theorem E.ni_le (x : E.D) : 0 ≤ E.ni x ∧ E.ni x ≤ 4294967296 := by
  unfold E.ni; rcases A.size_le (b := x.b) (k := x.k) with h | h <;> omega
theorem E.no_le (x : E.D) : 0 ≤ E.no x ∧ E.no x ≤ 4294967296 := by
  unfold E.no; rcases A.size_le (b := x.c) (k := x.j) with h | h <;> omega
theorem E.ratio_of {x : E.D} {p q : Int} (hp : E.ni x = p) (hq : E.no x = q) (p0 : ¬ p = 0) (q0 : ¬ q = 0) :
    ∃ s t r, IntKind.i64.wrap (p + q) = s ∧ IntKind.i64.wrap (s - 1) = t ∧ Int.tdiv t q = r ∧ IntKind.i64.wrap r = r ∧ E.ratio x = r := by
  have h1 := E.ni_le x
  have h2 := E.no_le x
  rw [hp] at h1
  rw [hq] at h2
  have hr : E.ratio x = (p + q - 1) / q := by unfold E.ratio; rw [hp, hq, if_neg (by omega)]
  have b1 : 0 ≤ (p + q - 1) / q := Int.ediv_nonneg (by omega) (by omega)
  have b2 : (p + q - 1) / q ≤ p + q - 1 := Int.ediv_le_self _ (by omega)
  exact ⟨p + q, p + q - 1, (p + q - 1) / q, IntWalk.i64_in _ (by omega), IntWalk.i64_in _ (by omega), Int.tdiv_eq_ediv_of_nonneg (by omega), IntWalk.i64_in _ (by omega), hr⟩

set_option maxHeartbeats 400000 in
theorem ratio_any (x : E.D) (r : Int) (w : World) (h : E.ratio x = r) : Calls Try.prog 80 #[.agg #[.int .i64 x.b, .int .i64 x.k, .int .i64 x.c, .int .i64 x.j, .int .i64 x.lo, .int .i64 x.hi, .int .i64 x.dy, .int .i64 x.bl]] w fun e w' => e = .returned (.int .i64 r) ∧ Below w.heap.size w w' := by
  have HR := Lib.hid h
  have HB := Lib.hid (ebox_below w x)
  have HK := Lib.hid (ebox_blok w x)
  clear h
  cases h1 : A.may x.b x.k
  · have HF : Hid (r = 0) := Lib.hid (by rw [← HR.out]; unfold E.ratio; rw [if_pos (.inl (A.not_may.1 h1))])
    have hm := may_any x.b x.k false (ebox w x) h1
    clear h1
    go_enter Try.func80, Try.ntmps80
    go_wp2_with fail
    refine hm.mono ?_
    rintro e w1 ⟨rfl, hb1⟩
    go_wp2
    go_ret
    exact ⟨by rw [HF.out]; rfl, HB.out.trans (hb1.mono HB.out.size)⟩
  · cases h2 : A.may x.c x.j
    · have HF : Hid (r = 0) := Lib.hid (by rw [← HR.out]; unfold E.ratio; rw [if_pos (.inr (A.not_may.1 h2))])
      have hm := may_any x.b x.k true (ebox w x) h1
      have hn := fun W => may_any x.c x.j false W h2
      clear h1 h2
      go_enter Try.func80, Try.ntmps80
      go_wp2_with fail
      refine hm.mono ?_
      rintro e w1 ⟨rfl, hb1⟩
      have k0 := e0 (HK.out.below hb1 HK.out.lt)
      have k1 := e1 (HK.out.below hb1 HK.out.lt)
      have k2 := e2 (HK.out.below hb1 HK.out.lt)
      have k3 := e3 (HK.out.below hb1 HK.out.lt)
      have k4 := e4 (HK.out.below hb1 HK.out.lt)
      have k5 := e5 (HK.out.below hb1 HK.out.lt)
      have k6 := e6 (HK.out.below hb1 HK.out.lt)
      have k7 := e7 (HK.out.below hb1 HK.out.lt)
      have HB1 := Lib.hid (HB.out.trans (hb1.mono HB.out.size))
      clear hb1
      go_wp2_with fail
      refine (hn w1).mono ?_
      rintro e w2 ⟨rfl, hb2⟩
      go_wp2
      go_ret
      exact ⟨by rw [HF.out]; rfl, HB1.out.trans (hb2.mono HB1.out.size)⟩
    · have hm := may_any x.b x.k true (ebox w x) h1
      have hn := fun W => may_any x.c x.j true W h2
      obtain ⟨p, hp⟩ : ∃ p, E.ni x = p := ⟨_, rfl⟩
      obtain ⟨q, hq⟩ : ∃ q, E.no x = q := ⟨_, rfl⟩
      have p0 : ¬ p = 0 := by rw [← hp]; have := A.may_size.1 h1; unfold E.ni; omega
      have q0 : ¬ q = 0 := by rw [← hq]; have := A.may_size.1 h2; unfold E.no; omega
      obtain ⟨s, t, r', a1, a2, a3, a4, a5⟩ := E.ratio_of hp hq p0 q0
      have HF : Hid (r = r') := Lib.hid (by rw [← HR.out, a5])
      have hs := fun W => subscribers_any x p W hp
      have ht := fun W => publics_any x q W hq
      clear h1 h2 hp hq a5
      go_enter Try.func80, Try.ntmps80
      go_wp2_with fail
      refine hm.mono ?_
      rintro e w1 ⟨rfl, hb1⟩
      have k0 := e0 (HK.out.below hb1 HK.out.lt)
      have k1 := e1 (HK.out.below hb1 HK.out.lt)
      have k2 := e2 (HK.out.below hb1 HK.out.lt)
      have k3 := e3 (HK.out.below hb1 HK.out.lt)
      have k4 := e4 (HK.out.below hb1 HK.out.lt)
      have k5 := e5 (HK.out.below hb1 HK.out.lt)
      have k6 := e6 (HK.out.below hb1 HK.out.lt)
      have k7 := e7 (HK.out.below hb1 HK.out.lt)
      have HB1 := Lib.hid (HB.out.trans (hb1.mono HB.out.size))
      have HK1 := Lib.hid (HK.out.below hb1 HK.out.lt)
      clear hb1 hm
      go_wp2_with fail
      refine (hn w1).mono ?_
      clear k0 k1 k2 k3 k4 k5 k6 k7
      rintro e w2 ⟨rfl, hb2⟩
      have k0 := e0 (HK1.out.below hb2 HK1.out.lt)
      have k1 := e1 (HK1.out.below hb2 HK1.out.lt)
      have k2 := e2 (HK1.out.below hb2 HK1.out.lt)
      have k3 := e3 (HK1.out.below hb2 HK1.out.lt)
      have k4 := e4 (HK1.out.below hb2 HK1.out.lt)
      have k5 := e5 (HK1.out.below hb2 HK1.out.lt)
      have k6 := e6 (HK1.out.below hb2 HK1.out.lt)
      have k7 := e7 (HK1.out.below hb2 HK1.out.lt)
      have c0 := ce0 (w := w2) (HK1.out.below hb2 HK1.out.lt)
      have c1 := ce1 (w := w2) (HK1.out.below hb2 HK1.out.lt)
      have c2 := ce2 (w := w2) (HK1.out.below hb2 HK1.out.lt)
      have c3 := ce3 (w := w2) (HK1.out.below hb2 HK1.out.lt)
      have c4 := ce4 (w := w2) (HK1.out.below hb2 HK1.out.lt)
      have c5 := ce5 (w := w2) (HK1.out.below hb2 HK1.out.lt)
      have c6 := ce6 (w := w2) (HK1.out.below hb2 HK1.out.lt)
      have c7 := ce7 (w := w2) (HK1.out.below hb2 HK1.out.lt)
      have HB2 := Lib.hid (HB1.out.trans (hb2.mono HB1.out.size))
      clear hb2 hn
      go_wp2_with fail
      refine wp_region_quiet_below (by kernel_rfl) (by kernel_rfl) ?_
      repeat (go_big_quiet_step (first | exact Calls.regrown_of (hs _) | exact Calls.regrown_of (ht _)))
      refine wpQuiet_nil ?_
      intro _ hw'
      obtain ⟨⟨dq, osq⟩, hw''⟩ := hw'
      subst hw''
      go_wp2
      go_ret
      exact ⟨by rw [HF.out]; rfl, HB2.out.trans ((below_regrown _ dq osq).mono HB2.out.size)⟩

def E.m1 (x : E.D) : Bool := A.may x.b x.k && A.may x.c x.j
def E.m2 (x : E.D) : Bool := !A.meet x.b x.k x.c x.j
def E.m3 (x : E.D) : Bool := decide (E.ni x ≤ 32) && decide (E.no x ≤ 4)
def E.m4 (x : E.D) : Bool := decide (1 ≤ x.lo) && (decide (x.lo ≤ x.hi) && decide (x.hi ≤ 65535))
def E.m5 (x : E.D) : Bool := decide (0 ≤ x.dy) && decide (x.dy < x.hi - x.lo + 1)
def E.m6 (x : E.D) : Bool := decide (1 ≤ x.bl) && decide (x.bl ≤ 65535)
def E.m7 (x : E.D) : Bool := decide (x.dy / x.bl ≤ 8)
def E.m8 (x : E.D) : Bool := decide (E.ratio x ≤ x.hi - x.lo + 1 - x.dy)
/-- What a mapping's closure answers. -/
def Must (F : FuncId) (x : E.D) (v : Bool) : Prop := ∀ (w : World) (g : Nat), Blok w g 40 #[.int .i64 x.b, .int .i64 x.k, .int .i64 x.c, .int .i64 x.j, .int .i64 x.lo, .int .i64 x.hi, .int .i64 x.dy, .int .i64 x.bl] → Calls Try.prog F #[.pointer (some ⟨g, 0, none⟩)] w fun e w' => e = .returned (.bool v) ∧ Below w.heap.size w w'

set_option maxHeartbeats 400000 in
theorem must1 (x : E.D) (v : Bool) (h : E.m1 x = v) : Must 66 x v := by
  intro w g HK0
  have HK := Lib.hid HK0
  have HV := Lib.hid h
  have k0 := e0 HK0
  have k1 := e1 HK0
  have k2 := e2 HK0
  have k3 := e3 HK0
  have k4 := e4 HK0
  have k5 := e5 HK0
  have k6 := e6 HK0
  have k7 := e7 HK0
  clear h HK0
  cases h1 : A.may x.b x.k
  · have HF : Hid (v = false) := Lib.hid (by rw [← HV.out]; unfold E.m1; rw [h1]; rfl)
    have hm := may_any x.b x.k false w h1
    clear h1
    go_enter Try.func66, Try.ntmps66
    go_wp2_with fail
    refine hm.mono ?_
    rintro e w1 ⟨rfl, hb1⟩
    go_wp2
    go_ret
    exact ⟨by rw [HF.out]; rfl, hb1⟩
  · obtain ⟨u, h2⟩ : ∃ u, A.may x.c x.j = u := ⟨_, rfl⟩
    have HF : Hid (v = u) := Lib.hid (by rw [← HV.out]; unfold E.m1; rw [h1, h2]; rfl)
    have hm := may_any x.b x.k true w h1
    have hn := fun W => may_any x.c x.j u W h2
    clear h1 h2
    go_enter Try.func66, Try.ntmps66
    go_wp2_with fail
    refine hm.mono ?_
    rintro e w1 ⟨rfl, hb1⟩
    clear k0 k1 k2 k3 k4 k5 k6 k7
    have k0 := e0 (HK.out.below hb1 HK.out.lt)
    have k1 := e1 (HK.out.below hb1 HK.out.lt)
    have k2 := e2 (HK.out.below hb1 HK.out.lt)
    have k3 := e3 (HK.out.below hb1 HK.out.lt)
    have k4 := e4 (HK.out.below hb1 HK.out.lt)
    have k5 := e5 (HK.out.below hb1 HK.out.lt)
    have k6 := e6 (HK.out.below hb1 HK.out.lt)
    have k7 := e7 (HK.out.below hb1 HK.out.lt)
    have HB1 := Lib.hid hb1
    clear hb1 hm
    go_wp2_with fail
    refine (hn w1).mono ?_
    rintro e w2 ⟨rfl, hb2⟩
    go_wp2
    go_ret
    exact ⟨by rw [HF.out]; rfl, HB1.out.trans (hb2.mono HB1.out.size)⟩

set_option maxHeartbeats 400000 in
theorem must2 (x : E.D) (v : Bool) (h : E.m2 x = v) (hb : x.b ≤ 9223372036854775807) (hc : x.c ≤ 9223372036854775807) : Must 68 x v := by
  intro w g HK0
  have HV := Lib.hid h
  have k0 := e0 HK0
  have k1 := e1 HK0
  have k2 := e2 HK0
  have k3 := e3 HK0
  have k4 := e4 HK0
  have k5 := e5 HK0
  have k6 := e6 HK0
  have k7 := e7 HK0
  clear h HK0
  obtain ⟨u, h1⟩ : ∃ u, A.meet x.b x.k x.c x.j = u := ⟨_, rfl⟩
  have HF : Hid (v = !u) := Lib.hid (by rw [← HV.out]; unfold E.m2; rw [h1])
  have hm := meet_any x.b x.k x.c x.j u w h1 hb hc
  clear h1
  go_enter Try.func68, Try.ntmps68
  go_wp2_with fail
  refine hm.mono ?_
  rintro e w1 ⟨rfl, hb1⟩
  go_wp2
  go_ret
  exact ⟨by rw [HF.out]; rfl, hb1⟩

set_option maxHeartbeats 400000 in
theorem must3 (x : E.D) (v : Bool) (h : E.m3 x = v) : Must 70 x v := by
  intro w g HK0
  have HK := Lib.hid HK0
  have HV := Lib.hid h
  have k0 := e0 HK0
  have k1 := e1 HK0
  have k2 := e2 HK0
  have k3 := e3 HK0
  have k4 := e4 HK0
  have k5 := e5 HK0
  have k6 := e6 HK0
  have k7 := e7 HK0
  clear h HK0
  obtain ⟨p, hp⟩ : ∃ p, E.ni x = p := ⟨_, rfl⟩
  obtain ⟨q, hq⟩ : ∃ q, E.no x = q := ⟨_, rfl⟩
  have HF : Hid (v = (decide (p ≤ 32) && decide (q ≤ 4))) := Lib.hid (by rw [← HV.out]; unfold E.m3; rw [hp, hq])
  have hm := subscribers_any x p w hp
  have hn := fun W => publics_any x q W hq
  clear hp hq
  by_cases d : p ≤ 32
  · have d1 : decide (p ≤ 32) = true := decide_eq_true d
    go_enter Try.func70, Try.ntmps70
    go_wp2_with fail
    refine hm.mono ?_
    rintro e w1 ⟨rfl, hb1⟩
    clear k0 k1 k2 k3 k4 k5 k6 k7
    have k0 := e0 (HK.out.below hb1 HK.out.lt)
    have k1 := e1 (HK.out.below hb1 HK.out.lt)
    have k2 := e2 (HK.out.below hb1 HK.out.lt)
    have k3 := e3 (HK.out.below hb1 HK.out.lt)
    have k4 := e4 (HK.out.below hb1 HK.out.lt)
    have k5 := e5 (HK.out.below hb1 HK.out.lt)
    have k6 := e6 (HK.out.below hb1 HK.out.lt)
    have k7 := e7 (HK.out.below hb1 HK.out.lt)
    have HB1 := Lib.hid hb1
    clear hb1 hm
    go_wp2_with fail
    refine (hn w1).mono ?_
    rintro e w2 ⟨rfl, hb2⟩
    go_wp2
    go_ret
    exact ⟨by rw [HF.out, d1]; rfl, HB1.out.trans (hb2.mono HB1.out.size)⟩
  · have d1 : decide (p ≤ 32) = false := decide_eq_false d
    go_enter Try.func70, Try.ntmps70
    go_wp2_with fail
    refine hm.mono ?_
    rintro e w1 ⟨rfl, hb1⟩
    go_wp2
    go_ret
    exact ⟨by rw [HF.out, d1]; rfl, hb1⟩

set_option maxHeartbeats 400000 in
theorem must4 (x : E.D) (v : Bool) (h : E.m4 x = v) : Must 73 x v := by
  intro w g HK0
  have HV := Lib.hid h
  have k0 := e0 HK0
  have k1 := e1 HK0
  have k2 := e2 HK0
  have k3 := e3 HK0
  have k4 := e4 HK0
  have k5 := e5 HK0
  have k6 := e6 HK0
  have k7 := e7 HK0
  clear h HK0
  by_cases a : 1 ≤ x.lo
  · have a' : decide (1 ≤ x.lo) = true := decide_eq_true a
    by_cases b : x.lo ≤ x.hi
    · have b' : decide (x.lo ≤ x.hi) = true := decide_eq_true b
      have HF : Hid (v = decide (x.hi ≤ 65535)) := Lib.hid (by rw [← HV.out]; unfold E.m4; rw [a', b']; rfl)
      go_enter Try.func73, Try.ntmps73
      go_wp2
      go_ret
      exact ⟨by rw [HF.out]; rfl, Below.refl _ _⟩
    · have b' : decide (x.lo ≤ x.hi) = false := decide_eq_false b
      have HF : Hid (v = false) := Lib.hid (by rw [← HV.out]; unfold E.m4; rw [a', b']; rfl)
      go_enter Try.func73, Try.ntmps73
      go_wp2
      go_ret
      exact ⟨by rw [HF.out]; rfl, Below.refl _ _⟩
  · have a' : decide (1 ≤ x.lo) = false := decide_eq_false a
    have HF : Hid (v = false) := Lib.hid (by rw [← HV.out]; unfold E.m4; rw [a']; rfl)
    go_enter Try.func73, Try.ntmps73
    go_wp2
    go_ret
    exact ⟨by rw [HF.out]; rfl, Below.refl _ _⟩

set_option maxHeartbeats 400000 in
theorem must5 (x : E.D) (v : Bool) (h : E.m5 x = v) (h4 : E.m4 x = true) : Must 74 x v := by
  intro w g HK0
  have HV := Lib.hid h
  have HK := Lib.hid HK0
  have k0 := e0 HK0
  have k1 := e1 HK0
  have k2 := e2 HK0
  have k3 := e3 HK0
  have k4 := e4 HK0
  have k5 := e5 HK0
  have k6 := e6 HK0
  have k7 := e7 HK0
  have hb : 1 ≤ x.lo ∧ x.lo ≤ x.hi ∧ x.hi ≤ 65535 := by unfold E.m4 at h4; simpa using h4
  obtain ⟨n, hn⟩ : ∃ n, x.hi - x.lo + 1 = n := ⟨_, rfl⟩
  have hp := fun W => ports_any x (x.hi - x.lo) n W (IntWalk.i64_in _ (by omega)) (by rw [hn]; exact IntWalk.i64_in _ (by omega))
  by_cases a : 0 ≤ x.dy
  · have a' : decide (0 ≤ x.dy) = true := decide_eq_true a
    have HF : Hid (v = decide (x.dy < n)) := Lib.hid (by rw [← HV.out]; unfold E.m5; rw [a', hn]; rfl)
    have c0 := ce0 (w := w) HK0
    have c1 := ce1 (w := w) HK0
    have c2 := ce2 (w := w) HK0
    have c3 := ce3 (w := w) HK0
    have c4 := ce4 (w := w) HK0
    have c5 := ce5 (w := w) HK0
    have c6 := ce6 (w := w) HK0
    have c7 := ce7 (w := w) HK0
    clear h h4 HK0 hb hn
    go_enter Try.func74, Try.ntmps74
    go_wp2_with fail
    refine wp_region_quiet_below (by kernel_rfl) (by kernel_rfl) ?_
    repeat (go_big_quiet_step (first | exact Calls.regrown_of (hp _)))
    refine wpQuiet_nil ?_
    intro _ hw'
    obtain ⟨⟨dq, osq⟩, hw''⟩ := hw'
    subst hw''
    go_wp2
    go_ret
    exact ⟨by rw [HF.out]; rfl, below_regrown _ dq osq⟩
  · have a' : decide (0 ≤ x.dy) = false := decide_eq_false a
    have HF : Hid (v = false) := Lib.hid (by rw [← HV.out]; unfold E.m5; rw [a']; rfl)
    have c0 := ce0 (w := w) HK0
    have c1 := ce1 (w := w) HK0
    have c2 := ce2 (w := w) HK0
    have c3 := ce3 (w := w) HK0
    have c4 := ce4 (w := w) HK0
    have c5 := ce5 (w := w) HK0
    have c6 := ce6 (w := w) HK0
    have c7 := ce7 (w := w) HK0
    clear h h4 HK0 hb hn
    go_enter Try.func74, Try.ntmps74
    go_wp2_with fail
    refine wp_region_quiet_below (by kernel_rfl) (by kernel_rfl) ?_
    repeat (go_big_quiet_step (first | exact Calls.regrown_of (hp _)))
    refine wpQuiet_nil ?_
    intro _ hw'
    obtain ⟨⟨dq, osq⟩, hw''⟩ := hw'
    subst hw''
    go_wp2
    go_ret
    exact ⟨by rw [HF.out]; rfl, below_regrown _ dq osq⟩

set_option maxHeartbeats 400000 in
theorem must6 (x : E.D) (v : Bool) (h : E.m6 x = v) : Must 76 x v := by
  intro w g HK0
  have HV := Lib.hid h
  have k0 := e0 HK0
  have k1 := e1 HK0
  have k2 := e2 HK0
  have k3 := e3 HK0
  have k4 := e4 HK0
  have k5 := e5 HK0
  have k6 := e6 HK0
  have k7 := e7 HK0
  clear h HK0
  by_cases a : 1 ≤ x.bl
  · have a' : decide (1 ≤ x.bl) = true := decide_eq_true a
    have HF : Hid (v = decide (x.bl ≤ 65535)) := Lib.hid (by rw [← HV.out]; unfold E.m6; rw [a']; rfl)
    go_enter Try.func76, Try.ntmps76
    go_wp2
    go_ret
    exact ⟨by rw [HF.out]; rfl, Below.refl _ _⟩
  · have a' : decide (1 ≤ x.bl) = false := decide_eq_false a
    have HF : Hid (v = false) := Lib.hid (by rw [← HV.out]; unfold E.m6; rw [a']; rfl)
    go_enter Try.func76, Try.ntmps76
    go_wp2
    go_ret
    exact ⟨by rw [HF.out]; rfl, Below.refl _ _⟩

set_option maxHeartbeats 400000 in
theorem must7 (x : E.D) (v : Bool) (h : E.m7 x = v) (h4 : E.m4 x = true) (h5 : E.m5 x = true) (h6 : E.m6 x = true) : Must 77 x v := by
  intro w g HK0
  have HV := Lib.hid h
  have k0 := e0 HK0
  have k1 := e1 HK0
  have k2 := e2 HK0
  have k3 := e3 HK0
  have k4 := e4 HK0
  have k5 := e5 HK0
  have k6 := e6 HK0
  have k7 := e7 HK0
  have b4 : 1 ≤ x.lo ∧ x.lo ≤ x.hi ∧ x.hi ≤ 65535 := by unfold E.m4 at h4; simpa using h4
  have b5 : 0 ≤ x.dy ∧ x.dy < x.hi - x.lo + 1 := by unfold E.m5 at h5; simpa using h5
  have b6 : 1 ≤ x.bl ∧ x.bl ≤ 65535 := by unfold E.m6 at h6; simpa using h6
  obtain ⟨n, hn⟩ : ∃ n, x.dy / x.bl = n := ⟨_, rfl⟩
  have t1 : Int.tdiv x.dy x.bl = n := by rw [Int.tdiv_eq_ediv_of_nonneg b5.1, hn]
  have t2 : IntKind.i64.wrap n = n := IntWalk.i64_in _ (by
    have := Int.ediv_nonneg b5.1 (show 0 ≤ x.bl by omega)
    have := Int.ediv_le_self x.bl b5.1
    omega)
  have t3 : ¬ x.bl = 0 := by omega
  have HF : Hid (v = decide (n ≤ 8)) := Lib.hid (by rw [← HV.out]; unfold E.m7; rw [hn])
  clear h h4 h5 h6 HK0 b4 b5 b6 hn
  go_enter Try.func77, Try.ntmps77
  go_wp2
  go_ret
  exact ⟨by rw [HF.out]; rfl, Below.refl _ _⟩

set_option maxHeartbeats 400000 in
theorem must8 (x : E.D) (v : Bool) (h : E.m8 x = v) (h4 : E.m4 x = true) (h5 : E.m5 x = true) : Must 78 x v := by
  intro w g HK0
  have HV := Lib.hid h
  have HK := Lib.hid HK0
  have k0 := e0 HK0
  have k1 := e1 HK0
  have k2 := e2 HK0
  have k3 := e3 HK0
  have k4 := e4 HK0
  have k5 := e5 HK0
  have k6 := e6 HK0
  have k7 := e7 HK0
  have b4 : 1 ≤ x.lo ∧ x.lo ≤ x.hi ∧ x.hi ≤ 65535 := by unfold E.m4 at h4; simpa using h4
  have b5 : 0 ≤ x.dy ∧ x.dy < x.hi - x.lo + 1 := by unfold E.m5 at h5; simpa using h5
  obtain ⟨n, hn⟩ : ∃ n, x.hi - x.lo + 1 - x.dy = n := ⟨_, rfl⟩
  obtain ⟨r, hr⟩ : ∃ r, E.ratio x = r := ⟨_, rfl⟩
  have hp := fun W => shared_any x (x.hi - x.lo) (x.hi - x.lo + 1) n W (IntWalk.i64_in _ (by omega)) (IntWalk.i64_in _ (by omega)) (by rw [hn]; exact IntWalk.i64_in _ (by omega))
  have hq := fun W => ratio_any x r W hr
  have HF : Hid (v = decide (r ≤ n)) := Lib.hid (by rw [← HV.out]; unfold E.m8; rw [hn, hr])
  have c0 := ce0 (w := w) HK0
  have c1 := ce1 (w := w) HK0
  have c2 := ce2 (w := w) HK0
  have c3 := ce3 (w := w) HK0
  have c4 := ce4 (w := w) HK0
  have c5 := ce5 (w := w) HK0
  have c6 := ce6 (w := w) HK0
  have c7 := ce7 (w := w) HK0
  clear h h4 h5 HK0 b4 b5 hn hr
  go_enter Try.func78, Try.ntmps78
  go_wp2_with fail
  refine wp_region_quiet_below (by kernel_rfl) (by kernel_rfl) ?_
  repeat (go_big_quiet_step (first | exact Calls.regrown_of (hp _) | exact Calls.regrown_of (hq _)))
  refine wpQuiet_nil ?_
  intro _ hw'
  obtain ⟨⟨dq, osq⟩, hw''⟩ := hw'
  subst hw''
  go_wp2
  go_ret
  exact ⟨by rw [HF.out]; rfl, below_regrown _ dq osq⟩
end Go.Proofs.Ytbnhaoimdponkaa
