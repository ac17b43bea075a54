/-
  Who and Which at every mapping, address and port.
-/
import Derived.Test.YtjfnopbdlopjgaaEBlk
namespace Go.Proofs.Ytjfnopbdlopjgaa
open Go.RowKit

/-- What the code reckons is whose a port is, or nobody's. -/
theorem E.who_code {x : E.D} (hF : E.Fits x) {at' p u z q sub : Int} (hu : IntKind.i64.wrap (at' * E.ratio x) = u) (hz : IntKind.i64.wrap (p - x.lo) = z) (hq : IntKind.i64.wrap (Int.tdiv z (E.each x)) = q) (hs : IntKind.i64.wrap (u + q) = sub) :
    E.who x at' p = if E.own x sub at' p = true then sub else -1 := by
  cases ho : E.own x sub at' p
  · rw [if_neg (by simp)]
    rcases E.who_cases x at' p with ⟨s, h1, h2⟩ | ⟨_, h2⟩
    · obtain ⟨hb, g1, g2, g3⟩ := E.own_iff.1 h1
      obtain ⟨-, hs0, e1, e2, e3, hbA, hb4, hb5, hb6, -, -, -, -, -⟩ := E.base_in hb
      have hl := hF.lo
      have hr := hF.ratio
      have hn := hF.ni
      have hno := hF.no
      have hdy := hF.dy
      have he := hF.each
      rw [g1] at hbA
      have r1 : 0 ≤ at' * E.ratio x := Int.mul_nonneg hbA.1 (by omega)
      have r2 : at' * E.ratio x ≤ 4 * E.ratio x := Int.mul_le_mul_of_nonneg_right (by omega) (by omega)
      have y1 : u = at' * E.ratio x := by rw [← hu]; exact IntWalk.i64_in _ (by omega)
      have y2 : z = p - x.lo := by rw [← hz]; exact IntWalk.i64_in _ (by omega)
      have d1 := Int.ediv_nonneg (show 0 ≤ z by omega) (show 0 ≤ E.each x by omega)
      have d2 := Int.ediv_le_self (E.each x) (show 0 ≤ z by omega)
      have y3 : q = (p - x.lo) / E.each x := by
        rw [← hq, Int.tdiv_eq_ediv_of_nonneg (by omega), ← y2]
        exact IntWalk.i64_in _ (by omega)
      have y4 : sub = E.whoN x at' p := by
        unfold E.whoN
        rw [← hs, y1, y3, ← y2]
        exact IntWalk.i64_in _ (by omega)
      rw [y4, (E.own_who h1).1, h1] at ho
      cases ho
    · exact h2
  · rw [if_pos rfl]; exact (E.own_who ho).2
theorem E.which_code {x : E.D} (hF : E.Fits x) {at' p z sub : Int} (hz : IntKind.i64.wrap (p - (x.hi - x.dy + 1)) = z) (hs : IntKind.i64.wrap (Int.tdiv z x.bl) = sub) :
    E.which x at' p = if E.inb x at' sub p = true then sub else -1 := by
  cases ho : E.inb x at' sub p
  · rw [if_neg (by simp)]
    rcases E.which_cases x at' p with ⟨s, h1, h2⟩ | ⟨_, h2⟩
    · obtain ⟨hb, g2, g3⟩ := E.inb_iff.1 h1
      obtain ⟨-, -, hi, e1, e2, e3, hb4, hb5, hb6, a6⟩ := E.blk_in hb
      have hl := hF.lo
      have hdy := hF.dy
      have hbl := hF.bl
      have y2 : z = p - (x.hi - x.dy + 1) := by rw [← hz]; exact IntWalk.i64_in _ (by omega)
      have d1 := Int.ediv_nonneg (show 0 ≤ z by omega) (show 0 ≤ x.bl by omega)
      have d2 := Int.ediv_le_self x.bl (show 0 ≤ z by omega)
      have y4 : sub = E.whichN x p := by
        unfold E.whichN
        rw [← hs, Int.tdiv_eq_ediv_of_nonneg (by omega), ← y2]
        exact IntWalk.i64_in _ (by omega)
      rw [y4, (E.inb_which h1).1, h1] at ho
      cases ho
    · exact h2
  · rw [if_pos rfl]; exact (E.inb_which ho).2

set_option maxHeartbeats 400000 in
theorem who_any (x : E.D) (at' p v : Int) (w : World) (hv : E.who x at' p = v) (hb : x.b ≤ 9223372036854775807) (hc : x.c ≤ 9223372036854775807) :
    Calls Try.prog 17 #[.agg #[.int .i64 x.b, .int .i64 x.k, .int .i64 x.c, .int .i64 x.j, .int .i64 x.lo, .int .i64 x.hi, .int .i64 x.dy, .int .i64 x.bl], .int .i64 at', .int .i64 p] w fun e w' => e = .returned (.int .i64 v) ∧ Below w.heap.size w w' := by
  have HR := Lib.hid hv
  have HB := Lib.hid (ebox_below w x)
  have HK := Lib.hid (ebox_blok w x)
  clear hv
  cases hfit : E.fit x
  · have HN : Hid (v = -1) := Lib.hid (by
      rw [← HR.out]
      exact E.who_no fun s => by unfold E.own E.baseB; rw [hfit]; rfl)
    have hm := fit_any x false (ebox w x) hfit hb hc
    clear hfit
    go_enter Try.func17, Try.ntmps17
    go_wp2_with fail
    refine hm.mono ?_
    rintro e w1 ⟨rfl, hb1⟩
    go_wp2
    go_ret
    exact ⟨by rw [HN.out]; rfl, HB.out.trans (hb1.mono HB.out.size)⟩
  · have hF := E.fits_iff.1 hfit
    have he := hF.each
    obtain ⟨r, hr⟩ : ∃ r, E.ratio x = r := ⟨_, rfl⟩
    obtain ⟨n, hn⟩ : ∃ n, E.each x = n := ⟨_, rfl⟩
    obtain ⟨u, hu⟩ : ∃ u, IntKind.i64.wrap (at' * r) = u := ⟨_, rfl⟩
    obtain ⟨z, hz⟩ : ∃ z, IntKind.i64.wrap (p - x.lo) = z := ⟨_, rfl⟩
    obtain ⟨q, hq⟩ : ∃ q, IntKind.i64.wrap (Int.tdiv z n) = q := ⟨_, rfl⟩
    obtain ⟨sub, hs⟩ : ∃ sub, IntKind.i64.wrap (u + q) = sub := ⟨_, rfl⟩
    have hsub : E.who x at' p = if E.own x sub at' p = true then sub else -1 := E.who_code hF (by rw [hr]; exact hu) hz (by rw [hn]; exact hq) hs
    have n0 : ¬ n = 0 := by omega
    have hrat := fun W => ratio_any x r W hr
    have heach := fun W => each_any x n W hn hb hc
    have hm := fit_any x true (ebox w x) hfit hb hc
    clear hfit hF he hr hn
    go_enter Try.func17, Try.ntmps17
    go_wp2_with fail
    refine hm.mono ?_
    rintro e w1 ⟨rfl, hb1⟩
    have k0 := e0 (HK.out.below hb1 HK.out.lt)
    have k1 := e1 (HK.out.below hb1 HK.out.lt)
    have k2 := e2 (HK.out.below hb1 HK.out.lt)
    have k3 := e3 (HK.out.below hb1 HK.out.lt)
    have k4 := e4 (HK.out.below hb1 HK.out.lt)
    have k5 := e5 (HK.out.below hb1 HK.out.lt)
    have k6 := e6 (HK.out.below hb1 HK.out.lt)
    have k7 := e7 (HK.out.below hb1 HK.out.lt)
    have c0 := ce0 (w := w1) (HK.out.below hb1 HK.out.lt)
    have c1 := ce1 (w := w1) (HK.out.below hb1 HK.out.lt)
    have c2 := ce2 (w := w1) (HK.out.below hb1 HK.out.lt)
    have c3 := ce3 (w := w1) (HK.out.below hb1 HK.out.lt)
    have c4 := ce4 (w := w1) (HK.out.below hb1 HK.out.lt)
    have c5 := ce5 (w := w1) (HK.out.below hb1 HK.out.lt)
    have c6 := ce6 (w := w1) (HK.out.below hb1 HK.out.lt)
    have c7 := ce7 (w := w1) (HK.out.below hb1 HK.out.lt)
    have HB1 := Lib.hid (HB.out.trans (hb1.mono HB.out.size))
    have HK1 := Lib.hid (HK.out.below hb1 HK.out.lt)
    clear hb1 hm
    go_wp2_with fail
    refine wp_region_quiet_below (by kernel_rfl) (by kernel_rfl) ?_
    repeat (go_big_quiet_step (first | exact Calls.regrown_of (hrat _) | exact Calls.regrown_of (heach _)))
    refine wpQuiet_nil ?_
    intro _ hw'
    obtain ⟨⟨dq, osq⟩, hw''⟩ := hw'
    subst hw''
    clear k0 k1 k2 k3 k4 k5 k6 k7
    clear c0 c1 c2 c3 c4 c5 c6 c7
    clear hu hz hq hs n0
    obtain ⟨w3, hw3⟩ : ∃ w3, Go.Sort.grow (redrawn w1 dq) osq = w3 := ⟨_, rfl⟩
    have hb3 : Below w1.heap.size w1 w3 := by rw [← hw3]; exact below_regrown _ _ _
    rw [hw3]
    clear hw3
    have k0 := e0 (HK1.out.below hb3 HK1.out.lt)
    have k1 := e1 (HK1.out.below hb3 HK1.out.lt)
    have k2 := e2 (HK1.out.below hb3 HK1.out.lt)
    have k3 := e3 (HK1.out.below hb3 HK1.out.lt)
    have k4 := e4 (HK1.out.below hb3 HK1.out.lt)
    have k5 := e5 (HK1.out.below hb3 HK1.out.lt)
    have k6 := e6 (HK1.out.below hb3 HK1.out.lt)
    have k7 := e7 (HK1.out.below hb3 HK1.out.lt)
    have HB3 := Lib.hid (HB1.out.trans (hb3.mono HB1.out.size))
    clear hb3
    obtain ⟨v1, hv1⟩ : ∃ v, E.baseB x sub = v := ⟨_, rfl⟩
    obtain ⟨a1, ha1⟩ : ∃ v, E.baseA x sub = v := ⟨_, rfl⟩
    obtain ⟨f1, hf1⟩ : ∃ v, E.baseF x sub = v := ⟨_, rfl⟩
    obtain ⟨t1, ht1⟩ : ∃ v, E.baseT x sub = v := ⟨_, rfl⟩
    obtain ⟨d, hd⟩ : ∃ d, decide (a1 = at' ∧ f1 ≤ p ∧ p ≤ t1) = d := ⟨_, rfl⟩
    have HNN : Hid (v = if (v1 && d) = true then sub else -1) := Lib.hid (by
      rw [← HR.out, hsub]
      congr 2
      rw [← hd]
      unfold E.own; rw [hv1, ha1, hf1, ht1])
    have hcall := base_any x sub a1 f1 t1 v1 w3 hv1 ha1 hf1 ht1 hb hc
    have hhas := fun W => has_any a1 f1 t1 at' p d W hd
    clear hv1 ha1 hf1 ht1 hd hsub
    go_wp2_with fail
    refine hcall.mono ?_
    clear k0 k1 k2 k3 k4 k5 k6 k7
    rintro e w4 ⟨rfl, hb4⟩
    have HB4 := Lib.hid (HB3.out.trans (hb4.mono HB3.out.size))
    clear hb4 hcall
    have HBX := Lib.hid (HB4.out.trans ((sbox_below w4 a1 f1 t1).mono HB4.out.size))
    cases v1
    · have HF : Hid (v = -1) := Lib.hid HNN.out
      go_wp2
      go_ret
      exact ⟨by rw [HF.out]; rfl, HBX.out⟩
    · go_wp2_with fail
      refine (hhas (sbox w4 a1 f1 t1)).mono ?_
      rintro e w5 ⟨rfl, hb5⟩
      have HB5 := Lib.hid (HBX.out.trans (hb5.mono HBX.out.size))
      clear hb5 hhas
      cases d
      · have HF : Hid (v = -1) := Lib.hid HNN.out
        go_wp2
        go_ret
        exact ⟨by rw [HF.out]; rfl, HB5.out⟩
      · have HF : Hid (v = sub) := Lib.hid HNN.out
        go_wp2
        go_ret
        exact ⟨by rw [HF.out]; rfl, HB5.out⟩

set_option maxHeartbeats 400000 in
theorem which_any (x : E.D) (at' p v : Int) (w : World) (hv : E.which x at' p = v) (hb : x.b ≤ 9223372036854775807) (hc : x.c ≤ 9223372036854775807) :
    Calls Try.prog 25 #[.agg #[.int .i64 x.b, .int .i64 x.k, .int .i64 x.c, .int .i64 x.j, .int .i64 x.lo, .int .i64 x.hi, .int .i64 x.dy, .int .i64 x.bl], .int .i64 at', .int .i64 p] w fun e w' => e = .returned (.int .i64 v) ∧ Below w.heap.size w w' := by
  have HR := Lib.hid hv
  have HB := Lib.hid (ebox_below w x)
  have HK := Lib.hid (ebox_blok w x)
  clear hv
  cases hfit : E.fit x
  · have HN : Hid (v = -1) := Lib.hid (by
      rw [← HR.out]
      exact E.which_no fun s => by unfold E.inb E.blkB E.nb; rw [hfit]; simp; omega)
    have hm := fit_any x false (ebox w x) hfit hb hc
    clear hfit
    go_enter Try.func25, Try.ntmps25
    go_wp2_with fail
    refine hm.mono ?_
    rintro e w1 ⟨rfl, hb1⟩
    go_wp2
    go_ret
    exact ⟨by rw [HN.out]; rfl, HB.out.trans (hb1.mono HB.out.size)⟩
  · have hF := E.fits_iff.1 hfit
    have hl := hF.lo
    have hdy := hF.dy
    have hbl := hF.bl
    obtain ⟨fb, hfb⟩ : ∃ fb, x.hi - x.dy + 1 = fb := ⟨_, rfl⟩
    obtain ⟨z, hz⟩ : ∃ z, IntKind.i64.wrap (p - fb) = z := ⟨_, rfl⟩
    obtain ⟨sub, hs⟩ : ∃ sub, IntKind.i64.wrap (Int.tdiv z x.bl) = sub := ⟨_, rfl⟩
    have hsub : E.which x at' p = if E.inb x at' sub p = true then sub else -1 := E.which_code hF (by rw [hfb]; exact hz) hs
    have n0 : ¬ x.bl = 0 := by omega
    have hfirst := fun W => firstBlock_any x (x.hi - x.dy) fb W (IntWalk.i64_in _ (by omega)) (by rw [hfb]; exact IntWalk.i64_in _ (by omega))
    have hm := fit_any x true (ebox w x) hfit hb hc
    clear hfit hF hl hdy hbl hfb
    go_enter Try.func25, Try.ntmps25
    go_wp2_with fail
    refine hm.mono ?_
    rintro e w1 ⟨rfl, hb1⟩
    have k0 := e0 (HK.out.below hb1 HK.out.lt)
    have k1 := e1 (HK.out.below hb1 HK.out.lt)
    have k2 := e2 (HK.out.below hb1 HK.out.lt)
    have k3 := e3 (HK.out.below hb1 HK.out.lt)
    have k4 := e4 (HK.out.below hb1 HK.out.lt)
    have k5 := e5 (HK.out.below hb1 HK.out.lt)
    have k6 := e6 (HK.out.below hb1 HK.out.lt)
    have k7 := e7 (HK.out.below hb1 HK.out.lt)
    have c0 := ce0 (w := w1) (HK.out.below hb1 HK.out.lt)
    have c1 := ce1 (w := w1) (HK.out.below hb1 HK.out.lt)
    have c2 := ce2 (w := w1) (HK.out.below hb1 HK.out.lt)
    have c3 := ce3 (w := w1) (HK.out.below hb1 HK.out.lt)
    have c4 := ce4 (w := w1) (HK.out.below hb1 HK.out.lt)
    have c5 := ce5 (w := w1) (HK.out.below hb1 HK.out.lt)
    have c6 := ce6 (w := w1) (HK.out.below hb1 HK.out.lt)
    have c7 := ce7 (w := w1) (HK.out.below hb1 HK.out.lt)
    have HB1 := Lib.hid (HB.out.trans (hb1.mono HB.out.size))
    have HK1 := Lib.hid (HK.out.below hb1 HK.out.lt)
    clear hb1 hm
    go_wp2_with fail
    refine wp_region_quiet_below (by kernel_rfl) (by kernel_rfl) ?_
    repeat (go_big_quiet_step (first | exact Calls.regrown_of (hfirst _)))
    refine wpQuiet_nil ?_
    intro _ hw'
    obtain ⟨⟨dq, osq⟩, hw''⟩ := hw'
    subst hw''
    clear k0 k1 k2 k3 k4 k5 k6 k7
    clear c0 c1 c2 c3 c4 c5 c6 c7
    clear hz hs n0
    obtain ⟨w3, hw3⟩ : ∃ w3, Go.Sort.grow (redrawn w1 dq) osq = w3 := ⟨_, rfl⟩
    have hb3 : Below w1.heap.size w1 w3 := by rw [← hw3]; exact below_regrown _ _ _
    rw [hw3]
    clear hw3
    have k0 := e0 (HK1.out.below hb3 HK1.out.lt)
    have k1 := e1 (HK1.out.below hb3 HK1.out.lt)
    have k2 := e2 (HK1.out.below hb3 HK1.out.lt)
    have k3 := e3 (HK1.out.below hb3 HK1.out.lt)
    have k4 := e4 (HK1.out.below hb3 HK1.out.lt)
    have k5 := e5 (HK1.out.below hb3 HK1.out.lt)
    have k6 := e6 (HK1.out.below hb3 HK1.out.lt)
    have k7 := e7 (HK1.out.below hb3 HK1.out.lt)
    have HB3 := Lib.hid (HB1.out.trans (hb3.mono HB1.out.size))
    clear hb3
    obtain ⟨v1, hv1⟩ : ∃ v, E.blkB x at' sub = v := ⟨_, rfl⟩
    obtain ⟨a1, ha1⟩ : ∃ v, E.blkA x at' sub = v := ⟨_, rfl⟩
    obtain ⟨f1, hf1⟩ : ∃ v, E.blkF x at' sub = v := ⟨_, rfl⟩
    obtain ⟨t1, ht1⟩ : ∃ v, E.blkT x at' sub = v := ⟨_, rfl⟩
    obtain ⟨d, hd⟩ : ∃ d, decide (a1 = at' ∧ f1 ≤ p ∧ p ≤ t1) = d := ⟨_, rfl⟩
    have HNN : Hid (v = if (v1 && d) = true then sub else -1) := Lib.hid (by
      rw [← HR.out, hsub]
      congr 2
      rw [← hd]
      unfold E.inb; rw [hv1, hf1, ht1, ← ha1, ← hv1]; unfold E.blkA; cases h : E.blkB x at' sub <;> simp)
    have hcall := block_any x at' sub a1 f1 t1 v1 w3 hv1 ha1 hf1 ht1 hb hc
    have hhas := fun W => has_any a1 f1 t1 at' p d W hd
    clear hv1 ha1 hf1 ht1 hd hsub
    go_wp2_with fail
    refine hcall.mono ?_
    clear k0 k1 k2 k3 k4 k5 k6 k7
    rintro e w4 ⟨rfl, hb4⟩
    have HB4 := Lib.hid (HB3.out.trans (hb4.mono HB3.out.size))
    clear hb4 hcall
    have HBX := Lib.hid (HB4.out.trans ((sbox_below w4 a1 f1 t1).mono HB4.out.size))
    cases v1
    · have HF : Hid (v = -1) := Lib.hid HNN.out
      go_wp2
      go_ret
      exact ⟨by rw [HF.out]; rfl, HBX.out⟩
    · go_wp2_with fail
      refine (hhas (sbox w4 a1 f1 t1)).mono ?_
      rintro e w5 ⟨rfl, hb5⟩
      have HB5 := Lib.hid (HBX.out.trans (hb5.mono HBX.out.size))
      clear hb5 hhas
      cases d
      · have HF : Hid (v = -1) := Lib.hid HNN.out
        go_wp2
        go_ret
        exact ⟨by rw [HF.out]; rfl, HB5.out⟩
      · have HF : Hid (v = sub) := Lib.hid HNN.out
        go_wp2
        go_ret
        exact ⟨by rw [HF.out]; rfl, HB5.out⟩
end Go.Proofs.Ytjfnopbdlopjgaa
