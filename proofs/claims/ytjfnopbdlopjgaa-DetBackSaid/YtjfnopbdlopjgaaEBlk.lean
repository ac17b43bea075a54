/-
  Block at every mapping.
-/
import Derived.Test.YtjfnopbdlopjgaaEBase
namespace Go.Proofs.Ytjfnopbdlopjgaa
open Go.RowKit

set_option maxHeartbeats 400000 in
theorem block_any (x : E.D) (at' i a f t : Int) (v : Bool) (w : World) (hv : E.blkB x at' i = v) (ha : E.blkA x at' i = a) (hf : E.blkF x at' i = f) (ht : E.blkT x at' i = t) (hb : x.b ≤ 9223372036854775807) (hc : x.c ≤ 9223372036854775807) :
    Calls Try.prog 13 #[.agg #[.int .i64 x.b, .int .i64 x.k, .int .i64 x.c, .int .i64 x.j, .int .i64 x.lo, .int .i64 x.hi, .int .i64 x.dy, .int .i64 x.bl], .int .i64 at', .int .i64 i] w fun e w' => e = .returned (.tuple #[.agg #[.int .i64 a, .int .i64 f, .int .i64 t], .bool v]) ∧ Below w.heap.size w w' := by
  have HB := Lib.hid (esbox_below w x)
  have HK := Lib.hid (esbox_d w x)
  have HS := Lib.hid (esbox_s w x)
  obtain ⟨q, hq⟩ : ∃ q, E.no x = q := ⟨_, rfl⟩
  obtain ⟨n, hn⟩ : ∃ n, E.nb x = n := ⟨_, rfl⟩
  have hpub := fun W => publics_any x q W hq
  have hblk := fun W => blocks_any x n W hn hb hc
  cases hd : E.blkB x at' i
  · have HN : Hid (v = false ∧ a = 0 ∧ f = 0 ∧ t = 0) := Lib.hid ⟨by rw [← hv, hd], by rw [← ha]; unfold E.blkA; rw [hd]; rfl, by rw [← hf]; unfold E.blkF; rw [hd]; rfl, by rw [← ht]; unfold E.blkT; rw [hd]; rfl⟩
    clear hv ha hf ht
    have hall : ¬ ((0 ≤ at' ∧ at' < q) ∧ (0 ≤ i ∧ i < n)) := fun h => by
      unfold E.blkB at hd
      rw [hq, hn, decide_eq_true h.1, decide_eq_true h.2] at hd
      cases hd
    clear hd hq hn
    by_cases s0' : at' < 0
    · have d0 : decide (at' < 0) = true := decide_eq_true s0'
      clear hall hpub hblk
      have hb1 := Below.refl (esbox w x).heap.size (esbox w x)
      have hs := HS.out
      have f0 : (esbox w x).frozen? ⟨w.heap.size + 1, 0, none⟩ = false := hs.frozen 0
      go_enter Try.func13, Try.ntmps13
      go_wp2
      trace_state
      refine bodyPost_ret (ret_span2 rfl (w.heap.size + 1) 0 0 0 (by kernel_rfl) rfl HS.out) rfl ?_
      exact ⟨by rw [HN.out.1, HN.out.2.1, HN.out.2.2.1, HN.out.2.2.2]; rfl, HB.out⟩
    · have d0 : decide (at' < 0) = false := decide_eq_false s0'
      by_cases s1' : q ≤ at'
      · have d1 : decide (q ≤ at') = true := decide_eq_true s1'
        clear hall hblk
        go_enter Try.func13, Try.ntmps13
        go_wp2_with fail
        refine (hpub (esbox w x)).mono ?_
        rintro e w1 ⟨rfl, hb1⟩
        have hs := HS.out.below hb1 HS.out.lt
        have f0 := hs.frozen 0
        have f1 := hs.frozen 1
        have f2 := hs.frozen 2
        have c0 := s0 hs
        have c1 := s1 hs
        have c2 := s2 hs
        have HFP := Lib.hid (fin_span (w := w) (w.heap.size + 1) (by omega) hs (HB.out.trans (hb1.mono HB.out.size)) 0 0 0)
        clear hb1
        go_wp2
        refine bodyPost_ret (ret_span2 rfl (w.heap.size + 1) 0 0 0 (by kernel_rfl) rfl HFP.out.1) rfl ?_
        exact ⟨by rw [HN.out.1, HN.out.2.1, HN.out.2.2.1, HN.out.2.2.2]; rfl, HFP.out.2⟩
      · have d1 : decide (q ≤ at') = false := decide_eq_false s1'
        by_cases s2' : i < 0
        · have d2 : decide (i < 0) = true := decide_eq_true s2'
          clear hall hblk
          go_enter Try.func13, Try.ntmps13
          go_wp2_with fail
          refine (hpub (esbox w x)).mono ?_
          rintro e w1 ⟨rfl, hb1⟩
          have hs := HS.out.below hb1 HS.out.lt
          have f0 := hs.frozen 0
          have f1 := hs.frozen 1
          have f2 := hs.frozen 2
          have c0 := s0 hs
          have c1 := s1 hs
          have c2 := s2 hs
          have HFP := Lib.hid (fin_span (w := w) (w.heap.size + 1) (by omega) hs (HB.out.trans (hb1.mono HB.out.size)) 0 0 0)
          clear hb1
          go_wp2
          refine bodyPost_ret (ret_span2 rfl (w.heap.size + 1) 0 0 0 (by kernel_rfl) rfl HFP.out.1) rfl ?_
          exact ⟨by rw [HN.out.1, HN.out.2.1, HN.out.2.2.1, HN.out.2.2.2]; rfl, HFP.out.2⟩
        · have d2 : decide (i < 0) = false := decide_eq_false s2'
          have d3 : decide (n ≤ i) = true := decide_eq_true (by omega)
          clear hall
          go_enter Try.func13, Try.ntmps13
          go_wp2_with fail
          refine (hpub (esbox w x)).mono ?_
          rintro e w1 ⟨rfl, hb1⟩
          have k0 := e0 (HK.out.below hb1 HK.out.lt)
          have k1 := e1 (HK.out.below hb1 HK.out.lt)
          have k2 := e2 (HK.out.below hb1 HK.out.lt)
          have k3 := e3 (HK.out.below hb1 HK.out.lt)
          have k4 := e4 (HK.out.below hb1 HK.out.lt)
          have k5 := e5 (HK.out.below hb1 HK.out.lt)
          have k6 := e6 (HK.out.below hb1 HK.out.lt)
          have k7 := e7 (HK.out.below hb1 HK.out.lt)
          have HB1 := Lib.hid (HB.out.trans (hb1.mono HB.out.size))
          have HS1 := Lib.hid (HS.out.below hb1 HS.out.lt)
          clear hb1 hpub
          go_wp2_with fail
          refine (hblk w1).mono ?_
          clear k0 k1 k2 k3 k4 k5 k6 k7
          rintro e w2 ⟨rfl, hb2⟩
          have hs := HS1.out.below hb2 HS1.out.lt
          have f0 := hs.frozen 0
          have f1 := hs.frozen 1
          have f2 := hs.frozen 2
          have c0 := s0 hs
          have c1 := s1 hs
          have c2 := s2 hs
          have HFP := Lib.hid (fin_span (w := w) (w.heap.size + 1) (by omega) hs (HB1.out.trans (hb2.mono HB1.out.size)) 0 0 0)
          clear hb2
          go_wp2
          refine bodyPost_ret (ret_span2 rfl (w.heap.size + 1) 0 0 0 (by kernel_rfl) rfl HFP.out.1) rfl ?_
          exact ⟨by rw [HN.out.1, HN.out.2.1, HN.out.2.2.1, HN.out.2.2.2]; rfl, HFP.out.2⟩
  · obtain ⟨hF, h1, h2, e1, e2, e3, hb4, hb5, hb6, a4⟩ := E.blk_in hd
    have hl := hF.lo
    have hdy := hF.dy
    have hbl := hF.bl
    obtain ⟨y, hy⟩ : ∃ y, i * x.bl = y := ⟨_, rfl⟩
    obtain ⟨fb, hfb⟩ : ∃ fb, x.hi - x.dy + 1 = fb := ⟨_, rfl⟩
    rw [hy] at a4
    rw [ha] at e1
    rw [hf] at e2 e3 hb4 hb5
    rw [ht] at e3 hb5 hb6
    rw [hy, hfb] at e2
    rw [hq] at h1
    rw [hn] at h2
    obtain rfl : a = at' := e1
    have w5' : IntKind.i64.wrap (i * x.bl) = y := by rw [hy]; exact IntWalk.i64_in _ (by omega)
    have w6' : IntKind.i64.wrap (fb + y) = f := by rw [← e2]; exact IntWalk.i64_in _ (by omega)
    have hfirst := fun W => firstBlock_any x (x.hi - x.dy) fb W (IntWalk.i64_in _ (by omega)) (by rw [hfb]; exact IntWalk.i64_in _ (by omega))
    have hspan := fun W => span_any a f x.bl (f + x.bl) t W (IntWalk.i64_in _ (by omega)) (by rw [e3]; exact IntWalk.i64_in _ (by omega))
    have HN : Hid (v = true) := Lib.hid (by rw [← hv, hd])
    have d0 : decide (a < 0) = false := decide_eq_false (by omega)
    have d1 : decide (q ≤ a) = false := decide_eq_false (by omega)
    have d2 : decide (i < 0) = false := decide_eq_false (by omega)
    have d3 : decide (n ≤ i) = false := decide_eq_false (by omega)
    clear hv ha hf ht hd hF h1 h2 e2 e3 hb4 hb5 hb6 a4 hl hdy hbl hq hn hy hfb
    go_enter Try.func13, Try.ntmps13
    go_wp2_with fail
    refine (hpub (esbox w x)).mono ?_
    rintro e w1 ⟨rfl, hb1⟩
    have k0 := e0 (HK.out.below hb1 HK.out.lt)
    have k1 := e1 (HK.out.below hb1 HK.out.lt)
    have k2 := e2 (HK.out.below hb1 HK.out.lt)
    have k3 := e3 (HK.out.below hb1 HK.out.lt)
    have k4 := e4 (HK.out.below hb1 HK.out.lt)
    have k5 := e5 (HK.out.below hb1 HK.out.lt)
    have k6 := e6 (HK.out.below hb1 HK.out.lt)
    have k7 := e7 (HK.out.below hb1 HK.out.lt)
    have HB1 := Lib.hid (HB.out.trans (hb1.mono HB.out.size))
    have HS1 := Lib.hid (HS.out.below hb1 HS.out.lt)
    have HK1 := Lib.hid (HK.out.below hb1 HK.out.lt)
    clear hb1 hpub
    go_wp2_with fail
    refine (hblk w1).mono ?_
    clear k0 k1 k2 k3 k4 k5 k6 k7
    rintro e w2 ⟨rfl, hb2⟩
    have k0 := e0 (HK1.out.below hb2 HK1.out.lt)
    have k1 := e1 (HK1.out.below hb2 HK1.out.lt)
    have k2 := e2 (HK1.out.below hb2 HK1.out.lt)
    have k3 := e3 (HK1.out.below hb2 HK1.out.lt)
    have k4 := e4 (HK1.out.below hb2 HK1.out.lt)
    have k5 := e5 (HK1.out.below hb2 HK1.out.lt)
    have k6 := e6 (HK1.out.below hb2 HK1.out.lt)
    have k7 := e7 (HK1.out.below hb2 HK1.out.lt)
    have HB2 := Lib.hid (HB1.out.trans (hb2.mono HB1.out.size))
    have HS2 := Lib.hid (HS1.out.below hb2 HS1.out.lt)
    have HK2 := Lib.hid (HK1.out.below hb2 HK1.out.lt)
    clear hb2 hblk
    go_wp2_with fail
    clear k0 k1 k2 k3 k4 k5 k6 k7
    refine wp_region_held (S := fun w' => Blok w' w.heap.size 25 #[.int .i64 x.b, .int .i64 x.k, .int .i64 x.c, .int .i64 x.j, .int .i64 x.lo, .int .i64 x.hi, .int .i64 x.dy, .int .i64 x.bl]) (by kernel_rfl) ?_
    change wpAnyH _ _ _ _ _ _ _ _ (World.drew _)
    have HS0 : (fun w' => Blok w' w.heap.size 25 #[.int .i64 x.b, .int .i64 x.k, .int .i64 x.c, .int .i64 x.j, .int .i64 x.lo, .int .i64 x.hi, .int .i64 x.dy, .int .i64 x.bl]) (World.drew w2) := HK2.out.drew
    refine wpAnyH_take (i := 0) (v := (.int .i64 a)) rfl (by kernel_rfl) (by kernel_rfl) (by kernel_rfl) (fun _ _ _ h => h) (.inl ⟨by kernel_rfl, fun w9 hS => by kernel_rfl⟩) HS0 ?_
    refine wpAnyH_take (i := 1) (v := (.agg #[.int .i64 x.b, .int .i64 x.k, .int .i64 x.c, .int .i64 x.j, .int .i64 x.lo, .int .i64 x.hi, .int .i64 x.dy, .int .i64 x.bl])) rfl (by kernel_rfl) (by kernel_rfl) (by kernel_rfl) (fun _ _ _ h => h) (.inl ⟨by kernel_rfl, fun w9 hS => by have k0 := e0 hS; have k1 := e1 hS; have k2 := e2 hS; have k3 := e3 hS; have k4 := e4 hS; have k5 := e5 hS; have k6 := e6 hS; have k7 := e7 hS; go_simp⟩) HS0 ?_
    refine wpAnyH_take (i := 3) (v := (.int .i64 i)) rfl (by kernel_rfl) (by kernel_rfl) (by kernel_rfl) (fun _ _ _ h => h) (.inl ⟨by kernel_rfl, fun w9 hS => by kernel_rfl⟩) HS0 ?_
    refine wpAnyH_take (i := 4) (v := (.pointer (some ⟨w.heap.size, 7, none⟩))) rfl (by kernel_rfl) (by kernel_rfl) (by kernel_rfl) (fun _ _ _ h => h) (.inl ⟨by kernel_rfl, fun w9 hS => by kernel_rfl⟩) HS0 ?_
    refine wpAnyH_take (i := 5) (v := (.int .i64 x.bl)) rfl (by kernel_rfl) (by kernel_rfl) (by kernel_rfl) (fun _ _ _ h => h) (.inl ⟨by kernel_rfl, fun w9 hS => by have k := e7 hS; go_simp⟩) HS0 ?_
    refine wpAnyH_take (i := 6) (v := (.int .i64 y)) rfl (by kernel_rfl) (by kernel_rfl) (by kernel_rfl) (fun _ _ _ h => h) (.inl ⟨by kernel_rfl, fun w9 hS => by go_simp⟩) HS0 ?_
    refine wpAnyH_take (i := 8) (v := (.pointer (some ⟨w.heap.size, 7, none⟩))) rfl (by kernel_rfl) (by kernel_rfl) (by kernel_rfl) (fun _ _ _ h => h) (.inl ⟨by kernel_rfl, fun w9 hS => by kernel_rfl⟩) HS0 ?_
    refine wpAnyH_take (i := 9) (v := (.int .i64 x.bl)) rfl (by kernel_rfl) (by kernel_rfl) (by kernel_rfl) (fun _ _ _ h => h) (.inl ⟨by kernel_rfl, fun w9 hS => by have k := e7 hS; go_simp⟩) HS0 ?_
    refine wpAnyH_call (i := 2) (f := 32) (args := #[.agg #[.int .i64 x.b, .int .i64 x.k, .int .i64 x.c, .int .i64 x.j, .int .i64 x.lo, .int .i64 x.hi, .int .i64 x.dy, .int .i64 x.bl]]) (by kernel_rfl) rfl (by kernel_rfl) (by kernel_rfl) (hfirst (World.drew w2)) ?_
    rintro e w3 ⟨rfl, hb3⟩
    have HB3 := Lib.hid (HB2.out.trans (((below_drew w2).trans (hb3.mono (Nat.le_refl _))).mono HB2.out.size))
    have HS3 := Lib.hid (HS2.out.drew.below hb3 HS2.out.lt)
    have HT3 : (fun w' => Blok w' w.heap.size 25 #[.int .i64 x.b, .int .i64 x.k, .int .i64 x.c, .int .i64 x.j, .int .i64 x.lo, .int .i64 x.hi, .int .i64 x.dy, .int .i64 x.bl]) w3 := HK2.out.drew.below hb3 HK2.out.lt
    refine ⟨_, rfl, HT3, ?_⟩
    refine wpAnyH_take (i := 7) (v := (.int .i64 f)) rfl (by kernel_rfl) (by kernel_rfl) (by kernel_rfl) (fun _ _ _ h => h) (.inl ⟨by kernel_rfl, fun w9 hS => by go_simp⟩) HT3 ?_
    refine wpAnyH_call (i := 10) (f := 29) (args := #[.int .i64 a, .int .i64 f, .int .i64 x.bl]) (by kernel_rfl) rfl (by kernel_rfl) (by kernel_rfl) (hspan w3) ?_
    rintro e w5 ⟨rfl, hb5⟩
    have HT5 : (fun w' => Blok w' w.heap.size 25 #[.int .i64 x.b, .int .i64 x.k, .int .i64 x.c, .int .i64 x.j, .int .i64 x.lo, .int .i64 x.hi, .int .i64 x.dy, .int .i64 x.bl]) w5 := Blok.below HT3 hb5 (Blok.lt HT3)
    refine ⟨_, rfl, HT5, ?_⟩
    have hs := HS3.out.below hb5 HS3.out.lt
    have f0 := hs.frozen 0
    have f1 := hs.frozen 1
    have f2 := hs.frozen 2
    have c0 := s0 hs
    have c1 := s1 hs
    have c2 := s2 hs
    have HFP := Lib.hid (fin_span (w := w) (w.heap.size + 1) (by omega) hs (HB3.out.trans (hb5.mono HB3.out.size)) a f t)
    have HT6 : (fun w' => Blok w' w.heap.size 25 #[.int .i64 x.b, .int .i64 x.k, .int .i64 x.c, .int .i64 x.j, .int .i64 x.lo, .int .i64 x.hi, .int .i64 x.dy, .int .i64 x.bl]) (((w5.setCell ⟨w.heap.size + 1, 0, none⟩ (.int .i64 a)).setCell ⟨w.heap.size + 1, 1, none⟩ (.int .i64 f)).setCell ⟨w.heap.size + 1, 2, none⟩ (.int .i64 t)) := ((Blok.far (Blok.far (Blok.far HT5 (p := ⟨w.heap.size + 1, 0, none⟩) (by simp) _) (p := ⟨w.heap.size + 1, 1, none⟩) (by simp) _) (p := ⟨w.heap.size + 1, 2, none⟩) (by simp) _))
    refine wpAnyH_one (i := 11) (by kernel_rfl) (wpOp_skip (w' := ((w5.setCell ⟨w.heap.size + 1, 0, none⟩ (.int .i64 a)).setCell ⟨w.heap.size + 1, 1, none⟩ (.int .i64 f)).setCell ⟨w.heap.size + 1, 2, none⟩ (.int .i64 t)) rfl (by kernel_rfl) (by go_simp) ⟨HT6, ?_⟩)
    refine wpAnyH_take (i := 12) (v := (.bool true)) rfl (by kernel_rfl) (by kernel_rfl) (by kernel_rfl) (fun _ _ _ h => h) (.inl ⟨by kernel_rfl, fun w9 hS => by kernel_rfl⟩) HT6 ?_
    refine wpAnyH_done (by kernel_rfl) ?_ _
    clear hb3 hb5 hs f0 f1 f2 c0 c1 c2 HT3 HT5 HT6 HS0
    simp only [List.getElem_toArray, List.getElem_cons_succ, List.getElem_cons_zero, put_some, List.setIfInBounds_toArray, List.set_cons_succ, List.set_cons_zero]
    go_wp2
    refine bodyPost_ret (ret_span2 rfl (w.heap.size + 1) a f t (by kernel_rfl) rfl HFP.out.1) rfl ?_
    exact ⟨by rw [HN.out]; rfl, HFP.out.2⟩
end Go.Proofs.Ytjfnopbdlopjgaa
