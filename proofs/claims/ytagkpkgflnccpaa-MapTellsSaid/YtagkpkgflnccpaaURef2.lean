/-
  Walks of the document's own Take, Give, New.
-/
import Derived.Test.YtagkpkgflnccpaaURef
namespace Go.Proofs.Ytagkpkgflnccpaa
open Go.RowKit

set_option maxHeartbeats 1000000 in
theorem refTake_any (n u i x : Int) (b : Bool) (w : World) (hb : U.off n u i = b) (hx : U.take n u i = x) : Calls Try.prog 11 #[.agg #[.int .i64 n, .int .i64 u], .int .i64 i] w fun e w' => e = .returned (.tuple #[.agg #[.int .i64 n, .int .i64 x], .bool b]) ∧ Below w.heap.size w w' := by
  have HB := Lib.hid (ubox2_below w n u)
  have HU := Lib.hid (ubox2_u w n u)
  have HR := Lib.hid (ubox2_r w n u)
  unfold U.take at hx
  cases hm : U.may n u
  · have hN := U.has_no (n := n) (u := u) (i := i) (fun h => by rw [hm] at h; cases h.1)
    rw [hN.2.1] at hb hx
    have HX : Hid (x = u ∧ b = false) := Lib.hid ⟨hx.symm, hb.symm⟩
    have hc := refMay_any n u false (ubox2 w n u) hm
    have hh := fun W => refHas_any n u i false W hN.1
    clear hm hb hx hN
    go_enter Try.func11, Try.ntmps11
    go_wp2_with fail
    refine hc.mono ?_
    rintro e w1 ⟨rfl, hb1⟩
    have hu := HU.out.below hb1 HU.out.lt
    have hs := HR.out.below hb1 HR.out.lt
    have c0 := u0 hu
    have c1 := u1 hu
    have HU1 := Lib.hid hu
    have HR1 := Lib.hid hs
    have HB1 := Lib.hid (HB.out.trans (hb1.mono HB.out.size))
    clear hb1 hu hs
    go_wp2_with fail
    refine (hh w1).mono ?_
    clear c0 c1
    rintro e w2 ⟨rfl, hb2⟩
    have hu := HU1.out.below hb2 HU1.out.lt
    have hs := HR1.out.below hb2 HR1.out.lt
    have c0 := u0 hu
    have c1 := u1 hu
    have d0 := u0 hs
    have d1 := u1 hs
    have f0 := hs.frozen 0
    have f1 := hs.frozen 1
    have HU2 := Lib.hid hu
    have HR2 := Lib.hid hs
    have HB2 := Lib.hid (HB1.out.trans (hb2.mono HB1.out.size))
    have HFP := Lib.hid (fin_used (w := w) (w.heap.size + 1) (by omega) hs HB2.out n u)
    clear hb2 hs hu
    go_wp2
    refine bodyPost_ret (ret_used2 rfl (w.heap.size + 1) n u (by kernel_rfl) rfl HFP.out.1) rfl ?_
    exact ⟨by rw [HX.out.1, HX.out.2]; rfl, HFP.out.2⟩
  · have hc := refMay_any n u true (ubox2 w n u) hm
    by_cases h0 : 0 ≤ i
    · have g0 : decide (i < 0) = false := decide_eq_false (by omega)
      by_cases h1 : i < n
      · have g1 : decide (n ≤ i) = false := decide_eq_false (by omega)
        have hat := U.at_yes hm h0 h1
        cases hbit : U.bit u i.toNat
        · have hoff : U.off n u i = true := by unfold U.off; rw [hat, hbit]; rfl
          have hhas : U.has n u i = false := by unfold U.has; rw [hat, hbit]; rfl
          rw [hoff] at hb hx
          have hh := fun W => refHas_any n u i false W hhas
          obtain ⟨I, rfl⟩ := Int.eq_ofNat_of_zero_le h0
          have hn := U.may_iff.1 hm
          obtain ⟨M, V, rfl, rfl, hM8, -, hV⟩ := U.may_cases hm
          have hI : I < 8 := by omega
          have hq8 : 2 ^ I ≤ 2 ^ 8 := Nat.pow_le_pow_right (by decide) (by omega)
          obtain ⟨q, hq⟩ : ∃ q : Nat, 2 ^ I = q := ⟨_, rfl⟩
          rw [hq] at hq8
          have hp := fun W => pow_any I (q : Int) W (by omega) (by rw [← hq]; simp)
          have hxv : (V : Int) + (q : Int) = x := by rw [← hx, ← hq]; simp
          have hwx : IntKind.i64.wrap x = x := IntWalk.i64_in _ (by omega)
          have HX : Hid (b = true) := Lib.hid hb.symm
          clear hm hn hq hb hx hoff hhas hat hbit h0
          go_enter Try.func11, Try.ntmps11
          go_wp2_with fail
          refine hc.mono ?_
          rintro e w1 ⟨rfl, hb1⟩
          have hu := HU.out.below hb1 HU.out.lt
          have hs := HR.out.below hb1 HR.out.lt
          have c0 := u0 hu
          have c1 := u1 hu
          have HU1 := Lib.hid hu
          have HR1 := Lib.hid hs
          have HB1 := Lib.hid (HB.out.trans (hb1.mono HB.out.size))
          clear hb1 hu hs
          go_wp2_with fail
          refine (hh w1).mono ?_
          clear c0 c1
          rintro e w2 ⟨rfl, hb2⟩
          have hu := HU1.out.below hb2 HU1.out.lt
          have hs := HR1.out.below hb2 HR1.out.lt
          have c0 := u0 hu
          have c1 := u1 hu
          have d0 := u0 hs
          have d1 := u1 hs
          have f0 := hs.frozen 0
          have f1 := hs.frozen 1
          have HU2 := Lib.hid hu
          have HR2 := Lib.hid hs
          have HB2 := Lib.hid (HB1.out.trans (hb2.mono HB1.out.size))
          clear hb2 hs hu d0 d1 f0 f1
          go_wp2_with fail
          go_region_with (go_at_call 28; refine (hp _).mono ?_; rintro e w3 ⟨rfl, hb3⟩; have hu := HU2.out.drew.below hb3 HU2.out.lt; have hs := HR2.out.drew.below hb3 HR2.out.lt; have f0 := hs.frozen 0; have f1 := hs.frozen 1; have d0 := u0 hs; have d1 := u1 hs; have k0 := u0 hu; have k1 := u1 hu; have HFP := Lib.hid (fin_used (w := w) (w.heap.size + 1) (by omega) hs (HB2.out.trans ((below_drew w2).trans (hb3.mono (Nat.le_refl _)) |>.mono HB2.out.size)) M x); clear hb3 hs hu)
          all_goals (go_wp2; refine bodyPost_ret (ret_used2 rfl (w.heap.size + 1) M x (by kernel_rfl) rfl HFP.out.1) rfl ?_; exact ⟨by rw [HX.out]; rfl, HFP.out.2⟩)
        · have hoff : U.off n u i = false := by unfold U.off; rw [hat, hbit]; rfl
          have hhas : U.has n u i = true := by unfold U.has; rw [hat, hbit]; rfl
          rw [hoff] at hb hx
          have hh := fun W => refHas_any n u i true W hhas
          have HX : Hid (x = u ∧ b = false) := Lib.hid ⟨hx.symm, hb.symm⟩
          clear hm hb hx hoff hhas hat hbit h0 h1
          go_enter Try.func11, Try.ntmps11
          go_wp2_with fail
          refine hc.mono ?_
          rintro e w1 ⟨rfl, hb1⟩
          have hu := HU.out.below hb1 HU.out.lt
          have hs := HR.out.below hb1 HR.out.lt
          have c0 := u0 hu
          have c1 := u1 hu
          have HU1 := Lib.hid hu
          have HR1 := Lib.hid hs
          have HB1 := Lib.hid (HB.out.trans (hb1.mono HB.out.size))
          clear hb1 hu hs
          go_wp2_with fail
          refine (hh w1).mono ?_
          clear c0 c1
          rintro e w2 ⟨rfl, hb2⟩
          have hu := HU1.out.below hb2 HU1.out.lt
          have hs := HR1.out.below hb2 HR1.out.lt
          have c0 := u0 hu
          have c1 := u1 hu
          have d0 := u0 hs
          have d1 := u1 hs
          have f0 := hs.frozen 0
          have f1 := hs.frozen 1
          have HU2 := Lib.hid hu
          have HR2 := Lib.hid hs
          have HB2 := Lib.hid (HB1.out.trans (hb2.mono HB1.out.size))
          have HFP := Lib.hid (fin_used (w := w) (w.heap.size + 1) (by omega) hs HB2.out n u)
          clear hb2 hs hu
          go_wp2
          refine bodyPost_ret (ret_used2 rfl (w.heap.size + 1) n u (by kernel_rfl) rfl HFP.out.1) rfl ?_
          exact ⟨by rw [HX.out.1, HX.out.2]; rfl, HFP.out.2⟩
      · have g1 : decide (n ≤ i) = true := decide_eq_true (by omega)
        have hN := U.has_no (n := n) (u := u) (i := i) (fun h => h1 h.2.2)
        rw [hN.2.1] at hb hx
        have HX : Hid (x = u ∧ b = false) := Lib.hid ⟨hx.symm, hb.symm⟩
        have hh := fun W => refHas_any n u i false W hN.1
        clear hm hb hx hN h0 h1
        go_enter Try.func11, Try.ntmps11
        go_wp2_with fail
        refine hc.mono ?_
        rintro e w1 ⟨rfl, hb1⟩
        have hu := HU.out.below hb1 HU.out.lt
        have hs := HR.out.below hb1 HR.out.lt
        have c0 := u0 hu
        have c1 := u1 hu
        have HU1 := Lib.hid hu
        have HR1 := Lib.hid hs
        have HB1 := Lib.hid (HB.out.trans (hb1.mono HB.out.size))
        clear hb1 hu hs
        go_wp2_with fail
        refine (hh w1).mono ?_
        clear c0 c1
        rintro e w2 ⟨rfl, hb2⟩
        have hu := HU1.out.below hb2 HU1.out.lt
        have hs := HR1.out.below hb2 HR1.out.lt
        have c0 := u0 hu
        have c1 := u1 hu
        have d0 := u0 hs
        have d1 := u1 hs
        have f0 := hs.frozen 0
        have f1 := hs.frozen 1
        have HU2 := Lib.hid hu
        have HR2 := Lib.hid hs
        have HB2 := Lib.hid (HB1.out.trans (hb2.mono HB1.out.size))
        have HFP := Lib.hid (fin_used (w := w) (w.heap.size + 1) (by omega) hs HB2.out n u)
        clear hb2 hs hu
        go_wp2
        refine bodyPost_ret (ret_used2 rfl (w.heap.size + 1) n u (by kernel_rfl) rfl HFP.out.1) rfl ?_
        exact ⟨by rw [HX.out.1, HX.out.2]; rfl, HFP.out.2⟩
    · have g0 : decide (i < 0) = true := decide_eq_true (by omega)
      have hN := U.has_no (n := n) (u := u) (i := i) (fun h => h0 h.2.1)
      rw [hN.2.1] at hb hx
      have HX : Hid (x = u ∧ b = false) := Lib.hid ⟨hx.symm, hb.symm⟩
      have hh := fun W => refHas_any n u i false W hN.1
      clear hm hb hx hN h0
      go_enter Try.func11, Try.ntmps11
      go_wp2_with fail
      refine hc.mono ?_
      rintro e w1 ⟨rfl, hb1⟩
      have hu := HU.out.below hb1 HU.out.lt
      have hs := HR.out.below hb1 HR.out.lt
      have c0 := u0 hu
      have c1 := u1 hu
      have HU1 := Lib.hid hu
      have HR1 := Lib.hid hs
      have HB1 := Lib.hid (HB.out.trans (hb1.mono HB.out.size))
      clear hb1 hu hs
      go_wp2_with fail
      refine (hh w1).mono ?_
      clear c0 c1
      rintro e w2 ⟨rfl, hb2⟩
      have hu := HU1.out.below hb2 HU1.out.lt
      have hs := HR1.out.below hb2 HR1.out.lt
      have c0 := u0 hu
      have c1 := u1 hu
      have d0 := u0 hs
      have d1 := u1 hs
      have f0 := hs.frozen 0
      have f1 := hs.frozen 1
      have HU2 := Lib.hid hu
      have HR2 := Lib.hid hs
      have HB2 := Lib.hid (HB1.out.trans (hb2.mono HB1.out.size))
      have HFP := Lib.hid (fin_used (w := w) (w.heap.size + 1) (by omega) hs HB2.out n u)
      clear hb2 hs hu
      go_wp2
      refine bodyPost_ret (ret_used2 rfl (w.heap.size + 1) n u (by kernel_rfl) rfl HFP.out.1) rfl ?_
      exact ⟨by rw [HX.out.1, HX.out.2]; rfl, HFP.out.2⟩

set_option maxHeartbeats 1000000 in
theorem refGive_any (n u i x : Int) (b : Bool) (w : World) (hb : U.has n u i = b) (hx : U.give n u i = x) : Calls Try.prog 13 #[.agg #[.int .i64 n, .int .i64 u], .int .i64 i] w fun e w' => e = .returned (.tuple #[.agg #[.int .i64 n, .int .i64 x], .bool b]) ∧ Below w.heap.size w w' := by
  have HB := Lib.hid (ubox2_below w n u)
  have HU := Lib.hid (ubox2_u w n u)
  have HR := Lib.hid (ubox2_r w n u)
  unfold U.give at hx
  have hh := fun W => refHas_any n u i b W hb
  cases b
  · rw [hb] at hx
    have HX : Hid (x = u) := Lib.hid hx.symm
    clear hb hx
    go_enter Try.func13, Try.ntmps13
    go_wp2_with fail
    refine (hh _).mono ?_
    rintro e w2 ⟨rfl, hb2⟩
    have hu := HU.out.below hb2 HU.out.lt
    have hs := HR.out.below hb2 HR.out.lt
    have c0 := u0 hu
    have c1 := u1 hu
    have d0 := u0 hs
    have d1 := u1 hs
    have f0 := hs.frozen 0
    have f1 := hs.frozen 1
    have HU2 := Lib.hid hu
    have HR2 := Lib.hid hs
    have HB2 := Lib.hid (HB.out.trans (hb2.mono HB.out.size))
    have HFP := Lib.hid (fin_used (w := w) (w.heap.size + 1) (by omega) hs HB2.out n u)
    clear hb2 hs hu
    go_wp2
    refine bodyPost_ret (ret_used2 rfl (w.heap.size + 1) n u (by kernel_rfl) rfl HFP.out.1) rfl ?_
    exact ⟨by rw [HX.out]; rfl, HFP.out.2⟩
  · have ha : U.at' n u i = 1 := by unfold U.has at hb; simpa using hb
    obtain ⟨hm, I, rfl, h1, hI, -⟩ := U.at_facts ha (by omega)
    rw [hb] at hx
    obtain ⟨M, V, rfl, rfl, hM8, -, hV⟩ := U.may_cases hm
    have hq8 : 2 ^ I ≤ 2 ^ 8 := Nat.pow_le_pow_right (by decide) (by omega)
    obtain ⟨q, hq⟩ : ∃ q : Nat, 2 ^ I = q := ⟨_, rfl⟩
    rw [hq] at hq8
    have hp := fun W => pow_any I (q : Int) W (by omega) (by rw [← hq]; simp)
    have hxv : (V : Int) - (q : Int) = x := by rw [← hx, ← hq]; simp
    have hwx : IntKind.i64.wrap x = x := IntWalk.i64_in _ (by omega)
    clear hm hq hb hx ha h1
    go_enter Try.func13, Try.ntmps13
    go_wp2_with fail
    refine (hh _).mono ?_
    rintro e w2 ⟨rfl, hb2⟩
    have hu := HU.out.below hb2 HU.out.lt
    have hs := HR.out.below hb2 HR.out.lt
    have c0 := u0 hu
    have c1 := u1 hu
    have d0 := u0 hs
    have d1 := u1 hs
    have f0 := hs.frozen 0
    have f1 := hs.frozen 1
    have HU2 := Lib.hid hu
    have HR2 := Lib.hid hs
    have HB2 := Lib.hid (HB.out.trans (hb2.mono HB.out.size))
    clear hb2 hs hu d0 d1 f0 f1
    go_wp2_with fail
    go_region_with (go_at_call 28; refine (hp _).mono ?_; rintro e w3 ⟨rfl, hb3⟩; have hu := HU2.out.drew.below hb3 HU2.out.lt; have hs := HR2.out.drew.below hb3 HR2.out.lt; have f0 := hs.frozen 0; have f1 := hs.frozen 1; have d0 := u0 hs; have d1 := u1 hs; have k0 := u0 hu; have k1 := u1 hu; have HFP := Lib.hid (fin_used (w := w) (w.heap.size + 1) (by omega) hs (HB2.out.trans ((below_drew w2).trans (hb3.mono (Nat.le_refl _)) |>.mono HB2.out.size)) M x); clear hb3 hs hu)
    all_goals (go_wp2; refine bodyPost_ret (ret_used2 rfl (w.heap.size + 1) M x (by kernel_rfl) rfl HFP.out.1) rfl ?_; exact ⟨rfl, HFP.out.2⟩)

set_option maxHeartbeats 400000 in
theorem refNew_any (n x : Int) (b : Bool) (w : World) (hb : U.may n 0 = b) (hx : U.newN n = x) : Calls Try.prog 15 #[.int .i64 n] w fun e w' => e = .returned (.tuple #[.agg #[.int .i64 x, .int .i64 0], .bool b]) ∧ Below w.heap.size w w' := by
  obtain ⟨wb, hwb⟩ : ∃ wb, ubox (ubox w 0 0) n 0 = wb := ⟨_, rfl⟩
  have HB : Hid (Below w.heap.size w wb) := Lib.hid (by rw [← hwb]; exact (ubox_below w 0 0).trans ((ubox_below _ n 0).mono (ubox_below w 0 0).size))
  have HR : Hid (Blok wb w.heap.size 23 #[.int .i64 0, .int .i64 0]) := Lib.hid (by rw [← hwb]; exact (ubox_blok w 0 0).alloc _)
  have HU : Hid (Blok wb (w.heap.size + 1) 23 #[.int .i64 n, .int .i64 0]) := Lib.hid (by rw [← hwb]; have := ubox_blok (ubox w 0 0) n 0; rwa [ubox_size] at this)
  have hc := refMay_any n 0 b wb hb
  have HW := Lib.hid hwb
  unfold U.newN at hx
  rw [hb] at hx
  clear hb hwb
  cases b
  · have HX : Hid (x = 0) := Lib.hid hx.symm
    clear hx
    go_enter Try.func15, Try.ntmps15
    go_wp2_with fail
    change Calls _ _ _ (ubox (ubox w 0 0) n 0) _
    rw [HW.out]
    refine hc.mono ?_
    rintro e w1 ⟨rfl, hb1⟩
    have hs := HR.out.below hb1 HR.out.lt
    have d0 := u0 hs
    have d1 := u1 hs
    have f0 := hs.frozen 0
    have f1 := hs.frozen 1
    have HFP := Lib.hid (fin_used (w := w) w.heap.size (by omega) hs (HB.out.trans (hb1.mono HB.out.size)) 0 0)
    clear hb1 hs
    go_wp2
    refine bodyPost_ret (ret_used2 rfl w.heap.size 0 0 (by kernel_rfl) rfl HFP.out.1) rfl ?_
    exact ⟨by rw [HX.out]; rfl, HFP.out.2⟩
  · have HX : Hid (x = n) := Lib.hid hx.symm
    clear hx
    go_enter Try.func15, Try.ntmps15
    go_wp2_with fail
    change Calls _ _ _ (ubox (ubox w 0 0) n 0) _
    rw [HW.out]
    refine hc.mono ?_
    rintro e w1 ⟨rfl, hb1⟩
    have hs := HR.out.below hb1 HR.out.lt
    have hu := HU.out.below hb1 HU.out.lt
    have c0 := u0 hu
    have c1 := u1 hu
    have d0 := u0 hs
    have d1 := u1 hs
    have f0 := hs.frozen 0
    have f1 := hs.frozen 1
    have HFP := Lib.hid (fin_used (w := w) w.heap.size (by omega) hs (HB.out.trans (hb1.mono HB.out.size)) n 0)
    clear hb1 hs hu
    go_wp2
    refine bodyPost_ret (ret_used2 rfl w.heap.size n 0 (by kernel_rfl) rfl HFP.out.1) rfl ?_
    exact ⟨by rw [HX.out]; rfl, HFP.out.2⟩
end Go.Proofs.Ytagkpkgflnccpaa
