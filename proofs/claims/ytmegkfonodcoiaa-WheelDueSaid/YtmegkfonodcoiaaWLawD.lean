/-
  WheelDue, at every wheel, time and place.
-/
import Derived.Test.YtmegkfonodcoiaaWLaws
namespace Go.Proofs.Ytmegkfonodcoiaa
open Go.RowKit

theorem W.mem_snoc {d : List W.Tm} {j : Nat} {x X : W.Tm} (hx : d[j]? = some x) : decide (X ∈ d.take (j + 1)) = (decide (X ∈ d.take j) || decide (x = X)) := by
  obtain ⟨h1, h2⟩ := List.getElem?_eq_some_iff.1 hx
  rw [List.take_succ_eq_append_getElem h1, h2, Bool.eq_iff_iff]
  simp only [List.mem_append, List.mem_singleton, Bool.or_eq_true, decide_eq_true_eq]
  constructor
  · rintro (h | h)
    · exact .inl h
    · exact .inr h.symm
  · rintro (h | h)
    · exact .inl h
    · exact .inr h.symm

set_option maxRecDepth 100000 in
set_option maxHeartbeats 4000000 in
theorem WheelDue_in (k : Int) (a : Option Addr) (n c : Nat) (l : List W.Tm) (tt i : Int) (w : World) (h : TIn w a n c l) :
    Calls Try.prog 6 #[.agg #[.int .i64 k, .slice a n c], .int .i64 tt, .int .i64 i] w fun e w' => e = .returned (.bool true) ∧ Below w.heap.size w w' := by
  have hl := h.1
  have HB0 := Lib.hid (wbox_below w k a n c)
  have HKx0 := Lib.hid (wbox_blok w k a n c)
  have HTx0 := Lib.hid (h.below (wbox_below w k a n c))
  by_cases hn : n ≤ 70
  · have g1 : decide ((70 : Int) < (n : Int)) = false := by simp; omega
    obtain ⟨⟨⟨k2, l2⟩, d2, e2⟩, s2⟩ : ∃ x, W.step k l tt = x := ⟨_, rfl⟩
    obtain ⟨n2, m2⟩ : ∃ m, l2.length = m := ⟨_, rfl⟩
    obtain ⟨q2, p2⟩ : ∃ m, d2.length = m := ⟨_, rfl⟩
    have b2 := W.step_len s2
    have hz : e2 ≠ 0 → q2 = 0 := fun he => by
      have := (W.step_err (k := k) (l := l) (tt := tt) (by rw [s2]; exact he)).2
      rw [s2] at this
      simp only at this
      rw [← p2, this]; rfl
    have hy : e2 = 0 → k2 = tt ∧ d2 = W.due tt l ∧ l2 = W.left tt l ∧ W.Asc l := fun he => by
      obtain ⟨hm, _, _, h4⟩ := W.step_ok (k := k) (l := l) (tt := tt) (by rw [s2]; exact he)
      rw [s2] at h4
      cases h4
      exact ⟨rfl, rfl, rfl, hm.2.2.2.2.1⟩
    have z2 : n2 ≤ 100 := by omega
    have z3 : q2 ≤ 100 := by omega
    clear b2
    have S2 := Lib.hid s2
    have M2 := Lib.hid m2
    have P2 := Lib.hid p2
    have Hz := Lib.hid hz
    have Hy := Lib.hid hy
    have Hl := Lib.hid hl
    clear s2 m2 p2 hz hy hl
    by_cases he2 : e2 = 0
    · subst he2
      obtain ⟨hk2, hd2, hl2, hasc⟩ := Hy.out rfl
      have HK2 := Lib.hid hk2
      have HD := Lib.hid hd2
      have HL2 := Lib.hid hl2
      have HA : Hid (W.Asc d2) := Lib.hid (by rw [hd2]; exact hasc.filter _)
      have hsum : q2 + n2 = n := by
        have h1 := W.parts_len tt l
        rw [← hd2, ← hl2, P2.out, M2.out, Hl.out] at h1; exact h1
      have HSUM := Lib.hid hsum
      clear hk2 hd2 hl2 hasc hsum
      go_enter Try.func6, Try.ntmps6
      go_wp2_with fail
      refine (wawake_any (wbox w k a n c)).mono ?_
      rintro e w1 ⟨rfl, hb⟩
      have HKx1 := Lib.hid (HKx0.out.on' hb)
      have HTx1 := Lib.hid (HTx0.out.below hb)
      have xf0 := HKx1.out.b0
      have xf1 := HKx1.out.b1
      have HB1 := Lib.hid (HB0.out.trans (hb.mono HB0.out.size))
      clear hb
      go_wp2_with fail
      refine (step_is k tt a n c l k2 l2 d2 n2 q2 0 w1 HTx1.out (by omega) S2.out M2.out P2.out).mono ?_
      clear xf0 xf1
      rintro e w2 ⟨a2, c2, r2, o2, rfl, htb2, htd2, hb⟩
      have HKx2 := Lib.hid (HKx1.out.on' hb)
      have HTx2 := Lib.hid (HTx1.out.below hb)
      have xf0 := HKx2.out.b0
      have xf1 := HKx2.out.b1
      have HB2 := Lib.hid (HB1.out.trans (hb.mono HB1.out.size))
      clear hb
      have HTb22 := htb2
      clear htb2
      have HTd22 := htd2
      clear htd2
      have Nxb2 := Lib.hid (Nat.ne_of_lt HKx2.out.lt)
      have hb := wbox_below w2 k2 a2 n2 c2
      have HKx3 := Lib.hid (HKx2.out.on' hb)
      have HTx3 := Lib.hid (HTx2.out.below hb)
      have xb2a0 := fun o => (HKx2.out.alloc o).b0
      have xb2a1 := fun o => (HKx2.out.alloc o).b1
      have HTb23 := Lib.hid (HTb22.out.below hb)
      have HKb23 := Lib.hid (wbox_blok w2 k2 a2 n2 c2)
      have HB3 := Lib.hid (HB2.out.trans (hb.mono HB2.out.size))
      clear hb
      have HTd23 := Lib.hid (HTd22.out.below (wbox_below w2 k2 a2 n2 c2))
      clear xf0 xf1 xb2a0 xb2a1
      have HB' := HB3
      have FD := HTd23
      have FX := HTx3
      have FY := HTb23
      have FKX := HKx3
      have FKY := HKb23
      obtain ⟨V, hV⟩ : ∃ V, (wbox w2 k2 a2 n2 c2) = V := ⟨_, rfl⟩
      rw [hV] at HB' FD FX FY FKX FKY
      have HV := Lib.hid hV
      unfold wbox at hV
      go_wp2_with fail
      try rw [hV]
      clear hV
      go_loopw [11] (fun sj wr => ∃ j : Nat, sj = .int .i64 j ∧ j ≤ q2 ∧ Hid (Below V.heap.size V wr)) (fun sj _ => q2 - (intOf sj).toNat)
      case atStart => exact ⟨0, by go_num, by omega, Lib.hid (Below.refl _ _)⟩
      case round =>
        obtain ⟨j, rfl, hjq, HBr⟩ := hrel
        by_cases hlt : j < q2
        · have dj : decide ((j : Int) < q2) = true := by simp; omega
          obtain ⟨b, off, x, hr, hbl, hx, y1, y2⟩ := (FD.out.below HBr.out).at hlt
          subst hr
          have HX := Lib.hid hx
          have j0 : (0 : Int) ≤ j := by omega
          have j1 : (j : Int) < q2 := by omega
          have hxt : x.2 ≤ tt := by
            have := List.mem_of_getElem? hx
            rw [HD.out] at this; exact (W.mem_due.1 this).2
          have c1 : decide (tt < x.2) = false := decide_eq_false (by omega)
          clear hx hbl hxt
          by_cases hj0 : j = 0
          · subst hj0
            go_wp2_with fail
            go_quiet (fail)
            go_wp2
            go_roundw
            case rel => exact ⟨0 + 1, by go_num, by omega, Lib.hid (HBr.out.trans (below_drewN _ _ _))⟩
            case measure => simp [intOf] <;> omega
          · obtain ⟨jj, rfl⟩ : ∃ m, j = m + 1 := ⟨j - 1, by omega⟩
            obtain ⟨b2, off2, y, he2, hb2, hy, r1, r3⟩ := (FD.out.below HBr.out).at (i := jj) (by omega)
            cases he2
            have hxy := List.pairwise_iff_getElem.1 HA.out
            have hlt2 : W.lt y x = true := by
              obtain ⟨u1, rfl⟩ := List.getElem?_eq_some_iff.1 hy
              obtain ⟨u2, rfl⟩ := List.getElem?_eq_some_iff.1 HX.out
              exact hxy jj (jj + 1) u1 u2 (by omega)
            have hlt3 := W.lt_iff.1 hlt2
            obtain ⟨J, hJ⟩ : ∃ J, jj + 1 = J := ⟨_, rfl⟩
            have ej : (J : Int) - 1 = (jj : Int) := by omega
            have wj : IntKind.i64.wrap ((J : Int) - 1) = (jj : Int) := by rw [ej]; exact IntWalk.i64_in _ (by omega)
            have m0 : (0 : Int) ≤ jj := by omega
            have m1 : (jj : Int) < q2 := by omega
            have hjz : decide ((0 : Int) < (J : Int)) = true := by simp; omega
            have hJn2 : J < q2 := by omega
            have hJ0 : 0 < J := by omega
            have hjz2 : decide (0 < J) = true := decide_eq_true hJ0
            rw [hJ] at HX hj0 hlt hjq j0 j1 dj y1 y2 ⊢
            have k1 : decide (x.2 < y.2) = false := decide_eq_false (by omega)
            have hk3 : x.2 = y.2 → y.1 < x.1 := by omega
            clear hJ hxy hlt2 hlt3 hb2 hy
            obtain ⟨p, hp⟩ : ∃ p, (x.2 == y.2) = p := ⟨_, rfl⟩
            cases p with
            | false =>
              clear hk3
              go_wp2_with fail
              go_quiet (fail)
              go_wp2
              go_roundw
              case rel => exact ⟨J + 1, by go_num, by omega, Lib.hid (HBr.out.trans (below_drewN _ _ _))⟩
              case measure => simp [intOf] <;> omega
            | true =>
              have k3 : decide (x.1 ≤ y.1) = false := decide_eq_false (by have := hk3 (by simpa using hp); omega)
              clear hk3
              go_wp2_with fail
              go_quiet (fail)
              go_wp2
              go_roundw
              case rel => exact ⟨J + 1, by go_num, by omega, Lib.hid (HBr.out.trans (below_drewN _ _ _))⟩
              case measure => simp [intOf] <;> omega
        · have dj : decide ((j : Int) < q2) = false := by simp; omega
          have HBV := Lib.hid (HB'.out.trans (HBr.out.mono HB'.out.size))
          have GD := Lib.hid (FD.out.below HBr.out)
          have GX := Lib.hid (FX.out.below HBr.out)
          have GY := Lib.hid (FY.out.below HBr.out)
          have GKX := Lib.hid (FKX.out.on' HBr.out)
          have GKY := Lib.hid (FKY.out.on' HBr.out)
          obtain ⟨U, hU⟩ : ∃ U, wr = U := ⟨_, rfl⟩
          rw [hU] at HBV GD GX GY GKX GKY ⊢
          clear hU HBr
          go_wp2_with fail
          go_loopw [12] (fun sm wr => ∃ m : Nat, sm = .int .i64 m ∧ m ≤ n2 ∧ Hid (Below U.heap.size U wr)) (fun sm _ => n2 - (intOf sm).toNat)
          case atStart => exact ⟨0, by go_num, by omega, Lib.hid (Below.refl _ _)⟩
          case round =>
            obtain ⟨m, rfl, hmq, HBr⟩ := hrel
            have KY := Lib.hid (GKY.out.on' HBr.out)
            have KX := Lib.hid (GKX.out.on' HBr.out)
            have yy0 := KY.out.b0
            have yy1 := KY.out.b1
            by_cases hlm : m < n2
            · have dm : decide ((m : Int) < n2) = true := by simp; omega
              obtain ⟨b, off, x, hr, hbl, hx, y1, y2⟩ := (GY.out.below HBr.out).at hlm
              subst hr
              have j2 : (0 : Int) ≤ m := by omega
              have j3 : (m : Int) < n2 := by omega
              have hxt : tt < x.2 := by
                have := List.mem_of_getElem? hx
                rw [HL2.out] at this; exact (W.mem_left.1 this).2
              have c1 : decide (x.2 ≤ tt) = false := decide_eq_false (by omega)
              clear hx hbl hxt
              go_wp2
              go_roundw
              case rel => exact ⟨m + 1, by go_num, by omega, HBr⟩
              case measure => simp [intOf] <;> omega
            · have dm : decide ((m : Int) < n2) = false := by simp; omega
              have HBW := Lib.hid (HBV.out.trans (HBr.out.mono HBV.out.size))
              have GD2 := Lib.hid (GD.out.below HBr.out)
              have GX2 := Lib.hid (GX.out.below HBr.out)
              have GY2 := Lib.hid (GY.out.below HBr.out)
              have xx0 := KX.out.b0
              have xx1 := KX.out.b1
              have hk2 : (k2 != tt) = false := by rw [HK2.out]; simp
              have hk3 : (k2 == tt) = true := by rw [HK2.out]; simp
              have hw : IntKind.i64.wrap ((q2 : Int) + (n2 : Int)) = (q2 : Int) + (n2 : Int) := IntWalk.i64_in _ (by omega)
              have hs1 : ((q2 : Int) + (n2 : Int) != (n : Int)) = false := by have := HSUM.out; simp; omega
              have hs2 : ((q2 : Int) + (n2 : Int) == (n : Int)) = true := by have := HSUM.out; simp; omega
              by_cases hi0 : i < 0
              · have i0 : decide (i < 0) = true := decide_eq_true hi0
                clear hi0
                go_wp2
                go_ret
                exact ⟨rfl, HBW.out⟩
              · have i0 : decide (i < 0) = false := decide_eq_false hi0
                by_cases hi1 : (n : Int) ≤ i
                · have i1 : decide ((n : Int) ≤ i) = true := decide_eq_true hi1
                  clear hi0 hi1
                  go_wp2
                  go_ret
                  exact ⟨rfl, HBW.out⟩
                · obtain ⟨ii, hii⟩ : ∃ ii : Nat, i = (ii : Int) := ⟨i.toNat, by omega⟩
                  subst hii
                  have i1 : decide ((n : Int) ≤ (ii : Int)) = false := decide_eq_false hi1
                  have i1' : decide (n ≤ ii) = false := decide_eq_false (by omega)
                  have i2 : (0 : Int) ≤ (ii : Int) := by omega
                  have i3 : (ii : Int) < n := by omega
                  have hin : ii < n := by omega
                  obtain ⟨U2, hU2⟩ : ∃ U2, wr = U2 := ⟨_, rfl⟩
                  rw [hU2] at HBW GD2 GX2 GY2 KX KY xx0 xx1 yy0 yy1 ⊢
                  clear hU2 HBr
                  obtain ⟨bx, ox, X, hr, hbX, hX, xp1, xp2⟩ := GX2.out.at hin
                  subst hr
                  have HXX := Lib.hid hX
                  clear hbX hX hi0 hi1
                  have HP1 := Lib.hid xp1
                  have HP2 := Lib.hid xp2
                  clear xp1 xp2
                  go_wp2_with fail
                  clear hw hs1 hs2 hk2 hk3
                  go_loopw [13, 14] (fun sb sj wr => ∃ (p : Bool) (j : Nat), sb = .bool p ∧ sj = .int .i64 j ∧ j ≤ q2 ∧ Hid (p = decide (X ∈ d2.take j)) ∧ Hid (Below U2.heap.size U2 wr)) (fun _ sj _ => q2 - (intOf sj).toNat)
                  case atStart => exact ⟨false, 0, rfl, by go_num, by omega, Lib.hid (by simp), Lib.hid (Below.refl _ _)⟩
                  case round =>
                    obtain ⟨p, f, rfl, rfl, hfq, HP, HBr⟩ := hrel
                    have KX3 := Lib.hid (KX.out.on' HBr.out)
                    have uu1 := KX3.out.b1
                    by_cases hlf : f < q2
                    · have df : decide ((f : Int) < q2) = true := by simp; omega
                      obtain ⟨b, off, x, hr, hbl, hx, y1, y2⟩ := (GD2.out.below HBr.out).at hlf
                      subst hr
                      have f0 : (0 : Int) ≤ f := by omega
                      have f1 : (f : Int) < q2 := by omega
                      have HT := Lib.hid (W.mem_snoc (X := X) hx)
                      obtain ⟨bx2, ox2, X2, hr2, _, hX2, xp1, xp2⟩ := (GX2.out.below HBr.out).at hin
                      cases hr2
                      obtain rfl : X = X2 := Option.some.inj (HXX.out.symm.trans hX2)
                      clear hx hbl hX2
                      cases p with
                      | true =>
                        go_wp2_with fail
                        go_quiet (fail)
                        go_wp2
                        go_roundw
                        case rel => exact ⟨true, f + 1, rfl, by go_num, by omega, Lib.hid (by rw [HT.out, ← HP.out]; rfl), Lib.hid (HBr.out.trans (below_drewN _ _ _))⟩
                        case measure => simp [intOf] <;> omega
                      | false =>
                        by_cases hxy : x = X
                        · subst hxy
                          go_wp2_with fail
                          go_quiet (fail)
                          go_wp2
                          go_roundw
                          case rel => exact ⟨true, f + 1, rfl, by go_num, by omega, Lib.hid (by rw [HT.out]; simp), Lib.hid (HBr.out.trans (below_drewN _ _ _))⟩
                          case measure => simp [intOf] <;> omega
                        · have HNE := Lib.hid hxy
                          obtain ⟨x1, x2⟩ := x
                          obtain ⟨X1, X2⟩ := X
                          by_cases h1 : x1 = X1
                          · subst h1
                            have h2 : ¬ x2 = X2 := fun e => hxy (by rw [e])
                            clear hxy
                            go_wp2_with fail
                            go_quiet (fail)
                            go_wp2
                            go_roundw
                            case rel => exact ⟨false, f + 1, rfl, by go_num, by omega, Lib.hid (by rw [HT.out, ← HP.out]; exact (decide_eq_false HNE.out).symm), Lib.hid (HBr.out.trans (below_drewN _ _ _))⟩
                            case measure => simp [intOf] <;> omega
                          · clear hxy
                            go_wp2_with fail
                            go_quiet (fail)
                            go_wp2
                            go_roundw
                            case rel => exact ⟨false, f + 1, rfl, by go_num, by omega, Lib.hid (by rw [HT.out, ← HP.out]; exact (decide_eq_false HNE.out).symm), Lib.hid (HBr.out.trans (below_drewN _ _ _))⟩
                            case measure => simp [intOf] <;> omega
                    · have df : decide ((f : Int) < q2) = false := by simp; omega
                      have HP3 : Hid (p = decide (X ∈ d2)) := Lib.hid (by rw [HP.out, List.take_of_length_le (by rw [P2.out]; omega)])
                      have HBE := Lib.hid (HBW.out.trans (HBr.out.mono HBW.out.size))
                      have GX4 := Lib.hid (GX2.out.below HBr.out)
                      have GY4 := Lib.hid (GY2.out.below HBr.out)
                      have KY4 := Lib.hid (KY.out.on' HBr.out)
                      obtain ⟨U4, hU4⟩ : ∃ U4, wr = U4 := ⟨_, rfl⟩
                      rw [hU4] at HBE GX4 GY4 KY4 KX3 uu1 ⊢
                      clear hU4 HBr HP
                      go_wp2_with fail
                      go_loopw [13, 15] (fun sb sj wr => ∃ (p' : Bool) (j : Nat), sb = .bool p' ∧ sj = .int .i64 j ∧ j ≤ n2 ∧ Hid (p' = (p || decide (X ∈ l2.take j))) ∧ Hid (Below U4.heap.size U4 wr)) (fun _ sj _ => n2 - (intOf sj).toNat)
                      case atStart => exact ⟨p, 0, rfl, by go_num, by omega, Lib.hid (by simp), Lib.hid (Below.refl _ _)⟩
                      case round =>
                        obtain ⟨s, g, rfl, rfl, hgq, HQ, HBr⟩ := hrel
                        have KX5 := Lib.hid (KX3.out.on' HBr.out)
                        have KY5 := Lib.hid (KY4.out.on' HBr.out)
                        have ww1 := KX5.out.b1
                        have vv1 := KY5.out.b1
                        by_cases hlg : g < n2
                        · have dg : decide ((g : Int) < n2) = true := by simp; omega
                          obtain ⟨b, off, x, hr, hbl, hx, y1, y2⟩ := (GY4.out.below HBr.out).at hlg
                          subst hr
                          have f0 : (0 : Int) ≤ g := by omega
                          have f1 : (g : Int) < n2 := by omega
                          have HT := Lib.hid (W.mem_snoc (X := X) hx)
                          obtain ⟨bx2, ox2, X2, hr2, _, hX2, xp1, xp2⟩ := (GX4.out.below HBr.out).at hin
                          cases hr2
                          obtain rfl : X = X2 := Option.some.inj (HXX.out.symm.trans hX2)
                          clear hx hbl hX2
                          cases s with
                          | true =>
                            go_wp2_with fail
                            go_quiet (fail)
                            go_wp2
                            go_roundw
                            case rel => exact ⟨true, g + 1, rfl, by go_num, by omega, Lib.hid (by rw [HT.out]; have := HQ.out; revert this; generalize decide (X ∈ l2.take g) = u; cases p <;> cases u <;> simp), Lib.hid (HBr.out.trans (below_drewN _ _ _))⟩
                            case measure => simp [intOf] <;> omega
                          | false =>
                            by_cases hxy : x = X
                            · subst hxy
                              go_wp2_with fail
                              go_quiet (fail)
                              go_wp2
                              go_roundw
                              case rel => exact ⟨true, g + 1, rfl, by go_num, by omega, Lib.hid (by rw [HT.out]; simp), Lib.hid (HBr.out.trans (below_drewN _ _ _))⟩
                              case measure => simp [intOf] <;> omega
                            · have HNE := Lib.hid hxy
                              obtain ⟨x1, x2⟩ := x
                              obtain ⟨X1, X2⟩ := X
                              by_cases h1 : x1 = X1
                              · subst h1
                                have h2 : ¬ x2 = X2 := fun e => hxy (by rw [e])
                                clear hxy
                                go_wp2_with fail
                                go_quiet (fail)
                                go_wp2
                                go_roundw
                                case rel => exact ⟨false, g + 1, rfl, by go_num, by omega, Lib.hid (by rw [HT.out, ← Bool.or_assoc, ← HQ.out]; exact (decide_eq_false HNE.out).symm), Lib.hid (HBr.out.trans (below_drewN _ _ _))⟩
                                case measure => simp [intOf] <;> omega
                              · clear hxy
                                go_wp2_with fail
                                go_quiet (fail)
                                go_wp2
                                go_roundw
                                case rel => exact ⟨false, g + 1, rfl, by go_num, by omega, Lib.hid (by rw [HT.out, ← Bool.or_assoc, ← HQ.out]; exact (decide_eq_false HNE.out).symm), Lib.hid (HBr.out.trans (below_drewN _ _ _))⟩
                                case measure => simp [intOf] <;> omega
                        · have dg : decide ((g : Int) < n2) = false := by simp; omega
                          have HS : Hid (s = true) := Lib.hid (by
                            rw [HQ.out, List.take_of_length_le (by rw [M2.out]; omega), HP3.out, HD.out, HL2.out]
                            have hmem := List.mem_of_getElem? HXX.out
                            by_cases hc : X.2 ≤ tt
                            · rw [decide_eq_true (W.mem_due.2 ⟨hmem, hc⟩)]; rfl
                            · rw [decide_eq_true (W.mem_left.2 ⟨hmem, by omega⟩)]; simp)
                          have HBF := Lib.hid (HBE.out.trans (HBr.out.mono HBE.out.size))
                          go_wp2
                          go_ret
                          exact ⟨by rw [HS.out]; rfl, HBF.out⟩
    · have hq0 := Hz.out he2
      have hq1 : ((q2 : Int) == 0) = true := by rw [hq0]; rfl
      clear hq0
      have ue2 : (e2 == 0) = false := by simpa using he2
      have ve2 : (e2 != 0) = true := by simpa using he2
      have te2 : decide (e2 = 0) = false := by simpa using he2
      clear he2
      go_enter Try.func6, Try.ntmps6
      go_wp2_with fail
      refine (wawake_any (wbox w k a n c)).mono ?_
      rintro e w1 ⟨rfl, hb⟩
      have HKx1 := Lib.hid (HKx0.out.on' hb)
      have HTx1 := Lib.hid (HTx0.out.below hb)
      have xf0 := HKx1.out.b0
      have xf1 := HKx1.out.b1
      have HB1 := Lib.hid (HB0.out.trans (hb.mono HB0.out.size))
      clear hb
      go_wp2_with fail
      refine (step_is k tt a n c l k2 l2 d2 n2 q2 e2 w1 HTx1.out (by omega) S2.out M2.out P2.out).mono ?_
      clear xf0 xf1
      rintro e w2 ⟨a2, c2, r2, o2, rfl, htb2, htd2, hb⟩
      have HKx2 := Lib.hid (HKx1.out.on' hb)
      have HTx2 := Lib.hid (HTx1.out.below hb)
      have xf0 := HKx2.out.b0
      have xf1 := HKx2.out.b1
      have HB2 := Lib.hid (HB1.out.trans (hb.mono HB1.out.size))
      clear hb
      have HTb22 := htb2
      clear htb2
      have HTd22 := htd2
      clear htd2
      have Nxb2 := Lib.hid (Nat.ne_of_lt HKx2.out.lt)
      have hb := wbox_below w2 k2 a2 n2 c2
      have HKx3 := Lib.hid (HKx2.out.on' hb)
      have HTx3 := Lib.hid (HTx2.out.below hb)
      have xb2a0 := fun o => (HKx2.out.alloc o).b0
      have xb2a1 := fun o => (HKx2.out.alloc o).b1
      have HTb23 := Lib.hid (HTb22.out.below hb)
      have HKb23 := Lib.hid (wbox_blok w2 k2 a2 n2 c2)
      have HB3 := Lib.hid (HB2.out.trans (hb.mono HB2.out.size))
      clear hb
      have HTd23 := Lib.hid (HTd22.out.below (wbox_below w2 k2 a2 n2 c2))
      go_wp2
      go_ret
      exact ⟨rfl, HB3.out⟩
  · have g1 : decide ((70 : Int) < (n : Int)) = true := by simp; omega
    go_enter Try.func6, Try.ntmps6
    go_wp2_with fail
    refine (wawake_any (wbox w k a n c)).mono ?_
    rintro e w1 ⟨rfl, hb⟩
    have HKx1 := Lib.hid (HKx0.out.on' hb)
    have HTx1 := Lib.hid (HTx0.out.below hb)
    have xf0 := HKx1.out.b0
    have xf1 := HKx1.out.b1
    have HB1 := Lib.hid (HB0.out.trans (hb.mono HB0.out.size))
    clear hb
    go_wp2
    go_ret
    exact ⟨rfl, HB1.out⟩
end Go.Proofs.Ytmegkfonodcoiaa
