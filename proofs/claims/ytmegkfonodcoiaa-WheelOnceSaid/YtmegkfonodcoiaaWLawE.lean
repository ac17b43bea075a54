/-
  WheelOnce, at every wheel, number and times.
-/
import Derived.Test.YtmegkfonodcoiaaWLaws
namespace Go.Proofs.Ytmegkfonodcoiaa
open Go.RowKit

theorem W.cnt_snoc {id : Int} {d : List W.Tm} {j : Nat} {x : W.Tm} (hx : d[j]? = some x) : W.cnt id (d.take (j + 1)) = W.cnt id (d.take j) + cond (x.1 == id) 1 0 := by
  obtain ⟨h1, h2⟩ := List.getElem?_eq_some_iff.1 hx
  unfold W.cnt
  rw [List.take_succ_eq_append_getElem h1, h2, List.filter_append, List.length_append]
  by_cases h : x.1 = id
  · simp [h]
  · have h2 : (x.1 == id) = false := by simpa using h
    simp [h, h2]

set_option maxRecDepth 100000 in
set_option maxHeartbeats 2000000 in
theorem WheelOnce_in (k : Int) (a : Option Addr) (n c : Nat) (l : List W.Tm) (id at' t1 t2 : Int) (w : World) (h : TIn w a n c l) :
    Calls Try.prog 7 #[.agg #[.int .i64 k, .slice a n c], .int .i64 id, .int .i64 at', .int .i64 t1, .int .i64 t2] w fun e w' => e = .returned (.bool true) ∧ Below w.heap.size w w' := by
  have hl := h.1
  have HB0 := Lib.hid (wbox_below w k a n c)
  have HKx0 := Lib.hid (wbox_blok w k a n c)
  have HTx0 := Lib.hid (h.below (wbox_below w k a n c))
  by_cases hn : n ≤ 70
  · have g1 : decide ((70 : Int) < (n : Int)) = false := by simp; omega
    obtain ⟨⟨l2, e2⟩, s2⟩ : ∃ x, W.add k l id at' = x := ⟨_, rfl⟩
    obtain ⟨n2, m2⟩ : ∃ m, l2.length = m := ⟨_, rfl⟩
    have b2 := W.add_len s2
    obtain ⟨⟨⟨k3, l3⟩, d3, e3⟩, s3⟩ : ∃ x, W.step k l2 t1 = x := ⟨_, rfl⟩
    obtain ⟨n3, m3⟩ : ∃ m, l3.length = m := ⟨_, rfl⟩
    obtain ⟨q3, p3⟩ : ∃ m, d3.length = m := ⟨_, rfl⟩
    have b3 := W.step_len s3
    obtain ⟨⟨⟨k4, l4⟩, d4, e4⟩, s4⟩ : ∃ x, W.step k3 l3 t2 = x := ⟨_, rfl⟩
    obtain ⟨n4, m4⟩ : ∃ m, l4.length = m := ⟨_, rfl⟩
    obtain ⟨q4, p4⟩ : ∃ m, d4.length = m := ⟨_, rfl⟩
    have b4 := W.step_len s4
    have hz : e2 = 0 → e3 = 0 → e4 = 0 → (W.cnt id d3 = if at' ≤ t1 then 1 else 0) ∧ (W.cnt id d4 = if t1 < at' ∧ at' ≤ t2 then 1 else 0) := fun h2 h3 h4 => by
      have := W.once (k := k) (l := l) (id := id) (at' := at') (t1 := t1) (t2 := t2) (by rw [s2]; exact h2) (by rw [s2, s3]; exact h3) (by rw [s2, s3, s4]; exact h4)
      rw [s2, s3, s4] at this; exact this
    have z2 : n2 ≤ 100 := by omega
    have z3 : n3 ≤ 100 ∧ q3 ≤ 100 := by omega
    have z4 : n4 ≤ 100 ∧ q4 ≤ 100 := by omega
    clear b2 b3 b4
    have S2 := Lib.hid s2
    have S3 := Lib.hid s3
    have S4 := Lib.hid s4
    have M2 := Lib.hid m2
    have M3 := Lib.hid m3
    have M4 := Lib.hid m4
    have P3 := Lib.hid p3
    have P4 := Lib.hid p4
    have Hz := Lib.hid hz
    have Hl := Lib.hid hl
    clear s2 s3 s4 m2 m3 m4 p3 p4 hz hl
    by_cases he2 : e2 = 0
    · subst he2
      by_cases he3 : e3 = 0
      · subst he3
        by_cases he4 : e4 = 0
        · subst he4
          go_enter Try.func7, Try.ntmps7
          go_wp2_with fail
          refine (wawake_any (wbox w k a n c)).mono ?_
          rintro e w1 ⟨rfl, hb⟩
          have HKx1 := Lib.hid (HKx0.out.on' hb)
          have HTx1 := Lib.hid (HTx0.out.below hb)
          have xf0 := HKx1.out.b0
          have xf1 := HKx1.out.b1
          have HB1 := Lib.hid (HB0.out.trans (hb.mono HB0.out.size))
          clear hb
          go_wp2_with fail
          refine (add_is k id at' a n c l l2 n2 0 w1 HTx1.out (by omega) S2.out M2.out).mono ?_
          clear xf0 xf1
          rintro e w2 ⟨a2, c2, rfl, htb2, hb⟩
          have HKx2 := Lib.hid (HKx1.out.on' hb)
          have HTx2 := Lib.hid (HTx1.out.below hb)
          have xf0 := HKx2.out.b0
          have xf1 := HKx2.out.b1
          have HB2 := Lib.hid (HB1.out.trans (hb.mono HB1.out.size))
          clear hb
          have HTb22 := htb2
          clear htb2
          have Nxb2 := Lib.hid (Nat.ne_of_lt HKx2.out.lt)
          have hb := wbox_below w2 k a2 n2 c2
          have HKx3 := Lib.hid (HKx2.out.on' hb)
          have HTx3 := Lib.hid (HTx2.out.below hb)
          have xb2a0 := fun o => (HKx2.out.alloc o).b0
          have xb2a1 := fun o => (HKx2.out.alloc o).b1
          have HTb23 := Lib.hid (HTb22.out.below hb)
          have HKb23 := Lib.hid (wbox_blok w2 k a2 n2 c2)
          have HB3 := Lib.hid (HB2.out.trans (hb.mono HB2.out.size))
          clear hb
          go_wp2_with fail
          refine (step_is k t1 a2 n2 c2 l2 k3 l3 d3 n3 q3 0 (wbox w2 k a2 n2 c2) HTb23.out (by omega) S3.out M3.out P3.out).mono ?_
          clear xf0 xf1 xb2a0 xb2a1
          rintro e w4 ⟨a3, c3, r3, o3, rfl, htb3, htd3, hb⟩
          have HKx4 := Lib.hid (HKx3.out.on' hb)
          have HTx4 := Lib.hid (HTx3.out.below hb)
          have HKb24 := Lib.hid (HKb23.out.on' hb)
          have HTb24 := Lib.hid (HTb23.out.below hb)
          have xf0 := HKx4.out.b0
          have xf1 := HKx4.out.b1
          have b2f0 := HKb24.out.b0
          have b2f1 := HKb24.out.b1
          have HB4 := Lib.hid (HB3.out.trans (hb.mono HB3.out.size))
          clear hb
          have HTb34 := htb3
          clear htb3
          have HTd34 := htd3
          clear htd3
          have Nxb3 := Lib.hid (Nat.ne_of_lt HKx4.out.lt)
          have Nb2b3 := Lib.hid (Nat.ne_of_lt HKb24.out.lt)
          have hb := wbox_below w4 k3 a3 n3 c3
          have HKx5 := Lib.hid (HKx4.out.on' hb)
          have HTx5 := Lib.hid (HTx4.out.below hb)
          have HKb25 := Lib.hid (HKb24.out.on' hb)
          have HTb25 := Lib.hid (HTb24.out.below hb)
          have xb3a0 := fun o => (HKx4.out.alloc o).b0
          have xb3a1 := fun o => (HKx4.out.alloc o).b1
          have b2b3a0 := fun o => (HKb24.out.alloc o).b0
          have b2b3a1 := fun o => (HKb24.out.alloc o).b1
          have HTb35 := Lib.hid (HTb34.out.below hb)
          have HKb35 := Lib.hid (wbox_blok w4 k3 a3 n3 c3)
          have HB5 := Lib.hid (HB4.out.trans (hb.mono HB4.out.size))
          clear hb
          have HTd35 := Lib.hid (HTd34.out.below (wbox_below w4 k3 a3 n3 c3))
          go_wp2_with fail
          refine (step_is k3 t2 a3 n3 c3 l3 k4 l4 d4 n4 q4 0 (wbox w4 k3 a3 n3 c3) HTb35.out (by omega) S4.out M4.out P4.out).mono ?_
          clear xf0 xf1 b2f0 b2f1 xb3a0 xb3a1 b2b3a0 b2b3a1
          rintro e w6 ⟨a4, c4, r4, o4, rfl, htb4, htd4, hb⟩
          have HKx6 := Lib.hid (HKx5.out.on' hb)
          have HTx6 := Lib.hid (HTx5.out.below hb)
          have HKb26 := Lib.hid (HKb25.out.on' hb)
          have HTb26 := Lib.hid (HTb25.out.below hb)
          have HKb36 := Lib.hid (HKb35.out.on' hb)
          have HTb36 := Lib.hid (HTb35.out.below hb)
          have HTd36 := Lib.hid (HTd35.out.below hb)
          have xf0 := HKx6.out.b0
          have xf1 := HKx6.out.b1
          have b2f0 := HKb26.out.b0
          have b2f1 := HKb26.out.b1
          have b3f0 := HKb36.out.b0
          have b3f1 := HKb36.out.b1
          have HB6 := Lib.hid (HB5.out.trans (hb.mono HB5.out.size))
          clear hb
          have HTb46 := htb4
          clear htb4
          have HTd46 := htd4
          clear htd4
          have Nxb4 := Lib.hid (Nat.ne_of_lt HKx6.out.lt)
          have Nb2b4 := Lib.hid (Nat.ne_of_lt HKb26.out.lt)
          have Nb3b4 := Lib.hid (Nat.ne_of_lt HKb36.out.lt)
          have hb := wbox_below w6 k4 a4 n4 c4
          have HKx7 := Lib.hid (HKx6.out.on' hb)
          have HTx7 := Lib.hid (HTx6.out.below hb)
          have HKb27 := Lib.hid (HKb26.out.on' hb)
          have HTb27 := Lib.hid (HTb26.out.below hb)
          have HKb37 := Lib.hid (HKb36.out.on' hb)
          have HTb37 := Lib.hid (HTb36.out.below hb)
          have HTd37 := Lib.hid (HTd36.out.below hb)
          have xb4a0 := fun o => (HKx6.out.alloc o).b0
          have xb4a1 := fun o => (HKx6.out.alloc o).b1
          have b2b4a0 := fun o => (HKb26.out.alloc o).b0
          have b2b4a1 := fun o => (HKb26.out.alloc o).b1
          have b3b4a0 := fun o => (HKb36.out.alloc o).b0
          have b3b4a1 := fun o => (HKb36.out.alloc o).b1
          have HTb47 := Lib.hid (HTb46.out.below hb)
          have HKb47 := Lib.hid (wbox_blok w6 k4 a4 n4 c4)
          have HB7 := Lib.hid (HB6.out.trans (hb.mono HB6.out.size))
          clear hb
          have HTd47 := Lib.hid (HTd46.out.below (wbox_below w6 k4 a4 n4 c4))
          clear xf0 xf1 b2f0 b2f1 b3f0 b3f1 xb4a0 xb4a1 b2b4a0 b2b4a1 b3b4a0 b3b4a1
          have HB' := HB7
          have FD3 := HTd37
          have FD4 := HTd47
          obtain ⟨V, hV⟩ : ∃ V, (wbox w6 k4 a4 n4 c4) = V := ⟨_, rfl⟩
          rw [hV] at HB' FD3 FD4
          unfold wbox at hV
          go_wp2_with fail
          try rw [hV]
          clear hV
          go_loopw [20, 21] (fun sq sj wr => ∃ j q : Nat, sq = .int .i64 q ∧ sj = .int .i64 j ∧ j ≤ q3 ∧ q ≤ j ∧ Hid (W.cnt id (d3.take j) = q) ∧ Hid (Below V.heap.size V wr)) (fun _ sj _ => q3 - (intOf sj).toNat)
          case atStart => exact ⟨0, 0, by go_num, by go_num, by omega, by omega, Lib.hid (by simp [W.cnt]), Lib.hid (Below.refl _ _)⟩
          case round =>
            obtain ⟨j, q, rfl, rfl, hjq, hqj, HQ, HBr⟩ := hrel
            by_cases hlt : j < q3
            · have dj : decide ((j : Int) < q3) = true := by simp; omega
              obtain ⟨b, off, x, hr, hbl, hx, y1, y2⟩ := (FD3.out.below HBr.out).at hlt
              subst hr
              have hcs := W.cnt_snoc (id := id) hx
              have j0 : (0 : Int) ≤ j := by omega
              have j1 : (j : Int) < q3 := by omega
              clear hx hbl
              obtain ⟨z, hz⟩ : ∃ z, (x.1 == id) = z := ⟨_, rfl⟩
              rw [hz] at hcs
              have HC := Lib.hid hcs
              clear hcs
              cases z with
              | true =>
                go_wp2
                go_roundw
                case rel => exact ⟨j + 1, q + 1, by go_num, by go_num, by omega, by omega, Lib.hid (by rw [HC.out, HQ.out]; rfl), HBr⟩
                case measure => simp [intOf] <;> omega
              | false =>
                go_wp2
                go_roundw
                case rel => exact ⟨j + 1, q, by go_num, by go_num, by omega, by omega, Lib.hid (by rw [HC.out, HQ.out]; rfl), HBr⟩
                case measure => simp [intOf] <;> omega
            · have dj : decide ((j : Int) < q3) = false := by simp; omega
              have HE3 : Hid (W.cnt id d3 = q) := Lib.hid (by rw [← HQ.out, List.take_of_length_le (by rw [P3.out]; omega)])
              clear HQ
              have HBV := Lib.hid (HB'.out.trans (HBr.out.mono HB'.out.size))
              have GD4 := Lib.hid (FD4.out.below HBr.out)
              obtain ⟨q1, hq1⟩ : ∃ m, q = m := ⟨_, rfl⟩
              rw [hq1] at HE3 hqj ⊢
              clear hq1 HBr FD3 FD4 HB'
              have hq1 : q1 ≤ 100 := by omega
              obtain ⟨U, hU⟩ : ∃ U, wr = U := ⟨_, rfl⟩
              rw [hU] at HBV GD4 ⊢
              clear hU hqj
              go_wp2_with fail
              go_loopw [22, 23] (fun sq sj wx => ∃ j q : Nat, sq = .int .i64 q ∧ sj = .int .i64 j ∧ j ≤ q4 ∧ q ≤ j ∧ Hid (W.cnt id (d4.take j) = q) ∧ Hid (Below U.heap.size U wx)) (fun _ sj _ => q4 - (intOf sj).toNat)
              case atStart => exact ⟨0, 0, by go_num, by go_num, by omega, by omega, Lib.hid (by simp [W.cnt]), Lib.hid (Below.refl _ _)⟩
              case round =>
                obtain ⟨j, q, rfl, rfl, hjq, hqj, HQ, HBr⟩ := hrel
                by_cases hlt : j < q4
                · have dj : decide ((j : Int) < q4) = true := by simp; omega
                  obtain ⟨b, off, x, hr, hbl, hx, y1, y2⟩ := (GD4.out.below HBr.out).at hlt
                  subst hr
                  have hcs := W.cnt_snoc (id := id) hx
                  have j0 : (0 : Int) ≤ j := by omega
                  have j1 : (j : Int) < q4 := by omega
                  clear hx hbl
                  obtain ⟨z, hz⟩ : ∃ z, (x.1 == id) = z := ⟨_, rfl⟩
                  rw [hz] at hcs
                  have HC := Lib.hid hcs
                  clear hcs
                  cases z with
                  | true =>
                    go_wp2
                    go_roundw
                    case rel => exact ⟨j + 1, q + 1, by go_num, by go_num, by omega, by omega, Lib.hid (by rw [HC.out, HQ.out]; rfl), HBr⟩
                    case measure => simp [intOf] <;> omega
                  | false =>
                    go_wp2
                    go_roundw
                    case rel => exact ⟨j + 1, q, by go_num, by go_num, by omega, by omega, Lib.hid (by rw [HC.out, HQ.out]; rfl), HBr⟩
                    case measure => simp [intOf] <;> omega
                · have dj : decide ((j : Int) < q4) = false := by simp; omega
                  have HE4 : Hid (W.cnt id d4 = q) := Lib.hid (by rw [← HQ.out, List.take_of_length_le (by rw [P4.out]; omega)])
                  clear HQ
                  have HBE := Lib.hid (HBV.out.trans (HBr.out.mono HBV.out.size))
                  obtain ⟨hc1, hc2⟩ := Hz.out (by trivial) (by trivial) (by trivial)
                  rw [HE3.out] at hc1
                  rw [HE4.out] at hc2
                  by_cases f1 : at' ≤ t1
                  · have x1 : decide (at' ≤ t1) = true := decide_eq_true f1
                    have x2 : decide (t1 < at') = false := decide_eq_false (by omega)
                    rw [if_pos f1] at hc1
                    rw [if_neg (by omega)] at hc2
                    subst hc1
                    subst hc2
                    clear f1
                    go_wp2
                    go_ret
                    exact ⟨rfl, HBE.out⟩
                  · have x1 : decide (at' ≤ t1) = false := decide_eq_false f1
                    have x2 : decide (t1 < at') = true := decide_eq_true (by omega)
                    rw [if_neg f1] at hc1
                    subst hc1
                    by_cases f2 : at' ≤ t2
                    · have x3 : decide (at' ≤ t2) = true := decide_eq_true f2
                      rw [if_pos (by omega)] at hc2
                      subst hc2
                      clear f1 f2
                      go_wp2
                      go_ret
                      exact ⟨rfl, HBE.out⟩
                    · have x3 : decide (at' ≤ t2) = false := decide_eq_false f2
                      rw [if_neg (by omega)] at hc2
                      subst hc2
                      clear f1 f2
                      go_wp2
                      go_ret
                      exact ⟨rfl, HBE.out⟩
        · have ue4 : (e4 == 0) = false := by simpa using he4
          have ve4 : (e4 != 0) = true := by simpa using he4
          have te4 : decide (e4 = 0) = false := by simpa using he4
          clear he4
          go_enter Try.func7, Try.ntmps7
          go_wp2_with fail
          refine (wawake_any (wbox w k a n c)).mono ?_
          rintro e w1 ⟨rfl, hb⟩
          have HKx1 := Lib.hid (HKx0.out.on' hb)
          have HTx1 := Lib.hid (HTx0.out.below hb)
          have xf0 := HKx1.out.b0
          have xf1 := HKx1.out.b1
          have HB1 := Lib.hid (HB0.out.trans (hb.mono HB0.out.size))
          clear hb
          go_wp2_with fail
          refine (add_is k id at' a n c l l2 n2 0 w1 HTx1.out (by omega) S2.out M2.out).mono ?_
          clear xf0 xf1
          rintro e w2 ⟨a2, c2, rfl, htb2, hb⟩
          have HKx2 := Lib.hid (HKx1.out.on' hb)
          have HTx2 := Lib.hid (HTx1.out.below hb)
          have xf0 := HKx2.out.b0
          have xf1 := HKx2.out.b1
          have HB2 := Lib.hid (HB1.out.trans (hb.mono HB1.out.size))
          clear hb
          have HTb22 := htb2
          clear htb2
          have Nxb2 := Lib.hid (Nat.ne_of_lt HKx2.out.lt)
          have hb := wbox_below w2 k a2 n2 c2
          have HKx3 := Lib.hid (HKx2.out.on' hb)
          have HTx3 := Lib.hid (HTx2.out.below hb)
          have xb2a0 := fun o => (HKx2.out.alloc o).b0
          have xb2a1 := fun o => (HKx2.out.alloc o).b1
          have HTb23 := Lib.hid (HTb22.out.below hb)
          have HKb23 := Lib.hid (wbox_blok w2 k a2 n2 c2)
          have HB3 := Lib.hid (HB2.out.trans (hb.mono HB2.out.size))
          clear hb
          go_wp2_with fail
          refine (step_is k t1 a2 n2 c2 l2 k3 l3 d3 n3 q3 0 (wbox w2 k a2 n2 c2) HTb23.out (by omega) S3.out M3.out P3.out).mono ?_
          clear xf0 xf1 xb2a0 xb2a1
          rintro e w4 ⟨a3, c3, r3, o3, rfl, htb3, htd3, hb⟩
          have HKx4 := Lib.hid (HKx3.out.on' hb)
          have HTx4 := Lib.hid (HTx3.out.below hb)
          have HKb24 := Lib.hid (HKb23.out.on' hb)
          have HTb24 := Lib.hid (HTb23.out.below hb)
          have xf0 := HKx4.out.b0
          have xf1 := HKx4.out.b1
          have b2f0 := HKb24.out.b0
          have b2f1 := HKb24.out.b1
          have HB4 := Lib.hid (HB3.out.trans (hb.mono HB3.out.size))
          clear hb
          have HTb34 := htb3
          clear htb3
          have HTd34 := htd3
          clear htd3
          have Nxb3 := Lib.hid (Nat.ne_of_lt HKx4.out.lt)
          have Nb2b3 := Lib.hid (Nat.ne_of_lt HKb24.out.lt)
          have hb := wbox_below w4 k3 a3 n3 c3
          have HKx5 := Lib.hid (HKx4.out.on' hb)
          have HTx5 := Lib.hid (HTx4.out.below hb)
          have HKb25 := Lib.hid (HKb24.out.on' hb)
          have HTb25 := Lib.hid (HTb24.out.below hb)
          have xb3a0 := fun o => (HKx4.out.alloc o).b0
          have xb3a1 := fun o => (HKx4.out.alloc o).b1
          have b2b3a0 := fun o => (HKb24.out.alloc o).b0
          have b2b3a1 := fun o => (HKb24.out.alloc o).b1
          have HTb35 := Lib.hid (HTb34.out.below hb)
          have HKb35 := Lib.hid (wbox_blok w4 k3 a3 n3 c3)
          have HB5 := Lib.hid (HB4.out.trans (hb.mono HB4.out.size))
          clear hb
          have HTd35 := Lib.hid (HTd34.out.below (wbox_below w4 k3 a3 n3 c3))
          go_wp2_with fail
          refine (step_is k3 t2 a3 n3 c3 l3 k4 l4 d4 n4 q4 e4 (wbox w4 k3 a3 n3 c3) HTb35.out (by omega) S4.out M4.out P4.out).mono ?_
          clear xf0 xf1 b2f0 b2f1 xb3a0 xb3a1 b2b3a0 b2b3a1
          rintro e w6 ⟨a4, c4, r4, o4, rfl, htb4, htd4, hb⟩
          have HKx6 := Lib.hid (HKx5.out.on' hb)
          have HTx6 := Lib.hid (HTx5.out.below hb)
          have HKb26 := Lib.hid (HKb25.out.on' hb)
          have HTb26 := Lib.hid (HTb25.out.below hb)
          have HKb36 := Lib.hid (HKb35.out.on' hb)
          have HTb36 := Lib.hid (HTb35.out.below hb)
          have HTd36 := Lib.hid (HTd35.out.below hb)
          have xf0 := HKx6.out.b0
          have xf1 := HKx6.out.b1
          have b2f0 := HKb26.out.b0
          have b2f1 := HKb26.out.b1
          have b3f0 := HKb36.out.b0
          have b3f1 := HKb36.out.b1
          have HB6 := Lib.hid (HB5.out.trans (hb.mono HB5.out.size))
          clear hb
          have HTb46 := htb4
          clear htb4
          have HTd46 := htd4
          clear htd4
          have Nxb4 := Lib.hid (Nat.ne_of_lt HKx6.out.lt)
          have Nb2b4 := Lib.hid (Nat.ne_of_lt HKb26.out.lt)
          have Nb3b4 := Lib.hid (Nat.ne_of_lt HKb36.out.lt)
          have hb := wbox_below w6 k4 a4 n4 c4
          have HKx7 := Lib.hid (HKx6.out.on' hb)
          have HTx7 := Lib.hid (HTx6.out.below hb)
          have HKb27 := Lib.hid (HKb26.out.on' hb)
          have HTb27 := Lib.hid (HTb26.out.below hb)
          have HKb37 := Lib.hid (HKb36.out.on' hb)
          have HTb37 := Lib.hid (HTb36.out.below hb)
          have HTd37 := Lib.hid (HTd36.out.below hb)
          have xb4a0 := fun o => (HKx6.out.alloc o).b0
          have xb4a1 := fun o => (HKx6.out.alloc o).b1
          have b2b4a0 := fun o => (HKb26.out.alloc o).b0
          have b2b4a1 := fun o => (HKb26.out.alloc o).b1
          have b3b4a0 := fun o => (HKb36.out.alloc o).b0
          have b3b4a1 := fun o => (HKb36.out.alloc o).b1
          have HTb47 := Lib.hid (HTb46.out.below hb)
          have HKb47 := Lib.hid (wbox_blok w6 k4 a4 n4 c4)
          have HB7 := Lib.hid (HB6.out.trans (hb.mono HB6.out.size))
          clear hb
          have HTd47 := Lib.hid (HTd46.out.below (wbox_below w6 k4 a4 n4 c4))
          go_wp2
          go_ret
          exact ⟨rfl, HB7.out⟩
      · have ue3 : (e3 == 0) = false := by simpa using he3
        have ve3 : (e3 != 0) = true := by simpa using he3
        have te3 : decide (e3 = 0) = false := by simpa using he3
        clear he3
        go_enter Try.func7, Try.ntmps7
        go_wp2_with fail
        refine (wawake_any (wbox w k a n c)).mono ?_
        rintro e w1 ⟨rfl, hb⟩
        have HKx1 := Lib.hid (HKx0.out.on' hb)
        have HTx1 := Lib.hid (HTx0.out.below hb)
        have xf0 := HKx1.out.b0
        have xf1 := HKx1.out.b1
        have HB1 := Lib.hid (HB0.out.trans (hb.mono HB0.out.size))
        clear hb
        go_wp2_with fail
        refine (add_is k id at' a n c l l2 n2 0 w1 HTx1.out (by omega) S2.out M2.out).mono ?_
        clear xf0 xf1
        rintro e w2 ⟨a2, c2, rfl, htb2, hb⟩
        have HKx2 := Lib.hid (HKx1.out.on' hb)
        have HTx2 := Lib.hid (HTx1.out.below hb)
        have xf0 := HKx2.out.b0
        have xf1 := HKx2.out.b1
        have HB2 := Lib.hid (HB1.out.trans (hb.mono HB1.out.size))
        clear hb
        have HTb22 := htb2
        clear htb2
        have Nxb2 := Lib.hid (Nat.ne_of_lt HKx2.out.lt)
        have hb := wbox_below w2 k a2 n2 c2
        have HKx3 := Lib.hid (HKx2.out.on' hb)
        have HTx3 := Lib.hid (HTx2.out.below hb)
        have xb2a0 := fun o => (HKx2.out.alloc o).b0
        have xb2a1 := fun o => (HKx2.out.alloc o).b1
        have HTb23 := Lib.hid (HTb22.out.below hb)
        have HKb23 := Lib.hid (wbox_blok w2 k a2 n2 c2)
        have HB3 := Lib.hid (HB2.out.trans (hb.mono HB2.out.size))
        clear hb
        go_wp2_with fail
        refine (step_is k t1 a2 n2 c2 l2 k3 l3 d3 n3 q3 e3 (wbox w2 k a2 n2 c2) HTb23.out (by omega) S3.out M3.out P3.out).mono ?_
        clear xf0 xf1 xb2a0 xb2a1
        rintro e w4 ⟨a3, c3, r3, o3, rfl, htb3, htd3, hb⟩
        have HKx4 := Lib.hid (HKx3.out.on' hb)
        have HTx4 := Lib.hid (HTx3.out.below hb)
        have HKb24 := Lib.hid (HKb23.out.on' hb)
        have HTb24 := Lib.hid (HTb23.out.below hb)
        have xf0 := HKx4.out.b0
        have xf1 := HKx4.out.b1
        have b2f0 := HKb24.out.b0
        have b2f1 := HKb24.out.b1
        have HB4 := Lib.hid (HB3.out.trans (hb.mono HB3.out.size))
        clear hb
        have HTb34 := htb3
        clear htb3
        have HTd34 := htd3
        clear htd3
        have Nxb3 := Lib.hid (Nat.ne_of_lt HKx4.out.lt)
        have Nb2b3 := Lib.hid (Nat.ne_of_lt HKb24.out.lt)
        have hb := wbox_below w4 k3 a3 n3 c3
        have HKx5 := Lib.hid (HKx4.out.on' hb)
        have HTx5 := Lib.hid (HTx4.out.below hb)
        have HKb25 := Lib.hid (HKb24.out.on' hb)
        have HTb25 := Lib.hid (HTb24.out.below hb)
        have xb3a0 := fun o => (HKx4.out.alloc o).b0
        have xb3a1 := fun o => (HKx4.out.alloc o).b1
        have b2b3a0 := fun o => (HKb24.out.alloc o).b0
        have b2b3a1 := fun o => (HKb24.out.alloc o).b1
        have HTb35 := Lib.hid (HTb34.out.below hb)
        have HKb35 := Lib.hid (wbox_blok w4 k3 a3 n3 c3)
        have HB5 := Lib.hid (HB4.out.trans (hb.mono HB4.out.size))
        clear hb
        have HTd35 := Lib.hid (HTd34.out.below (wbox_below w4 k3 a3 n3 c3))
        go_wp2_with fail
        refine (step_is k3 t2 a3 n3 c3 l3 k4 l4 d4 n4 q4 e4 (wbox w4 k3 a3 n3 c3) HTb35.out (by omega) S4.out M4.out P4.out).mono ?_
        clear xf0 xf1 b2f0 b2f1 xb3a0 xb3a1 b2b3a0 b2b3a1
        rintro e w6 ⟨a4, c4, r4, o4, rfl, htb4, htd4, hb⟩
        have HKx6 := Lib.hid (HKx5.out.on' hb)
        have HTx6 := Lib.hid (HTx5.out.below hb)
        have HKb26 := Lib.hid (HKb25.out.on' hb)
        have HTb26 := Lib.hid (HTb25.out.below hb)
        have HKb36 := Lib.hid (HKb35.out.on' hb)
        have HTb36 := Lib.hid (HTb35.out.below hb)
        have HTd36 := Lib.hid (HTd35.out.below hb)
        have xf0 := HKx6.out.b0
        have xf1 := HKx6.out.b1
        have b2f0 := HKb26.out.b0
        have b2f1 := HKb26.out.b1
        have b3f0 := HKb36.out.b0
        have b3f1 := HKb36.out.b1
        have HB6 := Lib.hid (HB5.out.trans (hb.mono HB5.out.size))
        clear hb
        have HTb46 := htb4
        clear htb4
        have HTd46 := htd4
        clear htd4
        have Nxb4 := Lib.hid (Nat.ne_of_lt HKx6.out.lt)
        have Nb2b4 := Lib.hid (Nat.ne_of_lt HKb26.out.lt)
        have Nb3b4 := Lib.hid (Nat.ne_of_lt HKb36.out.lt)
        have hb := wbox_below w6 k4 a4 n4 c4
        have HKx7 := Lib.hid (HKx6.out.on' hb)
        have HTx7 := Lib.hid (HTx6.out.below hb)
        have HKb27 := Lib.hid (HKb26.out.on' hb)
        have HTb27 := Lib.hid (HTb26.out.below hb)
        have HKb37 := Lib.hid (HKb36.out.on' hb)
        have HTb37 := Lib.hid (HTb36.out.below hb)
        have HTd37 := Lib.hid (HTd36.out.below hb)
        have xb4a0 := fun o => (HKx6.out.alloc o).b0
        have xb4a1 := fun o => (HKx6.out.alloc o).b1
        have b2b4a0 := fun o => (HKb26.out.alloc o).b0
        have b2b4a1 := fun o => (HKb26.out.alloc o).b1
        have b3b4a0 := fun o => (HKb36.out.alloc o).b0
        have b3b4a1 := fun o => (HKb36.out.alloc o).b1
        have HTb47 := Lib.hid (HTb46.out.below hb)
        have HKb47 := Lib.hid (wbox_blok w6 k4 a4 n4 c4)
        have HB7 := Lib.hid (HB6.out.trans (hb.mono HB6.out.size))
        clear hb
        have HTd47 := Lib.hid (HTd46.out.below (wbox_below w6 k4 a4 n4 c4))
        go_wp2
        go_ret
        exact ⟨rfl, HB7.out⟩
    · have ue2 : (e2 == 0) = false := by simpa using he2
      have ve2 : (e2 != 0) = true := by simpa using he2
      have te2 : decide (e2 = 0) = false := by simpa using he2
      clear he2
      go_enter Try.func7, Try.ntmps7
      go_wp2_with fail
      refine (wawake_any (wbox w k a n c)).mono ?_
      rintro e w1 ⟨rfl, hb⟩
      have HKx1 := Lib.hid (HKx0.out.on' hb)
      have HTx1 := Lib.hid (HTx0.out.below hb)
      have xf0 := HKx1.out.b0
      have xf1 := HKx1.out.b1
      have HB1 := Lib.hid (HB0.out.trans (hb.mono HB0.out.size))
      clear hb
      go_wp2_with fail
      refine (add_is k id at' a n c l l2 n2 e2 w1 HTx1.out (by omega) S2.out M2.out).mono ?_
      clear xf0 xf1
      rintro e w2 ⟨a2, c2, rfl, htb2, hb⟩
      have HKx2 := Lib.hid (HKx1.out.on' hb)
      have HTx2 := Lib.hid (HTx1.out.below hb)
      have xf0 := HKx2.out.b0
      have xf1 := HKx2.out.b1
      have HB2 := Lib.hid (HB1.out.trans (hb.mono HB1.out.size))
      clear hb
      have HTb22 := htb2
      clear htb2
      have Nxb2 := Lib.hid (Nat.ne_of_lt HKx2.out.lt)
      have hb := wbox_below w2 k a2 n2 c2
      have HKx3 := Lib.hid (HKx2.out.on' hb)
      have HTx3 := Lib.hid (HTx2.out.below hb)
      have xb2a0 := fun o => (HKx2.out.alloc o).b0
      have xb2a1 := fun o => (HKx2.out.alloc o).b1
      have HTb23 := Lib.hid (HTb22.out.below hb)
      have HKb23 := Lib.hid (wbox_blok w2 k a2 n2 c2)
      have HB3 := Lib.hid (HB2.out.trans (hb.mono HB2.out.size))
      clear hb
      go_wp2_with fail
      refine (step_is k t1 a2 n2 c2 l2 k3 l3 d3 n3 q3 e3 (wbox w2 k a2 n2 c2) HTb23.out (by omega) S3.out M3.out P3.out).mono ?_
      clear xf0 xf1 xb2a0 xb2a1
      rintro e w4 ⟨a3, c3, r3, o3, rfl, htb3, htd3, hb⟩
      have HKx4 := Lib.hid (HKx3.out.on' hb)
      have HTx4 := Lib.hid (HTx3.out.below hb)
      have HKb24 := Lib.hid (HKb23.out.on' hb)
      have HTb24 := Lib.hid (HTb23.out.below hb)
      have xf0 := HKx4.out.b0
      have xf1 := HKx4.out.b1
      have b2f0 := HKb24.out.b0
      have b2f1 := HKb24.out.b1
      have HB4 := Lib.hid (HB3.out.trans (hb.mono HB3.out.size))
      clear hb
      have HTb34 := htb3
      clear htb3
      have HTd34 := htd3
      clear htd3
      have Nxb3 := Lib.hid (Nat.ne_of_lt HKx4.out.lt)
      have Nb2b3 := Lib.hid (Nat.ne_of_lt HKb24.out.lt)
      have hb := wbox_below w4 k3 a3 n3 c3
      have HKx5 := Lib.hid (HKx4.out.on' hb)
      have HTx5 := Lib.hid (HTx4.out.below hb)
      have HKb25 := Lib.hid (HKb24.out.on' hb)
      have HTb25 := Lib.hid (HTb24.out.below hb)
      have xb3a0 := fun o => (HKx4.out.alloc o).b0
      have xb3a1 := fun o => (HKx4.out.alloc o).b1
      have b2b3a0 := fun o => (HKb24.out.alloc o).b0
      have b2b3a1 := fun o => (HKb24.out.alloc o).b1
      have HTb35 := Lib.hid (HTb34.out.below hb)
      have HKb35 := Lib.hid (wbox_blok w4 k3 a3 n3 c3)
      have HB5 := Lib.hid (HB4.out.trans (hb.mono HB4.out.size))
      clear hb
      have HTd35 := Lib.hid (HTd34.out.below (wbox_below w4 k3 a3 n3 c3))
      go_wp2_with fail
      refine (step_is k3 t2 a3 n3 c3 l3 k4 l4 d4 n4 q4 e4 (wbox w4 k3 a3 n3 c3) HTb35.out (by omega) S4.out M4.out P4.out).mono ?_
      clear xf0 xf1 b2f0 b2f1 xb3a0 xb3a1 b2b3a0 b2b3a1
      rintro e w6 ⟨a4, c4, r4, o4, rfl, htb4, htd4, hb⟩
      have HKx6 := Lib.hid (HKx5.out.on' hb)
      have HTx6 := Lib.hid (HTx5.out.below hb)
      have HKb26 := Lib.hid (HKb25.out.on' hb)
      have HTb26 := Lib.hid (HTb25.out.below hb)
      have HKb36 := Lib.hid (HKb35.out.on' hb)
      have HTb36 := Lib.hid (HTb35.out.below hb)
      have HTd36 := Lib.hid (HTd35.out.below hb)
      have xf0 := HKx6.out.b0
      have xf1 := HKx6.out.b1
      have b2f0 := HKb26.out.b0
      have b2f1 := HKb26.out.b1
      have b3f0 := HKb36.out.b0
      have b3f1 := HKb36.out.b1
      have HB6 := Lib.hid (HB5.out.trans (hb.mono HB5.out.size))
      clear hb
      have HTb46 := htb4
      clear htb4
      have HTd46 := htd4
      clear htd4
      have Nxb4 := Lib.hid (Nat.ne_of_lt HKx6.out.lt)
      have Nb2b4 := Lib.hid (Nat.ne_of_lt HKb26.out.lt)
      have Nb3b4 := Lib.hid (Nat.ne_of_lt HKb36.out.lt)
      have hb := wbox_below w6 k4 a4 n4 c4
      have HKx7 := Lib.hid (HKx6.out.on' hb)
      have HTx7 := Lib.hid (HTx6.out.below hb)
      have HKb27 := Lib.hid (HKb26.out.on' hb)
      have HTb27 := Lib.hid (HTb26.out.below hb)
      have HKb37 := Lib.hid (HKb36.out.on' hb)
      have HTb37 := Lib.hid (HTb36.out.below hb)
      have HTd37 := Lib.hid (HTd36.out.below hb)
      have xb4a0 := fun o => (HKx6.out.alloc o).b0
      have xb4a1 := fun o => (HKx6.out.alloc o).b1
      have b2b4a0 := fun o => (HKb26.out.alloc o).b0
      have b2b4a1 := fun o => (HKb26.out.alloc o).b1
      have b3b4a0 := fun o => (HKb36.out.alloc o).b0
      have b3b4a1 := fun o => (HKb36.out.alloc o).b1
      have HTb47 := Lib.hid (HTb46.out.below hb)
      have HKb47 := Lib.hid (wbox_blok w6 k4 a4 n4 c4)
      have HB7 := Lib.hid (HB6.out.trans (hb.mono HB6.out.size))
      clear hb
      have HTd47 := Lib.hid (HTd46.out.below (wbox_below w6 k4 a4 n4 c4))
      go_wp2
      go_ret
      exact ⟨rfl, HB7.out⟩
  · have g1 : decide ((70 : Int) < (n : Int)) = true := by simp; omega
    go_enter Try.func7, Try.ntmps7
    go_wp2_with fail
    refine (wawake_any (wbox w k a n c)).mono ?_
    rintro e w1 ⟨rfl, hb⟩
    have HKx1 := Lib.hid (HKx0.out.on' hb)
    have HTx1 := Lib.hid (HTx0.out.below hb)
    have xf0 := HKx1.out.b0
    have xf1 := HKx1.out.b1
    have HB1 := Lib.hid (HB0.out.trans (hb.mono HB0.out.size))
    clear hb
    go_wp2
    go_ret
    exact ⟨rfl, HB1.out⟩
end Go.Proofs.Ytmegkfonodcoiaa
