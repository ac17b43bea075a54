/-
  LeaseBusy.
-/
import Derived.Test.YtbnhaoimdponkaaLSrt
namespace Go.Proofs.Ytbnhaoimdponkaa
open Go.RowKit

theorem L.any_snoc {α : Type} {f : α → Bool} {l : List α} {j : Nat} {x : α} (hx : l[j]? = some x) : (l.take (j + 1)).any f = ((l.take j).any f || f x) := by
  rw [L.take_snoc hx, List.any_append]; simp
theorem L.rise_at {k : List Int} (h : k.Pairwise (· < ·)) {j : Nat} {x y : Int} (hx : k[j]? = some x) (hy : k[j + 1]? = some y) : x < y := by
  obtain ⟨h0, rfl⟩ := List.getElem?_eq_some_iff.1 hx
  obtain ⟨h1, rfl⟩ := List.getElem?_eq_some_iff.1 hy
  exact List.pairwise_iff_getElem.1 h j (j + 1) h0 h1 (by omega)
set_option maxRecDepth 100000 in
set_option maxHeartbeats 2000000 in
theorem LeaseBusy_in (a0 : Option Addr) (n0 c0 : Nat) (l0 : List L.Ls) (i0 : Int) (w : World) (h0 : RIn w a0 n0 c0 l0) :
    Calls Try.prog 6 #[.slice a0 n0 c0, .int .i64 i0] w fun e w' => e = .returned (.bool true) ∧ Below w.heap.size w w' := by
  have HT00 := Lib.hid h0
  have hl := h0.1
  clear h0
  have HB0 := Lib.hid (Below.refl w.heap.size w)
  go_enter Try.func6, Try.ntmps6
  go_wp2_with fail
  refine (lawake_any w).mono ?_
  rintro e w1 ⟨rfl, hb⟩
  have HT01 := Lib.hid (HT00.out.below hb)
  have HB1 := Lib.hid (HB0.out.trans (hb.mono HB0.out.size))
  clear hb HT00 HB0
  by_cases h40 : n0 ≤ 40
  · have d40 : decide ((40 : Int) < (n0 : Int)) = false := by simp; omega
    have d40' : decide (40 < n0) = false := by simp; omega
    obtain ⟨k, hk⟩ : ∃ k, L.busy l0 = k := ⟨_, rfl⟩
    have cb := busy_run a0 n0 c0 l0 k hk w1 HT01.out (by omega)
    obtain ⟨m, hm⟩ : ∃ m, k.length = m := ⟨_, rfl⟩
    rw [hm] at cb
    have hmn : m ≤ n0 := by rw [← hm, ← hk, ← hl]; exact L.busy_len _
    have HMEM : Hid (∀ x, x ∈ k ↔ ∃ y ∈ l0, y.a = x) := Lib.hid (fun x => by rw [← hk]; exact L.busy_mem)
    have HRISE : Hid (k.Pairwise (· < ·)) := Lib.hid (by rw [← hk]; exact L.busy_rise _)
    have HM := Lib.hid hm
    clear hk hm
    go_wp2_with fail
    refine cb.mono ?_
    rintro e w2 ⟨a2, c2, rfl, hr2, hb⟩
    have HT02 := Lib.hid (HT01.out.below hb)
    have HB2 := Lib.hid (HB1.out.trans (hb.mono HB1.out.size))
    have HK2 := hr2
    clear hb HT01 HB1 cb hr2
    go_wp2_with fail
    go_loopw [7] (fun s7 wr => ∃ j : Nat, s7 = .int .i64 j ∧ j ≤ m ∧ Hid (Below w2.heap.size w2 wr)) (fun s7 _ => m - (intOf s7).toNat)
    case atStart => exact ⟨0, rfl, by omega, Lib.hid (Below.refl _ _)⟩
    case round =>
      obtain ⟨j, rfl, hj, HBr⟩ := hrel
      by_cases hlt : j < m
      · have dj : decide ((j : Int) < m) = true := by simp; omega
        obtain ⟨bk, ok, x, hak, hbk, hxk, q0⟩ := (HK2.out.below HBr.out).at1 hlt
        subst hak
        have j0 : (0 : Int) ≤ j := by omega
        have j1 : (j : Int) < m := by omega
        have HXK := Lib.hid hxk
        clear hxk q0 hbk
        go_wp2_with fail
        go_loopw [8, 9] (fun s8 s9 wx => ∃ i : Nat, s8 = .bool ((l0.take i).any fun y => y.a == x) ∧ s9 = .int .i64 i ∧ i ≤ n0 ∧ Hid (Below w2.heap.size w2 wx)) (fun _ s9 _ => n0 - (intOf s9).toNat)
        case atStart => exact ⟨0, by simp, rfl, by omega, HBr⟩
        case round =>
          obtain ⟨i, rfl, rfl, hi, HBx⟩ := hrel
          by_cases hlt2 : i < n0
          · have di : decide ((i : Int) < n0) = true := by simp; omega
            obtain ⟨bl, ol, y, hal, hbl, hyl, p0, p1, p2, p3, p4⟩ := (HT02.out.below HBx.out).at5 hlt2
            obtain ⟨bk', ok', x', hak, hbk, hxk, q0⟩ := (HK2.out.below HBx.out).at1 hlt
            cases hak
            obtain rfl : x' = x := Option.some.inj (hxk.symm.trans HXK.out)
            subst hal
            have i0' : (0 : Int) ≤ i := by omega
            have i1 : (i : Int) < n0 := by omega
            have HAN := Lib.hid (L.any_snoc (f := fun y => y.a == x') hyl)
            obtain ⟨t, ht⟩ : ∃ t, ((l0.take i).any fun y => y.a == x') = t := ⟨_, rfl⟩
            obtain ⟨u, hu⟩ : ∃ u, (y.a == x') = u := ⟨_, rfl⟩
            rw [ht] at HAN ⊢
            rw [hu] at HAN
            have cp1 := fun d os => cell_regrown p1 d os
            have cq0 := fun d os => cell_regrown q0 d os
            clear hyl hxk hbl hbk ht
            cases t with
            | true =>
              go_wp2_with fail
              refine wp_region_quiet_below (by kernel_rfl) (by kernel_rfl) ?_
              repeat (go_big_quiet_step (fail))
              refine wpQuiet_nil ?_
              intro _ hw'
              obtain ⟨⟨dq, osq⟩, hw''⟩ := hw'
              subst hw''
              have HB4 := Lib.hid (HBx.out.trans ((below_regrown _ dq osq).mono HBx.out.size))
              clear cp1 cq0 p0 p1 p2 p3 p4 q0
              go_wp2
              go_roundw
              case rel => exact ⟨i + 1, by rw [HAN.out]; rfl, by go_num, by omega, HB4⟩
              case measure => simp [intOf] <;> omega
            | false =>
              go_wp2_with fail
              refine wp_region_quiet_below (by kernel_rfl) (by kernel_rfl) ?_
              repeat (go_big_quiet_step (fail))
              refine wpQuiet_nil ?_
              intro _ hw'
              obtain ⟨⟨dq, osq⟩, hw''⟩ := hw'
              subst hw''
              have HB4 := Lib.hid (HBx.out.trans ((below_regrown _ dq osq).mono HBx.out.size))
              clear cp1 cq0 p0 p1 p2 p3 p4 q0
              go_wp2
              go_roundw
              case rel => exact ⟨i + 1, by rw [HAN.out]; rfl, by go_num, by omega, HB4⟩
              case measure => simp [intOf] <;> omega
          · have di : decide ((i : Int) < n0) = false := by simp; omega
            have HTR : Hid (((l0.take i).any fun y => y.a == x) = true) := Lib.hid (by
              rw [List.take_of_length_le (by omega), List.any_eq_true]
              obtain ⟨y, hy, e⟩ := (HMEM.out x).1 (List.mem_of_getElem? HXK.out)
              exact ⟨y, hy, by simpa using e⟩)
            rw [HTR.out]
            rcases Nat.eq_zero_or_pos j with rfl | hjp
            · have g0 : decide ((0 : Int) < ((0 : Nat) : Int)) = false := by decide
              go_wp2_with fail
              refine wp_region_quiet_below (by kernel_rfl) (by kernel_rfl) ?_
              repeat (go_big_quiet_step (fail))
              refine wpQuiet_nil ?_
              intro _ hw'
              obtain ⟨⟨dq_1, osq⟩, hw''⟩ := hw'
              subst hw''
              have HB4 := Lib.hid (HBx.out.trans ((below_regrown _ dq_1 osq).mono HBx.out.size))
              go_wp2
              go_roundw
              case rel => exact ⟨0 + 1, by go_num, by omega, HB4⟩
              case measure => simp [intOf] <;> omega
            · obtain ⟨jj, rfl⟩ : ∃ jj, j = jj + 1 := ⟨j - 1, by omega⟩
              obtain ⟨bk', ok', x', hak, hbk, hxk, q1⟩ := (HK2.out.below HBx.out).at1 hlt
              obtain ⟨bk'', ok'', z, hak2, hbk2, hzk, q2⟩ := (HK2.out.below HBx.out).at1 (i := jj) (by omega)
              cases hak
              cases hak2
              obtain rfl : x' = x := Option.some.inj (hxk.symm.trans HXK.out)
              have hzx := L.rise_at HRISE.out hzk hxk
              have g0 : decide ((0 : Int) < (((jj + 1 : Nat)) : Int)) = true := decide_eq_true (by omega)
              have g1 : decide ((0 : Int) < (jj : Int) + 1) = true := decide_eq_true (by omega)
              have g2 : decide (x' ≤ z) = false := by simp; omega
              have g3 : IntKind.i64.wrap ((jj : Int) + 1 - 1) = (jj : Int) := by rw [IntKind.wrap_i64]; omega
              have g4 : (0 : Int) ≤ (jj : Int) := by omega
              have g5 : (jj : Int) < m := by omega
              have g6 : (0 : Int) ≤ (jj : Int) + 1 := by omega
              have g7 : (jj : Int) + 1 < m := by omega
              have g8 : ((jj : Int) + 1).toNat = jj + 1 := by omega
              have g9 : (((jj + 1 : Nat)) : Int) = (jj : Int) + 1 := by omega
              have cq1 := fun d os => cell_regrown q1 d os
              have cq2 := fun d os => cell_regrown q2 d os
              clear hxk hzk hbk hbk2 hzx
              go_wp2_with fail
              refine wp_region_quiet_below (by kernel_rfl) (by kernel_rfl) ?_
              repeat (go_big_quiet_step (fail))
              refine wpQuiet_nil ?_
              intro _ hw'
              obtain ⟨⟨dq_1, osq⟩, hw''⟩ := hw'
              subst hw''
              have HB4 := Lib.hid (HBx.out.trans ((below_regrown _ dq_1 osq).mono HBx.out.size))
              clear cq1 cq2 q1 q2
              go_wp2
              go_roundw
              case rel => exact ⟨jj + 1 + 1, by go_num, by omega, HB4⟩
              case measure => simp [intOf] <;> omega
      · have dj : decide ((j : Int) < m) = false := by simp; omega
        by_cases hi0 : i0 < 0
        · have f1 : decide (i0 < 0) = true := by simpa using hi0
          have HB9 := Lib.hid (HB2.out.trans (HBr.out.mono HB2.out.size))
          go_wp2
          go_ret
          exact ⟨rfl, HB9.out⟩
        · have f1 : decide (i0 < 0) = false := by simpa using hi0
          by_cases hin : i0 < n0
          · have f2 : decide ((n0 : Int) ≤ i0) = false := by simp; omega
            obtain ⟨ii, rfl⟩ : ∃ ii : Nat, i0 = ii := ⟨i0.toNat, by omega⟩
            have hii : ii < n0 := by omega
            have f3 : decide (n0 ≤ ii) = false := by simp; omega
            obtain ⟨bl, ol, y, hal, hbl, hyl, p0, p1, p2, p3, p4⟩ := HT02.out.at5 hii
            have HY := Lib.hid hyl
            subst hal
            clear hbl hyl p0 p1 p2 p3 p4
            go_wp2_with fail
            go_loopw [10, 11] (fun s10 s11 wx => ∃ q : Nat, s10 = .bool ((k.take q).any fun z => z == y.a) ∧ s11 = .int .i64 q ∧ q ≤ m ∧ Hid (Below w2.heap.size w2 wx)) (fun _ s11 _ => m - (intOf s11).toNat)
            case atStart => exact ⟨0, by simp, rfl, by omega, HBr⟩
            case round =>
              obtain ⟨q, rfl, rfl, hq, HBx⟩ := hrel
              by_cases hlt3 : q < m
              · have dq : decide ((q : Int) < m) = true := by simp; omega
                obtain ⟨bl', ol', y', hal, hbl, hyl, p0, p1, p2, p3, p4⟩ := (HT02.out.below HBx.out).at5 hii
                cases hal
                obtain rfl : y' = y := Option.some.inj (hyl.symm.trans HY.out)
                obtain ⟨bk, ok, z, hak, hbk, hzk, q0⟩ := (HK2.out.below HBx.out).at1 hlt3
                subst hak
                have HAN := Lib.hid (L.any_snoc (f := fun z => z == y'.a) hzk)
                obtain ⟨t, ht⟩ : ∃ t, ((k.take q).any fun z => z == y'.a) = t := ⟨_, rfl⟩
                obtain ⟨u, hu⟩ : ∃ u, (z == y'.a) = u := ⟨_, rfl⟩
                rw [ht] at HAN ⊢
                rw [hu] at HAN
                have e0 : (0 : Int) ≤ q := by omega
                have e1 : (q : Int) < m := by omega
                have e2 : (0 : Int) ≤ ii := by omega
                have e3 : (ii : Int) < n0 := by omega
                have cp1 := fun d os => cell_regrown p1 d os
                have cq0 := fun d os => cell_regrown q0 d os
                clear hyl hzk hbl hbk ht
                cases t with
                | true =>
                  go_wp2_with fail
                  refine wp_region_quiet_below (by kernel_rfl) (by kernel_rfl) ?_
                  repeat (go_big_quiet_step (fail))
                  refine wpQuiet_nil ?_
                  intro _ hw'
                  obtain ⟨⟨dq_1, osq⟩, hw''⟩ := hw'
                  subst hw''
                  have HB4 := Lib.hid (HBx.out.trans ((below_regrown _ dq_1 osq).mono HBx.out.size))
                  clear cp1 cq0 p0 p1 p2 p3 p4 q0
                  go_wp2
                  go_roundw
                  case rel => exact ⟨q + 1, by rw [HAN.out]; rfl, by go_num, by omega, HB4⟩
                  case measure => simp [intOf] <;> omega
                | false =>
                  go_wp2_with fail
                  refine wp_region_quiet_below (by kernel_rfl) (by kernel_rfl) ?_
                  repeat (go_big_quiet_step (fail))
                  refine wpQuiet_nil ?_
                  intro _ hw'
                  obtain ⟨⟨dq_1, osq⟩, hw''⟩ := hw'
                  subst hw''
                  have HB4 := Lib.hid (HBx.out.trans ((below_regrown _ dq_1 osq).mono HBx.out.size))
                  clear cp1 cq0 p0 p1 p2 p3 p4 q0
                  go_wp2
                  go_roundw
                  case rel => exact ⟨q + 1, by rw [HAN.out]; rfl, by go_num, by omega, HB4⟩
                  case measure => simp [intOf] <;> omega
              · have dq : decide ((q : Int) < m) = false := by simp; omega
                have HTR : Hid (((k.take q).any fun z => z == y.a) = true) := Lib.hid (by
                  have h9 := HM.out
                  rw [List.take_of_length_le (by omega), List.any_eq_true]
                  exact ⟨y.a, (HMEM.out y.a).2 ⟨y, List.mem_of_getElem? HY.out, rfl⟩, by simp⟩)
                rw [HTR.out]
                have HB9 := Lib.hid (HB2.out.trans (HBx.out.mono HB2.out.size))
                go_wp2
                go_ret
                exact ⟨rfl, HB9.out⟩
          · have f2 : decide ((n0 : Int) ≤ i0) = true := by simp; omega
            have HB9 := Lib.hid (HB2.out.trans (HBr.out.mono HB2.out.size))
            go_wp2
            go_ret
            exact ⟨rfl, HB9.out⟩
  · have d40 : decide ((40 : Int) < (n0 : Int)) = true := by simp; omega
    have d40' : decide (40 < n0) = true := by simp; omega
    go_wp2
    go_ret
    exact ⟨rfl, HB1.out⟩
end Go.Proofs.Ytbnhaoimdponkaa
