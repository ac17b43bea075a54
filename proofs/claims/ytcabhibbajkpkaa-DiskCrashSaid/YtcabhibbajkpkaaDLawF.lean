/-
  Walk of moorings/mooringslaw06.DiskCrash: for every input it returns true.
-/
import Derived.Test.YtcabhibbajkpkaaDLawBase
import Derived.Test.YtcabhibbajkpkaaDLaws4
namespace Go.Proofs.Ytcabhibbajkpkaa
open Go.RowKit

set_option maxRecDepth 100000 in
set_option maxHeartbeats 2000000 in
theorem crash_law (k : Int) (a : Option Addr) (n c : Nat) (ap : Option Addr) (np cp : Nat) (ps : List Int) (aq : Option Addr) (nr cq : Nat) (qs : List Int) (xs : List FP) (w : World) (hd : DiskIn w a n c xs) (hpl : ps.length = np) (hpr : RowIn .i64 w ap cp ps) (hql : qs.length = nr) (hqr : RowIn .i64 w aq cq qs) :
    Calls Try.prog 6 #[.agg #[.int .i64 k, .slice a n c], .slice ap np cp, .slice aq nr cq] w fun e w' => e = .returned (.bool true) ∧ Below w.heap.size w w' := by
  have HBX : Hid (Below w.heap.size w (dbox w k a n c)) := Lib.hid (dbox_below w k a n c)
  have HD := Lib.hid hd
  have HPL := Lib.hid hpl
  have HPR := Lib.hid hpr
  have HQL := Lib.hid hql
  have HQR := Lib.hid hqr
  by_cases hf : D.few (FP.files xs)
  · by_cases h3 : 60 < np
    · have HF := Lib.hid (decide_eq_true hf)
      have d3 : decide ((60 : Int) < (np : Int)) = true := by simp; omega
      clear hd hpl hpr hql hqr hf h3
      go_enter Try.func6, Try.ntmps6
      go_wp2_with fail
      refine (awake_any (dbox w k a n c)).mono ?_
      rintro e w1 ⟨rfl, hb1⟩
      have W1 := Lib.hid (HBX.out.trans (hb1.mono HBX.out.size))
      have Kd1 : Hid (Blok w1 (w.heap.size) 24 #[.int .i64 k, .slice a n c]) := Lib.hid ((dbox_blok w k a n c).on hb1)
      clear hb1
      have qd0 : (w1).cell? ⟨w.heap.size, 0, none⟩ = some (.int .i64 k) := dk0 Kd1.out
      have qd1 : (w1).cell? ⟨w.heap.size, 1, none⟩ = some (.slice a n c) := dk1 Kd1.out
      go_wp2_with fail
      refine (few_any k a n c xs true _ (HD.out.below W1.out) HF.out).mono ?_
      rintro e w2 ⟨rfl, hb2⟩
      clear qd0 qd1
      have W2 := Lib.hid (W1.out.trans (hb2.mono W1.out.size))
      have Kd2 := Lib.hid (Kd1.out.on hb2)
      clear hb2
      have qd0 : (w2).cell? ⟨w.heap.size, 0, none⟩ = some (.int .i64 k) := dk0 Kd2.out
      have qd1 : (w2).cell? ⟨w.heap.size, 1, none⟩ = some (.slice a n c) := dk1 Kd2.out
      go_wp2
      go_ret
      exact ⟨rfl, W2.out⟩
    · by_cases h4 : 60 < nr
      · have HF := Lib.hid (decide_eq_true hf)
        have d3 : decide ((60 : Int) < (np : Int)) = false := by simp; omega
        have d4 : decide ((60 : Int) < (nr : Int)) = true := by simp; omega
        clear hd hpl hpr hql hqr hf h3 h4
        go_enter Try.func6, Try.ntmps6
        go_wp2_with fail
        refine (awake_any (dbox w k a n c)).mono ?_
        rintro e w1 ⟨rfl, hb1⟩
        have W1 := Lib.hid (HBX.out.trans (hb1.mono HBX.out.size))
        have Kd1 : Hid (Blok w1 (w.heap.size) 24 #[.int .i64 k, .slice a n c]) := Lib.hid ((dbox_blok w k a n c).on hb1)
        clear hb1
        have qd0 : (w1).cell? ⟨w.heap.size, 0, none⟩ = some (.int .i64 k) := dk0 Kd1.out
        have qd1 : (w1).cell? ⟨w.heap.size, 1, none⟩ = some (.slice a n c) := dk1 Kd1.out
        go_wp2_with fail
        refine (few_any k a n c xs true _ (HD.out.below W1.out) HF.out).mono ?_
        rintro e w2 ⟨rfl, hb2⟩
        clear qd0 qd1
        have W2 := Lib.hid (W1.out.trans (hb2.mono W1.out.size))
        have Kd2 := Lib.hid (Kd1.out.on hb2)
        clear hb2
        have qd0 : (w2).cell? ⟨w.heap.size, 0, none⟩ = some (.int .i64 k) := dk0 Kd2.out
        have qd1 : (w2).cell? ⟨w.heap.size, 1, none⟩ = some (.slice a n c) := dk1 Kd2.out
        go_wp2
        go_ret
        exact ⟨rfl, W2.out⟩
      · by_cases hm : D.may (k, FP.files xs)
        · have HF := Lib.hid (decide_eq_true hf)
          have d3 : decide ((60 : Int) < (np : Int)) = false := by simp; omega
          have d4 : decide ((60 : Int) < (nr : Int)) = false := by simp; omega
          have HM := Lib.hid (decide_eq_true hm)
          have HSM := Lib.hid hf.small
          have HNP : Hid (np ≤ 1000) := Lib.hid (by omega)
          have HNQ : Hid (nr ≤ 1000) := Lib.hid (by omega)
          obtain ⟨lc, hlc⟩ : ∃ l, D.crashed (FP.files xs) ps = l := ⟨_, rfl⟩
          have hcr : D.crash (k, FP.files xs) ps = (k, lc) := by unfold D.crash; rw [if_pos hm, ← hlc]
          have hmc : D.may (k, lc) := by have h := D.may_crash _ ps hm; rw [← hlc]; exact h
          have hag : D.crash (k, lc) qs = (k, lc) := by unfold D.crash; rw [if_pos hmc, D.crashed_sure _ _ (by rw [← hlc]; exact D.crashed_all _ _)]
          have HCR := Lib.hid hcr
          have HAG := Lib.hid hag
          have HSC := Lib.hid (D.small_may hmc)
          have HLV : Hid (∀ j, j < n → D.leaves ((FP.files xs).getD j D.nof) (lc.getD j D.nof) ∧ (lc.getD j D.nof).2.2 = ((lc.getD j D.nof).2.1.length : Int)) := Lib.hid (fun j hj => by
            have hj2 : j < (FP.files xs).length := by rw [FP.files_len, hd.1]; exact hj
            refine ⟨by rw [← hlc]; exact D.crashed_leaves _ ps j hm.2.1 hj2, ?_⟩
            have h1 : j < lc.length := by rw [← hlc, D.crashed_len]; exact hj2
            have h2 : ∀ f ∈ lc, f.2.2 = (f.2.1.length : Int) := by rw [← hlc]; exact D.crashed_all _ _
            rw [D.getD_lt h1]
            exact h2 _ (List.getElem_mem h1))
          have HSS : Hid ((∀ f ∈ FP.files xs, f.2.2 = (f.2.1.length : Int)) → lc = FP.files xs) := Lib.hid (fun h => by rw [← hlc]; exact D.crashed_sure _ _ h)
          have HLC : Hid (lc.length = n) := Lib.hid (by rw [← hlc, D.crashed_len, FP.files_len, hd.1])
          have HXN : Hid (xs.length = n) := Lib.hid hd.1
          have hcap := hd.caps
          have hml : maxLen ≤ 9223372036854775807 := by decide
          clear hlc hcr hmc hag hm h3 h4
          clear hd hpl hpr hql hqr hf
          go_enter Try.func6, Try.ntmps6
          go_wp2_with fail
          refine (awake_any (dbox w k a n c)).mono ?_
          rintro e w1 ⟨rfl, hb1⟩
          have W1 := Lib.hid (HBX.out.trans (hb1.mono HBX.out.size))
          have Kd1 : Hid (Blok w1 (w.heap.size) 24 #[.int .i64 k, .slice a n c]) := Lib.hid ((dbox_blok w k a n c).on hb1)
          clear hb1
          have qd0 : (w1).cell? ⟨w.heap.size, 0, none⟩ = some (.int .i64 k) := dk0 Kd1.out
          have qd1 : (w1).cell? ⟨w.heap.size, 1, none⟩ = some (.slice a n c) := dk1 Kd1.out
          go_wp2_with fail
          refine (few_any k a n c xs true _ (HD.out.below W1.out) HF.out).mono ?_
          rintro e w2 ⟨rfl, hb2⟩
          clear qd0 qd1
          have W2 := Lib.hid (W1.out.trans (hb2.mono W1.out.size))
          have Kd2 := Lib.hid (Kd1.out.on hb2)
          clear hb2
          have qd0 : (w2).cell? ⟨w.heap.size, 0, none⟩ = some (.int .i64 k) := dk0 Kd2.out
          have qd1 : (w2).cell? ⟨w.heap.size, 1, none⟩ = some (.slice a n c) := dk1 Kd2.out
          go_wp2_with fail
          refine (may_any k a n c xs true _ (HD.out.below W2.out) HM.out).mono ?_
          rintro e w3 ⟨rfl, hb3⟩
          clear qd0 qd1
          have W3 := Lib.hid (W2.out.trans (hb3.mono W2.out.size))
          have Kd3 := Lib.hid (Kd2.out.on hb3)
          clear hb3
          have qd0 : (w3).cell? ⟨w.heap.size, 0, none⟩ = some (.int .i64 k) := dk0 Kd3.out
          have qd1 : (w3).cell? ⟨w.heap.size, 1, none⟩ = some (.slice a n c) := dk1 Kd3.out
          go_wp2_with fail
          refine (crash_any k a n c ap np cp xs ps _ (HD.out.below W3.out) HSM.out HPL.out (HPR.out.below W3.out) HNP.out).mono ?_
          rw [HCR.out]
          rintro e w4 ⟨a4, n4, c4, ya, rfl, HE4, HYA, _, hb4⟩
          clear qd0 qd1
          have hx4 := dbox_below w4 k a4 n4 c4
          have W4 := Lib.hid ((W3.out.trans (hb4.mono W3.out.size)).trans (hx4.mono (W3.out.trans (hb4.mono W3.out.size)).size))
          have Pd4 := Kd3.out.on hb4
          have Kd4 := Lib.hid (Pd4.on hx4)
          have HDx4 := Lib.hid (HE4.out.below hx4)
          have Kx4 := Lib.hid (dbox_blok w4 k a4 n4 c4)
          have qd0 : ∀ o, (w4.alloc o).cell? ⟨w.heap.size, 0, none⟩ = some (.int .i64 k) := fun o => dk0 (Pd4.alloc o)
          have qd1 : ∀ o, (w4.alloc o).cell? ⟨w.heap.size, 1, none⟩ = some (.slice a n c) := fun o => dk1 (Pd4.alloc o)
          clear hb4 hx4 Pd4
          have hnx : n = n4 := by have h1 := HDx4.out.1; have h2 := congrArg List.length HYA.out; rw [FP.files_len, HLC.out] at h2; omega
          subst hnx
          go_wp2_with fail
          refine wp_region_held (S := fun w' => Below ((dbox w4 k a4 n c4)).heap.size ((dbox w4 k a4 n c4)) w') (by kernel_rfl) ?_
          change wpAnyH _ _ _ _ _ _ _ _ (World.drew ((dbox w4 k a4 n c4)))
          have HS0 : (fun w' => Below ((dbox w4 k a4 n c4)).heap.size ((dbox w4 k a4 n c4)) w') (World.drew ((dbox w4 k a4 n c4))) := below_drew _
          refine wpAnyH_take (i := 0) (v := (.pointer (some ⟨w4.heap.size, 1, none⟩))) rfl (by kernel_rfl) (by kernel_rfl) (by kernel_rfl) (fun _ _ _ h => h) (.inl ⟨by kernel_rfl, fun w9 hS => by kernel_rfl⟩) HS0 ?_
          refine wpAnyH_take (i := 1) (v := (.slice a4 n c4)) rfl (by kernel_rfl) (by kernel_rfl) (by kernel_rfl) (fun _ _ _ h => h) (.inl ⟨by kernel_rfl, fun w9 hS => by have c := dk1 (Kx4.out.on hS); go_simp⟩) HS0 ?_
          refine wpAnyH_take (i := 2) (v := (.int .i64 (n : Int))) rfl (by kernel_rfl) (by kernel_rfl) (by kernel_rfl) (fun _ _ _ h => h) (.inl ⟨by kernel_rfl, fun w9 hS => by kernel_rfl⟩) HS0 ?_
          refine wpAnyH_take (i := 3) (v := (.pointer (some ⟨w.heap.size, 1, none⟩))) rfl (by kernel_rfl) (by kernel_rfl) (by kernel_rfl) (fun _ _ _ h => h) (.inl ⟨by kernel_rfl, fun w9 hS => by kernel_rfl⟩) HS0 ?_
          refine wpAnyH_take (i := 4) (v := (.slice a n c)) rfl (by kernel_rfl) (by kernel_rfl) (by kernel_rfl) (fun _ _ _ h => h) (.inl ⟨by kernel_rfl, fun w9 hS => by have c := dk1 (Kd4.out.on hS); go_simp⟩) HS0 ?_
          refine wpAnyH_take (i := 5) (v := (.int .i64 (n : Int))) rfl (by kernel_rfl) (by kernel_rfl) (by kernel_rfl) (fun _ _ _ h => h) (.inl ⟨by kernel_rfl, fun w9 hS => by kernel_rfl⟩) HS0 ?_
          refine wpAnyH_take (i := 6) (v := (.bool false)) rfl (by kernel_rfl) (by kernel_rfl) (by kernel_rfl) (fun _ _ _ h => h) (.inl ⟨by kernel_rfl, fun w9 hS => (show _ = Result.ok (.value (.bool ((n : Int) != (n : Int)))) w9 by kernel_rfl).trans (by rw [bne_self_eq_false])⟩) HS0 ?_
          refine wpAnyH_take (i := 7) (v := (.bool false)) rfl (by kernel_rfl) (by kernel_rfl) (by kernel_rfl) (fun _ _ _ h => h) (.inl ⟨by kernel_rfl, fun w9 hS => by kernel_rfl⟩) HS0 ?_
          refine wpAnyH_take (i := 8) (v := (.agg #[.int .i64 k, .slice a4 n c4])) rfl (by kernel_rfl) (by kernel_rfl) (by kernel_rfl) (fun _ _ _ h => h) (.inl ⟨by kernel_rfl, fun w9 hS => by have c0 := dk0 (Kx4.out.on hS); have c1 := dk1 (Kx4.out.on hS); go_simp⟩) HS0 ?_
          refine wpAnyH_take (i := 9) (v := (.slice aq nr cq)) rfl (by kernel_rfl) (by kernel_rfl) (by kernel_rfl) (fun _ _ _ h => h) (.inl ⟨by kernel_rfl, fun w9 hS => by kernel_rfl⟩) HS0 ?_
          refine wpAnyH_take (i := 11) (v := (.agg #[.int .i64 k, .slice a4 n c4])) rfl (by kernel_rfl) (by kernel_rfl) (by kernel_rfl) (fun _ _ _ h => h) (.inl ⟨by kernel_rfl, fun w9 hS => by have c0 := dk0 (Kx4.out.on hS); have c1 := dk1 (Kx4.out.on hS); go_simp⟩) HS0 ?_
          refine wpAnyH_call (i := 10) (f := 25) (args := #[.agg #[.int .i64 k, .slice a4 n c4], .slice aq nr cq]) (by kernel_rfl) rfl (by kernel_rfl) (by kernel_rfl) (crash_any k a4 n c4 aq nr cq ya qs _ (HDx4.out.below HS0) (by rw [HYA.out]; exact HSC.out) HQL.out (HQR.out.below (Below.trans W4.out (Below.mono HS0 W4.out.size))) HNQ.out) ?_
          rw [show D.crash (k, FP.files ya) qs = (k, lc) by rw [HYA.out]; exact HAG.out]
          rintro e wz1 ⟨a9, n9, c9, yb, rfl, HE9, HYB, _, hbwz1⟩
          have HS1 : (fun w' => Below ((dbox w4 k a4 n c4)).heap.size ((dbox w4 k a4 n c4)) w') wz1 := Below.trans HS0 (hbwz1.mono (Below.size HS0))
          refine ⟨_, rfl, HS1, ?_⟩
          refine wpAnyH_call (i := 12) (f := 20) (args := #[.agg #[.int .i64 k, .slice a9 n9 c9], .agg #[.int .i64 k, .slice a4 n c4]]) (by kernel_rfl) rfl (by kernel_rfl) (by kernel_rfl) (same_any k a9 n9 c9 yb k a4 n c4 ya true _ HE9.out (HDx4.out.below HS1) (by rw [HYB.out, HYA.out]; simp)) ?_
          rintro e wz2 ⟨rfl, hbwz2⟩
          have HS2 : (fun w' => Below ((dbox w4 k a4 n c4)).heap.size ((dbox w4 k a4 n c4)) w') wz2 := Below.trans HS1 (hbwz2.mono (Below.size HS1))
          refine ⟨_, rfl, HS2, ?_⟩
          refine wpAnyH_take (i := 13) (v := (.bool false)) rfl (by kernel_rfl) (by kernel_rfl) (by kernel_rfl) (fun _ _ _ h => h) (.inl ⟨by kernel_rfl, fun w9 hS => by kernel_rfl⟩) HS2 ?_
          refine wpAnyH_take (i := 14) (v := (.bool false)) rfl (by kernel_rfl) (by kernel_rfl) (by kernel_rfl) (fun _ _ _ h => h) (.inl ⟨by kernel_rfl, fun w9 hS => by kernel_rfl⟩) HS2 ?_
          refine wpAnyH_done (by kernel_rfl) ?_ _
          simp only [List.getElem_toArray, List.getElem_cons_succ, List.getElem_cons_zero, put_some, List.setIfInBounds_toArray, List.set_cons_succ, List.set_cons_zero]
          clear qd0 qd1
          have W5 := Lib.hid (W4.out.trans (Below.mono HS2 W4.out.size))
          have Kd5 := Lib.hid (Kd4.out.on HS2)
          have Kx5 := Lib.hid (Kx4.out.on HS2)
          have HDx5 := Lib.hid (HDx4.out.below HS2)
          have hcx := HDx5.out.caps
          go_wp2_with fail
          go_loopg [10, 11] n (fun g s z wr => ∃ (j : Nat) (sv : Bool), z = .int .i64 j ∧ s = .bool sv ∧ j + g = n ∧ Hid (sv = D.sureAll (FP.files (xs.take j))) ∧ Below wz2.heap.size wz2 wr)
          case atStart => exact ⟨0, true, rfl, rfl, by omega, Lib.hid rfl, Below.refl _ _⟩
          case round =>
            obtain ⟨j, sv, rfl, rfl, hjn, HSV, hB⟩ := hrel
            obtain ⟨wo, rfl⟩ : ∃ w0, w0 = wr := ⟨_, rfl⟩
            have Kdo := Kd5.out.on hB
            have Kxo := Kx5.out.on hB
            have HDo := HD.out.below (W5.out.trans (hB.mono W5.out.size))
            have HXo := HDx5.out.below hB
            have k0 := dk0 Kdo
            have k1 := dk1 Kdo
            have x0 := dk0 Kxo
            have x1 := dk1 Kxo
            by_cases hlt : j < n
            · have hlv := HLV.out j hlt
              obtain ⟨b1, o1, no1, a1, n1, c1, B1, s1, rfl, hb1, hx1, p10, p11, p12, hok1⟩ := (HDo.2.1).at (i := j) (by rw [HDo.1]; exact hlt)
              obtain ⟨b2, o2, no2, a2, n2, c2, B2, s2, rfl, hb2, hx2, p20, p21, p22, hok2⟩ := (HXo.2.1).at (i := j) (by rw [HXo.1]; exact hlt)
              rw [FP.files_at hx1, show lc = FP.files ya from HYA.out.symm, FP.files_at hx2] at hlv
              obtain ⟨⟨e1, e2, e3, e4⟩, e5⟩ := hlv
              simp only [FP.file] at e1 e2 e3 e4 e5
              have hl1 : B1.length = n1 := hok1.1
              have hl2 : B2.length = n2 := hok2.1
              rw [hl2] at e2 e3 e4 e5
              rw [hl1] at e3
              have hs1 : decide ((n2 : Int) < s1) = false := by simp; omega
              have hs2 : decide ((n1 : Int) < (n2 : Int)) = false := by simp; omega
              have hs3 : decide (n1 < n2) = false := by simp; omega
              have hs4 : ¬ n1 < n2 := by omega
              obtain ⟨sd, hsd⟩ : ∃ b, (s1 == (n1 : Int)) = b := ⟨_, rfl⟩
              have HSV2 : Hid ((sv && sd) = D.sureAll (FP.files (xs.take (j + 1)))) := Lib.hid (by
                obtain ⟨g1, g2⟩ := List.getElem?_eq_some_iff.1 hx1
                rw [HSV.out, ← hsd, List.take_succ_eq_append_getElem g1, g2, FP.files_append]
                rw [show FP.files [(⟨no1, a1, n1, c1, B1, s1⟩ : FP)] = [(no1, B1, s1)] from rfl, D.sureAll_snoc]
                congr 1
                rw [Bool.eq_iff_iff, beq_iff_eq, decide_eq_true_iff]
                simp only [hl1])
              have HRW1 := Lib.hid hok1.2.1
              have HRW2 := Lib.hid hok2.2.1
              have HE4 := Lib.hid e4
              have HL1 := Lib.hid hl1
              have HL2 := Lib.hid hl2
              have hcap1 : n1 ≤ c1 ∧ c1 ≤ maxLen := by have h1 := hok1.2.1.1; simp only at h1; omega
              have hcap2 : n2 ≤ c2 ∧ c2 ≤ maxLen := by have h1 := hok2.2.1.1; simp only at h1; omega
              have HK1 := Lib.hid Kdo
              have HK2 := Lib.hid Kxo
              have hw8 : IntKind.i64.wrap ((n2 : Int) - 8) = (n2 : Int) - 8 := wrap_i64_small (by omega) (by omega)
              subst e1
              subst e5
              clear hx1 hx2 hok1 hok2 e2 e4 hl1 hl2 HDo HXo Kdo Kxo
              cases sv with
              | false =>
                have HSVR : Hid (false = D.sureAll (FP.files (xs.take (j + 1)))) := Lib.hid (by have := HSV2.out; simpa using this)
                go_wp2_with fail
                go_quiet (fail)
                go_wp2_with fail
                go_quiet (fail)
                go_wp2_with fail
                go_loopg [13] n2 (fun g z wx => ∃ kk : Nat, z = .int .i64 kk ∧ kk + g = n2 ∧ Below wo.heap.size wo wx)
                case atStart => exact ⟨0, rfl, by omega, by first | exact (below_drewN _ _ _).trans (below_drewN _ _ _) | exact below_drewN _ _ _⟩
                case round =>
                  obtain ⟨kk, rfl, hkn, hX⟩ := hrel
                  have y1 := dk1 (HK1.out.on hX)
                  have y2 := dk1 (HK2.out.on hX)
                  by_cases hk8 : kk + 8 < n2
                  · have d8 : decide ((kk : Int) < (n2 : Int) - 8) = true := by simp; omega
                    obtain ⟨v, hv⟩ : ∃ v, B1.getD kk 0 = v := ⟨_, rfl⟩
                    obtain ⟨bA, oA, rfl, hbA, rA⟩ := row_at HRW1.out (i := kk) (by have := HL1.out; omega)
                    obtain ⟨bB, oB, rfl, hbB, rB⟩ := row_at HRW2.out (i := kk) (by have := HL2.out; omega)
                    rw [hv] at rA
                    rw [HE4.out kk hk8, hv] at rB
                    have z1 := (hX.cell (p := ⟨b1, o1 + j * 3 + 1, none⟩) hb1).trans p11
                    have z2 := (hX.cell (p := ⟨b2, o2 + j * 3 + 1, none⟩) hb2).trans p21
                    have z3 := (hX.cell (p := ⟨bA, oA + kk, none⟩) hbA).trans rA
                    have z4 := (hX.cell (p := ⟨bB, oB + kk, none⟩) hbB).trans rB
                    have hk1 : kk < n1 := by omega
                    have hk2 : kk < n2 := by omega
                    clear hv rA rB
                    go_wp2_with fail
                    go_quiet (fail)
                    go_wp2
                    go_roundg (n2 - (kk + 1))
                    case rel => exact ⟨kk + 1, by go_num, by omega, hX.trans (below_drewN _ _ _)⟩
                    case measure => omega
                  · have d8 : decide ((kk : Int) < (n2 : Int) - 8) = false := by simp; omega
                    clear hk8
                    go_wp2
                    go_roundg (n - (j + 1))
                    case rel => exact ⟨j + 1, false, by go_num, rfl, by omega, HSVR, hB.trans (hX.mono hB.size)⟩
                    case measure => omega
              | true =>
                have HSVR : Hid (sd = D.sureAll (FP.files (xs.take (j + 1)))) := Lib.hid (by have := HSV2.out; simpa using this)
                go_wp2_with fail
                go_quiet (fail)
                go_wp2_with fail
                go_quiet (fail)
                go_wp2_with fail
                go_loopg [13] n2 (fun g z wx => ∃ kk : Nat, z = .int .i64 kk ∧ kk + g = n2 ∧ Below wo.heap.size wo wx)
                case atStart => exact ⟨0, rfl, by omega, by first | exact (below_drewN _ _ _).trans (below_drewN _ _ _) | exact below_drewN _ _ _⟩
                case round =>
                  obtain ⟨kk, rfl, hkn, hX⟩ := hrel
                  have y1 := dk1 (HK1.out.on hX)
                  have y2 := dk1 (HK2.out.on hX)
                  by_cases hk8 : kk + 8 < n2
                  · have d8 : decide ((kk : Int) < (n2 : Int) - 8) = true := by simp; omega
                    obtain ⟨v, hv⟩ : ∃ v, B1.getD kk 0 = v := ⟨_, rfl⟩
                    obtain ⟨bA, oA, rfl, hbA, rA⟩ := row_at HRW1.out (i := kk) (by have := HL1.out; omega)
                    obtain ⟨bB, oB, rfl, hbB, rB⟩ := row_at HRW2.out (i := kk) (by have := HL2.out; omega)
                    rw [hv] at rA
                    rw [HE4.out kk hk8, hv] at rB
                    have z1 := (hX.cell (p := ⟨b1, o1 + j * 3 + 1, none⟩) hb1).trans p11
                    have z2 := (hX.cell (p := ⟨b2, o2 + j * 3 + 1, none⟩) hb2).trans p21
                    have z3 := (hX.cell (p := ⟨bA, oA + kk, none⟩) hbA).trans rA
                    have z4 := (hX.cell (p := ⟨bB, oB + kk, none⟩) hbB).trans rB
                    have hk1 : kk < n1 := by omega
                    have hk2 : kk < n2 := by omega
                    clear hv rA rB
                    go_wp2_with fail
                    go_quiet (fail)
                    go_wp2
                    go_roundg (n2 - (kk + 1))
                    case rel => exact ⟨kk + 1, by go_num, by omega, hX.trans (below_drewN _ _ _)⟩
                    case measure => omega
                  · have d8 : decide ((kk : Int) < (n2 : Int) - 8) = false := by simp; omega
                    clear hk8
                    go_wp2
                    go_roundg (n - (j + 1))
                    case rel => exact ⟨j + 1, sd, by go_num, rfl, by omega, HSVR, hB.trans (hX.mono hB.size)⟩
                    case measure => omega
            · have hjn' : j = n := by omega
              subst hjn'
              have HSVn : Hid (sv = true → lc = FP.files xs) := Lib.hid (fun h => by
                refine HSS.out ?_
                have h1 := HSV.out
                rw [h, List.take_of_length_le (by rw [HXN.out]; exact Nat.le_refl _)] at h1
                exact (D.sureAll_iff _).1 h1.symm)
              have hd : decide (j < j) = false := by simp
              have HDo' := Lib.hid HDo
              have HXo' := Lib.hid HXo
              clear HDo HXo Kdo Kxo
              cases sv with
              | false =>
                go_wp2
                go_ret
                exact ⟨rfl, W5.out.trans (hB.mono W5.out.size)⟩
              | true =>
                have HSA0 := Lib.hid (HSVn.out rfl)
                have WB := Lib.hid (W5.out.trans (hB.mono W5.out.size))
                go_wp2_with fail
                refine (same_any k a4 j c4 ya k a j c xs true _ HXo'.out HDo'.out (by rw [HYA.out]; simp only [HSA0.out]; simp)).mono ?_
                rintro e wl ⟨rfl, hbl⟩
                have WL := Lib.hid (WB.out.trans (hbl.mono WB.out.size))
                clear hbl
                go_wp2
                go_ret
                exact ⟨rfl, WL.out⟩
        · have HF := Lib.hid (decide_eq_true hf)
          have d3 : decide ((60 : Int) < (np : Int)) = false := by simp; omega
          have d4 : decide ((60 : Int) < (nr : Int)) = false := by simp; omega
          have HM := Lib.hid (decide_eq_false hm)
          clear hd hpl hpr hql hqr hf h3 h4 hm
          go_enter Try.func6, Try.ntmps6
          go_wp2_with fail
          refine (awake_any (dbox w k a n c)).mono ?_
          rintro e w1 ⟨rfl, hb1⟩
          have W1 := Lib.hid (HBX.out.trans (hb1.mono HBX.out.size))
          have Kd1 : Hid (Blok w1 (w.heap.size) 24 #[.int .i64 k, .slice a n c]) := Lib.hid ((dbox_blok w k a n c).on hb1)
          clear hb1
          have qd0 : (w1).cell? ⟨w.heap.size, 0, none⟩ = some (.int .i64 k) := dk0 Kd1.out
          have qd1 : (w1).cell? ⟨w.heap.size, 1, none⟩ = some (.slice a n c) := dk1 Kd1.out
          go_wp2_with fail
          refine (few_any k a n c xs true _ (HD.out.below W1.out) HF.out).mono ?_
          rintro e w2 ⟨rfl, hb2⟩
          clear qd0 qd1
          have W2 := Lib.hid (W1.out.trans (hb2.mono W1.out.size))
          have Kd2 := Lib.hid (Kd1.out.on hb2)
          clear hb2
          have qd0 : (w2).cell? ⟨w.heap.size, 0, none⟩ = some (.int .i64 k) := dk0 Kd2.out
          have qd1 : (w2).cell? ⟨w.heap.size, 1, none⟩ = some (.slice a n c) := dk1 Kd2.out
          go_wp2_with fail
          refine (may_any k a n c xs false _ (HD.out.below W2.out) HM.out).mono ?_
          rintro e w3 ⟨rfl, hb3⟩
          clear qd0 qd1
          have W3 := Lib.hid (W2.out.trans (hb3.mono W2.out.size))
          have Kd3 := Lib.hid (Kd2.out.on hb3)
          clear hb3
          have qd0 : (w3).cell? ⟨w.heap.size, 0, none⟩ = some (.int .i64 k) := dk0 Kd3.out
          have qd1 : (w3).cell? ⟨w.heap.size, 1, none⟩ = some (.slice a n c) := dk1 Kd3.out
          go_wp2
          go_ret
          exact ⟨rfl, W3.out⟩
  · have HF := Lib.hid (decide_eq_false hf)
    clear hd hpl hpr hql hqr hf
    go_enter Try.func6, Try.ntmps6
    go_wp2_with fail
    refine (awake_any (dbox w k a n c)).mono ?_
    rintro e w1 ⟨rfl, hb1⟩
    have W1 := Lib.hid (HBX.out.trans (hb1.mono HBX.out.size))
    have Kd1 : Hid (Blok w1 (w.heap.size) 24 #[.int .i64 k, .slice a n c]) := Lib.hid ((dbox_blok w k a n c).on hb1)
    clear hb1
    have qd0 : (w1).cell? ⟨w.heap.size, 0, none⟩ = some (.int .i64 k) := dk0 Kd1.out
    have qd1 : (w1).cell? ⟨w.heap.size, 1, none⟩ = some (.slice a n c) := dk1 Kd1.out
    go_wp2_with fail
    refine (few_any k a n c xs false _ (HD.out.below W1.out) HF.out).mono ?_
    rintro e w2 ⟨rfl, hb2⟩
    clear qd0 qd1
    have W2 := Lib.hid (W1.out.trans (hb2.mono W1.out.size))
    have Kd2 := Lib.hid (Kd1.out.on hb2)
    clear hb2
    have qd0 : (w2).cell? ⟨w.heap.size, 0, none⟩ = some (.int .i64 k) := dk0 Kd2.out
    have qd1 : (w2).cell? ⟨w.heap.size, 1, none⟩ = some (.slice a n c) := dk1 Kd2.out
    go_wp2
    go_ret
    exact ⟨rfl, W2.out⟩
end Go.Proofs.Ytcabhibbajkpkaa
