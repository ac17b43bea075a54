/-
  Walk of moorings/mooringslaw06.DiskWrites: for every input it returns true.
-/
import Derived.Test.YtcabhibbajkpkaaDLawBase
import Derived.Test.YtcabhibbajkpkaaDLaws3
import Derived.Laws.Concat
namespace Go.Proofs.Ytcabhibbajkpkaa
open Go.RowKit

set_option maxRecDepth 100000 in
set_option maxHeartbeats 2000000 in
theorem writes_in (k : Int) (a : Option Addr) (n c : Nat) (no : Int) (ab : Option Addr) (mb cb : Nat) (bb : List Int) (ap : Option Addr) (np cp : Nat) (ps : List Int) (N : Int) (xs : List FP) (w : World) (hd : DiskIn w a n c xs) (hbl : bb.length = mb) (hbr : RowIn .u8 w ab cb bb) (hbz : ab = none → mb = 0 ∧ cb = 0) (hpl : ps.length = np) (hpr : RowIn .i64 w ap cp ps) :
    Calls Try.prog 7 #[.agg #[.int .i64 k, .slice a n c], .int .i64 no, .slice ab mb cb, .slice ap np cp, .int .i64 N] w fun e w' => e = .returned (.bool true) ∧ Below w.heap.size w w' := by
  have HBX : Hid (Below w.heap.size w (dbox w k a n c)) := Lib.hid (dbox_below w k a n c)
  have HD := Lib.hid hd
  have HBL := Lib.hid hbl
  have HBR := Lib.hid hbr
  have HBZ := Lib.hid hbz
  have HPL := Lib.hid hpl
  have HPR := Lib.hid hpr
  by_cases hf : D.few (FP.files xs)
  · by_cases h3 : 3000 < mb
    · have HF := Lib.hid (decide_eq_true hf)
      have d3 : decide ((3000 : Int) < (mb : Int)) = true := by simp; omega
      clear hd hbl hbr hbz hpl hpr hf h3
      go_enter Try.func7, Try.ntmps7
      go_wp2_with fail
      refine (awake_any (dbox w k a n c)).mono ?_
      rintro e w1 ⟨rfl, hb1⟩
      have W1 := Lib.hid (HBX.out.trans (hb1.mono HBX.out.size))
      have Kd1 : Hid (Blok w1 (w.heap.size) 24 #[.int .i64 k, .slice a n c]) := Lib.hid ((dbox_blok w k a n c).on hb1)
      clear hb1
      have qd0 : (w1).cell? ⟨w.heap.size, 0, none⟩ = some (.int .i64 k) := dk0 Kd1.out
      have qd1 : (w1).cell? ⟨w.heap.size, 1, none⟩ = some (.slice a n c) := dk1 Kd1.out
      go_wp2_with fail
      refine (few_any k a n c xs true _ (HD.out.below W1.out) HF.out).mono ?_
      rintro e w2 ⟨rfl, hb2⟩
      clear qd0 qd1
      have W2 := Lib.hid (W1.out.trans (hb2.mono W1.out.size))
      have Kd2 := Lib.hid (Kd1.out.on hb2)
      clear hb2
      have qd0 : (w2).cell? ⟨w.heap.size, 0, none⟩ = some (.int .i64 k) := dk0 Kd2.out
      have qd1 : (w2).cell? ⟨w.heap.size, 1, none⟩ = some (.slice a n c) := dk1 Kd2.out
      go_wp2
      go_ret
      exact ⟨rfl, W2.out⟩
    · by_cases h6 : 60 < np
      · have HF := Lib.hid (decide_eq_true hf)
        have d3 : decide ((3000 : Int) < (mb : Int)) = false := by simp; omega
        have d4 : decide ((60 : Int) < (np : Int)) = true := by simp; omega
        clear hd hbl hbr hbz hpl hpr hf h3 h6
        go_enter Try.func7, Try.ntmps7
        go_wp2_with fail
        refine (awake_any (dbox w k a n c)).mono ?_
        rintro e w1 ⟨rfl, hb1⟩
        have W1 := Lib.hid (HBX.out.trans (hb1.mono HBX.out.size))
        have Kd1 : Hid (Blok w1 (w.heap.size) 24 #[.int .i64 k, .slice a n c]) := Lib.hid ((dbox_blok w k a n c).on hb1)
        clear hb1
        have qd0 : (w1).cell? ⟨w.heap.size, 0, none⟩ = some (.int .i64 k) := dk0 Kd1.out
        have qd1 : (w1).cell? ⟨w.heap.size, 1, none⟩ = some (.slice a n c) := dk1 Kd1.out
        go_wp2_with fail
        refine (few_any k a n c xs true _ (HD.out.below W1.out) HF.out).mono ?_
        rintro e w2 ⟨rfl, hb2⟩
        clear qd0 qd1
        have W2 := Lib.hid (W1.out.trans (hb2.mono W1.out.size))
        have Kd2 := Lib.hid (Kd1.out.on hb2)
        clear hb2
        have qd0 : (w2).cell? ⟨w.heap.size, 0, none⟩ = some (.int .i64 k) := dk0 Kd2.out
        have qd1 : (w2).cell? ⟨w.heap.size, 1, none⟩ = some (.slice a n c) := dk1 Kd2.out
        go_wp2
        go_ret
        exact ⟨rfl, W2.out⟩
      · by_cases he : (D.write (k, FP.files xs) no bb).2 = 0
        · have HF := Lib.hid (decide_eq_true hf)
          have d3 : decide ((3000 : Int) < (mb : Int)) = false := by simp; omega
          have d4 : decide ((60 : Int) < (np : Int)) = false := by simp; omega
          have HSM := Lib.hid hf.small
          have HNP : Hid (np ≤ 1000) := Lib.hid (by omega)
          obtain ⟨j, ⟨q, la⟩, ⟨r, lc⟩, hq, hr, hm, hmA, hmC, hfj, hjl, hlA, hlC, hgA, huA, hH, hV⟩ := D.writes_of he
          have hqk : q = k := by have h1 := D.write_cap (k, FP.files xs) no bb; rw [hq] at h1; exact h1
          subst hqk
          have hrk : r = q := by have h1 := D.sync_cap (q, la) no; rw [hr] at h1; exact h1
          subst hrk
          obtain ⟨⟨q, lh⟩, hh⟩ : ∃ x, D.crash (r, lc) ps = x := ⟨_, rfl⟩
          have hqk : q = r := by have h1 := D.crash_cap (r, lc) ps; rw [hh] at h1; exact h1
          subst hqk
          obtain ⟨⟨⟨r, lv⟩, gv⟩, hv⟩ : ∃ x, D.cut (q, lc) no N = x := ⟨_, rfl⟩
          have hrk : r = q := by have h1 := D.cut_cap (q, lc) no N; rw [hv] at h1; exact h1
          subst hrk
          have hH1 := hH ps
          have hV1 := hV N
          rw [hh] at hH1
          rw [hv] at hV1
          simp only at hlA hlC hgA huA hH1 hV1 hjl
          obtain ⟨u, hu⟩ : ∃ u : Nat, D.used (FP.files xs) = u := ⟨_, rfl⟩
          have HUD : Hid ((if D.may (r, FP.files xs) then (D.used (FP.files xs) : Int) else 0) = (u : Int)) := Lib.hid (by rw [if_pos hm, hu])
          have HUA : Hid ((if D.may (r, la) then (D.used la : Int) else 0) = (u : Int) + (mb : Int)) := Lib.hid (by rw [if_pos hmA, huA, hu, ← hbl]; simp)
          have hub : u ≤ 1000000 := by have h1 := D.used_small _ hf.small.2; have h2 := hf.1; omega
          have hmb : mb ≤ 3000 := by omega
          have hwr : IntKind.i64.wrap ((u : Int) + (mb : Int)) = (u : Int) + (mb : Int) := wrap_i64_small (by omega) (by omega)
          have HXN : Hid (xs.length = n) := Lib.hid hd.1
          have hjn : j < n := by rw [FP.files_len, hd.1] at hjl; exact hjl
          have hjn2 : ¬ n ≤ j := by omega
          have HQ := Lib.hid hq
          have HR := Lib.hid hr
          have HHH := Lib.hid hh
          have HV := Lib.hid hv
          have HFN : Hid (D.find (r, FP.files xs) no = (j : Int)) := Lib.hid hfj
          have HSA := Lib.hid (D.small_may hmA)
          have HSC := Lib.hid (D.small_may hmC)
          have HLA : Hid (la.length = n) := Lib.hid (by rw [hlA, FP.files_len, hd.1])
          have HLC : Hid (lc.length = n) := Lib.hid (by rw [hlC, FP.files_len, hd.1])
          have HLH : Hid (lh.length = n) := Lib.hid (by rw [hH1.1, FP.files_len, hd.1])
          have HGA := Lib.hid hgA
          have HGH := Lib.hid hH1.2
          have HGV : Hid (gv = 0 → ∃ m : Nat, N = m ∧ lv.length = n ∧ (lv.getD j D.nof).2.1.length = m ∧ (lv.getD j D.nof).2.2 = (m : Int)) := Lib.hid (fun h => by
            obtain ⟨m, h1, h2, h3, h4⟩ := hV1 h
            exact ⟨m, h1, by rw [h2, FP.files_len, hd.1], h3, h4⟩)
          have hcap := hd.caps
          have hml : maxLen ≤ 9223372036854775807 := by decide
          clear he hq hr hm hmA hmC hfj hjl hlA hlC hgA huA hH hV hh hv hH1 hV1 hu h3 h6
          clear hd hbl hbr hbz hpl hpr hf
          by_cases hg0 : gv = 0
          · go_enter Try.func7, Try.ntmps7
            go_wp2_with fail
            refine (awake_any (dbox w r a n c)).mono ?_
            rintro e w1 ⟨rfl, hb1⟩
            have W1 := Lib.hid (HBX.out.trans (hb1.mono HBX.out.size))
            have Kd1 : Hid (Blok w1 (w.heap.size) 24 #[.int .i64 r, .slice a n c]) := Lib.hid ((dbox_blok w r a n c).on hb1)
            clear hb1
            have qd0 : (w1).cell? ⟨w.heap.size, 0, none⟩ = some (.int .i64 r) := dk0 Kd1.out
            have qd1 : (w1).cell? ⟨w.heap.size, 1, none⟩ = some (.slice a n c) := dk1 Kd1.out
            go_wp2_with fail
            refine (few_any r a n c xs true _ (HD.out.below W1.out) HF.out).mono ?_
            rintro e w2 ⟨rfl, hb2⟩
            clear qd0 qd1
            have W2 := Lib.hid (W1.out.trans (hb2.mono W1.out.size))
            have Kd2 := Lib.hid (Kd1.out.on hb2)
            clear hb2
            have qd0 : (w2).cell? ⟨w.heap.size, 0, none⟩ = some (.int .i64 r) := dk0 Kd2.out
            have qd1 : (w2).cell? ⟨w.heap.size, 1, none⟩ = some (.slice a n c) := dk1 Kd2.out
            go_wp2_with fail
            refine (find_any r a n c no xs (j : Int) _ (HD.out.below W2.out) HFN.out).mono ?_
            rintro e w3 ⟨rfl, hb3⟩
            clear qd0 qd1
            have W3 := Lib.hid (W2.out.trans (hb3.mono W2.out.size))
            have Kd3 := Lib.hid (Kd2.out.on hb3)
            clear hb3
            have qd0 : (w3).cell? ⟨w.heap.size, 0, none⟩ = some (.int .i64 r) := dk0 Kd3.out
            have qd1 : (w3).cell? ⟨w.heap.size, 1, none⟩ = some (.slice a n c) := dk1 Kd3.out
            go_wp2_with fail
            refine (write_any r a n c no ab mb cb bb xs _ (HD.out.below W3.out) HSM.out HBL.out (HBR.out.below W3.out) HBZ.out).mono ?_
            rw [HQ.out]
            rintro e w4 ⟨a4, n4, c4, ya, rfl, HE4, HYA, _, hb4⟩
            clear qd0 qd1
            have hx4 := dbox_below w4 r a4 n4 c4
            have W4 := Lib.hid ((W3.out.trans (hb4.mono W3.out.size)).trans (hx4.mono (W3.out.trans (hb4.mono W3.out.size)).size))
            have Pd4 := Kd3.out.on hb4
            have Kd4 := Lib.hid (Pd4.on hx4)
            have HDx4 := Lib.hid (HE4.out.below hx4)
            have Kx4 := Lib.hid (dbox_blok w4 r a4 n4 c4)
            have qd0 : ∀ o, (w4.alloc o).cell? ⟨w.heap.size, 0, none⟩ = some (.int .i64 r) := fun o => dk0 (Pd4.alloc o)
            have qd1 : ∀ o, (w4.alloc o).cell? ⟨w.heap.size, 1, none⟩ = some (.slice a n c) := fun o => dk1 (Pd4.alloc o)
            clear hb4 hx4 Pd4
            go_wp2_with fail
            refine (sync_any r a4 n4 c4 no ya _ HDx4.out (by rw [HYA.out]; exact HSA.out)).mono ?_
            rw [HYA.out, HR.out]
            rintro e w5 ⟨a5, n5, c5, yb, rfl, HE5, HYB, _, hb5⟩
            clear qd0 qd1
            have hx5 := dbox_below w5 r a5 n5 c5
            have W5 := Lib.hid ((W4.out.trans (hb5.mono W4.out.size)).trans (hx5.mono (W4.out.trans (hb5.mono W4.out.size)).size))
            have Pd5 := Kd4.out.on hb5
            have Px5 := Kx4.out.on hb5
            have Kd5 := Lib.hid (Pd5.on hx5)
            have Kx5 := Lib.hid (Px5.on hx5)
            have HDx5 := Lib.hid ((HDx4.out.below hb5).below hx5)
            have HDy5 := Lib.hid (HE5.out.below hx5)
            have Ky5 := Lib.hid (dbox_blok w5 r a5 n5 c5)
            have qd0 : ∀ o, (w5.alloc o).cell? ⟨w.heap.size, 0, none⟩ = some (.int .i64 r) := fun o => dk0 (Pd5.alloc o)
            have qd1 : ∀ o, (w5.alloc o).cell? ⟨w.heap.size, 1, none⟩ = some (.slice a n c) := fun o => dk1 (Pd5.alloc o)
            have qx0 : ∀ o, (w5.alloc o).cell? ⟨w4.heap.size, 0, none⟩ = some (.int .i64 r) := fun o => dk0 (Px5.alloc o)
            have qx1 : ∀ o, (w5.alloc o).cell? ⟨w4.heap.size, 1, none⟩ = some (.slice a4 n4 c4) := fun o => dk1 (Px5.alloc o)
            clear hb5 hx5 Pd5 Px5
            go_wp2_with fail
            refine (crash_any r a5 n5 c5 ap np cp yb ps _ HDy5.out (by rw [HYB.out]; exact HSC.out) HPL.out (HPR.out.below W5.out) HNP.out).mono ?_
            rw [HYB.out, HHH.out]
            rintro e w6 ⟨a6, n6, c6, yh, rfl, HE6, HYH, _, hb6⟩
            clear qd0 qd1 qx0 qx1
            have hx6 := dbox_below w6 r a6 n6 c6
            have W6 := Lib.hid ((W5.out.trans (hb6.mono W5.out.size)).trans (hx6.mono (W5.out.trans (hb6.mono W5.out.size)).size))
            have Pd6 := Kd5.out.on hb6
            have Px6 := Kx5.out.on hb6
            have Py6 := Ky5.out.on hb6
            have Kd6 := Lib.hid (Pd6.on hx6)
            have Kx6 := Lib.hid (Px6.on hx6)
            have Ky6 := Lib.hid (Py6.on hx6)
            have HDx6 := Lib.hid ((HDx5.out.below hb6).below hx6)
            have HDy6 := Lib.hid ((HDy5.out.below hb6).below hx6)
            have HDz6 := Lib.hid (HE6.out.below hx6)
            have Kz6 := Lib.hid (dbox_blok w6 r a6 n6 c6)
            have al : ∀ o, Below w6.heap.size w6 (w6.alloc o) := fun o => (Below.refl _ _).alloc (Nat.le_refl _) o
            have Wp := W5.out.trans (hb6.mono W5.out.size)
            have dxp := HDx5.out.below hb6
            have hnx : n = n4 := by have h1 := dxp.1; have h2 := congrArg List.length HYA.out; rw [FP.files_len, HLA.out] at h2; omega
            have hnz : n = n6 := by have h1 := HE6.out.1; have h2 := congrArg List.length HYH.out; rw [FP.files_len, HLH.out] at h2; omega
            obtain ⟨b1, o1, no1, a1, n1, c1, B1, s1, he1, hb1, hx1, p10, p11, p12, hok1⟩ := ((HD.out.below Wp).2.1).at (i := j) (by rw [HXN.out]; exact hjn)
            obtain ⟨b2, o2, no2, a2, n2, c2, B2, s2, he2, hb2, hx2, p20, p21, p22, hok2⟩ := (dxp.2.1).at (i := j) (by rw [dxp.1]; omega)
            obtain ⟨b3, o3, no3, a3, n3, c3, B3, s3, he3, hb3, hx3, p30, p31, p32, hok3⟩ := (HE6.out.2.1).at (i := j) (by rw [HE6.out.1]; omega)
            have hB2 : B2 = B1 ++ bb := by
              have h1 := HGA.out
              rw [show la = FP.files ya from HYA.out.symm, FP.files_at hx2, FP.files_at hx1] at h1
              exact h1
            have hB3 : B3 = B2 := by
              have h1 := HGH.out
              rw [show lh = FP.files yh from HYH.out.symm, show la = FP.files ya from HYA.out.symm, FP.files_at hx3, FP.files_at hx2] at h1
              exact h1
            have hl1 : B1.length = n1 := hok1.1
            have hl2 : B2.length = n2 := hok2.1
            have hl3 : B3.length = n3 := hok3.1
            obtain ⟨sd, hsd⟩ : ∃ s, strOf B1 = s := ⟨_, rfl⟩
            obtain ⟨sb, hsb⟩ : ∃ s, strOf bb = s := ⟨_, rfl⟩
            obtain ⟨sa, hsa⟩ : ∃ s, strOf B2 = s := ⟨_, rfl⟩
            have hss : sd ++ sb = sa := by rw [← hsd, ← hsb, ← hsa, hB2, strOf_append]
            have hfew := (of_decide_eq_true HF.out).2 _ (List.mem_map.2 ⟨_, List.mem_of_getElem? hx1, rfl⟩)
            have hz1 : sd.size ≤ 3000 := by rw [← hsd, strOf_size]; exact hfew
            have hz2 : sb.size ≤ 3000 := by rw [← hsb, strOf_size, HBL.out]; exact hmb
            have hadd : ∀ w, (Op.stringOp .add sd sb).run Try.prog w = .ok (.string sa) w := fun w => by rw [← hss]; exact run_string_add w sd sb (by omega) (by omega)
            have cv1 : ∀ o m, (convert 25 9 (.slice a1 n1 c1)).run Try.prog (World.drewN (w6.alloc o) m) = .ok (.string sd) (World.drewN (w6.alloc o) m) := fun o m => by rw [← hsd]; exact conv_row (hok1.2.1.below ((al o).trans ((below_drewN _ _ m).mono (al o).size))) hl1
            have cv2 : ∀ o m, (convert 25 9 (.slice a2 n2 c2)).run Try.prog (World.drewN (w6.alloc o) m) = .ok (.string sa) (World.drewN (w6.alloc o) m) := fun o m => by rw [← hsa]; exact conv_row (hok2.2.1.below ((al o).trans ((below_drewN _ _ m).mono (al o).size))) hl2
            have cv3 : ∀ o m, (convert 25 9 (.slice a3 n3 c3)).run Try.prog (World.drewN (w6.alloc o) m) = .ok (.string sa) (World.drewN (w6.alloc o) m) := fun o m => by rw [← hsa, ← hB3]; exact conv_row (hok3.2.1.below ((al o).trans ((below_drewN _ _ m).mono (al o).size))) hl3
            have cvb : ∀ o m, (convert 25 9 (.slice ab mb cb)).run Try.prog (World.drewN (w6.alloc o) m) = .ok (.string sb) (World.drewN (w6.alloc o) m) := fun o m => by rw [← hsb]; exact conv_row ((HBR.out.below Wp).below ((al o).trans ((below_drewN _ _ m).mono (al o).size))) HBL.out
            have t1 : ∀ o, (w6.alloc o).cell? ⟨b1, o1 + j * 3 + 1, none⟩ = some (.slice a1 n1 c1) := fun o => ((al o).cell (p := ⟨b1, o1 + j * 3 + 1, none⟩) hb1).trans p11
            have t2 : ∀ o, (w6.alloc o).cell? ⟨b2, o2 + j * 3 + 1, none⟩ = some (.slice a2 n2 c2) := fun o => ((al o).cell (p := ⟨b2, o2 + j * 3 + 1, none⟩) hb2).trans p21
            have t3 : ∀ o, (w6.alloc o).cell? ⟨b3, o3 + j * 3 + 1, none⟩ = some (.slice a3 n3 c3) := fun o => ((al o).cell (p := ⟨b3, o3 + j * 3 + 1, none⟩) hb3).trans p31
            subst hnx
            subst hnz
            subst he1
            subst he2
            subst he3
            have hcx := dxp.caps
            have hcz := HE6.out.caps
            clear hx1 hx2 hx3 hok1 hok2 hok3 hB2 hB3 hl1 hl2 hl3 hsd hsb hsa hfew p10 p11 p12 p20 p21 p22 p30 p31 p32 dxp Wp al
            have qd0 : ∀ o, (w6.alloc o).cell? ⟨w.heap.size, 0, none⟩ = some (.int .i64 r) := fun o => dk0 (Pd6.alloc o)
            have qd1 : ∀ o, (w6.alloc o).cell? ⟨w.heap.size, 1, none⟩ = some (.slice (some ⟨b1, o1, none⟩) n c) := fun o => dk1 (Pd6.alloc o)
            have qx0 : ∀ o, (w6.alloc o).cell? ⟨w4.heap.size, 0, none⟩ = some (.int .i64 r) := fun o => dk0 (Px6.alloc o)
            have qx1 : ∀ o, (w6.alloc o).cell? ⟨w4.heap.size, 1, none⟩ = some (.slice (some ⟨b2, o2, none⟩) n c4) := fun o => dk1 (Px6.alloc o)
            have qy0 : ∀ o, (w6.alloc o).cell? ⟨w5.heap.size, 0, none⟩ = some (.int .i64 r) := fun o => dk0 (Py6.alloc o)
            have qy1 : ∀ o, (w6.alloc o).cell? ⟨w5.heap.size, 1, none⟩ = some (.slice a5 n5 c5) := fun o => dk1 (Py6.alloc o)
            clear hb6 hx6 Pd6 Px6 Py6
            go_wp2_with fail
            simp only [List.append]
            go_quiet (fail)
            obtain ⟨w7, hw7⟩ : ∃ wq, wq = World.drewN (w6.alloc (.cells #[.int .i64 r, .slice (some ⟨b3, o3, none⟩) n c6] 24)) nq := ⟨_, rfl⟩
            have hb7 : Below ((dbox w6 r (some ⟨b3, o3, none⟩) n c6)).heap.size ((dbox w6 r (some ⟨b3, o3, none⟩) n c6)) w7 := by rw [hw7]; exact below_drewN _ _ _
            rw [← hw7]
            clear qd0 qd1 qx0 qx1 qy0 qy1
            have W7 := Lib.hid (W6.out.trans (hb7.mono W6.out.size))
            have Kd7 := Lib.hid (Kd6.out.on hb7)
            have Kx7 := Lib.hid (Kx6.out.on hb7)
            have Ky7 := Lib.hid (Ky6.out.on hb7)
            have Kz7 := Lib.hid (Kz6.out.on hb7)
            have HDx7 := Lib.hid (HDx6.out.below hb7)
            have HDy7 := Lib.hid (HDy6.out.below hb7)
            have HDz7 := Lib.hid (HDz6.out.below hb7)
            clear hb7 hw7
            have qd0 : (w7).cell? ⟨w.heap.size, 0, none⟩ = some (.int .i64 r) := dk0 Kd7.out
            have qd1 : (w7).cell? ⟨w.heap.size, 1, none⟩ = some (.slice (some ⟨b1, o1, none⟩) n c) := dk1 Kd7.out
            have qx0 : (w7).cell? ⟨w4.heap.size, 0, none⟩ = some (.int .i64 r) := dk0 Kx7.out
            have qx1 : (w7).cell? ⟨w4.heap.size, 1, none⟩ = some (.slice (some ⟨b2, o2, none⟩) n c4) := dk1 Kx7.out
            have qy0 : (w7).cell? ⟨w5.heap.size, 0, none⟩ = some (.int .i64 r) := dk0 Ky7.out
            have qy1 : (w7).cell? ⟨w5.heap.size, 1, none⟩ = some (.slice a5 n5 c5) := dk1 Ky7.out
            have qz0 : (w7).cell? ⟨w6.heap.size, 0, none⟩ = some (.int .i64 r) := dk0 Kz7.out
            have qz1 : (w7).cell? ⟨w6.heap.size, 1, none⟩ = some (.slice (some ⟨b3, o3, none⟩) n c6) := dk1 Kz7.out
            clear t1 t2 t3 cv1 cv2 cv3 cvb hss hz1 hz2 hadd
            go_wp2_with fail
            refine (cut_any r a5 n5 c5 no N yb _ HDy7.out (by rw [HYB.out]; exact HSC.out)).mono ?_
            rw [HYB.out, HV.out]
            rintro e w8 ⟨a8, n8, c8, yv, rfl, HE8, HYV, _, hb8⟩
            clear qd0 qd1 qx0 qx1 qy0 qy1 qz0 qz1
            have hx8 := dbox_below w8 r a8 n8 c8
            have W8 := Lib.hid ((W7.out.trans (hb8.mono W7.out.size)).trans (hx8.mono (W7.out.trans (hb8.mono W7.out.size)).size))
            have Pd8 := Kd7.out.on hb8
            have Px8 := Kx7.out.on hb8
            have Py8 := Ky7.out.on hb8
            have Pz8 := Kz7.out.on hb8
            have Kd8 := Lib.hid (Pd8.on hx8)
            have Kx8 := Lib.hid (Px8.on hx8)
            have Ky8 := Lib.hid (Py8.on hx8)
            have Kz8 := Lib.hid (Pz8.on hx8)
            have HDx8 := Lib.hid ((HDx7.out.below hb8).below hx8)
            have HDy8 := Lib.hid ((HDy7.out.below hb8).below hx8)
            have HDz8 := Lib.hid ((HDz7.out.below hb8).below hx8)
            have HDv8 := Lib.hid (HE8.out.below hx8)
            have Kv8 := Lib.hid (dbox_blok w8 r a8 n8 c8)
            have qd0 : ∀ o, (w8.alloc o).cell? ⟨w.heap.size, 0, none⟩ = some (.int .i64 r) := fun o => dk0 (Pd8.alloc o)
            have qd1 : ∀ o, (w8.alloc o).cell? ⟨w.heap.size, 1, none⟩ = some (.slice (some ⟨b1, o1, none⟩) n c) := fun o => dk1 (Pd8.alloc o)
            have qx0 : ∀ o, (w8.alloc o).cell? ⟨w4.heap.size, 0, none⟩ = some (.int .i64 r) := fun o => dk0 (Px8.alloc o)
            have qx1 : ∀ o, (w8.alloc o).cell? ⟨w4.heap.size, 1, none⟩ = some (.slice (some ⟨b2, o2, none⟩) n c4) := fun o => dk1 (Px8.alloc o)
            have qy0 : ∀ o, (w8.alloc o).cell? ⟨w5.heap.size, 0, none⟩ = some (.int .i64 r) := fun o => dk0 (Py8.alloc o)
            have qy1 : ∀ o, (w8.alloc o).cell? ⟨w5.heap.size, 1, none⟩ = some (.slice a5 n5 c5) := fun o => dk1 (Py8.alloc o)
            have qz0 : ∀ o, (w8.alloc o).cell? ⟨w6.heap.size, 0, none⟩ = some (.int .i64 r) := fun o => dk0 (Pz8.alloc o)
            have qz1 : ∀ o, (w8.alloc o).cell? ⟨w6.heap.size, 1, none⟩ = some (.slice (some ⟨b3, o3, none⟩) n c6) := fun o => dk1 (Pz8.alloc o)
            clear hb8 hx8 Pd8 Px8 Py8 Pz8
            clear qd0 qd1 qx0 qx1 qy0 qy1 qz0 qz1
            obtain ⟨m, hNm, hvl, hvd, hvs⟩ := HGV.out hg0
            have hnv : n = n8 := by have h1 := HDv8.out.1; have h2 := congrArg List.length HYV.out; rw [FP.files_len, hvl] at h2; omega
            subst hnv
            obtain ⟨b4, o4, no4, a4, n4, q4, B4, s4, he4, hb4, hx4, p40, p41, p42, hok4⟩ := (HDv8.out.2.1).at (i := j) (by rw [HDv8.out.1]; exact hjn)
            rw [show lv = FP.files yv from HYV.out.symm, FP.files_at hx4] at hvd hvs
            have hn4 : m = n4 := by have h1 : B4.length = n4 := hok4.1; have h2 : B4.length = m := hvd; omega
            have hs4 : (m : Int) = s4 := hvs.symm
            subst hn4
            subst hs4
            subst he4
            have hNm' : (m : Int) = N := hNm.symm
            subst hNm'
            subst hg0
            have dm : decide ((0 : Int) ≤ (m : Int)) = true := by simp
            have hcv := HDv8.out.caps
            clear hNm hvl hvd hvs hok4 hx4
            go_wp2_with fail
            refine wp_region_held (S := fun w' => Below ((dbox w8 r (some ⟨b4, o4, none⟩) n c8)).heap.size ((dbox w8 r (some ⟨b4, o4, none⟩) n c8)) w') (by kernel_rfl) ?_
            change wpAnyH _ _ _ _ _ _ _ _ (World.drew ((dbox w8 r (some ⟨b4, o4, none⟩) n c8)))
            have HS0 : (fun w' => Below ((dbox w8 r (some ⟨b4, o4, none⟩) n c8)).heap.size ((dbox w8 r (some ⟨b4, o4, none⟩) n c8)) w') (World.drew ((dbox w8 r (some ⟨b4, o4, none⟩) n c8))) := below_drew _
            refine wpAnyH_take (i := 0) (v := (.agg #[.int .i64 r, .slice (some ⟨b2, o2, none⟩) n c4])) rfl (by kernel_rfl) (by kernel_rfl) (by kernel_rfl) (fun _ _ _ h => h) (.inl ⟨by kernel_rfl, fun w9 hS => by have c0 := dk0 (Kx8.out.on hS); have c1 := dk1 (Kx8.out.on hS); go_simp⟩) HS0 ?_
            refine wpAnyH_take (i := 2) (v := (.agg #[.int .i64 r, .slice (some ⟨b1, o1, none⟩) n c])) rfl (by kernel_rfl) (by kernel_rfl) (by kernel_rfl) (fun _ _ _ h => h) (.inl ⟨by kernel_rfl, fun w9 hS => by have c0 := dk0 (Kd8.out.on hS); have c1 := dk1 (Kd8.out.on hS); go_simp⟩) HS0 ?_
            refine wpAnyH_take (i := 4) (v := (.slice ab mb cb)) rfl (by kernel_rfl) (by kernel_rfl) (by kernel_rfl) (fun _ _ _ h => h) (.inl ⟨by kernel_rfl, fun w9 hS => by kernel_rfl⟩) HS0 ?_
            refine wpAnyH_take (i := 5) (v := (.int .i64 (mb : Int))) rfl (by kernel_rfl) (by kernel_rfl) (by kernel_rfl) (fun _ _ _ h => h) (.inl ⟨by kernel_rfl, fun w9 hS => by kernel_rfl⟩) HS0 ?_
            refine wpAnyH_call (i := 1) (f := 23) (args := #[.agg #[.int .i64 r, .slice (some ⟨b2, o2, none⟩) n c4]]) (by kernel_rfl) rfl (by kernel_rfl) (by kernel_rfl) (used_any r (some ⟨b2, o2, none⟩) n c4 ya ((u : Int) + (mb : Int)) _ (HDx8.out.below HS0) (by rw [HYA.out]; exact HUA.out)) ?_
            rintro e wz1 ⟨rfl, hbwz1⟩
            have HS1 : (fun w' => Below ((dbox w8 r (some ⟨b4, o4, none⟩) n c8)).heap.size ((dbox w8 r (some ⟨b4, o4, none⟩) n c8)) w') wz1 := Below.trans HS0 (hbwz1.mono (Below.size HS0))
            refine ⟨_, rfl, HS1, ?_⟩
            refine wpAnyH_call (i := 3) (f := 23) (args := #[.agg #[.int .i64 r, .slice (some ⟨b1, o1, none⟩) n c]]) (by kernel_rfl) rfl (by kernel_rfl) (by kernel_rfl) (used_any r (some ⟨b1, o1, none⟩) n c xs (u : Int) _ (HD.out.below (Below.trans W8.out (Below.mono HS1 W8.out.size))) HUD.out) ?_
            rintro e wz2 ⟨rfl, hbwz2⟩
            have HS2 : (fun w' => Below ((dbox w8 r (some ⟨b4, o4, none⟩) n c8)).heap.size ((dbox w8 r (some ⟨b4, o4, none⟩) n c8)) w') wz2 := Below.trans HS1 (hbwz2.mono (Below.size HS1))
            refine ⟨_, rfl, HS2, ?_⟩
            refine wpAnyH_take (i := 6) (v := (.int .i64 ((u : Int) + (mb : Int)))) rfl (by kernel_rfl) (by kernel_rfl) (by kernel_rfl) (fun _ _ _ h => h) (.inl ⟨by kernel_rfl, fun w9 hS => (show _ = Result.ok (.value (.int .i64 (IntKind.i64.wrap ((u : Int) + (mb : Int))))) w9 by kernel_rfl).trans (by rw [hwr])⟩) HS2 ?_
            refine wpAnyH_take (i := 7) (v := (.bool true)) rfl (by kernel_rfl) (by kernel_rfl) (by kernel_rfl) (fun _ _ _ h => h) (.inl ⟨by kernel_rfl, fun w9 hS => (show _ = Result.ok (.value (.bool (((u : Int) + (mb : Int)) == ((u : Int) + (mb : Int))))) w9 by kernel_rfl).trans (by rw [beq_self_eq_true])⟩) HS2 ?_
            refine wpAnyH_take (i := 8) (v := (.bool true)) rfl (by kernel_rfl) (by kernel_rfl) (by kernel_rfl) (fun _ _ _ h => h) (.inl ⟨by kernel_rfl, fun w9 hS => by kernel_rfl⟩) HS2 ?_
            refine wpAnyH_take (i := 9) (v := (.int .i64 0)) rfl (by kernel_rfl) (by kernel_rfl) (by kernel_rfl) (fun _ _ _ h => h) (.inl ⟨by kernel_rfl, fun w9 hS => by kernel_rfl⟩) HS2 ?_
            refine wpAnyH_take (i := 10) (v := (.bool false)) rfl (by kernel_rfl) (by kernel_rfl) (by kernel_rfl) (fun _ _ _ h => h) (.inl ⟨by kernel_rfl, fun w9 hS => by kernel_rfl⟩) HS2 ?_
            refine wpAnyH_take (i := 11) (v := (.bool false)) rfl (by kernel_rfl) (by kernel_rfl) (by kernel_rfl) (fun _ _ _ h => h) (.inl ⟨by kernel_rfl, fun w9 hS => by kernel_rfl⟩) HS2 ?_
            refine wpAnyH_take (i := 12) (v := (.pointer (some ⟨w8.heap.size, 1, none⟩))) rfl (by kernel_rfl) (by kernel_rfl) (by kernel_rfl) (fun _ _ _ h => h) (.inl ⟨by kernel_rfl, fun w9 hS => by kernel_rfl⟩) HS2 ?_
            refine wpAnyH_take (i := 13) (v := (.slice (some ⟨b4, o4, none⟩) n c8)) rfl (by kernel_rfl) (by kernel_rfl) (by kernel_rfl) (fun _ _ _ h => h) (.inl ⟨by kernel_rfl, fun w9 hS => by have c := dk1 (Kv8.out.on hS); go_simp⟩) HS2 ?_
            refine wpAnyH_take (i := 14) (v := (.int .i64 (n : Int))) rfl (by kernel_rfl) (by kernel_rfl) (by kernel_rfl) (fun _ _ _ h => h) (.inl ⟨by kernel_rfl, fun w9 hS => by kernel_rfl⟩) HS2 ?_
            refine wpAnyH_take (i := 15) (v := (.pointer (some ⟨w.heap.size, 1, none⟩))) rfl (by kernel_rfl) (by kernel_rfl) (by kernel_rfl) (fun _ _ _ h => h) (.inl ⟨by kernel_rfl, fun w9 hS => by kernel_rfl⟩) HS2 ?_
            refine wpAnyH_take (i := 16) (v := (.slice (some ⟨b1, o1, none⟩) n c)) rfl (by kernel_rfl) (by kernel_rfl) (by kernel_rfl) (fun _ _ _ h => h) (.inl ⟨by kernel_rfl, fun w9 hS => by have c := dk1 (Kd8.out.on hS); go_simp⟩) HS2 ?_
            refine wpAnyH_take (i := 17) (v := (.int .i64 (n : Int))) rfl (by kernel_rfl) (by kernel_rfl) (by kernel_rfl) (fun _ _ _ h => h) (.inl ⟨by kernel_rfl, fun w9 hS => by kernel_rfl⟩) HS2 ?_
            refine wpAnyH_take (i := 18) (v := (.bool true)) rfl (by kernel_rfl) (by kernel_rfl) (by kernel_rfl) (fun _ _ _ h => h) (.inl ⟨by kernel_rfl, fun w9 hS => (show _ = Result.ok (.value (.bool ((n : Int) == (n : Int)))) w9 by kernel_rfl).trans (by rw [beq_self_eq_true])⟩) HS2 ?_
            refine wpAnyH_take (i := 19) (v := (.bool true)) rfl (by kernel_rfl) (by kernel_rfl) (by kernel_rfl) (fun _ _ _ h => h) (.inl ⟨by kernel_rfl, fun w9 hS => by kernel_rfl⟩) HS2 ?_
            refine wpAnyH_take (i := 20) (v := (.int .i64 (m : Int))) rfl (by kernel_rfl) (by kernel_rfl) (by kernel_rfl) (fun _ _ _ h => h) (.inl ⟨by kernel_rfl, fun w9 hS => by kernel_rfl⟩) HS2 ?_
            refine wpAnyH_take (i := 21) (v := (.bool true)) rfl (by kernel_rfl) (by kernel_rfl) (by kernel_rfl) (fun _ _ _ h => h) (.inl ⟨by kernel_rfl, fun w9 hS => (show _ = Result.ok (.value (.bool (decide ((0 : Int) ≤ (m : Int))))) w9 by kernel_rfl).trans (by rw [dm])⟩) HS2 ?_
            refine wpAnyH_take (i := 22) (v := (.bool true)) rfl (by kernel_rfl) (by kernel_rfl) (by kernel_rfl) (fun _ _ _ h => h) (.inl ⟨by kernel_rfl, fun w9 hS => by kernel_rfl⟩) HS2 ?_
            refine wpAnyH_take (i := 23) (v := (.bool true)) rfl (by kernel_rfl) (by kernel_rfl) (by kernel_rfl) (fun _ _ _ h => h) (.inl ⟨by kernel_rfl, fun w9 hS => by kernel_rfl⟩) HS2 ?_
            refine wpAnyH_take (i := 24) (v := (.pointer (some ⟨w8.heap.size, 1, none⟩))) rfl (by kernel_rfl) (by kernel_rfl) (by kernel_rfl) (fun _ _ _ h => h) (.inl ⟨by kernel_rfl, fun w9 hS => by kernel_rfl⟩) HS2 ?_
            refine wpAnyH_take (i := 25) (v := (.slice (some ⟨b4, o4, none⟩) n c8)) rfl (by kernel_rfl) (by kernel_rfl) (by kernel_rfl) (fun _ _ _ h => h) (.inl ⟨by kernel_rfl, fun w9 hS => by have c := dk1 (Kv8.out.on hS); go_simp⟩) HS2 ?_
            refine wpAnyH_take (i := 26) (v := (.int .i64 (j : Int))) rfl (by kernel_rfl) (by kernel_rfl) (by kernel_rfl) (fun _ _ _ h => h) (.inl ⟨by kernel_rfl, fun w9 hS => by kernel_rfl⟩) HS2 ?_
            refine wpAnyH_take (i := 27) (v := (.pointer (some ⟨b4, o4 + j * 3, none⟩))) rfl (by kernel_rfl) (by kernel_rfl) (by kernel_rfl) (fun _ _ _ h => h) (.inl ⟨by kernel_rfl, fun w9 hS => by go_simp⟩) HS2 ?_
            refine wpAnyH_take (i := 28) (v := (.pointer (some ⟨b4, o4 + j * 3 + 1, none⟩))) rfl (by kernel_rfl) (by kernel_rfl) (by kernel_rfl) (fun _ _ _ h => h) (.inl ⟨by kernel_rfl, fun w9 hS => by kernel_rfl⟩) HS2 ?_
            refine wpAnyH_take (i := 29) (v := (.slice a4 m q4)) rfl (by kernel_rfl) (by kernel_rfl) (by kernel_rfl) (fun _ _ _ h => h) (.inl ⟨by kernel_rfl, fun w9 hS => by have c := (hS.cell (p := ⟨b4, o4 + j * 3 + 1, none⟩) hb4).trans p41; go_simp⟩) HS2 ?_
            refine wpAnyH_take (i := 30) (v := (.int .i64 (m : Int))) rfl (by kernel_rfl) (by kernel_rfl) (by kernel_rfl) (fun _ _ _ h => h) (.inl ⟨by kernel_rfl, fun w9 hS => by kernel_rfl⟩) HS2 ?_
            refine wpAnyH_take (i := 31) (v := (.int .i64 (m : Int))) rfl (by kernel_rfl) (by kernel_rfl) (by kernel_rfl) (fun _ _ _ h => h) (.inl ⟨by kernel_rfl, fun w9 hS => by kernel_rfl⟩) HS2 ?_
            refine wpAnyH_take (i := 32) (v := (.bool true)) rfl (by kernel_rfl) (by kernel_rfl) (by kernel_rfl) (fun _ _ _ h => h) (.inl ⟨by kernel_rfl, fun w9 hS => (show _ = Result.ok (.value (.bool ((m : Int) == (m : Int)))) w9 by kernel_rfl).trans (by rw [beq_self_eq_true])⟩) HS2 ?_
            refine wpAnyH_take (i := 33) (v := (.bool true)) rfl (by kernel_rfl) (by kernel_rfl) (by kernel_rfl) (fun _ _ _ h => h) (.inl ⟨by kernel_rfl, fun w9 hS => by kernel_rfl⟩) HS2 ?_
            refine wpAnyH_take (i := 34) (v := (.bool true)) rfl (by kernel_rfl) (by kernel_rfl) (by kernel_rfl) (fun _ _ _ h => h) (.inl ⟨by kernel_rfl, fun w9 hS => by kernel_rfl⟩) HS2 ?_
            refine wpAnyH_take (i := 35) (v := (.pointer (some ⟨w8.heap.size, 1, none⟩))) rfl (by kernel_rfl) (by kernel_rfl) (by kernel_rfl) (fun _ _ _ h => h) (.inl ⟨by kernel_rfl, fun w9 hS => by kernel_rfl⟩) HS2 ?_
            refine wpAnyH_take (i := 36) (v := (.slice (some ⟨b4, o4, none⟩) n c8)) rfl (by kernel_rfl) (by kernel_rfl) (by kernel_rfl) (fun _ _ _ h => h) (.inl ⟨by kernel_rfl, fun w9 hS => by have c := dk1 (Kv8.out.on hS); go_simp⟩) HS2 ?_
            refine wpAnyH_take (i := 37) (v := (.int .i64 (j : Int))) rfl (by kernel_rfl) (by kernel_rfl) (by kernel_rfl) (fun _ _ _ h => h) (.inl ⟨by kernel_rfl, fun w9 hS => by kernel_rfl⟩) HS2 ?_
            refine wpAnyH_take (i := 38) (v := (.pointer (some ⟨b4, o4 + j * 3, none⟩))) rfl (by kernel_rfl) (by kernel_rfl) (by kernel_rfl) (fun _ _ _ h => h) (.inl ⟨by kernel_rfl, fun w9 hS => by go_simp⟩) HS2 ?_
            refine wpAnyH_take (i := 39) (v := (.pointer (some ⟨b4, o4 + j * 3 + 2, none⟩))) rfl (by kernel_rfl) (by kernel_rfl) (by kernel_rfl) (fun _ _ _ h => h) (.inl ⟨by kernel_rfl, fun w9 hS => by kernel_rfl⟩) HS2 ?_
            refine wpAnyH_take (i := 40) (v := (.int .i64 (m : Int))) rfl (by kernel_rfl) (by kernel_rfl) (by kernel_rfl) (fun _ _ _ h => h) (.inl ⟨by kernel_rfl, fun w9 hS => by have c := (hS.cell (p := ⟨b4, o4 + j * 3 + 2, none⟩) hb4).trans p42; go_simp⟩) HS2 ?_
            refine wpAnyH_take (i := 41) (v := (.int .i64 (m : Int))) rfl (by kernel_rfl) (by kernel_rfl) (by kernel_rfl) (fun _ _ _ h => h) (.inl ⟨by kernel_rfl, fun w9 hS => by kernel_rfl⟩) HS2 ?_
            refine wpAnyH_take (i := 42) (v := (.bool true)) rfl (by kernel_rfl) (by kernel_rfl) (by kernel_rfl) (fun _ _ _ h => h) (.inl ⟨by kernel_rfl, fun w9 hS => (show _ = Result.ok (.value (.bool ((m : Int) == (m : Int)))) w9 by kernel_rfl).trans (by rw [beq_self_eq_true])⟩) HS2 ?_
            refine wpAnyH_take (i := 43) (v := (.bool true)) rfl (by kernel_rfl) (by kernel_rfl) (by kernel_rfl) (fun _ _ _ h => h) (.inl ⟨by kernel_rfl, fun w9 hS => by kernel_rfl⟩) HS2 ?_
            refine wpAnyH_take (i := 44) (v := (.bool true)) rfl (by kernel_rfl) (by kernel_rfl) (by kernel_rfl) (fun _ _ _ h => h) (.inl ⟨by kernel_rfl, fun w9 hS => by kernel_rfl⟩) HS2 ?_
            refine wpAnyH_take (i := 45) (v := (.bool true)) rfl (by kernel_rfl) (by kernel_rfl) (by kernel_rfl) (fun _ _ _ h => h) (.inl ⟨by kernel_rfl, fun w9 hS => by kernel_rfl⟩) HS2 ?_
            refine wpAnyH_take (i := 46) (v := (.bool true)) rfl (by kernel_rfl) (by kernel_rfl) (by kernel_rfl) (fun _ _ _ h => h) (.inl ⟨by kernel_rfl, fun w9 hS => by kernel_rfl⟩) HS2 ?_
            refine wpAnyH_done (by kernel_rfl) ?_ _
            simp only [List.getElem_toArray, List.getElem_cons_succ, List.getElem_cons_zero, put_some, List.setIfInBounds_toArray, List.set_cons_succ, List.set_cons_zero]
            have W9 := Lib.hid (W8.out.trans (Below.mono HS2 W8.out.size))
            have Kd9 := Lib.hid (Kd8.out.on HS2)
            have Kx9 := Lib.hid (Kx8.out.on HS2)
            have Ky9 := Lib.hid (Ky8.out.on HS2)
            have Kz9 := Lib.hid (Kz8.out.on HS2)
            have Kv9 := Lib.hid (Kv8.out.on HS2)
            have HDx9 := Lib.hid (HDx8.out.below HS2)
            have HDy9 := Lib.hid (HDy8.out.below HS2)
            have HDz9 := Lib.hid (HDz8.out.below HS2)
            have HDv9 := Lib.hid (HDv8.out.below HS2)
            go_wp2
            go_ret
            exact ⟨rfl, W9.out⟩
          · go_enter Try.func7, Try.ntmps7
            go_wp2_with fail
            refine (awake_any (dbox w r a n c)).mono ?_
            rintro e w1 ⟨rfl, hb1⟩
            have W1 := Lib.hid (HBX.out.trans (hb1.mono HBX.out.size))
            have Kd1 : Hid (Blok w1 (w.heap.size) 24 #[.int .i64 r, .slice a n c]) := Lib.hid ((dbox_blok w r a n c).on hb1)
            clear hb1
            have qd0 : (w1).cell? ⟨w.heap.size, 0, none⟩ = some (.int .i64 r) := dk0 Kd1.out
            have qd1 : (w1).cell? ⟨w.heap.size, 1, none⟩ = some (.slice a n c) := dk1 Kd1.out
            go_wp2_with fail
            refine (few_any r a n c xs true _ (HD.out.below W1.out) HF.out).mono ?_
            rintro e w2 ⟨rfl, hb2⟩
            clear qd0 qd1
            have W2 := Lib.hid (W1.out.trans (hb2.mono W1.out.size))
            have Kd2 := Lib.hid (Kd1.out.on hb2)
            clear hb2
            have qd0 : (w2).cell? ⟨w.heap.size, 0, none⟩ = some (.int .i64 r) := dk0 Kd2.out
            have qd1 : (w2).cell? ⟨w.heap.size, 1, none⟩ = some (.slice a n c) := dk1 Kd2.out
            go_wp2_with fail
            refine (find_any r a n c no xs (j : Int) _ (HD.out.below W2.out) HFN.out).mono ?_
            rintro e w3 ⟨rfl, hb3⟩
            clear qd0 qd1
            have W3 := Lib.hid (W2.out.trans (hb3.mono W2.out.size))
            have Kd3 := Lib.hid (Kd2.out.on hb3)
            clear hb3
            have qd0 : (w3).cell? ⟨w.heap.size, 0, none⟩ = some (.int .i64 r) := dk0 Kd3.out
            have qd1 : (w3).cell? ⟨w.heap.size, 1, none⟩ = some (.slice a n c) := dk1 Kd3.out
            go_wp2_with fail
            refine (write_any r a n c no ab mb cb bb xs _ (HD.out.below W3.out) HSM.out HBL.out (HBR.out.below W3.out) HBZ.out).mono ?_
            rw [HQ.out]
            rintro e w4 ⟨a4, n4, c4, ya, rfl, HE4, HYA, _, hb4⟩
            clear qd0 qd1
            have hx4 := dbox_below w4 r a4 n4 c4
            have W4 := Lib.hid ((W3.out.trans (hb4.mono W3.out.size)).trans (hx4.mono (W3.out.trans (hb4.mono W3.out.size)).size))
            have Pd4 := Kd3.out.on hb4
            have Kd4 := Lib.hid (Pd4.on hx4)
            have HDx4 := Lib.hid (HE4.out.below hx4)
            have Kx4 := Lib.hid (dbox_blok w4 r a4 n4 c4)
            have qd0 : ∀ o, (w4.alloc o).cell? ⟨w.heap.size, 0, none⟩ = some (.int .i64 r) := fun o => dk0 (Pd4.alloc o)
            have qd1 : ∀ o, (w4.alloc o).cell? ⟨w.heap.size, 1, none⟩ = some (.slice a n c) := fun o => dk1 (Pd4.alloc o)
            clear hb4 hx4 Pd4
            go_wp2_with fail
            refine (sync_any r a4 n4 c4 no ya _ HDx4.out (by rw [HYA.out]; exact HSA.out)).mono ?_
            rw [HYA.out, HR.out]
            rintro e w5 ⟨a5, n5, c5, yb, rfl, HE5, HYB, _, hb5⟩
            clear qd0 qd1
            have hx5 := dbox_below w5 r a5 n5 c5
            have W5 := Lib.hid ((W4.out.trans (hb5.mono W4.out.size)).trans (hx5.mono (W4.out.trans (hb5.mono W4.out.size)).size))
            have Pd5 := Kd4.out.on hb5
            have Px5 := Kx4.out.on hb5
            have Kd5 := Lib.hid (Pd5.on hx5)
            have Kx5 := Lib.hid (Px5.on hx5)
            have HDx5 := Lib.hid ((HDx4.out.below hb5).below hx5)
            have HDy5 := Lib.hid (HE5.out.below hx5)
            have Ky5 := Lib.hid (dbox_blok w5 r a5 n5 c5)
            have qd0 : ∀ o, (w5.alloc o).cell? ⟨w.heap.size, 0, none⟩ = some (.int .i64 r) := fun o => dk0 (Pd5.alloc o)
            have qd1 : ∀ o, (w5.alloc o).cell? ⟨w.heap.size, 1, none⟩ = some (.slice a n c) := fun o => dk1 (Pd5.alloc o)
            have qx0 : ∀ o, (w5.alloc o).cell? ⟨w4.heap.size, 0, none⟩ = some (.int .i64 r) := fun o => dk0 (Px5.alloc o)
            have qx1 : ∀ o, (w5.alloc o).cell? ⟨w4.heap.size, 1, none⟩ = some (.slice a4 n4 c4) := fun o => dk1 (Px5.alloc o)
            clear hb5 hx5 Pd5 Px5
            go_wp2_with fail
            refine (crash_any r a5 n5 c5 ap np cp yb ps _ HDy5.out (by rw [HYB.out]; exact HSC.out) HPL.out (HPR.out.below W5.out) HNP.out).mono ?_
            rw [HYB.out, HHH.out]
            rintro e w6 ⟨a6, n6, c6, yh, rfl, HE6, HYH, _, hb6⟩
            clear qd0 qd1 qx0 qx1
            have hx6 := dbox_below w6 r a6 n6 c6
            have W6 := Lib.hid ((W5.out.trans (hb6.mono W5.out.size)).trans (hx6.mono (W5.out.trans (hb6.mono W5.out.size)).size))
            have Pd6 := Kd5.out.on hb6
            have Px6 := Kx5.out.on hb6
            have Py6 := Ky5.out.on hb6
            have Kd6 := Lib.hid (Pd6.on hx6)
            have Kx6 := Lib.hid (Px6.on hx6)
            have Ky6 := Lib.hid (Py6.on hx6)
            have HDx6 := Lib.hid ((HDx5.out.below hb6).below hx6)
            have HDy6 := Lib.hid ((HDy5.out.below hb6).below hx6)
            have HDz6 := Lib.hid (HE6.out.below hx6)
            have Kz6 := Lib.hid (dbox_blok w6 r a6 n6 c6)
            have al : ∀ o, Below w6.heap.size w6 (w6.alloc o) := fun o => (Below.refl _ _).alloc (Nat.le_refl _) o
            have Wp := W5.out.trans (hb6.mono W5.out.size)
            have dxp := HDx5.out.below hb6
            have hnx : n = n4 := by have h1 := dxp.1; have h2 := congrArg List.length HYA.out; rw [FP.files_len, HLA.out] at h2; omega
            have hnz : n = n6 := by have h1 := HE6.out.1; have h2 := congrArg List.length HYH.out; rw [FP.files_len, HLH.out] at h2; omega
            obtain ⟨b1, o1, no1, a1, n1, c1, B1, s1, he1, hb1, hx1, p10, p11, p12, hok1⟩ := ((HD.out.below Wp).2.1).at (i := j) (by rw [HXN.out]; exact hjn)
            obtain ⟨b2, o2, no2, a2, n2, c2, B2, s2, he2, hb2, hx2, p20, p21, p22, hok2⟩ := (dxp.2.1).at (i := j) (by rw [dxp.1]; omega)
            obtain ⟨b3, o3, no3, a3, n3, c3, B3, s3, he3, hb3, hx3, p30, p31, p32, hok3⟩ := (HE6.out.2.1).at (i := j) (by rw [HE6.out.1]; omega)
            have hB2 : B2 = B1 ++ bb := by
              have h1 := HGA.out
              rw [show la = FP.files ya from HYA.out.symm, FP.files_at hx2, FP.files_at hx1] at h1
              exact h1
            have hB3 : B3 = B2 := by
              have h1 := HGH.out
              rw [show lh = FP.files yh from HYH.out.symm, show la = FP.files ya from HYA.out.symm, FP.files_at hx3, FP.files_at hx2] at h1
              exact h1
            have hl1 : B1.length = n1 := hok1.1
            have hl2 : B2.length = n2 := hok2.1
            have hl3 : B3.length = n3 := hok3.1
            obtain ⟨sd, hsd⟩ : ∃ s, strOf B1 = s := ⟨_, rfl⟩
            obtain ⟨sb, hsb⟩ : ∃ s, strOf bb = s := ⟨_, rfl⟩
            obtain ⟨sa, hsa⟩ : ∃ s, strOf B2 = s := ⟨_, rfl⟩
            have hss : sd ++ sb = sa := by rw [← hsd, ← hsb, ← hsa, hB2, strOf_append]
            have hfew := (of_decide_eq_true HF.out).2 _ (List.mem_map.2 ⟨_, List.mem_of_getElem? hx1, rfl⟩)
            have hz1 : sd.size ≤ 3000 := by rw [← hsd, strOf_size]; exact hfew
            have hz2 : sb.size ≤ 3000 := by rw [← hsb, strOf_size, HBL.out]; exact hmb
            have hadd : ∀ w, (Op.stringOp .add sd sb).run Try.prog w = .ok (.string sa) w := fun w => by rw [← hss]; exact run_string_add w sd sb (by omega) (by omega)
            have cv1 : ∀ o m, (convert 25 9 (.slice a1 n1 c1)).run Try.prog (World.drewN (w6.alloc o) m) = .ok (.string sd) (World.drewN (w6.alloc o) m) := fun o m => by rw [← hsd]; exact conv_row (hok1.2.1.below ((al o).trans ((below_drewN _ _ m).mono (al o).size))) hl1
            have cv2 : ∀ o m, (convert 25 9 (.slice a2 n2 c2)).run Try.prog (World.drewN (w6.alloc o) m) = .ok (.string sa) (World.drewN (w6.alloc o) m) := fun o m => by rw [← hsa]; exact conv_row (hok2.2.1.below ((al o).trans ((below_drewN _ _ m).mono (al o).size))) hl2
            have cv3 : ∀ o m, (convert 25 9 (.slice a3 n3 c3)).run Try.prog (World.drewN (w6.alloc o) m) = .ok (.string sa) (World.drewN (w6.alloc o) m) := fun o m => by rw [← hsa, ← hB3]; exact conv_row (hok3.2.1.below ((al o).trans ((below_drewN _ _ m).mono (al o).size))) hl3
            have cvb : ∀ o m, (convert 25 9 (.slice ab mb cb)).run Try.prog (World.drewN (w6.alloc o) m) = .ok (.string sb) (World.drewN (w6.alloc o) m) := fun o m => by rw [← hsb]; exact conv_row ((HBR.out.below Wp).below ((al o).trans ((below_drewN _ _ m).mono (al o).size))) HBL.out
            have t1 : ∀ o, (w6.alloc o).cell? ⟨b1, o1 + j * 3 + 1, none⟩ = some (.slice a1 n1 c1) := fun o => ((al o).cell (p := ⟨b1, o1 + j * 3 + 1, none⟩) hb1).trans p11
            have t2 : ∀ o, (w6.alloc o).cell? ⟨b2, o2 + j * 3 + 1, none⟩ = some (.slice a2 n2 c2) := fun o => ((al o).cell (p := ⟨b2, o2 + j * 3 + 1, none⟩) hb2).trans p21
            have t3 : ∀ o, (w6.alloc o).cell? ⟨b3, o3 + j * 3 + 1, none⟩ = some (.slice a3 n3 c3) := fun o => ((al o).cell (p := ⟨b3, o3 + j * 3 + 1, none⟩) hb3).trans p31
            subst hnx
            subst hnz
            subst he1
            subst he2
            subst he3
            have hcx := dxp.caps
            have hcz := HE6.out.caps
            clear hx1 hx2 hx3 hok1 hok2 hok3 hB2 hB3 hl1 hl2 hl3 hsd hsb hsa hfew p10 p11 p12 p20 p21 p22 p30 p31 p32 dxp Wp al
            have qd0 : ∀ o, (w6.alloc o).cell? ⟨w.heap.size, 0, none⟩ = some (.int .i64 r) := fun o => dk0 (Pd6.alloc o)
            have qd1 : ∀ o, (w6.alloc o).cell? ⟨w.heap.size, 1, none⟩ = some (.slice (some ⟨b1, o1, none⟩) n c) := fun o => dk1 (Pd6.alloc o)
            have qx0 : ∀ o, (w6.alloc o).cell? ⟨w4.heap.size, 0, none⟩ = some (.int .i64 r) := fun o => dk0 (Px6.alloc o)
            have qx1 : ∀ o, (w6.alloc o).cell? ⟨w4.heap.size, 1, none⟩ = some (.slice (some ⟨b2, o2, none⟩) n c4) := fun o => dk1 (Px6.alloc o)
            have qy0 : ∀ o, (w6.alloc o).cell? ⟨w5.heap.size, 0, none⟩ = some (.int .i64 r) := fun o => dk0 (Py6.alloc o)
            have qy1 : ∀ o, (w6.alloc o).cell? ⟨w5.heap.size, 1, none⟩ = some (.slice a5 n5 c5) := fun o => dk1 (Py6.alloc o)
            clear hb6 hx6 Pd6 Px6 Py6
            go_wp2_with fail
            simp only [List.append]
            go_quiet (fail)
            obtain ⟨w7, hw7⟩ : ∃ wq, wq = World.drewN (w6.alloc (.cells #[.int .i64 r, .slice (some ⟨b3, o3, none⟩) n c6] 24)) nq := ⟨_, rfl⟩
            have hb7 : Below ((dbox w6 r (some ⟨b3, o3, none⟩) n c6)).heap.size ((dbox w6 r (some ⟨b3, o3, none⟩) n c6)) w7 := by rw [hw7]; exact below_drewN _ _ _
            rw [← hw7]
            clear qd0 qd1 qx0 qx1 qy0 qy1
            have W7 := Lib.hid (W6.out.trans (hb7.mono W6.out.size))
            have Kd7 := Lib.hid (Kd6.out.on hb7)
            have Kx7 := Lib.hid (Kx6.out.on hb7)
            have Ky7 := Lib.hid (Ky6.out.on hb7)
            have Kz7 := Lib.hid (Kz6.out.on hb7)
            have HDx7 := Lib.hid (HDx6.out.below hb7)
            have HDy7 := Lib.hid (HDy6.out.below hb7)
            have HDz7 := Lib.hid (HDz6.out.below hb7)
            clear hb7 hw7
            have qd0 : (w7).cell? ⟨w.heap.size, 0, none⟩ = some (.int .i64 r) := dk0 Kd7.out
            have qd1 : (w7).cell? ⟨w.heap.size, 1, none⟩ = some (.slice (some ⟨b1, o1, none⟩) n c) := dk1 Kd7.out
            have qx0 : (w7).cell? ⟨w4.heap.size, 0, none⟩ = some (.int .i64 r) := dk0 Kx7.out
            have qx1 : (w7).cell? ⟨w4.heap.size, 1, none⟩ = some (.slice (some ⟨b2, o2, none⟩) n c4) := dk1 Kx7.out
            have qy0 : (w7).cell? ⟨w5.heap.size, 0, none⟩ = some (.int .i64 r) := dk0 Ky7.out
            have qy1 : (w7).cell? ⟨w5.heap.size, 1, none⟩ = some (.slice a5 n5 c5) := dk1 Ky7.out
            have qz0 : (w7).cell? ⟨w6.heap.size, 0, none⟩ = some (.int .i64 r) := dk0 Kz7.out
            have qz1 : (w7).cell? ⟨w6.heap.size, 1, none⟩ = some (.slice (some ⟨b3, o3, none⟩) n c6) := dk1 Kz7.out
            clear t1 t2 t3 cv1 cv2 cv3 cvb hss hz1 hz2 hadd
            go_wp2_with fail
            refine (cut_any r a5 n5 c5 no N yb _ HDy7.out (by rw [HYB.out]; exact HSC.out)).mono ?_
            rw [HYB.out, HV.out]
            rintro e w8 ⟨a8, n8, c8, yv, rfl, HE8, HYV, _, hb8⟩
            clear qd0 qd1 qx0 qx1 qy0 qy1 qz0 qz1
            have hx8 := dbox_below w8 r a8 n8 c8
            have W8 := Lib.hid ((W7.out.trans (hb8.mono W7.out.size)).trans (hx8.mono (W7.out.trans (hb8.mono W7.out.size)).size))
            have Pd8 := Kd7.out.on hb8
            have Px8 := Kx7.out.on hb8
            have Py8 := Ky7.out.on hb8
            have Pz8 := Kz7.out.on hb8
            have Kd8 := Lib.hid (Pd8.on hx8)
            have Kx8 := Lib.hid (Px8.on hx8)
            have Ky8 := Lib.hid (Py8.on hx8)
            have Kz8 := Lib.hid (Pz8.on hx8)
            have HDx8 := Lib.hid ((HDx7.out.below hb8).below hx8)
            have HDy8 := Lib.hid ((HDy7.out.below hb8).below hx8)
            have HDz8 := Lib.hid ((HDz7.out.below hb8).below hx8)
            have HDv8 := Lib.hid (HE8.out.below hx8)
            have Kv8 := Lib.hid (dbox_blok w8 r a8 n8 c8)
            have qd0 : ∀ o, (w8.alloc o).cell? ⟨w.heap.size, 0, none⟩ = some (.int .i64 r) := fun o => dk0 (Pd8.alloc o)
            have qd1 : ∀ o, (w8.alloc o).cell? ⟨w.heap.size, 1, none⟩ = some (.slice (some ⟨b1, o1, none⟩) n c) := fun o => dk1 (Pd8.alloc o)
            have qx0 : ∀ o, (w8.alloc o).cell? ⟨w4.heap.size, 0, none⟩ = some (.int .i64 r) := fun o => dk0 (Px8.alloc o)
            have qx1 : ∀ o, (w8.alloc o).cell? ⟨w4.heap.size, 1, none⟩ = some (.slice (some ⟨b2, o2, none⟩) n c4) := fun o => dk1 (Px8.alloc o)
            have qy0 : ∀ o, (w8.alloc o).cell? ⟨w5.heap.size, 0, none⟩ = some (.int .i64 r) := fun o => dk0 (Py8.alloc o)
            have qy1 : ∀ o, (w8.alloc o).cell? ⟨w5.heap.size, 1, none⟩ = some (.slice a5 n5 c5) := fun o => dk1 (Py8.alloc o)
            have qz0 : ∀ o, (w8.alloc o).cell? ⟨w6.heap.size, 0, none⟩ = some (.int .i64 r) := fun o => dk0 (Pz8.alloc o)
            have qz1 : ∀ o, (w8.alloc o).cell? ⟨w6.heap.size, 1, none⟩ = some (.slice (some ⟨b3, o3, none⟩) n c6) := fun o => dk1 (Pz8.alloc o)
            clear hb8 hx8 Pd8 Px8 Py8 Pz8
            clear qd0 qd1 qx0 qx1 qy0 qy1 qz0 qz1
            have hgne : (gv != 0) = true := by simpa using hg0
            clear hg0
            go_wp2_with fail
            refine wp_region_held (S := fun w' => Below ((dbox w8 r a8 n8 c8)).heap.size ((dbox w8 r a8 n8 c8)) w') (by kernel_rfl) ?_
            change wpAnyH _ _ _ _ _ _ _ _ (World.drew ((dbox w8 r a8 n8 c8)))
            have HS0 : (fun w' => Below ((dbox w8 r a8 n8 c8)).heap.size ((dbox w8 r a8 n8 c8)) w') (World.drew ((dbox w8 r a8 n8 c8))) := below_drew _
            refine wpAnyH_take (i := 0) (v := (.agg #[.int .i64 r, .slice (some ⟨b2, o2, none⟩) n c4])) rfl (by kernel_rfl) (by kernel_rfl) (by kernel_rfl) (fun _ _ _ h => h) (.inl ⟨by kernel_rfl, fun w9 hS => by have c0 := dk0 (Kx8.out.on hS); have c1 := dk1 (Kx8.out.on hS); go_simp⟩) HS0 ?_
            refine wpAnyH_take (i := 2) (v := (.agg #[.int .i64 r, .slice (some ⟨b1, o1, none⟩) n c])) rfl (by kernel_rfl) (by kernel_rfl) (by kernel_rfl) (fun _ _ _ h => h) (.inl ⟨by kernel_rfl, fun w9 hS => by have c0 := dk0 (Kd8.out.on hS); have c1 := dk1 (Kd8.out.on hS); go_simp⟩) HS0 ?_
            refine wpAnyH_take (i := 4) (v := (.slice ab mb cb)) rfl (by kernel_rfl) (by kernel_rfl) (by kernel_rfl) (fun _ _ _ h => h) (.inl ⟨by kernel_rfl, fun w9 hS => by kernel_rfl⟩) HS0 ?_
            refine wpAnyH_take (i := 5) (v := (.int .i64 (mb : Int))) rfl (by kernel_rfl) (by kernel_rfl) (by kernel_rfl) (fun _ _ _ h => h) (.inl ⟨by kernel_rfl, fun w9 hS => by kernel_rfl⟩) HS0 ?_
            refine wpAnyH_call (i := 1) (f := 23) (args := #[.agg #[.int .i64 r, .slice (some ⟨b2, o2, none⟩) n c4]]) (by kernel_rfl) rfl (by kernel_rfl) (by kernel_rfl) (used_any r (some ⟨b2, o2, none⟩) n c4 ya ((u : Int) + (mb : Int)) _ (HDx8.out.below HS0) (by rw [HYA.out]; exact HUA.out)) ?_
            rintro e wz1 ⟨rfl, hbwz1⟩
            have HS1 : (fun w' => Below ((dbox w8 r a8 n8 c8)).heap.size ((dbox w8 r a8 n8 c8)) w') wz1 := Below.trans HS0 (hbwz1.mono (Below.size HS0))
            refine ⟨_, rfl, HS1, ?_⟩
            refine wpAnyH_call (i := 3) (f := 23) (args := #[.agg #[.int .i64 r, .slice (some ⟨b1, o1, none⟩) n c]]) (by kernel_rfl) rfl (by kernel_rfl) (by kernel_rfl) (used_any r (some ⟨b1, o1, none⟩) n c xs (u : Int) _ (HD.out.below (Below.trans W8.out (Below.mono HS1 W8.out.size))) HUD.out) ?_
            rintro e wz2 ⟨rfl, hbwz2⟩
            have HS2 : (fun w' => Below ((dbox w8 r a8 n8 c8)).heap.size ((dbox w8 r a8 n8 c8)) w') wz2 := Below.trans HS1 (hbwz2.mono (Below.size HS1))
            refine ⟨_, rfl, HS2, ?_⟩
            refine wpAnyH_take (i := 6) (v := (.int .i64 ((u : Int) + (mb : Int)))) rfl (by kernel_rfl) (by kernel_rfl) (by kernel_rfl) (fun _ _ _ h => h) (.inl ⟨by kernel_rfl, fun w9 hS => (show _ = Result.ok (.value (.int .i64 (IntKind.i64.wrap ((u : Int) + (mb : Int))))) w9 by kernel_rfl).trans (by rw [hwr])⟩) HS2 ?_
            refine wpAnyH_take (i := 7) (v := (.bool true)) rfl (by kernel_rfl) (by kernel_rfl) (by kernel_rfl) (fun _ _ _ h => h) (.inl ⟨by kernel_rfl, fun w9 hS => (show _ = Result.ok (.value (.bool (((u : Int) + (mb : Int)) == ((u : Int) + (mb : Int))))) w9 by kernel_rfl).trans (by rw [beq_self_eq_true])⟩) HS2 ?_
            refine wpAnyH_take (i := 8) (v := (.bool true)) rfl (by kernel_rfl) (by kernel_rfl) (by kernel_rfl) (fun _ _ _ h => h) (.inl ⟨by kernel_rfl, fun w9 hS => by kernel_rfl⟩) HS2 ?_
            refine wpAnyH_take (i := 9) (v := (.int .i64 gv)) rfl (by kernel_rfl) (by kernel_rfl) (by kernel_rfl) (fun _ _ _ h => h) (.inl ⟨by kernel_rfl, fun w9 hS => by kernel_rfl⟩) HS2 ?_
            refine wpAnyH_take (i := 10) (v := (.bool true)) rfl (by kernel_rfl) (by kernel_rfl) (by kernel_rfl) (fun _ _ _ h => h) (.inl ⟨by kernel_rfl, fun w9 hS => (show _ = Result.ok (.value (.bool (gv != 0))) w9 by kernel_rfl).trans (by rw [hgne])⟩) HS2 ?_
            refine wpAnyH_take (i := 11) (v := (.bool true)) rfl (by kernel_rfl) (by kernel_rfl) (by kernel_rfl) (fun _ _ _ h => h) (.inl ⟨by kernel_rfl, fun w9 hS => by kernel_rfl⟩) HS2 ?_
            refine wpAnyH_take (i := 12) (v := undef) rfl (by kernel_rfl) (by kernel_rfl) (by kernel_rfl) (fun _ _ _ h => h) (.inr ⟨by kernel_rfl, rfl⟩) HS2 ?_
            refine wpAnyH_take (i := 13) (v := undef) rfl (by kernel_rfl) (by kernel_rfl) (by kernel_rfl) (fun _ _ _ h => h) (.inr ⟨by kernel_rfl, rfl⟩) HS2 ?_
            refine wpAnyH_take (i := 14) (v := undef) rfl (by kernel_rfl) (by kernel_rfl) (by kernel_rfl) (fun _ _ _ h => h) (.inr ⟨by kernel_rfl, rfl⟩) HS2 ?_
            refine wpAnyH_take (i := 15) (v := undef) rfl (by kernel_rfl) (by kernel_rfl) (by kernel_rfl) (fun _ _ _ h => h) (.inr ⟨by kernel_rfl, rfl⟩) HS2 ?_
            refine wpAnyH_take (i := 16) (v := undef) rfl (by kernel_rfl) (by kernel_rfl) (by kernel_rfl) (fun _ _ _ h => h) (.inr ⟨by kernel_rfl, rfl⟩) HS2 ?_
            refine wpAnyH_take (i := 17) (v := undef) rfl (by kernel_rfl) (by kernel_rfl) (by kernel_rfl) (fun _ _ _ h => h) (.inr ⟨by kernel_rfl, rfl⟩) HS2 ?_
            refine wpAnyH_take (i := 18) (v := undef) rfl (by kernel_rfl) (by kernel_rfl) (by kernel_rfl) (fun _ _ _ h => h) (.inr ⟨by kernel_rfl, rfl⟩) HS2 ?_
            refine wpAnyH_take (i := 19) (v := undef) rfl (by kernel_rfl) (by kernel_rfl) (by kernel_rfl) (fun _ _ _ h => h) (.inr ⟨by kernel_rfl, rfl⟩) HS2 ?_
            refine wpAnyH_take (i := 20) (v := undef) rfl (by kernel_rfl) (by kernel_rfl) (by kernel_rfl) (fun _ _ _ h => h) (.inr ⟨by kernel_rfl, rfl⟩) HS2 ?_
            refine wpAnyH_take (i := 21) (v := undef) rfl (by kernel_rfl) (by kernel_rfl) (by kernel_rfl) (fun _ _ _ h => h) (.inr ⟨by kernel_rfl, rfl⟩) HS2 ?_
            refine wpAnyH_take (i := 22) (v := undef) rfl (by kernel_rfl) (by kernel_rfl) (by kernel_rfl) (fun _ _ _ h => h) (.inr ⟨by kernel_rfl, rfl⟩) HS2 ?_
            refine wpAnyH_take (i := 23) (v := undef) rfl (by kernel_rfl) (by kernel_rfl) (by kernel_rfl) (fun _ _ _ h => h) (.inr ⟨by kernel_rfl, rfl⟩) HS2 ?_
            refine wpAnyH_take (i := 24) (v := undef) rfl (by kernel_rfl) (by kernel_rfl) (by kernel_rfl) (fun _ _ _ h => h) (.inr ⟨by kernel_rfl, rfl⟩) HS2 ?_
            refine wpAnyH_take (i := 25) (v := undef) rfl (by kernel_rfl) (by kernel_rfl) (by kernel_rfl) (fun _ _ _ h => h) (.inr ⟨by kernel_rfl, rfl⟩) HS2 ?_
            refine wpAnyH_take (i := 26) (v := undef) rfl (by kernel_rfl) (by kernel_rfl) (by kernel_rfl) (fun _ _ _ h => h) (.inr ⟨by kernel_rfl, rfl⟩) HS2 ?_
            refine wpAnyH_take (i := 27) (v := undef) rfl (by kernel_rfl) (by kernel_rfl) (by kernel_rfl) (fun _ _ _ h => h) (.inr ⟨by kernel_rfl, rfl⟩) HS2 ?_
            refine wpAnyH_take (i := 28) (v := undef) rfl (by kernel_rfl) (by kernel_rfl) (by kernel_rfl) (fun _ _ _ h => h) (.inr ⟨by kernel_rfl, rfl⟩) HS2 ?_
            refine wpAnyH_take (i := 29) (v := undef) rfl (by kernel_rfl) (by kernel_rfl) (by kernel_rfl) (fun _ _ _ h => h) (.inr ⟨by kernel_rfl, rfl⟩) HS2 ?_
            refine wpAnyH_take (i := 30) (v := undef) rfl (by kernel_rfl) (by kernel_rfl) (by kernel_rfl) (fun _ _ _ h => h) (.inr ⟨by kernel_rfl, rfl⟩) HS2 ?_
            refine wpAnyH_take (i := 31) (v := undef) rfl (by kernel_rfl) (by kernel_rfl) (by kernel_rfl) (fun _ _ _ h => h) (.inr ⟨by kernel_rfl, rfl⟩) HS2 ?_
            refine wpAnyH_take (i := 32) (v := undef) rfl (by kernel_rfl) (by kernel_rfl) (by kernel_rfl) (fun _ _ _ h => h) (.inr ⟨by kernel_rfl, rfl⟩) HS2 ?_
            refine wpAnyH_take (i := 33) (v := undef) rfl (by kernel_rfl) (by kernel_rfl) (by kernel_rfl) (fun _ _ _ h => h) (.inr ⟨by kernel_rfl, rfl⟩) HS2 ?_
            refine wpAnyH_take (i := 34) (v := undef) rfl (by kernel_rfl) (by kernel_rfl) (by kernel_rfl) (fun _ _ _ h => h) (.inr ⟨by kernel_rfl, rfl⟩) HS2 ?_
            refine wpAnyH_take (i := 35) (v := undef) rfl (by kernel_rfl) (by kernel_rfl) (by kernel_rfl) (fun _ _ _ h => h) (.inr ⟨by kernel_rfl, rfl⟩) HS2 ?_
            refine wpAnyH_take (i := 36) (v := undef) rfl (by kernel_rfl) (by kernel_rfl) (by kernel_rfl) (fun _ _ _ h => h) (.inr ⟨by kernel_rfl, rfl⟩) HS2 ?_
            refine wpAnyH_take (i := 37) (v := undef) rfl (by kernel_rfl) (by kernel_rfl) (by kernel_rfl) (fun _ _ _ h => h) (.inr ⟨by kernel_rfl, rfl⟩) HS2 ?_
            refine wpAnyH_take (i := 38) (v := undef) rfl (by kernel_rfl) (by kernel_rfl) (by kernel_rfl) (fun _ _ _ h => h) (.inr ⟨by kernel_rfl, rfl⟩) HS2 ?_
            refine wpAnyH_take (i := 39) (v := undef) rfl (by kernel_rfl) (by kernel_rfl) (by kernel_rfl) (fun _ _ _ h => h) (.inr ⟨by kernel_rfl, rfl⟩) HS2 ?_
            refine wpAnyH_take (i := 40) (v := undef) rfl (by kernel_rfl) (by kernel_rfl) (by kernel_rfl) (fun _ _ _ h => h) (.inr ⟨by kernel_rfl, rfl⟩) HS2 ?_
            refine wpAnyH_take (i := 41) (v := undef) rfl (by kernel_rfl) (by kernel_rfl) (by kernel_rfl) (fun _ _ _ h => h) (.inr ⟨by kernel_rfl, rfl⟩) HS2 ?_
            refine wpAnyH_take (i := 42) (v := undef) rfl (by kernel_rfl) (by kernel_rfl) (by kernel_rfl) (fun _ _ _ h => h) (.inr ⟨by kernel_rfl, rfl⟩) HS2 ?_
            refine wpAnyH_take (i := 43) (v := undef) rfl (by kernel_rfl) (by kernel_rfl) (by kernel_rfl) (fun _ _ _ h => h) (.inr ⟨by kernel_rfl, rfl⟩) HS2 ?_
            refine wpAnyH_take (i := 44) (v := (.bool true)) rfl (by kernel_rfl) (by kernel_rfl) (by kernel_rfl) (fun _ _ _ h => h) (.inl ⟨by kernel_rfl, fun w9 hS => by kernel_rfl⟩) HS2 ?_
            refine wpAnyH_take (i := 45) (v := (.bool true)) rfl (by kernel_rfl) (by kernel_rfl) (by kernel_rfl) (fun _ _ _ h => h) (.inl ⟨by kernel_rfl, fun w9 hS => by kernel_rfl⟩) HS2 ?_
            refine wpAnyH_take (i := 46) (v := (.bool true)) rfl (by kernel_rfl) (by kernel_rfl) (by kernel_rfl) (fun _ _ _ h => h) (.inl ⟨by kernel_rfl, fun w9 hS => by kernel_rfl⟩) HS2 ?_
            refine wpAnyH_done (by kernel_rfl) ?_ _
            simp only [List.getElem_toArray, List.getElem_cons_succ, List.getElem_cons_zero, put_some, List.setIfInBounds_toArray, List.set_cons_succ, List.set_cons_zero]
            have W9 := Lib.hid (W8.out.trans (Below.mono HS2 W8.out.size))
            have Kd9 := Lib.hid (Kd8.out.on HS2)
            have Kx9 := Lib.hid (Kx8.out.on HS2)
            have Ky9 := Lib.hid (Ky8.out.on HS2)
            have Kz9 := Lib.hid (Kz8.out.on HS2)
            have Kv9 := Lib.hid (Kv8.out.on HS2)
            have HDx9 := Lib.hid (HDx8.out.below HS2)
            have HDy9 := Lib.hid (HDy8.out.below HS2)
            have HDz9 := Lib.hid (HDz8.out.below HS2)
            have HDv9 := Lib.hid (HDv8.out.below HS2)
            go_wp2
            go_ret
            exact ⟨rfl, W9.out⟩
        · have HF := Lib.hid (decide_eq_true hf)
          have d3 : decide ((3000 : Int) < (mb : Int)) = false := by simp; omega
          have d4 : decide ((60 : Int) < (np : Int)) = false := by simp; omega
          have HSM := Lib.hid hf.small
          have HNP : Hid (np ≤ 1000) := Lib.hid (by omega)
          obtain ⟨⟨⟨q, la⟩, e0⟩, hq⟩ : ∃ r, D.write (k, FP.files xs) no bb = r := ⟨_, rfl⟩
          have hqk : q = k := by have h1 := D.write_cap (k, FP.files xs) no bb; rw [hq] at h1; exact h1
          subst hqk
          obtain ⟨fn, hfn⟩ : ∃ f, D.find (q, FP.files xs) no = f := ⟨_, rfl⟩
          have HFN := Lib.hid hfn
          have HQ := Lib.hid hq
          have hne : (e0 != 0) = true := by
            have h1 : e0 ≠ 0 := fun h => he (by rw [hq]; exact h)
            simpa using h1
          have HSA0 : Hid (la = FP.files xs) := Lib.hid (by
            have h1 := D.op_err 1 no 0 bb [] (q, FP.files xs) (by simpa [D.op] using he)
            have h2 : (D.write (q, FP.files xs) no bb).1 = (q, FP.files xs) := by simpa [D.op] using h1
            rw [hq] at h2
            exact congrArg Prod.snd h2)
          clear he hq hfn h3 h6
          clear hd hbl hbr hbz hpl hpr hf
          go_enter Try.func7, Try.ntmps7
          go_wp2_with fail
          refine (awake_any (dbox w q a n c)).mono ?_
          rintro e w1 ⟨rfl, hb1⟩
          have W1 := Lib.hid (HBX.out.trans (hb1.mono HBX.out.size))
          have Kd1 : Hid (Blok w1 (w.heap.size) 24 #[.int .i64 q, .slice a n c]) := Lib.hid ((dbox_blok w q a n c).on hb1)
          clear hb1
          have qd0 : (w1).cell? ⟨w.heap.size, 0, none⟩ = some (.int .i64 q) := dk0 Kd1.out
          have qd1 : (w1).cell? ⟨w.heap.size, 1, none⟩ = some (.slice a n c) := dk1 Kd1.out
          go_wp2_with fail
          refine (few_any q a n c xs true _ (HD.out.below W1.out) HF.out).mono ?_
          rintro e w2 ⟨rfl, hb2⟩
          clear qd0 qd1
          have W2 := Lib.hid (W1.out.trans (hb2.mono W1.out.size))
          have Kd2 := Lib.hid (Kd1.out.on hb2)
          clear hb2
          have qd0 : (w2).cell? ⟨w.heap.size, 0, none⟩ = some (.int .i64 q) := dk0 Kd2.out
          have qd1 : (w2).cell? ⟨w.heap.size, 1, none⟩ = some (.slice a n c) := dk1 Kd2.out
          go_wp2_with fail
          refine (find_any q a n c no xs fn _ (HD.out.below W2.out) HFN.out).mono ?_
          rintro e w3 ⟨rfl, hb3⟩
          clear qd0 qd1
          have W3 := Lib.hid (W2.out.trans (hb3.mono W2.out.size))
          have Kd3 := Lib.hid (Kd2.out.on hb3)
          clear hb3
          have qd0 : (w3).cell? ⟨w.heap.size, 0, none⟩ = some (.int .i64 q) := dk0 Kd3.out
          have qd1 : (w3).cell? ⟨w.heap.size, 1, none⟩ = some (.slice a n c) := dk1 Kd3.out
          go_wp2_with fail
          refine (write_any q a n c no ab mb cb bb xs _ (HD.out.below W3.out) HSM.out HBL.out (HBR.out.below W3.out) HBZ.out).mono ?_
          rw [HQ.out]
          rintro e w4 ⟨a4, n4, c4, ya, rfl, HE4, HYA, _, hb4⟩
          clear qd0 qd1
          have hx4 := dbox_below w4 q a4 n4 c4
          have W4 := Lib.hid ((W3.out.trans (hb4.mono W3.out.size)).trans (hx4.mono (W3.out.trans (hb4.mono W3.out.size)).size))
          have Pd4 := Kd3.out.on hb4
          have Kd4 := Lib.hid (Pd4.on hx4)
          have HDx4 := Lib.hid (HE4.out.below hx4)
          have Kx4 := Lib.hid (dbox_blok w4 q a4 n4 c4)
          have qd0 : ∀ o, (w4.alloc o).cell? ⟨w.heap.size, 0, none⟩ = some (.int .i64 q) := fun o => dk0 (Pd4.alloc o)
          have qd1 : ∀ o, (w4.alloc o).cell? ⟨w.heap.size, 1, none⟩ = some (.slice a n c) := fun o => dk1 (Pd4.alloc o)
          clear hb4 hx4 Pd4
          have HSA : Hid (decide (((q, FP.files ya) : D.T) = (q, FP.files xs)) = true) := Lib.hid (by rw [HYA.out, HSA0.out]; simp)
          go_wp2_with fail
          refine (same_any q a4 n4 c4 ya q a n c xs true _ (HDx4.out) (HD.out.below W4.out) HSA.out).mono ?_
          rintro e w5 ⟨rfl, hb5⟩
          clear qd0 qd1
          have W5 := Lib.hid (W4.out.trans (hb5.mono W4.out.size))
          have Kd5 := Lib.hid (Kd4.out.on hb5)
          have Kx5 := Lib.hid (Kx4.out.on hb5)
          have HDx5 := Lib.hid (HDx4.out.below hb5)
          clear hb5
          have qd0 : (w5).cell? ⟨w.heap.size, 0, none⟩ = some (.int .i64 q) := dk0 Kd5.out
          have qd1 : (w5).cell? ⟨w.heap.size, 1, none⟩ = some (.slice a n c) := dk1 Kd5.out
          have qx0 : (w5).cell? ⟨w4.heap.size, 0, none⟩ = some (.int .i64 q) := dk0 Kx5.out
          have qx1 : (w5).cell? ⟨w4.heap.size, 1, none⟩ = some (.slice a4 n4 c4) := dk1 Kx5.out
          go_wp2
          go_ret
          exact ⟨rfl, W5.out⟩
  · have HF := Lib.hid (decide_eq_false hf)
    clear hd hbl hbr hbz hpl hpr hf
    go_enter Try.func7, Try.ntmps7
    go_wp2_with fail
    refine (awake_any (dbox w k a n c)).mono ?_
    rintro e w1 ⟨rfl, hb1⟩
    have W1 := Lib.hid (HBX.out.trans (hb1.mono HBX.out.size))
    have Kd1 : Hid (Blok w1 (w.heap.size) 24 #[.int .i64 k, .slice a n c]) := Lib.hid ((dbox_blok w k a n c).on hb1)
    clear hb1
    have qd0 : (w1).cell? ⟨w.heap.size, 0, none⟩ = some (.int .i64 k) := dk0 Kd1.out
    have qd1 : (w1).cell? ⟨w.heap.size, 1, none⟩ = some (.slice a n c) := dk1 Kd1.out
    go_wp2_with fail
    refine (few_any k a n c xs false _ (HD.out.below W1.out) HF.out).mono ?_
    rintro e w2 ⟨rfl, hb2⟩
    clear qd0 qd1
    have W2 := Lib.hid (W1.out.trans (hb2.mono W1.out.size))
    have Kd2 := Lib.hid (Kd1.out.on hb2)
    clear hb2
    have qd0 : (w2).cell? ⟨w.heap.size, 0, none⟩ = some (.int .i64 k) := dk0 Kd2.out
    have qd1 : (w2).cell? ⟨w.heap.size, 1, none⟩ = some (.slice a n c) := dk1 Kd2.out
    go_wp2
    go_ret
    exact ⟨rfl, W2.out⟩
end Go.Proofs.Ytcabhibbajkpkaa
