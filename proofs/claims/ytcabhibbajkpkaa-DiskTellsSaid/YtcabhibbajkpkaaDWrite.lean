/-
  Walk of moorings/disk.Write.
-/
import Derived.Test.YtcabhibbajkpkaaDSync
namespace Go.Proofs.Ytcabhibbajkpkaa
open Go.RowKit

set_option maxRecDepth 100000 in
set_option maxHeartbeats 1000000 in
theorem write_any (k : Int) (a : Option Addr) (n c : Nat) (no : Int) (ab : Option Addr) (mb cb : Nat) (bb : List Int) (xs : List FP) (w : World) (hd : DiskIn w a n c xs) (hs : D.small (FP.files xs)) (hbl : bb.length = mb) (hbr : RowIn .u8 w ab cb bb) (hbz : ab = none → mb = 0 ∧ cb = 0) :
    Calls Try.prog 26 #[.agg #[.int .i64 k, .slice a n c], .int .i64 no, .slice ab mb cb] w (RetE any (D.write (k, FP.files xs) no bb) w) := by
  have HD := Lib.hid hd
  have HS := Lib.hid hs
  have hcap := hd.caps
  have hml : maxLen ≤ 9223372036854775807 := by decide
  have KA := Lib.hid (dbn_arg w k a n c)
  have KR := Lib.hid (dbn_res w k a n c)
  have X0 : Hid (Below (dbn w k a n c).heap.size (dbn w k a n c) (dbn w k a n c)) := Lib.hid (Below.refl _ _)
  have h14 : n ≤ 14 := by have h1 := hs.1; simp only [FP.files_len, hd.1] at h1; exact h1
  have HBB := Lib.hid hbl
  have HBR := Lib.hid hbr
  have HBZ := Lib.hid hbz
  clear hbl hbr hbz
  obtain ⟨i, e0, hk⟩ : ∃ i e, seekOf (k, FP.files xs) no = (i, e) := ⟨_, _, rfl⟩
  have HK := Lib.hid hk
  clear hd hs hk
  by_cases he : e0 = 0
  · subst he
    obtain ⟨hm, j, rfl, hj⟩ := seek_good HK.out
    obtain ⟨hj1, hj2⟩ := D.idx_some hj
    have hjn : j < n := by rw [FP.files_len, HD.out.1] at hj1; exact hj1
    have HLT : Hid (j < xs.length) := Lib.hid (by rw [HD.out.1]; exact hjn)
    obtain ⟨u, hu⟩ : ∃ u : Int, (if D.may (k, FP.files xs) then (D.used (FP.files xs) : Int) else 0) = u := ⟨_, rfl⟩
    have HUU := Lib.hid hu
    have HUF : Hid ((D.used (FP.files xs) : Int) = u) := Lib.hid (by rw [← hu, if_pos hm])
    have hku : 0 ≤ u ∧ u ≤ k ∧ k ≤ 65536 := by have h1 := hm.2.2.2; have h2 := hm.1.2.1; have h3 := HUF.out; simp only at h1 h2; omega
    have hwr : IntKind.i64.wrap (k - u) = k - u := wrap_i64_small (by omega) (by omega)
    obtain ⟨qq, hq⟩ : ∃ qq, decide (k - u < (mb : Int)) = qq := ⟨_, rfl⟩
    have HQ := Lib.hid hq
    clear hu hq
    by_cases hqq : qq = true
    · obtain rfl : qq = true := hqq
      have HU : Hid (D.write (k, FP.files xs) no bb = ((k, FP.files xs), 9)) := Lib.hid (by
        have h1 := of_decide_eq_true HQ.out
        have h2 := HBB.out
        exact D.upd_err hm hj rfl (if_pos (by simp only; rw [← HUF.out] at h1; omega)) (by decide))
      clear hm hj hj1 hj2
      go_enter Try.func26, Try.ntmps26
      go_wp2_with fail
      refine (seek_any k a n c no xs _ _ (dbn w k a n c) (HD.out.below (dbn_on X0.out)) HK.out).mono ?_
      rintro e w1 ⟨rfl, hb1⟩
      have X1 := Lib.hid (X0.out.trans (hb1.mono X0.out.size))
      have KA1 := Lib.hid ((dbn_arg w k a n c).on X1.out)
      have KR1 := Lib.hid ((dbn_res w k a n c).on X1.out)
      clear hb1
      have k0 := dk0 KA1.out
      have k1 := dk1 KA1.out
      go_wp2_with fail
      refine wp_region_held (S := fun w' => w'.cell? ⟨w.heap.size, 0, none⟩ = some (.int .i64 k) ∧ w'.cell? ⟨w.heap.size, 1, none⟩ = some (.slice a n c)) (by kernel_rfl) ?_
      change wpAnyH _ _ _ _ _ _ _ _ (World.drew w1)
      have HS0 : (fun w' : World => w'.cell? ⟨w.heap.size, 0, none⟩ = some (.int .i64 k) ∧ w'.cell? ⟨w.heap.size, 1, none⟩ = some (.slice a n c)) (World.drew w1) := ⟨k0, k1⟩
      refine wpAnyH_take (i := 0) (v := (.slice ab mb cb)) rfl (by kernel_rfl) (by kernel_rfl) (by kernel_rfl) (fun _ _ _ h => h) (.inl ⟨by kernel_rfl, fun w9 hS => by kernel_rfl⟩) HS0 ?_
      refine wpAnyH_take (i := 1) (v := (.int .i64 (mb : Int))) rfl (by kernel_rfl) (by kernel_rfl) (by kernel_rfl) (fun _ _ _ h => h) (.inl ⟨by kernel_rfl, fun w9 hS => by kernel_rfl⟩) HS0 ?_
      refine wpAnyH_take (i := 2) (v := (.pointer (some ⟨w.heap.size, 0, none⟩))) rfl (by kernel_rfl) (by kernel_rfl) (by kernel_rfl) (fun _ _ _ h => h) (.inl ⟨by kernel_rfl, fun w9 hS => by kernel_rfl⟩) HS0 ?_
      refine wpAnyH_take (i := 3) (v := (.int .i64 k)) rfl (by kernel_rfl) (by kernel_rfl) (by kernel_rfl) (fun _ _ _ h => h) (.inl ⟨by kernel_rfl, fun w9 hS => by have c := hS.1; go_simp⟩) HS0 ?_
      refine wpAnyH_take (i := 4) (v := (.agg #[.int .i64 k, .slice a n c])) rfl (by kernel_rfl) (by kernel_rfl) (by kernel_rfl) (fun _ _ _ h => h) (.inl ⟨by kernel_rfl, fun w9 hS => by have c0 := hS.1; have c1 := hS.2; go_simp⟩) HS0 ?_
      refine wpAnyH_call (i := 5) (f := 23) (args := #[.agg #[.int .i64 k, .slice a n c]]) (by kernel_rfl) rfl (by kernel_rfl) (by kernel_rfl) (used_any k a n c xs u _ (HD.out.below (dbn_on X1.out.drew)) HUU.out) ?_
      rintro e w2 ⟨rfl, hb2⟩
      have X2 := Lib.hid (Below.trans X1.out.drew (hb2.mono (Below.size X1.out.drew)))
      have KA2 := Lib.hid ((dbn_arg w k a n c).on X2.out)
      have KR2 := Lib.hid ((dbn_res w k a n c).on X2.out)
      have HS1 : (fun w' : World => w'.cell? ⟨w.heap.size, 0, none⟩ = some (.int .i64 k) ∧ w'.cell? ⟨w.heap.size, 1, none⟩ = some (.slice a n c)) w2 := ⟨dk0 KA2.out, dk1 KA2.out⟩
      refine ⟨_, rfl, HS1, ?_⟩
      refine wpAnyH_take (i := 6) (v := (.int .i64 (k - u))) rfl (by kernel_rfl) (by kernel_rfl) (by kernel_rfl) (fun _ _ _ h => h) (.inl ⟨by kernel_rfl, fun w9 hS => (show _ = Result.ok (.value (.int .i64 (IntKind.i64.wrap (k - u)))) w9 by kernel_rfl).trans (by rw [hwr])⟩) HS1 ?_
      refine wpAnyH_take (i := 7) (v := (.bool true)) rfl (by kernel_rfl) (by kernel_rfl) (by kernel_rfl) (fun _ _ _ h => h) (.inl ⟨by kernel_rfl, fun w9 hS => (show _ = Result.ok (.value (.bool (decide (k - u < (mb : Int))))) w9 by kernel_rfl).trans (by rw [HQ.out])⟩) HS1 ?_
      refine wpAnyH_take (i := 8) (v := (.bool true)) rfl (by kernel_rfl) (by kernel_rfl) (by kernel_rfl) (fun _ _ _ h => h) (.inl ⟨by kernel_rfl, fun w9 hS => by kernel_rfl⟩) HS1 ?_
      refine wpAnyH_done (by kernel_rfl) ?_ _
      simp only [List.getElem_toArray, List.getElem_cons_succ, List.getElem_cons_zero, put_some, List.setIfInBounds_toArray, List.set_cons_succ, List.set_cons_zero]
      clear HS0 HS1 hb2 k0 k1
      have k0 := dk0 KA2.out
      have k1 := dk1 KA2.out
      go_wp2_with fail
      refine (ownD_any k a n c xs w2 (HD.out.below (dbn_on X2.out)) HS.out).mono ?_
      rintro e w3 ⟨a3, n3, c3, zs, rfl, HD3, HF3, HX3, hb3⟩
      clear k0 k1
      have XF := Lib.hid (Below.trans X2.out (hb3.mono (Below.size X2.out)))
      have KRF := Lib.hid ((dbn_res w k a n c).on XF.out)
      have hsz := dbn_lt X2.out
      have hfar : Far (w.heap.size + 1) a3 zs := HX3.out _ (by omega) trivial
      have hfb : ∀ b, b < w.heap.size → Far b a3 zs := fun b hb => HX3.out b (by omega) trivial
      have r0 := dk0 KRF.out
      have r1 := dk1 KRF.out
      have f0 := KRF.out.frozen 0
      have f1 := KRF.out.frozen 1
      clear hb3 hsz
      go_wp2
      refine bodyPost_ret (ret_disk2 (x := .int .i64 9) (g := w.heap.size + 1) rfl k a3 n3 c3 (by kernel_rfl) (by kernel_rfl) KRF.out.put) (by kernel_rfl) ?_
      exact ⟨a3, n3, c3, zs, by rw [HU.out], Lib.hid ((HD3.out.set hfar 0 _).set hfar 1 _), Lib.hid (by rw [HF3.out, HU.out]), Lib.hid fun b hb _ => hfb b hb, below_store (dbn_on XF.out) (Nat.le_succ _) _ _ _ _⟩
    · obtain rfl : qq = false := by simpa using hqq
      have HU : Hid (D.write (k, FP.files xs) no bb = ((k, (FP.files xs).set j (((FP.files xs).getD j D.nof).1, ((FP.files xs).getD j D.nof).2.1 ++ bb, ((FP.files xs).getD j D.nof).2.2)), 0)) := Lib.hid (by
        have h1 := of_decide_eq_false HQ.out
        have h2 := HBB.out
        exact D.upd_ok hm hj rfl (if_neg (by simp only; rw [← HUF.out] at h1; omega)))
      have hfit : Hid ((D.used (FP.files xs) + bb.length : Nat) ≤ 65536) := Lib.hid (by
        have h1 := of_decide_eq_false HQ.out
        have h2 := HBB.out
        have h3 := hm.1.2.1
        rw [← HUF.out] at h1
        simp only at h3
        omega)
      clear hm hj hj1 hj2
      go_enter Try.func26, Try.ntmps26
      go_wp2_with fail
      refine (seek_any k a n c no xs _ _ (dbn w k a n c) (HD.out.below (dbn_on X0.out)) HK.out).mono ?_
      rintro e w1 ⟨rfl, hb1⟩
      have X1 := Lib.hid (X0.out.trans (hb1.mono X0.out.size))
      have KA1 := Lib.hid ((dbn_arg w k a n c).on X1.out)
      have KR1 := Lib.hid ((dbn_res w k a n c).on X1.out)
      clear hb1
      have k0 := dk0 KA1.out
      have k1 := dk1 KA1.out
      go_wp2_with fail
      refine wp_region_held (S := fun w' => w'.cell? ⟨w.heap.size, 0, none⟩ = some (.int .i64 k) ∧ w'.cell? ⟨w.heap.size, 1, none⟩ = some (.slice a n c)) (by kernel_rfl) ?_
      change wpAnyH _ _ _ _ _ _ _ _ (World.drew w1)
      have HS0 : (fun w' : World => w'.cell? ⟨w.heap.size, 0, none⟩ = some (.int .i64 k) ∧ w'.cell? ⟨w.heap.size, 1, none⟩ = some (.slice a n c)) (World.drew w1) := ⟨k0, k1⟩
      refine wpAnyH_take (i := 0) (v := (.slice ab mb cb)) rfl (by kernel_rfl) (by kernel_rfl) (by kernel_rfl) (fun _ _ _ h => h) (.inl ⟨by kernel_rfl, fun w9 hS => by kernel_rfl⟩) HS0 ?_
      refine wpAnyH_take (i := 1) (v := (.int .i64 (mb : Int))) rfl (by kernel_rfl) (by kernel_rfl) (by kernel_rfl) (fun _ _ _ h => h) (.inl ⟨by kernel_rfl, fun w9 hS => by kernel_rfl⟩) HS0 ?_
      refine wpAnyH_take (i := 2) (v := (.pointer (some ⟨w.heap.size, 0, none⟩))) rfl (by kernel_rfl) (by kernel_rfl) (by kernel_rfl) (fun _ _ _ h => h) (.inl ⟨by kernel_rfl, fun w9 hS => by kernel_rfl⟩) HS0 ?_
      refine wpAnyH_take (i := 3) (v := (.int .i64 k)) rfl (by kernel_rfl) (by kernel_rfl) (by kernel_rfl) (fun _ _ _ h => h) (.inl ⟨by kernel_rfl, fun w9 hS => by have c := hS.1; go_simp⟩) HS0 ?_
      refine wpAnyH_take (i := 4) (v := (.agg #[.int .i64 k, .slice a n c])) rfl (by kernel_rfl) (by kernel_rfl) (by kernel_rfl) (fun _ _ _ h => h) (.inl ⟨by kernel_rfl, fun w9 hS => by have c0 := hS.1; have c1 := hS.2; go_simp⟩) HS0 ?_
      refine wpAnyH_call (i := 5) (f := 23) (args := #[.agg #[.int .i64 k, .slice a n c]]) (by kernel_rfl) rfl (by kernel_rfl) (by kernel_rfl) (used_any k a n c xs u _ (HD.out.below (dbn_on X1.out.drew)) HUU.out) ?_
      rintro e w2 ⟨rfl, hb2⟩
      have X2 := Lib.hid (Below.trans X1.out.drew (hb2.mono (Below.size X1.out.drew)))
      have KA2 := Lib.hid ((dbn_arg w k a n c).on X2.out)
      have KR2 := Lib.hid ((dbn_res w k a n c).on X2.out)
      have HS1 : (fun w' : World => w'.cell? ⟨w.heap.size, 0, none⟩ = some (.int .i64 k) ∧ w'.cell? ⟨w.heap.size, 1, none⟩ = some (.slice a n c)) w2 := ⟨dk0 KA2.out, dk1 KA2.out⟩
      refine ⟨_, rfl, HS1, ?_⟩
      refine wpAnyH_take (i := 6) (v := (.int .i64 (k - u))) rfl (by kernel_rfl) (by kernel_rfl) (by kernel_rfl) (fun _ _ _ h => h) (.inl ⟨by kernel_rfl, fun w9 hS => (show _ = Result.ok (.value (.int .i64 (IntKind.i64.wrap (k - u)))) w9 by kernel_rfl).trans (by rw [hwr])⟩) HS1 ?_
      refine wpAnyH_take (i := 7) (v := (.bool false)) rfl (by kernel_rfl) (by kernel_rfl) (by kernel_rfl) (fun _ _ _ h => h) (.inl ⟨by kernel_rfl, fun w9 hS => (show _ = Result.ok (.value (.bool (decide (k - u < (mb : Int))))) w9 by kernel_rfl).trans (by rw [HQ.out])⟩) HS1 ?_
      refine wpAnyH_take (i := 8) (v := (.bool false)) rfl (by kernel_rfl) (by kernel_rfl) (by kernel_rfl) (fun _ _ _ h => h) (.inl ⟨by kernel_rfl, fun w9 hS => by kernel_rfl⟩) HS1 ?_
      refine wpAnyH_done (by kernel_rfl) ?_ _
      simp only [List.getElem_toArray, List.getElem_cons_succ, List.getElem_cons_zero, put_some, List.setIfInBounds_toArray, List.set_cons_succ, List.set_cons_zero]
      clear HS0 HS1 hb2 k0 k1
      have k0 := dk0 KA2.out
      have k1 := dk1 KA2.out
      obtain ⟨b1, o1, no1, a1, n1, c1, L1, s1, rfl, hb1, hx, p0, p1, p2, hok⟩ := (((HD.out.below (dbn_on X2.out))).2.1).at (i := j) (by rw [HD.out.1]; exact hjn)
      have HX := Lib.hid hx
      have HOK := Lib.hid hok
      clear hx hok
      have hle : L1.length + mb ≤ 65536 := by
        have h1 := hfit.out
        have h2 := used_take HX.out
        have h3 := used_take_le xs (j + 1)
        have h4 := HBB.out
        simp only at h2
        omega
      have h1n : L1.length = n1 := HOK.out.1
      have hc1 : n1 ≤ c1 ∧ c1 ≤ maxLen := by have h1 := HOK.out.2.1.1; simp only at h1; omega
      have hsl : ∀ w, (Instr.sliceAt 25 (.slice a1 n1 c1) none (some (.int .i64 (n1 : Int))) (some (.int .i64 (n1 : Int)))).run Try.prog w = .ok (.slice (sl a1 0 n1) n1 n1) w := fun w => sliceB_hm a1 w (Nat.le_refl _) hc1.1
      have hbf := fbox_below w2 no1 a1 n1 c1 s1
      have hrow : RowIn .u8 (fbox w2 no1 a1 n1 c1 s1) (sl a1 0 n1) n1 L1 := by
        have h2 := row_sliced (HOK.out.2.1.below hbf) (l := 0) (h := n1) (m := n1) (Nat.zero_le _) (by simp only; omega) (Nat.le_refl _) (by omega)
        simp only [List.drop_zero, Nat.sub_zero] at h2
        rwa [List.take_of_length_le (by omega)] at h2
      have hold : L1 = [] ∨ ∀ y, sl a1 0 n1 = some y → y.block ≠ w2.heap.size := by
        rcases HOK.out.2.1.2.2 with h0 | ⟨bb', off, he, hlt, _⟩
        · exact .inl h0
        · refine .inr ?_
          intro y hy hyb
          simp only at he
          unfold sl at hy
          rw [he] at hy
          split at hy
          · cases hy; simp only at hyb; omega
          · simp only [Option.map_some, Option.some.injEq] at hy; rw [← hy, WideShapes.add_plain] at hyb; simp only at hyb; omega
      have XF0 := Below.trans X2.out (hbf.mono X2.out.size)
      obtain ⟨av, cv, wg, hrun, hrv, hzv, hbg, hfv⟩ := appendB_full 25 h1n hrow (fun h => by have h2 := HOK.out.2.2 (sl_none h); simp only at h2; omega) (HBR.out.below (dbn_on XF0)) HBB.out HBZ.out (by omega)
      have hfv2 := hfv w2.heap.size (by rw [fbox_size]; omega) hold
      have XG := Below.trans XF0 (hbg.mono XF0.size)
      have KF := (fbox_blok w2 no1 a1 n1 c1 s1).on hbg
      have hgr := setCell_grown wg w2.heap.size 1 (.slice av (n1 + mb) cv)
      have hlt2 := dbn_lt X2.out
      have KFh : Blok (wg.setCell ⟨w2.heap.size, 1, none⟩ (.slice av (n1 + mb) cv)) w2.heap.size 43 #[.int .i64 no1, .slice av (n1 + mb) cv, .int .i64 s1] := by simpa using KF.set 1 (.slice av (n1 + mb) cv)
      have KAh := ((dbn_arg w k (some ⟨b1, o1, none⟩) n c).on XG).grown hgr (by simp; omega)
      have XH := XG.setCell (p := ⟨w2.heap.size, 1, none⟩) X2.out.size (.slice av (n1 + mb) cv)
      have HRh : RowIn .u8 (wg.setCell ⟨w2.heap.size, 1, none⟩ (.slice av (n1 + mb) cv)) av cv (L1 ++ bb) := row_set hrv hfv2 1 _
      have ka0 : ∀ o, (w2.alloc o).cell? ⟨w.heap.size, 0, none⟩ = some (.int .i64 k) := fun o => dk0 (KA2.out.alloc o)
      have ka1 : ∀ o, (w2.alloc o).cell? ⟨w.heap.size, 1, none⟩ = some (.slice (some ⟨b1, o1, none⟩) n c) := fun o => dk1 (KA2.out.alloc o)
      have q1 := fk1 KF
      have q2 := KF.frozen 1
      have h0 := dk0 KAh
      have h1 := dk1 KAh
      have u0 := fk0 KFh
      have u1 := fk1 KFh
      have u2 := fk2 KFh
      go_wp2_with (at_builtin; refine wpList_append_run (v' := .slice av (n1 + mb) cv) (w' := wg) rfl rfl rfl rfl hrun ?_)
      have HOK2 : FP.ok (wg.setCell ⟨w2.heap.size, 1, none⟩ (.slice av (n1 + mb) cv)) ⟨no1, av, n1 + mb, cv, L1 ++ bb, s1⟩ := ⟨by simp [h1n, HBB.out], HRh, hzv⟩
      have HY : DiskIn ((wg.setCell ⟨w2.heap.size, 1, none⟩ (.slice av (n1 + mb) cv)).alloc (.cells #[.int .i64 no1, .slice av (n1 + mb) cv, .int .i64 s1] 43)) (some ⟨wg.heap.size, 0, none⟩) 1 1 [⟨no1, av, n1 + mb, cv, L1 ++ bb, s1⟩] := by
        have h1 := one_file HOK2
        rwa [show (wg.setCell ⟨w2.heap.size, 1, none⟩ (.slice av (n1 + mb) cv)).heap.size = wg.heap.size by simp] at h1
      have XB := XH.alloc XH.size (.cells #[.int .i64 no1, .slice av (n1 + mb) cv, .int .i64 s1] 43)
      have hsm : D.small (FP.files (xs.take j ++ [⟨no1, av, n1 + mb, cv, L1 ++ bb, s1⟩] ++ xs.drop (j + 1))) := by
        rw [set_parts xs j _ HLT.out]
        refine small_set HS.out j _ ?_
        simp only [FP.file, List.length_append, HBB.out]
        omega
      refine (with_at k (some ⟨b1, o1, none⟩) n c j (j + 1) _ _ _ 1 1 xs [⟨no1, av, n1 + mb, cv, L1 ++ bb, s1⟩] _ rfl (by simp) (HD.out.below (dbn_on XB)) HY (by omega) (by omega) (by omega) hsm).mono ?_
      rintro e w3 ⟨a3, n3, c3, zs, rfl, HD3, HF3, HX3, hb3⟩
      clear k0 k1 p0 p1 p2 q1 q2 h0 h1 u0 u1 u2
      have XF := Lib.hid (Below.trans XB (hb3.mono (Below.size XB)))
      have KRF := Lib.hid ((dbn_res w k (some ⟨b1, o1, none⟩) n c).on XF.out)
      have hsz := dbn_lt XB
      have hfar : Far (w.heap.size + 1) a3 zs := HX3.out _ (by omega) trivial
      have hfb : ∀ b, b < w.heap.size → Far b a3 zs := fun b hb => HX3.out b (by omega) trivial
      have r0 := dk0 KRF.out
      have r1 := dk1 KRF.out
      have f0 := KRF.out.frozen 0
      have f1 := KRF.out.frozen 1
      clear hb3 hsz ka0 ka1 HY hsm hsl hrun hrow hold hfv hfv2 HOK2 HRh
      go_wp2
      refine bodyPost_ret (ret_disk2 (x := .int .i64 0) (g := w.heap.size + 1) rfl k a3 n3 c3 (by kernel_rfl) (by kernel_rfl) KRF.out.put) (by kernel_rfl) ?_
      exact ⟨a3, n3, c3, zs, by rw [HU.out], Lib.hid ((HD3.out.set hfar 0 _).set hfar 1 _), Lib.hid (by rw [HF3.out, HU.out, set_parts xs j _ HLT.out, FP.files_at HX.out]; rfl), Lib.hid fun b hb _ => hfb b hb, below_store (dbn_on XF.out) (Nat.le_succ _) _ _ _ _⟩
  · have HU : Hid (D.write (k, FP.files xs) no bb = ((k, FP.files xs), e0)) := Lib.hid (by unfold D.write; exact seek_bad HK.out he _)
    have hne : (e0 != 0) = true := by simpa using he
    clear he
    go_enter Try.func26, Try.ntmps26
    go_wp2_with fail
    refine (seek_any k a n c no xs _ _ (dbn w k a n c) (HD.out.below (dbn_on X0.out)) HK.out).mono ?_
    rintro e w1 ⟨rfl, hb1⟩
    have X1 := Lib.hid (X0.out.trans (hb1.mono X0.out.size))
    have KA1 := Lib.hid ((dbn_arg w k a n c).on X1.out)
    have KR1 := Lib.hid ((dbn_res w k a n c).on X1.out)
    clear hb1
    have k0 := dk0 KA1.out
    have k1 := dk1 KA1.out
    go_wp2_with fail
    refine (ownD_any k a n c xs w1 (HD.out.below (dbn_on X1.out)) HS.out).mono ?_
    rintro e w2 ⟨a3, n3, c3, zs, rfl, HD3, HF3, HX3, hb2⟩
    clear k0 k1
    have XF := Lib.hid (Below.trans X1.out (hb2.mono (Below.size X1.out)))
    have KRF := Lib.hid ((dbn_res w k a n c).on XF.out)
    have hsz := dbn_lt X1.out
    have hfar : Far (w.heap.size + 1) a3 zs := HX3.out _ (by omega) trivial
    have hfb : ∀ b, b < w.heap.size → Far b a3 zs := fun b hb => HX3.out b (by omega) trivial
    have r0 := dk0 KRF.out
    have r1 := dk1 KRF.out
    have f0 := KRF.out.frozen 0
    have f1 := KRF.out.frozen 1
    clear hb2 hsz
    go_wp2
    refine bodyPost_ret (ret_disk2 (x := .int .i64 e0) (g := w.heap.size + 1) rfl k a3 n3 c3 (by kernel_rfl) (by kernel_rfl) KRF.out.put) (by kernel_rfl) ?_
    exact ⟨a3, n3, c3, zs, by rw [HU.out], Lib.hid ((HD3.out.set hfar 0 _).set hfar 1 _), Lib.hid (by rw [HF3.out, HU.out]), Lib.hid fun b hb _ => hfb b hb, below_store (dbn_on XF.out) (Nat.le_succ _) _ _ _ _⟩

end Go.Proofs.Ytcabhibbajkpkaa
