/-
  A walk of the document's Cut.
-/
import Derived.Test.YtcabhibbajkpkaaDRefSync
import Derived.Test.YtcabhibbajkpkaaDCut
namespace Go.Proofs.Ytcabhibbajkpkaa
open Go.RowKit

set_option maxRecDepth 100000 in
set_option maxHeartbeats 400000 in
theorem refCut_any (P : Nat → Prop) (k : Int) (a : Option Addr) (n c : Nat) (no N : Int) (xs : List FP) (w : World) (hd : DiskIn w a n c xs) (hs : D.small (FP.files xs)) (hP : ∀ b, b < w.heap.size → P b → Far b a xs) :
    Calls Try.prog 34 #[.agg #[.int .i64 k, .slice a n c], .int .i64 no, .int .i64 N] w (RetE P (D.cut (k, FP.files xs) no N) w) := by
  have HD := Lib.hid hd
  have HS := Lib.hid hs
  have HFA := Lib.hid (far_all hd hP)
  have hcap := hd.caps
  have hml : maxLen ≤ 9223372036854775807 := by decide
  have KA := Lib.hid (dbn_arg w k a n c)
  have KR := Lib.hid (dbn_res w k a n c)
  have X0 : Hid (Below (dbn w k a n c).heap.size (dbn w k a n c) (dbn w k a n c)) := Lib.hid (Below.refl _ _)
  have h14 : n ≤ 14 := by have h1 := hs.1; simp only [FP.files_len, hd.1] at h1; exact h1
  obtain ⟨i, e0, hk⟩ : ∃ i e, seekOf (k, FP.files xs) no = (i, e) := ⟨_, _, rfl⟩
  have HK := Lib.hid hk
  clear hd hs hk hP
  by_cases he : e0 = 0
  · subst he
    obtain ⟨hm, j, rfl, hj⟩ := seek_good HK.out
    obtain ⟨hj1, hj2⟩ := D.idx_some hj
    have hjn : j < n := by rw [FP.files_len, HD.out.1] at hj1; exact hj1
    have HLT : Hid (j < xs.length) := Lib.hid (by rw [HD.out.1]; exact hjn)
    obtain ⟨x0, hx0⟩ : ∃ x, xs[j]? = some x := ⟨_, List.getElem?_eq_getElem HLT.out⟩
    have HX0 := Lib.hid hx0
    have HOK0 : Hid (x0.B.length = x0.n) := Lib.hid (HD.out.2.1.2.1 _ (List.mem_of_getElem? hx0)).1
    clear hx0
    obtain ⟨nx, hnx⟩ : ∃ nx, x0.n = nx := ⟨_, rfl⟩
    have HNX := Lib.hid hnx
    rw [hnx] at HOK0
    clear hj1 hj2 hnx
    by_cases hN : N < 0
    · have HU : Hid (D.cut (k, FP.files xs) no N = ((k, FP.files xs), 1)) := Lib.hid (by
        exact D.upd_err hm hj (FP.files_at HX0.out) (if_pos (by simp only [FP.file]; have := HOK0.out; omega)) (by decide))
      clear hm hj
      have d1 : decide (N < 0) = true := by simp; omega
      go_enter Try.func34, Try.ntmps34
      go_wp2_with fail
      refine (refAt_any k a n c no xs _ _ (dbn w k a n c) (HD.out.below (dbn_on X0.out)) HS.out HK.out).mono ?_
      rintro e w1 ⟨rfl, hb1⟩
      have X1 := Lib.hid (X0.out.trans (hb1.mono X0.out.size))
      have KA1 := Lib.hid ((dbn_arg w k a n c).on X1.out)
      have KR1 := Lib.hid ((dbn_res w k a n c).on X1.out)
      clear hb1
      have k0 := dk0 KA1.out
      have k1 := dk1 KA1.out
      obtain ⟨b1, o1, no1, a1, n1, c1, L1, s1, rfl, hb1, hx, p0, p1, p2, hok⟩ := (((HD.out.below (dbn_on X1.out))).2.1).at (i := j) (by rw [HD.out.1]; exact hjn)
      have HX := Lib.hid hx
      have HOK := Lib.hid hok
      clear hx hok
      have HE : Hid (x0 = ⟨no1, a1, n1, c1, L1, s1⟩) := Lib.hid (by have h1 := HX0.out.symm.trans HX.out; simpa using h1)
      have hnn : nx = n1 := by have h1 := HNX.out; rw [HE.out] at h1; exact h1.symm
      subst hnn
      have ka0 : ∀ o, (w1.alloc o).cell? ⟨w.heap.size, 0, none⟩ = some (.int .i64 k) := fun o => dk0 (KA1.out.alloc o)
      have ka1 : ∀ o, (w1.alloc o).cell? ⟨w.heap.size, 1, none⟩ = some (.slice (some ⟨b1, o1, none⟩) n c) := fun o => dk1 (KA1.out.alloc o)
      have r0 : ∀ o, (w1.alloc o).cell? ⟨w.heap.size + 1, 0, none⟩ = some (.int .i64 0) := fun o => dk0 (KR1.out.alloc o)
      have r1 : ∀ o, (w1.alloc o).cell? ⟨w.heap.size + 1, 1, none⟩ = some (.slice none 0 0) := fun o => dk1 (KR1.out.alloc o)
      have f0 : ∀ o, (w1.alloc o).frozen? ⟨w.heap.size + 1, 0, none⟩ = false := fun o => (KR1.out.alloc o).frozen 0
      have f1 : ∀ o, (w1.alloc o).frozen? ⟨w.heap.size + 1, 1, none⟩ = false := fun o => (KR1.out.alloc o).frozen 1
      have hfar : Far (w.heap.size + 1) (some ⟨b1, o1, none⟩) xs := HFA.out _ (.inr (by omega))
      have XA : ∀ o, Below w.heap.size w (w1.alloc o) := fun o => dbn_on (X1.out.alloc X1.out.size o)
      go_wp2
      refine bodyPost_ret (ret_disk2 (x := .int .i64 1) (g := w.heap.size + 1) rfl k (some ⟨b1, o1, none⟩) n c (by kernel_rfl) (by kernel_rfl) (KR1.out.alloc _).put) (by kernel_rfl) ?_
      exact ⟨some ⟨b1, o1, none⟩, n, c, xs, by rw [HU.out], Lib.hid (((HD.out.below (XA _)).set hfar 0 _).set hfar 1 _), Lib.hid (by rw [HU.out]), Lib.hid fun b hb hp => HFA.out b (.inl hp), below_store (XA _) (Nat.le_succ _) _ _ _ _⟩
    · by_cases hN2 : (nx : Int) < N
      · have HU : Hid (D.cut (k, FP.files xs) no N = ((k, FP.files xs), 1)) := Lib.hid (by
          exact D.upd_err hm hj (FP.files_at HX0.out) (if_pos (by simp only [FP.file]; have := HOK0.out; omega)) (by decide))
        clear hm hj
        have d1 : decide (N < 0) = false := by simp; omega
        go_enter Try.func34, Try.ntmps34
        go_wp2_with fail
        refine (refAt_any k a n c no xs _ _ (dbn w k a n c) (HD.out.below (dbn_on X0.out)) HS.out HK.out).mono ?_
        rintro e w1 ⟨rfl, hb1⟩
        have X1 := Lib.hid (X0.out.trans (hb1.mono X0.out.size))
        have KA1 := Lib.hid ((dbn_arg w k a n c).on X1.out)
        have KR1 := Lib.hid ((dbn_res w k a n c).on X1.out)
        clear hb1
        have k0 := dk0 KA1.out
        have k1 := dk1 KA1.out
        obtain ⟨b1, o1, no1, a1, n1, c1, L1, s1, rfl, hb1, hx, p0, p1, p2, hok⟩ := (((HD.out.below (dbn_on X1.out))).2.1).at (i := j) (by rw [HD.out.1]; exact hjn)
        have HX := Lib.hid hx
        have HOK := Lib.hid hok
        clear hx hok
        have HE : Hid (x0 = ⟨no1, a1, n1, c1, L1, s1⟩) := Lib.hid (by have h1 := HX0.out.symm.trans HX.out; simpa using h1)
        have hnn : nx = n1 := by have h1 := HNX.out; rw [HE.out] at h1; exact h1.symm
        subst hnn
        have ka0 : ∀ o, (w1.alloc o).cell? ⟨w.heap.size, 0, none⟩ = some (.int .i64 k) := fun o => dk0 (KA1.out.alloc o)
        have ka1 : ∀ o, (w1.alloc o).cell? ⟨w.heap.size, 1, none⟩ = some (.slice (some ⟨b1, o1, none⟩) n c) := fun o => dk1 (KA1.out.alloc o)
        have d2 : decide ((nx : Int) < N) = true := by simp; omega
        have r0 : ∀ o, (w1.alloc o).cell? ⟨w.heap.size + 1, 0, none⟩ = some (.int .i64 0) := fun o => dk0 (KR1.out.alloc o)
        have r1 : ∀ o, (w1.alloc o).cell? ⟨w.heap.size + 1, 1, none⟩ = some (.slice none 0 0) := fun o => dk1 (KR1.out.alloc o)
        have f0 : ∀ o, (w1.alloc o).frozen? ⟨w.heap.size + 1, 0, none⟩ = false := fun o => (KR1.out.alloc o).frozen 0
        have f1 : ∀ o, (w1.alloc o).frozen? ⟨w.heap.size + 1, 1, none⟩ = false := fun o => (KR1.out.alloc o).frozen 1
        have hfar : Far (w.heap.size + 1) (some ⟨b1, o1, none⟩) xs := HFA.out _ (.inr (by omega))
        have XA : ∀ o, Below w.heap.size w (w1.alloc o) := fun o => dbn_on (X1.out.alloc X1.out.size o)
        go_wp2
        refine bodyPost_ret (ret_disk2 (x := .int .i64 1) (g := w.heap.size + 1) rfl k (some ⟨b1, o1, none⟩) n c (by kernel_rfl) (by kernel_rfl) (KR1.out.alloc _).put) (by kernel_rfl) ?_
        exact ⟨some ⟨b1, o1, none⟩, n, c, xs, by rw [HU.out], Lib.hid (((HD.out.below (XA _)).set hfar 0 _).set hfar 1 _), Lib.hid (by rw [HU.out]), Lib.hid fun b hb hp => HFA.out b (.inl hp), below_store (XA _) (Nat.le_succ _) _ _ _ _⟩
      · obtain ⟨m, rfl⟩ : ∃ m : Nat, N = m := ⟨N.toNat, by omega⟩
        have HU : Hid (D.cut (k, FP.files xs) no (m : Int) = ((k, (FP.files xs).set j (x0.no, x0.B.take m, (m : Int))), 0)) := Lib.hid (by
          exact D.upd_ok hm hj (FP.files_at HX0.out) (if_neg (by simp only [FP.file]; have := HOK0.out; omega)))
        clear hm hj
        have d1 : decide ((m : Int) < 0) = false := by simp
        go_enter Try.func34, Try.ntmps34
        go_wp2_with fail
        refine (refAt_any k a n c no xs _ _ (dbn w k a n c) (HD.out.below (dbn_on X0.out)) HS.out HK.out).mono ?_
        rintro e w1 ⟨rfl, hb1⟩
        have X1 := Lib.hid (X0.out.trans (hb1.mono X0.out.size))
        have KA1 := Lib.hid ((dbn_arg w k a n c).on X1.out)
        have KR1 := Lib.hid ((dbn_res w k a n c).on X1.out)
        clear hb1
        have k0 := dk0 KA1.out
        have k1 := dk1 KA1.out
        obtain ⟨b1, o1, no1, a1, n1, c1, L1, s1, rfl, hb1, hx, p0, p1, p2, hok⟩ := (((HD.out.below (dbn_on X1.out))).2.1).at (i := j) (by rw [HD.out.1]; exact hjn)
        have HX := Lib.hid hx
        have HOK := Lib.hid hok
        clear hx hok
        have HE : Hid (x0 = ⟨no1, a1, n1, c1, L1, s1⟩) := Lib.hid (by have h1 := HX0.out.symm.trans HX.out; simpa using h1)
        have hnn : nx = n1 := by have h1 := HNX.out; rw [HE.out] at h1; exact h1.symm
        subst hnn
        have ka0 : ∀ o, (w1.alloc o).cell? ⟨w.heap.size, 0, none⟩ = some (.int .i64 k) := fun o => dk0 (KA1.out.alloc o)
        have ka1 : ∀ o, (w1.alloc o).cell? ⟨w.heap.size, 1, none⟩ = some (.slice (some ⟨b1, o1, none⟩) n c) := fun o => dk1 (KA1.out.alloc o)
        have d2 : decide ((nx : Int) < (m : Int)) = false := by simp; omega
        have hmn : m ≤ nx := by omega
        have hc1 : nx ≤ c1 ∧ c1 ≤ maxLen := by have h1 := HOK.out.2.1.1; have h2 := HOK.out.1; simp only at h1 h2; omega
        have hsl : ∀ w, (Instr.sliceAt 25 (.slice a1 nx c1) none (some (.int .i64 (m : Int))) none).run Try.prog w = .ok (.slice (sl a1 0 c1) m c1) w := fun w => sliceB_h a1 w (by omega)
        obtain ⟨W, hW⟩ : ∃ W, w1.alloc (.cells #[.int .i64 no1, .slice a1 nx c1, .int .i64 s1] 43) = W := ⟨_, rfl⟩
        have BW : Below w1.heap.size w1 W := by rw [← hW]; exact (Below.refl _ w1).alloc (Nat.le_refl _) _
        have KFW : Blok W w1.heap.size 43 #[.int .i64 no1, .slice a1 nx c1, .int .i64 s1] := by rw [← hW]; exact Blok.new w1 _ _
        have hWs : W.heap.size = w1.heap.size + 1 := by rw [← hW]; simp
        have hRW : RowIn .u8 W (sl a1 0 c1) c1 (L1.take m) := by
          have h1 := HOK.out.1
          simp only at h1
          have h2 := row_sliced HOK.out.2.1 (l := 0) (h := m) (m := c1) (by omega) (by rw [h1]; exact hmn) (by omega) hc1.2
          have h3 : RowIn .u8 w1 (sl a1 0 c1) c1 (L1.take m) := by simpa using h2
          exact h3.below BW
        have hML : (L1.take m).length = m := by have h1 := HOK.out.1; simp only at h1; simp; omega
        have hm7 : m ≤ 70000 := by
          have h1 := HS.out.2 (FP.file ⟨no1, a1, nx, c1, L1, s1⟩) (List.mem_map.2 ⟨_, List.mem_of_getElem? HX.out, rfl⟩)
          have h2 := HOK.out.1
          simp only [FP.file] at h1 h2
          omega
        obtain ⟨a5, c5, w2, hrun, hr5, hz5, hB2, hnb⟩ := appendB_full (w := W) 25 (a := none) (n := 0) (L := []) rfl ⟨⟨Nat.le_refl _, Nat.zero_le _⟩, by simp, .inl rfl⟩ (fun _ => rfl) hRW hML (fun hn => by have h3 := HOK.out.2.2 (sl_none hn); simp only at h3; omega) (by omega)
        rw [Nat.zero_add] at hrun hz5
        rw [List.nil_append] at hr5
        have HNB : Hid (∀ b, b < w1.heap.size + 1 → (L1.take m = [] ∨ ∀ y, a5 = some y → y.block ≠ b)) := Lib.hid (fun b hb => by have h1 := hnb b (by omega) (.inl rfl); rwa [List.nil_append] at h1)
        have hsz := dbn_lt X1.out
        have KF2 := Lib.hid (KFW.on hB2)
        have KF3 : Hid (Blok (w2.setCell ⟨w1.heap.size, 1, none⟩ (.slice a5 m c5)) w1.heap.size 43 #[.int .i64 no1, .slice a5 m c5, .int .i64 s1]) := Lib.hid (by simpa using KF2.out.set 1 (.slice a5 m c5))
        have KF4 : Hid (Blok ((w2.setCell ⟨w1.heap.size, 1, none⟩ (.slice a5 m c5)).setCell ⟨w1.heap.size, 2, none⟩ (.int .i64 (m : Int))) w1.heap.size 43 #[.int .i64 no1, .slice a5 m c5, .int .i64 (m : Int)]) := Lib.hid (by simpa using KF3.out.set 2 (.int .i64 (m : Int)))
        have BW2 := BW.trans (hB2.mono BW.size)
        have hg1 := setCell_grown w2 w1.heap.size 1 (.slice a5 m c5)
        have hg2 := setCell_grown (w2.setCell ⟨w1.heap.size, 1, none⟩ (.slice a5 m c5)) w1.heap.size 2 (.int .i64 (m : Int))
        have KA4 := Lib.hid (((KA1.out.on BW2).grown hg1 (by simp; omega)).grown hg2 (by simp; omega))
        have B4 := Lib.hid ((BW2.setCell (p := ⟨w1.heap.size, 1, none⟩) (Nat.le_refl _) (.slice a5 m c5)).setCell (p := ⟨w1.heap.size, 2, none⟩) (Nat.le_refl _) (.int .i64 (m : Int)))
        have hne1 := HNB.out w1.heap.size (by omega)
        have HOK4 : Hid (FP.ok ((w2.setCell ⟨w1.heap.size, 1, none⟩ (.slice a5 m c5)).setCell ⟨w1.heap.size, 2, none⟩ (.int .i64 (m : Int))) ⟨no1, a5, m, c5, L1.take m, m⟩) := Lib.hid ⟨hML, row_set (row_set hr5 hne1 1 _) hne1 2 _, fun ha => hz5 ha⟩
        have q1 := fk1 KF2.out
        have z1 := KF2.out.frozen 1
        have q2 := fk2 KF3.out
        have z2 := KF3.out.frozen 2
        have y0 := fk0 KF4.out
        have y1 := fk1 KF4.out
        have y2 := fk2 KF4.out
        have u0 := dk0 KA4.out
        have u1 := dk1 KA4.out
        clear hnb hr5 hz5 hB2 BW2 hg1 hg2 hne1 BW KFW hRW hML hm7
        subst hW
        go_wp2_with (at_builtin; refine wpList_append_run (v' := .slice a5 m c5) (w' := w2) rfl rfl rfl rfl hrun ?_)
        refine (refWith_any (fun b => b < w1.heap.size ∧ orNew P w b) k (some ⟨b1, o1, none⟩) n c j no1 a5 m c5 (L1.take m) m xs _ (HD.out.below (dbn_on (X1.out.trans (B4.out.mono X1.out.size)))) HOK4.out hjn (by omega) (fun b _ hb => ⟨HFA.out b hb.2, HNB.out b (by omega)⟩)).mono ?_
        rintro e w3 ⟨a3, n3, c3, zs, rfl, HD3, HF3, HX3, hb3⟩
        have XA := X1.out.trans (B4.out.mono X1.out.size)
        have XF := Lib.hid (Below.trans XA (hb3.mono (Below.size XA)))
        have KRF := Lib.hid ((dbn_res w k (some ⟨b1, o1, none⟩) n c).on XF.out)
        have hs4 := B4.out.size
        have hfar : Far (w.heap.size + 1) a3 zs := HX3.out _ (by omega) ⟨by omega, .inr (by omega)⟩
        have hfb : ∀ b, b < w.heap.size → P b → Far b a3 zs := fun b hb hp => HX3.out b (by omega) ⟨by omega, .inl hp⟩
        have r0 := dk0 KRF.out
        have r1 := dk1 KRF.out
        have f0 := KRF.out.frozen 0
        have f1 := KRF.out.frozen 1
        clear k0 k1 p0 p1 p2 ka0 ka1 q1 z1 q2 z2 y0 y1 y2 u0 u1 hrun hb3 hs4 hsz
        go_wp2
        refine bodyPost_ret (ret_disk2 (x := .int .i64 0) (g := w.heap.size + 1) rfl k a3 n3 c3 (by kernel_rfl) (by kernel_rfl) KRF.out.put) (by kernel_rfl) ?_
        exact ⟨a3, n3, c3, zs, by rw [HU.out], Lib.hid ((HD3.out.set hfar 0 _).set hfar 1 _), Lib.hid (by rw [HF3.out, HU.out, HE.out]), Lib.hid fun b hb hp => hfb b hb hp, below_store (dbn_on XF.out) (Nat.le_succ _) _ _ _ _⟩
  · have HU : Hid (D.cut (k, FP.files xs) no N = ((k, FP.files xs), e0)) := Lib.hid (by unfold D.cut; exact seek_bad HK.out he _)
    have hne : (e0 != 0) = true := by simpa using he
    clear he
    go_enter Try.func34, Try.ntmps34
    go_wp2_with fail
    refine (refAt_any k a n c no xs _ _ (dbn w k a n c) (HD.out.below (dbn_on X0.out)) HS.out HK.out).mono ?_
    rintro e w1 ⟨rfl, hb1⟩
    have X1 := Lib.hid (X0.out.trans (hb1.mono X0.out.size))
    have KA1 := Lib.hid ((dbn_arg w k a n c).on X1.out)
    have KR1 := Lib.hid ((dbn_res w k a n c).on X1.out)
    clear hb1
    have k0 := dk0 KA1.out
    have k1 := dk1 KA1.out
    have hfar : Far (w.heap.size + 1) a xs := HFA.out _ (.inr (by omega))
    have r0 := dk0 KR1.out
    have r1 := dk1 KR1.out
    have f0 := KR1.out.frozen 0
    have f1 := KR1.out.frozen 1
    go_wp2
    refine bodyPost_ret (ret_disk2 (x := .int .i64 e0) (g := w.heap.size + 1) rfl k a n c (by kernel_rfl) (by kernel_rfl) KR1.out.put) (by kernel_rfl) ?_
    exact ⟨a, n, c, xs, by rw [HU.out], Lib.hid (((HD.out.below (dbn_on X1.out)).set hfar 0 _).set hfar 1 _), Lib.hid (by rw [HU.out]), Lib.hid fun b hb hp => HFA.out b (.inl hp), below_store (dbn_on X1.out) (Nat.le_succ _) _ _ _ _⟩
end Go.Proofs.Ytcabhibbajkpkaa
