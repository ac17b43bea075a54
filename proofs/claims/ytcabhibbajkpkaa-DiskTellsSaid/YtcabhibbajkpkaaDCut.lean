/-
  Walks of moorings/disk.Drop, Cut.
-/
import Derived.Test.YtcabhibbajkpkaaDSync
namespace Go.Proofs.Ytcabhibbajkpkaa
open Go.RowKit

theorem drop_bad {d : D.T} {no i e : Int} (h : seekOf d no = (i, e)) (he : e ≠ 0) : D.drop d no = (d, e) := by
  unfold seekOf at h
  unfold D.drop
  split at h
  · rename_i hm
    rw [if_pos hm]
    cases hi : D.idx d.2 no with
    | none => simp only [hi, Prod.mk.injEq] at h ⊢; exact ⟨trivial, h.2⟩
    | some j => simp only [hi, Prod.mk.injEq] at h; exact absurd h.2.symm he
  · rename_i hm
    rw [if_neg hm]
    simp only [Prod.mk.injEq] at h ⊢; exact ⟨trivial, h.2⟩
theorem small_drop {l : List D.F} (hs : D.small l) (j : Nat) : D.small (l.take j ++ l.drop (j + 1)) := by
  refine ⟨by have := hs.1; simp; omega, fun g hg => ?_⟩
  rcases List.mem_append.1 hg with h | h
  · exact hs.2 g (List.mem_of_mem_take h)
  · exact hs.2 g (List.mem_of_mem_drop h)

set_option maxRecDepth 100000 in
set_option maxHeartbeats 400000 in
theorem drop_any (k : Int) (a : Option Addr) (n c : Nat) (no : Int) (xs : List FP) (w : World) (hd : DiskIn w a n c xs) (hs : D.small (FP.files xs)) :
    Calls Try.prog 30 #[.agg #[.int .i64 k, .slice a n c], .int .i64 no] w (RetE any (D.drop (k, FP.files xs) no) w) := by
  have HD := Lib.hid hd
  have HS := Lib.hid hs
  have hcap := hd.caps
  have hml : maxLen ≤ 9223372036854775807 := by decide
  have KA := Lib.hid (dbn_arg w k a n c)
  have KR := Lib.hid (dbn_res w k a n c)
  have X0 : Hid (Below (dbn w k a n c).heap.size (dbn w k a n c) (dbn w k a n c)) := Lib.hid (Below.refl _ _)
  have h14 : n ≤ 14 := by have h1 := hs.1; simp only [FP.files_len, hd.1] at h1; exact h1
  obtain ⟨i, e0, hk⟩ : ∃ i e, seekOf (k, FP.files xs) no = (i, e) := ⟨_, _, rfl⟩
  have HK := Lib.hid hk
  clear hd hs hk
  by_cases he : e0 = 0
  · subst he
    obtain ⟨hm, j, rfl, hj⟩ := seek_good HK.out
    obtain ⟨hj1, hj2⟩ := D.idx_some hj
    have hjn : j < n := by rw [FP.files_len, HD.out.1] at hj1; exact hj1
    have HLT : Hid (j < xs.length) := Lib.hid (by rw [HD.out.1]; exact hjn)
    have HU : Hid (D.drop (k, FP.files xs) no = ((k, (FP.files xs).take j ++ (FP.files xs).drop (j + 1)), 0)) := Lib.hid (by
      unfold D.drop
      rw [if_pos hm, hj])
    clear hm hj hj1 hj2
    go_enter Try.func30, Try.ntmps30
    go_wp2_with fail
    refine (seek_any k a n c no xs _ _ (dbn w k a n c) (HD.out.below (dbn_on X0.out)) HK.out).mono ?_
    rintro e w1 ⟨rfl, hb1⟩
    have X1 := Lib.hid (X0.out.trans (hb1.mono X0.out.size))
    have KA1 := Lib.hid ((dbn_arg w k a n c).on X1.out)
    have KR1 := Lib.hid ((dbn_res w k a n c).on X1.out)
    clear hb1
    have k0 := dk0 KA1.out
    have k1 := dk1 KA1.out
    have hsm : D.small (FP.files (xs.take j ++ [] ++ xs.drop (j + 1))) := by
      rw [List.append_nil, FP.files_append, FP.files_take, FP.files_drop]
      exact small_drop HS.out j
    go_wp2_with fail
    refine (with_at k a n c j (j + 1) _ _ none 0 0 xs [] _ rfl (by simp) (HD.out.below (dbn_on X1.out)) (DiskIn.empty _) (by omega) (by omega) (by omega) hsm).mono ?_
    rintro e w2 ⟨a3, n3, c3, zs, rfl, HD3, HF3, HX3, hb2⟩
    clear k0 k1 hsm
    have XF := Lib.hid (Below.trans X1.out (hb2.mono (Below.size X1.out)))
    have KRF := Lib.hid ((dbn_res w k a n c).on XF.out)
    have hsz := dbn_lt X1.out
    have hfar : Far (w.heap.size + 1) a3 zs := HX3.out _ (by omega) trivial
    have hfb : ∀ b, b < w.heap.size → Far b a3 zs := fun b hb => HX3.out b (by omega) trivial
    have r0 := dk0 KRF.out
    have r1 := dk1 KRF.out
    have f0 := KRF.out.frozen 0
    have f1 := KRF.out.frozen 1
    clear hb2 hsz
    go_wp2
    refine bodyPost_ret (ret_disk2 (x := .int .i64 0) (g := w.heap.size + 1) rfl k a3 n3 c3 (by kernel_rfl) (by kernel_rfl) KRF.out.put) (by kernel_rfl) ?_
    exact ⟨a3, n3, c3, zs, by rw [HU.out], Lib.hid ((HD3.out.set hfar 0 _).set hfar 1 _), Lib.hid (by rw [HF3.out, HU.out]; simp [FP.files_append, FP.files_take, FP.files_drop]), Lib.hid fun b hb _ => hfb b hb, below_store (dbn_on XF.out) (Nat.le_succ _) _ _ _ _⟩
  · have HU : Hid (D.drop (k, FP.files xs) no = ((k, FP.files xs), e0)) := Lib.hid (drop_bad HK.out he)
    have hne : (e0 != 0) = true := by simpa using he
    clear he
    go_enter Try.func30, Try.ntmps30
    go_wp2_with fail
    refine (seek_any k a n c no xs _ _ (dbn w k a n c) (HD.out.below (dbn_on X0.out)) HK.out).mono ?_
    rintro e w1 ⟨rfl, hb1⟩
    have X1 := Lib.hid (X0.out.trans (hb1.mono X0.out.size))
    have KA1 := Lib.hid ((dbn_arg w k a n c).on X1.out)
    have KR1 := Lib.hid ((dbn_res w k a n c).on X1.out)
    clear hb1
    have k0 := dk0 KA1.out
    have k1 := dk1 KA1.out
    go_wp2_with fail
    refine (ownD_any k a n c xs w1 (HD.out.below (dbn_on X1.out)) HS.out).mono ?_
    rintro e w2 ⟨a3, n3, c3, zs, rfl, HD3, HF3, HX3, hb2⟩
    clear k0 k1
    have XF := Lib.hid (Below.trans X1.out (hb2.mono (Below.size X1.out)))
    have KRF := Lib.hid ((dbn_res w k a n c).on XF.out)
    have hsz := dbn_lt X1.out
    have hfar : Far (w.heap.size + 1) a3 zs := HX3.out _ (by omega) trivial
    have hfb : ∀ b, b < w.heap.size → Far b a3 zs := fun b hb => HX3.out b (by omega) trivial
    have r0 := dk0 KRF.out
    have r1 := dk1 KRF.out
    have f0 := KRF.out.frozen 0
    have f1 := KRF.out.frozen 1
    clear hb2 hsz
    go_wp2
    refine bodyPost_ret (ret_disk2 (x := .int .i64 e0) (g := w.heap.size + 1) rfl k a3 n3 c3 (by kernel_rfl) (by kernel_rfl) KRF.out.put) (by kernel_rfl) ?_
    exact ⟨a3, n3, c3, zs, by rw [HU.out], Lib.hid ((HD3.out.set hfar 0 _).set hfar 1 _), Lib.hid (by rw [HF3.out, HU.out]), Lib.hid fun b hb _ => hfb b hb, below_store (dbn_on XF.out) (Nat.le_succ _) _ _ _ _⟩


set_option maxRecDepth 100000 in
set_option maxHeartbeats 400000 in
theorem cut_any (k : Int) (a : Option Addr) (n c : Nat) (no : Int) (N : Int) (xs : List FP) (w : World) (hd : DiskIn w a n c xs) (hs : D.small (FP.files xs)) :
    Calls Try.prog 28 #[.agg #[.int .i64 k, .slice a n c], .int .i64 no, .int .i64 N] w (RetE any (D.cut (k, FP.files xs) no N) w) := by
  have HD := Lib.hid hd
  have HS := Lib.hid hs
  have hcap := hd.caps
  have hml : maxLen ≤ 9223372036854775807 := by decide
  have KA := Lib.hid (dbn_arg w k a n c)
  have KR := Lib.hid (dbn_res w k a n c)
  have X0 : Hid (Below (dbn w k a n c).heap.size (dbn w k a n c) (dbn w k a n c)) := Lib.hid (Below.refl _ _)
  have h14 : n ≤ 14 := by have h1 := hs.1; simp only [FP.files_len, hd.1] at h1; exact h1
  obtain ⟨i, e0, hk⟩ : ∃ i e, seekOf (k, FP.files xs) no = (i, e) := ⟨_, _, rfl⟩
  have HK := Lib.hid hk
  clear hd hs hk
  by_cases he : e0 = 0
  · subst he
    obtain ⟨hm, j, rfl, hj⟩ := seek_good HK.out
    obtain ⟨hj1, hj2⟩ := D.idx_some hj
    have hjn : j < n := by rw [FP.files_len, HD.out.1] at hj1; exact hj1
    have HLT : Hid (j < xs.length) := Lib.hid (by rw [HD.out.1]; exact hjn)
    obtain ⟨x0, hx0⟩ : ∃ x, xs[j]? = some x := ⟨_, List.getElem?_eq_getElem HLT.out⟩
    have HX0 := Lib.hid hx0
    have HOK0 : Hid (x0.B.length = x0.n) := Lib.hid (HD.out.2.1.2.1 _ (List.mem_of_getElem? hx0)).1
    clear hx0
    obtain ⟨nx, hnx⟩ : ∃ nx, x0.n = nx := ⟨_, rfl⟩
    have HNX := Lib.hid hnx
    rw [hnx] at HOK0
    clear hj1 hj2 hnx
    by_cases hN : N < 0
    · have HU : Hid (D.cut (k, FP.files xs) no N = ((k, FP.files xs), 1)) := Lib.hid (by
        exact D.upd_err hm hj (FP.files_at HX0.out) (if_pos (by simp only [FP.file]; have := HOK0.out; omega)) (by decide))
      clear hm hj
      have d1 : decide (N < 0) = true := by simp; omega
      go_enter Try.func28, Try.ntmps28
      go_wp2_with fail
      refine (seek_any k a n c no xs _ _ (dbn w k a n c) (HD.out.below (dbn_on X0.out)) HK.out).mono ?_
      rintro e w1 ⟨rfl, hb1⟩
      have X1 := Lib.hid (X0.out.trans (hb1.mono X0.out.size))
      have KA1 := Lib.hid ((dbn_arg w k a n c).on X1.out)
      have KR1 := Lib.hid ((dbn_res w k a n c).on X1.out)
      clear hb1
      have k0 := dk0 KA1.out
      have k1 := dk1 KA1.out
      go_wp2_with fail
      refine (ownD_any k a n c xs w1 (HD.out.below (dbn_on X1.out)) HS.out).mono ?_
      rintro e w2 ⟨a3, n3, c3, zs, rfl, HD3, HF3, HX3, hb2⟩
      clear k0 k1
      have XF := Lib.hid (Below.trans X1.out (hb2.mono (Below.size X1.out)))
      have KRF := Lib.hid ((dbn_res w k a n c).on XF.out)
      have hsz := dbn_lt X1.out
      have hfar : Far (w.heap.size + 1) a3 zs := HX3.out _ (by omega) trivial
      have hfb : ∀ b, b < w.heap.size → Far b a3 zs := fun b hb => HX3.out b (by omega) trivial
      have r0 := dk0 KRF.out
      have r1 := dk1 KRF.out
      have f0 := KRF.out.frozen 0
      have f1 := KRF.out.frozen 1
      clear hb2 hsz
      go_wp2
      refine bodyPost_ret (ret_disk2 (x := .int .i64 1) (g := w.heap.size + 1) rfl k a3 n3 c3 (by kernel_rfl) (by kernel_rfl) KRF.out.put) (by kernel_rfl) ?_
      exact ⟨a3, n3, c3, zs, by rw [HU.out], Lib.hid ((HD3.out.set hfar 0 _).set hfar 1 _), Lib.hid (by rw [HF3.out, HU.out]), Lib.hid fun b hb _ => hfb b hb, below_store (dbn_on XF.out) (Nat.le_succ _) _ _ _ _⟩
    · by_cases hN2 : (nx : Int) < N
      · have HU : Hid (D.cut (k, FP.files xs) no N = ((k, FP.files xs), 1)) := Lib.hid (by
          exact D.upd_err hm hj (FP.files_at HX0.out) (if_pos (by simp only [FP.file]; have := HOK0.out; omega)) (by decide))
        clear hm hj
        have d1 : decide (N < 0) = false := by simp; omega
        go_enter Try.func28, Try.ntmps28
        go_wp2_with fail
        refine (seek_any k a n c no xs _ _ (dbn w k a n c) (HD.out.below (dbn_on X0.out)) HK.out).mono ?_
        rintro e w1 ⟨rfl, hb1⟩
        have X1 := Lib.hid (X0.out.trans (hb1.mono X0.out.size))
        have KA1 := Lib.hid ((dbn_arg w k a n c).on X1.out)
        have KR1 := Lib.hid ((dbn_res w k a n c).on X1.out)
        clear hb1
        have k0 := dk0 KA1.out
        have k1 := dk1 KA1.out
        obtain ⟨b1, o1, no1, a1, n1, c1, L1, s1, rfl, hb1, hx, p0, p1, p2, hok⟩ := (((HD.out.below (dbn_on X1.out))).2.1).at (i := j) (by rw [HD.out.1]; exact hjn)
        have HX := Lib.hid hx
        have HOK := Lib.hid hok
        clear hx hok
        have HE : Hid (x0 = ⟨no1, a1, n1, c1, L1, s1⟩) := Lib.hid (by have h1 := HX0.out.symm.trans HX.out; simpa using h1)
        have hnn : nx = n1 := by have h1 := HNX.out; rw [HE.out] at h1; exact h1.symm
        subst hnn
        have d2 : decide ((nx : Int) < N) = true := by simp; omega
        go_wp2_with fail
        refine (ownD_any k (some ⟨b1, o1, none⟩) n c xs w1 (HD.out.below (dbn_on X1.out)) HS.out).mono ?_
        rintro e w2 ⟨a3, n3, c3, zs, rfl, HD3, HF3, HX3, hb2⟩
        clear k0 k1 p0 p1 p2
        have XF := Lib.hid (Below.trans X1.out (hb2.mono (Below.size X1.out)))
        have KRF := Lib.hid ((dbn_res w k (some ⟨b1, o1, none⟩) n c).on XF.out)
        have hsz := dbn_lt X1.out
        have hfar : Far (w.heap.size + 1) a3 zs := HX3.out _ (by omega) trivial
        have hfb : ∀ b, b < w.heap.size → Far b a3 zs := fun b hb => HX3.out b (by omega) trivial
        have r0 := dk0 KRF.out
        have r1 := dk1 KRF.out
        have f0 := KRF.out.frozen 0
        have f1 := KRF.out.frozen 1
        clear hb2 hsz
        go_wp2
        refine bodyPost_ret (ret_disk2 (x := .int .i64 1) (g := w.heap.size + 1) rfl k a3 n3 c3 (by kernel_rfl) (by kernel_rfl) KRF.out.put) (by kernel_rfl) ?_
        exact ⟨a3, n3, c3, zs, by rw [HU.out], Lib.hid ((HD3.out.set hfar 0 _).set hfar 1 _), Lib.hid (by rw [HF3.out, HU.out]), Lib.hid fun b hb _ => hfb b hb, below_store (dbn_on XF.out) (Nat.le_succ _) _ _ _ _⟩
      · obtain ⟨m, rfl⟩ : ∃ m : Nat, N = m := ⟨N.toNat, by omega⟩
        have HU : Hid (D.cut (k, FP.files xs) no (m : Int) = ((k, (FP.files xs).set j (x0.no, x0.B.take m, (m : Int))), 0)) := Lib.hid (by
          exact D.upd_ok hm hj (FP.files_at HX0.out) (if_neg (by simp only [FP.file]; have := HOK0.out; omega)))
        clear hm hj
        have d1 : decide ((m : Int) < 0) = false := by simp
        go_enter Try.func28, Try.ntmps28
        go_wp2_with fail
        refine (seek_any k a n c no xs _ _ (dbn w k a n c) (HD.out.below (dbn_on X0.out)) HK.out).mono ?_
        rintro e w1 ⟨rfl, hb1⟩
        have X1 := Lib.hid (X0.out.trans (hb1.mono X0.out.size))
        have KA1 := Lib.hid ((dbn_arg w k a n c).on X1.out)
        have KR1 := Lib.hid ((dbn_res w k a n c).on X1.out)
        clear hb1
        have k0 := dk0 KA1.out
        have k1 := dk1 KA1.out
        obtain ⟨b1, o1, no1, a1, n1, c1, L1, s1, rfl, hb1, hx, p0, p1, p2, hok⟩ := (((HD.out.below (dbn_on X1.out))).2.1).at (i := j) (by rw [HD.out.1]; exact hjn)
        have HX := Lib.hid hx
        have HOK := Lib.hid hok
        clear hx hok
        have HE : Hid (x0 = ⟨no1, a1, n1, c1, L1, s1⟩) := Lib.hid (by have h1 := HX0.out.symm.trans HX.out; simpa using h1)
        have hnn : nx = n1 := by have h1 := HNX.out; rw [HE.out] at h1; exact h1.symm
        subst hnn
        have d2 : decide ((nx : Int) < (m : Int)) = false := by simp; omega
        have hmn : m ≤ nx := by omega
        have hc1 : nx ≤ c1 ∧ c1 ≤ maxLen := by have h1 := HOK.out.2.1.1; have h2 := HOK.out.1; simp only at h1 h2; omega
        have hsl : ∀ w, (Instr.sliceAt 25 (.slice a1 nx c1) none (some (.int .i64 (m : Int))) none).run Try.prog w = .ok (.slice (sl a1 0 c1) m c1) w := fun w => sliceB_h a1 w (by omega)
        have ka0 : ∀ o, (w1.alloc o).cell? ⟨w.heap.size, 0, none⟩ = some (.int .i64 k) := fun o => dk0 (KA1.out.alloc o)
        have ka1 : ∀ o, (w1.alloc o).cell? ⟨w.heap.size, 1, none⟩ = some (.slice (some ⟨b1, o1, none⟩) n c) := fun o => dk1 (KA1.out.alloc o)
        go_wp2_with fail
        have HOK2 : FP.ok w1 ⟨no1, sl a1 0 c1, m, c1, L1.take m, m⟩ := by
          have h1 := HOK.out.1
          simp only at h1
          have h2 := row_sliced HOK.out.2.1 (l := 0) (h := m) (m := c1) (by omega) (by rw [h1]; exact hmn) (by omega) hc1.2
          refine ⟨by simp [h1]; omega, by simpa using h2, fun hn => ?_⟩
          have h3 := HOK.out.2.2 (sl_none hn)
          simp only at h3 ⊢
          omega
        have HY : DiskIn ((w1.alloc (.cells #[.int .i64 no1, .slice (sl a1 0 c1) m c1, .int .i64 m] 43)).alloc (.cells #[.int .i64 no1, .slice (sl a1 0 c1) m c1, .int .i64 m] 43)) (some ⟨w1.heap.size + 1, 0, none⟩) 1 1 [⟨no1, sl a1 0 c1, m, c1, L1.take m, m⟩] := by
          have h1 := one_file (w := w1.alloc (.cells #[.int .i64 no1, .slice (sl a1 0 c1) m c1, .int .i64 m] 43)) (no := no1) (a := sl a1 0 c1) (n := m) (c := c1) (B := L1.take m) (s := m) (FP.ok.below HOK2 ((Below.refl _ w1).alloc (Nat.le_refl _) _))
          rwa [World.size_alloc] at h1
        have XA := (X1.out.alloc X1.out.size (.cells #[.int .i64 no1, .slice (sl a1 0 c1) m c1, .int .i64 m] 43))
        have XB := XA.alloc XA.size (.cells #[.int .i64 no1, .slice (sl a1 0 c1) m c1, .int .i64 m] 43)
        have hsm : D.small (FP.files (xs.take j ++ [⟨no1, sl a1 0 c1, m, c1, L1.take m, m⟩] ++ xs.drop (j + 1))) := by
          rw [set_parts xs j _ HLT.out]
          refine small_set HS.out j _ ?_
          have h1 := HS.out.2 (FP.file ⟨no1, a1, nx, c1, L1, s1⟩) (List.mem_map.2 ⟨_, List.mem_of_getElem? HX.out, rfl⟩)
          simp only [FP.file] at h1 ⊢
          simp; omega
        refine (with_at k (some ⟨b1, o1, none⟩) n c j (j + 1) _ _ _ 1 1 xs [⟨no1, sl a1 0 c1, m, c1, L1.take m, m⟩] _ rfl (by simp) (HD.out.below (dbn_on XB)) HY (by omega) (by omega) (by omega) hsm).mono ?_
        rintro e w2 ⟨a3, n3, c3, zs, rfl, HD3, HF3, HX3, hb2⟩
        clear k0 k1 p0 p1 p2
        have XF := Lib.hid (Below.trans XB (hb2.mono (Below.size XB)))
        have KRF := Lib.hid ((dbn_res w k (some ⟨b1, o1, none⟩) n c).on XF.out)
        have hsz := dbn_lt XB
        have hfar : Far (w.heap.size + 1) a3 zs := HX3.out _ (by omega) trivial
        have hfb : ∀ b, b < w.heap.size → Far b a3 zs := fun b hb => HX3.out b (by omega) trivial
        have r0 := dk0 KRF.out
        have r1 := dk1 KRF.out
        have f0 := KRF.out.frozen 0
        have f1 := KRF.out.frozen 1
        clear hb2 hsz ka0 ka1 HY hsm hsl HOK2
        go_wp2
        refine bodyPost_ret (ret_disk2 (x := .int .i64 0) (g := w.heap.size + 1) rfl k a3 n3 c3 (by kernel_rfl) (by kernel_rfl) KRF.out.put) (by kernel_rfl) ?_
        exact ⟨a3, n3, c3, zs, by rw [HU.out], Lib.hid ((HD3.out.set hfar 0 _).set hfar 1 _), Lib.hid (by rw [HF3.out, HU.out, set_parts xs j _ HLT.out, HE.out]; rfl), Lib.hid fun b hb _ => hfb b hb, below_store (dbn_on XF.out) (Nat.le_succ _) _ _ _ _⟩
  · have HU : Hid (D.cut (k, FP.files xs) no N = ((k, FP.files xs), e0)) := Lib.hid (by unfold D.cut; exact seek_bad HK.out he _)
    have hne : (e0 != 0) = true := by simpa using he
    clear he
    go_enter Try.func28, Try.ntmps28
    go_wp2_with fail
    refine (seek_any k a n c no xs _ _ (dbn w k a n c) (HD.out.below (dbn_on X0.out)) HK.out).mono ?_
    rintro e w1 ⟨rfl, hb1⟩
    have X1 := Lib.hid (X0.out.trans (hb1.mono X0.out.size))
    have KA1 := Lib.hid ((dbn_arg w k a n c).on X1.out)
    have KR1 := Lib.hid ((dbn_res w k a n c).on X1.out)
    clear hb1
    have k0 := dk0 KA1.out
    have k1 := dk1 KA1.out
    go_wp2_with fail
    refine (ownD_any k a n c xs w1 (HD.out.below (dbn_on X1.out)) HS.out).mono ?_
    rintro e w2 ⟨a3, n3, c3, zs, rfl, HD3, HF3, HX3, hb2⟩
    clear k0 k1
    have XF := Lib.hid (Below.trans X1.out (hb2.mono (Below.size X1.out)))
    have KRF := Lib.hid ((dbn_res w k a n c).on XF.out)
    have hsz := dbn_lt X1.out
    have hfar : Far (w.heap.size + 1) a3 zs := HX3.out _ (by omega) trivial
    have hfb : ∀ b, b < w.heap.size → Far b a3 zs := fun b hb => HX3.out b (by omega) trivial
    have r0 := dk0 KRF.out
    have r1 := dk1 KRF.out
    have f0 := KRF.out.frozen 0
    have f1 := KRF.out.frozen 1
    clear hb2 hsz
    go_wp2
    refine bodyPost_ret (ret_disk2 (x := .int .i64 e0) (g := w.heap.size + 1) rfl k a3 n3 c3 (by kernel_rfl) (by kernel_rfl) KRF.out.put) (by kernel_rfl) ?_
    exact ⟨a3, n3, c3, zs, by rw [HU.out], Lib.hid ((HD3.out.set hfar 0 _).set hfar 1 _), Lib.hid (by rw [HF3.out, HU.out]), Lib.hid fun b hb _ => hfb b hb, below_store (dbn_on XF.out) (Nat.le_succ _) _ _ _ _⟩

end Go.Proofs.Ytcabhibbajkpkaa
