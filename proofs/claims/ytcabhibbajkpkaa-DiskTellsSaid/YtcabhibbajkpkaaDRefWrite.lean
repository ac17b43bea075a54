/-
  A walk of the document's Write.
-/
import Derived.Test.YtcabhibbajkpkaaDRefSync
import Derived.Test.YtcabhibbajkpkaaDCut
namespace Go.Proofs.Ytcabhibbajkpkaa
open Go.RowKit

/-- append of bytes to bytes of the call's own. -/
theorem appendB_own {B : Nat} {w0 w : World} (ty : TypeId) {v : Value} {L : List Int} (ho : w.ownsRow B 5 1 v L.length (L.map (Value.int .u8))) (hB : B ≤ w0.heap.size) (hb : Below B w0 w) {ad : Option Addr} {m c : Nat} {K : List Int} (hx : RowIn .u8 w ad c K) (hm : K.length = m) (hz : ad = none → m = 0 ∧ c = 0) (h9 : L.length + m ≤ 100000) :
    ∃ v' w', (Builtin.append_ #[25, 25] ty #[v, .slice ad m c]).run Try.prog w = .ok v' w' ∧ w'.ownsRow B 5 1 v' (L ++ K).length ((L ++ K).map (Value.int .u8)) ∧ Below B w0 w' := by
  obtain ⟨i0, hi, hz0, hz1, hz2⟩ := info_parts info5
  have hBw : B ≤ w.heap.size := Nat.le_trans hB hb.size
  obtain ⟨v', w', row, h1, h2, h3, h4⟩ := append_run 25 ty 5 i0 _ 1 1 Try.underlying25 hi hz0 hz1 hz2 rfl (by decide) (.inr ho) (hx.rowC hm hz) (by unfold maxLen; omega) (by omega) hBw
  refine ⟨v', w', h1, ?_, hb.grown h3 hBw h4⟩
  rcases h2 with ⟨rfl, rfl, hm0⟩ | hw
  · obtain rfl : K = [] := List.eq_nil_of_length_eq_zero (by rw [hm, hm0])
    rw [List.append_nil]; exact ho
  · rw [List.length_append, hm, List.map_append]; exact hw
theorem own_fresh {B : Nat} {w : World} {v : Value} {L : List Int} (ho : w.ownsRow B 5 1 v L.length (L.map (Value.int .u8))) (hw : ∀ n ∈ L, (Lit.int .u8 n).wf = true) :
    ∃ a c, v = .slice a L.length c ∧ RowIn .u8 w a c L ∧ (a = none → L.length = 0 ∧ c = 0) ∧ ∀ b, b < B → ∀ y, a = some y → y.block ≠ b := by
  obtain ⟨a, c, rfl, hr⟩ := own_row ho hw
  refine ⟨a, c, rfl, hr, fun ha => ?_, fun b hb y hy hyb => ?_⟩
  · rcases ho.2 with ⟨he, h0⟩ | ⟨g, cap, cur, he, _⟩
    · simp only [Value.slice.injEq] at he; exact ⟨he.2.1, he.2.2⟩
    · rw [ha] at he; simp at he
  · have := (ho.lt y.block (by rw [hy]; rfl)).1
    omega

set_option maxRecDepth 100000 in
set_option maxHeartbeats 400000 in
theorem refWrite_any (P : Nat → Prop) (k : Int) (a : Option Addr) (n c : Nat) (no : Int) (ab : Option Addr) (mb cb : Nat) (bb : List Int) (xs : List FP) (w : World) (hd : DiskIn w a n c xs) (hs : D.small (FP.files xs)) (hbl : bb.length = mb) (hbr : RowIn .u8 w ab cb bb) (hbz : ab = none → mb = 0 ∧ cb = 0) (h9 : mb ≤ 3000) (hP : ∀ b, b < w.heap.size → P b → Far b a xs) :
    Calls Try.prog 32 #[.agg #[.int .i64 k, .slice a n c], .int .i64 no, .slice ab mb cb] w (RetE P (D.write (k, FP.files xs) no bb) w) := by
  have HD := Lib.hid hd
  have HS := Lib.hid hs
  have HFA := Lib.hid (far_all hd hP)
  have hcap := hd.caps
  have hml : maxLen ≤ 9223372036854775807 := by decide
  have KA := Lib.hid (dbn_arg w k a n c)
  have KR := Lib.hid (dbn_res w k a n c)
  have X0 : Hid (Below (dbn w k a n c).heap.size (dbn w k a n c) (dbn w k a n c)) := Lib.hid (Below.refl _ _)
  have h14 : n ≤ 14 := by have h1 := hs.1; simp only [FP.files_len, hd.1] at h1; exact h1
  have HBB := Lib.hid hbl
  have HBR := Lib.hid hbr
  have HBZ := Lib.hid hbz
  obtain ⟨i, e0, hk⟩ : ∃ i e, seekOf (k, FP.files xs) no = (i, e) := ⟨_, _, rfl⟩
  have HK := Lib.hid hk
  clear hd hs hk hP hbl hbr hbz
  by_cases he : e0 = 0
  · subst he
    obtain ⟨hm, j, rfl, hj⟩ := seek_good HK.out
    obtain ⟨hj1, hj2⟩ := D.idx_some hj
    have hjn : j < n := by rw [FP.files_len, HD.out.1] at hj1; exact hj1
    obtain ⟨u, hu⟩ : ∃ u, D.used (FP.files xs) = u := ⟨_, rfl⟩
    have HU0 := Lib.hid hu
    have hku : (u : Int) ≤ k ∧ k ≤ 65536 := by have h1 := hm.2.2.2; have h2 := hm.1.2.1; simp only at h1 h2; omega
    have hwr : IntKind.i64.wrap ((u : Int) + (mb : Int)) = (u : Int) + (mb : Int) := wrap_i64_small (by omega) (by omega)
    clear hj1 hj2 hu
    by_cases hful : k < (u : Int) + (mb : Int)
    · have HU : Hid (D.write (k, FP.files xs) no bb = ((k, FP.files xs), 9)) := Lib.hid (by
        exact D.upd_err hm hj rfl (if_pos (by simp only; rw [HU0.out, HBB.out]; omega)) (by decide))
      have d1 : decide (k < (u : Int) + (mb : Int)) = true := by simpa using hful
      clear hm hj hful
      go_enter Try.func32, Try.ntmps32
      go_wp2_with fail
      refine (refAt_any k a n c no xs _ _ (dbn w k a n c) (HD.out.below (dbn_on X0.out)) HS.out HK.out).mono ?_
      rintro e w1 ⟨rfl, hb1⟩
      have X1 := Lib.hid (X0.out.trans (hb1.mono X0.out.size))
      have KA1 := Lib.hid ((dbn_arg w k a n c).on X1.out)
      clear hb1
      have k0 := dk0 KA1.out
      have k1 := dk1 KA1.out
      go_wp2_with fail
      go_quiet ((go_at_call 37; exact Calls.quiet_of_same ((refUsed_any a n c xs u _ (HD.out.below (dbn_on (X1.out.trans ((below_drewN _ _ _).mono X1.out.size)))) HS.out HU0.out).mono fun e w' h => ⟨h.1, h.2.symm⟩)))
      obtain ⟨w2, hw2⟩ : ∃ wq, wq = World.drewN w1 nq := ⟨_, rfl⟩
      have hb2 : Below w1.heap.size w1 w2 := by rw [hw2]; exact below_drewN _ _ _
      rw [← hw2]
      have X2 := Lib.hid (X1.out.trans (hb2.mono X1.out.size))
      clear hw2 hb2 k0 k1
      have KA2 := Lib.hid ((dbn_arg w k a n c).on X2.out)
      have KR2 := Lib.hid ((dbn_res w k a n c).on X2.out)
      have k0 := dk0 KA2.out
      have k1 := dk1 KA2.out
      have hfar : Far (w.heap.size + 1) a xs := HFA.out _ (.inr (by omega))
      have r0 := dk0 KR2.out
      have r1 := dk1 KR2.out
      have f0 := KR2.out.frozen 0
      have f1 := KR2.out.frozen 1
      go_wp2
      refine bodyPost_ret (ret_disk2 (x := .int .i64 9) (g := w.heap.size + 1) rfl k a n c (by kernel_rfl) (by kernel_rfl) KR2.out.put) (by kernel_rfl) ?_
      exact ⟨a, n, c, xs, by rw [HU.out], Lib.hid (((HD.out.below (dbn_on X2.out)).set hfar 0 _).set hfar 1 _), Lib.hid (by rw [HU.out]), Lib.hid fun b hb hp => HFA.out b (.inl hp), below_store (dbn_on X2.out) (Nat.le_succ _) _ _ _ _⟩
    · have HU : Hid (D.write (k, FP.files xs) no bb = ((k, (FP.files xs).set j (((FP.files xs).getD j D.nof).1, ((FP.files xs).getD j D.nof).2.1 ++ bb, ((FP.files xs).getD j D.nof).2.2)), 0)) := Lib.hid (by
        exact D.upd_ok hm hj rfl (if_neg (by simp only; rw [HU0.out, HBB.out]; omega)))
      have d1 : decide (k < (u : Int) + (mb : Int)) = false := by simpa using hful
      clear hm hj
      go_enter Try.func32, Try.ntmps32
      go_wp2_with fail
      refine (refAt_any k a n c no xs _ _ (dbn w k a n c) (HD.out.below (dbn_on X0.out)) HS.out HK.out).mono ?_
      rintro e w1 ⟨rfl, hb1⟩
      have X1 := Lib.hid (X0.out.trans (hb1.mono X0.out.size))
      have KA1 := Lib.hid ((dbn_arg w k a n c).on X1.out)
      clear hb1
      have k0 := dk0 KA1.out
      have k1 := dk1 KA1.out
      go_wp2_with fail
      go_quiet ((go_at_call 37; exact Calls.quiet_of_same ((refUsed_any a n c xs u _ (HD.out.below (dbn_on (X1.out.trans ((below_drewN _ _ _).mono X1.out.size)))) HS.out HU0.out).mono fun e w' h => ⟨h.1, h.2.symm⟩)))
      obtain ⟨w2, hw2⟩ : ∃ wq, wq = World.drewN w1 nq := ⟨_, rfl⟩
      have hb2 : Below w1.heap.size w1 w2 := by rw [hw2]; exact below_drewN _ _ _
      rw [← hw2]
      have X2 := Lib.hid (X1.out.trans (hb2.mono X1.out.size))
      clear hw2 hb2 k0 k1
      have KA2 := Lib.hid ((dbn_arg w k a n c).on X2.out)
      have KR2 := Lib.hid ((dbn_res w k a n c).on X2.out)
      have k0 := dk0 KA2.out
      have k1 := dk1 KA2.out
      obtain ⟨b1, o1, no1, a1, n1, c1, L1, s1, rfl, hb1, hx, p0, p1, p2, hok⟩ := (((HD.out.below (dbn_on X2.out))).2.1).at (i := j) (by rw [HD.out.1]; exact hjn)
      have HX := Lib.hid hx
      have HOK := Lib.hid hok
      clear hx hok
      have hle : L1.length + mb ≤ 65536 := by
        have h2 := used_take HX.out
        have h3 := used_take_le xs (j + 1)
        have h4 := HU0.out
        simp only at h2
        omega
      have h1n : L1.length = n1 := HOK.out.1
      have hle2 : n1 + mb ≤ 65536 := by omega
      have HLE := Lib.hid hle2
      have ka0 : ∀ o, (w2.alloc o).cell? ⟨w.heap.size, 0, none⟩ = some (.int .i64 k) := fun o => dk0 (KA2.out.alloc o)
      have ka1 : ∀ o, (w2.alloc o).cell? ⟨w.heap.size, 1, none⟩ = some (.slice (some ⟨b1, o1, none⟩) n c) := fun o => dk1 (KA2.out.alloc o)
      obtain ⟨W, hW⟩ : ∃ W, w2.alloc (.cells #[.int .i64 no1, .slice a1 n1 c1, .int .i64 s1] 43) = W := ⟨_, rfl⟩
      have BW : Below w2.heap.size w2 W := by rw [← hW]; exact (Below.refl _ w2).alloc (Nat.le_refl _) _
      have KFW : Blok W w2.heap.size 43 #[.int .i64 no1, .slice a1 n1 c1, .int .i64 s1] := by rw [← hW]; exact Blok.new w2 _ _
      have hWs : W.heap.size = w2.heap.size + 1 := by rw [← hW]; simp
      obtain ⟨v3, w3, hrun3, ho3, hB3⟩ := appendB_own (w0 := W) (w := W) 25 (L := []) (K := L1) (World.ownsRow_nil W W.heap.size 5 1) (Nat.le_refl _) (Below.refl _ W) (HOK.out.2.1.below BW) h1n HOK.out.2.2 (by simp; omega)
      rw [List.nil_append] at ho3
      have hXW := X2.out.trans (BW.mono X2.out.size)
      obtain ⟨v4, w4, hrun4, ho4, hB4⟩ := appendB_own (w0 := W) 25 ho3 (Nat.le_refl _) hB3 ((HBR.out.below (dbn_on hXW)).below (hB3.mono (by exact Nat.le_refl _))) HBB.out HBZ.out (by omega)
      obtain ⟨a5, c5, rfl, hr5, hz5, hnb⟩ := own_fresh ho4 (fun q hq => by
        rcases List.mem_append.1 hq with h | h
        · exact HOK.out.2.1.2.1 q h
        · exact HBR.out.2.1 q h)
      have hl5 : (L1 ++ bb).length = n1 + mb := by rw [List.length_append, h1n, HBB.out]
      rw [hl5] at hrun4 hz5
      have HL5 := Lib.hid hl5
      have HNB : Hid (∀ b, b < w2.heap.size + 1 → (L1 ++ bb = [] ∨ ∀ y, a5 = some y → y.block ≠ b)) := Lib.hid (fun b hb => .inr (hnb b (by omega)))
      have hsz := dbn_lt X2.out
      have BW4 := BW.trans (hB4.mono BW.size)
      have KF4 := Lib.hid (KFW.on hB4)
      have KF5 : Hid (Blok (w4.setCell ⟨w2.heap.size, 1, none⟩ (.slice a5 (n1 + mb) c5)) w2.heap.size 43 #[.int .i64 no1, .slice a5 (n1 + mb) c5, .int .i64 s1]) := Lib.hid (by simpa using KF4.out.set 1 (.slice a5 (n1 + mb) c5))
      have hg1 := setCell_grown w4 w2.heap.size 1 (.slice a5 (n1 + mb) c5)
      have KA5 := Lib.hid ((KA2.out.on BW4).grown hg1 (by simp; omega))
      have B5 := Lib.hid (BW4.setCell (p := ⟨w2.heap.size, 1, none⟩) (Nat.le_refl _) (.slice a5 (n1 + mb) c5))
      have hne1 := HNB.out w2.heap.size (by omega)
      have HOK5 : Hid (FP.ok (w4.setCell ⟨w2.heap.size, 1, none⟩ (.slice a5 (n1 + mb) c5)) ⟨no1, a5, n1 + mb, c5, L1 ++ bb, s1⟩) := Lib.hid ⟨HL5.out, row_set hr5 hne1 1 _, fun ha => hz5 ha⟩
      have q1 := fk1 KF4.out
      have z1 := KF4.out.frozen 1
      have y0 := fk0 KF5.out
      have y1 := fk1 KF5.out
      have y2 := fk2 KF5.out
      have u0 := dk0 KA5.out
      have u1 := dk1 KA5.out
      clear hnb hr5 hz5 ho3 ho4 hB3 hB4 BW4 hg1 hne1 BW KFW hle h1n hl5 hle2 hful hXW
      subst hW
      go_wp2_with (first
        | (at_builtin; refine wpList_append_run (v' := v3) (w' := w3) rfl rfl rfl rfl hrun3 ?_)
        | (at_builtin; refine wpList_append_run (v' := .slice a5 (n1 + mb) c5) (w' := w4) rfl rfl rfl rfl hrun4 ?_))
      refine (refWith_any (fun b => b < w2.heap.size ∧ orNew P w b) k (some ⟨b1, o1, none⟩) n c j no1 a5 (n1 + mb) c5 (L1 ++ bb) s1 xs _ (HD.out.below (dbn_on (X2.out.trans (B5.out.mono X2.out.size)))) HOK5.out hjn (by omega) (fun b _ hb => ⟨HFA.out b hb.2, HNB.out b (by omega)⟩)).mono ?_
      rintro e w6 ⟨a3, n3, c3, zs, rfl, HD3, HF3, HX3, hb3⟩
      have XA := X2.out.trans (B5.out.mono X2.out.size)
      have XF := Lib.hid (Below.trans XA (hb3.mono (Below.size XA)))
      have KRF := Lib.hid ((dbn_res w k (some ⟨b1, o1, none⟩) n c).on XF.out)
      have hs4 := B5.out.size
      have hfar : Far (w.heap.size + 1) a3 zs := HX3.out _ (by omega) ⟨by omega, .inr (by omega)⟩
      have hfb : ∀ b, b < w.heap.size → P b → Far b a3 zs := fun b hb hp => HX3.out b (by omega) ⟨by omega, .inl hp⟩
      have r0 := dk0 KRF.out
      have r1 := dk1 KRF.out
      have f0 := KRF.out.frozen 0
      have f1 := KRF.out.frozen 1
      clear k0 k1 p0 p1 p2 ka0 ka1 q1 z1 y0 y1 y2 u0 u1 hrun3 hrun4 hb3 hs4 hsz
      go_wp2
      refine bodyPost_ret (ret_disk2 (x := .int .i64 0) (g := w.heap.size + 1) rfl k a3 n3 c3 (by kernel_rfl) (by kernel_rfl) KRF.out.put) (by kernel_rfl) ?_
      exact ⟨a3, n3, c3, zs, by rw [HU.out], Lib.hid ((HD3.out.set hfar 0 _).set hfar 1 _), Lib.hid (by rw [HF3.out, HU.out, FP.files_at HX.out]; rfl), Lib.hid fun b hb hp => hfb b hb hp, below_store (dbn_on XF.out) (Nat.le_succ _) _ _ _ _⟩
  · have HU : Hid (D.write (k, FP.files xs) no bb = ((k, FP.files xs), e0)) := Lib.hid (by unfold D.write; exact seek_bad HK.out he _)
    have hne : (e0 != 0) = true := by simpa using he
    clear he
    go_enter Try.func32, Try.ntmps32
    go_wp2_with fail
    refine (refAt_any k a n c no xs _ _ (dbn w k a n c) (HD.out.below (dbn_on X0.out)) HS.out HK.out).mono ?_
    rintro e w1 ⟨rfl, hb1⟩
    have X1 := Lib.hid (X0.out.trans (hb1.mono X0.out.size))
    have KA1 := Lib.hid ((dbn_arg w k a n c).on X1.out)
    have KR1 := Lib.hid ((dbn_res w k a n c).on X1.out)
    clear hb1
    have k0 := dk0 KA1.out
    have k1 := dk1 KA1.out
    have hfar : Far (w.heap.size + 1) a xs := HFA.out _ (.inr (by omega))
    have r0 := dk0 KR1.out
    have r1 := dk1 KR1.out
    have f0 := KR1.out.frozen 0
    have f1 := KR1.out.frozen 1
    go_wp2
    refine bodyPost_ret (ret_disk2 (x := .int .i64 e0) (g := w.heap.size + 1) rfl k a n c (by kernel_rfl) (by kernel_rfl) KR1.out.put) (by kernel_rfl) ?_
    exact ⟨a, n, c, xs, by rw [HU.out], Lib.hid (((HD.out.below (dbn_on X1.out)).set hfar 0 _).set hfar 1 _), Lib.hid (by rw [HU.out]), Lib.hid fun b hb hp => HFA.out b (.inl hp), below_store (dbn_on X1.out) (Nat.le_succ _) _ _ _ _⟩
end Go.Proofs.Ytcabhibbajkpkaa
