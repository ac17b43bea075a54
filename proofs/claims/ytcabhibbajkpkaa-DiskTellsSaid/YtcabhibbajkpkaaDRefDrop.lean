/-
  A walk of the document's Drop.
-/
import Derived.Test.YtcabhibbajkpkaaDRefSync
import Derived.Test.YtcabhibbajkpkaaDCut
namespace Go.Proofs.Ytcabhibbajkpkaa
open Go.RowKit

set_option maxRecDepth 100000 in
set_option maxHeartbeats 400000 in
theorem refDrop_any (P : Nat → Prop) (k : Int) (a : Option Addr) (n c : Nat) (no : Int) (xs : List FP) (w : World) (hd : DiskIn w a n c xs) (hs : D.small (FP.files xs)) (hP : ∀ b, b < w.heap.size → P b → Far b a xs) :
    Calls Try.prog 35 #[.agg #[.int .i64 k, .slice a n c], .int .i64 no] w (RetE P (D.drop (k, FP.files xs) no) w) := by
  have HD := Lib.hid hd
  have HS := Lib.hid hs
  have HFA := Lib.hid (far_all hd hP)
  have hcap := hd.caps
  have hml : maxLen ≤ 9223372036854775807 := by decide
  have KA := Lib.hid (dbn_arg w k a n c)
  have KR := Lib.hid (dbn_res w k a n c)
  have X0 : Hid (Below (dbn w k a n c).heap.size (dbn w k a n c) (dbn w k a n c)) := Lib.hid (Below.refl _ _)
  have h14 : n ≤ 14 := by have h1 := hs.1; simp only [FP.files_len, hd.1] at h1; exact h1
  obtain ⟨i, e0, hk⟩ : ∃ i e, seekOf (k, FP.files xs) no = (i, e) := ⟨_, _, rfl⟩
  have HK := Lib.hid hk
  clear hd hs hk hP
  by_cases he : e0 = 0
  · subst he
    obtain ⟨hm, j, rfl, hj⟩ := seek_good HK.out
    obtain ⟨hj1, hj2⟩ := D.idx_some hj
    have hjn : j < n := by rw [FP.files_len, HD.out.1] at hj1; exact hj1
    have HU : Hid (D.drop (k, FP.files xs) no = ((k, (FP.files xs).take j ++ (FP.files xs).drop (j + 1)), 0)) := Lib.hid (by
      unfold D.drop
      rw [if_pos hm, hj])
    clear hm hj hj1 hj2
    go_enter Try.func35, Try.ntmps35
    go_wp2_with fail
    refine (refAt_any k a n c no xs _ _ (dbn w k a n c) (HD.out.below (dbn_on X0.out)) HS.out HK.out).mono ?_
    rintro e w1 ⟨rfl, hb1⟩
    have X1 := Lib.hid (X0.out.trans (hb1.mono X0.out.size))
    have KA1 := Lib.hid ((dbn_arg w k a n c).on X1.out)
    have KR1 := Lib.hid ((dbn_res w k a n c).on X1.out)
    clear hb1
    have k0 := dk0 KA1.out
    have k1 := dk1 KA1.out
    have hsz := dbn_lt X1.out
    have hsl1 : ∀ w, (Instr.sliceAt 22 (.slice a n c) none (some (.int .i64 (j : Int))) none).run Try.prog w = .ok (.slice (sl3 a 0 c) j c) w := fun w => sliceF_h a w (by omega)
    have hsl2 : ∀ w, (Instr.sliceAt 22 (.slice a n c) (some (.int .i64 ((j : Int) + 1))) none none).run Try.prog w = .ok (.slice (sl3 a (j + 1) c) (n - (j + 1)) (c - (j + 1))) w := fun w => by
      have h1 := sliceF_l (q := j + 1) (len := n) (cap := c) a w (by omega)
      simpa using h1
    have HP1 : Hid (∀ w', Below w.heap.size w w' → DiskIn w' (sl3 a 0 c) j c (xs.take j)) := Lib.hid (fun w' hb => by
      have h1 := (HD.out.below hb).part (l := 0) (h := j) (m := c) (Nat.zero_le _) (by omega) (by omega) (Nat.le_refl _)
      simpa using h1)
    have HP2 : Hid (∀ w', Below w.heap.size w w' → DiskIn w' (sl3 a (j + 1) c) (n - (j + 1)) (c - (j + 1)) (xs.drop (j + 1))) := Lib.hid (fun w' hb => by
      have h1 := (HD.out.below hb).part (l := j + 1) (h := n) (m := c) (by omega) (Nat.le_refl _) hcap.1 (Nat.le_refl _)
      rwa [List.take_of_length_le (by rw [HD.out.1]; exact Nat.le_refl _)] at h1)
    have hok : ∀ x ∈ xs.take j ++ xs.drop (j + 1), x ∈ xs := fun x hx => by
      rcases List.mem_append.1 hx with h | h
      · exact List.mem_of_mem_take h
      · exact List.mem_of_mem_drop h
    have hln : (xs.take j ++ xs.drop (j + 1)).length = j + (n - (j + 1)) := by
      have h1 := HD.out.1
      simp; omega
    go_wp2_with (first
      | (at_builtin
         refine wpList_append_files _ rfl _ _ rfl w1.heap.size _ 0 [] rfl (World.ownsRow_nil _ _ _ _) (sl3 a 0 c) j c (xs.take j) rfl (HP1.out _ (dbn_on X1.out)) (by omega) (Nat.le_refl _) ?_
         intro v1 w2 hown1 hgrow1
         rw [Nat.zero_add, List.nil_append] at hown1
         have B1 : Below w1.heap.size w1 w2 := (Below.refl _ _).grown hgrow1 (Nat.le_refl _) (fun k ek => absurd (show (none : Option Nat) = some k from ek) (by simp))
         have KA2 := Lib.hid (KA1.out.on B1)
         have k2 := dk1 KA2.out
         have hs1 := B1.size
         clear hgrow1)
      | (at_builtin
         refine wpList_append_files _ rfl _ _ rfl w1.heap.size v1 j (xs.take j) rfl hown1 (sl3 a (j + 1) c) (n - (j + 1)) (c - (j + 1)) (xs.drop (j + 1)) rfl (HP2.out _ (dbn_on (X1.out.trans (B1.mono X1.out.size)))) (by omega) (by omega) ?_
         intro v2 w3 hown2 hgrow2
         have B2 : Below w1.heap.size w1 w3 := B1.grown hgrow2 (by omega) (fun k ek => (hown1.lt k (show v1.ownBlock = some k from ek)).1)
         have XF := Lib.hid (X1.out.trans (B2.mono X1.out.size))
         have KA3 := Lib.hid (KA1.out.on B2)
         have KR3 := Lib.hid (KR1.out.on B2)
         have HO2 := Lib.hid hown2
         obtain ⟨a3, c3, rfl, hfl, hz⟩ := own_files hown2 hln (fun x hx => (HD.out.2.1.2.1 x (hok x hx)).below (dbn_on XF.out))
         have HFL := Lib.hid hfl
         have HZ := Lib.hid hz
         have k3 := dk0 KA3.out
         have r0 := dk0 KR3.out
         have r1 := dk1 KR3.out
         have f0 := KR3.out.frozen 0
         have f1 := KR3.out.frozen 1
         clear hown1 hown2 hgrow2 B1 B2 hfl hz))
    have hfar : Far (w.heap.size + 1) a3 (xs.take j ++ xs.drop (j + 1)) := by
      refine ⟨?_, fun x hx => (HFA.out _ (.inr (by omega))).2 x (hok x hx)⟩
      rintro g off rfl _ rfl
      have h := (HO2.out.lt _ rfl).1; simp only at h
      omega
    have hfb : ∀ b, b < w.heap.size → P b → Far b a3 (xs.take j ++ xs.drop (j + 1)) := fun b hb hp => by
      refine ⟨?_, fun x hx => (HFA.out b (.inl hp)).2 x (hok x hx)⟩
      rintro g off rfl _ rfl
      have h := (HO2.out.lt _ rfl).1; simp only at h
      omega
    have hDI : DiskIn _ a3 (j + (n - (j + 1))) c3 (xs.take j ++ xs.drop (j + 1)) := ⟨hln, HFL.out, HZ.out⟩
    refine bodyPost_ret (ret_disk2 (x := .int .i64 0) (g := w.heap.size + 1) rfl k a3 (j + (n - (j + 1))) c3 (by kernel_rfl) (by kernel_rfl) KR3.out.put) (by kernel_rfl) ?_
    exact ⟨a3, _, c3, _, by rw [HU.out], Lib.hid ((hDI.set hfar 0 _).set hfar 1 _), Lib.hid (by rw [HU.out, FP.files_append, FP.files_take, FP.files_drop]), Lib.hid fun b hb hp => hfb b hb hp, below_store (dbn_on XF.out) (Nat.le_succ _) _ _ _ _⟩
  · have HU : Hid (D.drop (k, FP.files xs) no = ((k, FP.files xs), e0)) := Lib.hid (drop_bad HK.out he)
    have hne : (e0 != 0) = true := by simpa using he
    clear he
    go_enter Try.func35, Try.ntmps35
    go_wp2_with fail
    refine (refAt_any k a n c no xs _ _ (dbn w k a n c) (HD.out.below (dbn_on X0.out)) HS.out HK.out).mono ?_
    rintro e w1 ⟨rfl, hb1⟩
    have X1 := Lib.hid (X0.out.trans (hb1.mono X0.out.size))
    have KA1 := Lib.hid ((dbn_arg w k a n c).on X1.out)
    have KR1 := Lib.hid ((dbn_res w k a n c).on X1.out)
    clear hb1
    have k0 := dk0 KA1.out
    have k1 := dk1 KA1.out
    have hfar : Far (w.heap.size + 1) a xs := HFA.out _ (.inr (by omega))
    have r0 := dk0 KR1.out
    have r1 := dk1 KR1.out
    have f0 := KR1.out.frozen 0
    have f1 := KR1.out.frozen 1
    go_wp2
    refine bodyPost_ret (ret_disk2 (x := .int .i64 e0) (g := w.heap.size + 1) rfl k a n c (by kernel_rfl) (by kernel_rfl) KR1.out.put) (by kernel_rfl) ?_
    exact ⟨a, n, c, xs, by rw [HU.out], Lib.hid (((HD.out.below (dbn_on X1.out)).set hfar 0 _).set hfar 1 _), Lib.hid (by rw [HU.out]), Lib.hid fun b hb hp => HFA.out b (.inl hp), below_store (dbn_on X1.out) (Nat.le_succ _) _ _ _ _⟩
end Go.Proofs.Ytcabhibbajkpkaa
