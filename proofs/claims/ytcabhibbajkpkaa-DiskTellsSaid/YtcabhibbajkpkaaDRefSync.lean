/-
  A walk of the document's Sync.
-/
import Derived.Test.YtcabhibbajkpkaaDRefWith
namespace Go.Proofs.Ytcabhibbajkpkaa
open Go.RowKit

/-- What holds of P, and of every block that is made in the call. -/
def orNew (P : Nat → Prop) (w : World) : Nat → Prop := fun b => P b ∨ w.heap.size ≤ b
theorem far_all {P : Nat → Prop} {w : World} {a : Option Addr} {n c : Nat} {xs : List FP} (hd : DiskIn w a n c xs) (hP : ∀ b, b < w.heap.size → P b → Far b a xs) : ∀ b, orNew P w b → Far b a xs := fun b h => by
  by_cases hb : b < w.heap.size
  · rcases h with h | h
    · exact hP b hb h
    · omega
  · exact hd.far (by omega)

set_option maxRecDepth 100000 in
set_option maxHeartbeats 400000 in
theorem refSync_any (P : Nat → Prop) (k : Int) (a : Option Addr) (n c : Nat) (no : Int) (xs : List FP) (w : World) (hd : DiskIn w a n c xs) (hs : D.small (FP.files xs)) (hP : ∀ b, b < w.heap.size → P b → Far b a xs) :
    Calls Try.prog 33 #[.agg #[.int .i64 k, .slice a n c], .int .i64 no] w (RetE P (D.sync (k, FP.files xs) no) w) := by
  have HD := Lib.hid hd
  have HS := Lib.hid hs
  have HFA := Lib.hid (far_all hd hP)
  have hcap := hd.caps
  have hml : maxLen ≤ 9223372036854775807 := by decide
  have KA := Lib.hid (dbn_arg w k a n c)
  have KR := Lib.hid (dbn_res w k a n c)
  have X0 : Hid (Below (dbn w k a n c).heap.size (dbn w k a n c) (dbn w k a n c)) := Lib.hid (Below.refl _ _)
  have h14 : n ≤ 14 := by have h1 := hs.1; simp only [FP.files_len, hd.1] at h1; exact h1
  obtain ⟨i, e0, hk⟩ : ∃ i e, seekOf (k, FP.files xs) no = (i, e) := ⟨_, _, rfl⟩
  have HK := Lib.hid hk
  clear hd hs hk hP
  by_cases he : e0 = 0
  · subst he
    obtain ⟨hm, j, rfl, hj⟩ := seek_good HK.out
    obtain ⟨hj1, hj2⟩ := D.idx_some hj
    have hjn : j < n := by rw [FP.files_len, HD.out.1] at hj1; exact hj1
    have HU : Hid (D.sync (k, FP.files xs) no = ((k, (FP.files xs).set j (((FP.files xs).getD j D.nof).1, ((FP.files xs).getD j D.nof).2.1, ((((FP.files xs).getD j D.nof).2.1.length : Nat) : Int))), 0)) := Lib.hid (by
      unfold D.sync D.upd
      rw [if_pos hm, hj]; rfl)
    clear hm hj hj1 hj2
    go_enter Try.func33, Try.ntmps33
    go_wp2_with fail
    refine (refAt_any k a n c no xs _ _ (dbn w k a n c) (HD.out.below (dbn_on X0.out)) HS.out HK.out).mono ?_
    rintro e w1 ⟨rfl, hb1⟩
    have X1 := Lib.hid (X0.out.trans (hb1.mono X0.out.size))
    have KA1 := Lib.hid ((dbn_arg w k a n c).on X1.out)
    have KR1 := Lib.hid ((dbn_res w k a n c).on X1.out)
    clear hb1
    have k0 := dk0 KA1.out
    have k1 := dk1 KA1.out
    obtain ⟨b1, o1, no1, a1, n1, c1, L1, s1, rfl, hb1, hx, p0, p1, p2, hok⟩ := (((HD.out.below (dbn_on X1.out))).2.1).at (i := j) (by rw [HD.out.1]; exact hjn)
    have HX := Lib.hid hx
    have HOK := Lib.hid hok
    clear hx hok
    have ka0 : ∀ o, (w1.alloc o).cell? ⟨w.heap.size, 0, none⟩ = some (.int .i64 k) := fun o => dk0 (KA1.out.alloc o)
    have ka1 : ∀ o, (w1.alloc o).cell? ⟨w.heap.size, 1, none⟩ = some (.slice (some ⟨b1, o1, none⟩) n c) := fun o => dk1 (KA1.out.alloc o)
    go_wp2_with fail
    have XA := (X1.out.alloc X1.out.size (.cells #[.int .i64 no1, .slice a1 n1 c1, .int .i64 n1] 43))
    refine (refWith_any (orNew P w) k (some ⟨b1, o1, none⟩) n c j no1 a1 n1 c1 L1 n1 xs _ (HD.out.below (dbn_on XA)) (FP.ok.below HOK.out ((Below.refl _ w1).alloc (Nat.le_refl _) _)) hjn (by omega) (fun b _ hb => ⟨HFA.out b hb, (HFA.out b hb).2 _ (List.mem_of_getElem? HX.out)⟩)).mono ?_
    rintro e w2 ⟨a3, n3, c3, zs, rfl, HD3, HF3, HX3, hb2⟩
    clear k0 k1 p0 p1 p2
    have XF := Lib.hid (Below.trans XA (hb2.mono (Below.size XA)))
    have KRF := Lib.hid ((dbn_res w k (some ⟨b1, o1, none⟩) n c).on XF.out)
    have hsz := dbn_lt XA
    have hfar : Far (w.heap.size + 1) a3 zs := HX3.out _ (by omega) (.inr (by omega))
    have hfb : ∀ b, b < w.heap.size → P b → Far b a3 zs := fun b hb hp => HX3.out b (by omega) (.inl hp)
    have r0 := dk0 KRF.out
    have r1 := dk1 KRF.out
    have f0 := KRF.out.frozen 0
    have f1 := KRF.out.frozen 1
    clear hb2 hsz ka0 ka1
    go_wp2
    refine bodyPost_ret (ret_disk2 (x := .int .i64 0) (g := w.heap.size + 1) rfl k a3 n3 c3 (by kernel_rfl) (by kernel_rfl) KRF.out.put) (by kernel_rfl) ?_
    exact ⟨a3, n3, c3, zs, by rw [HU.out], Lib.hid ((HD3.out.set hfar 0 _).set hfar 1 _), Lib.hid (by rw [HF3.out, HU.out, FP.files_at HX.out]; simp [FP.file, HOK.out.1]), Lib.hid fun b hb hp => hfb b hb hp, below_store (dbn_on XF.out) (Nat.le_succ _) _ _ _ _⟩
  · have HU : Hid (D.sync (k, FP.files xs) no = ((k, FP.files xs), e0)) := Lib.hid (by unfold D.sync; exact seek_bad HK.out he _)
    have hne : (e0 != 0) = true := by simpa using he
    clear he
    go_enter Try.func33, Try.ntmps33
    go_wp2_with fail
    refine (refAt_any k a n c no xs _ _ (dbn w k a n c) (HD.out.below (dbn_on X0.out)) HS.out HK.out).mono ?_
    rintro e w1 ⟨rfl, hb1⟩
    have X1 := Lib.hid (X0.out.trans (hb1.mono X0.out.size))
    have KA1 := Lib.hid ((dbn_arg w k a n c).on X1.out)
    have KR1 := Lib.hid ((dbn_res w k a n c).on X1.out)
    clear hb1
    have k0 := dk0 KA1.out
    have k1 := dk1 KA1.out
    have hfar : Far (w.heap.size + 1) a xs := HFA.out _ (.inr (by omega))
    have r0 := dk0 KR1.out
    have r1 := dk1 KR1.out
    have f0 := KR1.out.frozen 0
    have f1 := KR1.out.frozen 1
    go_wp2
    refine bodyPost_ret (ret_disk2 (x := .int .i64 e0) (g := w.heap.size + 1) rfl k a n c (by kernel_rfl) (by kernel_rfl) KR1.out.put) (by kernel_rfl) ?_
    exact ⟨a, n, c, xs, by rw [HU.out], Lib.hid (((HD.out.below (dbn_on X1.out)).set hfar 0 _).set hfar 1 _), Lib.hid (by rw [HU.out]), Lib.hid fun b hb hp => HFA.out b (.inl hp), below_store (dbn_on X1.out) (Nat.le_succ _) _ _ _ _⟩
end Go.Proofs.Ytcabhibbajkpkaa
