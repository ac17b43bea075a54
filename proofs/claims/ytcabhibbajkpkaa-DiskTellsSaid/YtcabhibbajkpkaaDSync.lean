/-
  Walks of moorings/disk.Sync, Drop.
-/
import Derived.Test.YtcabhibbajkpkaaDWith
import Derived.Test.YtcabhibbajkpkaaDFind
namespace Go.Proofs.Ytcabhibbajkpkaa
open Go.RowKit

theorem seek_bad {d : D.T} {no i e : Int} (h : seekOf d no = (i, e)) (he : e ≠ 0) (g : D.F → Int × D.F) : D.upd d no g = (d, e) := by
  unfold seekOf at h
  unfold D.upd
  split at h
  · rename_i hm
    rw [if_pos hm]
    cases hi : D.idx d.2 no with
    | none => simp only [hi, Prod.mk.injEq] at h ⊢; exact ⟨trivial, h.2⟩
    | some j => simp only [hi, Prod.mk.injEq] at h; exact absurd h.2.symm he
  · rename_i hm
    rw [if_neg hm]
    simp only [Prod.mk.injEq] at h ⊢; exact ⟨trivial, h.2⟩
theorem seek_good {d : D.T} {no i : Int} (h : seekOf d no = (i, 0)) : D.may d ∧ ∃ j : Nat, i = (j : Int) ∧ D.idx d.2 no = some j := by
  unfold seekOf at h
  split at h
  · rename_i hm
    cases hi : D.idx d.2 no with
    | none => simp [hi] at h
    | some j => simp only [hi, Prod.mk.injEq] at h; exact ⟨hm, j, h.1.symm, rfl⟩
  · simp at h
theorem set_parts (xs : List FP) (j : Nat) (y : FP) (h : j < xs.length) : FP.files (xs.take j ++ [y] ++ xs.drop (j + 1)) = (FP.files xs).set j (FP.file y) := by
  rw [List.set_eq_take_append_cons_drop, if_pos (by rw [FP.files_len]; exact h), FP.files_append, FP.files_append, FP.files_take, FP.files_drop]
  simp [FP.files]
theorem small_set {l : List D.F} (hs : D.small l) (j : Nat) (f : D.F) (hf : f.2.1.length ≤ 70000) : D.small (l.set j f) := by
  refine ⟨by rw [List.length_set]; exact hs.1, fun g hg => ?_⟩
  rcases List.mem_or_eq_of_mem_set hg with h | rfl
  · exact hs.2 g h
  · exact hf
/-- A slice of one file that the call has made. -/
theorem one_file {w : World} {no : Int} {a : Option Addr} {n c : Nat} {B : List Int} {s : Int} (h : FP.ok w ⟨no, a, n, c, B, s⟩) : DiskIn (w.alloc (.cells #[.int .i64 no, .slice a n c, .int .i64 s] 43)) (some ⟨w.heap.size, 0, none⟩) 1 1 [⟨no, a, n, c, B, s⟩] := by
  have hb := (Below.refl w.heap.size w).alloc (Nat.le_refl _) (.cells #[.int .i64 no, .slice a n c, .int .i64 s] 43)
  have hB := Blok.new w 43 #[.int .i64 no, .slice a n c, .int .i64 s]
  refine ⟨rfl, ⟨⟨by simp, by simp [maxLen]⟩, ?_, .inr ⟨w.heap.size, 0, rfl, hB.lt, ?_⟩⟩, fun h => by cases h⟩
  · intro x hx
    simp only [List.mem_singleton] at hx
    rw [hx]
    exact h.below hb
  · intro i u hi
    rw [Nat.zero_add, hB.cell i]
    simpa [FP.flat, FP.cells] using hi

set_option maxRecDepth 100000 in
set_option maxHeartbeats 400000 in
theorem sync_any (k : Int) (a : Option Addr) (n c : Nat) (no : Int) (xs : List FP) (w : World) (hd : DiskIn w a n c xs) (hs : D.small (FP.files xs)) :
    Calls Try.prog 27 #[.agg #[.int .i64 k, .slice a n c], .int .i64 no] w (RetE any (D.sync (k, FP.files xs) no) w) := by
  have HD := Lib.hid hd
  have HS := Lib.hid hs
  have hcap := hd.caps
  have hml : maxLen ≤ 9223372036854775807 := by decide
  have KA := Lib.hid (dbn_arg w k a n c)
  have KR := Lib.hid (dbn_res w k a n c)
  have X0 : Hid (Below (dbn w k a n c).heap.size (dbn w k a n c) (dbn w k a n c)) := Lib.hid (Below.refl _ _)
  have h14 : n ≤ 14 := by have h1 := hs.1; simp only [FP.files_len, hd.1] at h1; exact h1
  obtain ⟨i, e0, hk⟩ : ∃ i e, seekOf (k, FP.files xs) no = (i, e) := ⟨_, _, rfl⟩
  have HK := Lib.hid hk
  clear hd hs hk
  by_cases he : e0 = 0
  · subst he
    obtain ⟨hm, j, rfl, hj⟩ := seek_good HK.out
    obtain ⟨hj1, hj2⟩ := D.idx_some hj
    have hjn : j < n := by rw [FP.files_len, HD.out.1] at hj1; exact hj1
    have HLT : Hid (j < xs.length) := Lib.hid (by rw [HD.out.1]; exact hjn)
    have HU : Hid (D.sync (k, FP.files xs) no = ((k, (FP.files xs).set j (((FP.files xs).getD j D.nof).1, ((FP.files xs).getD j D.nof).2.1, ((((FP.files xs).getD j D.nof).2.1.length : Nat) : Int))), 0)) := Lib.hid (by
      unfold D.sync D.upd
      rw [if_pos hm, hj]; rfl)
    clear hm hj hj1 hj2
    go_enter Try.func27, Try.ntmps27
    go_wp2_with fail
    refine (seek_any k a n c no xs _ _ (dbn w k a n c) (HD.out.below (dbn_on X0.out)) HK.out).mono ?_
    rintro e w1 ⟨rfl, hb1⟩
    have X1 := Lib.hid (X0.out.trans (hb1.mono X0.out.size))
    have KA1 := Lib.hid ((dbn_arg w k a n c).on X1.out)
    have KR1 := Lib.hid ((dbn_res w k a n c).on X1.out)
    clear hb1
    have k0 := dk0 KA1.out
    have k1 := dk1 KA1.out
    obtain ⟨b1, o1, no1, a1, n1, c1, L1, s1, rfl, hb1, hx, p0, p1, p2, hok⟩ := (((HD.out.below (dbn_on X1.out))).2.1).at (i := j) (by rw [HD.out.1]; exact hjn)
    have HX := Lib.hid hx
    have HOK := Lib.hid hok
    clear hx hok
    have ka0 : ∀ o, (w1.alloc o).cell? ⟨w.heap.size, 0, none⟩ = some (.int .i64 k) := fun o => dk0 (KA1.out.alloc o)
    have ka1 : ∀ o, (w1.alloc o).cell? ⟨w.heap.size, 1, none⟩ = some (.slice (some ⟨b1, o1, none⟩) n c) := fun o => dk1 (KA1.out.alloc o)
    go_wp2_with fail
    have HY : DiskIn ((w1.alloc (.cells #[.int .i64 no1, .slice a1 n1 c1, .int .i64 n1] 43)).alloc (.cells #[.int .i64 no1, .slice a1 n1 c1, .int .i64 n1] 43)) (some ⟨w1.heap.size + 1, 0, none⟩) 1 1 [⟨no1, a1, n1, c1, L1, n1⟩] := by
      have h1 := one_file (w := w1.alloc (.cells #[.int .i64 no1, .slice a1 n1 c1, .int .i64 n1] 43)) (no := no1) (a := a1) (n := n1) (c := c1) (B := L1) (s := n1) (FP.ok.below HOK.out ((Below.refl _ w1).alloc (Nat.le_refl _) _))
      rwa [World.size_alloc] at h1
    have XA := (X1.out.alloc X1.out.size (.cells #[.int .i64 no1, .slice a1 n1 c1, .int .i64 n1] 43))
    have XB := XA.alloc XA.size (.cells #[.int .i64 no1, .slice a1 n1 c1, .int .i64 n1] 43)
    have hsm : D.small (FP.files (xs.take j ++ [⟨no1, a1, n1, c1, L1, n1⟩] ++ xs.drop (j + 1))) := by
      rw [set_parts xs j _ HLT.out]
      refine small_set HS.out j _ ?_
      have h1 := HS.out.2 (FP.file ⟨no1, a1, n1, c1, L1, s1⟩) (List.mem_map.2 ⟨_, List.mem_of_getElem? HX.out, rfl⟩)
      exact h1
    refine (with_at k (some ⟨b1, o1, none⟩) n c j (j + 1) _ _ _ 1 1 xs [⟨no1, a1, n1, c1, L1, n1⟩] _ rfl (by simp) (HD.out.below (dbn_on XB)) HY (by omega) (by omega) (by omega) hsm).mono ?_
    rintro e w2 ⟨a3, n3, c3, zs, rfl, HD3, HF3, HX3, hb2⟩
    clear k0 k1 p0 p1 p2
    have XF := Lib.hid (Below.trans XB (hb2.mono (Below.size XB)))
    have KRF := Lib.hid ((dbn_res w k (some ⟨b1, o1, none⟩) n c).on XF.out)
    have hsz := dbn_lt XB
    have hfar : Far (w.heap.size + 1) a3 zs := HX3.out _ (by omega) trivial
    have hfb : ∀ b, b < w.heap.size → Far b a3 zs := fun b hb => HX3.out b (by omega) trivial
    have r0 := dk0 KRF.out
    have r1 := dk1 KRF.out
    have f0 := KRF.out.frozen 0
    have f1 := KRF.out.frozen 1
    clear hb2 hsz ka0 ka1 HY hsm
    go_wp2
    refine bodyPost_ret (ret_disk2 (x := .int .i64 0) (g := w.heap.size + 1) rfl k a3 n3 c3 (by kernel_rfl) (by kernel_rfl) KRF.out.put) (by kernel_rfl) ?_
    exact ⟨a3, n3, c3, zs, by rw [HU.out], Lib.hid ((HD3.out.set hfar 0 _).set hfar 1 _), Lib.hid (by rw [HF3.out, HU.out, set_parts xs j _ HLT.out, FP.files_at HX.out]; simp [FP.file, HOK.out.1]), Lib.hid fun b hb _ => hfb b hb, below_store (dbn_on XF.out) (Nat.le_succ _) _ _ _ _⟩
  · have HU : Hid (D.sync (k, FP.files xs) no = ((k, FP.files xs), e0)) := Lib.hid (by unfold D.sync; exact seek_bad HK.out he _)
    have hne : (e0 != 0) = true := by simpa using he
    clear he
    go_enter Try.func27, Try.ntmps27
    go_wp2_with fail
    refine (seek_any k a n c no xs _ _ (dbn w k a n c) (HD.out.below (dbn_on X0.out)) HK.out).mono ?_
    rintro e w1 ⟨rfl, hb1⟩
    have X1 := Lib.hid (X0.out.trans (hb1.mono X0.out.size))
    have KA1 := Lib.hid ((dbn_arg w k a n c).on X1.out)
    have KR1 := Lib.hid ((dbn_res w k a n c).on X1.out)
    clear hb1
    have k0 := dk0 KA1.out
    have k1 := dk1 KA1.out
    go_wp2_with fail
    refine (ownD_any k a n c xs w1 (HD.out.below (dbn_on X1.out)) HS.out).mono ?_
    rintro e w2 ⟨a3, n3, c3, zs, rfl, HD3, HF3, HX3, hb2⟩
    clear k0 k1
    have XF := Lib.hid (Below.trans X1.out (hb2.mono (Below.size X1.out)))
    have KRF := Lib.hid ((dbn_res w k a n c).on XF.out)
    have hsz := dbn_lt X1.out
    have hfar : Far (w.heap.size + 1) a3 zs := HX3.out _ (by omega) trivial
    have hfb : ∀ b, b < w.heap.size → Far b a3 zs := fun b hb => HX3.out b (by omega) trivial
    have r0 := dk0 KRF.out
    have r1 := dk1 KRF.out
    have f0 := KRF.out.frozen 0
    have f1 := KRF.out.frozen 1
    clear hb2 hsz
    go_wp2
    refine bodyPost_ret (ret_disk2 (x := .int .i64 e0) (g := w.heap.size + 1) rfl k a3 n3 c3 (by kernel_rfl) (by kernel_rfl) KRF.out.put) (by kernel_rfl) ?_
    exact ⟨a3, n3, c3, zs, by rw [HU.out], Lib.hid ((HD3.out.set hfar 0 _).set hfar 1 _), Lib.hid (by rw [HF3.out, HU.out]), Lib.hid fun b hb _ => hfb b hb, below_store (dbn_on XF.out) (Nat.le_succ _) _ _ _ _⟩

end Go.Proofs.Ytcabhibbajkpkaa
