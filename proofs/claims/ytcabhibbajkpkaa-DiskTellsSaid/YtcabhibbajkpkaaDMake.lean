/-
  Walk of moorings/disk.Make.
-/
import Derived.Test.YtcabhibbajkpkaaDSync
namespace Go.Proofs.Ytcabhibbajkpkaa
open Go.RowKit

set_option maxRecDepth 100000 in
set_option maxHeartbeats 400000 in
theorem make_any (k : Int) (a : Option Addr) (n c : Nat) (no : Int) (xs : List FP) (w : World) (hd : DiskIn w a n c xs) (hs : D.small (FP.files xs)) :
    Calls Try.prog 29 #[.agg #[.int .i64 k, .slice a n c], .int .i64 no] w (RetE any (D.make (k, FP.files xs) no) w) := by
  have HD := Lib.hid hd
  have HS := Lib.hid hs
  have hcap := hd.caps
  have hml : maxLen ≤ 9223372036854775807 := by decide
  have KA := Lib.hid (dbn_arg w k a n c)
  have KR := Lib.hid (dbn_res w k a n c)
  have X0 : Hid (Below (dbn w k a n c).heap.size (dbn w k a n c) (dbn w k a n c)) := Lib.hid (Below.refl _ _)
  have h14 : n ≤ 14 := by have h1 := hs.1; simp only [FP.files_len, hd.1] at h1; exact h1
  by_cases hm : D.may (k, FP.files xs)
  · have HM := Lib.hid (decide_eq_true hm)
    by_cases hn : 1 ≤ no ∧ no ≤ 1073741824
    · have HI := Lib.hid (decide_eq_true hn)
      obtain ⟨f, hff⟩ : ∃ f, D.find (k, FP.files xs) no = f := ⟨_, rfl⟩
      have HF := Lib.hid hff
      obtain ⟨bi, hbi⟩ : ∃ b, (D.idx (FP.files xs) no).isSome = b := ⟨_, rfl⟩
      have HFI := Lib.hid hbi
      have HFN : Hid ((bi = true ∧ 0 ≤ f) ∨ (bi = false ∧ f < 0)) := Lib.hid (by
        unfold D.find at hff
        rw [if_pos hm] at hff
        rw [← hbi]
        cases hi : D.idx (FP.files xs) no with
        | none => simp only [hi] at hff; exact .inr ⟨rfl, by omega⟩
        | some j => simp only [hi] at hff; exact .inl ⟨rfl, by omega⟩)
      clear hff hbi
      by_cases hf : bi = true
      · have HU : Hid (D.make (k, FP.files xs) no = ((k, FP.files xs), 11)) := Lib.hid (by
          unfold D.make
          rw [if_pos ⟨hm, hn⟩]
          simp only
          rw [HFI.out, if_pos hf])
        have d1 : decide (f < 0) = false := by rcases HFN.out with ⟨h1, h2⟩ | ⟨h1, h2⟩ <;> simp_all
        have d2 : decide (0 ≤ f) = true := by rcases HFN.out with ⟨h1, h2⟩ | ⟨h1, h2⟩ <;> simp_all
        clear hd hs hm hn hf
        go_enter Try.func29, Try.ntmps29
        go_wp2_with fail
        refine (may_any k a n c xs true (dbn w k a n c) (HD.out.below (dbn_on X0.out)) HM.out).mono ?_
        rintro e w1 ⟨rfl, hb1⟩
        have X1 := Lib.hid (X0.out.trans (hb1.mono X0.out.size))
        have KA1 := Lib.hid ((dbn_arg w k a n c).on X1.out)
        have KR1 := Lib.hid ((dbn_res w k a n c).on X1.out)
        clear hb1
        have k0 := dk0 KA1.out
        have k1 := dk1 KA1.out
        go_wp2_with fail
        refine (isNo_any no true _ HI.out).mono ?_
        rintro e w' ⟨rfl, rfl⟩
        go_wp2_with fail
        refine (find_any k a n c no xs f w1 (HD.out.below (dbn_on X1.out)) HF.out).mono ?_
        rintro e w2 ⟨rfl, hb2⟩
        have X2 := Lib.hid (X1.out.trans (hb2.mono X1.out.size))
        have KA2 := Lib.hid ((dbn_arg w k a n c).on X2.out)
        have KR2 := Lib.hid ((dbn_res w k a n c).on X2.out)
        clear hb2
        clear k0 k1
        have k0 := dk0 KA2.out
        have k1 := dk1 KA2.out
        go_wp2_with fail
        refine (ownD_any k a n c xs w2 (HD.out.below (dbn_on X2.out)) HS.out).mono ?_
        rintro e w3 ⟨a3, n3, c3, zs, rfl, HD3, HF3, HX3, hb3⟩
        clear k0 k1
        have XF := Lib.hid (Below.trans X2.out (hb3.mono (Below.size X2.out)))
        have KRF := Lib.hid ((dbn_res w k a n c).on XF.out)
        have hsz := dbn_lt X2.out
        have hfar : Far (w.heap.size + 1) a3 zs := HX3.out _ (by omega) trivial
        have hfb : ∀ b, b < w.heap.size → Far b a3 zs := fun b hb => HX3.out b (by omega) trivial
        have r0 := dk0 KRF.out
        have r1 := dk1 KRF.out
        have f0 := KRF.out.frozen 0
        have f1 := KRF.out.frozen 1
        clear hb3 hsz
        go_wp2
        refine bodyPost_ret (ret_disk2 (x := .int .i64 11) (g := w.heap.size + 1) rfl k a3 n3 c3 (by kernel_rfl) (by kernel_rfl) KRF.out.put) (by kernel_rfl) ?_
        exact ⟨a3, n3, c3, zs, by rw [HU.out], Lib.hid ((HD3.out.set hfar 0 _).set hfar 1 _), Lib.hid (by rw [HF3.out, HU.out]), Lib.hid fun b hb _ => hfb b hb, below_store (dbn_on XF.out) (Nat.le_succ _) _ _ _ _⟩
      · by_cases h12 : n = 12
        · have HU : Hid (D.make (k, FP.files xs) no = ((k, FP.files xs), 9)) := Lib.hid (by
            unfold D.make
            rw [if_pos ⟨hm, hn⟩]
            simp only
            rw [HFI.out, if_neg hf, if_pos (by rw [FP.files_len, HD.out.1, h12])])
          have d1 : decide (f < 0) = true := by rcases HFN.out with ⟨h1, h2⟩ | ⟨h1, h2⟩ <;> simp_all
          have d2 : decide (0 ≤ f) = false := by rcases HFN.out with ⟨h1, h2⟩ | ⟨h1, h2⟩ <;> simp_all
          have d3 : ((n : Int) == 12) = true := by simp; omega
          clear hd hs hm hn hf h12
          go_enter Try.func29, Try.ntmps29
          go_wp2_with fail
          refine (may_any k a n c xs true (dbn w k a n c) (HD.out.below (dbn_on X0.out)) HM.out).mono ?_
          rintro e w1 ⟨rfl, hb1⟩
          have X1 := Lib.hid (X0.out.trans (hb1.mono X0.out.size))
          have KA1 := Lib.hid ((dbn_arg w k a n c).on X1.out)
          have KR1 := Lib.hid ((dbn_res w k a n c).on X1.out)
          clear hb1
          have k0 := dk0 KA1.out
          have k1 := dk1 KA1.out
          go_wp2_with fail
          refine (isNo_any no true _ HI.out).mono ?_
          rintro e w' ⟨rfl, rfl⟩
          go_wp2_with fail
          refine (find_any k a n c no xs f w1 (HD.out.below (dbn_on X1.out)) HF.out).mono ?_
          rintro e w2 ⟨rfl, hb2⟩
          have X2 := Lib.hid (X1.out.trans (hb2.mono X1.out.size))
          have KA2 := Lib.hid ((dbn_arg w k a n c).on X2.out)
          have KR2 := Lib.hid ((dbn_res w k a n c).on X2.out)
          clear hb2
          clear k0 k1
          have k0 := dk0 KA2.out
          have k1 := dk1 KA2.out
          go_wp2_with fail
          refine (ownD_any k a n c xs w2 (HD.out.below (dbn_on X2.out)) HS.out).mono ?_
          rintro e w3 ⟨a3, n3, c3, zs, rfl, HD3, HF3, HX3, hb3⟩
          clear k0 k1
          have XF := Lib.hid (Below.trans X2.out (hb3.mono (Below.size X2.out)))
          have KRF := Lib.hid ((dbn_res w k a n c).on XF.out)
          have hsz := dbn_lt X2.out
          have hfar : Far (w.heap.size + 1) a3 zs := HX3.out _ (by omega) trivial
          have hfb : ∀ b, b < w.heap.size → Far b a3 zs := fun b hb => HX3.out b (by omega) trivial
          have r0 := dk0 KRF.out
          have r1 := dk1 KRF.out
          have f0 := KRF.out.frozen 0
          have f1 := KRF.out.frozen 1
          clear hb3 hsz
          go_wp2
          refine bodyPost_ret (ret_disk2 (x := .int .i64 9) (g := w.heap.size + 1) rfl k a3 n3 c3 (by kernel_rfl) (by kernel_rfl) KRF.out.put) (by kernel_rfl) ?_
          exact ⟨a3, n3, c3, zs, by rw [HU.out], Lib.hid ((HD3.out.set hfar 0 _).set hfar 1 _), Lib.hid (by rw [HF3.out, HU.out]), Lib.hid fun b hb _ => hfb b hb, below_store (dbn_on XF.out) (Nat.le_succ _) _ _ _ _⟩
        · have HU : Hid (D.make (k, FP.files xs) no = ((k, (FP.files xs).filter (fun f => decide (f.1 < no)) ++ (no, [], 0) :: (FP.files xs).filter (fun f => decide (no < f.1))), 0)) := Lib.hid (by
            unfold D.make
            rw [if_pos ⟨hm, hn⟩]
            simp only
            rw [HFI.out, if_neg hf, if_neg (by rw [FP.files_len, HD.out.1]; exact h12)])
          have HSO : Hid (D.sorted (FP.files xs)) := Lib.hid hm.2.2.1
          have hn12 : n ≤ 11 := by have h1 := hm.1.2.2; simp only [FP.files_len, HD.out.1] at h1; omega
          have HNI : Hid (D.idx (FP.files xs) no = none) := Lib.hid (by have h1 := HFI.out; cases hi : D.idx (FP.files xs) no with | none => rfl | some j => rw [hi] at h1; simp only [Option.isSome_some] at h1; exact absurd h1.symm hf)
          have d1 : decide (f < 0) = true := by rcases HFN.out with ⟨h1, h2⟩ | ⟨h1, h2⟩ <;> simp_all
          have d2 : decide (0 ≤ f) = false := by rcases HFN.out with ⟨h1, h2⟩ | ⟨h1, h2⟩ <;> simp_all
          have d3 : ((n : Int) == 12) = false := by simp; omega
          clear hd hs hm hn hf
          go_enter Try.func29, Try.ntmps29
          go_wp2_with fail
          refine (may_any k a n c xs true (dbn w k a n c) (HD.out.below (dbn_on X0.out)) HM.out).mono ?_
          rintro e w1 ⟨rfl, hb1⟩
          have X1 := Lib.hid (X0.out.trans (hb1.mono X0.out.size))
          have KA1 := Lib.hid ((dbn_arg w k a n c).on X1.out)
          have KR1 := Lib.hid ((dbn_res w k a n c).on X1.out)
          clear hb1
          have k0 := dk0 KA1.out
          have k1 := dk1 KA1.out
          go_wp2_with fail
          refine (isNo_any no true _ HI.out).mono ?_
          rintro e w' ⟨rfl, rfl⟩
          go_wp2_with fail
          refine (find_any k a n c no xs f w1 (HD.out.below (dbn_on X1.out)) HF.out).mono ?_
          rintro e w2 ⟨rfl, hb2⟩
          have X2 := Lib.hid (X1.out.trans (hb2.mono X1.out.size))
          have KA2 := Lib.hid ((dbn_arg w k a n c).on X2.out)
          have KR2 := Lib.hid ((dbn_res w k a n c).on X2.out)
          clear hb2
          clear k0 k1
          have k0 := dk0 KA2.out
          have k1 := dk1 KA2.out
          go_wp2_with fail
          refine (place_any a n c no xs w2 HSO.out (HD.out.below (dbn_on X2.out)) (by omega)).mono ?_
          rintro e w3 ⟨p, rfl, HP, hb3⟩
          have X3 := Lib.hid (X2.out.trans (hb3.mono X2.out.size))
          have KA3 := Lib.hid ((dbn_arg w k a n c).on X3.out)
          have KR3 := Lib.hid ((dbn_res w k a n c).on X3.out)
          clear hb3
          clear k0 k1
          have k0 := dk0 KA3.out
          have k1 := dk1 KA3.out
          have hpn : p ≤ n := by have h1 := HP.out.1; rw [FP.files_len, HD.out.1] at h1; exact h1
          go_wp2_with fail
          have HY : DiskIn (w3.alloc (.cells #[.int .i64 no, .slice none 0 0, .int .i64 0] 43)) (some ⟨w3.heap.size, 0, none⟩) 1 1 [⟨no, none, 0, 0, [], 0⟩] := one_file ⟨rfl, ⟨⟨by simp, by simp [maxLen]⟩, by simp, .inl rfl⟩, fun _ => ⟨rfl, rfl⟩⟩
          have XB := X3.out.alloc X3.out.size (.cells #[.int .i64 no, .slice none 0 0, .int .i64 0] 43)
          have hfs : FP.files (xs.take p ++ [⟨no, none, 0, 0, [], 0⟩] ++ xs.drop p) = (FP.files xs).filter (fun f => decide (f.1 < no)) ++ (no, [], 0) :: (FP.files xs).filter (fun f => decide (no < f.1)) := by
            obtain ⟨h1, h2⟩ := D.take_place HP.out HNI.out
            rw [h1, h2, FP.files_append, FP.files_append, FP.files_take, FP.files_drop]
            simp [FP.files, FP.file]
          have hsm : D.small (FP.files (xs.take p ++ [⟨no, none, 0, 0, [], 0⟩] ++ xs.drop p)) := by
            refine ⟨by have h1 := HD.out.1; rw [FP.files_len]; simp; omega, fun g hg => ?_⟩
            rw [FP.files_append, FP.files_append, FP.files_take, FP.files_drop] at hg
            rcases List.mem_append.1 hg with hg | hg
            · rcases List.mem_append.1 hg with hg | hg
              · exact HS.out.2 g (List.mem_of_mem_take hg)
              · simp [FP.files, FP.file] at hg; rw [hg]; simp
            · exact HS.out.2 g (List.mem_of_mem_drop hg)
          have HFS := Lib.hid hfs
          clear hfs
          refine (with_at k a n c p p _ _ _ 1 1 xs [⟨no, none, 0, 0, [], 0⟩] _ rfl rfl (HD.out.below (dbn_on XB)) HY hpn hpn (by omega) hsm).mono ?_
          rintro e w4 ⟨a3, n3, c3, zs, rfl, HD3, HF3, HX3, hb4⟩
          clear k0 k1
          have XF := Lib.hid (Below.trans XB (hb4.mono (Below.size XB)))
          have KRF := Lib.hid ((dbn_res w k a n c).on XF.out)
          have hsz := dbn_lt XB
          have hfar : Far (w.heap.size + 1) a3 zs := HX3.out _ (by omega) trivial
          have hfb : ∀ b, b < w.heap.size → Far b a3 zs := fun b hb => HX3.out b (by omega) trivial
          have r0 := dk0 KRF.out
          have r1 := dk1 KRF.out
          have f0 := KRF.out.frozen 0
          have f1 := KRF.out.frozen 1
          clear hb4 hsz HY hsm
          go_wp2
          refine bodyPost_ret (ret_disk2 (x := .int .i64 0) (g := w.heap.size + 1) rfl k a3 n3 c3 (by kernel_rfl) (by kernel_rfl) KRF.out.put) (by kernel_rfl) ?_
          exact ⟨a3, n3, c3, zs, by rw [HU.out], Lib.hid ((HD3.out.set hfar 0 _).set hfar 1 _), Lib.hid (by rw [HF3.out, HU.out]; exact HFS.out), Lib.hid fun b hb _ => hfb b hb, below_store (dbn_on XF.out) (Nat.le_succ _) _ _ _ _⟩
    · have HU : Hid (D.make (k, FP.files xs) no = ((k, FP.files xs), 1)) := Lib.hid (by unfold D.make; rw [if_neg (fun h => hn h.2)])
      have HI := Lib.hid (decide_eq_false hn)
      clear hd hs hm hn
      go_enter Try.func29, Try.ntmps29
      go_wp2_with fail
      refine (may_any k a n c xs true (dbn w k a n c) (HD.out.below (dbn_on X0.out)) HM.out).mono ?_
      rintro e w1 ⟨rfl, hb1⟩
      have X1 := Lib.hid (X0.out.trans (hb1.mono X0.out.size))
      have KA1 := Lib.hid ((dbn_arg w k a n c).on X1.out)
      have KR1 := Lib.hid ((dbn_res w k a n c).on X1.out)
      clear hb1
      have k0 := dk0 KA1.out
      have k1 := dk1 KA1.out
      go_wp2_with fail
      refine (isNo_any no false _ HI.out).mono ?_
      rintro e w' ⟨rfl, rfl⟩
      go_wp2_with fail
      refine (ownD_any k a n c xs w1 (HD.out.below (dbn_on X1.out)) HS.out).mono ?_
      rintro e w2 ⟨a3, n3, c3, zs, rfl, HD3, HF3, HX3, hb2⟩
      clear k0 k1
      have XF := Lib.hid (Below.trans X1.out (hb2.mono (Below.size X1.out)))
      have KRF := Lib.hid ((dbn_res w k a n c).on XF.out)
      have hsz := dbn_lt X1.out
      have hfar : Far (w.heap.size + 1) a3 zs := HX3.out _ (by omega) trivial
      have hfb : ∀ b, b < w.heap.size → Far b a3 zs := fun b hb => HX3.out b (by omega) trivial
      have r0 := dk0 KRF.out
      have r1 := dk1 KRF.out
      have f0 := KRF.out.frozen 0
      have f1 := KRF.out.frozen 1
      clear hb2 hsz
      go_wp2
      refine bodyPost_ret (ret_disk2 (x := .int .i64 1) (g := w.heap.size + 1) rfl k a3 n3 c3 (by kernel_rfl) (by kernel_rfl) KRF.out.put) (by kernel_rfl) ?_
      exact ⟨a3, n3, c3, zs, by rw [HU.out], Lib.hid ((HD3.out.set hfar 0 _).set hfar 1 _), Lib.hid (by rw [HF3.out, HU.out]), Lib.hid fun b hb _ => hfb b hb, below_store (dbn_on XF.out) (Nat.le_succ _) _ _ _ _⟩
  · have HU : Hid (D.make (k, FP.files xs) no = ((k, FP.files xs), 1)) := Lib.hid (by unfold D.make; rw [if_neg (fun h => hm h.1)])
    have HM := Lib.hid (decide_eq_false hm)
    clear hd hs hm
    go_enter Try.func29, Try.ntmps29
    go_wp2_with fail
    refine (may_any k a n c xs false (dbn w k a n c) (HD.out.below (dbn_on X0.out)) HM.out).mono ?_
    rintro e w1 ⟨rfl, hb1⟩
    have X1 := Lib.hid (X0.out.trans (hb1.mono X0.out.size))
    have KA1 := Lib.hid ((dbn_arg w k a n c).on X1.out)
    have KR1 := Lib.hid ((dbn_res w k a n c).on X1.out)
    clear hb1
    have k0 := dk0 KA1.out
    have k1 := dk1 KA1.out
    go_wp2_with fail
    refine (ownD_any k a n c xs w1 (HD.out.below (dbn_on X1.out)) HS.out).mono ?_
    rintro e w2 ⟨a3, n3, c3, zs, rfl, HD3, HF3, HX3, hb2⟩
    clear k0 k1
    have XF := Lib.hid (Below.trans X1.out (hb2.mono (Below.size X1.out)))
    have KRF := Lib.hid ((dbn_res w k a n c).on XF.out)
    have hsz := dbn_lt X1.out
    have hfar : Far (w.heap.size + 1) a3 zs := HX3.out _ (by omega) trivial
    have hfb : ∀ b, b < w.heap.size → Far b a3 zs := fun b hb => HX3.out b (by omega) trivial
    have r0 := dk0 KRF.out
    have r1 := dk1 KRF.out
    have f0 := KRF.out.frozen 0
    have f1 := KRF.out.frozen 1
    clear hb2 hsz
    go_wp2
    refine bodyPost_ret (ret_disk2 (x := .int .i64 1) (g := w.heap.size + 1) rfl k a3 n3 c3 (by kernel_rfl) (by kernel_rfl) KRF.out.put) (by kernel_rfl) ?_
    exact ⟨a3, n3, c3, zs, by rw [HU.out], Lib.hid ((HD3.out.set hfar 0 _).set hfar 1 _), Lib.hid (by rw [HF3.out, HU.out]), Lib.hid fun b hb _ => hfb b hb, below_store (dbn_on XF.out) (Nat.le_succ _) _ _ _ _⟩

end Go.Proofs.Ytcabhibbajkpkaa
