/-
  Walk of moorings/mooringslaw06.Do.
-/
import Derived.Test.YtcabhibbajkpkaaDHelp
namespace Go.Proofs.Ytcabhibbajkpkaa
open Go.RowKit

theorem D.upd_cap (d : D.T) (no : Int) (g : D.F → Int × D.F) : (D.upd d no g).1.1 = d.1 := by
  unfold D.upd; split
  · split
    · rfl
    · split <;> rfl
  · rfl
theorem D.make_cap (d : D.T) (no : Int) : (D.make d no).1.1 = d.1 := by
  unfold D.make; split
  · split
    · rfl
    · split <;> rfl
  · rfl
theorem D.write_cap (d : D.T) (no : Int) (b : List Int) : (D.write d no b).1.1 = d.1 := D.upd_cap d no _
theorem D.sync_cap (d : D.T) (no : Int) : (D.sync d no).1.1 = d.1 := D.upd_cap d no _
theorem D.cut_cap (d : D.T) (no n : Int) : (D.cut d no n).1.1 = d.1 := D.upd_cap d no _
theorem D.drop_cap (d : D.T) (no : Int) : (D.drop d no).1.1 = d.1 := by
  unfold D.drop; split
  · split <;> rfl
  · rfl
theorem D.crash_cap (d : D.T) (ps : List Int) : (D.crash d ps).1 = d.1 := by
  unfold D.crash; split <;> rfl

set_option maxRecDepth 100000 in
set_option maxHeartbeats 1000000 in
theorem do_any (k : Int) (a : Option Addr) (n c : Nat) (ok on oN : Int) (ad : Option Addr) (nd cd : Nat) (ap : Option Addr) (np cp : Nat) (xs : List FP) (bd ps : List Int) (w : World) (hd : DiskIn w a n c xs) (hs : D.small (FP.files xs)) (ho : OpIn w ad nd cd bd ap np cp ps) (hp9 : np ≤ 1000) :
    Calls Try.prog 13 #[.agg #[.int .i64 k, .slice a n c], .agg #[.int .i64 ok, .int .i64 on, .int .i64 oN, .slice ad nd cd, .slice ap np cp]] w (RetE (any) (D.op ok on oN bd ps (k, FP.files xs)) w) := by
  have HD := Lib.hid hd
  have HS := Lib.hid hs
  have HO := Lib.hid ho
  clear hd hs ho
  by_cases h0 : ok = 0
  · subst h0
    obtain ⟨⟨⟨q, l0⟩, e0⟩, hq⟩ : ∃ r, D.make (k, FP.files xs) on = r := ⟨_, rfl⟩
    have hqk : q = k := by have h1 := D.make_cap (k, FP.files xs) on; rw [hq] at h1; exact h1
    subst hqk
    have HU : Hid (D.op 0 on oN bd ps (q, FP.files xs) = ((q, l0), e0)) := Lib.hid (by rw [← hq]; rfl)
    have HQ := Lib.hid hq
    clear hq
    go_enter Try.func13, Try.ntmps13
    go_wp2_with fail
    refine (make_any q a n c on xs (dow w q a n c 0 on oN ad nd cd ap np cp) (HD.out.below (dow_below w q a n c 0 on oN ad nd cd ap np cp)) HS.out).mono ?_
    rw [HQ.out]
    rintro e w1 ⟨a3, n3, c3, zs, rfl, HD3, HF3, HX3, hb1⟩
    have B1 := Lib.hid ((dow_below w q a n c 0 on oN ad nd cd ap np cp).trans (hb1.mono (dow_below w q a n c 0 on oN ad nd cd ap np cp).size))
    have KX := Lib.hid ((dow_x w q a n c 0 on oN ad nd cd ap np cp).on hb1)
    have KR := Lib.hid ((dow_r w q a n c 0 on oN ad nd cd ap np cp).on hb1)
    have hsz := dow_size w q a n c 0 on oN ad nd cd ap np cp
    have FX : Far (w.heap.size + 3) a3 zs := HX3.out _ (by omega) (trivial)
    have FR : Far (w.heap.size + 2) a3 zs := HX3.out _ (by omega) (trivial)
    have FB : Hid (∀ b, b < w.heap.size → any b → Far b a3 zs) := Lib.hid (fun b hb hp => HX3.out b (by omega) hp)
    have x0 := dk0 KX.out
    have x1 := dk1 KX.out
    have y0 := KX.out.frozen 0
    have y1 := KX.out.frozen 1
    have hgr : w1.grownBy ((w1.setCell ⟨w.heap.size + 3, 0, none⟩ (.int .i64 q)).setCell ⟨w.heap.size + 3, 1, none⟩ (.slice a3 n3 c3)) (some (w.heap.size + 3)) := grown_two (setCell_grown _ _ _ _) (setCell_grown _ _ _ _)
    have KX2 : Blok ((w1.setCell ⟨w.heap.size + 3, 0, none⟩ (.int .i64 q)).setCell ⟨w.heap.size + 3, 1, none⟩ (.slice a3 n3 c3)) (w.heap.size + 3) 24 #[.int .i64 q, .slice a3 n3 c3] := by simpa using (KX.out.set 0 (.int .i64 q)).set 1 (.slice a3 n3 c3)
    have KR2 := Lib.hid (KR.out.grown hgr (by simp))
    have HD4 := Lib.hid ((HD3.out.set FX 0 (.int .i64 q)).set FX 1 (.slice a3 n3 c3))
    have B2 := Lib.hid (below_store B1.out (show w.heap.size ≤ w.heap.size + 3 by omega) 0 1 (.int .i64 q) (.slice a3 n3 c3))
    have z0 := dk0 KX2
    have z1 := dk1 KX2
    have r0 := dk0 KR2.out
    have r1 := dk1 KR2.out
    have f0 := KR2.out.frozen 0
    have f1 := KR2.out.frozen 1
    clear hb1 hgr KX2 hsz
    go_wp2
    refine bodyPost_ret (ret_disk2 (x := .int .i64 e0) (g := w.heap.size + 2) rfl q a3 n3 c3 (by kernel_rfl) (by kernel_rfl) KR2.out.put) (by kernel_rfl) ?_
    exact ⟨a3, n3, c3, zs, by rw [HU.out], Lib.hid ((HD4.out.set FR 0 _).set FR 1 _), Lib.hid (by rw [HF3.out, HU.out]), FB, below_store B2.out (by omega) _ _ _ _⟩
  · by_cases h1 : ok = 1
    · subst h1
      obtain ⟨⟨⟨q, l0⟩, e0⟩, hq⟩ : ∃ r, D.write (k, FP.files xs) on bd = r := ⟨_, rfl⟩
      have hqk : q = k := by have h1 := D.write_cap (k, FP.files xs) on bd; rw [hq] at h1; exact h1
      subst hqk
      have HU : Hid (D.op 1 on oN bd ps (q, FP.files xs) = ((q, l0), e0)) := Lib.hid (by rw [← hq]; rfl)
      have HQ := Lib.hid hq
      clear hq
      go_enter Try.func13, Try.ntmps13
      go_wp2_with fail
      refine (write_any q a n c on ad nd cd bd xs (dow w q a n c 1 on oN ad nd cd ap np cp) (HD.out.below (dow_below w q a n c 1 on oN ad nd cd ap np cp)) HS.out (HO.out.below (dow_below w q a n c 1 on oN ad nd cd ap np cp)).1.1 (HO.out.below (dow_below w q a n c 1 on oN ad nd cd ap np cp)).1.2.1 (HO.out.below (dow_below w q a n c 1 on oN ad nd cd ap np cp)).1.2.2).mono ?_
      rw [HQ.out]
      rintro e w1 ⟨a3, n3, c3, zs, rfl, HD3, HF3, HX3, hb1⟩
      have B1 := Lib.hid ((dow_below w q a n c 1 on oN ad nd cd ap np cp).trans (hb1.mono (dow_below w q a n c 1 on oN ad nd cd ap np cp).size))
      have KX := Lib.hid ((dow_x w q a n c 1 on oN ad nd cd ap np cp).on hb1)
      have KR := Lib.hid ((dow_r w q a n c 1 on oN ad nd cd ap np cp).on hb1)
      have hsz := dow_size w q a n c 1 on oN ad nd cd ap np cp
      have FX : Far (w.heap.size + 3) a3 zs := HX3.out _ (by omega) (trivial)
      have FR : Far (w.heap.size + 2) a3 zs := HX3.out _ (by omega) (trivial)
      have FB : Hid (∀ b, b < w.heap.size → any b → Far b a3 zs) := Lib.hid (fun b hb hp => HX3.out b (by omega) hp)
      have x0 := dk0 KX.out
      have x1 := dk1 KX.out
      have y0 := KX.out.frozen 0
      have y1 := KX.out.frozen 1
      have hgr : w1.grownBy ((w1.setCell ⟨w.heap.size + 3, 0, none⟩ (.int .i64 q)).setCell ⟨w.heap.size + 3, 1, none⟩ (.slice a3 n3 c3)) (some (w.heap.size + 3)) := grown_two (setCell_grown _ _ _ _) (setCell_grown _ _ _ _)
      have KX2 : Blok ((w1.setCell ⟨w.heap.size + 3, 0, none⟩ (.int .i64 q)).setCell ⟨w.heap.size + 3, 1, none⟩ (.slice a3 n3 c3)) (w.heap.size + 3) 24 #[.int .i64 q, .slice a3 n3 c3] := by simpa using (KX.out.set 0 (.int .i64 q)).set 1 (.slice a3 n3 c3)
      have KR2 := Lib.hid (KR.out.grown hgr (by simp))
      have HD4 := Lib.hid ((HD3.out.set FX 0 (.int .i64 q)).set FX 1 (.slice a3 n3 c3))
      have B2 := Lib.hid (below_store B1.out (show w.heap.size ≤ w.heap.size + 3 by omega) 0 1 (.int .i64 q) (.slice a3 n3 c3))
      have z0 := dk0 KX2
      have z1 := dk1 KX2
      have r0 := dk0 KR2.out
      have r1 := dk1 KR2.out
      have f0 := KR2.out.frozen 0
      have f1 := KR2.out.frozen 1
      clear hb1 hgr KX2 hsz
      go_wp2
      refine bodyPost_ret (ret_disk2 (x := .int .i64 e0) (g := w.heap.size + 2) rfl q a3 n3 c3 (by kernel_rfl) (by kernel_rfl) KR2.out.put) (by kernel_rfl) ?_
      exact ⟨a3, n3, c3, zs, by rw [HU.out], Lib.hid ((HD4.out.set FR 0 _).set FR 1 _), Lib.hid (by rw [HF3.out, HU.out]), FB, below_store B2.out (by omega) _ _ _ _⟩
    · by_cases h2 : ok = 2
      · subst h2
        obtain ⟨⟨⟨q, l0⟩, e0⟩, hq⟩ : ∃ r, D.sync (k, FP.files xs) on = r := ⟨_, rfl⟩
        have hqk : q = k := by have h1 := D.sync_cap (k, FP.files xs) on; rw [hq] at h1; exact h1
        subst hqk
        have HU : Hid (D.op 2 on oN bd ps (q, FP.files xs) = ((q, l0), e0)) := Lib.hid (by rw [← hq]; rfl)
        have HQ := Lib.hid hq
        clear hq
        go_enter Try.func13, Try.ntmps13
        go_wp2_with fail
        refine (sync_any q a n c on xs (dow w q a n c 2 on oN ad nd cd ap np cp) (HD.out.below (dow_below w q a n c 2 on oN ad nd cd ap np cp)) HS.out).mono ?_
        rw [HQ.out]
        rintro e w1 ⟨a3, n3, c3, zs, rfl, HD3, HF3, HX3, hb1⟩
        have B1 := Lib.hid ((dow_below w q a n c 2 on oN ad nd cd ap np cp).trans (hb1.mono (dow_below w q a n c 2 on oN ad nd cd ap np cp).size))
        have KX := Lib.hid ((dow_x w q a n c 2 on oN ad nd cd ap np cp).on hb1)
        have KR := Lib.hid ((dow_r w q a n c 2 on oN ad nd cd ap np cp).on hb1)
        have hsz := dow_size w q a n c 2 on oN ad nd cd ap np cp
        have FX : Far (w.heap.size + 3) a3 zs := HX3.out _ (by omega) (trivial)
        have FR : Far (w.heap.size + 2) a3 zs := HX3.out _ (by omega) (trivial)
        have FB : Hid (∀ b, b < w.heap.size → any b → Far b a3 zs) := Lib.hid (fun b hb hp => HX3.out b (by omega) hp)
        have x0 := dk0 KX.out
        have x1 := dk1 KX.out
        have y0 := KX.out.frozen 0
        have y1 := KX.out.frozen 1
        have hgr : w1.grownBy ((w1.setCell ⟨w.heap.size + 3, 0, none⟩ (.int .i64 q)).setCell ⟨w.heap.size + 3, 1, none⟩ (.slice a3 n3 c3)) (some (w.heap.size + 3)) := grown_two (setCell_grown _ _ _ _) (setCell_grown _ _ _ _)
        have KX2 : Blok ((w1.setCell ⟨w.heap.size + 3, 0, none⟩ (.int .i64 q)).setCell ⟨w.heap.size + 3, 1, none⟩ (.slice a3 n3 c3)) (w.heap.size + 3) 24 #[.int .i64 q, .slice a3 n3 c3] := by simpa using (KX.out.set 0 (.int .i64 q)).set 1 (.slice a3 n3 c3)
        have KR2 := Lib.hid (KR.out.grown hgr (by simp))
        have HD4 := Lib.hid ((HD3.out.set FX 0 (.int .i64 q)).set FX 1 (.slice a3 n3 c3))
        have B2 := Lib.hid (below_store B1.out (show w.heap.size ≤ w.heap.size + 3 by omega) 0 1 (.int .i64 q) (.slice a3 n3 c3))
        have z0 := dk0 KX2
        have z1 := dk1 KX2
        have r0 := dk0 KR2.out
        have r1 := dk1 KR2.out
        have f0 := KR2.out.frozen 0
        have f1 := KR2.out.frozen 1
        clear hb1 hgr KX2 hsz
        go_wp2
        refine bodyPost_ret (ret_disk2 (x := .int .i64 e0) (g := w.heap.size + 2) rfl q a3 n3 c3 (by kernel_rfl) (by kernel_rfl) KR2.out.put) (by kernel_rfl) ?_
        exact ⟨a3, n3, c3, zs, by rw [HU.out], Lib.hid ((HD4.out.set FR 0 _).set FR 1 _), Lib.hid (by rw [HF3.out, HU.out]), FB, below_store B2.out (by omega) _ _ _ _⟩
      · by_cases h3 : ok = 3
        · subst h3
          obtain ⟨⟨⟨q, l0⟩, e0⟩, hq⟩ : ∃ r, D.cut (k, FP.files xs) on oN = r := ⟨_, rfl⟩
          have hqk : q = k := by have h1 := D.cut_cap (k, FP.files xs) on oN; rw [hq] at h1; exact h1
          subst hqk
          have HU : Hid (D.op 3 on oN bd ps (q, FP.files xs) = ((q, l0), e0)) := Lib.hid (by rw [← hq]; rfl)
          have HQ := Lib.hid hq
          clear hq
          go_enter Try.func13, Try.ntmps13
          go_wp2_with fail
          refine (cut_any q a n c on oN xs (dow w q a n c 3 on oN ad nd cd ap np cp) (HD.out.below (dow_below w q a n c 3 on oN ad nd cd ap np cp)) HS.out).mono ?_
          rw [HQ.out]
          rintro e w1 ⟨a3, n3, c3, zs, rfl, HD3, HF3, HX3, hb1⟩
          have B1 := Lib.hid ((dow_below w q a n c 3 on oN ad nd cd ap np cp).trans (hb1.mono (dow_below w q a n c 3 on oN ad nd cd ap np cp).size))
          have KX := Lib.hid ((dow_x w q a n c 3 on oN ad nd cd ap np cp).on hb1)
          have KR := Lib.hid ((dow_r w q a n c 3 on oN ad nd cd ap np cp).on hb1)
          have hsz := dow_size w q a n c 3 on oN ad nd cd ap np cp
          have FX : Far (w.heap.size + 3) a3 zs := HX3.out _ (by omega) (trivial)
          have FR : Far (w.heap.size + 2) a3 zs := HX3.out _ (by omega) (trivial)
          have FB : Hid (∀ b, b < w.heap.size → any b → Far b a3 zs) := Lib.hid (fun b hb hp => HX3.out b (by omega) hp)
          have x0 := dk0 KX.out
          have x1 := dk1 KX.out
          have y0 := KX.out.frozen 0
          have y1 := KX.out.frozen 1
          have hgr : w1.grownBy ((w1.setCell ⟨w.heap.size + 3, 0, none⟩ (.int .i64 q)).setCell ⟨w.heap.size + 3, 1, none⟩ (.slice a3 n3 c3)) (some (w.heap.size + 3)) := grown_two (setCell_grown _ _ _ _) (setCell_grown _ _ _ _)
          have KX2 : Blok ((w1.setCell ⟨w.heap.size + 3, 0, none⟩ (.int .i64 q)).setCell ⟨w.heap.size + 3, 1, none⟩ (.slice a3 n3 c3)) (w.heap.size + 3) 24 #[.int .i64 q, .slice a3 n3 c3] := by simpa using (KX.out.set 0 (.int .i64 q)).set 1 (.slice a3 n3 c3)
          have KR2 := Lib.hid (KR.out.grown hgr (by simp))
          have HD4 := Lib.hid ((HD3.out.set FX 0 (.int .i64 q)).set FX 1 (.slice a3 n3 c3))
          have B2 := Lib.hid (below_store B1.out (show w.heap.size ≤ w.heap.size + 3 by omega) 0 1 (.int .i64 q) (.slice a3 n3 c3))
          have z0 := dk0 KX2
          have z1 := dk1 KX2
          have r0 := dk0 KR2.out
          have r1 := dk1 KR2.out
          have f0 := KR2.out.frozen 0
          have f1 := KR2.out.frozen 1
          clear hb1 hgr KX2 hsz
          go_wp2
          refine bodyPost_ret (ret_disk2 (x := .int .i64 e0) (g := w.heap.size + 2) rfl q a3 n3 c3 (by kernel_rfl) (by kernel_rfl) KR2.out.put) (by kernel_rfl) ?_
          exact ⟨a3, n3, c3, zs, by rw [HU.out], Lib.hid ((HD4.out.set FR 0 _).set FR 1 _), Lib.hid (by rw [HF3.out, HU.out]), FB, below_store B2.out (by omega) _ _ _ _⟩
        · by_cases h4 : ok = 4
          · subst h4
            obtain ⟨⟨⟨q, l0⟩, e0⟩, hq⟩ : ∃ r, D.drop (k, FP.files xs) on = r := ⟨_, rfl⟩
            have hqk : q = k := by have h1 := D.drop_cap (k, FP.files xs) on; rw [hq] at h1; exact h1
            subst hqk
            have HU : Hid (D.op 4 on oN bd ps (q, FP.files xs) = ((q, l0), e0)) := Lib.hid (by rw [← hq]; rfl)
            have HQ := Lib.hid hq
            clear hq
            go_enter Try.func13, Try.ntmps13
            go_wp2_with fail
            refine (drop_any q a n c on xs (dow w q a n c 4 on oN ad nd cd ap np cp) (HD.out.below (dow_below w q a n c 4 on oN ad nd cd ap np cp)) HS.out).mono ?_
            rw [HQ.out]
            rintro e w1 ⟨a3, n3, c3, zs, rfl, HD3, HF3, HX3, hb1⟩
            have B1 := Lib.hid ((dow_below w q a n c 4 on oN ad nd cd ap np cp).trans (hb1.mono (dow_below w q a n c 4 on oN ad nd cd ap np cp).size))
            have KX := Lib.hid ((dow_x w q a n c 4 on oN ad nd cd ap np cp).on hb1)
            have KR := Lib.hid ((dow_r w q a n c 4 on oN ad nd cd ap np cp).on hb1)
            have hsz := dow_size w q a n c 4 on oN ad nd cd ap np cp
            have FX : Far (w.heap.size + 3) a3 zs := HX3.out _ (by omega) (trivial)
            have FR : Far (w.heap.size + 2) a3 zs := HX3.out _ (by omega) (trivial)
            have FB : Hid (∀ b, b < w.heap.size → any b → Far b a3 zs) := Lib.hid (fun b hb hp => HX3.out b (by omega) hp)
            have x0 := dk0 KX.out
            have x1 := dk1 KX.out
            have y0 := KX.out.frozen 0
            have y1 := KX.out.frozen 1
            have hgr : w1.grownBy ((w1.setCell ⟨w.heap.size + 3, 0, none⟩ (.int .i64 q)).setCell ⟨w.heap.size + 3, 1, none⟩ (.slice a3 n3 c3)) (some (w.heap.size + 3)) := grown_two (setCell_grown _ _ _ _) (setCell_grown _ _ _ _)
            have KX2 : Blok ((w1.setCell ⟨w.heap.size + 3, 0, none⟩ (.int .i64 q)).setCell ⟨w.heap.size + 3, 1, none⟩ (.slice a3 n3 c3)) (w.heap.size + 3) 24 #[.int .i64 q, .slice a3 n3 c3] := by simpa using (KX.out.set 0 (.int .i64 q)).set 1 (.slice a3 n3 c3)
            have KR2 := Lib.hid (KR.out.grown hgr (by simp))
            have HD4 := Lib.hid ((HD3.out.set FX 0 (.int .i64 q)).set FX 1 (.slice a3 n3 c3))
            have B2 := Lib.hid (below_store B1.out (show w.heap.size ≤ w.heap.size + 3 by omega) 0 1 (.int .i64 q) (.slice a3 n3 c3))
            have z0 := dk0 KX2
            have z1 := dk1 KX2
            have r0 := dk0 KR2.out
            have r1 := dk1 KR2.out
            have f0 := KR2.out.frozen 0
            have f1 := KR2.out.frozen 1
            clear hb1 hgr KX2 hsz
            go_wp2
            refine bodyPost_ret (ret_disk2 (x := .int .i64 e0) (g := w.heap.size + 2) rfl q a3 n3 c3 (by kernel_rfl) (by kernel_rfl) KR2.out.put) (by kernel_rfl) ?_
            exact ⟨a3, n3, c3, zs, by rw [HU.out], Lib.hid ((HD4.out.set FR 0 _).set FR 1 _), Lib.hid (by rw [HF3.out, HU.out]), FB, below_store B2.out (by omega) _ _ _ _⟩
          · obtain ⟨⟨q, l0⟩, hq⟩ : ∃ r, D.crash (k, FP.files xs) ps = r := ⟨_, rfl⟩
            have hqk : q = k := by have h1 := D.crash_cap (k, FP.files xs) ps; rw [hq] at h1; exact h1
            subst hqk
            have HU : Hid (D.op ok on oN bd ps (q, FP.files xs) = ((q, l0), 0)) := Lib.hid (by unfold D.op; rw [if_neg h0, if_neg h1, if_neg h2, if_neg h3, if_neg h4, hq])
            have HQ := Lib.hid hq
            have e0 : (ok == 0) = false := by simpa using h0
            have e1 : (ok == 1) = false := by simpa using h1
            have e2 : (ok == 2) = false := by simpa using h2
            have e3 : (ok == 3) = false := by simpa using h3
            have e4 : (ok == 4) = false := by simpa using h4
            clear hq h0 h1 h2 h3 h4
            go_enter Try.func13, Try.ntmps13
            go_wp2_with fail
            refine (crash_any q a n c ap np cp xs ps (dow w q a n c ok on oN ad nd cd ap np cp) (HD.out.below (dow_below w q a n c ok on oN ad nd cd ap np cp)) HS.out (HO.out.below (dow_below w q a n c ok on oN ad nd cd ap np cp)).2.1 (HO.out.below (dow_below w q a n c ok on oN ad nd cd ap np cp)).2.2 hp9).mono ?_
            rw [HQ.out]
            rintro e w1 ⟨a3, n3, c3, zs, rfl, HD3, HF3, HX3, hb1⟩
            have B1 := Lib.hid ((dow_below w q a n c ok on oN ad nd cd ap np cp).trans (hb1.mono (dow_below w q a n c ok on oN ad nd cd ap np cp).size))
            have KX := Lib.hid ((dow_x w q a n c ok on oN ad nd cd ap np cp).on hb1)
            have KR := Lib.hid ((dow_r w q a n c ok on oN ad nd cd ap np cp).on hb1)
            have hsz := dow_size w q a n c ok on oN ad nd cd ap np cp
            have FX : Far (w.heap.size + 3) a3 zs := HX3.out _ (by omega) (trivial)
            have FR : Far (w.heap.size + 2) a3 zs := HX3.out _ (by omega) (trivial)
            have FB : Hid (∀ b, b < w.heap.size → any b → Far b a3 zs) := Lib.hid (fun b hb hp => HX3.out b (by omega) hp)
            have x0 := dk0 KX.out
            have x1 := dk1 KX.out
            have y0 := KX.out.frozen 0
            have y1 := KX.out.frozen 1
            have hgr : w1.grownBy ((w1.setCell ⟨w.heap.size + 3, 0, none⟩ (.int .i64 q)).setCell ⟨w.heap.size + 3, 1, none⟩ (.slice a3 n3 c3)) (some (w.heap.size + 3)) := grown_two (setCell_grown _ _ _ _) (setCell_grown _ _ _ _)
            have KX2 : Blok ((w1.setCell ⟨w.heap.size + 3, 0, none⟩ (.int .i64 q)).setCell ⟨w.heap.size + 3, 1, none⟩ (.slice a3 n3 c3)) (w.heap.size + 3) 24 #[.int .i64 q, .slice a3 n3 c3] := by simpa using (KX.out.set 0 (.int .i64 q)).set 1 (.slice a3 n3 c3)
            have KR2 := Lib.hid (KR.out.grown hgr (by simp))
            have HD4 := Lib.hid ((HD3.out.set FX 0 (.int .i64 q)).set FX 1 (.slice a3 n3 c3))
            have B2 := Lib.hid (below_store B1.out (show w.heap.size ≤ w.heap.size + 3 by omega) 0 1 (.int .i64 q) (.slice a3 n3 c3))
            have z0 := dk0 KX2
            have z1 := dk1 KX2
            have r0 := dk0 KR2.out
            have r1 := dk1 KR2.out
            have f0 := KR2.out.frozen 0
            have f1 := KR2.out.frozen 1
            clear hb1 hgr KX2 hsz
            go_wp2
            refine bodyPost_ret (ret_disk2 (x := .int .i64 0) (g := w.heap.size + 2) rfl q a3 n3 c3 (by kernel_rfl) (by kernel_rfl) KR2.out.put) (by kernel_rfl) ?_
            exact ⟨a3, n3, c3, zs, by rw [HU.out], Lib.hid ((HD4.out.set FR 0 _).set FR 1 _), Lib.hid (by rw [HF3.out, HU.out]), FB, below_store B2.out (by omega) _ _ _ _⟩

end Go.Proofs.Ytcabhibbajkpkaa
